import PyProof.Rows.All
import Wide.All
import OpenK.AllK
import Wide.FinOn
import Lean
import PyProof.EqAt
import PyProof.EqKinds
import PyProof.TupleCall
import PyProof.NeKinds
import PySem.Challenge.RW_pressluck_k17_no_pool_written
set_option Elab.async false
set_option linter.all false
set_option maxRecDepth 100000
/-! THE HAND LAYER, for ints, bools, texts, own classes, LISTS and tuples (index, slices, in, append, pop ..), calls, loops. Paste it whole ahead of your own text; what your proof does not reach may be deleted. -/
namespace L2
open PySem PySem.Spec PyProof.Rows

/-- a key: an int or a str -/
abbrev Key := Sum Int Str
def keyIs : Key → Value → Bool
  | .inl k, v => Value.isInt k v
  | .inr x, v => Value.isStrOf x v
def keyH (w : World) : Key → Int
  | .inl k => hashInt k
  | .inr x => hashStr w x
theorem keyIs_shape : ∀ {k : Key} {v : Value}, keyIs k v = true → (∃ i t, k = Sum.inl i ∧ v = Value.int i t) ∨ (∃ x t, k = Sum.inr x ∧ v = Value.str x t)
  | .inl i, v, h => by
    obtain ⟨t, e⟩ := Value.isInt_shape (k := i) (v := v) h
    exact .inl ⟨i, t, rfl, e⟩
  | .inr x, v, h => by
    obtain ⟨t, e⟩ := Value.isStrOf_shape (x := x) (v := v) h
    exact .inr ⟨x, t, rfl, e⟩
theorem keyIs_int (i : Int) (t : Tok) : keyIs (.inl i) (.int i t) = true := by simp [keyIs, Value.isInt]
theorem keyIs_str (x : Str) (t : Tok) : keyIs (.inr x) (.str x t) = true := by simp [keyIs, Value.isStrOf]
theorem key_ll (a b : Int) : decide ((Sum.inl a : Key) = Sum.inl b) = (a == b) := by
  by_cases e : a = b
  · subst e; simp
  · have h : ¬ (Sum.inl a : Key) = Sum.inl b := fun q => e (Sum.inl.inj q)
    rw [decide_eq_false h]
    exact (beq_eq_false_iff_ne.mpr e).symm
theorem key_rr (a b : Str) : decide ((Sum.inr a : Key) = Sum.inr b) = decide (a = b) := by
  by_cases e : a = b
  · subst e; simp
  · have h : ¬ (Sum.inr a : Key) = Sum.inr b := fun q => e (Sum.inr.inj q)
    rw [decide_eq_false h, decide_eq_false e]
theorem key_lr (a : Int) (b : Str) : decide ((Sum.inl a : Key) = Sum.inr b) = false := decide_eq_false (fun q => nomatch q)
theorem key_rl (a : Str) (b : Int) : decide ((Sum.inr a : Key) = Sum.inl b) = false := decide_eq_false (fun q => nomatch q)

def mixKind (prog : Program) (w : World) : PySem.KeyKind prog w Key where
  is := keyIs
  hash := keyH w
  inj := fun v a b ha hb => by
    rcases keyIs_shape ha with ⟨i, t, rfl, rfl⟩ | ⟨x, t, rfl, rfl⟩
    · rcases keyIs_shape hb with ⟨j, u, rfl, e⟩ | ⟨y, u, rfl, e⟩
      · injection e with e1 _; rw [e1]
      · exact nomatch e
    · rcases keyIs_shape hb with ⟨j, u, rfl, e⟩ | ⟨y, u, rfl, e⟩
      · exact nomatch e
      · injection e with e1 _; rw [e1]
  byValue := fun k v h => by
    rcases keyIs_shape h with ⟨i, t, rfl, rfl⟩ | ⟨x, t, rfl, rfl⟩ <;> rfl
  pyHash := fun hv h => by
    rcases keyIs_shape hv with ⟨i, t, rfl, rfl⟩ | ⟨x, t, rfl, rfl⟩
    · exact wpAny_pyHash_int h
    · exact wpAny_pyHash_str h
  eqBool := fun hu hv h => by
    rcases keyIs_shape hu with ⟨i, t, rfl, rfl⟩ | ⟨x, t, rfl, rfl⟩
    · rcases keyIs_shape hv with ⟨j, u, rfl, rfl⟩ | ⟨y, u, rfl, rfl⟩
      · rw [key_ll] at h; exact wpAny_eqBool_int h
      · rw [key_lr] at h; exact SeqAt.EqAt.int_str i t y u _ _ _ _ h
    · rcases keyIs_shape hv with ⟨j, u, rfl, rfl⟩ | ⟨y, u, rfl, rfl⟩
      · rw [key_rl] at h; exact SeqAt.EqAt.str_int x t j u _ _ _ _ h
      · rw [key_rr] at h; exact wpAny_eqBool_str h
  «strs» := fun k x t v h => by
    rcases keyIs_shape h with ⟨i, u, rfl, e⟩ | ⟨y, u, rfl, e⟩
    · exact nomatch e
    · injection e with e1 _
      subst e1
      cases v <;> rfl

theorem mixKind_int (prog : Program) (w : World) (i : Int) (t : Tok) : (mixKind prog w).is (.inl i) (.int i t) = true := keyIs_int i t
theorem mixKind_str (prog : Program) (w : World) (x : Str) (t : Tok) : (mixKind prog w).is (.inr x) (.str x t) = true := keyIs_str x t
end L2

namespace L2
open PySem PySem.Spec PyProof.Rows

/-- a value, without the heap -/
inductive V where
  | non | bl (b : Bool) | int (i : Int) | str (x : Str) | byt (b : Array UInt8) | flt (b : UInt64) | ref (a : Addr) | ty (n : String)
  deriving DecidableEq

def RelV : V → Value → Prop
  | .non, u => u = Value.none
  | .bl b, u => u = Value.bool b
  | .int i, u => ∃ t, u = Value.int i t
  | .str x, u => ∃ t, u = Value.str x t
  | .byt b, u => ∃ t, u = Value.bytes b t
  | .flt b, u => ∃ t, u = Value.float b t
  | .ref a, u => u = Value.ref a
  | .ty n, u => u = Value.type n

abbrev Vals : List V → List Value → Prop := Paired RelV
theorem Vals.length {xs : List V} {us : List Value} (r : Vals xs us) : xs.length = us.length := Paired.length r
theorem Vals.get : ∀ {xs : List V} {us : List Value} {i : Nat} {x : V}, Vals xs us → xs[i]? = some x → ∃ u, us[i]? = some u ∧ RelV x u
  | _, _, _, _, .nil, e => by simp at e
  | _, _, 0, _, .cons r _, e => by simp at e; subst e; exact ⟨_, rfl, r⟩
  | _, _, i + 1, x, .cons _ t, e => by
    obtain ⟨u, h1, h2⟩ := Vals.get (i := i) (x := x) t (by simpa using e)
    exact ⟨u, by simpa using h1, h2⟩
theorem Vals.set {x : V} {u : Value} (r : RelV x u) : ∀ {xs : List V} {us : List Value} (i : Nat), Vals xs us → Vals (xs.set i x) (us.set i u)
  | _, _, _, .nil => .nil
  | _, _, 0, .cons _ t => .cons r t
  | _, _, i + 1, .cons q t => .cons q (Vals.set r i t)
theorem Vals.append : ∀ {xs ys : List V} {us ws : List Value}, Vals xs us → Vals ys ws → Vals (xs ++ ys) (us ++ ws)
  | _, _, _, _, .nil, s => s
  | _, _, _, _, .cons r t, s => .cons r (Vals.append t s)
theorem Vals.take : ∀ {xs : List V} {us : List Value} (n : Nat), Vals xs us → Vals (xs.take n) (us.take n)
  | _, _, 0, _ => .nil
  | _, _, _ + 1, .nil => .nil
  | _, _, n + 1, .cons r t => .cons r (Vals.take n t)
theorem Vals.drop : ∀ {xs : List V} {us : List Value} (n : Nat), Vals xs us → Vals (xs.drop n) (us.drop n)
  | _, _, 0, r => r
  | _, _, _ + 1, .nil => .nil
  | _, _, n + 1, .cons _ t => Vals.drop n t
theorem Vals.none_of : ∀ {xs : List V} {us : List Value} {i : Nat}, Vals xs us → xs[i]? = none → us[i]? = none := fun {xs us i} r e => by
  have h1 := r.length
  have h2 : xs.length ≤ i := List.getElem?_eq_none_iff.mp e
  exact List.getElem?_eq_none_iff.mpr (by omega)

def RelO : Option V → Option Value → Prop
  | some v, some u => RelV v u
  | none, none => True
  | _, _ => False
def KV {κ : Type} : List (κ × V) → List (κ × Value) → Prop := Paired fun (p : κ × V) (q : κ × Value) => p.1 = q.1 ∧ RelV p.2 q.2

/-- a key of a dict (00_mix): an int or a text -/
def kV : Key → V
  | .inl i => .int i
  | .inr x => .str x

/-- what stands at a tracked address -/
inductive HO where
  /-- a list -/
  | lst (xs : List V)
  /-- a tuple (never changes) -/
  | tup (xs : List V)
  /-- a dict whose keys are ints and texts; one whose keys are tuples of ints and texts (the empty one is both) -/
  | dK (kvs : List (Key × V)) | dT (kvs : List (List Key × V))
  /-- a set of ints: its members, its size -/
  | set (S : Int → Bool) (n : Nat)
  /-- an instance of the class at C, its dict at dx, its attributes -/
  | ins (C dx : Addr) (fs : List (Str × V))
  /-- the dict of the instance at x -/
  | own (x : Addr)
  /-- the dict of an exception -/
  | xd (fs : List (Str × V))
  /-- a bound method, f of x -/
  | met (f x : Addr)
  /-- a range object lo, lo + 1, .. below hi -/
  | rng (lo hi : Int)
  /-- a thing that is known to the object (the script; a dict while a loop walks it): read, never written while it is so -/
  | frz (o : Obj) (u : HO)
  /-- a code object's table -/
  | tbl (ps : Array Value)
  /-- any other thing, by what is true of its one object (a def of one's own: SetO a S n := HO.ext fun h => ..) -/
  | ext (φ : Heap → Prop)

abbrev Hp := Addr → Option HO
def upd (H : Hp) (a : Addr) (o : HO) : Hp := fun b => if b = a then some o else H b
theorem upd_same {H : Hp} {a : Addr} {o : HO} : upd H a o a = some o := by unfold upd; rw [if_pos rfl]
theorem upd_ne {H : Hp} {a b : Addr} {o : HO} (h : b ≠ a) : upd H a o b = H b := by unfold upd; rw [if_neg h]
theorem ne_of_none {H : Hp} {a b : Addr} {o : HO} (h : H a = some o) (h' : H b = none) : a ≠ b := by
  intro e; subst e; rw [h] at h'; cases h'

section
variable (P : Program) (w : World)
def ObjOk (H : Hp) (h : Heap) (a : Addr) : HO → Prop
  | .lst xs => xs.length ≤ sizeLine ∧ ∃ (its : List Value) (n : Nat), Vals xs its ∧ h.get? a = some { cls := .type "list", data := .seq its.toArray n }
  | .tup xs => xs.length ≤ sizeLine ∧ ∃ its : List Value, Vals xs its ∧ IsTup h a its.toArray
  | .dK kvs => kvs.length ≤ sizeLine ∧ (a == sysModules) = false ∧ ∃ vs, KV kvs vs ∧ h.DictOf (mixKind P w) a vs
  | .dT kvs => kvs.length ≤ sizeLine ∧ (a == sysModules) = false ∧ ∃ xs : List (List Key × Addr × Value),
      Paired (fun (p : List Key × V) (q : List Key × Addr × Value) => p.1 = q.1 ∧ H q.2.1 = some (.tup (p.1.map kV)) ∧ RelV p.2 q.2.2) kvs xs ∧
      ∃ o es ep, h.get? a = some o ∧ o.ExactDict ∧ o.data = .dict es ep ∧ es.toList = xs.map (entryOfKey (tupleKind (mixKind P w))) ∧ (xs.map (·.1)).Nodup
  | .set S n => h.SetOf (intKind P w) a S n
  | .ins C dx fs => H dx = some (.own a) ∧ fs.length ≤ 1000 ∧ dx ≠ a ∧ h.get? a = some (PySem.W.instObj C dx) ∧
      ∃ mA, h.Ns1 dx mA ∧ (∀ f, RelO (fs.lookup f) (mA f)) ∧ PySem.Within mA (fs.map (·.1))
  | .own _ => ∃ o, h.get? a = some o
  | .xd fs => ∃ mA, h.Ns1 a mA ∧ ∀ f, RelO (fs.lookup f) (mA f)
  | .rng lo hi => ∃ t u v, h.get? a = some { cls := .type "range", data := .fields #[.int lo t, .int hi u, .int 1 v] }
  | .frz o u => h.get? a = some o ∧ ObjOk H h a u
  | .tbl ps => h.get? a = some { cls := .none, data := .fields ps }
  | .met f x => h.get? a = some (PySem.W.methodObj (.ref f) (.ref x))
  | .ext φ => φ h ∧ (∃ o, h.get? a = some o) ∧ ∀ h1 h2 : Heap, φ h1 → (∀ o, h1.get? a = some o → h2.get? a = some o) → φ h2
/-- the abstract heap is held -/
def HOk (H : Hp) (h : Heap) : Prop := ∀ a o, H a = some o → ObjOk P w H h a o
end

section
variable {P : Program} {w : World} {H H' : Hp} {h h' : Heap} {a : Addr} {o : HO}
theorem ObjOk.lt (x : ObjOk P w H h a o) : a < h.objs.size := by
  cases o with
  | lst xs => obtain ⟨_, _, _, _, e⟩ := x; exact Heap.lt_size e
  | tup xs => obtain ⟨_, _, _, p⟩ := x; exact p.lt
  | dK kvs => obtain ⟨_, _, _, _, o, _, _, e, _⟩ := x; exact Heap.lt_size e
  | dT kvs => obtain ⟨_, _, _, _, o, _, _, e, _⟩ := x; exact Heap.lt_size e
  | set S n => obtain ⟨o, _, _, _, e, _⟩ := x; exact Heap.lt_size e
  | ins C dx fs => obtain ⟨_, _, _, e, _⟩ := x; exact Heap.lt_size e
  | own y => obtain ⟨_, e⟩ := x; exact Heap.lt_size e
  | xd fs => obtain ⟨_, ⟨_, _, _, e, _⟩, _⟩ := x; exact Heap.lt_size e
  | rng lo hi => obtain ⟨_, _, _, e⟩ := x; exact Heap.lt_size e
  | frz ob u => obtain ⟨e, _⟩ := x; exact Heap.lt_size e
  | tbl ps => exact Heap.lt_size (show h.get? a = some _ from x)
  | met f y => exact Heap.lt_size (show h.get? a = some _ from x)
  | ext φ => obtain ⟨_, ⟨_, e⟩, _⟩ := x; exact Heap.lt_size e
theorem Paired.mapP {α β : Type} {F G : α → β → Prop} : ∀ {l₁ : List α} {l₂ : List β}, Paired F l₁ l₂ → (∀ a b, F a b → G a b) → Paired G l₁ l₂
  | _, _, .nil, _ => .nil
  | _, _, .cons r t, f => .cons (f _ _ r) (Paired.mapP t f)
/-- what an object's description leans on: its own object, its own dict, the tuples -/
theorem ObjOk.stay (x : ObjOk P w H h a o) (k : ∀ b u, (b = a ∨ H b = some (.own a)) → h.get? b = some u → h'.get? b = some u)
    (ho : ∀ b, H b = some (.own a) → H' b = some (.own a)) (ht : ∀ b xs, H b = some (.tup xs) → H' b = some (.tup xs)) : ObjOk P w H' h' a o := by
  induction o with
  | lst xs => obtain ⟨z, its, n, r, e⟩ := x; exact ⟨z, its, n, r, k _ _ (.inl rfl) e⟩
  | tup xs => obtain ⟨z, its, r, ob, e, c⟩ := x; exact ⟨z, its, r, ob, k _ _ (.inl rfl) e, c⟩
  | dK kvs => obtain ⟨z, y, vs, r, ob, es, ep, e, c⟩ := x; exact ⟨z, y, vs, r, ob, es, ep, k _ _ (.inl rfl) e, c⟩
  | dT kvs =>
    obtain ⟨z, y, xs, r, ob, es, ep, e, c⟩ := x
    exact ⟨z, y, xs, Paired.mapP r fun p q z => ⟨z.1, ht _ _ z.2.1, z.2.2⟩, ob, es, ep, k _ _ (.inl rfl) e, c⟩
  | set S n => obtain ⟨ob, es, ep, t, e, c⟩ := x; exact ⟨ob, es, ep, t, k _ _ (.inl rfl) e, c⟩
  | ins C dx fs =>
    obtain ⟨d, z, ne, e, mA, ⟨od, es, ep, e2, c⟩, r⟩ := x
    exact ⟨ho _ d, z, ne, k _ _ (.inl rfl) e, mA, ⟨od, es, ep, k _ _ (.inr d) e2, c⟩, r⟩
  | own y => obtain ⟨ob, e⟩ := x; exact ⟨ob, k _ _ (.inl rfl) e⟩
  | xd fs => obtain ⟨mA, ⟨od, es, ep, e, c⟩, r⟩ := x; exact ⟨mA, ⟨od, es, ep, k _ _ (.inl rfl) e, c⟩, r⟩
  | rng lo hi => obtain ⟨t, u, v, e⟩ := x; exact ⟨t, u, v, k _ _ (.inl rfl) e⟩
  | frz ob u ih => obtain ⟨e, q⟩ := x; exact ⟨k _ _ (.inl rfl) e, ih q⟩
  | tbl ps =>
    have e : h.get? a = some { cls := .none, data := .fields ps } := x
    show h'.get? a = some { cls := .none, data := .fields ps }
    exact k a _ (.inl rfl) e
  | met f y =>
    have e : h.get? a = some (PySem.W.methodObj (.ref f) (.ref y)) := x
    show h'.get? a = some (PySem.W.methodObj (.ref f) (.ref y))
    exact k a _ (.inl rfl) e
  | ext φ => obtain ⟨p, ⟨o, e⟩, st⟩ := x; exact ⟨st _ _ p fun o q => k _ _ (.inl rfl) q, ⟨o, k _ _ (.inl rfl) e⟩, st⟩
theorem HOk.lt (x : HOk P w H h) (e : H a = some o) : a < h.objs.size := (x a o e).lt
theorem HOk.fresh (x : HOk P w H h) (e : h.objs.size ≤ a) : H a = none := by
  cases q : H a with
  | none => rfl
  | some u => exact absurd (Nat.lt_of_lt_of_le (x.lt q) e) (Nat.lt_irrefl _)
/-- every object of the heap is kept -/
theorem HOk.kept (x : HOk P w H h) (k : ∀ b u, h.get? b = some u → h'.get? b = some u) : HOk P w H h' := fun a o e =>
  (x a o e).stay (fun b u _ q => k b u q) (fun _ q => q) fun _ _ q => q
/-- a new object is laid and tracked -/
theorem HOk.laid (x : HOk P w H h) (k : ∀ b u, h.get? b = some u → h'.get? b = some u) (hp : h.objs.size ≤ a) (new : ObjOk P w (upd H a o) h' a o) : HOk P w (upd H a o) h' := fun b u e => by
  have hn := x.fresh hp
  by_cases hb : b = a
  · subst hb; rw [upd_same] at e; cases e; exact new
  · rw [upd_ne hb] at e
    exact (x b u e).stay (fun c v _ q => k c v q) (fun c q => by rw [upd_ne (ne_of_none q hn)]; exact q) fun c xs q => by rw [upd_ne (ne_of_none q hn)]; exact q
end

/-- what may be read as u: it is u, or a known u -/
def Rd (H : Hp) (a : Addr) (u : HO) : Prop := H a = some u ∨ ∃ o, H a = some (.frz o u)
theorem Rd.of {H : Hp} {a : Addr} {u : HO} (h : H a = some u) : Rd H a u := .inl h
theorem Rd.ok {P : Program} {w : World} {H : Hp} {h : Heap} {a : Addr} {u : HO} (r : Rd H a u) (x : HOk P w H h) : ObjOk P w H h a u := by
  rcases r with r | ⟨o, r⟩
  · exact x a u r
  · obtain ⟨_, q⟩ := x a _ r
    exact q
/-- what may be written -/
def Mut : Option HO → Prop
  | some (.lst _) => True
  | some (.dK _) => True
  | some (.dT _) => True
  | some (.set _ _) => True
  | some (.ins _ _ _) => True
  | some (.ext _) => True
  | _ => False
section
variable {P : Program} {w : World} {H : Hp} {h h' : Heap} {x e : Addr} {o' : HO}
/-- the object at e is changed: x itself, or the dict of the instance x -/
theorem HOk.write (ok : HOk P w H h) (mu : Mut (H x)) (he : e = x ∨ H e = some (.own x)) (k : ∀ b u, b ≠ e → h.get? b = some u → h'.get? b = some u) (heo : ∃ u, h'.get? e = some u)
    (new : ObjOk P w (upd H x o') h' x o') : HOk P w (upd H x o') h' := fun b u q => by
  have nown : ∀ c y, H c = some (.own y) → c ≠ x := fun c y r z => by subst z; rw [r] at mu; exact mu
  have ntup : ∀ c xs, H c = some (.tup xs) → c ≠ x := fun c xs r z => by subst z; rw [r] at mu; exact mu
  by_cases hb : b = x
  · subst hb; rw [upd_same] at q; cases q; exact new
  · rw [upd_ne hb] at q
    by_cases hbe : b = e
    · have q' : H b = some (.own x) := by
        rcases he with z | z
        · exact absurd (hbe.trans z) hb
        · rw [hbe]; exact z
      rw [q] at q'; cases q'
      obtain ⟨v, hv⟩ := heo
      exact ⟨v, by rw [hbe]; exact hv⟩
    · refine (ok b u q).stay (fun c v hc r => k c v ?_ r) (fun c r => by rw [upd_ne (nown c b r)]; exact r) fun c xs r => by rw [upd_ne (ntup c xs r)]; exact r
      rcases hc with rfl | hc
      · exact hbe
      · rintro rfl
        rcases he with z | z
        · exact nown c b hc z
        · rw [hc] at z; cases z; exact hb rfl
end

/-! ### kept unless tracked; of the frames at fs (the callers') the slots may change (an exception that passes writes there); of the records at ex (iterators) nothing is said -/
structure Un (fs ex : List Addr) (H H' : Hp) (h h' : Heap) : Prop where
  keep : ∀ b o, h.get? b = some o → H b = none → b ∉ fs → b ∉ ex → h'.get? b = some o
  slot : ∀ b o, h.get? b = some o → H b = none → b ∈ fs → b ∉ ex → ∃ sl, h'.get? b = some { o with slots := sl }
  free : ∀ b o, h.get? b = some o → H b = none → b ∉ ex → H' b = none
  there : ∀ b o, h.get? b = some o → b ∉ ex → ∃ o', h'.get? b = some o'
  tups : ∀ b xs, H b = some (.tup xs) → H' b = some (.tup xs)
  frzs : ∀ b o u, H b = some (.frz o u) → H' b = some (.frz o u)
  tbls : ∀ b ps, H b = some (.tbl ps) → ∃ more, H' b = some (.tbl (ps ++ more))
section
variable {fs fs' ex ex' : List Addr} {H H1 H2 : Hp} {h h1 h2 h' : Heap} {a x e : Addr} {o : HO}
theorem Un.any (u : Un fs ex H H1 h h1) {b : Addr} {ob : Obj} (q : h.get? b = some ob) (n : H b = none) (hx : b ∉ ex) : ∃ sl, h1.get? b = some { ob with slots := sl } := by
  by_cases hb : b ∈ fs
  · exact u.slot b ob q n hb hx
  · exact ⟨ob.slots, u.keep b ob q n hb hx⟩
theorem Un.trans (a : Un fs ex H H1 h h1) (b : Un fs ex H1 H2 h1 h2) : Un fs ex H H2 h h2 where
  keep := fun c ob q n hc hx => b.keep c ob (a.keep c ob q n hc hx) (a.free c ob q n hx) hc hx
  slot := fun c ob q n hc hx => by
    obtain ⟨sl, e1⟩ := a.slot c ob q n hc hx
    obtain ⟨sl', e2⟩ := b.slot c _ e1 (a.free c ob q n hx) hc hx
    exact ⟨sl', e2⟩
  free := fun c ob q n hx => by
    obtain ⟨o', e1⟩ := a.there c ob q hx
    exact b.free c o' e1 (a.free c ob q n hx) hx
  there := fun c ob q hx => by
    obtain ⟨o', e1⟩ := a.there c ob q hx
    exact b.there c o' e1 hx
  tups := fun c xs q => b.tups c xs (a.tups c xs q)
  frzs := fun c ob xs q => b.frzs c ob xs (a.frzs c ob xs q)
  tbls := fun c ps q => by
    obtain ⟨m1, e1⟩ := a.tbls c ps q
    obtain ⟨m2, e2⟩ := b.tbls c _ e1
    exact ⟨m1 ++ m2, by rw [e2, Array.append_assoc]⟩
theorem Un.kept (k : ∀ b u, h.get? b = some u → h'.get? b = some u) : Un fs ex H H h h' :=
  ⟨fun b ob q _ _ _ => k b ob q, fun b ob q _ _ _ => ⟨ob.slots, k b ob q⟩, fun _ _ _ n _ => n, fun b ob q _ => ⟨ob, k b ob q⟩, fun _ _ q => q, fun _ _ _ q => q, fun _ ps q => ⟨#[], by rw [q]; simp⟩⟩
theorem Un.refl : Un fs ex H H h h := Un.kept fun _ _ q => q
theorem Un.laid (k : ∀ b u, h.get? b = some u → h'.get? b = some u) (hp : h.objs.size ≤ a) (hn : H a = none) : Un fs ex H (upd H a o) h h' where
  keep := fun b u q _ _ _ => k b u q
  slot := fun b u q _ _ _ => ⟨u.slots, k b u q⟩
  free := fun b u q n _ => by rw [upd_ne (Nat.ne_of_lt (Nat.lt_of_lt_of_le (Heap.lt_size q) hp))]; exact n
  there := fun b u q _ => ⟨u, k b u q⟩
  tups := fun b xs q => by rw [upd_ne (ne_of_none q hn)]; exact q
  frzs := fun b u xs q => by rw [upd_ne (ne_of_none q hn)]; exact q
  tbls := fun b ps q => ⟨#[], by rw [upd_ne (ne_of_none q hn), q]; simp⟩
theorem Un.write (mu : Mut (H x)) (he : e = x ∨ H e = some (.own x)) (k : ∀ b u, b ≠ e → h.get? b = some u → h'.get? b = some u) (heo : ∃ u, h'.get? e = some u) : Un fs ex H (upd H x o) h h' := by
  have hx : ∀ b, H b = none → b ≠ x := fun b n z => by subst z; rw [n] at mu; exact mu
  have hb : ∀ b, H b = none → b ≠ e := fun b n z => by
    subst z
    rcases he with r | r
    · exact hx b n r
    · rw [n] at r; cases r
  have hm : ∀ b u, H b = some u → ¬ Mut (some u) → b ≠ x := fun b u q nm z => by subst z; rw [q] at mu; exact nm mu
  refine ⟨fun b u q n _ _ => k b u (hb b n) q, fun b u q n _ _ => ⟨u.slots, k b u (hb b n) q⟩, fun b u q n _ => by rw [upd_ne (hx b n)]; exact n, fun b u q _ => ?_,
    fun b xs q => by rw [upd_ne (hm b _ q fun z => z)]; exact q, fun b u xs q => by rw [upd_ne (hm b _ q fun z => z)]; exact q, fun b ps q => ⟨#[], by rw [upd_ne (hm b _ q fun z => z), q]; simp⟩⟩
  by_cases hbe : b = e
  · subst hbe; exact heo
  · exact ⟨u, k b u hbe q⟩
theorem Un.mono (u : Un fs ex H H1 h h1) (hs : ∀ b ∈ fs, b ∈ fs') (hx : ∀ b ∈ ex, b ∈ ex') : Un fs' ex' H H1 h h1 :=
  ⟨fun b ob q n hb he => u.keep b ob q n (fun z => hb (hs b z)) fun z => he (hx b z), fun _ _ q n _ he => u.any q n fun z => he (hx _ z), fun b ob q n he => u.free b ob q n fun z => he (hx b z), fun b ob q he => u.there b ob q fun z => he (hx b z), u.tups, u.frzs, u.tbls⟩
end

/-! ### the heap without what is tracked -/
def trk (h : Heap) (H : Hp) : List Addr := (List.range h.objs.size).filter fun a => (H a).isSome
def hidT (h : Heap) (H : Hp) : Heap := PySem.W.hideAll h (trk h H)
theorem hidT_size (h : Heap) (H : Hp) : (hidT h H).objs.size = h.objs.size := PySem.W.hideAll_size _ _
theorem hidT_get {h : Heap} {H : Hp} {b : Addr} {o : Obj} (e : h.get? b = some o) (n : H b = none) : (hidT h H).get? b = some o :=
  PySem.W.hideAll_get _ e fun hm => by
    have q : (H b).isSome = true := (List.mem_filter.mp hm).2
    rw [n] at q; simp at q
theorem of_hidT {h : Heap} {H : Hp} {b : Addr} {o : Obj} (e : (hidT h H).get? b = some o) : h.get? b = some o ∧ H b = none := by
  have e' : h.get? b = some o := PySem.W.of_hideAll (trk h H) e
  refine ⟨e', ?_⟩
  cases q : H b with
  | none => rfl
  | some x =>
    have hm : b ∈ trk h H := List.mem_filter.mpr ⟨List.mem_range.mpr (Heap.lt_size e'), by simp [q]⟩
    have z : (hidT h H).get? b = none := PySem.W.hideAll_none (trk h H) hm
    rw [z] at e; cases e

/-! ### OpenK's ledger, filled with every new object but one -/
def allNews (g h : Heap) (L : Addr) : List (Addr × Obj) := (List.range h.objs.size).filterMap fun a => if a = L ∨ (g.get? a).isSome = true then none else (h.get? a).map fun o => (a, o)
def rest (g h : Heap) (L d : Addr) : List (Addr × Obj) := (allNews g h L).filter fun p => decide (p.1 ≠ d)
end L2

namespace L2
open PySem PySem.Spec PyProof.Rows

/-- the module's facts, over the base: the heap at the law's entry without what is tracked there -/
structure Mod (K : PySem.W.Frag) (mg : Str → Option Value) (base : Heap) : Prop where
  kin : K.In base
  glob : base.Ns mainGlobals mg
  blt : ∃ mb, base.Ns builtinsNs mb ∧ ∀ x : Str, x ≠ "__name__" → mb x = bootBuiltins x
  nolimit : base.NoLimit

/-- the context: a def's body (or a comprehension's block) running. base: fixed through the whole law; s₀, H₀: the entry; outer: the frames whose slots others may change (a def's callers); stack: all frames that run;
   ex: iterators that were made ahead of the entry and are walked here (a comprehension's); fn: the names whose cells were made at the entry (a def: all; a comprehension's block: its own); calm: not within an except suite; pn: pins that every state bears; xe: what is wanted of an exception that leaves the code -/
structure Cx where
  prog : Program
  w : World
  K : PySem.W.Frag
  mg : Str → Option Value
  base : Heap
  A : Around
  N : List Str
  s₀ : Shared
  H₀ : Hp
  env : Env
  outer : List Env
  stack : List Env
  ex : List Addr
  fn : Str → Bool
  calm : Bool
  pn : List (Addr × Obj)
  xe : Value → Shared → Prop
/-- the callers' frames -/
def frs (l : List Env) : List Addr := l.filterMap (·.frame)
abbrev Cx.fs (X : Cx) : List Addr := frs X.outer

def Vis (sc : Scope) (x : Str) : Prop := sc.names.lookup x = some .local ∨ sc.names.lookup x = some .cell ∨ sc.names.lookup x = some .free
def Loc (sc : Scope) (x : Str) : Prop := sc.names.lookup x = some .local ∨ sc.names.lookup x = some .cell
def Look (env : Env) (h : Heap) (m : Str → Option Value) (x : Str) (u : Value) : Prop :=
  (env.kindOf x = some .local ∧ m x = some u) ∨ ((env.kindOf x = some .cell ∨ env.kindOf x = some .free) ∧ ∃ c, env.cells.lookup x = some c ∧ h.IsCell c (some u))

structure Cx.Ok (X : Cx) : Prop where
  mod : Mod X.K X.mg X.base
  kind : X.env.scope.kind = .function
  glob : X.env.globals = mainGlobals
  blt : X.env.builtins = builtinsNs
  above : X.s₀.heap.objs.size ≤ X.env.locals
  inj : ∀ x y c, X.env.cells.lookup x = some c → X.env.cells.lookup y = some c → x = y
  has : ∀ x, (X.env.kindOf x = some .cell ∨ X.env.kindOf x = some .free) → ∃ c, X.env.cells.lookup x = some c
  cab : ∀ x c, X.fn x = true → X.env.cells.lookup x = some c → X.s₀.heap.objs.size ≤ c
  hd : X.calm = true → X.A.handled = none
  frames : X.A.frames = some X.stack
  stk : X.stack = X.outer ∨ (X.stack = X.env :: X.outer ∧ X.env.frame = some X.env.locals)
  exf : ∀ b ∈ X.ex, b ≠ X.env.locals ∧ ∀ x c, X.env.cells.lookup x = some c → c ≠ b
  bs : ∀ b o, X.base.get? b = some o → X.s₀.heap.get? b = some o ∧ X.H₀ b = none
  bsz : X.base.objs.size ≤ X.s₀.heap.objs.size
  noex : ∀ b o, X.base.get? b = some o → b ∉ X.ex
  exfs : ∀ b ∈ X.ex, b ∉ X.fs
  funs : X.s₀.heap.FunFrames X.base X.outer
  frf : ∀ b ∈ X.fs, X.H₀ b = none

structure Inv (X : Cx) (pins : List (Addr × Obj)) (σ : List (Option V)) (H : Hp) (s : Shared) : Prop where
  ok : X.Ok
  os : s.os = X.s₀.os
  bare : AllBare s.gens
  base : Un X.fs X.ex X.H₀ H X.s₀.heap s.heap
  loc : ∃ m, s.heap.Ns X.env.locals m ∧ ∀ (i : Nat) (x : Str) (v : V), X.N[i]? = some x → σ[i]? = some (some v) → Vis X.env.scope x → ∃ u, RelV v u ∧ Look X.env s.heap m x u
  cell : ∀ x c, X.env.cells.lookup x = some c → ∃ v, s.heap.IsCell c v
  free : H X.env.locals = none
  freeC : ∀ x c, X.env.cells.lookup x = some c → H c = none
  pin : ∀ p ∈ X.pn ++ pins, s.heap.get? p.1 = some p.2 ∧ H p.1 = none ∧ p.1 ≠ X.env.locals ∧ p.1 ∉ X.fs ∧ ∀ v, p.2.data ≠ .cell v
  hok : HOk X.prog X.w H s.heap
  len : σ.length = X.N.length

section
variable {X : Cx} {pins : List (Addr × Obj)} {σ : List (Option V)} {H H' : Hp} {s : Shared} {h' : Heap}

theorem Cx.Ok.nofr (ok : X.Ok) {b : Addr} {o : Obj} (e : X.base.get? b = some o) : b ∉ X.fs := fun hb => by
  have := (ok.funs.mem hb).1
  rw [e] at this; cases this
theorem Inv.bs (I : Inv X pins σ H s) : ∀ b o, X.base.get? b = some o → s.heap.get? b = some o ∧ H b = none := fun b o e =>
  ⟨I.base.keep b o (I.ok.bs b o e).1 (I.ok.bs b o e).2 (I.ok.nofr e) (I.ok.noex b o e), I.base.free b o (I.ok.bs b o e).1 (I.ok.bs b o e).2 (I.ok.noex b o e)⟩
theorem Inv.bk (I : Inv X pins σ H s) : ∀ b o, X.base.get? b = some o → s.heap.get? b = some o := fun b o e => (I.bs b o e).1
theorem Inv.mod (I : Inv X pins σ H s) : Mod X.K X.mg X.base := I.ok.mod
theorem Inv.kIn (I : Inv X pins σ H s) : X.K.In s.heap := I.ok.mod.kin.keeps I.bk
theorem Inv.nolimit (I : Inv X pins σ H s) : s.heap.NoLimit := I.ok.mod.nolimit.keeps I.bk
/-- the frame over the base: for OpenK's rules (K.In X.base is I.mod.kin) -/
theorem Inv.fr (I : Inv X pins σ H s) : ∃ m, Fr X.base X.env.locals s.heap m :=
  let ⟨m, hn, _⟩ := I.loc
  ⟨m, hn, I.bk, Nat.le_trans I.ok.bsz I.ok.above⟩
theorem Inv.lt (I : Inv X pins σ H s) : X.env.locals < s.heap.objs.size := let ⟨_, hn, _⟩ := I.loc; hn.lt
theorem Inv.sz (I : Inv X pins σ H s) : X.s₀.heap.objs.size ≤ s.heap.objs.size := Nat.le_trans I.ok.above (Nat.le_of_lt I.lt)
theorem Inv.nofs (I : Inv X pins σ H s) {a : Addr} (h : s.heap.objs.size ≤ a) : a ∉ X.fs := fun hb => by
  obtain ⟨_, o, ho, _⟩ := I.ok.funs.mem hb
  exact absurd (Nat.lt_of_lt_of_le (Heap.lt_size ho) (Nat.le_trans I.sz h)) (Nat.lt_irrefl _)
theorem Inv.cne (I : Inv X pins σ H s) : ∀ x c, X.env.cells.lookup x = some c → c ≠ X.env.locals := fun x c e z => by
  obtain ⟨v, o, ho, hd⟩ := I.cell x c e
  obtain ⟨m, ⟨o', es, ep, ho', hd', _⟩, _⟩ := I.loc
  rw [z, ho'] at ho; cases ho; rw [hd'] at hd; cases hd
theorem Inv.funs (I : Inv X pins σ H s) : s.heap.FunFrames X.base X.outer := by
  have all : ∀ (l : List Env), (∀ b ∈ frs l, b ∈ X.fs) → X.s₀.heap.FunFrames X.base l → s.heap.FunFrames X.base l := by
    intro l
    induction l with
    | nil => intro _ _; trivial
    | cons env r ih =>
      intro hs hl
      obtain ⟨hk, ⟨L, o, hf, hn, ho, hd⟩, hr⟩ := hl
      have hL : L ∈ X.fs := hs L (by unfold frs; rw [List.filterMap_cons, hf]; exact List.mem_cons_self)
      obtain ⟨sl, e⟩ := I.base.slot L o ho (I.ok.frf L hL) hL fun z => I.ok.exfs L z hL
      exact ⟨hk, ⟨L, _, hf, hn, e, hd⟩, ih (fun b hb => hs b (by unfold frs; rw [List.filterMap_cons, hf]; exact List.mem_cons_of_mem _ hb)) hr⟩
  exact all X.outer (fun _ hb => hb) I.ok.funs

/-- the frames that run, for a call -/
theorem Inv.stack (I : Inv X pins σ H s) : s.heap.FunFrames X.base X.stack := by
  rcases I.ok.stk with e | ⟨e, hf⟩
  · rw [e]; exact I.funs
  · rw [e]
    obtain ⟨m, hn, _⟩ := I.loc
    refine .cons (by rw [I.ok.kind]; decide) hf hn ?_ I.funs
    exact Heap.get?_none_of_le (Nat.le_trans I.ok.bsz I.ok.above)
theorem Inv.stkSub (I : Inv X pins σ H s) : ∀ b ∈ frs X.stack, b ∈ X.env.locals :: X.fs := fun b hb => by
  rcases I.ok.stk with e | ⟨e, hf⟩
  · rw [e] at hb; exact List.mem_cons_of_mem _ hb
  · rw [e] at hb
    unfold frs at hb
    rw [List.filterMap_cons, hf] at hb
    exact hb
theorem Inv.stkFree (I : Inv X pins σ H s) : ∀ b ∈ frs X.stack, H b = none := fun b hb => by
  rcases List.mem_cons.mp (I.stkSub b hb) with e | hb
  · rw [e]; exact I.free
  · obtain ⟨_, o, ho, _⟩ := I.ok.funs.mem hb
    exact I.base.free b o ho (I.ok.frf b hb) fun z => I.ok.exfs b z hb

/-- THE STEP: the untracked objects but the frame and the records at ch are kept (the callers' frames up to slots), the frame's map is kept, the new abstract heap is held -/
theorem Inv.step {g' : Array GenState} {t' : Nat} {d' : Drawn} {ch : List Addr} (I : Inv X pins σ H s)
    (hch : ∀ b ∈ ch, (b ∈ X.ex ∨ X.s₀.heap.objs.size ≤ b) ∧ b ≠ X.env.locals ∧ (∀ x c, X.env.cells.lookup x = some c → c ≠ b) ∧ ∀ p ∈ X.pn ++ pins, p.1 ≠ b)
    (keep : ∀ b o, b ≠ X.env.locals → b ∉ X.fs → b ∉ ch → s.heap.get? b = some o → H b = none → h'.get? b = some o)
    (slot : ∀ b o, b ≠ X.env.locals → b ∈ X.fs → b ∉ ch → s.heap.get? b = some o → H b = none → ∃ sl, h'.get? b = some { o with slots := sl }) (free : ∀ b o, b ∉ ch → s.heap.get? b = some o → H b = none → H' b = none)
    (there : ∀ b o, b ∉ ch → s.heap.get? b = some o → ∃ o', h'.get? b = some o')
    (tups : ∀ b xs, H b = some (.tup xs) → H' b = some (.tup xs)) (frzs : ∀ b o u, H b = some (.frz o u) → H' b = some (.frz o u)) (tbls : ∀ b ps, H b = some (.tbl ps) → ∃ more, H' b = some (.tbl (ps ++ more)))
    (ns : ∀ m, s.heap.Ns X.env.locals m → h'.Ns X.env.locals m) (hok : HOk X.prog X.w H' h') (hg : AllBare g') :
    Inv X pins σ H' { s with heap := h', gens := g', drawn := d', toks := t' } := by
  have neL : ∀ b o, X.s₀.heap.get? b = some o → b ≠ X.env.locals := fun b o e => Nat.ne_of_lt (Nat.lt_of_lt_of_le (Heap.lt_size e) I.ok.above)
  have neC : ∀ b o, X.s₀.heap.get? b = some o → b ∉ X.ex → b ∉ ch := fun b o e hx hb => by
    rcases (hch b hb).1 with z | z
    · exact hx z
    · exact absurd (Nat.lt_of_lt_of_le (Heap.lt_size e) z) (Nat.lt_irrefl _)
  have cellK : ∀ x c, X.env.cells.lookup x = some c → ∀ v, s.heap.IsCell c v → h'.IsCell c v := fun x c e v ⟨o, ho, hd⟩ => by
    have nch : c ∉ ch := fun z => (hch c z).2.2.1 x c e rfl
    by_cases hc : c ∈ X.fs
    · obtain ⟨sl, q⟩ := slot c o (I.cne x c e) hc nch ho (I.freeC x c e)
      exact ⟨_, q, hd⟩
    · exact ⟨o, keep c o (I.cne x c e) hc nch ho (I.freeC x c e), hd⟩
  refine ⟨I.ok, I.os, hg, ⟨fun b o e n hb hx => ?_, fun b o e n hb hx => ?_, fun b o e n hx => ?_, fun b o e hx => ?_, fun b xs e => tups b xs (I.base.tups b xs e), fun b o xs e => frzs b o xs (I.base.frzs b o xs e), fun b ps e => ?_⟩, ?_, fun x c e => ?_, ?_, fun x c e => ?_, fun p hp => ?_, hok, I.len⟩
  · exact keep b o (neL b o e) hb (neC b o e hx) (I.base.keep b o e n hb hx) (I.base.free b o e n hx)
  · obtain ⟨sl, e1⟩ := I.base.slot b o e n hb hx
    obtain ⟨sl', e2⟩ := slot b _ (neL b o e) hb (neC b o e hx) e1 (I.base.free b o e n hx)
    exact ⟨sl', e2⟩
  · obtain ⟨o', e1⟩ := I.base.there b o e hx
    exact free b o' (neC b o e hx) e1 (I.base.free b o e n hx)
  · obtain ⟨o', e1⟩ := I.base.there b o e hx
    exact there b o' (neC b o e hx) e1
  · obtain ⟨m1, e1⟩ := I.base.tbls b ps e
    obtain ⟨m2, e2⟩ := tbls b _ e1
    exact ⟨m1 ++ m2, by rw [e2, Array.append_assoc]⟩
  · obtain ⟨m, hn, hl⟩ := I.loc
    refine ⟨m, ns m hn, fun i x v e1 e2 e3 => ?_⟩
    obtain ⟨u, r, l⟩ := hl i x v e1 e2 e3
    refine ⟨u, r, ?_⟩
    rcases l with l | ⟨k, c, e, z⟩
    · exact .inl l
    · exact .inr ⟨k, c, e, cellK x c e _ z⟩
  · obtain ⟨v, z⟩ := I.cell x c e
    exact ⟨v, cellK x c e v z⟩
  · obtain ⟨m, ⟨o, _, _, ho, _⟩, _⟩ := I.loc
    exact free _ o (fun z => (hch _ z).2.1 rfl) ho I.free
  · obtain ⟨v, o, ho, hd⟩ := I.cell x c e
    exact free c o (fun z => (hch c z).2.2.1 x c e rfl) ho (I.freeC x c e)
  · obtain ⟨e, n, ne, nf, d⟩ := I.pin p hp
    have nch : p.1 ∉ ch := fun z => (hch p.1 z).2.2.2 p hp rfl
    exact ⟨keep p.1 p.2 ne nf nch e n, free p.1 p.2 nch e n, ne, nf, d⟩
/-- .. where the frame's own object is kept too -/
theorem Inv.un {t' : Nat} (I : Inv X pins σ H s) (u : Un X.fs [] H H' s.heap h') (hok : HOk X.prog X.w H' h') : Inv X pins σ H' { s with heap := h', toks := t' } := by
  obtain ⟨m, ⟨o, es, ep, ho, r⟩, _⟩ := id I.loc
  obtain ⟨sl, hL⟩ := u.any ho I.free (by simp)
  exact I.step (g' := s.gens) (d' := s.drawn) (ch := []) (fun _ z => nomatch z) (fun b o _ hb _ e n => u.keep b o e n hb (by simp)) (fun b o _ hb _ e n => u.slot b o e n hb (by simp)) (fun b o _ e n => u.free b o e n (by simp)) (fun b o _ e => u.there b o e (by simp)) u.tups u.frzs u.tbls (fun m' hm => by
    obtain ⟨o', es', ep', ho', r'⟩ := hm
    rw [ho] at ho'; cases ho'
    exact ⟨_, es', ep', hL, r'⟩) hok I.bare
/-- behind a call (or a comprehension's block): the slots of this frame may have changed too, the records at ch may have turned -/
theorem Inv.call {g' : Array GenState} {t' : Nat} {d' : Drawn} {ch : List Addr} (I : Inv X pins σ H s) (u : Un (frs X.stack) ch H H' s.heap h') (hok : HOk X.prog X.w H' h') (hg : AllBare g')
    (hch : ∀ b ∈ ch, (b ∈ X.ex ∨ X.s₀.heap.objs.size ≤ b) ∧ b ≠ X.env.locals ∧ (∀ x c, X.env.cells.lookup x = some c → c ≠ b) ∧ ∀ p ∈ X.pn ++ pins, p.1 ≠ b) :
    Inv X pins σ H' { s with heap := h', gens := g', drawn := d', toks := t' } := by
  obtain ⟨m, ⟨o, es, ep, ho, r⟩, _⟩ := id I.loc
  obtain ⟨sl, hL⟩ := u.any ho I.free fun z => (hch _ z).2.1 rfl
  exact I.step (ch := ch) hch (fun b o hL hb hc e n => u.keep b o e n (fun z => (List.mem_cons.mp (I.stkSub b z)).elim hL hb) hc) (fun b o _ _ hc e n => u.any e n hc) (fun b o hc e n => u.free b o e n hc) (fun b o hc e => u.there b o e hc) u.tups u.frzs u.tbls (fun m' hm => by
    obtain ⟨o', es', ep', ho', r'⟩ := hm
    rw [ho] at ho'; cases ho'
    exact ⟨_, es', ep', hL, r'⟩) hok hg
/-- an untracked record of ours (an iterator) has turned -/
theorem Inv.turned {t' : Nat} {it : Addr} (I : Inv X pins σ H s) (k : ∀ b o, b ≠ it → s.heap.get? b = some o → h'.get? b = some o) (hn : H it = none) (hL : it ≠ X.env.locals)
    (h1 : it ∈ X.ex ∨ X.s₀.heap.objs.size ≤ it) (h2 : ∀ x c, X.env.cells.lookup x = some c → c ≠ it) (h3 : ∀ p ∈ X.pn ++ pins, p.1 ≠ it) : Inv X pins σ H { s with heap := h', toks := t' } := by
  have nit : ∀ b u, H b = some u → b ≠ it := fun b u e z => by rw [z, hn] at e; cases e
  refine I.step (g' := s.gens) (d' := s.drawn) (ch := [it]) (fun b hb => ?_) (fun b o _ _ hc e _ => k b o (fun z => hc (by simp [z])) e) (fun b o _ _ hc e _ => ⟨o.slots, k b o (fun z => hc (by simp [z])) e⟩) (fun _ _ _ _ n => n)
    (fun b o hc e => ⟨o, k b o (fun z => hc (by simp [z])) e⟩) (fun _ _ e => e) (fun _ _ _ e => e) (fun b ps e => ⟨#[], by rw [e]; simp⟩) (fun m hm => ?_) (fun b u e => ?_) I.bare
  · have e : b = it := by simpa using hb
    subst e
    exact ⟨h1, hL, h2, h3⟩
  · obtain ⟨o, es, ep, ho, r⟩ := hm
    exact ⟨o, es, ep, k _ o (Ne.symm hL) ho, r⟩
  · refine (I.hok b u e).stay (fun c v hc q => k c v ?_ q) (fun _ q => q) fun _ _ q => q
    rcases hc with z | z
    · rw [z]; exact nit b u e
    · exact nit c _ z
theorem Inv.tok (I : Inv X pins σ H s) (t : Nat) : Inv X pins σ H { s with toks := t } := I.un (h' := s.heap) (t' := t) Un.refl I.hok
/-- all objects kept -/
theorem Inv.kept {t' : Nat} (I : Inv X pins σ H s) (k : ∀ b u, s.heap.get? b = some u → h'.get? b = some u) : Inv X pins σ H { s with heap := h', toks := t' } := I.un (Un.kept k) (I.hok.kept k)
/-- a new object laid and tracked -/
theorem Inv.laid {a : Addr} {o : HO} {t' : Nat} (I : Inv X pins σ H s) (k : ∀ b u, s.heap.get? b = some u → h'.get? b = some u) (hp : s.heap.objs.size ≤ a) (new : ObjOk X.prog X.w (upd H a o) h' a o) :
    Inv X pins σ (upd H a o) { s with heap := h', toks := t' } := I.un (Un.laid k hp (I.hok.fresh hp)) (I.hok.laid k hp new)
/-- an object written -/
theorem Inv.write {x e : Addr} {o : HO} {t' : Nat} (I : Inv X pins σ H s) (mu : Mut (H x)) (he : e = x ∨ H e = some (.own x)) (k : ∀ b u, b ≠ e → s.heap.get? b = some u → h'.get? b = some u) (heo : ∃ u, h'.get? e = some u)
    (new : ObjOk X.prog X.w (upd H x o) h' x o) : Inv X pins σ (upd H x o) { s with heap := h', toks := t' } := I.un (Un.write mu he k heo) (I.hok.write mu he k heo new)
theorem Inv.pins_of {pins' : List (Addr × Obj)} (I : Inv X pins σ H s) (h : ∀ p ∈ pins', s.heap.get? p.1 = some p.2 ∧ H p.1 = none ∧ p.1 ≠ X.env.locals ∧ p.1 ∉ X.fs ∧ ∀ v, p.2.data ≠ .cell v) : Inv X pins' σ H s :=
  ⟨I.ok, I.os, I.bare, I.base, I.loc, I.cell, I.free, I.freeC, fun p hp => (List.mem_append.mp hp).elim (fun z => I.pin p (List.mem_append_left _ z)) (h p), I.hok, I.len⟩

theorem nodup_ix {N : List Str} (hN : N.Nodup) {i j : Nat} {x : Str} (a : N[i]? = some x) (b : N[j]? = some x) : i = j := by
  obtain ⟨h1, e1⟩ := List.getElem?_eq_some_iff.mp a
  obtain ⟨h2, e2⟩ := List.getElem?_eq_some_iff.mp b
  exact (List.getElem_inj hN).mp (e1.trans e2.symm)

/-- a name is stored; what changed -/
theorem store_ok2 {M : Model} {A : Around} {E : Value → Shared → Prop} {i : Nat} {x : Str} {v : V} {u : Value} {Q : Unit → Shared → Prop} (I : Inv X pins σ H s) (hN : X.N.Nodup) (hi : X.N[i]? = some x) (hx : Loc X.env.scope x) (r : RelV v u)
    (h : ∀ s', Inv X pins (σ.set i (some v)) H s' → (∃ a, Heap.SameBut a s.heap s'.heap ∧ (a = X.env.locals ∨ X.env.cells.lookup x = some a)) → Q () s') (hf : X.fn x = true ∨ X.env.scope.names.lookup x = some .local := by first | exact .inl rfl | exact .inr rfl | assumption) : wpAny M A (storeName X.env x u) Q E s := by
  obtain ⟨m, hn, hl⟩ := id I.loc
  have hcls : (X.env.scope.kind == .class || (X.env.scope.kind == .module && X.env.locals != X.env.globals)) = false := by rw [I.ok.kind]; rfl
  have hiσ : i < σ.length := by rw [I.len]; exact (List.getElem?_eq_some_iff.mp hi).1
  have cne := I.cne
  have tracked : ∀ {a : Addr} {h' : Heap}, (∃ o, s.heap.get? a = some o ∧ H a = none) → Heap.SameBut a s.heap h' → HOk X.prog X.w H h' := fun {a h'} ha hs b ob e => by
    obtain ⟨_, _, hfree⟩ := ha
    refine (I.hok b ob e).stay (fun c w' hc q => (hs.2 c ?_).trans q) (fun _ q => q) fun _ _ q => q
    rintro rfl
    rcases hc with rfl | hc
    · rw [hfree] at e; cases e
    · rw [hfree] at hc; cases hc
  rcases hx with hk | hk
  · refine wpAny_storeName_local hk hn (fun h' hn' hs => ?_) hcls
    obtain ⟨oL, _, _, hoL, _⟩ := id hn
    refine h _ ⟨I.ok, I.os, I.bare, ⟨fun b o e n hb hx => ?_, fun b o e n hb hx => ?_, I.base.free, fun b o e hx => ?_, I.base.tups, I.base.frzs, I.base.tbls⟩, ⟨_, hn', fun j y v' e1 e2 e3 => ?_⟩, fun y c e => ?_, I.free, I.freeC, fun p hp => ?_, tracked ⟨oL, hoL, I.free⟩ hs, by simpa using I.len⟩ ⟨_, hs, .inl rfl⟩
    · exact (hs.2 b (Nat.ne_of_lt (Nat.lt_of_lt_of_le (Heap.lt_size e) I.ok.above))).trans (I.base.keep b o e n hb hx)
    · obtain ⟨sl, e1⟩ := I.base.slot b o e n hb hx
      exact ⟨sl, (hs.2 b (Nat.ne_of_lt (Nat.lt_of_lt_of_le (Heap.lt_size e) I.ok.above))).trans e1⟩
    · obtain ⟨o', e1⟩ := I.base.there b o e hx
      exact ⟨o', (hs.2 b (Nat.ne_of_lt (Nat.lt_of_lt_of_le (Heap.lt_size e) I.ok.above))).trans e1⟩
    · by_cases hj : j = i
      · subst hj
        rw [hi] at e1; cases e1
        rw [List.getElem?_set_self hiσ] at e2
        cases e2
        exact ⟨u, r, .inl ⟨hk, by simp⟩⟩
      · rw [List.getElem?_set_ne (Ne.symm hj)] at e2
        obtain ⟨u', r', q⟩ := hl j y v' e1 e2 e3
        refine ⟨u', r', ?_⟩
        rcases q with ⟨k, e⟩ | ⟨k, c, e, z⟩
        · refine .inl ⟨k, ?_⟩
          have : y ≠ x := fun e => hj (nodup_ix hN e1 (e ▸ hi))
          simp [this, e]
        · exact .inr ⟨k, c, e, z.sameBut hs (cne y c e)⟩
    · obtain ⟨w', z⟩ := I.cell y c e
      exact ⟨w', z.sameBut hs (cne y c e)⟩
    · obtain ⟨e, n, ne, nf, d⟩ := I.pin p hp
      exact ⟨(hs.2 p.1 ne).trans e, n, ne, nf, d⟩
  · have hfn : X.fn x = true := by
      rcases hf with z | z
      · exact z
      · rw [z] at hk; cases hk
    obtain ⟨c, hc⟩ := I.ok.has x (.inl hk)
    obtain ⟨w', z⟩ := I.cell x c hc
    refine wpAny_storeName_cell I.ok.kind hk hc z (fun h' hc' hs => ?_)
    obtain ⟨oc, hoc, hocd⟩ := id z
    refine h { s with heap := h' } ⟨I.ok, I.os, I.bare, ⟨fun b o e n hb hx => ?_, fun b o e n hb hx => ?_, I.base.free, fun b o e hx => ?_, I.base.tups, I.base.frzs, I.base.tbls⟩, ⟨m, hn.sameBut hs (Ne.symm (cne x c hc)), fun j y v' e1 e2 e3 => ?_⟩, fun y c' e => ?_, I.free, I.freeC, fun p hp => ?_, tracked ⟨oc, hoc, I.freeC x c hc⟩ hs, by simpa using I.len⟩ ⟨c, hs, .inr hc⟩
    · exact (hs.2 b (Nat.ne_of_lt (Nat.lt_of_lt_of_le (Heap.lt_size e) (I.ok.cab x c hfn hc)))).trans (I.base.keep b o e n hb hx)
    · obtain ⟨sl, e1⟩ := I.base.slot b o e n hb hx
      exact ⟨sl, (hs.2 b (Nat.ne_of_lt (Nat.lt_of_lt_of_le (Heap.lt_size e) (I.ok.cab x c hfn hc)))).trans e1⟩
    · obtain ⟨o', e1⟩ := I.base.there b o e hx
      exact ⟨o', (hs.2 b (Nat.ne_of_lt (Nat.lt_of_lt_of_le (Heap.lt_size e) (I.ok.cab x c hfn hc)))).trans e1⟩
    · by_cases hj : j = i
      · subst hj
        rw [hi] at e1; cases e1
        rw [List.getElem?_set_self hiσ] at e2
        cases e2
        exact ⟨u, r, .inr ⟨.inl hk, c, hc, hc'⟩⟩
      · rw [List.getElem?_set_ne (Ne.symm hj)] at e2
        obtain ⟨u', r', q⟩ := hl j y v' e1 e2 e3
        refine ⟨u', r', ?_⟩
        rcases q with q | ⟨k, c', e, z'⟩
        · exact .inl q
        · refine .inr ⟨k, c', e, z'.sameBut hs ?_⟩
          rintro rfl
          exact hj (nodup_ix hN e1 (I.ok.inj _ _ _ e hc ▸ hi))
    · by_cases hcc : c' = c
      · subst hcc; exact ⟨_, hc'⟩
      · obtain ⟨w2, z2⟩ := I.cell y c' e
        exact ⟨w2, z2.sameBut hs hcc⟩
    · obtain ⟨e, n, ne, nf, d⟩ := I.pin p hp
      refine ⟨(hs.2 p.1 ?_).trans e, n, ne, nf, d⟩
      intro q
      rw [q, hoc] at e
      have q' : oc = p.2 := Option.some.inj e
      exact d w' (by rw [← q']; exact hocd)
theorem store_ok {M : Model} {A : Around} {E : Value → Shared → Prop} {i : Nat} {x : Str} {v : V} {u : Value} {Q : Unit → Shared → Prop} (I : Inv X pins σ H s) (hN : X.N.Nodup) (hi : X.N[i]? = some x) (hx : Loc X.env.scope x) (r : RelV v u)
    (h : ∀ s', Inv X pins (σ.set i (some v)) H s' → Q () s') (hf : X.fn x = true ∨ X.env.scope.names.lookup x = some .local := by first | exact .inl rfl | exact .inr rfl | assumption) : wpAny M A (storeName X.env x u) Q E s :=
  store_ok2 I hN hi hx r (fun s' I' _ => h s' I') hf
/-- behind a call or a block, the state as it is -/
theorem Inv.call' {s' : Shared} {ch : List Addr} (I : Inv X pins σ H s) (ho : s'.os = s.os) (u : Un (frs X.stack) ch H H' s.heap s'.heap) (hok : HOk X.prog X.w H' s'.heap) (hg : AllBare s'.gens)
    (hch : ∀ b ∈ ch, (b ∈ X.ex ∨ X.s₀.heap.objs.size ≤ b) ∧ b ≠ X.env.locals ∧ (∀ x c, X.env.cells.lookup x = some c → c ≠ b) ∧ ∀ p ∈ X.pn ++ pins, p.1 ≠ b) : Inv X pins σ H' s' := by
  obtain ⟨h', g', d', t', o'⟩ := s'
  have e : o' = s.os := ho
  subst e
  exact I.call (g' := g') (t' := t') (d' := d') u hok hg hch
end

/-! ### the judgements -/
/-- an exception: its class, its own dict's address (where it has one), the abstract heap behind it -/
abbrev XK := Value → Option Addr → Hp → Prop
abbrev St := List (Option V)
abbrev VK := V → Hp → Prop
/-- an expression's reading; a test's; an argument list's -/
abbrev TE := St → Hp → VK → Prop
abbrev TT := St → Hp → (Bool → Hp → Prop) → Prop
abbrev TA := St → Hp → (List V → Hp → Prop) → Prop
/-- what is wanted behind a statement -/
structure Ends where
  nx : St → Hp → Prop
  rt : VK
  bk : St → Hp → Prop := fun _ _ => False
  ct : St → Hp → Prop := fun _ _ => False
abbrev TS := Ends → St → Hp → Prop

def EP (X : Cx) (pins : List (Addr × Obj)) (σ : St) (Q : VK) (u : Value) (s' : Shared) : Prop := ∃ v H', Inv X pins σ H' s' ∧ RelV v u ∧ Q v H'
def TP (X : Cx) (pins : List (Addr × Obj)) (σ : St) (Q : Bool → Hp → Prop) (b : Bool) (s' : Shared) : Prop := ∃ H', Inv X pins σ H' s' ∧ Q b H'
def AP (X : Cx) (pins : List (Addr × Obj)) (σ : St) (Q : List V → Hp → Prop) (us : List Value) (s' : Shared) : Prop := ∃ vs H', Inv X pins σ H' s' ∧ Vals vs us ∧ Q vs H'
def SP (X : Cx) (pins : List (Addr × Obj)) (D : Ends) (f : Flow) (s' : Shared) : Prop :=
  match f with
  | .next => ∃ σ' H', Inv X pins σ' H' s' ∧ D.nx σ' H'
  | .brk => ∃ σ' H', Inv X pins σ' H' s' ∧ D.bk σ' H'
  | .cont => ∃ σ' H', Inv X pins σ' H' s' ∧ D.ct σ' H'
  | .ret u => ∃ v σ' H', Inv X pins σ' H' s' ∧ RelV v u ∧ D.rt v H'

def PE (X : Cx) (e : Expr) (t : TE) : Prop :=
  ∀ (pins : List (Addr × Obj)) (s : Shared) (σ : St) (H : Hp) (Q : VK), Inv X pins σ H s → t σ H Q → wpAny (model X.prog X.w) X.A (eval e X.env) (EP X pins σ Q) X.xe s
def PT (X : Cx) (e : Expr) (t : TT) : Prop :=
  ∀ (pins : List (Addr × Obj)) (s : Shared) (σ : St) (H : Hp) (Q : Bool → Hp → Prop), Inv X pins σ H s → t σ H Q → wpAny (model X.prog X.w) X.A (isTrue e X.env (eval e X.env)) (TP X pins σ Q) X.xe s
/-- a test whatever its 'whole' is (and, or) -/
def PW (X : Cx) (e : Expr) (t : TT) : Prop :=
  ∀ (whole : Sem Value) (pins : List (Addr × Obj)) (s : Shared) (σ : St) (H : Hp) (Q : Bool → Hp → Prop), Inv X pins σ H s → t σ H Q → wpAny (model X.prog X.w) X.A (isTrue e X.env whole) (TP X pins σ Q) X.xe s
theorem PW.pt {X : Cx} {e : Expr} {t : TT} (h : PW X e t) : PT X e t := h _
/-- an argument list (no star), from the left -/
def PA (X : Cx) (es : List Expr) (t : TA) : Prop :=
  ∀ (pos : Pos) (pins : List (Addr × Obj)) (s : Shared) (σ : St) (H : Hp) (Q : List V → Hp → Prop), Inv X pins σ H s → t σ H Q → wpAny (model X.prog X.w) X.A (spliced (backTo pos (starEach es X.env))) (AP X pins σ Q) X.xe s
def PS (X : Cx) (st : Stmt) (t : TS) : Prop :=
  ∀ (pins : List (Addr × Obj)) (s : Shared) (σ : St) (H : Hp) (D : Ends), Inv X pins σ H s → t D σ H → wpAny (model X.prog X.w) X.A (exec st X.env) (SP X pins D) X.xe s
def PSs (X : Cx) (st : List Stmt) (t : TS) : Prop :=
  ∀ (pins : List (Addr × Obj)) (s : Shared) (σ : St) (H : Hp) (D : Ends), Inv X pins σ H s → t D σ H → wpAny (model X.prog X.w) X.A (execs st X.env) (SP X pins D) X.xe s
/-- weaken the end -/
theorem thn {α : Type} {t : Sem α} {Q Q' : α → Shared → Prop} {M : Model} {A : Around} {E : Value → Shared → Prop} {s : Shared} (h : wpAny M A t Q E s) (hQ : ∀ a s, Q a s → Q' a s) : wpAny M A t Q' E s := wpAny_mono h hQ fun _ _ x => x
end L2

namespace L2
open PySem PySem.Spec PyProof.Rows
section
variable {X : Cx}

/-! ### names and constants -/
def tVar (i : Nat) : TE := fun σ H Q => ∃ v, σ[i]? = some (some v) ∧ Q v H
def tC (v : V) : TE := fun _ H Q => Q v H
theorem pe_var {i : Nat} {x : Str} {pos : Pos} (hN : X.N[i]? = some x) (hv : Vis X.env.scope x) (hd : (x == ("__debug__" : Str)) = false := by decide) (hcd : (x == ("__classdict__" : Str)) = false := by decide) : PE X (.Name x pos) (tVar i) := by
  intro pins s σ H Q I h
  obtain ⟨v, e, h⟩ := h
  obtain ⟨m, hn, hl⟩ := I.loc
  obtain ⟨u, r, l⟩ := hl i x v hN e hv
  have fin : EP X pins σ Q u s := ⟨v, H, I, r, h⟩
  rcases l with ⟨hk, hm⟩ | ⟨hk, c, hc, hcell⟩
  · exact wpAny_Name (wpAny_loadName_local I.ok.kind hk hn hm fin) hd
  · rcases hk with hk | hk
    · exact wpAny_Name (wpAny_loadName_cell I.ok.kind hk hc hcell fin) hd
    · exact wpAny_Name (wpAny_loadName_free I.ok.kind hk hc hcell fin hcd) hd
theorem pe_int {i j pos} : PE X (.Constant (.int i) j pos) (tC (.int i)) := fun _ _ _ H _ I h => wpAny_Constant_int ⟨.int i, H, I.tok _, ⟨_, rfl⟩, h⟩
theorem pe_bl {b j pos} : PE X (.Constant (.bool b) j pos) (tC (.bl b)) := fun _ _ _ H _ I h => Constant_bool ⟨.bl b, H, I, rfl, h⟩
theorem pe_non {j pos} : PE X (.Constant .none j pos) (tC .non) := fun _ _ _ H _ I h => Constant_none ⟨.non, H, I, rfl, h⟩
theorem pe_str {x j pos} : PE X (.Constant (.str x) j pos) (tC (.str x)) := fun _ _ _ H _ I h => Calls.Constant_str ⟨.str x, H, I.tok _, ⟨_, rfl⟩, h⟩

/-- a global name of the def -/
def Gl (X : Cx) (x : Str) : Prop := X.env.kindOf x = some .globalImplicit
theorem ld_glob {E : Value → Shared → Prop} {pins : List (Addr × Obj)} {s : Shared} {σ : St} {H : Hp} {x : Str} {u : Value} {pos : Pos} {Q : Value → Shared → Prop} (I : Inv X pins σ H s) (hg : Gl X x) (hm : X.mg x = some u) (h : Q u s)
    (hd : (x == ("__debug__" : Str)) = false := by decide) : wpAny (model X.prog X.w) X.A (eval (.Name x pos) X.env) Q E s :=
  Calls.Name_function_global I.ok.kind hg (Calls.loadGlobal_global (by rw [I.ok.glob]; exact I.mod.glob.keeps I.bk) hm h) hd
theorem ld_blt {E : Value → Shared → Prop} {pins : List (Addr × Obj)} {s : Shared} {σ : St} {H : Hp} {x : Str} {u : Value} {pos : Pos} {Q : Value → Shared → Prop} (I : Inv X pins σ H s) (hg : Gl X x) (hm : X.mg x = none) (hv : bootBuiltins x = some u) (h : Q u s)
    (hn : x ≠ "__name__" := by decide) (hd : (x == ("__debug__" : Str)) = false := by decide) : wpAny (model X.prog X.w) X.A (eval (.Name x pos) X.env) Q E s := by
  obtain ⟨mb, h1, h2⟩ := I.mod.blt
  exact Calls.Name_function_global I.ok.kind hg (Calls.loadGlobal_builtin (by rw [I.ok.glob]; exact I.mod.glob.keeps I.bk) hm (by rw [I.ok.blt]; exact h1.keeps I.bk) ((h2 x hn).trans hv) h) hd
/-- a module's constant, a class, a function, as a value -/
theorem pe_glob {x : Str} {v : V} {u : Value} {pos : Pos} (hg : Gl X x) (hm : X.mg x = some u) (r : RelV v u) (hd : (x == ("__debug__" : Str)) = false := by decide) : PE X (.Name x pos) (tC v) :=
  fun _ _ _ H _ I h => ld_glob I hg hm ⟨v, H, I, r, h⟩ hd
theorem pe_bltn {x : Str} {v : V} {u : Value} {pos : Pos} (hg : Gl X x) (hm : X.mg x = none) (hv : bootBuiltins x = some u) (r : RelV v u) (hn : x ≠ "__name__" := by decide) (hd : (x == ("__debug__" : Str)) = false := by decide) : PE X (.Name x pos) (tC v) :=
  fun _ _ _ H _ I h => ld_blt I hg hm hv ⟨v, H, I, r, h⟩ hn hd

/-! ### arithmetic -/
/-- two ints -/
def t2I (ta tb : TE) (k : Int → Int → Hp → Prop) : St → Hp → Prop := fun σ H => ta σ H fun x H1 => tb σ H1 fun y H2 => ∃ i j, x = .int i ∧ y = .int j ∧ k i j H2
def tAdd (ta tb : TE) : TE := fun σ H Q => t2I ta tb (fun i j H2 => Q (.int (i + j)) H2) σ H
def tSub (ta tb : TE) : TE := fun σ H Q => t2I ta tb (fun i j H2 => Q (.int (i - j)) H2) σ H
/-- the left factor below 2^64 -/
def tMul (ta tb : TE) : TE := fun σ H Q => t2I ta tb (fun i j H2 => (-(2 ^ 64) < i ∧ i < 2 ^ 64) ∧ Q (.int (i * j)) H2) σ H
variable {a b : Expr} {ta tb : TE} {pos : Pos}
/-! ### comparisons -/
def PC (X : Cx) (op : CmpOp) (a b : Expr) (t : TE) : Prop :=
  ∀ (pins : List (Addr × Obj)) (s : Shared) (σ : St) (H : Hp) (Q : VK), Inv X pins σ H s → t σ H Q →
    wpAny (model X.prog X.w) X.A (eval a X.env) (fun v s₁ => wpAny (model X.prog X.w) X.A (eval b X.env) (fun u s₂ => wpAny (model X.prog X.w) X.A (compareOp op v u) (EP X pins σ Q) X.xe s₂) X.xe s₁) X.xe s
def tCmp (p : Int → Int → Bool) (ta tb : TE) : TE := fun σ H Q => t2I ta tb (fun i j H2 => Q (.bl (p i j)) H2) σ H
abbrev tLt : TE → TE → TE := tCmp fun i j => decide (i < j)
abbrev tLe : TE → TE → TE := tCmp fun i j => decide (i ≤ j)
abbrev tGt : TE → TE → TE := tCmp fun i j => decide (j < i)
abbrev tGe : TE → TE → TE := tCmp fun i j => decide (j ≤ i)
abbrev tEqI : TE → TE → TE := tCmp fun i j => decide (i = j)
abbrev tNeI : TE → TE → TE := tCmp fun i j => !decide (i = j)
/-- is None -/
def tIsN (ta : TE) : TE := fun σ H Q => ta σ H fun x H1 => Q (.bl (decide (x = .non))) H1
def tNotN (ta : TE) : TE := fun σ H Q => ta σ H fun x H1 => Q (.bl (!decide (x = .non))) H1
/-- a comparison as a value, as a test -/
def tB (t : TE) : TT := fun σ H Q => t σ H fun x H1 => ∃ c, x = .bl c ∧ Q c H1
/-- an expression whose value is a bool, as a test -/
theorem pt_val {e : Expr} {t : TE} (h : PE X e t) (he : ∀ whole, isTrue e X.env whole = (do let v ← whole; standAt e.pos; holding [v] (truthy v)) := by intro _; rfl) : PT X e (tB t) := by
  intro pins s σ H Q I hw
  refine isTrue_plain (thn (h pins s σ H _ I hw) fun v s1 ⟨x, H1, I1, r1, q1⟩ => ?_) (he _)
  obtain ⟨d, rfl, q⟩ := q1
  cases r1
  exact wpAny_truthy_bool ⟨H1, I1, q⟩

/-! ### and, or, not -/
variable {tA tB' : TT} {rest : List Expr}
def tAnd (t u : TT) : TT := fun σ H Q => t σ H fun c H1 => if c = true then u σ H1 Q else Q false H1
def tOr (t u : TT) : TT := fun σ H Q => t σ H fun c H1 => if c = true then Q true H1 else u σ H1 Q
def tNot (t : TT) : TT := fun σ H Q => t σ H fun c H1 => Q (!c) H1
theorem pw_and1 (ha : PT X a tA) : PW X (.BoolOp .And [a] pos) tA := by
  intro wh pins s σ H Q I h
  refine isTrue_and (thn (ha pins s σ H Q I h) fun c s1 e => ?_)
  cases c with
  | true => exact isTrue_and_nil e
  | false => exact e
theorem pw_or1 (ha : PT X a tA) : PW X (.BoolOp .Or [a] pos) tA := by
  intro wh pins s σ H Q I h
  refine isTrue_or (thn (ha pins s σ H Q I h) fun c s1 e => ?_)
  cases c with
  | false => exact isTrue_or_nil e
  | true => exact e
theorem pw_and (ha : PT X a tA) (hb : PW X (.BoolOp .And (b :: rest) pos) tB') : PW X (.BoolOp .And (a :: b :: rest) pos) (tAnd tA tB') := by
  intro wh pins s σ H Q I h
  refine isTrue_and (thn (ha pins s σ H _ I h) fun c s1 ⟨H1, I1, q1⟩ => ?_)
  cases c with
  | true => exact hb wh pins s1 σ H1 Q I1 q1
  | false => exact ⟨H1, I1, q1⟩
theorem pw_or (ha : PT X a tA) (hb : PW X (.BoolOp .Or (b :: rest) pos) tB') : PW X (.BoolOp .Or (a :: b :: rest) pos) (tOr tA tB') := by
  intro wh pins s σ H Q I h
  refine isTrue_or (thn (ha pins s σ H _ I h) fun c s1 ⟨H1, I1, q1⟩ => ?_)
  cases c with
  | true => exact ⟨H1, I1, q1⟩
  | false => exact hb wh pins s1 σ H1 Q I1 q1
theorem pt_not (ha : PT X a tA) : PT X (.UnaryOp .Not a pos) (tNot tA) := by
  intro pins s σ H Q I h
  exact isTrue_not (ha pins s σ H (fun c H1 => Q (!c) H1) I h)
/-- .. as values (bools) -/
def tAndV (ta tb : TE) : TE := fun σ H Q => ta σ H fun x H1 => ∃ c, x = .bl c ∧ if c = true then tb σ H1 Q else Q (.bl false) H1
def tOrV (ta tb : TE) : TE := fun σ H Q => ta σ H fun x H1 => ∃ c, x = .bl c ∧ if c = true then Q (.bl true) H1 else tb σ H1 Q
def tNotV (ta : TE) : TE := fun σ H Q => ta σ H fun x H1 => ∃ c, x = .bl c ∧ Q (.bl (!c)) H1
theorem pe_one {op} {t : TE} (h : PE X a t) : PE X (.BoolOp op [a] pos) t := fun pins s σ H Q I hw => BoolOp_one (h pins s σ H Q I hw)
theorem pe_and (ha : PE X a ta) (hb : PE X (.BoolOp .And (b :: rest) pos) tb) : PE X (.BoolOp .And (a :: b :: rest) pos) (tAndV ta tb) := by
  intro pins s σ H Q I h
  refine BoolOp_and (thn (ha pins s σ H _ I h) fun v s1 ⟨x, H1, I1, r1, q1⟩ => ?_)
  obtain ⟨c, rfl, q1⟩ := q1
  cases r1
  refine wpAny_truthy_bool ?_
  cases c with
  | true => exact hb pins s1 σ H1 Q I1 q1
  | false => exact ⟨.bl false, H1, I1, rfl, q1⟩
/-- a if t else b -/
def tIf (t : TT) (ta tb : TE) : TE := fun σ H Q => t σ H fun c H1 => if c = true then ta σ H1 Q else tb σ H1 Q
theorem pe_ifExp {c : Expr} (hc : PT X c tA) (ha : PE X a ta) (hb : PE X b tb) : PE X (.IfExp c a b pos) (tIf tA ta tb) := by
  intro pins s σ H Q I h
  refine wpAny_IfExp (thn (hc pins s σ H _ I h) fun d s1 ⟨H1, I1, q1⟩ => ?_)
  cases d with
  | true => exact ha pins s1 σ H1 Q I1 q1
  | false => exact hb pins s1 σ H1 Q I1 q1
end
end L2

namespace L2
open PySem PySem.Spec PyProof.Rows

/-! ### a list, a tuple that is read: tracked, frozen, or an object of the module -/
def SqL (K : PySem.W.Frag) (H : Hp) (a : Addr) (xs : List V) : Prop :=
  Rd H a (.lst xs) ∨
    ∃ (o : Obj) (its : Array Value) (n : Nat), K.lookup a = some o ∧ o.cls = .type "list" ∧ o.dict = none ∧ o.data = .seq its n ∧ its.size ≤ sizeLine ∧ Vals xs its.toList
def SqT (K : PySem.W.Frag) (H : Hp) (a : Addr) (xs : List V) : Prop :=
  Rd H a (.tup xs) ∨
    ∃ (o : Obj) (its : Array Value) (n : Nat), K.lookup a = some o ∧ o.cls = .type "tuple" ∧ o.data = .seq its n ∧ its.size ≤ sizeLine ∧ Vals xs its.toList
def absV : Value → Option V
  | .none => some .non
  | .bool b => some (.bl b)
  | .int i _ => some (.int i)
  | .str x _ => some (.str x)
  | .bytes b _ => some (.byt b)
  | .float b _ => some (.flt b)
  | .ref a => some (.ref a)
  | .type n => some (.ty n)
  | _ => none
theorem RelV.abs {x : V} {u : Value} (r : RelV x u) : absV u = some x := by
  cases x with
  | non => cases r; rfl
  | bl _ => cases r; rfl
  | int _ => obtain ⟨t, rfl⟩ := r; rfl
  | str _ => obtain ⟨t, rfl⟩ := r; rfl
  | byt _ => obtain ⟨t, rfl⟩ := r; rfl
  | flt _ => obtain ⟨t, rfl⟩ := r; rfl
  | ref _ => cases r; rfl
  | ty _ => cases r; rfl
theorem RelV.inj {x y : V} {u : Value} (r : RelV x u) (q : RelV y u) : x = y := Option.some.inj (r.abs.symm.trans q.abs)
theorem Vals.inj : ∀ {xs ys : List V} {us : List Value}, Vals xs us → Vals ys us → xs = ys
  | _, _, _, .nil, .nil => rfl
  | _, _, _, .cons r t, .cons r' t' => by rw [r.inj r', Vals.inj t t']
section
variable {X : Cx} {pins : List (Addr × Obj)} {σ : St} {H : Hp} {s : Shared} {a : Addr} {xs ys : List V}
theorem SqL.of {K : PySem.W.Frag} (h : H a = some (.lst xs)) : SqL K H a xs := .inl (.inl h)
theorem SqT.of {K : PySem.W.Frag} (h : H a = some (.tup xs)) : SqT K H a xs := .inl (.inl h)
theorem Inv.list (I : Inv X pins σ H s) (h : SqL X.K H a xs) : ∃ its : List Value, Vals xs its ∧ PlainL s.heap a its.toArray ∧ xs.length ≤ sizeLine := by
  rcases h with h | ⟨o, its, n, hk, hc, hd, hs, hz, r⟩
  · obtain ⟨z, its, n, r, e⟩ := h.ok I.hok
    exact ⟨its, r, ⟨_, n, e, rfl, rfl, rfl⟩, z⟩
  · refine ⟨its.toList, r, ⟨o, n, I.kIn a o hk, hc, hd, by simpa using hs⟩, ?_⟩
    have e := r.length
    simp only [Array.length_toList] at e
    omega
theorem Inv.tuple (I : Inv X pins σ H s) (h : SqT X.K H a xs) : ∃ its : List Value, Vals xs its ∧ IsTup s.heap a its.toArray ∧ xs.length ≤ sizeLine := by
  rcases h with h | ⟨o, its, n, hk, hc, hs, hz, r⟩
  · obtain ⟨z, its, r, p⟩ := h.ok I.hok
    exact ⟨its, r, p, z⟩
  · refine ⟨its.toList, r, ⟨o, I.kIn a o hk, hc, n, by simpa using hs⟩, ?_⟩
    have e := r.length
    simp only [Array.length_toList] at e
    omega
theorem Inv.list_inj (I : Inv X pins σ H s) (h : SqL X.K H a xs) (h' : SqL X.K H a ys) : xs = ys := by
  obtain ⟨its, r, ⟨o, n, e, _, _, d⟩, _⟩ := I.list h
  obtain ⟨its', r', ⟨o', n', e', _, _, d'⟩, _⟩ := I.list h'
  rw [e] at e'; cases e'
  rw [d] at d'
  injection d' with d1 _
  have : its = its' := by simpa using congrArg Array.toList d1
  subst this
  exact r.inj r'
end

/-! ### another wish about exceptions -/
abbrev Cx.wish (X : Cx) (E : Value → Shared → Prop) : Cx := { X with xe := E }
/-- no exception leaves -/
abbrev Cx.nox (X : Cx) : Cx := X.wish fun _ _ => False
theorem Cx.Ok.wish {X : Cx} (ok : X.Ok) (E : Value → Shared → Prop) : (X.wish E).Ok :=
  ⟨ok.mod, ok.kind, ok.glob, ok.blt, ok.above, ok.inj, ok.has, ok.cab, ok.hd, ok.frames, ok.stk, ok.exf, ok.bs, ok.bsz, ok.noex, ok.exfs, ok.funs, ok.frf⟩
theorem Cx.Ok.unwish {X : Cx} {E : Value → Shared → Prop} (ok : (X.wish E).Ok) : X.Ok :=
  ⟨ok.mod, ok.kind, ok.glob, ok.blt, ok.above, ok.inj, ok.has, ok.cab, ok.hd, ok.frames, ok.stk, ok.exf, ok.bs, ok.bsz, ok.noex, ok.exfs, ok.funs, ok.frf⟩
section
variable {X : Cx} {pins : List (Addr × Obj)} {σ : St} {H : Hp} {s : Shared} {E : Value → Shared → Prop}
theorem Inv.wish (I : Inv X pins σ H s) (E : Value → Shared → Prop) : Inv (X.wish E) pins σ H s := ⟨I.ok.wish E, I.os, I.bare, I.base, I.loc, I.cell, I.free, I.freeC, I.pin, I.hok, I.len⟩
theorem Inv.unwish (I : Inv (X.wish E) pins σ H s) : Inv X pins σ H s := ⟨I.ok.unwish, I.os, I.bare, I.base, I.loc, I.cell, I.free, I.freeC, I.pin, I.hok, I.len⟩
theorem SP.unwish {D : Ends} {f : Flow} {s' : Shared} (h : SP (X.wish E) pins D f s') : SP X pins D f s' := by
  cases f with
  | next => obtain ⟨σ', H', I, q⟩ := h; exact ⟨σ', H', I.unwish, q⟩
  | brk => obtain ⟨σ', H', I, q⟩ := h; exact ⟨σ', H', I.unwish, q⟩
  | cont => obtain ⟨σ', H', I, q⟩ := h; exact ⟨σ', H', I.unwish, q⟩
  | ret u => obtain ⟨v, σ', H', I, r, q⟩ := h; exact ⟨v, σ', H', I.unwish, r, q⟩
theorem PE.nox {e : Expr} {t : TE} (h : PE X.nox e t) : PE X e t := fun pins s σ H Q I hw =>
  wpAny_mono (h pins s σ H Q (I.wish _) hw) (fun _ _ ⟨v, H', I', r, q⟩ => ⟨v, H', I'.unwish, r, q⟩) fun _ _ z => False.elim z
theorem PT.nox {e : Expr} {t : TT} (h : PT X.nox e t) : PT X e t := fun pins s σ H Q I hw =>
  wpAny_mono (h pins s σ H Q (I.wish _) hw) (fun _ _ ⟨H', I', q⟩ => ⟨H', I'.unwish, q⟩) fun _ _ z => False.elim z
theorem PSs.nox {st : List Stmt} {t : TS} (h : PSs X.nox st t) : PSs X st t := fun pins s σ H D I hw =>
  wpAny_mono (h pins s σ H D (I.wish _) hw) (fun _ _ q => q.unwish) fun _ _ z => False.elim z
end

/-! ### blocks and small statements -/
section
variable {X : Cx} {st : Stmt} {rest : List Stmt} {t u : TS} {e : Expr} {te : TE} {pos : Pos}
def tNext : TS := fun D σ H => D.nx σ H
def tSeq (t u : TS) : TS := fun D σ H => t { D with nx := u D } σ H
theorem pss_nil : PSs X [] tNext := fun _ _ σ H _ I h => wpAny_execs_nil ⟨σ, H, I, h⟩
theorem pss_cons (h1 : PS X st t) (h2 : PSs X rest u) : PSs X (st :: rest) (tSeq t u) := by
  intro pins s σ H D I h
  refine wpAny_execs_cons (thn (h1 pins s σ H { D with nx := u D } I h) fun f s1 q => ?_)
  cases f with
  | next =>
    obtain ⟨σ', H', I', q⟩ := q
    exact h2 pins s1 σ' H' D I' q
  | ret v => exact q
  | brk => exact q
  | cont => exact q
theorem pss_one (h1 : PS X st t) : PSs X [st] t := by
  intro pins s σ H D I h
  refine wpAny_execs_cons (thn (h1 pins s σ H D I h) fun f s1 q => ?_)
  cases f with
  | next => exact wpAny_execs_nil q
  | ret v => exact q
  | brk => exact q
  | cont => exact q
def tBreak : TS := fun D σ H => D.bk σ H
def tCont : TS := fun D σ H => D.ct σ H
/-- in a def's body nothing is shown -/
theorem Inv.quiet {pins : List (Addr × Obj)} {σ : St} {H : Hp} {s : Shared} (I : Inv X pins σ H s) : interactive X.env = false := by simp [interactive, I.ok.kind]
/-- an expression whose value is dropped -/
def tDrop (te : TE) : TS := fun D σ H => te σ H fun _ H1 => D.nx σ H1
theorem ps_expr (he : PE X e te) (hs : swapsWith e none pos.line X.env = pure false := by rfl) : PS X (.Expr e pos) (tDrop te) := by
  intro pins s σ H D I h
  exact wpAny_Expr_any (thn (he pins s σ H _ I h) fun v s1 ⟨x, H1, I1, r1, q1⟩ => ⟨σ, H1, I1, q1⟩) I.quiet hs
def tRet (te : TE) : TS := fun D σ H => te σ H D.rt
theorem ps_ret (he : PE X e te) : PS X (.Return (some e) pos) (tRet te) := by
  intro pins s σ H D I h
  exact wpAny_Return_some (thn (he pins s σ H _ I h) fun v s1 ⟨x, H1, I1, r1, q1⟩ => ⟨x, σ, H1, I1, r1, q1⟩)
def tRetN : TS := fun D _ H => D.rt .non H
def tIfS (c : TT) (t u : TS) : TS := fun D σ H => c σ H fun b H1 => if b = true then t D σ H1 else u D σ H1
theorem ps_if {c : Expr} {a b : List Stmt} {tc : TT} (hc : PT X c tc) (ha : PSs X a t) (hb : PSs X b u) : PS X (.If c a b pos) (tIfS tc t u) := by
  intro pins s σ H D I h
  refine wpAny_If (thn (hc pins s σ H _ I h) fun d s1 ⟨H1, I1, q1⟩ => ?_)
  cases d with
  | true => exact ha pins s1 σ H1 D I1 q1
  | false => exact hb pins s1 σ H1 D I1 q1
/-- code that the proof never comes to -/
def tNever : TS := fun _ _ _ => False
end

/-! ### targets -/
abbrev TG := V → St → Hp → (St → Hp → Prop) → Prop
abbrev TGs := List V → St → Hp → (St → Hp → Prop) → Prop
def PG (X : Cx) (target : Expr) (t : TG) : Prop :=
  ∀ (pins : List (Addr × Obj)) (s : Shared) (σ : St) (H : Hp) (v : V) (u : Value) (Q : St → Hp → Prop), Inv X pins σ H s → RelV v u → t v σ H Q →
    wpAny (model X.prog X.w) X.A (assign target X.env u) (fun _ s' => ∃ σ' H', Inv X pins σ' H' s' ∧ Q σ' H') X.xe s
/-- several targets, one after another -/
def PGs (X : Cx) (ts : List Expr) (t : TGs) : Prop :=
  ∀ (pins : List (Addr × Obj)) (s : Shared) (σ : St) (H : Hp) (vs : List V) (us : List Value) (Q : St → Hp → Prop), Inv X pins σ H s → Vals vs us → t vs σ H Q →
    wpAny (model X.prog X.w) X.A (assignInOrder ((assignEach ts X.env).map (·.2)) us) (fun _ s' => ∃ σ' H', Inv X pins σ' H' s' ∧ Q σ' H') X.xe s
/-- o[i] = v, by values -/
abbrev TSet := V → V → V → Hp → (Hp → Prop) → Prop
def PSet (X : Cx) (t : TSet) : Prop :=
  ∀ (pins : List (Addr × Obj)) (s : Shared) (σ : St) (H : Hp) (o i v : V) (ov iv u : Value) (Q : Hp → Prop), Inv X pins σ H s → RelV o ov → RelV i iv → RelV v u → t o i v H Q →
    wpAny (model X.prog X.w) X.A (setItem ov iv u) (fun _ s' => ∃ H', Inv X pins σ H' s' ∧ Q H') X.xe s
/-- a op= b, by values -/
abbrev TIp := V → V → Hp → VK → Prop
def PIp (X : Cx) (op : Operator) (t : TIp) : Prop :=
  ∀ (pins : List (Addr × Obj)) (s : Shared) (σ : St) (H : Hp) (x y : V) (v u : Value) (Q : VK), Inv X pins σ H s → RelV x v → RelV y u → t x y H Q →
    wpAny (model X.prog X.w) X.A (inplaceOp op v u) (EP X pins σ Q) X.xe s
section
variable {X : Cx} {pos : Pos}
def gName (i : Nat) : TG := fun v σ H Q => Q (σ.set i (some v)) H
theorem pg_name {i : Nat} {x : Str} (hN : X.N.Nodup) (hi : X.N[i]? = some x) (hx : Loc X.env.scope x) (hf : X.fn x = true ∨ X.env.scope.names.lookup x = some .local := by first | exact .inl rfl | exact .inr rfl | assumption) : PG X (.Name x pos) (gName i) := by
  intro pins s σ H v u Q I r h
  exact wpAny_assign_Name (store_ok I hN hi hx r (fun s' I' => ⟨_, H, I', h⟩) hf)
def gNil : TGs := fun vs σ H Q => vs = [] ∧ Q σ H
def gCons (t : TG) (u : TGs) : TGs := fun vs σ H Q => ∃ v r, vs = v :: r ∧ t v σ H fun σ' H' => u r σ' H' Q
theorem pgs_nil : PGs X [] gNil := by
  intro pins s σ H vs us Q I r h
  obtain ⟨e, h⟩ := h
  subst e
  cases r
  exact assignInOrder_nil ⟨σ, H, I, h⟩
theorem pgs_cons {e : Expr} {es : List Expr} {t : TG} {u : TGs} (h1 : PG X e t) (h2 : PGs X es u)
    (hs : (assignEach (e :: es) X.env).map (·.2) = assign e X.env :: (assignEach es X.env).map (·.2) := by rfl) : PGs X (e :: es) (gCons t u) := by
  intro pins s σ H vs us Q I r h
  obtain ⟨v, vr, e1, h⟩ := h
  subst e1
  cases r with
  | cons r rr =>
    rw [hs]
    refine assignInOrder_cons (thn (h1 pins s σ H _ _ _ I r h) fun _ s1 ⟨σ1, H1, I1, q1⟩ => ?_)
    exact h2 pins s1 σ1 H1 _ _ Q I1 rr q1
/-- (a, b, ..) = a tuple of that length -/
def gTup (K : PySem.W.Frag) (n : Nat) (t : TGs) : TG := fun v σ H Q => ∃ a xs, v = .ref a ∧ SqT K H a xs ∧ xs.length = n ∧ t xs σ H Q
theorem pg_tup {es : List Expr} {k : Nat} {t : TGs} {n : Nat} (hc : X.calm = true) (h : PGs X es t)
    (hn : (assignEach es X.env).length = n := by rfl) (hst : (assignEach es X.env).findIdx? (·.1) = none := by rfl) : PG X (.Tuple es k pos) (gTup X.K n t) := by
  intro pins s σ H v u Q I r hw
  obtain ⟨a, xs, e1, hq, hl, hw⟩ := hw
  subst e1
  cases r
  obtain ⟨its, rv, ht, hz⟩ := I.tuple hq
  refine assign_Tuple_tuple (I.ok.hd hc) ht (by simp [hn, ← hl, rv.length]) hst fun h' hx => ?_
  have I1 : Inv X pins σ H { s with heap := h' } := I.kept (t' := s.toks) fun b o e => hx b o (Nat.ne_of_lt (Heap.lt_size e)) e
  exact h pins _ σ H xs _ Q I1 (by simpa using rv) hw
/-- o[i] = .. -/
def gSub (to ti : TE) (t : TSet) : TG := fun v σ H Q => to σ H fun o H1 => ti σ H1 fun i H2 => t o i v H2 fun H3 => Q σ H3
/-- target = value -/
def tAsg (te : TE) (g : TG) : TS := fun D σ H => te σ H fun x H1 => g x σ H1 D.nx
theorem ps_asg {tg e : Expr} {te : TE} {g : TG} (he : PE X e te) (hg : PG X tg g) (hs : swapsWithSole [tg] e pos.line X.env = pure false := by rfl) (hw : swappedStores [tg] e X.env = pure none := by rfl)
    (h1 : (assignEach [tg] X.env).map (·.2) = [assign tg X.env] := by rfl) : PS X (.Assign [tg] e pos) (tAsg te g) := by
  intro pins s σ H D I h
  refine wpAny_Assign_stores (thn (he pins s σ H _ I h) fun v s1 ⟨x, H1, I1, r1, q1⟩ => ?_) hs hw
  rw [h1]
  exact thn (hg pins s1 σ H1 x v _ I1 r1 q1) fun _ s2 q => q
/-- name = value -/
theorem ps_set {i : Nat} {x : Str} {e : Expr} {te : TE} {pos' : Pos} (hN : X.N.Nodup) (hi : X.N[i]? = some x) (hx : Loc X.env.scope x) (he : PE X e te) (hs : swapsWith e (some (.Name x pos')) pos.line X.env = pure false := by rfl) (hf : X.fn x = true ∨ X.env.scope.names.lookup x = some .local := by first | exact .inl rfl | exact .inr rfl | assumption) :
    PS X (.Assign [.Name x pos'] e pos) (tAsg te (gName i)) := by
  intro pins s σ H D I h
  refine wpAny_Assign_Name (thn (he pins s σ H _ I h) fun v s1 ⟨y, H1, I1, r1, q1⟩ => ?_) hs
  exact store_ok I1 hN hi hx r1 (fun s2 I2 => ⟨_, H1, I2, q1⟩) hf
/-- a, b = x, y with plain local names: stored from the right; the pair itself is not tracked (the opening rows as in PyProof/Rows/TupAssign.lean:23) -/
def tPar (i j : Nat) (ta : TA) : TS := fun D σ H => ta σ H fun vs H1 => ∃ v w, vs = [v, w] ∧ D.nx ((σ.set i (some v)).set j (some w)) H1
/-- name op= e -/
def tAug (i : Nat) (te : TE) (ti : TIp) : TS := fun D σ H => ∃ x, σ[i]? = some (some x) ∧ te σ H fun y H1 => ti x y H1 fun z H2 => D.nx (σ.set i (some z)) H2
/-- o[i] op= e -/
def tAugS (to ti te : TE) (tget : V → V → Hp → VK → Prop) (tip : TIp) (tset : TSet) : TS := fun D σ H => to σ H fun o H1 => ti σ H1 fun i H2 => tget o i H2 fun x H3 => te σ H3 fun y H4 => tip x y H4 fun z H5 => tset o i z H5 fun H6 => D.nx σ H6
/-- o[i], by values -/
def PGet (X : Cx) (t : V → V → Hp → VK → Prop) : Prop :=
  ∀ (pins : List (Addr × Obj)) (s : Shared) (σ : St) (H : Hp) (o i : V) (ov iv : Value) (Q : VK), Inv X pins σ H s → RelV o ov → RelV i iv → t o i H Q →
    wpAny (model X.prog X.w) X.A (getItem ov iv) (EP X pins σ Q) X.xe s
/-- ints -/
def ipI (f : Int → Int → Int) : TIp := fun x y H Q => ∃ i j, x = .int i ∧ y = .int j ∧ Q (.int (f i j)) H
end

/-! ### while -/
section
variable {X : Cx} {pos : Pos}
/-- the invariant W with its measure -/
def tWhile (c : TT) (tb : TS) : TS := fun D σ H => ∃ W : Nat → St → Hp → Prop, (∃ m, W m σ H) ∧ ∀ m σ H, W m σ H →
  c σ H fun b H1 => if b = true then ∃ N : St → Hp → Prop, (∀ σ' H', N σ' H' → ∃ m', m' < m ∧ W m' σ' H') ∧ tb { D with nx := N, ct := N, bk := D.nx } σ H1 else D.nx σ H1
end

/-! ### what a loop or a comprehension walks -/
/-- at turn i: it yields x (the heap may grow), or it stops -/
structure It where
  go : Nat → Hp → Prop
  yld : Nat → Hp → V → Hp → Prop
  stop : Nat → Hp → Prop
/-- the iterator's own objects may turn: they are not the frame's, not pinned, younger than the entry (or a comprehension's own) -/
def FpOk (X : Cx) (pins : List (Addr × Obj)) (H : Hp) (b : Addr) : Prop :=
  H b = none ∧ b ≠ X.env.locals ∧ b ∉ X.fs ∧ (b ∈ X.ex ∨ X.s₀.heap.objs.size ≤ b) ∧ (∀ x c, X.env.cells.lookup x = some c → c ≠ b) ∧ ∀ p ∈ X.pn ++ pins, p.1 ≠ b
theorem Inv.fpOk {X : Cx} {pins : List (Addr × Obj)} {σ : St} {H H' : Hp} {s : Shared} {b : Addr} (I : Inv X pins σ H s) (hb : s.heap.objs.size ≤ b) (hn : H' b = none) : FpOk X pins H' b := by
  refine ⟨hn, Nat.ne_of_gt (Nat.lt_of_lt_of_le I.lt hb), I.nofs hb, .inr (Nat.le_trans I.sz hb), fun x c e z => ?_, fun p hp z => ?_⟩
  · obtain ⟨v, q⟩ := I.cell x c e
    exact absurd (Nat.lt_of_lt_of_le q.lt (by rw [z]; exact hb)) (Nat.lt_irrefl _)
  · exact absurd (Nat.lt_of_lt_of_le (Heap.lt_size (I.pin p hp).1) (by rw [z]; exact hb)) (Nat.lt_irrefl _)
structure Turn (P : Program) (w : World) (K : PySem.W.Frag) (tg : Expr) (J : It) (fp : List Addr) (it : Addr) (tn : Nat → Heap → Prop) : Prop where
  mem : it ∈ fp
  obj : ∀ i h, tn i h → ∀ b ∈ fp, ∃ o, h.get? b = some o ∧ ∀ v, o.data ≠ .cell v
  keep : ∀ i h h', tn i h → (∀ b ∈ fp, ∀ o, h.get? b = some o → h'.get? b = some o) → tn i h'
  item : ∀ (X : Cx), X.prog = P → X.w = w → X.K = K → X.calm = true → ∀ (i : Nat) (pins : List (Addr × Obj)) (s : Shared) (σ : St) (H : Hp) (E : Value → Shared → Prop), Inv X pins σ H s → (∀ b ∈ fp, FpOk X pins H b) → tn i s.heap → J.go i H →
    wpAny (model P w) X.A (pyNext (.ref it)) (fun r s1 => ∃ u, r = some u ∧
      wpAny (model P w) X.A (letOwnedTupleGo tg (.ref it) u) (fun _ s2 => ∃ x H', Inv X pins σ H' s2 ∧ RelV x u ∧ J.yld i H x H' ∧ tn (i + 1) s2.heap ∧ ∀ b ∈ fp, H' b = none) E s1) E s
  done : ∀ (X : Cx), X.prog = P → X.w = w → X.K = K → X.calm = true → ∀ (i : Nat) (pins : List (Addr × Obj)) (s : Shared) (σ : St) (H : Hp) (E : Value → Shared → Prop), Inv X pins σ H s → (∀ b ∈ fp, FpOk X pins H b) → tn i s.heap → J.stop i H →
    wpAny (model P w) X.A (pyNext (.ref it)) (fun r s1 => r = none ∧ Inv X pins σ H s1) E s
  self : ∀ (A : Around) (i : Nat) (s : Shared) (Q : Value → Shared → Prop) (E : Value → Shared → Prop), tn i s.heap → Q (.ref it) s → wpAny (model P w) A (pyIter (.ref it)) Q E s
abbrev TI := St → Hp → (It → Hp → Prop) → Prop
/-- an iterator has come -/
def PIE (X : Cx) (pins : List (Addr × Obj)) (σ : St) (tg : Expr) (R : It → Hp → Prop) (itv : Value) (s2 : Shared) : Prop :=
  ∃ (it : Addr) (fp : List Addr) (tn : Nat → Heap → Prop) (J : It) (H' : Hp), itv = .ref it ∧ Inv X pins σ H' s2 ∧ Turn X.prog X.w X.K tg J fp it tn ∧ tn 0 s2.heap ∧ (∀ b ∈ fp, FpOk X pins H' b) ∧ R J H'
def PI (X : Cx) (tg iter : Expr) (wi : TI) : Prop :=
  ∀ (pins : List (Addr × Obj)) (s : Shared) (σ : St) (H : Hp) (R : It → Hp → Prop), Inv X pins σ H s → wi σ H R →
    wpAny (model X.prog X.w) X.A (eval iter X.env) (fun v s1 => wpAny (model X.prog X.w) X.A (pyIter v) (PIE X pins σ tg R) X.xe s1) X.xe s

/-- the step ahead of the store is nothing for an iterator that keeps no tuple -/
theorem go_of {M : Model} {A : Around} {E : Value → Shared → Prop} {s : Shared} {tg : Expr} {it : Addr} {u : Value} {o : Obj} {n : String} {vs : Array Value} {Q : Unit → Shared → Prop} (ho : s.heap.get? it = some o) (hc : o.cls = .type n) (hd : o.data = .fields vs)
    (hn : ["enumerate", "zip", "dict_itemiterator", "dict_reverseitemiterator", "odict_iterator", "itertools.zip_longest", "itertools.pairwise"].contains n = false) (hQ : Q () s) : wpAny M A (letOwnedTupleGo tg (.ref it) u) Q E s := by
  unfold letOwnedTupleGo
  cases tg <;> first
    | exact wpAny_pure hQ
    | (cases u <;> first
        | exact wpAny_pure hQ
        | (refine wpAny_bind (wpAny_load ho ?_)
           rw [hc, hd]
           show wpAny M A (if (["enumerate", "zip", "dict_itemiterator", "dict_reverseitemiterator", "odict_iterator", "itertools.zip_longest", "itertools.pairwise"].contains n && vs[0]? == some (rawInt _)) = true then _ else _) Q E s
           rw [if_neg (by intro h; rw [hn, Bool.false_and] at h; cases h)]
           exact wpAny_pure hQ))

/-- the list at a, as it stands at each turn (a loop may append to it) -/
def Itl (K : PySem.W.Frag) (a : Addr) : It :=
  ⟨fun i H => ∃ xs x, SqL K H a xs ∧ xs[i]? = some x, fun i H x H' => H' = H ∧ ∀ xs, SqL K H a xs → xs[i]? = some x, fun i H => ∃ xs, SqL K H a xs ∧ xs.length ≤ i⟩
def Itt (K : PySem.W.Frag) (a : Addr) : It :=
  ⟨fun i H => ∃ xs x, SqT K H a xs ∧ xs[i]? = some x, fun i H x H' => H' = H ∧ ∀ xs, SqT K H a xs → xs[i]? = some x, fun i H => ∃ xs, SqT K H a xs ∧ xs.length ≤ i⟩
/-- lo, lo + 1, .. (n of them) -/
def Itr (lo : Int) (n : Nat) : It := ⟨fun i _ => i < n, fun i H x H' => H' = H ∧ x = .int (lo + i), fun i _ => n ≤ i⟩
theorem turn_list {P : Program} {w : World} {K : PySem.W.Frag} {tg : Expr} (a it : Addr) : Turn P w K tg (Itl K a) [it] it (fun i h => h.IsListIter it a i) where
  mem := by simp
  obj := fun i h st b hb => by
    have e : b = it := by simpa using hb
    subst e
    obtain ⟨o, e, c, d⟩ := st
    exact ⟨o, e, fun v z => by rw [d] at z; cases z⟩
  keep := fun i h h' st k => st.at fun o e => k it (by simp) o e
  item := by
    intro X hP hw hK hc i pins s σ H E I hf st hg
    subst hP hw hK
    obtain ⟨xs, x, hq, hx⟩ := hg
    obtain ⟨its, rv, p, hz⟩ := I.list hq
    obtain ⟨u, hu, ru⟩ := rv.get hx
    obtain ⟨f0, f1, f2, f3, f4, f5⟩ := hf it (by simp)
    refine wpAny_pyNext_list_item st p.isList (x := u) (by simpa using hu) fun h' st' sb => ?_
    have I1 : Inv X pins σ H { s with heap := h' } := I.turned (t' := s.toks) (fun b o hb e => (sb.2 b hb).trans e) f0 f1 f3 f4 f5
    obtain ⟨o, e, c, d⟩ := id st'
    exact ⟨u, rfl, go_of (s := { s with heap := h' }) e c d (by decide) ⟨x, H, I1, ru, ⟨rfl, fun ys hy => by rw [I.list_inj hy hq]; exact hx⟩, st', fun b hb => (hf b hb).1⟩⟩
  done := by
    intro X hP hw hK hc i pins s σ H E I hf st hg
    subst hP hw hK
    obtain ⟨xs, hq, hx⟩ := hg
    obtain ⟨its, rv, p, hz⟩ := I.list hq
    obtain ⟨f0, f1, f2, f3, f4, f5⟩ := hf it (by simp)
    have hl := rv.length
    exact wpAny_pyNext_list_end (I.ok.hd hc) st p.isList (by simp; omega) fun h' eb => ⟨rfl, I.turned (t' := s.toks) (fun b o hb e => eb b o hb e) f0 f1 f3 f4 f5⟩
  self := fun _ _ _ _ _ st h => wpAny_pyIter_listiter st h
end L2

namespace L2
open PySem PySem.Spec PyProof.Rows
section
variable {X : Cx} {tg : Expr}
def iList (K : PySem.W.Frag) (tl : TE) : TI := fun σ H R => tl σ H fun x H1 => ∃ a, x = .ref a ∧ (∃ xs, SqL K H1 a xs) ∧ R (Itl K a) H1
def iTup (K : PySem.W.Frag) (tl : TE) : TI := fun σ H R => tl σ H fun x H1 => ∃ a, x = .ref a ∧ (∃ xs, SqT K H1 a xs) ∧ R (Itt K a) H1
theorem pi_list {l : Expr} {tl : TE} (hl : PE X l tl) : PI X tg l (iList X.K tl) := by
  intro pins s σ H R I h
  refine thn (hl pins s σ H _ I h) fun v s1 ⟨x, H1, I1, r1, q1⟩ => ?_
  obtain ⟨a, e, ⟨xs, hq⟩, q⟩ := q1
  subst e
  cases r1
  obtain ⟨its, rv, p, hz⟩ := I1.list hq
  refine wpAny_pyIter_list p.isList ?_
  refine ⟨s1.heap.objs.size, [s1.heap.objs.size], _, _, H1, rfl, I1.kept (t' := s1.toks) fun b o e => Heap.get?_push_of_some _ e, turn_list a _, ⟨_, Heap.get?_push_size _ rfl, rfl, rfl⟩, fun b hb => ?_, q⟩
  have e : b = s1.heap.objs.size := by simpa using hb
  subst e
  exact I1.fpOk (Nat.le_refl _) (I1.hok.fresh (Nat.le_refl _))
def iRng1 (ta : TA) : TI := fun σ H R => ta σ H fun vs H1 => ∃ j : Int, vs = [.int j] ∧ -(2 ^ 62) ≤ j ∧ j < 2 ^ 62 ∧ R (Itr 0 j.toNat) H1
def iRng2 (ta : TA) : TI := fun σ H R => ta σ H fun vs H1 => ∃ i j : Int, vs = [.int i, .int j] ∧ (-(2 ^ 62) ≤ i ∧ i < 2 ^ 62 ∧ -(2 ^ 62) ≤ j ∧ j < 2 ^ 62) ∧ R (Itr i (j - i).toNat) H1
/-! ### for -/
/-- W: the invariant by the turn and a measure; N: what the body is to reach -/
def tFor (wi : TI) (g : TG) (tb : TS) : TS := fun D σ H => wi σ H fun J H1 => ∃ W : Nat → Nat → St → Hp → Prop, (∃ m, W 0 m σ H1) ∧ ∀ i m σ H, W i m σ H →
  (J.stop i H ∧ D.nx σ H) ∨ (J.go i H ∧ ∃ N : St → Hp → Prop, (∀ σ' H', N σ' H' → ∃ m', m' < m ∧ W (i + 1) m' σ' H') ∧ ∀ x H', J.yld i H x H' → g x σ H' fun σ2 H2 => tb { D with nx := N, ct := N, bk := D.nx } σ2 H2)
/-- the records at fp as they stand -/
def pinsAt (fp : List Addr) (h : Heap) : List (Addr × Obj) := fp.filterMap fun b => (h.get? b).map fun o => (b, o)
theorem mem_pinsAt {fp : List Addr} {h : Heap} {b : Addr} {o : Obj} (hb : b ∈ fp) (e : h.get? b = some o) : (b, o) ∈ pinsAt fp h := List.mem_filterMap.mpr ⟨b, hb, by rw [e]; rfl⟩
theorem of_pinsAt {fp : List Addr} {h : Heap} {p : Addr × Obj} (hp : p ∈ pinsAt fp h) : p.1 ∈ fp ∧ h.get? p.1 = some p.2 := by
  obtain ⟨b, hb, e⟩ := List.mem_filterMap.mp hp
  cases q : h.get? b with
  | none => rw [q] at e; cases e
  | some o =>
    rw [q] at e
    have e' : (b, o) = p := Option.some.inj e
    subst e'
    exact ⟨hb, q⟩
theorem Inv.pinned {pins : List (Addr × Obj)} {σ : St} {H : Hp} {s : Shared} {fp : List Addr} (I : Inv X pins σ H s) (hf : ∀ b ∈ fp, FpOk X pins H b) (ho : ∀ b ∈ fp, ∃ o, s.heap.get? b = some o ∧ ∀ v, o.data ≠ .cell v) : Inv X (pins ++ pinsAt fp s.heap) σ H s :=
  I.pins_of fun p hp => (List.mem_append.mp hp).elim (fun z => I.pin p (List.mem_append_right _ z)) fun z => by
    obtain ⟨hb, e⟩ := of_pinsAt z
    obtain ⟨f0, f1, f2, _⟩ := hf p.1 hb
    obtain ⟨o, e', d⟩ := ho p.1 hb
    rw [e] at e'; cases e'
    exact ⟨e, f0, f1, f2, d⟩
theorem Inv.unpinned {pins pl : List (Addr × Obj)} {σ : St} {H : Hp} {s : Shared} (I : Inv X (pins ++ pl) σ H s) : Inv X pins σ H s := I.pins_of fun p hp => I.pin p (List.mem_append_right _ (List.mem_append_left _ hp))
theorem ps_for {iter : Expr} {body : List Stmt} {wi : TI} {g : TG} {tb : TS} {pos : Pos} (hp : PassesOwn (model X.prog X.w) X.A X.env X.xe) (hc : X.calm = true) (hi : PI X tg iter wi) (hg : PG X tg g) (hb : PSs X body tb)
    (hs : ∀ x, foldedSetIterable iter X.env x = pure x := by intro _; rfl) : PS X (.For tg iter body [] pos) (tFor wi g tb) := by
  intro pins s σ H D I h
  refine wpAny_For (thn (hi pins s σ H _ I h) fun v s1 h1 => thn h1 fun itv s2 h2 => ?_) hs
  obtain ⟨it, fp, tn, J, H2, e, I2, T, st2, f2, W, ⟨m0, w0⟩, turn⟩ := h2
  subst e
  -- what stays true of the iterator's objects through the loop
  have stat : ∀ {H' : Hp}, (∀ b ∈ fp, H' b = none) → ∀ b ∈ fp, FpOk X pins H' b := fun hn b hb => ⟨hn b hb, (f2 b hb).2⟩
  refine codeAny_forLoop_any (fun n s' => ∃ i σ' H', Inv X pins σ' H' s' ∧ tn i s'.heap ∧ (∀ b ∈ fp, H' b = none) ∧ W i n σ' H') ?_ m0 ⟨0, σ, H2, I2, st2, fun b hb => (f2 b hb).1, w0⟩
  rintro n s3 ⟨i, σ3, H3, I3, st3, fr3, w3⟩
  rcases turn i n σ3 H3 w3 with ⟨stop, qn⟩ | ⟨go, N, hN, step⟩
  · refine wpAny_passesOwn hp (thn (T.done X rfl rfl rfl hc i pins s3 σ3 H3 X.xe I3 (stat fr3) st3 stop) fun r s4 ⟨hr, I4⟩ => ?_)
    subst hr
    exact wpAny_execs_nil ⟨σ3, H3, I4, qn⟩
  · refine wpAny_passesOwn hp (thn (T.item X rfl rfl rfl hc i pins s3 σ3 H3 X.xe I3 (stat fr3) st3 go) fun r s4 ⟨u, hr, h4⟩ => ?_)
    subst hr
    refine wpAny_passesOwn hp (thn h4 fun _ s5 ⟨x, H5, I5, r5, y5, st5, fr5⟩ => ?_)
    have I5' := I5.pinned (stat fr5) (T.obj _ _ st5)
    refine wpAny_passesOwn hp (thn (hg _ s5 σ3 H5 x u _ I5' r5 (step x H5 y5)) fun _ s6 ⟨σ6, H6, I6, q6⟩ => ?_)
    refine wpAny_passesOwn hp (thn (hb _ s6 σ6 H6 _ I6 q6) fun f s7 q7 => ?_)
    have again : ∀ {σ7 : St} {H7 : Hp}, Inv X (pins ++ pinsAt fp s5.heap) σ7 H7 s7 → N σ7 H7 → ∃ m, m < n ∧ ∃ i σ' H', Inv X pins σ' H' s7 ∧ tn i s7.heap ∧ (∀ b ∈ fp, H' b = none) ∧ W i m σ' H' := fun {σ7 H7} I7 n7 => by
      obtain ⟨m', hm, w7⟩ := hN σ7 H7 n7
      refine ⟨m', hm, i + 1, σ7, H7, I7.unpinned, T.keep _ _ _ st5 fun b hb o e => (I7.pin (b, o) (List.mem_append_right _ (List.mem_append_right _ (mem_pinsAt hb e)))).1, fun b hb => ?_, w7⟩
      obtain ⟨o, e, d⟩ := T.obj _ _ st5 b hb
      exact (I7.pin (b, o) (List.mem_append_right _ (List.mem_append_right _ (mem_pinsAt hb e)))).2.1
    cases f with
    | next => obtain ⟨σ7, H7, I7, n7⟩ := q7; exact again I7 n7
    | cont => obtain ⟨σ7, H7, I7, n7⟩ := q7; exact again I7 n7
    | brk => obtain ⟨σ7, H7, I7, q7⟩ := q7; exact ⟨σ7, H7, I7.unpinned, q7⟩
    | ret v => obtain ⟨x7, σ7, H7, I7, r7, q7⟩ := q7; exact ⟨x7, σ7, H7, I7.unpinned, r7, q7⟩
end

/-! ### the forms one uses -/
end L2

namespace L2
open PySem PySem.Spec PyProof.Rows

abbrev R2 := V → V → Hp → VK → Prop
/-- a two-place operation on values: f is binaryOp op, inplaceOp op or compareOp op -/
def OpR (X : Cx) (f : Value → Value → Sem Value) (r : R2) : Prop :=
  ∀ (pins : List (Addr × Obj)) (s : Shared) (σ : St) (H : Hp) (x y : V) (v u : Value) (Q : VK), Inv X pins σ H s → RelV x v → RelV y u → r x y H Q →
    wpAny (model X.prog X.w) X.A (f v u) (EP X pins σ Q) X.xe s
/-- a one-place operation -/
def UnR (X : Cx) (f : Value → Sem Value) (r : V → Hp → VK → Prop) : Prop :=
  ∀ (pins : List (Addr × Obj)) (s : Shared) (σ : St) (H : Hp) (x : V) (v : Value) (Q : VK), Inv X pins σ H s → RelV x v → r x H Q →
    wpAny (model X.prog X.w) X.A (f v) (EP X pins σ Q) X.xe s
/-- a call of a value that is known (a builtin, a type) with values -/
def CallR (X : Cx) (f : Value) (r : List V → Hp → VK → Prop) : Prop :=
  ∀ (pins : List (Addr × Obj)) (s : Shared) (σ : St) (H : Hp) (xs : List V) (us : List Value) (Q : VK), Inv X pins σ H s → Vals xs us → r xs H Q →
    wpAny (model X.prog X.w) X.A (call f us) (EP X pins σ Q) X.xe s
/-- a value's truth -/
def TruR (X : Cx) (r : V → Hp → (Bool → Hp → Prop) → Prop) : Prop :=
  ∀ (pins : List (Addr × Obj)) (s : Shared) (σ : St) (H : Hp) (x : V) (v : Value) (Q : Bool → Hp → Prop), Inv X pins σ H s → RelV x v → r x H Q →
    wpAny (model X.prog X.w) X.A (truthy v) (TP X pins σ Q) X.xe s

def tOp (r : R2) (ta tb : TE) : TE := fun σ H Q => ta σ H fun x H1 => tb σ H1 fun y H2 => r x y H2 Q
def tUn (r : V → Hp → VK → Prop) (ta : TE) : TE := fun σ H Q => ta σ H fun x H1 => r x H1 Q
/-- ints in, under C, and a value out -/
def rI (C : Int → Int → Prop) (g : Int → Int → V) : R2 := fun x y H Q => ∃ i j, x = .int i ∧ y = .int j ∧ C i j ∧ Q (g i j) H
def rI0 (g : Int → Int → V) : R2 := fun x y H Q => ∃ i j, x = .int i ∧ y = .int j ∧ Q (g i j) H
def rU (g : Int → V) : V → Hp → VK → Prop := fun x H Q => ∃ i, x = .int i ∧ Q (g i) H

section
variable {X : Cx} {a b c : Expr} {ta tb tc : TE} {pos : Pos}

theorem binT (ha : PE X a ta) (hb : PE X b tb) {pins : List (Addr × Obj)} {s : Shared} {σ : St} {H : Hp} {R : V → V → Hp → Prop} (I : Inv X pins σ H s)
    (h : ta σ H fun x H1 => tb σ H1 fun y H2 => R x y H2) {Q : Value → Shared → Prop} {f : Value → Value → Sem Value}
    (hf : ∀ v u s2 x y H2, Inv X pins σ H2 s2 → RelV x v → RelV y u → R x y H2 → wpAny (model X.prog X.w) X.A (f v u) Q X.xe s2) :
    wpAny (model X.prog X.w) X.A (eval a X.env) (fun v s₁ => wpAny (model X.prog X.w) X.A (eval b X.env) (fun u s₂ => wpAny (model X.prog X.w) X.A (f v u) Q X.xe s₂) X.xe s₁) X.xe s := by
  refine thn (ha pins s σ H _ I h) fun v s1 ⟨x, H1, I1, r1, q1⟩ => ?_
  refine thn (hb pins s1 σ H1 _ I1 q1) fun u s2 ⟨y, H2, I2, r2, q2⟩ => ?_
  exact hf v u s2 x y H2 I2 r1 r2 q2

theorem pe_op {op : Operator} {r : R2} (ho : OpR X (binaryOp op) r) (ha : PE X a ta) (hb : PE X b tb) : PE X (.BinOp a op b pos) (tOp r ta tb) := by
  intro pins s σ H Q I h
  exact wpAny_BinOp (binT ha hb I h fun v u s2 x y H2 I2 rx ry q => ho pins s2 σ H2 x y v u Q I2 rx ry q)
/-! ### ints -/
theorem opI {f : Value → Value → Sem Value} {C : Int → Int → Prop} {g : Int → Int → Int}
    (rule : ∀ (i j : Int) (t u : Tok) (s : Shared) (Q : Value → Shared → Prop) (E : Value → Shared → Prop), C i j → Q (.int (g i j) s.toks) { s with toks := s.toks + 1 } → wpAny (model X.prog X.w) X.A (f (.int i t) (.int j u)) Q E s) :
    OpR X f (rI C fun i j => .int (g i j)) := by
  intro pins s σ H x y v u Q I rx ry h
  obtain ⟨i, j, rfl, rfl, hc, q⟩ := h
  obtain ⟨t, rfl⟩ := rx
  obtain ⟨t', rfl⟩ := ry
  exact rule i j t t' s _ _ hc ⟨.int (g i j), H, I.tok _, ⟨_, rfl⟩, q⟩
theorem opI0 {f : Value → Value → Sem Value} {g : Int → Int → Int}
    (rule : ∀ (i j : Int) (t u : Tok) (s : Shared) (Q : Value → Shared → Prop) (E : Value → Shared → Prop), Q (.int (g i j) s.toks) { s with toks := s.toks + 1 } → wpAny (model X.prog X.w) X.A (f (.int i t) (.int j u)) Q E s) :
    OpR X f (rI0 fun i j => .int (g i j)) := by
  intro pins s σ H x y v u Q I rx ry h
  obtain ⟨i, j, rfl, rfl, q⟩ := h
  obtain ⟨t, rfl⟩ := rx
  obtain ⟨t', rfl⟩ := ry
  exact rule i j t t' s _ _ ⟨.int (g i j), H, I.tok _, ⟨_, rfl⟩, q⟩
theorem opB0 {f : Value → Value → Sem Value} {g : Int → Int → Bool}
    (rule : ∀ (i j : Int) (t u : Tok) (s : Shared) (Q : Value → Shared → Prop) (E : Value → Shared → Prop), Q (.bool (g i j)) s → wpAny (model X.prog X.w) X.A (f (.int i t) (.int j u)) Q E s) :
    OpR X f (rI0 fun i j => .bl (g i j)) := by
  intro pins s σ H x y v u Q I rx ry h
  obtain ⟨i, j, rfl, rfl, q⟩ := h
  obtain ⟨t, rfl⟩ := rx
  obtain ⟨t', rfl⟩ := ry
  exact rule i j t t' s _ _ ⟨.bl (g i j), H, I, rfl, q⟩

def CDiv (i j : Int) : Prop := 0 < j ∧ j < 1073741824
def CDivN (i j : Int) : Prop := j ≠ 0 ∧ j.natAbs < 1073741824
def CPow (i j : Int) : Prop := 0 ≤ j ∧ j ≤ 1000000 ∧ i.natAbs < 2 ^ 64
def CMul (i j : Int) : Prop := (-(2 ^ 64) < i ∧ i < 2 ^ 64) ∨ (-(2 ^ 64) < j ∧ j < 2 ^ 64)
theorem CMul.ok {i j : Int} (h : CMul i j) : IntMulOk i j := by
  rcases h with ⟨h1, h2⟩ | ⟨h1, h2⟩
  · exact .of_left (intBits_le_64 h1 h2)
  · exact .of_right (intBits_le_64 h1 h2)
theorem op_add : OpR X (binaryOp .Add) (rI0 fun i j => .int (i + j)) := opI0 fun _ _ _ _ _ _ _ q => add_int q
/-- % by a positive divisor of any size -/
theorem op_mod : OpR X (binaryOp .Mod) (rI (fun _ j => 0 < j) fun i j => .int (i % j)) := opI fun i j _ _ _ _ _ hc q => by
  have h1 : (0 : Int) < j := hc
  exact mod_int' (by omega) (by rw [Int.fmod_eq_emod_of_nonneg i (by omega)]; exact q)
/-! ### bools among ints: n += (a < b) -/
end

/-! ### comparisons -/
/-- the scalars that == tells apart as data does -/
def scal : V → V → Bool
  | .non, .non => true | .non, .int _ => true | .int _, .non => true | .non, .bl _ => true | .bl _, .non => true | .non, .str _ => true | .str _, .non => true
  | .int _, .int _ => true | .bl _, .bl _ => true | .str _, .str _ => true | .byt _, .byt _ => true
  | .int _, .str _ => true | .str _, .int _ => true | .bl _, .str _ => true | .str _, .bl _ => true
  | _, _ => false
def rEq : R2 := fun x y H Q => scal x y = true ∧ Q (.bl (decide (x = y))) H
def rNe : R2 := fun x y H Q => scal x y = true ∧ Q (.bl (!decide (x = y))) H

theorem dec_int {i j : Int} : decide (V.int i = V.int j) = (i == j) := by
  rw [Bool.eq_iff_iff]
  simp
theorem dec_bl {i j : Bool} : decide (V.bl i = V.bl j) = (i == j) := by
  rw [Bool.eq_iff_iff]
  simp
theorem dec_str {i j : Str} : decide (V.str i = V.str j) = (i == j) := by
  rw [Bool.eq_iff_iff]
  simp
theorem dec_byt {i j : Array UInt8} : decide (V.byt i = V.byt j) = (i.toList == j.toList) := by
  rw [Bool.eq_iff_iff]
  cases i
  cases j
  simp

section
variable {X : Cx} {a b c : Expr} {ta tb tc : TE} {pos : Pos}
theorem fin_bl {pins : List (Addr × Obj)} {σ : St} {H : Hp} {s : Shared} {Q : VK} {k k' : Bool} (I : Inv X pins σ H s) (q : Q (.bl k) H) (e : k = k') : EP X pins σ Q (.bool k') s := by
  subst e
  exact ⟨.bl k, H, I, rfl, q⟩
theorem op_eq : OpR X (compareOp .Eq) rEq := by
  intro pins s σ H x y v u Q I rx ry h
  obtain ⟨hs, q⟩ := h
  cases x with
  | non =>
    cases rx
    cases y with
    | non => cases ry; exact PySem.EqNone.eq_none_none (fin_bl I q (by simp))
    | bl j => cases ry; exact PySem.EqNone.eq_none_bool (fin_bl I q (by simp))
    | int j => obtain ⟨t', rfl⟩ := ry; exact PySem.EqNone.eq_none_int (fin_bl I q (by simp))
    | str j => obtain ⟨t', rfl⟩ := ry; exact PySem.EqNone.eq_none_str (fin_bl I q (by simp))
    | _ => exact absurd (show false = true from hs) Bool.false_ne_true
  | bl i =>
    cases rx
    cases y with
    | non => cases ry; exact PySem.EqNone.eq_bool_none (fin_bl I q (by simp))
    | bl j => cases ry; exact eq_bool (fin_bl I q dec_bl)
    | str j => obtain ⟨t', rfl⟩ := ry; exact PySem.EqMixed.eq_bool_str (fin_bl I q (by simp))
    | _ => exact absurd (show false = true from hs) Bool.false_ne_true
  | int i =>
    obtain ⟨t, rfl⟩ := rx
    cases y with
    | non => cases ry; exact PySem.EqNone.eq_int_none (fin_bl I q (by simp))
    | int j => obtain ⟨t', rfl⟩ := ry; exact eq_int (fin_bl I q dec_int)
    | str j => obtain ⟨t', rfl⟩ := ry; exact PySem.EqMixed.eq_int_str (fin_bl I q (by simp))
    | _ => exact absurd (show false = true from hs) Bool.false_ne_true
  | str i =>
    obtain ⟨t, rfl⟩ := rx
    cases y with
    | non => cases ry; exact PySem.EqNone.eq_str_none (fin_bl I q (by simp))
    | bl j => cases ry; exact PySem.EqMixed.eq_str_bool (fin_bl I q (by simp))
    | int j => obtain ⟨t', rfl⟩ := ry; exact PySem.EqMixed.eq_str_int (fin_bl I q (by simp))
    | str j => obtain ⟨t', rfl⟩ := ry; exact eq_str (fin_bl I q dec_str)
    | _ => exact absurd (show false = true from hs) Bool.false_ne_true
  | byt i =>
    obtain ⟨t, rfl⟩ := rx
    cases y with
    | byt j => obtain ⟨t', rfl⟩ := ry; exact PySem.W.eq_bytes (fin_bl I q dec_byt)
    | _ => exact absurd (show false = true from hs) Bool.false_ne_true
  | _ => cases y <;> exact absurd (show false = true from hs) Bool.false_ne_true
theorem op_ne : OpR X (compareOp .NotEq) rNe := by
  intro pins s σ H x y v u Q I rx ry h
  obtain ⟨hs, q⟩ := h
  cases x with
  | non =>
    cases rx
    cases y with
    | non => cases ry; exact PySem.EqNone.ne_none_none (fin_bl I q (by simp))
    | bl j => cases ry; exact PySem.EqNone.ne_none_bool (fin_bl I q (by simp))
    | int j => obtain ⟨t', rfl⟩ := ry; exact PySem.EqNone.ne_none_int (fin_bl I q (by simp))
    | str j => obtain ⟨t', rfl⟩ := ry; exact PySem.EqNone.ne_none_str (fin_bl I q (by simp))
    | _ => exact absurd (show false = true from hs) Bool.false_ne_true
  | bl i =>
    cases rx
    cases y with
    | non => cases ry; exact PySem.EqNone.ne_bool_none (fin_bl I q (by simp))
    | bl j => cases ry; exact ne_bool (fin_bl I q (congrArg not dec_bl))
    | str j => obtain ⟨t', rfl⟩ := ry; exact PySem.EqMixed.ne_bool_str (fin_bl I q (by simp))
    | _ => exact absurd (show false = true from hs) Bool.false_ne_true
  | int i =>
    obtain ⟨t, rfl⟩ := rx
    cases y with
    | non => cases ry; exact PySem.EqNone.ne_int_none (fin_bl I q (by simp))
    | int j => obtain ⟨t', rfl⟩ := ry; exact ne_int (fin_bl I q (congrArg not dec_int))
    | str j => obtain ⟨t', rfl⟩ := ry; exact PySem.EqMixed.ne_int_str (fin_bl I q (by simp))
    | _ => exact absurd (show false = true from hs) Bool.false_ne_true
  | str i =>
    obtain ⟨t, rfl⟩ := rx
    cases y with
    | non => cases ry; exact PySem.EqNone.ne_str_none (fin_bl I q (by simp))
    | bl j => cases ry; exact PySem.EqMixed.ne_str_bool (fin_bl I q (by simp))
    | int j => obtain ⟨t', rfl⟩ := ry; exact PySem.EqMixed.ne_str_int (fin_bl I q (by simp))
    | str j => obtain ⟨t', rfl⟩ := ry; exact ne_str (fin_bl I q (congrArg not dec_str))
    | _ => exact absurd (show false = true from hs) Bool.false_ne_true
  | byt i =>
    obtain ⟨t, rfl⟩ := rx
    cases y with
    | byt j => obtain ⟨t', rfl⟩ := ry; exact PySem.W.ne_bytes (fin_bl I q (congrArg not dec_byt))
    | _ => exact absurd (show false = true from hs) Bool.false_ne_true
  | _ => cases y <;> exact absurd (show false = true from hs) Bool.false_ne_true

theorem op_lt : OpR X (compareOp .Lt) (rI0 fun i j => .bl (decide (i < j))) := opB0 fun _ _ _ _ _ _ _ q => lt_int q
theorem op_le : OpR X (compareOp .LtE) (rI0 fun i j => .bl (decide (i ≤ j))) := opB0 fun _ _ _ _ _ _ _ q => le_int q
theorem op_gt : OpR X (compareOp .Gt) (rI0 fun i j => .bl (decide (j < i))) := opB0 fun _ _ _ _ _ _ _ q => gt_int q
/-- the one string within the other -/
theorem op_in_str : OpR X (compareOp .In) (fun x y H Q => ∃ i j, x = .str i ∧ y = .str j ∧ Q (.bl (!(Builtin.Str.occurrences j i 0 j.length 1).isEmpty)) H) := by
  intro pins s σ H x y v u Q I rx ry h
  obtain ⟨i, j, rfl, rfl, q⟩ := h
  obtain ⟨t, rfl⟩ := rx
  obtain ⟨t', rfl⟩ := ry
  exact in_str (fin_bl I q rfl)

/-- is None, is not None: the right side a value none -/
theorem op_isN : OpR X (compareOp .Is) (fun x y H Q => y = .non ∧ Q (.bl (decide (x = .non))) H) := by
  intro pins s σ H x y v u Q I rx ry h
  obtain ⟨rfl, q⟩ := h
  cases ry
  refine is_none_gen (fin_bl I q ?_)
  cases x <;> first
    | (cases rx; rfl)
    | (obtain ⟨t, rfl⟩ := rx; rfl)
theorem op_notN : OpR X (compareOp .IsNot) (fun x y H Q => y = .non ∧ Q (.bl (!decide (x = .non))) H) := by
  intro pins s σ H x y v u Q I rx ry h
  obtain ⟨rfl, q⟩ := h
  cases ry
  refine isnot_none_gen (fin_bl I q ?_)
  cases x <;> first
    | (cases rx; rfl)
    | (obtain ⟨t, rfl⟩ := rx; rfl)

theorem op_notin_str : OpR X (compareOp .NotIn) (fun x y H Q => ∃ i j, x = .str i ∧ y = .str j ∧ Q (.bl (!(!(Builtin.Str.occurrences j i 0 j.length 1).isEmpty))) H) := by
  intro pins s σ H x y v u Q I rx ry h
  obtain ⟨i, j, rfl, rfl, q⟩ := h
  obtain ⟨t, rfl⟩ := rx
  obtain ⟨t', rfl⟩ := ry
  exact notIn_str (fin_bl I q rfl)
/-- is, is not of two objects that are tracked lists or instances -/
def isObj : HO → Bool
  | .lst _ => true
  | .ins _ _ _ => true
  | _ => false
/-- two rules for one operation: by cases -/
theorem OpR.or {f : Value → Value → Sem Value} {r r' : R2} (h : OpR X f r) (h' : OpR X f r') : OpR X f (fun x y H Q => r x y H Q ∨ r' x y H Q) := by
  intro pins s σ H x y v u Q I rx ry q
  rcases q with q | q
  · exact h pins s σ H x y v u Q I rx ry q
  · exact h' pins s σ H x y v u Q I rx ry q

theorem nomark (b : Expr) {op : CmpOp} (h : op ≠ .In := by decide) (h2 : op ≠ .NotIn := by decide) : behindInMarks op b = false := by
  have e1 : (op == CmpOp.In) = false := by cases op <;> first | rfl | exact absurd rfl h
  have e2 : (op == CmpOp.NotIn) = false := by cases op <;> first | rfl | exact absurd rfl h2
  cases b <;> simp [behindInMarks, e1, e2]
/-- a comparison as a value; hm: nomark b, or (for in, not in) by with_unfolding_all rfl -/
theorem pe_cmpR {op : CmpOp} {r : R2} (ho : OpR X (compareOp op) r) (ha : PE X a ta) (hb : PE X b tb) (hm : behindInMarks op b = false) : PE X (.Compare a [op] [b] pos) (tOp r ta tb) := by
  intro pins s σ H Q I h
  exact wpAny_Compare1 (binT ha hb I h fun v u s2 x y H2 I2 rx ry q => ho pins s2 σ H2 x y v u Q I2 rx ry q) hm
/-- a reading of a value as a test -/
def tTest (t : TE) : TT := fun σ H Q => t σ H fun x H' => ∃ k, x = .bl k ∧ Q k H'
theorem pt_cmpR {op : CmpOp} {r : R2} (ho : OpR X (compareOp op) r) (ha : PE X a ta) (hb : PE X b tb) (hm : behindInMarks op b = false) : PT X (.Compare a [op] [b] pos) (tTest (tOp r ta tb)) := by
  intro pins s σ H Q I h
  refine wpAny_isTrue_Compare1 (thn (ha pins s σ H _ I h) fun v s1 ⟨x, H1, I1, r1, q1⟩ => thn (hb pins s1 σ H1 _ I1 q1) fun u s2 ⟨y, H2, I2, r2, q2⟩ =>
    thn (ho pins s2 σ H2 x y v u _ I2 r1 r2 q2) fun c s3 ⟨z, H3, I3, r3, k, e, q3⟩ => ?_) hm
  subst e
  cases r3
  exact wpAny_truthy_bool ⟨H3, I3, q3⟩
/-- a op1 b op2 c -/
def tChain (r r' : R2) (ta tb tc : TE) : TE := fun σ H Q => ta σ H fun x H1 => tb σ H1 fun y H2 => r x y H2 fun z H3 => ∃ k, z = .bl k ∧
  (if k = true then tc σ H3 fun w' H4 => r' y w' H4 Q else Q (.bl false) H3)
theorem pe_chain {op op' : CmpOp} {r r' : R2} (ho : OpR X (compareOp op) r) (ho' : OpR X (compareOp op') r') (ha : PE X a ta) (hb : PE X b tb) (hc : PE X c tc)
    (hm : lastMarks [op, op'] [b, c] = false := by with_unfolding_all rfl) : PE X (.Compare a [op, op'] [b, c] pos) (tChain r r' ta tb tc) := by
  intro pins s σ H Q I h
  refine Compare_chain (thn (ha pins s σ H _ I h) fun v s1 ⟨x, H1, I1, r1, q1⟩ => chain_link (thn (hb pins s1 σ H1 _ I1 q1) fun u s2 ⟨y, H2, I2, r2, q2⟩ =>
    thn (ho pins s2 σ H2 x y v u _ I2 r1 r2 q2) fun d s3 ⟨z, H3, I3, r3, k, e, q3⟩ => ?_)) hm
  subst e
  cases r3
  refine wpAny_truthy_bool ?_
  cases k with
  | false => exact ite_ff ⟨.bl false, H3, I3, rfl, q3⟩
  | true => exact ite_tt (chain_last (thn (hc pins s3 σ H3 _ I3 q3) fun w' s4 ⟨z', H4, I4, r4, q4⟩ => ho' pins s4 σ H4 y z' u w' Q I4 r2 r4 q4))
theorem pt_chain {op op' : CmpOp} {r r' : R2} (ho : OpR X (compareOp op) r) (ho' : OpR X (compareOp op') r') (ha : PE X a ta) (hb : PE X b tb) (hc : PE X c tc)
    (hm : lastMarks [op, op'] [b, c] = false := by with_unfolding_all rfl) : PT X (.Compare a [op, op'] [b, c] pos) (tTest (tChain r r' ta tb tc)) := by
  intro pins s σ H Q I h
  refine isTrue_chain (thn (ha pins s σ H _ I h) fun v s1 ⟨x, H1, I1, r1, q1⟩ => test_link (thn (hb pins s1 σ H1 _ I1 q1) fun u s2 ⟨y, H2, I2, r2, q2⟩ =>
    thn (ho pins s2 σ H2 x y v u _ I2 r1 r2 q2) fun d s3 ⟨z, H3, I3, r3, k, e, q3⟩ => ?_)) hm
  subst e
  cases r3
  refine wpAny_truthy_bool ?_
  cases k with
  | false =>
    obtain ⟨k', e', q'⟩ := q3
    cases e'
    exact ite_ff ⟨H3, I3, q'⟩
  | true =>
    refine ite_tt (test_last (thn (hc pins s3 σ H3 _ I3 q3) fun w' s4 ⟨z', H4, I4, r4, q4⟩ => thn (ho' pins s4 σ H4 y z' u w' _ I4 r2 r4 q4) fun d' s5 ⟨z2, H5, I5, r5, k2, e2, q5⟩ => ?_))
    subst e2
    cases r5
    exact wpAny_truthy_bool ⟨H5, I5, q5⟩

/-! ### truth -/
/-- a value's truth by the abstract heap -/
def TruV (K : PySem.W.Frag) (x : V) (H : Hp) (k : Bool) : Prop :=
  match x with
  | .non => k = false
  | .bl b => k = b
  | .int i => k = (i != 0)
  | .str y => y.length ≤ sizeLine ∧ k = ((y.length : Int) != 0)
  | .byt y => y.size ≤ sizeLine ∧ k = ((y.size : Int) != 0)
  | .ref p => (∃ xs, SqL K H p xs ∧ k = !xs.isEmpty) ∨ (∃ xs, SqT K H p xs ∧ k = !xs.isEmpty) ∨ ∃ kvs, H p = some (.dK kvs) ∧ k = !kvs.isEmpty
  | _ => False
theorem line63 : (sizeLine : Nat) < 2 ^ 63 := by rw [sizeLine_eq]; decide
/-! ### strs and bytes -/
theorem op_add_str : OpR X (binaryOp .Add) (fun x y H Q => ∃ i j, x = .str i ∧ y = .str j ∧ i.length + j.length ≤ sizeLine ∧ Q (.str (i ++ j)) H) := by
  intro pins s σ H x y v u Q I rx ry h
  obtain ⟨i, j, rfl, rfl, hz, q⟩ := h
  obtain ⟨t, rfl⟩ := rx
  obtain ⟨t', rfl⟩ := ry
  exact add_str (fun t' tk => ⟨.str (i ++ j), H, I.tok _, ⟨_, rfl⟩, q⟩) hz
def PlainIxT (b : Expr) : Prop := ∀ o i, subscripted b false o i = operate [o, i] (getItem o i)
/-! ### scalar builtins, by CallR -/
theorem vals1 {x : V} {us : List Value} (r : Vals [x] us) : ∃ u, us = [u] ∧ RelV x u := by
  cases r with
  | cons r1 r2 => cases r2; exact ⟨_, rfl, r1⟩
theorem vals2 {x y : V} {us : List Value} (r : Vals [x, y] us) : ∃ u w', us = [u, w'] ∧ RelV x u ∧ RelV y w' := by
  cases r with
  | cons r1 r2 =>
    cases r2 with
    | cons r3 r4 => cases r4; exact ⟨_, _, rfl, r1, r3⟩
theorem call_int1 : CallR X (.type "int") (fun xs H Q => (∃ i, xs = [.int i] ∧ Q (.int i) H) ∨ ∃ k, xs = [.bl k] ∧ Q (.int (if k then 1 else 0)) H) := by
  intro pins s σ H xs us Q I r h
  rcases h with ⟨i, rfl, q⟩ | ⟨k, rfl, q⟩
  · obtain ⟨u, rfl, t, rfl⟩ := vals1 r
    exact call_int_int ⟨.int i, H, I, ⟨_, rfl⟩, q⟩
  · obtain ⟨u, rfl, r1⟩ := vals1 r
    cases r1
    exact call_int_bool ⟨.int (if k then 1 else 0), H, I.tok _, ⟨_, rfl⟩, q⟩
theorem call_str_int : CallR X (.type "str") (fun xs H Q => ∃ i, xs = [.int i] ∧ i.natAbs.log2 < 1920 ∧ Q (.str (toString i)) H) := by
  intro pins s σ H xs us Q I r h
  obtain ⟨i, rfl, hz, q⟩ := h
  obtain ⟨u, rfl, t, rfl⟩ := vals1 r
  exact PySem.P.str_of_int hz ⟨.str _, H, I.tok _, ⟨_, rfl⟩, q⟩
/-- len of a str, a bytes, a list, a tuple -/
def LenV (K : PySem.W.Frag) (x : V) (H : Hp) (n : Nat) : Prop :=
  match x with
  | .str y => y.length ≤ sizeLine ∧ n = y.length
  | .byt y => y.size ≤ sizeLine ∧ n = y.size
  | .ref p => (∃ xs, SqL K H p xs ∧ n = xs.length) ∨ ∃ xs, SqT K H p xs ∧ n = xs.length
  | _ => False
end
end L2

namespace L2
open PySem PySem.Spec PyProof.Rows

/-! ### an instance, its attributes a map -/
structure ObjM (h : Heap) (x dx C : Addr) (mA : Str → Option Value) : Prop where
  obj : h.get? x = some (PySem.W.instObj C dx)
  ns : h.Ns1 dx mA
  ne : dx ≠ x

theorem lookIn_ns {h : Heap} {dx : Addr} {mA : Str → Option Value} (n : h.Ns1 dx mA) : ∃ od, h.get? dx = some od ∧ ∀ name, PySem.W.lookIn name od = some (mA name) := by
  obtain ⟨o, es, ep, ho, hd, hk, _, hm⟩ := n
  refine ⟨o, ho, fun name => ?_⟩
  have e := hm name
  unfold nsFind findBy at e
  rw [← Array.find?_toList] at e
  unfold PySem.W.lookIn
  rw [hd]
  dsimp only
  split
  · rename_i y q
    rw [q] at e
    exact congrArg some e
  · rename_i q
    rw [q] at e
    have a : es.toList.any (·.refKey) = false := by
      rw [List.any_eq_false]
      intro y hy
      obtain ⟨z, t, hkey⟩ := hk y (Array.mem_toList_iff.mp hy)
      simp [DictEntry.refKey, hkey]
    have a' : ¬ es.toList.any (·.refKey) = true := by rw [a]; exact Bool.false_ne_true
    rw [if_neg a']
    exact congrArg some e

theorem ObjM.look {h : Heap} {x dx C : Addr} {mA : Str → Option Value} (I : ObjM h x dx C mA) : ∃ od, PySem.W.InstAt h x (PySem.W.instObj C dx) C (some od) ∧ ∀ name, PySem.W.lookIn name od = some (mA name) :=
  let ⟨od, ho, hl⟩ := lookIn_ns I.ns
  ⟨od, ⟨I.obj, rfl, rfl, ho⟩, hl⟩

section
variable {prog : Program} {w : World} {A : Around} {E : Value → Shared → Prop} {s : Shared} {K : PySem.W.Frag} {x dx C f : Addr} {mA : Str → Option Value} {name : Str} {v : Value}

end

/-! ### the attributes as a list of pairs -/
def putF (f : Str) (v : V) : List (Str × V) → List (Str × V)
  | [] => [(f, v)]
  | (g, x) :: r => if g = f then (g, v) :: r else (g, x) :: putF f v r
theorem RelO.none_of {o : Option Value} (r : RelO none o) : o = none := by
  cases o with
  | none => rfl
  | some u => exact (show False from r).elim
section
variable {P : Program} {w : World} {H H' : Hp} {h h' : Heap} {a C dx : Addr} {fs fs' : List (Str × V)}
theorem ins_get (hok : HOk P w H h) (e : H a = some (.ins C dx fs)) : ∃ mA, ObjM h a dx C mA ∧ (∀ f, RelO (fs.lookup f) (mA f)) ∧ PySem.Within mA (fs.map (·.1)) ∧ fs.length ≤ 1000 ∧ H dx = some (.own a) := by
  obtain ⟨d, z, ne, ob, mA, n, r, q⟩ := (show ObjOk P w H h a (.ins C dx fs) from hok a _ e)
  exact ⟨mA, ⟨ob, n, ne⟩, r, q, z, d⟩
end

/-! ### what of the text a class must have -/
structure Cls (K : PySem.W.Frag) (C : Addr) : Prop where
  pg : PySem.W.plainGet K C Str.empty = true
  hd : PySem.W.hasDictIn K C = true
  po : PySem.W.plainOver K C = true
  sa : PySem.W.findIn K (.ref C) "__setattr__" = some (some (.builtin "object.__setattr__"))
theorem Cls.get {K : PySem.W.Frag} {C : Addr} (c : Cls K C) (f : Str) : PySem.W.plainGet K C f = true := c.pg
/-- no class of it has the name -/
def NoAttr (K : PySem.W.Frag) (C : Addr) (f : Str) : Prop := PySem.W.findIn K (.ref C) f = some none
/-- a constant of the class -/
structure Con (K : PySem.W.Frag) (C : Addr) (f : Str) (v : V) (u : Value) : Prop where
  at_ : PySem.W.findIn K (.ref C) f = some (some u)
  rel : RelV v u
  get : PySem.W.specialIn K u "__get__" = some none
  cp : PySem.W.copiedNames.contains f = false
/-- a method: a plain def of the class or of one above it -/
structure Meth (K : PySem.W.Frag) (C : Addr) (m : Str) (f : Addr) : Prop where
  at_ : PySem.W.findIn K (.ref C) m = some (some (.ref f))
  fn : PySem.W.isFn K (.ref f) = true
  kp : PySem.W.keepIn K (.ref f) = true

section
variable {X : Cx} {pins : List (Addr × Obj)} {σ : St} {H : Hp} {s : Shared} {a C dx : Addr} {fs : List (Str × V)} {f : Str} {v : V} {A : Around} {E : Value → Shared → Prop}

/-- a new instance, tracked, without attributes -/
theorem Inv.made (I : Inv X pins σ H s) : Inv X pins σ (upd (upd H s.heap.objs.size (.own (s.heap.objs.size + 1))) (s.heap.objs.size + 1) (.ins C s.heap.objs.size []))
    { s with heap := (s.heap.push PySem.W.emptyDict).push (PySem.W.instObj C s.heap.objs.size) } := by
  have e1 : (s.heap.push PySem.W.emptyDict).get? s.heap.objs.size = some PySem.W.emptyDict := Heap.get?_push_size s.heap rfl
  have e2 : ((s.heap.push PySem.W.emptyDict).push (PySem.W.instObj C s.heap.objs.size)).get? (s.heap.objs.size + 1) = some (PySem.W.instObj C s.heap.objs.size) := by
    have := Heap.get?_push_size (s.heap.push PySem.W.emptyDict) (o := PySem.W.instObj C s.heap.objs.size) rfl
    rwa [Heap.size_push] at this
  have e3 : (s.heap.push PySem.W.emptyDict).Ns s.heap.objs.size (fun _ => none) := ⟨PySem.W.emptyDict, #[], _, e1, rfl, (fun e he => absurd he (by simp)), fun _ => rfl⟩
  have I1 := I.laid (a := s.heap.objs.size) (o := .own (s.heap.objs.size + 1)) (h' := s.heap.push PySem.W.emptyDict) (t' := s.toks) (fun b u q => Heap.get?_push_of_some _ q) (Nat.le_refl _) ⟨_, e1⟩
  refine I1.laid (a := s.heap.objs.size + 1) (o := .ins C s.heap.objs.size []) (t' := s.toks) (fun b u q => Heap.get?_push_of_some _ q) (Nat.le_of_eq (Heap.size_push _ _)) ?_
  have ne : s.heap.objs.size ≠ s.heap.objs.size + 1 := Nat.ne_of_lt (Nat.lt_succ_self _)
  refine ⟨by rw [upd_ne ne, upd_same], Nat.zero_le _, ne, e2, fun _ => none, (Heap.Ns1.of_empty e3).at fun o q => Heap.get?_push_of_some _ q, fun _ => True.intro, fun y hy => absurd rfl hy⟩

end

/-! ### readings and rules -/
/-- e.f, an attribute of the instance -/
def tFld (K : PySem.W.Frag) (ta : TE) (f : Str) : TE := fun σ H Q => ta σ H fun x H1 => ∃ a C dx fs v, x = .ref a ∧ H1 a = some (.ins C dx fs) ∧ Cls K C ∧ NoAttr K C f ∧ fs.lookup f = some v ∧ Q v H1
/-- e.f, a constant of the class -/
def tCon (K : PySem.W.Frag) (ta : TE) (f : Str) : TE := fun σ H Q => ta σ H fun x H1 => ∃ a C dx fs v u, x = .ref a ∧ H1 a = some (.ins C dx fs) ∧ Cls K C ∧ Con K C f v u ∧ fs.lookup f = none ∧ Q v H1
/-- e.f = value -/
def sFld (K : PySem.W.Frag) (ta tv : TE) (f : Str) : TS := fun D σ H => tv σ H fun y H1 => ta σ H1 fun x H2 => ∃ a C dx fs, x = .ref a ∧ H2 a = some (.ins C dx fs) ∧ Cls K C ∧ NoAttr K C f ∧ fs.length < 1000 ∧
  D.nx σ (upd H2 a (.ins C dx (putF f y fs)))
/-- an augmented operator on two values -/
def InOp (X : Cx) (op : Operator) (rd : V → V → Hp → VK → Prop) : Prop :=
  ∀ (pins : List (Addr × Obj)) (s : Shared) (σ : St) (H : Hp) (x y : V) (u v : Value) (Q : VK), Inv X pins σ H s → RelV x u → RelV y v → rd x y H Q → wpAny (model X.prog X.w) X.A (inplaceOp op u v) (EP X pins σ Q) X.xe s
/-- e.f op= value -/
def sFldAug (K : PySem.W.Frag) (ta tv : TE) (rd : V → V → Hp → VK → Prop) (f : Str) : TS := fun D σ H => ta σ H fun x H1 => ∃ a C dx fs v, x = .ref a ∧ H1 a = some (.ins C dx fs) ∧ Cls K C ∧ NoAttr K C f ∧ fs.lookup f = some v ∧
  tv σ H1 fun y H2 => rd v y H2 fun z H3 => ∃ dx' fs', H3 a = some (.ins C dx' fs') ∧ fs'.length < 1000 ∧ D.nx σ (upd H3 a (.ins C dx' (putF f z fs')))

section
variable {X : Cx} {o e value : Expr} {f : Str} {pos pos' tpos : Pos} {ta tv : TE}
def rAdd : V → V → Hp → VK → Prop := fun x y H Q => ∃ i j, x = .int i ∧ y = .int j ∧ Q (.int (i + j)) H
def rSub : V → V → Hp → VK → Prop := fun x y H Q => ∃ i j, x = .int i ∧ y = .int j ∧ Q (.int (i - j)) H
end

/-! ### isinstance -/
section
variable {X : Cx} {pins : List (Addr × Obj)} {σ : St} {H : Hp} {s : Shared} {A : Around} {E : Value → Shared → Prop} {Q : Value → Shared → Prop} {c : Value} {b : Bool}
/-- the type of a value, as the fragment's deciders take it; for an instance its class -/
inductive TyOf (K : PySem.W.Frag) (H : Hp) : V → Value → Prop where
  | non : TyOf K H .non (.type "NoneType")
  | bl (x : Bool) : TyOf K H (.bl x) (.type "bool")
  | int (i : Int) : TyOf K H (.int i) (.type "int")
  | str (x : Str) : TyOf K H (.str x) (.type "str")
  | flt (x : UInt64) : TyOf K H (.flt x) (.type "float")
  | lst {a : Addr} {xs : List V} (e : H a = some (.lst xs)) : TyOf K H (.ref a) (.type "list")
  | frz {a : Addr} {o : Obj} {xs : List V} (e : H a = some (.frz o (.lst xs))) : TyOf K H (.ref a) (.type "list")
  | tup {a : Addr} {xs : List V} (e : H a = some (.tup xs)) : TyOf K H (.ref a) (.type "tuple")
  | dK {a : Addr} {kvs : List (Key × V)} (e : H a = some (.dK kvs)) : TyOf K H (.ref a) (.type "dict")
  | dT {a : Addr} {kvs : List (List Key × V)} (e : H a = some (.dT kvs)) : TyOf K H (.ref a) (.type "dict")
  | ins {a C dx : Addr} {fs : List (Str × V)} (e : H a = some (.ins C dx fs)) (cl : Cls K C) (ha : PySem.W.findIn K (.ref C) "__class__" = some (some (.builtin "object.__class__")))
      (hn : PySem.W.specialIn K (.builtin "object.__class__") "__get__" = some (some (.builtin "getset_descriptor.__get__"))) (htk : PySem.W.takesIn K (.builtin "object.__class__") = some true)
      (hm : PySem.W.mroIn K C (.type "object") = some true) : TyOf K H (.ref a) (.ref C)
/-- isinstance(x, c) for one class c, a built-in or an own one: kitOne's answer -/
theorem isinst_ok {x : V} {u t : Value} (I : Inv X pins σ H s) (rx : RelV x u) (ty : TyOf X.K H x t) (e : PySem.W.kitOne X.K t c = some b) (h : ∀ tk, Q (.bool b) { s with toks := tk }) :
    wpAny (model X.prog X.w) A (call (.builtin "isinstance") [u, c]) Q E s := by
  cases ty with
  | non => cases (show u = Value.none from rx); exact PySem.W.kia_one PySem.W.kitx_none I.kIn True.intro e (fun z => nomatch z) h
  | bl y => cases (show u = Value.bool y from rx); exact PySem.W.kia_one PySem.W.kitx_bool I.kIn True.intro e (fun z => nomatch z) h
  | int i => obtain ⟨t, q⟩ := (show ∃ t, u = Value.int i t from rx); cases q; exact PySem.W.kia_one PySem.W.kitx_int I.kIn True.intro e (fun z => nomatch z) h
  | str y => obtain ⟨t, q⟩ := (show ∃ t, u = Value.str y t from rx); cases q; exact PySem.W.kia_one PySem.W.kitx_str I.kIn True.intro e (fun z => nomatch z) h
  | flt y => obtain ⟨t, q⟩ := (show ∃ t, u = Value.float y t from rx); cases q; exact PySem.W.kia_one PySem.W.kitx_float I.kIn True.intro e (fun z => nomatch z) h
  | @lst a xs ea =>
    cases (show u = Value.ref a from rx)
    obtain ⟨_, _, n, _, h1⟩ := (show ObjOk X.prog X.w H s.heap a (.lst xs) from I.hok a _ ea)
    exact PySem.W.kia_one PySem.W.kitx_list I.kIn ⟨_, h1, rfl⟩ e (fun z => nomatch z) h
  | @frz a ob xs ea =>
    cases (show u = Value.ref a from rx)
    obtain ⟨_, _, _, n, _, h1⟩ := (show ObjOk X.prog X.w H s.heap a (.frz ob (.lst xs)) from I.hok a _ ea)
    exact PySem.W.kia_one PySem.W.kitx_list I.kIn ⟨_, h1, rfl⟩ e (fun z => nomatch z) h
  | @tup a xs ea =>
    cases (show u = Value.ref a from rx)
    obtain ⟨_, _, _, p⟩ := (show ObjOk X.prog X.w H s.heap a (.tup xs) from I.hok a _ ea)
    obtain ⟨o, h1, h2, _⟩ := p
    exact PySem.W.kia_one PySem.W.kitx_tuple I.kIn ⟨o, h1, h2⟩ e (fun z => nomatch z) h
  | @dK a kvs ea =>
    cases (show u = Value.ref a from rx)
    obtain ⟨_, _, vs, _, p⟩ := (show ObjOk X.prog X.w H s.heap a (.dK kvs) from I.hok a _ ea)
    obtain ⟨o, es, ep, h1, h2, _⟩ := p
    exact PySem.W.kia_one PySem.W.kitx_dict I.kIn ⟨o, h1, h2.1⟩ e (fun z => nomatch z) h
  | @dT a kvs ea =>
    cases (show u = Value.ref a from rx)
    obtain ⟨_, _, xs, _, o, es, ep, h1, h2, _⟩ := (show ObjOk X.prog X.w H s.heap a (.dT kvs) from I.hok a _ ea)
    exact PySem.W.kia_one PySem.W.kitx_dict I.kIn ⟨o, h1, h2.1⟩ e (fun z => nomatch z) h
  | @ins a C dx fs ea cl ha hn htk hm =>
    cases (show u = Value.ref a from rx)
    obtain ⟨mA, O, _⟩ := ins_get I.hok ea
    obtain ⟨od, J, _⟩ := O.look
    exact PySem.W.kia_one (PySem.W.kitx_own (cl.get _) cl.hd ha hn htk hm) I.kIn J e (fun z => nomatch z) h
end
end L2

namespace L2
open PySem PySem.Spec PyProof.Rows

/-! ### room -/
structure Room (k : Nat) (A : Around) : Prop where
  hd : A.handled = none
  dp : A.depth + 3 * k + 5 < recursionLimit
  un : A.units + 16 * k + 200 < cLine
theorem Room.mono {j k : Nat} {A : Around} (r : Room k A) (h : j ≤ k) : Room j A := ⟨r.hd, by have := r.dp; omega, by have := r.un; omega⟩
theorem Room.deeper {k : Nat} {A : Around} (r : Room (k + 1) A) (env : Env) : Room k (A.deeper env) :=
  ⟨r.hd, by have := r.dp; show A.depth + 1 + 3 * k + 5 < _; omega, by have := r.un; show A.units + 3 + 16 * k + 200 < _; omega⟩
theorem Room.in1 {k : Nat} {A : Around} (r : Room (k + 1) A) : Room k A.in1 :=
  ⟨r.hd, by have := r.dp; show A.depth + 3 * k + 5 < _; omega, by have := r.un; show A.units + 1 + 16 * k + 200 < _; omega⟩
theorem make_depth {A : Around} {C : Addr} {us : List Value} {kw : List (Str × Value)} : (A.under (.builtin "type.__call__" ⟨.ref C :: us, kw⟩)).depth = A.depth + 1 := by
  first | rfl | simp [Around.under, Code.weight, Code.isCreation, Code.isGuard, Code.isCaller, Code.frames, Code.isFrame, guardIds]
theorem make_units {A : Around} {C : Addr} {us : List Value} {kw : List (Str × Value)} : (A.under (.builtin "type.__call__" ⟨.ref C :: us, kw⟩)).units = A.units + 1 := by
  first | rfl | simp [Around.under, Code.cUnits, Code.frames, Code.isFrame]
theorem Room.make {k : Nat} {A : Around} (r : Room (k + 1) A) (C : Addr) (us : List Value) (kw : List (Str × Value)) : Room k (A.under (.builtin "type.__call__" ⟨.ref C :: us, kw⟩)) :=
  ⟨r.hd, by have := r.dp; rw [make_depth]; omega, by have := r.un; rw [make_units]; omega⟩
theorem Room.depth {k : Nat} {A : Around} (r : Room k A) : A.depth < recursionLimit := by have := r.dp; omega
theorem Room.units {k : Nat} {A : Around} (r : Room k A) : A.units + 64 < cLine := by have := r.un; omega
/-! ### argument lists and displays -/
def tNil : TA := fun _ H Q => Q [] H
def tCons (ta : TE) (tr : TA) : TA := fun σ H Q => ta σ H fun x H1 => tr σ H1 fun xs H2 => Q (x :: xs) H2
section
variable {X : Cx} {e : Expr} {es : List Expr} {te : TE} {t : TA} {pos : Pos}
theorem pa_nil : PA X [] tNil := fun _ _ _ _ H Q I h => Calls.spliced_nil ⟨[], H, I, .nil, h⟩
theorem pa_cons (ha : PE X e te) (hr : PA X es t) (hs : starEach (e :: es) X.env = (false, eval e X.env) :: starEach es X.env := by rfl) : PA X (e :: es) (tCons te t) := by
  intro pos pins s σ H Q I h
  rw [hs]
  show wpAny _ _ (spliced ((false, eval e X.env) :: backTo pos (starEach es X.env))) _ _ s
  refine Calls.spliced_cons (thn (ha pins s σ H _ I h) fun u s1 ⟨x, H1, I1, r1, q1⟩ => ?_)
  exact thn (hr pos pins s1 σ H1 _ I1 q1) fun us s2 ⟨xs, H2, I2, r2, q2⟩ => ⟨x :: xs, H2, I2, .cons r1 r2, q2⟩

/-- a tuple, a list of written items -/
def tTup (t : TA) : TE := fun σ H Q => t σ H fun xs H1 => xs.length ≤ sizeLine ∧ ∀ p, H1 p = none → Q (.ref p) (upd H1 p (.tup xs))
def tLst (t : TA) : TE := fun σ H Q => t σ H fun xs H1 => xs.length ≤ sizeLine ∧ ∀ p, H1 p = none → Q (.ref p) (upd H1 p (.lst xs))
theorem pe_lst (h : PA X es t) : PE X (.List es pos) (tLst t) := by
  intro pins s σ H Q I hq
  refine wpAny_List_spliced (thn (h pos pins s σ H _ I hq) fun us s1 ⟨xs, H1, I1, r, z, q⟩ => ⟨by rw [← r.length]; exact z, ?_⟩)
  have hf : H1 s1.heap.objs.size = none := I1.hok.fresh (Nat.le_refl _)
  refine ⟨.ref s1.heap.objs.size, upd H1 s1.heap.objs.size (.lst xs), I1.laid (t' := s1.toks) (fun b u e => Heap.get?_push_of_some _ e) (Nat.le_refl _) ?_, rfl, q _ hf⟩
  exact ⟨z, us, 0, r, Heap.get?_push_size _ rfl⟩
end

/-! ### what a def promises -/
/-- a def's promise: the bound arguments in the parameters' order, the heap, the wanted end, the wanted exception -/
abbrev Sp := List V → Hp → VK → XK → Prop
/-- how an exception lies behind a call (file 08 gives it): the callers' frames, abstract heap and state ahead of the call, the wish, the exception, the state -/
abbrev CXT := List Env → Hp → Shared → XK → Value → Shared → Prop

/-- the state at a call -/
structure Env0 (P : Program) (w : World) (K : PySem.W.Frag) (mg : Str → Option Value) (base : Heap) (A : Around) (outer : List Env) (s : Shared) (H : Hp) : Prop where
  frames : A.frames = some outer
  mod : Mod K mg base
  bs : ∀ b o, base.get? b = some o → s.heap.get? b = some o ∧ H b = none
  bsz : base.objs.size ≤ s.heap.objs.size
  funs : s.heap.FunFrames base outer
  frf : ∀ b ∈ frs outer, H b = none
  hok : HOk P w H s.heap
  bare : AllBare s.gens
/-- a call's end -/
def CE (outer : List Env) (P : Program) (w : World) (H : Hp) (s : Shared) (Q : VK) (u : Value) (s' : Shared) : Prop :=
  ∃ v H', s'.os = s.os ∧ AllBare s'.gens ∧ Un (frs outer) [] H H' s.heap s'.heap ∧ HOk P w H' s'.heap ∧ RelV v u ∧ Q v H'
def CR (CX : CXT) (outer : List Env) (P : Program) (w : World) (H : Hp) (s : Shared) (Q : VK) (E : XK) (r : Result) (s' : Shared) : Prop :=
  match r with
  | .ok (.ret u) => CE outer P w H s Q u s'
  | .ok _ => False
  | .error e => CX outer H s E e s'
structure FnOk (P : Program) (w : World) (K : PySem.W.Frag) (mg : Str → Option Value) (base : Heap) (CX : CXT) (k : Nat) (f : Addr) (fd : FuncData) (ps : List Str) (sp : Sp) : Prop where
  len : ∀ vs H Q E, sp vs H Q E → vs.length = ps.length
  run : ∀ (A : Around) (outer : List Env) (s : Shared) (H : Hp) (args : Args) (us : List Value) (vs : List V) (Q : VK) (E : XK), Room k A → Env0 P w K mg base A outer s H → BindsTo s fd args (ps.zip us) → Vals vs us → sp vs H Q E →
    codeAny (model P w) A (.call (.ref f) args) (CR CX outer P w H s Q E) s
theorem FnOk.mono {P : Program} {w : World} {K : PySem.W.Frag} {mg : Str → Option Value} {base : Heap} {CX : CXT} {j k : Nat} {f : Addr} {fd : FuncData} {ps : List Str} {sp : Sp} (F : FnOk P w K mg base CX j f fd ps sp) (h : j ≤ k) :
    FnOk P w K mg base CX k f fd ps sp := ⟨F.len, fun A outer s H args us vs Q E hr => F.run A outer s H args us vs Q E (hr.mono h)⟩
/-- a weaker promise -/
theorem FnOk.imp {P : Program} {w : World} {K : PySem.W.Frag} {mg : Str → Option Value} {base : Heap} {CX : CXT} {k : Nat} {f : Addr} {fd : FuncData} {ps : List Str} {sp sp' : Sp} (F : FnOk P w K mg base CX k f fd ps sp)
    (h : ∀ vs H Q E, sp' vs H Q E → sp vs H Q E) : FnOk P w K mg base CX k f fd ps sp' :=
  ⟨fun vs H Q E q => F.len vs H Q E (h _ _ _ _ q), fun A outer s H args us vs Q E hr he hb hv hs => F.run A outer s H args us vs Q E hr he hb hv (h _ _ _ _ hs)⟩

theorem Env0.make {P : Program} {w : World} {K : PySem.W.Frag} {mg : Str → Option Value} {base : Heap} {A : Around} {outer : List Env} {s : Shared} {H : Hp} (e : Env0 P w K mg base A outer s H) (C : Addr) (us : List Value) (kw : List (Str × Value)) :
    Env0 P w K mg base (A.under (.builtin "type.__call__" ⟨.ref C :: us, kw⟩)) outer s H := ⟨by first | exact e.frames | (simpa [Around.under, Code.envs, Code.isFrame, pushEnvs] using e.frames), e.mod, e.bs, e.bsz, e.funs, e.frf, e.hok, e.bare⟩
theorem Env0.in1 {P : Program} {w : World} {K : PySem.W.Frag} {mg : Str → Option Value} {base : Heap} {A : Around} {outer : List Env} {s : Shared} {H : Hp} (e : Env0 P w K mg base A outer s H) :
    Env0 P w K mg base A.in1 outer s H := ⟨e.frames, e.mod, e.bs, e.bsz, e.funs, e.frf, e.hok, e.bare⟩

section
variable {X : Cx} {pins : List (Addr × Obj)} {σ : St} {H : Hp} {s s' : Shared}
/-- from a body: what a callee wants -/
theorem Inv.env0 (I : Inv X pins σ H s) : Env0 X.prog X.w X.K X.mg X.base X.A X.stack s H :=
  ⟨I.ok.frames, I.ok.mod, I.bs, Nat.le_trans I.ok.bsz I.sz, I.stack, I.stkFree, I.hok, I.bare⟩
/-- behind a call -/
theorem Inv.after {Q : VK} {u : Value} (I : Inv X pins σ H s) (h : CE X.stack X.prog X.w H s Q u s') : EP X pins σ Q u s' := by
  obtain ⟨v, H', os, bare, un, hok, r, q⟩ := h
  obtain ⟨hh, g, d, t, os'⟩ := s'
  obtain rfl : os' = s.os := os
  exact ⟨v, H', I.call (h' := hh) (g' := g) (d' := d) (t' := t) (ch := []) un hok bare (fun b z => absurd z (by simp)), r, q⟩
end

/-! ### calls -/
/-- f(..): the written arguments, then the defaults dvs; E: what is wanted of an exception -/
def tCall (sp : Sp) (dvs : List V) (E : XK) (t : TA) : TE := fun σ H Q => t σ H fun vs H1 => sp (vs ++ dvs) H1 Q E
/-- o.m(..) of an instance of the class at C -/
def tMeth (C : Addr) (m : Str) (sp : Sp) (dvs : List V) (E : XK) (ta : TE) (t : TA) : TE := fun σ H Q => ta σ H fun x H1 => ∃ a dx fs, x = .ref a ∧ H1 a = some (.ins C dx fs) ∧ fs.lookup m = none ∧
  t σ H1 fun vs H2 => sp (x :: (vs ++ dvs)) H2 Q E
/-- C(..): a new instance and its dict, then __init__ -/
def tMake (C : Addr) (sp : Sp) (dvs : List V) (E : XK) (t : TA) : TE := fun σ H Q => t σ H fun vs H1 => ∀ x dx, H1 x = none → H1 dx = none → dx ≠ x →
  sp (.ref x :: (vs ++ dvs)) (upd (upd H1 dx (.own x)) x (.ins C dx [])) (fun v H2 => v = .non ∧ Q (.ref x) H2) E

/-- how the parameters are bound: us the positional arguments, kw the keywords' values by name, ds the defaults that fill up -/
def Binds (K : PySem.W.Frag) (fd : FuncData) (ps : List Str) (ds : List Value) : Prop :=
  ∀ (s : Shared) (us : List Value), K.In s.heap → (us ++ ds).length = ps.length → BindsTo s fd ⟨us, []⟩ (ps.zip (us ++ ds))
/-- every parameter is given -/
theorem Binds.all {K : PySem.W.Frag} {fd : FuncData} {ps : List Str} (h : ∀ us : List Value, us.length = ps.length → bindArgs fd ⟨us, []⟩ = pure (ps.zip us)) : Binds K fd ps [] := fun s us _ hl => by
  rw [List.append_nil] at hl ⊢
  exact .of_eq (h us hl)

/-- an exception of a callee reaches what this body wants of exceptions -/
def Passes (CX : CXT) (X : Cx) (E : XK) : Prop := ∀ (pins : List (Addr × Obj)) (σ : St) (H : Hp) (s : Shared) (e : Value) (s' : Shared), Inv X pins σ H s → CX X.stack H s E e s' → X.xe e s'

section
variable {X : Cx} {CX : CXT} {k : Nat} {f C : Addr} {fd : FuncData} {ps : List Str} {sp : Sp} {dvs : List V} {ds : List Value} {E : XK} {x m : Str} {p pos apos : Pos} {e o : Expr} {es : List Expr} {ta : TE} {t : TA}

/-- the callee runs -/
theorem run_fn {pins : List (Addr × Obj)} {σ : St} {H : Hp} {s : Shared} {Q : VK} {us : List Value} {vs : List V} (F : FnOk X.prog X.w X.K X.mg X.base CX k f fd ps sp) (hr : Room k X.A) (hb : Binds X.K fd ps ds) (hd : Vals dvs ds) (hx : Passes CX X E)
    (I : Inv X pins σ H s) (r : Vals vs us) (h : sp (vs ++ dvs) H Q E) : wpAny (model X.prog X.w) X.A (call (.ref f) us) (EP X pins σ Q) X.xe s := by
  have r2 : Vals (vs ++ dvs) (us ++ ds) := r.append hd
  have hl : (us ++ ds).length = ps.length := by rw [← r2.length]; exact F.len _ _ _ _ h
  refine wpAny_call (codeAny_mono (F.run X.A X.stack s H ⟨us, []⟩ (us ++ ds) (vs ++ dvs) Q E hr I.env0 (hb s us I.kIn hl) r2 h) fun r s' hq => ?_)
  cases r with
  | error e => exact hx pins σ H s e s' I hq
  | ok fl =>
    cases fl with
    | ret u => exact I.after hq
    | next => exact False.elim hq
    | brk => exact False.elim hq
    | cont => exact False.elim hq

theorem pe_call (F : FnOk X.prog X.w X.K X.mg X.base CX k f fd ps sp) (hr : Room k X.A) (hg : Gl X x) (hm : X.mg x = some (.ref f)) (hk : PySem.W.keepIn X.K (.ref f) = true) (hb : Binds X.K fd ps ds) (hd : Vals dvs ds) (hx : Passes CX X E)
    (ha : PA X (e :: es) t) (hdb : (x == ("__debug__" : Str)) = false := by decide) (he : starEach (e :: es) X.env = (false, eval e X.env) :: starEach es X.env := by rfl) (hpl : (backTo pos (starEach es X.env)).any (·.1) = false := by rfl) :
    PE X (.Call (.Name x p) (e :: es) [] pos) (tCall sp dvs E t) := by
  intro pins s σ H Q I h
  refine wpAny_Call_Name_kw (ld_glob I hg hm ?_ hdb)
  refine PySem.W.callWith_K (h₀ := X.base) I.ok.mod.kin hk (thn (ha pos pins s σ H _ I h) fun us s1 ⟨vs, H1, I1, r, q⟩ => ⟨I1.kIn, ?_⟩) he hpl
  exact run_fn F hr hb hd hx I1 r q
/-- what a class must have to be made -/
structure Mk (K : PySem.W.Frag) (C f : Addr) : Prop where
  makes : PySem.W.makesIn K C = true
  init : PySem.W.findIn K (.ref C) "__init__" = some (some (.ref f))
  fn : PySem.W.isFn K (.ref f) = true
  kp : PySem.W.keepIn K (.ref C) = true

end

/-! ### keywords -/
/-- the values of the keywords, from the left -/
def PK (X : Cx) (kws : List Keyword) (t : TA) : Prop :=
  ∀ (pos : Pos) (pins : List (Addr × Obj)) (s : Shared) (σ : St) (H : Hp) (Q : List V → Hp → Prop), Inv X pins σ H s → t σ H Q → wpAny (model X.prog X.w) X.A (evalAll ((backToKw pos (keywordEach kws X.env)).map (·.2))) (AP X pins σ Q) X.xe s
section
variable {X : Cx} {CX : CXT} {k : Nat} {f C : Addr} {fd : FuncData} {ps ks : List Str} {sp : Sp} {E : XK} {x m : Str} {p pos apos kpos : Pos} {e o : Expr} {es : List Expr} {kws : List Keyword} {te ta : TE} {t tk : TA} {nm : Option Str}
/-- how a call with keywords binds: g puts the positional values us and the keywords' values ws (names ks) in the parameters' order, defaults among them -/
structure KBinds (K : PySem.W.Frag) (fd : FuncData) (ps ks : List Str) (g : List Value → List Value → List Value) (gV : List V → List V → List V) : Prop where
  to : ∀ (s : Shared) (us ws : List Value), K.In s.heap → (g us ws).length = ps.length → BindsTo s fd ⟨us, ks.zip ws⟩ (ps.zip (g us ws))
  rel : ∀ {vs : List V} {us : List Value} {zs : List V} {ws : List Value}, Vals vs us → Vals zs ws → Vals (gV vs zs) (g us ws)
def tCallK (sp : Sp) (gV : List V → List V → List V) (E : XK) (t tk : TA) : TE := fun σ H Q => t σ H fun vs H1 => tk σ H1 fun zs H2 => sp (gV vs zs) H2 Q E
variable {g : List Value → List Value → List Value} {gV : List V → List V → List V}
end

/-! ### a def's body keeps its promise -/
/-- names: the parameters first -/
structure FnScope (N P : List Str) (sc : Scope) : Prop where
  kind : sc.kind = .function
  co : sc.isCoroutine = false
  gen : sc.isGenerator = false
  nd : N.Nodup
  pre : N.take P.length = P
  par : ∀ x ∈ P, sc.names.lookup x = some .local ∨ sc.names.lookup x = some .cell
  nofree : ∀ y ∈ sc.names, y.2 ≠ .free

theorem bindL_out {kindOf : Str → Option NameKind} {x : Str} : ∀ {binds : List (Str × Value)} {m : Str → Option Value}, (∀ v, (x, v) ∉ binds) → bindL kindOf binds m x = m x
  | [], _, _ => rfl
  | (n, v) :: r, m, h => by
    unfold bindL
    rw [bindL_out fun w hw => h w (List.mem_cons_of_mem _ hw)]
    split
    · have : x ≠ n := by rintro rfl; exact h v List.mem_cons_self
      simp [this]
    · rfl
theorem bindC_out {kindOf : Str → Option NameKind} {x : Str} : ∀ {binds : List (Str × Value)} {m : Str → Option Value}, (∀ v, (x, v) ∉ binds) → bindC kindOf binds m x = m x
  | [], _, _ => rfl
  | (n, v) :: r, m, h => by
    unfold bindC
    rw [bindC_out fun w hw => h w (List.mem_cons_of_mem _ hw)]
    split
    · rfl
    · have : x ≠ n := by rintro rfl; exact h v List.mem_cons_self
      simp [this]
theorem bindL_get {kindOf : Str → Option NameKind} {x : Str} {v : Value} : ∀ {P : List Str} {vs : List Value} {i : Nat} {m : Str → Option Value}, P.Nodup → P[i]? = some x → vs[i]? = some v → kindOf x = some .local →
    bindL kindOf (P.zip vs) m x = some v
  | [], _, _, _, _, h, _, _ => by simp at h
  | _ :: _, [], _, _, _, _, h, _ => by simp at h
  | p :: P, w :: vs, 0, m, nd, h1, h2, hk => by
    simp at h1 h2; subst h1; subst h2
    show bindL kindOf ((p, w) :: P.zip vs) m p = _
    unfold bindL
    rw [bindL_out fun v hv => (List.nodup_cons.mp nd).1 (List.of_mem_zip hv).1, if_pos hk]
    simp
  | p :: P, w :: vs, i + 1, m, nd, h1, h2, hk => by
    show bindL kindOf ((p, w) :: P.zip vs) m x = _
    unfold bindL
    exact bindL_get (i := i) (List.nodup_cons.mp nd).2 (by simpa using h1) (by simpa using h2) hk
theorem bindC_get {kindOf : Str → Option NameKind} {x : Str} {v : Value} : ∀ {P : List Str} {vs : List Value} {i : Nat} {m : Str → Option Value}, P.Nodup → P[i]? = some x → vs[i]? = some v → kindOf x ≠ some .local →
    bindC kindOf (P.zip vs) m x = some v
  | [], _, _, _, _, h, _, _ => by simp at h
  | _ :: _, [], _, _, _, _, h, _ => by simp at h
  | p :: P, w :: vs, 0, m, nd, h1, h2, hk => by
    simp at h1 h2; subst h1; subst h2
    show bindC kindOf ((p, w) :: P.zip vs) m p = _
    unfold bindC
    rw [bindC_out fun v hv => (List.nodup_cons.mp nd).1 (List.of_mem_zip hv).1, if_neg hk]
    simp
  | p :: P, w :: vs, i + 1, m, nd, h1, h2, hk => by
    show bindC kindOf ((p, w) :: P.zip vs) m x = _
    unfold bindC
    exact bindC_get (i := i) (List.nodup_cons.mp nd).2 (by simpa using h1) (by simpa using h2) hk

/-- the names' values at the entry -/
def start (N : List Str) (vs : List V) : St := vs.map some ++ List.replicate (N.length - vs.length) none

/-- the context of a def's body, at its entry; an exception leaves the frame, then lies as CX says -/
def cxOf (CX : CXT) (P : Program) (w : World) (K : PySem.W.Frag) (mg : Str → Option Value) (base : Heap) (N : List Str) (qual : Str) (scope : Scope) (f : Addr) (cd : Value) (A : Around) (outer : List Env) (s : Shared) (H : Hp) (E : XK) : Cx where
  prog := P
  w := w
  K := K
  mg := mg
  base := base
  A := A.deeper (envOfC qual scope s.heap.objs.size f cd)
  N := N
  s₀ := s
  H₀ := H
  env := envOfC qual scope s.heap.objs.size f cd
  outer := outer
  stack := envOfC qual scope s.heap.objs.size f cd :: outer
  ex := []
  calm := true
  fn := fun _ => true
  pn := []
  xe := fun e s' => wpAny (model P w) (A.deeper (envOfC qual scope s.heap.objs.size f cd)) (leaving (envOfC qual scope s.heap.objs.size f cd) e) (fun _ s'' => CX outer H s E e s'') (fun e' s'' => CX outer H s E e' s'') s'

theorem cell_has {sc : Scope} {n : Nat} {x : Str} (h : sc.names.lookup x = some .cell) : ∃ c, (cellsFrom n sc.names []).lookup x = some c := by
  have q := PySem.W.cellsFrom_some sc.names n [] (.inl h)
  exact Option.isSome_iff_exists.mp q

theorem inv_start {CX : CXT} {P : Program} {w : World} {K : PySem.W.Frag} {mg : Str → Option Value} {base : Heap} {N ps : List Str} {qual : Str} {scope : Scope} {f : Addr} {cd : Value} {A : Around} {outer : List Env} {s s1 : Shared} {H : Hp} {E : XK} {us : List Value} {vs : List V}
    (S : FnScope N ps scope) (hd : A.handled = none) (e0 : Env0 P w K mg base A outer s H) (hl : vs.length = ps.length) (r : Vals vs us)
    (x : InCallC s s.heap.objs.size (bindL (envOfC qual scope s.heap.objs.size f cd).kindOf (ps.zip us) fun _ => none) (cellsFrom (s.heap.objs.size + 1) scope.names []) (bindC (envOfC qual scope s.heap.objs.size f cd).kindOf (ps.zip us) fun _ => none) s1) :
    Inv (cxOf CX P w K mg base N qual scope f cd A outer s H E) [] (start N vs) H s1 := by
  have hpl : ps.length ≤ N.length := by have := congrArg List.length S.pre; rw [List.length_take] at this; omega
  obtain ⟨h1, tk, rfl, hk⟩ := x.done
  have noA : ∀ b : Addr, b ∉ (cxOf CX P w K mg base N qual scope f cd A outer s H E).ex := fun b z => absurd (show b ∈ ([] : List Addr) from z) (by simp)
  refine ⟨⟨e0.mod, S.kind, rfl, rfl, Nat.le_refl _, fun y z c h1 h2 => ?_, fun y hy => ?_, fun y c _ h => ?_, fun _ => hd, Around.frames_deeper e0.frames, .inr ⟨rfl, rfl⟩, fun b z => absurd z (noA b), e0.bs, e0.bsz, fun b _ _ => noA b, fun b z => absurd z (noA b), e0.funs, e0.frf⟩,
    rfl, e0.bare, Un.kept hk, ⟨_, x.toInCall.ns, fun i y v h1 h2 h3 => ?_⟩, fun y c h => ⟨_, x.cell y c h⟩, e0.hok.fresh (Nat.le_refl _), fun y c h => ?_, fun p hp => absurd (show p ∈ ([] : List (Addr × Obj)) from hp) (by simp), e0.hok.kept hk, ?_⟩
  · exact name_of_addr x.apart (PySem.mem_of_lookup h1) (PySem.mem_of_lookup h2)
  · have hy : scope.names.lookup y = some .cell ∨ scope.names.lookup y = some .free := hy
    rcases hy with hy | hy
    · exact cell_has hy
    · exact absurd rfl (S.nofree _ (PySem.mem_of_lookup hy))
  · exact Nat.le_of_lt (x.above y c (PySem.mem_of_lookup h))
  · have hi : i < vs.length := by
      unfold start at h2
      by_cases hi : i < vs.length
      · exact hi
      · rw [List.getElem?_append_right (by simpa using hi)] at h2
        rw [List.getElem?_replicate] at h2
        split at h2 <;> cases h2
    have ha : vs[i]? = some v := by
      unfold start at h2
      rw [List.getElem?_append_left (by simpa using hi), List.getElem?_map] at h2
      cases e : vs[i]? with
      | none => rw [e] at h2; cases h2
      | some a => rw [e] at h2; cases h2; rfl
    obtain ⟨u, hu, rv⟩ := r.get ha
    have hp : ps[i]? = some y := by
      rw [← S.pre, List.getElem?_take_of_lt (by omega)]; exact h1
    have ndP : ps.Nodup := by rw [← S.pre]; exact S.nd.sublist (List.take_sublist _ _)
    refine ⟨u, rv, ?_⟩
    rcases S.par y (List.mem_of_getElem? hp) with k | k
    · exact .inl ⟨k, bindL_get ndP hp hu k⟩
    · obtain ⟨c, e⟩ := cell_has (n := s.heap.objs.size + 1) k
      refine .inr ⟨.inl k, c, e, ?_⟩
      have q := x.cell y c e
      rw [bindC_get ndP hp hu (by show scope.names.lookup y ≠ _; rw [k]; decide)] at q
      exact q
  · exact e0.hok.fresh (Nat.le_of_lt (x.above y c (PySem.mem_of_lookup h)))
  · unfold start
    show _ = N.length
    rw [List.length_append, List.length_map, List.length_replicate]
    omega

/-- THE RULE: a def (or a method) of the text, by its body. The body's reading t is chosen for each entry; it is run at the parameters' values -/
theorem fn_of {CX : CXT} {P : Program} {w : World} {K : PySem.W.Frag} {mg : Str → Option Value} {base : Heap} {k : Nat} {f : Addr} {name qual : Str} {params : Arguments} {body : List Stmt} {scope : Scope} {dV kV doc pm cdv ct oc : Value} {an od : Option Addr}
    {osl : Array (Option Value)} {N ps : List Str} {sp : Sp} (lk : K.lookup f = some ⟨oc, od, .func (PySem.W.fnOf name qual params body scope dV kV doc pm an cdv ct), osl⟩) (hcd : PySem.W.codeIn K cdv qual = true) (S : FnScope N ps scope)
    (len : ∀ vs H Q E, sp vs H Q E → vs.length = ps.length)
    (hbody : ∀ (A : Around) (outer : List Env) (s : Shared) (H : Hp) (vs : List V) (Q : VK) (E : XK), Room k (A.deeper (envOfC qual scope s.heap.objs.size f cdv)) → sp vs H Q E →
      ∃ t, PSs (cxOf CX P w K mg base N qual scope f cdv A outer s H E) body t ∧ t { nx := fun _ H' => Q .non H', rt := Q } (start N vs) H) :
    FnOk P w K mg base CX (k + 1) f (PySem.W.fnOf name qual params body scope dV kV doc pm an cdv ct) ps sp := by
  refine ⟨len, fun A outer s H args us vs Q E hr e0 hb r hsp => ?_⟩
  have hl := len _ _ _ _ hsp
  have KX : K.In s.heap := e0.mod.kin.keeps fun b o e => (e0.bs b o e).1
  have lim : s.heap.NoLimit := e0.mod.nolimit.keeps fun b o e => (e0.bs b o e).1
  have hkind : ∀ y ∈ ps.zip us, scope.names.lookup y.1 = some .local ∨ (scope.names.lookup y.1 = some .cell ∧ ((cellsFrom (s.heap.objs.size + 1) scope.names []).lookup y.1).isSome = true) := fun ⟨n, v⟩ hy => by
    rcases S.par n (List.of_mem_zip hy).1 with q | q
    · exact .inl q
    · exact .inr ⟨q, PySem.W.cellsFrom_some _ _ _ (.inl q)⟩
  refine codeAny_call_function hr.depth (KX _ _ lk) rfl S.co S.gen rfl (PySem.W.codeRec_of KX hcd) (hb _ _ _ _ ?_)
  refine wpAny_newFunctionEnv_cells S.kind hkind fun env he s1 x => ?_
  subst he
  refine ⟨lim.keeps x.toInCall.keep, codeAny_func ?_⟩
  obtain ⟨t, ht, hq⟩ := hbody A outer s H vs Q E (hr.deeper _) hsp
  have I : Inv (cxOf CX P w K mg base N qual scope f cdv A outer s H E) [] (start N vs) H s1 := inv_start S hr.hd e0 hl r x
  refine wpAny_mono (ht [] s1 (start N vs) H _ I hq) (fun fl s' hs => ?_) fun e s' hs => hs
  have fin : ∀ {σ' : St} {H' : Hp} {v : V} {u : Value}, Inv (cxOf CX P w K mg base N qual scope f cdv A outer s H E) [] σ' H' s' → RelV v u → Q v H' → CE outer P w H s Q u s' :=
    fun {σ' H' v u} J rv q => ⟨v, H', J.os, J.bare, J.base, J.hok, rv, q⟩
  cases fl with
  | ret u =>
    obtain ⟨v, σ', H', J, rv, q⟩ := hs
    exact fin J rv q
  | next =>
    obtain ⟨σ', H', J, q⟩ := hs
    exact fin (v := V.non) (u := Value.none) J rfl q
  | brk =>
    obtain ⟨_, _, _, q⟩ := hs
    exact False.elim q
  | cont =>
    obtain ⟨_, _, _, q⟩ := hs
    exact False.elim q
end L2

namespace L2
open PySem PySem.Spec PyProof.Rows
section
variable {X : Cx} {x : Str} {p pos : Pos} {e : Expr} {es : List Expr} {t : TA} {id T : String} {r : List V → Hp → VK → Prop}

def tCB (r : List V → Hp → VK → Prop) (t : TA) : TE := fun σ H Q => t σ H fun vs H1 => r vs H1 Q
/-- f(e, ..), f a built-in function -/
theorem pe_callB (hc : CallR X (.builtin id) r) (hg : Gl X x) (hm : X.mg x = none) (hv : bootBuiltins x = some (.builtin id)) (ha : PA X (e :: es) t) (hn : x ≠ "__name__" := by decide) (hdb : (x == ("__debug__" : Str)) = false := by decide)
    (he : starEach (e :: es) X.env = (false, eval e X.env) :: starEach es X.env := by rfl) (hpl : (backTo pos (starEach es X.env)).any (·.1) = false := by rfl) : PE X (.Call (.Name x p) (e :: es) [] pos) (tCB r t) := by
  intro pins s σ H Q I h
  refine wpAny_Call_Name_kw (ld_blt I hg hm hv ?_ hn hdb)
  exact PyProof.Rows.callWith_builtin1 (thn (ha pos pins s σ H _ I h) fun us s1 ⟨vs, H1, I1, r1, q1⟩ => hc pins s1 σ H1 vs us Q I1 r1 q1) he hpl
/-- T(e, ..), T a built-in type -/
theorem pe_callTy (hc : CallR X (.type T) r) (hg : Gl X x) (hm : X.mg x = none) (hv : bootBuiltins x = some (.type T)) (ha : PA X (e :: es) t) (hn : x ≠ "__name__" := by decide) (hdb : (x == ("__debug__" : Str)) = false := by decide)
    (he : starEach (e :: es) X.env = (false, eval e X.env) :: starEach es X.env := by rfl) (hpl : (backTo pos (starEach es X.env)).any (·.1) = false := by rfl) : PE X (.Call (.Name x p) (e :: es) [] pos) (tCB r t) := by
  intro pins s σ H Q I h
  refine wpAny_Call_Name_kw (ld_blt I hg hm hv ?_ hn hdb)
  exact PyProof.Rows.callWith_type1 (thn (ha pos pins s σ H _ I h) fun us s1 ⟨vs, H1, I1, r1, q1⟩ => hc pins s1 σ H1 vs us Q I1 r1 q1) he hpl
end
end L2

namespace HT
open PySem PyProof.Rows

/-- t < u of tuples of ints -/
def lexLt : List Int → List Int → Bool
  | [], [] => false
  | [], _ :: _ => true
  | _ :: _, [] => false
  | x :: xs, y :: ys => if x = y then lexLt xs ys else decide (x < y)
section
open PySem.SeqAt
open PySem.AutoSeq1 (wpAny_loadPart')
open PySem.MeetsSeq PySem.MeetsSeq2 PySem.MeetsSeq3

end

section
variable {prog : Program} {w : World} {A : Around} {E : Value → Shared → Prop} {s : Shared}

/-- t + u, t not empty -/
theorem cat_tup {t b : Addr} {vs ws : List Value} {Q : Value → Shared → Prop} (ht : IsTup s.heap t vs.toArray) (hb : IsTup s.heap b ws.toArray) (hv : vs ≠ [])
    (h1 : ws = [] → Q (.ref t) s) (h2 : ws ≠ [] → Q (.ref s.heap.objs.size) { s with heap := s.heap.push { cls := .type "tuple", data := .seq (vs ++ ws).toArray } })
    (hsz : vs.length + ws.length ≤ sizeLine) : wpAny (model prog w) A (binaryOp .Add (.ref t) (.ref b)) Q E s := by
  obtain ⟨⟨cls, dd, data, sl⟩, ho, hc, n, hd⟩ := id ht
  obtain ⟨⟨cls2, dd2, data2, sl2⟩, ho2, hc2, n2, hd2⟩ := id hb
  simp only at hc hd hc2 hd2
  subst hc hd hc2 hd2
  have e : vs.toArray ++ ws.toArray = (vs ++ ws).toArray := by simp
  by_cases hw : ws = []
  · exact concat_meets ⟨_, ho, rfl⟩ ⟨_, ho2, rfl⟩ noFill_tuple_add seq_tuple_add PySem.F.slot_tuple_add PySem.F.entry_tuple_add (PySem.F.args_tuple_add_2 _ _)
      (tuple_addW1 t b vs.toArray ws.toArray n n2 dd dd2 sl sl2 (by simpa using hv) (by simp [hw])) ⟨ho, ho2, h1 hw⟩
  · refine concat_meets ⟨_, ho, rfl⟩ ⟨_, ho2, rfl⟩ noFill_tuple_add seq_tuple_add PySem.F.slot_tuple_add PySem.F.entry_tuple_add (PySem.F.args_tuple_add_2 _ _)
      (tuple_addW2 t b vs.toArray ws.toArray n n2 dd dd2 sl sl2 (by simpa using hv) (by simpa using hw) (by rw [List.size_toArray, List.size_toArray]; exact hsz)) ⟨ho, ho2, ?_⟩
    rw [e]
    exact h2 hw

/-! ### t[a:b], not the whole -/
/-- a slice's bound as a place among n (d where it is left out) -/
def sIx (n d : Nat) : Option Int → Nat
  | none => d
  | some v => if v < 0 then (v + (n : Int)).toNat else min v.toNat n
theorem sIx_nat (n d k : Nat) : sIx n d (some (k : Int)) = min k n := by
  show (if (k : Int) < 0 then ((k : Int) + (n : Int)).toNat else min (k : Int).toNat n) = min k n
  rw [if_neg (by omega), Int.toNat_natCast]
end
end HT

namespace L2
open PySem PySem.Spec PyProof.Rows

/-! ### the parts of a slice -/
abbrev TO := St → Hp → (Option Int → Hp → Prop) → Prop
/-- a slice's part (left out, or an int) -/
def PO (X : Cx) (e : Option Expr) (t : TO) : Prop :=
  ∀ (pins : List (Addr × Obj)) (s : Shared) (σ : St) (H : Hp) (Q : Option Int → Hp → Prop), Inv X pins σ H s → t σ H Q →
    wpAny (model X.prog X.w) X.A (evalPart e X.env) (fun u s' => ∃ o H', Inv X pins σ H' s' ∧ IsPart u o ∧ Q o H') X.xe s
def tNoPart : TO := fun _ H Q => Q none H
def tPart (t : TE) : TO := fun σ H Q => t σ H fun x H1 => ∃ i, x = .int i ∧ Q (some i) H1

section
variable {X : Cx} {e : Expr} {te : TE} {lo hi : Option Expr} {tl th : TO} {pos p2 : Pos}

theorem po_none : PO X none tNoPart := by
  intro pins s σ H Q I h
  rw [evalPart_none]
  exact wpAny_pure ⟨none, H, I, .none, h⟩
theorem po_some (h : PE X e te) : PO X (some e) (tPart te) := by
  intro pins s σ H Q I hw
  rw [evalPart_some]
  refine thn (h pins s σ H _ I hw) fun u s1 ⟨x, H1, I1, r1, q1⟩ => ?_
  obtain ⟨i, rfl, q⟩ := q1
  obtain ⟨t, rfl⟩ := r1
  exact ⟨some i, H1, I1, .int i t, q⟩

/-- what a slice of a value is, by values: the slice object stands at sl -/
def SlR (X : Cx) (r : V → Option Int → Option Int → Hp → VK → Prop) : Prop :=
  ∀ (pins : List (Addr × Obj)) (s : Shared) (σ : St) (H : Hp) (x : V) (v vl vu : Value) (lo hi : Option Int) (sl : Addr) (Q : VK), Inv X pins σ H s → RelV x v → s.heap.IsSliceOf sl vl vu .none → IsPart vl lo → IsPart vu hi → r x lo hi H Q →
    ∃ T id, typeLookup (.type T) "__getitem__" = pure (some (.builtin id)) ∧ s.TypeIs v T ∧ wpAny (model X.prog X.w) X.A (getItem v (.ref sl)) (EP X pins σ Q) X.xe s
theorem SlR.or {r r' : V → Option Int → Option Int → Hp → VK → Prop} (h : SlR X r) (h' : SlR X r') : SlR X (fun x lo hi H Q => r x lo hi H Q ∨ r' x lo hi H Q) := by
  intro pins s σ H x v vl vu lo hi sl Q I rx hs pl pu q
  rcases q with q | q
  · exact h pins s σ H x v vl vu lo hi sl Q I rx hs pl pu q
  · exact h' pins s σ H x v vl vu lo hi sl Q I rx hs pl pu q
def tSl (r : V → Option Int → Option Int → Hp → VK → Prop) (te : TE) (tl th : TO) : TE := fun σ H Q => te σ H fun x H1 => tl σ H1 fun l H2 => th σ H2 fun u H3 => r x l u H3 Q
/-- a[lo:hi], any a -/
theorem pe_slice {r : V → Option Int → Option Int → Hp → VK → Prop} (hr : SlR X r) (he : PE X e te) (hl : PO X lo tl) (hu : PO X hi th) : PE X (.Subscript e (.Slice lo hi none p2) pos) (tSl r te tl th) := by
  intro pins s σ H Q I h
  refine Subscript_ (thn (he pins s σ H _ I h) fun v s1 ⟨x, H1, I1, r1, q1⟩ => ?_)
  refine wpAny_Slice (thn (hl pins s1 σ H1 _ I1 q1) fun vl s2 ⟨l, H2, I2, pl, q2⟩ => thn (hu pins s2 σ H2 _ I2 q2) fun vu s3 ⟨u, H3, I3, pu, q3⟩ => ?_)
  rw [evalPart_none]
  refine wpAny_pure ?_
  have I4 : Inv X pins σ H3 { s3 with heap := s3.heap.push { cls := .type "slice", data := .fields #[vl, vu, .none] } } := I3.kept (t' := s3.toks) fun b ob q => Heap.get?_push_of_some _ q
  obtain ⟨T, id, hT, ht, hg⟩ := hr pins { s3 with heap := s3.heap.push { cls := .type "slice", data := .fields #[vl, vu, .none] } } σ H3 x v vl vu l u s3.heap.objs.size Q I4 r1 (Heap.IsSliceOf.new ..) pl pu q3
  show wpAny (model X.prog X.w) X.A (subscriptTail e (.Slice lo hi none p2) v (.ref s3.heap.objs.size)) (EP X pins σ Q) X.xe { s3 with heap := s3.heap.push { cls := .type "slice", data := .fields #[vl, vu, .none] } }
  exact tail_any (ops := [.ref s3.heap.objs.size, v]) ht hT hg (by with_unfolding_all rfl)

/-- the items of xs[lo:hi] -/
def cutV (xs : List V) (lo hi : Option Int) : List V := (xs.drop (HT.sIx xs.length 0 lo)).take (HT.sIx xs.length xs.length hi - HT.sIx xs.length 0 lo)
/-- t[lo:hi], not the whole of it (the whole would be t itself) -/
def rSlT (K : PySem.W.Frag) : V → Option Int → Option Int → Hp → VK → Prop := fun x lo hi H Q => ∃ a xs, x = .ref a ∧ SqT K H a xs ∧
  ¬ (HT.sIx xs.length 0 lo = 0 ∧ HT.sIx xs.length xs.length hi = xs.length) ∧ ∀ p, H p = none → Q (.ref p) (upd H p (.tup (cutV xs lo hi)))
/-! ### t < u, t + u -/
def rLtT (K : PySem.W.Frag) : R2 := fun x y H Q => ∃ a b ns ms, x = .ref a ∧ y = .ref b ∧ SqT K H a (ns.map V.int) ∧ SqT K H b (ms.map V.int) ∧ Q (.bl (HT.lexLt ns ms)) H
/-- t + u, t not empty: u empty gives t itself -/
def rCatT (K : PySem.W.Frag) : R2 := fun x y H Q => ∃ a b xs ys, x = .ref a ∧ y = .ref b ∧ SqT K H a xs ∧ SqT K H b ys ∧ xs ≠ [] ∧ xs.length + ys.length ≤ sizeLine ∧
  (ys = [] → Q (.ref a) H) ∧ (ys ≠ [] → ∀ p, H p = none → Q (.ref p) (upd H p (.tup (xs ++ ys))))
theorem Vals.nil_iff {xs : List V} {us : List Value} (r : Vals xs us) : us = [] ↔ xs = [] := by
  cases r with
  | nil => simp
  | cons _ _ => simp
theorem op_catT : OpR X (binaryOp .Add) (rCatT X.K) := by
  intro pins s σ H x y v u Q I rx ry h
  obtain ⟨a, b, xs, ys, rfl, rfl, ha, hb, hx, hz, q1, q2⟩ := h
  cases rx
  cases ry
  obtain ⟨its, r1, p1, _⟩ := I.tuple ha
  obtain ⟨its2, r2, p2, _⟩ := I.tuple hb
  refine HT.cat_tup p1 p2 (fun z => hx (r1.nil_iff.mp z)) (fun z => ⟨.ref a, H, I, rfl, q1 (r2.nil_iff.mp z)⟩) (fun z => ?_) (by rw [← r1.length, ← r2.length]; exact hz)
  refine ⟨.ref s.heap.objs.size, _, I.laid (t' := s.toks) (o := .tup (xs ++ ys)) (fun b ob q => Heap.get?_push_of_some _ q) (Nat.le_refl _) ?_, rfl, q2 (fun w => z (r2.nil_iff.mpr w)) _ (I.hok.fresh (Nat.le_refl _))⟩
  exact ⟨by rw [List.length_append]; exact hz, _, r1.append r2, IsTup.new _ _⟩
end
end L2

namespace L2
open PySem PySem.Spec PyProof.Rows

/-! ### places -/
/-- the place that an index of any sign means -/
def ixN (n : Nat) (i : Int) : Option Nat := if 0 ≤ i then (if i < n then some i.toNat else none) else if -(n : Int) ≤ i then some (i + n).toNat else none
def atI {α : Type} (xs : List α) (i : Int) : Option α := (ixN xs.length i).bind fun j => xs[j]?
theorem ixN_seq {n : Nat} {i : Int} {j : Nat} (h : ixN n i = some j) : seqIndex? i n = some j ∧ j < n ∧ -(n : Int) ≤ i ∧ i < n := by
  unfold ixN at h
  by_cases h0 : 0 ≤ i
  · rw [if_pos h0] at h
    by_cases h1 : i < n
    · rw [if_pos h1] at h
      have e : i.toNat = j := Option.some.inj h
      exact ⟨by rw [seqIndex_of h0 h1, e], by omega, by omega, h1⟩
    · rw [if_neg h1] at h; cases h
  · rw [if_neg h0] at h
    by_cases h1 : -(n : Int) ≤ i
    · rw [if_pos h1] at h
      have e : (i + n).toNat = j := Option.some.inj h
      exact ⟨by rw [seqIndex_neg (by omega) h1, e], by omega, h1, by omega⟩
    · rw [if_neg h1] at h; cases h
theorem atI_get {α : Type} {xs : List α} {i : Int} {v : α} (h : atI xs i = some v) : ∃ j, seqIndex? i xs.length = some j ∧ xs[j]? = some v ∧ j < xs.length ∧ -(xs.length : Int) ≤ i ∧ i < xs.length := by
  unfold atI at h
  cases e : ixN xs.length i with
  | none => rw [e] at h; cases h
  | some j =>
    rw [e] at h
    obtain ⟨h1, h2, h3, h4⟩ := ixN_seq e
    exact ⟨j, h1, h, h2, h3, h4⟩
theorem atI_nat {α : Type} {xs : List α} {j : Nat} {v : α} (h : xs[j]? = some v) : atI xs (j : Int) = some v := by
  have hj : j < xs.length := (List.getElem?_eq_some_iff.mp h).1
  have e : ixN xs.length (j : Int) = some j := by
    unfold ixN
    rw [if_pos (by omega), if_pos (by omega)]; simp
  unfold atI; rw [e]; exact h
/-! ### what may be subscripted -/
/-- what stands as an index of a plain subscript -/
def PlainIx (b : Expr) : Prop := ∀ o i, subscripted b false o i = operate [o, i] (getItem o i)
/-- a subscript by values -/
def IxR (X : Cx) (r : R2) : Prop :=
  ∀ (value slice : Expr) (pins : List (Addr × Obj)) (s : Shared) (σ : St) (H : Hp) (x y : V) (v u : Value) (Q : VK), Inv X pins σ H s → RelV x v → RelV y u → r x y H Q →
    subscripted slice false v u = operate [v, u] (getItem v u) → wpAny (model X.prog X.w) X.A (subscriptTail value slice v u) (EP X pins σ Q) X.xe s
/-- a call of a builtin's method by values: the receiver, the arguments -/
def MtR (X : Cx) (id : String) (r : V → List V → Hp → VK → Prop) : Prop :=
  ∀ (pins : List (Addr × Obj)) (s : Shared) (σ : St) (H : Hp) (x : V) (xs : List V) (v : Value) (us : List Value) (Q : VK), Inv X pins σ H s → RelV x v → Vals xs us → r x xs H Q →
    wpAny (model X.prog X.w) X.A (call (.builtin id) (v :: us)) (EP X pins σ Q) X.xe s
section
variable {X : Cx} {a b : Expr} {ta tb : TE} {pos : Pos}
theorem IxR.or {r r' : R2} (h : IxR X r) (h' : IxR X r') : IxR X (fun x y H Q => r x y H Q ∨ r' x y H Q) := by
  intro value slice pins s σ H x y v u Q I rx ry q hs
  rcases q with q | q
  · exact h value slice pins s σ H x y v u Q I rx ry q hs
  · exact h' value slice pins s σ H x y v u Q I rx ry q hs
theorem MtR.or {id : String} {r r' : V → List V → Hp → VK → Prop} (h : MtR X id r) (h' : MtR X id r') : MtR X id (fun x xs H Q => r x xs H Q ∨ r' x xs H Q) := by
  intro pins s σ H x xs v us Q I rx rs q
  rcases q with q | q
  · exact h pins s σ H x xs v us Q I rx rs q
  · exact h' pins s σ H x xs v us Q I rx rs q
/-- a[b] -/
theorem pe_ix {r : R2} (hr : IxR X r) (ha : PE X a ta) (hb : PE X b tb) (hs : PlainIx b) : PE X (.Subscript a b pos) (tOp r ta tb) := by
  intro pins s σ H Q I h
  exact Subscript_ (binT ha hb I h fun v u s2 x y H2 I2 rx ry q => hr a b pins s2 σ H2 x y v u Q I2 rx ry q (hs _ _))

def rIxL (K : PySem.W.Frag) : R2 := fun x y H Q => ∃ p xs i v, x = .ref p ∧ y = .int i ∧ SqL K H p xs ∧ atI xs i = some v ∧ Q v H
def rIxT (K : PySem.W.Frag) : R2 := fun x y H Q => ∃ p xs i v, x = .ref p ∧ y = .int i ∧ SqT K H p xs ∧ atI xs i = some v ∧ Q v H
def rIxS : R2 := fun x y H Q => ∃ z i c, x = .str z ∧ y = .int i ∧ z.length ≤ sizeLine ∧ atI z.cps.toList i = some c ∧ Q (.str ⟨#[c]⟩) H
theorem ix_list : IxR X (rIxL X.K) := by
  intro value slice pins s σ H x y v u Q I rx ry h hs
  obtain ⟨p, xs, i, z, rfl, rfl, hq, he, q⟩ := h
  cases rx
  obtain ⟨t, rfl⟩ := ry
  obtain ⟨its, r, pl, hz⟩ := I.list hq
  obtain ⟨j, h1, h2, h3, h4, h5⟩ := atI_get he
  obtain ⟨w, ew, rw'⟩ := r.get h2
  have hl := r.length
  have hn := line63
  have fin : EP X pins σ Q w s := ⟨z, H, I, rw', q⟩
  by_cases h0 : 0 ≤ i
  · have hj : i.toNat = j := by
      rw [seqIndex_of h0 h5] at h1
      exact Option.some.inj h1
    exact item_listR pl.isList h0 (by omega) (by rw [hj]; simpa using ew) fin hs
  · have hj : (i + (its.toArray.size : Int)).toNat = j := by
      rw [seqIndex_neg (by omega) h4] at h1
      rw [List.size_toArray, ← hl]
      exact Option.some.inj h1
    exact subscriptTail_builtinR (x := w) pl.isList.typeIs slot_list_getitem.lookup
      (wpAny_getItem_list_neg (Q := fun r s' => r = w ∧ EP X pins σ Q r s') pl.isList (by omega) (by rw [List.size_toArray] <;> omega) (by omega) (by rw [hj]; simpa using ew) ⟨rfl, fin⟩) hs
theorem ix_tup : IxR X (rIxT X.K) := by
  intro value slice pins s σ H x y v u Q I rx ry h hs
  obtain ⟨p, xs, i, z, rfl, rfl, hq, he, q⟩ := h
  cases rx
  obtain ⟨t, rfl⟩ := ry
  obtain ⟨its, r, pl, hz⟩ := I.tuple hq
  obtain ⟨j, h1, h2, h3, h4, h5⟩ := atI_get he
  obtain ⟨w, ew, rw'⟩ := r.get h2
  have hl := r.length
  have hn := line63
  have fin : EP X pins σ Q w s := ⟨z, H, I, rw', q⟩
  exact subscriptTail_builtinR (x := w) pl.typeIs slot_tuple_getitem.lookup
    (getItem_tuple (j := j) (Q := fun r s' => r = w ∧ EP X pins σ Q r s') pl (by omega) (by omega) (by rw [List.size_toArray, ← hl]; exact h1) (by simpa using ew) ⟨rfl, fin⟩) hs
theorem ix_str : IxR X rIxS := by
  intro value slice pins s σ H x y v u Q I rx ry h hs
  obtain ⟨z, i, c, rfl, rfl, hz, he, q⟩ := h
  obtain ⟨t, rfl⟩ := rx
  obtain ⟨t', rfl⟩ := ry
  obtain ⟨j, h1, h2, h3, h4, h5⟩ := atI_get he
  have hl : z.cps.toList.length = z.length := by simp [Str.length]
  rw [hl] at h1 h4 h5
  have hn := line63
  exact tail_any (typeIs_str s z t) slot_str_getitem.lookup (getItem_str (c := c) (by
    have e1 : decide (i < -(2 ^ 63 : Int)) = false := decide_eq_false (by omega)
    have e2 : decide (i ≥ 2 ^ 63) = false := decide_eq_false (by omega)
    rw [e1, e2, Bool.or_false]) (by rw [h1]; simpa using h2) ⟨.str ⟨#[c]⟩, H, I.tok _, ⟨_, rfl⟩, q⟩) hs
/-- list, tuple or str -/
def rIx (K : PySem.W.Frag) : R2 := fun x y H Q => rIxL K x y H Q ∨ rIxT K x y H Q ∨ rIxS x y H Q
/-! ### xs[i] = v, any sign -/
theorem Inv.lst {pins : List (Addr × Obj)} {σ : St} {H : Hp} {s : Shared} {p : Addr} {xs : List V} (I : Inv X pins σ H s) (h : H p = some (.lst xs)) :
    ∃ (its : List Value) (n : Nat), Vals xs its ∧ s.heap.get? p = some { cls := .type "list", data := .seq its.toArray n } ∧ xs.length ≤ sizeLine := by
  obtain ⟨z, its, n, r, e⟩ := I.hok p _ h
  exact ⟨its, n, r, e, z⟩
def rSetL : V → V → V → Hp → (Hp → Prop) → Prop := fun o i v H Q => ∃ p xs k j, o = .ref p ∧ i = .int k ∧ H p = some (.lst xs) ∧ ixN xs.length k = some j ∧ Q (upd H p (.lst (xs.set j v)))
/-! ### slices -/
/-- xs[lo:hi] of a list: a new list -/
def rSlL (K : PySem.W.Frag) : V → Option Int → Option Int → Hp → VK → Prop := fun x lo hi H Q => ∃ a xs, x = .ref a ∧ SqL K H a xs ∧ ∀ p, H p = none → Q (.ref p) (upd H p (.lst (cutV xs lo hi)))
/-! ### in, not in: flat items -/
def flatV : V → Bool
  | .non => true
  | .bl _ => true
  | .int _ => true
  | .str _ => true
  | _ => false
/-- == of flat values -/
def eqV : V → V → Bool
  | .non, .non => true
  | .bl a, .bl b => a == b
  | .bl a, .int b => (if a then 1 else 0) == b
  | .int a, .bl b => a == (if b then 1 else 0)
  | .int a, .int b => a == b
  | .str a, .str b => a == b
  | _, _ => false
theorem eqAt_V {A : Around} {s : Shared} {y x : V} {u v : Value} (ry : RelV y u) (rx : RelV x v) (fy : flatV y = true) (fx : flatV x = true) : SeqAt.EqAt A s u v (eqV y x) := by
  cases y with
  | non =>
    cases ry
    cases x with
    | non => cases rx; exact SeqAt.EqAt.same _
    | bl b => cases rx; exact SeqAt.EqAt.none_bool b
    | int b => obtain ⟨t, rfl⟩ := rx; exact SeqAt.EqAt.none_int b t
    | str b => obtain ⟨t, rfl⟩ := rx; exact SeqAt.EqAt.none_str b t
    | _ => exact absurd (show false = true from fx) Bool.false_ne_true
  | bl a =>
    cases ry
    cases x with
    | non => cases rx; exact SeqAt.EqAt.bool_none a
    | bl b => cases rx; exact SeqAt.EqAt.bool_bool a b
    | int b => obtain ⟨t, rfl⟩ := rx; exact SeqAt.EqAt.bool_int a b t
    | str b => obtain ⟨t, rfl⟩ := rx; exact SeqAt.EqAt.bool_str a b t
    | _ => exact absurd (show false = true from fx) Bool.false_ne_true
  | int a =>
    obtain ⟨t', rfl⟩ := ry
    cases x with
    | non => cases rx; exact SeqAt.EqAt.int_none a t'
    | bl b => cases rx; exact SeqAt.EqAt.int_bool a t' b
    | int b => obtain ⟨t, rfl⟩ := rx; exact SeqAt.EqAt.int_int a t' b t
    | str b => obtain ⟨t, rfl⟩ := rx; exact SeqAt.EqAt.int_str a t' b t
    | _ => exact absurd (show false = true from fx) Bool.false_ne_true
  | str a =>
    obtain ⟨t', rfl⟩ := ry
    cases x with
    | non => cases rx; exact SeqAt.EqAt.str_none a t'
    | bl b => cases rx; exact SeqAt.EqAt.str_bool a t' b
    | int b => obtain ⟨t, rfl⟩ := rx; exact SeqAt.EqAt.str_int a t' b t
    | str b => obtain ⟨t, rfl⟩ := rx; exact SeqAt.EqAt.str_str a t' b t
    | _ => exact absurd (show false = true from fx) Bool.false_ne_true
  | _ => exact absurd (show false = true from fy) Bool.false_ne_true
/-- the items' answers, read off the values (a value's own answer does not lean on its token) -/
def eqU (x : V) (u : Value) : Bool := match u with
  | .none => eqV .non x
  | .bool b => eqV (.bl b) x
  | .int i _ => eqV (.int i) x
  | .str z _ => eqV (.str z) x
  | _ => false
theorem eqU_of {x y : V} {u : Value} (r : RelV y u) (f : flatV y = true) : eqU x u = eqV y x := by
  cases y with
  | non => cases r; rfl
  | bl b => cases r; rfl
  | int i => obtain ⟨t, rfl⟩ := r; rfl
  | str z => obtain ⟨t, rfl⟩ := r; rfl
  | _ => exact absurd (show false = true from f) Bool.false_ne_true
theorem any_eqU {x : V} : ∀ {xs : List V} {us : List Value}, Vals xs us → xs.all flatV = true → us.any (eqU x) = xs.any fun y => eqV y x
  | _, _, .nil, _ => rfl
  | y :: xs, u :: us, .cons r t, f => by
    rw [List.all_cons, Bool.and_eq_true] at f
    rw [List.any_cons, List.any_cons, eqU_of r f.1, any_eqU t f.2]
theorem mem_eqAt {A : Around} {s : Shared} {x : V} {v : Value} (rx : RelV x v) (fx : flatV x = true) : ∀ {xs : List V} {us : List Value}, Vals xs us → xs.all flatV = true → ∀ u ∈ us, SeqAt.EqAt A s u v (eqU x u)
  | _, _, .nil, _ => fun u hu => by cases hu
  | y :: xs, u :: us, .cons r t, f => fun u' hu => by
    rw [List.all_cons, Bool.and_eq_true] at f
    rcases List.mem_cons.mp hu with rfl | hu
    · rw [eqU_of r f.1]; exact eqAt_V r rx f.1 fx
    · exact mem_eqAt rx fx t f.2 u' hu
def inV (x : V) (xs : List V) : Bool := xs.any fun y => eqV y x
/-- x in a list or tuple of flat items -/
def rIn (K : PySem.W.Frag) (neg : Bool) : R2 := fun x y H Q => ∃ p xs, y = .ref p ∧ (SqL K H p xs ∨ SqT K H p xs) ∧ flatV x = true ∧ xs.all flatV = true ∧ Q (.bl (if neg then !inV x xs else inV x xs)) H
theorem op_notIn_seq : OpR X (compareOp .NotIn) (rIn X.K true) := by
  intro pins s σ H x y v u Q I rx ry h
  obtain ⟨p, xs, rfl, hq, fx, fs, q⟩ := h
  cases ry
  rcases hq with hq | hq
  · obtain ⟨its, r, pl, hz⟩ := I.list hq
    refine SeqAt.notIn_listAt (eqU x) pl.isList (fun w hw => mem_eqAt rx fx r fs w (by simpa using hw)) ⟨.bl _, H, I, rfl, ?_⟩
    rw [show its.toArray.any (eqU x) = its.any (eqU x) by simp, any_eqU r fs]
    exact q
  · obtain ⟨its, r, pl, hz⟩ := I.tuple hq
    refine SeqAt.notIn_tupleAt (eqU x) pl (fun w hw => mem_eqAt rx fx r fs w (by simpa using hw)) ⟨.bl _, H, I, rfl, ?_⟩
    rw [show its.toArray.any (eqU x) = its.any (eqU x) by simp, any_eqU r fs]
    exact q
/-! ### len, list(x), tuple(x) of any list or tuple that is read -/
theorem call_len_seq : CallR X (.builtin "len") (fun xs H Q => ∃ p ys, xs = [.ref p] ∧ (SqL X.K H p ys ∨ SqT X.K H p ys) ∧ Q (.int ys.length) H) := by
  intro pins s σ H xs us Q I r h
  obtain ⟨p, ys, rfl, hq, q⟩ := h
  obtain ⟨u, rfl, rx⟩ := vals1 r
  cases rx
  have hn := line63
  rcases hq with hq | hq
  · obtain ⟨its, r', pl, hz⟩ := I.list hq
    have hlen := r'.length
    exact Calls.call_len_list pl.isList (by simp only [List.size_toArray] <;> omega) ⟨.int ys.length, H, I.tok _, ⟨s.toks + 1, by rw [List.size_toArray, hlen]⟩, q⟩
  · obtain ⟨its, r', pl, hz⟩ := I.tuple hq
    have hlen := r'.length
    exact len_tuple pl (by simp only [List.size_toArray] <;> omega) ⟨.int ys.length, H, I.tok _, ⟨s.toks + 1, by rw [List.size_toArray, hlen]⟩, q⟩
theorem call_len_str : CallR X (.builtin "len") (fun xs H Q => ∃ z, xs = [.str z] ∧ z.length ≤ sizeLine ∧ Q (.int z.length) H) := by
  intro pins s σ H xs us Q I r h
  obtain ⟨z, rfl, hz, q⟩ := h
  obtain ⟨u, rfl, t, rfl⟩ := vals1 r
  have hn := line63
  exact len_str (by omega) ⟨.int z.length, H, I.tok _, ⟨_, rfl⟩, q⟩
theorem CallR.or {f : Value} {r r' : List V → Hp → VK → Prop} (h : CallR X f r) (h' : CallR X f r') : CallR X f (fun xs H Q => r xs H Q ∨ r' xs H Q) := by
  intro pins s σ H xs us Q I rs q
  rcases q with q | q
  · exact h pins s σ H xs us Q I rs q
  · exact h' pins s σ H xs us Q I rs q
/-! ### the call of a builtin's method: o.m(..) -/
/-- the value is of that builtin type -/
def tyV (K : PySem.W.Frag) (T : String) (x : V) (H : Hp) : Prop := match x with
  | .str _ => T = "str"
  | .int _ => T = "int"
  | .ref p => (T = "list" ∧ ∃ xs, SqL K H p xs) ∨ (T = "tuple" ∧ ∃ o, K.lookup p = some o ∧ o.cls = .type "tuple" ∧ o.dict = none) ∨
      (T = "dict" ∧ ((∃ kvs, H p = some (.dK kvs)) ∨ ∃ kvs, H p = some (.dT kvs))) ∨ (T = "set" ∧ ∃ S n, H p = some (.set S n))
  | _ => False
theorem tyV_is {pins : List (Addr × Obj)} {σ : St} {H : Hp} {s : Shared} {T : String} {x : V} {v : Value} (I : Inv X pins σ H s) (r : RelV x v) (ty : tyV X.K T x H) :
    s.TypeIs v T ∧ ∀ a, v = .ref a → ∃ ob, s.heap.get? a = some ob ∧ ob.dict = none := by
  cases x with
  | str z =>
    obtain ⟨t, rfl⟩ := r
    cases (show T = "str" from ty)
    exact ⟨typeIs_str s z t, fun _ e => nomatch e⟩
  | int i =>
    obtain ⟨t, rfl⟩ := r
    cases (show T = "int" from ty)
    exact ⟨typeIs_int s i t, fun _ e => nomatch e⟩
  | ref p =>
    cases r
    rcases ty with ⟨rfl, xs, hq⟩ | ⟨rfl, o, hk, hc, hd⟩ | ⟨rfl, hk⟩ | ⟨rfl, S, n, hk⟩
    · obtain ⟨its, _, pl, _⟩ := I.list hq
      refine ⟨pl.isList.typeIs, fun a e => ?_⟩
      cases e
      obtain ⟨o, n, e, c, hd, _⟩ := pl
      exact ⟨o, e, hd⟩
    · refine ⟨⟨o, I.kIn p o hk, hc⟩, fun a e => ?_⟩
      cases e
      exact ⟨o, I.kIn _ o hk, hd⟩
    · have z : ∃ o, s.heap.get? p = some o ∧ o.ExactDict := by
        rcases hk with ⟨kvs, hk⟩ | ⟨kvs, hk⟩
        · obtain ⟨_, _, _, _, o, _, _, e, ex, _⟩ := I.hok p _ hk
          exact ⟨o, e, ex⟩
        · obtain ⟨_, _, _, _, o, _, _, e, ex, _⟩ := I.hok p _ hk
          exact ⟨o, e, ex⟩
      obtain ⟨o, e, ex⟩ := z
      refine ⟨⟨o, e, ex.1⟩, fun a e2 => ?_⟩
      cases e2
      exact ⟨o, e, ex.2.1⟩
    · obtain ⟨o, _, _, _, e, ex, _⟩ := I.hok p _ hk
      refine ⟨⟨o, e, ex.1⟩, fun a e2 => ?_⟩
      cases e2
      exact ⟨o, e, ex.2.1⟩
  | _ => exact False.elim ty
def tBM0 (K : PySem.W.Frag) (T : String) (r : V → List V → Hp → VK → Prop) (to : TE) : TE := fun σ H Q => to σ H fun x H1 => tyV K T x H1 ∧ r x [] H1 Q
def tBM (K : PySem.W.Frag) (T : String) (r : V → List V → Hp → VK → Prop) (to : TE) (t : TA) : TE := fun σ H Q => to σ H fun x H1 => tyV K T x H1 ∧ t σ H1 fun xs H2 => r x xs H2 Q
variable {o e : Expr} {es : List Expr} {to : TE} {t : TA} {name : Str} {apos cpos : Pos} {T id : String} {r : V → List V → Hp → VK → Prop}
theorem pe_bm (pa : PlainAttrs T) (slot : Slot T name id) (hty : typeOf (.builtin id) = pure (.type "method_descriptor")) (hm : MtR X id r) (ho : PE X o to) (ha : PA X (e :: es) t)
    (hbase : attributeBase o name X.env (eval o X.env) = eval o X.env := by rfl)
    (hfew : ((backTo cpos (starEach (e :: es) X.env)).all (fun x => !x.1) && (backToKw cpos (keywordEach [] X.env)).all (fun x => x.1.isSome)
      && decide ((e :: es).length + ([] : List Keyword).length + (if ([] : List Keyword).isEmpty then 0 else 1) < 30)) = true := by rfl)
    (hline : (apos.endLine == cpos.line) = true := by rfl) (hs : starEach (e :: es) X.env = (false, eval e X.env) :: starEach es X.env := by rfl) (hplain : (backTo cpos (starEach es X.env)).any (·.1) = false := by rfl) :
    PE X (.Call (.Attribute o name apos) (e :: es) [] cpos) (tBM X.K T r to t) := by
  intro pins s σ H Q I h
  refine wpAny_Call_method_late hbase hfew hline rfl (thn (ho pins s σ H _ I h) fun v s1 ⟨x, H1, I1, r1, ty, q1⟩ => ?_)
  obtain ⟨h1, h2⟩ := tyV_is I1 r1 ty
  refine ⟨T, id, pa, slot, hty, h1, h2, ?_⟩
  have hA := ha cpos pins s1 σ H1 _ I1 q1
  rw [hs] at hA ⊢
  refine Calls.callWith_builtin (by show (false || (backTo cpos (starEach es X.env)).any (·.1)) = false; rw [hplain] <;> rfl) (Calls.evalArgs_plain ?_)
  exact thn hA fun us s2 ⟨vs, H2, I2, r2, q2⟩ => hm pins s2 σ H2 x vs v us Q I2 r1 r2 q2
/- xs.append(e), list.index on a module's tuple .. are MtR facts of 06m -/
end
end L2

namespace L2
open PySem PySem.Spec PyProof.Rows

def MtM (X : Cx) (id : String) (r : V → List V → Hp → VK → Prop) : Prop :=
  ∀ (pins : List (Addr × Obj)) (s : Shared) (σ : St) (H : Hp) (x : V) (xs : List V) (v : Value) (us : List Value) (Q : VK), Inv X pins σ H s → RelV x v → Vals xs us → r x xs H Q →
    wpAny (model X.prog X.w) X.A (call (.builtin id) (v :: us)) (EP X pins σ Q) X.xe s

/-! ### lists of values -/
theorem Vals.one : ∀ {x : V} {us : List Value}, Vals [x] us → ∃ u, us = [u] ∧ RelV x u
  | _, _, .cons r .nil => ⟨_, rfl, r⟩
theorem Vals.two : ∀ {x y : V} {us : List Value}, Vals [x, y] us → ∃ u v, us = [u, v] ∧ RelV x u ∧ RelV y v
  | _, _, _, .cons r (.cons q .nil) => ⟨_, _, rfl, r, q⟩
theorem Vals.zero : ∀ {us : List Value}, Vals [] us → us = []
  | _, .nil => rfl
theorem Vals.dropLast {xs : List V} {us : List Value} (h : Vals xs us) : Vals xs.dropLast us.dropLast := by
  induction h with
  | nil => exact .nil
  | cons r t ih =>
    cases t with
    | nil => exact .nil
    | cons q t' => exact .cons r ih
theorem Vals.eraseIdx : ∀ {xs : List V} {us : List Value} (i : Nat), Vals xs us → Vals (xs.eraseIdx i) (us.eraseIdx i)
  | _, _, _, .nil => .nil
  | _, _, 0, .cons _ t => t
  | _, _, i + 1, .cons r t => .cons r (Vals.eraseIdx i t)
theorem Vals.reverse {xs : List V} {us : List Value} (h : Vals xs us) : Vals xs.reverse us.reverse := by
  induction h with
  | nil => exact .nil
  | cons r t ih => rw [List.reverse_cons, List.reverse_cons]; exact Vals.append ih (.cons r .nil)
theorem Vals.rep {xs : List V} {us : List Value} (h : Vals xs us) : ∀ k : Nat, Vals (List.replicate k xs).flatten (List.replicate k us).flatten
  | 0 => .nil
  | k + 1 => by
    rw [List.replicate_succ, List.replicate_succ, List.flatten_cons, List.flatten_cons]
    exact Vals.append h (Vals.rep h k)
theorem foldl_rep (its : List Value) : ∀ (k : Nat) (acc : List Value),
    List.foldl (fun x1 x2 => x1 ++ x2) acc.toArray (List.replicate k its.toArray) = (acc ++ (List.replicate k its).flatten).toArray
  | 0, acc => by simp
  | k + 1, acc => by
    have e : acc.toArray ++ its.toArray = (acc ++ its).toArray := by simp
    have e2 : (acc ++ its) ++ (List.replicate k its).flatten = acc ++ (List.replicate (k + 1) its).flatten := by
      rw [List.replicate_succ, List.flatten_cons, List.append_assoc]
    rw [← e2, ← foldl_rep its k (acc ++ its), ← e, List.replicate_succ, List.foldl_cons]

section
variable {X : Cx} {pins : List (Addr × Obj)} {σ : St} {H : Hp} {s : Shared} {l b : Addr} {xs ys zs : List V}

/-! ### the two steps: a tracked list is rewritten, a new list is laid -/
theorem Inv.lset {its its' : List Value} {n : Nat} {f : Array Value → Array Value} {t' : Nat} (I : Inv X pins σ H s) (hH : H l = some (.lst xs))
    (e : s.heap.get? l = some { cls := .type "list", data := .seq its.toArray n }) (hf : f its.toArray = its'.toArray) (hv : Vals ys its') (hz : ys.length ≤ sizeLine) :
    Inv X pins σ (upd H l (.lst ys)) { s with heap := s.heap.update l (Obj.mapSeq f), toks := t' } := by
  have q := PySem.IsL.update e f
  rw [hf] at q
  refine I.write (x := l) (e := l) (by rw [hH]; exact trivial) (.inl rfl) (fun b' u hb hu => (Heap.get?_update_other s.heap (Obj.mapSeq f) (Ne.symm hb)).trans hu) ⟨_, q⟩ ?_
  exact ⟨hz, its', _, hv, q⟩
theorem Inv.lnew {its : List Value} {t' : Nat} (I : Inv X pins σ H s) (hv : Vals ys its) (hz : ys.length ≤ sizeLine) :
    Inv X pins σ (upd H s.heap.objs.size (.lst ys)) { s with heap := s.heap.push { cls := .type "list", data := .seq its.toArray }, toks := t' } :=
  I.laid (fun _ _ q => Heap.get?_push_of_some _ q) (Nat.le_refl _) ⟨hz, its, 0, hv, Heap.get?_push_size _ rfl⟩
theorem Inv.fresh (I : Inv X pins σ H s) : H s.heap.objs.size = none := I.hok.fresh (Nat.le_refl _)
theorem Inv.lstM (I : Inv X pins σ H s) (hH : H l = some (.lst xs)) : xs.length ≤ sizeLine ∧ ∃ (its : List Value) (n : Nat), Vals xs its ∧ xs.length = its.length ∧ s.heap.get? l = some { cls := .type "list", data := .seq its.toArray n } := by
  obtain ⟨z, its, n, r, e⟩ := I.hok l _ hH
  exact ⟨z, its, n, r, r.length, e⟩

theorem notLongL {n : Nat} (h : n ≤ sizeLine) : Builtin.List.listTooLong n = false := by
  unfold Builtin.List.listTooLong
  exact decide_eq_false (by omega)
end

section
variable {X : Cx}

/-! ### methods -/
def rAppend : V → List V → Hp → VK → Prop := fun x vs H Q => ∃ l xs y, x = .ref l ∧ vs = [y] ∧ H l = some (.lst xs) ∧ xs.length < sizeLine ∧ Q .non (upd H l (.lst (xs ++ [y])))
theorem mt_append : MtM X "list.append" rAppend := by
  intro pins s σ H x vs v us Q I rx rv h
  obtain ⟨l, xs, y, rfl, rfl, hH, hz, q⟩ := h
  cases rx
  obtain ⟨u, rfl, ru⟩ := rv.one
  obtain ⟨z, its, n, r, hl, e⟩ := I.lstM hH
  refine call_meets F.slot_list_append ⟨_, e, rfl⟩ F.entry_list_append (F.args_list_append_2 _ _) (PySem.list_append l its.toArray n u (by rw [List.size_toArray]; omega)) ⟨e, ?_⟩
  refine ⟨.non, _, I.lset (its' := its ++ [u]) hH e (by simp) (r.append (.cons ru .nil)) ?_, rfl, q⟩
  rw [List.length_append, List.length_singleton]
  omega

def rExtend : V → List V → Hp → VK → Prop := fun x vs H Q => ∃ l b xs zs, x = .ref l ∧ vs = [.ref b] ∧ H l = some (.lst xs) ∧ H b = some (.lst zs) ∧ xs.length + zs.length ≤ sizeLine ∧ Q .non (upd H l (.lst (xs ++ zs)))
def rPop : V → List V → Hp → VK → Prop := fun x vs H Q => ∃ l xs y, x = .ref l ∧ vs = [] ∧ H l = some (.lst xs) ∧ xs[xs.length - 1]? = some y ∧ Q y (upd H l (.lst xs.dropLast))
def rPopAt : V → List V → Hp → VK → Prop := fun x vs H Q => ∃ l xs i k y, x = .ref l ∧ vs = [.int i] ∧ H l = some (.lst xs) ∧ -(2 ^ 63) ≤ i ∧ i < 2 ^ 63 ∧ seqIndex? i xs.length = some k ∧ xs[k]? = some y ∧ Q y (upd H l (.lst (xs.eraseIdx k)))
def rReverse : V → List V → Hp → VK → Prop := fun x vs H Q => ∃ l xs, x = .ref l ∧ vs = [] ∧ H l = some (.lst xs) ∧ Q .non (upd H l (.lst xs.reverse))
def rClear : V → List V → Hp → VK → Prop := fun x vs H Q => ∃ l xs, x = .ref l ∧ vs = [] ∧ H l = some (.lst xs) ∧ Q .non (upd H l (.lst []))
/-! ### list + list, list += list, list * int -/
def rCat : R2 := fun x y H Q => ∃ l b xs zs, x = .ref l ∧ y = .ref b ∧ H l = some (.lst xs) ∧ H b = some (.lst zs) ∧ xs.length + zs.length ≤ sizeLine ∧ ∀ p, H p = none → Q (.ref p) (upd H p (.lst (xs ++ zs)))
theorem op_cat : OpR X (binaryOp .Add) rCat := by
  intro pins s σ H x y v u Q I rx ry h
  obtain ⟨l, b, xs, zs, rfl, rfl, hH, hB, hz, q⟩ := h
  cases rx
  cases ry
  obtain ⟨z, its, n, r, hl, e⟩ := I.lstM hH
  obtain ⟨z2, its2, n2, r2, hl2, e2⟩ := I.lstM hB
  refine PySem.P.add_list e e2 ?_ (by rw [List.size_toArray, List.size_toArray]; omega)
  have ea : its.toArray ++ its2.toArray = (its ++ its2).toArray := by simp
  rw [ea]
  exact ⟨.ref _, _, I.lnew (t' := s.toks) (r.append r2) (by rw [List.length_append]; omega), rfl, q _ I.fresh⟩
/-- a list times an int (a negative one is nothing) -/
def rRep : R2 := fun x y H Q => ∃ l k xs, x = .ref l ∧ y = .int k ∧ H l = some (.lst xs) ∧ -(2 ^ 63) ≤ k ∧ k < 2 ^ 63 ∧ xs.length * k.toNat ≤ sizeLine ∧
  ∀ p, H p = none → Q (.ref p) (upd H p (.lst (List.replicate k.toNat xs).flatten))
theorem len_rep {α : Type} (xs : List α) (k : Nat) : (List.replicate k xs).flatten.length = k * xs.length := by
  induction k with
  | zero => simp
  | succ k ih => rw [List.replicate_succ, List.flatten_cons, List.length_append, ih, Nat.succ_mul, Nat.add_comm]
theorem op_rep : OpR X (binaryOp .Mult) rRep := by
  intro pins s σ H x y v u Q I rx ry h
  obtain ⟨l, k, xs, rfl, rfl, hH, h1, h2, hz, q⟩ := h
  cases rx
  obtain ⟨t, rfl⟩ := ry
  obtain ⟨z, its, n, r, hl, e⟩ := I.lstM hH
  have hlen : its.toArray.size * k.toNat ≤ sizeLine := by rw [List.size_toArray, ← hl]; exact hz
  have hcap : ¬ its.toArray.size * k.toNat > (2 ^ 63 - 1) / 8 := by
    have : (sizeLine : Nat) ≤ (2 ^ 63 - 1) / 8 := by decide
    omega
  have hfit : ¬ (!Builtin.List.listFitsIndex k) = true := by
    rw [fitsIndex_both h1 h2]
    exact Bool.false_ne_true
  have hlong : ¬ Builtin.List.listTooLong (its.toArray.size * k.toNat) = true := by
    rw [notLongL hlen]
    exact Bool.false_ne_true
  have hnew : List.foldl (fun x1 x2 => x1 ++ x2) #[] (List.replicate (if its.toArray.isEmpty = true then 0 else k.toNat) its.toArray) = (List.replicate k.toNat its).flatten.toArray := by
    have f0 : ∀ m : Nat, List.foldl (fun x1 x2 => x1 ++ x2) #[] (List.replicate m its.toArray) = (List.replicate m its).flatten.toArray := fun m => by
      have := foldl_rep its m []
      rw [List.nil_append] at this
      exact this
    rw [f0]
    cases its with
    | nil => simp
    | cons a r' => rw [if_neg (by simp)]
  refine wpAny_binaryOp_repeat_ref (T := "list") (U := "int") (by decide) ⟨_, e, rfl⟩ (fun s' => typeIs_int s' k t) noFill_list_mul F.fills_int_mul F.slot_int_rmul repeat_list F.slot_int_index.lookup
    (call_meets F.slot_int_rmul (typeIs_int s k t) F.entry_int_rmul (F.args_int_rmul_2 _ _) (int___rmul___int_list k t l its.toArray n)
      ⟨e, rfl, ⟨_, e, rfl⟩, call_meets F.slot_list_mul ⟨_, e, rfl⟩ F.entry_list_mul (F.args_list_mul_2 _ _) (AutoListH.list___mul___list_int_3 l its.toArray n k t hfit hcap hlong) ⟨e, ?_⟩⟩)
  rw [hnew]
  exact ⟨.ref _, _, I.lnew (t' := s.toks) (r.rep k.toNat) (by rw [len_rep, Nat.mul_comm]; exact hz), rfl, q _ I.fresh⟩

/-! ### del xs[i] -/
end

/-! ### xs[a:b] = ys -/
section
variable {prog : Program} {w : World} {A : Around} {E : Value → Shared → Prop} {s : Shared}
end

section
variable {X : Cx}
end
end L2

namespace L2
open PySem PySem.Spec PyProof.Rows

/-! ### lists of pairs as tables -/
section
variable {κ : Type} [DecidableEq κ]
def valV (kvs : List (κ × V)) (k : κ) : Option V := (kvs.find? fun kv => decide (kv.1 = k)).map (·.2)
/-- in its place, or at the end -/
def putK (kvs : List (κ × V)) (k : κ) (v : V) : List (κ × V) :=
  if (kvs.any fun kv => decide (kv.1 = k)) = true then kvs.map (fun kv => if kv.1 = k then (kv.1, v) else kv) else kvs ++ [(k, v)]
def dropK (kvs : List (κ × V)) (k : κ) : List (κ × V) := kvs.filter fun kv => decide (kv.1 ≠ k)

theorem valV_pos {p : κ × V} {r : List (κ × V)} {k : κ} (e : p.1 = k) : valV (p :: r) k = some p.2 := by simp [valV, List.find?_cons, e]
theorem valV_neg {p : κ × V} {r : List (κ × V)} {k : κ} (e : ¬ p.1 = k) : valV (p :: r) k = valV r k := by simp [valV, List.find?_cons, e]
theorem valV_any (k : κ) : ∀ kvs : List (κ × V), (kvs.any fun kv => decide (kv.1 = k)) = (valV kvs k).isSome
  | [] => rfl
  | p :: r => by
    rw [List.any_cons]
    by_cases e : p.1 = k
    · simp only [valV_pos e, decide_eq_true e, Bool.true_or, Option.isSome_some]
    · rw [valV_neg e, decide_eq_false e, Bool.false_or]; exact valV_any k r
theorem RelO.isSome_eq {o : Option V} {u : Option Value} (r : RelO o u) : o.isSome = u.isSome := by
  cases o with
  | none => cases u with
    | none => rfl
    | some _ => exact (show False from r).elim
  | some _ => cases u with
    | none => exact (show False from r).elim
    | some _ => rfl
theorem RelO.getD {o : Option V} {u : Option Value} {d : V} {d' : Value} (r : RelO o u) (rd : RelV d d') : RelV (o.getD d) (u.getD d') := by
  cases o with
  | none => cases u with
    | none => exact rd
    | some _ => exact (show False from r).elim
  | some _ => cases u with
    | none => exact (show False from r).elim
    | some _ => exact r

/-- raw tables of the same keys -/
theorem KV.val {kvs : List (κ × V)} {vs : List (κ × Value)} (r : KV kvs vs) (k : κ) : RelO (valV kvs k) (valueAt vs k) := by
  unfold KV at r
  induction r with
  | nil => exact True.intro
  | @cons p q ps qs h t ih =>
    obtain ⟨h1, h2⟩ := h
    by_cases e : p.1 = k
    · have e' : q.1 = k := h1.symm.trans e
      have b : valueAt (q :: qs) k = some q.2 := by simp [valueAt, List.find?_cons, e']
      rw [valV_pos e, b]; exact h2
    · have e' : ¬ q.1 = k := fun z => e (h1.trans z)
      have b : valueAt (q :: qs) k = valueAt qs k := by simp [valueAt, List.find?_cons, e']
      rw [valV_neg e, b]; exact ih
theorem KV.any {kvs : List (κ × V)} {vs : List (κ × Value)} (r : KV kvs vs) (k : κ) : (kvs.any fun kv => decide (kv.1 = k)) = vs.any fun kv => decide (kv.1 = k) := by
  unfold KV at r
  induction r with
  | nil => rfl
  | cons h t ih => rw [List.any_cons, List.any_cons, ih, h.1]
theorem KV.repl {kvs : List (κ × V)} {vs : List (κ × Value)} (r : KV kvs vs) (k : κ) {y : V} {u : Value} (ry : RelV y u) :
    KV (kvs.map fun kv => if kv.1 = k then (kv.1, y) else kv) (vs.map fun kv => if kv.1 = k then (kv.1, u) else kv) := by
  unfold KV at r ⊢
  induction r with
  | nil => exact .nil
  | @cons p q ps qs h t ih =>
    rw [List.map_cons, List.map_cons]
    refine .cons ?_ ih
    obtain ⟨h1, h2⟩ := h
    by_cases e : p.1 = k
    · rw [if_pos e, if_pos (h1.symm.trans e)]; exact ⟨h1, ry⟩
    · rw [if_neg e, if_neg (fun z => e (h1.trans z))]; exact ⟨h1, h2⟩
theorem KV.put {kvs : List (κ × V)} {vs : List (κ × Value)} (r : KV kvs vs) (k : κ) {y : V} {u : Value} (ry : RelV y u) : KV (putK kvs k y) (stored vs k u) := by
  unfold putK stored
  rw [r.any k]
  by_cases e : (vs.any fun kv => decide (kv.1 = k)) = true
  · rw [if_pos e, if_pos e]; exact r.repl k ry
  · rw [if_neg e, if_neg e]; exact Paired.snoc r ⟨rfl, ry⟩
theorem KV.drop {kvs : List (κ × V)} {vs : List (κ × Value)} (r : KV kvs vs) (k : κ) : KV (dropK kvs k) (without vs k) := by
  unfold KV at r ⊢
  unfold dropK without
  induction r with
  | nil => exact .nil
  | @cons p q ps qs h t ih =>
    obtain ⟨h1, h2⟩ := h
    rw [List.filter_cons, List.filter_cons]
    by_cases e : p.1 = k
    · have a : ¬ decide (p.1 ≠ k) = true := by simp [e]
      have b : ¬ decide (q.1 ≠ k) = true := by simp [h1.symm.trans e]
      rw [if_neg a, if_neg b]; exact ih
    · have e' : ¬ q.1 = k := fun z => e (h1.trans z)
      have a : decide (p.1 ≠ k) = true := by simp [e]
      have b : decide (q.1 ≠ k) = true := by simp [e']
      rw [if_pos a, if_pos b]; exact .cons ⟨h1, h2⟩ ih
theorem KV.keys {kvs : List (κ × V)} {vs : List (κ × Value)} (r : KV kvs vs) : kvs.map (·.1) = vs.map (·.1) := by
  unfold KV at r
  induction r with
  | nil => rfl
  | cons h t ih => rw [List.map_cons, List.map_cons, ih, h.1]
theorem KV.length {kvs : List (κ × V)} {vs : List (κ × Value)} (r : KV kvs vs) : kvs.length = vs.length := Paired.length r
end


/-! ### a tracked dict, its keys ints and texts or tuples of these -/
theorem kV_is {P : Program} {w : World} {k : Key} {u : Value} (r : RelV (kV k) u) : (mixKind P w).is k u = true := by
  cases k with
  | inl i => obtain ⟨t, e⟩ := (show ∃ t, u = Value.int i t from r); subst e; exact mixKind_int P w i t
  | inr x => obtain ⟨t, e⟩ := (show ∃ t, u = Value.str x t from r); subst e; exact mixKind_str P w x t
/-- raw entries of a dict with tuple keys -/
abbrev KT (H : Hp) : List (List Key × V) → List (List Key × Addr × Value) → Prop := Paired fun p q => p.1 = q.1 ∧ H q.2.1 = some (.tup (p.1.map kV)) ∧ RelV p.2 q.2.2
theorem KT.val {H : Hp} {kvs : List (List Key × V)} {xs : List (List Key × Addr × Value)} (r : KT H kvs xs) (k : List Key) : RelO (valV kvs k) ((atKey xs k).map (·.2)) := by
  induction r with
  | nil => exact True.intro
  | @cons p q ps qs h t ih =>
    obtain ⟨h1, _, h2⟩ := h
    by_cases e : p.1 = k
    · have e' : q.1 = k := h1.symm.trans e
      have b : atKey (q :: qs) k = some q.2 := by simp [atKey, List.find?_cons, e']
      rw [valV_pos e, b]; exact h2
    · have e' : ¬ q.1 = k := fun z => e (h1.trans z)
      have b : atKey (q :: qs) k = atKey qs k := by simp [atKey, List.find?_cons, e']
      rw [valV_neg e, b]; exact ih
theorem KT.repl {H : Hp} {kvs : List (List Key × V)} {xs : List (List Key × Addr × Value)} (r : KT H kvs xs) (k : List Key) {y : V} {u : Value} (ry : RelV y u) :
    KT H (kvs.map fun kv => if kv.1 = k then (kv.1, y) else kv) (xs.map (putAt k u)) := by
  induction r with
  | nil => exact .nil
  | @cons p q ps qs h t ih =>
    rw [List.map_cons, List.map_cons]
    refine .cons ?_ ih
    obtain ⟨h1, h2, h3⟩ := h
    unfold putAt
    by_cases e : p.1 = k
    · rw [if_pos e, if_pos (h1.symm.trans e)]; exact ⟨h1, h2, ry⟩
    · rw [if_neg e, if_neg (fun z => e (h1.trans z))]; exact ⟨h1, h2, h3⟩
theorem KT.put {H : Hp} {kvs : List (List Key × V)} {xs : List (List Key × Addr × Value)} (r : KT H kvs xs) (k : List Key) {b : Addr} {y : V} {u : Value} (hb : H b = some (.tup (k.map kV))) (ry : RelV y u) :
    KT H (putK kvs k y) (storedH xs k b u) := by
  have e : (kvs.any fun kv => decide (kv.1 = k)) = (atKey xs k).isSome := by
    rw [valV_any, (r.val k).isSome_eq, Option.isSome_map]
  unfold putK storedH
  rw [e]
  by_cases q : (atKey xs k).isSome = true
  · rw [if_pos q, if_pos q]; exact r.repl k ry
  · rw [if_neg q, if_neg q]; exact Paired.snoc r ⟨rfl, hb, ry⟩
theorem KT.keeps {H H' : Hp} {kvs : List (List Key × V)} {xs : List (List Key × Addr × Value)} (r : KT H kvs xs) (ht : ∀ b ys, H b = some (.tup ys) → H' b = some (.tup ys)) : KT H' kvs xs :=
  Paired.mapP r fun _ _ z => ⟨z.1, ht _ _ z.2.1, z.2.2⟩

section
variable {P : Program} {w : World} {H : Hp} {h : Heap} {a : Addr}
theorem rd_of {u : HO} (ok : HOk P w H h) (e : Rd H a u) : ObjOk P w H h a u := e.ok ok
theorem dk_rd {kvs : List (Key × V)} (ok : HOk P w H h) (e : Rd H a (.dK kvs)) : kvs.length ≤ sizeLine ∧ (a == sysModules) = false ∧ ∃ vs, KV kvs vs ∧ h.DictOf (mixKind P w) a vs :=
  show ObjOk P w H h a (.dK kvs) from rd_of ok e
theorem dk_of {kvs : List (Key × V)} (ok : HOk P w H h) (e : H a = some (.dK kvs)) : kvs.length ≤ sizeLine ∧ (a == sysModules) = false ∧ ∃ vs, KV kvs vs ∧ h.DictOf (mixKind P w) a vs := dk_rd ok (.inl e)
end

/-- what the dict at a holds at the key y -/
def DGet (H : Hp) (a : Addr) (y : V) (r : Option V) : Prop :=
  (∃ kvs k, Rd H a (.dK kvs) ∧ y = kV k ∧ r = valV kvs k) ∨ ∃ kvs k b, Rd H a (.dT kvs) ∧ y = .ref b ∧ H b = some (.tup (k.map kV)) ∧ r = valV kvs k
/-- the heap behind a[y] = v -/
def DPut (H : Hp) (a : Addr) (y v : V) (H' : Hp) : Prop :=
  (∃ kvs k, H a = some (.dK kvs) ∧ y = kV k ∧ kvs.length < sizeLine ∧ H' = upd H a (.dK (putK kvs k v))) ∨
  ∃ kvs k b, H a = some (.dT kvs) ∧ y = .ref b ∧ H b = some (.tup (k.map kV)) ∧ kvs.length < sizeLine ∧ H' = upd H a (.dT (putK kvs k v))
theorem DGet.k {H : Hp} {a : Addr} {kvs : List (Key × V)} {k : Key} (e : H a = some (.dK kvs)) : DGet H a (kV k) (valV kvs k) := .inl ⟨kvs, k, .inl e, rfl, rfl⟩
theorem DGet.t {H : Hp} {a b : Addr} {kvs : List (List Key × V)} {k : List Key} (e : H a = some (.dT kvs)) (eb : H b = some (.tup (k.map kV))) : DGet H a (.ref b) (valV kvs k) := .inr ⟨kvs, k, b, .inl e, rfl, eb, rfl⟩
theorem DPut.k {H : Hp} {a : Addr} {kvs : List (Key × V)} {k : Key} {v : V} (e : H a = some (.dK kvs)) (hl : kvs.length < sizeLine) : DPut H a (kV k) v (upd H a (.dK (putK kvs k v))) := .inl ⟨kvs, k, e, rfl, hl, rfl⟩
theorem DPut.t {H : Hp} {a b : Addr} {kvs : List (List Key × V)} {k : List Key} {v : V} (e : H a = some (.dT kvs)) (eb : H b = some (.tup (k.map kV))) (hl : kvs.length < sizeLine) :
    DPut H a (.ref b) v (upd H a (.dT (putK kvs k v))) := .inr ⟨kvs, k, b, e, rfl, eb, hl, rfl⟩


section
variable {X : Cx} {pins : List (Addr × Obj)} {σ : St} {H : Hp} {s : Shared} {a : Addr} {y v : V} {u r : Value} {o : Option V} {A : Around} {E : Value → Shared → Prop}

theorem Inv.big (I : Inv X pins σ H s) : sysModules < s.heap.objs.size := by
  have h : mainGlobals < s.heap.objs.size := (I.mod.glob.keeps I.bk).lt
  exact Nat.lt_trans (by decide) h

/-- a dict's object is replaced -/
theorem d_write {h' : Heap} {t' : Nat} {ob : HO} (I : Inv X pins σ H s) (mu : Mut (H a)) (hs : Heap.SameBut a s.heap h') (he : ∃ q, h'.get? a = some q) (new : ObjOk X.prog X.w (upd H a ob) h' a ob) :
    Inv X pins σ (upd H a ob) { s with heap := h', toks := t' } :=
  I.write (x := a) (e := a) mu (.inl rfl) (fun b q hb z => (hs.2 b hb).trans z) he new
theorem dk_new {P : Program} {w : World} {H' : Hp} {h' : Heap} {kvs : List (Key × V)} {vs : List (Key × Value)} (z : kvs.length ≤ sizeLine) (hd : (a == sysModules) = false) (rel : KV kvs vs) (dd : h'.DictOf (mixKind P w) a vs) :
    ObjOk P w H' h' a (.dK kvs) := ⟨z, hd, vs, rel, dd⟩
end

section
variable {X : Cx} {pins : List (Addr × Obj)} {σ : St} {H : Hp} {s : Shared} {a : Addr} {kvs : List (Key × V)} {k : Key} {u : Value} {A : Around} {E : Value → Shared → Prop}
end


/-! ### readings and rules -/
/-- the element of a subscription, not a slice -/
def NoSl (i : Expr) : Prop := ∀ ov iv, subscripted i false ov iv = operate [ov, iv] (getItem ov iv)
theorem subD_of {prog : Program} {w : World} {A : Around} {E : Value → Shared → Prop} {s : Shared} {env : Env} {value slice : Expr} {pos : Pos} {T id : String} {Q : Value → Shared → Prop}
    (hl : typeLookup (.type T) "__getitem__" = pure (some (.builtin id))) (hs : NoSl slice)
    (h : wpAny (model prog w) A (eval value env) (fun o s₁ => wpAny (model prog w) A (eval slice env) (fun i s₂ => s₂.TypeIs o T ∧ wpAny (model prog w) A (getItem o i) Q E s₂) E s₁) E s) :
    wpAny (model prog w) A (eval (.Subscript value slice pos) env) Q E s := by
  refine Subscript_ (wpAny_mono h (fun o s₁ h₁ => wpAny_mono h₁ (fun i s₂ h₂ => ?_) fun _ _ x => x) fun _ _ x => x)
  obtain ⟨hT, h₂⟩ := h₂
  unfold subscriptTail
  refine wpAny_bind ?_
  rw [getitemInPython_of_ne hT.not_modules]
  refine wpAny_bind (wpAny_specialOf hT hl ?_)
  have fin : wpAny (model prog w) A (subscripted slice false o i) (fun r s₃ => wpAny (model prog w) A (letTemporaryGo value o r >>= fun _ => pure r) Q E s₃) E s₂ := by
    rw [hs o i]
    exact wpAny_operating (wpAny_mono h₂ (fun r s₃ h₃ => wpAny_bind (wpAny_letTemporaryGo (wpAny_pure h₃))) fun _ _ x => x)
  first
    | exact wpAny_pure (wpAny_bind fin)
    | exact wpAny_bind (wpAny_pure (wpAny_bind fin))
    | exact wpAny_bind fin

/-- d[y] -/
def tDGet (td ty : TE) : TE := fun σ H Q => td σ H fun x H1 => ty σ H1 fun y H2 => ∃ a v, x = .ref a ∧ DGet H2 a y (some v) ∧ Q v H2
/-- y in d, y not in d -/
def tDIn (ty td : TE) : TE := fun σ H Q => ty σ H fun y H1 => td σ H1 fun x H2 => ∃ a o, x = .ref a ∧ DGet H2 a y o ∧ Q (.bl o.isSome) H2
def tDNotIn (ty td : TE) : TE := fun σ H Q => ty σ H fun y H1 => td σ H1 fun x H2 => ∃ a o, x = .ref a ∧ DGet H2 a y o ∧ Q (.bl (!o.isSome)) H2
/-- d[y] = v -/
def sDPut (td ty tv : TE) : TS := fun D σ H => tv σ H fun v H1 => td σ H1 fun x H2 => ty σ H2 fun y H3 => ∃ a H4, x = .ref a ∧ DPut H3 a y v H4 ∧ D.nx σ H4
/-- d[y] op= v -/
def sDAug (td ty tv : TE) (rd : V → V → Hp → VK → Prop) : TS := fun D σ H => td σ H fun x H1 => ty σ H1 fun y H2 => ∃ a v, x = .ref a ∧ DGet H2 a y (some v) ∧
  tv σ H2 fun y2 H3 => rd v y2 H3 fun z H4 => ∃ H5, DPut H4 a y z H5 ∧ D.nx σ H5
/-- del d[y] -/
def sDDel (td ty : TE) : TS := fun D σ H => td σ H fun x H1 => ty σ H1 fun y H2 => ∃ a kvs k, x = .ref a ∧ H2 a = some (.dK kvs) ∧ y = kV k ∧ (valV kvs k).isSome = true ∧ D.nx σ (upd H2 a (.dK (dropK kvs k)))

section
variable {X : Cx} {o i e value : Expr} {pos pos' tpos : Pos} {td ty tv : TE}
end


/-! ### displays -/
theorem dk_empty {P : Program} {w : World} {H : Hp} (h : Heap) (hb : sysModules < h.objs.size) : ObjOk P w H (h.push { cls := .type "dict", data := .dict #[] }) h.objs.size (.dK []) :=
  ⟨Nat.zero_le _, beq_eq_false_iff_ne.mpr (Ne.symm (Nat.ne_of_lt hb)), [], .nil, Heap.DictOf.new h⟩
/-- {}, to be a dict of the kind that is wanted -/
def tDNewK : TE := fun _ H Q => ∀ p, H p = none → Q (.ref p) (upd H p (.dK []))
def tDNewT : TE := fun _ H Q => ∀ p, H p = none → Q (.ref p) (upd H p (.dT []))
section
variable {X : Cx} {pos : Pos}
end

/-- the pairs of a display, from the left -/
def tPairs : List (TE × TE) → St → Hp → (List (V × V) → Hp → Prop) → Prop
  | [], _, H, Q => Q [] H
  | (tk, tv) :: r, σ, H, Q => tk σ H fun x H1 => tv σ H1 fun y H2 => tPairs r σ H2 fun ps H3 => Q ((x, y) :: ps) H3
abbrev VV : List (V × V) → List (Value × Value) → Prop := Paired fun p q => RelV p.1 q.1 ∧ RelV p.2 q.2
def PPs (X : Cx) (pos : Pos) (keys : List (Option Expr)) (values : List Expr) (trs : List (TE × TE)) : Prop :=
  ∀ (pins : List (Addr × Obj)) (s : Shared) (σ : St) (H : Hp) (Q : List (V × V) → Hp → Prop), Inv X pins σ H s → tPairs trs σ H Q →
    wpAny (model X.prog X.w) X.A (evalPairs (pairTrees keys values X.env pos)) (fun vs s' => ∃ ps H', Inv X pins σ H' s' ∧ VV ps vs ∧ Q ps H') X.xe s
def mergeK (kvs more : List (Key × V)) : List (Key × V) := more.foldl (fun acc kv => putK acc kv.1 kv.2) kvs
/-- {k: v, ..} with keys ints and texts; the new dict stands empty while the pairs are made -/
def tDisp (trs : List (TE × TE)) : TE := fun σ H Q => ∀ p, H p = none → tPairs trs σ (upd H p (.dK [])) fun ps H2 => H2 p = some (.dK []) ∧ ∃ kvs : List (Key × V), ps = kvs.map (fun kv => (kV kv.1, kv.2)) ∧ kvs.length ≤ 15 ∧ Q (.ref p) (upd H2 p (.dK (mergeK [] kvs)))
/-! ### methods -/
/-- a method call o.m(e) of a built-in, with one argument: what must be seen of the text -/
structure M1 (X : Cx) (o : Expr) (m : Str) (apos : Pos) (e : Expr) (cpos : Pos) : Prop where
  base : attributeBase o m X.env (eval o X.env) = eval o X.env
  few : ((backTo cpos (starEach [e] X.env)).all (fun x => !x.1) && (backToKw cpos (keywordEach [] X.env)).all (fun x => x.1.isSome)
    && decide (([e] : List Expr).length + ([] : List Keyword).length + (if ([] : List Keyword).isEmpty then 0 else 1) < 30)) = true
  line : (apos.endLine == cpos.line) = true
  trees : backTo cpos (starEach [e] X.env) = [(false, eval e X.env)]
structure M2 (X : Cx) (o : Expr) (m : Str) (apos : Pos) (e f : Expr) (cpos : Pos) : Prop where
  base : attributeBase o m X.env (eval o X.env) = eval o X.env
  few : ((backTo cpos (starEach [e, f] X.env)).all (fun x => !x.1) && (backToKw cpos (keywordEach [] X.env)).all (fun x => x.1.isSome)
    && decide (([e, f] : List Expr).length + ([] : List Keyword).length + (if ([] : List Keyword).isEmpty then 0 else 1) < 30)) = true
  line : (apos.endLine == cpos.line) = true
  trees : backTo cpos (starEach [e, f] X.env) = [(false, eval e X.env), (false, eval f X.env)]

/-- a is a dict, whatever its keys -/
def IsD (H : Hp) (a : Addr) : Prop := (∃ kvs, Rd H a (.dK kvs)) ∨ ∃ kvs, Rd H a (.dT kvs)
section
variable {X : Cx} {pins : List (Addr × Obj)} {σ : St} {H : Hp} {s : Shared} {a : Addr} {y d : V} {u r : Value} {o : Option V} {A : Around} {E : Value → Shared → Prop}
end

def tDGet1 (td ty : TE) : TE := fun σ H Q => td σ H fun x H1 => ∃ a, x = .ref a ∧ IsD H1 a ∧ ty σ H1 fun y H2 => ∃ o, DGet H2 a y o ∧ Q (o.getD .non) H2
def tDGet2 (td ty tx : TE) : TE := fun σ H Q => td σ H fun x H1 => ∃ a, x = .ref a ∧ IsD H1 a ∧ ty σ H1 fun y H2 => tx σ H2 fun z H3 => ∃ o, DGet H3 a y o ∧ Q (o.getD z) H3
/-- d.pop(k): there; d.pop(k, x): there or not -/
def tDPop1 (td ty : TE) : TE := fun σ H Q => td σ H fun x H1 => ∃ a, x = .ref a ∧ IsD H1 a ∧ ty σ H1 fun y H2 => ∃ kvs k v, H2 a = some (.dK kvs) ∧ y = kV k ∧ valV kvs k = some v ∧ Q v (upd H2 a (.dK (dropK kvs k)))
def tDPop2 (td ty tx : TE) : TE := fun σ H Q => td σ H fun x H1 => ∃ a, x = .ref a ∧ IsD H1 a ∧ ty σ H1 fun y H2 => tx σ H2 fun z H3 => ∃ kvs k, H3 a = some (.dK kvs) ∧ y = kV k ∧
  (∀ v, valV kvs k = some v → Q v (upd H3 a (.dK (dropK kvs k)))) ∧ (valV kvs k = none → Q z H3)
section
variable {X : Cx} {o e f : Expr} {apos cpos : Pos} {td ty tx : TE}
end

/-! ### dict(d): a copy -/
section
variable {X : Cx} {pins : List (Addr × Obj)} {σ : St} {H : Hp} {s : Shared} {a : Addr} {kvs : List (Key × V)} {A : Around} {E : Value → Shared → Prop}
end


section
variable {X : Cx} {pins : List (Addr × Obj)} {σ : St} {H : Hp} {s : Shared} {a : Addr} {y : V} {u : Value} {A : Around} {E : Value → Shared → Prop}
end
end L2

namespace Att
open PySem PySem.W PySem.Calls PyProof.Rows

/-! ### the script -/
theorem ints_of_wellAll {P : Params} {h : Heap} : ∀ (ns : List Int) (vs : List Value), WellAll P h vs (ns.map WData.int) → IntsAre vs ns := by
  intro ns
  induction ns with
  | nil =>
    intro vs w
    rw [List.map_nil] at w
    cases w
    exact .nil
  | cons n ns ih =>
    intro vs w
    rw [List.map_cons] at w
    cases w with
    | cons a b =>
      cases a
      exact .cons _ _ (ih _ b)

theorem script_of {l : OpenLaw} {n : Nat} (hn : l.most = some n) {P : Params} {h : Heap} {args : List WData} {vals : List Value}
    (hpre : l.row.toRowW.claim.pre args = true) (hwl : WellAll P h vals args) :
    ∃ a vs ns, vals = [Value.ref a] ∧ args = [WData.list (ns.map WData.int)] ∧ h.get? a = some { cls := .type "list", data := .seq vs.toArray } ∧ IntsAre vs ns ∧ ns.length ≤ n := by
  have hsh : WShape.hasAll [] args [.list .int] = true := (pre_splitW hpre).1
  have hc : l.pre.holds [] { args := args } = true := (pre_splitW hpre).2
  obtain ⟨d, r, rfl, h1, h2⟩ := hasAllW_cons hsh
  obtain rfl := hasAllW_nil h2
  obtain ⟨xs, rfl, h3⟩ := hasW_list h1
  obtain ⟨ns, rfl⟩ := items_int h3
  have hlen : ns.length ≤ n := by
    unfold OpenLaw.pre at hc
    have h4 : (WTm.not (.lt (.lit (.int (n : Int))) (.len (.arg 0)))).holds [] { args := [.list (ns.map .int)] } = true := by
      have h4 := (holds_andW hc).1
      rw [hn] at h4
      exact h4
    have h5 := condW_of h4 (w_not (w_lt w_lit (w_len_list (w_arg rfl))))
    rw [List.length_map] at h5
    refine Nat.le_of_not_lt fun q => ?_
    have q' : (n : Int) < ((ns.length : Nat) : Int) := by omega
    first
      | (rw [decide_eq_true q'] at h5; exact absurd h5 (by decide))
      | (simp at h5; omega)
  cases hwl with
  | cons w1 w2 =>
    cases w2
    cases w1 with
    | list ho hall => exact ⟨_, _, ns, rfl, rfl, ho, ints_of_wellAll ns _ hall, hlen⟩

theorem post_true (l : OpenLaw) (args : List WData) : l.row.toRowW.claim.post args (.bool true) args = true :=
  postW_of (r := l.row.toRowW) (X := (true == true))
    (show WShape.has [] (.bool true) .bool = true by first | rfl | decide | simp [WShape.has, WShape.arms, WShape.armsAll])
    (show (WTm.eq .res (.lit (.bool true))).value [] { args := args, res := some (.bool true), after := args } = some (.bool (true == true)) from w_eq_bool (w_res rfl) w_lit) rfl

/-! ### the attachment: holds_open's last premise (the goal 'hc' behind k_head) from a wpAny of the law's body -/
/-- the same from a codeAny of the CALL (for a layer whose function contracts speak of calls) -/
theorem attach_call {l : OpenLaw} {n : Nat} {q : Program} {loose : List Str} {XP : (Str → Option Value) → Heap → Prop} {YP : World → Heap → Prop} {d : DefRec}
    (hn : l.most = some n) (hdf : d.params.defaults = [])
    (call : ∀ (w : World) (s₀ s₁ : Shared) (mg mb : Str → Option Value) (fa : Addr) (o : Obj) (pm cd doc : Value) (a : Addr) (vs : List Value) (ns : List Int),
      Ground q loose [] XP w s₀ mg mb s₁.heap → YP w s₁.heap →
      s₁.heap.get? fa = some o → o.data = .func (docDef d.name d.params d.body d.scope pm cd doc) → s₁.heap.CodeRec cd d.name → mg d.name = some (.ref fa) →
      s₁.heap.get? a = some { cls := .type "list", data := .seq vs.toArray } → IntsAre vs ns → ns.length ≤ n → s₁.gens = #[] →
      codeAny (model l.prog w) callerA (.call (.ref fa) ⟨[.ref a], []⟩) (fun r s' => r = .ok (.ret (.bool true)) ∧ OldK s₁.heap s'.heap ∧ s'.os = s₁.os ∧ AllBare s'.gens) s₁) :
    WalkO q loose XP YP l.row.toRowW d [] (fun f vs => PySem.call f vs) := by
  intro w s₀ s₁ mg mb G Y fa o pm cd doc dV kV ho hd hcd hD hmg hg args vals as hpre hlay hrd hwl hlo
  obtain rfl : dV = .none := Dflts.none hD hdf
  obtain rfl : kV = .none := Dflts.noKw hD
  obtain ⟨a, vs, ns, rfl, rfl, hobj, hints, hlen⟩ := script_of hn hpre hwl
  refine enter_call (codeAny_mono (call w s₀ s₁ mg mb fa o pm cd doc a vs ns G Y ho (fd_plain hd) hcd hmg hobj hints hlen hg) fun r s' hq => ?_)
  obtain ⟨rfl, h2, h3, h4⟩ := hq
  exact ⟨.inl ⟨.bool true, .bool true, [], rfl, fun _ => rfl, .bool true, post_true l _, fun _ => ⟨List.Pairwise.nil, fun _ hm => (nomatch hm)⟩⟩, h2, h3, h4⟩

/-! ### rules over ANY heap (no ledger) from facts about the written part K: the library's own take a ledger (News) for what they write -/
section
variable {prog : Program} {w : World} {A : Around} {E : Value → Shared → Prop} {s : Shared} {K : Frag}

/-! the whole heap as the ledger: makes every rule that writes through a ledger a rule over any heap -/
def noObjs (h : Heap) : Heap := { h with objs := #[] }
def ledger (h : Heap) (L d : Addr) : List (Addr × Obj) := (List.range h.objs.size).filterMap fun a => if a = L ∨ a = d then none else (h.get? a).map fun o => (a, o)
end
end Att

namespace L2
open PySem PySem.Spec PyProof.Rows

theorem vals_ints : ∀ {vs : List Value} {ns : List Int}, IntsAre vs ns → Vals (ns.map V.int) vs
  | _, _, .nil => .nil
  | _, _, .cons n t h => .cons ⟨t, rfl⟩ (vals_ints h)

/-- nothing is tracked but the script, known to the object (or it is an object of the module) -/
def Only (H : Hp) : Prop := ∀ b, H b = none ∨ ∃ o xs, H b = some (.frz o (.lst xs))

/-- THE HEAD: the law's promise, at the heap behind the top. F, the promise of the law's def, may use that base is part of the heap (so K.In base, base.Ns mainGlobals mg stand in Mod) -/
theorem law_call {P : Program} {w : World} {K : PySem.W.Frag} {mg mb : Str → Option Value} {CX : CXT} {k : Nat} {fa a : Addr} {fd : FuncData} {x : Str} {sp : Sp} {s₁ : Shared} {vs : List Value} {ns : List Int}
    (KX : K.In s₁.heap) (hns : s₁.heap.Ns mainGlobals mg) (hb : s₁.heap.Ns builtinsNs mb) (hbb : ∀ x : Str, x ≠ "__name__" → mb x = bootBuiltins x) (hlim : s₁.heap.NoLimit) (hg : s₁.gens = #[])
    (ha : s₁.heap.get? a = some { cls := .type "list", data := .seq vs.toArray }) (hi : IntsAre vs ns) (hl : ns.length ≤ sizeLine) (hr : Room k callerA)
    (F : ∀ base : Heap, K.In base → base.Ns mainGlobals mg → FnOk P w K mg base CX k fa fd [x] sp) (hbind : ∀ (s : Shared) (u : Value), BindsTo s fd ⟨[u], []⟩ [(x, u)])
    (hsp : ∀ H : Hp, Only H → SqL K H a (ns.map V.int) → sp [.ref a] H (fun v _ => v = .bl true) fun _ _ _ => False)
    (hCX : ∀ H e s', CX [] H s₁ (fun _ _ _ => False) e s' → False) :
    codeAny (model P w) callerA (.call (.ref fa) ⟨[.ref a], []⟩) (fun r s' => r = .ok (.ret (.bool true)) ∧ OldK s₁.heap s'.heap ∧ s'.os = s₁.os ∧ AllBare s'.gens) s₁ := by
  have rv := vals_ints hi
  have lenV := hi.length
  -- from an abstract heap in which nothing but the script may be tracked
  have core : ∀ H : Hp, Only H → SqL K H a (ns.map V.int) → HOk P w H s₁.heap → (∀ b, H b ≠ none → b = a) → (H a ≠ none → K.lookup a = none) →
      codeAny (model P w) callerA (.call (.ref fa) ⟨[.ref a], []⟩) (fun r s' => r = .ok (.ret (.bool true)) ∧ OldK s₁.heap s'.heap ∧ s'.os = s₁.os ∧ AllBare s'.gens) s₁ := by
    intro H hO hS hok hA hK
    have base_of : ∀ {b : Addr} {o : Obj}, s₁.heap.get? b = some o → H b = none → (hidT s₁.heap H).get? b = some o := fun e n => hidT_get e n
    have noA : ∀ {b : Addr} {o : Obj} {es : Array DictEntry} {ep : Nat}, s₁.heap.get? b = some o → o.data = .dict es ep → H b = none := fun {b o es ep} e d => by
      cases q : H b with
      | none => rfl
      | some u =>
        have e' : b = a := hA b (by rw [q]; simp)
        subst e'
        rw [ha] at e; cases e
        have d' : Data.seq vs.toArray _ = Data.dict es ep := d
        cases d'
    have nsK : ∀ {b : Addr} {m : Str → Option Value}, s₁.heap.Ns b m → (hidT s₁.heap H).Ns b m := fun {b m} ⟨o, es, ep, e, d, r⟩ => ⟨o, es, ep, base_of e (noA e d), d, r⟩
    have hKb : K.In (hidT s₁.heap H) := fun b o e => base_of (KX b o e) (by
      cases q : H b with
      | none => rfl
      | some u =>
        have e' : b = a := hA b (by rw [q]; simp)
        subst e'
        rw [hK (by rw [q]; simp)] at e; cases e)
    have hM : Mod K mg (hidT s₁.heap H) := ⟨hKb, nsK hns, ⟨mb, nsK hb, hbb⟩, let ⟨mc, h1, h2⟩ := hlim; ⟨mc, nsK h1, h2⟩⟩
    have e0 : Env0 P w K mg (hidT s₁.heap H) callerA [] s₁ H := ⟨rfl, hM, fun b o e => of_hidT e, Nat.le_of_eq (hidT_size _ _), trivial, fun b hb => absurd (show b ∈ ([] : List Addr) from hb) (by simp), hok, .of_eq hg⟩
    refine codeAny_mono ((F _ hKb (nsK hns)).run callerA [] s₁ H ⟨[.ref a], []⟩ [.ref a] [.ref a] _ _ hr e0 (hbind s₁ (.ref a)) (.cons rfl .nil) (hsp H hO hS)) fun r s' h => ?_
    cases r with
    | error e => exact (hCX H e s' h).elim
    | ok fl =>
      cases fl with
      | next => exact False.elim h
      | brk => exact False.elim h
      | cont => exact False.elim h
      | ret u =>
        obtain ⟨v, H', os, bare, un, hok', r', q⟩ := h
        have q' : v = .bl true := q
        subst q'
        obtain rfl : u = Value.bool true := r'
        refine ⟨rfl, OldK.of_keep fun b o e => ?_, os, bare⟩
        cases q : H b with
        | none => exact un.keep b o e q (by intro z; exact absurd (show b ∈ ([] : List Addr) from z) (by simp)) (by simp)
        | some u =>
          rcases hO b with z | ⟨ob, xs, z⟩
          · rw [q] at z; cases z
          · have z2 := un.frzs b ob _ z
            obtain ⟨e1, _⟩ := hok b _ z
            obtain ⟨e2, _⟩ := hok' b _ z2
            rw [e] at e1; cases e1
            exact e2
  cases hk : K.lookup a with
  | some o =>
    -- the script is one of the module's own objects
    have e := KX a o hk
    rw [ha] at e
    cases e
    refine core (fun _ => none) (fun _ => .inl rfl) (.inr ⟨_, vs.toArray, _, hk, rfl, rfl, rfl, by rw [List.size_toArray, lenV]; exact hl, by simpa using rv⟩) (fun b u z => by have z' : (none : Option HO) = some u := z; cases z') (fun b z => absurd rfl z) fun z => absurd rfl z
  | none =>
    refine core (fun b => if b = a then some (.frz { cls := .type "list", data := .seq vs.toArray } (.lst (ns.map V.int))) else none) (fun b => ?_) (.inl (.inr ⟨{ cls := .type "list", data := .seq vs.toArray }, if_pos rfl⟩)) (fun b u z => ?_) (fun b z => ?_) fun _ => hk
    · by_cases hb : b = a
      · exact .inr ⟨_, _, if_pos hb⟩
      · exact .inl (if_neg hb)
    · by_cases hb : b = a
      · have z' := (if_pos hb).symm.trans z
        cases z'
        subst hb
        exact ⟨ha, by rw [List.length_map]; exact hl, vs, _, rv, ha⟩
      · have z' := (if_neg hb).symm.trans z
        cases z'
    · by_cases hb : b = a
      · exact hb
      · exact absurd (if_neg hb) z
end L2

namespace L2
open PySem PySem.Spec PyProof.Rows

abbrev KOf {K : PySem.W.Frag} {h : Heap} (_ : K.In h) : PySem.W.Frag := K

/-- the goal that k_head leaves (case hc), from the law's promise. F gives the function object fd (K's own) once, then the promise over every base -/
theorem walk_of {l : PySem.W.OpenLaw} {n k : Nat} {q : Program} {loose : List Str} {XP : (Str → Option Value) → Heap → Prop} {YP : World → Heap → Prop} {d : DefRec} {K : Params → PySem.W.Frag} {CX : World → CXT} {sp : World → Sp} {x : Str}
    (hn : l.most = some n) (hn2 : n ≤ sizeLine) (hdf : d.params.defaults = []) (hr : Room k callerA)
    (hY : ∀ (w : World) (h : Heap), YP w h → (K w.params).In h)
    (F : ∀ (w : World) (mg : Str → Option Value) (fa : Addr) (h : Heap), (K w.params).In h → h.Ns mainGlobals mg → mg d.name = some (.ref fa) →
      ∃ fd : FuncData, (∀ (s : Shared) (u : Value), BindsTo s fd ⟨[u], []⟩ [(x, u)]) ∧
        ∀ base : Heap, (K w.params).In base → base.Ns mainGlobals mg → FnOk l.prog w (K w.params) mg base (CX w) k fa fd [x] (sp w))
    (hsp : ∀ (w : World) (H : Hp) (a : Addr) (ns : List Int), ns.length ≤ n → Only H → SqL (K w.params) H a (ns.map V.int) → sp w [.ref a] H (fun v _ => v = .bl true) fun _ _ _ => False)
    (hCX : ∀ (w : World) (H : Hp) (s : Shared) (e : Value) (s' : Shared), CX w [] H s (fun _ _ _ => False) e s' → False) :
    PySem.W.WalkO q loose XP YP l.row.toRowW d [] (fun f vs => PySem.call f vs) := by
  refine Att.attach_call hn hdf fun w s₀ s₁ mg mb fa o pm cd doc a vs ns G Y ho hd hcd hmg hobj hints hlen hg => ?_
  have KX := hY w _ Y
  obtain ⟨fd, hb, hF⟩ := F w mg fa _ KX G.T.g hmg
  exact law_call KX G.T.g G.T.b G.T.builtins G.T.nolimit hg hobj hints (Nat.le_trans hlen hn2) hr hF hb (fun H hO hS => hsp w H a ns hlen hO hS) fun H e s' => hCX w H s₁ e s'
end L2

/- THE LAST THEOREM (shape; LID, My.* are yours):
   My.Adr: a structure of the addresses that your layer names (classes, functions); My.Txt K t: a structure (Prop) of the equations over K;
   My.txt_mk : {K} {implicit addresses ..} (e1 : nsIn K mainGlobals "law" = some (some (.ref f))) (e2 : K.lookup f = some ⟨oc, od, .func (fnOf "law" "law" params body scope dV kV doc pm an cdv ct), sl⟩) (e3 : codeIn K cdv "law" = true) .. : ∃ t, My.Txt K t

set_option maxRecDepth 100000 in
set_option maxHeartbeats 0 in
theorem PySem.Challenge.cw_LID_holds : PySem.Challenge.rw_LID.Holds := by
  w_on; o_law; k_head; (case hw => w_witness2)
  k_fill
  refine L2.walk_of (l := PySem.Challenge.rw_LID) (n := 63) (k := 40) (x := "script") (CX := fun w => ..) (sp := fun _ => My.sp_law) rfl (by decide) rfl ⟨rfl, by decide, by decide⟩ (fun w h Y => PySem.W.kIn_of Y) ?F ?S ?C
  case F =>
    intro w mg fa h KX G hmg
    have T : ∃ t, My.Txt (L2.KOf KX) t := by
      dsimp only [L2.KOf]                          -- K must stand as «<heap const> w.params» for k_is
      refine' My.txt_mk ?e1 ?e2 ?e3 ..
      (case e1 => PySem.W.k_is)                    -- in the order: a name -> its address -> its object -> its parts
      (case e2 => PySem.W.k_is)
      ..
    obtain ⟨t, T⟩ := T
    have e0 := hmg.symm.trans (PySem.W.mg_of KX G T.law)
    cases e0                                       -- fa is the law's own address
    exact ⟨_, fun s u => .of_eq rfl, fun base kb nb => My.law_fn T kb nb⟩     -- if «.of_eq rfl» comes too early: refine' ⟨_, ?b, fun base kb nb => My.law_fn T kb nb⟩; exact fun s u => .of_eq rfl
  case S => exact fun w H a ns hl hO hS => ..
  case C => exact ..
(the tactic k_is has no namespace: write k_is) -/

/-! SHORT WORDS over the layer: a def of the text, its body, what a loop and a test want. -/
namespace L2
open PySem PySem.Spec PyProof.Rows

/-! ### the text by places -/
/-- the j-th statement of a class's body -/
def inClass (s : Stmt) (j : Nat) : Stmt := match s with
  | .ClassDef _ _ _ body _ _ _ _ _ _ _ => body.getD j (.Pass ⟨0, 0, 0, 0⟩)
  | _ => .Pass ⟨0, 0, 0, 0⟩
def defArgs (s : Stmt) : Arguments := match s with
  | .FunctionDef _ a _ _ _ _ _ _ _ _ => a
  | _ => { posonlyargs := [], args := [], vararg := none, kwonlyargs := [], kw_defaults := [], kwarg := none, defaults := [] }
def defBody (s : Stmt) : List Stmt := match s with
  | .FunctionDef _ _ b _ _ _ _ _ _ _ => b
  | _ => []
def defScope (s : Stmt) : Scope := match s with
  | .FunctionDef _ _ _ _ _ _ sc _ _ _ => sc
  | _ => { kind := .function, names := [], isGenerator := false, isCoroutine := false }

/-! ### no exception leaves a def -/
abbrev CX0 : CXT := fun _ _ _ _ _ _ => False
abbrev E0 : XK := fun _ _ _ => False
/-! ### a def (or method) of the text as it stands behind the top -/
structure Fun (K : PySem.W.Frag) (x qual : Str) (st : Stmt) (f : Addr) (fd : FuncData) : Prop where
  ex : ∃ (oc : Value) (od : Option Addr) (kV doc pm : Value) (an : Option Addr) (cdv ct : Value) (osl : Array (Option Value)),
    fd = PySem.W.fnOf x qual (defArgs st) (defBody st) (defScope st) .none kV doc pm an cdv ct ∧ K.lookup f = some ⟨oc, od, .func fd, osl⟩ ∧ PySem.W.codeIn K cdv qual = true
  kp : PySem.W.keepIn K (.ref f) = true
section
variable {P : Program} {w : World} {K : PySem.W.Frag} {mg : Str → Option Value} {base : Heap}
/-- THE RULE for a def: its body as a term of rules, and the reading of that term -/
theorem Fun.ok {x qual : Str} {st : Stmt} {f : Addr} {fd : FuncData} {N ps : List Str} {k : Nat} {sp : Sp} (F : Fun K x qual st f fd) (S : FnScope N ps (defScope st)) (len : ∀ vs H Q E, sp vs H Q E → vs.length = ps.length)
    (hbody : ∀ (cdv : Value) (A : Around) (outer : List Env) (s : Shared) (H : Hp) (vs : List V) (Q : VK) (E : XK), Room k (A.deeper (envOfC qual (defScope st) s.heap.objs.size f cdv)) → sp vs H Q E →
      ∃ t, PSs (cxOf CX0 P w K mg base N qual (defScope st) f cdv A outer s H E).nox (defBody st) t ∧ t { nx := fun _ H' => Q .non H', rt := Q } (start N vs) H) : FnOk P w K mg base CX0 (k + 1) f fd ps sp := by
  obtain ⟨oc, od, kV, doc, pm, an, cdv, ct, osl, rfl, lk, hcd⟩ := F.ex
  refine fn_of lk hcd S len fun A outer s H vs Q E hr hsp => ?_
  obtain ⟨t, h, q⟩ := hbody cdv A outer s H vs Q E hr hsp
  exact ⟨t, h.nox, q⟩
/-- how its arguments bind (no defaults): h is «fun _ _ _ _ _ _ us hl => match us, hl with | [_, _], _ => rfl», one _ a parameter -/
theorem Fun.binds {x qual : Str} {st : Stmt} {f : Addr} {fd : FuncData} {ps : List Str} (F : Fun K x qual st f fd)
    (h : ∀ (kV doc pm : Value) (an : Option Addr) (cdv ct : Value) (us : List Value), us.length = ps.length → bindArgs (PySem.W.fnOf x qual (defArgs st) (defBody st) (defScope st) .none kV doc pm an cdv ct) ⟨us, []⟩ = pure (ps.zip us)) : Binds K fd ps [] := by
  obtain ⟨oc, od, kV, doc, pm, an, cdv, ct, osl, rfl, lk, hcd⟩ := F.ex
  exact .all (h kV doc pm an cdv ct)
theorem fun_mk {x qual : Str} {st : Stmt} {f : Addr} {oc : Value} {od an : Option Addr} {osl : Array (Option Value)} {kV doc pm cdv ct : Value} (l : K.lookup f = some ⟨oc, od, .func (PySem.W.fnOf x qual (defArgs st) (defBody st) (defScope st) .none kV doc pm an cdv ct), osl⟩)
    (c : PySem.W.codeIn K cdv qual = true) (k : PySem.W.keepIn K (.ref f) = true) : Fun K x qual st f (PySem.W.fnOf x qual (defArgs st) (defBody st) (defScope st) .none kV doc pm an cdv ct) := ⟨⟨oc, od, kV, doc, pm, an, cdv, ct, osl, rfl, l, c⟩, k⟩
end
/-! ### expressions in short: the name that stands in the i-th slot -/
section
variable {X : Cx}
theorem pv (i : Nat) {x : Str} {pos : Pos} (hN : X.N[i]? = some x := by rfl) (hv : Vis X.env.scope x := by first | exact Or.inl rfl | exact Or.inr (Or.inl rfl) | exact Or.inr (Or.inr rfl)) (hd : (x == ("__debug__" : Str)) = false := by decide)
    (hcd : (x == ("__classdict__" : Str)) = false := by decide) : PE X (.Name x pos) (tVar i) := pe_var hN hv hd hcd
end

/-! ### tests -/
theorem iteT {A B : Prop} (h : A) : if true = true then A else B := by
  rw [if_pos rfl]
  exact h
theorem ite2 {c A B : Prop} [Decidable c] (h1 : c → A) (h2 : ¬ c → B) : if c then A else B := by
  by_cases h : c
  · rw [if_pos h]
    exact h1 h
  · rw [if_neg h]
    exact h2 h
/-! ### heaps -/
/-- all that was tracked is as it was -/
def Same (H H' : Hp) : Prop := ∀ b o, H b = some o → H' b = some o
theorem Same.refl (H : Hp) : Same H H := fun _ _ h => h
theorem Same.trans {H H1 H2 : Hp} (a : Same H H1) (b : Same H1 H2) : Same H H2 := fun c o h => b c o (a c o h)
theorem Same.free {H H' : Hp} (e : Same H H') {l : Addr} (h : H' l = Option.none) : H l = Option.none := by
  cases q : H l with
  | none => rfl
  | some o =>
    rw [e l o q] at h
    cases h
theorem Same.seq {K : PySem.W.Frag} {H H' : Hp} {a : Addr} {xs : List V} (e : Same H H') (h : SqL K H a xs) : SqL K H' a xs := by
  rcases h with (h | ⟨o, h⟩) | h
  · exact .inl (.inl (e _ _ h))
  · exact .inl (.inr ⟨o, e _ _ h⟩)
  · exact .inr h

end L2

namespace L2
open PySem PySem.Spec PyProof.Rows
section
variable {X : Cx}
end
/-! ### a dict's pairs: keys that differ -/
section
variable {κ : Type} [DecidableEq κ]
end
end L2

/-! OWN RULES over the layer. -/
namespace L2
open PySem PySem.Spec PyProof.Rows

/-! ### sizes of ints -/
def Bt (n : Nat) (i : Int) : Prop := i.natAbs < 2 ^ n
theorem Bt.mono {m n : Nat} {i : Int} (h : Bt m i) (q : m ≤ n) : Bt n i := Nat.lt_of_lt_of_le h (Nat.pow_le_pow_right (by decide) q)
theorem Bt.add {n : Nat} {i j : Int} (h1 : Bt n i) (h2 : Bt n j) : Bt (n + 1) (i + j) := by
  unfold Bt at *
  rw [Nat.pow_succ]
  generalize 2 ^ n = p at *
  omega
theorem Bt.neg {n : Nat} {i : Int} (h1 : Bt n i) : Bt n (-i) := by
  unfold Bt at *
  omega
theorem Bt.sub {n : Nat} {i j : Int} (h1 : Bt n i) (h2 : Bt n j) : Bt (n + 1) (i - j) := by
  have h := Bt.add h1 h2.neg
  rw [← Int.sub_eq_add_neg] at h
  exact h
theorem Bt.of {n : Nat} {i : Int} (b : Nat) (h1 : -(b : Int) ≤ i) (h2 : i ≤ (b : Int)) (h : b < 2 ^ n := by decide +kernel) : Bt n i := by
  unfold Bt
  exact Nat.lt_of_le_of_lt (by omega) h
theorem Bt.log {n : Nat} {i : Int} (h : Bt n i) (q : n ≤ 9000 := by decide) : i.natAbs.log2 < 9000 := by
  by_cases z : i.natAbs = 0
  · rw [z]; decide
  · exact Nat.lt_of_lt_of_le ((Nat.log2_lt z).mpr h) q
theorem mulOkL {i j : Int} (h1 : -(2 ^ 64) < i := by decide) (h2 : i < 2 ^ 64 := by decide) : IntMulOk i j := .of_left (intBits_le_64 h1 h2)
theorem mulOkR {i j : Int} (h1 : -(2 ^ 64) < j := by decide) (h2 : j < 2 ^ 64 := by decide) : IntMulOk i j := .of_right (intBits_le_64 h1 h2)

section
variable {X : Cx}
theorem op_mulB : OpR X (binaryOp .Mult) (rI IntMulOk fun i j => .int (i * j)) := opI fun _ _ _ _ _ _ _ hc q => mul_int q hc
def CDivB (_ j : Int) : Prop := 0 < j ∧ j.natAbs.log2 < 9000
theorem CDivB.of {i j : Int} {n : Nat} (h : 0 < j) (b : Bt n j) (q : n ≤ 9000 := by decide) : CDivB i j := ⟨h, b.log q⟩
theorem CDivB.lit {i j : Int} (h : 0 < j := by decide) (q : j.natAbs.log2 < 9000 := by decide) : CDivB i j := ⟨h, q⟩
theorem op_fdivB : OpR X (binaryOp .FloorDiv) (rI CDivB fun i j => .int (i / j)) := opI fun i j _ _ _ _ _ hc q => by
  have h1 : (0 : Int) < j := hc.1
  exact floordiv_int (by omega) (by rw [Int.fdiv_eq_ediv_of_nonneg i (by omega)]; exact q) (.inl (PyProof.noPylong_of_log2 hc.2))
def CDivS (_ j : Int) : Prop := j ≠ 0 ∧ j.natAbs.log2 < 9000
theorem CDivS.of {i j : Int} {n : Nat} (h : j ≠ 0) (b : Bt n j) (q : n ≤ 9000 := by decide) : CDivS i j := ⟨h, b.log q⟩
theorem op_modB : OpR X (binaryOp .Mod) (rI (fun _ j => 0 < j) fun i j => .int (i % j)) := op_mod

/-! ### tuples: tracked ones; a new one among others -/
def rIxTH : R2 := fun x y H Q => ∃ p xs i v, x = .ref p ∧ y = .int i ∧ H p = some (.tup xs) ∧ atI xs i = some v ∧ Q v H
theorem ix_tupH : IxR X rIxTH := fun value slice pins s σ H x y v u Q I rx ry ⟨p, xs, i, z, e1, e2, e3, e4, q⟩ hs =>
  ix_tup value slice pins s σ H x y v u Q I rx ry ⟨p, xs, i, z, e1, e2, SqT.of e3, e4, q⟩ hs
def rIxLH : R2 := fun x y H Q => ∃ p xs i v, x = .ref p ∧ y = .int i ∧ H p = some (.lst xs) ∧ atI xs i = some v ∧ Q v H
theorem ix_listH : IxR X rIxLH := fun value slice pins s σ H x y v u Q I rx ry ⟨p, xs, i, z, e1, e2, e3, e4, q⟩ hs =>
  ix_list value slice pins s σ H x y v u Q I rx ry ⟨p, xs, i, z, e1, e2, SqL.of e3, e4, q⟩ hs
def tTupS (t : TA) : TE := fun σ H Q => t σ H fun xs H1 => xs.length ≤ sizeLine ∧ ∀ p H2, Same H1 H2 → H1 p = none → H2 p = some (.tup xs) → Q (.ref p) H2
theorem same_upd {H : Hp} {p : Addr} {o : HO} (h : H p = none) : Same H (upd H p o) := fun b u e => by
  rw [upd_ne (ne_of_none e h)]
  exact e
theorem pe_tupS {es : List Expr} {t : TA} {x1} {pos : Pos} (h : PA X es t) : PE X (.Tuple es x1 pos) (tTupS t) := fun pins s σ H Q I hq =>
  thn (h := wpAny_Tuple_spliced (thn (h pos pins s σ H _ I hq) fun us s1 ⟨xs, H1, I1, r, z, q⟩ => ⟨by rw [← r.length]; exact z, by
    have hf : H1 s1.heap.objs.size = none := I1.hok.fresh (Nat.le_refl _)
    refine ⟨.ref s1.heap.objs.size, upd H1 s1.heap.objs.size (.tup xs), I1.laid (t' := s1.toks) (fun b u e => Heap.get?_push_of_some _ e) (Nat.le_refl _) ?_, rfl, q _ _ (same_upd hf) hf upd_same⟩
    exact ⟨z, us, r, ⟨_, Heap.get?_push_size _ rfl, rfl, _, rfl⟩⟩⟩)) fun _ _ z => z
theorem call_lenL : CallR X (.builtin "len") (fun xs H Q => ∃ p ys, xs = [.ref p] ∧ H p = some (.lst ys) ∧ Q (.int ys.length) H) := fun pins s σ H xs us Q I r ⟨p, ys, e, h, q⟩ =>
  call_len_seq pins s σ H xs us Q I r ⟨p, ys, e, .inl (SqL.of h), q⟩
/-- the script: len, an item -/
theorem call_lenQ : CallR X (.builtin "len") (fun xs H Q => ∃ p ns, xs = [.ref p] ∧ SqL X.K H p (List.map V.int ns) ∧ Q (.int (List.length ns : Nat)) H) := fun pins s σ H xs us Q I r ⟨p, ns, e, h, q⟩ =>
  call_len_seq pins s σ H xs us Q I r ⟨p, _, e, .inl h, by rw [List.length_map]; exact q⟩
def rIxQ (K : PySem.W.Frag) : R2 := fun x y H Q => ∃ p ns i, x = .ref p ∧ y = .int i ∧ SqL K H p (List.map V.int ns) ∧ 0 ≤ i ∧ i < (List.length ns : Nat) ∧ Q (.int (ns.getD i.toNat 0)) H
theorem atI_ints {ns : List Int} {i : Int} (h0 : 0 ≤ i) (h1 : i < (ns.length : Nat)) : atI (ns.map V.int) i = some (.int (ns.getD i.toNat 0)) := by
  obtain ⟨j, rfl⟩ := Int.eq_ofNat_of_zero_le h0
  refine atI_nat ?_
  have hj : j < ns.length := by omega
  rw [List.getElem?_map, List.getElem?_eq_getElem hj]
  simp [List.getD_eq_getElem?_getD, List.getElem?_eq_getElem hj]
theorem ix_listS : IxR X (rIxQ X.K) := fun value slice pins s σ H x y v u Q I rx ry ⟨p, ns, i, e1, e2, e3, h0, h1, q⟩ hs =>
  ix_list value slice pins s σ H x y v u Q I rx ry ⟨p, _, i, _, e1, e2, e3, atI_ints h0 h1, q⟩ hs

/-! ### calls of the text's defs -/
structure Cal (P : Program) (w : World) (K : PySem.W.Frag) (mg : Str → Option Value) (base : Heap) (CX : CXT) (k : Nat) (x : Str) (ps : List Str) (sp : Sp) : Prop where
  ex : ∃ f fd, FnOk P w K mg base CX k f fd ps sp ∧ mg x = some (.ref f) ∧ PySem.W.keepIn K (.ref f) = true ∧ Binds K fd ps []
theorem pe_cal {CX : CXT} {k : Nat} {x : Str} {ps : List Str} {sp : Sp} {E : XK} {e : Expr} {es : List Expr} {t : TA} {p pos : Pos} (C : Cal X.prog X.w X.K X.mg X.base CX k x ps sp) (hr : Room k X.A) (hg : Gl X x) (hx : Passes CX X E) (ha : PA X (e :: es) t)
    (hdb : (x == ("__debug__" : Str)) = false := by decide) (he : starEach (e :: es) X.env = (false, eval e X.env) :: starEach es X.env := by rfl) (hpl : (backTo pos (starEach es X.env)).any (·.1) = false := by rfl) :
    PE X (.Call (.Name x p) (e :: es) [] pos) (tCall sp [] E t) := by
  obtain ⟨f, fd, F, hm, hk, hb⟩ := C.ex
  exact pe_call F hr hg hm hk hb .nil hx ha hdb he hpl
end

/-- no exception is wished: none comes -/
def Strict (CX : CXT) : Prop := ∀ outer H s e s', ¬ CX outer H s (fun _ _ _ => False) e s'
theorem Strict.pass {CX : CXT} (h : Strict CX) {X : Cx} : Passes CX X E0 := fun _ _ H s e s' _ z => (h _ H s e s' z).elim

section
variable {P : Program} {w : World} {K : PySem.W.Frag} {mg : Str → Option Value} {base : Heap} {CX : CXT}
theorem Fun.okC {x qual : Str} {st : Stmt} {f : Addr} {fd : FuncData} {N ps : List Str} {k : Nat} {sp : Sp} (F : Fun K x qual st f fd) (S : FnScope N ps (defScope st)) (len : ∀ vs H Q E, sp vs H Q E → vs.length = ps.length)
    (hbody : ∀ (cdv : Value) (A : Around) (outer : List Env) (s : Shared) (H : Hp) (vs : List V) (Q : VK) (E : XK), Room k (A.deeper (envOfC qual (defScope st) s.heap.objs.size f cdv)) → sp vs H Q E →
      ∃ t, PSs (cxOf CX P w K mg base N qual (defScope st) f cdv A outer s H E).nox (defBody st) t ∧ t { nx := fun _ H' => Q .non H', rt := Q } (start N vs) H) : FnOk P w K mg base CX (k + 1) f fd ps sp := by
  obtain ⟨oc, od, kV, doc, pm, an, cdv, ct, osl, rfl, lk, hcd⟩ := F.ex
  refine fn_of lk hcd S len fun A outer s H vs Q E hr hsp => ?_
  obtain ⟨t, h, q⟩ := hbody cdv A outer s H vs Q E hr hsp
  exact ⟨t, h.nox, q⟩
/-- a def of the text, at its name -/
structure Dn (K : PySem.W.Frag) (mg : Str → Option Value) (x : Str) (st : Stmt) : Prop where
  ex : ∃ f fd, Fun K x x st f fd ∧ mg x = some (.ref f)
theorem Dn.cal {x : Str} {st : Stmt} {ps : List Str} {k : Nat} {sp : Sp} (D : Dn K mg x st)
    (hb : ∀ (kV doc pm : Value) (an : Option Addr) (cdv ct : Value) (us : List Value), us.length = ps.length → bindArgs (PySem.W.fnOf x x (defArgs st) (defBody st) (defScope st) .none kV doc pm an cdv ct) ⟨us, []⟩ = pure (ps.zip us))
    (h : ∀ f fd, Fun K x x st f fd → FnOk P w K mg base CX k f fd ps sp) : Cal P w K mg base CX k x ps sp := by
  obtain ⟨f, fd, F, hm⟩ := D.ex
  exact ⟨f, fd, h f fd F, hm, F.kp, F.binds hb⟩
end

/-! ### == of tuples of flat values; in a written tuple; isinstance of a built-in type -/
section
variable {X : Cx}
def eqL (xs ys : List V) : Bool := (List.range (min xs.length ys.length)).all (fun j => eqV (xs.getD j .non) (ys.getD j .non)) && xs.length == ys.length
def rEqT : R2 := fun x y H Q => ∃ p q xs ys, x = .ref p ∧ y = .ref q ∧ H p = some (.tup xs) ∧ H q = some (.tup ys) ∧ xs.all flatV = true ∧ ys.all flatV = true ∧ Q (.bl (eqL xs ys)) H
def rInT : R2 := fun x y H Q => ∃ p xs, y = .ref p ∧ H p = some (.tup xs) ∧ flatV x = true ∧ xs.all flatV = true ∧ Q (.bl (inV x xs)) H
theorem call_isT : CallR X (.builtin "isinstance") (fun xs H Q => ∃ x c t b, xs = [x, .ty c] ∧ TyOf X.K H x t ∧ PySem.W.kitOne X.K t (.type c) = some b ∧ Q (.bl b) H) := by
  intro pins s σ H xs us Q I r h
  obtain ⟨x, c, t, b, rfl, ty, e, q⟩ := h
  obtain ⟨u, u', rfl, rx, rc⟩ := vals2 r
  cases rc
  exact isinst_ok I rx ty e fun tk => ⟨.bl b, H, I.tok tk, rfl, q⟩
end
theorem at0 {α : Type} {x : α} {l : List α} : atI (x :: l) 0 = some x := atI_nat (j := 0) rfl
theorem at1 {α : Type} {x y : α} {l : List α} : atI (x :: y :: l) 1 = some y := atI_nat (j := 1) rfl
theorem at2 {α : Type} {x y z : α} {l : List α} : atI (x :: y :: z :: l) 2 = some z := atI_nat (j := 2) rfl
def Pr (a b : Int) : List V := [.int a, .int b]
theorem kit_ss {K : PySem.W.Frag} : PySem.W.kitOne K (.type "str") (.type "str") = some true := by unfold PySem.W.kitOne; rw [if_pos (by decide +kernel)]
theorem kit_ll {K : PySem.W.Frag} : PySem.W.kitOne K (.type "list") (.type "list") = some true := by unfold PySem.W.kitOne; rw [if_pos (by decide +kernel)]
theorem kit_off {K : PySem.W.Frag} {t c : String} {b : Bool} (h1 : (Value.type t == Value.type c) = false := by decide +kernel) (h2 : PySem.W.kitMeta c = true := by decide +kernel) (h3 : (PySem.fastBuiltinMro t).map (·.contains (Value.type c)) = some b := by decide +kernel) :
    PySem.W.kitOne K (.type t) (.type c) = some b := by
  unfold PySem.W.kitOne PySem.W.kitCls PySem.W.subIn
  rw [if_neg (by rw [h1]; decide)]
  dsimp only
  rw [if_pos h2]
  exact h3
end L2
/-! Numbers: the greatest common divisor, lowest terms. -/
namespace Nm
def g (a b : Int) : Int := (Int.gcd a b : Nat)
theorem back {a b c d p q x y : Int} (hq : 0 < q) (hd : 0 < d) (e : p * (b * d) = (a * d - c * b) * q) (f : x * (q * d) = (p * d + c * q) * y) : x * b = a * y := by
  have h : (x * b) * (q * d) = (a * y) * (q * d) := by grind
  exact Int.eq_of_mul_eq_mul_right (by have := Int.mul_pos hq hd; omega) h
end Nm
/-! EXCEPTIONS of own classes: raised, passed on, caught by name. -/
namespace L2
open PySem PySem.Spec PyProof.Rows PySem.W

theorem ObjOk.get {P : Program} {w : World} {H : Hp} {h : Heap} {a : Addr} : ∀ {o : HO}, ObjOk P w H h a o → ∃ ob, h.get? a = some ob
  | .lst _, x => let ⟨_, _, _, _, e⟩ := x; ⟨_, e⟩
  | .tup _, x => let ⟨_, _, _, o, e, _⟩ := x; ⟨o, e⟩
  | .dK _, x => let ⟨_, _, _, _, o, _, _, e, _⟩ := x; ⟨o, e⟩
  | .dT _, x => let ⟨_, _, _, _, o, _, _, e, _⟩ := x; ⟨o, e⟩
  | .set _ _, x => by
    obtain ⟨o, es, ep, t, e, _⟩ := x
    exact ⟨o, e⟩
  | .ins _ _ _, x => let ⟨_, _, _, e, _⟩ := x; ⟨_, e⟩
  | .own _, x => x
  | .xd _, x => by
    obtain ⟨mA, ⟨o, es, ep, e, _⟩, _⟩ := x
    exact ⟨o, e⟩
  | .rng _ _, x => let ⟨_, _, _, e⟩ := x; ⟨_, e⟩
  | .frz _ _, x => ⟨_, x.1⟩
  | .tbl _, x => ⟨_, x⟩
  | .met _ _, x => ⟨_, x⟩
  | .ext _, x => x.2.1
theorem HOk.inB {P : Program} {w : World} {H : Hp} {h h' B : Heap} (ok : HOk P w H h) (hB : ∀ b u o, H b = some u → h.get? b = some o → B.get? b = some o) (st : B.StaysIn h') : HOk P w H h' := fun a o e =>
  (ok a o e).stay (fun b u hb q => st b u (by
    rcases hb with rfl | hb
    · exact hB _ _ _ e q
    · exact hB _ _ _ hb q)) (fun _ r => r) fun _ _ r => r

/-- an exception flies: the frames l it will come to, the abstract heap and the state ahead of the call, the abstract heap behind it -/
structure Fly (P : Program) (w : World) (l : List Env) (H : Hp) (s : Shared) (H' : Hp) (ad : Addr) (cls : Value) (s' : Shared) : Prop where
  os : s'.os = s.os
  bare : AllBare s'.gens
  un : Un (frs l) [] H H' s.heap s'.heap
  hok : HOk P w H' s'.heap
  fl : ∃ B a0, Heap.FlyingW B l ad cls a0 s'.heap ∧ (∀ b o, s.heap.get? b = some o → H b = none → b ∉ frs l → B.get? b = some o) ∧ (∀ b o, s.heap.get? b = some o → b ∉ frs l → ∃ o', B.get? b = some o') ∧
    (∀ b u o, H' b = some u → s'.heap.get? b = some o → B.get? b = some o)
def CX1 (P : Program) (w : World) : CXT := fun l H s E e s' => ∃ ad cls H', e = .ref ad ∧ Fly P w l H s H' ad cls s' ∧ E cls none H'
theorem strict1 (P : Program) (w : World) : Strict (CX1 P w) := fun _ _ _ _ _ ⟨_, _, _, _, _, h⟩ => h

section
variable {P : Program} {w : World} {K : PySem.W.Frag} {mg : Str → Option Value} {base : Heap} {N : List Str} {qual : Str} {scope : Scope} {f : Addr} {cdv : Value} {A : Around} {outer : List Env} {s0 : Shared} {H0 : Hp} {E : XK}
theorem xe_raise {pins : List (Addr × Obj)} {σ : St} {H : Hp} {s : Shared} {h' : Heap} {ad : Addr} {cls : Value} {vs : List Value}
    (I : Inv (cxOf (CX1 P w) P w K mg base N qual scope f cdv A outer s0 H0 E) pins σ H s) (mx : Heap.MadeExcOf s.heap h' ad cls vs) (e : E cls none H) :
    (cxOf (CX1 P w) P w K mg base N qual scope f cdv A outer s0 H0 E).xe (.ref ad) { s with heap := h' } := by
  let env : Env := envOfC qual scope s0.heap.objs.size f cdv
  have nin : ∀ b o, s0.heap.get? b = some o → b ∉ frs outer → b ∉ frs (env :: outer) := fun b o q hb z => by
    rcases List.mem_cons.mp (show b ∈ s0.heap.objs.size :: frs outer from z) with z | z
    · rw [z] at q
      exact absurd (Heap.lt_size q) (Nat.lt_irrefl _)
    · exact hb z
  have hin : ∀ b, b ∈ frs outer → b ∈ frs (env :: outer) := fun b hb => List.mem_cons.mpr (.inr hb)
  have ST : s.heap.FunFrames base (env :: outer) := I.stack
  have SF : ∀ b ∈ frs (env :: outer), H b = none := I.stkFree
  have BS : Un (frs outer) [] H0 H s0.heap s.heap := I.base
  show wpAny (model P w) (A.deeper env) (leaving env (.ref ad)) (fun _ s'' => CX1 P w outer H0 s0 E (.ref ad) s'') (fun e' s'' => CX1 P w outer H0 s0 E e' s'') { s with heap := h' }
  refine wpAny_leaves_madeW (base := hideAll s.heap (frs (env :: outer))) (h := s.heap) (L := s0.heap.objs.size) I.ok.frames rfl (fun b o q => of_hideAll _ q)
    (funFrames_hide ST fun en he a ha => List.mem_filterMap.mpr ⟨en, he, ha⟩) mx fun h2 t x1 _ _ x4 => ?_
  have x4 : Heap.UpToSlots h' h2 := x4
  have fr : ∀ b ∈ frs (env :: outer), ∀ o, s.heap.get? b = some o → ∃ sl, h2.get? b = some { o with slots := sl } := fun b hb o q => by
    obtain ⟨_, o1, q1, nf⟩ := ST.mem hb
    rw [q] at q1
    cases q1
    exact x4 b o (mx.keeps b o q) nf
  refine ⟨ad, cls, H, rfl, ⟨I.os, I.bare, ⟨fun b o q n hb hx => ?_, fun b o q n hb hx => ?_, BS.free, fun b o q hx => ?_, BS.tups, BS.frzs, BS.tbls⟩, ?_, ⟨_, _, x1, fun b o q n hb => ?_, fun b o q hb => ?_, fun b u o e1 q => ?_⟩⟩, e⟩
  · exact x1.1 b o (hideAll_get _ (BS.keep b o q n hb hx) (nin b o q hb))
  · obtain ⟨sl, q1⟩ := BS.slot b o q n hb hx
    obtain ⟨sl2, q2⟩ := fr b (hin b hb) _ q1
    exact ⟨sl2, q2⟩
  · obtain ⟨o1, q1⟩ := BS.there b o q hx
    by_cases hb : b ∈ frs (env :: outer)
    · obtain ⟨sl2, q2⟩ := fr b hb _ q1
      exact ⟨_, q2⟩
    · exact ⟨o1, x1.1 b o1 (hideAll_get _ q1 hb)⟩
  · exact HOk.inB I.hok (fun b u o e1 q => hideAll_get _ q fun z => by
      have := SF b z
      rw [e1] at this
      cases this) x1.1
  · exact hideAll_get _ (BS.keep b o q n hb (by simp)) (nin b o q hb)
  · obtain ⟨o1, q1⟩ := BS.there b o q (by simp)
    exact ⟨o1, hideAll_get _ q1 (nin b o q hb)⟩
  · obtain ⟨o1, q1⟩ := (I.hok b u e1).get
    have q2 := hideAll_get (frs (env :: outer)) q1 fun z => by
      have := SF b z
      rw [e1] at this
      cases this
    have q3 := x1.1 b o1 q2
    rw [q] at q3
    cases q3
    exact q2
/-- through a frame -/
theorem xe_pass : Passes (CX1 P w) (cxOf (CX1 P w) P w K mg base N qual scope f cdv A outer s0 H0 E) E := by
  intro pins σ H s e s' I c
  let env : Env := envOfC qual scope s0.heap.objs.size f cdv
  obtain ⟨ad, cls, H', rfl, F, he⟩ := c
  have nin : ∀ b o, s0.heap.get? b = some o → b ∉ frs outer → b ∉ frs (env :: outer) := fun b o q hb z => by
    rcases List.mem_cons.mp (show b ∈ s0.heap.objs.size :: frs outer from z) with z | z
    · rw [z] at q
      exact absurd (Heap.lt_size q) (Nat.lt_irrefl _)
    · exact hb z
  have hin : ∀ b, b ∈ frs outer → b ∈ frs (env :: outer) := fun b hb => List.mem_cons.mpr (.inr hb)
  have ST : s.heap.FunFrames base (env :: outer) := I.stack
  have BS : Un (frs outer) [] H0 H s0.heap s.heap := I.base
  have FU : Un (frs (env :: outer)) [] H H' s.heap s'.heap := F.un
  obtain ⟨B, a0, fl, c0, c2, c1⟩ := F.fl
  have fl : Heap.FlyingW B (env :: outer) ad cls a0 s'.heap := fl
  have c0 : ∀ b o, s.heap.get? b = some o → H b = none → b ∉ frs (env :: outer) → B.get? b = some o := c0
  have c2 : ∀ b o, s.heap.get? b = some o → b ∉ frs (env :: outer) → ∃ o', B.get? b = some o' := c2
  show wpAny (model P w) (A.deeper env) (leaving env (.ref ad)) (fun _ s'' => CX1 P w outer H0 s0 E (.ref ad) s'') (fun e' s'' => CX1 P w outer H0 s0 E e' s'') s'
  refine wpAny_leaves_onW (L := s0.heap.objs.size) I.ok.frames rfl fl fun h2 x1 x2 => ?_
  have fr : ∀ b ∈ frs (env :: outer), ∀ o, s'.heap.get? b = some o → ∃ sl, h2.get? b = some { o with slots := sl } := fun b hb o q => by
    obtain ⟨_, o1, q1, nf⟩ := fl.2.2.1.mem hb
    rw [q] at q1
    cases q1
    exact x2 b o q nf
  refine ⟨ad, cls, H', rfl, ⟨F.os.trans I.os, F.bare, ⟨fun b o q n hb hx => ?_, fun b o q n hb hx => ?_, fun b o q n hx => ?_, fun b o q hx => ?_, fun b xs q => FU.tups b xs (BS.tups b xs q), fun b o u q => FU.frzs b o u (BS.frzs b o u q), fun b ps q => ?_⟩, F.hok.inB c1 x1.1,
    ⟨B, a0, x1, fun b o q n hb => ?_, fun b o q hb => ?_, fun b u o e1 q => ?_⟩⟩, he⟩
  · exact x1.1 b o (c0 b o (BS.keep b o q n hb hx) (BS.free b o q n hx) (nin b o q hb))
  · obtain ⟨sl, q1⟩ := BS.slot b o q n hb hx
    obtain ⟨sl1, q2⟩ := FU.slot b _ q1 (BS.free b o q n hx) (hin b hb) hx
    obtain ⟨sl2, q3⟩ := fr b (hin b hb) _ q2
    exact ⟨sl2, q3⟩
  · obtain ⟨o1, q1⟩ := BS.there b o q hx
    exact FU.free b o1 q1 (BS.free b o q n hx) hx
  · obtain ⟨o1, q1⟩ := BS.there b o q hx
    by_cases hb : b ∈ frs (env :: outer)
    · obtain ⟨o2, q2⟩ := FU.there b o1 q1 hx
      obtain ⟨sl2, q3⟩ := fr b hb _ q2
      exact ⟨_, q3⟩
    · obtain ⟨o2, q2⟩ := c2 b o1 q1 hb
      exact ⟨o2, x1.1 b o2 q2⟩
  · obtain ⟨m1, e1⟩ := BS.tbls b ps q
    obtain ⟨m2, e2⟩ := FU.tbls b _ e1
    exact ⟨m1 ++ m2, by rw [e2, Array.append_assoc]⟩
  · exact c0 b o (BS.keep b o q n hb (by simp)) (BS.free b o q n (by simp)) (nin b o q hb)
  · obtain ⟨o1, q1⟩ := BS.there b o q (by simp)
    exact c2 b o1 q1 (nin b o q hb)
  · obtain ⟨o1, q1⟩ := (F.hok b u e1).get
    have q2 := c1 b u o1 e1 q1
    have q3 := x1.1 b o1 q2
    rw [q] at q3
    cases q3
    exact q2
end
end L2
/-! raise of an own class; try with one call in it. -/
namespace L2
open PySem PySem.Spec PyProof.Rows PySem.W

/-- an own exception class of the text, by what stands written -/
theorem exc_obj {K : Frag} {h : Heap} {C : Addr} {bmB : List Value} {newId : String} (X : K.In h) (q : excIn K C bmB newId = true) :
    ∃ tl N nm qn bs hdct sn sub ab col dd k0 k1 k2 k3 k5 mN, h.get? C = some (excClassObj nm qn C N bs tl hdct sn sub ab col dd k0 k1 k2 k3 k5 newId) ∧ h.Ns N mN ∧ mN "__init__" = none ∧ OwnTail h bmB tl := by
  unfold excIn at q
  split at q
  · rename_i dd cd sl ho
    split at q
    · rename_i C' bm k0 k1 k2 k3 n k5 hm hs
      simp only [Bool.and_eq_true, beq_iff_eq, Bool.not_eq_true'] at q
      obtain ⟨⟨⟨⟨⟨rfl, rfl⟩, hdel⟩, ht⟩, hok⟩, hni⟩ := q
      obtain ⟨nm, bs, mro, ns, qn, hd, sn, sub, ab, col, del⟩ := cd
      dsimp only at hm hdel hok hni
      subst hm hdel
      have hsl : sl = #[k0, k1, k2, k3, some (.builtin n), k5] := by
        obtain ⟨l⟩ := sl
        simp only at hs
        rw [hs]
      subst hsl
      exact ⟨bm, ns, nm, qn, bs, hd, sn, sub, ab, col, dd, k0, k1, k2, k3, k5, _, X _ _ ho, .of_isNs (isNs_of_in X hok), nsMap_none_of_in X hok hni, tail_of_in X ht⟩
    · cases q
  · cases q
abbrev bmVE : List Value := [.type "ValueError", .type "Exception", .type "BaseException", .type "object"]
abbrev newVE : String := "ValueError.__new__"
def tRaise (C : Addr) (E : XK) (t : TA) : TS := fun _ σ H => t σ H fun vs H1 => vs.length ≤ sizeLine ∧ E (.ref C) none H1
section
variable {P : Program} {w : World} {K : PySem.W.Frag} {mg : Str → Option Value} {base : Heap} {N : List Str} {qual : Str} {scope : Scope} {f : Addr} {cdv : Value} {A : Around} {outer : List Env} {s0 : Shared} {H0 : Hp} {E : XK}
theorem ps_raise {x : Str} {C : Addr} {np cpos pos : Pos} {e : Expr} {es : List Expr} {t : TA} (hg : Gl (cxOf (CX1 P w) P w K mg base N qual scope f cdv A outer s0 H0 E) x) (hm : mg x = some (.ref C)) (q : excIn K C bmVE newVE = true)
    (hh : A.handled = none) (ha : PA (cxOf (CX1 P w) P w K mg base N qual scope f cdv A outer s0 H0 E) (e :: es) t) (hdb : (x == ("__debug__" : Str)) = false := by decide)
    (he : starEach (e :: es) (cxOf (CX1 P w) P w K mg base N qual scope f cdv A outer s0 H0 E).env = (false, eval e (cxOf (CX1 P w) P w K mg base N qual scope f cdv A outer s0 H0 E).env) :: starEach es (cxOf (CX1 P w) P w K mg base N qual scope f cdv A outer s0 H0 E).env := by rfl)
    (hpl : (backTo cpos (starEach es (cxOf (CX1 P w) P w K mg base N qual scope f cdv A outer s0 H0 E).env)).any (·.1) = false := by rfl) :
    PS (cxOf (CX1 P w) P w K mg base N qual scope f cdv A outer s0 H0 E) (.Raise (some (.Call (.Name x np) (e :: es) [] cpos)) none pos) (tRaise C E t) := by
  intro pins s σ H D I h
  have FB := PySem.F.excBase_ValueError
  obtain ⟨tl, Nn, nm, qn, bs, hdct, sn, sub, ab, col, dd, k0, k1, k2, k3, k5, mN, hC, hN, hni, T⟩ := exc_obj I.ok.mod.kin q
  refine wpAny_Raise_call_subT (C := C) (nm := nm) (q := qn) (N := Nn) (bs := bs) (bm := tl) (hdct := hdct) (sn := sn) (sub := sub) (ab := ab) (col := col) (dd := dd) (k0 := k0) (k1 := k1) (k2 := k2) (k3 := k3) (k5 := k5)
    FB (mN := mN) (T.hasType FB.hasBase) hh (by rw [he]; show (false || (backTo cpos (starEach es _)).any (·.1)) = false; rw [hpl]; rfl) hni (ld_glob I hg hm ⟨rfl, ?_⟩ hdb)
  rw [he]
  have ha' := ha cpos pins s σ H _ I h
  rw [he] at ha'
  refine Calls.evalArgs_plain (thn ha' fun us s1 ⟨vs, H1, I1, r, z, k⟩ => ⟨rfl, by rw [← r.length]; exact z, I1.bk _ _ hC, hN.keeps I1.bk, T.keeps I1.bk, fun h' ad mx => ?_⟩)
  exact xe_raise I1 mx k
end

/-! ### catching -/
section
variable {X : Cx} {pins : List (Addr × Obj)} {σ : St} {H H' : Hp} {s s' : Shared}
/-- within an except suite -/
abbrev Cx.mark (X : Cx) (ad : Addr) : Cx := { X with A := X.A.mark (some (.ref ad)), calm := false, xe := fun _ _ => False }
theorem Inv.mark (I : Inv X pins σ H s) (ad : Addr) : Inv (X.mark ad) pins σ H s :=
  ⟨⟨I.ok.mod, I.ok.kind, I.ok.glob, I.ok.blt, I.ok.above, I.ok.inj, I.ok.has, I.ok.cab, fun z => (Bool.false_ne_true z).elim, I.ok.frames, I.ok.stk, I.ok.exf, I.ok.bs, I.ok.bsz, I.ok.noex, I.ok.exfs, I.ok.funs, I.ok.frf⟩,
    I.os, I.bare, I.base, I.loc, I.cell, I.free, I.freeC, I.pin, I.hok, I.len⟩
theorem Inv.unmark {ad : Addr} (ok : X.Ok) (I : Inv (X.mark ad) pins σ H s) : Inv X pins σ H s := ⟨ok, I.os, I.bare, I.base, I.loc, I.cell, I.free, I.freeC, I.pin, I.hok, I.len⟩
theorem name_goes {M : Model} {A : Around} {E : Value → Shared → Prop} {i : Nat} {n : Str} {pos : Pos} {Q : Unit → Shared → Prop} (I : Inv X pins σ H s) (hN : X.N.Nodup) (hi : X.N[i]? = some n) (hl : X.env.scope.names.lookup n = some .local)
    (h : ∀ s', Inv X pins (σ.set i none) H s' → Q () s') : wpAny M A (do bindName X.env n .none; unbindBehindTheSuite X.env n pos) Q E s := by
  have hiσ : i < σ.length := by rw [I.len]; exact (List.getElem?_eq_some_iff.mp hi).1
  refine wpAny_bind (wpAny_bindName (store_ok (v := .non) I hN hi (.inl hl) rfl (fun s1 I1 => ?_) (.inr hl)))
  obtain ⟨m, hn, hlk⟩ := id I1.loc
  have hmn : ∃ u, m n = some u := by
    obtain ⟨u, _, z⟩ := hlk i n .non hi (by rw [List.getElem?_set_self hiσ]) (.inl hl)
    rcases z with ⟨_, z⟩ | ⟨z, _⟩
    · exact ⟨u, z⟩
    · have hk : X.env.kindOf n = some .local := hl
      rw [hk] at z
      rcases z with z | z <;> cases z
  obtain ⟨u0, hu0⟩ := hmn
  unfold unbindBehindTheSuite
  refine wpAny_onRaise ?_
  unfold unbindName
  refine wpAny_bind (wpAny_point (wpAny_bind ?_))
  unfold deleteName
  have hk : X.env.kindOf n = some .local := hl
  have hcls : (X.env.scope.kind == .class || (X.env.scope.kind == .module && X.env.locals != X.env.globals)) = false := by rw [I.ok.kind]; rfl
  simp only [hk, hcls]
  rw [if_neg (by decide)]
  refine wpAny_bind (wpAny_nsDel_keeps hn fun h₂ v hn₂ hs₂ => ?_)
  rw [hu0]
  simp only [if_true, Option.isSome_some, Bool.not_true, Bool.false_eq_true, if_false]
  refine wpAny_pure (wpAny_point (h _ ?_))
  have hs : Heap.SameBut X.env.locals s1.heap h₂ := hs₂
  refine ⟨I1.ok, I1.os, I1.bare, ⟨fun b o e nn hb hx => ?_, fun b o e nn hb hx => ?_, I1.base.free, fun b o e hx => ?_, I1.base.tups, I1.base.frzs, I1.base.tbls⟩, ⟨_, hn₂, fun j y v' e1 e2 e3 => ?_⟩, fun y c e => ?_, I1.free, I1.freeC, fun p hp => ?_, fun b ob e => ?_, ?_⟩
  · exact (hs.2 b (Nat.ne_of_lt (Nat.lt_of_lt_of_le (Heap.lt_size e) I1.ok.above))).trans (I1.base.keep b o e nn hb hx)
  · obtain ⟨sl, e1⟩ := I1.base.slot b o e nn hb hx
    exact ⟨sl, (hs.2 b (Nat.ne_of_lt (Nat.lt_of_lt_of_le (Heap.lt_size e) I1.ok.above))).trans e1⟩
  · obtain ⟨o', e1⟩ := I1.base.there b o e hx
    exact ⟨o', (hs.2 b (Nat.ne_of_lt (Nat.lt_of_lt_of_le (Heap.lt_size e) I1.ok.above))).trans e1⟩
  · by_cases hj : j = i
    · subst hj
      rw [List.getElem?_set_self hiσ] at e2
      cases e2
    · rw [List.getElem?_set_ne (Ne.symm hj)] at e2
      obtain ⟨u', r', q⟩ := hlk j y v' e1 (by rw [List.getElem?_set_ne (Ne.symm hj)]; exact e2) e3
      refine ⟨u', r', ?_⟩
      rcases q with ⟨k, e⟩ | ⟨k, c, e, z⟩
      · refine .inl ⟨k, ?_⟩
        have : y ≠ n := fun e => hj (nodup_ix hN e1 (e ▸ hi))
        simp [this, e]
      · exact .inr ⟨k, c, e, z.sameBut hs (I1.cne y c e)⟩
  · obtain ⟨w', z⟩ := I1.cell y c e
    exact ⟨w', z.sameBut hs (I1.cne y c e)⟩
  · obtain ⟨e, nn, ne, nf, d⟩ := I1.pin p hp
    exact ⟨(hs.2 p.1 ne).trans e, nn, ne, nf, d⟩
  · refine (I1.hok b ob e).stay (fun c w' hc q => (hs.2 c ?_).trans q) (fun _ q => q) fun _ _ q => q
    rintro rfl
    have fr := I1.free
    rcases hc with rfl | hc
    · rw [fr] at e; cases e
    · rw [fr] at hc; cases hc
  · rw [List.length_set]
    exact I.len
/-- the caught exception's object -/
def ExO (ad : Addr) (cls : Value) : HO := .ext fun h => ∃ o vs, h.get? ad = some o ∧ o.cls = cls ∧ o.data = .fields vs
theorem Fly.new {P : Program} {w : World} {l : List Env} {ad : Addr} {cls : Value} (F : Fly P w l H s H' ad cls s') : s.heap.get? ad = none := by
  obtain ⟨B, a0, fl, c0, c2, c1⟩ := F.fl
  cases q : s.heap.get? ad with
  | none => rfl
  | some o =>
    by_cases hb : ad ∈ frs l
    · obtain ⟨_, o1, q1, nf⟩ := fl.2.2.1.mem hb
      obtain ⟨oe, vs, he, _, hd, _⟩ := fl.first
      rw [q1] at he
      cases he
      exact absurd hd (nf _)
    · obtain ⟨o', q'⟩ := c2 ad o q hb
      rw [fl.2.1] at q'
      cases q'
theorem Fly.tracked {P : Program} {w : World} {l : List Env} {ad : Addr} {cls : Value} (F : Fly P w l H s H' ad cls s') : H' ad = none := by
  obtain ⟨B, a0, fl, c0, c2, c1⟩ := F.fl
  cases q : H' ad with
  | none => rfl
  | some u =>
    obtain ⟨o, e⟩ := (F.hok ad u q).get
    have := c1 ad u o q e
    rw [fl.2.1] at this
    cases this
/-- the exception has landed here -/
theorem Fly.inv {ad : Addr} {cls : Value} (F : Fly X.prog X.w X.stack H s H' ad cls s') (I : Inv X pins σ H s) {B h6 : Heap} {a0 : Value} (fl : Heap.FlyingW B X.stack ad cls a0 s'.heap)
    (c0 : ∀ b o, s.heap.get? b = some o → H b = none → b ∉ frs X.stack → B.get? b = some o) (c2 : ∀ b o, s.heap.get? b = some o → b ∉ frs X.stack → ∃ o', B.get? b = some o')
    (c1 : ∀ b u o, H' b = some u → s'.heap.get? b = some o → B.get? b = some o) (st : B.StaysIn h6) (up : s'.heap.UpToSlots h6) : Inv X pins σ H' { s' with heap := h6 } := by
  have fr : ∀ b ∈ frs X.stack, ∀ o, s'.heap.get? b = some o → ∃ sl, h6.get? b = some { o with slots := sl } := fun b hb o q => by
    obtain ⟨_, o1, q1, nf⟩ := fl.2.2.1.mem hb
    rw [q] at q1
    cases q1
    exact up b o q nf
  refine I.call' (s' := { s' with heap := h6 }) (ch := []) F.os ⟨fun b o q n hb _ => st b o (c0 b o q n hb), fun b o q n hb hx => ?_, F.un.free, fun b o q hx => ?_, F.un.tups, F.un.frzs, F.un.tbls⟩ (F.hok.inB c1 st) F.bare (fun b hb => absurd hb (by simp))
  · obtain ⟨sl, q1⟩ := F.un.slot b o q n hb hx
    obtain ⟨sl2, q2⟩ := fr b hb _ q1
    exact ⟨sl2, q2⟩
  · by_cases hb : b ∈ frs X.stack
    · obtain ⟨o2, q2⟩ := F.un.there b o q hx
      obtain ⟨sl2, q3⟩ := fr b hb _ q2
      exact ⟨_, q3⟩
    · obtain ⟨o2, q2⟩ := c2 b o q hb
      exact ⟨o2, st b o2 q2⟩
theorem Inv.adopt {ad : Addr} {φ : Heap → Prop} (I : Inv X pins σ H' s') (I0 : Inv X pins σ H s) (new : s.heap.get? ad = none) (hn : H' ad = none) (ho : ∃ o, s'.heap.get? ad = some o) (p : φ s'.heap)
    (hst : ∀ h1 h2 : Heap, φ h1 → (∀ o, h1.get? ad = some o → h2.get? ad = some o) → φ h2) : Inv X pins σ (upd H' ad (.ext φ)) s' := by
  have ne : ∀ b o, s.heap.get? b = some o → b ≠ ad := fun b o e z => by rw [z, new] at e; cases e
  have tk : ∀ b u, H' b = some u → b ≠ ad := fun b u e z => by rw [z, hn] at e; cases e
  have ne0 : ∀ b o, b ∉ X.ex → X.s₀.heap.get? b = some o → b ≠ ad := fun b o hx e => by
    obtain ⟨o', e'⟩ := I0.base.there b o e hx
    exact ne b o' e'
  refine ⟨I.ok, I.os, I.bare, ⟨I.base.keep, I.base.slot, fun b o e n hx => ?_, I.base.there, fun b xs e => ?_, fun b o u e => ?_, fun b ps e => ?_⟩, I.loc, I.cell, ?_, fun y c e => ?_, fun q hq => ?_, fun b u e => ?_, I.len⟩
  · rw [upd_ne (ne0 b o hx e)]
    exact I.base.free b o e n hx
  · rw [upd_ne (tk _ _ (I.base.tups b xs e))]
    exact I.base.tups b xs e
  · rw [upd_ne (tk _ _ (I.base.frzs b o u e))]
    exact I.base.frzs b o u e
  · obtain ⟨m, e1⟩ := I.base.tbls b ps e
    exact ⟨m, by rw [upd_ne (tk _ _ e1)]; exact e1⟩
  · obtain ⟨m, ⟨o, es, ep, hl, _⟩, _⟩ := I0.loc
    rw [upd_ne (ne _ _ hl)]
    exact I.free
  · obtain ⟨v, o, hc, _⟩ := I0.cell y c e
    rw [upd_ne (ne _ _ hc)]
    exact I.freeC y c e
  · obtain ⟨e, n, r⟩ := I.pin q hq
    refine ⟨e, ?_, r⟩
    rw [upd_ne (ne _ _ (I0.pin q hq).1)]
    exact n
  · by_cases hb : b = ad
    · subst hb
      rw [upd_same] at e
      cases e
      exact ⟨p, ho, hst⟩
    · rw [upd_ne hb] at e
      exact (I.hok b u e).stay (fun _ _ _ q => q) (fun c r => by rw [upd_ne (tk _ _ r)]; exact r) fun c xs r => by rw [upd_ne (tk _ _ r)]; exact r
theorem caught {ad : Addr} {cls : Value} {cx n : Str} {np hpos : Pos} {b₀ : Stmt} {suite : List Stmt} {i : Nat} {ts : TS} {C2 : Addr} {D : Ends} (I : Inv X pins σ H s) (F : Fly X.prog X.w X.stack H s H' ad cls s')
    (hst : X.stack = X.env :: X.outer) (hf : X.env.frame = some X.env.locals) (hg : Gl X cx) (hm : X.mg cx = some (.ref C2)) (hx : exmOne X.K cls (.ref C2) = some true) (hN : X.N.Nodup) (hi : X.N[i]? = some n)
    (hl : X.env.scope.names.lookup n = some .local) (hs : PSs (X.mark ad) (b₀ :: suite) ts)
    (h : ts { nx := fun σ' H2 => D.nx (σ'.set i none) H2, rt := D.rt, bk := fun σ' H2 => D.bk (σ'.set i none) H2, ct := fun σ' H2 => D.ct (σ'.set i none) H2 } (σ.set i (some (.ref ad))) (upd H' ad (ExO ad cls)))
    (hdb : (cx == ("__debug__" : Str)) = false := by decide) :
    wpAny (model X.prog X.w) X.A (noteFrame (.ref ad) X.env) (fun _ s₂ => wpAny (model X.prog X.w) X.A (setFlight (.ref ad) none)
      (fun _ s₃ => wpAny (model X.prog X.w) X.A (handleBy (.ref ad) X.env [.ExceptHandler (some (.Name cx np)) (some n) (b₀ :: suite) hpos]) (SP X pins D) X.xe s₃) X.xe s₂) X.xe s' := by
  obtain ⟨B, a0, fl, c0, c2, c1⟩ := F.fl
  have fl' := fl
  rw [hst] at fl'
  refine wpAny_looks_onW (I.ok.frames.trans (by rw [hst])) hf fl' fun h4 held4 up4 => ?_
  refine wpAny_landsW held4 fun h5 fl5 up5 => ?_
  have U5 : s'.heap.UpToSlots h5 := up4.trans up5
  have I5 : Inv X pins σ H' { s' with heap := h5 } := F.inv I fl c0 c2 c1 fl5.1 U5
  obtain ⟨ob, hob, hobc⟩ := fl5.there
  refine wpAny_handleBy_cons (codeAny_handlers_test (ld_glob (X := X.mark ad) (I5.mark ad) hg hm ?_ hdb)) (by intro q; cases q)
  have LT : Looks (model X.prog X.w) h5 (typeOf (.ref ad)) cls := by
    subst hobc
    exact (Looks.ld hob).andThen .now
  refine (exm_one I5.kIn LT hx).here ?_
  refine codeAny_handlers_suite_as ?_
  refine lands_againW fl5 fun h6 fl6 up6 => ?_
  have I6 : Inv X pins σ H' { s' with heap := h6 } := F.inv I fl c0 c2 c1 fl6.1 (U5.trans up6)
  obtain ⟨oe, vs, he, hec, hed, _⟩ := fl6.first
  have I7 : Inv X pins σ (upd H' ad (ExO ad cls)) { s' with heap := h6 } := I6.adopt I F.new F.tracked ⟨oe, he⟩ ⟨oe, vs, he, hec, hed⟩ fun h1 h2 ⟨o, ws, e1, e2, e3⟩ k => ⟨o, ws, k o e1, e2, e3⟩
  refine store_ok (X := X.mark ad) (I7.mark ad) hN hi (.inl hl) (v := .ref ad) rfl (fun s7 I8 => ?_) (.inr hl)
  refine wpAny_mono (hs pins s7 _ _ _ I8 h) (fun fw s8 hq => ?_) fun _ _ z => z.elim
  cases fw with
  | next =>
    obtain ⟨σ8, H8, I9, q8⟩ := hq
    exact name_goes (I9.unmark I.ok) hN hi hl fun s9 I10 => ⟨_, _, I10, q8⟩
  | brk =>
    obtain ⟨σ8, H8, I9, q8⟩ := hq
    exact name_goes (I9.unmark I.ok) hN hi hl fun s9 I10 => ⟨_, _, I10, q8⟩
  | cont =>
    obtain ⟨σ8, H8, I9, q8⟩ := hq
    exact name_goes (I9.unmark I.ok) hN hi hl fun s9 I10 => ⟨_, _, I10, q8⟩
  | ret u =>
    obtain ⟨v8, σ8, H8, I9, r8, q8⟩ := hq
    exact name_goes (I9.unmark I.ok) hN hi hl fun s9 I10 => ⟨v8, _, _, I10, r8, q8⟩
end

/-! ### one call within try -/
section
variable {X : Cx} {CX : CXT} {k : Nat} {x : Str} {ps : List Str} {sp : Sp} {E : XK} {e : Expr} {es : List Expr} {t : TA} {p pos : Pos}
theorem cal_run {pins : List (Addr × Obj)} {σ : St} {H : Hp} {s : Shared} {Q : VK} {Ex : Value → Shared → Prop} (C : Cal X.prog X.w X.K X.mg X.base CX k x ps sp) (hr : Room k X.A) (hg : Gl X x) (ha : PA X.nox (e :: es) t) (I : Inv X pins σ H s)
    (h : t σ H fun vs H1 => sp vs H1 Q E) (hx : ∀ H1 s1 e s', Inv X pins σ H1 s1 → CX X.stack H1 s1 E e s' → Ex e s')
    (hdb : (x == ("__debug__" : Str)) = false := by decide) (he : starEach (e :: es) X.env = (false, eval e X.env) :: starEach es X.env := by rfl) (hpl : (backTo pos (starEach es X.env)).any (·.1) = false := by rfl) :
    wpAny (model X.prog X.w) X.A (eval (.Call (.Name x p) (e :: es) [] pos) X.env) (EP X pins σ Q) Ex s := by
  obtain ⟨f, fd, F, hm, hk, hb⟩ := C.ex
  refine wpAny_Call_Name_kw (ld_glob I hg hm ?_ hdb)
  refine PySem.W.callWith_K (h₀ := X.base) I.ok.mod.kin hk (wpAny_mono (ha pos pins s σ H _ (I.wish _) h) (fun us s1 ⟨vs, H1, I1, r, q⟩ => ⟨I1.unwish.kIn, ?_⟩) fun _ _ z => z.elim) he hpl
  have I1 := I1.unwish
  have hl : us.length = ps.length := by rw [← r.length]; exact F.len _ _ _ _ q
  have hb' := hb s1 us I1.kIn (by rw [List.append_nil]; exact hl)
  rw [List.append_nil] at hb'
  refine wpAny_call (codeAny_mono (F.run X.A X.stack s1 H1 ⟨us, []⟩ us vs Q E hr I1.env0 hb' r q) fun r s' hq => ?_)
  cases r with
  | error e => exact hx H1 s1 e s' I1 hq
  | ok fl =>
    cases fl with
    | ret u => exact I1.after hq
    | next => exact False.elim hq
    | brk => exact False.elim hq
    | cont => exact False.elim hq
/-- what is wanted of the exception: its class is caught, and the suite's reading -/
def xTry (K : PySem.W.Frag) (C2 : Addr) (i : Nat) (ts : TS) (D : Ends) (σ : St) : XK := fun cls _ H2 => exmOne K cls (.ref C2) = some true ∧ ∀ ad, H2 ad = none →
  ts { nx := fun σ' H3 => D.nx (σ'.set i none) H3, rt := D.rt, bk := fun σ' H3 => D.bk (σ'.set i none) H3, ct := fun σ' H3 => D.ct (σ'.set i none) H3 } (σ.set i (some (.ref ad))) (upd H2 ad (ExO ad cls))
def tTryE (K : PySem.W.Frag) (sp : Sp) (t : TA) (C2 : Addr) (i : Nat) (ts : TS) : TS := fun D σ H => t σ H fun vs H1 => sp vs H1 (fun _ H2 => D.nx σ H2) (xTry K C2 i ts D σ)
def tTryA (K : PySem.W.Frag) (sp : Sp) (t : TA) (j : Nat) (C2 : Addr) (i : Nat) (ts : TS) : TS := fun D σ H => t σ H fun vs H1 => sp vs H1 (fun v H2 => D.nx (σ.set j (some v)) H2) (xTry K C2 i ts D σ)
variable {cx n : Str} {np hpos epos tpos : Pos} {b₀ : Stmt} {suite : List Stmt} {i : Nat} {ts : TS} {C2 : Addr}
theorem ps_tryA {y : Str} {j : Nat} {ypos : Pos} (C : Cal X.prog X.w X.K X.mg X.base (CX1 X.prog X.w) k x ps sp) (hr : Room k X.A) (hg : Gl X x) (ha : PA X.nox (e :: es) t) (hst : X.stack = X.env :: X.outer) (hf : X.env.frame = some X.env.locals)
    (hgc : Gl X cx) (hm : X.mg cx = some (.ref C2)) (hN : X.N.Nodup) (hj : X.N[j]? = some y) (hy : X.env.scope.names.lookup y = some .local) (hi : X.N[i]? = some n) (hl : X.env.scope.names.lookup n = some .local) (hs : ∀ ad, PSs (X.mark ad) (b₀ :: suite) ts)
    (hsw : swapsWith (.Call (.Name x p) (e :: es) [] pos) (some (.Name y ypos)) epos.line X.env = pure false := by rfl) (hdb : (x == ("__debug__" : Str)) = false := by decide) (hdc : (cx == ("__debug__" : Str)) = false := by decide)
    (he : starEach (e :: es) X.env = (false, eval e X.env) :: starEach es X.env := by rfl) (hpl : (backTo pos (starEach es X.env)).any (·.1) = false := by rfl) :
    PS X (.Try [.Assign [.Name y ypos] (.Call (.Name x p) (e :: es) [] pos) epos] [.ExceptHandler (some (.Name cx np)) (some n) (b₀ :: suite) hpos] [] [] tpos) (tTryA X.K sp t j C2 i ts) := by
  intro pins s σ H D I h
  refine wpAny_Try_except (wpAny_execs_cons (wpAny_Assign_Name (thn (cal_run C hr hg ha I h (fun H1 s1 e1 s' I1 ⟨ad, cls, H', ee, F, hx, q⟩ => ?_) hdb he hpl) fun v s1 ⟨z, H1, I1, r1, q1⟩ => ?_) hsw))
  · subst ee
    exact caught I1 F hst hf hgc hm hx hN hi hl (hs ad) (q ad F.tracked) hdc
  · exact store_ok I1 hN hj (.inl hy) r1 (fun s2 I2 => wpAny_execs_nil (wpAny_execs_nil ⟨_, H1, I2, q1⟩)) (.inr hy)
end
end L2
/-! Numbers, further: a share of any bottom. -/
namespace Nm
def st (a b : Int) : Int := if b < 0 then -(a / g a b) else a / g a b
def sb (a b : Int) : Int := if b < 0 then -(b / g a b) else b / g a b
end Nm
/-! a def that may raise. -/
namespace L2
open PySem PySem.Spec PyProof.Rows
section
variable {P : Program} {w : World} {K : PySem.W.Frag} {mg : Str → Option Value} {base : Heap} {CX : CXT}
theorem Fun.okX {x qual : Str} {st : Stmt} {f : Addr} {fd : FuncData} {N ps : List Str} {k : Nat} {sp : Sp} (F : Fun K x qual st f fd) (S : FnScope N ps (defScope st)) (len : ∀ vs H Q E, sp vs H Q E → vs.length = ps.length)
    (hbody : ∀ (cdv : Value) (A : Around) (outer : List Env) (s : Shared) (H : Hp) (vs : List V) (Q : VK) (E : XK), Room k (A.deeper (envOfC qual (defScope st) s.heap.objs.size f cdv)) → sp vs H Q E →
      ∃ t, PSs (cxOf CX P w K mg base N qual (defScope st) f cdv A outer s H E) (defBody st) t ∧ t { nx := fun _ H' => Q .non H', rt := Q } (start N vs) H) : FnOk P w K mg base CX (k + 1) f fd ps sp := by
  obtain ⟨oc, od, kV, doc, pm, an, cdv, ct, osl, rfl, lk, hcd⟩ := F.ex
  exact fn_of lk hcd S len fun A outer s H vs Q E hr hsp => hbody cdv A outer s H vs Q E hr hsp
end
/-! ### argument lists without stars, by one lemma -/
def noStar : Expr → Bool
  | .Starred _ _ => false
  | _ => true
theorem se {e : Expr} {es : List Expr} {env : Env} (h : noStar e = true) : starEach (e :: es) env = (false, eval e env) :: starEach es env := by
  cases e <;> first | rfl | exact absurd h Bool.false_ne_true
theorem na {env : Env} {pos : Pos} : ∀ {es : List Expr}, es.all noStar = true → (backTo pos (starEach es env)).any (·.1) = false
  | [], _ => rfl
  | e :: es, h => by
    rw [List.all_cons, Bool.and_eq_true] at h
    rw [se h.1]
    show (false || (backTo pos (starEach es env)).any (·.1)) = false
    rw [na h.2]
    rfl
end L2
/-! isinstance of a caught exception of an own class. -/
namespace L2
open PySem PySem.Spec PyProof.Rows PySem.W

/-- an own exception class, as isinstance asks it -/
structure ExcCls (K : PySem.W.Frag) (C : Addr) : Prop where
  cls : (clsIn K C).isSome = true
  ga : findIn K (.ref C) "__getattribute__" = some (some (.builtin "BaseException.__getattribute__"))
  gt : findIn K (.ref C) "__getattr__" = some none
  cl : findIn K (.ref C) "__class__" = some (some (.builtin "object.__class__"))
  be : mroIn K C (.type "BaseException") = some true
  ob : mroIn K C (.type "object") = some true

section
variable {prog : Program} {w : World} {A : Around} {E : Value → Shared → Prop} {K : PySem.W.Frag} {h : Heap} {g : Array GenState} {d : Drawn} {t : Nat} {os : OsState} {a C : Addr} {o : Obj}
theorem xis_get {R : Result → Shared → Prop} {tp : Value} (X : K.In h) (EC : ExcCls K C) (hx : h.get? a = some o) (hc : o.cls = .ref C) (hq : R (.ok (.ret (.ref C))) ⟨h, g, d, t, os⟩) :
    codeAny (model prog w) A (.call (.builtin "getset_descriptor.__get__") ⟨[.builtin "object.__class__", .ref a, tp], []⟩) R ⟨h, g, d, t, os⟩ := by
  have T0 : Looks (model prog w) h (typeOf (.ref a)) (.ref C) := hc ▸ (Looks.ld hx).andThen .now
  have T1 := looks_mroIn (M := model prog w) X EC.ob
  refine codeAny_call_builtin (KF.slot_gs.plain) (KF.entry_gs) (KF.slot_gs.check _ _ _ _ _ _ _ _ KF.type_class (KF.args_gs _ _ _) ?_)
  unfold Builtin.«getset_descriptor.__get__» Builtin.Getset_descriptor.descrGet
  rw [dga_obj]
  refine wpAny_bind (m := pure _) (wpAny_pure ?_)
  unfold Builtin.Getset_descriptor.descrGetter Builtin.Getset_descriptor.descrCheckInstance Builtin.Getset_descriptor.descrNameAndClass isInstance
  simp only [KF.owner_class]
  repeat lk
  refine And.intro (Code.quiet_builtin _ (by decide +kernel)) (codeAny_builtin KF.entry_class ?_)
  unfold Builtin.«object.__class__» shownTypeOf
  repeat lk
  exact hq
theorem xis_entry {tk : Tok} {Q : Fin → Shared → Prop} (X : K.In h) (EC : ExcCls K C) (hx : h.get? a = some o) (hc : o.cls = .ref C) (hq : Q (.done (.ret (.ref C))) ⟨h, g, d, t, os⟩) :
    wpAny (model prog w) A (Builtin.«object.__getattribute__» ⟨[.ref a, .str "__class__" tk], []⟩) Q E ⟨h, g, d, t, os⟩ := by
  have T0 : Looks (model prog w) h (typeOf (.ref a)) (.ref C) := hc ▸ (Looks.ld hx).andThen .now
  have T1 := looks_findIn (M := model prog w) X EC.cl
  have hT5 : (⟨h, g, d, t, os⟩ : Shared).TypeIs (.builtin "object.__class__") "getset_descriptor" := F.typeOf_object_class
  have f5 := F.typeOf_object_class
  have f6 := F.slot_gs_get.lookup
  have f7 := F.slot_gs_set.lookup
  repeat (any_goals (first | assumption | with_reducible refine Looks.at T0 ?_ | with_reducible refine Looks.at T1 ?_ | wp_step))
  refine xis_get X EC hx hc ?_
  repeat (any_goals (first | assumption | wp_step))
theorem xis_check {nameV : Value} {Q : Unit → Shared → Prop} {M : Model} (X : K.In h) (EC : ExcCls K C) (hx : h.get? a = some o) (hc : o.cls = .ref C) (hq : Q () ⟨h, g, d, t, os⟩) :
    wpAny M A (checkBuiltinCall "BaseException.__getattribute__" ⟨[.ref a, nameV], []⟩) Q E ⟨h, g, d, t, os⟩ := by
  have T0 : Looks M h (typeOf (.ref a)) (.ref C) := hc ▸ (Looks.ld hx).andThen .now
  have T1 := looks_mroIn (M := M) X EC.be
  have hk : builtinKind "BaseException.__getattribute__" = some .slot := by decide +kernel
  have hsp : splitId "BaseException.__getattribute__" = some ("BaseException", "__getattribute__") := by decide +kernel
  have ha := F.args_bexc_ga (.ref a) nameV
  simp only [checkBuiltinCall, hk, hsp]
  refine wpAny_bind ?_
  unfold isInstance
  repeat (first | with_reducible refine Looks.at T0 ?_ | with_reducible refine Looks.at T1 ?_ | wp_step)
  exact hq
theorem xis_call {tk : Tok} {R : Result → Shared → Prop} (X : K.In h) (EC : ExcCls K C) (hx : h.get? a = some o) (hc : o.cls = .ref C) (hq : R (.ok (.ret (.ref C))) ⟨h, g, d, t, os⟩) :
    codeAny (model prog w) A (.call (.builtin "BaseException.__getattribute__") ⟨[.ref a, .str "__class__" tk], []⟩) R ⟨h, g, d, t, os⟩ :=
  codeAny_call_builtin (F.excAttr_ValueError.ga.plain) F.entry_bexc_ga (xis_check X EC hx hc (xis_entry X EC hx hc hq))
theorem xis_by {tk : Tok} {fill expr : Bool} {Q : Value → Shared → Prop} (X : K.In h) (EC : ExcCls K C) (hx : h.get? a = some o) (hc : o.cls = .ref C) (hq : Q (.ref C) ⟨h, g, d, t, os⟩) :
    wpAny (model prog w) A (getAttrBy (.ref a) (.str "__class__" tk) fill expr) Q E ⟨h, g, d, t, os⟩ := by
  have T0 : Looks (model prog w) h (typeOf (.ref a)) (.ref C) := hc ▸ (Looks.ld hx).andThen .now
  have T1 := looks_findIn (M := model prog w) X EC.ga
  have T2 := looks_findIn (M := model prog w) X EC.gt
  have f3 := F.excAttr_ValueError.ga.bind (.ref a)
  have y0 : (expr && onTheHeap (Value.builtin "BaseException.__getattribute__")) = false := by cases expr <;> rfl
  have y2 : (Value.builtin "BaseException.__getattribute__" == Value.builtin "object.__getattribute__") = false := by decide +kernel
  have y1 : (onTheHeap (Value.ref C) && Value.builtin "BaseException.__getattribute__" == Value.builtin "object.__getattribute__") = false := by rw [y2]; rfl
  repeat (any_goals (first | assumption | with_reducible refine Looks.at T0 ?_ | with_reducible refine Looks.at T1 ?_ | with_reducible refine Looks.at T2 ?_ | wp_step))
  refine xis_call X EC hx hc ?_
  repeat (any_goals (first | assumption | wp_step))
theorem xis_attr {Q : Option Value → Shared → Prop} (X : K.In h) (EC : ExcCls K C) (hx : h.get? a = some o) (hc : o.cls = .ref C) (hq : Q (some (.ref C)) ⟨h, g, d, t + 1, os⟩) :
    wpAny (model prog w) A (getAttr? (.ref a) "__class__") Q E ⟨h, g, d, t, os⟩ := by
  unfold getAttr? getAttrBy?
  repeat (any_goals (first | assumption | with_reducible apply xis_by X EC hx hc | wp_step))
end
def ExcAt (a C : Addr) (h : Heap) : Prop := ∃ o, h.get? a = some o ∧ o.cls = .ref C
theorem kitx_exc {K : PySem.W.Frag} {a C : Addr} (EC : ExcCls K C) : KitX K (.ref a) (.ref C) (ExcAt a C) where
  ty := fun _ _ _ ⟨_, e, c⟩ => c ▸ (Looks.ld e).andThen .now
  it := fun _ _ X _ => by
    obtain ⟨cd, hcd⟩ := Option.isSome_iff_exists.mp EC.cls
    unfold clsIn at hcd
    split at hcd
    · rename_i ho
      intro A' Q' E' s' k q
      unfold isType loadHead
      exact wpAny_bind (wpAny_loadPart (k _ _ (X _ _ ho)) (wpAny_pure q))
    · cases hcd
  ne := fun h tp dd its n sl X htp => by
    obtain ⟨cd, hcd⟩ := Option.isSome_iff_exists.mp EC.cls
    refine Bool.eq_false_iff.mpr fun q => ?_
    have e : C = tp := Value.ref.inj (beq_iff_eq.mp q)
    subst e
    unfold clsIn at hcd
    split at hcd
    · rename_i ho
      have z := (X _ _ ho).symm.trans htp
      cases z
    · cases hcd
  ca := fun {_ _ _ _ _ s} X p k => by
    obtain ⟨h, g, d, t, os⟩ := s
    obtain ⟨o, e, c⟩ := p
    exact xis_attr X EC e c k

section
variable {X : Cx}
/-- a class as a value -/
def clV : V → Option Value
  | .ref C => some (.ref C)
  | .ty T => some (.type T)
  | _ => none
theorem clV_rel {c : V} {v u : Value} (h : clV c = some v) (r : RelV c u) : u = v := by
  cases c with
  | ref C => cases h; exact r
  | ty T => cases h; exact r
  | _ => cases h
/-- isinstance(error, C) -/
theorem call_isE : CallR X (.builtin "isinstance") (fun xs H Q => ∃ ad C c v b, xs = [.ref ad, c] ∧ H ad = some (ExO ad (.ref C)) ∧ ExcCls X.K C ∧ clV c = some v ∧ kitOne X.K (.ref C) v = some b ∧ Q (.bl b) H) := by
  intro pins s σ H xs us Q I r h
  obtain ⟨ad, C, c, v, b, rfl, hH, EC, hv, e, q⟩ := h
  obtain ⟨u, u', rfl, rx, rc⟩ := vals2 r
  cases rx
  obtain rfl := clV_rel hv rc
  obtain ⟨⟨o, vs, e1, e2, e3⟩, _, _⟩ := (show ObjOk X.prog X.w H s.heap ad (ExO ad (.ref C)) from I.hok ad _ hH)
  exact kia_one (kitx_exc EC) I.kIn ⟨o, e1, e2⟩ e (fun z => nomatch z) fun tk => ⟨.bl b, H, I.tok tk, rfl, q⟩
end
end L2
/-! LIST COMPREHENSIONS (own text, over the layer's contexts). -/
namespace L2
open PySem PySem.Spec PyProof.Rows

/-! ### the closure -/
theorem closure_of {env : Env} : ∀ (names : List (Str × NameKind)) (cs : List (Str × Addr)), (∀ n, (n, NameKind.free) ∈ names → ∃ c, env.cells.lookup n = some c) → (∀ x c, cs.lookup x = some c → env.cells.lookup x = some c) →
    ∃ cl, (forIn names cs fun (x : Str × NameKind) (r : List (Str × Addr)) => (if (x.2 == NameKind.free) = true then do let c ← cellOf env x.1; pure (ForInStep.yield ((x.1, c) :: r)) else pure (ForInStep.yield r) : Sem (ForInStep (List (Str × Addr))))) = pure cl ∧
      (∀ x c, cl.lookup x = some c → env.cells.lookup x = some c) ∧ (∀ n, ((n, NameKind.free) ∈ names ∨ (cs.lookup n).isSome = true) → ∃ c, cl.lookup n = some c) ∧ (∀ x c, (x, c) ∈ cl → (env.cells.lookup x = some c ∧ (x, NameKind.free) ∈ names) ∨ (x, c) ∈ cs)
  | [], cs, _, h => ⟨cs, rfl, h, (fun n hn => by
      rcases hn with hn | hn
      · exact absurd hn (by simp)
      · exact Option.isSome_iff_exists.mp hn), fun x c m => .inr m⟩
  | (n, k) :: r, cs, hf, h => by
    by_cases hk : k = .free
    · subst hk
      obtain ⟨c, hc⟩ := hf n List.mem_cons_self
      obtain ⟨cl, e, h1, h2, h3⟩ := closure_of r ((n, c) :: cs) (fun m hm => hf m (List.mem_cons_of_mem _ hm)) (fun x c' hx => by
        rw [List.lookup_cons] at hx
        cases q : x == n with
        | true =>
          rw [q] at hx
          have e1 : x = n := by simpa using q
          cases hx
          rw [e1]; exact hc
        | false => rw [q] at hx; exact h x c' hx)
      refine ⟨cl, ?_, h1, fun m hm => h2 m ?_, fun x c' m => ?_⟩
      rotate_left 2
      · rcases h3 x c' m with ⟨q1, q2⟩ | m
        · exact .inl ⟨q1, List.mem_cons_of_mem _ q2⟩
        · rcases List.mem_cons.mp m with e | m
          · cases e
            exact .inl ⟨hc, List.mem_cons_self⟩
          · exact .inr m
      · rw [List.forIn_cons]
        have hco : cellOf env n = pure c := by unfold cellOf; rw [hc]
        simp only [beq_self_eq_true, if_true, hco, pure_bind]
        exact e
      · rcases hm with hm | hm
        · rcases List.mem_cons.mp hm with z | z
          · cases z
            right
            rw [List.lookup_cons]
            simp
          · exact .inl z
        · right
          rw [List.lookup_cons]
          cases q : m == n with
          | true => rfl
          | false => exact hm
    · obtain ⟨cl, e, h1, h2, h3⟩ := closure_of r cs (fun m hm => hf m (List.mem_cons_of_mem _ hm)) h
      refine ⟨cl, ?_, h1, fun m hm => h2 m ?_, fun x c' m => (h3 x c' m).imp (fun q => ⟨q.1, List.mem_cons_of_mem _ q.2⟩) id⟩
      · rw [List.forIn_cons]
        have : (k == NameKind.free) = false := by simpa using hk
        simp only [this, Bool.false_eq_true, if_false, pure_bind]
        exact e
      · rcases hm with hm | hm
        · rcases List.mem_cons.mp hm with z | z
          · cases z; exact absurd rfl hk
          · exact .inl z
        · exact .inr hm
theorem closureFor_of {env : Env} {scope : Scope} (hf : ∀ n, (n, NameKind.free) ∈ scope.names → ∃ c, env.cells.lookup n = some c) :
    ∃ cl, closureFor scope env = pure cl ∧ (∀ x c, cl.lookup x = some c → env.cells.lookup x = some c) ∧ (∀ n, (n, NameKind.free) ∈ scope.names → ∃ c, cl.lookup n = some c) ∧ (∀ x c, (x, c) ∈ cl → env.cells.lookup x = some c ∧ (x, NameKind.free) ∈ scope.names) := by
  obtain ⟨cl, e, h1, h2, h3⟩ := closure_of (env := env) scope.names [] hf (fun x c h => by simp at h)
  refine ⟨cl, ?_, h1, fun n hn => h2 n (.inl hn), fun x c m => (h3 x c m).elim id fun z => absurd z (by simp)⟩
  unfold closureFor
  simp only [bind_pure]
  exact e

/-! ### the names -/
/-- the outer names N with their scope; the block's names N' (k own ones first, then those from around at the places fr) with its scope -/
structure CompScope (N : List Str) (so : Scope) (N' : List Str) (scope : Scope) (k : Nat) (fr : List Nat) : Prop where
  kind : scope.kind = .function
  cels : ∀ y ∈ scope.names, y.2 = .cell → scope.names.lookup y.1 = some .cell ∧ (y.1, NameKind.free) ∉ scope.names
  locs : ∀ y ∈ scope.names, y.2 = .local → scope.names.lookup y.1 = some .local
  outer : ∀ y ∈ scope.names, y.2 = .free → (so.names.lookup y.1 = some .cell ∨ so.names.lookup y.1 = some .free)
  len : N'.length = k + fr.length
  at_ : ∀ t, t < fr.length → (fr[t]?).bind (fun j => N[j]?) = N'[k + t]?
  fre : ∀ x ∈ N'.drop k, scope.names.lookup x = some .free
def stC (k : Nat) (fr : List Nat) (σ : St) : St := List.replicate k none ++ fr.map fun j => (σ[j]?).join

/-- the block's context -/
def cxC (X : Cx) (N : List Str) (scope : Scope) (cl : List (Str × Addr)) (C : Addr) (s : Shared) (H : Hp) (ex : List Addr) : Cx where
  prog := X.prog
  w := X.w
  K := X.K
  mg := X.mg
  base := X.base
  A := X.A
  N := N
  s₀ := s
  H₀ := H
  env := compEnvC scope cl C X.env
  outer := X.stack
  stack := X.stack
  ex := ex
  calm := X.calm
  fn := fun x => scope.names.lookup x == some .cell
  pn := []
  xe := fun _ _ => False

theorem lookup_relabel_free {env : Env} : ∀ {names : List (Str × NameKind)} {x : Str}, names.lookup x = some .free →
    (names.map fun (n, k) => if (k == NameKind.free && env.scope.kind == .function && env.kindOf n == some .cell) then (n, NameKind.cell) else (n, k)).lookup x = some .cell ∨
    (names.map fun (n, k) => if (k == NameKind.free && env.scope.kind == .function && env.kindOf n == some .cell) then (n, NameKind.cell) else (n, k)).lookup x = some .free
  | [], _, h => by simp at h
  | (n, k) :: r, x, h => by
    have ih := @lookup_relabel_free env r x
    show List.lookup x ((if (k == NameKind.free && env.scope.kind == .function && env.kindOf n == some .cell) = true then (n, NameKind.cell) else (n, k)) :: _) = _ ∨ List.lookup x ((if (k == NameKind.free && env.scope.kind == .function && env.kindOf n == some .cell) = true then (n, NameKind.cell) else (n, k)) :: _) = _
    cases hx : x == n with
    | true =>
      simp only [List.lookup_cons, hx] at h
      cases h
      by_cases hc : (NameKind.free == NameKind.free && env.scope.kind == .function && env.kindOf n == some .cell) = true
      · rw [if_pos hc]; left; simp [List.lookup_cons, hx]
      · rw [if_neg hc]; right; simp [List.lookup_cons, hx]
    | false =>
      simp only [List.lookup_cons, hx] at h
      by_cases hc : (k == NameKind.free && env.scope.kind == .function && env.kindOf n == some .cell) = true
      · rw [if_pos hc]; simp only [List.lookup_cons, hx]; exact ih h
      · rw [if_neg hc]; simp only [List.lookup_cons, hx]; exact ih h
theorem relabel_back {env : Env} : ∀ {names : List (Str × NameKind)} {x : Str},
    ((names.map fun (n, k) => if (k == NameKind.free && env.scope.kind == .function && env.kindOf n == some .cell) then (n, NameKind.cell) else (n, k)).lookup x = some .cell ∨
    (names.map fun (n, k) => if (k == NameKind.free && env.scope.kind == .function && env.kindOf n == some .cell) then (n, NameKind.cell) else (n, k)).lookup x = some .free) → (x, NameKind.free) ∈ names ∨ (x, NameKind.cell) ∈ names
  | [], _, h => by simp at h
  | (n, k) :: r, x, h => by
    have ih := @relabel_back env r x
    have up : ((x, NameKind.free) ∈ r ∨ (x, NameKind.cell) ∈ r) → ((x, NameKind.free) ∈ (n, k) :: r ∨ (x, NameKind.cell) ∈ (n, k) :: r) := fun z => z.imp (List.mem_cons_of_mem _) (List.mem_cons_of_mem _)
    have h : List.lookup x ((if (k == NameKind.free && env.scope.kind == .function && env.kindOf n == some .cell) = true then (n, NameKind.cell) else (n, k)) :: _) = _ ∨ List.lookup x ((if (k == NameKind.free && env.scope.kind == .function && env.kindOf n == some .cell) = true then (n, NameKind.cell) else (n, k)) :: _) = _ := h
    cases hx : x == n with
    | true =>
      have e1 : x = n := by simpa using hx
      subst e1
      by_cases hc : (k == NameKind.free && env.scope.kind == .function && env.kindOf x == some .cell) = true
      · have : k = .free := by
          simp only [Bool.and_eq_true] at hc
          simpa using hc.1.1
        subst this
        exact .inl List.mem_cons_self
      · rw [if_neg hc] at h
        simp only [List.lookup_cons, hx] at h
        rcases h with h | h
        · cases h; exact .inr List.mem_cons_self
        · cases h; exact .inl List.mem_cons_self
    | false =>
      by_cases hc : (k == NameKind.free && env.scope.kind == .function && env.kindOf n == some .cell) = true
      · rw [if_pos hc] at h; simp only [List.lookup_cons, hx] at h; exact up (ih h)
      · rw [if_neg hc] at h; simp only [List.lookup_cons, hx] at h; exact up (ih h)
/-! ### cells of a block's own names -/
theorem cells_own : ∀ (names : List (Str × NameKind)) (h : Heap) (acc : List (Str × Addr)) (x : Str) (c : Addr), (x, c) ∈ cellsFrom h.objs.size names acc →
    (x, c) ∈ acc ∨ (h.objs.size ≤ c ∧ (pushCells h names).IsCell c none ∧ (x, NameKind.cell) ∈ names)
  | [], h, acc, x, c, m => .inl m
  | (n, k) :: r, h, acc, x, c, m => by
    unfold cellsFrom at m
    unfold pushCells
    by_cases hk : (k == NameKind.cell) = true
    · rw [if_pos hk] at m ⊢
      have ih := cells_own r (h.push { cls := .type "cell", data := .cell none }) ((n, h.objs.size) :: acc) x c
      rw [Heap.size_push] at ih
      rcases ih m with m | ⟨q1, q2, q3⟩
      · rcases List.mem_cons.mp m with e | m
        · cases e
          have hk : k = .cell := by simpa using hk
          subst hk
          refine .inr ⟨Nat.le_refl _, ?_, List.mem_cons_self⟩
          have q : (h.push { cls := .type "cell", data := .cell none }).IsCell h.objs.size none := ⟨_, Heap.get?_push_size _ rfl, rfl⟩
          exact q.keeps fun b o e => pushCells_keeps r _ b o e
        · exact .inl m
      · exact .inr ⟨by omega, q2, List.mem_cons_of_mem _ q3⟩
    · rw [if_neg hk] at m ⊢
      rcases cells_own r h acc x c m with m | ⟨q1, q2, q3⟩
      · exact .inl m
      · exact .inr ⟨q1, q2, List.mem_cons_of_mem _ q3⟩
theorem cells_inj : ∀ (names : List (Str × NameKind)) (n lo : Nat) (acc : List (Str × Addr)), (∀ x c, (x, c) ∈ acc → c < n) → (∀ x y c, lo ≤ c → (x, c) ∈ acc → (y, c) ∈ acc → x = y) →
    ∀ x y c, lo ≤ c → (x, c) ∈ cellsFrom n names acc → (y, c) ∈ cellsFrom n names acc → x = y
  | [], n, lo, acc, h1, h2, x, y, c, hl, m1, m2 => h2 x y c hl m1 m2
  | (z, k) :: r, n, lo, acc, h1, h2, x, y, c, hl, m1, m2 => by
    unfold cellsFrom at m1 m2
    by_cases hk : (k == NameKind.cell) = true
    · rw [if_pos hk] at m1 m2
      refine cells_inj r (n + 1) lo _ (fun x c m => ?_) (fun x y c hl m1 m2 => ?_) x y c hl m1 m2
      · rcases List.mem_cons.mp m with e | m
        · cases e; exact Nat.lt_succ_self _
        · exact Nat.lt_succ_of_lt (h1 x c m)
      · rcases List.mem_cons.mp m1 with e1 | m1 <;> rcases List.mem_cons.mp m2 with e2 | m2
        · cases e1; cases e2; rfl
        · cases e1; exact absurd (h1 _ _ m2) (Nat.lt_irrefl _)
        · cases e2; exact absurd (h1 _ _ m1) (Nat.lt_irrefl _)
        · exact h2 x y c hl m1 m2
    · rw [if_neg hk] at m1 m2
      exact cells_inj r n lo acc h1 h2 x y c hl m1 m2
theorem cells_skip : ∀ (names : List (Str × NameKind)) (n : Nat) (acc : List (Str × Addr)) (x : Str), (x, NameKind.cell) ∉ names → (cellsFrom n names acc).lookup x = acc.lookup x
  | [], n, acc, x, _ => rfl
  | (z, k) :: r, n, acc, x, h => by
    have hr : (x, NameKind.cell) ∉ r := fun m => h (List.mem_cons_of_mem _ m)
    unfold cellsFrom
    by_cases hk : (k == NameKind.cell) = true
    · rw [if_pos hk, cells_skip r _ _ x hr, List.lookup_cons]
      have hk : k = .cell := by simpa using hk
      subst hk
      have : (x == z) = false := by
        cases q : x == z with
        | false => rfl
        | true =>
          have e : x = z := by simpa using q
          subst e
          exact absurd List.mem_cons_self h
      rw [this]
    · rw [if_neg hk]
      exact cells_skip r n acc x hr
theorem cells_has : ∀ (names : List (Str × NameKind)) (n : Nat) (acc : List (Str × Addr)) (x : Str), ((x, NameKind.cell) ∈ names ∨ (acc.lookup x).isSome = true) → ((cellsFrom n names acc).lookup x).isSome = true
  | [], n, acc, x, h => by
    rcases h with h | h
    · simp at h
    · exact h
  | (z, k) :: r, n, acc, x, h => by
    unfold cellsFrom
    by_cases hk : (k == NameKind.cell) = true
    · rw [if_pos hk]
      refine cells_has r _ _ x ?_
      rcases h with h | h
      · rcases List.mem_cons.mp h with e | h
        · cases e
          right
          rw [List.lookup_cons]
          simp
        · exact .inl h
      · right
        rw [List.lookup_cons]
        cases q : x == z with
        | true => rfl
        | false => exact h
    · rw [if_neg hk]
      refine cells_has r _ _ x ?_
      rcases h with h | h
      · rcases List.mem_cons.mp h with e | h
        · cases e; exact absurd rfl hk
        · exact .inl h
      · exact .inr h
section
variable {M : Model} {A : Around} {E : Value → Shared → Prop} {s : Shared}
theorem wpAny_newEnv_comp {scope : Scope} {globals : Addr} {closure : List (Str × Addr)} {qual : Str} {func : Option Addr} {code : Value} {outer : Env} {Q : Env → Shared → Prop}
    (hQ : Q (newEnv scope s.heap.objs.size globals (cellsFrom (s.heap.objs.size + 1) scope.names closure) qual func code (some outer) builtinsNs)
      { s with heap := pushCells (s.heap.push { cls := .type "dict", data := .dict #[] }) scope.names }) :
    wpAny M A (newFunctionEnv scope globals closure [] qual func code (some outer)) Q E s := by
  simp only [newFunctionEnv, Option.isSome_some, if_true]
  refine wpAny_bind (wpAny_alloc ?_)
  refine wpAny_bind (wpAny_layCells _ (fun name kind cells => by cases hkc : kind == NameKind.cell <;> simp [hkc]) _ _ _ _ ?_)
  rw [show ({ s with heap := s.heap.push { cls := .type "dict", data := .dict #[] } } : Shared).heap.objs.size = s.heap.objs.size + 1 from Heap.size_push ..]
  refine wpAny_bind ?_
  rw [List.forIn_nil]
  exact wpAny_pure (wpAny_pure hQ)
end
/-- the cells that a block sees: those from around, and its own, which are new -/
structure BlkC (X : Cx) (scope : Scope) (cl : List (Str × Addr)) (lo : Nat) (C : Addr) (h1 : Heap) : Prop where
  old : ∀ x c, cl.lookup x = some c → X.env.cells.lookup x = some c ∨ (lo ≤ c ∧ C < c ∧ h1.IsCell c none)
  inj : ∀ x y c, C < c → cl.lookup x = some c → cl.lookup y = some c → x = y
  has : ∀ n, (n, NameKind.free) ∈ scope.names ∨ (n, NameKind.cell) ∈ scope.names → ∃ c, cl.lookup n = some c
  fre : ∀ n, scope.names.lookup n = some .free → ∀ c, cl.lookup n = some c → X.env.cells.lookup n = some c
  own : ∀ x c, scope.names.lookup x = some .cell → cl.lookup x = some c → lo ≤ c
section
variable {X : Cx} {pins : List (Addr × Obj)} {σ : St} {H : Hp} {s : Shared} {N' : List Str} {scope : Scope} {k : Nat} {fr : List Nat} {cl : List (Str × Addr)}
theorem compOk {C : Addr} {fp : List Addr} {h1 : Heap} (I : Inv X pins σ H s) (S : CompScope X.N X.env.scope N' scope k fr) (B : BlkC X scope cl s.heap.objs.size C h1)
    (hC : s.heap.objs.size ≤ C) (f2 : ∀ b ∈ fp, FpOk X pins H b) (lt : ∀ b ∈ fp, b < s.heap.objs.size) : (cxC X N' scope cl C s H fp).Ok where
  mod := I.ok.mod
  kind := S.kind
  glob := I.ok.glob
  blt := I.ok.blt
  above := hC
  inj := fun x y c h1 h2 => by
    rcases B.old _ _ h1 with o1 | o1 <;> rcases B.old _ _ h2 with o2 | o2
    · exact I.ok.inj x y c o1 o2
    · exact B.inj x y c o2.2.1 h1 h2
    · exact B.inj x y c o1.2.1 h1 h2
    · exact B.inj x y c o1.2.1 h1 h2
  has := fun x hx => B.has x (relabel_back hx)
  cab := fun x c z e => B.own x c (by
    have z : (scope.names.lookup x == some NameKind.cell) = true := z
    simpa using z) e
  hd := I.ok.hd
  frames := I.ok.frames
  stk := .inl rfl
  exf := fun b hb => ⟨Nat.ne_of_lt (Nat.lt_of_lt_of_le (lt b hb) hC), fun x c e => (B.old _ _ e).elim (fun o => (f2 b hb).2.2.2.2.1 x c o) fun o => Nat.ne_of_gt (Nat.lt_of_lt_of_le (lt b hb) o.1)⟩
  bs := I.bs
  bsz := Nat.le_trans I.ok.bsz I.sz
  noex := fun b o e hb => by
    rcases (f2 b hb).2.2.2.1 with z | z
    · exact I.ok.noex b o e z
    · exact absurd (Nat.lt_of_lt_of_le (Heap.lt_size e) (Nat.le_trans I.ok.bsz z)) (Nat.lt_irrefl _)
  exfs := fun b hb z => by
    rcases List.mem_cons.mp (I.stkSub b z) with q | q
    · exact (f2 b hb).2.1 q
    · exact (f2 b hb).2.2.1 q
  funs := I.stack
  frf := I.stkFree
theorem compInv {C : Addr} {fp : List Addr} {h1 : Heap} {tk : Nat} {m : Str → Option Value} (I : Inv X pins σ H s) (S : CompScope X.N X.env.scope N' scope k fr) (B : BlkC X scope cl s.heap.objs.size C h1)
    (hC : s.heap.objs.size ≤ C) (f2 : ∀ b ∈ fp, FpOk X pins H b) (lt : ∀ b ∈ fp, b < s.heap.objs.size) (old : ∀ b o, s.heap.get? b = some o → h1.get? b = some o) (hn : h1.Ns C m) :
    Inv (cxC X N' scope cl C s H fp) [] (stC k fr σ) H { s with heap := h1, toks := tk } := by
  refine ⟨compOk I S B hC f2 lt, rfl, I.bare, Un.kept old, ⟨m, hn, fun i x v e1 e2 e3 => ?_⟩, fun x c e => ?_, I.hok.fresh hC, fun x c e => (B.old _ _ e).elim (fun o => I.freeC x c o) fun o => I.hok.fresh o.1, fun p hp => absurd (show p ∈ ([] : List (Addr × Obj)) from hp) (by simp), I.hok.kept old, ?_⟩
  · have e1 : N'[i]? = some x := e1
    unfold stC at e2
    by_cases hi : i < k
    · rw [List.getElem?_append_left (by simpa using hi), List.getElem?_replicate, if_pos hi] at e2
      cases e2
    · rw [List.getElem?_append_right (by simpa using hi), List.length_replicate, List.getElem?_map] at e2
      cases q : fr[i - k]? with
      | none => rw [q] at e2; cases e2
      | some j =>
        rw [q] at e2
        have e2 : (σ[j]?).join = some v := Option.some.inj e2
        have ej : σ[j]? = some (some v) := by
          cases z : σ[j]? with
          | none => rw [z] at e2; cases e2
          | some o => rw [z] at e2; exact congrArg some e2
        have hlt : i - k < fr.length := (List.getElem?_eq_some_iff.mp q).1
        have hat := S.at_ (i - k) hlt
        rw [q, show k + (i - k) = i by omega, e1] at hat
        have hat : X.N[j]? = some x := hat
        have hxm : x ∈ N'.drop k := List.mem_iff_getElem?.mpr ⟨i - k, by rw [List.getElem?_drop, show k + (i - k) = i by omega]; exact e1⟩
        have hfr := S.fre x hxm
        have hmem : (x, NameKind.free) ∈ scope.names := PySem.mem_of_lookup hfr
        have hout := S.outer _ hmem rfl
        obtain ⟨m0, hn0, hl0⟩ := I.loc
        obtain ⟨u, r, l⟩ := hl0 j x v hat ej (.inr hout)
        refine ⟨u, r, .inr ⟨lookup_relabel_free hfr, ?_⟩⟩
        rcases l with ⟨kk, _⟩ | ⟨_, c, e, z⟩
        · have kk : X.env.scope.names.lookup x = some .local := kk
          rcases hout with q1 | q1
          · rw [kk] at q1; cases q1
          · rw [kk] at q1; cases q1
        · obtain ⟨c', e'⟩ := B.has x (.inl hmem)
          have ec := B.fre x hfr _ e'
          rw [e] at ec
          cases ec
          obtain ⟨ob, ho, hd⟩ := z
          exact ⟨c, e', ob, old _ _ ho, hd⟩
  · rcases B.old _ _ e with o | o
    · obtain ⟨v, ob, ho, hd⟩ := I.cell x c o
      exact ⟨v, ob, old _ _ ho, hd⟩
    · exact ⟨none, o.2.2⟩
  · unfold stC
    rw [List.length_append, List.length_replicate, List.length_map]
    exact S.len.symm
end

/-! ### one turn, with the step ahead of the store -/
section
variable {prog : Program} {w : World} {A : Around} {E : Value → Shared → Prop} {R : Result → Shared → Prop} {s : Shared}
theorem codeAny_compLoop_any {elt target iter : Expr} {ifs : List Expr} {scope : Scope} {pos : Pos} {it acc : Value} {env : Env} (I : Nat → Shared → Prop)
    (turn : ∀ n s, I n s → wpAny (model prog w) A (pyNext it) (fun r s₁ => match r with
      | none => R (.ok .next) s₁
      | some v => wpAny (model prog w) A (letOwnedTupleGo target it v) (fun _ s₁' => wpAny (model prog w) A (assign target env v) (fun _ s₂ =>
          wpAny (model prog w) A (forIn ifs true fun c r => if r = true then do let ok ← isTrue c env (eval c env); pure (ForInStep.yield ok) else pure (ForInStep.yield r)) (fun ok s₃ =>
            if ok = true then wpAny (model prog w) A (eval elt env) (fun x s₄ =>
              wpAny (model prog w) A (call (.builtin "list.append") [acc, x]) (fun _ s₅ => ∃ m, m < n ∧ I m s₅) (fun _ _ => False) s₄) (notedBy (model prog w) A env fun x s' => R (.error x) s') s₃
            else ∃ m, m < n ∧ I m s₃) (fun _ _ => False) s₂) (fun _ _ => False) s₁') (fun _ _ => False) s₁) (fun _ _ => False) s)
    (n : Nat) (h : I n s) :
    codeAny (model prog w) A (.compLoop (.ListComp elt [⟨target, iter, ifs, 0⟩] scope pos) 0 it acc env) R s := by
  refine codeAny_loop rfl I (fun n s hI => ?_) n h
  show wpAny _ A ((compTurn (.ListComp elt [⟨target, iter, ifs, 0⟩] scope pos) 0 it acc env).onRaise (fun x => do noteFrame x env; theTreesLotGoes x)) _ _ s
  refine wpAny_noted ?_
  rw [compTurn_list]
  refine wpAny_bind (wpAny_standAt (wpAny_bind (wpAny_mono (turn n s hI) (fun r s₁ h₁ => ?_) fun _ _ h' => h'.elim)))
  cases r with
  | none => exact wpAny_pure h₁
  | some v =>
    refine wpAny_bind (wpAny_mono h₁ (fun _ s₁' h₁' => ?_) fun _ _ h' => h'.elim)
    refine wpAny_bind (wpAny_mono h₁' (fun _ s₂ h₂ => wpAny_bind (wpAny_mono h₂ (fun ok s₃ h₃ => ?_) fun _ _ h' => h'.elim)) fun _ _ h' => h'.elim)
    cases ok with
    | false => exact wpAny_pure ⟨rfl, h₃⟩
    | true =>
      exact wpAny_bind (wpAny_bind (wpAny_mono h₃ (fun x s₄ h₄ => wpAny_bind (wpAny_mono h₄ (fun _ s₅ h₅ => wpAny_pure (wpAny_pure ⟨rfl, h₅⟩)) fun _ _ h' => h'.elim)) fun _ _ h' => h'))
end

/-! ### the tests of a clause -/
def PTs (X : Cx) (ifs : List Expr) (t : TT) : Prop :=
  ∀ (pins : List (Addr × Obj)) (s : Shared) (σ : St) (H : Hp) (Q : Bool → Hp → Prop), Inv X pins σ H s → t σ H Q →
    wpAny (model X.prog X.w) X.A (forIn ifs true fun c r => if r = true then do let ok ← isTrue c X.env (eval c X.env); pure (ForInStep.yield ok) else pure (ForInStep.yield r)) (TP X pins σ Q) X.xe s
def tYes : TT := fun _ H Q => Q true H
theorem pts_nil {X : Cx} : PTs X [] tYes := fun _ _ _ H _ I h => wpAny_tests_nil ⟨H, I, h⟩
theorem pts_one {X : Cx} {c : Expr} {t : TT} (h : PT X c t) : PTs X [c] t := fun pins s σ H Q I hq => wpAny_tests_one (h pins s σ H Q I hq)

/-! ### the block -/
section
variable {X : Cx}
/-- W: the invariant by the turn, a measure, the items so far, the block's names, the heap (the new list is not yet in it) -/
def tBlock (J : It) (g : TG) (tc : TT) (te : TE) (σ0 : St) (H1 : Hp) (fin : List V → Hp → Prop) : Prop :=
  ∃ W : Nat → Nat → List V → St → Hp → Prop, (∃ m, W 0 m [] σ0 H1) ∧ ∀ i m ys σ2 H2, W i m ys σ2 H2 →
    (J.stop i H2 ∧ fin ys H2) ∨
    (J.go i H2 ∧ ∀ x H3, J.yld i H2 x H3 → g x σ2 H3 fun σ3 H4 => tc σ3 H4 fun b H5 => if b = true then te σ3 H5 fun y H6 => ys.length < sizeLine ∧ ∃ m', m' < m ∧ W (i + 1) m' (ys ++ [y]) σ3 H6 else ∃ m', m' < m ∧ W (i + 1) m' ys σ3 H5)
def lstObj (its : List Value) (n : Nat) : Obj := { cls := .type "list", data := .seq its.toArray n }
theorem block_in {elt target iter : Expr} {ifs : List Expr} {scope : Scope} {pos : Pos} {g : TG} {tc : TT} {te : TE} {k : Nat} {fr : List Nat} {N' : List Str} {cl : List (Str × Addr)} {pins : List (Addr × Obj)} {σ : St} {H2 : Hp} {s2 : Shared}
    {it : Addr} {fp : List Addr} {tn : Nat → Heap → Prop} {J : It} {fin : List V → Hp → Prop} {R0 : Result → Shared → Prop} {XE : List (Str × Addr) → Addr → Shared → Hp → List Addr → Value → Shared → Prop}
    (hc : X.calm = true) (S : CompScope X.N X.env.scope N' scope k fr) (c1 : ∀ x c, cl.lookup x = some c → X.env.cells.lookup x = some c) (c2 : ∀ n, (n, NameKind.free) ∈ scope.names → ∃ c, cl.lookup n = some c) (cin : ∀ x c, (x, c) ∈ cl → ∃ y, X.env.cells.lookup y = some c) (cno : ∀ x, (x, NameKind.cell) ∈ scope.names → ∀ c, (x, c) ∉ cl)
    (hg : ∀ cl C s H ex, PG (cxC X N' scope cl C s H ex) target g) (ht : ∀ cl C s H ex, PTs (cxC X N' scope cl C s H ex) ifs tc) (he : ∀ cl C s H ex, PE ((cxC X N' scope cl C s H ex).wish (XE cl C s H ex)) elt te)
    (I2 : Inv X pins σ H2 s2) (T : Turn X.prog X.w X.K target J fp it tn) (st2 : tn 0 s2.heap) (f2 : ∀ b ∈ fp, FpOk X pins H2 b) (hb : tBlock J g tc te (stC k fr σ) H2 fin)
    (hR : ∀ (C : Addr), C = (s2.heap.push { cls := .type "list", dict := none, data := .seq ([] : List Value).toArray }).objs.size → ∀ (s' : Shared) (m : Str → Option Value) (ys : List V) (its : List Value) (n : Nat) (H' : Hp), s2.heap.objs.size < C → s'.heap.Ns C m → Vals ys its → ys.length ≤ sizeLine → s'.heap.get? s2.heap.objs.size = some (lstObj its n) → H' s2.heap.objs.size = none → H' C = none → fin ys H' →
      s'.os = s2.os → AllBare s'.gens → Un (frs X.stack) fp H2 H' s2.heap s'.heap → HOk X.prog X.w H' s'.heap → R0 (.ok .next) s')
    (hE : ∀ cl C x s', C = (s2.heap.push { cls := .type "list", dict := none, data := .seq ([] : List Value).toArray }).objs.size → s2.heap.objs.size < C → XE cl C s2 H2 fp x s' → notedBy (model X.prog X.w) X.A (compEnvC scope cl C X.env) (fun y s'' => R0 (.error y) s'') x s') :
    codeAny (model X.prog X.w) X.A (.compStart (.ListComp elt [⟨target, iter, ifs, 0⟩] scope pos) 0 (.ref it) (.ref s2.heap.objs.size) (compEnvC scope (cellsFrom ((s2.heap.push { cls := .type "list", dict := none, data := .seq ([] : List Value).toArray }).objs.size + 1) scope.names cl) (s2.heap.push { cls := .type "list", dict := none, data := .seq ([] : List Value).toArray }).objs.size X.env)) R0 { s2 with heap := pushCells ((s2.heap.push { cls := .type "list", dict := none, data := .seq ([] : List Value).toArray }).push { cls := .type "dict", data := .dict #[] }) scope.names } := by
  obtain ⟨W, ⟨m0, w0⟩, turn⟩ := hb
  have lt : ∀ b ∈ fp, b < s2.heap.objs.size := fun b hb => by
    obtain ⟨o, e, _⟩ := T.obj _ _ st2 b hb
    exact Heap.lt_size e
  generalize hH2 : s2.heap.push { cls := .type "list", dict := none, data := .seq ([] : List Value).toArray } = G2 at hR hE ⊢
  have hCs : G2.objs.size = s2.heap.objs.size + 1 := by rw [← hH2, Heap.size_push]
  have hDC : s2.heap.objs.size ≠ G2.objs.size := by rw [hCs]; exact Nat.ne_of_lt (Nat.lt_succ_self _)
  have hC : s2.heap.objs.size ≤ G2.objs.size := by rw [hCs]; exact Nat.le_succ _
  have old : ∀ b o, s2.heap.get? b = some o → (pushCells (G2.push { cls := .type "dict", data := .dict #[] }) scope.names).get? b = some o := fun b o e => by
    refine pushCells_keeps _ _ b o (Heap.get?_push_of_some _ ?_)
    rw [← hH2]
    exact Heap.get?_push_of_some _ e
  have hacc : (pushCells (G2.push { cls := .type "dict", data := .dict #[] }) scope.names).get? s2.heap.objs.size = some (lstObj [] 0) := by
    refine pushCells_keeps _ _ _ _ (Heap.get?_push_of_some _ ?_)
    rw [← hH2]
    exact Heap.get?_push_size _ rfl
  have hns₁ : (pushCells (G2.push { cls := .type "dict", data := .dict #[] }) scope.names).Ns G2.objs.size fun _ => none := (Heap.Ns.new G2 (.type "dict")).keeps (pushCells_keeps _ _)
  have cl0 : ∀ x c, (x, c) ∈ cl → c < G2.objs.size + 1 := fun x c m => by
    obtain ⟨y, hy⟩ := cin x c m
    obtain ⟨v, q⟩ := I2.cell y c hy
    rw [hCs]
    exact Nat.lt_succ_of_lt (Nat.lt_succ_of_lt q.lt)
  have B : BlkC X scope (cellsFrom (G2.objs.size + 1) scope.names cl) s2.heap.objs.size G2.objs.size (pushCells (G2.push { cls := .type "dict", data := .dict #[] }) scope.names) := by
    have own := cells_own scope.names (G2.push { cls := .type "dict", data := .dict #[] }) cl
    rw [Heap.size_push] at own
    refine ⟨fun x c e => ?_, fun x y c hc h1 h2 => ?_, fun n hn => ?_, fun n hn c e => ?_, fun x c hx e => ?_⟩
    · by_cases hx : (x, NameKind.cell) ∈ scope.names
      · rcases own x c (PySem.mem_of_lookup e) with m | ⟨q1, q2, _⟩
        · -- an outer name's cell cannot stand under a name of the block's own
          exfalso
          exact cno x hx c m
        · exact .inr ⟨Nat.le_trans hC (Nat.le_of_succ_le q1), q1, q2⟩
      · rw [cells_skip _ _ _ _ hx] at e
        exact .inl (c1 x c e)
    · exact cells_inj scope.names (G2.objs.size + 1) (G2.objs.size + 1) cl cl0 (fun x y c hl m1 _ => absurd (cl0 x c m1) (Nat.not_lt.mpr hl)) x y c hc (PySem.mem_of_lookup h1) (PySem.mem_of_lookup h2)
    · refine Option.isSome_iff_exists.mp (cells_has _ _ _ n ?_)
      rcases hn with hn | hn
      · obtain ⟨c, e⟩ := c2 n hn
        exact .inr (by rw [e]; rfl)
      · exact .inl hn
    · have hx : (n, NameKind.cell) ∉ scope.names := fun m => by
        have := (S.cels _ m rfl).1
        rw [hn] at this
        cases this
      rw [cells_skip _ _ _ _ hx] at e
      exact c1 n c e
    · have hx := PySem.mem_of_lookup hx
      rcases own x c (PySem.mem_of_lookup e) with m | ⟨q1, q2, _⟩
      · exact absurd m (cno x hx c)
      · exact Nat.le_trans hC (Nat.le_of_succ_le q1)
  generalize pushCells (G2.push { cls := .type "dict", data := .dict #[] }) scope.names = h₁ at *
  generalize cellsFrom (G2.objs.size + 1) scope.names cl = cl2 at *
  generalize hDd : s2.heap.objs.size = D at *
  generalize hCc : G2.objs.size = C at *
  have fD : H2 D = none := by rw [← hDd]; exact I2.hok.fresh (Nat.le_refl _)
  have cells : ∀ x c, cl2.lookup x = some c → c ≠ D := fun x c e => by
    rcases B.old _ _ e with o | o
    · obtain ⟨v, q⟩ := I2.cell x c o
      rw [← hDd]
      exact Nat.ne_of_lt q.lt
    · exact Nat.ne_of_gt (Nat.lt_trans (by rw [hCs]; exact Nat.lt_succ_self _) o.2.1)
  -- the loop's invariant
  have loop : ∀ (itv : Addr) (s3 : Shared), itv = it → (∃ tk, s3 = { s2 with heap := h₁, toks := tk }) →
      codeAny (model X.prog X.w) X.A (.compLoop (.ListComp elt [⟨target, iter, ifs, 0⟩] scope pos) 0 (.ref itv) (.ref D) (compEnvC scope cl2 C X.env)) R0 s3 := by
    rintro itv s3 rfl ⟨tk, rfl⟩
    have I3 : Inv (cxC X N' scope cl2 C s2 H2 fp) [] (stC k fr σ) H2 { s2 with heap := h₁, toks := tk } := compInv I2 S (by rw [hDd]; exact B) (by rw [hDd]; exact hC) f2 (by rw [hDd]; exact lt) old hns₁
    have stat : ∀ {H' : Hp} {o : Obj}, (∀ b ∈ fp, H' b = none) → ∀ b ∈ fp, FpOk (cxC X N' scope cl2 C s2 H2 fp) [(D, o)] H' b := fun {H' o} hn b hb =>
      ⟨hn b hb, Nat.ne_of_lt (Nat.lt_of_lt_of_le (lt b hb) hC), fun z => by
        rcases List.mem_cons.mp (I2.stkSub b z) with q | q
        · exact (f2 b hb).2.1 q
        · exact (f2 b hb).2.2.1 q, .inl hb, fun x c e => (B.old _ _ e).elim (fun o => (f2 b hb).2.2.2.2.1 x c o) (fun o => Nat.ne_of_gt (Nat.lt_of_lt_of_le (lt b hb) o.1)), fun p hp => by
        have e : p = (D, o) := by simpa [cxC] using hp
        rw [e]
        exact Nat.ne_of_gt (lt b hb)⟩
    have addD : ∀ {σ' : St} {H' : Hp} {s' : Shared} {o : Obj}, Inv (cxC X N' scope cl2 C s2 H2 fp) [] σ' H' s' → s'.heap.get? D = some o → H' D = none → (∀ v, o.data ≠ .cell v) → Inv (cxC X N' scope cl2 C s2 H2 fp) [(D, o)] σ' H' s' := fun {σ' H' s' o} I' e n hd =>
      I'.pins_of fun p hp => by
        have q : p = (D, o) := by simpa using hp
        subst q
        refine ⟨e, n, hDC, fun z => ?_, hd⟩
        obtain ⟨_, ob, ho, _⟩ := I2.stack.mem z
        exact absurd (Heap.lt_size ho) (by rw [hDd]; exact Nat.lt_irrefl _)
    have ndL : ∀ {its : List Value} {n : Nat} (v : Option Value), (lstObj its n).data ≠ .cell v := fun v z => by
      have z : Data.seq _ _ = Data.cell v := z
      cases z
    refine codeAny_compLoop_any (fun n s' => ∃ i ys σ' H' its cap, Inv (cxC X N' scope cl2 C s2 H2 fp) [] σ' H' s' ∧ tn i s'.heap ∧ (∀ b ∈ fp, H' b = none) ∧ s'.heap.get? D = some (lstObj its cap) ∧ H' D = none ∧ Vals ys its ∧ ys.length ≤ sizeLine ∧ W i n ys σ' H') ?_ m0
      ⟨0, [], _, H2, [], 0, I3, T.keep _ _ _ st2 (fun b _ o e => old b o e), fun b hb => (f2 b hb).1, hacc, fD, .nil, Nat.zero_le _, w0⟩
    rintro n s4 ⟨i, ys, σ4, H4, its, cap, I4, st4, fr4, hD4, nD4, vl4, sz4, w4⟩
    have I4' := addD I4 hD4 nD4 ndL
    rcases turn i n ys σ4 H4 w4 with ⟨stop, qf⟩ | ⟨go, step⟩
    · refine thn (T.done (cxC X N' scope cl2 C s2 H2 fp) rfl rfl rfl hc i _ s4 σ4 H4 _ I4' (stat fr4) st4 stop) fun r s5 ⟨hr, I5⟩ => ?_
      subst hr
      obtain ⟨m5, hn5, _⟩ := I5.loc
      exact hR C rfl s5 m5 ys its cap H4 (by rw [hCs]; exact Nat.lt_succ_self _) hn5 vl4 sz4 (I5.pin (D, lstObj its cap) (List.mem_append_right _ List.mem_cons_self)).1 nD4 I5.free qf I5.os I5.bare I5.base I5.hok
    · refine thn (T.item (cxC X N' scope cl2 C s2 H2 fp) rfl rfl rfl hc i _ s4 σ4 H4 _ I4' (stat fr4) st4 go) fun r s5 ⟨u, hr, h5⟩ => ?_
      subst hr
      refine thn h5 fun _ s6 ⟨x, H6, I6, r6, y6, st6, fr6⟩ => ?_
      have I6' := I6.pinned (stat fr6) (T.obj _ _ st6)
      refine thn (hg cl2 C s2 H2 fp _ s6 σ4 H6 x u _ I6' r6 (step x H6 y6)) fun _ s7 ⟨σ7, H7, I7, q7⟩ => ?_
      refine thn (ht cl2 C s2 H2 fp _ s7 σ7 H7 _ I7 q7) fun ok s8 ⟨H8, I8, q8⟩ => ?_
      -- what a pinned state tells of the iterator and of the list
      have back : ∀ {σ' : St} {H' : Hp} {s' : Shared}, Inv (cxC X N' scope cl2 C s2 H2 fp) ([(D, lstObj its cap)] ++ pinsAt fp s6.heap) σ' H' s' → tn (i + 1) s'.heap ∧ (∀ b ∈ fp, H' b = none) ∧ s'.heap.get? D = some (lstObj its cap) ∧ H' D = none := fun {σ' H' s'} I' => by
        have pD := I'.pin (D, lstObj its cap) (List.mem_append_right _ (List.mem_append_left _ (by simp)))
        refine ⟨T.keep _ _ _ st6 fun b hb o e => (I'.pin (b, o) (List.mem_append_right _ (List.mem_append_right _ (mem_pinsAt hb e)))).1, fun b hb => ?_, pD.1, pD.2.1⟩
        obtain ⟨o, e, d⟩ := T.obj _ _ st6 b hb
        exact (I'.pin (b, o) (List.mem_append_right _ (List.mem_append_right _ (mem_pinsAt hb e)))).2.1
      cases ok with
      | false =>
        rw [if_neg Bool.false_ne_true]
        rw [if_neg Bool.false_ne_true] at q8
        obtain ⟨m', hm, w8⟩ := q8
        obtain ⟨b1, b2, b3, b4⟩ := back I8
        exact ⟨m', hm, i + 1, ys, σ7, H8, its, cap, I8.pins_of (fun p hp => absurd hp (by simp)), b1, b2, b3, b4, vl4, sz4, w8⟩
      | true =>
        rw [if_pos rfl]
        rw [if_pos rfl] at q8
        refine wpAny_mono (he cl2 C s2 H2 fp _ s8 σ7 H8 _ (I8.wish _) q8) (fun y s9 ⟨z, H9, I9, r9, hlt, m', hm, w9⟩ => ?_) fun x s' hx => hE cl2 C x s' rfl (by rw [hCs]; exact Nat.lt_succ_self _) hx
        have I9 := I9.unwish
        obtain ⟨b1, b2, b3, b4⟩ := back I9
        have hl := vl4.length
        refine call_meets F.slot_list_append ⟨_, b3, rfl⟩ F.entry_list_append (F.args_list_append_2 _ _) (PySem.list_append D its.toArray cap y (by rw [List.size_toArray]; omega)) ⟨b3, ?_⟩
        obtain ⟨c', q⟩ : ∃ c', (s9.heap.update D (Obj.mapSeq fun x => x.push y)).get? D = some (lstObj (its ++ [y]) c') := by
          have q := PySem.IsL.update b3 (fun x => x.push y)
          rw [show its.toArray.push y = (its ++ [y]).toArray by simp] at q
          exact ⟨_, q⟩
        have I9' : Inv (cxC X N' scope cl2 C s2 H2 fp) [] σ7 H9 s9 := I9.pins_of (fun p hp => absurd hp (by simp))
        have kp : ∀ b o, b ≠ D → s9.heap.get? b = some o → (s9.heap.update D (Obj.mapSeq fun x => x.push y)).get? b = some o := fun b o hb e => (Heap.get?_update_other s9.heap (Obj.mapSeq fun x => x.push y) (Ne.symm hb)).trans e
        have I10 := I9'.turned (t' := s9.toks) (it := D) (h' := s9.heap.update D (Obj.mapSeq fun x => x.push y)) kp b4 hDC (.inr (by show s2.heap.objs.size ≤ D; rw [hDd]; exact Nat.le_refl _)) (fun x c e => cells x c e) (fun p hp => absurd hp (by simp [cxC]))
        refine ⟨m', hm, i + 1, ys ++ [z], σ7, H9, its ++ [y], c', I10, T.keep _ _ _ b1 (fun b hb o e => kp b o (Nat.ne_of_lt (lt b hb)) e), b2, q, b4, vl4.append (.cons r9 .nil), ?_, w9⟩
        · rw [List.length_append, List.length_singleton]
          omega
  exact codeAny_compStart_list (loop it _ rfl ⟨_, rfl⟩) (T.self _ 0 _ _ _ (T.keep _ _ _ st2 (fun b _ o e => old b o e)) (loop it _ rfl ⟨_, rfl⟩))

theorem block_run {elt target iter : Expr} {ifs : List Expr} {scope : Scope} {pos : Pos} {g : TG} {tc : TT} {te : TE} {k : Nat} {fr : List Nat} {N' : List Str} {cl : List (Str × Addr)} {pins : List (Addr × Obj)} {σ : St} {H2 : Hp} {s2 : Shared}
    {it : Addr} {fp : List Addr} {tn : Nat → Heap → Prop} {J : It} {E : Value → Shared → Prop} {fin : List V → Hp → Prop} {RR : Value → Addr → Result → Shared → Prop} {XE : List (Str × Addr) → Addr → Shared → Hp → List Addr → Value → Shared → Prop}
    (hc : X.calm = true) (S : CompScope X.N X.env.scope N' scope k fr) (c1 : ∀ x c, cl.lookup x = some c → X.env.cells.lookup x = some c) (c2 : ∀ n, (n, NameKind.free) ∈ scope.names → ∃ c, cl.lookup n = some c) (cin : ∀ x c, (x, c) ∈ cl → ∃ y, X.env.cells.lookup y = some c) (cno : ∀ x, (x, NameKind.cell) ∈ scope.names → ∀ c, (x, c) ∉ cl)
    (hg : ∀ cl C s H ex, PG (cxC X N' scope cl C s H ex) target g) (ht : ∀ cl C s H ex, PTs (cxC X N' scope cl C s H ex) ifs tc) (he : ∀ cl C s H ex, PE ((cxC X N' scope cl C s H ex).wish (XE cl C s H ex)) elt te)
    (I2 : Inv X pins σ H2 s2) (T : Turn X.prog X.w X.K target J fp it tn) (st2 : tn 0 s2.heap) (f2 : ∀ b ∈ fp, FpOk X pins H2 b) (hb : tBlock J g tc te (stC k fr σ) H2 fin)
    (hR : ∀ (C : Addr) (s' : Shared) (m : Str → Option Value) (ys : List V) (its : List Value) (n : Nat) (H' : Hp), s2.heap.objs.size < C → s'.heap.Ns C m → Vals ys its → ys.length ≤ sizeLine → s'.heap.get? s2.heap.objs.size = some (lstObj its n) → H' s2.heap.objs.size = none → H' C = none → fin ys H' →
      s'.os = s2.os → AllBare s'.gens → Un (frs X.stack) fp H2 H' s2.heap s'.heap → HOk X.prog X.w H' s'.heap → RR (.ref s2.heap.objs.size) C (.ok .next) s')
    (hE : ∀ cl C x s', s2.heap.objs.size < C → XE cl C s2 H2 fp x s' → notedBy (model X.prog X.w) X.A (compEnvC scope cl C X.env) (fun y s'' => RR (.ref s2.heap.objs.size) C (.error y) s'') x s') :
    wpAny (model X.prog X.w) X.A (newList []) (fun acc s₃ => wpAny (model X.prog X.w) X.A (newFunctionEnv scope X.env.globals cl [] X.env.qual none .none (some X.env)) (fun cenv s₄ =>
      codeAny (model X.prog X.w) X.A (.compStart (.ListComp elt [⟨target, iter, ifs, 0⟩] scope pos) 0 (.ref it) acc { cenv with scope := relabel scope X.env }) (RR acc cenv.locals) s₄) E s₃) E s2 := by
  refine wpAny_newObj_type (wpAny_newEnv_comp ?_)
  exact block_in (R0 := RR _ _) hc S c1 c2 cin cno hg ht he I2 T st2 f2 hb (fun C e => by subst e; exact hR _) (fun cl C x s' e => by subst e; exact hE cl _ x s')

/-- behind the block: the list is tracked -/
theorem comp_back {fp : List Addr} {pins : List (Addr × Obj)} {σ : St} {H2 H' : Hp} {s2 s' : Shared} {C : Addr} {ys : List V} {its : List Value} {n : Nat} {h' : Heap} (I2 : Inv X pins σ H2 s2) (f2 : ∀ b ∈ fp, FpOk X pins H2 b) (hC : s2.heap.objs.size < C)
    (vl : Vals ys its) (sz : ys.length ≤ sizeLine) (hD : s'.heap.get? s2.heap.objs.size = some (lstObj its n)) (nD : H' s2.heap.objs.size = none) (nC : H' C = none)
    (os : s'.os = s2.os) (bare : AllBare s'.gens) (un : Un (frs X.stack) fp H2 H' s2.heap s'.heap) (hok : HOk X.prog X.w H' s'.heap) (hs : Heap.SameBut C s'.heap h') :
    Inv X pins σ (upd H' s2.heap.objs.size (.lst ys)) { s' with heap := h' } := by
  have ltC : ∀ b o, s2.heap.get? b = some o → b ≠ C := fun b o e => Nat.ne_of_lt (Nat.lt_trans (Heap.lt_size e) hC)
  have ltD : ∀ b o, s2.heap.get? b = some o → b ≠ s2.heap.objs.size := fun b o e => Nat.ne_of_lt (Heap.lt_size e)
  have tk : ∀ b u, H' b = some u → b ≠ s2.heap.objs.size := fun b u e z => by rw [z, nD] at e; cases e
  have tC : ∀ b u, H' b = some u → b ≠ C := fun b u e z => by rw [z, nC] at e; cases e
  have fD : H2 s2.heap.objs.size = none := I2.hok.fresh (Nat.le_refl _)
  have t2 : ∀ b u, H2 b = some u → b ≠ s2.heap.objs.size := fun b u e z => by rw [z, fD] at e; cases e
  refine I2.call' (s' := { s' with heap := h' }) (ch := fp) os ⟨fun b o e m hb hx => ?_, fun b o e m hb hx => ?_, fun b o e m hx => ?_, fun b o e hx => ?_, fun b xs e => ?_, fun b o u e => ?_, fun b ps e => ?_⟩ (fun b u e => ?_) bare fun b hb => ?_
  · exact (hs.2 b (ltC b o e)).trans (un.keep b o e m hb hx)
  · obtain ⟨sl, q⟩ := un.slot b o e m hb hx
    exact ⟨sl, (hs.2 b (ltC b o e)).trans q⟩
  · rw [upd_ne (ltD b o e)]
    exact un.free b o e m hx
  · obtain ⟨o', q⟩ := un.there b o e hx
    exact ⟨o', (hs.2 b (ltC b o e)).trans q⟩
  · rw [upd_ne (t2 b _ e)]
    exact un.tups b xs e
  · rw [upd_ne (t2 b _ e)]
    exact un.frzs b o u e
  · obtain ⟨mo, q⟩ := un.tbls b ps e
    exact ⟨mo, by rw [upd_ne (t2 b _ e)]; exact q⟩
  · by_cases hb : b = s2.heap.objs.size
    · subst hb
      rw [upd_same] at e
      cases e
      exact ⟨sz, its, n, vl, (hs.2 _ (Nat.ne_of_lt hC)).trans hD⟩
    · rw [upd_ne hb] at e
      exact (hok b u e).stay (fun c v hc q => (hs.2 c (by
        rcases hc with rfl | hc
        · exact tC _ _ e
        · exact tC _ _ hc)).trans q) (fun c r => by rw [upd_ne (tk _ _ r)]; exact r) fun c xs r => by rw [upd_ne (tk _ _ r)]; exact r
  · exact ⟨(f2 b hb).2.2.2.1, (f2 b hb).2.1, (f2 b hb).2.2.2.2.1, (f2 b hb).2.2.2.2.2⟩

def tComp (wi : TI) (g : TG) (tc : TT) (te : TE) (k : Nat) (fr : List Nat) : TE := fun σ H Q => wi σ H fun J H1 => tBlock J g tc te (stC k fr σ) H1 fun ys H2 => ∀ D, H1 D = none → H2 D = none → Q (.ref D) (upd H2 D (.lst ys))
theorem pe_comp {elt target iter : Expr} {ifs : List Expr} {scope so : Scope} {pos : Pos} {wi : TI} {g : TG} {tc : TT} {te : TE} {k : Nat} {fr : List Nat} {N N' : List Str} (hc : X.calm = true) (hN : X.N = N) (hso : X.env.scope = so) (S : CompScope N so N' scope k fr)
    (hi : PI X target iter wi) (hg : ∀ cl C s H ex, PG (cxC X N' scope cl C s H ex) target g) (ht : ∀ cl C s H ex, PTs (cxC X N' scope cl C s H ex) ifs tc) (he : ∀ cl C s H ex, PE (cxC X N' scope cl C s H ex) elt te)
    (hs : ∀ x, foldedSetIterable iter X.env x = pure x := by intro _; rfl) : PE X (.ListComp elt [⟨target, iter, ifs, 0⟩] scope pos) (tComp wi g tc te k fr) := by
  subst hN hso
  intro pins s σ H Q I h
  rw [eval_ListComp]
  obtain ⟨cl, hcl, c1, c2, c3⟩ := closureFor_of (env := X.env) (scope := scope) fun n hn => I.ok.has n (S.outer _ hn rfl)
  refine wpAny_comprehension_free (use := none) (cl := cl) rfl hs hcl S.kind S.locs ?_
  refine thn (hi pins s σ H _ I h) fun v s1 h1 => thn h1 fun itv s2 h2 => ?_
  obtain ⟨it, fp, tn, J, H2, rfl, I2, T, st2, f2, hb⟩ := h2
  refine block_run (RR := fun acc C => compPost (model X.prog X.w) X.A X.xe none (EP X pins σ Q) acc C) hc S c1 c2 (fun x c m => ⟨x, (c3 x c m).1⟩) (fun x hx c m => (S.cels _ hx rfl).2 (c3 x c m).2) (XE := fun _ _ _ _ _ _ _ => False) hg ht he I2 T st2 f2 hb ?_ (fun _ _ _ _ _ z => False.elim z)
  intro C s' m ys its n H' hC hn vl sz hD nD nC fin os bare un hok
  exact ⟨m, hn, fun h' hs' => ⟨.ref _, _, comp_back I2 f2 hC vl sz hD nD nC os bare un hok hs', rfl, fin _ (I2.hok.fresh (Nat.le_refl _)) nD⟩⟩
/-- name = [ .. ]: the store comes ahead of the names' going -/
theorem ps_setC {elt target iter : Expr} {ifs : List Expr} {scope so : Scope} {pos spos py : Pos} {wi : TI} {g : TG} {tc : TT} {te : TE} {k : Nat} {fr : List Nat} {N N' : List Str} {y : Str} {i : Nat} (hc : X.calm = true) (hN : X.N.Nodup) (hy : X.N[i]? = some y) (hl : X.env.scope.names.lookup y = some .local)
    (hNN : X.N = N) (hso : X.env.scope = so) (S : CompScope N so N' scope k fr)
    (hi : PI X target iter wi) (hg : ∀ cl C s H ex, PG (cxC X N' scope cl C s H ex) target g) (ht : ∀ cl C s H ex, PTs (cxC X N' scope cl C s H ex) ifs tc) (he : ∀ cl C s H ex, PE (cxC X N' scope cl C s H ex) elt te)
    (hsw : swapsWith (.ListComp elt [⟨target, iter, ifs, 0⟩] scope pos) (some (.Name y py)) spos.line X.env = pure true := by rfl)
    (hs : ∀ x, foldedSetIterable iter X.env x = pure x := by intro _; rfl) : PS X (.Assign [.Name y py] (.ListComp elt [⟨target, iter, ifs, 0⟩] scope pos) spos) (tAsg (tComp wi g tc te k fr) (gName i)) := by
  subst hNN hso
  intro pins s σ H D I h
  rw [exec_Assign_Name_used _ _ _ _ hsw]
  obtain ⟨cl, hcl, c1, c2, c3⟩ := closureFor_of (env := X.env) (scope := scope) fun n hn => I.ok.has n (S.outer _ hn rfl)
  refine wpAny_bind (wpAny_standAt (wpAny_bind ?_))
  show wpAny _ X.A (do let _ ← comprehension (.ListComp elt [⟨target, iter, ifs, 0⟩] scope pos) scope X.env _ (newList []) false (eval iter X.env) (some (assign (.Name y py) X.env))) _ _ s
  refine wpAny_bind (wpAny_mono (wpAny_comprehension_free (use := some (assign (.Name y py) X.env)) (Q := fun _ s' => SP X pins D .next s') (cl := cl) rfl hs hcl S.kind S.locs ?_) (fun _ s' hq => wpAny_pure (wpAny_pure hq)) fun _ _ e => e)
  refine thn (hi pins s σ H _ I h) fun v s1 h1 => thn h1 fun itv s2 h2 => ?_
  obtain ⟨it, fp, tn, J, H2, rfl, I2, T, st2, f2, hb⟩ := h2
  refine block_run (RR := fun acc C => compPost (model X.prog X.w) X.A X.xe (some (assign (.Name y py) X.env)) (fun _ s' => SP X pins D .next s') acc C) hc S c1 c2 (fun x c m => ⟨x, (c3 x c m).1⟩) (fun x hx c m => (S.cels _ hx rfl).2 (c3 x c m).2) (XE := fun _ _ _ _ _ _ _ => False) hg ht he I2 T st2 f2 hb ?_ (fun _ _ _ _ _ z => False.elim z)
  intro C s' m ys its n H' hC hn vl sz hD nD nC fin os bare un hok
  have I3 : Inv X pins σ (upd H' s2.heap.objs.size (.lst ys)) s' := comp_back (h' := s'.heap) I2 f2 hC vl sz hD nD nC os bare un hok (.refl ..)
  refine wpAny_assign_Name (store_ok2 (v := .ref s2.heap.objs.size) I3 hN hy (.inl hl) rfl (fun s4 I4 ch => ?_) (.inr hl))
  have ltL : X.env.locals < s2.heap.objs.size := I2.lt
  obtain ⟨a, hsa, ha⟩ := ch
  have aC : a ≠ C := by
    rcases ha with rfl | ha
    · exact Nat.ne_of_lt (Nat.lt_trans ltL hC)
    · obtain ⟨v, q⟩ := I2.cell _ _ ha
      exact Nat.ne_of_lt (Nat.lt_trans q.lt hC)
  refine ⟨m, hn.sameBut hsa (Ne.symm aC), fun h' hs' => ⟨_, _, ?_, fin _ (I2.hok.fresh (Nat.le_refl _)) nD⟩⟩
  -- the block's names go
  have nC4 : (upd H' s2.heap.objs.size (.lst ys)) C = none := by rw [upd_ne (Nat.ne_of_gt hC)]; exact nC
  exact I4.turned (t' := s4.toks) (it := C) (h' := h') (fun b o hb e => (hs'.2 b hb).trans e) nC4 (Nat.ne_of_gt (Nat.lt_trans ltL hC)) (.inr (Nat.le_trans I2.sz (Nat.le_of_lt hC))) (fun x c e z => by
    obtain ⟨v, q⟩ := I2.cell x c e
    exact absurd (Nat.lt_trans q.lt hC) (by rw [z]; exact Nat.lt_irrefl _)) (fun p hp z => by
    have := Heap.lt_size (I2.pin p hp).1
    rw [z] at this
    exact absurd (Nat.lt_trans this hC) (Nat.lt_irrefl _))
end

/-! ### the forms one uses -/
/-- J walks n items, as long as Ok holds of the heap -/
structure Src (J : It) (Ok : Hp → Prop) (n : Nat) (Item : Nat → V → Hp → Hp → Prop) : Prop where
  go : ∀ i H, i < n → Ok H → J.go i H
  yld : ∀ i H x H3, i < n → Ok H → J.yld i H x H3 → Item i x H H3
  stop : ∀ H, Ok H → J.stop n H
theorem src_list {K : PySem.W.Frag} {a : Addr} {xs : List V} {Ok : Hp → Prop} (h : ∀ H, Ok H → SqL K H a xs) : Src (Itl K a) Ok xs.length (fun i x H H3 => H3 = H ∧ xs[i]? = some x) where
  go := fun i H hi ok => ⟨xs, xs[i], h H ok, by simp [hi]⟩
  yld := fun i H x H3 hi ok ⟨e, y⟩ => ⟨e, y xs (h H ok)⟩
  stop := fun H ok => ⟨xs, h H ok, Nat.le_refl _⟩
theorem block_src {J : It} {g : TG} {tc : TT} {te : TE} {σ0 : St} {H1 : Hp} {fin : List V → Hp → Prop} {n : Nat} {Item : Nat → V → Hp → Hp → Prop} (S : Src J (Same H1) n Item) (Own : St → Prop) (h0 : Own σ0) (P : Nat → List V → Hp → Prop) (p0 : P 0 [] H1) (hz : n ≤ sizeLine)
    (hs : ∀ i x σ H ys H3 (Q : St → V → Hp → Prop) (N : St → Hp → Prop), i < n → Same H1 H → P i ys H → ys.length ≤ i → Own σ → Item i x H H3 →
      (∀ σ3 y H6, Own σ3 → Same H1 H6 → P (i + 1) (ys ++ [y]) H6 → Q σ3 y H6) → (∀ σ3 H5, Own σ3 → Same H1 H5 → P (i + 1) ys H5 → N σ3 H5) →
      g x σ H3 fun σ3 H4 => tc σ3 H4 fun b H5 => if b = true then te σ3 H5 fun y H6 => Q σ3 y H6 else N σ3 H5)
    (hfin : ∀ ys H, Same H1 H → P n ys H → ys.length ≤ n → fin ys H) : tBlock J g tc te σ0 H1 fin := by
  refine ⟨fun i m ys σ H => m = n - i ∧ i ≤ n ∧ ys.length ≤ i ∧ Own σ ∧ Same H1 H ∧ P i ys H, ⟨n, by simp, Nat.zero_le _, Nat.le_refl _, h0, Same.refl _, p0⟩, ?_⟩
  rintro i m ys σ H ⟨rfl, hi, hl, ow, sm, p⟩
  by_cases hlt : i < n
  · refine .inr ⟨S.go i H hlt sm, fun x H3 y => hs i x σ H ys H3 (fun σ3 y H6 => ys.length < sizeLine ∧ ∃ m', m' < n - i ∧ m' = n - (i + 1) ∧ i + 1 ≤ n ∧ (ys ++ [y]).length ≤ i + 1 ∧ Own σ3 ∧ Same H1 H6 ∧ P (i + 1) (ys ++ [y]) H6)
      (fun σ3 H5 => ∃ m', m' < n - i ∧ m' = n - (i + 1) ∧ i + 1 ≤ n ∧ ys.length ≤ i + 1 ∧ Own σ3 ∧ Same H1 H5 ∧ P (i + 1) ys H5) hlt sm p hl ow (S.yld i H x H3 hlt sm y) (fun σ3 y H6 o s6 q => ?_) (fun σ3 H5 o s5 q => ?_)⟩
    · exact ⟨by omega, n - (i + 1), by omega, rfl, hlt, by rw [List.length_append, List.length_singleton]; omega, o, s6, q⟩
    · exact ⟨n - (i + 1), by omega, rfl, hlt, by omega, o, s5, q⟩
  · have e : i = n := by omega
    subst e
    exact .inl ⟨S.stop H sm, hfin ys H sm p hl⟩
/-- a plain map, one name: each item by itself -/
theorem comp_map {J : It} {te : TE} {tl : St} {H1 : Hp} {fin : List V → Hp → Prop} {n : Nat} {Item : Nat → V → Hp → Hp → Prop} (S : Src J (Same H1) n Item) (sub : ∀ i x H H3, Item i x H H3 → Same H H3) (hz : n ≤ sizeLine)
    (R : Nat → V → Hp → Prop) (mono : ∀ i y H H', Same H H' → R i y H → R i y H')
    (hs : ∀ i x w H H3 (Q : VK), i < n → Same H1 H → Item i x H H3 → (∀ y H6, Same H3 H6 → R i y H6 → Q y H6) → te ((w :: tl).set 0 (some x)) H3 Q)
    (hfin : ∀ ys H, Same H1 H → ys.length = n → (∀ i y, ys[i]? = some y → R i y H) → fin ys H) : tBlock J (gName 0) tYes te (none :: tl) H1 fin := by
  refine ⟨fun i m ys σ H => m = n - i ∧ i ≤ n ∧ ys.length = i ∧ (∃ w, σ = w :: tl) ∧ Same H1 H ∧ ∀ j y, ys[j]? = some y → R j y H, ⟨n, by simp, Nat.zero_le _, rfl, ⟨_, rfl⟩, Same.refl _, fun j y e => by simp at e⟩, ?_⟩
  rintro i m ys σ H ⟨rfl, hi, hl, ⟨w, rfl⟩, sm, p⟩
  by_cases hlt : i < n
  · refine .inr ⟨S.go i H hlt sm, fun x H3 y => ?_⟩
    have it := S.yld i H x H3 hlt sm y
    have s3 := sub i x H H3 it
    unfold gName tYes
    refine iteT ?_
    refine hs i x w H H3 _ hlt sm it fun y H6 s6 r => ⟨by omega, n - (i + 1), by omega, rfl, hlt, by rw [List.length_append, List.length_singleton]; omega, ⟨_, rfl⟩, sm.trans (s3.trans s6), fun j z e => ?_⟩
    by_cases hj : j < i
    · rw [List.getElem?_append_left (by omega)] at e
      exact mono j z _ _ (s3.trans s6) (p j z e)
    · rw [List.getElem?_append_right (by omega)] at e
      have e2 : j - ys.length = 0 := by
        by_cases q : j - ys.length = 0
        · exact q
        · rw [List.getElem?_eq_none (by simp; omega)] at e; cases e
      rw [e2] at e
      simp at e
      subst e
      have : j = i := by omega
      subst this
      exact r
  · have e : i = n := by omega
    subst e
    exact .inl ⟨S.stop H sm, hfin ys H sm hl p⟩
/-- a loop's body over what J walks -/
def tForB (J : It) (g : TG) (tb : TS) (D : Ends) (σ : St) (H : Hp) : Prop :=
  ∃ W : Nat → Nat → St → Hp → Prop, (∃ m, W 0 m σ H) ∧ ∀ i m σ H, W i m σ H →
    (J.stop i H ∧ D.nx σ H) ∨ (J.go i H ∧ ∃ N : St → Hp → Prop, (∀ σ' H', N σ' H' → ∃ m', m' < m ∧ W (i + 1) m' σ' H') ∧ ∀ x H', J.yld i H x H' → g x σ H' fun σ2 H2 => tb { D with nx := N, ct := N, bk := D.nx } σ2 H2)
theorem tFor_eq {wi : TI} {g : TG} {tb : TS} {D : Ends} {σ : St} {H : Hp} : tFor wi g tb D σ H = wi σ H fun J H1 => tForB J g tb D σ H1 := rfl
theorem for_src {J : It} {g : TG} {tb : TS} {D : Ends} {σ : St} {H : Hp} {n : Nat} {Item : Nat → V → Hp → Hp → Prop} {Ok : Hp → Prop} (S : Src J Ok n Item) (Pv : Nat → St → Hp → Prop) (h0 : Pv 0 σ H) (hok : ∀ i σ H, i ≤ n → Pv i σ H → Ok H)
    (hs : ∀ i x σ H H3, i < n → Pv i σ H → Item i x H H3 → g x σ H3 fun σ2 H2 => tb { D with nx := Pv (i + 1), ct := Pv (i + 1), bk := D.nx } σ2 H2) (hd : ∀ σ H, Pv n σ H → D.nx σ H) : tForB J g tb D σ H := by
  refine ⟨fun i m σ H => m = n - i ∧ i ≤ n ∧ Pv i σ H, ⟨n, by simp, Nat.zero_le _, h0⟩, ?_⟩
  rintro i m σ H ⟨rfl, hi, p⟩
  by_cases hlt : i < n
  · exact .inr ⟨S.go i H hlt (hok i σ H hi p), Pv (i + 1), fun σ' H' p' => ⟨n - (i + 1), by omega, rfl, hlt, p'⟩, fun x H' y => hs i x σ H H' hlt p (S.yld i H x H' hlt (hok i σ H hi p) y)⟩
  · have e : i = n := by omega
    subst e
    exact .inl ⟨S.stop H (hok i σ H hi p), hd σ H p⟩
end L2
/-! WHAT ELSE IS WALKED: zip, enumerate; an untracked object is tracked; several records turn. -/
namespace L2
open PySem PySem.Spec PyProof.Rows

section
variable {X : Cx} {pins : List (Addr × Obj)} {σ : St} {H : Hp} {s : Shared}
/-- an object that nobody tracks is tracked from now on -/
theorem Inv.take {ad : Addr} {o : HO} (I : Inv X pins σ H s) (f : FpOk X pins H ad) (new : X.s₀.heap.objs.size ≤ ad) (ok : ObjOk X.prog X.w (upd H ad o) s.heap ad o) : Inv X pins σ (upd H ad o) s := by
  obtain ⟨hn, nL, nf, _, nc, np⟩ := f
  have tk : ∀ b u, H b = some u → b ≠ ad := fun b u e z => by rw [z, hn] at e; cases e
  refine ⟨I.ok, I.os, I.bare, ⟨I.base.keep, I.base.slot, fun b ob e m hx => ?_, I.base.there, fun b xs e => ?_, fun b ob u e => ?_, fun b ps e => ?_⟩, I.loc, I.cell, ?_, fun x c e => ?_, fun p hp => ?_, fun b u e => ?_, I.len⟩
  · rw [upd_ne (Nat.ne_of_lt (Nat.lt_of_lt_of_le (Heap.lt_size e) new))]
    exact I.base.free b ob e m hx
  · have q := I.base.tups b xs e
    rw [upd_ne (tk b _ q)]; exact q
  · have q := I.base.frzs b ob u e
    rw [upd_ne (tk b _ q)]; exact q
  · obtain ⟨mo, q⟩ := I.base.tbls b ps e
    exact ⟨mo, by rw [upd_ne (tk b _ q)]; exact q⟩
  · rw [upd_ne (Ne.symm nL)]; exact I.free
  · rw [upd_ne (nc x c e)]; exact I.freeC x c e
  · obtain ⟨a, b, c⟩ := I.pin p hp
    exact ⟨a, by rw [upd_ne (np p hp)]; exact b, c⟩
  · by_cases hb : b = ad
    · subst hb
      rw [upd_same] at e
      cases e
      exact ok
    · rw [upd_ne hb] at e
      exact (I.hok b u e).stay (fun _ _ _ q => q) (fun c r => by rw [upd_ne (tk _ _ r)]; exact r) fun c xs r => by rw [upd_ne (tk _ _ r)]; exact r
end

/-! ### zip of two lists, in a loop whose target is a tuple -/
def Itz (K : PySem.W.Frag) (a b : Addr) : It :=
  ⟨fun i H => ∃ xs ys x y, SqL K H a xs ∧ SqL K H b ys ∧ xs[i]? = some x ∧ ys[i]? = some y,
   fun i H v H' => ∃ p, H p = none ∧ v = .ref p ∧ ∃ x y, (∀ xs, SqL K H a xs → xs[i]? = some x) ∧ (∀ ys, SqL K H b ys → ys[i]? = some y) ∧ H' = upd H p (.tup [x, y]),
   fun i H => ∃ xs ys, SqL K H a xs ∧ SqL K H b ys ∧ (i = min xs.length ys.length)⟩
/-! ### enumerate of a list -/
def Ite (K : PySem.W.Frag) (a : Addr) : It :=
  ⟨fun i H => ∃ xs x, SqL K H a xs ∧ xs[i]? = some x,
   fun i H v H' => ∃ p, H p = none ∧ v = .ref p ∧ ∃ x, (∀ xs, SqL K H a xs → xs[i]? = some x) ∧ H' = upd H p (.tup [.int i, x]),
   fun i H => ∃ xs, SqL K H a xs ∧ xs.length = i⟩
section
variable {X : Cx} {elts : List Expr} {kk : Nat} {tpos : Pos}
def iZip (K : PySem.W.Frag) (ta : TA) : TI := fun σ H R => ta σ H fun vs H1 => ∃ a b, vs = [.ref a, .ref b] ∧ (∃ xs, SqL K H1 a xs) ∧ (∃ ys, SqL K H1 b ys) ∧ R (Itz K a b) H1
def iEnum (K : PySem.W.Frag) (ta : TA) : TI := fun σ H R => ta σ H fun vs H1 => ∃ a, vs = [.ref a] ∧ (∃ xs, SqL K H1 a xs) ∧ R (Ite K a) H1
end
end L2
/-! DATA: what a value stands for, through tuples and lists; == and != of things that stand for one datum. -/
namespace L2
open PySem PySem.Spec PyProof.Rows

inductive Dat where
  | non | bl (b : Bool) | int (i : Int) | str (x : Str) | tup (l : List Dat) | lst (l : List Dat)

mutual
def Rep (H : Hp) : Dat → V → Prop
  | .non, v => v = .non
  | .bl b, v => v = .bl b
  | .int i, v => v = .int i
  | .str x, v => v = .str x
  | .tup ds, v => ∃ p vs, v = .ref p ∧ H p = some (.tup vs) ∧ RepL H ds vs
  | .lst ds, v => ∃ p vs, v = .ref p ∧ H p = some (.lst vs) ∧ RepL H ds vs
def RepL (H : Hp) : List Dat → List V → Prop
  | [], vs => vs = []
  | d :: ds, vs => ∃ v r, vs = v :: r ∧ Rep H d v ∧ RepL H ds r
end
mutual
theorem Rep.mono {H H' : Hp} (s : Same H H') : ∀ {d : Dat} {v : V}, Rep H d v → Rep H' d v
  | .non, _, h => by rw [Rep] at *; exact h
  | .bl _, _, h => by rw [Rep] at *; exact h
  | .int _, _, h => by rw [Rep] at *; exact h
  | .str _, _, h => by rw [Rep] at *; exact h
  | .tup _, _, h => by
    rw [Rep] at *
    obtain ⟨p, vs, e, hp, r⟩ := h
    exact ⟨p, vs, e, s _ _ hp, RepL.mono s r⟩
  | .lst _, _, h => by
    rw [Rep] at *
    obtain ⟨p, vs, e, hp, r⟩ := h
    exact ⟨p, vs, e, s _ _ hp, RepL.mono s r⟩
theorem RepL.mono {H H' : Hp} (s : Same H H') : ∀ {ds : List Dat} {vs : List V}, RepL H ds vs → RepL H' ds vs
  | [], _, h => by rw [RepL] at *; exact h
  | _ :: _, _, h => by
    rw [RepL] at *
    obtain ⟨v, r, e, h1, h2⟩ := h
    exact ⟨v, r, e, Rep.mono s h1, RepL.mono s h2⟩
end
theorem RepL.length {H : Hp} : ∀ {ds : List Dat} {vs : List V}, RepL H ds vs → ds.length = vs.length
  | [], _, h => by rw [RepL] at h; subst h; rfl
  | _ :: _, _, h => by
    rw [RepL] at h
    obtain ⟨v, r, rfl, _, h2⟩ := h
    simp [h2.length]
theorem RepL.get {H : Hp} : ∀ {ds : List Dat} {vs : List V} {i : Nat} {v : V}, RepL H ds vs → vs[i]? = some v → ∃ d, ds[i]? = some d ∧ Rep H d v
  | [], _, i, v, h, e => by rw [RepL] at h; subst h; simp at e
  | d :: ds, _, i, v, h, e => by
    rw [RepL] at h
    obtain ⟨v', r, rfl, h1, h2⟩ := h
    cases i with
    | zero => simp at e; subst e; exact ⟨d, rfl, h1⟩
    | succ i => simp at e; obtain ⟨d', e', r'⟩ := h2.get e; exact ⟨d', by simpa using e', r'⟩
theorem RepL.at {H : Hp} : ∀ {ds : List Dat} {vs : List V} {i : Nat} {d : Dat}, RepL H ds vs → ds[i]? = some d → ∃ v, vs[i]? = some v ∧ Rep H d v
  | [], _, i, v, h, e => by simp at e
  | d :: ds, _, i, d', h, e => by
    rw [RepL] at h
    obtain ⟨v', r, rfl, h1, h2⟩ := h
    cases i with
    | zero => simp at e; subst e; exact ⟨v', rfl, h1⟩
    | succ i => simp at e; obtain ⟨v, e', r'⟩ := h2.at e; exact ⟨v, by simpa using e', r'⟩
theorem RepL.of {H : Hp} : ∀ {ds : List Dat} {vs : List V}, ds.length = vs.length → (∀ (i : Nat) d v, ds[i]? = some d → vs[i]? = some v → Rep H d v) → RepL H ds vs
  | [], [], _, _ => by rw [RepL]
  | [], _ :: _, h, _ => by simp at h
  | _ :: _, [], h, _ => by simp at h
  | d :: ds, v :: vs, h, k => by
    rw [RepL]
    exact ⟨v, vs, rfl, k 0 d v rfl rfl, RepL.of (by simpa using h) fun i d' v' e1 e2 => k (i + 1) d' v' (by simpa using e1) (by simpa using e2)⟩
theorem RepL.append {H : Hp} : ∀ {as bs : List Dat} {us vs : List V}, RepL H as us → RepL H bs vs → RepL H (as ++ bs) (us ++ vs)
  | [], _, _, _, h, k => by rw [RepL] at h; subst h; exact k
  | _ :: _, _, _, _, h, k => by
    rw [RepL] at h
    obtain ⟨v, r, rfl, h1, h2⟩ := h
    show RepL H (_ :: (_ ++ _)) (_ :: (_ ++ _))
    rw [RepL]
    exact ⟨_, _, rfl, h1, h2.append k⟩
theorem RepL.ints {H : Hp} : ∀ (ns : List Int), RepL H (ns.map Dat.int) (ns.map V.int)
  | [] => by simp only [List.map_nil]; rw [RepL]
  | n :: ns => by
    simp only [List.map_cons]
    rw [RepL]
    exact ⟨_, _, rfl, by rw [Rep], RepL.ints ns⟩
/-- two things of one datum are equal -/
def depth : Dat → Nat
  | .tup l => 1 + dL l
  | .lst l => 1 + dL l
  | _ => 0
where dL : List Dat → Nat
  | [] => 0
  | d :: ds => max (depth d) (dL ds)
theorem depth_mem {d : Dat} : ∀ {ds : List Dat}, d ∈ ds → depth d ≤ depth.dL ds
  | e :: ds, h => by
    rw [depth.dL]
    rcases List.mem_cons.mp h with rfl | h
    · exact Nat.le_max_left _ _
    · exact Nat.le_trans (depth_mem h) (Nat.le_max_right _ _)
section
variable {X : Cx} {pins : List (Addr × Obj)} {σ : St} {H : Hp} {s : Shared}
theorem all_true (n : Nat) : ((List.range n).all fun _ => true) = true := by simp
theorem eqAt_D (I : Inv X pins σ H s) : ∀ (n : Nat) (d : Dat), depth d ≤ n → ∀ (v v' : V) (u u' : Value) (A : Around), Rep H d v → Rep H d v' → RelV v u → RelV v' u' → A.units + n < cLine → SeqAt.EqAt A s u u' true := by
  intro n
  induction n with
  | zero =>
    intro d hd v v' u u' A h h' r r' hu
    cases d with
    | non => rw [Rep] at h h'; subst h h'; cases r; cases r'; exact SeqAt.EqAt.same _
    | bl b => rw [Rep] at h h'; subst h h'; cases r; cases r'; exact SeqAt.EqAt.same _
    | int i => rw [Rep] at h h'; subst h h'; obtain ⟨t, rfl⟩ := r; obtain ⟨t', rfl⟩ := r'; have := SeqAt.EqAt.int_int (A := A) (s := s) i t i t'; simpa using this
    | str x => rw [Rep] at h h'; subst h h'; obtain ⟨t, rfl⟩ := r; obtain ⟨t', rfl⟩ := r'; have := SeqAt.EqAt.str_str (A := A) (s := s) x t x t'; simpa using this
    | tup l => rw [depth] at hd; omega
    | lst l => rw [depth] at hd; omega
  | succ n ih =>
    intro d hd v v' u u' A h h' r r' hu
    cases d with
    | non => rw [Rep] at h h'; subst h h'; cases r; cases r'; exact SeqAt.EqAt.same _
    | bl b => rw [Rep] at h h'; subst h h'; cases r; cases r'; exact SeqAt.EqAt.same _
    | int i => rw [Rep] at h h'; subst h h'; obtain ⟨t, rfl⟩ := r; obtain ⟨t', rfl⟩ := r'; have := SeqAt.EqAt.int_int (A := A) (s := s) i t i t'; simpa using this
    | str x => rw [Rep] at h h'; subst h h'; obtain ⟨t, rfl⟩ := r; obtain ⟨t', rfl⟩ := r'; have := SeqAt.EqAt.str_str (A := A) (s := s) x t x t'; simpa using this
    | tup l =>
      rw [Rep] at h h'
      obtain ⟨p, vs, rfl, hp, rl⟩ := h
      obtain ⟨p', vs', rfl, hp', rl'⟩ := h'
      cases r
      cases r'
      rw [depth] at hd
      by_cases hpp : p = p'
      · subst hpp; exact SeqAt.EqAt.same _
      obtain ⟨its, rv, pl, hz⟩ := I.tuple (SqT.of hp)
      obtain ⟨its', rv', pl', hz'⟩ := I.tuple (SqT.of hp')
      have e1 := rl.length
      have e2 := rl'.length
      have l1 := rv.length
      have l2 := rv'.length
      have R := SeqAt.RcAt.tuples (A := A) (e := fun _ => true) pl pl' (by omega) (fun j h1 h2 => ?_)
      · simp only [List.size_toArray, all_true, Bool.true_and] at R
        rw [show (its.length == its'.length) = true by simp; omega] at R
        exact .of_refs hpp R
      · rw [List.size_toArray] at h1 h2
        obtain ⟨d, ed⟩ : ∃ d, l[j]? = some d := ⟨l[j]'(by omega), by simp⟩
        obtain ⟨v1, f1, q1⟩ := rl.at ed
        obtain ⟨v2, f2, q2⟩ := rl'.at ed
        obtain ⟨u1, g1, w1⟩ := rv.get f1
        obtain ⟨u2, g2, w2⟩ := rv'.get f2
        have a1 : its.toArray[j] = u1 := by simpa [List.getElem?_eq_getElem h1] using g1
        have a2 : its'.toArray[j] = u2 := by simpa [List.getElem?_eq_getElem h2] using g2
        rw [a1, a2]
        have := depth_mem (List.mem_of_getElem? ed)
        exact ih d (by omega) v1 v2 u1 u2 A.in1 q1 q2 w1 w2 (by show A.units + 1 + n < cLine; omega)
    | lst l =>
      rw [Rep] at h h'
      obtain ⟨p, vs, rfl, hp, rl⟩ := h
      obtain ⟨p', vs', rfl, hp', rl'⟩ := h'
      cases r
      cases r'
      rw [depth] at hd
      by_cases hpp : p = p'
      · subst hpp; exact SeqAt.EqAt.same _
      obtain ⟨its, rv, pl, hz⟩ := I.list (SqL.of hp)
      obtain ⟨its', rv', pl', hz'⟩ := I.list (SqL.of hp')
      have e1 := rl.length
      have e2 := rl'.length
      have l1 := rv.length
      have l2 := rv'.length
      have R := SeqAt.RcAt.lists (A := A) (e := fun _ => true) pl.isList pl'.isList (by simp only [List.size_toArray]; omega) (by omega) (fun j h1 h2 => ?_)
      · rw [all_true] at R
        exact .of_refs hpp R
      · rw [List.size_toArray] at h1 h2
        obtain ⟨d, ed⟩ : ∃ d, l[j]? = some d := ⟨l[j]'(by omega), by simp⟩
        obtain ⟨v1, f1, q1⟩ := rl.at ed
        obtain ⟨v2, f2, q2⟩ := rl'.at ed
        obtain ⟨u1, g1, w1⟩ := rv.get f1
        obtain ⟨u2, g2, w2⟩ := rv'.get f2
        have a1 : its.toArray[j] = u1 := by simpa [List.getElem?_eq_getElem h1] using g1
        have a2 : its'.toArray[j] = u2 := by simpa [List.getElem?_eq_getElem h2] using g2
        rw [a1, a2]
        have := depth_mem (List.mem_of_getElem? ed)
        exact ih d (by omega) v1 v2 u1 u2 A.in1 q1 q2 w1 w2 (by show A.units + 1 + n < cLine; omega)
end
section
variable {X : Cx}
/-- x == y, where both stand for the tuple or list d -/
def rEqD (b : Bool) : R2 := fun x y H Q => ∃ d, Rep H d x ∧ Rep H d y ∧ (∃ p, x = .ref p) ∧ depth d ≤ 40 ∧ Q (.bl b) H
theorem seqs_D {pins : List (Addr × Obj)} {σ : St} {H : Hp} {s : Shared} {d : Dat} {p p' : Addr} (I : Inv X pins σ H s) (hu : X.A.units + 64 < cLine) (h : Rep H d (.ref p)) (h' : Rep H d (.ref p')) (hd : depth d ≤ 40) :
    (∃ its its' : List Value, IsTup s.heap p its.toArray ∧ IsTup s.heap p' its'.toArray ∧ its.length = its'.length ∧ ∀ j (h1 : j < its.toArray.size) (h2 : j < its'.toArray.size), SeqAt.EqAt X.A.in1 s its.toArray[j] its'.toArray[j] true) ∨
    (∃ its its' : List Value, s.heap.IsList p its.toArray ∧ s.heap.IsList p' its'.toArray ∧ its.length = its'.length ∧ ∀ j (h1 : j < its.toArray.size) (h2 : j < its'.toArray.size), SeqAt.EqAt X.A.in1 s its.toArray[j] its'.toArray[j] true) := by
  cases d with
  | non => rw [Rep] at h; cases h
  | bl b => rw [Rep] at h; cases h
  | int i => rw [Rep] at h; cases h
  | str x => rw [Rep] at h; cases h
  | tup l =>
    left
    rw [Rep] at h h'
    obtain ⟨_, vs, e, hp, rl⟩ := h
    cases e
    obtain ⟨_, vs', e, hp', rl'⟩ := h'
    cases e
    rw [depth] at hd
    obtain ⟨its, rv, pl, hz⟩ := I.tuple (SqT.of hp)
    obtain ⟨its', rv', pl', hz'⟩ := I.tuple (SqT.of hp')
    have e1 := rl.length
    have e2 := rl'.length
    have l1 := rv.length
    have l2 := rv'.length
    refine ⟨its, its', pl, pl', by omega, fun j h1 h2 => ?_⟩
    rw [List.size_toArray] at h1 h2
    obtain ⟨d, ed⟩ : ∃ d, l[j]? = some d := ⟨l[j]'(by omega), by simp⟩
    obtain ⟨v1, f1, q1⟩ := rl.at ed
    obtain ⟨v2, f2, q2⟩ := rl'.at ed
    obtain ⟨u1, g1, w1⟩ := rv.get f1
    obtain ⟨u2, g2, w2⟩ := rv'.get f2
    have a1 : its.toArray[j] = u1 := by simpa [List.getElem?_eq_getElem h1] using g1
    have a2 : its'.toArray[j] = u2 := by simpa [List.getElem?_eq_getElem h2] using g2
    rw [a1, a2]
    have := depth_mem (List.mem_of_getElem? ed)
    exact eqAt_D I 40 d (by omega) v1 v2 u1 u2 X.A.in1 q1 q2 w1 w2 (by show X.A.units + 1 + 40 < cLine; omega)
  | lst l =>
    right
    rw [Rep] at h h'
    obtain ⟨_, vs, e, hp, rl⟩ := h
    cases e
    obtain ⟨_, vs', e, hp', rl'⟩ := h'
    cases e
    rw [depth] at hd
    obtain ⟨its, rv, pl, hz⟩ := I.list (SqL.of hp)
    obtain ⟨its', rv', pl', hz'⟩ := I.list (SqL.of hp')
    have e1 := rl.length
    have e2 := rl'.length
    have l1 := rv.length
    have l2 := rv'.length
    refine ⟨its, its', pl.isList, pl'.isList, by omega, fun j h1 h2 => ?_⟩
    rw [List.size_toArray] at h1 h2
    obtain ⟨d, ed⟩ : ∃ d, l[j]? = some d := ⟨l[j]'(by omega), by simp⟩
    obtain ⟨v1, f1, q1⟩ := rl.at ed
    obtain ⟨v2, f2, q2⟩ := rl'.at ed
    obtain ⟨u1, g1, w1⟩ := rv.get f1
    obtain ⟨u2, g2, w2⟩ := rv'.get f2
    have a1 : its.toArray[j] = u1 := by simpa [List.getElem?_eq_getElem h1] using g1
    have a2 : its'.toArray[j] = u2 := by simpa [List.getElem?_eq_getElem h2] using g2
    rw [a1, a2]
    have := depth_mem (List.mem_of_getElem? ed)
    exact eqAt_D I 40 d (by omega) v1 v2 u1 u2 X.A.in1 q1 q2 w1 w2 (by show X.A.units + 1 + 40 < cLine; omega)
theorem op_eqD (hu : X.A.units + 64 < cLine) : OpR X (compareOp .Eq) (rEqD true) := by
  intro pins s σ H x y v u Q I rx ry h
  obtain ⟨d, h1, h2, ⟨p, rfl⟩, hd, q⟩ := h
  obtain ⟨p', rfl⟩ : ∃ p', y = .ref p' := by
    cases d with
    | non => rw [Rep] at h1; cases h1
    | bl b => rw [Rep] at h1; cases h1
    | int i => rw [Rep] at h1; cases h1
    | str x => rw [Rep] at h1; cases h1
    | tup l => rw [Rep] at h2; obtain ⟨p', _, e, _⟩ := h2; exact ⟨p', e⟩
    | lst l => rw [Rep] at h2; obtain ⟨p', _, e, _⟩ := h2; exact ⟨p', e⟩
  cases rx
  cases ry
  rcases seqs_D I hu h1 h2 hd with ⟨its, its', a, b, e, k⟩ | ⟨its, its', a, b, e, k⟩
  · refine SeqAt.eq_tupleAt (e := fun _ => true) a b (by omega) k ⟨.bl true, H, I, ?_, q⟩
    show Value.bool _ = Value.bool true
    rw [all_true, List.size_toArray, List.size_toArray, e]
    simp
  · refine SeqAt.eq_listAt (e := fun _ => true) a b (by simp only [List.size_toArray]; exact e) (by omega) k ⟨.bl true, H, I, ?_, q⟩
    show Value.bool _ = Value.bool true
    rw [all_true]
/-- != of two tuples of flat values -/
def rNeT : R2 := fun x y H Q => ∃ p q xs ys, x = .ref p ∧ y = .ref q ∧ H p = some (.tup xs) ∧ H q = some (.tup ys) ∧ xs.all flatV = true ∧ ys.all flatV = true ∧ Q (.bl (!eqL xs ys)) H
end
end L2
/-! Lists of ints in order. -/
namespace Nm
def ins (x : Int) : List Int → List Int
  | [] => [x]
  | y :: r => if x ≤ y then x :: y :: r else y :: ins x r
def srt : List Int → List Int
  | [] => []
  | x :: r => ins x (srt r)
end Nm
/-! sum, sorted; a dict's keys walked. -/
namespace L2
open PySem PySem.Spec PyProof.Rows PySem.W
section
variable {X : Cx}
/-- the keys of a dict, all ints -/
def keysI (kvs : List (Key × V)) : List Int := kvs.map fun p => match p.1 with | .inl i => i | .inr _ => 0
def allI (kvs : List (Key × V)) : Prop := ∀ p ∈ kvs, ∃ i, p.1 = Sum.inl i
end

/-! ### a dict held still, and let go -/
section
variable {X : Cx} {pins : List (Addr × Obj)} {σ : St} {H : Hp} {s : Shared}
/-- let go -/
def Thaw (H₀ : Hp) (q : Hp → Prop) (H : Hp) : Prop := ∃ d o kvs, H d = some (.frz o (.dK kvs)) ∧ (∀ a b, H₀ d ≠ some (.frz a b)) ∧ q (upd H d (.dK kvs))
end
def Itd (d : Addr) (o : Obj) (kvs : List (Key × V)) : It :=
  ⟨fun i H => H d = some (.frz o (.dK kvs)) ∧ i < kvs.length, fun i H x H' => H' = H ∧ ∃ p, kvs[i]? = some p ∧ x = kV p.1, fun i H => H d = some (.frz o (.dK kvs)) ∧ i = kvs.length⟩
section
variable {X : Cx} {x : Str} {xpos : Pos}
def iDict (tl : TE) : TI := fun σ H R => tl σ H fun v H1 => ∃ d kvs, v = .ref d ∧ H1 d = some (.dK kvs) ∧ ∀ o, R (Itd d o kvs) (upd H1 d (.frz o (.dK kvs)))
end
end L2
/-! THE SAME RULES, the fragment named apart (within a block or a suite the context is not a letter). -/
namespace L2
open PySem PySem.Spec PyProof.Rows PySem.W
section
variable {X : Cx} {K : PySem.W.Frag}
theorem pi_listK {tg l : Expr} {tl : TE} (hl : PE X l tl) (hK : X.K = K := by rfl) : PI X tg l (iList K tl) := by subst hK; exact pi_list hl
theorem pg_tupK {es : List Expr} {k : Nat} {t : TGs} {n : Nat} {pos : Pos} (hc : X.calm = true) (h : PGs X es t) (hn : (assignEach es X.env).length = n := by rfl) (hst : (assignEach es X.env).findIdx? (·.1) = none := by rfl) (hK : X.K = K := by rfl) : PG X (.Tuple es k pos) (gTup K n t) := by
  subst hK; exact pg_tup hc h hn hst
theorem ix_listSK (hK : X.K = K := by rfl) : IxR X (rIxQ K) := by subst hK; exact ix_listS
theorem call_lenQK (hK : X.K = K := by rfl) : CallR X (.builtin "len") (fun xs H Q => ∃ p ns, xs = [.ref p] ∧ SqL K H p (List.map V.int ns) ∧ Q (.int (List.length ns : Nat)) H) := by subst hK; exact call_lenQ
theorem op_notIn_seqK (hK : X.K = K := by rfl) : OpR X (compareOp .NotIn) (rIn K true) := by subst hK; exact op_notIn_seq
theorem call_isTK (hK : X.K = K := by rfl) : CallR X (.builtin "isinstance") (fun xs H Q => ∃ x c t b, xs = [x, .ty c] ∧ TyOf K H x t ∧ PySem.W.kitOne K t (.type c) = some b ∧ Q (.bl b) H) := by subst hK; exact call_isT
theorem call_isEK (hK : X.K = K := by rfl) : CallR X (.builtin "isinstance") (fun xs H Q => ∃ ad C c v b, xs = [.ref ad, c] ∧ H ad = some (ExO ad (.ref C)) ∧ ExcCls K C ∧ clV c = some v ∧ kitOne K (.ref C) v = some b ∧ Q (.bl b) H) := by subst hK; exact call_isE
theorem MtM.r {id : String} {r : V → List V → Hp → VK → Prop} (h : MtM X id r) : MtR X id r := h
end
end L2
/-! Numbers by keys: sums of weights. -/
namespace Nm
abbrev Ws := List (Int × Int)
def keys (ws : Ws) : List Int := ws.map (·.1)
def look : Ws → Int → Int
  | [], _ => 0
  | p :: r, k => if p.1 = k then p.2 else look r k
def put : Ws → Int → Int → Ws
  | [], k, v => [(k, v)]
  | p :: r, k, v => if p.1 = k then (k, v) :: r else p :: put r k v
def tot (ws : Ws) : Int := (ws.map (·.2)).sum
def addk (ws : Ws) (k x : Int) : Ws := put ws k (look ws k + x)
def addAll (ws ps : Ws) : Ws := ps.foldl (fun acc p => addk acc p.1 p.2) ws
def prs (as bs : Ws) : Ws := as.flatMap fun a => bs.map fun b => (a.1 + b.1, a.2 * b.2)
def bothW (as bs : Ws) : Ws := addAll [] (prs as bs)
def cnt (ps : Ws) (s : Int) : Int := (ps.map fun p => if p.1 = s then p.2 else 0).sum

/-- one list of weights, over another bottom: the same keys in any order, the weights times T are the others times B -/
structure Over (as ws : Ws) (B T : Int) : Prop where
  nd : (keys ws).Nodup
  perm : (keys as).Perm (keys ws)
  val : ∀ k ∈ keys ws, look as k * T = look ws k * B
/-- the rows of a table: each value's share of the bottom -/
def rowsOf (ws : Ws) (B : Int) : List (Int × Int × Int) := (srt (keys ws)).map fun v => (v, st (look ws v) B, sb (look ws v) B)
theorem Over.refl {ws : Ws} (h : (keys ws).Nodup) (B : Int) : Over ws ws B B := ⟨h, .refl _, fun _ _ => rfl⟩
/-- the weights that a table's rows stand for, over a bottom that all theirs divide -/
def weigh (rows : List (Int × Int × Int)) (B : Int) : Ws := rows.map fun r => (r.1, r.2.1 * (B / r.2.2))
end Nm
/-! Weights by keys as a dict; rows of a table as data. -/
namespace L2
open PySem PySem.Spec PyProof.Rows
def enc (ws : Nm.Ws) : List (Key × V) := ws.map fun p => (Sum.inl p.1, V.int p.2)
/-- rows (value, top, bottom) as tuples of a value and a share -/
def rowD (r : Int × Int × Int) : Dat := .tup [.int r.1, .tup [.int r.2.1, .int r.2.2]]
def rowsD (rows : List (Int × Int × Int)) : Dat := .lst (rows.map rowD)
def wrowD (p : Int × Int) : Dat := .tup [.int p.1, .int p.2]
def wrowsD (ws : Nm.Ws) : Dat := .lst (ws.map wrowD)
theorem rep_lst {H : Hp} {ds : List Dat} {v : V} : Rep H (.lst ds) v ↔ ∃ p vs, v = .ref p ∧ H p = some (.lst vs) ∧ RepL H ds vs := by rw [Rep]
/-- lists and tuples stay -/
def Sqs (H H' : Hp) : Prop := ∀ p xs, (H p = some (.tup xs) → H' p = some (.tup xs)) ∧ (H p = some (.lst xs) → H' p = some (.lst xs))
mutual
theorem Rep.sqs {H H' : Hp} (s : Sqs H H') : ∀ {d : Dat} {v : V}, Rep H d v → Rep H' d v
  | .non, _, h => by rw [Rep] at *; exact h
  | .bl _, _, h => by rw [Rep] at *; exact h
  | .int _, _, h => by rw [Rep] at *; exact h
  | .str _, _, h => by rw [Rep] at *; exact h
  | .tup _, _, h => by
    rw [Rep] at *
    obtain ⟨p, vs, e, hp, r⟩ := h
    exact ⟨p, vs, e, (s _ _).1 hp, RepL.sqs s r⟩
  | .lst _, _, h => by
    rw [Rep] at *
    obtain ⟨p, vs, e, hp, r⟩ := h
    exact ⟨p, vs, e, (s _ _).2 hp, RepL.sqs s r⟩
theorem RepL.sqs {H H' : Hp} (s : Sqs H H') : ∀ {ds : List Dat} {vs : List V}, RepL H ds vs → RepL H' ds vs
  | [], _, h => by rw [RepL] at *; exact h
  | _ :: _, _, h => by
    rw [RepL] at *
    obtain ⟨v, r, e, h1, h2⟩ := h
    exact ⟨v, r, e, Rep.sqs s h1, RepL.sqs s h2⟩
end
theorem none_of {H H' : Hp} (s : Same H H') {p : Addr} (h : H' p = none) : H p = none := by
  cases e : H p with
  | none => rfl
  | some o => rw [s p o e] at h; cases h
end L2
/-! Means and parts of weights; comprehensions that yield numbers and leave the heap. -/
namespace Nm
def mom (ws : Ws) : Int := (ws.map fun p => p.1 * p.2).sum
def abv (n : Int) (ws : Ws) : Int := (ws.map fun p => if n ≤ p.1 then p.2 else 0).sum
end Nm
namespace L2
open PySem PySem.Spec PyProof.Rows
end L2
/-! sum of a dict's values; all, any of truths. -/
namespace L2
open PySem PySem.Spec PyProof.Rows PySem.W
section
variable {X : Cx} {K : PySem.W.Frag}
theorem bools_of : ∀ {us : List Value} {bs : List Bool}, Vals (bs.map V.bl) us → LSm.BoolsAre us bs
  | _, [], .nil => .nil
  | _, b :: bs, .cons r t => by
    have e : _ = Value.bool b := r
    subst e
    exact .cons b (bools_of t)
theorem call_all_l (hc : X.calm = true) : CallR X (.builtin "all") (fun xs H Q => ∃ p bs, xs = [.ref p] ∧ SqL X.K H p (List.map V.bl bs) ∧ Q (.bl (bs.all id)) H) := by
  intro pins s σ H xs us Q I r h
  obtain ⟨p, bs, rfl, hq, q⟩ := h
  obtain ⟨u, rfl, rx⟩ := vals1 r
  cases rx
  obtain ⟨its, rv, pl, hz⟩ := I.list hq
  have hb := bools_of rv
  have hl := pl.isList
  have hlt : p < s.heap.objs.size := by obtain ⟨_, e, _⟩ := hl; exact Heap.lt_size e
  refine call_all_walk (wpAny_pyIter_list hl ?_)
  refine ⟨s.heap.objs.size, [s.heap.objs.size, p], [s.heap.objs.size], its.toArray.size, _, _, fun i => (bs[i]?).getD true, rfl, Walks.list (A := X.A.in1) (I.ok.hd hc) _ p (Nat.ne_of_lt hlt) its.toArray,
    ⟨⟨_, Heap.get?_push_size _ rfl, rfl, rfl⟩, hl.push _⟩, fun i v s' Q' E' hP hQ => ?_, fun h' tk hk => ?_⟩
  · obtain ⟨b, e, rfl⟩ := hb.get i v (by simpa using hP)
    simp only [e, Option.getD_some] at hQ
    exact wpAny_truthy_bool hQ
  · have e : ((List.range its.toArray.size).all fun i => (bs[i]?).getD true) = bs.all id := by
      rw [List.size_toArray, hb.length]; exact LSm.range_all bs
    rw [e]
    exact ⟨.bl _, H, I.kept (t' := tk) (LSm.kept_iter hk), rfl, q⟩
theorem call_all_lK (hc : X.calm = true := by rfl) (hK : X.K = K := by rfl) : CallR X (.builtin "all") (fun xs H Q => ∃ p bs, xs = [.ref p] ∧ SqL K H p (List.map V.bl bs) ∧ Q (.bl (bs.all id)) H) := by subst hK; exact call_all_l hc
/-! ### sum(d.values()) -/
def tSumV (to : TE) : TE := fun σ H Q => to σ H fun v H1 => ∃ d kvs ns, v = .ref d ∧ H1 d = some (.dK kvs) ∧ kvs.map (·.2) = List.map V.int ns ∧ Q (.int ns.sum) H1
/-- values that are no new objects, one name -/
theorem comp_vals {α : Type} {J : It} {tc : TT} {te : TE} {tl : St} {H1 : Hp} {fin : List V → Hp → Prop} {Item : Nat → V → Hp → Hp → Prop} (as : List α) (f : α → Option V) (S : Src J (Same H1) as.length Item) (sub : ∀ i x H H3, Item i x H H3 → H3 = H) (hz : as.length ≤ sizeLine)
    (hs : ∀ i a x, as[i]? = some a → Item i x H1 H1 → ∀ (Y : VK) (N : Hp → Prop), (∀ z, f a = some z → Y z H1) → (f a = none → N H1) → tc (some x :: tl) H1 fun b H5 => if b = true then te (some x :: tl) H5 Y else N H5)
    (hfin : fin (as.filterMap f) H1) : tBlock J (gName 0) tc te (none :: tl) H1 fin := by
  refine block_src S (fun σ => ∃ w0, σ = w0 :: tl) ⟨_, rfl⟩ (fun i ys H => H = H1 ∧ ys = (as.take i).filterMap f) ⟨rfl, by simp⟩ hz ?_ ?_
  · rintro i x σ H ys H3 Q N hi sm ⟨rfl, rfl⟩ hl ⟨w0, rfl⟩ it kq kn
    obtain rfl := sub _ _ _ _ it
    have ea : as[i]? = some as[i] := List.getElem?_eq_getElem hi
    refine hs i _ x ea it _ _ (fun z e => kq _ _ _ ⟨_, rfl⟩ sm ⟨rfl, ?_⟩) (fun e => kn _ _ ⟨_, rfl⟩ sm ⟨rfl, ?_⟩)
    · rw [List.take_add_one, ea, List.filterMap_append]
      simp [e]
    · rw [List.take_add_one, ea, List.filterMap_append]
      simp [e]
  · rintro ys H sm ⟨rfl, rfl⟩ hl
    rw [List.take_of_length_le (Nat.le_refl _)]
    exact hfin
/-- one statement, then the rest, the rest kept apart -/
theorem seq_gen {a b : TS} {D : Ends} {σ : St} {H : Hp} (C : St → Hp → Prop) (hb : ∀ σ' H', C σ' H' → b D σ' H') (ha : ∀ N : St → Hp → Prop, (∀ σ' H', C σ' H' → N σ' H') → a { D with nx := N } σ H) : tSeq a b D σ H := ha _ hb
theorem if_gen {tc : TT} {a b : TS} {D : Ends} {σ : St} {H : Hp} (C1 C2 : Hp → Prop) (h1 : ∀ H', C1 H' → a D σ H') (h2 : ∀ H', C2 H' → b D σ H')
    (ht : ∀ Y N : Hp → Prop, (∀ H', C1 H' → Y H') → (∀ H', C2 H' → N H') → tc σ H fun v H' => if v = true then Y H' else N H') : tIfS tc a b D σ H := ht _ _ h1 h2
end
end L2
namespace Nm
/-- the rows of some weight, and the weights by values that they come to -/
def pos (ps : Ws) : Ws := ps.filter fun p => decide (0 < p.2)
def wof (ps : Ws) : Ws := addAll [] (pos ps)
def bad (ps : Ws) : Prop := (∃ p ∈ ps, p.2 < 0) ∨ pos ps = []
end Nm
/-! Texts: join, startswith, find, split, f-strings; in a module's dict. -/
namespace L2
open PySem PySem.Spec PyProof.Rows PySem.W
section
variable {X : Cx} {K : PySem.W.Frag}
theorem strs_of : ∀ {us : List Value} {ts : List Str}, Vals (ts.map V.str) us → ∃ l : List (Str × Tok), strValues l = us ∧ l.map (·.1) = ts
  | _, [], .nil => ⟨[], rfl, rfl⟩
  | _, x :: ts, .cons r t => by
    obtain ⟨k, rfl⟩ := (r : ∃ k, _ = Value.str x k)
    obtain ⟨l, rfl, rfl⟩ := strs_of t
    exact ⟨(x, k) :: l, rfl, rfl⟩
def rJoin (K : PySem.W.Frag) : V → List V → Hp → VK → Prop := fun x xs H Q => ∃ sep p ts, x = .str sep ∧ xs = [.ref p] ∧ SqL K H p (List.map V.str ts) ∧ JoinOk sep ts = true ∧ Q (.str (Txt.join sep ts)) H
theorem mt_join : MtR X "str.join" (rJoin X.K) := by
  intro pins s σ H x xs v us Q I rx rv h
  obtain ⟨sep, p, ts, rfl, rfl, hq, ok, q⟩ := h
  obtain ⟨t, rfl⟩ := rx
  obtain ⟨u, rfl, ru⟩ := vals1 rv
  cases ru
  obtain ⟨its, r, pl, hz⟩ := I.list hq
  obtain ⟨l, rfl, e2⟩ := strs_of r
  exact SC.join pl.isList e2 ok fun t' k => ⟨.str _, H, I.tok _, ⟨_, rfl⟩, q⟩
theorem mt_joinK (hK : X.K = K := by rfl) : MtR X "str.join" (rJoin K) := by subst hK; exact mt_join
theorem call_str_i : CallR X (.type "str") (fun xs H Q => ∃ i, xs = [.int i] ∧ i.natAbs.log2 < 1920 ∧ Q (.str (toString i)) H) := call_str_int
theorem call_int_b : CallR X (.type "int") (fun xs H Q => ∃ k, xs = [.bl k] ∧ Q (.int (if k then 1 else 0)) H) := by
  intro pins s σ H xs us Q I r h
  exact call_int1 pins s σ H xs us Q I r (.inr h)

/-! ### f-strings -/
abbrev TJ := Str → TE
def PJ (X : Cx) (es : List Expr) (t : TJ) : Prop :=
  ∀ (pins : List (Addr × Obj)) (s : Shared) (σ : St) (H : Hp) (acc : Str) (Q : VK), Inv X pins σ H s → acc.length ≤ sizeLine → t acc σ H Q → wpAny (model X.prog X.w) X.A (joinParts acc (evalEach es X.env)) (EP X pins σ Q) X.xe s
def jNil : TJ := fun acc _ H Q => Q (.str acc) H
def jLit (x : Str) (t : TJ) : TJ := fun acc σ H Q => (acc ++ x).length ≤ sizeLine ∧ t (acc ++ x) σ H Q
def jInt (te : TE) (t : TJ) : TJ := fun acc σ H Q => te σ H fun v H1 => ∃ i, v = .int i ∧ i.natAbs.log2 < 1920 ∧ (acc ++ toString i).length ≤ sizeLine ∧ t (acc ++ toString i) σ H1 Q
def jStr (te : TE) (t : TJ) : TJ := fun acc σ H Q => te σ H fun v H1 => ∃ z, v = .str z ∧ z.length ≤ sizeLine ∧ (acc ++ z).length ≤ sizeLine ∧ t (acc ++ z) σ H1 Q
def tJoined (t : TJ) : TE := fun σ H Q => t Str.empty σ H Q
/-! ### in a module's dict of texts -/
def rInMod (K : PySem.W.Frag) (P : Params) : R2 := fun x y H Q => ∃ z a es n, x = .str z ∧ y = .ref a ∧ K.lookup a = some ⟨.type "dict", none, .dict es n, #[]⟩ ∧ KeysLit P es.toList ∧ (a == sysModules) = false ∧ Q (.bl (findBy Value.isStrOf es z).isSome) H
theorem op_in_mod : OpR X (compareOp .In) (rInMod X.K X.w.params) := by
  intro pins s σ H x y v u Q I rx ry h
  obtain ⟨z, a, es, n, rfl, rfl, hl, hk, lo, q⟩ := h
  obtain ⟨t, rfl⟩ := rx
  cases ry
  exact wpAny_in_of (strKind_is X.prog X.w z t) lo (mapOf_K (prog := X.prog) I.kIn hl hk) ⟨.bl _, H, I.tok _, rfl, q⟩
theorem op_in_modK {w : World} (hK : X.K = K := by rfl) (hw : X.w = w := by rfl) : OpR X (compareOp .In) (rInMod K w.params) := by subst hK hw; exact op_in_mod
def keyS (e : DictEntry) : Str := match e.key with | .str x _ => x | _ => Str.empty
/-- a module's dict with these texts as keys -/
def MDict (K : PySem.W.Frag) (P : Params) (a : Addr) (ks : List Str) : Prop := ∃ es n, K.lookup a = some ⟨.type "dict", none, .dict es n, #[]⟩ ∧ KeysLit P es.toList ∧ (a == sysModules) = false ∧ es.toList.map keyS = ks
theorem keys_find {P : Params} (z : Str) : ∀ {l : List DictEntry}, KeysLit P l → (l.find? fun d => Value.isStrOf z d.key).isSome = (l.map keyS).any fun k => decide (k = z)
  | [], _ => rfl
  | e :: r, ⟨⟨x, t, e1, _⟩, h⟩ => by
    rw [List.find?_cons, List.map_cons, List.any_cons, ← keys_find z h]
    have k : keyS e = x := by unfold keyS; rw [e1]
    have i : Value.isStrOf z e.key = decide (keyS e = z) := by
      rw [k, e1]
      show (x == z) = decide (x = z)
      by_cases c : x = z
      · simp [c]
      · simp [c]
    rw [i]
    by_cases c : keyS e = z
    · simp [c]
    · simp [c]
theorem MDict.rd {P : Params} {a : Addr} {ks : List Str} (h : MDict K P a ks) {z : Str} {H : Hp} {Q : VK} (q : Q (.bl (ks.any fun k => decide (k = z))) H) : rInMod K P (.str z) (.ref a) H Q := by
  obtain ⟨es, n, hl, hk, lo, e⟩ := h
  refine ⟨z, a, es, n, rfl, rfl, hl, hk, lo, ?_⟩
  have f : (findBy Value.isStrOf es z).isSome = ks.any fun k => decide (k = z) := by
    rw [← e, ← keys_find z hk]
    unfold findBy
    obtain ⟨l⟩ := es
    rw [List.find?_toArray]
    cases l.find? fun d => Value.isStrOf z d.key <;> rfl
  rw [f]
  exact q
end
end L2
/-! BOARDS: places as data; what lies apart from a list that grows; slices of lists. -/
namespace L2
open PySem PySem.Spec PyProof.Rows PySem.W
inductive Pl where
  | fin (w : Int × Int) | thr (w : Int × Int) (ws : List (Int × Int)) | pck (who : Int) (to : List Int)
def plD : Pl → Dat
  | .fin w => .tup [.str (Str.ofString "end"), wrowD w]
  | .thr w ws => .tup [.str (Str.ofString "throw"), wrowD w, .lst (ws.map wrowD)]
  | .pck who to => .tup [.str (Str.ofString "pick"), .int who, .lst (to.map .int)]
def brD (b : List Pl) : Dat := .lst (b.map plD)
theorem depth_flat {ds : List Dat} {n : Nat} (h : ∀ d ∈ ds, depth d ≤ n) : depth.dL ds ≤ n := by
  induction ds with
  | nil => rw [depth.dL]; omega
  | cons d ds ih =>
    rw [depth.dL]
    have := h d List.mem_cons_self
    have := ih fun e he => h e (List.mem_cons_of_mem _ he)
    omega
theorem repL_map {α : Type} {H : Hp} {f : α → Dat} {as : List α} {ys : List V} (hl : ys.length = as.length) (h : ∀ (i : Nat) y, ys[i]? = some y → ∀ a, as[i]? = some a → Rep H (f a) y) : RepL H (as.map f) ys :=
  RepL.of (by rw [List.length_map, hl]) fun i d v e1 e2 => by
    rw [List.getElem?_map] at e1
    obtain ⟨a, ea, rfl⟩ := Option.map_eq_some_iff.mp e1
    exact h i v e2 a ea
/-- the heap without one object -/
def hid (H : Hp) (p : Addr) : Hp := fun a => if a = p then none else H a
theorem cut_one {xs : List V} {k : Nat} {x : V} (h : xs[k]? = some x) : cutV xs (some (k : Int)) (some ((k : Int) + 1)) = [x] := by
  have hk := (List.getElem?_eq_some_iff.mp h).1
  unfold cutV
  rw [HT.sIx_nat, show ((k : Int) + 1) = ((k + 1 : Nat) : Int) by omega, HT.sIx_nat, Nat.min_eq_left (by omega), Nat.min_eq_left (by omega), show k + 1 - k = 1 by omega]
  rw [List.drop_eq_getElem_cons hk]
  have e : xs[k] = x := by rw [List.getElem?_eq_getElem hk] at h; exact Option.some.inj h
  rw [e]
  rfl
/-! ### while, by states; comprehensions whose blocks lay objects -/
/-! ### min, max of a list; lists of plain values compared -/
section
variable {X : Cx} {K : PySem.W.Frag}
theorem op_catTK (hK : X.K = K := by rfl) : OpR X (binaryOp .Add) (rCatT K) := by subst hK; exact op_catT
def rEqF : R2 := fun x y H Q => ∃ p q xs ys, x = .ref p ∧ y = .ref q ∧ H p = some (.lst xs) ∧ H q = some (.lst ys) ∧ xs.all flatV = true ∧ ys.all flatV = true ∧ Q (.bl (eqL xs ys)) H
end
end L2
/-! list(reversed(x)), {k: v}, list of a dict. -/
namespace PySem
section
variable {prog : Program} {w : World} {A : Around} {E : Value → Shared → Prop} {s : Shared}
end
end PySem
namespace L2
open PySem PySem.Spec PyProof.Rows PySem.W
section
variable {X : Cx} {K : PySem.W.Frag}
def tRev (K : PySem.W.Frag) (te : TE) : TE := fun σ H Q => te σ H fun v H1 => ∃ p xs, v = .ref p ∧ SqL K H1 p xs ∧ ∀ l, H1 l = none → Q (.ref l) (upd H1 l (.lst xs.reverse))
/-- {k: v} -/
def tD1 (tk tv : TE) : TE := fun σ H Q => ∀ d, H d = none → tk σ (upd H d (.dK [])) fun x H1 => tv σ H1 fun v H2 => ∃ k, x = kV k ∧ H2 d = some (.dK []) ∧ Q (.ref d) (upd H2 d (.dK [(k, v)]))
theorem pe_d1 {ke ve : Expr} {tk tv : TE} {pos : Pos} (hk : PE X ke tk) (hv : PE X ve tv) : PE X (.Dict [some ke] [ve] pos) (tD1 tk tv) := by
  intro pins s σ H Q I h
  refine wpAny_Dict_pairs (knd := mixKind X.prog X.w) (pairs := [(eval ke X.env, do let x ← eval ve X.env; standAt pos; pure x)]) rfl (by simp) (by simp) ?_
  have fr := I.hok.fresh (a := s.heap.objs.size) (Nat.le_refl _)
  have I1 : Inv X pins σ (upd H s.heap.objs.size (.dK [])) { s with heap := s.heap.push { cls := .type "dict", data := .dict #[] } } := I.laid (t' := s.toks) (fun _ _ q => Heap.get?_push_of_some _ q) (Nat.le_refl _) (dk_empty s.heap I.big)
  unfold evalPairs
  refine wpAny_bind (thn (hk pins _ σ _ _ I1 (h _ fr)) fun ku s1 ⟨x, H1, I2, rx, q1⟩ => ?_)
  refine wpAny_bind (wpAny_holding (wpAny_bind (thn (hv pins _ σ _ _ I2 q1) fun vu s2 ⟨v, H2, I3, rv, k, ex, hd, q⟩ => wpAny_bind (wpAny_standAt (wpAny_pure ?_)))))
  subst ex
  obtain ⟨z, lo, vs, kv, dd⟩ := dk_of I3.hok hd
  cases kv
  unfold evalPairs
  refine wpAny_bind (wpAny_holding (wpAny_pure (wpAny_pure ⟨[(k, vu)], ⟨kV_is rx, rfl, trivial⟩, dd, fun h' dd' hs => ?_⟩)))
  have dd' : h'.DictOf (mixKind X.prog X.w) s.heap.objs.size [(k, vu)] := dd'
  have he : ∃ q, h'.get? s.heap.objs.size = some q := let ⟨q, _, _, hq, _⟩ := dd'; ⟨q, hq⟩
  exact ⟨.ref s.heap.objs.size, _, d_write I3 (by rw [hd]; exact True.intro) hs he (dk_new (kvs := [(k, v)]) (by rw [sizeLine_eq]; simp) lo (.cons ⟨rfl, rv⟩ .nil) dd'), rfl, q⟩
end
end L2
/-! TEXTS cut apart, gone through sign by sign, read as numbers. -/
namespace PySem
open Builtin Builtin.Str
section
variable {prog : Program} {w : World} {A : Around} {E : Value → Shared → Prop} {s : Shared} {x y : Str} {t u : Tok} {Q : Value → Shared → Prop}
theorem call_split (hy : (y.length == 0) = false)
    (hq : ∀ l k, l.map (·.1) = Txt.split x y → Q (.ref s.heap.objs.size) { s with heap := s.heap.push { cls := .type "list", data := .seq (strValues l).toArray }, toks := k })
    (hsz : x.length ≤ sizeLine) (hsz2 : (partsBetween x (occurrences x y 0 x.length (x.length + 1)) y.length).length ≤ sizeLine) :
    wpAny (model prog w) A (call (.builtin "str.split") [.str x t, .str y u]) Q E s := by
  cases h1 : (decide (x.length < y.length) || decide (Builtin.Str.strKind x < Builtin.Str.strKind y))
  · cases hf : (occurrences x y 0 x.length (x.length + 1)).isEmpty
    · refine call_meets F.slot_str_split (typeIs_str _ _ _) F.entry_str_split (F.args_str_split_2 _ _) (meets_str_split_sep x y t u h1 hy hf hsz hsz2) ?_
      show wants Q E _ { s with toks := _, heap := s.heap.push { cls := .type "list", data := .seq (strsFrom s.toks (partsBetween x (occurrences x y 0 x.length (x.length + 1)) y.length)).toArray } }
      rw [strsFrom_eq]
      exact hq (numbered s.toks _) _ ((numbered_texts _ _).trans ((if_neg (ne_true_of_eq_false h1)).trans (if_neg (ne_true_of_eq_false hf))).symm)
    · exact call_meets F.slot_str_split (typeIs_str _ _ _) F.entry_str_split (F.args_str_split_2 _ _) (meets_str_split_not_found x y t u h1 hy hf)
        (hq [(x, t)] s.toks ((if_neg (ne_true_of_eq_false h1)).trans (if_pos hf)).symm)
  · exact call_meets F.slot_str_split (typeIs_str _ _ _) F.entry_str_split (F.args_str_split_2 _ _) (meets_str_split_cannot_occur x y t u h1)
      (hq [(x, t)] s.toks (if_pos h1).symm)
end
theorem cut_inj {c : Nat} : ∀ {a b r q : List Nat}, c ∉ a → c ∉ b → a ++ c :: r = b ++ c :: q → a = b ∧ r = q
  | [], [], r, q, _, _, h => by simp at h; exact ⟨rfl, h⟩
  | [], y :: b, r, q, _, hb, h => by simp at h; exact absurd (h.1 ▸ List.mem_cons_self) hb
  | x :: a, [], r, q, ha, _, h => by simp at h; exact absurd (h.1 ▸ List.mem_cons_self) ha
  | x :: a, y :: b, r, q, ha, hb, h => by
    simp only [List.cons_append, List.cons.injEq] at h
    obtain ⟨e1, e2⟩ := cut_inj (fun m => ha (List.mem_cons_of_mem _ m)) (fun m => hb (List.mem_cons_of_mem _ m)) h.2
    exact ⟨by rw [h.1, e1], e2⟩
theorem str_ext {a b : Str} (h : a.cps.toList = b.cps.toList) : a = b := by
  cases a; cases b
  congr 1
  exact Array.toList_inj.mp h
theorem join_cons (c : Nat) (x y : Str) (r : List Str) : (Str.join ⟨#[c]⟩ (x :: y :: r)).cps.toList = x.cps.toList ++ c :: (Str.join ⟨#[c]⟩ (y :: r)).cps.toList := by
  show (x ++ ⟨#[c]⟩ ++ Str.join ⟨#[c]⟩ (y :: r)).cps.toList = _
  simp only [Str.cps_append, Array.toList_append, List.append_assoc]
  rfl
end PySem
namespace L2
open PySem PySem.Spec PyProof.Rows PySem.W
section
variable {X : Cx} {K : PySem.W.Frag}
theorem strVals : ∀ (l : List (Str × Tok)), Vals (List.map V.str (l.map (·.1))) (strValues l)
  | [] => .nil
  | p :: l => .cons ⟨p.2, rfl⟩ (strVals l)
theorem parts_len (x y : Str) : (Builtin.Str.partsBetween x (Builtin.Str.occurrences x y 0 x.length (x.length + 1)) y.length).length ≤ x.length + 2 := by
  have := StrLaws.occ_length_le x y 0 x.length (x.length + 1)
  unfold Builtin.Str.partsBetween
  simp only [List.length_map, List.length_zip, List.length_cons, List.length_append, List.length_singleton]
  omega
theorem mt_split : MtR X "str.split" (fun x xs H Q => ∃ z c, x = .str z ∧ xs = [.str ⟨#[c]⟩] ∧ z.length ≤ 1000000 ∧ ∀ l, H l = none → Q (.ref l) (upd H l (.lst (List.map V.str (Txt.split z ⟨#[c]⟩))))) := by
  intro pins s σ H x xs v us Q I rx rv h
  obtain ⟨z, c, rfl, rfl, hz, q⟩ := h
  obtain ⟨t, rfl⟩ := rx
  obtain ⟨u, rfl, ru⟩ := vals1 rv
  obtain ⟨t2, rfl⟩ := ru
  have pl := parts_len z ⟨#[c]⟩
  have sl := sizeLine_eq
  have fr := I.hok.fresh (a := s.heap.objs.size) (Nat.le_refl _)
  refine call_split rfl (fun l k e => ?_) (by omega) (by omega)
  have lv := strVals l
  rw [e] at lv
  have ll := lv.length
  rw [List.length_map] at ll
  refine ⟨.ref s.heap.objs.size, _, I.laid (t' := k) (fun b o e => Heap.get?_push_of_some _ e) (Nat.le_refl _) (o := .lst (List.map V.str (Txt.split z ⟨#[c]⟩))) ⟨?_, strValues l, 0, lv, ?_⟩, rfl, q _ fr⟩
  · rw [List.length_map]
    have : (Txt.split z ⟨#[c]⟩).length ≤ z.length + 2 := by
      unfold Txt.split
      split
      · simp
      · split
        · simp
        · exact pl
    omega
  · exact Heap.get?_push_size _ rfl
/-- int(text) -/
theorem call_int_s : CallR X (.type "int") (fun xs H Q => ∃ z n, xs = [.str z] ∧ z.length ≤ 640 ∧ PySem.intText? z = some n ∧ Q (.int n) H) := by
  intro pins s σ H xs us Q I r h
  obtain ⟨z, n, rfl, hl, hn, q⟩ := h
  obtain ⟨u, rfl, t, rfl⟩ := vals1 r
  exact PySem.W.KIN.call_text hn hl ⟨.int n, H, I.tok _, ⟨_, rfl⟩, q⟩
theorem call_lenS : CallR X (.builtin "len") (fun xs H Q => ∃ z, xs = [.str z] ∧ z.length ≤ sizeLine ∧ Q (.int z.length) H) := call_len_str
/-- the signs of a text -/
def Its (z : Str) : It := ⟨fun i _ => i < z.cps.size, fun i H x H' => H' = H ∧ ∃ c, z.cps[i]? = some c ∧ x = .str ⟨#[c]⟩, fun i _ => z.cps.size ≤ i⟩
theorem turn_str {P : Program} {w : World} {tg : Expr} (z : Str) (t : Tok) (it : Addr) : Turn P w K tg (Its z) [it] it (fun i h => h.IsStrIter it "str_ascii_iterator" z t i) where
  mem := by simp
  obj := fun i h st b hb => by
    have e : b = it := by simpa using hb
    subst e
    obtain ⟨o, e, c, d⟩ := st
    exact ⟨o, e, fun v z => by rw [d] at z; cases z⟩
  keep := fun i h h' st k => let ⟨o, e, r⟩ := st; ⟨o, k it (by simp) o e, r⟩
  item := by
    intro X hP hw hK hc i pins s σ H E I hf st hg
    subst hP hw hK
    obtain ⟨f0, f1, f2, f3, f4, f5⟩ := hf it (by simp)
    have hg : i < z.cps.size := hg
    refine wpAny_pyNext_ascii_item st (c := z.cps[i]) (by simp [hg]) fun h' st' sb => ?_
    have I1 : Inv X pins σ H { s with heap := h', toks := s.toks + 1 } := I.turned (t' := s.toks + 1) (fun b o hb e => (sb.2 b hb).trans e) f0 f1 f3 f4 f5
    obtain ⟨o, e, c, d⟩ := id st'
    exact ⟨_, rfl, go_of (s := { s with heap := h', toks := s.toks + 1 }) e c d (by decide) ⟨.str ⟨#[z.cps[i]]⟩, H, I1, ⟨_, rfl⟩, ⟨rfl, _, by simp [hg], rfl⟩, st', fun b hb => (hf b hb).1⟩⟩
  done := by
    intro X hP hw hK hc i pins s σ H E I hf st hg
    subst hP hw hK
    obtain ⟨f0, f1, f2, f3, f4, f5⟩ := hf it (by simp)
    have hg : z.cps.size ≤ i := hg
    exact wpAny_pyNext_ascii_end (I.ok.hd hc) st (by simp [hg]) fun h' eb => ⟨rfl, I.turned (t' := s.toks) (fun b o hb e => eb b o hb e) f0 f1 f3 f4 f5⟩
  self := fun _ _ _ _ _ st h => wpAny_pyIter_striter_ascii st h
def iStr (tl : TE) : TI := fun σ H R => tl σ H fun x H1 => ∃ z, x = .str z ∧ z.cps.all (· < 128) = true ∧ R (Its z) H1
theorem pi_str {tg l : Expr} {tl : TE} (hl : PE X l tl) : PI X tg l (iStr tl) := by
  intro pins s σ H R I h
  refine thn (hl pins s σ H _ I h) fun v s1 ⟨x, H1, I1, r1, q1⟩ => ?_
  obtain ⟨z, e, ha, q⟩ := q1
  subst e
  obtain ⟨t, rfl⟩ := r1
  refine wpAny_pyIter_ascii ha ?_
  refine ⟨s1.heap.objs.size, [s1.heap.objs.size], _, _, H1, rfl, I1.kept (t' := s1.toks) fun b o e => Heap.get?_push_of_some _ e, turn_str z t _, ⟨_, Heap.get?_push_size _ rfl, rfl, rfl⟩, fun b hb => ?_, q⟩
  have e : b = s1.heap.objs.size := by simpa using hb
  subst e
  exact I1.fpOk (Nat.le_refl _) (I1.hok.fresh (Nat.le_refl _))
theorem src_str {z : Str} {Ok : Hp → Prop} : Src (Its z) Ok z.cps.size (fun i x H H3 => H3 = H ∧ ∃ c, z.cps[i]? = some c ∧ x = .str ⟨#[c]⟩) where
  go := fun i H hi _ => hi
  yld := fun i H x H3 hi _ y => y
  stop := fun H _ => Nat.le_refl _
theorem pe_globI {x : Str} {i : Int} {pos : Pos} (hg : Gl X x) (h : ∃ t, X.mg x = some (.int i t)) (hd : (x == ("__debug__" : Str)) = false := by decide) : PE X (.Name x pos) (tC (.int i)) := by
  obtain ⟨t, h⟩ := h
  exact pe_glob hg h ⟨t, rfl⟩ hd
theorem pe_globS {x : Str} {i : Str} {pos : Pos} (hg : Gl X x) (h : ∃ t, X.mg x = some (.str i t)) (hd : (x == ("__debug__" : Str)) = false := by decide) : PE X (.Name x pos) (tC (.str i)) := by
  obtain ⟨t, h⟩ := h
  exact pe_glob hg h ⟨t, rfl⟩ hd
theorem ix_strH : IxR X rIxS := ix_str
/-- z[lo:hi] of a text -/
def rSlS : V → Option Int → Option Int → Hp → VK → Prop := fun x lo hi H Q => ∃ z, x = .str z ∧ z.length ≤ sizeLine ∧ Q (.str (Txt.slice z lo hi)) H
theorem part_of {v : Value} {o : Option Int} (h : IsPart v o) : ∃ p : Option (Int × Tok), v = partValue p ∧ p.map (·.1) = o := by
  cases h with
  | none => exact ⟨none, rfl, rfl⟩
  | int i t => exact ⟨some (i, t), rfl, rfl⟩
theorem sl_strH : SlR X rSlS := by
  intro pins s σ H x v vl vu lo hi sl Q I rx hs pl pu h
  obtain ⟨z, rfl, hz, q⟩ := h
  obtain ⟨t, rfl⟩ := rx
  obtain ⟨l, rfl, rfl⟩ := part_of pl
  obtain ⟨u, rfl, rfl⟩ := part_of pu
  refine ⟨"str", _, PySem.F.slot_str_getitem.lookup, typeIs_str _ _ _, ?_⟩
  refine wpAny_getItem_str_slice (l := l) (u := u) (st := none) hs rfl (post_val_or_str ⟨Nat.le_trans (Txt.slice_le z _ _) hz, fun t' k => ?_⟩)
  exact ⟨.str _, H, I.tok _, ⟨_, rfl⟩, q⟩
end
end L2
namespace PySem
theorem slice_sub {z : Str} {l u : Option Int} : ∀ c ∈ (Txt.slice z l u).cps.toList, c ∈ z.cps.toList := by
  intro c hc
  unfold Txt.slice at hc
  split at hc
  · exact hc
  · obtain ⟨i, _, hi⟩ := List.mem_filterMap.mp hc
    rw [← Array.getElem?_toList] at hi
    exact List.mem_of_getElem? hi
end PySem
/-! TEXTS cut apart by " + "; a module's dict of tuples read by []; tuples put together. -/
namespace PySem
open Builtin Builtin.Str StrLaws
abbrev PLUS : Str := ⟨#[32, 43, 32]⟩
end PySem
namespace L2
open PySem PySem.Spec PyProof.Rows PySem.W
section
variable {X : Cx} {K : PySem.W.Frag}
/-- z.split(y), y not empty -/
theorem mt_splitY : MtR X "str.split" (fun x xs H Q => ∃ z y, x = .str z ∧ xs = [.str y] ∧ (y.length == 0) = false ∧ z.length ≤ 1000000 ∧ ∀ l, H l = none → Q (.ref l) (upd H l (.lst (List.map V.str (Txt.split z y))))) := by
  intro pins s σ H x xs v us Q I rx rv h
  obtain ⟨z, c, rfl, rfl, hy, hz, q⟩ := h
  obtain ⟨t, rfl⟩ := rx
  obtain ⟨u, rfl, ru⟩ := vals1 rv
  obtain ⟨t2, rfl⟩ := ru
  have pl := parts_len z c
  have sl := sizeLine_eq
  have fr := I.hok.fresh (a := s.heap.objs.size) (Nat.le_refl _)
  refine call_split hy (fun l k e => ?_) (by omega) (by omega)
  have lv := strVals l
  rw [e] at lv
  have ll := lv.length
  rw [List.length_map] at ll
  refine ⟨.ref s.heap.objs.size, _, I.laid (t' := k) (fun b o e => Heap.get?_push_of_some _ e) (Nat.le_refl _) (o := .lst (List.map V.str (Txt.split z c))) ⟨?_, strValues l, 0, lv, ?_⟩, rfl, q _ fr⟩
  · rw [List.length_map]
    have : (Txt.split z c).length ≤ z.length + 2 := by
      unfold Txt.split
      split
      · simp
      · split
        · simp
        · exact pl
    omega
  · exact Heap.get?_push_size _ rfl
/-- D[z], D a module's dict, z one of its texts -/
def tMGet (K : PySem.W.Frag) (P : Params) (td ty : TE) : TE := fun σ H Q => td σ H fun x H1 => ty σ H1 fun y H2 => ∃ z a p es n, x = .ref a ∧ y = .str z ∧ K.lookup a = some ⟨.type "dict", none, .dict es n, #[]⟩ ∧ KeysLit P es.toList ∧ PySem.W.nsIn K a z = some (some (.ref p)) ∧ Q (.ref p) H2
theorem pe_mget {w : World} {o i : Expr} {pos : Pos} {td ty : TE} (ho : PE X o td) (hi : PE X i ty) (hs : NoSl i) (hK : X.K = K := by rfl) (hw : X.w = w := by rfl) : PE X (.Subscript o i pos) (tMGet K w.params td ty) := by
  subst hK hw
  intro pins s σ H Q I h
  refine subD_of PySem.F.slot_dict_getitem.lookup hs (thn (ho pins s σ H _ I h) fun u s1 ⟨x, H1, I1, rx, q1⟩ => thn (hi pins s1 σ H1 _ I1 q1) fun iv s2 ⟨y, H2, I2, ry, z, a, p, es, n, ex, ey, hl, hk, e, q2⟩ => ?_)
  subst ex ey
  obtain rfl : u = Value.ref a := rx
  obtain ⟨t, rfl⟩ := ry
  have hm := mapOf_K (prog := X.prog) I2.kIn hl hk
  exact ⟨hm.typeIs, wpAny_getItem_of (strKind_is X.prog X.w z t) hm (find_K hl e) ⟨.ref p, H2, I2.tok _, rfl, q2⟩⟩
def rNotMod (K : PySem.W.Frag) (P : Params) : R2 := fun x y H Q => ∃ z a es n, x = .str z ∧ y = .ref a ∧ K.lookup a = some ⟨.type "dict", none, .dict es n, #[]⟩ ∧ KeysLit P es.toList ∧ (a == sysModules) = false ∧ Q (.bl (!(findBy Value.isStrOf es z).isSome)) H
theorem op_notin_modK {w : World} (hK : X.K = K := by rfl) (hw : X.w = w := by rfl) : OpR X (compareOp .NotIn) (rNotMod K w.params) := by
  subst hK hw
  intro pins s σ H x y v u Q I rx ry h
  obtain ⟨z, a, es, n, rfl, rfl, hl, hk, lo, q⟩ := h
  obtain ⟨t, rfl⟩ := rx
  cases ry
  exact wpAny_notIn_of (strKind_is X.prog X.w z t) lo (mapOf_K (prog := X.prog) I.kIn hl hk) ⟨.bl _, H, I.tok _, rfl, q⟩
theorem MDict.rdN {P : Params} {a : Addr} {ks : List Str} (h : MDict K P a ks) {z : Str} {H : Hp} {Q : VK} (q : Q (.bl (!(ks.any fun k => decide (k = z)))) H) : rNotMod K P (.str z) (.ref a) H Q := by
  obtain ⟨z', a', es, n, e1, e2, hl, hk, lo, q'⟩ := MDict.rd h (z := z) (H := H) (Q := fun v H' => ∀ b, v = .bl b → Q (.bl (!b)) H') (fun b e => by cases e; exact q)
  cases e1
  cases e2
  exact ⟨z, a, es, n, rfl, rfl, hl, hk, lo, q' _ rfl⟩
theorem ix_tupQK (hK : X.K = K := by rfl) : IxR X (rIxT K) := by subst hK; exact ix_tup
/-- one row of a module's dict of tuples of two numbers -/
def MRow (K : PySem.W.Frag) (a : Addr) (z : Str) (i j : Int) : Prop := ∃ p, PySem.W.nsIn K a z = some (some (.ref p)) ∧ ∃ dd n sl t u, K.lookup p = some ⟨.type "tuple", dd, .seq #[.int i t, .int j u] n, sl⟩
theorem MRow.rd {P : Params} {a : Addr} {ks : List Str} {z : Str} {i j : Int} (r : MRow K a z i j) (h : MDict K P a ks) : ∃ p es n, K.lookup a = some ⟨.type "dict", none, .dict es n, #[]⟩ ∧ KeysLit P es.toList ∧ PySem.W.nsIn K a z = some (some (.ref p)) ∧ ∀ H, SqT K H p [.int i, .int j] := by
  obtain ⟨p, e, dd, n1, sl, t, u, hp⟩ := r
  obtain ⟨es, n, hl, hk, _, _⟩ := h
  exact ⟨p, es, n, hl, hk, e, fun H => .inr ⟨_, _, n1, hp, rfl, rfl, (show 2 ≤ sizeLine by decide), .cons ⟨t, rfl⟩ (.cons ⟨u, rfl⟩ .nil)⟩⟩
end
end L2
/-! EXCEPTIONS that come out of a comprehension's block. -/
namespace PySem
section
variable {M : Model} {A : Around} {E : Value → Shared → Prop} {s : Shared} {env : Env}
/-- a comprehension's own names are let go, whether it ends well or not -/
theorem comp_errs {e : Expr} {scope : Scope} {pos : Pos} {newAcc first : Sem Value} {g : Comprehension} {gs : List Comprehension} {cl : List (Str × Addr)} {Q : Value → Shared → Prop}
    (h1 : clausesOf e = g :: gs) (h2 : ∀ x, foldedSetIterable g.iter env x = pure x) (h3 : closureFor scope env = pure cl) (h4 : scope.kind = .function) (h5 : ∀ x ∈ scope.names, x.2 = .local → scope.names.lookup x.1 = some .local)
    (h : wpAny M A first (fun x t1 => wpAny M A (pyIter x) (fun it t2 => wpAny M A newAcc (fun acc t3 => wpAny M A (newFunctionEnv scope env.globals cl [] env.qual none .none (some env)) (fun ce t4 =>
        codeAny M A (.compStart e 0 it acc { ce with scope := relabel scope env }) (fun r t => ∃ m, t.heap.Ns ce.locals m ∧ ∀ h', Heap.SameBut ce.locals t.heap h' → match r with
          | .ok _ => Q acc { t with heap := h' }
          | .error x => wpAny M A (passOn "comprehension.variables-let-go" x { ce with scope := relabel scope env } : Sem Value) (fun _ _ => False) E { t with heap := h' }) t4) E t3) E t2) E t1) E s) :
    wpAny M A (comprehension e scope env pos newAcc false first none) Q E s := by
  unfold comprehension
  rw [h3, h1]
  refine wpAny_bind (wpAny_mono h (fun x t1 a1 => ?_) fun _ _ y => y)
  refine wpAny_bind (wpAny_standAt ?_)
  refine wpAny_bind (wpAny_of_eq (h2 x) ?_)
  refine wpAny_bind (wpAny_holding (wpAny_mono a1 (fun it t2 a2 => ?_) fun _ _ y => y))
  refine wpAny_standIf (wpAny_bind (wpAny_mono a2 (fun acc t3 a3 => ?_) fun _ _ y => y))
  refine wpAny_bind (wpAny_pure (wpAny_bind (wpAny_mono a3 (fun ce t4 a4 => ?_) fun _ _ y => y)))
  dsimp only
  have own : ∀ x ∈ (scope.names.filter fun y => (y.2 == .local || y.2 == .cell) && y.1 != (".0" : Str)).reverse, x.2 = .local → Env.kindOf { ce with scope := relabel scope env } x.1 = some .local := by
    intro x hx hl
    have hm := (List.mem_filter.mp (List.mem_reverse.mp hx)).1
    exact lookup_relabel_local (h5 x hm hl)
  refine wpAny_holding (wpAny_bind (wpAny_attempt (wpAny_holding (wpAny_run (codeAny_mono a4 fun r t hr => ?_)))))
  obtain ⟨m, hn, hq⟩ := hr
  cases r with
  | ok fl =>
    refine wpAny_bind (wpAny_holding (wpAny_comp_letGo (cenv := { ce with scope := relabel scope env }) h4 _ t m own hn fun h' m' _ sb => ?_))
    exact wpAny_pure (hq h' sb)
  | error x =>
    refine wpAny_bind (wpAny_holding (wpAny_comp_letGo (cenv := { ce with scope := relabel scope env }) h4 _ t m own hn fun h' m' _ sb => ?_))
    exact wpAny_mono (hq h' sb) (fun _ _ z => False.elim z) fun _ _ y => y
end
end PySem
namespace L2
open PySem PySem.Spec PyProof.Rows PySem.W
theorem note_same {x : Value} {e1 e2 : Env} (h : e1.frame = e2.frame) : noteFrame x e1 = noteFrame x e2 := by
  unfold noteFrame PySem.frameOf
  simp only [h]
theorem frames_but {C : Addr} {h h' base : Heap} (sb : Heap.SameBut C h h') : ∀ {l : List Env}, h.FunFrames base l → C ∉ frs l → h'.FunFrames base l
  | [], _, _ => trivial
  | en :: r, ⟨a1, ⟨L, o, b1, b2, b3, b4⟩, a3⟩, n => by
    have e : frs (en :: r) = L :: frs r := by unfold frs; rw [List.filterMap_cons, b1]
    rw [e] at n
    refine ⟨a1, ⟨L, o, b1, b2, (sb.2 L fun z => n (by rw [z]; exact List.mem_cons_self)).trans b3, b4⟩, ?_⟩
    exact frames_but sb a3 fun z => n (List.mem_cons_of_mem _ z)
section
variable {M : Model} {A : Around} {E : Value → Shared → Prop} {s : Shared} {B : Heap} {l : List Env} {ad L : Addr} {cls a0 : Value}
theorem pass_held {what : String} {ce : Env} {Q : Value → Shared → Prop} (hh : Heap.HeldW B l ad cls a0 L s.heap) (hf : ce.frame = some L)
    (k : ∀ h', Heap.HeldW B l ad cls a0 L h' → s.heap.UpToSlots h' → E (.ref ad) { s with heap := h' }) : wpAny M A (PySem.passOn what (.ref ad) ce : Sem Value) Q E s := by
  obtain ⟨st, na, ff, oe, vs, T, oT, ts, g1, g2, g3, g4, g5, g6, g7, g8, g9⟩ := id hh
  have sz : 3 < ts.size := (Array.getElem?_eq_some_iff.mp g9).1
  unfold PySem.passOn
  refine wpAny_bind (wpAny_field g1 g3 g4 ?_)
  have nz : ¬ (Value.ref T == Value.none) = true := by simp
  rw [if_neg nz, hf]
  have ot : ∀ {f : Obj → Obj} b, b ≠ T → (s.heap.update T f).get? b = s.heap.get? b := fun b hb => Heap.get?_update_other _ _ (Ne.symm hb)
  have nr : ∀ b o, s.heap.get? b = some o → (∀ us, o.data ≠ .fields us) → b ≠ T := fun b o e nf z => by
    rw [z, g7] at e
    cases e
    exact nf ts g8
  have fin : wpAny M A (setFlight (.ref ad) (some L)) (fun _ s1 => wpAny M A (throw (.ref ad) : Sem Value) Q E s1) E s := by
    unfold setFlight
    refine wpAny_bind (wpAny_field g1 g3 g4 ?_)
    have yz : (Value.ref T != Value.none) = true := by simp
    rw [if_pos yz]
    refine wpAny_setField g7 g8 sz (wpAny_throw (k _ ⟨fun b o e => ?_, na, ?_, ?_⟩ fun b o e nf => ?_))
    · refine (ot b fun z => ?_).trans (st b o e)
      rw [z, g5] at e
      cases e
    · exact Heap.FunFrames.of_keeps (fun b o e nf => ⟨o, (ot b (nr b o e nf)).trans e, rfl⟩) ff
    · exact ⟨oe, vs, T, _, _, (ot ad (Ne.symm g6)).trans g1, g2, g3, g4, g5, g6, Heap.get?_update_self _ g7 (Obj.isFreed_of_fields (Obj.data_mapFields g8 _)), Obj.data_mapFields g8 _, by simp [sz]⟩
    · exact ⟨o.slots, (ot b (nr b o e nf)).trans e⟩
  first
    | exact wpAny_bind (wpAny_pure (wpAny_bind fin))
    | exact wpAny_bind fin
theorem leave_held {en : Env} {r : List Env} {Q : Unit → Shared → Prop} (hf : en.frame = some L) (hh : Heap.HeldW B (en :: r) ad cls a0 L s.heap)
    (k : ∀ h', Heap.FlyingW B r ad cls a0 h' → s.heap.UpToSlots h' → Q () { s with heap := h' }) : wpAny M A (leaving en (.ref ad)) Q E s := by
  have lands : wpAny M A (setFlight (.ref ad) none) Q E s := wpAny_landsW hh fun h' fl up => by
    obtain ⟨p1, p2, p3, p4⟩ := fl
    exact k h' ⟨p1, p2, p3.2.2, p4⟩ up
  unfold leaving
  exact wpAny_bind (wpAny_noteFrame_againW hf hh.2.2.2 lands)
end
section
variable {P : Program} {w : World} {K : PySem.W.Frag} {mg : Str → Option Value} {base : Heap} {N : List Str} {qual : Str} {scope : Scope} {f : Addr} {cdv : Value} {A : Around} {outer : List Env} {s0 : Shared} {H0 : Hp} {E : XK}
/-- an exception comes out of a block -/
theorem comp_fly {N' : List Str} {scp : Scope} {cl : List (Str × Addr)} {C : Addr} {fp : List Addr} {pinsD pins4 : List (Addr × Obj)} {σD σ4 : St} {H2 H4 H' : Hp} {s2 s4 s' : Shared} {ad : Addr} {cls : Value} {QE : Value → Shared → Prop} {ce : Env}
    (I2 : Inv (cxOf (CX1 P w) P w K mg base N qual scope f cdv A outer s0 H0 E) pinsD σD H2 s2) (hC : s2.heap.objs.size < C) (f2 : ∀ b ∈ fp, FpOk (cxOf (CX1 P w) P w K mg base N qual scope f cdv A outer s0 H0 E) pinsD H2 b)
    (I4 : Inv (cxC (cxOf (CX1 P w) P w K mg base N qual scope f cdv A outer s0 H0 E) N' scp cl C s2 H2 fp) pins4 σ4 H4 s4) (F : Fly P w (envOfC qual scope s0.heap.objs.size f cdv :: outer) H4 s4 H' ad cls s') (he : E cls none H')
    (hce : ce.frame = some s0.heap.objs.size) :
    wpAny (model P w) (A.deeper (envOfC qual scope s0.heap.objs.size f cdv)) (noteFrame (.ref ad) (compEnvC scp cl C (envOfC qual scope s0.heap.objs.size f cdv)))
      (fun _ s5 => ∃ m, s5.heap.Ns C m ∧ ∀ h', Heap.SameBut C s5.heap h' → wpAny (model P w) (A.deeper (envOfC qual scope s0.heap.objs.size f cdv)) (PySem.passOn "comprehension.variables-let-go" (.ref ad) ce : Sem Value) (fun _ _ => False)
        (cxOf (CX1 P w) P w K mg base N qual scope f cdv A outer s0 H0 E).xe { s5 with heap := h' }) QE s' := by
  generalize hen : envOfC qual scope s0.heap.objs.size f cdv = en at *
  have hef : en.frame = some s0.heap.objs.size := by rw [← hen]; rfl
  have fre : frs (en :: outer) = s0.heap.objs.size :: frs outer := by unfold frs; rw [List.filterMap_cons, hef]
  have D0 : Un (frs outer) [] H0 H2 s0.heap s2.heap := I2.base
  have D2 : Un (frs (en :: outer)) fp H2 H4 s2.heap s4.heap := by rw [← hen]; exact I4.base
  have D4 : Un (frs (en :: outer)) [] H4 H' s4.heap s'.heap := F.un
  have ST : s2.heap.FunFrames base (en :: outer) := by rw [← hen]; exact I2.stack
  have nin : ∀ b o, s0.heap.get? b = some o → b ∉ frs outer → b ∉ frs (en :: outer) := fun b o q hb z => by
    rw [fre] at z
    rcases List.mem_cons.mp z with z | z
    · rw [z] at q
      exact absurd (Heap.lt_size q) (Nat.lt_irrefl _)
    · exact hb z
  have nfp : ∀ b o, s0.heap.get? b = some o → b ∉ fp := fun b o q z => by
    rcases (f2 b z).2.2.2.1 with m | m
    · exact absurd (show b ∈ ([] : List Addr) from m) (by simp)
    · exact absurd (Heap.lt_size q) (Nat.not_lt.mpr m)
  have nfr : ∀ b ∈ frs (en :: outer), b ∉ fp := fun b hb z => by
    have q := (f2 b z)
    rw [fre] at hb
    rcases List.mem_cons.mp hb with e | e
    · exact q.2.1 (by rw [e]; rfl)
    · exact q.2.2.1 e
  have frT : ∀ b ∈ frs (en :: outer), ∃ o, s2.heap.get? b = some o ∧ (∀ us, o.data ≠ .fields us) := fun b hb => by
    obtain ⟨_, o, q, nf⟩ := ST.mem hb
    exact ⟨o, q, nf⟩
  have nCf : C ∉ frs (en :: outer) := fun z => by
    obtain ⟨o, q, _⟩ := frT C z
    exact absurd (Nat.lt_trans (Heap.lt_size q) hC) (Nat.lt_irrefl _)
  have fr4 : ∀ b ∈ frs (en :: outer), H2 b = none := fun b hb => I2.stkFree b (by show b ∈ frs (envOfC qual scope s0.heap.objs.size f cdv :: outer); rw [hen]; exact hb)
  obtain ⟨B, a0, fl, c0, c2, c1⟩ := F.fl
  obtain ⟨m4, hn4, _⟩ := I4.loc
  obtain ⟨oC, es, ep, hoC, dC, rC⟩ := hn4
  have hoC : s4.heap.get? C = some oC := hoC
  have nC4 : H4 C = none := I4.free
  have hC' : s'.heap.get? C = some oC := D4.keep C oC hoC nC4 nCf (by simp)
  have nC' : H' C = none := D4.free C oC hoC nC4 (by simp)
  have inB : ∀ b o, (hideAll B [C]).get? b = some o → B.get? b = some o ∧ b ≠ C := fun b o q => ⟨of_hideAll _ q, fun z => by
    rw [z, hideAll_none [C] List.mem_cons_self] at q
    cases q⟩
  have toB : ∀ b o, B.get? b = some o → b ≠ C → (hideAll B [C]).get? b = some o := fun b o q n => hideAll_get _ q (by simpa using n)
  have fl : Heap.FlyingW (hideAll B [C]) (en :: outer) ad cls a0 s'.heap := flyingW_base (fun b o q => (inB b o q).1) fl
  rw [note_same (e2 := en) (show (compEnvC scp cl C en).frame = en.frame from rfl)]
  refine wpAny_looks_onW (L := s0.heap.objs.size) (by rw [← hen]; exact I2.ok.frames) hef fl fun h5 held5 up5 => ?_
  have ns5 : h5.Ns C m4 := up5.ns ⟨oC, es, ep, hC', dC, rC⟩
  refine ⟨m4, ns5, fun h6 sb6 => ?_⟩
  have held6 : Heap.HeldW (hideAll B [C]) (en :: outer) ad cls a0 s0.heap.objs.size h6 := by
    obtain ⟨q1, q2, q3, oe, vs, T, oT, ts, g1, g2, g3, g4, g5, g6, g7, g8, g9⟩ := held5
    obtain ⟨o5, es5, ep5, e5, d5, _⟩ := ns5
    have nad : ad ≠ C := fun z => by
      rw [z, e5] at g1
      cases g1
      rw [d5] at g3
      cases g3
    have nT : T ≠ C := fun z => by
      rw [z, e5] at g7
      cases g7
      rw [d5] at g8
      cases g8
    exact ⟨fun b o q => (sb6.2 b (inB b o q).2).trans (q1 b o q), q2, frames_but sb6 q3 nCf, oe, vs, T, oT, ts, (sb6.2 ad nad).trans g1, g2, g3, g4, g5, g6, (sb6.2 T nT).trans g7, g8, g9⟩
  refine pass_held held6 hce fun h7 held7 up7 => ?_
  show wpAny (model P w) (A.deeper (envOfC qual scope s0.heap.objs.size f cdv)) (leaving (envOfC qual scope s0.heap.objs.size f cdv) (.ref ad)) (fun _ s'' => CX1 P w outer H0 s0 E (.ref ad) s'') (fun e' s'' => CX1 P w outer H0 s0 E e' s'') _
  rw [hen]
  refine leave_held hef held7 fun h8 fl8 up8 => ?_
  -- a frame's object, through all of it
  have fr8 : ∀ b ∈ frs (en :: outer), ∀ o, s'.heap.get? b = some o → (∀ us, o.data ≠ .fields us) → ∃ sl, h8.get? b = some { o with slots := sl } := fun b hb o q nf => by
    have nb : b ≠ C := fun z => nCf (by rw [← z]; exact hb)
    obtain ⟨x1, q1⟩ := up5 b o q nf
    have q2 := (sb6.2 b nb).trans q1
    obtain ⟨x3, q3⟩ := up7 b _ q2 nf
    obtain ⟨x4, q4⟩ := up8 b _ q3 nf
    exact ⟨x4, q4⟩
  have slot : ∀ b o, s2.heap.get? b = some o → b ∈ frs (en :: outer) → ∃ sl, h8.get? b = some { o with slots := sl } := fun b o q hb => by
    obtain ⟨o', q', nf⟩ := frT b hb
    rw [q] at q'
    cases q'
    obtain ⟨x1, q1⟩ := D2.slot b o q (fr4 b hb) hb (nfr b hb)
    obtain ⟨x2, q2⟩ := D4.slot b _ q1 (D2.free b o q (fr4 b hb) (nfr b hb)) hb (by simp)
    obtain ⟨x3, q3⟩ := fr8 b hb _ q2 nf
    exact ⟨x3, q3⟩
  have low : ∀ b o, s2.heap.get? b = some o → b ≠ C := fun b o q => Nat.ne_of_lt (Nat.lt_trans (Heap.lt_size q) hC)
  have keepB : ∀ b o, s0.heap.get? b = some o → H0 b = none → b ∉ frs outer → (hideAll B [C]).get? b = some o := fun b o q n hb => by
    have q1 := D0.keep b o q n hb (by simp)
    have n1 := D0.free b o q n (by simp)
    have q2 := D2.keep b o q1 n1 (nin b o q hb) (nfp b o q)
    exact toB b o (c0 b o q2 (D2.free b o q1 n1 (nfp b o q)) (nin b o q hb)) (low b o q1)
  have thereB : ∀ b o, s0.heap.get? b = some o → b ∉ frs outer → ∃ o', (hideAll B [C]).get? b = some o' := fun b o q hb => by
    obtain ⟨o1, q1⟩ := D0.there b o q (by simp)
    obtain ⟨o2, q2⟩ := D2.there b o1 q1 (nfp b o q)
    obtain ⟨o3, q3⟩ := c2 b o2 q2 (nin b o q hb)
    exact ⟨o3, toB b o3 q3 (low b o1 q1)⟩
  have trB : ∀ b u o, H' b = some u → s'.heap.get? b = some o → (hideAll B [C]).get? b = some o := fun b u o e q => toB b o (c1 b u o e q) fun z => by
    rw [z, nC'] at e
    cases e
  refine ⟨ad, cls, H', rfl, ⟨(F.os.trans I4.os).trans I2.os, F.bare, ⟨fun b o q n hb hx => fl8.1 b o (keepB b o q n hb), fun b o q n hb hx => ?_, fun b o q n hx => ?_, fun b o q hx => ?_, fun b xs q => D4.tups b xs (D2.tups b xs (D0.tups b xs q)), fun b o u q => D4.frzs b o u (D2.frzs b o u (D0.frzs b o u q)), fun b ps q => ?_⟩, F.hok.inB trB fl8.1,
    ⟨hideAll B [C], a0, fl8, keepB, thereB, fun b u o e q => ?_⟩⟩, he⟩
  · obtain ⟨x1, q1⟩ := D0.slot b o q n hb hx
    obtain ⟨x2, q2⟩ := slot b _ q1 (by rw [fre]; exact List.mem_cons_of_mem _ hb)
    exact ⟨x2, q2⟩
  · have q1 := (D0.there b o q hx).choose_spec
    have n1 := D0.free b o q n hx
    obtain ⟨o2, q2⟩ := D2.there b _ q1 (nfp b o q)
    exact D4.free b o2 q2 (D2.free b _ q1 n1 (nfp b o q)) hx
  · by_cases hb : b ∈ frs outer
    · obtain ⟨o1, q1⟩ := D0.there b o q hx
      obtain ⟨x2, q2⟩ := slot b o1 q1 (by rw [fre]; exact List.mem_cons_of_mem _ hb)
      exact ⟨_, q2⟩
    · obtain ⟨o1, q1⟩ := thereB b o q hb
      exact ⟨o1, fl8.1 b o1 q1⟩
  · obtain ⟨m1, e1⟩ := D0.tbls b ps q
    obtain ⟨m2, e2⟩ := D2.tbls b _ e1
    obtain ⟨m3, e3⟩ := D4.tbls b _ e2
    exact ⟨m1 ++ m2 ++ m3, by rw [e3, Array.append_assoc, Array.append_assoc, Array.append_assoc]⟩
  · obtain ⟨o1, q1⟩ := (F.hok b u e).get
    have q2 := trB b u o1 e q1
    have q3 := fl8.1 b o1 q2
    rw [q] at q3
    cases q3
    exact q2
/-- what may leave the block: an exception of a call within it -/
def xeC (X : Cx) (N' : List Str) (scp : Scope) (E : XK) : List (Str × Addr) → Addr → Shared → Hp → List Addr → Value → Shared → Prop := fun cl C s H ex e s' =>
  ∃ pins σ H4 s4, Inv (cxC X N' scp cl C s H ex) pins σ H4 s4 ∧ CX1 X.prog X.w X.stack H4 s4 E e s'
theorem xeC_pass {N' : List Str} {scp : Scope} {cl : List (Str × Addr)} {C : Addr} {s : Shared} {H : Hp} {ex : List Addr} :
    Passes (CX1 P w) ((cxC (cxOf (CX1 P w) P w K mg base N qual scope f cdv A outer s0 H0 E) N' scp cl C s H ex).wish (xeC (cxOf (CX1 P w) P w K mg base N qual scope f cdv A outer s0 H0 E) N' scp E cl C s H ex)) E :=
  fun pins σ H4 s4 _ _ I c => ⟨pins, σ, H4, s4, I.unwish, c⟩
/-- a comprehension whose item may raise -/
theorem pe_compX {elt target iter : Expr} {ifs : List Expr} {scp so : Scope} {pos : Pos} {wi : TI} {g : TG} {tc : TT} {te : TE} {k : Nat} {fr : List Nat} {N1 N' : List Str} (hc : (cxOf (CX1 P w) P w K mg base N qual scope f cdv A outer s0 H0 E).calm = true) (hN : N = N1)
    (hso : (cxOf (CX1 P w) P w K mg base N qual scope f cdv A outer s0 H0 E).env.scope = so) (S : CompScope N1 so N' scp k fr) (hi : PI (cxOf (CX1 P w) P w K mg base N qual scope f cdv A outer s0 H0 E) target iter wi)
    (hg : ∀ cl C s H ex, PG (cxC (cxOf (CX1 P w) P w K mg base N qual scope f cdv A outer s0 H0 E) N' scp cl C s H ex) target g) (ht : ∀ cl C s H ex, PTs (cxC (cxOf (CX1 P w) P w K mg base N qual scope f cdv A outer s0 H0 E) N' scp cl C s H ex) ifs tc)
    (he : ∀ cl C s H ex, PE ((cxC (cxOf (CX1 P w) P w K mg base N qual scope f cdv A outer s0 H0 E) N' scp cl C s H ex).wish (xeC (cxOf (CX1 P w) P w K mg base N qual scope f cdv A outer s0 H0 E) N' scp E cl C s H ex)) elt te)
    (hs : ∀ x, foldedSetIterable iter (cxOf (CX1 P w) P w K mg base N qual scope f cdv A outer s0 H0 E).env x = pure x := by intro _; rfl) :
    PE (cxOf (CX1 P w) P w K mg base N qual scope f cdv A outer s0 H0 E) (.ListComp elt [⟨target, iter, ifs, 0⟩] scp pos) (tComp wi g tc te k fr) := by
  subst hN hso
  intro pins s σ H Q I h
  rw [eval_ListComp]
  obtain ⟨cl, hcl, c1, c2, c3⟩ := closureFor_of (env := (cxOf (CX1 P w) P w K mg base N qual scope f cdv A outer s0 H0 E).env) (scope := scp) fun n hn => I.ok.has n (S.outer _ hn rfl)
  refine comp_errs (cl := cl) rfl hs hcl S.kind S.locs ?_
  refine thn (hi pins s σ H _ I h) fun v s1 h1 => thn h1 fun itv s2 h2 => ?_
  obtain ⟨it, fp, tn, J, H2, rfl, I2, T, st2, f2, hb⟩ := h2
  refine wpAny_newObj_type (wpAny_newEnv_comp ?_)
  refine block_in (XE := xeC (cxOf (CX1 P w) P w K mg base N qual scope f cdv A outer s0 H0 E) N' scp E) hc S c1 c2 (fun x c m => ⟨x, (c3 x c m).1⟩) (fun x hx c m => (S.cels _ hx rfl).2 (c3 x c m).2) hg ht he I2 T st2 f2 hb ?_ ?_
  · intro C e s' m ys its n H' hC hn vl sz hD nD nC fin os bare un hok
    subst e
    exact ⟨m, hn, fun h' hs' => ⟨.ref _, _, comp_back I2 f2 hC vl sz hD nD nC os bare un hok hs', rfl, fin _ (I2.hok.fresh (Nat.le_refl _)) nD⟩⟩
  · rintro cl' C x s' e hC ⟨pins4, σ4, H4, s4, I4, ad, cls, H', rfl, F, he'⟩
    subst e
    exact comp_fly I2 hC f2 I4 F he' rfl
end
end L2
/-! ### list.insert -/
namespace L2
open PySem PySem.Spec PyProof.Rows PySem.W
section
variable {X : Cx}
def rIns : V → List V → Hp → VK → Prop := fun x vs H Q => ∃ l xs i y, x = .ref l ∧ vs = [.int i, y] ∧ H l = some (.lst xs) ∧ 0 ≤ i ∧ i ≤ (xs.length : Nat) ∧ xs.length < sizeLine ∧ Q .non (upd H l (.lst (xs.take i.toNat ++ y :: xs.drop i.toNat)))
end
end L2
/-! CALLS WITHIN AN EXCEPT SUITE; a text's count, partition and index. -/
namespace L2
open PySem PySem.Spec PyProof.Rows PySem.W
/-- a def's promise, kept also while an exception is handled -/
structure FnOkM (P : Program) (w : World) (K : PySem.W.Frag) (mg : Str → Option Value) (base : Heap) (CX : CXT) (k : Nat) (f : Addr) (fd : FuncData) (ps : List Str) (sp : Sp) : Prop where
  len : ∀ vs H Q E, sp vs H Q E → vs.length = ps.length
  run : ∀ (A : Around) (ad : Addr) (outer : List Env) (s : Shared) (H : Hp) (args : Args) (us : List Value) (vs : List V) (Q : VK) (E : XK), Room k A → Env0 P w K mg base A outer s H → BindsTo s fd args (ps.zip us) → Vals vs us → sp vs H Q E →
    codeAny (model P w) (A.mark (some (.ref ad))) (.call (.ref f) args) (CR CX outer P w H s Q E) s
theorem fn_ofM {CX : CXT} {P : Program} {w : World} {K : PySem.W.Frag} {mg : Str → Option Value} {base : Heap} {k : Nat} {f : Addr} {name qual : Str} {params : Arguments} {body : List Stmt} {scope : Scope} {dV kV doc pm cdv ct oc : Value} {an od : Option Addr}
    {osl : Array (Option Value)} {N ps : List Str} {sp : Sp} (lk : K.lookup f = some ⟨oc, od, .func (PySem.W.fnOf name qual params body scope dV kV doc pm an cdv ct), osl⟩) (hcd : PySem.W.codeIn K cdv qual = true) (S : FnScope N ps scope)
    (len : ∀ vs H Q E, sp vs H Q E → vs.length = ps.length)
    (hbody : ∀ (A : Around) (ad : Addr) (outer : List Env) (s : Shared) (H : Hp) (vs : List V) (Q : VK) (E : XK), Room k (A.deeper (envOfC qual scope s.heap.objs.size f cdv)) → sp vs H Q E →
      ∃ t, PSs ((cxOf CX P w K mg base N qual scope f cdv A outer s H E).mark ad) body t ∧ t { nx := fun _ H' => Q .non H', rt := Q } (start N vs) H) :
    FnOkM P w K mg base CX (k + 1) f (PySem.W.fnOf name qual params body scope dV kV doc pm an cdv ct) ps sp := by
  refine ⟨len, fun A ad outer s H args us vs Q E hr e0 hb r hsp => ?_⟩
  have hl := len _ _ _ _ hsp
  have KX : K.In s.heap := e0.mod.kin.keeps fun b o e => (e0.bs b o e).1
  have lim : s.heap.NoLimit := e0.mod.nolimit.keeps fun b o e => (e0.bs b o e).1
  have hkind : ∀ y ∈ ps.zip us, scope.names.lookup y.1 = some .local ∨ (scope.names.lookup y.1 = some .cell ∧ ((cellsFrom (s.heap.objs.size + 1) scope.names []).lookup y.1).isSome = true) := fun ⟨n, v⟩ hy => by
    rcases S.par n (List.of_mem_zip hy).1 with q | q
    · exact .inl q
    · exact .inr ⟨q, PySem.W.cellsFrom_some _ _ _ (.inl q)⟩
  refine codeAny_call_function (show (A.mark (some (.ref ad))).depth < recursionLimit from hr.depth) (KX _ _ lk) rfl S.co S.gen rfl (PySem.W.codeRec_of KX hcd) (hb _ _ _ _ ?_)
  refine wpAny_newFunctionEnv_cells S.kind hkind fun env he s1 x => ?_
  subst he
  refine ⟨lim.keeps x.toInCall.keep, codeAny_func ?_⟩
  obtain ⟨t, ht, hq⟩ := hbody A ad outer s H vs Q E (hr.deeper _) hsp
  have I : Inv (cxOf CX P w K mg base N qual scope f cdv A outer s H E) [] (start N vs) H s1 := inv_start S hr.hd e0 hl r x
  refine wpAny_mono (ht [] s1 (start N vs) H _ (I.mark ad) hq) (fun fl s' hs => ?_) fun e s' hs => False.elim hs
  have fin : ∀ {σ' : St} {H' : Hp} {v : V} {u : Value}, Inv ((cxOf CX P w K mg base N qual scope f cdv A outer s H E).mark ad) [] σ' H' s' → RelV v u → Q v H' → CE outer P w H s Q u s' :=
    fun {σ' H' v u} J rv q => ⟨v, H', J.os, J.bare, J.base, J.hok, rv, q⟩
  cases fl with
  | ret u =>
    obtain ⟨v, σ', H', J, rv, q⟩ := hs
    exact fin J rv q
  | next =>
    obtain ⟨σ', H', J, q⟩ := hs
    exact fin (v := V.non) (u := Value.none) J rfl q
  | brk =>
    obtain ⟨_, _, _, q⟩ := hs
    exact False.elim q
  | cont =>
    obtain ⟨_, _, _, q⟩ := hs
    exact False.elim q
structure CalM (P : Program) (w : World) (K : PySem.W.Frag) (mg : Str → Option Value) (base : Heap) (CX : CXT) (k : Nat) (x : Str) (ps : List Str) (sp : Sp) : Prop where
  ex : ∃ f fd, FnOkM P w K mg base CX k f fd ps sp ∧ mg x = some (.ref f) ∧ PySem.W.keepIn K (.ref f) = true ∧ Binds K fd ps []
section
variable {P : Program} {w : World} {K : PySem.W.Frag} {mg : Str → Option Value} {base : Heap} {CX : CXT}
theorem Fun.okM {x qual : Str} {st : Stmt} {f : Addr} {fd : FuncData} {N ps : List Str} {k : Nat} {sp : Sp} (F : Fun K x qual st f fd) (S : FnScope N ps (defScope st)) (len : ∀ vs H Q E, sp vs H Q E → vs.length = ps.length)
    (hbody : ∀ (cdv : Value) (A : Around) (ad : Addr) (outer : List Env) (s : Shared) (H : Hp) (vs : List V) (Q : VK) (E : XK), Room k (A.deeper (envOfC qual (defScope st) s.heap.objs.size f cdv)) → sp vs H Q E →
      ∃ t, PSs ((cxOf CX P w K mg base N qual (defScope st) f cdv A outer s H E).mark ad) (defBody st) t ∧ t { nx := fun _ H' => Q .non H', rt := Q } (start N vs) H) : FnOkM P w K mg base CX (k + 1) f fd ps sp := by
  obtain ⟨oc, od, kV, doc, pm, an, cdv, ct, osl, rfl, lk, hcd⟩ := F.ex
  exact fn_ofM lk hcd S len fun A ad outer s H vs Q E hr hsp => hbody cdv A ad outer s H vs Q E hr hsp
theorem Dn.calM {x : Str} {st : Stmt} {ps : List Str} {k : Nat} {sp : Sp} (D : Dn K mg x st)
    (hb : ∀ (kV doc pm : Value) (an : Option Addr) (cdv ct : Value) (us : List Value), us.length = ps.length → bindArgs (PySem.W.fnOf x x (defArgs st) (defBody st) (defScope st) .none kV doc pm an cdv ct) ⟨us, []⟩ = pure (ps.zip us))
    (h : ∀ f fd, Fun K x x st f fd → FnOkM P w K mg base CX k f fd ps sp) : CalM P w K mg base CX k x ps sp := by
  obtain ⟨f, fd, F, hm⟩ := D.ex
  exact ⟨f, fd, h f fd F, hm, F.kp, F.binds hb⟩
end
section
variable {X : Cx} {K : PySem.W.Frag}
/-- f(..) in an except suite -/
theorem pe_calM {CX : CXT} {k : Nat} {x : Str} {ps : List Str} {sp : Sp} {e : Expr} {es : List Expr} {t : TA} {p pos : Pos} {ad : Addr} (C : CalM X.prog X.w X.K X.mg X.base CX k x ps sp) (hr : Room k X.A) (hg : Gl X x) (hst : Strict CX) (ha : PA (X.mark ad) (e :: es) t)
    (hdb : (x == ("__debug__" : Str)) = false := by decide) (he : starEach (e :: es) X.env = (false, eval e X.env) :: starEach es X.env := by rfl) (hpl : (backTo pos (starEach es X.env)).any (·.1) = false := by rfl) :
    PE (X.mark ad) (.Call (.Name x p) (e :: es) [] pos) (tCall sp [] E0 t) := by
  intro pins s σ H Q I h
  obtain ⟨f, fd, F, hm, hk, hb⟩ := C.ex
  refine wpAny_Call_Name_kw (ld_glob I hg hm ?_ hdb)
  refine PySem.W.callWith_K (h₀ := X.base) I.ok.mod.kin hk (thn (ha pos pins s σ H _ I h) fun us s1 ⟨vs, H1, I1, r, q⟩ => ⟨I1.kIn, ?_⟩) he hpl
  have q : sp (vs ++ []) H1 Q E0 := q
  rw [List.append_nil] at q
  have hl : us.length = ps.length := by rw [← r.length]; exact F.len _ _ _ _ q
  have hb' := hb s1 us I1.kIn (by rw [List.append_nil]; exact hl)
  rw [List.append_nil] at hb'
  have e0 : Env0 X.prog X.w X.K X.mg X.base X.A X.stack s1 H1 := ⟨I1.env0.frames, I1.env0.mod, I1.env0.bs, I1.env0.bsz, I1.env0.funs, I1.env0.frf, I1.env0.hok, I1.env0.bare⟩
  refine wpAny_call (codeAny_mono (F.run X.A ad X.stack s1 H1 ⟨us, []⟩ us vs Q E0 hr e0 hb' r q) fun r s' hq => ?_)
  cases r with
  | error e => exact (hst _ _ _ _ _ hq).elim
  | ok fl =>
    cases fl with
    | ret u => exact I1.after hq
    | next => exact False.elim hq
    | brk => exact False.elim hq
    | cont => exact False.elim hq
theorem mt_count : MtR X "str.count" (fun x xs H Q => ∃ z y, x = .str z ∧ xs = [.str y] ∧ Q (.int (Txt.count z y)) H) := by
  intro pins s σ H x xs v us Q I rx rv h
  obtain ⟨z, y, rfl, rfl, q⟩ := h
  obtain ⟨t, rfl⟩ := rx
  obtain ⟨u, rfl, ru⟩ := vals1 rv
  obtain ⟨t2, rfl⟩ := ru
  exact SC.count ⟨.int _, H, I.tok _, ⟨_, rfl⟩, q⟩
theorem mt_index : MtR X "str.index" (fun x xs H Q => ∃ z y i r, x = .str z ∧ xs = [.str y] ∧ Builtin.Str.occurrences z y 0 z.length 1 = i :: r ∧ Q (.int (i : Nat)) H) := by
  intro pins s σ H x xs v us Q I rx rv h
  obtain ⟨z, y, i, r, rfl, rfl, ho, q⟩ := h
  obtain ⟨t, rfl⟩ := rx
  obtain ⟨u, rfl, ru⟩ := vals1 rv
  obtain ⟨t2, rfl⟩ := ru
  exact SC.index ho ⟨.int _, H, I.tok _, ⟨_, rfl⟩, q⟩
theorem mt_partition : MtR X "str.partition" (fun x xs H Q => ∃ z y, x = .str z ∧ xs = [.str y] ∧ (y.length == 0) = false ∧ z.length ≤ sizeLine ∧ ∀ l H', Same H H' → H l = none → H' l = some (.tup [.str (Txt.partition z y).1, .str (Txt.partition z y).2.1, .str (Txt.partition z y).2.2]) → Q (.ref l) H') := by
  intro pins s σ H x xs v us Q I rx rv h
  obtain ⟨z, y, rfl, rfl, hy, hz, q⟩ := h
  obtain ⟨t, rfl⟩ := rx
  obtain ⟨u, rfl, ru⟩ := vals1 rv
  obtain ⟨t2, rfl⟩ := ru
  have fr := I.hok.fresh (a := s.heap.objs.size) (Nat.le_refl _)
  have fin : ∀ (a b c : Str) (ta tb tc : Tok) (k : Nat), Txt.partition z y = (a, b, c) → EP X pins σ Q (.ref s.heap.objs.size) { s with heap := s.heap.push { cls := .type "tuple", data := .seq [.str a ta, .str b tb, .str c tc].toArray }, toks := k } := fun a b c ta tb tc k e => by
    refine ⟨.ref s.heap.objs.size, upd H s.heap.objs.size (.tup [.str a, .str b, .str c]), I.laid (t' := k) (fun b o e => Heap.get?_push_of_some _ e) (Nat.le_refl _) ⟨by show 3 ≤ sizeLine; decide, _, .cons ⟨ta, rfl⟩ (.cons ⟨tb, rfl⟩ (.cons ⟨tc, rfl⟩ .nil)), ⟨_, Heap.get?_push_size _ rfl, rfl, _, rfl⟩⟩, rfl, ?_⟩
    refine q _ _ (same_upd fr) fr ?_
    rw [e]
    exact upd_same
  refine call_meets PySem.F.slot_str_partition (typeIs_str _ _ _) PySem.F.entry_str_partition (PySem.F.args_str_partition_2 _ _) (meets_str_partition z y t t2 hy hz) ?_
  cases e : Builtin.Str.occurrences z y 0 z.length 1 with
  | nil => exact fin _ _ _ _ _ _ _ (by unfold Txt.partition; rw [e])
  | cons i r => exact fin _ _ _ _ _ _ _ (by unfold Txt.partition; rw [e])
end
end L2
namespace PySem
open Builtin Builtin.Str StrLaws
theorem one_is {x : Str} {c : Nat} {a b : List Nat} (e : x.cps.toList = a ++ c :: b) : At x ⟨#[c]⟩ x.length a.length := by
  refine ⟨?_, ?_⟩
  · have : x.length = (a ++ c :: b).length := by rw [← e, Array.length_toList]; rfl
    rw [this, List.length_append]
    show a.length + 1 ≤ _
    simp
  · rw [subAt_eq, e, List.drop_left]
    show ((c :: b).take 1 == [c]) = true
    simp
theorem count_split (x : Str) {c : Nat} (hc : c < 128) : Txt.count x ⟨#[c]⟩ = ((Txt.split x ⟨#[c]⟩).length : Int) - 1 := by
  have len : (Builtin.Str.partsBetween x (occurrences x ⟨#[c]⟩ 0 x.length (x.length + 1)) 1).length = (occurrences x ⟨#[c]⟩ 0 x.length (x.length + 1)).length + 1 := by
    unfold Builtin.Str.partsBetween
    simp
  unfold Txt.count Txt.split
  split
  · rename_i h
    have l0 : x.length = 0 := by
      rw [Bool.or_eq_true, decide_eq_true_eq, decide_eq_true_eq] at h
      rcases h with h | h
      · have : x.length < 1 := h
        omega
      · exfalso
        have e : Builtin.Str.strKind ⟨#[c]⟩ = 1 := by
          unfold Builtin.Str.strKind
          simp
          omega
        rw [e] at h
        unfold Builtin.Str.strKind at h
        split at h
        · omega
        · split at h <;> omega
    have : occurrences x ⟨#[c]⟩ 0 x.length (x.length + 1) = [] := by
      cases e : occurrences x ⟨#[c]⟩ 0 x.length (x.length + 1) with
      | nil => rfl
      | cons i r =>
        have := (occ_spec x ⟨#[c]⟩ 0 x.length (x.length + 1) i (by rw [e]; exact List.mem_cons_self)).1
        have : i + 1 ≤ x.length := this
        omega
    rw [this]
    rfl
  · split
    · rename_i h
      rw [List.isEmpty_iff.mp h]
      rfl
    · show _ = ((Builtin.Str.partsBetween x (occurrences x ⟨#[c]⟩ 0 x.length (x.length + 1)) 1).length : Int) - 1
      rw [len]
      omega
theorem part_split {x a b : Str} {c : Nat} (h : Txt.split x ⟨#[c]⟩ = [a, b]) : Txt.partition x ⟨#[c]⟩ = (a, ⟨#[c]⟩, b) := by
  have fr := StrLaws.split_free x c
  rw [h] at fr
  have ca := fr a (by simp)
  have cb := fr b (by simp)
  have j : Str.join ⟨#[c]⟩ (Txt.split x ⟨#[c]⟩) = x := StrLaws.join_split _ _
  rw [h] at j
  have ex : x.cps.toList = a.cps.toList ++ c :: b.cps.toList := by
    rw [← j, join_cons]
    rfl
  have ps := partition_sum x ⟨#[c]⟩
  have no : occurrences x ⟨#[c]⟩ 0 x.length 1 ≠ [] := by
    intro z
    rcases occ_head x ⟨#[c]⟩ 1 (Nat.le_refl _) with ⟨_, n⟩ | ⟨i, r, e, _⟩
    · exact n _ (one_is ex)
    · rw [z] at e
      cases e
  unfold Txt.partition at ps ⊢
  cases e : occurrences x ⟨#[c]⟩ 0 x.length 1 with
  | nil => exact absurd e no
  | cons i r =>
    rw [e] at ps
    have ps2 := congrArg (fun z : Str => z.cps.toList) ps
    simp only [Str.cps_append, Array.toList_append, List.append_assoc] at ps2
    have ps3 : (strSub x 0 i).cps.toList ++ c :: (strSub x (i + 1) x.length).cps.toList = a.cps.toList ++ c :: b.cps.toList := by rw [← ex]; exact ps2
    have c1 : c ∉ (strSub x 0 i).cps.toList := by
      intro m
      have := congrArg (List.count c) ps3
      rw [List.count_append, List.count_append, List.count_cons_self, List.count_cons_self, List.count_eq_zero.mpr ca, List.count_eq_zero.mpr cb] at this
      have := List.count_pos_iff.mpr m
      omega
    obtain ⟨e1, e2⟩ := cut_inj c1 ca ps3
    show (strSub x 0 i, (⟨#[c]⟩ : Str), strSub x (i + 1) x.length) = _
    rw [str_ext e1, str_ext e2]
end PySem
/-! str() of a text or a number. -/
namespace L2
open PySem PySem.Spec PyProof.Rows PySem.W
/-- what str() makes of a text or a number -/
def txV : V → Option Str
  | .str z => some z
  | .int i => if i.natAbs.log2 < 1920 then some (Str.ofString (toString i)) else none
  | _ => none
section
variable {X : Cx} {K : PySem.W.Frag}
end
end L2
namespace K17
open PySem PySem.Spec PyProof.Rows L2
set_option maxHeartbeats 4000000
seal L2.PE L2.PT L2.PW L2.PA L2.PS L2.PSs L2.PG L2.PGs L2.PI L2.PTs L2.PO L2.OpR L2.UnR L2.CallR L2.IxR L2.SlR L2.MtR L2.MtM
theorem strictP {P : Program} {w : World} : Strict (CX1 P w) := strict1 P w
def top (i : Nat) : Stmt := PySem.Challenge.pw_pressluck_k17_no_pool_written.main.body.getD i (.Pass ⟨0, 0, 0, 0⟩)
structure Txt (K : PySem.W.Frag) (mg : Str → Option Value) (pr : Params) (q_LuckError q_NoShare q_NoTable q_NoPool q_NoEnd q_TooMany q_NoGame q_NoWay q_NoRule q_NoStep q_NoPlay q_NoRow q_OF_MANY q_OF_ONE : Addr) : Prop where
  z_ValueError : mg "ValueError" = none
  z_all : mg "all" = none
  z_int : mg "int" = none
  z_isinstance : mg "isinstance" = none
  z_len : mg "len" = none
  z_list : mg "list" = none
  z_str : mg "str" = none
  d_is_figures : Dn K mg "is_figures" (top 16)
  d_whole_in : Dn K mg "whole_in" (top 17)
  d_read_number : Dn K mg "read_number" (top 25)
  d_read_dice : Dn K mg "read_dice" (top 26)
  d_read_worded : Dn K mg "read_worded" (top 27)
  d_read_part : Dn K mg "read_part" (top 28)
  d_read_pool : Dn K mg "read_pool" (top 29)
  d__law_at : Dn K mg "_law_at" (top 31)
  d__law_whole : Dn K mg "_law_whole" (top 32)
  d__law_dice : Dn K mg "_law_dice" (top 33)
  d__law_part : Dn K mg "_law_part" (top 34)
  d__law_pool : Dn K mg "_law_pool" (top 35)
  d__law_near : Dn K mg "_law_near" (top 36)
  d__law_good : Dn K mg "_law_good" (top 37)
  d__law_bent : Dn K mg "_law_bent" (top 38)
  d__law_class : Dn K mg "_law_class" (top 39)
  d__law_right : Dn K mg "_law_right" (top 40)
  c_FIGURES : ∃ t, mg "FIGURES" = some (.str "0123456789" t)
  c_MOST_FIGURES : ∃ t, mg "MOST_FIGURES" = some (.int 12 t)
  c_MOST_PARTS : ∃ t, mg "MOST_PARTS" = some (.int 4 t)
  c_MOST_NUMBER : ∃ t, mg "MOST_NUMBER" = some (.int 99 t)
  c_MOST_DICE : ∃ t, mg "MOST_DICE" = some (.int 6 t)
  c_MOST_SIDES : ∃ t, mg "MOST_SIDES" = some (.int 20 t)
  k_LuckError : mg "LuckError" = some (.ref q_LuckError)
  k_NoShare : mg "NoShare" = some (.ref q_NoShare)
  k_NoTable : mg "NoTable" = some (.ref q_NoTable)
  k_NoPool : mg "NoPool" = some (.ref q_NoPool)
  k_NoEnd : mg "NoEnd" = some (.ref q_NoEnd)
  k_TooMany : mg "TooMany" = some (.ref q_TooMany)
  k_NoGame : mg "NoGame" = some (.ref q_NoGame)
  k_NoWay : mg "NoWay" = some (.ref q_NoWay)
  k_NoRule : mg "NoRule" = some (.ref q_NoRule)
  k_NoStep : mg "NoStep" = some (.ref q_NoStep)
  k_NoPlay : mg "NoPlay" = some (.ref q_NoPlay)
  k_NoRow : mg "NoRow" = some (.ref q_NoRow)
  x_NoPool : PySem.W.excIn K q_NoPool bmVE newVE = true
  y_NoPool : ExcCls K q_NoPool
  e_NoPool_LuckError : PySem.W.exmOne K (.ref q_NoPool) (.ref q_LuckError) = some true
  i_NoPool_NoPool : PySem.W.kitOne K (.ref q_NoPool) (.ref q_NoPool) = some true
  i_NoPool_ValueError : PySem.W.kitOne K (.ref q_NoPool) (.type "ValueError") = some true
  n_NoPool_NoEnd : PySem.W.kitOne K (.ref q_NoPool) (.ref q_NoEnd) = some false
  n_NoPool_NoGame : PySem.W.kitOne K (.ref q_NoPool) (.ref q_NoGame) = some false
  n_NoPool_NoPlay : PySem.W.kitOne K (.ref q_NoPool) (.ref q_NoPlay) = some false
  n_NoPool_NoRow : PySem.W.kitOne K (.ref q_NoPool) (.ref q_NoRow) = some false
  n_NoPool_NoRule : PySem.W.kitOne K (.ref q_NoPool) (.ref q_NoRule) = some false
  n_NoPool_NoShare : PySem.W.kitOne K (.ref q_NoPool) (.ref q_NoShare) = some false
  n_NoPool_NoStep : PySem.W.kitOne K (.ref q_NoPool) (.ref q_NoStep) = some false
  n_NoPool_NoTable : PySem.W.kitOne K (.ref q_NoPool) (.ref q_NoTable) = some false
  n_NoPool_NoWay : PySem.W.kitOne K (.ref q_NoPool) (.ref q_NoWay) = some false
  n_NoPool_TooMany : PySem.W.kitOne K (.ref q_NoPool) (.ref q_TooMany) = some false
  g_OF_MANY : mg "OF_MANY" = some (.ref q_OF_MANY)
  g_OF_ONE : mg "OF_ONE" = some (.ref q_OF_ONE)
  r_OF_MANY_best : MRow K q_OF_MANY "best" 1 6
  r_OF_MANY_hits : MRow K q_OF_MANY "hits" 1 20
  r_OF_MANY_worst : MRow K q_OF_MANY "worst" 1 6
  r_OF_ONE_again : MRow K q_OF_ONE "again" 0 20
  r_OF_ONE_burst : MRow K q_OF_ONE "burst" 0 6
  m_OF_MANY : MDict K pr q_OF_MANY ["best", "worst", "hits"]
  m_OF_ONE : MDict K pr q_OF_ONE ["again", "burst"]
/-! ### texts of numbers -/
abbrev FIG : Str := Str.ofString "0123456789"
theorem fig_iff (c : Nat) : c ∈ FIG.cps.toList ↔ 48 ≤ c ∧ c ≤ 57 := by
  have e : FIG.cps.toList = [48, 49, 50, 51, 52, 53, 54, 55, 56, 57] := by decide +kernel
  rw [e]
  simp
  omega
def numT (k : Int) : Str := Str.ofString (toString k)
def dig (l : List Nat) : Prop := 1 ≤ l.length ∧ l.length ≤ 12 ∧ ∀ c ∈ l, c ∈ FIG.cps.toList
instance (l : List Nat) : Decidable (dig l) := by unfold dig; infer_instance
theorem dig.all {l : List Nat} (h : dig l) : NumText.AllDigits l := fun c hc => (fig_iff c).mp (h.2.2 c hc)
def lead (l : List Nat) : Prop := 1 < l.length ∧ l.head? = some 48
instance (l : List Nat) : Decidable (lead l) := by unfold lead; infer_instance
def canon (l : List Nat) : Prop := dig l ∧ ¬ lead l
instance (l : List Nat) : Decidable (canon l) := by unfold canon; infer_instance
abbrev val (l : List Nat) : Nat := NumText.digitsVal l
theorem num_list (m : Nat) : (numT (m : Int)).cps.toList = (Nat.toDigits 10 m).map Char.toNat := PySem.W.KIN.signs_num m
theorem ofNat_back : ∀ c : Nat, c < 58 → (Char.ofNat c).toNat = c := by decide +kernel
theorem map_back : ∀ l : List Nat, NumText.AllDigits l → (l.map Char.ofNat).map Char.toNat = l
  | [], _ => rfl
  | c :: l, h => by
    show (Char.ofNat c).toNat :: (l.map Char.ofNat).map Char.toNat = c :: l
    rw [ofNat_back c (by have := h.head; omega), map_back l h.tail]
/-- a number's text is the text that it was read from, just where that has no noughts ahead -/
theorem num_canon {l : List Nat} (h : dig l) : (numT (val l : Nat)).cps.toList = l ↔ ¬ lead l := by
  rw [num_list]
  constructor
  · rintro e ⟨h1, h2⟩
    have hl := congrArg List.length e
    rw [NumText.toDigits_all l h.all] at hl
    cases l with
    | nil => simp at h1
    | cons c r =>
      simp at h2
      subst h2
      have d : (48 :: r).dropWhile (· == 48) = r.dropWhile (· == 48) := rfl
      rw [d] at hl
      have dl := List.IsSuffix.length_le (List.dropWhile_suffix (l := r) (· == 48))
      rw [List.length_cons] at h1
      cases hd : r.dropWhile (· == 48) with
      | nil => rw [hd] at hl; simp at hl; rw [hl] at h1; simp at h1
      | cons a b => rw [hd] at hl dl; simp at hl dl; omega
  · intro nl
    cases l with
    | nil => exact absurd h.1 (by simp)
    | cons c r =>
      rw [NumText.toDigits_digitsVal r.length (c :: r) rfl h.all, map_back _ h.all]
      by_cases z : r.length = 0
      · exact .inl z
      · refine .inr ⟨c, r, rfl, ?_⟩
        have := h.all.head
        by_cases q : c = 48
        · exact absurd ⟨by simp; omega, by rw [q]; rfl⟩ nl
        · omega
def sg (neg : Bool) (m : Nat) : Int := if neg then -(m : Int) else m
def sgn (neg : Bool) : List Nat := if neg then [45] else []
/-- a share's text -/
def shT (a b : Int) : Str := if b = 1 then numT a else numT a ++ Str.ofString "/" ++ numT b
theorem app_list (a b : Str) : (a ++ b).cps.toList = a.cps.toList ++ b.cps.toList := by rw [Str.cps_append, Array.toList_append]
theorem val_lt : ∀ l : List Nat, NumText.AllDigits l → val l < 10 ^ l.length := by
  have key : ∀ (l : List Nat) (a k : Nat), NumText.AllDigits l → a < 10 ^ k → l.foldl (fun acc c => acc * 10 + (c - 48)) a < 10 ^ (k + l.length) := by
    intro l
    induction l with
    | nil => intro a k _ h; exact h
    | cons c r ih =>
      intro a k h ha
      have hc := h.head
      have := ih (a * 10 + (c - 48)) (k + 1) h.tail (by rw [Nat.pow_succ]; omega)
      rw [List.length_cons, show k + (r.length + 1) = k + 1 + r.length by omega]
      exact this
  intro l h
  have := key l 0 0 h (by decide)
  rw [Nat.zero_add] at this
  exact this
theorem dig.lt {l : List Nat} (h : dig l) : val l < 10 ^ 12 := Nat.lt_of_lt_of_le (val_lt l h.all) (Nat.pow_le_pow_right (by decide) h.2.1)
/-! ### what is due -/
def negT (z : Str) : Bool := decide (z.cps.toList.head? = some 45)
def bodyT (z : Str) : Str := if negT z = true then Txt.slice z (some 1) none else z
def dueP (neg : Bool) : List Str → Option (Int × Int)
  | [p] => if canon p.cps.toList ∧ ¬ (neg = true ∧ val p.cps.toList = 0) then some (sg neg (val p.cps.toList), 1) else none
  | [p, q] => if canon p.cps.toList ∧ canon q.cps.toList ∧ ¬ (neg = true ∧ val p.cps.toList = 0) ∧ 2 ≤ val q.cps.toList ∧ Nm.g (val p.cps.toList : Nat) (val q.cps.toList : Nat) = 1 then some (sg neg (val p.cps.toList), ((val q.cps.toList : Nat) : Int)) else none
  | _ => none
def due (z : Str) : Option (Int × Int) := dueP (negT z) (Txt.split (bodyT z) ⟨#[47]⟩)
theorem cut_one {b p : Str} (h : Txt.split b ⟨#[47]⟩ = [p]) : p = b ∧ 47 ∉ b.cps.toList := by
  have j := StrLaws.join_split b ⟨#[47]⟩
  rw [h] at j
  have j : p = b := j
  exact ⟨j, by rw [← j]; exact StrLaws.split_free b 47 p (by rw [h]; exact List.mem_cons_self)⟩
theorem fm_map {α β : Type} (f : α → β) (l : List α) : l.filterMap (fun a => some (f a)) = l.map f := by
  induction l with
  | nil => rfl
  | cons a l ih => simp
theorem piece_in (c : Nat) : ∀ {ps : List Str} {p : Str}, p ∈ ps → (∀ x ∈ p.cps.toList, x ∈ (Str.join ⟨#[c]⟩ ps).cps.toList) ∧ p.cps.toList.length ≤ (Str.join ⟨#[c]⟩ ps).cps.toList.length
  | [], p, h => by cases h
  | [q], p, h => by
    rw [List.mem_singleton.mp h]
    exact ⟨fun x hx => hx, Nat.le_refl _⟩
  | q :: q2 :: r, p, h => by
    rw [join_cons]
    rcases List.mem_cons.mp h with rfl | h
    · exact ⟨fun x hx => List.mem_append_left _ hx, by rw [List.length_append]; omega⟩
    · obtain ⟨a, b⟩ := piece_in c h
      exact ⟨fun x hx => List.mem_append_right _ (List.mem_cons_of_mem _ (a x hx)), by rw [List.length_append, List.length_cons]; omega⟩
theorem piece_of {z p : Str} {c : Nat} (h : p ∈ Txt.split z ⟨#[c]⟩) : (∀ x ∈ p.cps.toList, x ∈ z.cps.toList) ∧ p.length ≤ z.length := by
  have k := piece_in c h
  rw [StrLaws.join_split] at k
  exact ⟨k.1, k.2⟩
def Asc (z : Str) : Prop := z.cps.all (· < 128) = true
theorem asc_mem {z : Str} (h : Asc z) : ∀ c ∈ z.cps.toList, c < 128 := by
  unfold Asc at h
  rw [← Array.all_toList, List.all_eq_true] at h
  exact fun c hc => by simpa using h c hc
theorem mem_asc {z : Str} (h : ∀ c ∈ z.cps.toList, c < 128) : Asc z := by
  unfold Asc
  rw [← Array.all_toList, List.all_eq_true]
  exact fun c hc => by simpa using h c hc
theorem Asc.app {a b : Str} (ha : Asc a) (hb : Asc b) : Asc (a ++ b) := mem_asc fun c hc => by
  rw [app_list] at hc
  rcases List.mem_append.mp hc with h | h
  · exact asc_mem ha c h
  · exact asc_mem hb c h
theorem Asc.slice {a : Str} {l u : Option Int} (ha : Asc a) : Asc (Txt.slice a l u) := mem_asc fun c hc => asc_mem ha c (slice_sub c hc)
/-- an ascii text, not too long -/
def Tx (n : Nat) (z : Str) : Prop := Asc z ∧ z.length ≤ n
theorem Tx.piece {n c : Nat} {z p : Str} (h : Tx n z) (hp : p ∈ Txt.split z ⟨#[c]⟩) : Tx n p :=
  ⟨mem_asc fun x hx => asc_mem h.1 x ((piece_of hp).1 x hx), Nat.le_trans (piece_of hp).2 h.2⟩
/-! ### what texts write -/
inductive Pt
  | num (n : Int)
  | dice (m s : Int)
  | many (k : Str) (n m s : Int)
  | one (k : Str) (n s : Int)
def ptV : Pt → List V
  | .num n => [.str (Str.ofString "number"), .int n]
  | .dice m s => [.str (Str.ofString "dice"), .int m, .int s]
  | .many k n m s => [.str k, .int n, .int m, .int s]
  | .one k n s => [.str k, .int n, .int s]
def ptD : Pt → Dat
  | .num n => .tup [.str (Str.ofString "number"), .int n]
  | .dice m s => .tup [.str (Str.ofString "dice"), .int m, .int s]
  | .many k n m s => .tup [.str k, .int n, .int m, .int s]
  | .one k n s => .tup [.str k, .int n, .int s]
theorem repP {H : Hp} {p : Pt} {q : Addr} (h : H q = some (.tup (ptV p))) : Rep H (ptD p) (.ref q) := by
  cases p with
  | num n => simp only [ptD, ptV, Rep, RepL] at h ⊢; exact ⟨q, _, rfl, h, _, _, rfl, rfl, _, _, rfl, rfl, rfl⟩
  | dice m s => simp only [ptD, ptV, Rep, RepL] at h ⊢; exact ⟨q, _, rfl, h, _, _, rfl, rfl, _, _, rfl, rfl, _, _, rfl, rfl, rfl⟩
  | many k n m s => simp only [ptD, ptV, Rep, RepL] at h ⊢; exact ⟨q, _, rfl, h, _, _, rfl, rfl, _, _, rfl, rfl, _, _, rfl, rfl, _, _, rfl, rfl, rfl⟩
  | one k n s => simp only [ptD, ptV, Rep, RepL] at h ⊢; exact ⟨q, _, rfl, h, _, _, rfl, rfl, _, _, rfl, rfl, _, _, rfl, rfl, rfl⟩
theorem depP (p : Pt) : depth (ptD p) ≤ 1 := by cases p <;> simp [ptD, depth, depth.dL]
def poolD (ps : List Pt) : Dat := .lst (ps.map ptD)
theorem depPool (ps : List Pt) : depth (poolD ps) ≤ 40 := by
  have := depth_flat (ds := ps.map ptD) (n := 1) fun d hd => by obtain ⟨p, _, rfl⟩ := List.mem_map.mp hd; exact depP p
  unfold poolD
  rw [depth]
  omega
def whN (z : Str) (a b : Int) : Option Int := if canon z.cps.toList ∧ a ≤ ((val z.cps.toList : Nat) : Int) ∧ ((val z.cps.toList : Nat) : Int) ≤ b then some ((val z.cps.toList : Nat) : Int) else none
theorem wh_rng {z : Str} {a b n : Int} (h : whN z a b = some n) : a ≤ n ∧ n ≤ b ∧ 0 ≤ n := by
  unfold whN at h
  split at h
  · rename_i c
    cases h
    exact ⟨c.2.1, c.2.2, by omega⟩
  · cases h
theorem wh_le {z : Str} {a b m : Int} (h : m ≤ b) : whN z a m = (whN z a b).bind fun n => if m < n then none else some n := by
  unfold whN
  by_cases c : canon z.cps.toList ∧ a ≤ ((val z.cps.toList : Nat) : Int) ∧ ((val z.cps.toList : Nat) : Int) ≤ b
  · rw [if_pos c, Option.bind_some]
    by_cases d : ((val z.cps.toList : Nat) : Int) ≤ m
    · rw [if_pos ⟨c.1, c.2.1, d⟩, if_neg (by omega)]
    · rw [if_neg (fun k => d k.2.2), if_pos (by omega)]
  · rw [if_neg c, if_neg (fun k => c ⟨k.1, k.2.1, by omega⟩), Option.bind_none]
theorem canon2 {l : List Nat} (h : canon l) : val l ≤ 99 ↔ l.length ≤ 2 := by
  have e := (num_canon h.1).mpr h.2
  have e2 : l.length = (Nat.toDigits 10 (val l)).length := by rw [← List.length_map (f := Char.toNat), ← num_list, e]
  rw [e2]
  have := Nat.length_toDigits_le_iff (b := 10) (n := val l) (k := 2) (by decide) (by decide)
  rw [this]
  omega
def diceP : List Str → Option (Int × Int)
  | [p, q] => (if p = Str.ofString "" then some 1 else whN p 2 6).bind fun m => (whN q 1 20).map fun s => (m, s)
  | _ => none
def diceO (z : Str) : Option (Int × Int) := diceP (Txt.split z ⟨#[100]⟩)
theorem dice_two {z p q : Str} (h : Txt.split z ⟨#[100]⟩ = [p, q]) : diceO z = (if p = Str.ofString "" then some 1 else whN p 2 6).bind fun m => (whN q 1 20).map fun s => (m, s) := by unfold diceO; rw [h]; rfl
theorem dice_not {z : Str} (h : (Txt.split z ⟨#[100]⟩).length ≠ 2) : diceO z = none := by
  unfold diceO
  generalize Txt.split z ⟨#[100]⟩ = ws at *
  match ws, h with
  | [], _ => rfl
  | [a], _ => rfl
  | [a, b], h => exact absurd rfl h
  | a :: b :: c :: r, _ => rfl
theorem dice_rng {z : Str} {m s : Int} (h : diceO z = some (m, s)) : 1 ≤ m ∧ m ≤ 6 ∧ 1 ≤ s ∧ s ≤ 20 := by
  by_cases l : (Txt.split z ⟨#[100]⟩).length = 2
  · obtain ⟨p, q, e⟩ : ∃ p q, Txt.split z ⟨#[100]⟩ = [p, q] := by
      generalize Txt.split z ⟨#[100]⟩ = ws at *
      match ws, l with
      | [a, b], _ => exact ⟨a, b, rfl⟩
    rw [dice_two e] at h
    obtain ⟨m', e1, e2⟩ := Option.bind_eq_some_iff.mp h
    obtain ⟨s', e3, e4⟩ := Option.map_eq_some_iff.mp e2
    cases e4
    have r := wh_rng e3
    split at e1
    · cases e1
      omega
    · have := wh_rng e1
      omega
  · rw [dice_not l] at h
    cases h
def wordP (k f : Str) (m s : Int) : Option Pt :=
  if k = Str.ofString "again" then (whN f 0 20).bind fun n => if m = 1 then some (.one k n s) else none
  else if k = Str.ofString "burst" then (whN f 0 6).bind fun n => if m = 1 then some (.one k n s) else none
  else if k = Str.ofString "best" ∨ k = Str.ofString "worst" then (whN f 1 6).bind fun n => if m < n then none else some (.many k n m s)
  else if k = Str.ofString "hits" then (whN f 1 20).bind fun n => some (.many k n m s)
  else none
def wordO (k f d : Str) : Option Pt := (diceO d).bind fun ms => wordP k f ms.1 ms.2
def partP (z : Str) : List Str → Option Pt
  | [k, f, o, d] => if o = Str.ofString "of" then wordO k f d else none
  | [_] => if 100 ∈ z.cps.toList then (diceO z).map fun ms => .dice ms.1 ms.2 else (whN z 0 99).map .num
  | _ => none
def partO (z : Str) : Option Pt := partP z (Txt.split z ⟨#[32]⟩)
def allP (zs : List Str) : Option (List Pt) := if zs.all (fun z => (partO z).isSome) = true then some (zs.filterMap partO) else none
theorem allP_no {zs : List Str} {z : Str} (hz : z ∈ zs) (h : partO z = none) : allP zs = none := by
  unfold allP
  rw [if_neg]
  intro k
  have := List.all_eq_true.mp k z hz
  rw [h] at this
  cases this
theorem fmP_at : ∀ {zs : List Str}, (∀ z ∈ zs, (partO z).isSome = true) → (zs.filterMap partO).length = zs.length ∧ ∀ i : Nat, (zs.filterMap partO)[i]? = (zs[i]?).bind partO
  | [], _ => ⟨rfl, fun i => by simp⟩
  | z :: r, h => by
    obtain ⟨x, hx⟩ := Option.isSome_iff_exists.mp (h z List.mem_cons_self)
    obtain ⟨l, k⟩ := fmP_at fun y hy => h y (List.mem_cons_of_mem _ hy)
    rw [List.filterMap_cons, hx]
    refine ⟨by simp [l], fun i => ?_⟩
    cases i with
    | zero => simp [hx]
    | succ i => simpa using k i
theorem allP_yes {zs : List Str} (h : ∀ z ∈ zs, (partO z).isSome = true) : ∃ rs, allP zs = some rs ∧ rs.length = zs.length ∧ ∀ (i : Nat) z r, zs[i]? = some z → partO z = some r → rs[i]? = some r := by
  obtain ⟨l, k⟩ := fmP_at h
  refine ⟨_, if_pos (List.all_eq_true.mpr h), l, fun i z r e1 e2 => ?_⟩
  rw [k i, e1]
  exact e2
def poolO (z : Str) : Option (List Pt) := if 4 < (Txt.split z PLUS).length then none else allP (Txt.split z PLUS)
theorem plus_eq : Str.ofString " + " = PLUS := by decide +kernel
theorem pieceP_in : ∀ {ps : List Str} {p : Str}, p ∈ ps → (∀ x ∈ p.cps.toList, x ∈ (Str.join PLUS ps).cps.toList) ∧ p.cps.toList.length ≤ (Str.join PLUS ps).cps.toList.length
  | [], p, h => by cases h
  | [q], p, h => by
    rw [List.mem_singleton.mp h]
    exact ⟨fun x hx => hx, Nat.le_refl _⟩
  | q :: q2 :: r, p, h => by
    have je : (Str.join PLUS (q :: q2 :: r)).cps.toList = q.cps.toList ++ (32 :: 43 :: 32 :: (Str.join PLUS (q2 :: r)).cps.toList) := by
      show (q ++ PLUS ++ Str.join PLUS (q2 :: r)).cps.toList = _
      simp only [Str.cps_append, Array.toList_append, List.append_assoc]
      rfl
    rw [je]
    rcases List.mem_cons.mp h with rfl | h
    · exact ⟨fun x hx => List.mem_append_left _ hx, by rw [List.length_append]; omega⟩
    · obtain ⟨a, b⟩ := pieceP_in h
      exact ⟨fun x hx => List.mem_append_right _ (List.mem_cons_of_mem _ (List.mem_cons_of_mem _ (List.mem_cons_of_mem _ (a x hx)))), by rw [List.length_append]; simp only [List.length_cons]; omega⟩
theorem Tx.plus {n : Nat} {z p : Str} (h : Tx n z) (hp : p ∈ Txt.split z PLUS) : Tx n p := by
  have k := pieceP_in hp
  rw [StrLaws.join_split] at k
  exact ⟨mem_asc fun x hx => asc_mem h.1 x (k.1 x hx), Nat.le_trans k.2 h.2⟩
theorem plus_many (z : Str) : (Txt.split z PLUS).length ≤ z.length + 2 := by
  have pl := parts_len z PLUS
  unfold Txt.split
  split
  · simp
  · split
    · simp
    · exact pl
theorem any_no {ws : List Str} {k : Str} (h : ∀ y ∈ ws, y ≠ k) : ws.any (fun y => decide (y = k)) = false := by
  rw [List.any_eq_false]
  exact fun y hy e => h y hy (by simpa using e)
theorem part_four (z k f o d : Str) : partP z [k, f, o, d] = if o = Str.ofString "of" then wordO k f d else none := rfl
theorem part_not {z : Str} {ws : List Str} (h1 : ws.length ≠ 1) (h4 : ¬ ∃ k f d, ws = [k, f, Str.ofString "of", d]) : partP z ws = none := by
  match ws, h1, h4 with
  | [], _, _ => rfl
  | [a], h, _ => exact absurd rfl h
  | [a, b], _, _ => rfl
  | [a, b, c], _, _ => rfl
  | [a, b, c, d], _, h => exact if_neg fun e => h ⟨a, b, d, by rw [e]⟩
  | a :: b :: c :: d :: e :: r, _, _ => rfl
theorem fig_at {c : Nat} (h : c ∈ FIG.cps.toList) : Builtin.Str.occurrences (Str.ofString "0123456789") ⟨#[c]⟩ 0 (Str.ofString "0123456789").length 1 = [c - 48] := by
  have r := (fig_iff c).mp h
  have : c = 48 ∨ c = 49 ∨ c = 50 ∨ c = 51 ∨ c = 52 ∨ c = 53 ∨ c = 54 ∨ c = 55 ∨ c = 56 ∨ c = 57 := by omega
  rcases this with rfl | rfl | rfl | rfl | rfl | rfl | rfl | rfl | rfl | rfl <;> decide +kernel
theorem part_one (z a : Str) : partP z [a] = match whN z 0 99 with
    | some n => some (.num n)
    | none => (diceO z).map fun ms => .dice ms.1 ms.2 := by
  show (if 100 ∈ z.cps.toList then (diceO z).map fun ms => Pt.dice ms.1 ms.2 else (whN z 0 99).map Pt.num) = _
  by_cases hd : 100 ∈ z.cps.toList
  · have n : whN z 0 99 = none := if_neg fun k => by
      have := (fig_iff 100).mp (k.1.1.2.2 100 hd)
      omega
    rw [if_pos hd, n]
  · rw [if_neg hd]
    cases whN z 0 99 with
    | some n => rfl
    | none =>
      have d0 : diceO z = none := by
        refine dice_not fun l => ?_
        obtain ⟨p, q, e⟩ : ∃ p q, Txt.split z ⟨#[100]⟩ = [p, q] := by
          generalize Txt.split z ⟨#[100]⟩ = ws at *
          match ws, l with
          | [a, b], _ => exact ⟨a, b, rfl⟩
        have j : Str.join ⟨#[100]⟩ (Txt.split z ⟨#[100]⟩) = z := StrLaws.join_split _ _
        rw [e] at j
        refine hd ?_
        rw [← j, join_cons]
        exact List.mem_append_right _ List.mem_cons_self
      rw [d0]
      rfl
theorem tx_all {ts : List Str} {n : Nat} (h : (ts.all fun y => y.cps.all (· < 128) && decide (y.length ≤ n)) = true) : ∀ t ∈ ts, Tx n t := fun t ht => by
  have := List.all_eq_true.mp h t ht
  rw [Bool.and_eq_true, decide_eq_true_eq] at this
  exact this
/-- a list of texts -/
def Txl (H : Hp) (l : Addr) (n : Nat) : Prop := ∃ ts, H l = some (.lst (List.map V.str ts)) ∧ (∀ t ∈ ts, Tx 1000 t) ∧ 0 < ts.length ∧ ts.length ≤ n
theorem pickL {B : Nat} {ts : List Str} (h : ∀ t ∈ ts, Tx B t) (h0 : 0 < ts.length) (n : Int) : ∃ y, atI (List.map V.str ts) (n % (ts.length : Int)) = some (.str y) ∧ Tx B y := by
  have a0 := Int.emod_nonneg n (show (ts.length : Int) ≠ 0 by omega)
  have a1 := Int.emod_lt_of_pos n (show (0 : Int) < (ts.length : Int) by omega)
  obtain ⟨k, hk⟩ := Int.eq_ofNat_of_zero_le a0
  rw [hk] at a1 ⊢
  have lk : k < ts.length := by omega
  exact ⟨ts[k], atI_nat (by rw [List.getElem?_map, List.getElem?_eq_getElem lk]; rfl), h _ (List.getElem_mem lk)⟩
abbrev GOODS : List Str := [Str.ofString "7", Str.ofString "d6", Str.ofString "3d8", Str.ofString "best 2 of 3d6", Str.ofString "worst 1 of 2d20", Str.ofString "hits 5 of 4d6", Str.ofString "again 2 of d12", Str.ofString "burst 3 of d4", Str.ofString "10"]
theorem pick9 (n : Int) : ∃ y, atI (List.map V.str GOODS) (n % 9) = some (.str y) ∧ Tx 30 y := pickL (ts := GOODS) (tx_all (by decide +kernel)) (by decide) n
def onV : Option Int → V
  | none => .non
  | some n => .int n
/-! ### the promises -/
def spWh : Sp := fun vs H Q _ => ∃ z a b, vs = [.str z, .int a, .int b] ∧ Tx 100000 z ∧ b ≤ 99 ∧ ∀ H', Same H H' → Q (onV (whN z a b)) H'
def spLDc : Sp := fun vs H Q _ => ∃ z, vs = [.str z] ∧ Tx 100000 z ∧ (diceO z = none → ∀ H', Same H H' → Q .non H') ∧ ∀ m s, diceO z = some (m, s) → ∀ p H', Same H H' → H' p = some (.tup [.int m, .int s]) → Q (.ref p) H'
def spLPt : Sp := fun vs H Q _ => ∃ z, vs = [.str z] ∧ Tx 100000 z ∧ (partO z = none → ∀ H', Same H H' → Q .non H') ∧ ∀ r, partO z = some r → ∀ p H', Same H H' → H' p = some (.tup (ptV r)) → Q (.ref p) H'
def spLPl : Sp := fun vs H Q _ => ∃ z, vs = [.str z] ∧ Tx 100000 z ∧ (poolO z = none → ∀ H', Same H H' → Q .non H') ∧ ∀ rs, poolO z = some rs → ∀ l H', Same H H' → Rep H' (poolD rs) (.ref l) → Q (.ref l) H'
def spGd : Sp := fun vs H Q _ => ∃ a b, vs = [.int a, .int b] ∧ ∀ z H', Same H H' → Tx 100 z → Q (.str z) H'
def spNr : Sp := fun vs H Q _ => ∃ n, vs = [.int n] ∧ ∀ z H', Same H H' → Tx 1000 z → Q (.str z) H'
def spBt : Sp := fun vs H Q _ => ∃ z n, vs = [.str z, .int n] ∧ Tx 1000 z ∧ ∀ z' H', Same H H' → Tx (2 * z.length + 1) z' → Q (.str z') H'
def spCls (qn : Addr) : Sp := fun vs H Q _ => ∃ e, vs = [.ref e] ∧ H e = some (ExO e (.ref qn)) ∧ ∀ H', Same H H' → Q (.bl true) H'
def spRt (K : PySem.W.Frag) : Sp := fun vs H Q _ => ∃ v d, vs = [v, d] ∧
  ((∃ z, v = .str z ∧ Tx 100000 z ∧ ((poolO z = none ∧ d = .non) ∨ ∃ rs p, poolO z = some rs ∧ d = .ref p ∧ Rep H (poolD rs) (.ref p))) ∨
   ∃ t, TyOf K H v (.type t) ∧ PySem.W.kitOne K (.type t) (.type "str") = some false ∧ d = .non) ∧ ∀ H', Same H H' → Q (.bl true) H'
def spLaw (K : PySem.W.Frag) : Sp := fun vs H Q _ => ∃ (a : Addr) (ns : List Int), vs = [.ref a] ∧ SqL K H a (ns.map V.int) ∧ ns.length ≤ 63 ∧ ∀ H', Q (.bl true) H'
def spAt (K : PySem.W.Frag) : Sp := fun vs H Q _ => ∃ a ns k, vs = [.ref a, .int k] ∧ SqL K H a (List.map V.int ns) ∧ 0 ≤ k ∧ k < 1000 ∧ ∀ n, Q (.int n) H
def spFig : Sp := fun vs H Q _ => ∃ z, vs = [.str z] ∧ Tx 100000 z ∧ ∀ H', Same H H' → Q (.bl (decide (dig z.cps.toList))) H'
def spWi : Sp := fun vs H Q _ => ∃ z a b, vs = [.str z, .int a, .int b] ∧ Tx 100000 z ∧ ∀ H', Same H H' → Q (onV (whN z a b)) H'
def spRn (qn : Addr) : Sp := fun vs H Q E => ∃ z a b, vs = [.str z, .int a, .int b] ∧ Tx 100000 z ∧ (whN z a b = none → ∀ H', Same H H' → E (.ref qn) none H') ∧ ∀ n, whN z a b = some n → ∀ H', Same H H' → Q (.int n) H'
def spDc (qn : Addr) : Sp := fun vs H Q E => ∃ z, vs = [.str z] ∧ Tx 100000 z ∧ (diceO z = none → ∀ H', Same H H' → E (.ref qn) none H') ∧ ∀ m s, diceO z = some (m, s) → ∀ p H', Same H H' → H' p = some (.tup [.int m, .int s]) → Q (.ref p) H'
def spWd (qn : Addr) : Sp := fun vs H Q E => ∃ k f d, vs = [.str k, .str f, .str d] ∧ Tx 100000 k ∧ Tx 100000 f ∧ Tx 100000 d ∧ (wordO k f d = none → ∀ H', Same H H' → E (.ref qn) none H') ∧ ∀ r, wordO k f d = some r → ∀ p H', Same H H' → H' p = some (.tup (ptV r)) → Q (.ref p) H'
def spPt (qn : Addr) : Sp := fun vs H Q E => ∃ z, vs = [.str z] ∧ Tx 100000 z ∧ (partO z = none → ∀ H', Same H H' → E (.ref qn) none H') ∧ ∀ r, partO z = some r → ∀ p H', Same H H' → H' p = some (.tup (ptV r)) → Q (.ref p) H'
def spRd (K : PySem.W.Frag) (qn : Addr) : Sp := fun vs H Q E => ∃ v, vs = [v] ∧
  ((∃ z, v = .str z ∧ Tx 100000 z ∧ (poolO z = none → ∀ H', Same H H' → E (.ref qn) none H') ∧ ∀ rs, poolO z = some rs → ∀ l H', Same H H' → Rep H' (poolD rs) (.ref l) → Q (.ref l) H') ∨
   ∃ t, TyOf K H v (.type t) ∧ PySem.W.kitOne K (.type t) (.type "str") = some false ∧ E (.ref qn) none H)
section
variable {P : Program} {w : World} {K : PySem.W.Frag} {mg : Str → Option Value} {base : Heap}
variable {q_LuckError q_NoShare q_NoTable q_NoPool q_NoEnd q_TooMany q_NoGame q_NoWay q_NoRule q_NoStep q_NoPlay q_NoRow q_OF_MANY q_OF_ONE : Addr}
theorem sc_is_figures : FnScope ["text"] ["text"] (defScope (top 16)) := ⟨rfl, rfl, rfl, by decide +kernel, rfl, by decide +kernel, by decide +kernel⟩
theorem ok_fig (T : Txt K mg w.params q_LuckError q_NoShare q_NoTable q_NoPool q_NoEnd q_TooMany q_NoGame q_NoWay q_NoRule q_NoStep q_NoPlay q_NoRow q_OF_MANY q_OF_ONE) : Cal P w K mg base (CX1 P w) 1 "is_figures" ["text"] spFig := by
  refine T.d_is_figures.cal (fun _ _ _ _ _ _ us hl => match us, hl with | [_], _ => rfl) fun f fd F => F.okC sc_is_figures (fun vs H Q E h => ?_) (fun cdv A outer s H vs Q E hr h => ?_)
  · obtain ⟨_, rfl, _⟩ := h; rfl
  · obtain ⟨z, rfl, ⟨az, lz⟩, kk⟩ := h
    have nd := sc_is_figures.nd
    refine ⟨_, (pss_one (ps_ret (pe_and (pe_chain op_le op_le pe_int (pe_callB call_lenS (by rfl) T.z_len PySem.boot_len (pa_cons (pv 0) pa_nil (se rfl)) (he := se rfl) (hpl := na rfl)) (pe_globI rfl T.c_MOST_FIGURES)) (pe_one (pe_callB (call_all_lK (K := K)) (by rfl) T.z_all rfl (pa_cons (pe_comp rfl (N := ["text"]) (so := defScope (top 16)) (N' := ["sign"]) (k := 1) (fr := []) rfl rfl ⟨rfl, by decide +kernel, by decide +kernel, by decide +kernel, rfl, by decide +kernel, by decide +kernel⟩ (pi_str (pv 0)) (fun _ _ _ _ _ => (pg_name (i := 0) (show (["sign"] : List Str).Nodup by decide +kernel) rfl (Or.inl rfl))) (fun _ _ _ _ _ => pts_nil)
      (fun _ _ _ _ _ => (pe_cmpR op_in_str (pv 0) (pe_globS rfl T.c_FIGURES) rfl))) pa_nil (se rfl)) (he := se rfl) (hpl := na rfl)))))), ?_⟩
    simp only [L2.start, Pr, tRev, tD1, tDPop1, tSl, tNoPart, tPart, rSlL, tDIn, tDNotIn, gSub, rSetL, tLst, tDNewK, tComp, L2.stC, tFor_eq, iList, iTup, iRng1, iRng2, iZip, iEnum, iDict, iStr, tChain, tSumV, tBM, rJoin, tJoined, jNil, jLit, jInt, jStr, tRaise, tDGet, tDGet2, tDGet1, sDPut, Option.join_some, List.getElem?_nil,  tSeq, tRet, tRetN, tIfS, tTest, tB, tOp, tUn, tVar, tC, tCB, tCons, tNil, tCall, tTupS, tAsg, gName, gNil, gCons, tPar, tNext, tDrop, tAnd, tOr, tNot, tAndV, tOrV, tNotV, tIf, rI, rI0, rU, rIxTH, rIxLH, rEqT, rNeT, rInT, rEq, rNe, scal, CPow, at0, at1, at2, List.map_cons, List.map_nil, List.length_cons, List.length_nil, Nat.reduceSub, Nat.reduceAdd, Nat.zero_add, List.replicate_zero, List.reduceReplicate, List.append_nil, List.nil_append, List.cons_append, List.getElem?_cons_zero, List.getElem?_cons_succ, List.set_cons_zero, List.set_cons_succ, Option.some.injEq, exists_eq_left', exists_eq_left, V.ref.injEq, V.int.injEq, V.bl.injEq, V.str.injEq, V.ty.injEq, HO.tup.injEq, HO.lst.injEq, List.cons.injEq, and_true, true_and, and_assoc, exists_and_left, decide_eq_true_eq, Bool.not_eq_true', decide_eq_false_iff_not, ite_true, ite_false, if_true, if_false, Int.reduceToNat, eq_self_iff_true]
    have sl := sizeLine_eq
    have zl : z.cps.toList.length = z.length := Array.length_toList
    have no : ¬ (1 ≤ z.length ∧ z.length ≤ 12) → Q (.bl false) H := fun n => by
      have := kk H (Same.refl _)
      rw [decide_eq_false fun d : dig z.cps.toList => n ⟨by have := d.1; omega, by have := d.2.1; omega⟩] at this
      exact this
    refine ⟨by omega, ite2 (fun c1 => ite2 (fun c2 => ?_) (fun c2 => no (by omega))) (fun c1 => no (by omega))⟩
    refine ⟨az, ?_⟩
    have S : Src (Its z) (Same H) z.cps.toList.length (fun i x H H3 => H3 = H ∧ ∃ c, z.cps[i]? = some c ∧ x = .str ⟨#[c]⟩) := by rw [Array.length_toList]; exact src_str
    refine comp_vals z.cps.toList (fun c => some (.bl (decide (c ∈ FIG.cps.toList)))) S (fun _ _ _ _ h => h.1) (by omega) ?_ ?_
    · rintro i c x ec ⟨_, c', ec', rfl⟩ Y N y1 _
      rw [Array.getElem?_toList] at ec
      rw [ec] at ec'
      cases ec'
      simp only [L2.start, Pr, tRev, tD1, tDPop1, tSl, tNoPart, tPart, rSlL, tDIn, tDNotIn, gSub, rSetL, tLst, tDNewK, tComp, L2.stC, tFor_eq, iList, iTup, iRng1, iRng2, iZip, iEnum, iDict, iStr, tChain, tSumV, tBM, rJoin, tJoined, jNil, jLit, jInt, jStr, tRaise, tDGet, tDGet2, tDGet1, sDPut, Option.join_some, List.getElem?_nil,  tSeq, tRet, tRetN, tIfS, tTest, tB, tOp, tUn, tVar, tC, tCB, tCons, tNil, tCall, tTupS, tAsg, gName, gNil, gCons, tPar, tNext, tDrop, tAnd, tOr, tNot, tAndV, tOrV, tNotV, tIf, rI, rI0, rU, rIxTH, rIxLH, rEqT, rNeT, rInT, rEq, rNe, scal, CPow, at0, at1, at2, List.map_cons, List.map_nil, List.length_cons, List.length_nil, Nat.reduceSub, Nat.reduceAdd, Nat.zero_add, List.replicate_zero, List.reduceReplicate, List.append_nil, List.nil_append, List.cons_append, List.getElem?_cons_zero, List.getElem?_cons_succ, List.set_cons_zero, List.set_cons_succ, Option.some.injEq, exists_eq_left', exists_eq_left, V.ref.injEq, V.int.injEq, V.bl.injEq, V.str.injEq, V.ty.injEq, HO.tup.injEq, HO.lst.injEq, List.cons.injEq, and_true, true_and, and_assoc, exists_and_left, decide_eq_true_eq, Bool.not_eq_true', decide_eq_false_iff_not, ite_true, ite_false, if_true, if_false, Int.reduceToNat, eq_self_iff_true, tYes, StrLaws.found_one]
      exact y1 _ rfl
    · intro D n1 n2
      rw [fm_map]
      refine ⟨z.cps.toList.map fun c => decide (c ∈ FIG.cps.toList), ?_, ?_⟩
      · rw [List.map_map]; exact SqL.of upd_same
      · have e : (z.cps.toList.map fun c => decide (c ∈ FIG.cps.toList)).all id = decide (dig z.cps.toList) := by
          rw [Bool.eq_iff_iff, decide_eq_true_eq, List.all_map, List.all_eq_true]
          exact ⟨fun a => ⟨by omega, by omega, fun c hc => by simpa using a c hc⟩, fun d c hc => by simpa using d.2.2 c hc⟩
        rw [e]
        exact kk _ (same_upd n2)
theorem sc_whole_in : FnScope ["text", "least", "most", "number"] ["text", "least", "most"] (defScope (top 17)) := ⟨rfl, rfl, rfl, by decide +kernel, rfl, by decide +kernel, by decide +kernel⟩
theorem ok_wi (T : Txt K mg w.params q_LuckError q_NoShare q_NoTable q_NoPool q_NoEnd q_TooMany q_NoGame q_NoWay q_NoRule q_NoStep q_NoPlay q_NoRow q_OF_MANY q_OF_ONE) : Cal P w K mg base (CX1 P w) 2 "whole_in" ["text", "least", "most"] spWi := by
  have c_is_figures : Cal P w K mg base (CX1 P w) 1 "is_figures" ["text"] spFig := ok_fig T
  refine T.d_whole_in.cal (fun _ _ _ _ _ _ us hl => match us, hl with | [_, _, _], _ => rfl) fun f fd F => F.okC sc_whole_in (fun vs H Q E h => ?_) (fun cdv A outer s H vs Q E hr h => ?_)
  · obtain ⟨_, _, _, rfl, _⟩ := h; rfl
  · obtain ⟨z, lo, hi, rfl, tz, kk⟩ := h
    have nd := sc_whole_in.nd
    refine ⟨_, (pss_cons (ps_if (pt_not (pt_val (pe_cal c_is_figures (hr.mono (by decide)) rfl strictP.pass (pa_cons (pv 0) pa_nil (se rfl)) (he := se rfl) (hpl := na rfl)))) (pss_one (ps_ret pe_non))
      pss_nil)
    (pss_cons (ps_set (i := 3) nd rfl (Or.inl rfl) (pe_callTy call_int_s (by rfl) T.z_int rfl (pa_cons (pv 0) pa_nil (se rfl)) (he := se rfl) (hpl := na rfl)))
    (pss_one (ps_ret (pe_ifExp (PW.pt (pw_and (pt_cmpR op_eq (pe_callTy call_str_i (by rfl) T.z_str rfl (pa_cons (pv 3) pa_nil (se rfl)) (he := se rfl) (hpl := na rfl)) (pv 0) (nomark _)) (pw_and1 (pt_chain op_le op_le (pv 1) (pv 3) (pv 2))))) (pv 3) pe_non))))), ?_⟩
    simp only [L2.start, Pr, tRev, tD1, tDPop1, tSl, tNoPart, tPart, rSlL, tDIn, tDNotIn, gSub, rSetL, tLst, tDNewK, tComp, L2.stC, tFor_eq, iList, iTup, iRng1, iRng2, iZip, iEnum, iDict, iStr, tChain, tSumV, tBM, rJoin, tJoined, jNil, jLit, jInt, jStr, tRaise, tDGet, tDGet2, tDGet1, sDPut, Option.join_some, List.getElem?_nil,  tSeq, tRet, tRetN, tIfS, tTest, tB, tOp, tUn, tVar, tC, tCB, tCons, tNil, tCall, tTupS, tAsg, gName, gNil, gCons, tPar, tNext, tDrop, tAnd, tOr, tNot, tAndV, tOrV, tNotV, tIf, rI, rI0, rU, rIxTH, rIxLH, rEqT, rNeT, rInT, rEq, rNe, scal, CPow, at0, at1, at2, List.map_cons, List.map_nil, List.length_cons, List.length_nil, Nat.reduceSub, Nat.reduceAdd, Nat.zero_add, List.replicate_zero, List.reduceReplicate, List.append_nil, List.nil_append, List.cons_append, List.getElem?_cons_zero, List.getElem?_cons_succ, List.set_cons_zero, List.set_cons_succ, Option.some.injEq, exists_eq_left', exists_eq_left, V.ref.injEq, V.int.injEq, V.bl.injEq, V.str.injEq, V.ty.injEq, HO.tup.injEq, HO.lst.injEq, List.cons.injEq, and_true, true_and, and_assoc, exists_and_left, decide_eq_true_eq, Bool.not_eq_true', decide_eq_false_iff_not, ite_true, ite_false, if_true, if_false, Int.reduceToNat, eq_self_iff_true, spFig]
    refine ⟨tz, fun H1 s1 => ?_⟩
    have kk := kk H1 s1
    unfold whN at kk
    have zl : z.cps.toList.length = z.length := Array.length_toList
    by_cases d : dig z.cps.toList
    case neg =>
      rw [if_neg (fun k => d k.1.1)] at kk
      rw [if_pos d]
      exact kk
    have d2 := d.2.1
    have vl := d.lt
    rw [if_neg (fun h => h d)]
    have rd : PySem.intText? z = some ((val z.cps.toList : Nat) : Int) := PySem.intText_digits d.all (by intro y; have := d.1; rw [y] at this; simp at this) (by omega)
    have tl : Str.ofString (toString ((val z.cps.toList : Nat) : Int)) = z ↔ ¬ lead z.cps.toList := by
      rw [← num_canon d]
      exact ⟨fun e => by show (Str.ofString _).cps.toList = _; rw [e], fun e => str_ext e⟩
    have lg : (((val z.cps.toList : Nat) : Int)).natAbs.log2 < 1920 := by
      have : (((val z.cps.toList : Nat) : Int)).natAbs.log2 < 60 := by
        by_cases y : (((val z.cps.toList : Nat) : Int)).natAbs = 0
        · rw [y]; decide
        · exact (Nat.log2_lt y).mpr (by omega)
      omega
    refine ⟨by omega, _, rd, lg, ?_⟩
    by_cases ld : lead z.cps.toList
    · rw [if_neg (fun e => tl.mp e ld), if_neg (by decide)]
      rw [if_neg (fun k => k.1.2 ld)] at kk
      exact kk
    · have c : canon z.cps.toList := ⟨d, ld⟩
      rw [if_pos (tl.mpr ld)]
      by_cases v1 : lo ≤ ((val z.cps.toList : Nat) : Int)
      · rw [if_pos v1]
        by_cases v2 : ((val z.cps.toList : Nat) : Int) ≤ hi
        · rw [if_pos (by simpa using v2)]
          rw [if_pos ⟨c, v1, v2⟩] at kk
          exact kk
        · rw [if_neg (by simpa using v2)]
          rw [if_neg (fun k => v2 k.2.2)] at kk
          exact kk
      · rw [if_neg v1, if_neg (by decide)]
        rw [if_neg (fun k => v1 k.2.1)] at kk
        exact kk
theorem sc_read_number : FnScope ["text", "least", "most", "number"] ["text", "least", "most"] (defScope (top 25)) := ⟨rfl, rfl, rfl, by decide +kernel, rfl, by decide +kernel, by decide +kernel⟩
theorem ok_rn (T : Txt K mg w.params q_LuckError q_NoShare q_NoTable q_NoPool q_NoEnd q_TooMany q_NoGame q_NoWay q_NoRule q_NoStep q_NoPlay q_NoRow q_OF_MANY q_OF_ONE) : Cal P w K mg base (CX1 P w) 3 "read_number" ["text", "least", "most"] (spRn q_NoPool) := by
  have c_whole_in : Cal P w K mg base (CX1 P w) 2 "whole_in" ["text", "least", "most"] spWi := ok_wi T
  refine T.d_read_number.cal (fun _ _ _ _ _ _ us hl => match us, hl with | [_, _, _], _ => rfl) fun f fd F => F.okX sc_read_number (fun vs H Q E h => ?_) (fun cdv A outer s H vs Q E hr h => ?_)
  · obtain ⟨_, _, _, rfl, _⟩ := h; rfl
  · obtain ⟨z, a, b, rfl, tz, kE, kQ⟩ := h
    have nd := sc_read_number.nd
    have hd0 : A.handled = none := hr.hd
    refine ⟨_, (pss_cons (ps_set (i := 3) nd rfl (Or.inl rfl) (pe_cal c_whole_in (hr.mono (by decide)) rfl strictP.pass (pa_cons (pv 0) (pa_cons (pv 1) (pa_cons (pv 2) pa_nil (se rfl)) (se rfl)) (se rfl)) (he := se rfl) (hpl := na rfl)))
    (pss_cons (ps_if (pt_cmpR op_isN (pv 3) pe_non (nomark _)) (pss_one (ps_raise rfl T.k_NoPool T.x_NoPool hd0 (pa_cons pe_str pa_nil (se rfl)) (he := se rfl) (hpl := na rfl)))
      pss_nil)
    (pss_one (ps_ret (pv 3))))), ?_⟩
    simp only [L2.start, Pr, tRev, tD1, tDPop1, tSl, tNoPart, tPart, rSlL, tDIn, tDNotIn, gSub, rSetL, tLst, tDNewK, tComp, L2.stC, tFor_eq, iList, iTup, iRng1, iRng2, iZip, iEnum, iDict, iStr, tChain, tSumV, tBM, rJoin, tJoined, jNil, jLit, jInt, jStr, tRaise, tDGet, tDGet2, tDGet1, sDPut, Option.join_some, List.getElem?_nil,  tSeq, tRet, tRetN, tIfS, tTest, tB, tOp, tUn, tVar, tC, tCB, tCons, tNil, tCall, tTupS, tAsg, gName, gNil, gCons, tPar, tNext, tDrop, tAnd, tOr, tNot, tAndV, tOrV, tNotV, tIf, rI, rI0, rU, rIxTH, rIxLH, rEqT, rNeT, rInT, rEq, rNe, scal, CPow, at0, at1, at2, List.map_cons, List.map_nil, List.length_cons, List.length_nil, Nat.reduceSub, Nat.reduceAdd, Nat.zero_add, List.replicate_zero, List.reduceReplicate, List.append_nil, List.nil_append, List.cons_append, List.getElem?_cons_zero, List.getElem?_cons_succ, List.set_cons_zero, List.set_cons_succ, Option.some.injEq, exists_eq_left', exists_eq_left, V.ref.injEq, V.int.injEq, V.bl.injEq, V.str.injEq, V.ty.injEq, HO.tup.injEq, HO.lst.injEq, List.cons.injEq, and_true, true_and, and_assoc, exists_and_left, decide_eq_true_eq, Bool.not_eq_true', decide_eq_false_iff_not, ite_true, ite_false, if_true, if_false, Int.reduceToNat, eq_self_iff_true, spWi, tRaise]
    refine ⟨tz, fun H1 s1 => ?_⟩
    cases e : whN z a b with
    | none =>
      rw [if_pos (by rfl)]
      exact ⟨by decide, kE e _ s1⟩
    | some n =>
      rw [if_neg (by simp [onV])]
      exact kQ n e _ s1
theorem sc_read_dice : FnScope ["text", "pieces", "dice"] ["text"] (defScope (top 26)) := ⟨rfl, rfl, rfl, by decide +kernel, rfl, by decide +kernel, by decide +kernel⟩
theorem ok_dc (T : Txt K mg w.params q_LuckError q_NoShare q_NoTable q_NoPool q_NoEnd q_TooMany q_NoGame q_NoWay q_NoRule q_NoStep q_NoPlay q_NoRow q_OF_MANY q_OF_ONE) : Cal P w K mg base (CX1 P w) 4 "read_dice" ["text"] (spDc q_NoPool) := by
  have c_read_number : Cal P w K mg base (CX1 P w) 3 "read_number" ["text", "least", "most"] (spRn q_NoPool) := ok_rn T
  refine T.d_read_dice.cal (fun _ _ _ _ _ _ us hl => match us, hl with | [_], _ => rfl) fun f fd F => F.okX sc_read_dice (fun vs H Q E h => ?_) (fun cdv A outer s H vs Q E hr h => ?_)
  · obtain ⟨_, rfl, _⟩ := h; rfl
  · obtain ⟨z, rfl, tz, kE, kQ⟩ := h
    have nd := sc_read_dice.nd
    have hd0 : A.handled = none := hr.hd
    refine ⟨_, (pss_cons (ps_set (i := 1) nd rfl (Or.inl rfl) (pe_bm PySem.F.plainAttrs_str PySem.F.slot_str_split PySem.F.type_str_split mt_split (pv 0) (pa_cons pe_str pa_nil (se rfl))))
    (pss_cons (ps_if (pt_cmpR op_ne (pe_callB call_lenL (by rfl) T.z_len PySem.boot_len (pa_cons (pv 1) pa_nil (se rfl)) (he := se rfl) (hpl := na rfl)) pe_int (nomark _)) (pss_one (ps_raise rfl T.k_NoPool T.x_NoPool hd0 (pa_cons pe_str pa_nil (se rfl)) (he := se rfl) (hpl := na rfl)))
      pss_nil)
    (pss_cons (ps_set (i := 2) nd rfl (Or.inl rfl) (pe_ifExp (pt_cmpR op_eq (pe_ix ix_listH (pv 1) pe_int (fun _ _ => rfl)) pe_str (nomark _)) pe_int (pe_cal c_read_number (hr.mono (by decide)) rfl xe_pass (pa_cons (pe_ix ix_listH (pv 1) pe_int (fun _ _ => rfl)) (pa_cons pe_int (pa_cons (pe_globI rfl T.c_MOST_DICE) pa_nil (se rfl)) (se rfl)) (se rfl)) (he := se rfl) (hpl := na rfl))))
    (pss_one (ps_ret (pe_tupS (pa_cons (pv 2) (pa_cons (pe_cal c_read_number (hr.mono (by decide)) rfl xe_pass (pa_cons (pe_ix ix_listH (pv 1) pe_int (fun _ _ => rfl)) (pa_cons pe_int (pa_cons (pe_globI rfl T.c_MOST_SIDES) pa_nil (se rfl)) (se rfl)) (se rfl)) (he := se rfl) (hpl := na rfl)) pa_nil (se rfl)) (se rfl)))))))), ?_⟩
    have tl := tz.2
    have e100 : Str.ofString "d" = ⟨#[100]⟩ := by decide +kernel
    change tSeq _ _ _ [some (.str z), none, none] H
    refine seq_gen (fun σ' H1 => Same H H1 ∧ ∃ l, H1 l = some (.lst (List.map V.str (Txt.split z ⟨#[100]⟩))) ∧ σ' = [some (.str z), some (.ref l), none]) ?_ (fun N hN => ?_)
    case refine_2 =>
      simp only [L2.start, Pr, tRev, tD1, tDPop1, tSl, tNoPart, tPart, rSlL, tDIn, tDNotIn, gSub, rSetL, tLst, tDNewK, tComp, L2.stC, tFor_eq, iList, iTup, iRng1, iRng2, iZip, iEnum, iDict, iStr, tChain, tSumV, tBM, rJoin, tJoined, jNil, jLit, jInt, jStr, tRaise, tDGet, tDGet2, tDGet1, sDPut, Option.join_some, List.getElem?_nil,  tSeq, tRet, tRetN, tIfS, tTest, tB, tOp, tUn, tVar, tC, tCB, tCons, tNil, tCall, tTupS, tAsg, gName, gNil, gCons, tPar, tNext, tDrop, tAnd, tOr, tNot, tAndV, tOrV, tNotV, tIf, rI, rI0, rU, rIxTH, rIxLH, rEqT, rNeT, rInT, rEq, rNe, scal, CPow, at0, at1, at2, List.map_cons, List.map_nil, List.length_cons, List.length_nil, Nat.reduceSub, Nat.reduceAdd, Nat.zero_add, List.replicate_zero, List.reduceReplicate, List.append_nil, List.nil_append, List.cons_append, List.getElem?_cons_zero, List.getElem?_cons_succ, List.set_cons_zero, List.set_cons_succ, Option.some.injEq, exists_eq_left', exists_eq_left, V.ref.injEq, V.int.injEq, V.bl.injEq, V.str.injEq, V.ty.injEq, HO.tup.injEq, HO.lst.injEq, List.cons.injEq, and_true, true_and, and_assoc, exists_and_left, decide_eq_true_eq, Bool.not_eq_true', decide_eq_false_iff_not, ite_true, ite_false, if_true, if_false, Int.reduceToNat, eq_self_iff_true]
      exact ⟨rfl, 100, e100, by omega, fun l nl => hN _ _ ⟨same_upd nl, l, upd_same, rfl⟩⟩
    rintro _ H1 ⟨sm1, l, hl, rfl⟩
    change tSeq _ _ _ [some (.str z), some (.ref l), none] H1
    refine seq_gen (fun σ' H2 => H1 = H2 ∧ (∃ p q, Txt.split z ⟨#[100]⟩ = [p, q]) ∧ σ' = [some (.str z), some (.ref l), none]) ?_ (fun N hN => ?_)
    case refine_2 =>
      simp only [L2.start, Pr, tRev, tD1, tDPop1, tSl, tNoPart, tPart, rSlL, tDIn, tDNotIn, gSub, rSetL, tLst, tDNewK, tComp, L2.stC, tFor_eq, iList, iTup, iRng1, iRng2, iZip, iEnum, iDict, iStr, tChain, tSumV, tBM, rJoin, tJoined, jNil, jLit, jInt, jStr, tRaise, tDGet, tDGet2, tDGet1, sDPut, Option.join_some, List.getElem?_nil,  tSeq, tRet, tRetN, tIfS, tTest, tB, tOp, tUn, tVar, tC, tCB, tCons, tNil, tCall, tTupS, tAsg, gName, gNil, gCons, tPar, tNext, tDrop, tAnd, tOr, tNot, tAndV, tOrV, tNotV, tIf, rI, rI0, rU, rIxTH, rIxLH, rEqT, rNeT, rInT, rEq, rNe, scal, CPow, at0, at1, at2, List.map_cons, List.map_nil, List.length_cons, List.length_nil, Nat.reduceSub, Nat.reduceAdd, Nat.zero_add, List.replicate_zero, List.reduceReplicate, List.append_nil, List.nil_append, List.cons_append, List.getElem?_cons_zero, List.getElem?_cons_succ, List.set_cons_zero, List.set_cons_succ, Option.some.injEq, exists_eq_left', exists_eq_left, V.ref.injEq, V.int.injEq, V.bl.injEq, V.str.injEq, V.ty.injEq, HO.tup.injEq, HO.lst.injEq, List.cons.injEq, and_true, true_and, and_assoc, exists_and_left, decide_eq_true_eq, Bool.not_eq_true', decide_eq_false_iff_not, ite_true, ite_false, if_true, if_false, Int.reduceToNat, eq_self_iff_true, tRaise]
      refine ⟨_, hl, ?_⟩
      rw [List.length_map]
      by_cases l2 : (Txt.split z ⟨#[100]⟩).length = 2
      · rw [if_neg (by omega)]
        refine hN _ _ ⟨rfl, ?_, rfl⟩
        generalize Txt.split z ⟨#[100]⟩ = ws at *
        match ws, l2 with
        | [a, b], _ => exact ⟨a, b, rfl⟩
      · rw [if_pos (by omega)]
        exact ⟨by decide, kE (dice_not l2) _ sm1⟩
    rintro _ _ ⟨rfl, ⟨p, q, e⟩, rfl⟩
    have dz := dice_two e
    have tp : Tx 100000 p := tz.piece (c := 100) (by rw [e]; simp)
    have tq : Tx 100000 q := tz.piece (c := 100) (by rw [e]; simp)
    rw [e] at hl
    have hl : H1 l = some (.lst [V.str p, V.str q]) := hl
    change tSeq _ _ _ [some (.str z), some (.ref l), none] H1
    refine seq_gen (fun σ' H2 => Same H1 H2 ∧ ∃ m, (if p = Str.ofString "" then some 1 else whN p 2 6) = some m ∧ σ' = [some (.str z), some (.ref l), some (.int m)]) ?_ (fun N hN => ?_)
    case refine_2 =>
      simp only [L2.start, Pr, tRev, tD1, tDPop1, tSl, tNoPart, tPart, rSlL, tDIn, tDNotIn, gSub, rSetL, tLst, tDNewK, tComp, L2.stC, tFor_eq, iList, iTup, iRng1, iRng2, iZip, iEnum, iDict, iStr, tChain, tSumV, tBM, rJoin, tJoined, jNil, jLit, jInt, jStr, tRaise, tDGet, tDGet2, tDGet1, sDPut, Option.join_some, List.getElem?_nil,  tSeq, tRet, tRetN, tIfS, tTest, tB, tOp, tUn, tVar, tC, tCB, tCons, tNil, tCall, tTupS, tAsg, gName, gNil, gCons, tPar, tNext, tDrop, tAnd, tOr, tNot, tAndV, tOrV, tNotV, tIf, rI, rI0, rU, rIxTH, rIxLH, rEqT, rNeT, rInT, rEq, rNe, scal, CPow, at0, at1, at2, List.map_cons, List.map_nil, List.length_cons, List.length_nil, Nat.reduceSub, Nat.reduceAdd, Nat.zero_add, List.replicate_zero, List.reduceReplicate, List.append_nil, List.nil_append, List.cons_append, List.getElem?_cons_zero, List.getElem?_cons_succ, List.set_cons_zero, List.set_cons_succ, Option.some.injEq, exists_eq_left', exists_eq_left, V.ref.injEq, V.int.injEq, V.bl.injEq, V.str.injEq, V.ty.injEq, HO.tup.injEq, HO.lst.injEq, List.cons.injEq, and_true, true_and, and_assoc, exists_and_left, decide_eq_true_eq, Bool.not_eq_true', decide_eq_false_iff_not, ite_true, ite_false, if_true, if_false, Int.reduceToNat, eq_self_iff_true, spRn, hl]
      by_cases e0 : p = Str.ofString ""
      · rw [if_pos e0]
        exact hN _ _ ⟨Same.refl _, 1, if_pos e0, rfl⟩
      · rw [if_neg e0]
        refine ⟨tp, fun no H2 s2 => kE ?_ _ (sm1.trans s2), fun m em H2 s2 => hN _ _ ⟨s2, m, by rw [if_neg e0]; exact em, rfl⟩⟩
        rw [dz, if_neg e0, no]
        rfl
    rintro _ H2 ⟨sm2, m, em, rfl⟩
    have hl2 := sm2 _ _ hl
    simp only [L2.start, Pr, tRev, tD1, tDPop1, tSl, tNoPart, tPart, rSlL, tDIn, tDNotIn, gSub, rSetL, tLst, tDNewK, tComp, L2.stC, tFor_eq, iList, iTup, iRng1, iRng2, iZip, iEnum, iDict, iStr, tChain, tSumV, tBM, rJoin, tJoined, jNil, jLit, jInt, jStr, tRaise, tDGet, tDGet2, tDGet1, sDPut, Option.join_some, List.getElem?_nil,  tSeq, tRet, tRetN, tIfS, tTest, tB, tOp, tUn, tVar, tC, tCB, tCons, tNil, tCall, tTupS, tAsg, gName, gNil, gCons, tPar, tNext, tDrop, tAnd, tOr, tNot, tAndV, tOrV, tNotV, tIf, rI, rI0, rU, rIxTH, rIxLH, rEqT, rNeT, rInT, rEq, rNe, scal, CPow, at0, at1, at2, List.map_cons, List.map_nil, List.length_cons, List.length_nil, Nat.reduceSub, Nat.reduceAdd, Nat.zero_add, List.replicate_zero, List.reduceReplicate, List.append_nil, List.nil_append, List.cons_append, List.getElem?_cons_zero, List.getElem?_cons_succ, List.set_cons_zero, List.set_cons_succ, Option.some.injEq, exists_eq_left', exists_eq_left, V.ref.injEq, V.int.injEq, V.bl.injEq, V.str.injEq, V.ty.injEq, HO.tup.injEq, HO.lst.injEq, List.cons.injEq, and_true, true_and, and_assoc, exists_and_left, decide_eq_true_eq, Bool.not_eq_true', decide_eq_false_iff_not, ite_true, ite_false, if_true, if_false, Int.reduceToNat, eq_self_iff_true, spRn, hl2]
    refine ⟨tq, fun no H3 s3 => kE ?_ _ (sm1.trans (sm2.trans s3)), fun s' es H3 s3 => ⟨by decide, fun r H4 s4 nr e4 => kQ m s' ?_ r H4 (sm1.trans (sm2.trans (s3.trans s4))) e4⟩⟩
    · rw [dz, em, no]
      rfl
    · rw [dz, em, es]
      rfl
theorem sc_read_worded : FnScope ["kind", "figures", "dice_text", "dice", "number"] ["kind", "figures", "dice_text"] (defScope (top 27)) := ⟨rfl, rfl, rfl, by decide +kernel, rfl, by decide +kernel, by decide +kernel⟩
theorem ok_wd (T : Txt K mg w.params q_LuckError q_NoShare q_NoTable q_NoPool q_NoEnd q_TooMany q_NoGame q_NoWay q_NoRule q_NoStep q_NoPlay q_NoRow q_OF_MANY q_OF_ONE) : Cal P w K mg base (CX1 P w) 5 "read_worded" ["kind", "figures", "dice_text"] (spWd q_NoPool) := by
  have c_read_number : Cal P w K mg base (CX1 P w) 3 "read_number" ["text", "least", "most"] (spRn q_NoPool) := ok_rn T
  have c_read_dice : Cal P w K mg base (CX1 P w) 4 "read_dice" ["text"] (spDc q_NoPool) := ok_dc T
  refine T.d_read_worded.cal (fun _ _ _ _ _ _ us hl => match us, hl with | [_, _, _], _ => rfl) fun f fd F => F.okX sc_read_worded (fun vs H Q E h => ?_) (fun cdv A outer s H vs Q E hr h => ?_)
  · obtain ⟨_, _, _, rfl, _⟩ := h; rfl
  · obtain ⟨k, g, d, rfl, tk, tg, td, kE, kQ⟩ := h
    have nd := sc_read_worded.nd
    have hd0 : A.handled = none := hr.hd
    refine ⟨_, (pss_cons (ps_set (i := 3) nd rfl (Or.inl rfl) (pe_cal c_read_dice (hr.mono (by decide)) rfl xe_pass (pa_cons (pv 2) pa_nil (se rfl)) (he := se rfl) (hpl := na rfl)))
    (pss_cons (ps_if (pt_cmpR (op_in_modK (K := K) (w := w)) (pv 0) (pe_glob (v := V.ref _) rfl T.g_OF_ONE rfl) rfl) (pss_cons (ps_set (i := 4) nd rfl (Or.inl rfl) (pe_cal c_read_number (hr.mono (by decide)) rfl xe_pass (pa_cons (pv 1) (pa_cons (pe_ix (ix_tupQK (K := K)) (pe_mget (K := K) (w := w) (pe_glob (v := V.ref _) rfl T.g_OF_ONE rfl) (pv 0) (fun _ _ => rfl)) pe_int (fun _ _ => rfl)) (pa_cons (pe_ix (ix_tupQK (K := K)) (pe_mget (K := K) (w := w) (pe_glob (v := V.ref _) rfl T.g_OF_ONE rfl) (pv 0) (fun _ _ => rfl)) pe_int (fun _ _ => rfl)) pa_nil (se rfl)) (se rfl)) (se rfl)) (he := se rfl) (hpl := na rfl)))
    (pss_cons (ps_if (pt_cmpR op_ne (pe_ix ix_tupH (pv 3) pe_int (fun _ _ => rfl)) pe_int (nomark _)) (pss_one (ps_raise rfl T.k_NoPool T.x_NoPool hd0 (pa_cons pe_str pa_nil (se rfl)) (he := se rfl) (hpl := na rfl)))
      pss_nil)
    (pss_one (ps_ret (pe_tupS (pa_cons (pv 0) (pa_cons (pv 4) (pa_cons (pe_ix ix_tupH (pv 3) pe_int (fun _ _ => rfl)) pa_nil (se rfl)) (se rfl)) (se rfl)))))))
      pss_nil)
    (pss_cons (ps_if (pt_cmpR (op_notin_modK (K := K) (w := w)) (pv 0) (pe_glob (v := V.ref _) rfl T.g_OF_MANY rfl) rfl) (pss_one (ps_raise rfl T.k_NoPool T.x_NoPool hd0 (pa_cons pe_str pa_nil (se rfl)) (he := se rfl) (hpl := na rfl)))
      pss_nil)
    (pss_cons (ps_set (i := 4) nd rfl (Or.inl rfl) (pe_cal c_read_number (hr.mono (by decide)) rfl xe_pass (pa_cons (pv 1) (pa_cons (pe_ix (ix_tupQK (K := K)) (pe_mget (K := K) (w := w) (pe_glob (v := V.ref _) rfl T.g_OF_MANY rfl) (pv 0) (fun _ _ => rfl)) pe_int (fun _ _ => rfl)) (pa_cons (pe_ix (ix_tupQK (K := K)) (pe_mget (K := K) (w := w) (pe_glob (v := V.ref _) rfl T.g_OF_MANY rfl) (pv 0) (fun _ _ => rfl)) pe_int (fun _ _ => rfl)) pa_nil (se rfl)) (se rfl)) (se rfl)) (he := se rfl) (hpl := na rfl)))
    (pss_cons (ps_if (PW.pt (pw_and (pt_cmpR op_ne (pv 0) pe_str (nomark _)) (pw_and1 (pt_cmpR op_gt (pv 4) (pe_ix ix_tupH (pv 3) pe_int (fun _ _ => rfl)) (nomark _))))) (pss_one (ps_raise rfl T.k_NoPool T.x_NoPool hd0 (pa_cons pe_str pa_nil (se rfl)) (he := se rfl) (hpl := na rfl)))
      pss_nil)
    (pss_one (ps_ret (pe_tupS (pa_cons (pv 0) (pa_cons (pv 4) (pa_cons (pe_ix ix_tupH (pv 3) pe_int (fun _ _ => rfl)) (pa_cons (pe_ix ix_tupH (pv 3) pe_int (fun _ _ => rfl)) pa_nil (se rfl)) (se rfl)) (se rfl)) (se rfl)))))))))), ?_⟩
    change tSeq _ _ _ [some (.str k), some (.str g), some (.str d), none, none] H
    refine seq_gen (fun σ' H1 => Same H H1 ∧ ∃ m x p, diceO d = some (m, x) ∧ H1 p = some (.tup [.int m, .int x]) ∧ σ' = [some (.str k), some (.str g), some (.str d), some (.ref p), none]) ?_ (fun N hN => ?_)
    case refine_2 =>
      simp only [L2.start, Pr, tRev, tD1, tDPop1, tSl, tNoPart, tPart, rSlL, tDIn, tDNotIn, gSub, rSetL, tLst, tDNewK, tComp, L2.stC, tFor_eq, iList, iTup, iRng1, iRng2, iZip, iEnum, iDict, iStr, tChain, tSumV, tBM, rJoin, tJoined, jNil, jLit, jInt, jStr, tRaise, tDGet, tDGet2, tDGet1, sDPut, Option.join_some, List.getElem?_nil,  tSeq, tRet, tRetN, tIfS, tTest, tB, tOp, tUn, tVar, tC, tCB, tCons, tNil, tCall, tTupS, tAsg, gName, gNil, gCons, tPar, tNext, tDrop, tAnd, tOr, tNot, tAndV, tOrV, tNotV, tIf, rI, rI0, rU, rIxTH, rIxLH, rEqT, rNeT, rInT, rEq, rNe, scal, CPow, at0, at1, at2, List.map_cons, List.map_nil, List.length_cons, List.length_nil, Nat.reduceSub, Nat.reduceAdd, Nat.zero_add, List.replicate_zero, List.reduceReplicate, List.append_nil, List.nil_append, List.cons_append, List.getElem?_cons_zero, List.getElem?_cons_succ, List.set_cons_zero, List.set_cons_succ, Option.some.injEq, exists_eq_left', exists_eq_left, V.ref.injEq, V.int.injEq, V.bl.injEq, V.str.injEq, V.ty.injEq, HO.tup.injEq, HO.lst.injEq, List.cons.injEq, and_true, true_and, and_assoc, exists_and_left, decide_eq_true_eq, Bool.not_eq_true', decide_eq_false_iff_not, ite_true, ite_false, if_true, if_false, Int.reduceToNat, eq_self_iff_true, spDc]
      exact ⟨td, fun no H1 s1 => kE (by unfold wordO; rw [no]; rfl) _ s1, fun m x e p H1 s1 hp => hN _ _ ⟨s1, m, x, p, e, hp, rfl⟩⟩
    rintro _ H1 ⟨sm1, m, x, p, ed, hp, rfl⟩
    have wo : wordO k g d = wordP k g m x := by unfold wordO; rw [ed]; rfl
    rw [wo] at kE kQ
    change tSeq _ _ _ [some (.str k), some (.str g), some (.str d), some (.ref p), none] H1
    by_cases one : k = Str.ofString "again" ∨ k = Str.ofString "burst"
    · have ye : (["again", "burst"] : List Str).any (fun y => decide (y = k)) = true := by rcases one with h | h <;> rw [h] <;> decide +kernel
      obtain ⟨hi, wp, pp, es, nn, hl, hk, e, sq⟩ : ∃ hi : Int, (wordP k g m x = (whN g 0 hi).bind fun n => if m = 1 then some (.one k n x) else none) ∧ ∃ pp es nn, K.lookup q_OF_ONE = some ⟨.type "dict", none, .dict es nn, #[]⟩ ∧ PySem.W.KeysLit w.params es.toList ∧ PySem.W.nsIn K q_OF_ONE k = some (some (.ref pp)) ∧ ∀ H, SqT K H pp [.int 0, .int hi] := by
        by_cases h : k = Str.ofString "again"
        · exact ⟨20, if_pos h, by rw [h]; exact MRow.rd T.r_OF_ONE_again T.m_OF_ONE⟩
        · rcases one with h1 | h2
          · exact absurd h1 h
          · exact ⟨6, (if_neg h).trans (if_pos h2), by rw [h2]; exact MRow.rd T.r_OF_ONE_burst T.m_OF_ONE⟩
      rw [wp] at kE kQ
      refine seq_gen (fun _ _ => False) (fun _ _ h => h.elim) (fun N hN => ?_)
      simp only [L2.start, Pr, tRev, tD1, tDPop1, tSl, tNoPart, tPart, rSlL, tDIn, tDNotIn, gSub, rSetL, tLst, tDNewK, tComp, L2.stC, tFor_eq, iList, iTup, iRng1, iRng2, iZip, iEnum, iDict, iStr, tChain, tSumV, tBM, rJoin, tJoined, jNil, jLit, jInt, jStr, tRaise, tDGet, tDGet2, tDGet1, sDPut, Option.join_some, List.getElem?_nil,  tSeq, tRet, tRetN, tIfS, tTest, tB, tOp, tUn, tVar, tC, tCB, tCons, tNil, tCall, tTupS, tAsg, gName, gNil, gCons, tPar, tNext, tDrop, tAnd, tOr, tNot, tAndV, tOrV, tNotV, tIf, rI, rI0, rU, rIxTH, rIxLH, rEqT, rNeT, rInT, rEq, rNe, scal, CPow, at0, at1, at2, List.map_cons, List.map_nil, List.length_cons, List.length_nil, Nat.reduceSub, Nat.reduceAdd, Nat.zero_add, List.replicate_zero, List.reduceReplicate, List.append_nil, List.nil_append, List.cons_append, List.getElem?_cons_zero, List.getElem?_cons_succ, List.set_cons_zero, List.set_cons_succ, Option.some.injEq, exists_eq_left', exists_eq_left, V.ref.injEq, V.int.injEq, V.bl.injEq, V.str.injEq, V.ty.injEq, HO.tup.injEq, HO.lst.injEq, List.cons.injEq, and_true, true_and, and_assoc, exists_and_left, decide_eq_true_eq, Bool.not_eq_true', decide_eq_false_iff_not, ite_true, ite_false, if_true, if_false, Int.reduceToNat, eq_self_iff_true, tMGet, rIxT, spRn, tRaise]
      refine MDict.rd T.m_OF_ONE ⟨_, rfl, ?_⟩
      rw [if_pos ye]
      refine ⟨pp, es, nn, hl, hk, e, _, sq _, _, at0, pp, es, nn, hl, hk, e, _, sq _, _, at1, 0, rfl, hi, rfl, tg, fun no H2 s2 => kE (by rw [no]; rfl) _ (sm1.trans s2), fun n en H2 s2 => ?_⟩
      have hp2 := s2 _ _ hp
      simp only [L2.start, Pr, tRev, tD1, tDPop1, tSl, tNoPart, tPart, rSlL, tDIn, tDNotIn, gSub, rSetL, tLst, tDNewK, tComp, L2.stC, tFor_eq, iList, iTup, iRng1, iRng2, iZip, iEnum, iDict, iStr, tChain, tSumV, tBM, rJoin, tJoined, jNil, jLit, jInt, jStr, tRaise, tDGet, tDGet2, tDGet1, sDPut, Option.join_some, List.getElem?_nil,  tSeq, tRet, tRetN, tIfS, tTest, tB, tOp, tUn, tVar, tC, tCB, tCons, tNil, tCall, tTupS, tAsg, gName, gNil, gCons, tPar, tNext, tDrop, tAnd, tOr, tNot, tAndV, tOrV, tNotV, tIf, rI, rI0, rU, rIxTH, rIxLH, rEqT, rNeT, rInT, rEq, rNe, scal, CPow, at0, at1, at2, List.map_cons, List.map_nil, List.length_cons, List.length_nil, Nat.reduceSub, Nat.reduceAdd, Nat.zero_add, List.replicate_zero, List.reduceReplicate, List.append_nil, List.nil_append, List.cons_append, List.getElem?_cons_zero, List.getElem?_cons_succ, List.set_cons_zero, List.set_cons_succ, Option.some.injEq, exists_eq_left', exists_eq_left, V.ref.injEq, V.int.injEq, V.bl.injEq, V.str.injEq, V.ty.injEq, HO.tup.injEq, HO.lst.injEq, List.cons.injEq, and_true, true_and, and_assoc, exists_and_left, decide_eq_true_eq, Bool.not_eq_true', decide_eq_false_iff_not, ite_true, ite_false, if_true, if_false, Int.reduceToNat, eq_self_iff_true, hp2]
      by_cases m1 : m = 1
      · rw [if_neg (fun h => h m1)]
        exact ⟨by decide, fun q H3 s3 nq e3 => kQ (.one k n x) (by rw [en]; exact if_pos m1) _ _ (sm1.trans (s2.trans s3)) e3⟩
      · rw [if_pos m1]
        exact ⟨by decide, kE (by rw [en]; exact if_neg m1) _ (sm1.trans s2)⟩
    have n1 : k ≠ Str.ofString "again" := fun h => one (.inl h)
    have n2 : k ≠ Str.ofString "burst" := fun h => one (.inr h)
    have no : (["again", "burst"] : List Str).any (fun y => decide (y = k)) = false := any_no fun y hy => by
      rcases List.mem_cons.mp hy with rfl | hy
      · exact fun e => n1 e.symm
      · rw [List.mem_singleton.mp hy]; exact fun e => n2 e.symm
    refine seq_gen (fun σ' H2 => H1 = H2 ∧ σ' = [some (.str k), some (.str g), some (.str d), some (.ref p), none]) ?_ (fun N hN => ?_)
    case refine_2 =>
      simp only [L2.start, Pr, tRev, tD1, tDPop1, tSl, tNoPart, tPart, rSlL, tDIn, tDNotIn, gSub, rSetL, tLst, tDNewK, tComp, L2.stC, tFor_eq, iList, iTup, iRng1, iRng2, iZip, iEnum, iDict, iStr, tChain, tSumV, tBM, rJoin, tJoined, jNil, jLit, jInt, jStr, tRaise, tDGet, tDGet2, tDGet1, sDPut, Option.join_some, List.getElem?_nil,  tSeq, tRet, tRetN, tIfS, tTest, tB, tOp, tUn, tVar, tC, tCB, tCons, tNil, tCall, tTupS, tAsg, gName, gNil, gCons, tPar, tNext, tDrop, tAnd, tOr, tNot, tAndV, tOrV, tNotV, tIf, rI, rI0, rU, rIxTH, rIxLH, rEqT, rNeT, rInT, rEq, rNe, scal, CPow, at0, at1, at2, List.map_cons, List.map_nil, List.length_cons, List.length_nil, Nat.reduceSub, Nat.reduceAdd, Nat.zero_add, List.replicate_zero, List.reduceReplicate, List.append_nil, List.nil_append, List.cons_append, List.getElem?_cons_zero, List.getElem?_cons_succ, List.set_cons_zero, List.set_cons_succ, Option.some.injEq, exists_eq_left', exists_eq_left, V.ref.injEq, V.int.injEq, V.bl.injEq, V.str.injEq, V.ty.injEq, HO.tup.injEq, HO.lst.injEq, List.cons.injEq, and_true, true_and, and_assoc, exists_and_left, decide_eq_true_eq, Bool.not_eq_true', decide_eq_false_iff_not, ite_true, ite_false, if_true, if_false, Int.reduceToNat, eq_self_iff_true, tRaise]
      refine MDict.rd T.m_OF_ONE ⟨_, rfl, ?_⟩
      rw [if_neg (by rw [no]; decide)]
      exact hN _ _ ⟨rfl, rfl⟩
    rintro _ _ ⟨rfl, rfl⟩
    change tSeq _ _ _ [some (.str k), some (.str g), some (.str d), some (.ref p), none] H1
    by_cases many : k = Str.ofString "best" ∨ k = Str.ofString "worst" ∨ k = Str.ofString "hits"
    case neg =>
      have n3 : k ≠ Str.ofString "best" := fun h => many (.inl h)
      have n4 : k ≠ Str.ofString "worst" := fun h => many (.inr (.inl h))
      have n5 : k ≠ Str.ofString "hits" := fun h => many (.inr (.inr h))
      have no2 : (["best", "worst", "hits"] : List Str).any (fun y => decide (y = k)) = false := any_no fun y hy => by
        rcases List.mem_cons.mp hy with rfl | hy
        · exact fun e => n3 e.symm
        · rcases List.mem_cons.mp hy with rfl | hy
          · exact fun e => n4 e.symm
          · rw [List.mem_singleton.mp hy]; exact fun e => n5 e.symm
      refine seq_gen (fun _ _ => False) (fun _ _ h => h.elim) (fun N hN => ?_)
      simp only [L2.start, Pr, tRev, tD1, tDPop1, tSl, tNoPart, tPart, rSlL, tDIn, tDNotIn, gSub, rSetL, tLst, tDNewK, tComp, L2.stC, tFor_eq, iList, iTup, iRng1, iRng2, iZip, iEnum, iDict, iStr, tChain, tSumV, tBM, rJoin, tJoined, jNil, jLit, jInt, jStr, tRaise, tDGet, tDGet2, tDGet1, sDPut, Option.join_some, List.getElem?_nil,  tSeq, tRet, tRetN, tIfS, tTest, tB, tOp, tUn, tVar, tC, tCB, tCons, tNil, tCall, tTupS, tAsg, gName, gNil, gCons, tPar, tNext, tDrop, tAnd, tOr, tNot, tAndV, tOrV, tNotV, tIf, rI, rI0, rU, rIxTH, rIxLH, rEqT, rNeT, rInT, rEq, rNe, scal, CPow, at0, at1, at2, List.map_cons, List.map_nil, List.length_cons, List.length_nil, Nat.reduceSub, Nat.reduceAdd, Nat.zero_add, List.replicate_zero, List.reduceReplicate, List.append_nil, List.nil_append, List.cons_append, List.getElem?_cons_zero, List.getElem?_cons_succ, List.set_cons_zero, List.set_cons_succ, Option.some.injEq, exists_eq_left', exists_eq_left, V.ref.injEq, V.int.injEq, V.bl.injEq, V.str.injEq, V.ty.injEq, HO.tup.injEq, HO.lst.injEq, List.cons.injEq, and_true, true_and, and_assoc, exists_and_left, decide_eq_true_eq, Bool.not_eq_true', decide_eq_false_iff_not, ite_true, ite_false, if_true, if_false, Int.reduceToNat, eq_self_iff_true, tRaise]
      refine MDict.rdN T.m_OF_MANY ⟨_, rfl, ?_⟩
      rw [if_pos (by rw [no2]; decide)]
      refine ⟨by decide, kE ?_ _ sm1⟩
      unfold wordP
      rw [if_neg n1, if_neg n2, if_neg (by rintro (h | h); exact n3 h; exact n4 h), if_neg n5]
    have ye : (["best", "worst", "hits"] : List Str).any (fun y => decide (y = k)) = true := by rcases many with h | h | h <;> rw [h] <;> decide +kernel
    refine seq_gen (fun σ' H2 => H1 = H2 ∧ σ' = [some (.str k), some (.str g), some (.str d), some (.ref p), none]) ?_ (fun N hN => ?_)
    case refine_2 =>
      simp only [L2.start, Pr, tRev, tD1, tDPop1, tSl, tNoPart, tPart, rSlL, tDIn, tDNotIn, gSub, rSetL, tLst, tDNewK, tComp, L2.stC, tFor_eq, iList, iTup, iRng1, iRng2, iZip, iEnum, iDict, iStr, tChain, tSumV, tBM, rJoin, tJoined, jNil, jLit, jInt, jStr, tRaise, tDGet, tDGet2, tDGet1, sDPut, Option.join_some, List.getElem?_nil,  tSeq, tRet, tRetN, tIfS, tTest, tB, tOp, tUn, tVar, tC, tCB, tCons, tNil, tCall, tTupS, tAsg, gName, gNil, gCons, tPar, tNext, tDrop, tAnd, tOr, tNot, tAndV, tOrV, tNotV, tIf, rI, rI0, rU, rIxTH, rIxLH, rEqT, rNeT, rInT, rEq, rNe, scal, CPow, at0, at1, at2, List.map_cons, List.map_nil, List.length_cons, List.length_nil, Nat.reduceSub, Nat.reduceAdd, Nat.zero_add, List.replicate_zero, List.reduceReplicate, List.append_nil, List.nil_append, List.cons_append, List.getElem?_cons_zero, List.getElem?_cons_succ, List.set_cons_zero, List.set_cons_succ, Option.some.injEq, exists_eq_left', exists_eq_left, V.ref.injEq, V.int.injEq, V.bl.injEq, V.str.injEq, V.ty.injEq, HO.tup.injEq, HO.lst.injEq, List.cons.injEq, and_true, true_and, and_assoc, exists_and_left, decide_eq_true_eq, Bool.not_eq_true', decide_eq_false_iff_not, ite_true, ite_false, if_true, if_false, Int.reduceToNat, eq_self_iff_true, tRaise]
      refine MDict.rdN T.m_OF_MANY ⟨_, rfl, ?_⟩
      rw [if_neg (by rw [ye]; decide)]
      exact hN _ _ ⟨rfl, rfl⟩
    rintro _ _ ⟨rfl, rfl⟩
    change tSeq _ _ _ [some (.str k), some (.str g), some (.str d), some (.ref p), none] H1
    obtain ⟨hi, wp, pp, es, nn, hl, hk, e, sq⟩ : ∃ hi : Int, (wordP k g m x = (whN g 1 hi).bind fun n => if k ≠ Str.ofString "hits" ∧ m < n then none else some (.many k n m x)) ∧ ∃ pp es nn, K.lookup q_OF_MANY = some ⟨.type "dict", none, .dict es nn, #[]⟩ ∧ PySem.W.KeysLit w.params es.toList ∧ PySem.W.nsIn K q_OF_MANY k = some (some (.ref pp)) ∧ ∀ H, SqT K H pp [.int 1, .int hi] := by
      have hb : k = Str.ofString "best" ∨ k = Str.ofString "worst" → k ≠ Str.ofString "hits" := by rintro (h | h) <;> rw [h] <;> decide +kernel
      have two : ∀ h : k = Str.ofString "best" ∨ k = Str.ofString "worst", wordP k g m x = (whN g 1 6).bind fun n => if k ≠ Str.ofString "hits" ∧ m < n then none else some (.many k n m x) := fun h => by
        unfold wordP
        rw [if_neg n1, if_neg n2, if_pos h]
        congr 1
        funext n
        by_cases c : m < n
        · rw [if_pos c, if_pos ⟨hb h, c⟩]
        · rw [if_neg c, if_neg fun k => c k.2]
      rcases many with h | h | h
      · exact ⟨6, two (.inl h), by rw [h]; exact MRow.rd T.r_OF_MANY_best T.m_OF_MANY⟩
      · exact ⟨6, two (.inr h), by rw [h]; exact MRow.rd T.r_OF_MANY_worst T.m_OF_MANY⟩
      · refine ⟨20, ?_, by rw [h]; exact MRow.rd T.r_OF_MANY_hits T.m_OF_MANY⟩
        unfold wordP
        rw [if_neg n1, if_neg n2, if_neg fun q => hb q h, if_pos h]
        congr 1
        funext n
        rw [if_neg fun k => k.1 h]
    rw [wp] at kE kQ
    refine seq_gen (fun σ' H2 => Same H1 H2 ∧ ∃ n, whN g 1 hi = some n ∧ σ' = [some (.str k), some (.str g), some (.str d), some (.ref p), some (.int n)]) ?_ (fun N hN => ?_)
    case refine_2 =>
      simp only [L2.start, Pr, tRev, tD1, tDPop1, tSl, tNoPart, tPart, rSlL, tDIn, tDNotIn, gSub, rSetL, tLst, tDNewK, tComp, L2.stC, tFor_eq, iList, iTup, iRng1, iRng2, iZip, iEnum, iDict, iStr, tChain, tSumV, tBM, rJoin, tJoined, jNil, jLit, jInt, jStr, tRaise, tDGet, tDGet2, tDGet1, sDPut, Option.join_some, List.getElem?_nil,  tSeq, tRet, tRetN, tIfS, tTest, tB, tOp, tUn, tVar, tC, tCB, tCons, tNil, tCall, tTupS, tAsg, gName, gNil, gCons, tPar, tNext, tDrop, tAnd, tOr, tNot, tAndV, tOrV, tNotV, tIf, rI, rI0, rU, rIxTH, rIxLH, rEqT, rNeT, rInT, rEq, rNe, scal, CPow, at0, at1, at2, List.map_cons, List.map_nil, List.length_cons, List.length_nil, Nat.reduceSub, Nat.reduceAdd, Nat.zero_add, List.replicate_zero, List.reduceReplicate, List.append_nil, List.nil_append, List.cons_append, List.getElem?_cons_zero, List.getElem?_cons_succ, List.set_cons_zero, List.set_cons_succ, Option.some.injEq, exists_eq_left', exists_eq_left, V.ref.injEq, V.int.injEq, V.bl.injEq, V.str.injEq, V.ty.injEq, HO.tup.injEq, HO.lst.injEq, List.cons.injEq, and_true, true_and, and_assoc, exists_and_left, decide_eq_true_eq, Bool.not_eq_true', decide_eq_false_iff_not, ite_true, ite_false, if_true, if_false, Int.reduceToNat, eq_self_iff_true, tMGet, rIxT, spRn]
      exact ⟨pp, es, nn, hl, hk, e, _, sq _, _, at0, pp, es, nn, hl, hk, e, _, sq _, _, at1, 1, rfl, hi, rfl, tg, fun no H2 s2 => kE (by rw [no]; rfl) _ (sm1.trans s2), fun n en H2 s2 => hN _ _ ⟨s2, n, en, rfl⟩⟩
    rintro _ H2 ⟨sm2, n, en, rfl⟩
    have hp2 := sm2 _ _ hp
    rw [en] at kE kQ
    change tSeq _ _ _ [some (.str k), some (.str g), some (.str d), some (.ref p), some (.int n)] H2
    refine seq_gen (fun σ' H3 => H2 = H3 ∧ ¬ (k ≠ Str.ofString "hits" ∧ m < n) ∧ σ' = [some (.str k), some (.str g), some (.str d), some (.ref p), some (.int n)]) ?_ (fun N hN => ?_)
    case refine_2 =>
      simp only [L2.start, Pr, tRev, tD1, tDPop1, tSl, tNoPart, tPart, rSlL, tDIn, tDNotIn, gSub, rSetL, tLst, tDNewK, tComp, L2.stC, tFor_eq, iList, iTup, iRng1, iRng2, iZip, iEnum, iDict, iStr, tChain, tSumV, tBM, rJoin, tJoined, jNil, jLit, jInt, jStr, tRaise, tDGet, tDGet2, tDGet1, sDPut, Option.join_some, List.getElem?_nil,  tSeq, tRet, tRetN, tIfS, tTest, tB, tOp, tUn, tVar, tC, tCB, tCons, tNil, tCall, tTupS, tAsg, gName, gNil, gCons, tPar, tNext, tDrop, tAnd, tOr, tNot, tAndV, tOrV, tNotV, tIf, rI, rI0, rU, rIxTH, rIxLH, rEqT, rNeT, rInT, rEq, rNe, scal, CPow, at0, at1, at2, List.map_cons, List.map_nil, List.length_cons, List.length_nil, Nat.reduceSub, Nat.reduceAdd, Nat.zero_add, List.replicate_zero, List.reduceReplicate, List.append_nil, List.nil_append, List.cons_append, List.getElem?_cons_zero, List.getElem?_cons_succ, List.set_cons_zero, List.set_cons_succ, Option.some.injEq, exists_eq_left', exists_eq_left, V.ref.injEq, V.int.injEq, V.bl.injEq, V.str.injEq, V.ty.injEq, HO.tup.injEq, HO.lst.injEq, List.cons.injEq, and_true, true_and, and_assoc, exists_and_left, decide_eq_true_eq, Bool.not_eq_true', decide_eq_false_iff_not, ite_true, ite_false, if_true, if_false, Int.reduceToNat, eq_self_iff_true, hp2, tRaise]
      refine ite2 (fun c => ?_) (fun c => ?_)
      · by_cases mn : m < n
        · rw [if_pos (by simpa using mn)]
          exact ⟨by decide, kE (if_pos ⟨c, mn⟩) _ (sm1.trans sm2)⟩
        · rw [if_neg (by simpa using mn)]
          exact hN _ _ ⟨rfl, fun k => mn k.2, rfl⟩
      · rw [if_neg (by decide)]
        exact hN _ _ ⟨rfl, fun k => c k.1, rfl⟩
    rintro _ _ ⟨rfl, cn, rfl⟩
    simp only [L2.start, Pr, tRev, tD1, tDPop1, tSl, tNoPart, tPart, rSlL, tDIn, tDNotIn, gSub, rSetL, tLst, tDNewK, tComp, L2.stC, tFor_eq, iList, iTup, iRng1, iRng2, iZip, iEnum, iDict, iStr, tChain, tSumV, tBM, rJoin, tJoined, jNil, jLit, jInt, jStr, tRaise, tDGet, tDGet2, tDGet1, sDPut, Option.join_some, List.getElem?_nil,  tSeq, tRet, tRetN, tIfS, tTest, tB, tOp, tUn, tVar, tC, tCB, tCons, tNil, tCall, tTupS, tAsg, gName, gNil, gCons, tPar, tNext, tDrop, tAnd, tOr, tNot, tAndV, tOrV, tNotV, tIf, rI, rI0, rU, rIxTH, rIxLH, rEqT, rNeT, rInT, rEq, rNe, scal, CPow, at0, at1, at2, List.map_cons, List.map_nil, List.length_cons, List.length_nil, Nat.reduceSub, Nat.reduceAdd, Nat.zero_add, List.replicate_zero, List.reduceReplicate, List.append_nil, List.nil_append, List.cons_append, List.getElem?_cons_zero, List.getElem?_cons_succ, List.set_cons_zero, List.set_cons_succ, Option.some.injEq, exists_eq_left', exists_eq_left, V.ref.injEq, V.int.injEq, V.bl.injEq, V.str.injEq, V.ty.injEq, HO.tup.injEq, HO.lst.injEq, List.cons.injEq, and_true, true_and, and_assoc, exists_and_left, decide_eq_true_eq, Bool.not_eq_true', decide_eq_false_iff_not, ite_true, ite_false, if_true, if_false, Int.reduceToNat, eq_self_iff_true, hp2]
    exact ⟨by decide, fun q H3 s3 nq e3 => kQ _ (if_neg cn) _ _ (sm1.trans (sm2.trans s3)) e3⟩
theorem sc_read_part : FnScope ["text", "words"] ["text"] (defScope (top 28)) := ⟨rfl, rfl, rfl, by decide +kernel, rfl, by decide +kernel, by decide +kernel⟩
theorem ok_pt (T : Txt K mg w.params q_LuckError q_NoShare q_NoTable q_NoPool q_NoEnd q_TooMany q_NoGame q_NoWay q_NoRule q_NoStep q_NoPlay q_NoRow q_OF_MANY q_OF_ONE) : Cal P w K mg base (CX1 P w) 6 "read_part" ["text"] (spPt q_NoPool) := by
  have c_read_number : Cal P w K mg base (CX1 P w) 3 "read_number" ["text", "least", "most"] (spRn q_NoPool) := ok_rn T
  have c_read_dice : Cal P w K mg base (CX1 P w) 4 "read_dice" ["text"] (spDc q_NoPool) := ok_dc T
  have c_read_worded : Cal P w K mg base (CX1 P w) 5 "read_worded" ["kind", "figures", "dice_text"] (spWd q_NoPool) := ok_wd T
  refine T.d_read_part.cal (fun _ _ _ _ _ _ us hl => match us, hl with | [_], _ => rfl) fun f fd F => F.okX sc_read_part (fun vs H Q E h => ?_) (fun cdv A outer s H vs Q E hr h => ?_)
  · obtain ⟨_, rfl, _⟩ := h; rfl
  · obtain ⟨z, rfl, tz, kE, kQ⟩ := h
    have nd := sc_read_part.nd
    have hd0 : A.handled = none := hr.hd
    refine ⟨_, (pss_cons (ps_set (i := 1) nd rfl (Or.inl rfl) (pe_bm PySem.F.plainAttrs_str PySem.F.slot_str_split PySem.F.type_str_split mt_split (pv 0) (pa_cons pe_str pa_nil (se rfl))))
    (pss_cons (ps_if (PW.pt (pw_and (pt_cmpR op_eq (pe_callB call_lenL (by rfl) T.z_len PySem.boot_len (pa_cons (pv 1) pa_nil (se rfl)) (he := se rfl) (hpl := na rfl)) pe_int (nomark _)) (pw_and1 (pt_cmpR op_eq (pe_ix ix_listH (pv 1) pe_int (fun _ _ => rfl)) pe_str (nomark _))))) (pss_one (ps_ret (pe_cal c_read_worded (hr.mono (by decide)) rfl xe_pass (pa_cons (pe_ix ix_listH (pv 1) pe_int (fun _ _ => rfl)) (pa_cons (pe_ix ix_listH (pv 1) pe_int (fun _ _ => rfl)) (pa_cons (pe_ix ix_listH (pv 1) pe_int (fun _ _ => rfl)) pa_nil (se rfl)) (se rfl)) (se rfl)) (he := se rfl) (hpl := na rfl))))
      pss_nil)
    (pss_cons (ps_if (pt_cmpR op_ne (pe_callB call_lenL (by rfl) T.z_len PySem.boot_len (pa_cons (pv 1) pa_nil (se rfl)) (he := se rfl) (hpl := na rfl)) pe_int (nomark _)) (pss_one (ps_raise rfl T.k_NoPool T.x_NoPool hd0 (pa_cons pe_str pa_nil (se rfl)) (he := se rfl) (hpl := na rfl)))
      pss_nil)
    (pss_cons (ps_if (pt_cmpR op_in_str pe_str (pv 0) rfl) (pss_one (ps_ret (pe_op (op_catTK (K := K)) (pe_tupS (pa_cons pe_str pa_nil (se rfl))) (pe_cal c_read_dice (hr.mono (by decide)) rfl xe_pass (pa_cons (pv 0) pa_nil (se rfl)) (he := se rfl) (hpl := na rfl)))))
      pss_nil)
    (pss_one (ps_ret (pe_tupS (pa_cons pe_str (pa_cons (pe_cal c_read_number (hr.mono (by decide)) rfl xe_pass (pa_cons (pv 0) (pa_cons pe_int (pa_cons (pe_globI rfl T.c_MOST_NUMBER) pa_nil (se rfl)) (se rfl)) (se rfl)) (he := se rfl) (hpl := na rfl)) pa_nil (se rfl)) (se rfl))))))))), ?_⟩
    have tl := tz.2
    have e32 : Str.ofString " " = ⟨#[32]⟩ := by decide +kernel
    have e100 : Str.ofString "d" = ⟨#[100]⟩ := by decide +kernel
    change tSeq _ _ _ [some (.str z), none] H
    refine seq_gen (fun σ' H1 => Same H H1 ∧ ∃ l, H1 l = some (.lst (List.map V.str (Txt.split z ⟨#[32]⟩))) ∧ σ' = [some (.str z), some (.ref l)]) ?_ (fun N hN => ?_)
    case refine_2 =>
      simp only [L2.start, Pr, tRev, tD1, tDPop1, tSl, tNoPart, tPart, rSlL, tDIn, tDNotIn, gSub, rSetL, tLst, tDNewK, tComp, L2.stC, tFor_eq, iList, iTup, iRng1, iRng2, iZip, iEnum, iDict, iStr, tChain, tSumV, tBM, rJoin, tJoined, jNil, jLit, jInt, jStr, tRaise, tDGet, tDGet2, tDGet1, sDPut, Option.join_some, List.getElem?_nil,  tSeq, tRet, tRetN, tIfS, tTest, tB, tOp, tUn, tVar, tC, tCB, tCons, tNil, tCall, tTupS, tAsg, gName, gNil, gCons, tPar, tNext, tDrop, tAnd, tOr, tNot, tAndV, tOrV, tNotV, tIf, rI, rI0, rU, rIxTH, rIxLH, rEqT, rNeT, rInT, rEq, rNe, scal, CPow, at0, at1, at2, List.map_cons, List.map_nil, List.length_cons, List.length_nil, Nat.reduceSub, Nat.reduceAdd, Nat.zero_add, List.replicate_zero, List.reduceReplicate, List.append_nil, List.nil_append, List.cons_append, List.getElem?_cons_zero, List.getElem?_cons_succ, List.set_cons_zero, List.set_cons_succ, Option.some.injEq, exists_eq_left', exists_eq_left, V.ref.injEq, V.int.injEq, V.bl.injEq, V.str.injEq, V.ty.injEq, HO.tup.injEq, HO.lst.injEq, List.cons.injEq, and_true, true_and, and_assoc, exists_and_left, decide_eq_true_eq, Bool.not_eq_true', decide_eq_false_iff_not, ite_true, ite_false, if_true, if_false, Int.reduceToNat, eq_self_iff_true]
      exact ⟨rfl, 32, e32, by omega, fun l nl => hN _ _ ⟨same_upd nl, l, upd_same, rfl⟩⟩
    have tw : ∀ y ∈ Txt.split z ⟨#[32]⟩, Tx 100000 y := fun y hy => tz.piece hy
    have po : partO z = partP z (Txt.split z ⟨#[32]⟩) := rfl
    generalize Txt.split z ⟨#[32]⟩ = ws at *
    rw [po] at kE kQ
    rintro _ H1 ⟨sm1, l, hl, rfl⟩
    change tSeq _ _ _ [some (.str z), some (.ref l)] H1
    by_cases four : ∃ k f d, ws = [k, f, Str.ofString "of", d]
    · obtain ⟨k, g, d, rfl⟩ := four
      have hl1 : H1 l = some (.lst [V.str k, V.str g, V.str (Str.ofString "of"), V.str d]) := hl
      refine seq_gen (fun _ _ => False) (fun _ _ h => h.elim) (fun N hN => ?_)
      simp only [L2.start, Pr, tRev, tD1, tDPop1, tSl, tNoPart, tPart, rSlL, tDIn, tDNotIn, gSub, rSetL, tLst, tDNewK, tComp, L2.stC, tFor_eq, iList, iTup, iRng1, iRng2, iZip, iEnum, iDict, iStr, tChain, tSumV, tBM, rJoin, tJoined, jNil, jLit, jInt, jStr, tRaise, tDGet, tDGet2, tDGet1, sDPut, Option.join_some, List.getElem?_nil,  tSeq, tRet, tRetN, tIfS, tTest, tB, tOp, tUn, tVar, tC, tCB, tCons, tNil, tCall, tTupS, tAsg, gName, gNil, gCons, tPar, tNext, tDrop, tAnd, tOr, tNot, tAndV, tOrV, tNotV, tIf, rI, rI0, rU, rIxTH, rIxLH, rEqT, rNeT, rInT, rEq, rNe, scal, CPow, at0, at1, at2, List.map_cons, List.map_nil, List.length_cons, List.length_nil, Nat.reduceSub, Nat.reduceAdd, Nat.zero_add, List.replicate_zero, List.reduceReplicate, List.append_nil, List.nil_append, List.cons_append, List.getElem?_cons_zero, List.getElem?_cons_succ, List.set_cons_zero, List.set_cons_succ, Option.some.injEq, exists_eq_left', exists_eq_left, V.ref.injEq, V.int.injEq, V.bl.injEq, V.str.injEq, V.ty.injEq, HO.tup.injEq, HO.lst.injEq, List.cons.injEq, and_true, true_and, and_assoc, exists_and_left, decide_eq_true_eq, Bool.not_eq_true', decide_eq_false_iff_not, ite_true, ite_false, if_true, if_false, Int.reduceToNat, eq_self_iff_true, hl1, spWd]
      rw [if_pos (by decide)]
      exact ⟨_, atI_nat (j := 3) rfl, d, rfl, tw _ (by simp), tw _ (by simp), tw _ (by simp), fun no H2 s2 => kE (by rw [part_four, if_pos rfl]; exact no) _ (sm1.trans s2), fun r er p H2 s2 e2 => kQ r (by rw [part_four, if_pos rfl]; exact er) _ _ (sm1.trans s2) e2⟩
    refine seq_gen (fun σ' H2 => H1 = H2 ∧ σ' = [some (.str z), some (.ref l)]) ?_ (fun N hN => ?_)
    case refine_2 =>
      simp only [L2.start, Pr, tRev, tD1, tDPop1, tSl, tNoPart, tPart, rSlL, tDIn, tDNotIn, gSub, rSetL, tLst, tDNewK, tComp, L2.stC, tFor_eq, iList, iTup, iRng1, iRng2, iZip, iEnum, iDict, iStr, tChain, tSumV, tBM, rJoin, tJoined, jNil, jLit, jInt, jStr, tRaise, tDGet, tDGet2, tDGet1, sDPut, Option.join_some, List.getElem?_nil,  tSeq, tRet, tRetN, tIfS, tTest, tB, tOp, tUn, tVar, tC, tCB, tCons, tNil, tCall, tTupS, tAsg, gName, gNil, gCons, tPar, tNext, tDrop, tAnd, tOr, tNot, tAndV, tOrV, tNotV, tIf, rI, rI0, rU, rIxTH, rIxLH, rEqT, rNeT, rInT, rEq, rNe, scal, CPow, at0, at1, at2, List.map_cons, List.map_nil, List.length_cons, List.length_nil, Nat.reduceSub, Nat.reduceAdd, Nat.zero_add, List.replicate_zero, List.reduceReplicate, List.append_nil, List.nil_append, List.cons_append, List.getElem?_cons_zero, List.getElem?_cons_succ, List.set_cons_zero, List.set_cons_succ, Option.some.injEq, exists_eq_left', exists_eq_left, V.ref.injEq, V.int.injEq, V.bl.injEq, V.str.injEq, V.ty.injEq, HO.tup.injEq, HO.lst.injEq, List.cons.injEq, and_true, true_and, and_assoc, exists_and_left, decide_eq_true_eq, Bool.not_eq_true', decide_eq_false_iff_not, ite_true, ite_false, if_true, if_false, Int.reduceToNat, eq_self_iff_true]
      refine ⟨_, hl, ?_⟩
      rw [List.length_map]
      refine ite2 (fun l4 => ?_) (fun l4 => ?_)
      · obtain ⟨k, g, o, d, rfl⟩ : ∃ k g o d, ws = [k, g, o, d] := by
          have l4 : ws.length = 4 := by omega
          match ws, l4 with
          | [a, b, c, d], _ => exact ⟨a, b, c, d, rfl⟩
        refine ⟨_, hl, _, atI_nat (j := 2) rfl, rfl, ?_⟩
        have no : o ≠ Str.ofString "of" := fun e => four ⟨k, g, d, by rw [e]⟩
        rw [if_neg (by simpa using no)]
        exact hN _ _ ⟨rfl, rfl⟩
      · rw [if_neg (by decide)]
        exact hN _ _ ⟨rfl, rfl⟩
    rintro _ _ ⟨rfl, rfl⟩
    change tSeq _ _ _ [some (.str z), some (.ref l)] H1
    refine seq_gen (fun σ' H2 => H1 = H2 ∧ ws.length = 1 ∧ σ' = [some (.str z), some (.ref l)]) ?_ (fun N hN => ?_)
    case refine_2 =>
      simp only [L2.start, Pr, tRev, tD1, tDPop1, tSl, tNoPart, tPart, rSlL, tDIn, tDNotIn, gSub, rSetL, tLst, tDNewK, tComp, L2.stC, tFor_eq, iList, iTup, iRng1, iRng2, iZip, iEnum, iDict, iStr, tChain, tSumV, tBM, rJoin, tJoined, jNil, jLit, jInt, jStr, tRaise, tDGet, tDGet2, tDGet1, sDPut, Option.join_some, List.getElem?_nil,  tSeq, tRet, tRetN, tIfS, tTest, tB, tOp, tUn, tVar, tC, tCB, tCons, tNil, tCall, tTupS, tAsg, gName, gNil, gCons, tPar, tNext, tDrop, tAnd, tOr, tNot, tAndV, tOrV, tNotV, tIf, rI, rI0, rU, rIxTH, rIxLH, rEqT, rNeT, rInT, rEq, rNe, scal, CPow, at0, at1, at2, List.map_cons, List.map_nil, List.length_cons, List.length_nil, Nat.reduceSub, Nat.reduceAdd, Nat.zero_add, List.replicate_zero, List.reduceReplicate, List.append_nil, List.nil_append, List.cons_append, List.getElem?_cons_zero, List.getElem?_cons_succ, List.set_cons_zero, List.set_cons_succ, Option.some.injEq, exists_eq_left', exists_eq_left, V.ref.injEq, V.int.injEq, V.bl.injEq, V.str.injEq, V.ty.injEq, HO.tup.injEq, HO.lst.injEq, List.cons.injEq, and_true, true_and, and_assoc, exists_and_left, decide_eq_true_eq, Bool.not_eq_true', decide_eq_false_iff_not, ite_true, ite_false, if_true, if_false, Int.reduceToNat, eq_self_iff_true, tRaise]
      refine ⟨_, hl, ?_⟩
      rw [List.length_map]
      by_cases l1 : ws.length = 1
      · rw [if_neg (by omega)]
        exact hN _ _ ⟨rfl, l1, rfl⟩
      · rw [if_pos (by omega)]
        exact ⟨by decide, kE (part_not l1 four) _ sm1⟩
    rintro _ _ ⟨rfl, l1, rfl⟩
    obtain ⟨a, rfl⟩ := List.length_eq_one_iff.mp l1
    have kE : (if 100 ∈ z.cps.toList then (diceO z).map fun ms => Pt.dice ms.1 ms.2 else (whN z 0 99).map Pt.num) = none → ∀ H', Same H H' → E (.ref q_NoPool) none H' := kE
    have kQ : ∀ r, (if 100 ∈ z.cps.toList then (diceO z).map fun ms => Pt.dice ms.1 ms.2 else (whN z 0 99).map Pt.num) = some r → ∀ p H', Same H H' → H' p = some (.tup (ptV r)) → Q (.ref p) H' := kQ
    simp only [L2.start, Pr, tRev, tD1, tDPop1, tSl, tNoPart, tPart, rSlL, tDIn, tDNotIn, gSub, rSetL, tLst, tDNewK, tComp, L2.stC, tFor_eq, iList, iTup, iRng1, iRng2, iZip, iEnum, iDict, iStr, tChain, tSumV, tBM, rJoin, tJoined, jNil, jLit, jInt, jStr, tRaise, tDGet, tDGet2, tDGet1, sDPut, Option.join_some, List.getElem?_nil,  tSeq, tRet, tRetN, tIfS, tTest, tB, tOp, tUn, tVar, tC, tCB, tCons, tNil, tCall, tTupS, tAsg, gName, gNil, gCons, tPar, tNext, tDrop, tAnd, tOr, tNot, tAndV, tOrV, tNotV, tIf, rI, rI0, rU, rIxTH, rIxLH, rEqT, rNeT, rInT, rEq, rNe, scal, CPow, at0, at1, at2, List.map_cons, List.map_nil, List.length_cons, List.length_nil, Nat.reduceSub, Nat.reduceAdd, Nat.zero_add, List.replicate_zero, List.reduceReplicate, List.append_nil, List.nil_append, List.cons_append, List.getElem?_cons_zero, List.getElem?_cons_succ, List.set_cons_zero, List.set_cons_succ, Option.some.injEq, exists_eq_left', exists_eq_left, V.ref.injEq, V.int.injEq, V.bl.injEq, V.str.injEq, V.ty.injEq, HO.tup.injEq, HO.lst.injEq, List.cons.injEq, and_true, true_and, and_assoc, exists_and_left, decide_eq_true_eq, Bool.not_eq_true', decide_eq_false_iff_not, ite_true, ite_false, if_true, if_false, Int.reduceToNat, eq_self_iff_true, spRn, spDc, rCatT]
    have fo := StrLaws.found_one z 100
    by_cases hd : 100 ∈ z.cps.toList
    · rw [if_pos hd] at kE kQ
      rw [decide_eq_true hd] at fo
      rw [e100, if_pos (by simpa using fo)]
      refine ⟨by decide, fun p H2 s2 np e => ⟨tz, fun no H3 s3 => kE (by rw [no]; rfl) _ (sm1.trans (s2.trans s3)), fun m x ed p1 H' s' e' => ⟨_, SqT.of (s' _ _ e), _, SqT.of e', by simp, (show 1 + 2 ≤ sizeLine by decide), fun h => (by simp at h), fun _ q nq => kQ (.dice m x) (by rw [ed]; rfl) _ _ (sm1.trans (s2.trans (s'.trans (same_upd nq)))) upd_same⟩⟩⟩
    · rw [if_neg hd] at kE kQ
      rw [decide_eq_false hd] at fo
      rw [e100, if_neg (by simpa using fo)]
      exact ⟨tz, fun no H2 s2 => kE (by rw [no]; rfl) _ (sm1.trans s2), fun n en H2 s2 => ⟨by decide, fun q H3 s3 nq e => kQ (.num n) (by rw [en]; rfl) _ _ (sm1.trans (s2.trans s3)) e⟩⟩
theorem sc_read_pool : FnScope ["text", "pieces"] ["text"] (defScope (top 29)) := ⟨rfl, rfl, rfl, by decide +kernel, rfl, by decide +kernel, by decide +kernel⟩
theorem ok_rd (T : Txt K mg w.params q_LuckError q_NoShare q_NoTable q_NoPool q_NoEnd q_TooMany q_NoGame q_NoWay q_NoRule q_NoStep q_NoPlay q_NoRow q_OF_MANY q_OF_ONE) : Cal P w K mg base (CX1 P w) 7 "read_pool" ["text"] (spRd K q_NoPool) := by
  have c_read_part : Cal P w K mg base (CX1 P w) 6 "read_part" ["text"] (spPt q_NoPool) := ok_pt T
  refine T.d_read_pool.cal (fun _ _ _ _ _ _ us hl => match us, hl with | [_], _ => rfl) fun f fd F => F.okX sc_read_pool (fun vs H Q E h => ?_) (fun cdv A outer s H vs Q E hr h => ?_)
  · obtain ⟨_, rfl, _⟩ := h; rfl
  · obtain ⟨v, rfl, h⟩ := h
    have nd := sc_read_pool.nd
    have hd0 : A.handled = none := hr.hd
    refine ⟨_, (pss_cons (ps_if (pt_not (pt_val (pe_callB (call_isTK (K := K)) (by rfl) T.z_isinstance rfl (pa_cons (pv 0) (pa_cons (pe_bltn (v := V.ty "str") rfl T.z_str rfl rfl) pa_nil (se rfl)) (se rfl)) (he := se rfl) (hpl := na rfl)))) (pss_one (ps_raise rfl T.k_NoPool T.x_NoPool hd0 (pa_cons pe_str pa_nil (se rfl)) (he := se rfl) (hpl := na rfl)))
      pss_nil)
    (pss_cons (ps_set (i := 1) nd rfl (Or.inl rfl) (pe_bm PySem.F.plainAttrs_str PySem.F.slot_str_split PySem.F.type_str_split mt_splitY (pv 0) (pa_cons pe_str pa_nil (se rfl))))
    (pss_cons (ps_if (pt_cmpR op_gt (pe_callB call_lenL (by rfl) T.z_len PySem.boot_len (pa_cons (pv 1) pa_nil (se rfl)) (he := se rfl) (hpl := na rfl)) (pe_globI rfl T.c_MOST_PARTS) (nomark _)) (pss_one (ps_raise rfl T.k_NoPool T.x_NoPool hd0 (pa_cons pe_str pa_nil (se rfl)) (he := se rfl) (hpl := na rfl)))
      pss_nil)
    (pss_one (ps_ret (pe_compX rfl (N := ["text", "pieces"]) (so := defScope (top 29)) (N' := ["piece"]) (k := 1) (fr := []) rfl rfl ⟨rfl, by decide +kernel, by decide +kernel, by decide +kernel, rfl, by decide +kernel, by decide +kernel⟩ (pi_listK (K := K) (pv 1)) (fun _ _ _ _ _ => (pg_name (i := 0) (show (["piece"] : List Str).Nodup by decide +kernel) rfl (Or.inl rfl))) (fun _ _ _ _ _ => pts_nil)
      (fun _ _ _ _ _ => (pe_cal c_read_part (hr.mono (by decide)) rfl xeC_pass (pa_cons (pv 0) pa_nil (se rfl)) (he := se rfl) (hpl := na rfl))))))))), ?_⟩
    rcases h with ⟨z, rfl, tz, kE, kQ⟩ | ⟨t, ty, kt, kE⟩
    case inr =>
      simp only [L2.start, Pr, tRev, tD1, tDPop1, tSl, tNoPart, tPart, rSlL, tDIn, tDNotIn, gSub, rSetL, tLst, tDNewK, tComp, L2.stC, tFor_eq, iList, iTup, iRng1, iRng2, iZip, iEnum, iDict, iStr, tChain, tSumV, tBM, rJoin, tJoined, jNil, jLit, jInt, jStr, tRaise, tDGet, tDGet2, tDGet1, sDPut, Option.join_some, List.getElem?_nil,  tSeq, tRet, tRetN, tIfS, tTest, tB, tOp, tUn, tVar, tC, tCB, tCons, tNil, tCall, tTupS, tAsg, gName, gNil, gCons, tPar, tNext, tDrop, tAnd, tOr, tNot, tAndV, tOrV, tNotV, tIf, rI, rI0, rU, rIxTH, rIxLH, rEqT, rNeT, rInT, rEq, rNe, scal, CPow, at0, at1, at2, List.map_cons, List.map_nil, List.length_cons, List.length_nil, Nat.reduceSub, Nat.reduceAdd, Nat.zero_add, List.replicate_zero, List.reduceReplicate, List.append_nil, List.nil_append, List.cons_append, List.getElem?_cons_zero, List.getElem?_cons_succ, List.set_cons_zero, List.set_cons_succ, Option.some.injEq, exists_eq_left', exists_eq_left, V.ref.injEq, V.int.injEq, V.bl.injEq, V.str.injEq, V.ty.injEq, HO.tup.injEq, HO.lst.injEq, List.cons.injEq, and_true, true_and, and_assoc, exists_and_left, decide_eq_true_eq, Bool.not_eq_true', decide_eq_false_iff_not, ite_true, ite_false, if_true, if_false, Int.reduceToNat, eq_self_iff_true, tRaise]
      refine ⟨_, ty, _, kt, ?_⟩
      rw [if_pos rfl]
      exact ⟨by decide, kE⟩
    have sl := sizeLine_eq
    have tl := tz.2
    change tSeq _ _ _ [some (.str z), none] H
    refine seq_gen (fun σ' H1 => H = H1 ∧ σ' = [some (.str z), none]) ?_ (fun N hN => ?_)
    case refine_2 =>
      simp only [L2.start, Pr, tRev, tD1, tDPop1, tSl, tNoPart, tPart, rSlL, tDIn, tDNotIn, gSub, rSetL, tLst, tDNewK, tComp, L2.stC, tFor_eq, iList, iTup, iRng1, iRng2, iZip, iEnum, iDict, iStr, tChain, tSumV, tBM, rJoin, tJoined, jNil, jLit, jInt, jStr, tRaise, tDGet, tDGet2, tDGet1, sDPut, Option.join_some, List.getElem?_nil,  tSeq, tRet, tRetN, tIfS, tTest, tB, tOp, tUn, tVar, tC, tCB, tCons, tNil, tCall, tTupS, tAsg, gName, gNil, gCons, tPar, tNext, tDrop, tAnd, tOr, tNot, tAndV, tOrV, tNotV, tIf, rI, rI0, rU, rIxTH, rIxLH, rEqT, rNeT, rInT, rEq, rNe, scal, CPow, at0, at1, at2, List.map_cons, List.map_nil, List.length_cons, List.length_nil, Nat.reduceSub, Nat.reduceAdd, Nat.zero_add, List.replicate_zero, List.reduceReplicate, List.append_nil, List.nil_append, List.cons_append, List.getElem?_cons_zero, List.getElem?_cons_succ, List.set_cons_zero, List.set_cons_succ, Option.some.injEq, exists_eq_left', exists_eq_left, V.ref.injEq, V.int.injEq, V.bl.injEq, V.str.injEq, V.ty.injEq, HO.tup.injEq, HO.lst.injEq, List.cons.injEq, and_true, true_and, and_assoc, exists_and_left, decide_eq_true_eq, Bool.not_eq_true', decide_eq_false_iff_not, ite_true, ite_false, if_true, if_false, Int.reduceToNat, eq_self_iff_true, tRaise]
      refine ⟨_, TyOf.str _, _, kit_ss, ?_⟩
      rw [if_neg (by decide)]
      exact hN _ _ ⟨rfl, rfl⟩
    rintro _ _ ⟨rfl, rfl⟩
    change tSeq _ _ _ [some (.str z), none] H
    have dz : poolO z = if 4 < (Txt.split z PLUS).length then none else allP (Txt.split z PLUS) := rfl
    refine seq_gen (fun σ' H1 => Same H H1 ∧ ∃ l, H1 l = some (.lst (List.map V.str (Txt.split z PLUS))) ∧ σ' = [some (.str z), some (.ref l)]) ?_ (fun N hN => ?_)
    case refine_2 =>
      simp only [L2.start, Pr, tRev, tD1, tDPop1, tSl, tNoPart, tPart, rSlL, tDIn, tDNotIn, gSub, rSetL, tLst, tDNewK, tComp, L2.stC, tFor_eq, iList, iTup, iRng1, iRng2, iZip, iEnum, iDict, iStr, tChain, tSumV, tBM, rJoin, tJoined, jNil, jLit, jInt, jStr, tRaise, tDGet, tDGet2, tDGet1, sDPut, Option.join_some, List.getElem?_nil,  tSeq, tRet, tRetN, tIfS, tTest, tB, tOp, tUn, tVar, tC, tCB, tCons, tNil, tCall, tTupS, tAsg, gName, gNil, gCons, tPar, tNext, tDrop, tAnd, tOr, tNot, tAndV, tOrV, tNotV, tIf, rI, rI0, rU, rIxTH, rIxLH, rEqT, rNeT, rInT, rEq, rNe, scal, CPow, at0, at1, at2, List.map_cons, List.map_nil, List.length_cons, List.length_nil, Nat.reduceSub, Nat.reduceAdd, Nat.zero_add, List.replicate_zero, List.reduceReplicate, List.append_nil, List.nil_append, List.cons_append, List.getElem?_cons_zero, List.getElem?_cons_succ, List.set_cons_zero, List.set_cons_succ, Option.some.injEq, exists_eq_left', exists_eq_left, V.ref.injEq, V.int.injEq, V.bl.injEq, V.str.injEq, V.ty.injEq, HO.tup.injEq, HO.lst.injEq, List.cons.injEq, and_true, true_and, and_assoc, exists_and_left, decide_eq_true_eq, Bool.not_eq_true', decide_eq_false_iff_not, ite_true, ite_false, if_true, if_false, Int.reduceToNat, eq_self_iff_true]
      refine ⟨rfl, by decide +kernel, by omega, fun l nl => ?_⟩
      rw [plus_eq]
      exact hN _ _ ⟨same_upd nl, l, upd_same, rfl⟩
    have tw : ∀ p ∈ Txt.split z PLUS, Tx 100000 p := fun p hp => tz.plus hp
    generalize Txt.split z PLUS = zs at *
    rintro _ H1 ⟨sm1, l, hl, rfl⟩
    change tSeq _ _ _ [some (.str z), some (.ref l)] H1
    refine seq_gen (fun σ' H2 => H1 = H2 ∧ zs.length ≤ 4 ∧ σ' = [some (.str z), some (.ref l)]) ?_ (fun N hN => ?_)
    case refine_2 =>
      simp only [L2.start, Pr, tRev, tD1, tDPop1, tSl, tNoPart, tPart, rSlL, tDIn, tDNotIn, gSub, rSetL, tLst, tDNewK, tComp, L2.stC, tFor_eq, iList, iTup, iRng1, iRng2, iZip, iEnum, iDict, iStr, tChain, tSumV, tBM, rJoin, tJoined, jNil, jLit, jInt, jStr, tRaise, tDGet, tDGet2, tDGet1, sDPut, Option.join_some, List.getElem?_nil,  tSeq, tRet, tRetN, tIfS, tTest, tB, tOp, tUn, tVar, tC, tCB, tCons, tNil, tCall, tTupS, tAsg, gName, gNil, gCons, tPar, tNext, tDrop, tAnd, tOr, tNot, tAndV, tOrV, tNotV, tIf, rI, rI0, rU, rIxTH, rIxLH, rEqT, rNeT, rInT, rEq, rNe, scal, CPow, at0, at1, at2, List.map_cons, List.map_nil, List.length_cons, List.length_nil, Nat.reduceSub, Nat.reduceAdd, Nat.zero_add, List.replicate_zero, List.reduceReplicate, List.append_nil, List.nil_append, List.cons_append, List.getElem?_cons_zero, List.getElem?_cons_succ, List.set_cons_zero, List.set_cons_succ, Option.some.injEq, exists_eq_left', exists_eq_left, V.ref.injEq, V.int.injEq, V.bl.injEq, V.str.injEq, V.ty.injEq, HO.tup.injEq, HO.lst.injEq, List.cons.injEq, and_true, true_and, and_assoc, exists_and_left, decide_eq_true_eq, Bool.not_eq_true', decide_eq_false_iff_not, ite_true, ite_false, if_true, if_false, Int.reduceToNat, eq_self_iff_true, tRaise]
      refine ⟨_, hl, ite2 (fun c => ?_) (fun c => ?_)⟩
      · rw [List.length_map] at c
        exact ⟨by decide, kE (by rw [dz]; exact if_pos (by omega)) _ sm1⟩
      · rw [List.length_map] at c
        exact hN _ _ ⟨rfl, by omega, rfl⟩
    rintro _ _ ⟨rfl, l4, rfl⟩
    have dz : poolO z = allP zs := by rw [dz]; exact if_neg (by omega)
    simp only [L2.start, Pr, tRev, tD1, tDPop1, tSl, tNoPart, tPart, rSlL, tDIn, tDNotIn, gSub, rSetL, tLst, tDNewK, tComp, L2.stC, tFor_eq, iList, iTup, iRng1, iRng2, iZip, iEnum, iDict, iStr, tChain, tSumV, tBM, rJoin, tJoined, jNil, jLit, jInt, jStr, tRaise, tDGet, tDGet2, tDGet1, sDPut, Option.join_some, List.getElem?_nil,  tSeq, tRet, tRetN, tIfS, tTest, tB, tOp, tUn, tVar, tC, tCB, tCons, tNil, tCall, tTupS, tAsg, gName, gNil, gCons, tPar, tNext, tDrop, tAnd, tOr, tNot, tAndV, tOrV, tNotV, tIf, rI, rI0, rU, rIxTH, rIxLH, rEqT, rNeT, rInT, rEq, rNe, scal, CPow, at0, at1, at2, List.map_cons, List.map_nil, List.length_cons, List.length_nil, Nat.reduceSub, Nat.reduceAdd, Nat.zero_add, List.replicate_zero, List.reduceReplicate, List.append_nil, List.nil_append, List.cons_append, List.getElem?_cons_zero, List.getElem?_cons_succ, List.set_cons_zero, List.set_cons_succ, Option.some.injEq, exists_eq_left', exists_eq_left, V.ref.injEq, V.int.injEq, V.bl.injEq, V.str.injEq, V.ty.injEq, HO.tup.injEq, HO.lst.injEq, List.cons.injEq, and_true, true_and, and_assoc, exists_and_left, decide_eq_true_eq, Bool.not_eq_true', decide_eq_false_iff_not, ite_true, ite_false, if_true, if_false, Int.reduceToNat, eq_self_iff_true]
    refine ⟨⟨_, SqL.of hl⟩, ?_⟩
    refine comp_map (src_list (K := K) (fun H' s' => SqL.of (s' _ _ hl))) (fun _ _ _ _ h => by rw [h.1]; exact Same.refl _) (by rw [List.length_map, sizeLine_eq]; omega) (fun i y H4 => ∀ y', zs[i]? = some y' → ∃ r, partO y' = some r ∧ Rep H4 (ptD r) y) (fun i y H4 H5 s5 h y' e => let ⟨r, a, b⟩ := h y' e; ⟨r, a, b.mono s5⟩) ?_ ?_
    · rintro i x w0 H4 H5 Q2 hi s4 ⟨rfl, ex⟩ kq
      rw [List.getElem?_map] at ex
      obtain ⟨p, ep, rfl⟩ := Option.map_eq_some_iff.mp ex
      have pm := List.mem_of_getElem? ep
      simp only [L2.start, Pr, tRev, tD1, tDPop1, tSl, tNoPart, tPart, rSlL, tDIn, tDNotIn, gSub, rSetL, tLst, tDNewK, tComp, L2.stC, tFor_eq, iList, iTup, iRng1, iRng2, iZip, iEnum, iDict, iStr, tChain, tSumV, tBM, rJoin, tJoined, jNil, jLit, jInt, jStr, tRaise, tDGet, tDGet2, tDGet1, sDPut, Option.join_some, List.getElem?_nil,  tSeq, tRet, tRetN, tIfS, tTest, tB, tOp, tUn, tVar, tC, tCB, tCons, tNil, tCall, tTupS, tAsg, gName, gNil, gCons, tPar, tNext, tDrop, tAnd, tOr, tNot, tAndV, tOrV, tNotV, tIf, rI, rI0, rU, rIxTH, rIxLH, rEqT, rNeT, rInT, rEq, rNe, scal, CPow, at0, at1, at2, List.map_cons, List.map_nil, List.length_cons, List.length_nil, Nat.reduceSub, Nat.reduceAdd, Nat.zero_add, List.replicate_zero, List.reduceReplicate, List.append_nil, List.nil_append, List.cons_append, List.getElem?_cons_zero, List.getElem?_cons_succ, List.set_cons_zero, List.set_cons_succ, Option.some.injEq, exists_eq_left', exists_eq_left, V.ref.injEq, V.int.injEq, V.bl.injEq, V.str.injEq, V.ty.injEq, HO.tup.injEq, HO.lst.injEq, List.cons.injEq, and_true, true_and, and_assoc, exists_and_left, decide_eq_true_eq, Bool.not_eq_true', decide_eq_false_iff_not, ite_true, ite_false, if_true, if_false, Int.reduceToNat, eq_self_iff_true, spPt]
      refine ⟨tw p pm, fun no H6 s6 => kE (by rw [dz]; exact allP_no pm no) _ (sm1.trans (s4.trans s6)), fun r er v H6 s6 r6 => kq _ _ s6 fun y' ey => ?_⟩
      rw [ep] at ey
      cases ey
      exact ⟨r, er, repP r6⟩
    · intro ys H5 s5 ly hy D n1 n2
      rw [List.length_map] at ly
      have all : ∀ p ∈ zs, (partO p).isSome = true := fun p hp => by
        obtain ⟨i, hi⟩ := List.getElem?_of_mem hp
        have li : i < ys.length := by
          have := (List.getElem?_eq_some_iff.mp hi).1
          omega
        obtain ⟨r, er, _⟩ := hy i _ (List.getElem?_eq_getElem li) p hi
        rw [er]
        rfl
      obtain ⟨rs, e1, e2, e3⟩ := allP_yes all
      refine kQ rs (by rw [dz]; exact e1) _ _ (sm1.trans (s5.trans (same_upd n2))) (rep_lst.mpr ⟨D, ys, rfl, upd_same, ?_⟩)
      refine (repL_map (by omega) fun i y ey r er => ?_).mono (same_upd n2)
      have li : i < zs.length := by
        have := (List.getElem?_eq_some_iff.mp er).1
        omega
      obtain ⟨r', er', rr⟩ := hy i y ey _ (List.getElem?_eq_getElem li)
      have := e3 i _ r' (List.getElem?_eq_getElem li) er'
      rw [er] at this
      cases this
      exact rr
theorem sc__law_at : FnScope ["_law_script", "_law_k", "_law_base"] ["_law_script", "_law_k"] (defScope (top 31)) := ⟨rfl, rfl, rfl, by decide +kernel, rfl, by decide +kernel, by decide +kernel⟩
theorem ok_at (T : Txt K mg w.params q_LuckError q_NoShare q_NoTable q_NoPool q_NoEnd q_TooMany q_NoGame q_NoWay q_NoRule q_NoStep q_NoPlay q_NoRow q_OF_MANY q_OF_ONE) : Cal P w K mg base (CX1 P w) 1 "_law_at" ["_law_script", "_law_k"] (spAt K) := by
  refine T.d__law_at.cal (fun _ _ _ _ _ _ us hl => match us, hl with | [_, _], _ => rfl) fun f fd F => F.okC sc__law_at (fun vs H Q E h => ?_) (fun cdv A outer s H vs Q E hr h => ?_)
  · obtain ⟨_, _, _, rfl, _⟩ := h; rfl
  · obtain ⟨a, ns, k, rfl, hS, k0, k1, kk⟩ := h
    have nd := sc__law_at.nd
    refine ⟨_, (pss_cons (ps_if (pt_cmpR op_lt (pv 1) (pe_callB (call_lenQK (K := K)) (by rfl) T.z_len PySem.boot_len (pa_cons (pv 0) pa_nil (se rfl)) (he := se rfl) (hpl := na rfl)) (nomark _)) (pss_one (ps_ret (pe_ix (ix_listSK (K := K)) (pv 0) (pv 1) (fun _ _ => rfl))))
      pss_nil)
    (pss_cons (ps_set (i := 2) nd rfl (Or.inl rfl) pe_int)
    (pss_cons (ps_if (pt_cmpR op_gt (pe_callB (call_lenQK (K := K)) (by rfl) T.z_len PySem.boot_len (pa_cons (pv 0) pa_nil (se rfl)) (he := se rfl) (hpl := na rfl)) pe_int (nomark _)) (pss_one (ps_set (i := 2) nd rfl (Or.inl rfl) (pe_op op_modB (pe_ix (ix_listSK (K := K)) (pv 0) (pe_op op_modB (pe_op op_add (pe_op op_mulB (pv 1) pe_int) pe_int) (pe_callB (call_lenQK (K := K)) (by rfl) T.z_len PySem.boot_len (pa_cons (pv 0) pa_nil (se rfl)) (he := se rfl) (hpl := na rfl))) (fun _ _ => rfl)) pe_int)))
      pss_nil)
    (pss_one (ps_ret (pe_op op_modB (pe_op op_mulB (pe_op op_add (pe_op op_add (pv 2) (pe_op op_mulB pe_int (pv 1))) pe_int) (pe_op op_add (pe_op op_add (pe_op op_mulB (pv 2) pe_int) (pe_op op_mulB (pv 1) (pv 1))) pe_int)) pe_int)))))), ?_⟩
    simp only [L2.start, Pr, tRev, tD1, tDPop1, tSl, tNoPart, tPart, rSlL, tDIn, tDNotIn, gSub, rSetL, tLst, tDNewK, tComp, L2.stC, tFor_eq, iList, iTup, iRng1, iRng2, iZip, iEnum, iDict, iStr, tChain, tSumV, tBM, rJoin, tJoined, jNil, jLit, jInt, jStr, tRaise, tDGet, tDGet2, tDGet1, sDPut, Option.join_some, List.getElem?_nil,  tSeq, tRet, tRetN, tIfS, tTest, tB, tOp, tUn, tVar, tC, tCB, tCons, tNil, tCall, tTupS, tAsg, gName, gNil, gCons, tPar, tNext, tDrop, tAnd, tOr, tNot, tAndV, tOrV, tNotV, tIf, rI, rI0, rU, rIxTH, rIxLH, rEqT, rNeT, rInT, rEq, rNe, scal, CPow, at0, at1, at2, List.map_cons, List.map_nil, List.length_cons, List.length_nil, Nat.reduceSub, Nat.reduceAdd, Nat.zero_add, List.replicate_zero, List.reduceReplicate, List.append_nil, List.nil_append, List.cons_append, List.getElem?_cons_zero, List.getElem?_cons_succ, List.set_cons_zero, List.set_cons_succ, Option.some.injEq, exists_eq_left', exists_eq_left, V.ref.injEq, V.int.injEq, V.bl.injEq, V.str.injEq, V.ty.injEq, HO.tup.injEq, HO.lst.injEq, List.cons.injEq, and_true, true_and, and_assoc, exists_and_left, decide_eq_true_eq, Bool.not_eq_true', decide_eq_false_iff_not, ite_true, ite_false, if_true, if_false, Int.reduceToNat, eq_self_iff_true, rIxQ]
    have kq : IntMulOk k k := mulOkL (by omega) (by omega)
    refine ⟨ns, hS, ite2 (fun c => ⟨ns, hS, k0, c, kk _⟩) (fun c => ⟨ns, hS, ite2 (fun z => ?_) (fun z => ?_)⟩)⟩
    · have m1 := Int.emod_nonneg (ns.getD ((k * 17 + 8) % (ns.length : Int)).toNat 0) (show (998903 : Int) ≠ 0 by decide)
      have m2 := Int.emod_lt_of_pos (ns.getD ((k * 17 + 8) % (ns.length : Int)).toNat 0) (show (0 : Int) < 998903 by decide)
      exact ⟨mulOkR, ns, hS, z, ns, hS, Int.emod_nonneg _ (by omega), Int.emod_lt_of_pos _ z, by decide, mulOkL, mulOkR, kq, mulOkL (by omega) (by omega), by decide, kk _⟩
    · exact ⟨mulOkL, mulOkL, kq, mulOkL (by omega) (by omega), by decide, kk _⟩
theorem sc__law_whole : FnScope ["_law_text", "_law_low", "_law_high", "_law_number", "_law_sign"] ["_law_text", "_law_low", "_law_high"] (defScope (top 32)) := ⟨rfl, rfl, rfl, by decide +kernel, rfl, by decide +kernel, by decide +kernel⟩
theorem ok_wh (T : Txt K mg w.params q_LuckError q_NoShare q_NoTable q_NoPool q_NoEnd q_TooMany q_NoGame q_NoWay q_NoRule q_NoStep q_NoPlay q_NoRow q_OF_MANY q_OF_ONE) : Cal P w K mg base (CX1 P w) 1 "_law_whole" ["_law_text", "_law_low", "_law_high"] spWh := by
  refine T.d__law_whole.cal (fun _ _ _ _ _ _ us hl => match us, hl with | [_, _, _], _ => rfl) fun f fd F => F.okC sc__law_whole (fun vs H Q E h => ?_) (fun cdv A outer s H vs Q E hr h => ?_)
  · obtain ⟨_, _, _, rfl, _⟩ := h; rfl
  · obtain ⟨z, a, b, rfl, ⟨az, lz⟩, b99, kk⟩ := h
    have nd := sc__law_whole.nd
    refine ⟨_, (pss_cons (ps_if (PW.pt (pw_or (pt_cmpR op_eq (pe_callB call_lenS (by rfl) T.z_len PySem.boot_len (pa_cons (pv 0) pa_nil (se rfl)) (he := se rfl) (hpl := na rfl)) pe_int (nomark _)) (pw_or (pt_cmpR op_gt (pe_callB call_lenS (by rfl) T.z_len PySem.boot_len (pa_cons (pv 0) pa_nil (se rfl)) (he := se rfl) (hpl := na rfl)) pe_int (nomark _)) (pw_or1 (pt_cmpR op_gt (pe_callB call_lenL (by rfl) T.z_len PySem.boot_len (pa_cons (pe_comp rfl (N := ["_law_text", "_law_low", "_law_high", "_law_number", "_law_sign"]) (so := defScope (top 32)) (N' := ["_law_sign"]) (k := 1) (fr := []) rfl rfl ⟨rfl, by decide +kernel, by decide +kernel, by decide +kernel, rfl, by decide +kernel, by decide +kernel⟩ (pi_str (pv 0)) (fun _ _ _ _ _ => (pg_name (i := 0) (show (["_law_sign"] : List Str).Nodup by decide +kernel) rfl (Or.inl rfl))) (fun _ _ _ _ _ => (pts_one (pt_cmpR op_notin_str (pv 0) pe_str rfl)))
      (fun _ _ _ _ _ => (pv 0))) pa_nil (se rfl)) (he := se rfl) (hpl := na rfl)) pe_int (nomark _)))))) (pss_one (ps_ret pe_non))
      pss_nil)
    (pss_cons (ps_set (i := 3) nd rfl (Or.inl rfl) pe_int)
    (pss_cons (ps_for PassesOwn.never rfl (pi_str (pv 0)) (pg_name (i := 4) nd rfl (Or.inl rfl)) (pss_one (ps_set (i := 3) nd rfl (Or.inl rfl) (pe_op op_add (pe_op op_mulB pe_int (pv 3)) (pe_bm PySem.F.plainAttrs_str PySem.F.slot_str_index PySem.F.type_str_index mt_index pe_str (pa_cons (pv 4) pa_nil (se rfl)))))))
    (pss_cons (ps_if (PW.pt (pw_or (PW.pt (pw_and (pt_cmpR op_eq (pe_ix ix_strH (pv 0) pe_int (fun _ _ => rfl)) pe_str (nomark _)) (pw_and1 (pt_cmpR op_ne (pv 0) pe_str (nomark _))))) (pw_or (pt_cmpR op_lt (pv 3) (pv 1) (nomark _)) (pw_or1 (pt_cmpR op_gt (pv 3) (pv 2) (nomark _)))))) (pss_one (ps_ret pe_non))
      pss_nil)
    (pss_one (ps_ret (pv 3))))))), ?_⟩
    have sl := sizeLine_eq
    have zl : z.cps.toList.length = z.length := Array.length_toList
    have no : ¬ (canon z.cps.toList ∧ a ≤ ((val z.cps.toList : Nat) : Int) ∧ ((val z.cps.toList : Nat) : Int) ≤ b) → ∀ H', Same H H' → Q .non H' := fun n H' s' => by
      have := kk H' s'
      unfold whN at this
      rw [if_neg n] at this
      exact this
    change tSeq _ _ _ [some (.str z), some (.int a), some (.int b), none, none] H
    refine seq_gen (fun σ' H1 => Same H H1 ∧ 1 ≤ z.length ∧ z.length ≤ 2 ∧ (∀ c ∈ z.cps.toList, c ∈ FIG.cps.toList) ∧ σ' = [some (.str z), some (.int a), some (.int b), none, none]) ?_ (fun N hN => ?_)
    case refine_2 =>
      simp only [L2.start, Pr, tRev, tD1, tDPop1, tSl, tNoPart, tPart, rSlL, tDIn, tDNotIn, gSub, rSetL, tLst, tDNewK, tComp, L2.stC, tFor_eq, iList, iTup, iRng1, iRng2, iZip, iEnum, iDict, iStr, tChain, tSumV, tBM, rJoin, tJoined, jNil, jLit, jInt, jStr, tRaise, tDGet, tDGet2, tDGet1, sDPut, Option.join_some, List.getElem?_nil,  tSeq, tRet, tRetN, tIfS, tTest, tB, tOp, tUn, tVar, tC, tCB, tCons, tNil, tCall, tTupS, tAsg, gName, gNil, gCons, tPar, tNext, tDrop, tAnd, tOr, tNot, tAndV, tOrV, tNotV, tIf, rI, rI0, rU, rIxTH, rIxLH, rEqT, rNeT, rInT, rEq, rNe, scal, CPow, at0, at1, at2, List.map_cons, List.map_nil, List.length_cons, List.length_nil, Nat.reduceSub, Nat.reduceAdd, Nat.zero_add, List.replicate_zero, List.reduceReplicate, List.append_nil, List.nil_append, List.cons_append, List.getElem?_cons_zero, List.getElem?_cons_succ, List.set_cons_zero, List.set_cons_succ, Option.some.injEq, exists_eq_left', exists_eq_left, V.ref.injEq, V.int.injEq, V.bl.injEq, V.str.injEq, V.ty.injEq, HO.tup.injEq, HO.lst.injEq, List.cons.injEq, and_true, true_and, and_assoc, exists_and_left, decide_eq_true_eq, Bool.not_eq_true', decide_eq_false_iff_not, ite_true, ite_false, if_true, if_false, Int.reduceToNat, eq_self_iff_true]
      refine ⟨by omega, ite2 (fun c0 => no (fun k => by have := k.1.1.1; omega) _ (Same.refl _)) (fun c0 => ⟨by omega, ite2 (fun c1 => no (fun k => by have := (canon2 k.1).mp (by omega); omega) _ (Same.refl _)) (fun c1 => ⟨az, ?_⟩)⟩)⟩
      have S : Src (Its z) (Same H) z.cps.toList.length (fun i x H H3 => H3 = H ∧ ∃ c, z.cps[i]? = some c ∧ x = .str ⟨#[c]⟩) := by rw [Array.length_toList]; exact src_str
      refine comp_vals z.cps.toList (fun c => if c ∈ FIG.cps.toList then none else some (.str ⟨#[c]⟩)) S (fun _ _ _ _ h => h.1) (by omega) ?_ ?_
      · rintro i c x ec ⟨_, c', ec', rfl⟩ Y N y1 n1
        rw [Array.getElem?_toList] at ec
        rw [ec] at ec'
        cases ec'
        simp only [L2.start, Pr, tRev, tD1, tDPop1, tSl, tNoPart, tPart, rSlL, tDIn, tDNotIn, gSub, rSetL, tLst, tDNewK, tComp, L2.stC, tFor_eq, iList, iTup, iRng1, iRng2, iZip, iEnum, iDict, iStr, tChain, tSumV, tBM, rJoin, tJoined, jNil, jLit, jInt, jStr, tRaise, tDGet, tDGet2, tDGet1, sDPut, Option.join_some, List.getElem?_nil,  tSeq, tRet, tRetN, tIfS, tTest, tB, tOp, tUn, tVar, tC, tCB, tCons, tNil, tCall, tTupS, tAsg, gName, gNil, gCons, tPar, tNext, tDrop, tAnd, tOr, tNot, tAndV, tOrV, tNotV, tIf, rI, rI0, rU, rIxTH, rIxLH, rEqT, rNeT, rInT, rEq, rNe, scal, CPow, at0, at1, at2, List.map_cons, List.map_nil, List.length_cons, List.length_nil, Nat.reduceSub, Nat.reduceAdd, Nat.zero_add, List.replicate_zero, List.reduceReplicate, List.append_nil, List.nil_append, List.cons_append, List.getElem?_cons_zero, List.getElem?_cons_succ, List.set_cons_zero, List.set_cons_succ, Option.some.injEq, exists_eq_left', exists_eq_left, V.ref.injEq, V.int.injEq, V.bl.injEq, V.str.injEq, V.ty.injEq, HO.tup.injEq, HO.lst.injEq, List.cons.injEq, and_true, true_and, and_assoc, exists_and_left, decide_eq_true_eq, Bool.not_eq_true', decide_eq_false_iff_not, ite_true, ite_false, if_true, if_false, Int.reduceToNat, eq_self_iff_true, StrLaws.found_one]
        by_cases hc : c ∈ FIG.cps.toList
        · rw [if_neg (by simp [hc])]
          exact n1 (if_pos hc)
        · rw [if_pos (by simp [hc])]
          exact y1 _ (if_neg hc)
      · intro D n1 n2
        refine ⟨_, upd_same, ite2 (fun c => ?_) (fun c => ?_)⟩
        · refine no (fun k => ?_) _ (same_upd n2)
          rw [List.filterMap_eq_nil_iff.mpr fun x hx => if_pos (k.1.1.2.2 x hx)] at c
          exact absurd c (by decide)
        · refine hN _ _ ⟨same_upd n2, by omega, by omega, fun x hx => ?_, rfl⟩
          have e : z.cps.toList.filterMap (fun c => if c ∈ FIG.cps.toList then none else some (V.str ⟨#[c]⟩)) = [] := by
            rw [← List.length_eq_zero_iff]
            omega
          have := List.filterMap_eq_nil_iff.mp e x hx
          by_cases hc : x ∈ FIG.cps.toList
          · exact hc
          · rw [if_neg hc] at this
            cases this
    rintro _ H1 ⟨sm1, z1, z2, fg, rfl⟩
    have dz : dig z.cps.toList := ⟨by omega, by omega, fg⟩
    change tSeq _ _ _ [some (.str z), some (.int a), some (.int b), none, none] H1
    refine seq_gen (fun σ' H2 => H1 = H2 ∧ σ' = [some (.str z), some (.int a), some (.int b), some (.int 0), none]) ?_ (fun N hN => ?_)
    case refine_2 =>
      simp only [L2.start, Pr, tRev, tD1, tDPop1, tSl, tNoPart, tPart, rSlL, tDIn, tDNotIn, gSub, rSetL, tLst, tDNewK, tComp, L2.stC, tFor_eq, iList, iTup, iRng1, iRng2, iZip, iEnum, iDict, iStr, tChain, tSumV, tBM, rJoin, tJoined, jNil, jLit, jInt, jStr, tRaise, tDGet, tDGet2, tDGet1, sDPut, Option.join_some, List.getElem?_nil,  tSeq, tRet, tRetN, tIfS, tTest, tB, tOp, tUn, tVar, tC, tCB, tCons, tNil, tCall, tTupS, tAsg, gName, gNil, gCons, tPar, tNext, tDrop, tAnd, tOr, tNot, tAndV, tOrV, tNotV, tIf, rI, rI0, rU, rIxTH, rIxLH, rEqT, rNeT, rInT, rEq, rNe, scal, CPow, at0, at1, at2, List.map_cons, List.map_nil, List.length_cons, List.length_nil, Nat.reduceSub, Nat.reduceAdd, Nat.zero_add, List.replicate_zero, List.reduceReplicate, List.append_nil, List.nil_append, List.cons_append, List.getElem?_cons_zero, List.getElem?_cons_succ, List.set_cons_zero, List.set_cons_succ, Option.some.injEq, exists_eq_left', exists_eq_left, V.ref.injEq, V.int.injEq, V.bl.injEq, V.str.injEq, V.ty.injEq, HO.tup.injEq, HO.lst.injEq, List.cons.injEq, and_true, true_and, and_assoc, exists_and_left, decide_eq_true_eq, Bool.not_eq_true', decide_eq_false_iff_not, ite_true, ite_false, if_true, if_false, Int.reduceToNat, eq_self_iff_true]
      exact hN _ _ ⟨rfl, rfl⟩
    rintro _ _ ⟨rfl, rfl⟩
    change tSeq _ _ _ [some (.str z), some (.int a), some (.int b), some (.int 0), none] H1
    refine seq_gen (fun σ' H2 => H1 = H2 ∧ ∃ w4, σ' = [some (.str z), some (.int a), some (.int b), some (.int (val z.cps.toList : Nat)), w4]) ?_ (fun N hN => ?_)
    case refine_2 =>
      simp only [L2.start, Pr, tRev, tD1, tDPop1, tSl, tNoPart, tPart, rSlL, tDIn, tDNotIn, gSub, rSetL, tLst, tDNewK, tComp, L2.stC, tFor_eq, iList, iTup, iRng1, iRng2, iZip, iEnum, iDict, iStr, tChain, tSumV, tBM, rJoin, tJoined, jNil, jLit, jInt, jStr, tRaise, tDGet, tDGet2, tDGet1, sDPut, Option.join_some, List.getElem?_nil,  tSeq, tRet, tRetN, tIfS, tTest, tB, tOp, tUn, tVar, tC, tCB, tCons, tNil, tCall, tTupS, tAsg, gName, gNil, gCons, tPar, tNext, tDrop, tAnd, tOr, tNot, tAndV, tOrV, tNotV, tIf, rI, rI0, rU, rIxTH, rIxLH, rEqT, rNeT, rInT, rEq, rNe, scal, CPow, at0, at1, at2, List.map_cons, List.map_nil, List.length_cons, List.length_nil, Nat.reduceSub, Nat.reduceAdd, Nat.zero_add, List.replicate_zero, List.reduceReplicate, List.append_nil, List.nil_append, List.cons_append, List.getElem?_cons_zero, List.getElem?_cons_succ, List.set_cons_zero, List.set_cons_succ, Option.some.injEq, exists_eq_left', exists_eq_left, V.ref.injEq, V.int.injEq, V.bl.injEq, V.str.injEq, V.ty.injEq, HO.tup.injEq, HO.lst.injEq, List.cons.injEq, and_true, true_and, and_assoc, exists_and_left, decide_eq_true_eq, Bool.not_eq_true', decide_eq_false_iff_not, ite_true, ite_false, if_true, if_false, Int.reduceToNat, eq_self_iff_true]
      refine ⟨az, ?_⟩
      have S : Src (Its z) (fun _ => True) z.cps.toList.length (fun i x H H3 => H3 = H ∧ ∃ c, z.cps[i]? = some c ∧ x = .str ⟨#[c]⟩) := by rw [Array.length_toList]; exact src_str
      refine for_src S (fun i σ H' => H' = H1 ∧ ∃ w4, σ = [some (.str z), some (.int a), some (.int b), some (.int (val (z.cps.toList.take i) : Nat)), w4]) ⟨rfl, _, rfl⟩ (fun _ _ _ _ _ => trivial) ?_ ?_
      · rintro i x σ H5 H6 hi ⟨rfl, w4, rfl⟩ ⟨rfl, c', ec, rfl⟩
        have ec' : z.cps.toList[i]? = some c' := by rw [Array.getElem?_toList]; exact ec
        have tk : z.cps.toList.take (i + 1) = z.cps.toList.take i ++ [c'] := by rw [List.take_add_one, ec']; rfl
        have fc := fg c' (List.mem_of_getElem? ec')
        have r := (fig_iff c').mp fc
        simp only [L2.start, Pr, tRev, tD1, tDPop1, tSl, tNoPart, tPart, rSlL, tDIn, tDNotIn, gSub, rSetL, tLst, tDNewK, tComp, L2.stC, tFor_eq, iList, iTup, iRng1, iRng2, iZip, iEnum, iDict, iStr, tChain, tSumV, tBM, rJoin, tJoined, jNil, jLit, jInt, jStr, tRaise, tDGet, tDGet2, tDGet1, sDPut, Option.join_some, List.getElem?_nil,  tSeq, tRet, tRetN, tIfS, tTest, tB, tOp, tUn, tVar, tC, tCB, tCons, tNil, tCall, tTupS, tAsg, gName, gNil, gCons, tPar, tNext, tDrop, tAnd, tOr, tNot, tAndV, tOrV, tNotV, tIf, rI, rI0, rU, rIxTH, rIxLH, rEqT, rNeT, rInT, rEq, rNe, scal, CPow, at0, at1, at2, List.map_cons, List.map_nil, List.length_cons, List.length_nil, Nat.reduceSub, Nat.reduceAdd, Nat.zero_add, List.replicate_zero, List.reduceReplicate, List.append_nil, List.nil_append, List.cons_append, List.getElem?_cons_zero, List.getElem?_cons_succ, List.set_cons_zero, List.set_cons_succ, Option.some.injEq, exists_eq_left', exists_eq_left, V.ref.injEq, V.int.injEq, V.bl.injEq, V.str.injEq, V.ty.injEq, HO.tup.injEq, HO.lst.injEq, List.cons.injEq, and_true, true_and, and_assoc, exists_and_left, decide_eq_true_eq, Bool.not_eq_true', decide_eq_false_iff_not, ite_true, ite_false, if_true, if_false, Int.reduceToNat, eq_self_iff_true]
        refine ⟨mulOkL, rfl, _, _, fig_at fc, ?_, _, rfl⟩
        rw [tk]
        show 10 * ((NumText.digitsVal (List.take i z.cps.toList) : Nat) : Int) + ((c' - 48 : Nat) : Int) = ((NumText.digitsVal (List.take i z.cps.toList ++ [c']) : Nat) : Int)
        rw [NumText.digitsVal_snoc]
        push_cast
        omega
      · rintro σ H5 ⟨rfl, w4, rfl⟩
        rw [List.take_of_length_le (Nat.le_refl _)]
        exact hN _ _ ⟨rfl, w4, rfl⟩
    rintro _ _ ⟨rfl, w4, rfl⟩
    change tSeq _ _ _ [some (.str z), some (.int a), some (.int b), some (.int (val z.cps.toList : Nat)), w4] H1
    refine seq_gen (fun σ' H2 => H1 = H2 ∧ (canon z.cps.toList ∧ a ≤ ((val z.cps.toList : Nat) : Int) ∧ ((val z.cps.toList : Nat) : Int) ≤ b) ∧ σ' = [some (.str z), some (.int a), some (.int b), some (.int (val z.cps.toList : Nat)), w4]) ?_ (fun N hN => ?_)
    case refine_2 =>
      obtain ⟨c, r, ez⟩ : ∃ c r, z.cps.toList = c :: r := by
        cases h : z.cps.toList with
        | nil => rw [h] at zl; simp at zl; omega
        | cons c r => exact ⟨c, r, rfl⟩
      have a0 : atI z.cps.toList 0 = some c := by rw [ez]; exact at0
      have ld : (⟨#[c]⟩ = Str.ofString "0" ∧ z ≠ Str.ofString "0") ↔ lead z.cps.toList := by
        have e2 : (Str.ofString "0").cps.toList = [48] := by decide +kernel
        constructor
        · rintro ⟨h1, h2⟩
          have e1 : (⟨#[c]⟩ : Str).cps.toList = (Str.ofString "0").cps.toList := by rw [h1]
          rw [e2] at e1
          have e3 : c = 48 := by simpa using e1
          refine ⟨?_, by rw [ez, e3]; rfl⟩
          by_cases l : 1 < z.cps.toList.length
          · exact l
          · exfalso
            refine h2 (str_ext ?_)
            rw [ez, List.length_cons] at l
            rw [e2, ez, e3, List.length_eq_zero_iff.mp (show r.length = 0 by omega)]
        · rintro ⟨h1, h2⟩
          rw [ez] at h2
          have e3 : c = 48 := by simpa using h2
          refine ⟨by rw [e3]; decide +kernel, fun h => ?_⟩
          rw [h, e2] at h1
          simp at h1
      simp only [L2.start, Pr, tRev, tD1, tDPop1, tSl, tNoPart, tPart, rSlL, tDIn, tDNotIn, gSub, rSetL, tLst, tDNewK, tComp, L2.stC, tFor_eq, iList, iTup, iRng1, iRng2, iZip, iEnum, iDict, iStr, tChain, tSumV, tBM, rJoin, tJoined, jNil, jLit, jInt, jStr, tRaise, tDGet, tDGet2, tDGet1, sDPut, Option.join_some, List.getElem?_nil,  tSeq, tRet, tRetN, tIfS, tTest, tB, tOp, tUn, tVar, tC, tCB, tCons, tNil, tCall, tTupS, tAsg, gName, gNil, gCons, tPar, tNext, tDrop, tAnd, tOr, tNot, tAndV, tOrV, tNotV, tIf, rI, rI0, rU, rIxTH, rIxLH, rEqT, rNeT, rInT, rEq, rNe, scal, CPow, at0, at1, at2, List.map_cons, List.map_nil, List.length_cons, List.length_nil, Nat.reduceSub, Nat.reduceAdd, Nat.zero_add, List.replicate_zero, List.reduceReplicate, List.append_nil, List.nil_append, List.cons_append, List.getElem?_cons_zero, List.getElem?_cons_succ, List.set_cons_zero, List.set_cons_succ, Option.some.injEq, exists_eq_left', exists_eq_left, V.ref.injEq, V.int.injEq, V.bl.injEq, V.str.injEq, V.ty.injEq, HO.tup.injEq, HO.lst.injEq, List.cons.injEq, and_true, true_and, and_assoc, exists_and_left, decide_eq_true_eq, Bool.not_eq_true', decide_eq_false_iff_not, ite_true, ite_false, if_true, if_false, Int.reduceToNat, eq_self_iff_true, rIxS]
      refine ⟨by omega, c, a0, ?_⟩
      have rest : ¬ lead z.cps.toList → (if ((val z.cps.toList : Nat) : Int) < a then Q V.non H1 else if b < ((val z.cps.toList : Nat) : Int) then Q V.non H1 else N [some (V.str z), some (V.int a), some (V.int b), some (V.int (val z.cps.toList : Nat)), w4] H1) := fun nl =>
        ite2 (fun c => no (fun k => by have := k.2.1; omega) _ sm1) (fun c1 => ite2 (fun c => no (fun k => by have := k.2.2; omega) _ sm1) (fun c2 => hN _ _ ⟨rfl, ⟨⟨dz, nl⟩, by omega, by omega⟩, rfl⟩))
      by_cases q1 : (⟨#[c]⟩ : Str) = Str.ofString "0"
      · rw [if_pos q1]
        by_cases q2 : z = Str.ofString "0"
        · rw [if_neg (fun h => h q2)]
          exact rest fun l => (ld.mpr l).2 q2
        · rw [if_pos q2]
          exact no (fun k => k.1.2 (ld.mp ⟨q1, q2⟩)) _ sm1
      · rw [if_neg q1, if_neg (by decide)]
        exact rest fun l => q1 (ld.mpr l).1
    rintro _ _ ⟨rfl, cz, rfl⟩
    simp only [L2.start, Pr, tRev, tD1, tDPop1, tSl, tNoPart, tPart, rSlL, tDIn, tDNotIn, gSub, rSetL, tLst, tDNewK, tComp, L2.stC, tFor_eq, iList, iTup, iRng1, iRng2, iZip, iEnum, iDict, iStr, tChain, tSumV, tBM, rJoin, tJoined, jNil, jLit, jInt, jStr, tRaise, tDGet, tDGet2, tDGet1, sDPut, Option.join_some, List.getElem?_nil,  tSeq, tRet, tRetN, tIfS, tTest, tB, tOp, tUn, tVar, tC, tCB, tCons, tNil, tCall, tTupS, tAsg, gName, gNil, gCons, tPar, tNext, tDrop, tAnd, tOr, tNot, tAndV, tOrV, tNotV, tIf, rI, rI0, rU, rIxTH, rIxLH, rEqT, rNeT, rInT, rEq, rNe, scal, CPow, at0, at1, at2, List.map_cons, List.map_nil, List.length_cons, List.length_nil, Nat.reduceSub, Nat.reduceAdd, Nat.zero_add, List.replicate_zero, List.reduceReplicate, List.append_nil, List.nil_append, List.cons_append, List.getElem?_cons_zero, List.getElem?_cons_succ, List.set_cons_zero, List.set_cons_succ, Option.some.injEq, exists_eq_left', exists_eq_left, V.ref.injEq, V.int.injEq, V.bl.injEq, V.str.injEq, V.ty.injEq, HO.tup.injEq, HO.lst.injEq, List.cons.injEq, and_true, true_and, and_assoc, exists_and_left, decide_eq_true_eq, Bool.not_eq_true', decide_eq_false_iff_not, ite_true, ite_false, if_true, if_false, Int.reduceToNat, eq_self_iff_true]
    have kk := kk _ sm1
    unfold whN at kk
    rw [if_pos cz] at kk
    exact kk
theorem sc__law_dice : FnScope ["_law_text", "_law_many", "_law_sign", "_law_sides", "_law_found", "_law_dice_here"] ["_law_text"] (defScope (top 33)) := ⟨rfl, rfl, rfl, by decide +kernel, rfl, by decide +kernel, by decide +kernel⟩
theorem ok_ld (T : Txt K mg w.params q_LuckError q_NoShare q_NoTable q_NoPool q_NoEnd q_TooMany q_NoGame q_NoWay q_NoRule q_NoStep q_NoPlay q_NoRow q_OF_MANY q_OF_ONE) : Cal P w K mg base (CX1 P w) 2 "_law_dice" ["_law_text"] spLDc := by
  have c__law_whole : Cal P w K mg base (CX1 P w) 1 "_law_whole" ["_law_text", "_law_low", "_law_high"] spWh := ok_wh T
  refine T.d__law_dice.cal (fun _ _ _ _ _ _ us hl => match us, hl with | [_], _ => rfl) fun f fd F => F.okC sc__law_dice (fun vs H Q E h => ?_) (fun cdv A outer s H vs Q E hr h => ?_)
  · obtain ⟨_, rfl, _⟩ := h; rfl
  · obtain ⟨z, rfl, tz, kn, ks⟩ := h
    have nd := sc__law_dice.nd
    refine ⟨_, (pss_cons (ps_if (pt_cmpR op_ne (pe_bm PySem.F.plainAttrs_str PySem.F.slot_str_count PySem.F.type_str_count mt_count (pv 0) (pa_cons pe_str pa_nil (se rfl))) pe_int (nomark _)) (pss_one (ps_ret pe_non))
      pss_nil)
    (pss_cons (ps_asg (pe_bm PySem.F.plainAttrs_str PySem.F.slot_str_partition PySem.F.type_str_partition mt_partition (pv 0) (pa_cons pe_str pa_nil (se rfl))) (pg_tupK (K := K) (n := 3) rfl (pgs_cons (pg_name (i := 1) nd rfl (Or.inl rfl)) (pgs_cons (pg_name (i := 2) nd rfl (Or.inl rfl)) (pgs_cons (pg_name (i := 3) nd rfl (Or.inl rfl)) pgs_nil)))))
    (pss_cons (ps_set (i := 4) nd rfl (Or.inl rfl) (pe_cal c__law_whole (hr.mono (by decide)) rfl strictP.pass (pa_cons (pv 3) (pa_cons pe_int (pa_cons pe_int pa_nil (se rfl)) (se rfl)) (se rfl)) (he := se rfl) (hpl := na rfl)))
    (pss_cons (ps_if (pt_cmpR op_eq (pv 1) pe_str (nomark _)) (pss_one (ps_set (i := 5) nd rfl (Or.inl rfl) pe_int))
      (pss_one (ps_set (i := 5) nd rfl (Or.inl rfl) (pe_cal c__law_whole (hr.mono (by decide)) rfl strictP.pass (pa_cons (pv 1) (pa_cons pe_int (pa_cons pe_int pa_nil (se rfl)) (se rfl)) (se rfl)) (he := se rfl) (hpl := na rfl)))))
    (pss_cons (ps_if (PW.pt (pw_or (pt_cmpR op_isN (pv 4) pe_non (nomark _)) (pw_or1 (pt_cmpR op_isN (pv 5) pe_non (nomark _))))) (pss_one (ps_ret pe_non))
      pss_nil)
    (pss_one (ps_ret (pe_tupS (pa_cons (pv 5) (pa_cons (pv 4) pa_nil (se rfl)) (se rfl)))))))))), ?_⟩
    have tl := tz.2
    have sl := sizeLine_eq
    have e100 : Str.ofString "d" = ⟨#[100]⟩ := by decide +kernel
    have cs := count_split z (c := 100) (by decide)
    change tSeq _ _ _ [some (.str z), none, none, none, none, none] H
    by_cases l2 : (Txt.split z ⟨#[100]⟩).length = 2
    case neg =>
      refine seq_gen (fun _ _ => False) (fun _ _ h => h.elim) (fun N hN => ?_)
      simp only [L2.start, Pr, tRev, tD1, tDPop1, tSl, tNoPart, tPart, rSlL, tDIn, tDNotIn, gSub, rSetL, tLst, tDNewK, tComp, L2.stC, tFor_eq, iList, iTup, iRng1, iRng2, iZip, iEnum, iDict, iStr, tChain, tSumV, tBM, rJoin, tJoined, jNil, jLit, jInt, jStr, tRaise, tDGet, tDGet2, tDGet1, sDPut, Option.join_some, List.getElem?_nil,  tSeq, tRet, tRetN, tIfS, tTest, tB, tOp, tUn, tVar, tC, tCB, tCons, tNil, tCall, tTupS, tAsg, gName, gNil, gCons, tPar, tNext, tDrop, tAnd, tOr, tNot, tAndV, tOrV, tNotV, tIf, rI, rI0, rU, rIxTH, rIxLH, rEqT, rNeT, rInT, rEq, rNe, scal, CPow, at0, at1, at2, List.map_cons, List.map_nil, List.length_cons, List.length_nil, Nat.reduceSub, Nat.reduceAdd, Nat.zero_add, List.replicate_zero, List.reduceReplicate, List.append_nil, List.nil_append, List.cons_append, List.getElem?_cons_zero, List.getElem?_cons_succ, List.set_cons_zero, List.set_cons_succ, Option.some.injEq, exists_eq_left', exists_eq_left, V.ref.injEq, V.int.injEq, V.bl.injEq, V.str.injEq, V.ty.injEq, HO.tup.injEq, HO.lst.injEq, List.cons.injEq, and_true, true_and, and_assoc, exists_and_left, decide_eq_true_eq, Bool.not_eq_true', decide_eq_false_iff_not, ite_true, ite_false, if_true, if_false, Int.reduceToNat, eq_self_iff_true]
      rw [e100, cs, if_pos (by omega)]
      exact ⟨rfl, kn (dice_not l2) _ (Same.refl _)⟩
    refine seq_gen (fun σ' H1 => H = H1 ∧ σ' = [some (.str z), none, none, none, none, none]) ?_ (fun N hN => ?_)
    case refine_2 =>
      simp only [L2.start, Pr, tRev, tD1, tDPop1, tSl, tNoPart, tPart, rSlL, tDIn, tDNotIn, gSub, rSetL, tLst, tDNewK, tComp, L2.stC, tFor_eq, iList, iTup, iRng1, iRng2, iZip, iEnum, iDict, iStr, tChain, tSumV, tBM, rJoin, tJoined, jNil, jLit, jInt, jStr, tRaise, tDGet, tDGet2, tDGet1, sDPut, Option.join_some, List.getElem?_nil,  tSeq, tRet, tRetN, tIfS, tTest, tB, tOp, tUn, tVar, tC, tCB, tCons, tNil, tCall, tTupS, tAsg, gName, gNil, gCons, tPar, tNext, tDrop, tAnd, tOr, tNot, tAndV, tOrV, tNotV, tIf, rI, rI0, rU, rIxTH, rIxLH, rEqT, rNeT, rInT, rEq, rNe, scal, CPow, at0, at1, at2, List.map_cons, List.map_nil, List.length_cons, List.length_nil, Nat.reduceSub, Nat.reduceAdd, Nat.zero_add, List.replicate_zero, List.reduceReplicate, List.append_nil, List.nil_append, List.cons_append, List.getElem?_cons_zero, List.getElem?_cons_succ, List.set_cons_zero, List.set_cons_succ, Option.some.injEq, exists_eq_left', exists_eq_left, V.ref.injEq, V.int.injEq, V.bl.injEq, V.str.injEq, V.ty.injEq, HO.tup.injEq, HO.lst.injEq, List.cons.injEq, and_true, true_and, and_assoc, exists_and_left, decide_eq_true_eq, Bool.not_eq_true', decide_eq_false_iff_not, ite_true, ite_false, if_true, if_false, Int.reduceToNat, eq_self_iff_true]
      rw [e100, cs, if_neg (by omega)]
      exact ⟨rfl, hN _ _ ⟨rfl, rfl⟩⟩
    rintro _ _ ⟨rfl, rfl⟩
    obtain ⟨p, q, e⟩ : ∃ p q, Txt.split z ⟨#[100]⟩ = [p, q] := by
      generalize Txt.split z ⟨#[100]⟩ = ws at *
      match ws, l2 with
      | [a, b], _ => exact ⟨a, b, rfl⟩
    have dz := dice_two e
    have tp : Tx 100000 p := tz.piece (c := 100) (by rw [e]; simp)
    have tq : Tx 100000 q := tz.piece (c := 100) (by rw [e]; simp)
    have ps := part_split e
    change tSeq _ _ _ [some (.str z), none, none, none, none, none] H
    refine seq_gen (fun σ' H1 => Same H H1 ∧ σ' = [some (.str z), some (.str p), some (.str ⟨#[100]⟩), some (.str q), none, none]) ?_ (fun N hN => ?_)
    case refine_2 =>
      simp only [L2.start, Pr, tRev, tD1, tDPop1, tSl, tNoPart, tPart, rSlL, tDIn, tDNotIn, gSub, rSetL, tLst, tDNewK, tComp, L2.stC, tFor_eq, iList, iTup, iRng1, iRng2, iZip, iEnum, iDict, iStr, tChain, tSumV, tBM, rJoin, tJoined, jNil, jLit, jInt, jStr, tRaise, tDGet, tDGet2, tDGet1, sDPut, Option.join_some, List.getElem?_nil,  tSeq, tRet, tRetN, tIfS, tTest, tB, tOp, tUn, tVar, tC, tCB, tCons, tNil, tCall, tTupS, tAsg, gName, gNil, gCons, tPar, tNext, tDrop, tAnd, tOr, tNot, tAndV, tOrV, tNotV, tIf, rI, rI0, rU, rIxTH, rIxLH, rEqT, rNeT, rInT, rEq, rNe, scal, CPow, at0, at1, at2, List.map_cons, List.map_nil, List.length_cons, List.length_nil, Nat.reduceSub, Nat.reduceAdd, Nat.zero_add, List.replicate_zero, List.reduceReplicate, List.append_nil, List.nil_append, List.cons_append, List.getElem?_cons_zero, List.getElem?_cons_succ, List.set_cons_zero, List.set_cons_succ, Option.some.injEq, exists_eq_left', exists_eq_left, V.ref.injEq, V.int.injEq, V.bl.injEq, V.str.injEq, V.ty.injEq, HO.tup.injEq, HO.lst.injEq, List.cons.injEq, and_true, true_and, and_assoc, exists_and_left, decide_eq_true_eq, Bool.not_eq_true', decide_eq_false_iff_not, ite_true, ite_false, if_true, if_false, Int.reduceToNat, eq_self_iff_true]
      rw [e100, ps]
      refine ⟨rfl, rfl, by omega, fun l H1 s1 nl e1 => ⟨l, _, rfl, SqT.of e1, rfl, ?_⟩⟩
      simp only [L2.start, Pr, tRev, tD1, tDPop1, tSl, tNoPart, tPart, rSlL, tDIn, tDNotIn, gSub, rSetL, tLst, tDNewK, tComp, L2.stC, tFor_eq, iList, iTup, iRng1, iRng2, iZip, iEnum, iDict, iStr, tChain, tSumV, tBM, rJoin, tJoined, jNil, jLit, jInt, jStr, tRaise, tDGet, tDGet2, tDGet1, sDPut, Option.join_some, List.getElem?_nil,  tSeq, tRet, tRetN, tIfS, tTest, tB, tOp, tUn, tVar, tC, tCB, tCons, tNil, tCall, tTupS, tAsg, gName, gNil, gCons, tPar, tNext, tDrop, tAnd, tOr, tNot, tAndV, tOrV, tNotV, tIf, rI, rI0, rU, rIxTH, rIxLH, rEqT, rNeT, rInT, rEq, rNe, scal, CPow, at0, at1, at2, List.map_cons, List.map_nil, List.length_cons, List.length_nil, Nat.reduceSub, Nat.reduceAdd, Nat.zero_add, List.replicate_zero, List.reduceReplicate, List.append_nil, List.nil_append, List.cons_append, List.getElem?_cons_zero, List.getElem?_cons_succ, List.set_cons_zero, List.set_cons_succ, Option.some.injEq, exists_eq_left', exists_eq_left, V.ref.injEq, V.int.injEq, V.bl.injEq, V.str.injEq, V.ty.injEq, HO.tup.injEq, HO.lst.injEq, List.cons.injEq, and_true, true_and, and_assoc, exists_and_left, decide_eq_true_eq, Bool.not_eq_true', decide_eq_false_iff_not, ite_true, ite_false, if_true, if_false, Int.reduceToNat, eq_self_iff_true]
      exact hN _ _ ⟨s1, rfl⟩
    rintro _ H1 ⟨sm1, rfl⟩
    change tSeq _ _ _ [some (.str z), some (.str p), some (.str ⟨#[100]⟩), some (.str q), none, none] H1
    refine seq_gen (fun σ' H2 => Same H1 H2 ∧ σ' = [some (.str z), some (.str p), some (.str ⟨#[100]⟩), some (.str q), some (onV (whN q 1 20)), none]) ?_ (fun N hN => ?_)
    case refine_2 =>
      simp only [L2.start, Pr, tRev, tD1, tDPop1, tSl, tNoPart, tPart, rSlL, tDIn, tDNotIn, gSub, rSetL, tLst, tDNewK, tComp, L2.stC, tFor_eq, iList, iTup, iRng1, iRng2, iZip, iEnum, iDict, iStr, tChain, tSumV, tBM, rJoin, tJoined, jNil, jLit, jInt, jStr, tRaise, tDGet, tDGet2, tDGet1, sDPut, Option.join_some, List.getElem?_nil,  tSeq, tRet, tRetN, tIfS, tTest, tB, tOp, tUn, tVar, tC, tCB, tCons, tNil, tCall, tTupS, tAsg, gName, gNil, gCons, tPar, tNext, tDrop, tAnd, tOr, tNot, tAndV, tOrV, tNotV, tIf, rI, rI0, rU, rIxTH, rIxLH, rEqT, rNeT, rInT, rEq, rNe, scal, CPow, at0, at1, at2, List.map_cons, List.map_nil, List.length_cons, List.length_nil, Nat.reduceSub, Nat.reduceAdd, Nat.zero_add, List.replicate_zero, List.reduceReplicate, List.append_nil, List.nil_append, List.cons_append, List.getElem?_cons_zero, List.getElem?_cons_succ, List.set_cons_zero, List.set_cons_succ, Option.some.injEq, exists_eq_left', exists_eq_left, V.ref.injEq, V.int.injEq, V.bl.injEq, V.str.injEq, V.ty.injEq, HO.tup.injEq, HO.lst.injEq, List.cons.injEq, and_true, true_and, and_assoc, exists_and_left, decide_eq_true_eq, Bool.not_eq_true', decide_eq_false_iff_not, ite_true, ite_false, if_true, if_false, Int.reduceToNat, eq_self_iff_true, spWh]
      exact ⟨tq, by decide, fun H2 s2 => hN _ _ ⟨s2, rfl⟩⟩
    rintro _ H2 ⟨sm2, rfl⟩
    change tSeq _ _ _ [some (.str z), some (.str p), some (.str ⟨#[100]⟩), some (.str q), some (onV (whN q 1 20)), none] H2
    refine seq_gen (fun σ' H3 => Same H2 H3 ∧ σ' = [some (.str z), some (.str p), some (.str ⟨#[100]⟩), some (.str q), some (onV (whN q 1 20)), some (onV (if p = Str.ofString "" then some 1 else whN p 2 6))]) ?_ (fun N hN => ?_)
    case refine_2 =>
      simp only [L2.start, Pr, tRev, tD1, tDPop1, tSl, tNoPart, tPart, rSlL, tDIn, tDNotIn, gSub, rSetL, tLst, tDNewK, tComp, L2.stC, tFor_eq, iList, iTup, iRng1, iRng2, iZip, iEnum, iDict, iStr, tChain, tSumV, tBM, rJoin, tJoined, jNil, jLit, jInt, jStr, tRaise, tDGet, tDGet2, tDGet1, sDPut, Option.join_some, List.getElem?_nil,  tSeq, tRet, tRetN, tIfS, tTest, tB, tOp, tUn, tVar, tC, tCB, tCons, tNil, tCall, tTupS, tAsg, gName, gNil, gCons, tPar, tNext, tDrop, tAnd, tOr, tNot, tAndV, tOrV, tNotV, tIf, rI, rI0, rU, rIxTH, rIxLH, rEqT, rNeT, rInT, rEq, rNe, scal, CPow, at0, at1, at2, List.map_cons, List.map_nil, List.length_cons, List.length_nil, Nat.reduceSub, Nat.reduceAdd, Nat.zero_add, List.replicate_zero, List.reduceReplicate, List.append_nil, List.nil_append, List.cons_append, List.getElem?_cons_zero, List.getElem?_cons_succ, List.set_cons_zero, List.set_cons_succ, Option.some.injEq, exists_eq_left', exists_eq_left, V.ref.injEq, V.int.injEq, V.bl.injEq, V.str.injEq, V.ty.injEq, HO.tup.injEq, HO.lst.injEq, List.cons.injEq, and_true, true_and, and_assoc, exists_and_left, decide_eq_true_eq, Bool.not_eq_true', decide_eq_false_iff_not, ite_true, ite_false, if_true, if_false, Int.reduceToNat, eq_self_iff_true, spWh]
      by_cases p0 : p = Str.ofString ""
      · rw [if_pos p0]
        exact hN _ _ ⟨Same.refl _, by rw [if_pos p0]; rfl⟩
      · rw [if_neg p0]
        exact ⟨tp, by decide, fun H3 s3 => hN _ _ ⟨s3, by rw [if_neg p0]⟩⟩
    rintro _ H3 ⟨sm3, rfl⟩
    have sm := sm1.trans (sm2.trans sm3)
    generalize (if p = Str.ofString "" then some 1 else whN p 2 6) = om at *
    generalize whN q 1 20 = os at *
    cases os with
    | none =>
      have d0 : diceO z = none := by rw [dz]; cases om <;> rfl
      simp only [L2.start, Pr, tRev, tD1, tDPop1, tSl, tNoPart, tPart, rSlL, tDIn, tDNotIn, gSub, rSetL, tLst, tDNewK, tComp, L2.stC, tFor_eq, iList, iTup, iRng1, iRng2, iZip, iEnum, iDict, iStr, tChain, tSumV, tBM, rJoin, tJoined, jNil, jLit, jInt, jStr, tRaise, tDGet, tDGet2, tDGet1, sDPut, Option.join_some, List.getElem?_nil,  tSeq, tRet, tRetN, tIfS, tTest, tB, tOp, tUn, tVar, tC, tCB, tCons, tNil, tCall, tTupS, tAsg, gName, gNil, gCons, tPar, tNext, tDrop, tAnd, tOr, tNot, tAndV, tOrV, tNotV, tIf, rI, rI0, rU, rIxTH, rIxLH, rEqT, rNeT, rInT, rEq, rNe, scal, CPow, at0, at1, at2, List.map_cons, List.map_nil, List.length_cons, List.length_nil, Nat.reduceSub, Nat.reduceAdd, Nat.zero_add, List.replicate_zero, List.reduceReplicate, List.append_nil, List.nil_append, List.cons_append, List.getElem?_cons_zero, List.getElem?_cons_succ, List.set_cons_zero, List.set_cons_succ, Option.some.injEq, exists_eq_left', exists_eq_left, V.ref.injEq, V.int.injEq, V.bl.injEq, V.str.injEq, V.ty.injEq, HO.tup.injEq, HO.lst.injEq, List.cons.injEq, and_true, true_and, and_assoc, exists_and_left, decide_eq_true_eq, Bool.not_eq_true', decide_eq_false_iff_not, ite_true, ite_false, if_true, if_false, Int.reduceToNat, eq_self_iff_true, onV]
      exact kn d0 _ sm
    | some x =>
      cases om with
      | none =>
        simp only [L2.start, Pr, tRev, tD1, tDPop1, tSl, tNoPart, tPart, rSlL, tDIn, tDNotIn, gSub, rSetL, tLst, tDNewK, tComp, L2.stC, tFor_eq, iList, iTup, iRng1, iRng2, iZip, iEnum, iDict, iStr, tChain, tSumV, tBM, rJoin, tJoined, jNil, jLit, jInt, jStr, tRaise, tDGet, tDGet2, tDGet1, sDPut, Option.join_some, List.getElem?_nil,  tSeq, tRet, tRetN, tIfS, tTest, tB, tOp, tUn, tVar, tC, tCB, tCons, tNil, tCall, tTupS, tAsg, gName, gNil, gCons, tPar, tNext, tDrop, tAnd, tOr, tNot, tAndV, tOrV, tNotV, tIf, rI, rI0, rU, rIxTH, rIxLH, rEqT, rNeT, rInT, rEq, rNe, scal, CPow, at0, at1, at2, List.map_cons, List.map_nil, List.length_cons, List.length_nil, Nat.reduceSub, Nat.reduceAdd, Nat.zero_add, List.replicate_zero, List.reduceReplicate, List.append_nil, List.nil_append, List.cons_append, List.getElem?_cons_zero, List.getElem?_cons_succ, List.set_cons_zero, List.set_cons_succ, Option.some.injEq, exists_eq_left', exists_eq_left, V.ref.injEq, V.int.injEq, V.bl.injEq, V.str.injEq, V.ty.injEq, HO.tup.injEq, HO.lst.injEq, List.cons.injEq, and_true, true_and, and_assoc, exists_and_left, decide_eq_true_eq, Bool.not_eq_true', decide_eq_false_iff_not, ite_true, ite_false, if_true, if_false, Int.reduceToNat, eq_self_iff_true, onV]
        exact kn dz _ sm
      | some m =>
        simp only [L2.start, Pr, tRev, tD1, tDPop1, tSl, tNoPart, tPart, rSlL, tDIn, tDNotIn, gSub, rSetL, tLst, tDNewK, tComp, L2.stC, tFor_eq, iList, iTup, iRng1, iRng2, iZip, iEnum, iDict, iStr, tChain, tSumV, tBM, rJoin, tJoined, jNil, jLit, jInt, jStr, tRaise, tDGet, tDGet2, tDGet1, sDPut, Option.join_some, List.getElem?_nil,  tSeq, tRet, tRetN, tIfS, tTest, tB, tOp, tUn, tVar, tC, tCB, tCons, tNil, tCall, tTupS, tAsg, gName, gNil, gCons, tPar, tNext, tDrop, tAnd, tOr, tNot, tAndV, tOrV, tNotV, tIf, rI, rI0, rU, rIxTH, rIxLH, rEqT, rNeT, rInT, rEq, rNe, scal, CPow, at0, at1, at2, List.map_cons, List.map_nil, List.length_cons, List.length_nil, Nat.reduceSub, Nat.reduceAdd, Nat.zero_add, List.replicate_zero, List.reduceReplicate, List.append_nil, List.nil_append, List.cons_append, List.getElem?_cons_zero, List.getElem?_cons_succ, List.set_cons_zero, List.set_cons_succ, Option.some.injEq, exists_eq_left', exists_eq_left, V.ref.injEq, V.int.injEq, V.bl.injEq, V.str.injEq, V.ty.injEq, HO.tup.injEq, HO.lst.injEq, List.cons.injEq, and_true, true_and, and_assoc, exists_and_left, decide_eq_true_eq, Bool.not_eq_true', decide_eq_false_iff_not, ite_true, ite_false, if_true, if_false, Int.reduceToNat, eq_self_iff_true, onV]
        exact ⟨by decide, fun r H4 s4 nr e4 => ks m x dz r H4 (sm.trans s4) e4⟩
theorem sc__law_part : FnScope ["_law_text", "_law_words", "_law_number", "_law_dice_here"] ["_law_text"] (defScope (top 34)) := ⟨rfl, rfl, rfl, by decide +kernel, rfl, by decide +kernel, by decide +kernel⟩
theorem ok_lp (T : Txt K mg w.params q_LuckError q_NoShare q_NoTable q_NoPool q_NoEnd q_TooMany q_NoGame q_NoWay q_NoRule q_NoStep q_NoPlay q_NoRow q_OF_MANY q_OF_ONE) : Cal P w K mg base (CX1 P w) 3 "_law_part" ["_law_text"] spLPt := by
  have c__law_whole : Cal P w K mg base (CX1 P w) 1 "_law_whole" ["_law_text", "_law_low", "_law_high"] spWh := ok_wh T
  have c__law_dice : Cal P w K mg base (CX1 P w) 2 "_law_dice" ["_law_text"] spLDc := ok_ld T
  refine T.d__law_part.cal (fun _ _ _ _ _ _ us hl => match us, hl with | [_], _ => rfl) fun f fd F => F.okC sc__law_part (fun vs H Q E h => ?_) (fun cdv A outer s H vs Q E hr h => ?_)
  · obtain ⟨_, rfl, _⟩ := h; rfl
  · obtain ⟨z, rfl, tz, kn, ks⟩ := h
    have nd := sc__law_part.nd
    refine ⟨_, (pss_cons (ps_set (i := 1) nd rfl (Or.inl rfl) (pe_bm PySem.F.plainAttrs_str PySem.F.slot_str_split PySem.F.type_str_split mt_split (pv 0) (pa_cons pe_str pa_nil (se rfl))))
    (pss_cons (ps_if (pt_cmpR op_eq (pe_callB call_lenL (by rfl) T.z_len PySem.boot_len (pa_cons (pv 1) pa_nil (se rfl)) (he := se rfl) (hpl := na rfl)) pe_int (nomark _)) (pss_cons (ps_set (i := 2) nd rfl (Or.inl rfl) (pe_cal c__law_whole (hr.mono (by decide)) rfl strictP.pass (pa_cons (pv 0) (pa_cons pe_int (pa_cons pe_int pa_nil (se rfl)) (se rfl)) (se rfl)) (he := se rfl) (hpl := na rfl)))
    (pss_cons (ps_if (pt_cmpR op_notN (pv 2) pe_non (nomark _)) (pss_one (ps_ret (pe_tupS (pa_cons pe_str (pa_cons (pv 2) pa_nil (se rfl)) (se rfl)))))
      pss_nil)
    (pss_cons (ps_set (i := 3) nd rfl (Or.inl rfl) (pe_cal c__law_dice (hr.mono (by decide)) rfl strictP.pass (pa_cons (pv 0) pa_nil (se rfl)) (he := se rfl) (hpl := na rfl)))
    (pss_cons (ps_if (pt_cmpR op_isN (pv 3) pe_non (nomark _)) (pss_one (ps_ret pe_non))
      pss_nil)
    (pss_one (ps_ret (pe_op (op_catTK (K := K)) (pe_tupS (pa_cons pe_str pa_nil (se rfl))) (pv 3))))))))
      pss_nil)
    (pss_cons (ps_if (PW.pt (pw_or (pt_cmpR op_ne (pe_callB call_lenL (by rfl) T.z_len PySem.boot_len (pa_cons (pv 1) pa_nil (se rfl)) (he := se rfl) (hpl := na rfl)) pe_int (nomark _)) (pw_or (pt_cmpR op_ne (pe_ix ix_listH (pv 1) pe_int (fun _ _ => rfl)) pe_str (nomark _)) (pw_or1 (pt_cmpR op_isN (pe_cal c__law_dice (hr.mono (by decide)) rfl strictP.pass (pa_cons (pe_ix ix_listH (pv 1) pe_int (fun _ _ => rfl)) pa_nil (se rfl)) (he := se rfl) (hpl := na rfl)) pe_non (nomark _)))))) (pss_one (ps_ret pe_non))
      pss_nil)
    (pss_cons (ps_set (i := 3) nd rfl (Or.inl rfl) (pe_cal c__law_dice (hr.mono (by decide)) rfl strictP.pass (pa_cons (pe_ix ix_listH (pv 1) pe_int (fun _ _ => rfl)) pa_nil (se rfl)) (he := se rfl) (hpl := na rfl)))
    (pss_cons (ps_if (PW.pt (pw_or (pt_cmpR op_eq (pe_ix ix_listH (pv 1) pe_int (fun _ _ => rfl)) pe_str (nomark _)) (pw_or1 (pt_cmpR op_eq (pe_ix ix_listH (pv 1) pe_int (fun _ _ => rfl)) pe_str (nomark _))))) (pss_cons (ps_set (i := 2) nd rfl (Or.inl rfl) (pe_cal c__law_whole (hr.mono (by decide)) rfl strictP.pass (pa_cons (pe_ix ix_listH (pv 1) pe_int (fun _ _ => rfl)) (pa_cons pe_int (pa_cons (pe_ix ix_listH (pe_lst (pa_cons pe_int (pa_cons pe_int pa_nil (se rfl)) (se rfl))) (pe_callTy call_int_b (by rfl) T.z_int rfl (pa_cons (pe_cmpR op_eq (pe_ix ix_listH (pv 1) pe_int (fun _ _ => rfl)) pe_str (nomark _)) pa_nil (se rfl)) (he := se rfl) (hpl := na rfl)) (fun _ _ => rfl)) pa_nil (se rfl)) (se rfl)) (se rfl)) (he := se rfl) (hpl := na rfl)))
    (pss_cons (ps_if (PW.pt (pw_or (pt_cmpR op_gt (pe_ix ix_tupH (pv 3) pe_int (fun _ _ => rfl)) pe_int (nomark _)) (pw_or1 (pt_cmpR op_isN (pv 2) pe_non (nomark _))))) (pss_one (ps_ret pe_non))
      pss_nil)
    (pss_one (ps_ret (pe_tupS (pa_cons (pe_ix ix_listH (pv 1) pe_int (fun _ _ => rfl)) (pa_cons (pv 2) (pa_cons (pe_ix ix_tupH (pv 3) pe_int (fun _ _ => rfl)) pa_nil (se rfl)) (se rfl)) (se rfl)))))))
      pss_nil)
    (pss_cons (ps_if (pt_cmpR op_eq (pe_ix ix_listH (pv 1) pe_int (fun _ _ => rfl)) pe_str (nomark _)) (pss_one (ps_set (i := 2) nd rfl (Or.inl rfl) (pe_cal c__law_whole (hr.mono (by decide)) rfl strictP.pass (pa_cons (pe_ix ix_listH (pv 1) pe_int (fun _ _ => rfl)) (pa_cons pe_int (pa_cons pe_int pa_nil (se rfl)) (se rfl)) (se rfl)) (he := se rfl) (hpl := na rfl))))
      (pss_one (ps_set (i := 2) nd rfl (Or.inl rfl) (pe_cal c__law_whole (hr.mono (by decide)) rfl strictP.pass (pa_cons (pe_ix ix_listH (pv 1) pe_int (fun _ _ => rfl)) (pa_cons pe_int (pa_cons (pe_ix ix_tupH (pv 3) pe_int (fun _ _ => rfl)) pa_nil (se rfl)) (se rfl)) (se rfl)) (he := se rfl) (hpl := na rfl)))))
    (pss_cons (ps_if (PW.pt (pw_or (pt_cmpR op_notIn_seq (pe_ix ix_listH (pv 1) pe_int (fun _ _ => rfl)) (pe_tupS (pa_cons pe_str (pa_cons pe_str (pa_cons pe_str pa_nil (se rfl)) (se rfl)) (se rfl))) rfl) (pw_or1 (pt_cmpR op_isN (pv 2) pe_non (nomark _))))) (pss_one (ps_ret pe_non))
      pss_nil)
    (pss_one (ps_ret (pe_op (op_catTK (K := K)) (pe_tupS (pa_cons (pe_ix ix_listH (pv 1) pe_int (fun _ _ => rfl)) (pa_cons (pv 2) pa_nil (se rfl)) (se rfl))) (pv 3))))))))))), ?_⟩
    have tl := tz.2
    have e32 : Str.ofString " " = ⟨#[32]⟩ := by decide +kernel
    change tSeq _ _ _ [some (.str z), none, none, none] H
    refine seq_gen (fun σ' H1 => Same H H1 ∧ ∃ l, H1 l = some (.lst (List.map V.str (Txt.split z ⟨#[32]⟩))) ∧ σ' = [some (.str z), some (.ref l), none, none]) ?_ (fun N hN => ?_)
    case refine_2 =>
      simp only [L2.start, Pr, tRev, tD1, tDPop1, tSl, tNoPart, tPart, rSlL, tDIn, tDNotIn, gSub, rSetL, tLst, tDNewK, tComp, L2.stC, tFor_eq, iList, iTup, iRng1, iRng2, iZip, iEnum, iDict, iStr, tChain, tSumV, tBM, rJoin, tJoined, jNil, jLit, jInt, jStr, tRaise, tDGet, tDGet2, tDGet1, sDPut, Option.join_some, List.getElem?_nil,  tSeq, tRet, tRetN, tIfS, tTest, tB, tOp, tUn, tVar, tC, tCB, tCons, tNil, tCall, tTupS, tAsg, gName, gNil, gCons, tPar, tNext, tDrop, tAnd, tOr, tNot, tAndV, tOrV, tNotV, tIf, rI, rI0, rU, rIxTH, rIxLH, rEqT, rNeT, rInT, rEq, rNe, scal, CPow, at0, at1, at2, List.map_cons, List.map_nil, List.length_cons, List.length_nil, Nat.reduceSub, Nat.reduceAdd, Nat.zero_add, List.replicate_zero, List.reduceReplicate, List.append_nil, List.nil_append, List.cons_append, List.getElem?_cons_zero, List.getElem?_cons_succ, List.set_cons_zero, List.set_cons_succ, Option.some.injEq, exists_eq_left', exists_eq_left, V.ref.injEq, V.int.injEq, V.bl.injEq, V.str.injEq, V.ty.injEq, HO.tup.injEq, HO.lst.injEq, List.cons.injEq, and_true, true_and, and_assoc, exists_and_left, decide_eq_true_eq, Bool.not_eq_true', decide_eq_false_iff_not, ite_true, ite_false, if_true, if_false, Int.reduceToNat, eq_self_iff_true]
      exact ⟨rfl, 32, e32, by omega, fun l nl => hN _ _ ⟨same_upd nl, l, upd_same, rfl⟩⟩
    have tw : ∀ y ∈ Txt.split z ⟨#[32]⟩, Tx 100000 y := fun y hy => tz.piece hy
    have po : partO z = partP z (Txt.split z ⟨#[32]⟩) := rfl
    generalize Txt.split z ⟨#[32]⟩ = ws at *
    rw [po] at kn ks
    rintro _ H1 ⟨sm1, l, hl, rfl⟩
    change tSeq _ _ _ [some (.str z), some (.ref l), none, none] H1
    by_cases l1 : ws.length = 1
    · obtain ⟨a, rfl⟩ := List.length_eq_one_iff.mp l1
      have p1 : partP z [a] = match whN z 0 99 with
        | some n => some (.num n)
        | none => (diceO z).map fun ms => .dice ms.1 ms.2 := part_one z a
      rw [p1] at kn ks
      refine seq_gen (fun _ _ => False) (fun _ _ h => h.elim) (fun N hN => ?_)
      have hl1 : H1 l = some (.lst [V.str a]) := hl
      simp only [L2.start, Pr, tRev, tD1, tDPop1, tSl, tNoPart, tPart, rSlL, tDIn, tDNotIn, gSub, rSetL, tLst, tDNewK, tComp, L2.stC, tFor_eq, iList, iTup, iRng1, iRng2, iZip, iEnum, iDict, iStr, tChain, tSumV, tBM, rJoin, tJoined, jNil, jLit, jInt, jStr, tRaise, tDGet, tDGet2, tDGet1, sDPut, Option.join_some, List.getElem?_nil,  tSeq, tRet, tRetN, tIfS, tTest, tB, tOp, tUn, tVar, tC, tCB, tCons, tNil, tCall, tTupS, tAsg, gName, gNil, gCons, tPar, tNext, tDrop, tAnd, tOr, tNot, tAndV, tOrV, tNotV, tIf, rI, rI0, rU, rIxTH, rIxLH, rEqT, rNeT, rInT, rEq, rNe, scal, CPow, at0, at1, at2, List.map_cons, List.map_nil, List.length_cons, List.length_nil, Nat.reduceSub, Nat.reduceAdd, Nat.zero_add, List.replicate_zero, List.reduceReplicate, List.append_nil, List.nil_append, List.cons_append, List.getElem?_cons_zero, List.getElem?_cons_succ, List.set_cons_zero, List.set_cons_succ, Option.some.injEq, exists_eq_left', exists_eq_left, V.ref.injEq, V.int.injEq, V.bl.injEq, V.str.injEq, V.ty.injEq, HO.tup.injEq, HO.lst.injEq, List.cons.injEq, and_true, true_and, and_assoc, exists_and_left, decide_eq_true_eq, Bool.not_eq_true', decide_eq_false_iff_not, ite_true, ite_false, if_true, if_false, Int.reduceToNat, eq_self_iff_true, hl1, spWh, spLDc, rCatT]
      rw [if_pos (by decide)]
      refine ⟨tz, by decide, fun H2 s2 => ?_⟩
      generalize whN z 0 99 = ow at *
      cases ow with
      | some n =>
        simp only [L2.start, Pr, tRev, tD1, tDPop1, tSl, tNoPart, tPart, rSlL, tDIn, tDNotIn, gSub, rSetL, tLst, tDNewK, tComp, L2.stC, tFor_eq, iList, iTup, iRng1, iRng2, iZip, iEnum, iDict, iStr, tChain, tSumV, tBM, rJoin, tJoined, jNil, jLit, jInt, jStr, tRaise, tDGet, tDGet2, tDGet1, sDPut, Option.join_some, List.getElem?_nil,  tSeq, tRet, tRetN, tIfS, tTest, tB, tOp, tUn, tVar, tC, tCB, tCons, tNil, tCall, tTupS, tAsg, gName, gNil, gCons, tPar, tNext, tDrop, tAnd, tOr, tNot, tAndV, tOrV, tNotV, tIf, rI, rI0, rU, rIxTH, rIxLH, rEqT, rNeT, rInT, rEq, rNe, scal, CPow, at0, at1, at2, List.map_cons, List.map_nil, List.length_cons, List.length_nil, Nat.reduceSub, Nat.reduceAdd, Nat.zero_add, List.replicate_zero, List.reduceReplicate, List.append_nil, List.nil_append, List.cons_append, List.getElem?_cons_zero, List.getElem?_cons_succ, List.set_cons_zero, List.set_cons_succ, Option.some.injEq, exists_eq_left', exists_eq_left, V.ref.injEq, V.int.injEq, V.bl.injEq, V.str.injEq, V.ty.injEq, HO.tup.injEq, HO.lst.injEq, List.cons.injEq, and_true, true_and, and_assoc, exists_and_left, decide_eq_true_eq, Bool.not_eq_true', decide_eq_false_iff_not, ite_true, ite_false, if_true, if_false, Int.reduceToNat, eq_self_iff_true, onV]
        exact ⟨by decide, fun q H3 s3 nq e => ks (.num n) rfl _ _ (sm1.trans (s2.trans s3)) e⟩
      | none =>
        simp only [L2.start, Pr, tRev, tD1, tDPop1, tSl, tNoPart, tPart, rSlL, tDIn, tDNotIn, gSub, rSetL, tLst, tDNewK, tComp, L2.stC, tFor_eq, iList, iTup, iRng1, iRng2, iZip, iEnum, iDict, iStr, tChain, tSumV, tBM, rJoin, tJoined, jNil, jLit, jInt, jStr, tRaise, tDGet, tDGet2, tDGet1, sDPut, Option.join_some, List.getElem?_nil,  tSeq, tRet, tRetN, tIfS, tTest, tB, tOp, tUn, tVar, tC, tCB, tCons, tNil, tCall, tTupS, tAsg, gName, gNil, gCons, tPar, tNext, tDrop, tAnd, tOr, tNot, tAndV, tOrV, tNotV, tIf, rI, rI0, rU, rIxTH, rIxLH, rEqT, rNeT, rInT, rEq, rNe, scal, CPow, at0, at1, at2, List.map_cons, List.map_nil, List.length_cons, List.length_nil, Nat.reduceSub, Nat.reduceAdd, Nat.zero_add, List.replicate_zero, List.reduceReplicate, List.append_nil, List.nil_append, List.cons_append, List.getElem?_cons_zero, List.getElem?_cons_succ, List.set_cons_zero, List.set_cons_succ, Option.some.injEq, exists_eq_left', exists_eq_left, V.ref.injEq, V.int.injEq, V.bl.injEq, V.str.injEq, V.ty.injEq, HO.tup.injEq, HO.lst.injEq, List.cons.injEq, and_true, true_and, and_assoc, exists_and_left, decide_eq_true_eq, Bool.not_eq_true', decide_eq_false_iff_not, ite_true, ite_false, if_true, if_false, Int.reduceToNat, eq_self_iff_true, onV]
        refine ⟨tz, fun no H3 s3 => ?_, fun m x ed p H3 s3 e3 => ?_⟩
        · exact kn (by rw [no]; rfl) _ (sm1.trans (s2.trans s3))
        · exact ⟨by decide, fun p2 H4 s4 np e4 => ⟨_, SqT.of e4, _, SqT.of (s4 _ _ e3), by simp, (show 1 + 2 ≤ sizeLine by decide), fun h => (by simp at h), fun _ q nq => ks (.dice m x) (by rw [ed]; rfl) _ _ (sm1.trans (s2.trans (s3.trans (s4.trans (same_upd nq))))) upd_same⟩⟩
    refine seq_gen (fun σ' H2 => H1 = H2 ∧ σ' = [some (.str z), some (.ref l), none, none]) ?_ (fun N hN => ?_)
    case refine_2 =>
      simp only [L2.start, Pr, tRev, tD1, tDPop1, tSl, tNoPart, tPart, rSlL, tDIn, tDNotIn, gSub, rSetL, tLst, tDNewK, tComp, L2.stC, tFor_eq, iList, iTup, iRng1, iRng2, iZip, iEnum, iDict, iStr, tChain, tSumV, tBM, rJoin, tJoined, jNil, jLit, jInt, jStr, tRaise, tDGet, tDGet2, tDGet1, sDPut, Option.join_some, List.getElem?_nil,  tSeq, tRet, tRetN, tIfS, tTest, tB, tOp, tUn, tVar, tC, tCB, tCons, tNil, tCall, tTupS, tAsg, gName, gNil, gCons, tPar, tNext, tDrop, tAnd, tOr, tNot, tAndV, tOrV, tNotV, tIf, rI, rI0, rU, rIxTH, rIxLH, rEqT, rNeT, rInT, rEq, rNe, scal, CPow, at0, at1, at2, List.map_cons, List.map_nil, List.length_cons, List.length_nil, Nat.reduceSub, Nat.reduceAdd, Nat.zero_add, List.replicate_zero, List.reduceReplicate, List.append_nil, List.nil_append, List.cons_append, List.getElem?_cons_zero, List.getElem?_cons_succ, List.set_cons_zero, List.set_cons_succ, Option.some.injEq, exists_eq_left', exists_eq_left, V.ref.injEq, V.int.injEq, V.bl.injEq, V.str.injEq, V.ty.injEq, HO.tup.injEq, HO.lst.injEq, List.cons.injEq, and_true, true_and, and_assoc, exists_and_left, decide_eq_true_eq, Bool.not_eq_true', decide_eq_false_iff_not, ite_true, ite_false, if_true, if_false, Int.reduceToNat, eq_self_iff_true, spWh, spLDc, rCatT]
      refine ⟨_, hl, ?_⟩
      rw [List.length_map, if_neg (by omega)]
      exact hN _ _ ⟨rfl, rfl⟩
    rintro _ _ ⟨rfl, rfl⟩
    change tSeq _ _ _ [some (.str z), some (.ref l), none, none] H1
    by_cases four : ∃ k f d, ws = [k, f, Str.ofString "of", d]
    case neg =>
      refine seq_gen (fun _ _ => False) (fun _ _ h => h.elim) (fun N hN => ?_)
      simp only [L2.start, Pr, tRev, tD1, tDPop1, tSl, tNoPart, tPart, rSlL, tDIn, tDNotIn, gSub, rSetL, tLst, tDNewK, tComp, L2.stC, tFor_eq, iList, iTup, iRng1, iRng2, iZip, iEnum, iDict, iStr, tChain, tSumV, tBM, rJoin, tJoined, jNil, jLit, jInt, jStr, tRaise, tDGet, tDGet2, tDGet1, sDPut, Option.join_some, List.getElem?_nil,  tSeq, tRet, tRetN, tIfS, tTest, tB, tOp, tUn, tVar, tC, tCB, tCons, tNil, tCall, tTupS, tAsg, gName, gNil, gCons, tPar, tNext, tDrop, tAnd, tOr, tNot, tAndV, tOrV, tNotV, tIf, rI, rI0, rU, rIxTH, rIxLH, rEqT, rNeT, rInT, rEq, rNe, scal, CPow, at0, at1, at2, List.map_cons, List.map_nil, List.length_cons, List.length_nil, Nat.reduceSub, Nat.reduceAdd, Nat.zero_add, List.replicate_zero, List.reduceReplicate, List.append_nil, List.nil_append, List.cons_append, List.getElem?_cons_zero, List.getElem?_cons_succ, List.set_cons_zero, List.set_cons_succ, Option.some.injEq, exists_eq_left', exists_eq_left, V.ref.injEq, V.int.injEq, V.bl.injEq, V.str.injEq, V.ty.injEq, HO.tup.injEq, HO.lst.injEq, List.cons.injEq, and_true, true_and, and_assoc, exists_and_left, decide_eq_true_eq, Bool.not_eq_true', decide_eq_false_iff_not, ite_true, ite_false, if_true, if_false, Int.reduceToNat, eq_self_iff_true, spLDc]
      have no := kn (part_not l1 four)
      refine ⟨_, hl, ?_⟩
      rw [List.length_map]
      refine ite2 (fun l4 => no _ sm1) (fun l4 => ?_)
      obtain ⟨k, g, o, d, rfl⟩ : ∃ k g o d, ws = [k, g, o, d] := by
        have l4 : ws.length = 4 := by omega
        match ws, l4 with
        | [a, b, c, d], _ => exact ⟨a, b, c, d, rfl⟩
      refine ⟨_, hl, _, atI_nat (j := 2) rfl, rfl, ?_⟩
      have no' : o ≠ Str.ofString "of" := fun e => four ⟨k, g, d, by rw [e]⟩
      rw [if_pos (by simpa using no')]
      exact no _ sm1
    obtain ⟨k, g, d, rfl⟩ := four
    have tk : Tx 100000 k := tw _ (by simp)
    have tg : Tx 100000 g := tw _ (by simp)
    have td : Tx 100000 d := tw _ (by simp)
    have pw : partP z [k, g, Str.ofString "of", d] = wordO k g d := by rw [part_four, if_pos rfl]
    rw [pw] at kn ks
    have hl1 : H1 l = some (.lst [V.str k, V.str g, V.str (Str.ofString "of"), V.str d]) := hl
    refine seq_gen (fun σ' H2 => Same H1 H2 ∧ (∃ m x, diceO d = some (m, x)) ∧ σ' = [some (.str z), some (.ref l), none, none]) ?_ (fun N hN => ?_)
    case refine_2 =>
      simp only [L2.start, Pr, tRev, tD1, tDPop1, tSl, tNoPart, tPart, rSlL, tDIn, tDNotIn, gSub, rSetL, tLst, tDNewK, tComp, L2.stC, tFor_eq, iList, iTup, iRng1, iRng2, iZip, iEnum, iDict, iStr, tChain, tSumV, tBM, rJoin, tJoined, jNil, jLit, jInt, jStr, tRaise, tDGet, tDGet2, tDGet1, sDPut, Option.join_some, List.getElem?_nil,  tSeq, tRet, tRetN, tIfS, tTest, tB, tOp, tUn, tVar, tC, tCB, tCons, tNil, tCall, tTupS, tAsg, gName, gNil, gCons, tPar, tNext, tDrop, tAnd, tOr, tNot, tAndV, tOrV, tNotV, tIf, rI, rI0, rU, rIxTH, rIxLH, rEqT, rNeT, rInT, rEq, rNe, scal, CPow, at0, at1, at2, List.map_cons, List.map_nil, List.length_cons, List.length_nil, Nat.reduceSub, Nat.reduceAdd, Nat.zero_add, List.replicate_zero, List.reduceReplicate, List.append_nil, List.nil_append, List.cons_append, List.getElem?_cons_zero, List.getElem?_cons_succ, List.set_cons_zero, List.set_cons_succ, Option.some.injEq, exists_eq_left', exists_eq_left, V.ref.injEq, V.int.injEq, V.bl.injEq, V.str.injEq, V.ty.injEq, HO.tup.injEq, HO.lst.injEq, List.cons.injEq, and_true, true_and, and_assoc, exists_and_left, decide_eq_true_eq, Bool.not_eq_true', decide_eq_false_iff_not, ite_true, ite_false, if_true, if_false, Int.reduceToNat, eq_self_iff_true, hl1, spLDc]
      rw [if_neg (by decide), if_neg (by decide)]
      refine ⟨_, atI_nat (j := 3) rfl, d, rfl, td, fun no H2 s2 => ?_, fun m x ed p H2 s2 e2 => ?_⟩
      · exact kn (by unfold wordO; rw [no]; rfl) _ (sm1.trans s2)
      · exact hN _ _ ⟨s2, ⟨m, x, ed⟩, rfl⟩
    rintro _ H2 ⟨sm2, ⟨m, x, ed⟩, rfl⟩
    have hl2 := sm2 _ _ hl1
    have wo : wordO k g d = wordP k g m x := by unfold wordO; rw [ed]; rfl
    rw [wo] at kn ks
    change tSeq _ _ _ [some (.str z), some (.ref l), none, none] H2
    refine seq_gen (fun σ' H3 => Same H2 H3 ∧ ∃ p, H3 p = some (.tup [.int m, .int x]) ∧ σ' = [some (.str z), some (.ref l), none, some (.ref p)]) ?_ (fun N hN => ?_)
    case refine_2 =>
      simp only [L2.start, Pr, tRev, tD1, tDPop1, tSl, tNoPart, tPart, rSlL, tDIn, tDNotIn, gSub, rSetL, tLst, tDNewK, tComp, L2.stC, tFor_eq, iList, iTup, iRng1, iRng2, iZip, iEnum, iDict, iStr, tChain, tSumV, tBM, rJoin, tJoined, jNil, jLit, jInt, jStr, tRaise, tDGet, tDGet2, tDGet1, sDPut, Option.join_some, List.getElem?_nil,  tSeq, tRet, tRetN, tIfS, tTest, tB, tOp, tUn, tVar, tC, tCB, tCons, tNil, tCall, tTupS, tAsg, gName, gNil, gCons, tPar, tNext, tDrop, tAnd, tOr, tNot, tAndV, tOrV, tNotV, tIf, rI, rI0, rU, rIxTH, rIxLH, rEqT, rNeT, rInT, rEq, rNe, scal, CPow, at0, at1, at2, List.map_cons, List.map_nil, List.length_cons, List.length_nil, Nat.reduceSub, Nat.reduceAdd, Nat.zero_add, List.replicate_zero, List.reduceReplicate, List.append_nil, List.nil_append, List.cons_append, List.getElem?_cons_zero, List.getElem?_cons_succ, List.set_cons_zero, List.set_cons_succ, Option.some.injEq, exists_eq_left', exists_eq_left, V.ref.injEq, V.int.injEq, V.bl.injEq, V.str.injEq, V.ty.injEq, HO.tup.injEq, HO.lst.injEq, List.cons.injEq, and_true, true_and, and_assoc, exists_and_left, decide_eq_true_eq, Bool.not_eq_true', decide_eq_false_iff_not, ite_true, ite_false, if_true, if_false, Int.reduceToNat, eq_self_iff_true, hl2, spLDc]
      refine ⟨_, atI_nat (j := 3) rfl, d, rfl, td, fun no H2 s2 => ?_, fun m' x' ed' p H2 s2 e2 => hN _ _ ⟨s2, p, ?_, rfl⟩⟩
      · rw [ed] at no; cases no
      · rw [ed] at ed'; cases ed'; exact e2
    rintro _ H3 ⟨sm3, p, hp, rfl⟩
    have hl3 := sm3 _ _ hl2
    have sm : Same H H3 := sm1.trans (sm2.trans sm3)
    have rg := dice_rng ed
    change tSeq _ _ _ [some (.str z), some (.ref l), none, some (.ref p)] H3
    by_cases one : k = Str.ofString "again" ∨ k = Str.ofString "burst"
    · refine seq_gen (fun _ _ => False) (fun _ _ h => h.elim) (fun N hN => ?_)
      have e1 : wordP k g m x = (whN g 0 (if k = Str.ofString "burst" then 6 else 20)).bind fun n => if m = 1 then some (.one k n x) else none := by
        unfold wordP
        by_cases h : k = Str.ofString "again"
        · rw [if_pos h, if_neg (by rw [h]; decide +kernel)]
        · rcases one with h1 | h2
          · exact absurd h1 h
          · rw [if_neg h, if_pos h2, if_pos h2]
      rw [e1] at kn ks
      change tIfS _ _ _ _ [some (.str z), some (.ref l), none, some (.ref p)] H3
      refine if_gen (fun H' => H3 = H') (fun _ => False) (fun H' e => ?_) (fun _ z => z.elim) (fun Y Nn hY _ => ?_)
      case refine_2 =>
        have y := hY H3 rfl
        simp only [L2.start, Pr, tRev, tD1, tDPop1, tSl, tNoPart, tPart, rSlL, tDIn, tDNotIn, gSub, rSetL, tLst, tDNewK, tComp, L2.stC, tFor_eq, iList, iTup, iRng1, iRng2, iZip, iEnum, iDict, iStr, tChain, tSumV, tBM, rJoin, tJoined, jNil, jLit, jInt, jStr, tRaise, tDGet, tDGet2, tDGet1, sDPut, Option.join_some, List.getElem?_nil,  tSeq, tRet, tRetN, tIfS, tTest, tB, tOp, tUn, tVar, tC, tCB, tCons, tNil, tCall, tTupS, tAsg, gName, gNil, gCons, tPar, tNext, tDrop, tAnd, tOr, tNot, tAndV, tOrV, tNotV, tIf, rI, rI0, rU, rIxTH, rIxLH, rEqT, rNeT, rInT, rEq, rNe, scal, CPow, at0, at1, at2, List.map_cons, List.map_nil, List.length_cons, List.length_nil, Nat.reduceSub, Nat.reduceAdd, Nat.zero_add, List.replicate_zero, List.reduceReplicate, List.append_nil, List.nil_append, List.cons_append, List.getElem?_cons_zero, List.getElem?_cons_succ, List.set_cons_zero, List.set_cons_succ, Option.some.injEq, exists_eq_left', exists_eq_left, V.ref.injEq, V.int.injEq, V.bl.injEq, V.str.injEq, V.ty.injEq, HO.tup.injEq, HO.lst.injEq, List.cons.injEq, and_true, true_and, and_assoc, exists_and_left, decide_eq_true_eq, Bool.not_eq_true', decide_eq_false_iff_not, ite_true, ite_false, if_true, if_false, Int.reduceToNat, eq_self_iff_true, hl3]
        rcases one with rfl | rfl
        · rw [if_pos rfl]
          exact y
        · rw [if_neg (by decide +kernel)]
          exact y
      subst e
      change tSeq _ _ _ [some (.str z), some (.ref l), none, some (.ref p)] H3
      refine seq_gen (fun σ' H4 => Same H3 H4 ∧ σ' = [some (.str z), some (.ref l), some (onV (whN g 0 (if k = Str.ofString "burst" then 6 else 20))), some (.ref p)]) ?_ (fun N2 hN2 => ?_)
      case refine_2 =>
        simp only [L2.start, Pr, tRev, tD1, tDPop1, tSl, tNoPart, tPart, rSlL, tDIn, tDNotIn, gSub, rSetL, tLst, tDNewK, tComp, L2.stC, tFor_eq, iList, iTup, iRng1, iRng2, iZip, iEnum, iDict, iStr, tChain, tSumV, tBM, rJoin, tJoined, jNil, jLit, jInt, jStr, tRaise, tDGet, tDGet2, tDGet1, sDPut, Option.join_some, List.getElem?_nil,  tSeq, tRet, tRetN, tIfS, tTest, tB, tOp, tUn, tVar, tC, tCB, tCons, tNil, tCall, tTupS, tAsg, gName, gNil, gCons, tPar, tNext, tDrop, tAnd, tOr, tNot, tAndV, tOrV, tNotV, tIf, rI, rI0, rU, rIxTH, rIxLH, rEqT, rNeT, rInT, rEq, rNe, scal, CPow, at0, at1, at2, List.map_cons, List.map_nil, List.length_cons, List.length_nil, Nat.reduceSub, Nat.reduceAdd, Nat.zero_add, List.replicate_zero, List.reduceReplicate, List.append_nil, List.nil_append, List.cons_append, List.getElem?_cons_zero, List.getElem?_cons_succ, List.set_cons_zero, List.set_cons_succ, Option.some.injEq, exists_eq_left', exists_eq_left, V.ref.injEq, V.int.injEq, V.bl.injEq, V.str.injEq, V.ty.injEq, HO.tup.injEq, HO.lst.injEq, List.cons.injEq, and_true, true_and, and_assoc, exists_and_left, decide_eq_true_eq, Bool.not_eq_true', decide_eq_false_iff_not, ite_true, ite_false, if_true, if_false, Int.reduceToNat, eq_self_iff_true, hl3, spWh]
        refine ⟨by decide, fun q nq => ?_⟩
        have hlq := same_upd (o := .lst [V.int 20, V.int 6]) nq _ _ hl3
        refine ⟨_, hlq, _, at0, rfl, _, upd_same, ?_⟩
        by_cases kb : k = Str.ofString "burst"
        · rw [if_pos (by rw [kb])]
          exact ⟨_, at1, 6, rfl, tg, by decide, fun H' s' => hN2 _ _ ⟨(same_upd nq).trans s', by rw [if_pos kb]⟩⟩
        · rw [if_neg (by simpa using kb)]
          exact ⟨_, at0, 20, rfl, tg, by decide, fun H' s' => hN2 _ _ ⟨(same_upd nq).trans s', by rw [if_neg kb]⟩⟩
      rintro _ H4 ⟨sm4, rfl⟩
      have hl4 := sm4 _ _ hl3
      have hp4 := sm4 _ _ hp
      generalize whN g 0 (if k = Str.ofString "burst" then 6 else 20) = ow at *
      change tSeq _ _ _ [some (.str z), some (.ref l), some (onV ow), some (.ref p)] H4
      refine seq_gen (fun σ' H5 => H4 = H5 ∧ m = 1 ∧ (∃ n, ow = some n) ∧ σ' = [some (.str z), some (.ref l), some (onV ow), some (.ref p)]) ?_ (fun N2 hN2 => ?_)
      case refine_2 =>
        simp only [L2.start, Pr, tRev, tD1, tDPop1, tSl, tNoPart, tPart, rSlL, tDIn, tDNotIn, gSub, rSetL, tLst, tDNewK, tComp, L2.stC, tFor_eq, iList, iTup, iRng1, iRng2, iZip, iEnum, iDict, iStr, tChain, tSumV, tBM, rJoin, tJoined, jNil, jLit, jInt, jStr, tRaise, tDGet, tDGet2, tDGet1, sDPut, Option.join_some, List.getElem?_nil,  tSeq, tRet, tRetN, tIfS, tTest, tB, tOp, tUn, tVar, tC, tCB, tCons, tNil, tCall, tTupS, tAsg, gName, gNil, gCons, tPar, tNext, tDrop, tAnd, tOr, tNot, tAndV, tOrV, tNotV, tIf, rI, rI0, rU, rIxTH, rIxLH, rEqT, rNeT, rInT, rEq, rNe, scal, CPow, at0, at1, at2, List.map_cons, List.map_nil, List.length_cons, List.length_nil, Nat.reduceSub, Nat.reduceAdd, Nat.zero_add, List.replicate_zero, List.reduceReplicate, List.append_nil, List.nil_append, List.cons_append, List.getElem?_cons_zero, List.getElem?_cons_succ, List.set_cons_zero, List.set_cons_succ, Option.some.injEq, exists_eq_left', exists_eq_left, V.ref.injEq, V.int.injEq, V.bl.injEq, V.str.injEq, V.ty.injEq, HO.tup.injEq, HO.lst.injEq, List.cons.injEq, and_true, true_and, and_assoc, exists_and_left, decide_eq_true_eq, Bool.not_eq_true', decide_eq_false_iff_not, ite_true, ite_false, if_true, if_false, Int.reduceToNat, eq_self_iff_true, hp4]
        by_cases m1 : 1 < m
        · rw [if_pos m1]
          refine kn ?_ _ (sm.trans sm4)
          cases ow with
          | none => rfl
          | some n => exact if_neg (by omega)
        · rw [if_neg m1]
          cases ow with
          | none =>
            rw [if_pos (by rfl)]
            exact kn rfl _ (sm.trans sm4)
          | some n =>
            rw [if_neg (by simp [onV])]
            exact hN2 _ _ ⟨rfl, by omega, ⟨n, rfl⟩, rfl⟩
      rintro _ _ ⟨rfl, m1, ⟨n, rfl⟩, rfl⟩
      simp only [L2.start, Pr, tRev, tD1, tDPop1, tSl, tNoPart, tPart, rSlL, tDIn, tDNotIn, gSub, rSetL, tLst, tDNewK, tComp, L2.stC, tFor_eq, iList, iTup, iRng1, iRng2, iZip, iEnum, iDict, iStr, tChain, tSumV, tBM, rJoin, tJoined, jNil, jLit, jInt, jStr, tRaise, tDGet, tDGet2, tDGet1, sDPut, Option.join_some, List.getElem?_nil,  tSeq, tRet, tRetN, tIfS, tTest, tB, tOp, tUn, tVar, tC, tCB, tCons, tNil, tCall, tTupS, tAsg, gName, gNil, gCons, tPar, tNext, tDrop, tAnd, tOr, tNot, tAndV, tOrV, tNotV, tIf, rI, rI0, rU, rIxTH, rIxLH, rEqT, rNeT, rInT, rEq, rNe, scal, CPow, at0, at1, at2, List.map_cons, List.map_nil, List.length_cons, List.length_nil, Nat.reduceSub, Nat.reduceAdd, Nat.zero_add, List.replicate_zero, List.reduceReplicate, List.append_nil, List.nil_append, List.cons_append, List.getElem?_cons_zero, List.getElem?_cons_succ, List.set_cons_zero, List.set_cons_succ, Option.some.injEq, exists_eq_left', exists_eq_left, V.ref.injEq, V.int.injEq, V.bl.injEq, V.str.injEq, V.ty.injEq, HO.tup.injEq, HO.lst.injEq, List.cons.injEq, and_true, true_and, and_assoc, exists_and_left, decide_eq_true_eq, Bool.not_eq_true', decide_eq_false_iff_not, ite_true, ite_false, if_true, if_false, Int.reduceToNat, eq_self_iff_true, hl4, hp4, onV]
      exact ⟨by decide, fun q H5 s5 nq e5 => ks (.one k n x) (if_pos m1) _ _ (sm.trans (sm4.trans s5)) e5⟩
    have n1 : k ≠ Str.ofString "again" := fun h => one (.inl h)
    have n2 : k ≠ Str.ofString "burst" := fun h => one (.inr h)
    refine seq_gen (fun σ' H4 => H3 = H4 ∧ σ' = [some (.str z), some (.ref l), none, some (.ref p)]) ?_ (fun N hN => ?_)
    case refine_2 =>
      simp only [L2.start, Pr, tRev, tD1, tDPop1, tSl, tNoPart, tPart, rSlL, tDIn, tDNotIn, gSub, rSetL, tLst, tDNewK, tComp, L2.stC, tFor_eq, iList, iTup, iRng1, iRng2, iZip, iEnum, iDict, iStr, tChain, tSumV, tBM, rJoin, tJoined, jNil, jLit, jInt, jStr, tRaise, tDGet, tDGet2, tDGet1, sDPut, Option.join_some, List.getElem?_nil,  tSeq, tRet, tRetN, tIfS, tTest, tB, tOp, tUn, tVar, tC, tCB, tCons, tNil, tCall, tTupS, tAsg, gName, gNil, gCons, tPar, tNext, tDrop, tAnd, tOr, tNot, tAndV, tOrV, tNotV, tIf, rI, rI0, rU, rIxTH, rIxLH, rEqT, rNeT, rInT, rEq, rNe, scal, CPow, at0, at1, at2, List.map_cons, List.map_nil, List.length_cons, List.length_nil, Nat.reduceSub, Nat.reduceAdd, Nat.zero_add, List.replicate_zero, List.reduceReplicate, List.append_nil, List.nil_append, List.cons_append, List.getElem?_cons_zero, List.getElem?_cons_succ, List.set_cons_zero, List.set_cons_succ, Option.some.injEq, exists_eq_left', exists_eq_left, V.ref.injEq, V.int.injEq, V.bl.injEq, V.str.injEq, V.ty.injEq, HO.tup.injEq, HO.lst.injEq, List.cons.injEq, and_true, true_and, and_assoc, exists_and_left, decide_eq_true_eq, Bool.not_eq_true', decide_eq_false_iff_not, ite_true, ite_false, if_true, if_false, Int.reduceToNat, eq_self_iff_true, hl3, spWh]
      rw [if_neg n1, if_neg (by simpa using n2)]
      exact hN _ _ ⟨rfl, rfl⟩
    rintro _ _ ⟨rfl, rfl⟩
    change tSeq _ _ _ [some (.str z), some (.ref l), none, some (.ref p)] H3
    refine seq_gen (fun σ' H4 => Same H3 H4 ∧ σ' = [some (.str z), some (.ref l), some (onV (whN g 1 (if k = Str.ofString "hits" then 20 else m))), some (.ref p)]) ?_ (fun N hN => ?_)
    case refine_2 =>
      simp only [L2.start, Pr, tRev, tD1, tDPop1, tSl, tNoPart, tPart, rSlL, tDIn, tDNotIn, gSub, rSetL, tLst, tDNewK, tComp, L2.stC, tFor_eq, iList, iTup, iRng1, iRng2, iZip, iEnum, iDict, iStr, tChain, tSumV, tBM, rJoin, tJoined, jNil, jLit, jInt, jStr, tRaise, tDGet, tDGet2, tDGet1, sDPut, Option.join_some, List.getElem?_nil,  tSeq, tRet, tRetN, tIfS, tTest, tB, tOp, tUn, tVar, tC, tCB, tCons, tNil, tCall, tTupS, tAsg, gName, gNil, gCons, tPar, tNext, tDrop, tAnd, tOr, tNot, tAndV, tOrV, tNotV, tIf, rI, rI0, rU, rIxTH, rIxLH, rEqT, rNeT, rInT, rEq, rNe, scal, CPow, at0, at1, at2, List.map_cons, List.map_nil, List.length_cons, List.length_nil, Nat.reduceSub, Nat.reduceAdd, Nat.zero_add, List.replicate_zero, List.reduceReplicate, List.append_nil, List.nil_append, List.cons_append, List.getElem?_cons_zero, List.getElem?_cons_succ, List.set_cons_zero, List.set_cons_succ, Option.some.injEq, exists_eq_left', exists_eq_left, V.ref.injEq, V.int.injEq, V.bl.injEq, V.str.injEq, V.ty.injEq, HO.tup.injEq, HO.lst.injEq, List.cons.injEq, and_true, true_and, and_assoc, exists_and_left, decide_eq_true_eq, Bool.not_eq_true', decide_eq_false_iff_not, ite_true, ite_false, if_true, if_false, Int.reduceToNat, eq_self_iff_true, hl3, hp, spWh]
      by_cases h : k = Str.ofString "hits"
      · rw [if_pos h]
        exact ⟨tg, by decide, fun H4 s4 => hN _ _ ⟨s4, by rw [if_pos h]⟩⟩
      · rw [if_neg h]
        exact ⟨tg, by omega, fun H4 s4 => hN _ _ ⟨s4, by rw [if_neg h]⟩⟩
    rintro _ H4 ⟨sm4, rfl⟩
    have hl4 := sm4 _ _ hl3
    have hp4 := sm4 _ _ hp
    have smm := sm.trans sm4
    have wp : wordP k g m x = if k = Str.ofString "best" ∨ k = Str.ofString "worst" ∨ k = Str.ofString "hits" then (whN g 1 (if k = Str.ofString "hits" then 20 else m)).map fun n => .many k n m x else none := by
      unfold wordP
      rw [if_neg n1, if_neg n2]
      by_cases h : k = Str.ofString "best" ∨ k = Str.ofString "worst"
      · rw [if_pos h, if_pos (h.elim .inl fun h => .inr (.inl h)), if_neg (by rcases h with h | h <;> rw [h] <;> decide +kernel), wh_le (b := 6) rg.2.1]
        cases whN g 1 6 with
        | none => rfl
        | some n =>
          show (if m < n then none else some (Pt.many k n m x)) = Option.map _ (if m < n then none else some n)
          by_cases c : m < n
          · rw [if_pos c, if_pos c]; rfl
          · rw [if_neg c, if_neg c]; rfl
      · rw [if_neg h]
        by_cases h5 : k = Str.ofString "hits"
        · rw [if_pos h5, if_pos (.inr (.inr h5)), if_pos h5]
          cases whN g 1 20 <;> rfl
        · rw [if_neg h5, if_neg (by rintro (q | q | q); exact h (.inl q); exact h (.inr q); exact h5 q)]
    rw [wp] at kn ks
    generalize whN g 1 (if k = Str.ofString "hits" then 20 else m) = ow at *
    change tSeq _ _ _ [some (.str z), some (.ref l), some (onV ow), some (.ref p)] H4
    refine seq_gen (fun σ' H5 => Same H4 H5 ∧ (k = Str.ofString "best" ∨ k = Str.ofString "worst" ∨ k = Str.ofString "hits") ∧ (∃ n, ow = some n) ∧ σ' = [some (.str z), some (.ref l), some (onV ow), some (.ref p)]) ?_ (fun N hN => ?_)
    case refine_2 =>
      simp only [L2.start, Pr, tRev, tD1, tDPop1, tSl, tNoPart, tPart, rSlL, tDIn, tDNotIn, gSub, rSetL, tLst, tDNewK, tComp, L2.stC, tFor_eq, iList, iTup, iRng1, iRng2, iZip, iEnum, iDict, iStr, tChain, tSumV, tBM, rJoin, tJoined, jNil, jLit, jInt, jStr, tRaise, tDGet, tDGet2, tDGet1, sDPut, Option.join_some, List.getElem?_nil,  tSeq, tRet, tRetN, tIfS, tTest, tB, tOp, tUn, tVar, tC, tCB, tCons, tNil, tCall, tTupS, tAsg, gName, gNil, gCons, tPar, tNext, tDrop, tAnd, tOr, tNot, tAndV, tOrV, tNotV, tIf, rI, rI0, rU, rIxTH, rIxLH, rEqT, rNeT, rInT, rEq, rNe, scal, CPow, at0, at1, at2, List.map_cons, List.map_nil, List.length_cons, List.length_nil, Nat.reduceSub, Nat.reduceAdd, Nat.zero_add, List.replicate_zero, List.reduceReplicate, List.append_nil, List.nil_append, List.cons_append, List.getElem?_cons_zero, List.getElem?_cons_succ, List.set_cons_zero, List.set_cons_succ, Option.some.injEq, exists_eq_left', exists_eq_left, V.ref.injEq, V.int.injEq, V.bl.injEq, V.str.injEq, V.ty.injEq, HO.tup.injEq, HO.lst.injEq, List.cons.injEq, and_true, true_and, and_assoc, exists_and_left, decide_eq_true_eq, Bool.not_eq_true', decide_eq_false_iff_not, ite_true, ite_false, if_true, if_false, Int.reduceToNat, eq_self_iff_true, hl4, rIn]
      refine ⟨by decide, fun q H5 s5 nq e5 => ⟨_, .inr (SqT.of e5), rfl, rfl, ?_⟩⟩
      have iv : inV (V.str k) [V.str (Str.ofString "best"), V.str (Str.ofString "worst"), V.str (Str.ofString "hits")] = decide (k = Str.ofString "best" ∨ k = Str.ofString "worst" ∨ k = Str.ofString "hits") := by
        rw [Bool.eq_iff_iff, decide_eq_true_eq]
        simp only [inV, eqV, List.any_cons, List.any_nil, Bool.or_false, Bool.or_eq_true, decide_eq_true_eq, beq_iff_eq]
        constructor
        · rintro (h | h | h)
          · exact .inl h.symm
          · exact .inr (.inl h.symm)
          · exact .inr (.inr h.symm)
        · rintro (h | h | h)
          · exact .inl h.symm
          · exact .inr (.inl h.symm)
          · exact .inr (.inr h.symm)
      rw [iv]
      by_cases hk : k = Str.ofString "best" ∨ k = Str.ofString "worst" ∨ k = Str.ofString "hits"
      · rw [decide_eq_true hk]
        cases ow with
        | none =>
          rw [if_neg (by decide), if_pos (show onV none = V.non from rfl)]
          exact kn (by rw [if_pos hk]; rfl) _ (smm.trans s5)
        | some n =>
          rw [if_neg (by decide), if_neg (by simp [onV])]
          exact hN _ _ ⟨s5, hk, ⟨n, rfl⟩, rfl⟩
      · rw [decide_eq_false hk]
        rw [if_pos rfl]
        exact kn (if_neg hk) _ (smm.trans s5)
    rintro _ H5 ⟨sm5, hk, ⟨n, rfl⟩, rfl⟩
    have hl5 := sm5 _ _ hl4
    have hp5 := sm5 _ _ hp4
    simp only [L2.start, Pr, tRev, tD1, tDPop1, tSl, tNoPart, tPart, rSlL, tDIn, tDNotIn, gSub, rSetL, tLst, tDNewK, tComp, L2.stC, tFor_eq, iList, iTup, iRng1, iRng2, iZip, iEnum, iDict, iStr, tChain, tSumV, tBM, rJoin, tJoined, jNil, jLit, jInt, jStr, tRaise, tDGet, tDGet2, tDGet1, sDPut, Option.join_some, List.getElem?_nil,  tSeq, tRet, tRetN, tIfS, tTest, tB, tOp, tUn, tVar, tC, tCB, tCons, tNil, tCall, tTupS, tAsg, gName, gNil, gCons, tPar, tNext, tDrop, tAnd, tOr, tNot, tAndV, tOrV, tNotV, tIf, rI, rI0, rU, rIxTH, rIxLH, rEqT, rNeT, rInT, rEq, rNe, scal, CPow, at0, at1, at2, List.map_cons, List.map_nil, List.length_cons, List.length_nil, Nat.reduceSub, Nat.reduceAdd, Nat.zero_add, List.replicate_zero, List.reduceReplicate, List.append_nil, List.nil_append, List.cons_append, List.getElem?_cons_zero, List.getElem?_cons_succ, List.set_cons_zero, List.set_cons_succ, Option.some.injEq, exists_eq_left', exists_eq_left, V.ref.injEq, V.int.injEq, V.bl.injEq, V.str.injEq, V.ty.injEq, HO.tup.injEq, HO.lst.injEq, List.cons.injEq, and_true, true_and, and_assoc, exists_and_left, decide_eq_true_eq, Bool.not_eq_true', decide_eq_false_iff_not, ite_true, ite_false, if_true, if_false, Int.reduceToNat, eq_self_iff_true, hl5, onV, rCatT]
    exact ⟨by decide, fun p2 H6 s6 np e6 => ⟨_, SqT.of e6, _, SqT.of (s6 _ _ hp5), by simp, (show 2 + 2 ≤ sizeLine by decide), fun h => (by simp at h), fun _ q nq => ks (.many k n m x) (if_pos hk) _ _ (smm.trans (sm5.trans (s6.trans (same_upd nq)))) upd_same⟩⟩
theorem sc__law_pool : FnScope ["_law_text", "_law_found"] ["_law_text"] (defScope (top 35)) := ⟨rfl, rfl, rfl, by decide +kernel, rfl, by decide +kernel, by decide +kernel⟩
theorem ok_lpl (T : Txt K mg w.params q_LuckError q_NoShare q_NoTable q_NoPool q_NoEnd q_TooMany q_NoGame q_NoWay q_NoRule q_NoStep q_NoPlay q_NoRow q_OF_MANY q_OF_ONE) : Cal P w K mg base (CX1 P w) 4 "_law_pool" ["_law_text"] spLPl := by
  have c__law_part : Cal P w K mg base (CX1 P w) 3 "_law_part" ["_law_text"] spLPt := ok_lp T
  refine T.d__law_pool.cal (fun _ _ _ _ _ _ us hl => match us, hl with | [_], _ => rfl) fun f fd F => F.okC sc__law_pool (fun vs H Q E h => ?_) (fun cdv A outer s H vs Q E hr h => ?_)
  · obtain ⟨_, rfl, _⟩ := h; rfl
  · obtain ⟨z, rfl, tz, kn, ks⟩ := h
    have nd := sc__law_pool.nd
    refine ⟨_, (pss_cons (ps_setC (i := 1) rfl nd rfl rfl (N := ["_law_text", "_law_found"]) (so := defScope (top 35)) (N' := ["_law_some"]) (k := 1) (fr := []) rfl rfl ⟨rfl, by decide +kernel, by decide +kernel, by decide +kernel, rfl, by decide +kernel, by decide +kernel⟩ (pi_listK (K := K) (pe_bm PySem.F.plainAttrs_str PySem.F.slot_str_split PySem.F.type_str_split mt_splitY (pv 0) (pa_cons pe_str pa_nil (se rfl)))) (fun _ _ _ _ _ => (pg_name (i := 0) (show (["_law_some"] : List Str).Nodup by decide +kernel) rfl (Or.inl rfl))) (fun _ _ _ _ _ => pts_nil)
      (fun _ _ _ _ _ => (pe_cal c__law_part (hr.mono (by decide)) rfl strictP.pass (pa_cons (pv 0) pa_nil (se rfl)) (he := se rfl) (hpl := na rfl))))
    (pss_cons (ps_if (PW.pt (pw_or (pt_cmpR op_gt (pe_callB call_lenL (by rfl) T.z_len PySem.boot_len (pa_cons (pv 1) pa_nil (se rfl)) (he := se rfl) (hpl := na rfl)) pe_int (nomark _)) (pw_or1 (pt_cmpR op_gt (pe_callB call_lenL (by rfl) T.z_len PySem.boot_len (pa_cons (pe_comp rfl (N := ["_law_text", "_law_found"]) (so := defScope (top 35)) (N' := ["_law_part_here"]) (k := 1) (fr := []) rfl rfl ⟨rfl, by decide +kernel, by decide +kernel, by decide +kernel, rfl, by decide +kernel, by decide +kernel⟩ (pi_listK (K := K) (pv 1)) (fun _ _ _ _ _ => (pg_name (i := 0) (show (["_law_part_here"] : List Str).Nodup by decide +kernel) rfl (Or.inl rfl))) (fun _ _ _ _ _ => (pts_one (pt_cmpR op_isN (pv 0) pe_non (nomark _))))
      (fun _ _ _ _ _ => (pv 0))) pa_nil (se rfl)) (he := se rfl) (hpl := na rfl)) pe_int (nomark _))))) (pss_one (ps_ret pe_non))
      pss_nil)
    (pss_one (ps_ret (pv 1))))), ?_⟩
    have tl := tz.2
    have sl := sizeLine_eq
    have lw := plus_many z
    have dz : poolO z = if 4 < (Txt.split z PLUS).length then none else allP (Txt.split z PLUS) := rfl
    have tw : ∀ p ∈ Txt.split z PLUS, Tx 100000 p := fun p hp => tz.plus hp
    change tSeq _ _ _ [some (.str z), none] H
    refine seq_gen (fun σ' H1 => Same H H1 ∧ ∃ l ys, H1 l = some (.lst ys) ∧ ys.length = (Txt.split z PLUS).length ∧ (∀ (i : Nat) y y', ys[i]? = some y → (Txt.split z PLUS)[i]? = some y' → (partO y' = none ∧ y = .non) ∨ ∃ r q, partO y' = some r ∧ y = .ref q ∧ Rep H1 (ptD r) y) ∧ σ' = [some (.str z), some (.ref l)]) ?_ (fun N hN => ?_)
    case refine_2 =>
      simp only [L2.start, Pr, tRev, tD1, tDPop1, tSl, tNoPart, tPart, rSlL, tDIn, tDNotIn, gSub, rSetL, tLst, tDNewK, tComp, L2.stC, tFor_eq, iList, iTup, iRng1, iRng2, iZip, iEnum, iDict, iStr, tChain, tSumV, tBM, rJoin, tJoined, jNil, jLit, jInt, jStr, tRaise, tDGet, tDGet2, tDGet1, sDPut, Option.join_some, List.getElem?_nil,  tSeq, tRet, tRetN, tIfS, tTest, tB, tOp, tUn, tVar, tC, tCB, tCons, tNil, tCall, tTupS, tAsg, gName, gNil, gCons, tPar, tNext, tDrop, tAnd, tOr, tNot, tAndV, tOrV, tNotV, tIf, rI, rI0, rU, rIxTH, rIxLH, rEqT, rNeT, rInT, rEq, rNe, scal, CPow, at0, at1, at2, List.map_cons, List.map_nil, List.length_cons, List.length_nil, Nat.reduceSub, Nat.reduceAdd, Nat.zero_add, List.replicate_zero, List.reduceReplicate, List.append_nil, List.nil_append, List.cons_append, List.getElem?_cons_zero, List.getElem?_cons_succ, List.set_cons_zero, List.set_cons_succ, Option.some.injEq, exists_eq_left', exists_eq_left, V.ref.injEq, V.int.injEq, V.bl.injEq, V.str.injEq, V.ty.injEq, HO.tup.injEq, HO.lst.injEq, List.cons.injEq, and_true, true_and, and_assoc, exists_and_left, decide_eq_true_eq, Bool.not_eq_true', decide_eq_false_iff_not, ite_true, ite_false, if_true, if_false, Int.reduceToNat, eq_self_iff_true]
      refine ⟨rfl, by decide +kernel, by omega, fun l nl => ?_⟩
      rw [plus_eq]
      refine ⟨⟨_, SqL.of upd_same⟩, ?_⟩
      generalize Txt.split z PLUS = zs at *
      have hl : (upd H l (.lst (List.map V.str zs))) l = some (.lst (List.map V.str zs)) := upd_same
      have s1 := same_upd (o := .lst (List.map V.str zs)) nl
      generalize upd H l (.lst (List.map V.str zs)) = H1 at *
      refine comp_map (src_list (K := K) (fun H' s' => SqL.of (s' _ _ hl))) (fun _ _ _ _ h => by rw [h.1]; exact Same.refl _) (by rw [List.length_map, sizeLine_eq]; omega) (fun i y H4 => ∀ y', zs[i]? = some y' → (partO y' = none ∧ y = .non) ∨ ∃ r q, partO y' = some r ∧ y = .ref q ∧ Rep H4 (ptD r) y) (fun i y H4 H5 s5 h y' e => (h y' e).imp id fun ⟨r, q, a, b, c⟩ => ⟨r, q, a, b, c.mono s5⟩) ?_ ?_
      · rintro i x w0 H4 H5 Q2 hi s4 ⟨rfl, ex⟩ kq
        rw [List.getElem?_map] at ex
        obtain ⟨p, ep, rfl⟩ := Option.map_eq_some_iff.mp ex
        have tp := tw p (List.mem_of_getElem? ep)
        simp only [L2.start, Pr, tRev, tD1, tDPop1, tSl, tNoPart, tPart, rSlL, tDIn, tDNotIn, gSub, rSetL, tLst, tDNewK, tComp, L2.stC, tFor_eq, iList, iTup, iRng1, iRng2, iZip, iEnum, iDict, iStr, tChain, tSumV, tBM, rJoin, tJoined, jNil, jLit, jInt, jStr, tRaise, tDGet, tDGet2, tDGet1, sDPut, Option.join_some, List.getElem?_nil,  tSeq, tRet, tRetN, tIfS, tTest, tB, tOp, tUn, tVar, tC, tCB, tCons, tNil, tCall, tTupS, tAsg, gName, gNil, gCons, tPar, tNext, tDrop, tAnd, tOr, tNot, tAndV, tOrV, tNotV, tIf, rI, rI0, rU, rIxTH, rIxLH, rEqT, rNeT, rInT, rEq, rNe, scal, CPow, at0, at1, at2, List.map_cons, List.map_nil, List.length_cons, List.length_nil, Nat.reduceSub, Nat.reduceAdd, Nat.zero_add, List.replicate_zero, List.reduceReplicate, List.append_nil, List.nil_append, List.cons_append, List.getElem?_cons_zero, List.getElem?_cons_succ, List.set_cons_zero, List.set_cons_succ, Option.some.injEq, exists_eq_left', exists_eq_left, V.ref.injEq, V.int.injEq, V.bl.injEq, V.str.injEq, V.ty.injEq, HO.tup.injEq, HO.lst.injEq, List.cons.injEq, and_true, true_and, and_assoc, exists_and_left, decide_eq_true_eq, Bool.not_eq_true', decide_eq_false_iff_not, ite_true, ite_false, if_true, if_false, Int.reduceToNat, eq_self_iff_true, spLPt]
        refine ⟨tp, fun no H6 s6 => kq _ _ s6 fun y' ey => ?_, fun r er v H6 s6 r6 => kq _ _ s6 fun y' ey => ?_⟩
        · rw [ep] at ey
          cases ey
          exact .inl ⟨no, rfl⟩
        · rw [ep] at ey
          cases ey
          exact .inr ⟨r, _, er, rfl, repP r6⟩
      · intro ys H5 s5 ly hy D n1 n2
        rw [List.length_map] at ly
        exact hN _ _ ⟨s1.trans (s5.trans (same_upd n2)), D, ys, upd_same, ly, fun i y y' e1 e2 => (hy i y e1 y' e2).imp id fun ⟨r, q, a, b, c⟩ => ⟨r, q, a, b, c.mono (same_upd n2)⟩, rfl⟩
    generalize Txt.split z PLUS = zs at *
    rintro _ H1 ⟨sm1, l, ys, hl, ly, hy, rfl⟩
    change tSeq _ _ _ [some (.str z), some (.ref l)] H1
    refine seq_gen (fun σ' H2 => Same H1 H2 ∧ zs.length ≤ 4 ∧ (∀ y ∈ ys, y ≠ .non) ∧ σ' = [some (.str z), some (.ref l)]) ?_ (fun N hN => ?_)
    case refine_2 =>
      simp only [L2.start, Pr, tRev, tD1, tDPop1, tSl, tNoPart, tPart, rSlL, tDIn, tDNotIn, gSub, rSetL, tLst, tDNewK, tComp, L2.stC, tFor_eq, iList, iTup, iRng1, iRng2, iZip, iEnum, iDict, iStr, tChain, tSumV, tBM, rJoin, tJoined, jNil, jLit, jInt, jStr, tRaise, tDGet, tDGet2, tDGet1, sDPut, Option.join_some, List.getElem?_nil,  tSeq, tRet, tRetN, tIfS, tTest, tB, tOp, tUn, tVar, tC, tCB, tCons, tNil, tCall, tTupS, tAsg, gName, gNil, gCons, tPar, tNext, tDrop, tAnd, tOr, tNot, tAndV, tOrV, tNotV, tIf, rI, rI0, rU, rIxTH, rIxLH, rEqT, rNeT, rInT, rEq, rNe, scal, CPow, at0, at1, at2, List.map_cons, List.map_nil, List.length_cons, List.length_nil, Nat.reduceSub, Nat.reduceAdd, Nat.zero_add, List.replicate_zero, List.reduceReplicate, List.append_nil, List.nil_append, List.cons_append, List.getElem?_cons_zero, List.getElem?_cons_succ, List.set_cons_zero, List.set_cons_succ, Option.some.injEq, exists_eq_left', exists_eq_left, V.ref.injEq, V.int.injEq, V.bl.injEq, V.str.injEq, V.ty.injEq, HO.tup.injEq, HO.lst.injEq, List.cons.injEq, and_true, true_and, and_assoc, exists_and_left, decide_eq_true_eq, Bool.not_eq_true', decide_eq_false_iff_not, ite_true, ite_false, if_true, if_false, Int.reduceToNat, eq_self_iff_true]
      refine ⟨_, hl, ite2 (fun c => ?_) (fun c => ?_)⟩
      · exact kn (by rw [dz]; exact if_pos (by omega)) _ sm1
      · refine ⟨⟨_, SqL.of hl⟩, ?_⟩
        refine comp_vals ys (fun y => if y = .non then some y else none) (src_list (K := K) (fun H' s' => SqL.of (s' _ _ hl))) (fun _ _ _ _ h => h.1) (by rw [sizeLine_eq]; omega) ?_ ?_
        · rintro i c x ec ⟨_, ex⟩ Y N y1 n1
          rw [ec] at ex
          cases ex
          simp only [L2.start, Pr, tRev, tD1, tDPop1, tSl, tNoPart, tPart, rSlL, tDIn, tDNotIn, gSub, rSetL, tLst, tDNewK, tComp, L2.stC, tFor_eq, iList, iTup, iRng1, iRng2, iZip, iEnum, iDict, iStr, tChain, tSumV, tBM, rJoin, tJoined, jNil, jLit, jInt, jStr, tRaise, tDGet, tDGet2, tDGet1, sDPut, Option.join_some, List.getElem?_nil,  tSeq, tRet, tRetN, tIfS, tTest, tB, tOp, tUn, tVar, tC, tCB, tCons, tNil, tCall, tTupS, tAsg, gName, gNil, gCons, tPar, tNext, tDrop, tAnd, tOr, tNot, tAndV, tOrV, tNotV, tIf, rI, rI0, rU, rIxTH, rIxLH, rEqT, rNeT, rInT, rEq, rNe, scal, CPow, at0, at1, at2, List.map_cons, List.map_nil, List.length_cons, List.length_nil, Nat.reduceSub, Nat.reduceAdd, Nat.zero_add, List.replicate_zero, List.reduceReplicate, List.append_nil, List.nil_append, List.cons_append, List.getElem?_cons_zero, List.getElem?_cons_succ, List.set_cons_zero, List.set_cons_succ, Option.some.injEq, exists_eq_left', exists_eq_left, V.ref.injEq, V.int.injEq, V.bl.injEq, V.str.injEq, V.ty.injEq, HO.tup.injEq, HO.lst.injEq, List.cons.injEq, and_true, true_and, and_assoc, exists_and_left, decide_eq_true_eq, Bool.not_eq_true', decide_eq_false_iff_not, ite_true, ite_false, if_true, if_false, Int.reduceToNat, eq_self_iff_true]
          by_cases e : c = .non
          · rw [if_pos (by simpa using e)]
            exact y1 _ (if_pos e)
          · rw [if_neg (by simpa using e)]
            exact n1 (if_neg e)
        · intro D n1 n2
          refine ⟨_, upd_same, ite2 (fun c2 => ?_) (fun c2 => ?_)⟩
          · by_cases an : ∃ y ∈ ys, y = .non
            · obtain ⟨y, hy', ey⟩ := an
              obtain ⟨i, hi⟩ := List.getElem?_of_mem hy'
              have li : i < zs.length := by
                have := (List.getElem?_eq_some_iff.mp hi).1
                omega
              refine kn ?_ _ (sm1.trans (same_upd n2))
              rw [dz, if_neg (by omega)]
              rcases hy i y _ hi (List.getElem?_eq_getElem li) with ⟨no, _⟩ | ⟨r, q, _, e, _⟩
              · exact allP_no (List.getElem_mem li) no
              · rw [ey] at e
                cases e
            · rw [List.filterMap_eq_nil_iff.mpr fun x hx => if_neg fun e => an ⟨x, hx, e⟩] at c2
              exact absurd c2 (by decide)
          · refine hN _ _ ⟨same_upd n2, by omega, fun y hy' ey => ?_, rfl⟩
            have e : ys.filterMap (fun y => if y = V.non then some y else none) = [] := by
              rw [← List.length_eq_zero_iff]
              omega
            have := List.filterMap_eq_nil_iff.mp e y hy'
            rw [if_pos ey] at this
            cases this
    rintro _ H2 ⟨sm2, l4, all, rfl⟩
    simp only [L2.start, Pr, tRev, tD1, tDPop1, tSl, tNoPart, tPart, rSlL, tDIn, tDNotIn, gSub, rSetL, tLst, tDNewK, tComp, L2.stC, tFor_eq, iList, iTup, iRng1, iRng2, iZip, iEnum, iDict, iStr, tChain, tSumV, tBM, rJoin, tJoined, jNil, jLit, jInt, jStr, tRaise, tDGet, tDGet2, tDGet1, sDPut, Option.join_some, List.getElem?_nil,  tSeq, tRet, tRetN, tIfS, tTest, tB, tOp, tUn, tVar, tC, tCB, tCons, tNil, tCall, tTupS, tAsg, gName, gNil, gCons, tPar, tNext, tDrop, tAnd, tOr, tNot, tAndV, tOrV, tNotV, tIf, rI, rI0, rU, rIxTH, rIxLH, rEqT, rNeT, rInT, rEq, rNe, scal, CPow, at0, at1, at2, List.map_cons, List.map_nil, List.length_cons, List.length_nil, Nat.reduceSub, Nat.reduceAdd, Nat.zero_add, List.replicate_zero, List.reduceReplicate, List.append_nil, List.nil_append, List.cons_append, List.getElem?_cons_zero, List.getElem?_cons_succ, List.set_cons_zero, List.set_cons_succ, Option.some.injEq, exists_eq_left', exists_eq_left, V.ref.injEq, V.int.injEq, V.bl.injEq, V.str.injEq, V.ty.injEq, HO.tup.injEq, HO.lst.injEq, List.cons.injEq, and_true, true_and, and_assoc, exists_and_left, decide_eq_true_eq, Bool.not_eq_true', decide_eq_false_iff_not, ite_true, ite_false, if_true, if_false, Int.reduceToNat, eq_self_iff_true]
    have alls : ∀ p ∈ zs, (partO p).isSome = true := fun p hp => by
      obtain ⟨i, hi⟩ := List.getElem?_of_mem hp
      have li : i < ys.length := by
        have := (List.getElem?_eq_some_iff.mp hi).1
        omega
      rcases hy i _ p (List.getElem?_eq_getElem li) hi with ⟨_, e⟩ | ⟨r, _, er, _, _⟩
      · exact absurd e (all _ (List.getElem_mem li))
      · rw [er]
        rfl
    obtain ⟨rs, e1, e2, e3⟩ := allP_yes alls
    refine ks rs (by rw [dz, if_neg (by omega)]; exact e1) _ _ (sm1.trans sm2) (rep_lst.mpr ⟨l, ys, rfl, sm2 _ _ hl, ?_⟩)
    refine (repL_map (by omega) fun i y ey r er => ?_).mono sm2
    have li : i < zs.length := by
      have := (List.getElem?_eq_some_iff.mp er).1
      omega
    rcases hy i y _ ey (List.getElem?_eq_getElem li) with ⟨_, e⟩ | ⟨r', _, er', _, rr⟩
    · exact absurd e (all _ (List.mem_of_getElem? ey))
    · have := e3 i _ r' (List.getElem?_eq_getElem li) er'
      rw [er] at this
      cases this
      exact rr
theorem sc__law_good : FnScope ["_law_one", "_law_two", "_law_some", "_law_text"] ["_law_one", "_law_two"] (defScope (top 37)) := ⟨rfl, rfl, rfl, by decide +kernel, rfl, by decide +kernel, by decide +kernel⟩
theorem ok_gd (T : Txt K mg w.params q_LuckError q_NoShare q_NoTable q_NoPool q_NoEnd q_TooMany q_NoGame q_NoWay q_NoRule q_NoStep q_NoPlay q_NoRow q_OF_MANY q_OF_ONE) : Cal P w K mg base (CX1 P w) 1 "_law_good" ["_law_one", "_law_two"] spGd := by
  refine T.d__law_good.cal (fun _ _ _ _ _ _ us hl => match us, hl with | [_, _], _ => rfl) fun f fd F => F.okC sc__law_good (fun vs H Q E h => ?_) (fun cdv A outer s H vs Q E hr h => ?_)
  · obtain ⟨_, _, rfl, _⟩ := h; rfl
  · obtain ⟨a, b, rfl, kk⟩ := h
    have nd := sc__law_good.nd
    refine ⟨_, (pss_cons (ps_set (i := 2) nd rfl (Or.inl rfl) (pe_lst (pa_cons pe_str (pa_cons pe_str (pa_cons pe_str (pa_cons pe_str (pa_cons pe_str (pa_cons pe_str (pa_cons pe_str (pa_cons pe_str pa_nil (se rfl)) (se rfl)) (se rfl)) (se rfl)) (se rfl)) (se rfl)) (se rfl)) (se rfl))))
    (pss_cons (ps_expr (pe_bm PySem.F.plainAttrs_list PySem.F.slot_list_append PySem.F.type_list_append mt_append.r (pv 2) (pa_cons pe_str pa_nil (se rfl))))
    (pss_cons (ps_set (i := 3) nd rfl (Or.inl rfl) (pe_ix ix_listH (pv 2) (pe_op op_modB (pv 0) pe_int) (fun _ _ => rfl)))
    (pss_cons (ps_if (pt_cmpR op_eq (pe_op op_modB (pe_op op_fdivB (pv 0) pe_int) pe_int) pe_int (nomark _)) (pss_one (ps_set (i := 3) nd rfl (Or.inl rfl) (pe_op op_add_str (pe_op op_add_str (pv 3) pe_str) (pe_ix ix_listH (pv 2) (pe_op op_modB (pv 1) pe_int) (fun _ _ => rfl)))))
      pss_nil)
    (pss_one (ps_ret (pv 3))))))), ?_⟩
    have sl := sizeLine_eq
    change tSeq _ _ _ [some (.int a), some (.int b), none, none] H
    refine seq_gen (fun σ' H1 => Same H H1 ∧ ∃ l, H l = none ∧ H1 l = some (.lst (List.map V.str (GOODS.take 8))) ∧ σ' = [some (.int a), some (.int b), some (.ref l), none]) ?_ (fun N hN => ?_)
    case refine_2 =>
      simp only [L2.start, Pr, tRev, tD1, tDPop1, tSl, tNoPart, tPart, rSlL, tDIn, tDNotIn, gSub, rSetL, tLst, tDNewK, tComp, L2.stC, tFor_eq, iList, iTup, iRng1, iRng2, iZip, iEnum, iDict, iStr, tChain, tSumV, tBM, rJoin, tJoined, jNil, jLit, jInt, jStr, tRaise, tDGet, tDGet2, tDGet1, sDPut, Option.join_some, List.getElem?_nil,  tSeq, tRet, tRetN, tIfS, tTest, tB, tOp, tUn, tVar, tC, tCB, tCons, tNil, tCall, tTupS, tAsg, gName, gNil, gCons, tPar, tNext, tDrop, tAnd, tOr, tNot, tAndV, tOrV, tNotV, tIf, rI, rI0, rU, rIxTH, rIxLH, rEqT, rNeT, rInT, rEq, rNe, scal, CPow, at0, at1, at2, List.map_cons, List.map_nil, List.length_cons, List.length_nil, Nat.reduceSub, Nat.reduceAdd, Nat.zero_add, List.replicate_zero, List.reduceReplicate, List.append_nil, List.nil_append, List.cons_append, List.getElem?_cons_zero, List.getElem?_cons_succ, List.set_cons_zero, List.set_cons_succ, Option.some.injEq, exists_eq_left', exists_eq_left, V.ref.injEq, V.int.injEq, V.bl.injEq, V.str.injEq, V.ty.injEq, HO.tup.injEq, HO.lst.injEq, List.cons.injEq, and_true, true_and, and_assoc, exists_and_left, decide_eq_true_eq, Bool.not_eq_true', decide_eq_false_iff_not, ite_true, ite_false, if_true, if_false, Int.reduceToNat, eq_self_iff_true]
      exact ⟨by decide, fun l nl => hN _ _ ⟨same_upd nl, l, nl, upd_same, rfl⟩⟩
    rintro _ H1 ⟨sm1, l, nl, hl, rfl⟩
    change tSeq _ _ _ [some (.int a), some (.int b), some (.ref l), none] H1
    refine seq_gen (fun σ' H2 => Same H H2 ∧ H2 l = some (.lst (List.map V.str GOODS)) ∧ σ' = [some (.int a), some (.int b), some (.ref l), none]) ?_ (fun N hN => ?_)
    case refine_2 =>
      simp only [L2.start, Pr, tRev, tD1, tDPop1, tSl, tNoPart, tPart, rSlL, tDIn, tDNotIn, gSub, rSetL, tLst, tDNewK, tComp, L2.stC, tFor_eq, iList, iTup, iRng1, iRng2, iZip, iEnum, iDict, iStr, tChain, tSumV, tBM, rJoin, tJoined, jNil, jLit, jInt, jStr, tRaise, tDGet, tDGet2, tDGet1, sDPut, Option.join_some, List.getElem?_nil,  tSeq, tRet, tRetN, tIfS, tTest, tB, tOp, tUn, tVar, tC, tCB, tCons, tNil, tCall, tTupS, tAsg, gName, gNil, gCons, tPar, tNext, tDrop, tAnd, tOr, tNot, tAndV, tOrV, tNotV, tIf, rI, rI0, rU, rIxTH, rIxLH, rEqT, rNeT, rInT, rEq, rNe, scal, CPow, at0, at1, at2, List.map_cons, List.map_nil, List.length_cons, List.length_nil, Nat.reduceSub, Nat.reduceAdd, Nat.zero_add, List.replicate_zero, List.reduceReplicate, List.append_nil, List.nil_append, List.cons_append, List.getElem?_cons_zero, List.getElem?_cons_succ, List.set_cons_zero, List.set_cons_succ, Option.some.injEq, exists_eq_left', exists_eq_left, V.ref.injEq, V.int.injEq, V.bl.injEq, V.str.injEq, V.ty.injEq, HO.tup.injEq, HO.lst.injEq, List.cons.injEq, and_true, true_and, and_assoc, exists_and_left, decide_eq_true_eq, Bool.not_eq_true', decide_eq_false_iff_not, ite_true, ite_false, if_true, if_false, Int.reduceToNat, eq_self_iff_true, rAppend]
      refine ⟨.inl ⟨rfl, _, SqL.of hl⟩, _, hl, by decide, hN _ _ ⟨fun c o e => ?_, upd_same, rfl⟩⟩
      rw [upd_ne (fun z => by rw [z, nl] at e; cases e)]
      exact sm1 _ _ e
    rintro _ H2 ⟨sm2, hl2, rfl⟩
    change tSeq _ _ _ [some (.int a), some (.int b), some (.ref l), none] H2
    refine seq_gen (fun σ' H3 => H2 = H3 ∧ ∃ z, Tx 30 z ∧ σ' = [some (.int a), some (.int b), some (.ref l), some (.str z)]) ?_ (fun N hN => ?_)
    case refine_2 =>
      simp only [L2.start, Pr, tRev, tD1, tDPop1, tSl, tNoPart, tPart, rSlL, tDIn, tDNotIn, gSub, rSetL, tLst, tDNewK, tComp, L2.stC, tFor_eq, iList, iTup, iRng1, iRng2, iZip, iEnum, iDict, iStr, tChain, tSumV, tBM, rJoin, tJoined, jNil, jLit, jInt, jStr, tRaise, tDGet, tDGet2, tDGet1, sDPut, Option.join_some, List.getElem?_nil,  tSeq, tRet, tRetN, tIfS, tTest, tB, tOp, tUn, tVar, tC, tCB, tCons, tNil, tCall, tTupS, tAsg, gName, gNil, gCons, tPar, tNext, tDrop, tAnd, tOr, tNot, tAndV, tOrV, tNotV, tIf, rI, rI0, rU, rIxTH, rIxLH, rEqT, rNeT, rInT, rEq, rNe, scal, CPow, at0, at1, at2, List.map_cons, List.map_nil, List.length_cons, List.length_nil, Nat.reduceSub, Nat.reduceAdd, Nat.zero_add, List.replicate_zero, List.reduceReplicate, List.append_nil, List.nil_append, List.cons_append, List.getElem?_cons_zero, List.getElem?_cons_succ, List.set_cons_zero, List.set_cons_succ, Option.some.injEq, exists_eq_left', exists_eq_left, V.ref.injEq, V.int.injEq, V.bl.injEq, V.str.injEq, V.ty.injEq, HO.tup.injEq, HO.lst.injEq, List.cons.injEq, and_true, true_and, and_assoc, exists_and_left, decide_eq_true_eq, Bool.not_eq_true', decide_eq_false_iff_not, ite_true, ite_false, if_true, if_false, Int.reduceToNat, eq_self_iff_true]
      obtain ⟨z, ez, tz⟩ := pick9 a
      exact ⟨by decide, _, hl2, _, ez, hN _ _ ⟨rfl, z, tz, rfl⟩⟩
    rintro _ _ ⟨rfl, z, tz, rfl⟩
    have tl := tz.2
    change tSeq _ _ _ [some (.int a), some (.int b), some (.ref l), some (.str z)] H2
    refine seq_gen (fun σ' H3 => H2 = H3 ∧ ∃ z, Tx 100 z ∧ σ' = [some (.int a), some (.int b), some (.ref l), some (.str z)]) ?_ (fun N hN => ?_)
    case refine_2 =>
      simp only [L2.start, Pr, tRev, tD1, tDPop1, tSl, tNoPart, tPart, rSlL, tDIn, tDNotIn, gSub, rSetL, tLst, tDNewK, tComp, L2.stC, tFor_eq, iList, iTup, iRng1, iRng2, iZip, iEnum, iDict, iStr, tChain, tSumV, tBM, rJoin, tJoined, jNil, jLit, jInt, jStr, tRaise, tDGet, tDGet2, tDGet1, sDPut, Option.join_some, List.getElem?_nil,  tSeq, tRet, tRetN, tIfS, tTest, tB, tOp, tUn, tVar, tC, tCB, tCons, tNil, tCall, tTupS, tAsg, gName, gNil, gCons, tPar, tNext, tDrop, tAnd, tOr, tNot, tAndV, tOrV, tNotV, tIf, rI, rI0, rU, rIxTH, rIxLH, rEqT, rNeT, rInT, rEq, rNe, scal, CPow, at0, at1, at2, List.map_cons, List.map_nil, List.length_cons, List.length_nil, Nat.reduceSub, Nat.reduceAdd, Nat.zero_add, List.replicate_zero, List.reduceReplicate, List.append_nil, List.nil_append, List.cons_append, List.getElem?_cons_zero, List.getElem?_cons_succ, List.set_cons_zero, List.set_cons_succ, Option.some.injEq, exists_eq_left', exists_eq_left, V.ref.injEq, V.int.injEq, V.bl.injEq, V.str.injEq, V.ty.injEq, HO.tup.injEq, HO.lst.injEq, List.cons.injEq, and_true, true_and, and_assoc, exists_and_left, decide_eq_true_eq, Bool.not_eq_true', decide_eq_false_iff_not, ite_true, ite_false, if_true, if_false, Int.reduceToNat, eq_self_iff_true]
      obtain ⟨y, ey, ty⟩ := pick9 b
      have yl := ty.2
      have pl : (Str.ofString " + ").length = 3 := by decide +kernel
      have pa : Asc (Str.ofString " + ") := by unfold Asc; decide +kernel
      refine ⟨CDivB.lit, by decide, ite2 (fun c => ⟨?_, by decide, _, hl2, _, ey, _, rfl, ?_, hN _ _ ⟨rfl, _, ⟨(tz.1.app pa).app ty.1, ?_⟩, rfl⟩⟩) (fun c => hN _ _ ⟨rfl, z, ⟨tz.1, by omega⟩, rfl⟩)⟩
      · rw [pl]; omega
      · rw [Str.length_append, pl]; omega
      · rw [Str.length_append, Str.length_append, pl]; omega
    rintro _ _ ⟨rfl, z, tz, rfl⟩
    simp only [L2.start, Pr, tRev, tD1, tDPop1, tSl, tNoPart, tPart, rSlL, tDIn, tDNotIn, gSub, rSetL, tLst, tDNewK, tComp, L2.stC, tFor_eq, iList, iTup, iRng1, iRng2, iZip, iEnum, iDict, iStr, tChain, tSumV, tBM, rJoin, tJoined, jNil, jLit, jInt, jStr, tRaise, tDGet, tDGet2, tDGet1, sDPut, Option.join_some, List.getElem?_nil,  tSeq, tRet, tRetN, tIfS, tTest, tB, tOp, tUn, tVar, tC, tCB, tCons, tNil, tCall, tTupS, tAsg, gName, gNil, gCons, tPar, tNext, tDrop, tAnd, tOr, tNot, tAndV, tOrV, tNotV, tIf, rI, rI0, rU, rIxTH, rIxLH, rEqT, rNeT, rInT, rEq, rNe, scal, CPow, at0, at1, at2, List.map_cons, List.map_nil, List.length_cons, List.length_nil, Nat.reduceSub, Nat.reduceAdd, Nat.zero_add, List.replicate_zero, List.reduceReplicate, List.append_nil, List.nil_append, List.cons_append, List.getElem?_cons_zero, List.getElem?_cons_succ, List.set_cons_zero, List.set_cons_succ, Option.some.injEq, exists_eq_left', exists_eq_left, V.ref.injEq, V.int.injEq, V.bl.injEq, V.str.injEq, V.ty.injEq, HO.tup.injEq, HO.lst.injEq, List.cons.injEq, and_true, true_and, and_assoc, exists_and_left, decide_eq_true_eq, Bool.not_eq_true', decide_eq_false_iff_not, ite_true, ite_false, if_true, if_false, Int.reduceToNat, eq_self_iff_true]
    exact kk z _ sm2 tz
theorem sc__law_bent : FnScope ["_law_text", "_law_cell", "_law_signs", "_law_sign", "_law_at_here"] ["_law_text", "_law_cell"] (defScope (top 38)) := ⟨rfl, rfl, rfl, by decide +kernel, rfl, by decide +kernel, by decide +kernel⟩
theorem ok_bt (T : Txt K mg w.params q_LuckError q_NoShare q_NoTable q_NoPool q_NoEnd q_TooMany q_NoGame q_NoWay q_NoRule q_NoStep q_NoPlay q_NoRow q_OF_MANY q_OF_ONE) : Cal P w K mg base (CX1 P w) 1 "_law_bent" ["_law_text", "_law_cell"] spBt := by
  refine T.d__law_bent.cal (fun _ _ _ _ _ _ us hl => match us, hl with | [_, _], _ => rfl) fun f fd F => F.okC sc__law_bent (fun vs H Q E h => ?_) (fun cdv A outer s H vs Q E hr h => ?_)
  · obtain ⟨_, _, rfl, _⟩ := h; rfl
  · obtain ⟨z, n, rfl, ⟨az, lz⟩, kk⟩ := h
    have nd := sc__law_bent.nd
    refine ⟨_, (pss_cons (ps_set (i := 2) nd rfl (Or.inl rfl) pe_str)
    (pss_cons (ps_if (pt_cmpR op_eq (pe_op op_modB (pe_op op_fdivB (pv 1) pe_int) pe_int) pe_int (nomark _)) (pss_one (ps_set (i := 2) nd rfl (Or.inl rfl) pe_str))
      pss_nil)
    (pss_cons (ps_set (i := 3) nd rfl (Or.inl rfl) (pe_ix ix_strH (pv 2) (pe_op op_modB (pe_op op_fdivB (pv 1) pe_int) (pe_callB call_lenS (by rfl) T.z_len PySem.boot_len (pa_cons (pv 2) pa_nil (se rfl)) (he := se rfl) (hpl := na rfl))) (fun _ _ => rfl)))
    (pss_cons (ps_set (i := 4) nd rfl (Or.inl rfl) (pe_op op_modB (pe_op op_fdivB (pv 1) pe_int) (pe_op op_add (pe_callB call_lenS (by rfl) T.z_len PySem.boot_len (pa_cons (pv 0) pa_nil (se rfl)) (he := se rfl) (hpl := na rfl)) pe_int)))
    (pss_cons (ps_if (pt_cmpR op_eq (pe_op op_modB (pv 1) pe_int) pe_int (nomark _)) (pss_one (ps_ret (pe_op op_add_str (pe_slice sl_strH (pv 0) po_none (po_some (pv 4))) (pe_slice sl_strH (pv 0) (po_some (pe_op op_add (pv 4) pe_int)) po_none))))
      pss_nil)
    (pss_cons (ps_if (pt_cmpR op_eq (pe_op op_modB (pv 1) pe_int) pe_int (nomark _)) (pss_one (ps_ret (pe_op op_add_str (pe_op op_add_str (pe_slice sl_strH (pv 0) po_none (po_some (pv 4))) (pv 3)) (pe_slice sl_strH (pv 0) (po_some (pv 4)) po_none))))
      pss_nil)
    (pss_one (ps_ret (pe_op op_add_str (pe_op op_add_str (pe_slice sl_strH (pv 0) po_none (po_some (pv 4))) (pv 3)) (pe_slice sl_strH (pv 0) (po_some (pe_op op_add (pv 4) pe_int)) po_none)))))))))), ?_⟩
    have sl := sizeLine_eq
    change tSeq _ _ _ [some (.str z), some (.int n), none, none, none] H
    refine seq_gen (fun σ' H1 => H = H1 ∧ ∃ g : Str, (∀ c ∈ g.cps.toList, c < 128) ∧ 0 < g.length ∧ g.length < 200 ∧ σ' = [some (.str z), some (.int n), some (.str g), none, none]) ?_ (fun N hN => ?_)
    case refine_2 =>
      simp only [L2.start, Pr, tRev, tD1, tDPop1, tSl, tNoPart, tPart, rSlL, tDIn, tDNotIn, gSub, rSetL, tLst, tDNewK, tComp, L2.stC, tFor_eq, iList, iTup, iRng1, iRng2, iZip, iEnum, iDict, iStr, tChain, tSumV, tBM, rJoin, tJoined, jNil, jLit, jInt, jStr, tRaise, tDGet, tDGet2, tDGet1, sDPut, Option.join_some, List.getElem?_nil,  tSeq, tRet, tRetN, tIfS, tTest, tB, tOp, tUn, tVar, tC, tCB, tCons, tNil, tCall, tTupS, tAsg, gName, gNil, gCons, tPar, tNext, tDrop, tAnd, tOr, tNot, tAndV, tOrV, tNotV, tIf, rI, rI0, rU, rIxTH, rIxLH, rEqT, rNeT, rInT, rEq, rNe, scal, CPow, at0, at1, at2, List.map_cons, List.map_nil, List.length_cons, List.length_nil, Nat.reduceSub, Nat.reduceAdd, Nat.zero_add, List.replicate_zero, List.reduceReplicate, List.append_nil, List.nil_append, List.cons_append, List.getElem?_cons_zero, List.getElem?_cons_succ, List.set_cons_zero, List.set_cons_succ, Option.some.injEq, exists_eq_left', exists_eq_left, V.ref.injEq, V.int.injEq, V.bl.injEq, V.str.injEq, V.ty.injEq, HO.tup.injEq, HO.lst.injEq, List.cons.injEq, and_true, true_and, and_assoc, exists_and_left, decide_eq_true_eq, Bool.not_eq_true', decide_eq_false_iff_not, ite_true, ite_false, if_true, if_false, Int.reduceToNat, eq_self_iff_true]
      exact hN _ _ ⟨rfl, _, by decide +kernel, by decide +kernel, by decide +kernel, rfl⟩
    rintro _ _ ⟨rfl, g, ga, g0, g1, rfl⟩
    change tSeq _ _ _ [some (.str z), some (.int n), some (.str g), none, none] H
    refine seq_gen (fun σ' H1 => H = H1 ∧ ∃ g : Str, (∀ c ∈ g.cps.toList, c < 128) ∧ 0 < g.length ∧ g.length < 200 ∧ σ' = [some (.str z), some (.int n), some (.str g), none, none]) ?_ (fun N hN => ?_)
    case refine_2 =>
      simp only [L2.start, Pr, tRev, tD1, tDPop1, tSl, tNoPart, tPart, rSlL, tDIn, tDNotIn, gSub, rSetL, tLst, tDNewK, tComp, L2.stC, tFor_eq, iList, iTup, iRng1, iRng2, iZip, iEnum, iDict, iStr, tChain, tSumV, tBM, rJoin, tJoined, jNil, jLit, jInt, jStr, tRaise, tDGet, tDGet2, tDGet1, sDPut, Option.join_some, List.getElem?_nil,  tSeq, tRet, tRetN, tIfS, tTest, tB, tOp, tUn, tVar, tC, tCB, tCons, tNil, tCall, tTupS, tAsg, gName, gNil, gCons, tPar, tNext, tDrop, tAnd, tOr, tNot, tAndV, tOrV, tNotV, tIf, rI, rI0, rU, rIxTH, rIxLH, rEqT, rNeT, rInT, rEq, rNe, scal, CPow, at0, at1, at2, List.map_cons, List.map_nil, List.length_cons, List.length_nil, Nat.reduceSub, Nat.reduceAdd, Nat.zero_add, List.replicate_zero, List.reduceReplicate, List.append_nil, List.nil_append, List.cons_append, List.getElem?_cons_zero, List.getElem?_cons_succ, List.set_cons_zero, List.set_cons_succ, Option.some.injEq, exists_eq_left', exists_eq_left, V.ref.injEq, V.int.injEq, V.bl.injEq, V.str.injEq, V.ty.injEq, HO.tup.injEq, HO.lst.injEq, List.cons.injEq, and_true, true_and, and_assoc, exists_and_left, decide_eq_true_eq, Bool.not_eq_true', decide_eq_false_iff_not, ite_true, ite_false, if_true, if_false, Int.reduceToNat, eq_self_iff_true]
      exact ⟨CDivB.lit, by decide, ite2 (fun _ => hN _ _ ⟨rfl, _, by decide +kernel, by decide +kernel, by decide +kernel, rfl⟩) (fun _ => hN _ _ ⟨rfl, g, ga, g0, g1, rfl⟩)⟩
    clear ga g0 g1 g
    rintro _ _ ⟨rfl, g, ga, g0, g1, rfl⟩
    change tSeq _ _ _ [some (.str z), some (.int n), some (.str g), none, none] H
    refine seq_gen (fun σ' H1 => H = H1 ∧ ∃ c, c < 128 ∧ σ' = [some (.str z), some (.int n), some (.str g), some (.str ⟨#[c]⟩), none]) ?_ (fun N hN => ?_)
    case refine_2 =>
      simp only [L2.start, Pr, tRev, tD1, tDPop1, tSl, tNoPart, tPart, rSlL, tDIn, tDNotIn, gSub, rSetL, tLst, tDNewK, tComp, L2.stC, tFor_eq, iList, iTup, iRng1, iRng2, iZip, iEnum, iDict, iStr, tChain, tSumV, tBM, rJoin, tJoined, jNil, jLit, jInt, jStr, tRaise, tDGet, tDGet2, tDGet1, sDPut, Option.join_some, List.getElem?_nil,  tSeq, tRet, tRetN, tIfS, tTest, tB, tOp, tUn, tVar, tC, tCB, tCons, tNil, tCall, tTupS, tAsg, gName, gNil, gCons, tPar, tNext, tDrop, tAnd, tOr, tNot, tAndV, tOrV, tNotV, tIf, rI, rI0, rU, rIxTH, rIxLH, rEqT, rNeT, rInT, rEq, rNe, scal, CPow, at0, at1, at2, List.map_cons, List.map_nil, List.length_cons, List.length_nil, Nat.reduceSub, Nat.reduceAdd, Nat.zero_add, List.replicate_zero, List.reduceReplicate, List.append_nil, List.nil_append, List.cons_append, List.getElem?_cons_zero, List.getElem?_cons_succ, List.set_cons_zero, List.set_cons_succ, Option.some.injEq, exists_eq_left', exists_eq_left, V.ref.injEq, V.int.injEq, V.bl.injEq, V.str.injEq, V.ty.injEq, HO.tup.injEq, HO.lst.injEq, List.cons.injEq, and_true, true_and, and_assoc, exists_and_left, decide_eq_true_eq, Bool.not_eq_true', decide_eq_false_iff_not, ite_true, ite_false, if_true, if_false, Int.reduceToNat, eq_self_iff_true, rIxS]
      have h0 := Int.emod_nonneg (n / 6) (show (g.length : Int) ≠ 0 by omega)
      have h1 := Int.emod_lt_of_pos (n / 6) (show (0 : Int) < (g.length : Int) by omega)
      obtain ⟨k, hk⟩ := Int.eq_ofNat_of_zero_le h0
      have lk : k < g.cps.toList.length := by
        rw [Array.length_toList]
        show k < g.length
        omega
      refine ⟨CDivB.lit, by omega, by omega, by omega, _, ?_, hN _ _ ⟨rfl, _, ga _ (List.getElem_mem lk), rfl⟩⟩
      rw [hk]
      exact atI_nat (List.getElem?_eq_getElem lk)
    rintro _ _ ⟨rfl, c, c1, rfl⟩
    change tSeq _ _ _ [some (.str z), some (.int n), some (.str g), some (.str ⟨#[c]⟩), none] H
    refine seq_gen (fun σ' H1 => H = H1 ∧ ∃ k, 0 ≤ k ∧ k ≤ (z.length : Int) ∧ σ' = [some (.str z), some (.int n), some (.str g), some (.str ⟨#[c]⟩), some (.int k)]) ?_ (fun N hN => ?_)
    case refine_2 =>
      simp only [L2.start, Pr, tRev, tD1, tDPop1, tSl, tNoPart, tPart, rSlL, tDIn, tDNotIn, gSub, rSetL, tLst, tDNewK, tComp, L2.stC, tFor_eq, iList, iTup, iRng1, iRng2, iZip, iEnum, iDict, iStr, tChain, tSumV, tBM, rJoin, tJoined, jNil, jLit, jInt, jStr, tRaise, tDGet, tDGet2, tDGet1, sDPut, Option.join_some, List.getElem?_nil,  tSeq, tRet, tRetN, tIfS, tTest, tB, tOp, tUn, tVar, tC, tCB, tCons, tNil, tCall, tTupS, tAsg, gName, gNil, gCons, tPar, tNext, tDrop, tAnd, tOr, tNot, tAndV, tOrV, tNotV, tIf, rI, rI0, rU, rIxTH, rIxLH, rEqT, rNeT, rInT, rEq, rNe, scal, CPow, at0, at1, at2, List.map_cons, List.map_nil, List.length_cons, List.length_nil, Nat.reduceSub, Nat.reduceAdd, Nat.zero_add, List.replicate_zero, List.reduceReplicate, List.append_nil, List.nil_append, List.cons_append, List.getElem?_cons_zero, List.getElem?_cons_succ, List.set_cons_zero, List.set_cons_succ, Option.some.injEq, exists_eq_left', exists_eq_left, V.ref.injEq, V.int.injEq, V.bl.injEq, V.str.injEq, V.ty.injEq, HO.tup.injEq, HO.lst.injEq, List.cons.injEq, and_true, true_and, and_assoc, exists_and_left, decide_eq_true_eq, Bool.not_eq_true', decide_eq_false_iff_not, ite_true, ite_false, if_true, if_false, Int.reduceToNat, eq_self_iff_true]
      have a0 := Int.emod_nonneg (n / 700) (show (z.length : Int) + 1 ≠ 0 by omega)
      have a1 := Int.emod_lt_of_pos (n / 700) (show (0 : Int) < (z.length : Int) + 1 by omega)
      exact ⟨CDivB.lit, by omega, by omega, hN _ _ ⟨rfl, _, a0, by omega, rfl⟩⟩
    rintro _ _ ⟨rfl, k, k0, k1, rfl⟩
    simp only [L2.start, Pr, tRev, tD1, tDPop1, tSl, tNoPart, tPart, rSlL, tDIn, tDNotIn, gSub, rSetL, tLst, tDNewK, tComp, L2.stC, tFor_eq, iList, iTup, iRng1, iRng2, iZip, iEnum, iDict, iStr, tChain, tSumV, tBM, rJoin, tJoined, jNil, jLit, jInt, jStr, tRaise, tDGet, tDGet2, tDGet1, sDPut, Option.join_some, List.getElem?_nil,  tSeq, tRet, tRetN, tIfS, tTest, tB, tOp, tUn, tVar, tC, tCB, tCons, tNil, tCall, tTupS, tAsg, gName, gNil, gCons, tPar, tNext, tDrop, tAnd, tOr, tNot, tAndV, tOrV, tNotV, tIf, rI, rI0, rU, rIxTH, rIxLH, rEqT, rNeT, rInT, rEq, rNe, scal, CPow, at0, at1, at2, List.map_cons, List.map_nil, List.length_cons, List.length_nil, Nat.reduceSub, Nat.reduceAdd, Nat.zero_add, List.replicate_zero, List.reduceReplicate, List.append_nil, List.nil_append, List.cons_append, List.getElem?_cons_zero, List.getElem?_cons_succ, List.set_cons_zero, List.set_cons_succ, Option.some.injEq, exists_eq_left', exists_eq_left, V.ref.injEq, V.int.injEq, V.bl.injEq, V.str.injEq, V.ty.injEq, HO.tup.injEq, HO.lst.injEq, List.cons.injEq, and_true, true_and, and_assoc, exists_and_left, decide_eq_true_eq, Bool.not_eq_true', decide_eq_false_iff_not, ite_true, ite_false, if_true, if_false, Int.reduceToNat, eq_self_iff_true, rSlS]
    have ca : Asc ⟨#[c]⟩ := mem_asc fun x hx => by (have : x = c := by simpa using hx); omega
    have cl : (⟨#[c]⟩ : Str).length = 1 := rfl
    have q1 := Txt.slice_le z none (some k)
    have q2 := Txt.slice_le z (some k) none
    have q3 := Txt.slice_le z (some (k + 1)) none
    refine ⟨by decide, ite2 (fun _ => ?_) (fun _ => ⟨by decide, ite2 (fun _ => ?_) (fun _ => ?_)⟩)⟩
    · exact ⟨by omega, by omega, by omega, kk _ _ (Same.refl _) ⟨az.slice.app az.slice, by rw [Str.length_append]; omega⟩⟩
    · exact ⟨by omega, by omega, by omega, by rw [Str.length_append]; omega, kk _ _ (Same.refl _) ⟨(az.slice.app ca).app az.slice, by rw [Str.length_append, Str.length_append]; omega⟩⟩
    · exact ⟨by omega, by omega, by omega, by rw [Str.length_append]; omega, kk _ _ (Same.refl _) ⟨(az.slice.app ca).app az.slice, by rw [Str.length_append, Str.length_append]; omega⟩⟩
theorem sc__law_near : FnScope ["_law_cell", "_law_some"] ["_law_cell"] (defScope (top 36)) := ⟨rfl, rfl, rfl, by decide +kernel, rfl, by decide +kernel, by decide +kernel⟩
theorem ok_nr (T : Txt K mg w.params q_LuckError q_NoShare q_NoTable q_NoPool q_NoEnd q_TooMany q_NoGame q_NoWay q_NoRule q_NoStep q_NoPlay q_NoRow q_OF_MANY q_OF_ONE) : Cal P w K mg base (CX1 P w) 1 "_law_near" ["_law_cell"] spNr := by
  refine T.d__law_near.cal (fun _ _ _ _ _ _ us hl => match us, hl with | [_], _ => rfl) fun f fd F => F.okC sc__law_near (fun vs H Q E h => ?_) (fun cdv A outer s H vs Q E hr h => ?_)
  · obtain ⟨_, rfl, _⟩ := h; rfl
  · obtain ⟨n, rfl, kk⟩ := h
    have nd := sc__law_near.nd
    refine ⟨_, (pss_cons (ps_set (i := 1) nd rfl (Or.inl rfl) (pe_lst (pa_cons pe_str (pa_cons pe_str (pa_cons pe_str (pa_cons pe_str (pa_cons pe_str (pa_cons pe_str (pa_cons pe_str (pa_cons pe_str (pa_cons pe_str (pa_cons pe_str (pa_cons pe_str (pa_cons pe_str (pa_cons pe_str (pa_cons pe_str (pa_cons pe_str pa_nil (se rfl)) (se rfl)) (se rfl)) (se rfl)) (se rfl)) (se rfl)) (se rfl)) (se rfl)) (se rfl)) (se rfl)) (se rfl)) (se rfl)) (se rfl)) (se rfl)) (se rfl))))
    (pss_cons (ps_set (i := 1) nd rfl (Or.inl rfl) (pe_op op_cat (pv 1) (pe_lst (pa_cons pe_str (pa_cons pe_str (pa_cons pe_str (pa_cons pe_str (pa_cons pe_str (pa_cons pe_str (pa_cons pe_str (pa_cons pe_str (pa_cons pe_str (pa_cons pe_str (pa_cons pe_str (pa_cons pe_str (pa_cons pe_str (pa_cons pe_str pa_nil (se rfl)) (se rfl)) (se rfl)) (se rfl)) (se rfl)) (se rfl)) (se rfl)) (se rfl)) (se rfl)) (se rfl)) (se rfl)) (se rfl)) (se rfl)) (se rfl)))))
    (pss_cons (ps_set (i := 1) nd rfl (Or.inl rfl) (pe_op op_cat (pv 1) (pe_lst (pa_cons pe_str (pa_cons pe_str (pa_cons pe_str (pa_cons pe_str (pa_cons pe_str (pa_cons pe_str pa_nil (se rfl)) (se rfl)) (se rfl)) (se rfl)) (se rfl)) (se rfl)))))
    (pss_cons (ps_set (i := 1) nd rfl (Or.inl rfl) (pe_op op_cat (pv 1) (pe_lst (pa_cons pe_str (pa_cons pe_str (pa_cons pe_str (pa_cons pe_str (pa_cons pe_str (pa_cons pe_str pa_nil (se rfl)) (se rfl)) (se rfl)) (se rfl)) (se rfl)) (se rfl)))))
    (pss_cons (ps_set (i := 1) nd rfl (Or.inl rfl) (pe_op op_cat (pv 1) (pe_lst (pa_cons pe_str (pa_cons pe_str (pa_cons pe_str (pa_cons pe_str (pa_cons pe_str (pa_cons pe_str (pa_cons pe_str pa_nil (se rfl)) (se rfl)) (se rfl)) (se rfl)) (se rfl)) (se rfl)) (se rfl)))))
    (pss_cons (ps_set (i := 1) nd rfl (Or.inl rfl) (pe_op op_cat (pv 1) (pe_lst (pa_cons pe_str (pa_cons pe_str (pa_cons pe_str (pa_cons pe_str (pa_cons pe_str (pa_cons pe_str (pa_cons pe_str pa_nil (se rfl)) (se rfl)) (se rfl)) (se rfl)) (se rfl)) (se rfl)) (se rfl)))))
    (pss_cons (ps_set (i := 1) nd rfl (Or.inl rfl) (pe_op op_cat (pv 1) (pe_lst (pa_cons pe_str (pa_cons pe_str (pa_cons pe_str (pa_cons pe_str (pa_cons pe_str (pa_cons pe_str (pa_cons pe_str (pa_cons pe_str (pa_cons pe_str pa_nil (se rfl)) (se rfl)) (se rfl)) (se rfl)) (se rfl)) (se rfl)) (se rfl)) (se rfl)) (se rfl)))))
    (pss_cons (ps_expr (pe_bm PySem.F.plainAttrs_list PySem.F.slot_list_append PySem.F.type_list_append mt_append.r (pv 1) (pa_cons (pe_bm PySem.F.plainAttrs_str PySem.F.slot_str_join PySem.F.type_str_join (mt_joinK (K := K)) pe_str (pa_cons (pe_op op_rep (pe_lst (pa_cons pe_str pa_nil (se rfl))) pe_int) pa_nil (se rfl))) pa_nil (se rfl))))
    (pss_cons (ps_set (i := 1) nd rfl (Or.inl rfl) (pe_op op_cat (pv 1) (pe_lst (pa_cons pe_str (pa_cons pe_str (pa_cons pe_str (pa_cons pe_str (pa_cons pe_str (pa_cons pe_str pa_nil (se rfl)) (se rfl)) (se rfl)) (se rfl)) (se rfl)) (se rfl)))))
    (pss_one (ps_ret (pe_ix ix_listH (pv 1) (pe_op op_modB (pv 0) (pe_callB call_lenL (by rfl) T.z_len PySem.boot_len (pa_cons (pv 1) pa_nil (se rfl)) (he := se rfl) (hpl := na rfl))) (fun _ _ => rfl))))))))))))), ?_⟩
    have sl := sizeLine_eq
    change tSeq _ _ _ [some (.int n), none] H
    refine seq_gen (fun σ' H1 => Same H H1 ∧ ∃ l, H l = none ∧ Txl H1 l 15 ∧ σ' = [some (.int n), some (.ref l)]) ?_ (fun N hN => ?_)
    case refine_2 =>
      simp only [L2.start, Pr, tRev, tD1, tDPop1, tSl, tNoPart, tPart, rSlL, tDIn, tDNotIn, gSub, rSetL, tLst, tDNewK, tComp, L2.stC, tFor_eq, iList, iTup, iRng1, iRng2, iZip, iEnum, iDict, iStr, tChain, tSumV, tBM, rJoin, tJoined, jNil, jLit, jInt, jStr, tRaise, tDGet, tDGet2, tDGet1, sDPut, Option.join_some, List.getElem?_nil,  tSeq, tRet, tRetN, tIfS, tTest, tB, tOp, tUn, tVar, tC, tCB, tCons, tNil, tCall, tTupS, tAsg, gName, gNil, gCons, tPar, tNext, tDrop, tAnd, tOr, tNot, tAndV, tOrV, tNotV, tIf, rI, rI0, rU, rIxTH, rIxLH, rEqT, rNeT, rInT, rEq, rNe, scal, CPow, at0, at1, at2, List.map_cons, List.map_nil, List.length_cons, List.length_nil, Nat.reduceSub, Nat.reduceAdd, Nat.zero_add, List.replicate_zero, List.reduceReplicate, List.append_nil, List.nil_append, List.cons_append, List.getElem?_cons_zero, List.getElem?_cons_succ, List.set_cons_zero, List.set_cons_succ, Option.some.injEq, exists_eq_left', exists_eq_left, V.ref.injEq, V.int.injEq, V.bl.injEq, V.str.injEq, V.ty.injEq, HO.tup.injEq, HO.lst.injEq, List.cons.injEq, and_true, true_and, and_assoc, exists_and_left, decide_eq_true_eq, Bool.not_eq_true', decide_eq_false_iff_not, ite_true, ite_false, if_true, if_false, Int.reduceToNat, eq_self_iff_true]
      exact ⟨by decide, fun l nl => hN _ _ ⟨same_upd nl, l, nl, ⟨[Str.ofString "", Str.ofString " ", Str.ofString "+", Str.ofString " + ", Str.ofString "d", Str.ofString "d6 +", Str.ofString "+ d6", Str.ofString "d6 + ", Str.ofString "d6  + d6", Str.ofString "d6+d6", Str.ofString "1d6", Str.ofString "0d6", Str.ofString "7d6", Str.ofString "06", Str.ofString "00"], upd_same, tx_all (by decide +kernel), by decide, by decide⟩, rfl⟩⟩
    rintro _ H1 ⟨sm1, l, nl, ⟨ts, hl, tt, t0, t1⟩, rfl⟩
    change tSeq _ _ _ [some (.int n), some (.ref l)] H1
    refine seq_gen (fun σ' H1 => Same H H1 ∧ ∃ l, H l = none ∧ Txl H1 l 29 ∧ σ' = [some (.int n), some (.ref l)]) ?_ (fun N hN => ?_)
    case refine_2 =>
      simp only [L2.start, Pr, tRev, tD1, tDPop1, tSl, tNoPart, tPart, rSlL, tDIn, tDNotIn, gSub, rSetL, tLst, tDNewK, tComp, L2.stC, tFor_eq, iList, iTup, iRng1, iRng2, iZip, iEnum, iDict, iStr, tChain, tSumV, tBM, rJoin, tJoined, jNil, jLit, jInt, jStr, tRaise, tDGet, tDGet2, tDGet1, sDPut, Option.join_some, List.getElem?_nil,  tSeq, tRet, tRetN, tIfS, tTest, tB, tOp, tUn, tVar, tC, tCB, tCons, tNil, tCall, tTupS, tAsg, gName, gNil, gCons, tPar, tNext, tDrop, tAnd, tOr, tNot, tAndV, tOrV, tNotV, tIf, rI, rI0, rU, rIxTH, rIxLH, rEqT, rNeT, rInT, rEq, rNe, scal, CPow, at0, at1, at2, List.map_cons, List.map_nil, List.length_cons, List.length_nil, Nat.reduceSub, Nat.reduceAdd, Nat.zero_add, List.replicate_zero, List.reduceReplicate, List.append_nil, List.nil_append, List.cons_append, List.getElem?_cons_zero, List.getElem?_cons_succ, List.set_cons_zero, List.set_cons_succ, Option.some.injEq, exists_eq_left', exists_eq_left, V.ref.injEq, V.int.injEq, V.bl.injEq, V.str.injEq, V.ty.injEq, HO.tup.injEq, HO.lst.injEq, List.cons.injEq, and_true, true_and, and_assoc, exists_and_left, decide_eq_true_eq, Bool.not_eq_true', decide_eq_false_iff_not, ite_true, ite_false, if_true, if_false, Int.reduceToNat, eq_self_iff_true, rCat]
      refine ⟨by decide, fun q nq => ⟨_, same_upd nq _ _ hl, _, upd_same, by rw [List.length_map]; simp only [List.length_cons, List.length_nil]; omega, fun r nr => hN _ _ ⟨sm1.trans ((same_upd nq).trans (same_upd nr)), r, none_of (sm1.trans (same_upd nq)) nr, ⟨ts ++ [Str.ofString "d0", Str.ofString "d21", Str.ofString "d06", Str.ofString "02d6", Str.ofString "2D6", Str.ofString "D6", Str.ofString "2 d6", Str.ofString "2d 6", Str.ofString "100", Str.ofString "6d", Str.ofString "6d20", Str.ofString "dd6", Str.ofString "d6d", Str.ofString "2d6d"], ?_, fun t ht => ?_, by rw [List.length_append]; omega, by rw [List.length_append]; simp only [List.length_cons, List.length_nil]; omega⟩, rfl⟩⟩⟩
      · rw [upd_same, List.map_append]
        rfl
      · rcases List.mem_append.mp ht with h | h
        · exact tt t h
        · exact tx_all (by decide +kernel) t h
    clear hl tt t0 t1 ts nl sm1
    rintro _ H1 ⟨sm1, l, nl, ⟨ts, hl, tt, t0, t1⟩, rfl⟩
    change tSeq _ _ _ [some (.int n), some (.ref l)] H1
    refine seq_gen (fun σ' H1 => Same H H1 ∧ ∃ l, H l = none ∧ Txl H1 l 35 ∧ σ' = [some (.int n), some (.ref l)]) ?_ (fun N hN => ?_)
    case refine_2 =>
      simp only [L2.start, Pr, tRev, tD1, tDPop1, tSl, tNoPart, tPart, rSlL, tDIn, tDNotIn, gSub, rSetL, tLst, tDNewK, tComp, L2.stC, tFor_eq, iList, iTup, iRng1, iRng2, iZip, iEnum, iDict, iStr, tChain, tSumV, tBM, rJoin, tJoined, jNil, jLit, jInt, jStr, tRaise, tDGet, tDGet2, tDGet1, sDPut, Option.join_some, List.getElem?_nil,  tSeq, tRet, tRetN, tIfS, tTest, tB, tOp, tUn, tVar, tC, tCB, tCons, tNil, tCall, tTupS, tAsg, gName, gNil, gCons, tPar, tNext, tDrop, tAnd, tOr, tNot, tAndV, tOrV, tNotV, tIf, rI, rI0, rU, rIxTH, rIxLH, rEqT, rNeT, rInT, rEq, rNe, scal, CPow, at0, at1, at2, List.map_cons, List.map_nil, List.length_cons, List.length_nil, Nat.reduceSub, Nat.reduceAdd, Nat.zero_add, List.replicate_zero, List.reduceReplicate, List.append_nil, List.nil_append, List.cons_append, List.getElem?_cons_zero, List.getElem?_cons_succ, List.set_cons_zero, List.set_cons_succ, Option.some.injEq, exists_eq_left', exists_eq_left, V.ref.injEq, V.int.injEq, V.bl.injEq, V.str.injEq, V.ty.injEq, HO.tup.injEq, HO.lst.injEq, List.cons.injEq, and_true, true_and, and_assoc, exists_and_left, decide_eq_true_eq, Bool.not_eq_true', decide_eq_false_iff_not, ite_true, ite_false, if_true, if_false, Int.reduceToNat, eq_self_iff_true, rCat]
      refine ⟨by decide, fun q nq => ⟨_, same_upd nq _ _ hl, _, upd_same, by rw [List.length_map]; simp only [List.length_cons, List.length_nil]; omega, fun r nr => hN _ _ ⟨sm1.trans ((same_upd nq).trans (same_upd nr)), r, none_of (sm1.trans (same_upd nq)) nr, ⟨ts ++ [Str.ofString "best 0 of 3d6", Str.ofString "best 4 of 3d6", Str.ofString "best 3 of 3d6", Str.ofString "worst 2 of d6", Str.ofString "best 1 of d6", Str.ofString "hits 0 of d6"], ?_, fun t ht => ?_, by rw [List.length_append]; omega, by rw [List.length_append]; simp only [List.length_cons, List.length_nil]; omega⟩, rfl⟩⟩⟩
      · rw [upd_same, List.map_append]
        rfl
      · rcases List.mem_append.mp ht with h | h
        · exact tt t h
        · exact tx_all (by decide +kernel) t h
    clear hl tt t0 t1 ts nl sm1
    rintro _ H1 ⟨sm1, l, nl, ⟨ts, hl, tt, t0, t1⟩, rfl⟩
    change tSeq _ _ _ [some (.int n), some (.ref l)] H1
    refine seq_gen (fun σ' H1 => Same H H1 ∧ ∃ l, H l = none ∧ Txl H1 l 41 ∧ σ' = [some (.int n), some (.ref l)]) ?_ (fun N hN => ?_)
    case refine_2 =>
      simp only [L2.start, Pr, tRev, tD1, tDPop1, tSl, tNoPart, tPart, rSlL, tDIn, tDNotIn, gSub, rSetL, tLst, tDNewK, tComp, L2.stC, tFor_eq, iList, iTup, iRng1, iRng2, iZip, iEnum, iDict, iStr, tChain, tSumV, tBM, rJoin, tJoined, jNil, jLit, jInt, jStr, tRaise, tDGet, tDGet2, tDGet1, sDPut, Option.join_some, List.getElem?_nil,  tSeq, tRet, tRetN, tIfS, tTest, tB, tOp, tUn, tVar, tC, tCB, tCons, tNil, tCall, tTupS, tAsg, gName, gNil, gCons, tPar, tNext, tDrop, tAnd, tOr, tNot, tAndV, tOrV, tNotV, tIf, rI, rI0, rU, rIxTH, rIxLH, rEqT, rNeT, rInT, rEq, rNe, scal, CPow, at0, at1, at2, List.map_cons, List.map_nil, List.length_cons, List.length_nil, Nat.reduceSub, Nat.reduceAdd, Nat.zero_add, List.replicate_zero, List.reduceReplicate, List.append_nil, List.nil_append, List.cons_append, List.getElem?_cons_zero, List.getElem?_cons_succ, List.set_cons_zero, List.set_cons_succ, Option.some.injEq, exists_eq_left', exists_eq_left, V.ref.injEq, V.int.injEq, V.bl.injEq, V.str.injEq, V.ty.injEq, HO.tup.injEq, HO.lst.injEq, List.cons.injEq, and_true, true_and, and_assoc, exists_and_left, decide_eq_true_eq, Bool.not_eq_true', decide_eq_false_iff_not, ite_true, ite_false, if_true, if_false, Int.reduceToNat, eq_self_iff_true, rCat]
      refine ⟨by decide, fun q nq => ⟨_, same_upd nq _ _ hl, _, upd_same, by rw [List.length_map]; simp only [List.length_cons, List.length_nil]; omega, fun r nr => hN _ _ ⟨sm1.trans ((same_upd nq).trans (same_upd nr)), r, none_of (sm1.trans (same_upd nq)) nr, ⟨ts ++ [Str.ofString "hits 21 of d6", Str.ofString "hits 20 of 6d20", Str.ofString "again 21 of d6", Str.ofString "again 20 of d6", Str.ofString "again 2 of 2d6", Str.ofString "hits"], ?_, fun t ht => ?_, by rw [List.length_append]; omega, by rw [List.length_append]; simp only [List.length_cons, List.length_nil]; omega⟩, rfl⟩⟩⟩
      · rw [upd_same, List.map_append]
        rfl
      · rcases List.mem_append.mp ht with h | h
        · exact tt t h
        · exact tx_all (by decide +kernel) t h
    clear hl tt t0 t1 ts nl sm1
    rintro _ H1 ⟨sm1, l, nl, ⟨ts, hl, tt, t0, t1⟩, rfl⟩
    change tSeq _ _ _ [some (.int n), some (.ref l)] H1
    refine seq_gen (fun σ' H1 => Same H H1 ∧ ∃ l, H l = none ∧ Txl H1 l 48 ∧ σ' = [some (.int n), some (.ref l)]) ?_ (fun N hN => ?_)
    case refine_2 =>
      simp only [L2.start, Pr, tRev, tD1, tDPop1, tSl, tNoPart, tPart, rSlL, tDIn, tDNotIn, gSub, rSetL, tLst, tDNewK, tComp, L2.stC, tFor_eq, iList, iTup, iRng1, iRng2, iZip, iEnum, iDict, iStr, tChain, tSumV, tBM, rJoin, tJoined, jNil, jLit, jInt, jStr, tRaise, tDGet, tDGet2, tDGet1, sDPut, Option.join_some, List.getElem?_nil,  tSeq, tRet, tRetN, tIfS, tTest, tB, tOp, tUn, tVar, tC, tCB, tCons, tNil, tCall, tTupS, tAsg, gName, gNil, gCons, tPar, tNext, tDrop, tAnd, tOr, tNot, tAndV, tOrV, tNotV, tIf, rI, rI0, rU, rIxTH, rIxLH, rEqT, rNeT, rInT, rEq, rNe, scal, CPow, at0, at1, at2, List.map_cons, List.map_nil, List.length_cons, List.length_nil, Nat.reduceSub, Nat.reduceAdd, Nat.zero_add, List.replicate_zero, List.reduceReplicate, List.append_nil, List.nil_append, List.cons_append, List.getElem?_cons_zero, List.getElem?_cons_succ, List.set_cons_zero, List.set_cons_succ, Option.some.injEq, exists_eq_left', exists_eq_left, V.ref.injEq, V.int.injEq, V.bl.injEq, V.str.injEq, V.ty.injEq, HO.tup.injEq, HO.lst.injEq, List.cons.injEq, and_true, true_and, and_assoc, exists_and_left, decide_eq_true_eq, Bool.not_eq_true', decide_eq_false_iff_not, ite_true, ite_false, if_true, if_false, Int.reduceToNat, eq_self_iff_true, rCat]
      refine ⟨by decide, fun q nq => ⟨_, same_upd nq _ _ hl, _, upd_same, by rw [List.length_map]; simp only [List.length_cons, List.length_nil]; omega, fun r nr => hN _ _ ⟨sm1.trans ((same_upd nq).trans (same_upd nr)), r, none_of (sm1.trans (same_upd nq)) nr, ⟨ts ++ [Str.ofString "burst 6 of d20", Str.ofString "burst 1 of 1d6", Str.ofString "again 1 of 1d6", Str.ofString "best of 3d6", Str.ofString "best 2 3d6", Str.ofString "best 2 of", Str.ofString "99"], ?_, fun t ht => ?_, by rw [List.length_append]; omega, by rw [List.length_append]; simp only [List.length_cons, List.length_nil]; omega⟩, rfl⟩⟩⟩
      · rw [upd_same, List.map_append]
        rfl
      · rcases List.mem_append.mp ht with h | h
        · exact tt t h
        · exact tx_all (by decide +kernel) t h
    clear hl tt t0 t1 ts nl sm1
    rintro _ H1 ⟨sm1, l, nl, ⟨ts, hl, tt, t0, t1⟩, rfl⟩
    change tSeq _ _ _ [some (.int n), some (.ref l)] H1
    refine seq_gen (fun σ' H1 => Same H H1 ∧ ∃ l, H l = none ∧ Txl H1 l 55 ∧ σ' = [some (.int n), some (.ref l)]) ?_ (fun N hN => ?_)
    case refine_2 =>
      simp only [L2.start, Pr, tRev, tD1, tDPop1, tSl, tNoPart, tPart, rSlL, tDIn, tDNotIn, gSub, rSetL, tLst, tDNewK, tComp, L2.stC, tFor_eq, iList, iTup, iRng1, iRng2, iZip, iEnum, iDict, iStr, tChain, tSumV, tBM, rJoin, tJoined, jNil, jLit, jInt, jStr, tRaise, tDGet, tDGet2, tDGet1, sDPut, Option.join_some, List.getElem?_nil,  tSeq, tRet, tRetN, tIfS, tTest, tB, tOp, tUn, tVar, tC, tCB, tCons, tNil, tCall, tTupS, tAsg, gName, gNil, gCons, tPar, tNext, tDrop, tAnd, tOr, tNot, tAndV, tOrV, tNotV, tIf, rI, rI0, rU, rIxTH, rIxLH, rEqT, rNeT, rInT, rEq, rNe, scal, CPow, at0, at1, at2, List.map_cons, List.map_nil, List.length_cons, List.length_nil, Nat.reduceSub, Nat.reduceAdd, Nat.zero_add, List.replicate_zero, List.reduceReplicate, List.append_nil, List.nil_append, List.cons_append, List.getElem?_cons_zero, List.getElem?_cons_succ, List.set_cons_zero, List.set_cons_succ, Option.some.injEq, exists_eq_left', exists_eq_left, V.ref.injEq, V.int.injEq, V.bl.injEq, V.str.injEq, V.ty.injEq, HO.tup.injEq, HO.lst.injEq, List.cons.injEq, and_true, true_and, and_assoc, exists_and_left, decide_eq_true_eq, Bool.not_eq_true', decide_eq_false_iff_not, ite_true, ite_false, if_true, if_false, Int.reduceToNat, eq_self_iff_true, rCat]
      refine ⟨by decide, fun q nq => ⟨_, same_upd nq _ _ hl, _, upd_same, by rw [List.length_map]; simp only [List.length_cons, List.length_nil]; omega, fun r nr => hN _ _ ⟨sm1.trans ((same_upd nq).trans (same_upd nr)), r, none_of (sm1.trans (same_upd nq)) nr, ⟨ts ++ [Str.ofString "Best 2 of 3d6", Str.ofString "best 2 of 7", Str.ofString "best 02 of 3d6", Str.ofString "most 1 of d6", Str.ofString "d6 + d6 + d6 + d6", Str.ofString "-1", Str.ofString "+1"], ?_, fun t ht => ?_, by rw [List.length_append]; omega, by rw [List.length_append]; simp only [List.length_cons, List.length_nil]; omega⟩, rfl⟩⟩⟩
      · rw [upd_same, List.map_append]
        rfl
      · rcases List.mem_append.mp ht with h | h
        · exact tt t h
        · exact tx_all (by decide +kernel) t h
    clear hl tt t0 t1 ts nl sm1
    rintro _ H1 ⟨sm1, l, nl, ⟨ts, hl, tt, t0, t1⟩, rfl⟩
    change tSeq _ _ _ [some (.int n), some (.ref l)] H1
    refine seq_gen (fun σ' H1 => Same H H1 ∧ ∃ l, H l = none ∧ Txl H1 l 64 ∧ σ' = [some (.int n), some (.ref l)]) ?_ (fun N hN => ?_)
    case refine_2 =>
      simp only [L2.start, Pr, tRev, tD1, tDPop1, tSl, tNoPart, tPart, rSlL, tDIn, tDNotIn, gSub, rSetL, tLst, tDNewK, tComp, L2.stC, tFor_eq, iList, iTup, iRng1, iRng2, iZip, iEnum, iDict, iStr, tChain, tSumV, tBM, rJoin, tJoined, jNil, jLit, jInt, jStr, tRaise, tDGet, tDGet2, tDGet1, sDPut, Option.join_some, List.getElem?_nil,  tSeq, tRet, tRetN, tIfS, tTest, tB, tOp, tUn, tVar, tC, tCB, tCons, tNil, tCall, tTupS, tAsg, gName, gNil, gCons, tPar, tNext, tDrop, tAnd, tOr, tNot, tAndV, tOrV, tNotV, tIf, rI, rI0, rU, rIxTH, rIxLH, rEqT, rNeT, rInT, rEq, rNe, scal, CPow, at0, at1, at2, List.map_cons, List.map_nil, List.length_cons, List.length_nil, Nat.reduceSub, Nat.reduceAdd, Nat.zero_add, List.replicate_zero, List.reduceReplicate, List.append_nil, List.nil_append, List.cons_append, List.getElem?_cons_zero, List.getElem?_cons_succ, List.set_cons_zero, List.set_cons_succ, Option.some.injEq, exists_eq_left', exists_eq_left, V.ref.injEq, V.int.injEq, V.bl.injEq, V.str.injEq, V.ty.injEq, HO.tup.injEq, HO.lst.injEq, List.cons.injEq, and_true, true_and, and_assoc, exists_and_left, decide_eq_true_eq, Bool.not_eq_true', decide_eq_false_iff_not, ite_true, ite_false, if_true, if_false, Int.reduceToNat, eq_self_iff_true, rCat]
      refine ⟨by decide, fun q nq => ⟨_, same_upd nq _ _ hl, _, upd_same, by rw [List.length_map]; simp only [List.length_cons, List.length_nil]; omega, fun r nr => hN _ _ ⟨sm1.trans ((same_upd nq).trans (same_upd nr)), r, none_of (sm1.trans (same_upd nq)) nr, ⟨ts ++ [Str.ofString "d6 + d6 + d6 + d6 + d6", Str.ofString "1 + 2 + 3 + 4", Str.ofString "2d6 - 1", Str.ofString "best 2 of 3d6 ", Str.ofString " 7", Str.ofString "7 ", Str.ofString "9", Str.ofString "0", Str.ofString "0x1"], ?_, fun t ht => ?_, by rw [List.length_append]; omega, by rw [List.length_append]; simp only [List.length_cons, List.length_nil]; omega⟩, rfl⟩⟩⟩
      · rw [upd_same, List.map_append]
        rfl
      · rcases List.mem_append.mp ht with h | h
        · exact tt t h
        · exact tx_all (by decide +kernel) t h
    clear hl tt t0 t1 ts nl sm1
    rintro _ H1 ⟨sm1, l, nl, ⟨ts, hl, tt, t0, t1⟩, rfl⟩
    change tSeq _ _ _ [some (.int n), some (.ref l)] H1
    refine seq_gen (fun σ' H1 => Same H H1 ∧ ∃ l, H l = none ∧ Txl H1 l 65 ∧ σ' = [some (.int n), some (.ref l)]) ?_ (fun N hN => ?_)
    case refine_2 =>
      simp only [L2.start, Pr, tRev, tD1, tDPop1, tSl, tNoPart, tPart, rSlL, tDIn, tDNotIn, gSub, rSetL, tLst, tDNewK, tComp, L2.stC, tFor_eq, iList, iTup, iRng1, iRng2, iZip, iEnum, iDict, iStr, tChain, tSumV, tBM, rJoin, tJoined, jNil, jLit, jInt, jStr, tRaise, tDGet, tDGet2, tDGet1, sDPut, Option.join_some, List.getElem?_nil,  tSeq, tRet, tRetN, tIfS, tTest, tB, tOp, tUn, tVar, tC, tCB, tCons, tNil, tCall, tTupS, tAsg, gName, gNil, gCons, tPar, tNext, tDrop, tAnd, tOr, tNot, tAndV, tOrV, tNotV, tIf, rI, rI0, rU, rIxTH, rIxLH, rEqT, rNeT, rInT, rEq, rNe, scal, CPow, at0, at1, at2, List.map_cons, List.map_nil, List.length_cons, List.length_nil, Nat.reduceSub, Nat.reduceAdd, Nat.zero_add, List.replicate_zero, List.reduceReplicate, List.append_nil, List.nil_append, List.cons_append, List.getElem?_cons_zero, List.getElem?_cons_succ, List.set_cons_zero, List.set_cons_succ, Option.some.injEq, exists_eq_left', exists_eq_left, V.ref.injEq, V.int.injEq, V.bl.injEq, V.str.injEq, V.ty.injEq, HO.tup.injEq, HO.lst.injEq, List.cons.injEq, and_true, true_and, and_assoc, exists_and_left, decide_eq_true_eq, Bool.not_eq_true', decide_eq_false_iff_not, ite_true, ite_false, if_true, if_false, Int.reduceToNat, eq_self_iff_true, rRep, rAppend]
      have dt : Tx 1000 (Txt.join (Str.ofString " + ") (List.replicate 12 (Str.ofString "d6"))) := by
        have : (Txt.join (Str.ofString " + ") (List.replicate 12 (Str.ofString "d6"))).cps.all (· < 128) = true ∧ (Txt.join (Str.ofString " + ") (List.replicate 12 (Str.ofString "d6"))).length ≤ 1000 := by decide +kernel
        exact this
      refine ⟨.inl ⟨rfl, _, SqL.of hl⟩, rfl, by decide, fun q nq => ⟨_, upd_same, by decide, by decide, by decide, fun r nr => ⟨List.replicate 12 (Str.ofString "d6"), SqL.of upd_same, by decide +kernel, List.map V.str ts, ?_, by rw [List.length_map]; omega, hN _ _ ⟨fun c o e => ?_, l, nl, ⟨ts ++ [Txt.join (Str.ofString " + ") (List.replicate 12 (Str.ofString "d6"))], ?_, fun t ht => ?_, by rw [List.length_append]; omega, by rw [List.length_append]; simp only [List.length_cons, List.length_nil]; omega⟩, rfl⟩⟩⟩⟩
      · exact (same_upd nr) _ _ (same_upd nq _ _ hl)
      · rw [upd_ne (fun z => by rw [z, nl] at e; cases e)]
        exact (same_upd nr) _ _ (same_upd nq _ _ (sm1 _ _ e))
      · rw [upd_same, List.map_append]
        rfl
      · rcases List.mem_append.mp ht with h | h
        · exact tt t h
        · rw [List.mem_singleton.mp h]
          exact dt
    clear hl tt t0 t1 ts nl sm1
    rintro _ H1 ⟨sm1, l, nl, ⟨ts, hl, tt, t0, t1⟩, rfl⟩
    change tSeq _ _ _ [some (.int n), some (.ref l)] H1
    refine seq_gen (fun σ' H1 => Same H H1 ∧ ∃ l, H l = none ∧ Txl H1 l 71 ∧ σ' = [some (.int n), some (.ref l)]) ?_ (fun N hN => ?_)
    case refine_2 =>
      simp only [L2.start, Pr, tRev, tD1, tDPop1, tSl, tNoPart, tPart, rSlL, tDIn, tDNotIn, gSub, rSetL, tLst, tDNewK, tComp, L2.stC, tFor_eq, iList, iTup, iRng1, iRng2, iZip, iEnum, iDict, iStr, tChain, tSumV, tBM, rJoin, tJoined, jNil, jLit, jInt, jStr, tRaise, tDGet, tDGet2, tDGet1, sDPut, Option.join_some, List.getElem?_nil,  tSeq, tRet, tRetN, tIfS, tTest, tB, tOp, tUn, tVar, tC, tCB, tCons, tNil, tCall, tTupS, tAsg, gName, gNil, gCons, tPar, tNext, tDrop, tAnd, tOr, tNot, tAndV, tOrV, tNotV, tIf, rI, rI0, rU, rIxTH, rIxLH, rEqT, rNeT, rInT, rEq, rNe, scal, CPow, at0, at1, at2, List.map_cons, List.map_nil, List.length_cons, List.length_nil, Nat.reduceSub, Nat.reduceAdd, Nat.zero_add, List.replicate_zero, List.reduceReplicate, List.append_nil, List.nil_append, List.cons_append, List.getElem?_cons_zero, List.getElem?_cons_succ, List.set_cons_zero, List.set_cons_succ, Option.some.injEq, exists_eq_left', exists_eq_left, V.ref.injEq, V.int.injEq, V.bl.injEq, V.str.injEq, V.ty.injEq, HO.tup.injEq, HO.lst.injEq, List.cons.injEq, and_true, true_and, and_assoc, exists_and_left, decide_eq_true_eq, Bool.not_eq_true', decide_eq_false_iff_not, ite_true, ite_false, if_true, if_false, Int.reduceToNat, eq_self_iff_true, rCat]
      refine ⟨by decide, fun q nq => ⟨_, same_upd nq _ _ hl, _, upd_same, by rw [List.length_map]; simp only [List.length_cons, List.length_nil]; omega, fun r nr => hN _ _ ⟨sm1.trans ((same_upd nq).trans (same_upd nr)), r, none_of (sm1.trans (same_upd nq)) nr, ⟨ts ++ [Str.ofString "burst 7 of d6", Str.ofString "1_0", Str.ofString "again  2 of d6", Str.ofString "best 2 of 3d6 + ", Str.ofString "burst of d6", Str.ofString "again 2 of 7"], ?_, fun t ht => ?_, by rw [List.length_append]; omega, by rw [List.length_append]; simp only [List.length_cons, List.length_nil]; omega⟩, rfl⟩⟩⟩
      · rw [upd_same, List.map_append]
        rfl
      · rcases List.mem_append.mp ht with h | h
        · exact tt t h
        · exact tx_all (by decide +kernel) t h
    clear hl tt t0 t1 ts nl sm1
    rintro _ H1 ⟨sm1, l, nl, ⟨ts, hl, tt, t0, t1⟩, rfl⟩
    simp only [L2.start, Pr, tRev, tD1, tDPop1, tSl, tNoPart, tPart, rSlL, tDIn, tDNotIn, gSub, rSetL, tLst, tDNewK, tComp, L2.stC, tFor_eq, iList, iTup, iRng1, iRng2, iZip, iEnum, iDict, iStr, tChain, tSumV, tBM, rJoin, tJoined, jNil, jLit, jInt, jStr, tRaise, tDGet, tDGet2, tDGet1, sDPut, Option.join_some, List.getElem?_nil,  tSeq, tRet, tRetN, tIfS, tTest, tB, tOp, tUn, tVar, tC, tCB, tCons, tNil, tCall, tTupS, tAsg, gName, gNil, gCons, tPar, tNext, tDrop, tAnd, tOr, tNot, tAndV, tOrV, tNotV, tIf, rI, rI0, rU, rIxTH, rIxLH, rEqT, rNeT, rInT, rEq, rNe, scal, CPow, at0, at1, at2, List.map_cons, List.map_nil, List.length_cons, List.length_nil, Nat.reduceSub, Nat.reduceAdd, Nat.zero_add, List.replicate_zero, List.reduceReplicate, List.append_nil, List.nil_append, List.cons_append, List.getElem?_cons_zero, List.getElem?_cons_succ, List.set_cons_zero, List.set_cons_succ, Option.some.injEq, exists_eq_left', exists_eq_left, V.ref.injEq, V.int.injEq, V.bl.injEq, V.str.injEq, V.ty.injEq, HO.tup.injEq, HO.lst.injEq, List.cons.injEq, and_true, true_and, and_assoc, exists_and_left, decide_eq_true_eq, Bool.not_eq_true', decide_eq_false_iff_not, ite_true, ite_false, if_true, if_false, Int.reduceToNat, eq_self_iff_true]
    obtain ⟨y, ey, ty⟩ := pickL tt t0 n
    refine ⟨_, hl, ?_⟩
    rw [List.length_map]
    exact ⟨by omega, _, hl, _, ey, kk y _ sm1 ty⟩
theorem sc__law_class : FnScope ["_law_error", "_law_some"] ["_law_error"] (defScope (top 39)) := ⟨rfl, rfl, rfl, by decide +kernel, rfl, by decide +kernel, by decide +kernel⟩
theorem ok_cls (T : Txt K mg w.params q_LuckError q_NoShare q_NoTable q_NoPool q_NoEnd q_TooMany q_NoGame q_NoWay q_NoRule q_NoStep q_NoPlay q_NoRow q_OF_MANY q_OF_ONE) : CalM P w K mg base (CX1 P w) 1 "_law_class" ["_law_error"] (spCls q_NoPool) := by
  refine T.d__law_class.calM (fun _ _ _ _ _ _ us hl => match us, hl with | [_], _ => rfl) fun f fd F => F.okM sc__law_class (fun vs H Q E h => ?_) (fun cdv A ad outer s H vs Q E hr h => ?_)
  · obtain ⟨_, rfl, _⟩ := h; rfl
  · obtain ⟨e, rfl, ex, kk⟩ := h
    have nd := sc__law_class.nd
    refine ⟨_, (pss_cons (ps_set (i := 1) nd rfl (Or.inl rfl) (pe_lst (pa_cons (pe_callB (call_isEK (K := K)) (by rfl) T.z_isinstance rfl (pa_cons (pv 0) (pa_cons (pe_glob (v := V.ref _) rfl T.k_NoShare rfl) pa_nil (se rfl)) (se rfl)) (he := se rfl) (hpl := na rfl)) (pa_cons (pe_callB (call_isEK (K := K)) (by rfl) T.z_isinstance rfl (pa_cons (pv 0) (pa_cons (pe_glob (v := V.ref _) rfl T.k_NoTable rfl) pa_nil (se rfl)) (se rfl)) (he := se rfl) (hpl := na rfl)) (pa_cons (pe_callB (call_isEK (K := K)) (by rfl) T.z_isinstance rfl (pa_cons (pv 0) (pa_cons (pe_glob (v := V.ref _) rfl T.k_TooMany rfl) pa_nil (se rfl)) (se rfl)) (he := se rfl) (hpl := na rfl)) pa_nil (se rfl)) (se rfl)) (se rfl))))
    (pss_cons (ps_set (i := 1) nd rfl (Or.inl rfl) (pe_op op_cat (pv 1) (pe_lst (pa_cons (pe_callB (call_isEK (K := K)) (by rfl) T.z_isinstance rfl (pa_cons (pv 0) (pa_cons (pe_glob (v := V.ref _) rfl T.k_NoEnd rfl) pa_nil (se rfl)) (se rfl)) (he := se rfl) (hpl := na rfl)) (pa_cons (pe_callB (call_isEK (K := K)) (by rfl) T.z_isinstance rfl (pa_cons (pv 0) (pa_cons (pe_glob (v := V.ref _) rfl T.k_NoGame rfl) pa_nil (se rfl)) (se rfl)) (he := se rfl) (hpl := na rfl)) pa_nil (se rfl)) (se rfl)))))
    (pss_cons (ps_set (i := 1) nd rfl (Or.inl rfl) (pe_op op_cat (pv 1) (pe_lst (pa_cons (pe_callB (call_isEK (K := K)) (by rfl) T.z_isinstance rfl (pa_cons (pv 0) (pa_cons (pe_glob (v := V.ref _) rfl T.k_NoWay rfl) pa_nil (se rfl)) (se rfl)) (he := se rfl) (hpl := na rfl)) (pa_cons (pe_callB (call_isEK (K := K)) (by rfl) T.z_isinstance rfl (pa_cons (pv 0) (pa_cons (pe_glob (v := V.ref _) rfl T.k_NoRule rfl) pa_nil (se rfl)) (se rfl)) (he := se rfl) (hpl := na rfl)) pa_nil (se rfl)) (se rfl)))))
    (pss_cons (ps_set (i := 1) nd rfl (Or.inl rfl) (pe_op op_cat (pv 1) (pe_lst (pa_cons (pe_callB (call_isEK (K := K)) (by rfl) T.z_isinstance rfl (pa_cons (pv 0) (pa_cons (pe_glob (v := V.ref _) rfl T.k_NoStep rfl) pa_nil (se rfl)) (se rfl)) (he := se rfl) (hpl := na rfl)) (pa_cons (pe_callB (call_isEK (K := K)) (by rfl) T.z_isinstance rfl (pa_cons (pv 0) (pa_cons (pe_glob (v := V.ref _) rfl T.k_NoPlay rfl) pa_nil (se rfl)) (se rfl)) (he := se rfl) (hpl := na rfl)) (pa_cons (pe_callB (call_isEK (K := K)) (by rfl) T.z_isinstance rfl (pa_cons (pv 0) (pa_cons (pe_glob (v := V.ref _) rfl T.k_NoRow rfl) pa_nil (se rfl)) (se rfl)) (he := se rfl) (hpl := na rfl)) pa_nil (se rfl)) (se rfl)) (se rfl)))))
    (pss_one (ps_ret (pe_and (pe_callB (call_isEK (K := K)) (by rfl) T.z_isinstance rfl (pa_cons (pv 0) (pa_cons (pe_glob (v := V.ref _) rfl T.k_NoPool rfl) pa_nil (se rfl)) (se rfl)) (he := se rfl) (hpl := na rfl)) (pe_and (pe_callB (call_isEK (K := K)) (by rfl) T.z_isinstance rfl (pa_cons (pv 0) (pa_cons (pe_bltn (v := V.ty "ValueError") rfl T.z_ValueError rfl rfl) pa_nil (se rfl)) (se rfl)) (he := se rfl) (hpl := na rfl)) (pe_one (pe_cmpR (op_notIn_seqK (K := K)) pe_bl (pv 1) rfl)))))))))), ?_⟩
    change tSeq _ _ _ [some (.ref e), none] H
    refine seq_gen (fun σ' H1 => Same H H1 ∧ ∃ l xs, H1 l = some (.lst xs) ∧ (∀ x ∈ xs, x = .bl false) ∧ xs.length ≤ 3 ∧ σ' = [some (.ref e), some (.ref l)]) ?_ (fun N hN => ?_)
    case refine_2 =>
      simp only [L2.start, Pr, tRev, tD1, tDPop1, tSl, tNoPart, tPart, rSlL, tDIn, tDNotIn, gSub, rSetL, tLst, tDNewK, tComp, L2.stC, tFor_eq, iList, iTup, iRng1, iRng2, iZip, iEnum, iDict, iStr, tChain, tSumV, tBM, rJoin, tJoined, jNil, jLit, jInt, jStr, tRaise, tDGet, tDGet2, tDGet1, sDPut, Option.join_some, List.getElem?_nil,  tSeq, tRet, tRetN, tIfS, tTest, tB, tOp, tUn, tVar, tC, tCB, tCons, tNil, tCall, tTupS, tAsg, gName, gNil, gCons, tPar, tNext, tDrop, tAnd, tOr, tNot, tAndV, tOrV, tNotV, tIf, rI, rI0, rU, rIxTH, rIxLH, rEqT, rNeT, rInT, rEq, rNe, scal, CPow, at0, at1, at2, List.map_cons, List.map_nil, List.length_cons, List.length_nil, Nat.reduceSub, Nat.reduceAdd, Nat.zero_add, List.replicate_zero, List.reduceReplicate, List.append_nil, List.nil_append, List.cons_append, List.getElem?_cons_zero, List.getElem?_cons_succ, List.set_cons_zero, List.set_cons_succ, Option.some.injEq, exists_eq_left', exists_eq_left, V.ref.injEq, V.int.injEq, V.bl.injEq, V.str.injEq, V.ty.injEq, HO.tup.injEq, HO.lst.injEq, List.cons.injEq, and_true, true_and, and_assoc, exists_and_left, decide_eq_true_eq, Bool.not_eq_true', decide_eq_false_iff_not, ite_true, ite_false, if_true, if_false, Int.reduceToNat, eq_self_iff_true]
      exact ⟨_, ex, T.y_NoPool, _, rfl, _, T.n_NoPool_NoShare, _, ex, T.y_NoPool, _, rfl, _, T.n_NoPool_NoTable, _, ex, T.y_NoPool, _, rfl, _, T.n_NoPool_TooMany, by decide, fun l nl => hN _ _ ⟨same_upd nl, l, _, upd_same, by simp, by simp, rfl⟩⟩
    rintro _ H1 ⟨sm1, l, xs, hl, fx, lx, rfl⟩
    have ex1 := sm1 _ _ ex
    change tSeq _ _ _ [some (.ref e), some (.ref l)] H1
    refine seq_gen (fun σ' H1 => Same H H1 ∧ ∃ l xs, H1 l = some (.lst xs) ∧ (∀ x ∈ xs, x = .bl false) ∧ xs.length ≤ 5 ∧ σ' = [some (.ref e), some (.ref l)]) ?_ (fun N hN => ?_)
    case refine_2 =>
      simp only [L2.start, Pr, tRev, tD1, tDPop1, tSl, tNoPart, tPart, rSlL, tDIn, tDNotIn, gSub, rSetL, tLst, tDNewK, tComp, L2.stC, tFor_eq, iList, iTup, iRng1, iRng2, iZip, iEnum, iDict, iStr, tChain, tSumV, tBM, rJoin, tJoined, jNil, jLit, jInt, jStr, tRaise, tDGet, tDGet2, tDGet1, sDPut, Option.join_some, List.getElem?_nil,  tSeq, tRet, tRetN, tIfS, tTest, tB, tOp, tUn, tVar, tC, tCB, tCons, tNil, tCall, tTupS, tAsg, gName, gNil, gCons, tPar, tNext, tDrop, tAnd, tOr, tNot, tAndV, tOrV, tNotV, tIf, rI, rI0, rU, rIxTH, rIxLH, rEqT, rNeT, rInT, rEq, rNe, scal, CPow, at0, at1, at2, List.map_cons, List.map_nil, List.length_cons, List.length_nil, Nat.reduceSub, Nat.reduceAdd, Nat.zero_add, List.replicate_zero, List.reduceReplicate, List.append_nil, List.nil_append, List.cons_append, List.getElem?_cons_zero, List.getElem?_cons_succ, List.set_cons_zero, List.set_cons_succ, Option.some.injEq, exists_eq_left', exists_eq_left, V.ref.injEq, V.int.injEq, V.bl.injEq, V.str.injEq, V.ty.injEq, HO.tup.injEq, HO.lst.injEq, List.cons.injEq, and_true, true_and, and_assoc, exists_and_left, decide_eq_true_eq, Bool.not_eq_true', decide_eq_false_iff_not, ite_true, ite_false, if_true, if_false, Int.reduceToNat, eq_self_iff_true, rCat]
      refine ⟨_, ex1, T.y_NoPool, _, rfl, _, T.n_NoPool_NoEnd, _, ex1, T.y_NoPool, _, rfl, _, T.n_NoPool_NoGame, by decide, fun q nq => ⟨_, same_upd nq _ _ hl, _, upd_same, by rw [sizeLine_eq]; simp only [List.length_cons, List.length_nil]; omega, fun r nr => hN _ _ ⟨sm1.trans ((same_upd nq).trans (same_upd nr)), r, _, upd_same, fun x hx => ?_, by rw [List.length_append]; simp only [List.length_cons, List.length_nil]; omega, rfl⟩⟩⟩
      rcases List.mem_append.mp hx with h | h
      · exact fx x h
      · simpa using h
    clear ex1 hl fx lx sm1
    rintro _ H1 ⟨sm1, l, xs, hl, fx, lx, rfl⟩
    have ex1 := sm1 _ _ ex
    change tSeq _ _ _ [some (.ref e), some (.ref l)] H1
    refine seq_gen (fun σ' H1 => Same H H1 ∧ ∃ l xs, H1 l = some (.lst xs) ∧ (∀ x ∈ xs, x = .bl false) ∧ xs.length ≤ 7 ∧ σ' = [some (.ref e), some (.ref l)]) ?_ (fun N hN => ?_)
    case refine_2 =>
      simp only [L2.start, Pr, tRev, tD1, tDPop1, tSl, tNoPart, tPart, rSlL, tDIn, tDNotIn, gSub, rSetL, tLst, tDNewK, tComp, L2.stC, tFor_eq, iList, iTup, iRng1, iRng2, iZip, iEnum, iDict, iStr, tChain, tSumV, tBM, rJoin, tJoined, jNil, jLit, jInt, jStr, tRaise, tDGet, tDGet2, tDGet1, sDPut, Option.join_some, List.getElem?_nil,  tSeq, tRet, tRetN, tIfS, tTest, tB, tOp, tUn, tVar, tC, tCB, tCons, tNil, tCall, tTupS, tAsg, gName, gNil, gCons, tPar, tNext, tDrop, tAnd, tOr, tNot, tAndV, tOrV, tNotV, tIf, rI, rI0, rU, rIxTH, rIxLH, rEqT, rNeT, rInT, rEq, rNe, scal, CPow, at0, at1, at2, List.map_cons, List.map_nil, List.length_cons, List.length_nil, Nat.reduceSub, Nat.reduceAdd, Nat.zero_add, List.replicate_zero, List.reduceReplicate, List.append_nil, List.nil_append, List.cons_append, List.getElem?_cons_zero, List.getElem?_cons_succ, List.set_cons_zero, List.set_cons_succ, Option.some.injEq, exists_eq_left', exists_eq_left, V.ref.injEq, V.int.injEq, V.bl.injEq, V.str.injEq, V.ty.injEq, HO.tup.injEq, HO.lst.injEq, List.cons.injEq, and_true, true_and, and_assoc, exists_and_left, decide_eq_true_eq, Bool.not_eq_true', decide_eq_false_iff_not, ite_true, ite_false, if_true, if_false, Int.reduceToNat, eq_self_iff_true, rCat]
      refine ⟨_, ex1, T.y_NoPool, _, rfl, _, T.n_NoPool_NoWay, _, ex1, T.y_NoPool, _, rfl, _, T.n_NoPool_NoRule, by decide, fun q nq => ⟨_, same_upd nq _ _ hl, _, upd_same, by rw [sizeLine_eq]; simp only [List.length_cons, List.length_nil]; omega, fun r nr => hN _ _ ⟨sm1.trans ((same_upd nq).trans (same_upd nr)), r, _, upd_same, fun x hx => ?_, by rw [List.length_append]; simp only [List.length_cons, List.length_nil]; omega, rfl⟩⟩⟩
      rcases List.mem_append.mp hx with h | h
      · exact fx x h
      · simpa using h
    clear ex1 hl fx lx sm1
    rintro _ H1 ⟨sm1, l, xs, hl, fx, lx, rfl⟩
    have ex1 := sm1 _ _ ex
    change tSeq _ _ _ [some (.ref e), some (.ref l)] H1
    refine seq_gen (fun σ' H1 => Same H H1 ∧ ∃ l xs, H1 l = some (.lst xs) ∧ (∀ x ∈ xs, x = .bl false) ∧ xs.length ≤ 10 ∧ σ' = [some (.ref e), some (.ref l)]) ?_ (fun N hN => ?_)
    case refine_2 =>
      simp only [L2.start, Pr, tRev, tD1, tDPop1, tSl, tNoPart, tPart, rSlL, tDIn, tDNotIn, gSub, rSetL, tLst, tDNewK, tComp, L2.stC, tFor_eq, iList, iTup, iRng1, iRng2, iZip, iEnum, iDict, iStr, tChain, tSumV, tBM, rJoin, tJoined, jNil, jLit, jInt, jStr, tRaise, tDGet, tDGet2, tDGet1, sDPut, Option.join_some, List.getElem?_nil,  tSeq, tRet, tRetN, tIfS, tTest, tB, tOp, tUn, tVar, tC, tCB, tCons, tNil, tCall, tTupS, tAsg, gName, gNil, gCons, tPar, tNext, tDrop, tAnd, tOr, tNot, tAndV, tOrV, tNotV, tIf, rI, rI0, rU, rIxTH, rIxLH, rEqT, rNeT, rInT, rEq, rNe, scal, CPow, at0, at1, at2, List.map_cons, List.map_nil, List.length_cons, List.length_nil, Nat.reduceSub, Nat.reduceAdd, Nat.zero_add, List.replicate_zero, List.reduceReplicate, List.append_nil, List.nil_append, List.cons_append, List.getElem?_cons_zero, List.getElem?_cons_succ, List.set_cons_zero, List.set_cons_succ, Option.some.injEq, exists_eq_left', exists_eq_left, V.ref.injEq, V.int.injEq, V.bl.injEq, V.str.injEq, V.ty.injEq, HO.tup.injEq, HO.lst.injEq, List.cons.injEq, and_true, true_and, and_assoc, exists_and_left, decide_eq_true_eq, Bool.not_eq_true', decide_eq_false_iff_not, ite_true, ite_false, if_true, if_false, Int.reduceToNat, eq_self_iff_true, rCat]
      refine ⟨_, ex1, T.y_NoPool, _, rfl, _, T.n_NoPool_NoStep, _, ex1, T.y_NoPool, _, rfl, _, T.n_NoPool_NoPlay, _, ex1, T.y_NoPool, _, rfl, _, T.n_NoPool_NoRow, by decide, fun q nq => ⟨_, same_upd nq _ _ hl, _, upd_same, by rw [sizeLine_eq]; simp only [List.length_cons, List.length_nil]; omega, fun r nr => hN _ _ ⟨sm1.trans ((same_upd nq).trans (same_upd nr)), r, _, upd_same, fun x hx => ?_, by rw [List.length_append]; simp only [List.length_cons, List.length_nil]; omega, rfl⟩⟩⟩
      rcases List.mem_append.mp hx with h | h
      · exact fx x h
      · simpa using h
    clear ex1 hl fx lx sm1
    rintro _ H1 ⟨sm1, l, xs, hl, fx, lx, rfl⟩
    have ex1 := sm1 _ _ ex
    simp only [L2.start, Pr, tRev, tD1, tDPop1, tSl, tNoPart, tPart, rSlL, tDIn, tDNotIn, gSub, rSetL, tLst, tDNewK, tComp, L2.stC, tFor_eq, iList, iTup, iRng1, iRng2, iZip, iEnum, iDict, iStr, tChain, tSumV, tBM, rJoin, tJoined, jNil, jLit, jInt, jStr, tRaise, tDGet, tDGet2, tDGet1, sDPut, Option.join_some, List.getElem?_nil,  tSeq, tRet, tRetN, tIfS, tTest, tB, tOp, tUn, tVar, tC, tCB, tCons, tNil, tCall, tTupS, tAsg, gName, gNil, gCons, tPar, tNext, tDrop, tAnd, tOr, tNot, tAndV, tOrV, tNotV, tIf, rI, rI0, rU, rIxTH, rIxLH, rEqT, rNeT, rInT, rEq, rNe, scal, CPow, at0, at1, at2, List.map_cons, List.map_nil, List.length_cons, List.length_nil, Nat.reduceSub, Nat.reduceAdd, Nat.zero_add, List.replicate_zero, List.reduceReplicate, List.append_nil, List.nil_append, List.cons_append, List.getElem?_cons_zero, List.getElem?_cons_succ, List.set_cons_zero, List.set_cons_succ, Option.some.injEq, exists_eq_left', exists_eq_left, V.ref.injEq, V.int.injEq, V.bl.injEq, V.str.injEq, V.ty.injEq, HO.tup.injEq, HO.lst.injEq, List.cons.injEq, and_true, true_and, and_assoc, exists_and_left, decide_eq_true_eq, Bool.not_eq_true', decide_eq_false_iff_not, ite_true, ite_false, if_true, if_false, Int.reduceToNat, eq_self_iff_true, rIn]
    refine ⟨_, ex1, T.y_NoPool, _, rfl, _, T.i_NoPool_NoPool, ?_⟩
    rw [if_pos rfl]
    refine ⟨_, ex1, T.y_NoPool, _, rfl, _, T.i_NoPool_ValueError, ?_⟩
    rw [if_pos rfl]
    have e : inV (V.bl true) xs = false := List.any_eq_false.mpr fun y hy => by rw [fx y hy]; decide
    have fl : xs.all flatV = true := List.all_eq_true.mpr fun y hy => by rw [fx y hy]; rfl
    refine ⟨xs, .inl (SqL.of hl), rfl, fl, ?_⟩
    rw [e]
    exact kk _ sm1
theorem sc__law_right : FnScope ["_law_thing", "_law_due", "_law_found", "_law_refused", "_law_error"] ["_law_thing", "_law_due"] (defScope (top 40)) := ⟨rfl, rfl, rfl, by decide +kernel, rfl, by decide +kernel, by decide +kernel⟩
theorem ok_rt (T : Txt K mg w.params q_LuckError q_NoShare q_NoTable q_NoPool q_NoEnd q_TooMany q_NoGame q_NoWay q_NoRule q_NoStep q_NoPlay q_NoRow q_OF_MANY q_OF_ONE) : Cal P w K mg base (CX1 P w) 8 "_law_right" ["_law_thing", "_law_due"] (spRt K) := by
  have c_read_pool : Cal P w K mg base (CX1 P w) 7 "read_pool" ["text"] (spRd K q_NoPool) := ok_rd T
  have cm__law_class : CalM P w K mg base (CX1 P w) 1 "_law_class" ["_law_error"] (spCls q_NoPool) := ok_cls T
  refine T.d__law_right.cal (fun _ _ _ _ _ _ us hl => match us, hl with | [_, _], _ => rfl) fun f fd F => F.okC sc__law_right (fun vs H Q E h => ?_) (fun cdv A outer s H vs Q E hr h => ?_)
  · obtain ⟨_, _, rfl, _⟩ := h; rfl
  · obtain ⟨v, d, rfl, h, kk⟩ := h
    have nd := sc__law_right.nd
    refine ⟨_, (pss_cons (ps_set (i := 2) nd rfl (Or.inl rfl) pe_non)
    (pss_cons (ps_set (i := 3) nd rfl (Or.inl rfl) pe_bl)
    (pss_cons (ps_tryA (i := 4) (j := 2) c_read_pool (hr.mono (by decide)) rfl (pa_cons (pv 0) pa_nil (se rfl)) rfl rfl rfl T.k_LuckError nd rfl rfl rfl rfl (fun ad => (pss_one (ps_set (i := 3) nd rfl (Or.inl rfl) (pe_calM cm__law_class (hr.mono (by decide)) rfl strictP (pa_cons (pv 4) pa_nil (se rfl)) (he := se rfl) (hpl := na rfl))))) (he := se rfl) (hpl := na rfl))
    (pss_cons (ps_if (pt_cmpR op_isN (pv 1) pe_non (nomark _)) (pss_one (ps_ret (pe_and (pe_cmpR op_isN (pv 2) pe_non (nomark _)) (pe_one (pv 3)))))
      pss_nil)
    (pss_one (ps_ret (pe_and (pe_callB (call_isTK (K := K)) (by rfl) T.z_isinstance rfl (pa_cons (pv 2) (pa_cons (pe_bltn (v := V.ty "list") rfl T.z_list rfl rfl) pa_nil (se rfl)) (se rfl)) (he := se rfl) (hpl := na rfl)) (pe_one (pe_cmpR (op_eqD hr.units) (pv 2) (pv 1) (nomark _)))))))))), ?_⟩
    change tSeq _ _ _ [some v, some d, none, none, none] H
    refine seq_gen (fun σ' H1 => H = H1 ∧ σ' = [some v, some d, some .non, none, none]) ?_ (fun N hN => ?_)
    case refine_2 =>
      simp only [L2.start, Pr, tRev, tD1, tDPop1, tSl, tNoPart, tPart, rSlL, tDIn, tDNotIn, gSub, rSetL, tLst, tDNewK, tComp, L2.stC, tFor_eq, iList, iTup, iRng1, iRng2, iZip, iEnum, iDict, iStr, tChain, tSumV, tBM, rJoin, tJoined, jNil, jLit, jInt, jStr, tRaise, tDGet, tDGet2, tDGet1, sDPut, Option.join_some, List.getElem?_nil,  tSeq, tRet, tRetN, tIfS, tTest, tB, tOp, tUn, tVar, tC, tCB, tCons, tNil, tCall, tTupS, tAsg, gName, gNil, gCons, tPar, tNext, tDrop, tAnd, tOr, tNot, tAndV, tOrV, tNotV, tIf, rI, rI0, rU, rIxTH, rIxLH, rEqT, rNeT, rInT, rEq, rNe, scal, CPow, at0, at1, at2, List.map_cons, List.map_nil, List.length_cons, List.length_nil, Nat.reduceSub, Nat.reduceAdd, Nat.zero_add, List.replicate_zero, List.reduceReplicate, List.append_nil, List.nil_append, List.cons_append, List.getElem?_cons_zero, List.getElem?_cons_succ, List.set_cons_zero, List.set_cons_succ, Option.some.injEq, exists_eq_left', exists_eq_left, V.ref.injEq, V.int.injEq, V.bl.injEq, V.str.injEq, V.ty.injEq, HO.tup.injEq, HO.lst.injEq, List.cons.injEq, and_true, true_and, and_assoc, exists_and_left, decide_eq_true_eq, Bool.not_eq_true', decide_eq_false_iff_not, ite_true, ite_false, if_true, if_false, Int.reduceToNat, eq_self_iff_true]
      exact hN _ _ ⟨rfl, rfl⟩
    rintro _ _ ⟨rfl, rfl⟩
    change tSeq _ _ _ [some v, some d, some .non, none, none] H
    refine seq_gen (fun σ' H1 => H = H1 ∧ σ' = [some v, some d, some .non, some (.bl false), none]) ?_ (fun N hN => ?_)
    case refine_2 =>
      simp only [L2.start, Pr, tRev, tD1, tDPop1, tSl, tNoPart, tPart, rSlL, tDIn, tDNotIn, gSub, rSetL, tLst, tDNewK, tComp, L2.stC, tFor_eq, iList, iTup, iRng1, iRng2, iZip, iEnum, iDict, iStr, tChain, tSumV, tBM, rJoin, tJoined, jNil, jLit, jInt, jStr, tRaise, tDGet, tDGet2, tDGet1, sDPut, Option.join_some, List.getElem?_nil,  tSeq, tRet, tRetN, tIfS, tTest, tB, tOp, tUn, tVar, tC, tCB, tCons, tNil, tCall, tTupS, tAsg, gName, gNil, gCons, tPar, tNext, tDrop, tAnd, tOr, tNot, tAndV, tOrV, tNotV, tIf, rI, rI0, rU, rIxTH, rIxLH, rEqT, rNeT, rInT, rEq, rNe, scal, CPow, at0, at1, at2, List.map_cons, List.map_nil, List.length_cons, List.length_nil, Nat.reduceSub, Nat.reduceAdd, Nat.zero_add, List.replicate_zero, List.reduceReplicate, List.append_nil, List.nil_append, List.cons_append, List.getElem?_cons_zero, List.getElem?_cons_succ, List.set_cons_zero, List.set_cons_succ, Option.some.injEq, exists_eq_left', exists_eq_left, V.ref.injEq, V.int.injEq, V.bl.injEq, V.str.injEq, V.ty.injEq, HO.tup.injEq, HO.lst.injEq, List.cons.injEq, and_true, true_and, and_assoc, exists_and_left, decide_eq_true_eq, Bool.not_eq_true', decide_eq_false_iff_not, ite_true, ite_false, if_true, if_false, Int.reduceToNat, eq_self_iff_true]
      exact hN _ _ ⟨rfl, rfl⟩
    rintro _ _ ⟨rfl, rfl⟩
    change tSeq _ _ _ [some v, some d, some .non, some (.bl false), none] H
    refine seq_gen (fun σ' H1 => Same H H1 ∧ ((d = .non ∧ σ' = [some v, some d, some .non, some (.bl true), none]) ∨ ∃ rs p q, d = .ref p ∧ Rep H1 (poolD rs) (.ref p) ∧ Rep H1 (poolD rs) (.ref q) ∧ σ' = [some v, some d, some (.ref q), some (.bl false), none])) ?_ (fun N hN => ?_)
    case refine_2 =>
      simp only [L2.start, Pr, tRev, tD1, tDPop1, tSl, tNoPart, tPart, rSlL, tDIn, tDNotIn, gSub, rSetL, tLst, tDNewK, tComp, L2.stC, tFor_eq, iList, iTup, iRng1, iRng2, iZip, iEnum, iDict, iStr, tChain, tSumV, tBM, rJoin, tJoined, jNil, jLit, jInt, jStr, tRaise, tDGet, tDGet2, tDGet1, sDPut, Option.join_some, List.getElem?_nil,  tSeq, tRet, tRetN, tIfS, tTest, tB, tOp, tUn, tVar, tC, tCB, tCons, tNil, tCall, tTupS, tAsg, gName, gNil, gCons, tPar, tNext, tDrop, tAnd, tOr, tNot, tAndV, tOrV, tNotV, tIf, rI, rI0, rU, rIxTH, rIxLH, rEqT, rNeT, rInT, rEq, rNe, scal, CPow, at0, at1, at2, List.map_cons, List.map_nil, List.length_cons, List.length_nil, Nat.reduceSub, Nat.reduceAdd, Nat.zero_add, List.replicate_zero, List.reduceReplicate, List.append_nil, List.nil_append, List.cons_append, List.getElem?_cons_zero, List.getElem?_cons_succ, List.set_cons_zero, List.set_cons_succ, Option.some.injEq, exists_eq_left', exists_eq_left, V.ref.injEq, V.int.injEq, V.bl.injEq, V.str.injEq, V.ty.injEq, HO.tup.injEq, HO.lst.injEq, List.cons.injEq, and_true, true_and, and_assoc, exists_and_left, decide_eq_true_eq, Bool.not_eq_true', decide_eq_false_iff_not, ite_true, ite_false, if_true, if_false, Int.reduceToNat, eq_self_iff_true, tTryA, spRd, xTry, spCls]
      rcases h with ⟨z, rfl, tz, h⟩ | ⟨t, ty, kt, rfl⟩
      · refine .inl ⟨z, rfl, tz, fun d0 H1 s1 => ⟨T.e_NoPool_LuckError, fun ad nad => ?_⟩, fun rs d0 q H1 s1 e => ?_⟩
        · rcases h with ⟨_, rfl⟩ | ⟨rs, p, e, _⟩
          · exact ⟨upd_same, fun H2 s2 => hN _ _ ⟨s1.trans ((same_upd nad).trans s2), .inl ⟨rfl, rfl⟩⟩⟩
          · rw [d0] at e; cases e
        · rcases h with ⟨e0, _⟩ | ⟨rs2, p, e0, rfl, rp⟩
          · rw [d0] at e0; cases e0
          · rw [d0] at e0
            cases e0
            exact hN _ _ ⟨s1, .inr ⟨rs, p, q, rfl, rp.mono s1, e, rfl⟩⟩
      · exact .inr ⟨t, ty, kt, T.e_NoPool_LuckError, fun ad nad => ⟨upd_same, fun H2 s2 => hN _ _ ⟨(same_upd nad).trans s2, .inl ⟨rfl, rfl⟩⟩⟩⟩
    rintro _ H1 ⟨sm1, ⟨rfl, rfl⟩ | ⟨rs, p, q, rfl, rp, rq, rfl⟩⟩
    · simp only [L2.start, Pr, tRev, tD1, tDPop1, tSl, tNoPart, tPart, rSlL, tDIn, tDNotIn, gSub, rSetL, tLst, tDNewK, tComp, L2.stC, tFor_eq, iList, iTup, iRng1, iRng2, iZip, iEnum, iDict, iStr, tChain, tSumV, tBM, rJoin, tJoined, jNil, jLit, jInt, jStr, tRaise, tDGet, tDGet2, tDGet1, sDPut, Option.join_some, List.getElem?_nil,  tSeq, tRet, tRetN, tIfS, tTest, tB, tOp, tUn, tVar, tC, tCB, tCons, tNil, tCall, tTupS, tAsg, gName, gNil, gCons, tPar, tNext, tDrop, tAnd, tOr, tNot, tAndV, tOrV, tNotV, tIf, rI, rI0, rU, rIxTH, rIxLH, rEqT, rNeT, rInT, rEq, rNe, scal, CPow, at0, at1, at2, List.map_cons, List.map_nil, List.length_cons, List.length_nil, Nat.reduceSub, Nat.reduceAdd, Nat.zero_add, List.replicate_zero, List.reduceReplicate, List.append_nil, List.nil_append, List.cons_append, List.getElem?_cons_zero, List.getElem?_cons_succ, List.set_cons_zero, List.set_cons_succ, Option.some.injEq, exists_eq_left', exists_eq_left, V.ref.injEq, V.int.injEq, V.bl.injEq, V.str.injEq, V.ty.injEq, HO.tup.injEq, HO.lst.injEq, List.cons.injEq, and_true, true_and, and_assoc, exists_and_left, decide_eq_true_eq, Bool.not_eq_true', decide_eq_false_iff_not, ite_true, ite_false, if_true, if_false, Int.reduceToNat, eq_self_iff_true]
      exact kk _ sm1
    · obtain ⟨_, xs, e, hq, _⟩ := rep_lst.mp rq
      cases e
      simp only [L2.start, Pr, tRev, tD1, tDPop1, tSl, tNoPart, tPart, rSlL, tDIn, tDNotIn, gSub, rSetL, tLst, tDNewK, tComp, L2.stC, tFor_eq, iList, iTup, iRng1, iRng2, iZip, iEnum, iDict, iStr, tChain, tSumV, tBM, rJoin, tJoined, jNil, jLit, jInt, jStr, tRaise, tDGet, tDGet2, tDGet1, sDPut, Option.join_some, List.getElem?_nil,  tSeq, tRet, tRetN, tIfS, tTest, tB, tOp, tUn, tVar, tC, tCB, tCons, tNil, tCall, tTupS, tAsg, gName, gNil, gCons, tPar, tNext, tDrop, tAnd, tOr, tNot, tAndV, tOrV, tNotV, tIf, rI, rI0, rU, rIxTH, rIxLH, rEqT, rNeT, rInT, rEq, rNe, scal, CPow, at0, at1, at2, List.map_cons, List.map_nil, List.length_cons, List.length_nil, Nat.reduceSub, Nat.reduceAdd, Nat.zero_add, List.replicate_zero, List.reduceReplicate, List.append_nil, List.nil_append, List.cons_append, List.getElem?_cons_zero, List.getElem?_cons_succ, List.set_cons_zero, List.set_cons_succ, Option.some.injEq, exists_eq_left', exists_eq_left, V.ref.injEq, V.int.injEq, V.bl.injEq, V.str.injEq, V.ty.injEq, HO.tup.injEq, HO.lst.injEq, List.cons.injEq, and_true, true_and, and_assoc, exists_and_left, decide_eq_true_eq, Bool.not_eq_true', decide_eq_false_iff_not, ite_true, ite_false, if_true, if_false, Int.reduceToNat, eq_self_iff_true, rEqD]
      rw [if_neg (by simp)]
      refine ⟨_, TyOf.lst hq, _, kit_ll, ?_⟩
      rw [if_pos rfl]
      exact ⟨_, rq, rp, ⟨_, rfl⟩, depPool rs, kk _ sm1⟩
theorem sc_law : FnScope ["_law_script", "_law_text", "_law_more", "_law_thing"] ["_law_script"] (defScope (top 41)) := ⟨rfl, rfl, rfl, by decide +kernel, rfl, by decide +kernel, by decide +kernel⟩
theorem ok_law (T : Txt K mg w.params q_LuckError q_NoShare q_NoTable q_NoPool q_NoEnd q_TooMany q_NoGame q_NoWay q_NoRule q_NoStep q_NoPlay q_NoRow q_OF_MANY q_OF_ONE) {f : Addr} {fd : FuncData} (F : Fun K "law" "law" (top 41) f fd) : FnOk P w K mg base (CX1 P w) 9 f fd ["_law_script"] (spLaw K) := by
  have c__law_at : Cal P w K mg base (CX1 P w) 1 "_law_at" ["_law_script", "_law_k"] (spAt K) := ok_at T
  have c__law_near : Cal P w K mg base (CX1 P w) 1 "_law_near" ["_law_cell"] spNr := ok_nr T
  have c__law_good : Cal P w K mg base (CX1 P w) 1 "_law_good" ["_law_one", "_law_two"] spGd := ok_gd T
  have c__law_bent : Cal P w K mg base (CX1 P w) 1 "_law_bent" ["_law_text", "_law_cell"] spBt := ok_bt T
  have c__law_pool : Cal P w K mg base (CX1 P w) 4 "_law_pool" ["_law_text"] spLPl := ok_lpl T
  have c__law_right : Cal P w K mg base (CX1 P w) 8 "_law_right" ["_law_thing", "_law_due"] (spRt K) := ok_rt T
  refine F.okC sc_law (fun vs H Q E h => ?_) (fun cdv A outer s H vs Q E hr h => ?_)
  · obtain ⟨_, _, rfl, _⟩ := h; rfl
  · obtain ⟨sa, ns, rfl, hS, hlen, kk⟩ := h
    have nd := sc_law.nd
    refine ⟨_, (pss_cons (ps_set (i := 1) nd rfl (Or.inl rfl) (pe_cal c__law_near (hr.mono (by decide)) rfl strictP.pass (pa_cons (pe_cal c__law_at (hr.mono (by decide)) rfl strictP.pass (pa_cons (pv 0) (pa_cons pe_int pa_nil (se rfl)) (se rfl)) (he := se rfl) (hpl := na rfl)) pa_nil (se rfl)) (he := se rfl) (hpl := na rfl)))
    (pss_cons (ps_if (pt_cmpR op_eq (pe_op op_modB (pe_cal c__law_at (hr.mono (by decide)) rfl strictP.pass (pa_cons (pv 0) (pa_cons pe_int pa_nil (se rfl)) (se rfl)) (he := se rfl) (hpl := na rfl)) pe_int) pe_int (nomark _)) (pss_one (ps_set (i := 1) nd rfl (Or.inl rfl) (pe_cal c__law_bent (hr.mono (by decide)) rfl strictP.pass (pa_cons (pe_cal c__law_good (hr.mono (by decide)) rfl strictP.pass (pa_cons (pe_cal c__law_at (hr.mono (by decide)) rfl strictP.pass (pa_cons (pv 0) (pa_cons pe_int pa_nil (se rfl)) (se rfl)) (he := se rfl) (hpl := na rfl)) (pa_cons (pe_cal c__law_at (hr.mono (by decide)) rfl strictP.pass (pa_cons (pv 0) (pa_cons pe_int pa_nil (se rfl)) (se rfl)) (he := se rfl) (hpl := na rfl)) pa_nil (se rfl)) (se rfl)) (he := se rfl) (hpl := na rfl)) (pa_cons (pe_cal c__law_at (hr.mono (by decide)) rfl strictP.pass (pa_cons (pv 0) (pa_cons pe_int pa_nil (se rfl)) (se rfl)) (he := se rfl) (hpl := na rfl)) pa_nil (se rfl)) (se rfl)) (he := se rfl) (hpl := na rfl))))
      pss_nil)
    (pss_cons (ps_if (pt_not (pt_val (pe_cal c__law_right (hr.mono (by decide)) rfl strictP.pass (pa_cons (pv 1) (pa_cons (pe_cal c__law_pool (hr.mono (by decide)) rfl strictP.pass (pa_cons (pv 1) pa_nil (se rfl)) (he := se rfl) (hpl := na rfl)) pa_nil (se rfl)) (se rfl)) (he := se rfl) (hpl := na rfl)))) (pss_one (ps_ret pe_bl))
      pss_nil)
    (pss_cons (ps_set (i := 2) nd rfl (Or.inl rfl) (pe_cal c__law_bent (hr.mono (by decide)) rfl strictP.pass (pa_cons (pe_cal c__law_good (hr.mono (by decide)) rfl strictP.pass (pa_cons (pe_cal c__law_at (hr.mono (by decide)) rfl strictP.pass (pa_cons (pv 0) (pa_cons pe_int pa_nil (se rfl)) (se rfl)) (he := se rfl) (hpl := na rfl)) (pa_cons (pe_cal c__law_at (hr.mono (by decide)) rfl strictP.pass (pa_cons (pv 0) (pa_cons pe_int pa_nil (se rfl)) (se rfl)) (he := se rfl) (hpl := na rfl)) pa_nil (se rfl)) (se rfl)) (he := se rfl) (hpl := na rfl)) (pa_cons (pe_cal c__law_at (hr.mono (by decide)) rfl strictP.pass (pa_cons (pv 0) (pa_cons pe_int pa_nil (se rfl)) (se rfl)) (he := se rfl) (hpl := na rfl)) pa_nil (se rfl)) (se rfl)) (he := se rfl) (hpl := na rfl)))
    (pss_cons (ps_set (i := 2) nd rfl (Or.inl rfl) (pe_cal c__law_bent (hr.mono (by decide)) rfl strictP.pass (pa_cons (pv 2) (pa_cons (pe_cal c__law_at (hr.mono (by decide)) rfl strictP.pass (pa_cons (pv 0) (pa_cons pe_int pa_nil (se rfl)) (se rfl)) (he := se rfl) (hpl := na rfl)) pa_nil (se rfl)) (se rfl)) (he := se rfl) (hpl := na rfl)))
    (pss_cons (ps_if (pt_not (pt_val (pe_cal c__law_right (hr.mono (by decide)) rfl strictP.pass (pa_cons (pv 2) (pa_cons (pe_cal c__law_pool (hr.mono (by decide)) rfl strictP.pass (pa_cons (pv 2) pa_nil (se rfl)) (he := se rfl) (hpl := na rfl)) pa_nil (se rfl)) (se rfl)) (he := se rfl) (hpl := na rfl)))) (pss_one (ps_ret pe_bl))
      pss_nil)
    (pss_cons (ps_set (i := 3) nd rfl (Or.inl rfl) (pe_ix ix_listH (pe_lst (pa_cons pe_non (pa_cons pe_int (pa_cons pe_bl (pa_cons (pe_lst (pa_cons pe_str pa_nil (se rfl))) (pa_cons (pe_tupS (pa_cons pe_str (pa_cons pe_int pa_nil (se rfl)) (se rfl))) (pa_cons (pe_d1 pe_str pe_int) (pa_cons (pe_lst pa_nil) (pa_cons pe_bl pa_nil (se rfl)) (se rfl)) (se rfl)) (se rfl)) (se rfl)) (se rfl)) (se rfl)) (se rfl))) (pe_op op_modB (pe_cal c__law_at (hr.mono (by decide)) rfl strictP.pass (pa_cons (pv 0) (pa_cons pe_int pa_nil (se rfl)) (se rfl)) (he := se rfl) (hpl := na rfl)) pe_int) (fun _ _ => rfl)))
    (pss_one (ps_ret (pe_and (pe_cal c__law_right (hr.mono (by decide)) rfl strictP.pass (pa_cons (pv 3) (pa_cons pe_non pa_nil (se rfl)) (se rfl)) (he := se rfl) (hpl := na rfl)) (pe_one (pe_cal c__law_right (hr.mono (by decide)) rfl strictP.pass (pa_cons pe_str (pa_cons (pe_lst (pa_cons (pe_tupS (pa_cons pe_str (pa_cons pe_int (pa_cons pe_int (pa_cons pe_int pa_nil (se rfl)) (se rfl)) (se rfl)) (se rfl))) (pa_cons (pe_tupS (pa_cons pe_str (pa_cons pe_int pa_nil (se rfl)) (se rfl))) pa_nil (se rfl)) (se rfl))) pa_nil (se rfl)) (se rfl)) (he := se rfl) (hpl := na rfl))))))))))))), ?_⟩
    have up : ∀ {n : Nat} {z : Str}, Tx n z → n ≤ 100000 → Tx 100000 z := fun h k => ⟨h.1, Nat.le_trans h.2 k⟩
    change tSeq _ _ _ [some (.ref sa), none, none, none] H
    refine seq_gen (fun σ' H1 => Same H H1 ∧ ∃ z, Tx 1000 z ∧ σ' = [some (.ref sa), some (.str z), none, none]) ?_ (fun N hN => ?_)
    case refine_2 =>
      simp only [L2.start, Pr, tRev, tD1, tDPop1, tSl, tNoPart, tPart, rSlL, tDIn, tDNotIn, gSub, rSetL, tLst, tDNewK, tComp, L2.stC, tFor_eq, iList, iTup, iRng1, iRng2, iZip, iEnum, iDict, iStr, tChain, tSumV, tBM, rJoin, tJoined, jNil, jLit, jInt, jStr, tRaise, tDGet, tDGet2, tDGet1, sDPut, Option.join_some, List.getElem?_nil,  tSeq, tRet, tRetN, tIfS, tTest, tB, tOp, tUn, tVar, tC, tCB, tCons, tNil, tCall, tTupS, tAsg, gName, gNil, gCons, tPar, tNext, tDrop, tAnd, tOr, tNot, tAndV, tOrV, tNotV, tIf, rI, rI0, rU, rIxTH, rIxLH, rEqT, rNeT, rInT, rEq, rNe, scal, CPow, at0, at1, at2, List.map_cons, List.map_nil, List.length_cons, List.length_nil, Nat.reduceSub, Nat.reduceAdd, Nat.zero_add, List.replicate_zero, List.reduceReplicate, List.append_nil, List.nil_append, List.cons_append, List.getElem?_cons_zero, List.getElem?_cons_succ, List.set_cons_zero, List.set_cons_succ, Option.some.injEq, exists_eq_left', exists_eq_left, V.ref.injEq, V.int.injEq, V.bl.injEq, V.str.injEq, V.ty.injEq, HO.tup.injEq, HO.lst.injEq, List.cons.injEq, and_true, true_and, and_assoc, exists_and_left, decide_eq_true_eq, Bool.not_eq_true', decide_eq_false_iff_not, ite_true, ite_false, if_true, if_false, Int.reduceToNat, eq_self_iff_true, spAt, spNr]
      exact ⟨ns, hS, by decide, by decide, fun n z H1 s1 tz => hN _ _ ⟨s1, z, tz, rfl⟩⟩
    rintro _ H1 ⟨sm1, z, tz, rfl⟩
    have hS1 := sm1.seq hS
    change tSeq _ _ _ [some (.ref sa), some (.str z), none, none] H1
    refine seq_gen (fun σ' H2 => Same H1 H2 ∧ ∃ z, Tx 1000 z ∧ σ' = [some (.ref sa), some (.str z), none, none]) ?_ (fun N hN => ?_)
    case refine_2 =>
      simp only [L2.start, Pr, tRev, tD1, tDPop1, tSl, tNoPart, tPart, rSlL, tDIn, tDNotIn, gSub, rSetL, tLst, tDNewK, tComp, L2.stC, tFor_eq, iList, iTup, iRng1, iRng2, iZip, iEnum, iDict, iStr, tChain, tSumV, tBM, rJoin, tJoined, jNil, jLit, jInt, jStr, tRaise, tDGet, tDGet2, tDGet1, sDPut, Option.join_some, List.getElem?_nil,  tSeq, tRet, tRetN, tIfS, tTest, tB, tOp, tUn, tVar, tC, tCB, tCons, tNil, tCall, tTupS, tAsg, gName, gNil, gCons, tPar, tNext, tDrop, tAnd, tOr, tNot, tAndV, tOrV, tNotV, tIf, rI, rI0, rU, rIxTH, rIxLH, rEqT, rNeT, rInT, rEq, rNe, scal, CPow, at0, at1, at2, List.map_cons, List.map_nil, List.length_cons, List.length_nil, Nat.reduceSub, Nat.reduceAdd, Nat.zero_add, List.replicate_zero, List.reduceReplicate, List.append_nil, List.nil_append, List.cons_append, List.getElem?_cons_zero, List.getElem?_cons_succ, List.set_cons_zero, List.set_cons_succ, Option.some.injEq, exists_eq_left', exists_eq_left, V.ref.injEq, V.int.injEq, V.bl.injEq, V.str.injEq, V.ty.injEq, HO.tup.injEq, HO.lst.injEq, List.cons.injEq, and_true, true_and, and_assoc, exists_and_left, decide_eq_true_eq, Bool.not_eq_true', decide_eq_false_iff_not, ite_true, ite_false, if_true, if_false, Int.reduceToNat, eq_self_iff_true, spAt, spGd, spBt]
      refine ⟨ns, hS1, by decide, by decide, fun n => ⟨by decide, ite2 (fun c => ?_) (fun c => hN _ _ ⟨Same.refl _, z, tz, rfl⟩)⟩⟩
      exact ⟨ns, hS1, by decide, by decide, fun n1 => ⟨ns, hS1, by decide, by decide, fun n2 z1 H2 s2 t1 => ⟨ns, s2.seq hS1, by decide, by decide, fun n3 => ⟨⟨t1.1, by have := t1.2; omega⟩, fun z2 H3 s3 t2 => hN _ _ ⟨s2.trans s3, z2, ⟨t2.1, by have := t1.2; have := t2.2; omega⟩, rfl⟩⟩⟩⟩⟩
    clear tz z
    rintro _ H2 ⟨sm2, z, tz, rfl⟩
    have hS2 := sm2.seq hS1
    change tSeq _ _ _ [some (.ref sa), some (.str z), none, none] H2
    refine seq_gen (fun σ' H3 => Same H2 H3 ∧ σ' = [some (.ref sa), some (.str z), none, none]) ?_ (fun N hN => ?_)
    case refine_2 =>
      simp only [L2.start, Pr, tRev, tD1, tDPop1, tSl, tNoPart, tPart, rSlL, tDIn, tDNotIn, gSub, rSetL, tLst, tDNewK, tComp, L2.stC, tFor_eq, iList, iTup, iRng1, iRng2, iZip, iEnum, iDict, iStr, tChain, tSumV, tBM, rJoin, tJoined, jNil, jLit, jInt, jStr, tRaise, tDGet, tDGet2, tDGet1, sDPut, Option.join_some, List.getElem?_nil,  tSeq, tRet, tRetN, tIfS, tTest, tB, tOp, tUn, tVar, tC, tCB, tCons, tNil, tCall, tTupS, tAsg, gName, gNil, gCons, tPar, tNext, tDrop, tAnd, tOr, tNot, tAndV, tOrV, tNotV, tIf, rI, rI0, rU, rIxTH, rIxLH, rEqT, rNeT, rInT, rEq, rNe, scal, CPow, at0, at1, at2, List.map_cons, List.map_nil, List.length_cons, List.length_nil, Nat.reduceSub, Nat.reduceAdd, Nat.zero_add, List.replicate_zero, List.reduceReplicate, List.append_nil, List.nil_append, List.cons_append, List.getElem?_cons_zero, List.getElem?_cons_succ, List.set_cons_zero, List.set_cons_succ, Option.some.injEq, exists_eq_left', exists_eq_left, V.ref.injEq, V.int.injEq, V.bl.injEq, V.str.injEq, V.ty.injEq, HO.tup.injEq, HO.lst.injEq, List.cons.injEq, and_true, true_and, and_assoc, exists_and_left, decide_eq_true_eq, Bool.not_eq_true', decide_eq_false_iff_not, ite_true, ite_false, if_true, if_false, Int.reduceToNat, eq_self_iff_true, spLPl, spRt]
      refine ⟨up tz (by decide), fun d0 H3 s3 => ⟨.inl ⟨up tz (by decide), .inl d0⟩, fun H4 s4 => ?_⟩, fun rs d0 p H3 s3 rp => ⟨.inl ⟨up tz (by decide), .inr ⟨rs, d0, rp⟩⟩, fun H4 s4 => ?_⟩⟩
      · rw [if_neg (by decide)]
        exact hN _ _ ⟨s3.trans s4, rfl⟩
      · rw [if_neg (by decide)]
        exact hN _ _ ⟨s3.trans s4, rfl⟩
    rintro _ H3 ⟨sm3, rfl⟩
    have hS3 := sm3.seq hS2
    change tSeq _ _ _ [some (.ref sa), some (.str z), none, none] H3
    refine seq_gen (fun σ' H4 => Same H3 H4 ∧ ∃ y, Tx 300 y ∧ σ' = [some (.ref sa), some (.str z), some (.str y), none]) ?_ (fun N hN => ?_)
    case refine_2 =>
      simp only [L2.start, Pr, tRev, tD1, tDPop1, tSl, tNoPart, tPart, rSlL, tDIn, tDNotIn, gSub, rSetL, tLst, tDNewK, tComp, L2.stC, tFor_eq, iList, iTup, iRng1, iRng2, iZip, iEnum, iDict, iStr, tChain, tSumV, tBM, rJoin, tJoined, jNil, jLit, jInt, jStr, tRaise, tDGet, tDGet2, tDGet1, sDPut, Option.join_some, List.getElem?_nil,  tSeq, tRet, tRetN, tIfS, tTest, tB, tOp, tUn, tVar, tC, tCB, tCons, tNil, tCall, tTupS, tAsg, gName, gNil, gCons, tPar, tNext, tDrop, tAnd, tOr, tNot, tAndV, tOrV, tNotV, tIf, rI, rI0, rU, rIxTH, rIxLH, rEqT, rNeT, rInT, rEq, rNe, scal, CPow, at0, at1, at2, List.map_cons, List.map_nil, List.length_cons, List.length_nil, Nat.reduceSub, Nat.reduceAdd, Nat.zero_add, List.replicate_zero, List.reduceReplicate, List.append_nil, List.nil_append, List.cons_append, List.getElem?_cons_zero, List.getElem?_cons_succ, List.set_cons_zero, List.set_cons_succ, Option.some.injEq, exists_eq_left', exists_eq_left, V.ref.injEq, V.int.injEq, V.bl.injEq, V.str.injEq, V.ty.injEq, HO.tup.injEq, HO.lst.injEq, List.cons.injEq, and_true, true_and, and_assoc, exists_and_left, decide_eq_true_eq, Bool.not_eq_true', decide_eq_false_iff_not, ite_true, ite_false, if_true, if_false, Int.reduceToNat, eq_self_iff_true, spAt, spGd, spBt]
      exact ⟨ns, hS3, by decide, by decide, fun n1 => ⟨ns, hS3, by decide, by decide, fun n2 z1 H2 s2 t1 => ⟨ns, s2.seq hS3, by decide, by decide, fun n3 => ⟨⟨t1.1, by have := t1.2; omega⟩, fun z2 H3 s3 t2 => hN _ _ ⟨s2.trans s3, z2, ⟨t2.1, by have := t1.2; have := t2.2; omega⟩, rfl⟩⟩⟩⟩⟩
    rintro _ H4 ⟨sm4, y, ty, rfl⟩
    have hS4 := sm4.seq hS3
    change tSeq _ _ _ [some (.ref sa), some (.str z), some (.str y), none] H4
    refine seq_gen (fun σ' H5 => Same H4 H5 ∧ ∃ y, Tx 1000 y ∧ σ' = [some (.ref sa), some (.str z), some (.str y), none]) ?_ (fun N hN => ?_)
    case refine_2 =>
      simp only [L2.start, Pr, tRev, tD1, tDPop1, tSl, tNoPart, tPart, rSlL, tDIn, tDNotIn, gSub, rSetL, tLst, tDNewK, tComp, L2.stC, tFor_eq, iList, iTup, iRng1, iRng2, iZip, iEnum, iDict, iStr, tChain, tSumV, tBM, rJoin, tJoined, jNil, jLit, jInt, jStr, tRaise, tDGet, tDGet2, tDGet1, sDPut, Option.join_some, List.getElem?_nil,  tSeq, tRet, tRetN, tIfS, tTest, tB, tOp, tUn, tVar, tC, tCB, tCons, tNil, tCall, tTupS, tAsg, gName, gNil, gCons, tPar, tNext, tDrop, tAnd, tOr, tNot, tAndV, tOrV, tNotV, tIf, rI, rI0, rU, rIxTH, rIxLH, rEqT, rNeT, rInT, rEq, rNe, scal, CPow, at0, at1, at2, List.map_cons, List.map_nil, List.length_cons, List.length_nil, Nat.reduceSub, Nat.reduceAdd, Nat.zero_add, List.replicate_zero, List.reduceReplicate, List.append_nil, List.nil_append, List.cons_append, List.getElem?_cons_zero, List.getElem?_cons_succ, List.set_cons_zero, List.set_cons_succ, Option.some.injEq, exists_eq_left', exists_eq_left, V.ref.injEq, V.int.injEq, V.bl.injEq, V.str.injEq, V.ty.injEq, HO.tup.injEq, HO.lst.injEq, List.cons.injEq, and_true, true_and, and_assoc, exists_and_left, decide_eq_true_eq, Bool.not_eq_true', decide_eq_false_iff_not, ite_true, ite_false, if_true, if_false, Int.reduceToNat, eq_self_iff_true, spAt, spBt]
      exact ⟨ns, hS4, by decide, by decide, fun n3 => ⟨⟨ty.1, by have := ty.2; omega⟩, fun z2 H3 s3 t2 => hN _ _ ⟨s3, z2, ⟨t2.1, by have := ty.2; have := t2.2; omega⟩, rfl⟩⟩⟩
    clear ty y
    rintro _ H5 ⟨sm5, y, ty, rfl⟩
    have hS5 := sm5.seq hS4
    change tSeq _ _ _ [some (.ref sa), some (.str z), some (.str y), none] H5
    refine seq_gen (fun σ' H6 => Same H5 H6 ∧ σ' = [some (.ref sa), some (.str z), some (.str y), none]) ?_ (fun N hN => ?_)
    case refine_2 =>
      simp only [L2.start, Pr, tRev, tD1, tDPop1, tSl, tNoPart, tPart, rSlL, tDIn, tDNotIn, gSub, rSetL, tLst, tDNewK, tComp, L2.stC, tFor_eq, iList, iTup, iRng1, iRng2, iZip, iEnum, iDict, iStr, tChain, tSumV, tBM, rJoin, tJoined, jNil, jLit, jInt, jStr, tRaise, tDGet, tDGet2, tDGet1, sDPut, Option.join_some, List.getElem?_nil,  tSeq, tRet, tRetN, tIfS, tTest, tB, tOp, tUn, tVar, tC, tCB, tCons, tNil, tCall, tTupS, tAsg, gName, gNil, gCons, tPar, tNext, tDrop, tAnd, tOr, tNot, tAndV, tOrV, tNotV, tIf, rI, rI0, rU, rIxTH, rIxLH, rEqT, rNeT, rInT, rEq, rNe, scal, CPow, at0, at1, at2, List.map_cons, List.map_nil, List.length_cons, List.length_nil, Nat.reduceSub, Nat.reduceAdd, Nat.zero_add, List.replicate_zero, List.reduceReplicate, List.append_nil, List.nil_append, List.cons_append, List.getElem?_cons_zero, List.getElem?_cons_succ, List.set_cons_zero, List.set_cons_succ, Option.some.injEq, exists_eq_left', exists_eq_left, V.ref.injEq, V.int.injEq, V.bl.injEq, V.str.injEq, V.ty.injEq, HO.tup.injEq, HO.lst.injEq, List.cons.injEq, and_true, true_and, and_assoc, exists_and_left, decide_eq_true_eq, Bool.not_eq_true', decide_eq_false_iff_not, ite_true, ite_false, if_true, if_false, Int.reduceToNat, eq_self_iff_true, spLPl, spRt]
      refine ⟨up ty (by decide), fun d0 H3 s3 => ⟨.inl ⟨up ty (by decide), .inl d0⟩, fun H4 s4 => ?_⟩, fun rs d0 p H3 s3 rp => ⟨.inl ⟨up ty (by decide), .inr ⟨rs, d0, rp⟩⟩, fun H4 s4 => ?_⟩⟩
      · rw [if_neg (by decide)]
        exact hN _ _ ⟨s3.trans s4, rfl⟩
      · rw [if_neg (by decide)]
        exact hN _ _ ⟨s3.trans s4, rfl⟩
    rintro _ H6 ⟨sm6, rfl⟩
    have hS6 := sm6.seq hS5
    change tSeq _ _ _ [some (.ref sa), some (.str z), some (.str y), none] H6
    refine seq_gen (fun σ' H7 => ∃ v t, TyOf K H7 v (.type t) ∧ PySem.W.kitOne K (.type t) (.type "str") = some false ∧ σ' = [some (.ref sa), some (.str z), some (.str y), some v]) ?_ (fun N hN => ?_)
    case refine_2 =>
      simp only [L2.start, Pr, tRev, tD1, tDPop1, tSl, tNoPart, tPart, rSlL, tDIn, tDNotIn, gSub, rSetL, tLst, tDNewK, tComp, L2.stC, tFor_eq, iList, iTup, iRng1, iRng2, iZip, iEnum, iDict, iStr, tChain, tSumV, tBM, rJoin, tJoined, jNil, jLit, jInt, jStr, tRaise, tDGet, tDGet2, tDGet1, sDPut, Option.join_some, List.getElem?_nil,  tSeq, tRet, tRetN, tIfS, tTest, tB, tOp, tUn, tVar, tC, tCB, tCons, tNil, tCall, tTupS, tAsg, gName, gNil, gCons, tPar, tNext, tDrop, tAnd, tOr, tNot, tAndV, tOrV, tNotV, tIf, rI, rI0, rU, rIxTH, rIxLH, rEqT, rNeT, rInT, rEq, rNe, scal, CPow, at0, at1, at2, List.map_cons, List.map_nil, List.length_cons, List.length_nil, Nat.reduceSub, Nat.reduceAdd, Nat.zero_add, List.replicate_zero, List.reduceReplicate, List.append_nil, List.nil_append, List.cons_append, List.getElem?_cons_zero, List.getElem?_cons_succ, List.set_cons_zero, List.set_cons_succ, Option.some.injEq, exists_eq_left', exists_eq_left, V.ref.injEq, V.int.injEq, V.bl.injEq, V.str.injEq, V.ty.injEq, HO.tup.injEq, HO.lst.injEq, List.cons.injEq, and_true, true_and, and_assoc, exists_and_left, decide_eq_true_eq, Bool.not_eq_true', decide_eq_false_iff_not, ite_true, ite_false, if_true, if_false, Int.reduceToNat, eq_self_iff_true, spAt]
      refine ⟨by decide, fun p np => ⟨by decide, fun p1 H2' s2 n2 e2 d nd' => ⟨.inr (Str.ofString "d6"), rfl, upd_same, by decide, fun p4 n4 => ⟨by decide, fun p3 np3 => ?_⟩⟩⟩⟩
      have sd : Same H2' (upd (upd H2' d (HO.dK [])) d (HO.dK [(Sum.inr (Str.ofString "d6"), V.int 1)])) := fun b o e => by
        rw [upd_ne (fun z => by rw [z, nd'] at e; cases e), upd_ne (fun z => by rw [z, nd'] at e; cases e)]
        exact e
      have s4 := same_upd (o := .lst []) n4
      have s3 := same_upd (o := .lst [V.non, V.int 7, V.bl true, V.ref p, V.ref p1, V.ref d, V.ref p4, V.bl false]) np3
      have s0 := (same_upd np).trans (s2.trans (sd.trans (s4.trans s3)))
      refine ⟨ns, s0.seq hS6, by decide, by decide, fun n => ⟨by decide, _, upd_same, ?_⟩⟩
      have ty : ∀ v ∈ [V.non, V.int 7, V.bl true, V.ref p, V.ref p1, V.ref d, V.ref p4, V.bl false], ∃ t, TyOf K (upd (upd (upd (upd H2' d (HO.dK [])) d (HO.dK [(Sum.inr (Str.ofString "d6"), V.int 1)])) p4 (.lst [])) p3 (.lst [V.non, V.int 7, V.bl true, V.ref p, V.ref p1, V.ref d, V.ref p4, V.bl false])) v (.type t) ∧ PySem.W.kitOne K (.type t) (.type "str") = some false := by
        intro v hv
        simp only [List.mem_cons, List.not_mem_nil, or_false] at hv
        rcases hv with rfl | rfl | rfl | rfl | rfl | rfl | rfl | rfl
        · exact ⟨_, TyOf.non, kit_off (t := "NoneType") (c := "str") (b := false)⟩
        · exact ⟨_, TyOf.int _, kit_off (t := "int") (c := "str") (b := false)⟩
        · exact ⟨_, TyOf.bl _, kit_off (t := "bool") (c := "str") (b := false)⟩
        · exact ⟨_, TyOf.lst (s3 _ _ (s4 _ _ (sd _ _ (s2 _ _ upd_same)))), kit_off (t := "list") (c := "str") (b := false)⟩
        · exact ⟨_, TyOf.tup (s3 _ _ (s4 _ _ (sd _ _ e2))), kit_off (t := "tuple") (c := "str") (b := false)⟩
        · exact ⟨_, TyOf.dK (s3 _ _ (s4 _ _ upd_same)), kit_off (t := "dict") (c := "str") (b := false)⟩
        · exact ⟨_, TyOf.lst (s3 _ _ upd_same), kit_off (t := "list") (c := "str") (b := false)⟩
        · exact ⟨_, TyOf.bl _, kit_off (t := "bool") (c := "str") (b := false)⟩
      have h0 := Int.emod_nonneg n (show (8 : Int) ≠ 0 by decide)
      have h1 := Int.emod_lt_of_pos n (show (0 : Int) < 8 by decide)
      obtain ⟨k, hk⟩ := Int.eq_ofNat_of_zero_le h0
      rw [hk] at h1 ⊢
      have lk : k < [V.non, V.int 7, V.bl true, V.ref p, V.ref p1, V.ref d, V.ref p4, V.bl false].length := by
        show k < 8
        omega
      obtain ⟨t, tk, kt⟩ := ty _ (List.getElem_mem lk)
      exact ⟨_, atI_nat (List.getElem?_eq_getElem lk), hN _ _ ⟨_, t, tk, kt, rfl⟩⟩
    rintro _ H7 ⟨v, t, tv, kt, rfl⟩
    have w0 : Txt.split (Str.ofString "best 2 of 3d6 + 4") PLUS = [Str.ofString "best 2 of 3d6", Str.ofString "4"] := by decide +kernel
    have w1 : Txt.split (Str.ofString "best 2 of 3d6") ⟨#[32]⟩ = [Str.ofString "best", Str.ofString "2", Str.ofString "of", Str.ofString "3d6"] := by decide +kernel
    have w2 : Txt.split (Str.ofString "4") ⟨#[32]⟩ = [Str.ofString "4"] := by decide +kernel
    have w3 : Txt.split (Str.ofString "3d6") ⟨#[100]⟩ = [Str.ofString "3", Str.ofString "6"] := by decide +kernel
    have v2 : whN (Str.ofString "2") 1 6 = some 2 := by decide +kernel
    have v3 : whN (Str.ofString "3") 2 6 = some 3 := by decide +kernel
    have v6 : whN (Str.ofString "6") 1 20 = some 6 := by decide +kernel
    have v4 : whN (Str.ofString "4") 0 99 = some 4 := by decide +kernel
    have d1 : diceO (Str.ofString "3d6") = some (3, 6) := by
      rw [dice_two w3, if_neg (by decide +kernel), v3, v6]
      rfl
    have p1 : partO (Str.ofString "best 2 of 3d6") = some (.many (Str.ofString "best") 2 3 6) := by
      unfold partO
      rw [w1]
      rw [part_four, if_pos rfl]
      unfold wordO
      rw [d1]
      show wordP _ _ 3 6 = _
      unfold wordP
      rw [if_neg (by decide +kernel), if_neg (by decide +kernel), if_pos (.inl rfl), v2]
      rfl
    have p2 : partO (Str.ofString "4") = some (.num 4) := by
      unfold partO
      rw [w2, part_one, v4]
    have dd : poolO (Str.ofString "best 2 of 3d6 + 4") = some [.many (Str.ofString "best") 2 3 6, .num 4] := by
      unfold poolO
      rw [w0, if_neg (by decide)]
      unfold allP
      simp [p1, p2]
    simp only [L2.start, Pr, tRev, tD1, tDPop1, tSl, tNoPart, tPart, rSlL, tDIn, tDNotIn, gSub, rSetL, tLst, tDNewK, tComp, L2.stC, tFor_eq, iList, iTup, iRng1, iRng2, iZip, iEnum, iDict, iStr, tChain, tSumV, tBM, rJoin, tJoined, jNil, jLit, jInt, jStr, tRaise, tDGet, tDGet2, tDGet1, sDPut, Option.join_some, List.getElem?_nil,  tSeq, tRet, tRetN, tIfS, tTest, tB, tOp, tUn, tVar, tC, tCB, tCons, tNil, tCall, tTupS, tAsg, gName, gNil, gCons, tPar, tNext, tDrop, tAnd, tOr, tNot, tAndV, tOrV, tNotV, tIf, rI, rI0, rU, rIxTH, rIxLH, rEqT, rNeT, rInT, rEq, rNe, scal, CPow, at0, at1, at2, List.map_cons, List.map_nil, List.length_cons, List.length_nil, Nat.reduceSub, Nat.reduceAdd, Nat.zero_add, List.replicate_zero, List.reduceReplicate, List.append_nil, List.nil_append, List.cons_append, List.getElem?_cons_zero, List.getElem?_cons_succ, List.set_cons_zero, List.set_cons_succ, Option.some.injEq, exists_eq_left', exists_eq_left, V.ref.injEq, V.int.injEq, V.bl.injEq, V.str.injEq, V.ty.injEq, HO.tup.injEq, HO.lst.injEq, List.cons.injEq, and_true, true_and, and_assoc, exists_and_left, decide_eq_true_eq, Bool.not_eq_true', decide_eq_false_iff_not, ite_true, ite_false, if_true, if_false, Int.reduceToNat, eq_self_iff_true, spRt]
    refine ⟨.inr ⟨t, tv, kt⟩, fun H8 s8 => ?_⟩
    refine ⟨by decide, fun a1 H9 s9 n1 e1 => ⟨by decide, fun a2 H10 s10 n2 e2 => ⟨by decide, fun p3 np3 => ⟨.inl ⟨⟨mem_asc (by decide +kernel), by decide +kernel⟩, .inr ⟨_, dd, ?_⟩⟩, fun H' s' => kk _⟩⟩⟩⟩
    have su := same_upd (o := .lst [V.ref a1, V.ref a2]) np3
    refine rep_lst.mpr ⟨p3, _, rfl, upd_same, ?_⟩
    simp only [List.map_cons, List.map_nil, RepL]
    exact ⟨_, _, rfl, repP (p := .many (Str.ofString "best") 2 3 6) (su _ _ (s10 _ _ e1)), _, _, rfl, repP (p := .num 4) (su _ _ e2), rfl⟩
end
theorem all_mk {l : PySem.W.OpenLaw} {w : World} {K : PySem.W.Frag} {h : Heap} {mg : Str → Option Value} {fa : Addr} (X : K.In h) (G : h.Ns mainGlobals mg) (hfa : mg "law" = some (.ref fa))
    {f0 : Addr} {od0 an0 : Option Addr} {sl0 : Array (Option Value)} {oc0 kV0 dc0 pm0 cd0 ct0 : Value} {f1 : Addr} {od1 an1 : Option Addr} {sl1 : Array (Option Value)} {oc1 kV1 dc1 pm1 cd1 ct1 : Value} {f2 : Addr} {od2 an2 : Option Addr} {sl2 : Array (Option Value)} {oc2 kV2 dc2 pm2 cd2 ct2 : Value} {f3 : Addr} {od3 an3 : Option Addr} {sl3 : Array (Option Value)} {oc3 kV3 dc3 pm3 cd3 ct3 : Value} {f4 : Addr} {od4 an4 : Option Addr} {sl4 : Array (Option Value)} {oc4 kV4 dc4 pm4 cd4 ct4 : Value} {f5 : Addr} {od5 an5 : Option Addr} {sl5 : Array (Option Value)} {oc5 kV5 dc5 pm5 cd5 ct5 : Value} {f6 : Addr} {od6 an6 : Option Addr} {sl6 : Array (Option Value)} {oc6 kV6 dc6 pm6 cd6 ct6 : Value} {f7 : Addr} {od7 an7 : Option Addr} {sl7 : Array (Option Value)} {oc7 kV7 dc7 pm7 cd7 ct7 : Value} {f8 : Addr} {od8 an8 : Option Addr} {sl8 : Array (Option Value)} {oc8 kV8 dc8 pm8 cd8 ct8 : Value} {f9 : Addr} {od9 an9 : Option Addr} {sl9 : Array (Option Value)} {oc9 kV9 dc9 pm9 cd9 ct9 : Value} {f10 : Addr} {od10 an10 : Option Addr} {sl10 : Array (Option Value)} {oc10 kV10 dc10 pm10 cd10 ct10 : Value} {f11 : Addr} {od11 an11 : Option Addr} {sl11 : Array (Option Value)} {oc11 kV11 dc11 pm11 cd11 ct11 : Value} {f12 : Addr} {od12 an12 : Option Addr} {sl12 : Array (Option Value)} {oc12 kV12 dc12 pm12 cd12 ct12 : Value} {f13 : Addr} {od13 an13 : Option Addr} {sl13 : Array (Option Value)} {oc13 kV13 dc13 pm13 cd13 ct13 : Value} {f14 : Addr} {od14 an14 : Option Addr} {sl14 : Array (Option Value)} {oc14 kV14 dc14 pm14 cd14 ct14 : Value} {f15 : Addr} {od15 an15 : Option Addr} {sl15 : Array (Option Value)} {oc15 kV15 dc15 pm15 cd15 ct15 : Value} {f16 : Addr} {od16 an16 : Option Addr} {sl16 : Array (Option Value)} {oc16 kV16 dc16 pm16 cd16 ct16 : Value} {f17 : Addr} {od17 an17 : Option Addr} {sl17 : Array (Option Value)} {oc17 kV17 dc17 pm17 cd17 ct17 : Value} {vt_FIGURES : Tok} {vt_MOST_FIGURES : Tok} {vt_MOST_PARTS : Tok} {vt_MOST_NUMBER : Tok} {vt_MOST_DICE : Tok} {vt_MOST_SIDES : Tok} {q_LuckError q_NoShare q_NoTable q_NoPool q_NoEnd q_TooMany q_NoGame q_NoWay q_NoRule q_NoStep q_NoPlay q_NoRow q_OF_MANY q_OF_ONE : Addr}
    (a0 : PySem.W.nsIn K mainGlobals "is_figures" = some (some (.ref f0))) (l0 : K.lookup f0 = some ⟨oc0, od0, .func (PySem.W.fnOf "is_figures" "is_figures" (defArgs (top 16)) (defBody (top 16)) (defScope (top 16)) .none kV0 dc0 pm0 an0 cd0 ct0), sl0⟩) (e0 : PySem.W.codeIn K cd0 "is_figures" = true) (k0 : PySem.W.keepIn K (.ref f0) = true)
    (a1 : PySem.W.nsIn K mainGlobals "whole_in" = some (some (.ref f1))) (l1 : K.lookup f1 = some ⟨oc1, od1, .func (PySem.W.fnOf "whole_in" "whole_in" (defArgs (top 17)) (defBody (top 17)) (defScope (top 17)) .none kV1 dc1 pm1 an1 cd1 ct1), sl1⟩) (e1 : PySem.W.codeIn K cd1 "whole_in" = true) (k1 : PySem.W.keepIn K (.ref f1) = true)
    (a2 : PySem.W.nsIn K mainGlobals "read_number" = some (some (.ref f2))) (l2 : K.lookup f2 = some ⟨oc2, od2, .func (PySem.W.fnOf "read_number" "read_number" (defArgs (top 25)) (defBody (top 25)) (defScope (top 25)) .none kV2 dc2 pm2 an2 cd2 ct2), sl2⟩) (e2 : PySem.W.codeIn K cd2 "read_number" = true) (k2 : PySem.W.keepIn K (.ref f2) = true)
    (a3 : PySem.W.nsIn K mainGlobals "read_dice" = some (some (.ref f3))) (l3 : K.lookup f3 = some ⟨oc3, od3, .func (PySem.W.fnOf "read_dice" "read_dice" (defArgs (top 26)) (defBody (top 26)) (defScope (top 26)) .none kV3 dc3 pm3 an3 cd3 ct3), sl3⟩) (e3 : PySem.W.codeIn K cd3 "read_dice" = true) (k3 : PySem.W.keepIn K (.ref f3) = true)
    (a4 : PySem.W.nsIn K mainGlobals "read_worded" = some (some (.ref f4))) (l4 : K.lookup f4 = some ⟨oc4, od4, .func (PySem.W.fnOf "read_worded" "read_worded" (defArgs (top 27)) (defBody (top 27)) (defScope (top 27)) .none kV4 dc4 pm4 an4 cd4 ct4), sl4⟩) (e4 : PySem.W.codeIn K cd4 "read_worded" = true) (k4 : PySem.W.keepIn K (.ref f4) = true)
    (a5 : PySem.W.nsIn K mainGlobals "read_part" = some (some (.ref f5))) (l5 : K.lookup f5 = some ⟨oc5, od5, .func (PySem.W.fnOf "read_part" "read_part" (defArgs (top 28)) (defBody (top 28)) (defScope (top 28)) .none kV5 dc5 pm5 an5 cd5 ct5), sl5⟩) (e5 : PySem.W.codeIn K cd5 "read_part" = true) (k5 : PySem.W.keepIn K (.ref f5) = true)
    (a6 : PySem.W.nsIn K mainGlobals "read_pool" = some (some (.ref f6))) (l6 : K.lookup f6 = some ⟨oc6, od6, .func (PySem.W.fnOf "read_pool" "read_pool" (defArgs (top 29)) (defBody (top 29)) (defScope (top 29)) .none kV6 dc6 pm6 an6 cd6 ct6), sl6⟩) (e6 : PySem.W.codeIn K cd6 "read_pool" = true) (k6 : PySem.W.keepIn K (.ref f6) = true)
    (a7 : PySem.W.nsIn K mainGlobals "_law_at" = some (some (.ref f7))) (l7 : K.lookup f7 = some ⟨oc7, od7, .func (PySem.W.fnOf "_law_at" "_law_at" (defArgs (top 31)) (defBody (top 31)) (defScope (top 31)) .none kV7 dc7 pm7 an7 cd7 ct7), sl7⟩) (e7 : PySem.W.codeIn K cd7 "_law_at" = true) (k7 : PySem.W.keepIn K (.ref f7) = true)
    (a8 : PySem.W.nsIn K mainGlobals "_law_whole" = some (some (.ref f8))) (l8 : K.lookup f8 = some ⟨oc8, od8, .func (PySem.W.fnOf "_law_whole" "_law_whole" (defArgs (top 32)) (defBody (top 32)) (defScope (top 32)) .none kV8 dc8 pm8 an8 cd8 ct8), sl8⟩) (e8 : PySem.W.codeIn K cd8 "_law_whole" = true) (k8 : PySem.W.keepIn K (.ref f8) = true)
    (a9 : PySem.W.nsIn K mainGlobals "_law_dice" = some (some (.ref f9))) (l9 : K.lookup f9 = some ⟨oc9, od9, .func (PySem.W.fnOf "_law_dice" "_law_dice" (defArgs (top 33)) (defBody (top 33)) (defScope (top 33)) .none kV9 dc9 pm9 an9 cd9 ct9), sl9⟩) (e9 : PySem.W.codeIn K cd9 "_law_dice" = true) (k9 : PySem.W.keepIn K (.ref f9) = true)
    (a10 : PySem.W.nsIn K mainGlobals "_law_part" = some (some (.ref f10))) (l10 : K.lookup f10 = some ⟨oc10, od10, .func (PySem.W.fnOf "_law_part" "_law_part" (defArgs (top 34)) (defBody (top 34)) (defScope (top 34)) .none kV10 dc10 pm10 an10 cd10 ct10), sl10⟩) (e10 : PySem.W.codeIn K cd10 "_law_part" = true) (k10 : PySem.W.keepIn K (.ref f10) = true)
    (a11 : PySem.W.nsIn K mainGlobals "_law_pool" = some (some (.ref f11))) (l11 : K.lookup f11 = some ⟨oc11, od11, .func (PySem.W.fnOf "_law_pool" "_law_pool" (defArgs (top 35)) (defBody (top 35)) (defScope (top 35)) .none kV11 dc11 pm11 an11 cd11 ct11), sl11⟩) (e11 : PySem.W.codeIn K cd11 "_law_pool" = true) (k11 : PySem.W.keepIn K (.ref f11) = true)
    (a12 : PySem.W.nsIn K mainGlobals "_law_near" = some (some (.ref f12))) (l12 : K.lookup f12 = some ⟨oc12, od12, .func (PySem.W.fnOf "_law_near" "_law_near" (defArgs (top 36)) (defBody (top 36)) (defScope (top 36)) .none kV12 dc12 pm12 an12 cd12 ct12), sl12⟩) (e12 : PySem.W.codeIn K cd12 "_law_near" = true) (k12 : PySem.W.keepIn K (.ref f12) = true)
    (a13 : PySem.W.nsIn K mainGlobals "_law_good" = some (some (.ref f13))) (l13 : K.lookup f13 = some ⟨oc13, od13, .func (PySem.W.fnOf "_law_good" "_law_good" (defArgs (top 37)) (defBody (top 37)) (defScope (top 37)) .none kV13 dc13 pm13 an13 cd13 ct13), sl13⟩) (e13 : PySem.W.codeIn K cd13 "_law_good" = true) (k13 : PySem.W.keepIn K (.ref f13) = true)
    (a14 : PySem.W.nsIn K mainGlobals "_law_bent" = some (some (.ref f14))) (l14 : K.lookup f14 = some ⟨oc14, od14, .func (PySem.W.fnOf "_law_bent" "_law_bent" (defArgs (top 38)) (defBody (top 38)) (defScope (top 38)) .none kV14 dc14 pm14 an14 cd14 ct14), sl14⟩) (e14 : PySem.W.codeIn K cd14 "_law_bent" = true) (k14 : PySem.W.keepIn K (.ref f14) = true)
    (a15 : PySem.W.nsIn K mainGlobals "_law_class" = some (some (.ref f15))) (l15 : K.lookup f15 = some ⟨oc15, od15, .func (PySem.W.fnOf "_law_class" "_law_class" (defArgs (top 39)) (defBody (top 39)) (defScope (top 39)) .none kV15 dc15 pm15 an15 cd15 ct15), sl15⟩) (e15 : PySem.W.codeIn K cd15 "_law_class" = true) (k15 : PySem.W.keepIn K (.ref f15) = true)
    (a16 : PySem.W.nsIn K mainGlobals "_law_right" = some (some (.ref f16))) (l16 : K.lookup f16 = some ⟨oc16, od16, .func (PySem.W.fnOf "_law_right" "_law_right" (defArgs (top 40)) (defBody (top 40)) (defScope (top 40)) .none kV16 dc16 pm16 an16 cd16 ct16), sl16⟩) (e16 : PySem.W.codeIn K cd16 "_law_right" = true) (k16 : PySem.W.keepIn K (.ref f16) = true)
    (a17 : PySem.W.nsIn K mainGlobals "law" = some (some (.ref f17))) (l17 : K.lookup f17 = some ⟨oc17, od17, .func (PySem.W.fnOf "law" "law" (defArgs (top 41)) (defBody (top 41)) (defScope (top 41)) .none kV17 dc17 pm17 an17 cd17 ct17), sl17⟩) (e17 : PySem.W.codeIn K cd17 "law" = true) (k17 : PySem.W.keepIn K (.ref f17) = true)
    (z_ValueError : PySem.W.nsIn K mainGlobals "ValueError" = some none)
    (z_all : PySem.W.nsIn K mainGlobals "all" = some none)
    (z_int : PySem.W.nsIn K mainGlobals "int" = some none)
    (z_isinstance : PySem.W.nsIn K mainGlobals "isinstance" = some none)
    (z_len : PySem.W.nsIn K mainGlobals "len" = some none)
    (z_list : PySem.W.nsIn K mainGlobals "list" = some none)
    (z_str : PySem.W.nsIn K mainGlobals "str" = some none)
    (c_FIGURES : PySem.W.nsIn K mainGlobals "FIGURES" = some (some (.str "0123456789" vt_FIGURES)))
    (c_MOST_FIGURES : PySem.W.nsIn K mainGlobals "MOST_FIGURES" = some (some (.int 12 vt_MOST_FIGURES)))
    (c_MOST_PARTS : PySem.W.nsIn K mainGlobals "MOST_PARTS" = some (some (.int 4 vt_MOST_PARTS)))
    (c_MOST_NUMBER : PySem.W.nsIn K mainGlobals "MOST_NUMBER" = some (some (.int 99 vt_MOST_NUMBER)))
    (c_MOST_DICE : PySem.W.nsIn K mainGlobals "MOST_DICE" = some (some (.int 6 vt_MOST_DICE)))
    (c_MOST_SIDES : PySem.W.nsIn K mainGlobals "MOST_SIDES" = some (some (.int 20 vt_MOST_SIDES)))
    (k_LuckError : PySem.W.nsIn K mainGlobals "LuckError" = some (some (.ref q_LuckError)))
    (k_NoShare : PySem.W.nsIn K mainGlobals "NoShare" = some (some (.ref q_NoShare)))
    (k_NoTable : PySem.W.nsIn K mainGlobals "NoTable" = some (some (.ref q_NoTable)))
    (k_NoPool : PySem.W.nsIn K mainGlobals "NoPool" = some (some (.ref q_NoPool)))
    (k_NoEnd : PySem.W.nsIn K mainGlobals "NoEnd" = some (some (.ref q_NoEnd)))
    (k_TooMany : PySem.W.nsIn K mainGlobals "TooMany" = some (some (.ref q_TooMany)))
    (k_NoGame : PySem.W.nsIn K mainGlobals "NoGame" = some (some (.ref q_NoGame)))
    (k_NoWay : PySem.W.nsIn K mainGlobals "NoWay" = some (some (.ref q_NoWay)))
    (k_NoRule : PySem.W.nsIn K mainGlobals "NoRule" = some (some (.ref q_NoRule)))
    (k_NoStep : PySem.W.nsIn K mainGlobals "NoStep" = some (some (.ref q_NoStep)))
    (k_NoPlay : PySem.W.nsIn K mainGlobals "NoPlay" = some (some (.ref q_NoPlay)))
    (k_NoRow : PySem.W.nsIn K mainGlobals "NoRow" = some (some (.ref q_NoRow)))
    (x_NoPool : PySem.W.excIn K q_NoPool bmVE newVE = true)
    (y_NoPoolcls : (PySem.W.clsIn K q_NoPool).isSome = true)
    (y_NoPoolga : PySem.W.findIn K (.ref q_NoPool) "__getattribute__" = some (some (.builtin "BaseException.__getattribute__")))
    (y_NoPoolgt : PySem.W.findIn K (.ref q_NoPool) "__getattr__" = some none)
    (y_NoPoolcl : PySem.W.findIn K (.ref q_NoPool) "__class__" = some (some (.builtin "object.__class__")))
    (y_NoPoolbe : PySem.W.mroIn K q_NoPool (.type "BaseException") = some true)
    (y_NoPoolob : PySem.W.mroIn K q_NoPool (.type "object") = some true)
    (e_NoPool_LuckError : PySem.W.exmOne K (.ref q_NoPool) (.ref q_LuckError) = some true)
    (i_NoPool_NoPool : PySem.W.kitOne K (.ref q_NoPool) (.ref q_NoPool) = some true)
    (i_NoPool_ValueError : PySem.W.kitOne K (.ref q_NoPool) (.type "ValueError") = some true)
    (n_NoPool_NoEnd : PySem.W.kitOne K (.ref q_NoPool) (.ref q_NoEnd) = some false)
    (n_NoPool_NoGame : PySem.W.kitOne K (.ref q_NoPool) (.ref q_NoGame) = some false)
    (n_NoPool_NoPlay : PySem.W.kitOne K (.ref q_NoPool) (.ref q_NoPlay) = some false)
    (n_NoPool_NoRow : PySem.W.kitOne K (.ref q_NoPool) (.ref q_NoRow) = some false)
    (n_NoPool_NoRule : PySem.W.kitOne K (.ref q_NoPool) (.ref q_NoRule) = some false)
    (n_NoPool_NoShare : PySem.W.kitOne K (.ref q_NoPool) (.ref q_NoShare) = some false)
    (n_NoPool_NoStep : PySem.W.kitOne K (.ref q_NoPool) (.ref q_NoStep) = some false)
    (n_NoPool_NoTable : PySem.W.kitOne K (.ref q_NoPool) (.ref q_NoTable) = some false)
    (n_NoPool_NoWay : PySem.W.kitOne K (.ref q_NoPool) (.ref q_NoWay) = some false)
    (n_NoPool_TooMany : PySem.W.kitOne K (.ref q_NoPool) (.ref q_TooMany) = some false)
    (g_OF_MANY : PySem.W.nsIn K mainGlobals "OF_MANY" = some (some (.ref q_OF_MANY)))
    (g_OF_ONE : PySem.W.nsIn K mainGlobals "OF_ONE" = some (some (.ref q_OF_ONE)))
    (r_OF_MANY_best : MRow K q_OF_MANY "best" 1 6)
    (r_OF_MANY_hits : MRow K q_OF_MANY "hits" 1 20)
    (r_OF_MANY_worst : MRow K q_OF_MANY "worst" 1 6)
    (r_OF_ONE_again : MRow K q_OF_ONE "again" 0 20)
    (r_OF_ONE_burst : MRow K q_OF_ONE "burst" 0 6)
    (m_OF_MANY : MDict K w.params q_OF_MANY ["best", "worst", "hits"])
    (m_OF_ONE : MDict K w.params q_OF_ONE ["again", "burst"])
    : ∃ fd : FuncData, (∀ (s : Shared) (v : Value), BindsTo s fd ⟨[v], []⟩ [("_law_script", v)]) ∧ ∀ base : Heap, K.In base → base.Ns mainGlobals mg → FnOk l.prog w K mg base (CX1 l.prog w) 30 fa fd ["_law_script"] (spLaw K) := by
  have e := hfa.symm.trans (PySem.W.mg_of X G a17)
  cases e
  have T : Txt K mg w.params q_LuckError q_NoShare q_NoTable q_NoPool q_NoEnd q_TooMany q_NoGame q_NoWay q_NoRule q_NoStep q_NoPlay q_NoRow q_OF_MANY q_OF_ONE := ⟨PySem.W.mg_none_of X G z_ValueError, PySem.W.mg_none_of X G z_all, PySem.W.mg_none_of X G z_int, PySem.W.mg_none_of X G z_isinstance, PySem.W.mg_none_of X G z_len, PySem.W.mg_none_of X G z_list, PySem.W.mg_none_of X G z_str, ⟨_, _, fun_mk l0 e0 k0, PySem.W.mg_of X G a0⟩, ⟨_, _, fun_mk l1 e1 k1, PySem.W.mg_of X G a1⟩, ⟨_, _, fun_mk l2 e2 k2, PySem.W.mg_of X G a2⟩, ⟨_, _, fun_mk l3 e3 k3, PySem.W.mg_of X G a3⟩, ⟨_, _, fun_mk l4 e4 k4, PySem.W.mg_of X G a4⟩, ⟨_, _, fun_mk l5 e5 k5, PySem.W.mg_of X G a5⟩, ⟨_, _, fun_mk l6 e6 k6, PySem.W.mg_of X G a6⟩, ⟨_, _, fun_mk l7 e7 k7, PySem.W.mg_of X G a7⟩, ⟨_, _, fun_mk l8 e8 k8, PySem.W.mg_of X G a8⟩, ⟨_, _, fun_mk l9 e9 k9, PySem.W.mg_of X G a9⟩, ⟨_, _, fun_mk l10 e10 k10, PySem.W.mg_of X G a10⟩, ⟨_, _, fun_mk l11 e11 k11, PySem.W.mg_of X G a11⟩, ⟨_, _, fun_mk l12 e12 k12, PySem.W.mg_of X G a12⟩, ⟨_, _, fun_mk l13 e13 k13, PySem.W.mg_of X G a13⟩, ⟨_, _, fun_mk l14 e14 k14, PySem.W.mg_of X G a14⟩, ⟨_, _, fun_mk l15 e15 k15, PySem.W.mg_of X G a15⟩, ⟨_, _, fun_mk l16 e16 k16, PySem.W.mg_of X G a16⟩, ⟨_, PySem.W.mg_of X G c_FIGURES⟩, ⟨_, PySem.W.mg_of X G c_MOST_FIGURES⟩, ⟨_, PySem.W.mg_of X G c_MOST_PARTS⟩, ⟨_, PySem.W.mg_of X G c_MOST_NUMBER⟩, ⟨_, PySem.W.mg_of X G c_MOST_DICE⟩, ⟨_, PySem.W.mg_of X G c_MOST_SIDES⟩, PySem.W.mg_of X G k_LuckError, PySem.W.mg_of X G k_NoShare, PySem.W.mg_of X G k_NoTable, PySem.W.mg_of X G k_NoPool, PySem.W.mg_of X G k_NoEnd, PySem.W.mg_of X G k_TooMany, PySem.W.mg_of X G k_NoGame, PySem.W.mg_of X G k_NoWay, PySem.W.mg_of X G k_NoRule, PySem.W.mg_of X G k_NoStep, PySem.W.mg_of X G k_NoPlay, PySem.W.mg_of X G k_NoRow, x_NoPool, ⟨y_NoPoolcls, y_NoPoolga, y_NoPoolgt, y_NoPoolcl, y_NoPoolbe, y_NoPoolob⟩, e_NoPool_LuckError, i_NoPool_NoPool, i_NoPool_ValueError, n_NoPool_NoEnd, n_NoPool_NoGame, n_NoPool_NoPlay, n_NoPool_NoRow, n_NoPool_NoRule, n_NoPool_NoShare, n_NoPool_NoStep, n_NoPool_NoTable, n_NoPool_NoWay, n_NoPool_TooMany, PySem.W.mg_of X G g_OF_MANY, PySem.W.mg_of X G g_OF_ONE, r_OF_MANY_best, r_OF_MANY_hits, r_OF_MANY_worst, r_OF_ONE_again, r_OF_ONE_burst, m_OF_MANY, m_OF_ONE⟩
  exact ⟨_, fun s v => .of_eq rfl, fun base _ _ => (ok_law T (fun_mk l17 e17 k17)).mono (by decide)⟩
theorem walk {l : PySem.W.OpenLaw} {q : Program} {loose : List Str} {XP : (Str → Option Value) → Heap → Prop} {YP : World → Heap → Prop} {d : DefRec} {K : Params → PySem.W.Frag} (hn : l.most = some 63) (hdf : d.params.defaults = [])
    (hY : ∀ (w : World) (h : Heap), YP w h → (K w.params).In h)
    (F : ∀ (w : World) (mg : Str → Option Value) (fa : Addr) (h : Heap), (K w.params).In h → h.Ns mainGlobals mg → mg d.name = some (.ref fa) →
      ∃ fd : FuncData, (∀ (s : Shared) (u : Value), BindsTo s fd ⟨[u], []⟩ [("_law_script", u)]) ∧ ∀ base : Heap, (K w.params).In base → base.Ns mainGlobals mg → FnOk l.prog w (K w.params) mg base (CX1 l.prog w) 30 fa fd ["_law_script"] (spLaw (K w.params))) :
    PySem.W.WalkO q loose XP YP l.row.toRowW d [] (fun f vs => PySem.call f vs) :=
  L2.walk_of (n := 63) (k := 30) (x := "_law_script") (CX := fun w => CX1 l.prog w) (sp := fun w => spLaw (K w.params)) hn (by decide) hdf ⟨rfl, by decide, by decide⟩ hY F (fun _ _ a ns hl _ hS => ⟨a, ns, rfl, hS, hl, fun _ => rfl⟩) fun _ _ _ _ _ z => (strict1 _ _) _ _ _ _ _ z
end K17
open PySem PySem.W PyProof.Rows
set_option maxRecDepth 100000 in
set_option maxHeartbeats 0 in
theorem PySem.Challenge.cw_pressluck_k17_no_pool_written_holds : PySem.Challenge.rw_pressluck_k17_no_pool_written.Holds := by
  w_on; o_law; k_head; (case hw => w_witness2)
  k_fill
  refine K17.walk (l := PySem.Challenge.rw_pressluck_k17_no_pool_written) rfl rfl (fun w h Y => PySem.W.kIn_of Y) ?F
  case F =>
    intro w mg fa h KX G hmg
    refine' K17.all_mk KX G hmg ?a0 ?l0 ?e0 ?k0 ?a1 ?l1 ?e1 ?k1 ?a2 ?l2 ?e2 ?k2 ?a3 ?l3 ?e3 ?k3 ?a4 ?l4 ?e4 ?k4 ?a5 ?l5 ?e5 ?k5 ?a6 ?l6 ?e6 ?k6 ?a7 ?l7 ?e7 ?k7 ?a8 ?l8 ?e8 ?k8 ?a9 ?l9 ?e9 ?k9 ?a10 ?l10 ?e10 ?k10 ?a11 ?l11 ?e11 ?k11 ?a12 ?l12 ?e12 ?k12 ?a13 ?l13 ?e13 ?k13 ?a14 ?l14 ?e14 ?k14 ?a15 ?l15 ?e15 ?k15 ?a16 ?l16 ?e16 ?k16 ?a17 ?l17 ?e17 ?k17 ?z_ValueError ?z_all ?z_int ?z_isinstance ?z_len ?z_list ?z_str ?c_FIGURES ?c_MOST_FIGURES ?c_MOST_PARTS ?c_MOST_NUMBER ?c_MOST_DICE ?c_MOST_SIDES ?k_LuckError ?k_NoShare ?k_NoTable ?k_NoPool ?k_NoEnd ?k_TooMany ?k_NoGame ?k_NoWay ?k_NoRule ?k_NoStep ?k_NoPlay ?k_NoRow ?x_NoPool ?y_NoPoolcls ?y_NoPoolga ?y_NoPoolgt ?y_NoPoolcl ?y_NoPoolbe ?y_NoPoolob ?e_NoPool_LuckError ?i_NoPool_NoPool ?i_NoPool_ValueError ?n_NoPool_NoEnd ?n_NoPool_NoGame ?n_NoPool_NoPlay ?n_NoPool_NoRow ?n_NoPool_NoRule ?n_NoPool_NoShare ?n_NoPool_NoStep ?n_NoPool_NoTable ?n_NoPool_NoWay ?n_NoPool_TooMany ?g_OF_MANY ?g_OF_ONE ?r_OF_MANY_best ?r_OF_MANY_hits ?r_OF_MANY_worst ?r_OF_ONE_again ?r_OF_ONE_burst ?m_OF_MANY ?m_OF_ONE
    (case a0 => k_is)
    (case l0 => k_is)
    (case e0 => k_is)
    (case k0 => k_is)
    (case a1 => k_is)
    (case l1 => k_is)
    (case e1 => k_is)
    (case k1 => k_is)
    (case a2 => k_is)
    (case l2 => k_is)
    (case e2 => k_is)
    (case k2 => k_is)
    (case a3 => k_is)
    (case l3 => k_is)
    (case e3 => k_is)
    (case k3 => k_is)
    (case a4 => k_is)
    (case l4 => k_is)
    (case e4 => k_is)
    (case k4 => k_is)
    (case a5 => k_is)
    (case l5 => k_is)
    (case e5 => k_is)
    (case k5 => k_is)
    (case a6 => k_is)
    (case l6 => k_is)
    (case e6 => k_is)
    (case k6 => k_is)
    (case a7 => k_is)
    (case l7 => k_is)
    (case e7 => k_is)
    (case k7 => k_is)
    (case a8 => k_is)
    (case l8 => k_is)
    (case e8 => k_is)
    (case k8 => k_is)
    (case a9 => k_is)
    (case l9 => k_is)
    (case e9 => k_is)
    (case k9 => k_is)
    (case a10 => k_is)
    (case l10 => k_is)
    (case e10 => k_is)
    (case k10 => k_is)
    (case a11 => k_is)
    (case l11 => k_is)
    (case e11 => k_is)
    (case k11 => k_is)
    (case a12 => k_is)
    (case l12 => k_is)
    (case e12 => k_is)
    (case k12 => k_is)
    (case a13 => k_is)
    (case l13 => k_is)
    (case e13 => k_is)
    (case k13 => k_is)
    (case a14 => k_is)
    (case l14 => k_is)
    (case e14 => k_is)
    (case k14 => k_is)
    (case a15 => k_is)
    (case l15 => k_is)
    (case e15 => k_is)
    (case k15 => k_is)
    (case a16 => k_is)
    (case l16 => k_is)
    (case e16 => k_is)
    (case k16 => k_is)
    (case a17 => k_is)
    (case l17 => k_is)
    (case e17 => k_is)
    (case k17 => k_is)
    (case z_ValueError => k_is)
    (case z_all => k_is)
    (case z_int => k_is)
    (case z_isinstance => k_is)
    (case z_len => k_is)
    (case z_list => k_is)
    (case z_str => k_is)
    (case c_FIGURES => k_is)
    (case c_MOST_FIGURES => k_is)
    (case c_MOST_PARTS => k_is)
    (case c_MOST_NUMBER => k_is)
    (case c_MOST_DICE => k_is)
    (case c_MOST_SIDES => k_is)
    (case k_LuckError => k_is)
    (case k_NoShare => k_is)
    (case k_NoTable => k_is)
    (case k_NoPool => k_is)
    (case k_NoEnd => k_is)
    (case k_TooMany => k_is)
    (case k_NoGame => k_is)
    (case k_NoWay => k_is)
    (case k_NoRule => k_is)
    (case k_NoStep => k_is)
    (case k_NoPlay => k_is)
    (case k_NoRow => k_is)
    (case x_NoPool => first | k_is | kit_is | kernel_rfl)
    (case y_NoPoolcls => first | k_is | kit_is | kernel_rfl)
    (case y_NoPoolga => first | k_is | kit_is | kernel_rfl)
    (case y_NoPoolgt => first | k_is | kit_is | kernel_rfl)
    (case y_NoPoolcl => first | k_is | kit_is | kernel_rfl)
    (case y_NoPoolbe => first | k_is | kit_is | kernel_rfl)
    (case y_NoPoolob => first | k_is | kit_is | kernel_rfl)
    (case e_NoPool_LuckError => first | k_is | kit_is | kernel_rfl)
    (case i_NoPool_NoPool => first | k_is | kit_is | kernel_rfl)
    (case i_NoPool_ValueError => first | k_is | kit_is | kernel_rfl)
    (case n_NoPool_NoEnd => first | k_is | kit_is | kernel_rfl)
    (case n_NoPool_NoGame => first | k_is | kit_is | kernel_rfl)
    (case n_NoPool_NoPlay => first | k_is | kit_is | kernel_rfl)
    (case n_NoPool_NoRow => first | k_is | kit_is | kernel_rfl)
    (case n_NoPool_NoRule => first | k_is | kit_is | kernel_rfl)
    (case n_NoPool_NoShare => first | k_is | kit_is | kernel_rfl)
    (case n_NoPool_NoStep => first | k_is | kit_is | kernel_rfl)
    (case n_NoPool_NoTable => first | k_is | kit_is | kernel_rfl)
    (case n_NoPool_NoWay => first | k_is | kit_is | kernel_rfl)
    (case n_NoPool_TooMany => first | k_is | kit_is | kernel_rfl)
    (case g_OF_MANY => k_is)
    (case g_OF_ONE => k_is)
    (case r_OF_MANY_best => exact ⟨_, by k_is, _, _, _, _, _, by k_is⟩)
    (case r_OF_MANY_hits => exact ⟨_, by k_is, _, _, _, _, _, by k_is⟩)
    (case r_OF_MANY_worst => exact ⟨_, by k_is, _, _, _, _, _, by k_is⟩)
    (case r_OF_ONE_again => exact ⟨_, by k_is, _, _, _, _, _, by k_is⟩)
    (case r_OF_ONE_burst => exact ⟨_, by k_is, _, _, _, _, _, by k_is⟩)
    (case m_OF_MANY => exact ⟨_, _, by k_is, by (repeat (first | exact trivial | refine ⟨⟨_, _, rfl, rfl⟩, ?_⟩)), rfl, rfl⟩)
    (case m_OF_ONE => exact ⟨_, _, by k_is, by (repeat (first | exact trivial | refine ⟨⟨_, _, rfl, rfl⟩, ?_⟩)), rfl, rfl⟩)
