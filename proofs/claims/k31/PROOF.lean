import PyProof.Rows.All
import Wide.All
import OpenK.AllK
import Wide.FinOn
import Lean
import PyProof.EqAt
import PyProof.EqKinds
import PyProof.TupleCall
import PyProof.NeKinds
import PySem.Challenge.RW_pressluck_k31_rows_changed
set_option Elab.async false
set_option linter.all false
set_option maxRecDepth 100000
/-! THE HAND LAYER, for ints, bools, texts, own classes, LISTS and tuples (index, slices, in, append, pop ..), calls, loops. Paste it whole ahead of your own text; what your proof does not reach may be deleted. -/
namespace L2
open PySem PySem.Spec PyProof.Rows

/-- a key: an int or a str -/
abbrev Key := Sum Int Str
def keyIs : Key → Value → Bool
  | .inl k, v => Value.isInt k v
  | .inr x, v => Value.isStrOf x v
def keyH (w : World) : Key → Int
  | .inl k => hashInt k
  | .inr x => hashStr w x
theorem keyIs_shape : ∀ {k : Key} {v : Value}, keyIs k v = true → (∃ i t, k = Sum.inl i ∧ v = Value.int i t) ∨ (∃ x t, k = Sum.inr x ∧ v = Value.str x t)
  | .inl i, v, h => by
    obtain ⟨t, e⟩ := Value.isInt_shape (k := i) (v := v) h
    exact .inl ⟨i, t, rfl, e⟩
  | .inr x, v, h => by
    obtain ⟨t, e⟩ := Value.isStrOf_shape (x := x) (v := v) h
    exact .inr ⟨x, t, rfl, e⟩
theorem key_ll (a b : Int) : decide ((Sum.inl a : Key) = Sum.inl b) = (a == b) := by
  by_cases e : a = b
  · subst e; simp
  · have h : ¬ (Sum.inl a : Key) = Sum.inl b := fun q => e (Sum.inl.inj q)
    rw [decide_eq_false h]
    exact (beq_eq_false_iff_ne.mpr e).symm
theorem key_rr (a b : Str) : decide ((Sum.inr a : Key) = Sum.inr b) = decide (a = b) := by
  by_cases e : a = b
  · subst e; simp
  · have h : ¬ (Sum.inr a : Key) = Sum.inr b := fun q => e (Sum.inr.inj q)
    rw [decide_eq_false h, decide_eq_false e]
theorem key_lr (a : Int) (b : Str) : decide ((Sum.inl a : Key) = Sum.inr b) = false := decide_eq_false (fun q => nomatch q)
theorem key_rl (a : Str) (b : Int) : decide ((Sum.inr a : Key) = Sum.inl b) = false := decide_eq_false (fun q => nomatch q)

def mixKind (prog : Program) (w : World) : PySem.KeyKind prog w Key where
  is := keyIs
  hash := keyH w
  inj := fun v a b ha hb => by
    rcases keyIs_shape ha with ⟨i, t, rfl, rfl⟩ | ⟨x, t, rfl, rfl⟩
    · rcases keyIs_shape hb with ⟨j, u, rfl, e⟩ | ⟨y, u, rfl, e⟩
      · injection e with e1 _; rw [e1]
      · exact nomatch e
    · rcases keyIs_shape hb with ⟨j, u, rfl, e⟩ | ⟨y, u, rfl, e⟩
      · exact nomatch e
      · injection e with e1 _; rw [e1]
  byValue := fun k v h => by
    rcases keyIs_shape h with ⟨i, t, rfl, rfl⟩ | ⟨x, t, rfl, rfl⟩ <;> rfl
  pyHash := fun hv h => by
    rcases keyIs_shape hv with ⟨i, t, rfl, rfl⟩ | ⟨x, t, rfl, rfl⟩
    · exact wpAny_pyHash_int h
    · exact wpAny_pyHash_str h
  eqBool := fun hu hv h => by
    rcases keyIs_shape hu with ⟨i, t, rfl, rfl⟩ | ⟨x, t, rfl, rfl⟩
    · rcases keyIs_shape hv with ⟨j, u, rfl, rfl⟩ | ⟨y, u, rfl, rfl⟩
      · rw [key_ll] at h; exact wpAny_eqBool_int h
      · rw [key_lr] at h; exact SeqAt.EqAt.int_str i t y u _ _ _ _ h
    · rcases keyIs_shape hv with ⟨j, u, rfl, rfl⟩ | ⟨y, u, rfl, rfl⟩
      · rw [key_rl] at h; exact SeqAt.EqAt.str_int x t j u _ _ _ _ h
      · rw [key_rr] at h; exact wpAny_eqBool_str h
  «strs» := fun k x t v h => by
    rcases keyIs_shape h with ⟨i, u, rfl, e⟩ | ⟨y, u, rfl, e⟩
    · exact nomatch e
    · injection e with e1 _
      subst e1
      cases v <;> rfl

end L2

namespace L2
open PySem PySem.Spec PyProof.Rows

/-- a value, without the heap -/
inductive V where
  | non | bl (b : Bool) | int (i : Int) | str (x : Str) | byt (b : Array UInt8) | flt (b : UInt64) | ref (a : Addr) | ty (n : String)
  deriving DecidableEq

def RelV : V → Value → Prop
  | .non, u => u = Value.none
  | .bl b, u => u = Value.bool b
  | .int i, u => ∃ t, u = Value.int i t
  | .str x, u => ∃ t, u = Value.str x t
  | .byt b, u => ∃ t, u = Value.bytes b t
  | .flt b, u => ∃ t, u = Value.float b t
  | .ref a, u => u = Value.ref a
  | .ty n, u => u = Value.type n

abbrev Vals : List V → List Value → Prop := Paired RelV
theorem Vals.length {xs : List V} {us : List Value} (r : Vals xs us) : xs.length = us.length := Paired.length r
theorem Vals.get : ∀ {xs : List V} {us : List Value} {i : Nat} {x : V}, Vals xs us → xs[i]? = some x → ∃ u, us[i]? = some u ∧ RelV x u
  | _, _, _, _, .nil, e => by simp at e
  | _, _, 0, _, .cons r _, e => by simp at e; subst e; exact ⟨_, rfl, r⟩
  | _, _, i + 1, x, .cons _ t, e => by
    obtain ⟨u, h1, h2⟩ := Vals.get (i := i) (x := x) t (by simpa using e)
    exact ⟨u, by simpa using h1, h2⟩
theorem Vals.set {x : V} {u : Value} (r : RelV x u) : ∀ {xs : List V} {us : List Value} (i : Nat), Vals xs us → Vals (xs.set i x) (us.set i u)
  | _, _, _, .nil => .nil
  | _, _, 0, .cons _ t => .cons r t
  | _, _, i + 1, .cons q t => .cons q (Vals.set r i t)
theorem Vals.append : ∀ {xs ys : List V} {us ws : List Value}, Vals xs us → Vals ys ws → Vals (xs ++ ys) (us ++ ws)
  | _, _, _, _, .nil, s => s
  | _, _, _, _, .cons r t, s => .cons r (Vals.append t s)
theorem Vals.take : ∀ {xs : List V} {us : List Value} (n : Nat), Vals xs us → Vals (xs.take n) (us.take n)
  | _, _, 0, _ => .nil
  | _, _, _ + 1, .nil => .nil
  | _, _, n + 1, .cons r t => .cons r (Vals.take n t)
theorem Vals.drop : ∀ {xs : List V} {us : List Value} (n : Nat), Vals xs us → Vals (xs.drop n) (us.drop n)
  | _, _, 0, r => r
  | _, _, _ + 1, .nil => .nil
  | _, _, n + 1, .cons _ t => Vals.drop n t
theorem Vals.none_of : ∀ {xs : List V} {us : List Value} {i : Nat}, Vals xs us → xs[i]? = none → us[i]? = none := fun {xs us i} r e => by
  have h1 := r.length
  have h2 : xs.length ≤ i := List.getElem?_eq_none_iff.mp e
  exact List.getElem?_eq_none_iff.mpr (by omega)

def RelO : Option V → Option Value → Prop
  | some v, some u => RelV v u
  | none, none => True
  | _, _ => False
def KV {κ : Type} : List (κ × V) → List (κ × Value) → Prop := Paired fun (p : κ × V) (q : κ × Value) => p.1 = q.1 ∧ RelV p.2 q.2

/-- a key of a dict (00_mix): an int or a text -/
def kV : Key → V
  | .inl i => .int i
  | .inr x => .str x

/-- what stands at a tracked address -/
inductive HO where
  /-- a list -/
  | lst (xs : List V)
  /-- a tuple (never changes) -/
  | tup (xs : List V)
  /-- a dict whose keys are ints and texts; one whose keys are tuples of ints and texts (the empty one is both) -/
  | dK (kvs : List (Key × V)) | dT (kvs : List (List Key × V))
  /-- a set of ints: its members, its size -/
  | set (S : Int → Bool) (n : Nat)
  /-- an instance of the class at C, its dict at dx, its attributes -/
  | ins (C dx : Addr) (fs : List (Str × V))
  /-- the dict of the instance at x -/
  | own (x : Addr)
  /-- the dict of an exception -/
  | xd (fs : List (Str × V))
  /-- a bound method, f of x -/
  | met (f x : Addr)
  /-- a range object lo, lo + 1, .. below hi -/
  | rng (lo hi : Int)
  /-- a thing that is known to the object (the script; a dict while a loop walks it): read, never written while it is so -/
  | frz (o : Obj) (u : HO)
  /-- a code object's table -/
  | tbl (ps : Array Value)
  /-- any other thing, by what is true of its one object (a def of one's own: SetO a S n := HO.ext fun h => ..) -/
  | ext (φ : Heap → Prop)

abbrev Hp := Addr → Option HO
def upd (H : Hp) (a : Addr) (o : HO) : Hp := fun b => if b = a then some o else H b
theorem upd_same {H : Hp} {a : Addr} {o : HO} : upd H a o a = some o := by unfold upd; rw [if_pos rfl]
theorem upd_ne {H : Hp} {a b : Addr} {o : HO} (h : b ≠ a) : upd H a o b = H b := by unfold upd; rw [if_neg h]
theorem ne_of_none {H : Hp} {a b : Addr} {o : HO} (h : H a = some o) (h' : H b = none) : a ≠ b := by
  intro e; subst e; rw [h] at h'; cases h'

section
variable (P : Program) (w : World)
def ObjOk (H : Hp) (h : Heap) (a : Addr) : HO → Prop
  | .lst xs => xs.length ≤ sizeLine ∧ ∃ (its : List Value) (n : Nat), Vals xs its ∧ h.get? a = some { cls := .type "list", data := .seq its.toArray n }
  | .tup xs => xs.length ≤ sizeLine ∧ ∃ its : List Value, Vals xs its ∧ IsTup h a its.toArray
  | .dK kvs => kvs.length ≤ sizeLine ∧ (a == sysModules) = false ∧ ∃ vs, KV kvs vs ∧ h.DictOf (mixKind P w) a vs
  | .dT kvs => kvs.length ≤ sizeLine ∧ (a == sysModules) = false ∧ ∃ xs : List (List Key × Addr × Value),
      Paired (fun (p : List Key × V) (q : List Key × Addr × Value) => p.1 = q.1 ∧ H q.2.1 = some (.tup (p.1.map kV)) ∧ RelV p.2 q.2.2) kvs xs ∧
      ∃ o es ep, h.get? a = some o ∧ o.ExactDict ∧ o.data = .dict es ep ∧ es.toList = xs.map (entryOfKey (tupleKind (mixKind P w))) ∧ (xs.map (·.1)).Nodup
  | .set S n => h.SetOf (intKind P w) a S n
  | .ins C dx fs => H dx = some (.own a) ∧ fs.length ≤ 1000 ∧ dx ≠ a ∧ h.get? a = some (PySem.W.instObj C dx) ∧
      ∃ mA, h.Ns1 dx mA ∧ (∀ f, RelO (fs.lookup f) (mA f)) ∧ PySem.Within mA (fs.map (·.1))
  | .own _ => ∃ o, h.get? a = some o
  | .xd fs => ∃ mA, h.Ns1 a mA ∧ ∀ f, RelO (fs.lookup f) (mA f)
  | .rng lo hi => ∃ t u v, h.get? a = some { cls := .type "range", data := .fields #[.int lo t, .int hi u, .int 1 v] }
  | .frz o u => h.get? a = some o ∧ ObjOk H h a u
  | .tbl ps => h.get? a = some { cls := .none, data := .fields ps }
  | .met f x => h.get? a = some (PySem.W.methodObj (.ref f) (.ref x))
  | .ext φ => φ h ∧ (∃ o, h.get? a = some o) ∧ ∀ h1 h2 : Heap, φ h1 → (∀ o, h1.get? a = some o → h2.get? a = some o) → φ h2
/-- the abstract heap is held -/
def HOk (H : Hp) (h : Heap) : Prop := ∀ a o, H a = some o → ObjOk P w H h a o
end

section
variable {P : Program} {w : World} {H H' : Hp} {h h' : Heap} {a : Addr} {o : HO}
theorem ObjOk.lt (x : ObjOk P w H h a o) : a < h.objs.size := by
  cases o with
  | lst xs => obtain ⟨_, _, _, _, e⟩ := x; exact Heap.lt_size e
  | tup xs => obtain ⟨_, _, _, p⟩ := x; exact p.lt
  | dK kvs => obtain ⟨_, _, _, _, o, _, _, e, _⟩ := x; exact Heap.lt_size e
  | dT kvs => obtain ⟨_, _, _, _, o, _, _, e, _⟩ := x; exact Heap.lt_size e
  | set S n => obtain ⟨o, _, _, _, e, _⟩ := x; exact Heap.lt_size e
  | ins C dx fs => obtain ⟨_, _, _, e, _⟩ := x; exact Heap.lt_size e
  | own y => obtain ⟨_, e⟩ := x; exact Heap.lt_size e
  | xd fs => obtain ⟨_, ⟨_, _, _, e, _⟩, _⟩ := x; exact Heap.lt_size e
  | rng lo hi => obtain ⟨_, _, _, e⟩ := x; exact Heap.lt_size e
  | frz ob u => obtain ⟨e, _⟩ := x; exact Heap.lt_size e
  | tbl ps => exact Heap.lt_size (show h.get? a = some _ from x)
  | met f y => exact Heap.lt_size (show h.get? a = some _ from x)
  | ext φ => obtain ⟨_, ⟨_, e⟩, _⟩ := x; exact Heap.lt_size e
theorem Paired.mapP {α β : Type} {F G : α → β → Prop} : ∀ {l₁ : List α} {l₂ : List β}, Paired F l₁ l₂ → (∀ a b, F a b → G a b) → Paired G l₁ l₂
  | _, _, .nil, _ => .nil
  | _, _, .cons r t, f => .cons (f _ _ r) (Paired.mapP t f)
/-- what an object's description leans on: its own object, its own dict, the tuples -/
theorem ObjOk.stay (x : ObjOk P w H h a o) (k : ∀ b u, (b = a ∨ H b = some (.own a)) → h.get? b = some u → h'.get? b = some u)
    (ho : ∀ b, H b = some (.own a) → H' b = some (.own a)) (ht : ∀ b xs, H b = some (.tup xs) → H' b = some (.tup xs)) : ObjOk P w H' h' a o := by
  induction o with
  | lst xs => obtain ⟨z, its, n, r, e⟩ := x; exact ⟨z, its, n, r, k _ _ (.inl rfl) e⟩
  | tup xs => obtain ⟨z, its, r, ob, e, c⟩ := x; exact ⟨z, its, r, ob, k _ _ (.inl rfl) e, c⟩
  | dK kvs => obtain ⟨z, y, vs, r, ob, es, ep, e, c⟩ := x; exact ⟨z, y, vs, r, ob, es, ep, k _ _ (.inl rfl) e, c⟩
  | dT kvs =>
    obtain ⟨z, y, xs, r, ob, es, ep, e, c⟩ := x
    exact ⟨z, y, xs, Paired.mapP r fun p q z => ⟨z.1, ht _ _ z.2.1, z.2.2⟩, ob, es, ep, k _ _ (.inl rfl) e, c⟩
  | set S n => obtain ⟨ob, es, ep, t, e, c⟩ := x; exact ⟨ob, es, ep, t, k _ _ (.inl rfl) e, c⟩
  | ins C dx fs =>
    obtain ⟨d, z, ne, e, mA, ⟨od, es, ep, e2, c⟩, r⟩ := x
    exact ⟨ho _ d, z, ne, k _ _ (.inl rfl) e, mA, ⟨od, es, ep, k _ _ (.inr d) e2, c⟩, r⟩
  | own y => obtain ⟨ob, e⟩ := x; exact ⟨ob, k _ _ (.inl rfl) e⟩
  | xd fs => obtain ⟨mA, ⟨od, es, ep, e, c⟩, r⟩ := x; exact ⟨mA, ⟨od, es, ep, k _ _ (.inl rfl) e, c⟩, r⟩
  | rng lo hi => obtain ⟨t, u, v, e⟩ := x; exact ⟨t, u, v, k _ _ (.inl rfl) e⟩
  | frz ob u ih => obtain ⟨e, q⟩ := x; exact ⟨k _ _ (.inl rfl) e, ih q⟩
  | tbl ps =>
    have e : h.get? a = some { cls := .none, data := .fields ps } := x
    show h'.get? a = some { cls := .none, data := .fields ps }
    exact k a _ (.inl rfl) e
  | met f y =>
    have e : h.get? a = some (PySem.W.methodObj (.ref f) (.ref y)) := x
    show h'.get? a = some (PySem.W.methodObj (.ref f) (.ref y))
    exact k a _ (.inl rfl) e
  | ext φ => obtain ⟨p, ⟨o, e⟩, st⟩ := x; exact ⟨st _ _ p fun o q => k _ _ (.inl rfl) q, ⟨o, k _ _ (.inl rfl) e⟩, st⟩
theorem HOk.lt (x : HOk P w H h) (e : H a = some o) : a < h.objs.size := (x a o e).lt
theorem HOk.fresh (x : HOk P w H h) (e : h.objs.size ≤ a) : H a = none := by
  cases q : H a with
  | none => rfl
  | some u => exact absurd (Nat.lt_of_lt_of_le (x.lt q) e) (Nat.lt_irrefl _)
/-- every object of the heap is kept -/
theorem HOk.kept (x : HOk P w H h) (k : ∀ b u, h.get? b = some u → h'.get? b = some u) : HOk P w H h' := fun a o e =>
  (x a o e).stay (fun b u _ q => k b u q) (fun _ q => q) fun _ _ q => q
/-- a new object is laid and tracked -/
theorem HOk.laid (x : HOk P w H h) (k : ∀ b u, h.get? b = some u → h'.get? b = some u) (hp : h.objs.size ≤ a) (new : ObjOk P w (upd H a o) h' a o) : HOk P w (upd H a o) h' := fun b u e => by
  have hn := x.fresh hp
  by_cases hb : b = a
  · subst hb; rw [upd_same] at e; cases e; exact new
  · rw [upd_ne hb] at e
    exact (x b u e).stay (fun c v _ q => k c v q) (fun c q => by rw [upd_ne (ne_of_none q hn)]; exact q) fun c xs q => by rw [upd_ne (ne_of_none q hn)]; exact q
end

/-- what may be read as u: it is u, or a known u -/
def Rd (H : Hp) (a : Addr) (u : HO) : Prop := H a = some u ∨ ∃ o, H a = some (.frz o u)
theorem Rd.of {H : Hp} {a : Addr} {u : HO} (h : H a = some u) : Rd H a u := .inl h
theorem Rd.ok {P : Program} {w : World} {H : Hp} {h : Heap} {a : Addr} {u : HO} (r : Rd H a u) (x : HOk P w H h) : ObjOk P w H h a u := by
  rcases r with r | ⟨o, r⟩
  · exact x a u r
  · obtain ⟨_, q⟩ := x a _ r
    exact q
/-- what may be written -/
def Mut : Option HO → Prop
  | some (.lst _) => True
  | some (.dK _) => True
  | some (.dT _) => True
  | some (.set _ _) => True
  | some (.ins _ _ _) => True
  | some (.ext _) => True
  | _ => False
section
variable {P : Program} {w : World} {H : Hp} {h h' : Heap} {x e : Addr} {o' : HO}
/-- the object at e is changed: x itself, or the dict of the instance x -/
theorem HOk.write (ok : HOk P w H h) (mu : Mut (H x)) (he : e = x ∨ H e = some (.own x)) (k : ∀ b u, b ≠ e → h.get? b = some u → h'.get? b = some u) (heo : ∃ u, h'.get? e = some u)
    (new : ObjOk P w (upd H x o') h' x o') : HOk P w (upd H x o') h' := fun b u q => by
  have nown : ∀ c y, H c = some (.own y) → c ≠ x := fun c y r z => by subst z; rw [r] at mu; exact mu
  have ntup : ∀ c xs, H c = some (.tup xs) → c ≠ x := fun c xs r z => by subst z; rw [r] at mu; exact mu
  by_cases hb : b = x
  · subst hb; rw [upd_same] at q; cases q; exact new
  · rw [upd_ne hb] at q
    by_cases hbe : b = e
    · have q' : H b = some (.own x) := by
        rcases he with z | z
        · exact absurd (hbe.trans z) hb
        · rw [hbe]; exact z
      rw [q] at q'; cases q'
      obtain ⟨v, hv⟩ := heo
      exact ⟨v, by rw [hbe]; exact hv⟩
    · refine (ok b u q).stay (fun c v hc r => k c v ?_ r) (fun c r => by rw [upd_ne (nown c b r)]; exact r) fun c xs r => by rw [upd_ne (ntup c xs r)]; exact r
      rcases hc with rfl | hc
      · exact hbe
      · rintro rfl
        rcases he with z | z
        · exact nown c b hc z
        · rw [hc] at z; cases z; exact hb rfl
end

/-! ### kept unless tracked; of the frames at fs (the callers') the slots may change (an exception that passes writes there); of the records at ex (iterators) nothing is said -/
structure Un (fs ex : List Addr) (H H' : Hp) (h h' : Heap) : Prop where
  keep : ∀ b o, h.get? b = some o → H b = none → b ∉ fs → b ∉ ex → h'.get? b = some o
  slot : ∀ b o, h.get? b = some o → H b = none → b ∈ fs → b ∉ ex → ∃ sl, h'.get? b = some { o with slots := sl }
  free : ∀ b o, h.get? b = some o → H b = none → b ∉ ex → H' b = none
  there : ∀ b o, h.get? b = some o → b ∉ ex → ∃ o', h'.get? b = some o'
  tups : ∀ b xs, H b = some (.tup xs) → H' b = some (.tup xs)
  frzs : ∀ b o u, H b = some (.frz o u) → H' b = some (.frz o u)
  tbls : ∀ b ps, H b = some (.tbl ps) → ∃ more, H' b = some (.tbl (ps ++ more))
section
variable {fs fs' ex ex' : List Addr} {H H1 H2 : Hp} {h h1 h2 h' : Heap} {a x e : Addr} {o : HO}
theorem Un.any (u : Un fs ex H H1 h h1) {b : Addr} {ob : Obj} (q : h.get? b = some ob) (n : H b = none) (hx : b ∉ ex) : ∃ sl, h1.get? b = some { ob with slots := sl } := by
  by_cases hb : b ∈ fs
  · exact u.slot b ob q n hb hx
  · exact ⟨ob.slots, u.keep b ob q n hb hx⟩
theorem Un.trans (a : Un fs ex H H1 h h1) (b : Un fs ex H1 H2 h1 h2) : Un fs ex H H2 h h2 where
  keep := fun c ob q n hc hx => b.keep c ob (a.keep c ob q n hc hx) (a.free c ob q n hx) hc hx
  slot := fun c ob q n hc hx => by
    obtain ⟨sl, e1⟩ := a.slot c ob q n hc hx
    obtain ⟨sl', e2⟩ := b.slot c _ e1 (a.free c ob q n hx) hc hx
    exact ⟨sl', e2⟩
  free := fun c ob q n hx => by
    obtain ⟨o', e1⟩ := a.there c ob q hx
    exact b.free c o' e1 (a.free c ob q n hx) hx
  there := fun c ob q hx => by
    obtain ⟨o', e1⟩ := a.there c ob q hx
    exact b.there c o' e1 hx
  tups := fun c xs q => b.tups c xs (a.tups c xs q)
  frzs := fun c ob xs q => b.frzs c ob xs (a.frzs c ob xs q)
  tbls := fun c ps q => by
    obtain ⟨m1, e1⟩ := a.tbls c ps q
    obtain ⟨m2, e2⟩ := b.tbls c _ e1
    exact ⟨m1 ++ m2, by rw [e2, Array.append_assoc]⟩
theorem Un.kept (k : ∀ b u, h.get? b = some u → h'.get? b = some u) : Un fs ex H H h h' :=
  ⟨fun b ob q _ _ _ => k b ob q, fun b ob q _ _ _ => ⟨ob.slots, k b ob q⟩, fun _ _ _ n _ => n, fun b ob q _ => ⟨ob, k b ob q⟩, fun _ _ q => q, fun _ _ _ q => q, fun _ ps q => ⟨#[], by rw [q]; simp⟩⟩
theorem Un.refl : Un fs ex H H h h := Un.kept fun _ _ q => q
theorem Un.laid (k : ∀ b u, h.get? b = some u → h'.get? b = some u) (hp : h.objs.size ≤ a) (hn : H a = none) : Un fs ex H (upd H a o) h h' where
  keep := fun b u q _ _ _ => k b u q
  slot := fun b u q _ _ _ => ⟨u.slots, k b u q⟩
  free := fun b u q n _ => by rw [upd_ne (Nat.ne_of_lt (Nat.lt_of_lt_of_le (Heap.lt_size q) hp))]; exact n
  there := fun b u q _ => ⟨u, k b u q⟩
  tups := fun b xs q => by rw [upd_ne (ne_of_none q hn)]; exact q
  frzs := fun b u xs q => by rw [upd_ne (ne_of_none q hn)]; exact q
  tbls := fun b ps q => ⟨#[], by rw [upd_ne (ne_of_none q hn), q]; simp⟩
theorem Un.write (mu : Mut (H x)) (he : e = x ∨ H e = some (.own x)) (k : ∀ b u, b ≠ e → h.get? b = some u → h'.get? b = some u) (heo : ∃ u, h'.get? e = some u) : Un fs ex H (upd H x o) h h' := by
  have hx : ∀ b, H b = none → b ≠ x := fun b n z => by subst z; rw [n] at mu; exact mu
  have hb : ∀ b, H b = none → b ≠ e := fun b n z => by
    subst z
    rcases he with r | r
    · exact hx b n r
    · rw [n] at r; cases r
  have hm : ∀ b u, H b = some u → ¬ Mut (some u) → b ≠ x := fun b u q nm z => by subst z; rw [q] at mu; exact nm mu
  refine ⟨fun b u q n _ _ => k b u (hb b n) q, fun b u q n _ _ => ⟨u.slots, k b u (hb b n) q⟩, fun b u q n _ => by rw [upd_ne (hx b n)]; exact n, fun b u q _ => ?_,
    fun b xs q => by rw [upd_ne (hm b _ q fun z => z)]; exact q, fun b u xs q => by rw [upd_ne (hm b _ q fun z => z)]; exact q, fun b ps q => ⟨#[], by rw [upd_ne (hm b _ q fun z => z), q]; simp⟩⟩
  by_cases hbe : b = e
  · subst hbe; exact heo
  · exact ⟨u, k b u hbe q⟩
theorem Un.mono (u : Un fs ex H H1 h h1) (hs : ∀ b ∈ fs, b ∈ fs') (hx : ∀ b ∈ ex, b ∈ ex') : Un fs' ex' H H1 h h1 :=
  ⟨fun b ob q n hb he => u.keep b ob q n (fun z => hb (hs b z)) fun z => he (hx b z), fun _ _ q n _ he => u.any q n fun z => he (hx _ z), fun b ob q n he => u.free b ob q n fun z => he (hx b z), fun b ob q he => u.there b ob q fun z => he (hx b z), u.tups, u.frzs, u.tbls⟩
end

/-! ### the heap without what is tracked -/
def trk (h : Heap) (H : Hp) : List Addr := (List.range h.objs.size).filter fun a => (H a).isSome
def hidT (h : Heap) (H : Hp) : Heap := PySem.W.hideAll h (trk h H)
theorem hidT_size (h : Heap) (H : Hp) : (hidT h H).objs.size = h.objs.size := PySem.W.hideAll_size _ _
theorem hidT_get {h : Heap} {H : Hp} {b : Addr} {o : Obj} (e : h.get? b = some o) (n : H b = none) : (hidT h H).get? b = some o :=
  PySem.W.hideAll_get _ e fun hm => by
    have q : (H b).isSome = true := (List.mem_filter.mp hm).2
    rw [n] at q; simp at q
theorem of_hidT {h : Heap} {H : Hp} {b : Addr} {o : Obj} (e : (hidT h H).get? b = some o) : h.get? b = some o ∧ H b = none := by
  have e' : h.get? b = some o := PySem.W.of_hideAll (trk h H) e
  refine ⟨e', ?_⟩
  cases q : H b with
  | none => rfl
  | some x =>
    have hm : b ∈ trk h H := List.mem_filter.mpr ⟨List.mem_range.mpr (Heap.lt_size e'), by simp [q]⟩
    have z : (hidT h H).get? b = none := PySem.W.hideAll_none (trk h H) hm
    rw [z] at e; cases e

/-! ### OpenK's ledger, filled with every new object but one -/
def allNews (g h : Heap) (L : Addr) : List (Addr × Obj) := (List.range h.objs.size).filterMap fun a => if a = L ∨ (g.get? a).isSome = true then none else (h.get? a).map fun o => (a, o)
def rest (g h : Heap) (L d : Addr) : List (Addr × Obj) := (allNews g h L).filter fun p => decide (p.1 ≠ d)
end L2

namespace L2
open PySem PySem.Spec PyProof.Rows

/-- the module's facts, over the base: the heap at the law's entry without what is tracked there -/
structure Mod (K : PySem.W.Frag) (mg : Str → Option Value) (base : Heap) : Prop where
  kin : K.In base
  glob : base.Ns mainGlobals mg
  blt : ∃ mb, base.Ns builtinsNs mb ∧ ∀ x : Str, x ≠ "__name__" → mb x = bootBuiltins x
  nolimit : base.NoLimit

/-- the context: a def's body (or a comprehension's block) running. base: fixed through the whole law; s₀, H₀: the entry; outer: the frames whose slots others may change (a def's callers); stack: all frames that run;
   ex: iterators that were made ahead of the entry and are walked here (a comprehension's); fn: the names whose cells were made at the entry (a def: all; a comprehension's block: its own); calm: not within an except suite; pn: pins that every state bears; xe: what is wanted of an exception that leaves the code -/
structure Cx where
  prog : Program
  w : World
  K : PySem.W.Frag
  mg : Str → Option Value
  base : Heap
  A : Around
  N : List Str
  s₀ : Shared
  H₀ : Hp
  env : Env
  outer : List Env
  stack : List Env
  ex : List Addr
  fn : Str → Bool
  calm : Bool
  pn : List (Addr × Obj)
  xe : Value → Shared → Prop
/-- the callers' frames -/
def frs (l : List Env) : List Addr := l.filterMap (·.frame)
abbrev Cx.fs (X : Cx) : List Addr := frs X.outer

def Vis (sc : Scope) (x : Str) : Prop := sc.names.lookup x = some .local ∨ sc.names.lookup x = some .cell ∨ sc.names.lookup x = some .free
def Loc (sc : Scope) (x : Str) : Prop := sc.names.lookup x = some .local ∨ sc.names.lookup x = some .cell
def Look (env : Env) (h : Heap) (m : Str → Option Value) (x : Str) (u : Value) : Prop :=
  (env.kindOf x = some .local ∧ m x = some u) ∨ ((env.kindOf x = some .cell ∨ env.kindOf x = some .free) ∧ ∃ c, env.cells.lookup x = some c ∧ h.IsCell c (some u))

structure Cx.Ok (X : Cx) : Prop where
  mod : Mod X.K X.mg X.base
  kind : X.env.scope.kind = .function
  glob : X.env.globals = mainGlobals
  blt : X.env.builtins = builtinsNs
  above : X.s₀.heap.objs.size ≤ X.env.locals
  inj : ∀ x y c, X.env.cells.lookup x = some c → X.env.cells.lookup y = some c → x = y
  has : ∀ x, (X.env.kindOf x = some .cell ∨ X.env.kindOf x = some .free) → ∃ c, X.env.cells.lookup x = some c
  cab : ∀ x c, X.fn x = true → X.env.cells.lookup x = some c → X.s₀.heap.objs.size ≤ c
  hd : X.calm = true → X.A.handled = none
  frames : X.A.frames = some X.stack
  stk : X.stack = X.outer ∨ (X.stack = X.env :: X.outer ∧ X.env.frame = some X.env.locals)
  exf : ∀ b ∈ X.ex, b ≠ X.env.locals ∧ ∀ x c, X.env.cells.lookup x = some c → c ≠ b
  bs : ∀ b o, X.base.get? b = some o → X.s₀.heap.get? b = some o ∧ X.H₀ b = none
  bsz : X.base.objs.size ≤ X.s₀.heap.objs.size
  noex : ∀ b o, X.base.get? b = some o → b ∉ X.ex
  exfs : ∀ b ∈ X.ex, b ∉ X.fs
  funs : X.s₀.heap.FunFrames X.base X.outer
  frf : ∀ b ∈ X.fs, X.H₀ b = none

structure Inv (X : Cx) (pins : List (Addr × Obj)) (σ : List (Option V)) (H : Hp) (s : Shared) : Prop where
  ok : X.Ok
  os : s.os = X.s₀.os
  bare : AllBare s.gens
  base : Un X.fs X.ex X.H₀ H X.s₀.heap s.heap
  loc : ∃ m, s.heap.Ns X.env.locals m ∧ ∀ (i : Nat) (x : Str) (v : V), X.N[i]? = some x → σ[i]? = some (some v) → Vis X.env.scope x → ∃ u, RelV v u ∧ Look X.env s.heap m x u
  cell : ∀ x c, X.env.cells.lookup x = some c → ∃ v, s.heap.IsCell c v
  free : H X.env.locals = none
  freeC : ∀ x c, X.env.cells.lookup x = some c → H c = none
  pin : ∀ p ∈ X.pn ++ pins, s.heap.get? p.1 = some p.2 ∧ H p.1 = none ∧ p.1 ≠ X.env.locals ∧ p.1 ∉ X.fs ∧ ∀ v, p.2.data ≠ .cell v
  hok : HOk X.prog X.w H s.heap
  len : σ.length = X.N.length

section
variable {X : Cx} {pins : List (Addr × Obj)} {σ : List (Option V)} {H H' : Hp} {s : Shared} {h' : Heap}

theorem Cx.Ok.nofr (ok : X.Ok) {b : Addr} {o : Obj} (e : X.base.get? b = some o) : b ∉ X.fs := fun hb => by
  have := (ok.funs.mem hb).1
  rw [e] at this; cases this
theorem Inv.bs (I : Inv X pins σ H s) : ∀ b o, X.base.get? b = some o → s.heap.get? b = some o ∧ H b = none := fun b o e =>
  ⟨I.base.keep b o (I.ok.bs b o e).1 (I.ok.bs b o e).2 (I.ok.nofr e) (I.ok.noex b o e), I.base.free b o (I.ok.bs b o e).1 (I.ok.bs b o e).2 (I.ok.noex b o e)⟩
theorem Inv.bk (I : Inv X pins σ H s) : ∀ b o, X.base.get? b = some o → s.heap.get? b = some o := fun b o e => (I.bs b o e).1
theorem Inv.mod (I : Inv X pins σ H s) : Mod X.K X.mg X.base := I.ok.mod
theorem Inv.kIn (I : Inv X pins σ H s) : X.K.In s.heap := I.ok.mod.kin.keeps I.bk
theorem Inv.nolimit (I : Inv X pins σ H s) : s.heap.NoLimit := I.ok.mod.nolimit.keeps I.bk
/-- the frame over the base: for OpenK's rules (K.In X.base is I.mod.kin) -/
theorem Inv.fr (I : Inv X pins σ H s) : ∃ m, Fr X.base X.env.locals s.heap m :=
  let ⟨m, hn, _⟩ := I.loc
  ⟨m, hn, I.bk, Nat.le_trans I.ok.bsz I.ok.above⟩
theorem Inv.lt (I : Inv X pins σ H s) : X.env.locals < s.heap.objs.size := let ⟨_, hn, _⟩ := I.loc; hn.lt
theorem Inv.sz (I : Inv X pins σ H s) : X.s₀.heap.objs.size ≤ s.heap.objs.size := Nat.le_trans I.ok.above (Nat.le_of_lt I.lt)
theorem Inv.nofs (I : Inv X pins σ H s) {a : Addr} (h : s.heap.objs.size ≤ a) : a ∉ X.fs := fun hb => by
  obtain ⟨_, o, ho, _⟩ := I.ok.funs.mem hb
  exact absurd (Nat.lt_of_lt_of_le (Heap.lt_size ho) (Nat.le_trans I.sz h)) (Nat.lt_irrefl _)
theorem Inv.cne (I : Inv X pins σ H s) : ∀ x c, X.env.cells.lookup x = some c → c ≠ X.env.locals := fun x c e z => by
  obtain ⟨v, o, ho, hd⟩ := I.cell x c e
  obtain ⟨m, ⟨o', es, ep, ho', hd', _⟩, _⟩ := I.loc
  rw [z, ho'] at ho; cases ho; rw [hd'] at hd; cases hd
theorem Inv.funs (I : Inv X pins σ H s) : s.heap.FunFrames X.base X.outer := by
  have all : ∀ (l : List Env), (∀ b ∈ frs l, b ∈ X.fs) → X.s₀.heap.FunFrames X.base l → s.heap.FunFrames X.base l := by
    intro l
    induction l with
    | nil => intro _ _; trivial
    | cons env r ih =>
      intro hs hl
      obtain ⟨hk, ⟨L, o, hf, hn, ho, hd⟩, hr⟩ := hl
      have hL : L ∈ X.fs := hs L (by unfold frs; rw [List.filterMap_cons, hf]; exact List.mem_cons_self)
      obtain ⟨sl, e⟩ := I.base.slot L o ho (I.ok.frf L hL) hL fun z => I.ok.exfs L z hL
      exact ⟨hk, ⟨L, _, hf, hn, e, hd⟩, ih (fun b hb => hs b (by unfold frs; rw [List.filterMap_cons, hf]; exact List.mem_cons_of_mem _ hb)) hr⟩
  exact all X.outer (fun _ hb => hb) I.ok.funs

/-- the frames that run, for a call -/
theorem Inv.stack (I : Inv X pins σ H s) : s.heap.FunFrames X.base X.stack := by
  rcases I.ok.stk with e | ⟨e, hf⟩
  · rw [e]; exact I.funs
  · rw [e]
    obtain ⟨m, hn, _⟩ := I.loc
    refine .cons (by rw [I.ok.kind]; decide) hf hn ?_ I.funs
    exact Heap.get?_none_of_le (Nat.le_trans I.ok.bsz I.ok.above)
theorem Inv.stkSub (I : Inv X pins σ H s) : ∀ b ∈ frs X.stack, b ∈ X.env.locals :: X.fs := fun b hb => by
  rcases I.ok.stk with e | ⟨e, hf⟩
  · rw [e] at hb; exact List.mem_cons_of_mem _ hb
  · rw [e] at hb
    unfold frs at hb
    rw [List.filterMap_cons, hf] at hb
    exact hb
theorem Inv.stkFree (I : Inv X pins σ H s) : ∀ b ∈ frs X.stack, H b = none := fun b hb => by
  rcases List.mem_cons.mp (I.stkSub b hb) with e | hb
  · rw [e]; exact I.free
  · obtain ⟨_, o, ho, _⟩ := I.ok.funs.mem hb
    exact I.base.free b o ho (I.ok.frf b hb) fun z => I.ok.exfs b z hb

/-- THE STEP: the untracked objects but the frame and the records at ch are kept (the callers' frames up to slots), the frame's map is kept, the new abstract heap is held -/
theorem Inv.step {g' : Array GenState} {t' : Nat} {d' : Drawn} {ch : List Addr} (I : Inv X pins σ H s)
    (hch : ∀ b ∈ ch, (b ∈ X.ex ∨ X.s₀.heap.objs.size ≤ b) ∧ b ≠ X.env.locals ∧ (∀ x c, X.env.cells.lookup x = some c → c ≠ b) ∧ ∀ p ∈ X.pn ++ pins, p.1 ≠ b)
    (keep : ∀ b o, b ≠ X.env.locals → b ∉ X.fs → b ∉ ch → s.heap.get? b = some o → H b = none → h'.get? b = some o)
    (slot : ∀ b o, b ≠ X.env.locals → b ∈ X.fs → b ∉ ch → s.heap.get? b = some o → H b = none → ∃ sl, h'.get? b = some { o with slots := sl }) (free : ∀ b o, b ∉ ch → s.heap.get? b = some o → H b = none → H' b = none)
    (there : ∀ b o, b ∉ ch → s.heap.get? b = some o → ∃ o', h'.get? b = some o')
    (tups : ∀ b xs, H b = some (.tup xs) → H' b = some (.tup xs)) (frzs : ∀ b o u, H b = some (.frz o u) → H' b = some (.frz o u)) (tbls : ∀ b ps, H b = some (.tbl ps) → ∃ more, H' b = some (.tbl (ps ++ more)))
    (ns : ∀ m, s.heap.Ns X.env.locals m → h'.Ns X.env.locals m) (hok : HOk X.prog X.w H' h') (hg : AllBare g') :
    Inv X pins σ H' { s with heap := h', gens := g', drawn := d', toks := t' } := by
  have neL : ∀ b o, X.s₀.heap.get? b = some o → b ≠ X.env.locals := fun b o e => Nat.ne_of_lt (Nat.lt_of_lt_of_le (Heap.lt_size e) I.ok.above)
  have neC : ∀ b o, X.s₀.heap.get? b = some o → b ∉ X.ex → b ∉ ch := fun b o e hx hb => by
    rcases (hch b hb).1 with z | z
    · exact hx z
    · exact absurd (Nat.lt_of_lt_of_le (Heap.lt_size e) z) (Nat.lt_irrefl _)
  have cellK : ∀ x c, X.env.cells.lookup x = some c → ∀ v, s.heap.IsCell c v → h'.IsCell c v := fun x c e v ⟨o, ho, hd⟩ => by
    have nch : c ∉ ch := fun z => (hch c z).2.2.1 x c e rfl
    by_cases hc : c ∈ X.fs
    · obtain ⟨sl, q⟩ := slot c o (I.cne x c e) hc nch ho (I.freeC x c e)
      exact ⟨_, q, hd⟩
    · exact ⟨o, keep c o (I.cne x c e) hc nch ho (I.freeC x c e), hd⟩
  refine ⟨I.ok, I.os, hg, ⟨fun b o e n hb hx => ?_, fun b o e n hb hx => ?_, fun b o e n hx => ?_, fun b o e hx => ?_, fun b xs e => tups b xs (I.base.tups b xs e), fun b o xs e => frzs b o xs (I.base.frzs b o xs e), fun b ps e => ?_⟩, ?_, fun x c e => ?_, ?_, fun x c e => ?_, fun p hp => ?_, hok, I.len⟩
  · exact keep b o (neL b o e) hb (neC b o e hx) (I.base.keep b o e n hb hx) (I.base.free b o e n hx)
  · obtain ⟨sl, e1⟩ := I.base.slot b o e n hb hx
    obtain ⟨sl', e2⟩ := slot b _ (neL b o e) hb (neC b o e hx) e1 (I.base.free b o e n hx)
    exact ⟨sl', e2⟩
  · obtain ⟨o', e1⟩ := I.base.there b o e hx
    exact free b o' (neC b o e hx) e1 (I.base.free b o e n hx)
  · obtain ⟨o', e1⟩ := I.base.there b o e hx
    exact there b o' (neC b o e hx) e1
  · obtain ⟨m1, e1⟩ := I.base.tbls b ps e
    obtain ⟨m2, e2⟩ := tbls b _ e1
    exact ⟨m1 ++ m2, by rw [e2, Array.append_assoc]⟩
  · obtain ⟨m, hn, hl⟩ := I.loc
    refine ⟨m, ns m hn, fun i x v e1 e2 e3 => ?_⟩
    obtain ⟨u, r, l⟩ := hl i x v e1 e2 e3
    refine ⟨u, r, ?_⟩
    rcases l with l | ⟨k, c, e, z⟩
    · exact .inl l
    · exact .inr ⟨k, c, e, cellK x c e _ z⟩
  · obtain ⟨v, z⟩ := I.cell x c e
    exact ⟨v, cellK x c e v z⟩
  · obtain ⟨m, ⟨o, _, _, ho, _⟩, _⟩ := I.loc
    exact free _ o (fun z => (hch _ z).2.1 rfl) ho I.free
  · obtain ⟨v, o, ho, hd⟩ := I.cell x c e
    exact free c o (fun z => (hch c z).2.2.1 x c e rfl) ho (I.freeC x c e)
  · obtain ⟨e, n, ne, nf, d⟩ := I.pin p hp
    have nch : p.1 ∉ ch := fun z => (hch p.1 z).2.2.2 p hp rfl
    exact ⟨keep p.1 p.2 ne nf nch e n, free p.1 p.2 nch e n, ne, nf, d⟩
/-- .. where the frame's own object is kept too -/
theorem Inv.un {t' : Nat} (I : Inv X pins σ H s) (u : Un X.fs [] H H' s.heap h') (hok : HOk X.prog X.w H' h') : Inv X pins σ H' { s with heap := h', toks := t' } := by
  obtain ⟨m, ⟨o, es, ep, ho, r⟩, _⟩ := id I.loc
  obtain ⟨sl, hL⟩ := u.any ho I.free (by simp)
  exact I.step (g' := s.gens) (d' := s.drawn) (ch := []) (fun _ z => nomatch z) (fun b o _ hb _ e n => u.keep b o e n hb (by simp)) (fun b o _ hb _ e n => u.slot b o e n hb (by simp)) (fun b o _ e n => u.free b o e n (by simp)) (fun b o _ e => u.there b o e (by simp)) u.tups u.frzs u.tbls (fun m' hm => by
    obtain ⟨o', es', ep', ho', r'⟩ := hm
    rw [ho] at ho'; cases ho'
    exact ⟨_, es', ep', hL, r'⟩) hok I.bare
/-- behind a call (or a comprehension's block): the slots of this frame may have changed too, the records at ch may have turned -/
theorem Inv.call {g' : Array GenState} {t' : Nat} {d' : Drawn} {ch : List Addr} (I : Inv X pins σ H s) (u : Un (frs X.stack) ch H H' s.heap h') (hok : HOk X.prog X.w H' h') (hg : AllBare g')
    (hch : ∀ b ∈ ch, (b ∈ X.ex ∨ X.s₀.heap.objs.size ≤ b) ∧ b ≠ X.env.locals ∧ (∀ x c, X.env.cells.lookup x = some c → c ≠ b) ∧ ∀ p ∈ X.pn ++ pins, p.1 ≠ b) :
    Inv X pins σ H' { s with heap := h', gens := g', drawn := d', toks := t' } := by
  obtain ⟨m, ⟨o, es, ep, ho, r⟩, _⟩ := id I.loc
  obtain ⟨sl, hL⟩ := u.any ho I.free fun z => (hch _ z).2.1 rfl
  exact I.step (ch := ch) hch (fun b o hL hb hc e n => u.keep b o e n (fun z => (List.mem_cons.mp (I.stkSub b z)).elim hL hb) hc) (fun b o _ _ hc e n => u.any e n hc) (fun b o hc e n => u.free b o e n hc) (fun b o hc e => u.there b o e hc) u.tups u.frzs u.tbls (fun m' hm => by
    obtain ⟨o', es', ep', ho', r'⟩ := hm
    rw [ho] at ho'; cases ho'
    exact ⟨_, es', ep', hL, r'⟩) hok hg
/-- an untracked record of ours (an iterator) has turned -/
theorem Inv.turned {t' : Nat} {it : Addr} (I : Inv X pins σ H s) (k : ∀ b o, b ≠ it → s.heap.get? b = some o → h'.get? b = some o) (hn : H it = none) (hL : it ≠ X.env.locals)
    (h1 : it ∈ X.ex ∨ X.s₀.heap.objs.size ≤ it) (h2 : ∀ x c, X.env.cells.lookup x = some c → c ≠ it) (h3 : ∀ p ∈ X.pn ++ pins, p.1 ≠ it) : Inv X pins σ H { s with heap := h', toks := t' } := by
  have nit : ∀ b u, H b = some u → b ≠ it := fun b u e z => by rw [z, hn] at e; cases e
  refine I.step (g' := s.gens) (d' := s.drawn) (ch := [it]) (fun b hb => ?_) (fun b o _ _ hc e _ => k b o (fun z => hc (by simp [z])) e) (fun b o _ _ hc e _ => ⟨o.slots, k b o (fun z => hc (by simp [z])) e⟩) (fun _ _ _ _ n => n)
    (fun b o hc e => ⟨o, k b o (fun z => hc (by simp [z])) e⟩) (fun _ _ e => e) (fun _ _ _ e => e) (fun b ps e => ⟨#[], by rw [e]; simp⟩) (fun m hm => ?_) (fun b u e => ?_) I.bare
  · have e : b = it := by simpa using hb
    subst e
    exact ⟨h1, hL, h2, h3⟩
  · obtain ⟨o, es, ep, ho, r⟩ := hm
    exact ⟨o, es, ep, k _ o (Ne.symm hL) ho, r⟩
  · refine (I.hok b u e).stay (fun c v hc q => k c v ?_ q) (fun _ q => q) fun _ _ q => q
    rcases hc with z | z
    · rw [z]; exact nit b u e
    · exact nit c _ z
theorem Inv.tok (I : Inv X pins σ H s) (t : Nat) : Inv X pins σ H { s with toks := t } := I.un (h' := s.heap) (t' := t) Un.refl I.hok
/-- all objects kept -/
theorem Inv.kept {t' : Nat} (I : Inv X pins σ H s) (k : ∀ b u, s.heap.get? b = some u → h'.get? b = some u) : Inv X pins σ H { s with heap := h', toks := t' } := I.un (Un.kept k) (I.hok.kept k)
/-- a new object laid and tracked -/
theorem Inv.laid {a : Addr} {o : HO} {t' : Nat} (I : Inv X pins σ H s) (k : ∀ b u, s.heap.get? b = some u → h'.get? b = some u) (hp : s.heap.objs.size ≤ a) (new : ObjOk X.prog X.w (upd H a o) h' a o) :
    Inv X pins σ (upd H a o) { s with heap := h', toks := t' } := I.un (Un.laid k hp (I.hok.fresh hp)) (I.hok.laid k hp new)
/-- an object written -/
theorem Inv.write {x e : Addr} {o : HO} {t' : Nat} (I : Inv X pins σ H s) (mu : Mut (H x)) (he : e = x ∨ H e = some (.own x)) (k : ∀ b u, b ≠ e → s.heap.get? b = some u → h'.get? b = some u) (heo : ∃ u, h'.get? e = some u)
    (new : ObjOk X.prog X.w (upd H x o) h' x o) : Inv X pins σ (upd H x o) { s with heap := h', toks := t' } := I.un (Un.write mu he k heo) (I.hok.write mu he k heo new)
theorem Inv.pins_of {pins' : List (Addr × Obj)} (I : Inv X pins σ H s) (h : ∀ p ∈ pins', s.heap.get? p.1 = some p.2 ∧ H p.1 = none ∧ p.1 ≠ X.env.locals ∧ p.1 ∉ X.fs ∧ ∀ v, p.2.data ≠ .cell v) : Inv X pins' σ H s :=
  ⟨I.ok, I.os, I.bare, I.base, I.loc, I.cell, I.free, I.freeC, fun p hp => (List.mem_append.mp hp).elim (fun z => I.pin p (List.mem_append_left _ z)) (h p), I.hok, I.len⟩

theorem nodup_ix {N : List Str} (hN : N.Nodup) {i j : Nat} {x : Str} (a : N[i]? = some x) (b : N[j]? = some x) : i = j := by
  obtain ⟨h1, e1⟩ := List.getElem?_eq_some_iff.mp a
  obtain ⟨h2, e2⟩ := List.getElem?_eq_some_iff.mp b
  exact (List.getElem_inj hN).mp (e1.trans e2.symm)

/-- a name is stored; what changed -/
theorem store_ok2 {M : Model} {A : Around} {E : Value → Shared → Prop} {i : Nat} {x : Str} {v : V} {u : Value} {Q : Unit → Shared → Prop} (I : Inv X pins σ H s) (hN : X.N.Nodup) (hi : X.N[i]? = some x) (hx : Loc X.env.scope x) (r : RelV v u)
    (h : ∀ s', Inv X pins (σ.set i (some v)) H s' → (∃ a, Heap.SameBut a s.heap s'.heap ∧ (a = X.env.locals ∨ X.env.cells.lookup x = some a)) → Q () s') (hf : X.fn x = true ∨ X.env.scope.names.lookup x = some .local := by first | exact .inl rfl | exact .inr rfl | assumption) : wpAny M A (storeName X.env x u) Q E s := by
  obtain ⟨m, hn, hl⟩ := id I.loc
  have hcls : (X.env.scope.kind == .class || (X.env.scope.kind == .module && X.env.locals != X.env.globals)) = false := by rw [I.ok.kind]; rfl
  have hiσ : i < σ.length := by rw [I.len]; exact (List.getElem?_eq_some_iff.mp hi).1
  have cne := I.cne
  have tracked : ∀ {a : Addr} {h' : Heap}, (∃ o, s.heap.get? a = some o ∧ H a = none) → Heap.SameBut a s.heap h' → HOk X.prog X.w H h' := fun {a h'} ha hs b ob e => by
    obtain ⟨_, _, hfree⟩ := ha
    refine (I.hok b ob e).stay (fun c w' hc q => (hs.2 c ?_).trans q) (fun _ q => q) fun _ _ q => q
    rintro rfl
    rcases hc with rfl | hc
    · rw [hfree] at e; cases e
    · rw [hfree] at hc; cases hc
  rcases hx with hk | hk
  · refine wpAny_storeName_local hk hn (fun h' hn' hs => ?_) hcls
    obtain ⟨oL, _, _, hoL, _⟩ := id hn
    refine h _ ⟨I.ok, I.os, I.bare, ⟨fun b o e n hb hx => ?_, fun b o e n hb hx => ?_, I.base.free, fun b o e hx => ?_, I.base.tups, I.base.frzs, I.base.tbls⟩, ⟨_, hn', fun j y v' e1 e2 e3 => ?_⟩, fun y c e => ?_, I.free, I.freeC, fun p hp => ?_, tracked ⟨oL, hoL, I.free⟩ hs, by simpa using I.len⟩ ⟨_, hs, .inl rfl⟩
    · exact (hs.2 b (Nat.ne_of_lt (Nat.lt_of_lt_of_le (Heap.lt_size e) I.ok.above))).trans (I.base.keep b o e n hb hx)
    · obtain ⟨sl, e1⟩ := I.base.slot b o e n hb hx
      exact ⟨sl, (hs.2 b (Nat.ne_of_lt (Nat.lt_of_lt_of_le (Heap.lt_size e) I.ok.above))).trans e1⟩
    · obtain ⟨o', e1⟩ := I.base.there b o e hx
      exact ⟨o', (hs.2 b (Nat.ne_of_lt (Nat.lt_of_lt_of_le (Heap.lt_size e) I.ok.above))).trans e1⟩
    · by_cases hj : j = i
      · subst hj
        rw [hi] at e1; cases e1
        rw [List.getElem?_set_self hiσ] at e2
        cases e2
        exact ⟨u, r, .inl ⟨hk, by simp⟩⟩
      · rw [List.getElem?_set_ne (Ne.symm hj)] at e2
        obtain ⟨u', r', q⟩ := hl j y v' e1 e2 e3
        refine ⟨u', r', ?_⟩
        rcases q with ⟨k, e⟩ | ⟨k, c, e, z⟩
        · refine .inl ⟨k, ?_⟩
          have : y ≠ x := fun e => hj (nodup_ix hN e1 (e ▸ hi))
          simp [this, e]
        · exact .inr ⟨k, c, e, z.sameBut hs (cne y c e)⟩
    · obtain ⟨w', z⟩ := I.cell y c e
      exact ⟨w', z.sameBut hs (cne y c e)⟩
    · obtain ⟨e, n, ne, nf, d⟩ := I.pin p hp
      exact ⟨(hs.2 p.1 ne).trans e, n, ne, nf, d⟩
  · have hfn : X.fn x = true := by
      rcases hf with z | z
      · exact z
      · rw [z] at hk; cases hk
    obtain ⟨c, hc⟩ := I.ok.has x (.inl hk)
    obtain ⟨w', z⟩ := I.cell x c hc
    refine wpAny_storeName_cell I.ok.kind hk hc z (fun h' hc' hs => ?_)
    obtain ⟨oc, hoc, hocd⟩ := id z
    refine h { s with heap := h' } ⟨I.ok, I.os, I.bare, ⟨fun b o e n hb hx => ?_, fun b o e n hb hx => ?_, I.base.free, fun b o e hx => ?_, I.base.tups, I.base.frzs, I.base.tbls⟩, ⟨m, hn.sameBut hs (Ne.symm (cne x c hc)), fun j y v' e1 e2 e3 => ?_⟩, fun y c' e => ?_, I.free, I.freeC, fun p hp => ?_, tracked ⟨oc, hoc, I.freeC x c hc⟩ hs, by simpa using I.len⟩ ⟨c, hs, .inr hc⟩
    · exact (hs.2 b (Nat.ne_of_lt (Nat.lt_of_lt_of_le (Heap.lt_size e) (I.ok.cab x c hfn hc)))).trans (I.base.keep b o e n hb hx)
    · obtain ⟨sl, e1⟩ := I.base.slot b o e n hb hx
      exact ⟨sl, (hs.2 b (Nat.ne_of_lt (Nat.lt_of_lt_of_le (Heap.lt_size e) (I.ok.cab x c hfn hc)))).trans e1⟩
    · obtain ⟨o', e1⟩ := I.base.there b o e hx
      exact ⟨o', (hs.2 b (Nat.ne_of_lt (Nat.lt_of_lt_of_le (Heap.lt_size e) (I.ok.cab x c hfn hc)))).trans e1⟩
    · by_cases hj : j = i
      · subst hj
        rw [hi] at e1; cases e1
        rw [List.getElem?_set_self hiσ] at e2
        cases e2
        exact ⟨u, r, .inr ⟨.inl hk, c, hc, hc'⟩⟩
      · rw [List.getElem?_set_ne (Ne.symm hj)] at e2
        obtain ⟨u', r', q⟩ := hl j y v' e1 e2 e3
        refine ⟨u', r', ?_⟩
        rcases q with q | ⟨k, c', e, z'⟩
        · exact .inl q
        · refine .inr ⟨k, c', e, z'.sameBut hs ?_⟩
          rintro rfl
          exact hj (nodup_ix hN e1 (I.ok.inj _ _ _ e hc ▸ hi))
    · by_cases hcc : c' = c
      · subst hcc; exact ⟨_, hc'⟩
      · obtain ⟨w2, z2⟩ := I.cell y c' e
        exact ⟨w2, z2.sameBut hs hcc⟩
    · obtain ⟨e, n, ne, nf, d⟩ := I.pin p hp
      refine ⟨(hs.2 p.1 ?_).trans e, n, ne, nf, d⟩
      intro q
      rw [q, hoc] at e
      have q' : oc = p.2 := Option.some.inj e
      exact d w' (by rw [← q']; exact hocd)
theorem store_ok {M : Model} {A : Around} {E : Value → Shared → Prop} {i : Nat} {x : Str} {v : V} {u : Value} {Q : Unit → Shared → Prop} (I : Inv X pins σ H s) (hN : X.N.Nodup) (hi : X.N[i]? = some x) (hx : Loc X.env.scope x) (r : RelV v u)
    (h : ∀ s', Inv X pins (σ.set i (some v)) H s' → Q () s') (hf : X.fn x = true ∨ X.env.scope.names.lookup x = some .local := by first | exact .inl rfl | exact .inr rfl | assumption) : wpAny M A (storeName X.env x u) Q E s :=
  store_ok2 I hN hi hx r (fun s' I' _ => h s' I') hf
/-- behind a call or a block, the state as it is -/
theorem Inv.call' {s' : Shared} {ch : List Addr} (I : Inv X pins σ H s) (ho : s'.os = s.os) (u : Un (frs X.stack) ch H H' s.heap s'.heap) (hok : HOk X.prog X.w H' s'.heap) (hg : AllBare s'.gens)
    (hch : ∀ b ∈ ch, (b ∈ X.ex ∨ X.s₀.heap.objs.size ≤ b) ∧ b ≠ X.env.locals ∧ (∀ x c, X.env.cells.lookup x = some c → c ≠ b) ∧ ∀ p ∈ X.pn ++ pins, p.1 ≠ b) : Inv X pins σ H' s' := by
  obtain ⟨h', g', d', t', o'⟩ := s'
  have e : o' = s.os := ho
  subst e
  exact I.call (g' := g') (t' := t') (d' := d') u hok hg hch
end

/-! ### the judgements -/
/-- an exception: its class, its own dict's address (where it has one), the abstract heap behind it -/
abbrev XK := Value → Option Addr → Hp → Prop
abbrev St := List (Option V)
abbrev VK := V → Hp → Prop
/-- an expression's reading; a test's; an argument list's -/
abbrev TE := St → Hp → VK → Prop
abbrev TT := St → Hp → (Bool → Hp → Prop) → Prop
abbrev TA := St → Hp → (List V → Hp → Prop) → Prop
/-- what is wanted behind a statement -/
structure Ends where
  nx : St → Hp → Prop
  rt : VK
  bk : St → Hp → Prop := fun _ _ => False
  ct : St → Hp → Prop := fun _ _ => False
abbrev TS := Ends → St → Hp → Prop

def EP (X : Cx) (pins : List (Addr × Obj)) (σ : St) (Q : VK) (u : Value) (s' : Shared) : Prop := ∃ v H', Inv X pins σ H' s' ∧ RelV v u ∧ Q v H'
def TP (X : Cx) (pins : List (Addr × Obj)) (σ : St) (Q : Bool → Hp → Prop) (b : Bool) (s' : Shared) : Prop := ∃ H', Inv X pins σ H' s' ∧ Q b H'
def AP (X : Cx) (pins : List (Addr × Obj)) (σ : St) (Q : List V → Hp → Prop) (us : List Value) (s' : Shared) : Prop := ∃ vs H', Inv X pins σ H' s' ∧ Vals vs us ∧ Q vs H'
def SP (X : Cx) (pins : List (Addr × Obj)) (D : Ends) (f : Flow) (s' : Shared) : Prop :=
  match f with
  | .next => ∃ σ' H', Inv X pins σ' H' s' ∧ D.nx σ' H'
  | .brk => ∃ σ' H', Inv X pins σ' H' s' ∧ D.bk σ' H'
  | .cont => ∃ σ' H', Inv X pins σ' H' s' ∧ D.ct σ' H'
  | .ret u => ∃ v σ' H', Inv X pins σ' H' s' ∧ RelV v u ∧ D.rt v H'

def PE (X : Cx) (e : Expr) (t : TE) : Prop :=
  ∀ (pins : List (Addr × Obj)) (s : Shared) (σ : St) (H : Hp) (Q : VK), Inv X pins σ H s → t σ H Q → wpAny (model X.prog X.w) X.A (eval e X.env) (EP X pins σ Q) X.xe s
def PT (X : Cx) (e : Expr) (t : TT) : Prop :=
  ∀ (pins : List (Addr × Obj)) (s : Shared) (σ : St) (H : Hp) (Q : Bool → Hp → Prop), Inv X pins σ H s → t σ H Q → wpAny (model X.prog X.w) X.A (isTrue e X.env (eval e X.env)) (TP X pins σ Q) X.xe s
/-- a test whatever its 'whole' is (and, or) -/
def PW (X : Cx) (e : Expr) (t : TT) : Prop :=
  ∀ (whole : Sem Value) (pins : List (Addr × Obj)) (s : Shared) (σ : St) (H : Hp) (Q : Bool → Hp → Prop), Inv X pins σ H s → t σ H Q → wpAny (model X.prog X.w) X.A (isTrue e X.env whole) (TP X pins σ Q) X.xe s
theorem PW.pt {X : Cx} {e : Expr} {t : TT} (h : PW X e t) : PT X e t := h _
/-- an argument list (no star), from the left -/
def PA (X : Cx) (es : List Expr) (t : TA) : Prop :=
  ∀ (pos : Pos) (pins : List (Addr × Obj)) (s : Shared) (σ : St) (H : Hp) (Q : List V → Hp → Prop), Inv X pins σ H s → t σ H Q → wpAny (model X.prog X.w) X.A (spliced (backTo pos (starEach es X.env))) (AP X pins σ Q) X.xe s
def PS (X : Cx) (st : Stmt) (t : TS) : Prop :=
  ∀ (pins : List (Addr × Obj)) (s : Shared) (σ : St) (H : Hp) (D : Ends), Inv X pins σ H s → t D σ H → wpAny (model X.prog X.w) X.A (exec st X.env) (SP X pins D) X.xe s
def PSs (X : Cx) (st : List Stmt) (t : TS) : Prop :=
  ∀ (pins : List (Addr × Obj)) (s : Shared) (σ : St) (H : Hp) (D : Ends), Inv X pins σ H s → t D σ H → wpAny (model X.prog X.w) X.A (execs st X.env) (SP X pins D) X.xe s
/-- weaken the end -/
theorem thn {α : Type} {t : Sem α} {Q Q' : α → Shared → Prop} {M : Model} {A : Around} {E : Value → Shared → Prop} {s : Shared} (h : wpAny M A t Q E s) (hQ : ∀ a s, Q a s → Q' a s) : wpAny M A t Q' E s := wpAny_mono h hQ fun _ _ x => x
end L2

namespace L2
open PySem PySem.Spec PyProof.Rows
section
variable {X : Cx}

/-! ### names and constants -/
def tVar (i : Nat) : TE := fun σ H Q => ∃ v, σ[i]? = some (some v) ∧ Q v H
def tC (v : V) : TE := fun _ H Q => Q v H
theorem pe_var {i : Nat} {x : Str} {pos : Pos} (hN : X.N[i]? = some x) (hv : Vis X.env.scope x) (hd : (x == ("__debug__" : Str)) = false := by decide) (hcd : (x == ("__classdict__" : Str)) = false := by decide) : PE X (.Name x pos) (tVar i) := by
  intro pins s σ H Q I h
  obtain ⟨v, e, h⟩ := h
  obtain ⟨m, hn, hl⟩ := I.loc
  obtain ⟨u, r, l⟩ := hl i x v hN e hv
  have fin : EP X pins σ Q u s := ⟨v, H, I, r, h⟩
  rcases l with ⟨hk, hm⟩ | ⟨hk, c, hc, hcell⟩
  · exact wpAny_Name (wpAny_loadName_local I.ok.kind hk hn hm fin) hd
  · rcases hk with hk | hk
    · exact wpAny_Name (wpAny_loadName_cell I.ok.kind hk hc hcell fin) hd
    · exact wpAny_Name (wpAny_loadName_free I.ok.kind hk hc hcell fin hcd) hd
theorem pe_int {i j pos} : PE X (.Constant (.int i) j pos) (tC (.int i)) := fun _ _ _ H _ I h => wpAny_Constant_int ⟨.int i, H, I.tok _, ⟨_, rfl⟩, h⟩
theorem pe_bl {b j pos} : PE X (.Constant (.bool b) j pos) (tC (.bl b)) := fun _ _ _ H _ I h => Constant_bool ⟨.bl b, H, I, rfl, h⟩
theorem pe_non {j pos} : PE X (.Constant .none j pos) (tC .non) := fun _ _ _ H _ I h => Constant_none ⟨.non, H, I, rfl, h⟩
theorem pe_str {x j pos} : PE X (.Constant (.str x) j pos) (tC (.str x)) := fun _ _ _ H _ I h => Calls.Constant_str ⟨.str x, H, I.tok _, ⟨_, rfl⟩, h⟩

/-- a global name of the def -/
def Gl (X : Cx) (x : Str) : Prop := X.env.kindOf x = some .globalImplicit
theorem ld_glob {E : Value → Shared → Prop} {pins : List (Addr × Obj)} {s : Shared} {σ : St} {H : Hp} {x : Str} {u : Value} {pos : Pos} {Q : Value → Shared → Prop} (I : Inv X pins σ H s) (hg : Gl X x) (hm : X.mg x = some u) (h : Q u s)
    (hd : (x == ("__debug__" : Str)) = false := by decide) : wpAny (model X.prog X.w) X.A (eval (.Name x pos) X.env) Q E s :=
  Calls.Name_function_global I.ok.kind hg (Calls.loadGlobal_global (by rw [I.ok.glob]; exact I.mod.glob.keeps I.bk) hm h) hd
theorem ld_blt {E : Value → Shared → Prop} {pins : List (Addr × Obj)} {s : Shared} {σ : St} {H : Hp} {x : Str} {u : Value} {pos : Pos} {Q : Value → Shared → Prop} (I : Inv X pins σ H s) (hg : Gl X x) (hm : X.mg x = none) (hv : bootBuiltins x = some u) (h : Q u s)
    (hn : x ≠ "__name__" := by decide) (hd : (x == ("__debug__" : Str)) = false := by decide) : wpAny (model X.prog X.w) X.A (eval (.Name x pos) X.env) Q E s := by
  obtain ⟨mb, h1, h2⟩ := I.mod.blt
  exact Calls.Name_function_global I.ok.kind hg (Calls.loadGlobal_builtin (by rw [I.ok.glob]; exact I.mod.glob.keeps I.bk) hm (by rw [I.ok.blt]; exact h1.keeps I.bk) ((h2 x hn).trans hv) h) hd
theorem pe_bltn {x : Str} {v : V} {u : Value} {pos : Pos} (hg : Gl X x) (hm : X.mg x = none) (hv : bootBuiltins x = some u) (r : RelV v u) (hn : x ≠ "__name__" := by decide) (hd : (x == ("__debug__" : Str)) = false := by decide) : PE X (.Name x pos) (tC v) :=
  fun _ _ _ H _ I h => ld_blt I hg hm hv ⟨v, H, I, r, h⟩ hn hd

/-! ### arithmetic -/
/-- two ints -/
def t2I (ta tb : TE) (k : Int → Int → Hp → Prop) : St → Hp → Prop := fun σ H => ta σ H fun x H1 => tb σ H1 fun y H2 => ∃ i j, x = .int i ∧ y = .int j ∧ k i j H2
def tAdd (ta tb : TE) : TE := fun σ H Q => t2I ta tb (fun i j H2 => Q (.int (i + j)) H2) σ H
def tSub (ta tb : TE) : TE := fun σ H Q => t2I ta tb (fun i j H2 => Q (.int (i - j)) H2) σ H
/-- the left factor below 2^64 -/
def tMul (ta tb : TE) : TE := fun σ H Q => t2I ta tb (fun i j H2 => (-(2 ^ 64) < i ∧ i < 2 ^ 64) ∧ Q (.int (i * j)) H2) σ H
variable {a b : Expr} {ta tb : TE} {pos : Pos}
/-! ### comparisons -/
def PC (X : Cx) (op : CmpOp) (a b : Expr) (t : TE) : Prop :=
  ∀ (pins : List (Addr × Obj)) (s : Shared) (σ : St) (H : Hp) (Q : VK), Inv X pins σ H s → t σ H Q →
    wpAny (model X.prog X.w) X.A (eval a X.env) (fun v s₁ => wpAny (model X.prog X.w) X.A (eval b X.env) (fun u s₂ => wpAny (model X.prog X.w) X.A (compareOp op v u) (EP X pins σ Q) X.xe s₂) X.xe s₁) X.xe s
def tCmp (p : Int → Int → Bool) (ta tb : TE) : TE := fun σ H Q => t2I ta tb (fun i j H2 => Q (.bl (p i j)) H2) σ H
abbrev tLt : TE → TE → TE := tCmp fun i j => decide (i < j)
abbrev tLe : TE → TE → TE := tCmp fun i j => decide (i ≤ j)
abbrev tGt : TE → TE → TE := tCmp fun i j => decide (j < i)
abbrev tGe : TE → TE → TE := tCmp fun i j => decide (j ≤ i)
abbrev tEqI : TE → TE → TE := tCmp fun i j => decide (i = j)
abbrev tNeI : TE → TE → TE := tCmp fun i j => !decide (i = j)
/-- is None -/
def tIsN (ta : TE) : TE := fun σ H Q => ta σ H fun x H1 => Q (.bl (decide (x = .non))) H1
def tNotN (ta : TE) : TE := fun σ H Q => ta σ H fun x H1 => Q (.bl (!decide (x = .non))) H1
/-- a comparison as a value, as a test -/
def tB (t : TE) : TT := fun σ H Q => t σ H fun x H1 => ∃ c, x = .bl c ∧ Q c H1
/-- an expression whose value is a bool, as a test -/
theorem pt_val {e : Expr} {t : TE} (h : PE X e t) (he : ∀ whole, isTrue e X.env whole = (do let v ← whole; standAt e.pos; holding [v] (truthy v)) := by intro _; rfl) : PT X e (tB t) := by
  intro pins s σ H Q I hw
  refine isTrue_plain (thn (h pins s σ H _ I hw) fun v s1 ⟨x, H1, I1, r1, q1⟩ => ?_) (he _)
  obtain ⟨d, rfl, q⟩ := q1
  cases r1
  exact wpAny_truthy_bool ⟨H1, I1, q⟩

/-! ### and, or, not -/
variable {tA tB' : TT} {rest : List Expr}
def tAnd (t u : TT) : TT := fun σ H Q => t σ H fun c H1 => if c = true then u σ H1 Q else Q false H1
def tOr (t u : TT) : TT := fun σ H Q => t σ H fun c H1 => if c = true then Q true H1 else u σ H1 Q
def tNot (t : TT) : TT := fun σ H Q => t σ H fun c H1 => Q (!c) H1
theorem pw_or1 (ha : PT X a tA) : PW X (.BoolOp .Or [a] pos) tA := by
  intro wh pins s σ H Q I h
  refine isTrue_or (thn (ha pins s σ H Q I h) fun c s1 e => ?_)
  cases c with
  | false => exact isTrue_or_nil e
  | true => exact e
theorem pw_or (ha : PT X a tA) (hb : PW X (.BoolOp .Or (b :: rest) pos) tB') : PW X (.BoolOp .Or (a :: b :: rest) pos) (tOr tA tB') := by
  intro wh pins s σ H Q I h
  refine isTrue_or (thn (ha pins s σ H _ I h) fun c s1 ⟨H1, I1, q1⟩ => ?_)
  cases c with
  | true => exact ⟨H1, I1, q1⟩
  | false => exact hb wh pins s1 σ H1 Q I1 q1
theorem pt_not (ha : PT X a tA) : PT X (.UnaryOp .Not a pos) (tNot tA) := by
  intro pins s σ H Q I h
  exact isTrue_not (ha pins s σ H (fun c H1 => Q (!c) H1) I h)
/-- .. as values (bools) -/
def tAndV (ta tb : TE) : TE := fun σ H Q => ta σ H fun x H1 => ∃ c, x = .bl c ∧ if c = true then tb σ H1 Q else Q (.bl false) H1
def tOrV (ta tb : TE) : TE := fun σ H Q => ta σ H fun x H1 => ∃ c, x = .bl c ∧ if c = true then Q (.bl true) H1 else tb σ H1 Q
def tNotV (ta : TE) : TE := fun σ H Q => ta σ H fun x H1 => ∃ c, x = .bl c ∧ Q (.bl (!c)) H1
/-- a if t else b -/
def tIf (t : TT) (ta tb : TE) : TE := fun σ H Q => t σ H fun c H1 => if c = true then ta σ H1 Q else tb σ H1 Q
theorem pe_ifExp {c : Expr} (hc : PT X c tA) (ha : PE X a ta) (hb : PE X b tb) : PE X (.IfExp c a b pos) (tIf tA ta tb) := by
  intro pins s σ H Q I h
  refine wpAny_IfExp (thn (hc pins s σ H _ I h) fun d s1 ⟨H1, I1, q1⟩ => ?_)
  cases d with
  | true => exact ha pins s1 σ H1 Q I1 q1
  | false => exact hb pins s1 σ H1 Q I1 q1
end
end L2

namespace L2
open PySem PySem.Spec PyProof.Rows

/-! ### a list, a tuple that is read: tracked, frozen, or an object of the module -/
def SqL (K : PySem.W.Frag) (H : Hp) (a : Addr) (xs : List V) : Prop :=
  Rd H a (.lst xs) ∨
    ∃ (o : Obj) (its : Array Value) (n : Nat), K.lookup a = some o ∧ o.cls = .type "list" ∧ o.dict = none ∧ o.data = .seq its n ∧ its.size ≤ sizeLine ∧ Vals xs its.toList
def SqT (K : PySem.W.Frag) (H : Hp) (a : Addr) (xs : List V) : Prop :=
  Rd H a (.tup xs) ∨
    ∃ (o : Obj) (its : Array Value) (n : Nat), K.lookup a = some o ∧ o.cls = .type "tuple" ∧ o.data = .seq its n ∧ its.size ≤ sizeLine ∧ Vals xs its.toList
def absV : Value → Option V
  | .none => some .non
  | .bool b => some (.bl b)
  | .int i _ => some (.int i)
  | .str x _ => some (.str x)
  | .bytes b _ => some (.byt b)
  | .float b _ => some (.flt b)
  | .ref a => some (.ref a)
  | .type n => some (.ty n)
  | _ => none
theorem RelV.abs {x : V} {u : Value} (r : RelV x u) : absV u = some x := by
  cases x with
  | non => cases r; rfl
  | bl _ => cases r; rfl
  | int _ => obtain ⟨t, rfl⟩ := r; rfl
  | str _ => obtain ⟨t, rfl⟩ := r; rfl
  | byt _ => obtain ⟨t, rfl⟩ := r; rfl
  | flt _ => obtain ⟨t, rfl⟩ := r; rfl
  | ref _ => cases r; rfl
  | ty _ => cases r; rfl
theorem RelV.inj {x y : V} {u : Value} (r : RelV x u) (q : RelV y u) : x = y := Option.some.inj (r.abs.symm.trans q.abs)
theorem Vals.inj : ∀ {xs ys : List V} {us : List Value}, Vals xs us → Vals ys us → xs = ys
  | _, _, _, .nil, .nil => rfl
  | _, _, _, .cons r t, .cons r' t' => by rw [r.inj r', Vals.inj t t']
section
variable {X : Cx} {pins : List (Addr × Obj)} {σ : St} {H : Hp} {s : Shared} {a : Addr} {xs ys : List V}
theorem SqL.of {K : PySem.W.Frag} (h : H a = some (.lst xs)) : SqL K H a xs := .inl (.inl h)
theorem SqT.of {K : PySem.W.Frag} (h : H a = some (.tup xs)) : SqT K H a xs := .inl (.inl h)
theorem Inv.list (I : Inv X pins σ H s) (h : SqL X.K H a xs) : ∃ its : List Value, Vals xs its ∧ PlainL s.heap a its.toArray ∧ xs.length ≤ sizeLine := by
  rcases h with h | ⟨o, its, n, hk, hc, hd, hs, hz, r⟩
  · obtain ⟨z, its, n, r, e⟩ := h.ok I.hok
    exact ⟨its, r, ⟨_, n, e, rfl, rfl, rfl⟩, z⟩
  · refine ⟨its.toList, r, ⟨o, n, I.kIn a o hk, hc, hd, by simpa using hs⟩, ?_⟩
    have e := r.length
    simp only [Array.length_toList] at e
    omega
theorem Inv.tuple (I : Inv X pins σ H s) (h : SqT X.K H a xs) : ∃ its : List Value, Vals xs its ∧ IsTup s.heap a its.toArray ∧ xs.length ≤ sizeLine := by
  rcases h with h | ⟨o, its, n, hk, hc, hs, hz, r⟩
  · obtain ⟨z, its, r, p⟩ := h.ok I.hok
    exact ⟨its, r, p, z⟩
  · refine ⟨its.toList, r, ⟨o, I.kIn a o hk, hc, n, by simpa using hs⟩, ?_⟩
    have e := r.length
    simp only [Array.length_toList] at e
    omega
theorem Inv.list_inj (I : Inv X pins σ H s) (h : SqL X.K H a xs) (h' : SqL X.K H a ys) : xs = ys := by
  obtain ⟨its, r, ⟨o, n, e, _, _, d⟩, _⟩ := I.list h
  obtain ⟨its', r', ⟨o', n', e', _, _, d'⟩, _⟩ := I.list h'
  rw [e] at e'; cases e'
  rw [d] at d'
  injection d' with d1 _
  have : its = its' := by simpa using congrArg Array.toList d1
  subst this
  exact r.inj r'
end

/-! ### another wish about exceptions -/
abbrev Cx.wish (X : Cx) (E : Value → Shared → Prop) : Cx := { X with xe := E }
/-- no exception leaves -/
abbrev Cx.nox (X : Cx) : Cx := X.wish fun _ _ => False
theorem Cx.Ok.wish {X : Cx} (ok : X.Ok) (E : Value → Shared → Prop) : (X.wish E).Ok :=
  ⟨ok.mod, ok.kind, ok.glob, ok.blt, ok.above, ok.inj, ok.has, ok.cab, ok.hd, ok.frames, ok.stk, ok.exf, ok.bs, ok.bsz, ok.noex, ok.exfs, ok.funs, ok.frf⟩
theorem Cx.Ok.unwish {X : Cx} {E : Value → Shared → Prop} (ok : (X.wish E).Ok) : X.Ok :=
  ⟨ok.mod, ok.kind, ok.glob, ok.blt, ok.above, ok.inj, ok.has, ok.cab, ok.hd, ok.frames, ok.stk, ok.exf, ok.bs, ok.bsz, ok.noex, ok.exfs, ok.funs, ok.frf⟩
section
variable {X : Cx} {pins : List (Addr × Obj)} {σ : St} {H : Hp} {s : Shared} {E : Value → Shared → Prop}
theorem Inv.wish (I : Inv X pins σ H s) (E : Value → Shared → Prop) : Inv (X.wish E) pins σ H s := ⟨I.ok.wish E, I.os, I.bare, I.base, I.loc, I.cell, I.free, I.freeC, I.pin, I.hok, I.len⟩
theorem Inv.unwish (I : Inv (X.wish E) pins σ H s) : Inv X pins σ H s := ⟨I.ok.unwish, I.os, I.bare, I.base, I.loc, I.cell, I.free, I.freeC, I.pin, I.hok, I.len⟩
theorem SP.unwish {D : Ends} {f : Flow} {s' : Shared} (h : SP (X.wish E) pins D f s') : SP X pins D f s' := by
  cases f with
  | next => obtain ⟨σ', H', I, q⟩ := h; exact ⟨σ', H', I.unwish, q⟩
  | brk => obtain ⟨σ', H', I, q⟩ := h; exact ⟨σ', H', I.unwish, q⟩
  | cont => obtain ⟨σ', H', I, q⟩ := h; exact ⟨σ', H', I.unwish, q⟩
  | ret u => obtain ⟨v, σ', H', I, r, q⟩ := h; exact ⟨v, σ', H', I.unwish, r, q⟩
theorem PE.nox {e : Expr} {t : TE} (h : PE X.nox e t) : PE X e t := fun pins s σ H Q I hw =>
  wpAny_mono (h pins s σ H Q (I.wish _) hw) (fun _ _ ⟨v, H', I', r, q⟩ => ⟨v, H', I'.unwish, r, q⟩) fun _ _ z => False.elim z
theorem PT.nox {e : Expr} {t : TT} (h : PT X.nox e t) : PT X e t := fun pins s σ H Q I hw =>
  wpAny_mono (h pins s σ H Q (I.wish _) hw) (fun _ _ ⟨H', I', q⟩ => ⟨H', I'.unwish, q⟩) fun _ _ z => False.elim z
theorem PSs.nox {st : List Stmt} {t : TS} (h : PSs X.nox st t) : PSs X st t := fun pins s σ H D I hw =>
  wpAny_mono (h pins s σ H D (I.wish _) hw) (fun _ _ q => q.unwish) fun _ _ z => False.elim z
end

/-! ### blocks and small statements -/
section
variable {X : Cx} {st : Stmt} {rest : List Stmt} {t u : TS} {e : Expr} {te : TE} {pos : Pos}
def tNext : TS := fun D σ H => D.nx σ H
def tSeq (t u : TS) : TS := fun D σ H => t { D with nx := u D } σ H
theorem pss_nil : PSs X [] tNext := fun _ _ σ H _ I h => wpAny_execs_nil ⟨σ, H, I, h⟩
theorem pss_cons (h1 : PS X st t) (h2 : PSs X rest u) : PSs X (st :: rest) (tSeq t u) := by
  intro pins s σ H D I h
  refine wpAny_execs_cons (thn (h1 pins s σ H { D with nx := u D } I h) fun f s1 q => ?_)
  cases f with
  | next =>
    obtain ⟨σ', H', I', q⟩ := q
    exact h2 pins s1 σ' H' D I' q
  | ret v => exact q
  | brk => exact q
  | cont => exact q
theorem pss_one (h1 : PS X st t) : PSs X [st] t := by
  intro pins s σ H D I h
  refine wpAny_execs_cons (thn (h1 pins s σ H D I h) fun f s1 q => ?_)
  cases f with
  | next => exact wpAny_execs_nil q
  | ret v => exact q
  | brk => exact q
  | cont => exact q
def tBreak : TS := fun D σ H => D.bk σ H
def tCont : TS := fun D σ H => D.ct σ H
/-- in a def's body nothing is shown -/
theorem Inv.quiet {pins : List (Addr × Obj)} {σ : St} {H : Hp} {s : Shared} (I : Inv X pins σ H s) : interactive X.env = false := by simp [interactive, I.ok.kind]
/-- an expression whose value is dropped -/
def tDrop (te : TE) : TS := fun D σ H => te σ H fun _ H1 => D.nx σ H1
theorem ps_expr (he : PE X e te) (hs : swapsWith e none pos.line X.env = pure false := by rfl) : PS X (.Expr e pos) (tDrop te) := by
  intro pins s σ H D I h
  exact wpAny_Expr_any (thn (he pins s σ H _ I h) fun v s1 ⟨x, H1, I1, r1, q1⟩ => ⟨σ, H1, I1, q1⟩) I.quiet hs
def tRet (te : TE) : TS := fun D σ H => te σ H D.rt
theorem ps_ret (he : PE X e te) : PS X (.Return (some e) pos) (tRet te) := by
  intro pins s σ H D I h
  exact wpAny_Return_some (thn (he pins s σ H _ I h) fun v s1 ⟨x, H1, I1, r1, q1⟩ => ⟨x, σ, H1, I1, r1, q1⟩)
def tRetN : TS := fun D _ H => D.rt .non H
def tIfS (c : TT) (t u : TS) : TS := fun D σ H => c σ H fun b H1 => if b = true then t D σ H1 else u D σ H1
theorem ps_if {c : Expr} {a b : List Stmt} {tc : TT} (hc : PT X c tc) (ha : PSs X a t) (hb : PSs X b u) : PS X (.If c a b pos) (tIfS tc t u) := by
  intro pins s σ H D I h
  refine wpAny_If (thn (hc pins s σ H _ I h) fun d s1 ⟨H1, I1, q1⟩ => ?_)
  cases d with
  | true => exact ha pins s1 σ H1 D I1 q1
  | false => exact hb pins s1 σ H1 D I1 q1
/-- code that the proof never comes to -/
def tNever : TS := fun _ _ _ => False
end

/-! ### targets -/
abbrev TG := V → St → Hp → (St → Hp → Prop) → Prop
abbrev TGs := List V → St → Hp → (St → Hp → Prop) → Prop
def PG (X : Cx) (target : Expr) (t : TG) : Prop :=
  ∀ (pins : List (Addr × Obj)) (s : Shared) (σ : St) (H : Hp) (v : V) (u : Value) (Q : St → Hp → Prop), Inv X pins σ H s → RelV v u → t v σ H Q →
    wpAny (model X.prog X.w) X.A (assign target X.env u) (fun _ s' => ∃ σ' H', Inv X pins σ' H' s' ∧ Q σ' H') X.xe s
/-- several targets, one after another -/
def PGs (X : Cx) (ts : List Expr) (t : TGs) : Prop :=
  ∀ (pins : List (Addr × Obj)) (s : Shared) (σ : St) (H : Hp) (vs : List V) (us : List Value) (Q : St → Hp → Prop), Inv X pins σ H s → Vals vs us → t vs σ H Q →
    wpAny (model X.prog X.w) X.A (assignInOrder ((assignEach ts X.env).map (·.2)) us) (fun _ s' => ∃ σ' H', Inv X pins σ' H' s' ∧ Q σ' H') X.xe s
/-- o[i] = v, by values -/
abbrev TSet := V → V → V → Hp → (Hp → Prop) → Prop
def PSet (X : Cx) (t : TSet) : Prop :=
  ∀ (pins : List (Addr × Obj)) (s : Shared) (σ : St) (H : Hp) (o i v : V) (ov iv u : Value) (Q : Hp → Prop), Inv X pins σ H s → RelV o ov → RelV i iv → RelV v u → t o i v H Q →
    wpAny (model X.prog X.w) X.A (setItem ov iv u) (fun _ s' => ∃ H', Inv X pins σ H' s' ∧ Q H') X.xe s
/-- a op= b, by values -/
abbrev TIp := V → V → Hp → VK → Prop
def PIp (X : Cx) (op : Operator) (t : TIp) : Prop :=
  ∀ (pins : List (Addr × Obj)) (s : Shared) (σ : St) (H : Hp) (x y : V) (v u : Value) (Q : VK), Inv X pins σ H s → RelV x v → RelV y u → t x y H Q →
    wpAny (model X.prog X.w) X.A (inplaceOp op v u) (EP X pins σ Q) X.xe s
section
variable {X : Cx} {pos : Pos}
def gName (i : Nat) : TG := fun v σ H Q => Q (σ.set i (some v)) H
theorem pg_name {i : Nat} {x : Str} (hN : X.N.Nodup) (hi : X.N[i]? = some x) (hx : Loc X.env.scope x) (hf : X.fn x = true ∨ X.env.scope.names.lookup x = some .local := by first | exact .inl rfl | exact .inr rfl | assumption) : PG X (.Name x pos) (gName i) := by
  intro pins s σ H v u Q I r h
  exact wpAny_assign_Name (store_ok I hN hi hx r (fun s' I' => ⟨_, H, I', h⟩) hf)
def gNil : TGs := fun vs σ H Q => vs = [] ∧ Q σ H
def gCons (t : TG) (u : TGs) : TGs := fun vs σ H Q => ∃ v r, vs = v :: r ∧ t v σ H fun σ' H' => u r σ' H' Q
theorem pgs_nil : PGs X [] gNil := by
  intro pins s σ H vs us Q I r h
  obtain ⟨e, h⟩ := h
  subst e
  cases r
  exact assignInOrder_nil ⟨σ, H, I, h⟩
theorem pgs_cons {e : Expr} {es : List Expr} {t : TG} {u : TGs} (h1 : PG X e t) (h2 : PGs X es u)
    (hs : (assignEach (e :: es) X.env).map (·.2) = assign e X.env :: (assignEach es X.env).map (·.2) := by rfl) : PGs X (e :: es) (gCons t u) := by
  intro pins s σ H vs us Q I r h
  obtain ⟨v, vr, e1, h⟩ := h
  subst e1
  cases r with
  | cons r rr =>
    rw [hs]
    refine assignInOrder_cons (thn (h1 pins s σ H _ _ _ I r h) fun _ s1 ⟨σ1, H1, I1, q1⟩ => ?_)
    exact h2 pins s1 σ1 H1 _ _ Q I1 rr q1
/-- (a, b, ..) = a tuple of that length -/
def gTup (K : PySem.W.Frag) (n : Nat) (t : TGs) : TG := fun v σ H Q => ∃ a xs, v = .ref a ∧ SqT K H a xs ∧ xs.length = n ∧ t xs σ H Q
theorem pg_tup {es : List Expr} {k : Nat} {t : TGs} {n : Nat} (hc : X.calm = true) (h : PGs X es t)
    (hn : (assignEach es X.env).length = n := by rfl) (hst : (assignEach es X.env).findIdx? (·.1) = none := by rfl) : PG X (.Tuple es k pos) (gTup X.K n t) := by
  intro pins s σ H v u Q I r hw
  obtain ⟨a, xs, e1, hq, hl, hw⟩ := hw
  subst e1
  cases r
  obtain ⟨its, rv, ht, hz⟩ := I.tuple hq
  refine assign_Tuple_tuple (I.ok.hd hc) ht (by simp [hn, ← hl, rv.length]) hst fun h' hx => ?_
  have I1 : Inv X pins σ H { s with heap := h' } := I.kept (t' := s.toks) fun b o e => hx b o (Nat.ne_of_lt (Heap.lt_size e)) e
  exact h pins _ σ H xs _ Q I1 (by simpa using rv) hw
/-- o[i] = .. -/
def gSub (to ti : TE) (t : TSet) : TG := fun v σ H Q => to σ H fun o H1 => ti σ H1 fun i H2 => t o i v H2 fun H3 => Q σ H3
theorem pg_sub {o i : Expr} {to ti : TE} {t : TSet} (ho : PE X o to) (hi : PE X i ti) (hs : PSet X t)
    (ha : ∀ v, assign (.Subscript o i pos) X.env v = (do
      let ov ← holding [v] (eval o X.env)
      let iv ← holding [v, ov] (eval i X.env)
      standAt pos
      holding [v, ov, iv] (setItem ov iv v)
      release [v, ov, iv] []) := by intro _; rfl) : PG X (.Subscript o i pos) (gSub to ti t) := by
  intro pins s σ H v u Q I r h
  rw [ha]
  refine wpAny_bind (wpAny_holding (thn (ho pins s σ H _ I h) fun ov s1 ⟨x, H1, I1, r1, q1⟩ => ?_))
  refine wpAny_bind (wpAny_holding (thn (hi pins s1 σ H1 _ I1 q1) fun iv s2 ⟨y, H2, I2, r2, q2⟩ => ?_))
  refine wpAny_bind (wpAny_standAt (wpAny_bind (wpAny_holding (thn (hs pins s2 σ H2 x y v ov iv u _ I2 r1 r2 r q2) fun _ s3 ⟨H3, I3, q3⟩ => ?_))))
  exact wpAny_release ⟨σ, H3, I3, q3⟩
/-- target = value -/
def tAsg (te : TE) (g : TG) : TS := fun D σ H => te σ H fun x H1 => g x σ H1 D.nx
theorem ps_asg {tg e : Expr} {te : TE} {g : TG} (he : PE X e te) (hg : PG X tg g) (hs : swapsWithSole [tg] e pos.line X.env = pure false := by rfl) (hw : swappedStores [tg] e X.env = pure none := by rfl)
    (h1 : (assignEach [tg] X.env).map (·.2) = [assign tg X.env] := by rfl) : PS X (.Assign [tg] e pos) (tAsg te g) := by
  intro pins s σ H D I h
  refine wpAny_Assign_stores (thn (he pins s σ H _ I h) fun v s1 ⟨x, H1, I1, r1, q1⟩ => ?_) hs hw
  rw [h1]
  exact thn (hg pins s1 σ H1 x v _ I1 r1 q1) fun _ s2 q => q
/-- name = value -/
theorem ps_set {i : Nat} {x : Str} {e : Expr} {te : TE} {pos' : Pos} (hN : X.N.Nodup) (hi : X.N[i]? = some x) (hx : Loc X.env.scope x) (he : PE X e te) (hs : swapsWith e (some (.Name x pos')) pos.line X.env = pure false := by rfl) (hf : X.fn x = true ∨ X.env.scope.names.lookup x = some .local := by first | exact .inl rfl | exact .inr rfl | assumption) :
    PS X (.Assign [.Name x pos'] e pos) (tAsg te (gName i)) := by
  intro pins s σ H D I h
  refine wpAny_Assign_Name (thn (he pins s σ H _ I h) fun v s1 ⟨y, H1, I1, r1, q1⟩ => ?_) hs
  exact store_ok I1 hN hi hx r1 (fun s2 I2 => ⟨_, H1, I2, q1⟩) hf
/-- a, b = x, y with plain local names: stored from the right; the pair itself is not tracked (the opening rows as in PyProof/Rows/TupAssign.lean:23) -/
def tPar (i j : Nat) (ta : TA) : TS := fun D σ H => ta σ H fun vs H1 => ∃ v w, vs = [v, w] ∧ D.nx ((σ.set i (some v)).set j (some w)) H1
/-- name op= e -/
def tAug (i : Nat) (te : TE) (ti : TIp) : TS := fun D σ H => ∃ x, σ[i]? = some (some x) ∧ te σ H fun y H1 => ti x y H1 fun z H2 => D.nx (σ.set i (some z)) H2
/-- o[i] op= e -/
def tAugS (to ti te : TE) (tget : V → V → Hp → VK → Prop) (tip : TIp) (tset : TSet) : TS := fun D σ H => to σ H fun o H1 => ti σ H1 fun i H2 => tget o i H2 fun x H3 => te σ H3 fun y H4 => tip x y H4 fun z H5 => tset o i z H5 fun H6 => D.nx σ H6
/-- o[i], by values -/
def PGet (X : Cx) (t : V → V → Hp → VK → Prop) : Prop :=
  ∀ (pins : List (Addr × Obj)) (s : Shared) (σ : St) (H : Hp) (o i : V) (ov iv : Value) (Q : VK), Inv X pins σ H s → RelV o ov → RelV i iv → t o i H Q →
    wpAny (model X.prog X.w) X.A (getItem ov iv) (EP X pins σ Q) X.xe s
/-- ints -/
def ipI (f : Int → Int → Int) : TIp := fun x y H Q => ∃ i j, x = .int i ∧ y = .int j ∧ Q (.int (f i j)) H
end

/-! ### while -/
section
variable {X : Cx} {pos : Pos}
/-- the invariant W with its measure -/
def tWhile (c : TT) (tb : TS) : TS := fun D σ H => ∃ W : Nat → St → Hp → Prop, (∃ m, W m σ H) ∧ ∀ m σ H, W m σ H →
  c σ H fun b H1 => if b = true then ∃ N : St → Hp → Prop, (∀ σ' H', N σ' H' → ∃ m', m' < m ∧ W m' σ' H') ∧ tb { D with nx := N, ct := N, bk := D.nx } σ H1 else D.nx σ H1
theorem ps_while {c : Expr} {body : List Stmt} {tc : TT} {tb : TS} (hp : PassesOwn (model X.prog X.w) X.A X.env X.xe) (hc : PT X c tc) (hb : PSs X body tb) : PS X (.While c body [] pos) (tWhile tc tb) := by
  intro pins s σ H D I h
  obtain ⟨W, ⟨m0, w0⟩, turn⟩ := h
  refine wpAny_While (codeAny_whileLoop (fun n s' => ∃ σ' H', Inv X pins σ' H' s' ∧ W n σ' H') ?_ m0 ⟨σ, H, I, w0⟩)
  rintro n s1 ⟨σ1, H1, I1, w1⟩
  refine wpAny_passesOwn hp (thn (hc pins s1 σ1 H1 _ I1 (turn n σ1 H1 w1)) fun b s2 ⟨H2, I2, q2⟩ => ?_)
  cases b with
  | true =>
    obtain ⟨N, hN, q2⟩ := q2
    rw [if_pos rfl]
    refine wpAny_passesOwn hp (thn (hb pins s2 σ1 H2 _ I2 q2) fun f s3 q3 => ?_)
    cases f with
    | next =>
      obtain ⟨σ3, H3, I3, n3⟩ := q3
      obtain ⟨m', hm, w3⟩ := hN σ3 H3 n3
      exact ⟨m', hm, σ3, H3, I3, w3⟩
    | cont =>
      obtain ⟨σ3, H3, I3, n3⟩ := q3
      obtain ⟨m', hm, w3⟩ := hN σ3 H3 n3
      exact ⟨m', hm, σ3, H3, I3, w3⟩
    | brk => exact q3
    | ret v => exact q3
  | false =>
    rw [if_neg Bool.false_ne_true]
    exact wpAny_execs_nil ⟨σ1, H2, I2, q2⟩
end

/-! ### what a loop or a comprehension walks -/
/-- at turn i: it yields x (the heap may grow), or it stops -/
structure It where
  go : Nat → Hp → Prop
  yld : Nat → Hp → V → Hp → Prop
  stop : Nat → Hp → Prop
/-- the iterator's own objects may turn: they are not the frame's, not pinned, younger than the entry (or a comprehension's own) -/
def FpOk (X : Cx) (pins : List (Addr × Obj)) (H : Hp) (b : Addr) : Prop :=
  H b = none ∧ b ≠ X.env.locals ∧ b ∉ X.fs ∧ (b ∈ X.ex ∨ X.s₀.heap.objs.size ≤ b) ∧ (∀ x c, X.env.cells.lookup x = some c → c ≠ b) ∧ ∀ p ∈ X.pn ++ pins, p.1 ≠ b
theorem Inv.fpOk {X : Cx} {pins : List (Addr × Obj)} {σ : St} {H H' : Hp} {s : Shared} {b : Addr} (I : Inv X pins σ H s) (hb : s.heap.objs.size ≤ b) (hn : H' b = none) : FpOk X pins H' b := by
  refine ⟨hn, Nat.ne_of_gt (Nat.lt_of_lt_of_le I.lt hb), I.nofs hb, .inr (Nat.le_trans I.sz hb), fun x c e z => ?_, fun p hp z => ?_⟩
  · obtain ⟨v, q⟩ := I.cell x c e
    exact absurd (Nat.lt_of_lt_of_le q.lt (by rw [z]; exact hb)) (Nat.lt_irrefl _)
  · exact absurd (Nat.lt_of_lt_of_le (Heap.lt_size (I.pin p hp).1) (by rw [z]; exact hb)) (Nat.lt_irrefl _)
structure Turn (P : Program) (w : World) (K : PySem.W.Frag) (tg : Expr) (J : It) (fp : List Addr) (it : Addr) (tn : Nat → Heap → Prop) : Prop where
  mem : it ∈ fp
  obj : ∀ i h, tn i h → ∀ b ∈ fp, ∃ o, h.get? b = some o ∧ ∀ v, o.data ≠ .cell v
  keep : ∀ i h h', tn i h → (∀ b ∈ fp, ∀ o, h.get? b = some o → h'.get? b = some o) → tn i h'
  item : ∀ (X : Cx), X.prog = P → X.w = w → X.K = K → X.calm = true → ∀ (i : Nat) (pins : List (Addr × Obj)) (s : Shared) (σ : St) (H : Hp) (E : Value → Shared → Prop), Inv X pins σ H s → (∀ b ∈ fp, FpOk X pins H b) → tn i s.heap → J.go i H →
    wpAny (model P w) X.A (pyNext (.ref it)) (fun r s1 => ∃ u, r = some u ∧
      wpAny (model P w) X.A (letOwnedTupleGo tg (.ref it) u) (fun _ s2 => ∃ x H', Inv X pins σ H' s2 ∧ RelV x u ∧ J.yld i H x H' ∧ tn (i + 1) s2.heap ∧ ∀ b ∈ fp, H' b = none) E s1) E s
  done : ∀ (X : Cx), X.prog = P → X.w = w → X.K = K → X.calm = true → ∀ (i : Nat) (pins : List (Addr × Obj)) (s : Shared) (σ : St) (H : Hp) (E : Value → Shared → Prop), Inv X pins σ H s → (∀ b ∈ fp, FpOk X pins H b) → tn i s.heap → J.stop i H →
    wpAny (model P w) X.A (pyNext (.ref it)) (fun r s1 => r = none ∧ Inv X pins σ H s1) E s
  self : ∀ (A : Around) (i : Nat) (s : Shared) (Q : Value → Shared → Prop) (E : Value → Shared → Prop), tn i s.heap → Q (.ref it) s → wpAny (model P w) A (pyIter (.ref it)) Q E s
abbrev TI := St → Hp → (It → Hp → Prop) → Prop
/-- an iterator has come -/
def PIE (X : Cx) (pins : List (Addr × Obj)) (σ : St) (tg : Expr) (R : It → Hp → Prop) (itv : Value) (s2 : Shared) : Prop :=
  ∃ (it : Addr) (fp : List Addr) (tn : Nat → Heap → Prop) (J : It) (H' : Hp), itv = .ref it ∧ Inv X pins σ H' s2 ∧ Turn X.prog X.w X.K tg J fp it tn ∧ tn 0 s2.heap ∧ (∀ b ∈ fp, FpOk X pins H' b) ∧ R J H'
def PI (X : Cx) (tg iter : Expr) (wi : TI) : Prop :=
  ∀ (pins : List (Addr × Obj)) (s : Shared) (σ : St) (H : Hp) (R : It → Hp → Prop), Inv X pins σ H s → wi σ H R →
    wpAny (model X.prog X.w) X.A (eval iter X.env) (fun v s1 => wpAny (model X.prog X.w) X.A (pyIter v) (PIE X pins σ tg R) X.xe s1) X.xe s

/-- the step ahead of the store is nothing for an iterator that keeps no tuple -/
theorem go_of {M : Model} {A : Around} {E : Value → Shared → Prop} {s : Shared} {tg : Expr} {it : Addr} {u : Value} {o : Obj} {n : String} {vs : Array Value} {Q : Unit → Shared → Prop} (ho : s.heap.get? it = some o) (hc : o.cls = .type n) (hd : o.data = .fields vs)
    (hn : ["enumerate", "zip", "dict_itemiterator", "dict_reverseitemiterator", "odict_iterator", "itertools.zip_longest", "itertools.pairwise"].contains n = false) (hQ : Q () s) : wpAny M A (letOwnedTupleGo tg (.ref it) u) Q E s := by
  unfold letOwnedTupleGo
  cases tg <;> first
    | exact wpAny_pure hQ
    | (cases u <;> first
        | exact wpAny_pure hQ
        | (refine wpAny_bind (wpAny_load ho ?_)
           rw [hc, hd]
           show wpAny M A (if (["enumerate", "zip", "dict_itemiterator", "dict_reverseitemiterator", "odict_iterator", "itertools.zip_longest", "itertools.pairwise"].contains n && vs[0]? == some (rawInt _)) = true then _ else _) Q E s
           rw [if_neg (by intro h; rw [hn, Bool.false_and] at h; cases h)]
           exact wpAny_pure hQ))

/-- the list at a, as it stands at each turn (a loop may append to it) -/
def Itl (K : PySem.W.Frag) (a : Addr) : It :=
  ⟨fun i H => ∃ xs x, SqL K H a xs ∧ xs[i]? = some x, fun i H x H' => H' = H ∧ ∀ xs, SqL K H a xs → xs[i]? = some x, fun i H => ∃ xs, SqL K H a xs ∧ xs.length ≤ i⟩
def Itt (K : PySem.W.Frag) (a : Addr) : It :=
  ⟨fun i H => ∃ xs x, SqT K H a xs ∧ xs[i]? = some x, fun i H x H' => H' = H ∧ ∀ xs, SqT K H a xs → xs[i]? = some x, fun i H => ∃ xs, SqT K H a xs ∧ xs.length ≤ i⟩
/-- lo, lo + 1, .. (n of them) -/
def Itr (lo : Int) (n : Nat) : It := ⟨fun i _ => i < n, fun i H x H' => H' = H ∧ x = .int (lo + i), fun i _ => n ≤ i⟩
theorem turn_list {P : Program} {w : World} {K : PySem.W.Frag} {tg : Expr} (a it : Addr) : Turn P w K tg (Itl K a) [it] it (fun i h => h.IsListIter it a i) where
  mem := by simp
  obj := fun i h st b hb => by
    have e : b = it := by simpa using hb
    subst e
    obtain ⟨o, e, c, d⟩ := st
    exact ⟨o, e, fun v z => by rw [d] at z; cases z⟩
  keep := fun i h h' st k => st.at fun o e => k it (by simp) o e
  item := by
    intro X hP hw hK hc i pins s σ H E I hf st hg
    subst hP hw hK
    obtain ⟨xs, x, hq, hx⟩ := hg
    obtain ⟨its, rv, p, hz⟩ := I.list hq
    obtain ⟨u, hu, ru⟩ := rv.get hx
    obtain ⟨f0, f1, f2, f3, f4, f5⟩ := hf it (by simp)
    refine wpAny_pyNext_list_item st p.isList (x := u) (by simpa using hu) fun h' st' sb => ?_
    have I1 : Inv X pins σ H { s with heap := h' } := I.turned (t' := s.toks) (fun b o hb e => (sb.2 b hb).trans e) f0 f1 f3 f4 f5
    obtain ⟨o, e, c, d⟩ := id st'
    exact ⟨u, rfl, go_of (s := { s with heap := h' }) e c d (by decide) ⟨x, H, I1, ru, ⟨rfl, fun ys hy => by rw [I.list_inj hy hq]; exact hx⟩, st', fun b hb => (hf b hb).1⟩⟩
  done := by
    intro X hP hw hK hc i pins s σ H E I hf st hg
    subst hP hw hK
    obtain ⟨xs, hq, hx⟩ := hg
    obtain ⟨its, rv, p, hz⟩ := I.list hq
    obtain ⟨f0, f1, f2, f3, f4, f5⟩ := hf it (by simp)
    have hl := rv.length
    exact wpAny_pyNext_list_end (I.ok.hd hc) st p.isList (by simp; omega) fun h' eb => ⟨rfl, I.turned (t' := s.toks) (fun b o hb e => eb b o hb e) f0 f1 f3 f4 f5⟩
  self := fun _ _ _ _ _ st h => wpAny_pyIter_listiter st h
theorem turn_range {P : Program} {w : World} {K : PySem.W.Frag} {tg : Expr} (it : Addr) (lo : Int) (n : Nat) : Turn P w K tg (Itr lo n) [it] it (fun i h => IsRangeIter h it (lo + (i : Nat) * 1) ((n : Int) - (i : Nat)) 1) where
  mem := by simp
  obj := fun i h st b hb => by
    have e : b = it := by simpa using hb
    subst e
    exact ⟨_, st, fun v z => by
      have z' : Data.fields _ = Data.cell v := z
      cases z'⟩
  keep := fun i h h' st k => k it (by simp) _ st
  item := by
    intro X hP hw hK hc i pins s σ H E I hf st hg
    subst hP hw hK
    obtain ⟨f0, f1, f2, f3, f4, f5⟩ := hf it (by simp)
    have W := Walks.range (prog := X.prog) (w := X.w) (I.ok.hd hc) it lo 1 n
    refine W.item i s _ _ hg st fun v h' tk hv st' kk => ?_
    obtain ⟨t, rfl⟩ := hv
    have I1 : Inv X pins σ H { s with heap := h', toks := tk } := I.turned (fun b o hb e => kk b o (by simpa using hb) e) f0 f1 f3 f4 f5
    refine ⟨_, rfl, go_of (s := { s with heap := h', toks := tk }) (n := "range_iterator") st' rfl rfl (by decide) ⟨.int (lo + i), H, I1, ⟨t, ?_⟩, ⟨rfl, rfl⟩, st', fun b hb => (hf b hb).1⟩⟩
    rw [Int.mul_one]
  done := by
    intro X hP hw hK hc i pins s σ H E I hf st hg
    subst hP hw hK
    obtain ⟨f0, f1, f2, f3, f4, f5⟩ := hf it (by simp)
    exact wpAny_pyNext_range_end (I.ok.hd hc) st (by have : n ≤ i := hg; omega) fun h' eb => ⟨rfl, I.turned (t' := s.toks) (fun b o hb e => eb b o hb e) f0 f1 f3 f4 f5⟩
  self := fun _ _ _ _ _ st h => wpAny_pyIter_rangeiter st h
end L2

namespace L2
open PySem PySem.Spec PyProof.Rows
section
variable {X : Cx} {tg : Expr}
def iList (K : PySem.W.Frag) (tl : TE) : TI := fun σ H R => tl σ H fun x H1 => ∃ a, x = .ref a ∧ (∃ xs, SqL K H1 a xs) ∧ R (Itl K a) H1
def iTup (K : PySem.W.Frag) (tl : TE) : TI := fun σ H R => tl σ H fun x H1 => ∃ a, x = .ref a ∧ (∃ xs, SqT K H1 a xs) ∧ R (Itt K a) H1
theorem pi_list {l : Expr} {tl : TE} (hl : PE X l tl) : PI X tg l (iList X.K tl) := by
  intro pins s σ H R I h
  refine thn (hl pins s σ H _ I h) fun v s1 ⟨x, H1, I1, r1, q1⟩ => ?_
  obtain ⟨a, e, ⟨xs, hq⟩, q⟩ := q1
  subst e
  cases r1
  obtain ⟨its, rv, p, hz⟩ := I1.list hq
  refine wpAny_pyIter_list p.isList ?_
  refine ⟨s1.heap.objs.size, [s1.heap.objs.size], _, _, H1, rfl, I1.kept (t' := s1.toks) fun b o e => Heap.get?_push_of_some _ e, turn_list a _, ⟨_, Heap.get?_push_size _ rfl, rfl, rfl⟩, fun b hb => ?_, q⟩
  have e : b = s1.heap.objs.size := by simpa using hb
  subst e
  exact I1.fpOk (Nat.le_refl _) (I1.hok.fresh (Nat.le_refl _))
/-- a range object just made, walked -/
theorem range_it {pins : List (Addr × Obj)} {σ : St} {H : Hp} {s : Shared} {R : It → Hp → Prop} {E : Value → Shared → Prop} {lo hi : Int} {t u v : Tok} {tk : Nat} (I : Inv X pins σ H s) (h1 : -(2 ^ 62) ≤ lo) (h2 : lo < 2 ^ 62) (h3 : -(2 ^ 62) ≤ hi) (h4 : hi < 2 ^ 62)
    (q : R (Itr lo (hi - lo).toNat) H) : wpAny (model X.prog X.w) X.A (pyIter (.ref s.heap.objs.size)) (PIE X pins σ tg R) E { s with heap := s.heap.push { cls := .type "range", data := .fields #[.int lo t, .int hi u, .int 1 v] }, toks := tk } := by
  refine wpAny_pyIter_range (IsRange.new ..) (small_one h1 h2 h3 h4) ?_
  have I1 : Inv X pins σ H { s with heap := s.heap.push { cls := .type "range", data := .fields #[.int lo t, .int hi u, .int 1 v] }, toks := tk } := I.kept fun b o e => Heap.get?_push_of_some _ e
  refine ⟨(s.heap.push { cls := .type "range", data := .fields #[.int lo t, .int hi u, .int 1 v] }).objs.size, [(s.heap.push { cls := .type "range", data := .fields #[.int lo t, .int hi u, .int 1 v] }).objs.size], _, _, H, rfl,
    I1.kept (t' := tk) fun b o e => Heap.get?_push_of_some _ e, turn_range _ lo (hi - lo).toNat, ?_, fun b hb => ?_, q⟩
  · have e1 : lo + ((0 : Nat) : Int) * 1 = lo := by simp
    have e2 : (((hi - lo).toNat : Nat) : Int) - ((0 : Nat) : Int) = Builtin.Range.rangeSize lo hi 1 := by rw [rangeSize_one]; split <;> omega
    show IsRangeIter _ _ (lo + ((0 : Nat) : Int) * 1) ((((hi - lo).toNat : Nat) : Int) - ((0 : Nat) : Int)) 1
    rw [e1, e2]
    exact Heap.get?_push_size _ rfl
  · have e : b = (s.heap.push { cls := .type "range", data := .fields #[.int lo t, .int hi u, .int 1 v] }).objs.size := by simpa using hb
    subst e
    exact I1.fpOk (Nat.le_refl _) (I1.hok.fresh (Nat.le_refl _))
def iRng1 (ta : TA) : TI := fun σ H R => ta σ H fun vs H1 => ∃ j : Int, vs = [.int j] ∧ -(2 ^ 62) ≤ j ∧ j < 2 ^ 62 ∧ R (Itr 0 j.toNat) H1
def iRng2 (ta : TA) : TI := fun σ H R => ta σ H fun vs H1 => ∃ i j : Int, vs = [.int i, .int j] ∧ (-(2 ^ 62) ≤ i ∧ i < 2 ^ 62 ∧ -(2 ^ 62) ≤ j ∧ j < 2 ^ 62) ∧ R (Itr i (j - i).toNat) H1
theorem pi_range1 {a : Expr} {ta : TA} {p pos : Pos} (hg : Gl X "range") (hm : X.mg "range" = none) (ha : PA X [a] ta) (hs : starEach [a] X.env = [(false, eval a X.env)] := by rfl) : PI X tg (.Call (.Name "range" p) [a] [] pos) (iRng1 ta) := by
  intro pins s σ H R I h
  refine Call_ (ld_blt I hg hm boot_range (PyProof.Rows.callWith_type1 (thn (ha pos pins s σ H _ I h) fun us s1 ⟨vs, H1, I1, r1, q1⟩ => ?_) hs rfl))
  obtain ⟨j, e, q1, q2, q⟩ := q1
  subst e
  cases r1 with
  | cons r rr =>
    cases rr
    obtain ⟨t, rfl⟩ := r
    exact call_range_1 (range_it I1 (by omega) (by omega) q1 q2 (by simpa using q))
theorem pi_range2 {a b : Expr} {ta : TA} {p pos : Pos} (hg : Gl X "range") (hm : X.mg "range" = none) (ha : PA X [a, b] ta) (hs : starEach [a, b] X.env = [(false, eval a X.env), (false, eval b X.env)] := by rfl) (hs2 : starEach [b] X.env = [(false, eval b X.env)] := by rfl) :
    PI X tg (.Call (.Name "range" p) [a, b] [] pos) (iRng2 ta) := by
  intro pins s σ H R I h
  refine Call_ (ld_blt I hg hm boot_range (PyProof.Rows.callWith_type1 (thn (ha pos pins s σ H _ I h) fun us s1 ⟨vs, H1, I1, r1, q1⟩ => ?_) (by rw [hs, hs2]) (by rw [hs2]; rfl)))
  obtain ⟨i, j, e, ⟨q1, q2, q3, q4⟩, q⟩ := q1
  subst e
  cases r1 with
  | cons r rr =>
    cases rr with
    | cons r' rr =>
      cases rr
      obtain ⟨t, rfl⟩ := r
      obtain ⟨t', rfl⟩ := r'
      exact call_range_2 (range_it I1 q1 q2 q3 q4 q)

/-! ### for -/
/-- W: the invariant by the turn and a measure; N: what the body is to reach -/
def tFor (wi : TI) (g : TG) (tb : TS) : TS := fun D σ H => wi σ H fun J H1 => ∃ W : Nat → Nat → St → Hp → Prop, (∃ m, W 0 m σ H1) ∧ ∀ i m σ H, W i m σ H →
  (J.stop i H ∧ D.nx σ H) ∨ (J.go i H ∧ ∃ N : St → Hp → Prop, (∀ σ' H', N σ' H' → ∃ m', m' < m ∧ W (i + 1) m' σ' H') ∧ ∀ x H', J.yld i H x H' → g x σ H' fun σ2 H2 => tb { D with nx := N, ct := N, bk := D.nx } σ2 H2)
/-- the records at fp as they stand -/
def pinsAt (fp : List Addr) (h : Heap) : List (Addr × Obj) := fp.filterMap fun b => (h.get? b).map fun o => (b, o)
theorem mem_pinsAt {fp : List Addr} {h : Heap} {b : Addr} {o : Obj} (hb : b ∈ fp) (e : h.get? b = some o) : (b, o) ∈ pinsAt fp h := List.mem_filterMap.mpr ⟨b, hb, by rw [e]; rfl⟩
theorem of_pinsAt {fp : List Addr} {h : Heap} {p : Addr × Obj} (hp : p ∈ pinsAt fp h) : p.1 ∈ fp ∧ h.get? p.1 = some p.2 := by
  obtain ⟨b, hb, e⟩ := List.mem_filterMap.mp hp
  cases q : h.get? b with
  | none => rw [q] at e; cases e
  | some o =>
    rw [q] at e
    have e' : (b, o) = p := Option.some.inj e
    subst e'
    exact ⟨hb, q⟩
theorem Inv.pinned {pins : List (Addr × Obj)} {σ : St} {H : Hp} {s : Shared} {fp : List Addr} (I : Inv X pins σ H s) (hf : ∀ b ∈ fp, FpOk X pins H b) (ho : ∀ b ∈ fp, ∃ o, s.heap.get? b = some o ∧ ∀ v, o.data ≠ .cell v) : Inv X (pins ++ pinsAt fp s.heap) σ H s :=
  I.pins_of fun p hp => (List.mem_append.mp hp).elim (fun z => I.pin p (List.mem_append_right _ z)) fun z => by
    obtain ⟨hb, e⟩ := of_pinsAt z
    obtain ⟨f0, f1, f2, _⟩ := hf p.1 hb
    obtain ⟨o, e', d⟩ := ho p.1 hb
    rw [e] at e'; cases e'
    exact ⟨e, f0, f1, f2, d⟩
theorem Inv.unpinned {pins pl : List (Addr × Obj)} {σ : St} {H : Hp} {s : Shared} (I : Inv X (pins ++ pl) σ H s) : Inv X pins σ H s := I.pins_of fun p hp => I.pin p (List.mem_append_right _ (List.mem_append_left _ hp))
theorem ps_for {iter : Expr} {body : List Stmt} {wi : TI} {g : TG} {tb : TS} {pos : Pos} (hp : PassesOwn (model X.prog X.w) X.A X.env X.xe) (hc : X.calm = true) (hi : PI X tg iter wi) (hg : PG X tg g) (hb : PSs X body tb)
    (hs : ∀ x, foldedSetIterable iter X.env x = pure x := by intro _; rfl) : PS X (.For tg iter body [] pos) (tFor wi g tb) := by
  intro pins s σ H D I h
  refine wpAny_For (thn (hi pins s σ H _ I h) fun v s1 h1 => thn h1 fun itv s2 h2 => ?_) hs
  obtain ⟨it, fp, tn, J, H2, e, I2, T, st2, f2, W, ⟨m0, w0⟩, turn⟩ := h2
  subst e
  -- what stays true of the iterator's objects through the loop
  have stat : ∀ {H' : Hp}, (∀ b ∈ fp, H' b = none) → ∀ b ∈ fp, FpOk X pins H' b := fun hn b hb => ⟨hn b hb, (f2 b hb).2⟩
  refine codeAny_forLoop_any (fun n s' => ∃ i σ' H', Inv X pins σ' H' s' ∧ tn i s'.heap ∧ (∀ b ∈ fp, H' b = none) ∧ W i n σ' H') ?_ m0 ⟨0, σ, H2, I2, st2, fun b hb => (f2 b hb).1, w0⟩
  rintro n s3 ⟨i, σ3, H3, I3, st3, fr3, w3⟩
  rcases turn i n σ3 H3 w3 with ⟨stop, qn⟩ | ⟨go, N, hN, step⟩
  · refine wpAny_passesOwn hp (thn (T.done X rfl rfl rfl hc i pins s3 σ3 H3 X.xe I3 (stat fr3) st3 stop) fun r s4 ⟨hr, I4⟩ => ?_)
    subst hr
    exact wpAny_execs_nil ⟨σ3, H3, I4, qn⟩
  · refine wpAny_passesOwn hp (thn (T.item X rfl rfl rfl hc i pins s3 σ3 H3 X.xe I3 (stat fr3) st3 go) fun r s4 ⟨u, hr, h4⟩ => ?_)
    subst hr
    refine wpAny_passesOwn hp (thn h4 fun _ s5 ⟨x, H5, I5, r5, y5, st5, fr5⟩ => ?_)
    have I5' := I5.pinned (stat fr5) (T.obj _ _ st5)
    refine wpAny_passesOwn hp (thn (hg _ s5 σ3 H5 x u _ I5' r5 (step x H5 y5)) fun _ s6 ⟨σ6, H6, I6, q6⟩ => ?_)
    refine wpAny_passesOwn hp (thn (hb _ s6 σ6 H6 _ I6 q6) fun f s7 q7 => ?_)
    have again : ∀ {σ7 : St} {H7 : Hp}, Inv X (pins ++ pinsAt fp s5.heap) σ7 H7 s7 → N σ7 H7 → ∃ m, m < n ∧ ∃ i σ' H', Inv X pins σ' H' s7 ∧ tn i s7.heap ∧ (∀ b ∈ fp, H' b = none) ∧ W i m σ' H' := fun {σ7 H7} I7 n7 => by
      obtain ⟨m', hm, w7⟩ := hN σ7 H7 n7
      refine ⟨m', hm, i + 1, σ7, H7, I7.unpinned, T.keep _ _ _ st5 fun b hb o e => (I7.pin (b, o) (List.mem_append_right _ (List.mem_append_right _ (mem_pinsAt hb e)))).1, fun b hb => ?_, w7⟩
      obtain ⟨o, e, d⟩ := T.obj _ _ st5 b hb
      exact (I7.pin (b, o) (List.mem_append_right _ (List.mem_append_right _ (mem_pinsAt hb e)))).2.1
    cases f with
    | next => obtain ⟨σ7, H7, I7, n7⟩ := q7; exact again I7 n7
    | cont => obtain ⟨σ7, H7, I7, n7⟩ := q7; exact again I7 n7
    | brk => obtain ⟨σ7, H7, I7, q7⟩ := q7; exact ⟨σ7, H7, I7.unpinned, q7⟩
    | ret v => obtain ⟨x7, σ7, H7, I7, r7, q7⟩ := q7; exact ⟨x7, σ7, H7, I7.unpinned, r7, q7⟩
end

/-! ### the forms one uses -/
/-- while, by a word and a measure of the state -/
theorem while_by {c : TT} {tb : TS} {D : Ends} {σ : St} {H : Hp} (Pv : St → Hp → Prop) (μ : St → Hp → Nat) (h0 : Pv σ H)
    (hs : ∀ σ H, Pv σ H → c σ H fun b H1 => if b = true then tb { D with nx := fun σ' H' => Pv σ' H' ∧ μ σ' H' < μ σ H, ct := fun σ' H' => Pv σ' H' ∧ μ σ' H' < μ σ H, bk := D.nx } σ H1 else D.nx σ H1)
    (mono : ∀ σ H Q Q', (∀ b H1, Q b H1 → Q' b H1) → c σ H Q → c σ H Q') : tWhile c tb D σ H := by
  refine ⟨fun m σ H => m = μ σ H ∧ Pv σ H, ⟨_, rfl, h0⟩, ?_⟩
  rintro m σ H ⟨rfl, p⟩
  refine mono σ H _ _ (fun b H1 q => ?_) (hs σ H p)
  cases b with
  | true => exact ⟨_, fun σ' H' ⟨p', l⟩ => ⟨_, l, rfl, p'⟩, q⟩
  | false => exact q
end L2

namespace L2
open PySem PySem.Spec PyProof.Rows

abbrev R2 := V → V → Hp → VK → Prop
/-- a two-place operation on values: f is binaryOp op, inplaceOp op or compareOp op -/
def OpR (X : Cx) (f : Value → Value → Sem Value) (r : R2) : Prop :=
  ∀ (pins : List (Addr × Obj)) (s : Shared) (σ : St) (H : Hp) (x y : V) (v u : Value) (Q : VK), Inv X pins σ H s → RelV x v → RelV y u → r x y H Q →
    wpAny (model X.prog X.w) X.A (f v u) (EP X pins σ Q) X.xe s
/-- a one-place operation -/
def UnR (X : Cx) (f : Value → Sem Value) (r : V → Hp → VK → Prop) : Prop :=
  ∀ (pins : List (Addr × Obj)) (s : Shared) (σ : St) (H : Hp) (x : V) (v : Value) (Q : VK), Inv X pins σ H s → RelV x v → r x H Q →
    wpAny (model X.prog X.w) X.A (f v) (EP X pins σ Q) X.xe s
/-- a call of a value that is known (a builtin, a type) with values -/
def CallR (X : Cx) (f : Value) (r : List V → Hp → VK → Prop) : Prop :=
  ∀ (pins : List (Addr × Obj)) (s : Shared) (σ : St) (H : Hp) (xs : List V) (us : List Value) (Q : VK), Inv X pins σ H s → Vals xs us → r xs H Q →
    wpAny (model X.prog X.w) X.A (call f us) (EP X pins σ Q) X.xe s
/-- a value's truth -/
def TruR (X : Cx) (r : V → Hp → (Bool → Hp → Prop) → Prop) : Prop :=
  ∀ (pins : List (Addr × Obj)) (s : Shared) (σ : St) (H : Hp) (x : V) (v : Value) (Q : Bool → Hp → Prop), Inv X pins σ H s → RelV x v → r x H Q →
    wpAny (model X.prog X.w) X.A (truthy v) (TP X pins σ Q) X.xe s

def tOp (r : R2) (ta tb : TE) : TE := fun σ H Q => ta σ H fun x H1 => tb σ H1 fun y H2 => r x y H2 Q
def tUn (r : V → Hp → VK → Prop) (ta : TE) : TE := fun σ H Q => ta σ H fun x H1 => r x H1 Q
/-- ints in, under C, and a value out -/
def rI (C : Int → Int → Prop) (g : Int → Int → V) : R2 := fun x y H Q => ∃ i j, x = .int i ∧ y = .int j ∧ C i j ∧ Q (g i j) H
def rI0 (g : Int → Int → V) : R2 := fun x y H Q => ∃ i j, x = .int i ∧ y = .int j ∧ Q (g i j) H
def rU (g : Int → V) : V → Hp → VK → Prop := fun x H Q => ∃ i, x = .int i ∧ Q (g i) H

section
variable {X : Cx} {a b c : Expr} {ta tb tc : TE} {pos : Pos}

theorem binT (ha : PE X a ta) (hb : PE X b tb) {pins : List (Addr × Obj)} {s : Shared} {σ : St} {H : Hp} {R : V → V → Hp → Prop} (I : Inv X pins σ H s)
    (h : ta σ H fun x H1 => tb σ H1 fun y H2 => R x y H2) {Q : Value → Shared → Prop} {f : Value → Value → Sem Value}
    (hf : ∀ v u s2 x y H2, Inv X pins σ H2 s2 → RelV x v → RelV y u → R x y H2 → wpAny (model X.prog X.w) X.A (f v u) Q X.xe s2) :
    wpAny (model X.prog X.w) X.A (eval a X.env) (fun v s₁ => wpAny (model X.prog X.w) X.A (eval b X.env) (fun u s₂ => wpAny (model X.prog X.w) X.A (f v u) Q X.xe s₂) X.xe s₁) X.xe s := by
  refine thn (ha pins s σ H _ I h) fun v s1 ⟨x, H1, I1, r1, q1⟩ => ?_
  refine thn (hb pins s1 σ H1 _ I1 q1) fun u s2 ⟨y, H2, I2, r2, q2⟩ => ?_
  exact hf v u s2 x y H2 I2 r1 r2 q2

theorem pe_op {op : Operator} {r : R2} (ho : OpR X (binaryOp op) r) (ha : PE X a ta) (hb : PE X b tb) : PE X (.BinOp a op b pos) (tOp r ta tb) := by
  intro pins s σ H Q I h
  exact wpAny_BinOp (binT ha hb I h fun v u s2 x y H2 I2 rx ry q => ho pins s2 σ H2 x y v u Q I2 rx ry q)
theorem pe_un {op : UnaryOp} {r : V → Hp → VK → Prop} (ho : UnR X (unaryOp op) r) (ha : PE X a ta) : PE X (.UnaryOp op a pos) (tUn r ta) := by
  intro pins s σ H Q I h
  exact UnaryOp_ (thn (ha pins s σ H _ I h) fun v s1 ⟨x, H1, I1, r1, q1⟩ => ho pins s1 σ H1 x v Q I1 r1 q1)
/-! ### ints -/
theorem opI {f : Value → Value → Sem Value} {C : Int → Int → Prop} {g : Int → Int → Int}
    (rule : ∀ (i j : Int) (t u : Tok) (s : Shared) (Q : Value → Shared → Prop) (E : Value → Shared → Prop), C i j → Q (.int (g i j) s.toks) { s with toks := s.toks + 1 } → wpAny (model X.prog X.w) X.A (f (.int i t) (.int j u)) Q E s) :
    OpR X f (rI C fun i j => .int (g i j)) := by
  intro pins s σ H x y v u Q I rx ry h
  obtain ⟨i, j, rfl, rfl, hc, q⟩ := h
  obtain ⟨t, rfl⟩ := rx
  obtain ⟨t', rfl⟩ := ry
  exact rule i j t t' s _ _ hc ⟨.int (g i j), H, I.tok _, ⟨_, rfl⟩, q⟩
theorem opI0 {f : Value → Value → Sem Value} {g : Int → Int → Int}
    (rule : ∀ (i j : Int) (t u : Tok) (s : Shared) (Q : Value → Shared → Prop) (E : Value → Shared → Prop), Q (.int (g i j) s.toks) { s with toks := s.toks + 1 } → wpAny (model X.prog X.w) X.A (f (.int i t) (.int j u)) Q E s) :
    OpR X f (rI0 fun i j => .int (g i j)) := by
  intro pins s σ H x y v u Q I rx ry h
  obtain ⟨i, j, rfl, rfl, q⟩ := h
  obtain ⟨t, rfl⟩ := rx
  obtain ⟨t', rfl⟩ := ry
  exact rule i j t t' s _ _ ⟨.int (g i j), H, I.tok _, ⟨_, rfl⟩, q⟩
theorem opB0 {f : Value → Value → Sem Value} {g : Int → Int → Bool}
    (rule : ∀ (i j : Int) (t u : Tok) (s : Shared) (Q : Value → Shared → Prop) (E : Value → Shared → Prop), Q (.bool (g i j)) s → wpAny (model X.prog X.w) X.A (f (.int i t) (.int j u)) Q E s) :
    OpR X f (rI0 fun i j => .bl (g i j)) := by
  intro pins s σ H x y v u Q I rx ry h
  obtain ⟨i, j, rfl, rfl, q⟩ := h
  obtain ⟨t, rfl⟩ := rx
  obtain ⟨t', rfl⟩ := ry
  exact rule i j t t' s _ _ ⟨.bl (g i j), H, I, rfl, q⟩

def CDiv (i j : Int) : Prop := 0 < j ∧ j < 1073741824
def CDivN (i j : Int) : Prop := j ≠ 0 ∧ j.natAbs < 1073741824
def CPow (i j : Int) : Prop := 0 ≤ j ∧ j ≤ 1000000 ∧ i.natAbs < 2 ^ 64
def CMul (i j : Int) : Prop := (-(2 ^ 64) < i ∧ i < 2 ^ 64) ∨ (-(2 ^ 64) < j ∧ j < 2 ^ 64)
theorem CMul.ok {i j : Int} (h : CMul i j) : IntMulOk i j := by
  rcases h with ⟨h1, h2⟩ | ⟨h1, h2⟩
  · exact .of_left (intBits_le_64 h1 h2)
  · exact .of_right (intBits_le_64 h1 h2)
theorem op_add : OpR X (binaryOp .Add) (rI0 fun i j => .int (i + j)) := opI0 fun _ _ _ _ _ _ _ q => add_int q
theorem op_sub : OpR X (binaryOp .Sub) (rI0 fun i j => .int (i - j)) := opI0 fun _ _ _ _ _ _ _ q => sub_int q
/-- % by a positive divisor of any size -/
theorem op_mod : OpR X (binaryOp .Mod) (rI (fun _ j => 0 < j) fun i j => .int (i % j)) := opI fun i j _ _ _ _ _ hc q => by
  have h1 : (0 : Int) < j := hc
  exact mod_int' (by omega) (by rw [Int.fmod_eq_emod_of_nonneg i (by omega)]; exact q)
theorem op_pow : OpR X (binaryOp .Pow) (rI CPow fun i j => .int (i ^ j.toNat)) := opI fun _ _ _ _ _ _ _ hc q => pow_int_small hc.1 hc.2.1 hc.2.2 q
theorem unI {f : Value → Sem Value} {g : Int → Int}
    (rule : ∀ (i : Int) (t : Tok) (s : Shared) (Q : Value → Shared → Prop) (E : Value → Shared → Prop), Q (.int (g i) s.toks) { s with toks := s.toks + 1 } → wpAny (model X.prog X.w) X.A (f (.int i t)) Q E s) :
    UnR X f (rU fun i => .int (g i)) := by
  intro pins s σ H x v Q I rx h
  obtain ⟨i, rfl, q⟩ := h
  obtain ⟨t, rfl⟩ := rx
  exact rule i t s _ _ ⟨.int (g i), H, I.tok _, ⟨_, rfl⟩, q⟩
theorem un_neg : UnR X (unaryOp .USub) (rU fun i => .int (-i)) := unI fun _ _ _ _ _ q => neg_int q
/-! ### bools among ints: n += (a < b) -/
end

/-! ### comparisons -/
/-- the scalars that == tells apart as data does -/
def scal : V → V → Bool
  | .non, .non => true | .non, .int _ => true | .int _, .non => true | .non, .bl _ => true | .bl _, .non => true | .non, .str _ => true | .str _, .non => true
  | .int _, .int _ => true | .bl _, .bl _ => true | .str _, .str _ => true | .byt _, .byt _ => true
  | .int _, .str _ => true | .str _, .int _ => true | .bl _, .str _ => true | .str _, .bl _ => true
  | _, _ => false
def rEq : R2 := fun x y H Q => scal x y = true ∧ Q (.bl (decide (x = y))) H
def rNe : R2 := fun x y H Q => scal x y = true ∧ Q (.bl (!decide (x = y))) H

theorem dec_int {i j : Int} : decide (V.int i = V.int j) = (i == j) := by
  rw [Bool.eq_iff_iff]
  simp
theorem dec_bl {i j : Bool} : decide (V.bl i = V.bl j) = (i == j) := by
  rw [Bool.eq_iff_iff]
  simp
theorem dec_str {i j : Str} : decide (V.str i = V.str j) = (i == j) := by
  rw [Bool.eq_iff_iff]
  simp
theorem dec_byt {i j : Array UInt8} : decide (V.byt i = V.byt j) = (i.toList == j.toList) := by
  rw [Bool.eq_iff_iff]
  cases i
  cases j
  simp

section
variable {X : Cx} {a b c : Expr} {ta tb tc : TE} {pos : Pos}
theorem fin_bl {pins : List (Addr × Obj)} {σ : St} {H : Hp} {s : Shared} {Q : VK} {k k' : Bool} (I : Inv X pins σ H s) (q : Q (.bl k) H) (e : k = k') : EP X pins σ Q (.bool k') s := by
  subst e
  exact ⟨.bl k, H, I, rfl, q⟩
theorem op_eq : OpR X (compareOp .Eq) rEq := by
  intro pins s σ H x y v u Q I rx ry h
  obtain ⟨hs, q⟩ := h
  cases x with
  | non =>
    cases rx
    cases y with
    | non => cases ry; exact PySem.EqNone.eq_none_none (fin_bl I q (by simp))
    | bl j => cases ry; exact PySem.EqNone.eq_none_bool (fin_bl I q (by simp))
    | int j => obtain ⟨t', rfl⟩ := ry; exact PySem.EqNone.eq_none_int (fin_bl I q (by simp))
    | str j => obtain ⟨t', rfl⟩ := ry; exact PySem.EqNone.eq_none_str (fin_bl I q (by simp))
    | _ => exact absurd (show false = true from hs) Bool.false_ne_true
  | bl i =>
    cases rx
    cases y with
    | non => cases ry; exact PySem.EqNone.eq_bool_none (fin_bl I q (by simp))
    | bl j => cases ry; exact eq_bool (fin_bl I q dec_bl)
    | str j => obtain ⟨t', rfl⟩ := ry; exact PySem.EqMixed.eq_bool_str (fin_bl I q (by simp))
    | _ => exact absurd (show false = true from hs) Bool.false_ne_true
  | int i =>
    obtain ⟨t, rfl⟩ := rx
    cases y with
    | non => cases ry; exact PySem.EqNone.eq_int_none (fin_bl I q (by simp))
    | int j => obtain ⟨t', rfl⟩ := ry; exact eq_int (fin_bl I q dec_int)
    | str j => obtain ⟨t', rfl⟩ := ry; exact PySem.EqMixed.eq_int_str (fin_bl I q (by simp))
    | _ => exact absurd (show false = true from hs) Bool.false_ne_true
  | str i =>
    obtain ⟨t, rfl⟩ := rx
    cases y with
    | non => cases ry; exact PySem.EqNone.eq_str_none (fin_bl I q (by simp))
    | bl j => cases ry; exact PySem.EqMixed.eq_str_bool (fin_bl I q (by simp))
    | int j => obtain ⟨t', rfl⟩ := ry; exact PySem.EqMixed.eq_str_int (fin_bl I q (by simp))
    | str j => obtain ⟨t', rfl⟩ := ry; exact eq_str (fin_bl I q dec_str)
    | _ => exact absurd (show false = true from hs) Bool.false_ne_true
  | byt i =>
    obtain ⟨t, rfl⟩ := rx
    cases y with
    | byt j => obtain ⟨t', rfl⟩ := ry; exact PySem.W.eq_bytes (fin_bl I q dec_byt)
    | _ => exact absurd (show false = true from hs) Bool.false_ne_true
  | _ => cases y <;> exact absurd (show false = true from hs) Bool.false_ne_true
theorem op_ne : OpR X (compareOp .NotEq) rNe := by
  intro pins s σ H x y v u Q I rx ry h
  obtain ⟨hs, q⟩ := h
  cases x with
  | non =>
    cases rx
    cases y with
    | non => cases ry; exact PySem.EqNone.ne_none_none (fin_bl I q (by simp))
    | bl j => cases ry; exact PySem.EqNone.ne_none_bool (fin_bl I q (by simp))
    | int j => obtain ⟨t', rfl⟩ := ry; exact PySem.EqNone.ne_none_int (fin_bl I q (by simp))
    | str j => obtain ⟨t', rfl⟩ := ry; exact PySem.EqNone.ne_none_str (fin_bl I q (by simp))
    | _ => exact absurd (show false = true from hs) Bool.false_ne_true
  | bl i =>
    cases rx
    cases y with
    | non => cases ry; exact PySem.EqNone.ne_bool_none (fin_bl I q (by simp))
    | bl j => cases ry; exact ne_bool (fin_bl I q (congrArg not dec_bl))
    | str j => obtain ⟨t', rfl⟩ := ry; exact PySem.EqMixed.ne_bool_str (fin_bl I q (by simp))
    | _ => exact absurd (show false = true from hs) Bool.false_ne_true
  | int i =>
    obtain ⟨t, rfl⟩ := rx
    cases y with
    | non => cases ry; exact PySem.EqNone.ne_int_none (fin_bl I q (by simp))
    | int j => obtain ⟨t', rfl⟩ := ry; exact ne_int (fin_bl I q (congrArg not dec_int))
    | str j => obtain ⟨t', rfl⟩ := ry; exact PySem.EqMixed.ne_int_str (fin_bl I q (by simp))
    | _ => exact absurd (show false = true from hs) Bool.false_ne_true
  | str i =>
    obtain ⟨t, rfl⟩ := rx
    cases y with
    | non => cases ry; exact PySem.EqNone.ne_str_none (fin_bl I q (by simp))
    | bl j => cases ry; exact PySem.EqMixed.ne_str_bool (fin_bl I q (by simp))
    | int j => obtain ⟨t', rfl⟩ := ry; exact PySem.EqMixed.ne_str_int (fin_bl I q (by simp))
    | str j => obtain ⟨t', rfl⟩ := ry; exact ne_str (fin_bl I q (congrArg not dec_str))
    | _ => exact absurd (show false = true from hs) Bool.false_ne_true
  | byt i =>
    obtain ⟨t, rfl⟩ := rx
    cases y with
    | byt j => obtain ⟨t', rfl⟩ := ry; exact PySem.W.ne_bytes (fin_bl I q (congrArg not dec_byt))
    | _ => exact absurd (show false = true from hs) Bool.false_ne_true
  | _ => cases y <;> exact absurd (show false = true from hs) Bool.false_ne_true

theorem op_lt : OpR X (compareOp .Lt) (rI0 fun i j => .bl (decide (i < j))) := opB0 fun _ _ _ _ _ _ _ q => lt_int q
theorem op_gt : OpR X (compareOp .Gt) (rI0 fun i j => .bl (decide (j < i))) := opB0 fun _ _ _ _ _ _ _ q => gt_int q
/-- is None, is not None: the right side a value none -/
theorem op_isN : OpR X (compareOp .Is) (fun x y H Q => y = .non ∧ Q (.bl (decide (x = .non))) H) := by
  intro pins s σ H x y v u Q I rx ry h
  obtain ⟨rfl, q⟩ := h
  cases ry
  refine is_none_gen (fin_bl I q ?_)
  cases x <;> first
    | (cases rx; rfl)
    | (obtain ⟨t, rfl⟩ := rx; rfl)
/-- is, is not of two objects that are tracked lists or instances -/
def isObj : HO → Bool
  | .lst _ => true
  | .ins _ _ _ => true
  | _ => false
/-- two rules for one operation: by cases -/
theorem OpR.or {f : Value → Value → Sem Value} {r r' : R2} (h : OpR X f r) (h' : OpR X f r') : OpR X f (fun x y H Q => r x y H Q ∨ r' x y H Q) := by
  intro pins s σ H x y v u Q I rx ry q
  rcases q with q | q
  · exact h pins s σ H x y v u Q I rx ry q
  · exact h' pins s σ H x y v u Q I rx ry q

theorem nomark (b : Expr) {op : CmpOp} (h : op ≠ .In := by decide) (h2 : op ≠ .NotIn := by decide) : behindInMarks op b = false := by
  have e1 : (op == CmpOp.In) = false := by cases op <;> first | rfl | exact absurd rfl h
  have e2 : (op == CmpOp.NotIn) = false := by cases op <;> first | rfl | exact absurd rfl h2
  cases b <;> simp [behindInMarks, e1, e2]
/-- a comparison as a value; hm: nomark b, or (for in, not in) by with_unfolding_all rfl -/
theorem pe_cmpR {op : CmpOp} {r : R2} (ho : OpR X (compareOp op) r) (ha : PE X a ta) (hb : PE X b tb) (hm : behindInMarks op b = false) : PE X (.Compare a [op] [b] pos) (tOp r ta tb) := by
  intro pins s σ H Q I h
  exact wpAny_Compare1 (binT ha hb I h fun v u s2 x y H2 I2 rx ry q => ho pins s2 σ H2 x y v u Q I2 rx ry q) hm
/-- a reading of a value as a test -/
def tTest (t : TE) : TT := fun σ H Q => t σ H fun x H' => ∃ k, x = .bl k ∧ Q k H'
theorem pt_cmpR {op : CmpOp} {r : R2} (ho : OpR X (compareOp op) r) (ha : PE X a ta) (hb : PE X b tb) (hm : behindInMarks op b = false) : PT X (.Compare a [op] [b] pos) (tTest (tOp r ta tb)) := by
  intro pins s σ H Q I h
  refine wpAny_isTrue_Compare1 (thn (ha pins s σ H _ I h) fun v s1 ⟨x, H1, I1, r1, q1⟩ => thn (hb pins s1 σ H1 _ I1 q1) fun u s2 ⟨y, H2, I2, r2, q2⟩ =>
    thn (ho pins s2 σ H2 x y v u _ I2 r1 r2 q2) fun c s3 ⟨z, H3, I3, r3, k, e, q3⟩ => ?_) hm
  subst e
  cases r3
  exact wpAny_truthy_bool ⟨H3, I3, q3⟩
/-- a op1 b op2 c -/
def tChain (r r' : R2) (ta tb tc : TE) : TE := fun σ H Q => ta σ H fun x H1 => tb σ H1 fun y H2 => r x y H2 fun z H3 => ∃ k, z = .bl k ∧
  (if k = true then tc σ H3 fun w' H4 => r' y w' H4 Q else Q (.bl false) H3)
/-! ### truth -/
/-- a value's truth by the abstract heap -/
def TruV (K : PySem.W.Frag) (x : V) (H : Hp) (k : Bool) : Prop :=
  match x with
  | .non => k = false
  | .bl b => k = b
  | .int i => k = (i != 0)
  | .str y => y.length ≤ sizeLine ∧ k = ((y.length : Int) != 0)
  | .byt y => y.size ≤ sizeLine ∧ k = ((y.size : Int) != 0)
  | .ref p => (∃ xs, SqL K H p xs ∧ k = !xs.isEmpty) ∨ (∃ xs, SqT K H p xs ∧ k = !xs.isEmpty) ∨ ∃ kvs, H p = some (.dK kvs) ∧ k = !kvs.isEmpty
  | _ => False
theorem line63 : (sizeLine : Nat) < 2 ^ 63 := by rw [sizeLine_eq]; decide
/-! ### strs and bytes -/
def PlainIxT (b : Expr) : Prop := ∀ o i, subscripted b false o i = operate [o, i] (getItem o i)
/-! ### scalar builtins, by CallR -/
theorem vals1 {x : V} {us : List Value} (r : Vals [x] us) : ∃ u, us = [u] ∧ RelV x u := by
  cases r with
  | cons r1 r2 => cases r2; exact ⟨_, rfl, r1⟩
theorem vals2 {x y : V} {us : List Value} (r : Vals [x, y] us) : ∃ u w', us = [u, w'] ∧ RelV x u ∧ RelV y w' := by
  cases r with
  | cons r1 r2 =>
    cases r2 with
    | cons r3 r4 => cases r4; exact ⟨_, _, rfl, r1, r3⟩
theorem call_abs : CallR X (.builtin "abs") (fun xs H Q => ∃ i, xs = [.int i] ∧ Q (.int (if i < 0 then -i else i)) H) := by
  intro pins s σ H xs us Q I r h
  obtain ⟨i, rfl, q⟩ := h
  obtain ⟨u, rfl, t, rfl⟩ := vals1 r
  exact call_abs_int fun u tk => ⟨.int (if i < 0 then -i else i), H, I.tok _, ⟨_, rfl⟩, q⟩
/-- len of a str, a bytes, a list, a tuple -/
def LenV (K : PySem.W.Frag) (x : V) (H : Hp) (n : Nat) : Prop :=
  match x with
  | .str y => y.length ≤ sizeLine ∧ n = y.length
  | .byt y => y.size ≤ sizeLine ∧ n = y.size
  | .ref p => (∃ xs, SqL K H p xs ∧ n = xs.length) ∨ ∃ xs, SqT K H p xs ∧ n = xs.length
  | _ => False
end
end L2

namespace L2
open PySem PySem.Spec PyProof.Rows

/-! ### an instance, its attributes a map -/
structure ObjM (h : Heap) (x dx C : Addr) (mA : Str → Option Value) : Prop where
  obj : h.get? x = some (PySem.W.instObj C dx)
  ns : h.Ns1 dx mA
  ne : dx ≠ x

theorem lookIn_ns {h : Heap} {dx : Addr} {mA : Str → Option Value} (n : h.Ns1 dx mA) : ∃ od, h.get? dx = some od ∧ ∀ name, PySem.W.lookIn name od = some (mA name) := by
  obtain ⟨o, es, ep, ho, hd, hk, _, hm⟩ := n
  refine ⟨o, ho, fun name => ?_⟩
  have e := hm name
  unfold nsFind findBy at e
  rw [← Array.find?_toList] at e
  unfold PySem.W.lookIn
  rw [hd]
  dsimp only
  split
  · rename_i y q
    rw [q] at e
    exact congrArg some e
  · rename_i q
    rw [q] at e
    have a : es.toList.any (·.refKey) = false := by
      rw [List.any_eq_false]
      intro y hy
      obtain ⟨z, t, hkey⟩ := hk y (Array.mem_toList_iff.mp hy)
      simp [DictEntry.refKey, hkey]
    have a' : ¬ es.toList.any (·.refKey) = true := by rw [a]; exact Bool.false_ne_true
    rw [if_neg a']
    exact congrArg some e

theorem ObjM.look {h : Heap} {x dx C : Addr} {mA : Str → Option Value} (I : ObjM h x dx C mA) : ∃ od, PySem.W.InstAt h x (PySem.W.instObj C dx) C (some od) ∧ ∀ name, PySem.W.lookIn name od = some (mA name) :=
  let ⟨od, ho, hl⟩ := lookIn_ns I.ns
  ⟨od, ⟨I.obj, rfl, rfl, ho⟩, hl⟩

section
variable {prog : Program} {w : World} {A : Around} {E : Value → Shared → Prop} {s : Shared} {K : PySem.W.Frag} {x dx C f : Addr} {mA : Str → Option Value} {name : Str} {v : Value}

end

/-! ### the attributes as a list of pairs -/
def putF (f : Str) (v : V) : List (Str × V) → List (Str × V)
  | [] => [(f, v)]
  | (g, x) :: r => if g = f then (g, v) :: r else (g, x) :: putF f v r
theorem RelO.none_of {o : Option Value} (r : RelO none o) : o = none := by
  cases o with
  | none => rfl
  | some u => exact (show False from r).elim
section
variable {P : Program} {w : World} {H H' : Hp} {h h' : Heap} {a C dx : Addr} {fs fs' : List (Str × V)}
theorem ins_get (hok : HOk P w H h) (e : H a = some (.ins C dx fs)) : ∃ mA, ObjM h a dx C mA ∧ (∀ f, RelO (fs.lookup f) (mA f)) ∧ PySem.Within mA (fs.map (·.1)) ∧ fs.length ≤ 1000 ∧ H dx = some (.own a) := by
  obtain ⟨d, z, ne, ob, mA, n, r, q⟩ := (show ObjOk P w H h a (.ins C dx fs) from hok a _ e)
  exact ⟨mA, ⟨ob, n, ne⟩, r, q, z, d⟩
end

/-! ### what of the text a class must have -/
structure Cls (K : PySem.W.Frag) (C : Addr) : Prop where
  pg : PySem.W.plainGet K C Str.empty = true
  hd : PySem.W.hasDictIn K C = true
  po : PySem.W.plainOver K C = true
  sa : PySem.W.findIn K (.ref C) "__setattr__" = some (some (.builtin "object.__setattr__"))
theorem Cls.get {K : PySem.W.Frag} {C : Addr} (c : Cls K C) (f : Str) : PySem.W.plainGet K C f = true := c.pg
/-- no class of it has the name -/
def NoAttr (K : PySem.W.Frag) (C : Addr) (f : Str) : Prop := PySem.W.findIn K (.ref C) f = some none
/-- a constant of the class -/
structure Con (K : PySem.W.Frag) (C : Addr) (f : Str) (v : V) (u : Value) : Prop where
  at_ : PySem.W.findIn K (.ref C) f = some (some u)
  rel : RelV v u
  get : PySem.W.specialIn K u "__get__" = some none
  cp : PySem.W.copiedNames.contains f = false
/-- a method: a plain def of the class or of one above it -/
structure Meth (K : PySem.W.Frag) (C : Addr) (m : Str) (f : Addr) : Prop where
  at_ : PySem.W.findIn K (.ref C) m = some (some (.ref f))
  fn : PySem.W.isFn K (.ref f) = true
  kp : PySem.W.keepIn K (.ref f) = true

section
variable {X : Cx} {pins : List (Addr × Obj)} {σ : St} {H : Hp} {s : Shared} {a C dx : Addr} {fs : List (Str × V)} {f : Str} {v : V} {A : Around} {E : Value → Shared → Prop}

/-- a new instance, tracked, without attributes -/
theorem Inv.made (I : Inv X pins σ H s) : Inv X pins σ (upd (upd H s.heap.objs.size (.own (s.heap.objs.size + 1))) (s.heap.objs.size + 1) (.ins C s.heap.objs.size []))
    { s with heap := (s.heap.push PySem.W.emptyDict).push (PySem.W.instObj C s.heap.objs.size) } := by
  have e1 : (s.heap.push PySem.W.emptyDict).get? s.heap.objs.size = some PySem.W.emptyDict := Heap.get?_push_size s.heap rfl
  have e2 : ((s.heap.push PySem.W.emptyDict).push (PySem.W.instObj C s.heap.objs.size)).get? (s.heap.objs.size + 1) = some (PySem.W.instObj C s.heap.objs.size) := by
    have := Heap.get?_push_size (s.heap.push PySem.W.emptyDict) (o := PySem.W.instObj C s.heap.objs.size) rfl
    rwa [Heap.size_push] at this
  have e3 : (s.heap.push PySem.W.emptyDict).Ns s.heap.objs.size (fun _ => none) := ⟨PySem.W.emptyDict, #[], _, e1, rfl, (fun e he => absurd he (by simp)), fun _ => rfl⟩
  have I1 := I.laid (a := s.heap.objs.size) (o := .own (s.heap.objs.size + 1)) (h' := s.heap.push PySem.W.emptyDict) (t' := s.toks) (fun b u q => Heap.get?_push_of_some _ q) (Nat.le_refl _) ⟨_, e1⟩
  refine I1.laid (a := s.heap.objs.size + 1) (o := .ins C s.heap.objs.size []) (t' := s.toks) (fun b u q => Heap.get?_push_of_some _ q) (Nat.le_of_eq (Heap.size_push _ _)) ?_
  have ne : s.heap.objs.size ≠ s.heap.objs.size + 1 := Nat.ne_of_lt (Nat.lt_succ_self _)
  refine ⟨by rw [upd_ne ne, upd_same], Nat.zero_le _, ne, e2, fun _ => none, (Heap.Ns1.of_empty e3).at fun o q => Heap.get?_push_of_some _ q, fun _ => True.intro, fun y hy => absurd rfl hy⟩

end

/-! ### readings and rules -/
/-- e.f, an attribute of the instance -/
def tFld (K : PySem.W.Frag) (ta : TE) (f : Str) : TE := fun σ H Q => ta σ H fun x H1 => ∃ a C dx fs v, x = .ref a ∧ H1 a = some (.ins C dx fs) ∧ Cls K C ∧ NoAttr K C f ∧ fs.lookup f = some v ∧ Q v H1
/-- e.f, a constant of the class -/
def tCon (K : PySem.W.Frag) (ta : TE) (f : Str) : TE := fun σ H Q => ta σ H fun x H1 => ∃ a C dx fs v u, x = .ref a ∧ H1 a = some (.ins C dx fs) ∧ Cls K C ∧ Con K C f v u ∧ fs.lookup f = none ∧ Q v H1
/-- e.f = value -/
def sFld (K : PySem.W.Frag) (ta tv : TE) (f : Str) : TS := fun D σ H => tv σ H fun y H1 => ta σ H1 fun x H2 => ∃ a C dx fs, x = .ref a ∧ H2 a = some (.ins C dx fs) ∧ Cls K C ∧ NoAttr K C f ∧ fs.length < 1000 ∧
  D.nx σ (upd H2 a (.ins C dx (putF f y fs)))
/-- an augmented operator on two values -/
def InOp (X : Cx) (op : Operator) (rd : V → V → Hp → VK → Prop) : Prop :=
  ∀ (pins : List (Addr × Obj)) (s : Shared) (σ : St) (H : Hp) (x y : V) (u v : Value) (Q : VK), Inv X pins σ H s → RelV x u → RelV y v → rd x y H Q → wpAny (model X.prog X.w) X.A (inplaceOp op u v) (EP X pins σ Q) X.xe s
/-- e.f op= value -/
def sFldAug (K : PySem.W.Frag) (ta tv : TE) (rd : V → V → Hp → VK → Prop) (f : Str) : TS := fun D σ H => ta σ H fun x H1 => ∃ a C dx fs v, x = .ref a ∧ H1 a = some (.ins C dx fs) ∧ Cls K C ∧ NoAttr K C f ∧ fs.lookup f = some v ∧
  tv σ H1 fun y H2 => rd v y H2 fun z H3 => ∃ dx' fs', H3 a = some (.ins C dx' fs') ∧ fs'.length < 1000 ∧ D.nx σ (upd H3 a (.ins C dx' (putF f z fs')))

section
variable {X : Cx} {o e value : Expr} {f : Str} {pos pos' tpos : Pos} {ta tv : TE}
def rAdd : V → V → Hp → VK → Prop := fun x y H Q => ∃ i j, x = .int i ∧ y = .int j ∧ Q (.int (i + j)) H
def rSub : V → V → Hp → VK → Prop := fun x y H Q => ∃ i j, x = .int i ∧ y = .int j ∧ Q (.int (i - j)) H
end

/-! ### isinstance -/
section
variable {X : Cx} {pins : List (Addr × Obj)} {σ : St} {H : Hp} {s : Shared} {A : Around} {E : Value → Shared → Prop} {Q : Value → Shared → Prop} {c : Value} {b : Bool}
/-- the type of a value, as the fragment's deciders take it; for an instance its class -/
inductive TyOf (K : PySem.W.Frag) (H : Hp) : V → Value → Prop where
  | non : TyOf K H .non (.type "NoneType")
  | bl (x : Bool) : TyOf K H (.bl x) (.type "bool")
  | int (i : Int) : TyOf K H (.int i) (.type "int")
  | str (x : Str) : TyOf K H (.str x) (.type "str")
  | flt (x : UInt64) : TyOf K H (.flt x) (.type "float")
  | lst {a : Addr} {xs : List V} (e : H a = some (.lst xs)) : TyOf K H (.ref a) (.type "list")
  | frz {a : Addr} {o : Obj} {xs : List V} (e : H a = some (.frz o (.lst xs))) : TyOf K H (.ref a) (.type "list")
  | tup {a : Addr} {xs : List V} (e : H a = some (.tup xs)) : TyOf K H (.ref a) (.type "tuple")
  | dK {a : Addr} {kvs : List (Key × V)} (e : H a = some (.dK kvs)) : TyOf K H (.ref a) (.type "dict")
  | dT {a : Addr} {kvs : List (List Key × V)} (e : H a = some (.dT kvs)) : TyOf K H (.ref a) (.type "dict")
  | ins {a C dx : Addr} {fs : List (Str × V)} (e : H a = some (.ins C dx fs)) (cl : Cls K C) (ha : PySem.W.findIn K (.ref C) "__class__" = some (some (.builtin "object.__class__")))
      (hn : PySem.W.specialIn K (.builtin "object.__class__") "__get__" = some (some (.builtin "getset_descriptor.__get__"))) (htk : PySem.W.takesIn K (.builtin "object.__class__") = some true)
      (hm : PySem.W.mroIn K C (.type "object") = some true) : TyOf K H (.ref a) (.ref C)
/-- isinstance(x, c) for one class c, a built-in or an own one: kitOne's answer -/
theorem isinst_ok {x : V} {u t : Value} (I : Inv X pins σ H s) (rx : RelV x u) (ty : TyOf X.K H x t) (e : PySem.W.kitOne X.K t c = some b) (h : ∀ tk, Q (.bool b) { s with toks := tk }) :
    wpAny (model X.prog X.w) A (call (.builtin "isinstance") [u, c]) Q E s := by
  cases ty with
  | non => cases (show u = Value.none from rx); exact PySem.W.kia_one PySem.W.kitx_none I.kIn True.intro e (fun z => nomatch z) h
  | bl y => cases (show u = Value.bool y from rx); exact PySem.W.kia_one PySem.W.kitx_bool I.kIn True.intro e (fun z => nomatch z) h
  | int i => obtain ⟨t, q⟩ := (show ∃ t, u = Value.int i t from rx); cases q; exact PySem.W.kia_one PySem.W.kitx_int I.kIn True.intro e (fun z => nomatch z) h
  | str y => obtain ⟨t, q⟩ := (show ∃ t, u = Value.str y t from rx); cases q; exact PySem.W.kia_one PySem.W.kitx_str I.kIn True.intro e (fun z => nomatch z) h
  | flt y => obtain ⟨t, q⟩ := (show ∃ t, u = Value.float y t from rx); cases q; exact PySem.W.kia_one PySem.W.kitx_float I.kIn True.intro e (fun z => nomatch z) h
  | @lst a xs ea =>
    cases (show u = Value.ref a from rx)
    obtain ⟨_, _, n, _, h1⟩ := (show ObjOk X.prog X.w H s.heap a (.lst xs) from I.hok a _ ea)
    exact PySem.W.kia_one PySem.W.kitx_list I.kIn ⟨_, h1, rfl⟩ e (fun z => nomatch z) h
  | @frz a ob xs ea =>
    cases (show u = Value.ref a from rx)
    obtain ⟨_, _, _, n, _, h1⟩ := (show ObjOk X.prog X.w H s.heap a (.frz ob (.lst xs)) from I.hok a _ ea)
    exact PySem.W.kia_one PySem.W.kitx_list I.kIn ⟨_, h1, rfl⟩ e (fun z => nomatch z) h
  | @tup a xs ea =>
    cases (show u = Value.ref a from rx)
    obtain ⟨_, _, _, p⟩ := (show ObjOk X.prog X.w H s.heap a (.tup xs) from I.hok a _ ea)
    obtain ⟨o, h1, h2, _⟩ := p
    exact PySem.W.kia_one PySem.W.kitx_tuple I.kIn ⟨o, h1, h2⟩ e (fun z => nomatch z) h
  | @dK a kvs ea =>
    cases (show u = Value.ref a from rx)
    obtain ⟨_, _, vs, _, p⟩ := (show ObjOk X.prog X.w H s.heap a (.dK kvs) from I.hok a _ ea)
    obtain ⟨o, es, ep, h1, h2, _⟩ := p
    exact PySem.W.kia_one PySem.W.kitx_dict I.kIn ⟨o, h1, h2.1⟩ e (fun z => nomatch z) h
  | @dT a kvs ea =>
    cases (show u = Value.ref a from rx)
    obtain ⟨_, _, xs, _, o, es, ep, h1, h2, _⟩ := (show ObjOk X.prog X.w H s.heap a (.dT kvs) from I.hok a _ ea)
    exact PySem.W.kia_one PySem.W.kitx_dict I.kIn ⟨o, h1, h2.1⟩ e (fun z => nomatch z) h
  | @ins a C dx fs ea cl ha hn htk hm =>
    cases (show u = Value.ref a from rx)
    obtain ⟨mA, O, _⟩ := ins_get I.hok ea
    obtain ⟨od, J, _⟩ := O.look
    exact PySem.W.kia_one (PySem.W.kitx_own (cl.get _) cl.hd ha hn htk hm) I.kIn J e (fun z => nomatch z) h
end
end L2

namespace L2
open PySem PySem.Spec PyProof.Rows

/-! ### room -/
structure Room (k : Nat) (A : Around) : Prop where
  hd : A.handled = none
  dp : A.depth + 3 * k + 5 < recursionLimit
  un : A.units + 16 * k + 200 < cLine
theorem Room.mono {j k : Nat} {A : Around} (r : Room k A) (h : j ≤ k) : Room j A := ⟨r.hd, by have := r.dp; omega, by have := r.un; omega⟩
theorem Room.deeper {k : Nat} {A : Around} (r : Room (k + 1) A) (env : Env) : Room k (A.deeper env) :=
  ⟨r.hd, by have := r.dp; show A.depth + 1 + 3 * k + 5 < _; omega, by have := r.un; show A.units + 3 + 16 * k + 200 < _; omega⟩
theorem Room.in1 {k : Nat} {A : Around} (r : Room (k + 1) A) : Room k A.in1 :=
  ⟨r.hd, by have := r.dp; show A.depth + 3 * k + 5 < _; omega, by have := r.un; show A.units + 1 + 16 * k + 200 < _; omega⟩
theorem make_depth {A : Around} {C : Addr} {us : List Value} {kw : List (Str × Value)} : (A.under (.builtin "type.__call__" ⟨.ref C :: us, kw⟩)).depth = A.depth + 1 := by
  first | rfl | simp [Around.under, Code.weight, Code.isCreation, Code.isGuard, Code.isCaller, Code.frames, Code.isFrame, guardIds]
theorem make_units {A : Around} {C : Addr} {us : List Value} {kw : List (Str × Value)} : (A.under (.builtin "type.__call__" ⟨.ref C :: us, kw⟩)).units = A.units + 1 := by
  first | rfl | simp [Around.under, Code.cUnits, Code.frames, Code.isFrame]
theorem Room.make {k : Nat} {A : Around} (r : Room (k + 1) A) (C : Addr) (us : List Value) (kw : List (Str × Value)) : Room k (A.under (.builtin "type.__call__" ⟨.ref C :: us, kw⟩)) :=
  ⟨r.hd, by have := r.dp; rw [make_depth]; omega, by have := r.un; rw [make_units]; omega⟩
theorem Room.depth {k : Nat} {A : Around} (r : Room k A) : A.depth < recursionLimit := by have := r.dp; omega
theorem Room.units {k : Nat} {A : Around} (r : Room k A) : A.units + 64 < cLine := by have := r.un; omega
/-! ### argument lists and displays -/
def tNil : TA := fun _ H Q => Q [] H
def tCons (ta : TE) (tr : TA) : TA := fun σ H Q => ta σ H fun x H1 => tr σ H1 fun xs H2 => Q (x :: xs) H2
section
variable {X : Cx} {e : Expr} {es : List Expr} {te : TE} {t : TA} {pos : Pos}
theorem pa_nil : PA X [] tNil := fun _ _ _ _ H Q I h => Calls.spliced_nil ⟨[], H, I, .nil, h⟩
theorem pa_cons (ha : PE X e te) (hr : PA X es t) (hs : starEach (e :: es) X.env = (false, eval e X.env) :: starEach es X.env := by rfl) : PA X (e :: es) (tCons te t) := by
  intro pos pins s σ H Q I h
  rw [hs]
  show wpAny _ _ (spliced ((false, eval e X.env) :: backTo pos (starEach es X.env))) _ _ s
  refine Calls.spliced_cons (thn (ha pins s σ H _ I h) fun u s1 ⟨x, H1, I1, r1, q1⟩ => ?_)
  exact thn (hr pos pins s1 σ H1 _ I1 q1) fun us s2 ⟨xs, H2, I2, r2, q2⟩ => ⟨x :: xs, H2, I2, .cons r1 r2, q2⟩

/-- a tuple, a list of written items -/
def tTup (t : TA) : TE := fun σ H Q => t σ H fun xs H1 => xs.length ≤ sizeLine ∧ ∀ p, H1 p = none → Q (.ref p) (upd H1 p (.tup xs))
def tLst (t : TA) : TE := fun σ H Q => t σ H fun xs H1 => xs.length ≤ sizeLine ∧ ∀ p, H1 p = none → Q (.ref p) (upd H1 p (.lst xs))
theorem pe_lst (h : PA X es t) : PE X (.List es pos) (tLst t) := by
  intro pins s σ H Q I hq
  refine wpAny_List_spliced (thn (h pos pins s σ H _ I hq) fun us s1 ⟨xs, H1, I1, r, z, q⟩ => ⟨by rw [← r.length]; exact z, ?_⟩)
  have hf : H1 s1.heap.objs.size = none := I1.hok.fresh (Nat.le_refl _)
  refine ⟨.ref s1.heap.objs.size, upd H1 s1.heap.objs.size (.lst xs), I1.laid (t' := s1.toks) (fun b u e => Heap.get?_push_of_some _ e) (Nat.le_refl _) ?_, rfl, q _ hf⟩
  exact ⟨z, us, 0, r, Heap.get?_push_size _ rfl⟩
end

/-! ### what a def promises -/
/-- a def's promise: the bound arguments in the parameters' order, the heap, the wanted end, the wanted exception -/
abbrev Sp := List V → Hp → VK → XK → Prop
/-- how an exception lies behind a call (file 08 gives it): the callers' frames, abstract heap and state ahead of the call, the wish, the exception, the state -/
abbrev CXT := List Env → Hp → Shared → XK → Value → Shared → Prop

/-- the state at a call -/
structure Env0 (P : Program) (w : World) (K : PySem.W.Frag) (mg : Str → Option Value) (base : Heap) (A : Around) (outer : List Env) (s : Shared) (H : Hp) : Prop where
  frames : A.frames = some outer
  mod : Mod K mg base
  bs : ∀ b o, base.get? b = some o → s.heap.get? b = some o ∧ H b = none
  bsz : base.objs.size ≤ s.heap.objs.size
  funs : s.heap.FunFrames base outer
  frf : ∀ b ∈ frs outer, H b = none
  hok : HOk P w H s.heap
  bare : AllBare s.gens
/-- a call's end -/
def CE (outer : List Env) (P : Program) (w : World) (H : Hp) (s : Shared) (Q : VK) (u : Value) (s' : Shared) : Prop :=
  ∃ v H', s'.os = s.os ∧ AllBare s'.gens ∧ Un (frs outer) [] H H' s.heap s'.heap ∧ HOk P w H' s'.heap ∧ RelV v u ∧ Q v H'
def CR (CX : CXT) (outer : List Env) (P : Program) (w : World) (H : Hp) (s : Shared) (Q : VK) (E : XK) (r : Result) (s' : Shared) : Prop :=
  match r with
  | .ok (.ret u) => CE outer P w H s Q u s'
  | .ok _ => False
  | .error e => CX outer H s E e s'
structure FnOk (P : Program) (w : World) (K : PySem.W.Frag) (mg : Str → Option Value) (base : Heap) (CX : CXT) (k : Nat) (f : Addr) (fd : FuncData) (ps : List Str) (sp : Sp) : Prop where
  len : ∀ vs H Q E, sp vs H Q E → vs.length = ps.length
  run : ∀ (A : Around) (outer : List Env) (s : Shared) (H : Hp) (args : Args) (us : List Value) (vs : List V) (Q : VK) (E : XK), Room k A → Env0 P w K mg base A outer s H → BindsTo s fd args (ps.zip us) → Vals vs us → sp vs H Q E →
    codeAny (model P w) A (.call (.ref f) args) (CR CX outer P w H s Q E) s
theorem FnOk.mono {P : Program} {w : World} {K : PySem.W.Frag} {mg : Str → Option Value} {base : Heap} {CX : CXT} {j k : Nat} {f : Addr} {fd : FuncData} {ps : List Str} {sp : Sp} (F : FnOk P w K mg base CX j f fd ps sp) (h : j ≤ k) :
    FnOk P w K mg base CX k f fd ps sp := ⟨F.len, fun A outer s H args us vs Q E hr => F.run A outer s H args us vs Q E (hr.mono h)⟩
/-- a weaker promise -/
theorem FnOk.imp {P : Program} {w : World} {K : PySem.W.Frag} {mg : Str → Option Value} {base : Heap} {CX : CXT} {k : Nat} {f : Addr} {fd : FuncData} {ps : List Str} {sp sp' : Sp} (F : FnOk P w K mg base CX k f fd ps sp)
    (h : ∀ vs H Q E, sp' vs H Q E → sp vs H Q E) : FnOk P w K mg base CX k f fd ps sp' :=
  ⟨fun vs H Q E q => F.len vs H Q E (h _ _ _ _ q), fun A outer s H args us vs Q E hr he hb hv hs => F.run A outer s H args us vs Q E hr he hb hv (h _ _ _ _ hs)⟩

theorem Env0.make {P : Program} {w : World} {K : PySem.W.Frag} {mg : Str → Option Value} {base : Heap} {A : Around} {outer : List Env} {s : Shared} {H : Hp} (e : Env0 P w K mg base A outer s H) (C : Addr) (us : List Value) (kw : List (Str × Value)) :
    Env0 P w K mg base (A.under (.builtin "type.__call__" ⟨.ref C :: us, kw⟩)) outer s H := ⟨by first | exact e.frames | (simpa [Around.under, Code.envs, Code.isFrame, pushEnvs] using e.frames), e.mod, e.bs, e.bsz, e.funs, e.frf, e.hok, e.bare⟩
theorem Env0.in1 {P : Program} {w : World} {K : PySem.W.Frag} {mg : Str → Option Value} {base : Heap} {A : Around} {outer : List Env} {s : Shared} {H : Hp} (e : Env0 P w K mg base A outer s H) :
    Env0 P w K mg base A.in1 outer s H := ⟨e.frames, e.mod, e.bs, e.bsz, e.funs, e.frf, e.hok, e.bare⟩

section
variable {X : Cx} {pins : List (Addr × Obj)} {σ : St} {H : Hp} {s s' : Shared}
/-- from a body: what a callee wants -/
theorem Inv.env0 (I : Inv X pins σ H s) : Env0 X.prog X.w X.K X.mg X.base X.A X.stack s H :=
  ⟨I.ok.frames, I.ok.mod, I.bs, Nat.le_trans I.ok.bsz I.sz, I.stack, I.stkFree, I.hok, I.bare⟩
/-- behind a call -/
theorem Inv.after {Q : VK} {u : Value} (I : Inv X pins σ H s) (h : CE X.stack X.prog X.w H s Q u s') : EP X pins σ Q u s' := by
  obtain ⟨v, H', os, bare, un, hok, r, q⟩ := h
  obtain ⟨hh, g, d, t, os'⟩ := s'
  obtain rfl : os' = s.os := os
  exact ⟨v, H', I.call (h' := hh) (g' := g) (d' := d) (t' := t) (ch := []) un hok bare (fun b z => absurd z (by simp)), r, q⟩
end

/-! ### calls -/
/-- f(..): the written arguments, then the defaults dvs; E: what is wanted of an exception -/
def tCall (sp : Sp) (dvs : List V) (E : XK) (t : TA) : TE := fun σ H Q => t σ H fun vs H1 => sp (vs ++ dvs) H1 Q E
/-- o.m(..) of an instance of the class at C -/
def tMeth (C : Addr) (m : Str) (sp : Sp) (dvs : List V) (E : XK) (ta : TE) (t : TA) : TE := fun σ H Q => ta σ H fun x H1 => ∃ a dx fs, x = .ref a ∧ H1 a = some (.ins C dx fs) ∧ fs.lookup m = none ∧
  t σ H1 fun vs H2 => sp (x :: (vs ++ dvs)) H2 Q E
/-- C(..): a new instance and its dict, then __init__ -/
def tMake (C : Addr) (sp : Sp) (dvs : List V) (E : XK) (t : TA) : TE := fun σ H Q => t σ H fun vs H1 => ∀ x dx, H1 x = none → H1 dx = none → dx ≠ x →
  sp (.ref x :: (vs ++ dvs)) (upd (upd H1 dx (.own x)) x (.ins C dx [])) (fun v H2 => v = .non ∧ Q (.ref x) H2) E

/-- how the parameters are bound: us the positional arguments, kw the keywords' values by name, ds the defaults that fill up -/
def Binds (K : PySem.W.Frag) (fd : FuncData) (ps : List Str) (ds : List Value) : Prop :=
  ∀ (s : Shared) (us : List Value), K.In s.heap → (us ++ ds).length = ps.length → BindsTo s fd ⟨us, []⟩ (ps.zip (us ++ ds))
/-- every parameter is given -/
theorem Binds.all {K : PySem.W.Frag} {fd : FuncData} {ps : List Str} (h : ∀ us : List Value, us.length = ps.length → bindArgs fd ⟨us, []⟩ = pure (ps.zip us)) : Binds K fd ps [] := fun s us _ hl => by
  rw [List.append_nil] at hl ⊢
  exact .of_eq (h us hl)

/-- an exception of a callee reaches what this body wants of exceptions -/
def Passes (CX : CXT) (X : Cx) (E : XK) : Prop := ∀ (pins : List (Addr × Obj)) (σ : St) (H : Hp) (s : Shared) (e : Value) (s' : Shared), Inv X pins σ H s → CX X.stack H s E e s' → X.xe e s'

section
variable {X : Cx} {CX : CXT} {k : Nat} {f C : Addr} {fd : FuncData} {ps : List Str} {sp : Sp} {dvs : List V} {ds : List Value} {E : XK} {x m : Str} {p pos apos : Pos} {e o : Expr} {es : List Expr} {ta : TE} {t : TA}

/-- the callee runs -/
theorem run_fn {pins : List (Addr × Obj)} {σ : St} {H : Hp} {s : Shared} {Q : VK} {us : List Value} {vs : List V} (F : FnOk X.prog X.w X.K X.mg X.base CX k f fd ps sp) (hr : Room k X.A) (hb : Binds X.K fd ps ds) (hd : Vals dvs ds) (hx : Passes CX X E)
    (I : Inv X pins σ H s) (r : Vals vs us) (h : sp (vs ++ dvs) H Q E) : wpAny (model X.prog X.w) X.A (call (.ref f) us) (EP X pins σ Q) X.xe s := by
  have r2 : Vals (vs ++ dvs) (us ++ ds) := r.append hd
  have hl : (us ++ ds).length = ps.length := by rw [← r2.length]; exact F.len _ _ _ _ h
  refine wpAny_call (codeAny_mono (F.run X.A X.stack s H ⟨us, []⟩ (us ++ ds) (vs ++ dvs) Q E hr I.env0 (hb s us I.kIn hl) r2 h) fun r s' hq => ?_)
  cases r with
  | error e => exact hx pins σ H s e s' I hq
  | ok fl =>
    cases fl with
    | ret u => exact I.after hq
    | next => exact False.elim hq
    | brk => exact False.elim hq
    | cont => exact False.elim hq

theorem pe_call (F : FnOk X.prog X.w X.K X.mg X.base CX k f fd ps sp) (hr : Room k X.A) (hg : Gl X x) (hm : X.mg x = some (.ref f)) (hk : PySem.W.keepIn X.K (.ref f) = true) (hb : Binds X.K fd ps ds) (hd : Vals dvs ds) (hx : Passes CX X E)
    (ha : PA X (e :: es) t) (hdb : (x == ("__debug__" : Str)) = false := by decide) (he : starEach (e :: es) X.env = (false, eval e X.env) :: starEach es X.env := by rfl) (hpl : (backTo pos (starEach es X.env)).any (·.1) = false := by rfl) :
    PE X (.Call (.Name x p) (e :: es) [] pos) (tCall sp dvs E t) := by
  intro pins s σ H Q I h
  refine wpAny_Call_Name_kw (ld_glob I hg hm ?_ hdb)
  refine PySem.W.callWith_K (h₀ := X.base) I.ok.mod.kin hk (thn (ha pos pins s σ H _ I h) fun us s1 ⟨vs, H1, I1, r, q⟩ => ⟨I1.kIn, ?_⟩) he hpl
  exact run_fn F hr hb hd hx I1 r q
/-- what a class must have to be made -/
structure Mk (K : PySem.W.Frag) (C f : Addr) : Prop where
  makes : PySem.W.makesIn K C = true
  init : PySem.W.findIn K (.ref C) "__init__" = some (some (.ref f))
  fn : PySem.W.isFn K (.ref f) = true
  kp : PySem.W.keepIn K (.ref C) = true

end

/-! ### keywords -/
/-- the values of the keywords, from the left -/
def PK (X : Cx) (kws : List Keyword) (t : TA) : Prop :=
  ∀ (pos : Pos) (pins : List (Addr × Obj)) (s : Shared) (σ : St) (H : Hp) (Q : List V → Hp → Prop), Inv X pins σ H s → t σ H Q → wpAny (model X.prog X.w) X.A (evalAll ((backToKw pos (keywordEach kws X.env)).map (·.2))) (AP X pins σ Q) X.xe s
section
variable {X : Cx} {CX : CXT} {k : Nat} {f C : Addr} {fd : FuncData} {ps ks : List Str} {sp : Sp} {E : XK} {x m : Str} {p pos apos kpos : Pos} {e o : Expr} {es : List Expr} {kws : List Keyword} {te ta : TE} {t tk : TA} {nm : Option Str}
/-- how a call with keywords binds: g puts the positional values us and the keywords' values ws (names ks) in the parameters' order, defaults among them -/
structure KBinds (K : PySem.W.Frag) (fd : FuncData) (ps ks : List Str) (g : List Value → List Value → List Value) (gV : List V → List V → List V) : Prop where
  to : ∀ (s : Shared) (us ws : List Value), K.In s.heap → (g us ws).length = ps.length → BindsTo s fd ⟨us, ks.zip ws⟩ (ps.zip (g us ws))
  rel : ∀ {vs : List V} {us : List Value} {zs : List V} {ws : List Value}, Vals vs us → Vals zs ws → Vals (gV vs zs) (g us ws)
def tCallK (sp : Sp) (gV : List V → List V → List V) (E : XK) (t tk : TA) : TE := fun σ H Q => t σ H fun vs H1 => tk σ H1 fun zs H2 => sp (gV vs zs) H2 Q E
variable {g : List Value → List Value → List Value} {gV : List V → List V → List V}
end

/-! ### a def's body keeps its promise -/
/-- names: the parameters first -/
structure FnScope (N P : List Str) (sc : Scope) : Prop where
  kind : sc.kind = .function
  co : sc.isCoroutine = false
  gen : sc.isGenerator = false
  nd : N.Nodup
  pre : N.take P.length = P
  par : ∀ x ∈ P, sc.names.lookup x = some .local ∨ sc.names.lookup x = some .cell
  nofree : ∀ y ∈ sc.names, y.2 ≠ .free

theorem bindL_out {kindOf : Str → Option NameKind} {x : Str} : ∀ {binds : List (Str × Value)} {m : Str → Option Value}, (∀ v, (x, v) ∉ binds) → bindL kindOf binds m x = m x
  | [], _, _ => rfl
  | (n, v) :: r, m, h => by
    unfold bindL
    rw [bindL_out fun w hw => h w (List.mem_cons_of_mem _ hw)]
    split
    · have : x ≠ n := by rintro rfl; exact h v List.mem_cons_self
      simp [this]
    · rfl
theorem bindC_out {kindOf : Str → Option NameKind} {x : Str} : ∀ {binds : List (Str × Value)} {m : Str → Option Value}, (∀ v, (x, v) ∉ binds) → bindC kindOf binds m x = m x
  | [], _, _ => rfl
  | (n, v) :: r, m, h => by
    unfold bindC
    rw [bindC_out fun w hw => h w (List.mem_cons_of_mem _ hw)]
    split
    · rfl
    · have : x ≠ n := by rintro rfl; exact h v List.mem_cons_self
      simp [this]
theorem bindL_get {kindOf : Str → Option NameKind} {x : Str} {v : Value} : ∀ {P : List Str} {vs : List Value} {i : Nat} {m : Str → Option Value}, P.Nodup → P[i]? = some x → vs[i]? = some v → kindOf x = some .local →
    bindL kindOf (P.zip vs) m x = some v
  | [], _, _, _, _, h, _, _ => by simp at h
  | _ :: _, [], _, _, _, _, h, _ => by simp at h
  | p :: P, w :: vs, 0, m, nd, h1, h2, hk => by
    simp at h1 h2; subst h1; subst h2
    show bindL kindOf ((p, w) :: P.zip vs) m p = _
    unfold bindL
    rw [bindL_out fun v hv => (List.nodup_cons.mp nd).1 (List.of_mem_zip hv).1, if_pos hk]
    simp
  | p :: P, w :: vs, i + 1, m, nd, h1, h2, hk => by
    show bindL kindOf ((p, w) :: P.zip vs) m x = _
    unfold bindL
    exact bindL_get (i := i) (List.nodup_cons.mp nd).2 (by simpa using h1) (by simpa using h2) hk
theorem bindC_get {kindOf : Str → Option NameKind} {x : Str} {v : Value} : ∀ {P : List Str} {vs : List Value} {i : Nat} {m : Str → Option Value}, P.Nodup → P[i]? = some x → vs[i]? = some v → kindOf x ≠ some .local →
    bindC kindOf (P.zip vs) m x = some v
  | [], _, _, _, _, h, _, _ => by simp at h
  | _ :: _, [], _, _, _, _, h, _ => by simp at h
  | p :: P, w :: vs, 0, m, nd, h1, h2, hk => by
    simp at h1 h2; subst h1; subst h2
    show bindC kindOf ((p, w) :: P.zip vs) m p = _
    unfold bindC
    rw [bindC_out fun v hv => (List.nodup_cons.mp nd).1 (List.of_mem_zip hv).1, if_neg hk]
    simp
  | p :: P, w :: vs, i + 1, m, nd, h1, h2, hk => by
    show bindC kindOf ((p, w) :: P.zip vs) m x = _
    unfold bindC
    exact bindC_get (i := i) (List.nodup_cons.mp nd).2 (by simpa using h1) (by simpa using h2) hk

/-- the names' values at the entry -/
def start (N : List Str) (vs : List V) : St := vs.map some ++ List.replicate (N.length - vs.length) none

/-- the context of a def's body, at its entry; an exception leaves the frame, then lies as CX says -/
def cxOf (CX : CXT) (P : Program) (w : World) (K : PySem.W.Frag) (mg : Str → Option Value) (base : Heap) (N : List Str) (qual : Str) (scope : Scope) (f : Addr) (cd : Value) (A : Around) (outer : List Env) (s : Shared) (H : Hp) (E : XK) : Cx where
  prog := P
  w := w
  K := K
  mg := mg
  base := base
  A := A.deeper (envOfC qual scope s.heap.objs.size f cd)
  N := N
  s₀ := s
  H₀ := H
  env := envOfC qual scope s.heap.objs.size f cd
  outer := outer
  stack := envOfC qual scope s.heap.objs.size f cd :: outer
  ex := []
  calm := true
  fn := fun _ => true
  pn := []
  xe := fun e s' => wpAny (model P w) (A.deeper (envOfC qual scope s.heap.objs.size f cd)) (leaving (envOfC qual scope s.heap.objs.size f cd) e) (fun _ s'' => CX outer H s E e s'') (fun e' s'' => CX outer H s E e' s'') s'

theorem cell_has {sc : Scope} {n : Nat} {x : Str} (h : sc.names.lookup x = some .cell) : ∃ c, (cellsFrom n sc.names []).lookup x = some c := by
  have q := PySem.W.cellsFrom_some sc.names n [] (.inl h)
  exact Option.isSome_iff_exists.mp q

theorem inv_start {CX : CXT} {P : Program} {w : World} {K : PySem.W.Frag} {mg : Str → Option Value} {base : Heap} {N ps : List Str} {qual : Str} {scope : Scope} {f : Addr} {cd : Value} {A : Around} {outer : List Env} {s s1 : Shared} {H : Hp} {E : XK} {us : List Value} {vs : List V}
    (S : FnScope N ps scope) (hd : A.handled = none) (e0 : Env0 P w K mg base A outer s H) (hl : vs.length = ps.length) (r : Vals vs us)
    (x : InCallC s s.heap.objs.size (bindL (envOfC qual scope s.heap.objs.size f cd).kindOf (ps.zip us) fun _ => none) (cellsFrom (s.heap.objs.size + 1) scope.names []) (bindC (envOfC qual scope s.heap.objs.size f cd).kindOf (ps.zip us) fun _ => none) s1) :
    Inv (cxOf CX P w K mg base N qual scope f cd A outer s H E) [] (start N vs) H s1 := by
  have hpl : ps.length ≤ N.length := by have := congrArg List.length S.pre; rw [List.length_take] at this; omega
  obtain ⟨h1, tk, rfl, hk⟩ := x.done
  have noA : ∀ b : Addr, b ∉ (cxOf CX P w K mg base N qual scope f cd A outer s H E).ex := fun b z => absurd (show b ∈ ([] : List Addr) from z) (by simp)
  refine ⟨⟨e0.mod, S.kind, rfl, rfl, Nat.le_refl _, fun y z c h1 h2 => ?_, fun y hy => ?_, fun y c _ h => ?_, fun _ => hd, Around.frames_deeper e0.frames, .inr ⟨rfl, rfl⟩, fun b z => absurd z (noA b), e0.bs, e0.bsz, fun b _ _ => noA b, fun b z => absurd z (noA b), e0.funs, e0.frf⟩,
    rfl, e0.bare, Un.kept hk, ⟨_, x.toInCall.ns, fun i y v h1 h2 h3 => ?_⟩, fun y c h => ⟨_, x.cell y c h⟩, e0.hok.fresh (Nat.le_refl _), fun y c h => ?_, fun p hp => absurd (show p ∈ ([] : List (Addr × Obj)) from hp) (by simp), e0.hok.kept hk, ?_⟩
  · exact name_of_addr x.apart (PySem.mem_of_lookup h1) (PySem.mem_of_lookup h2)
  · have hy : scope.names.lookup y = some .cell ∨ scope.names.lookup y = some .free := hy
    rcases hy with hy | hy
    · exact cell_has hy
    · exact absurd rfl (S.nofree _ (PySem.mem_of_lookup hy))
  · exact Nat.le_of_lt (x.above y c (PySem.mem_of_lookup h))
  · have hi : i < vs.length := by
      unfold start at h2
      by_cases hi : i < vs.length
      · exact hi
      · rw [List.getElem?_append_right (by simpa using hi)] at h2
        rw [List.getElem?_replicate] at h2
        split at h2 <;> cases h2
    have ha : vs[i]? = some v := by
      unfold start at h2
      rw [List.getElem?_append_left (by simpa using hi), List.getElem?_map] at h2
      cases e : vs[i]? with
      | none => rw [e] at h2; cases h2
      | some a => rw [e] at h2; cases h2; rfl
    obtain ⟨u, hu, rv⟩ := r.get ha
    have hp : ps[i]? = some y := by
      rw [← S.pre, List.getElem?_take_of_lt (by omega)]; exact h1
    have ndP : ps.Nodup := by rw [← S.pre]; exact S.nd.sublist (List.take_sublist _ _)
    refine ⟨u, rv, ?_⟩
    rcases S.par y (List.mem_of_getElem? hp) with k | k
    · exact .inl ⟨k, bindL_get ndP hp hu k⟩
    · obtain ⟨c, e⟩ := cell_has (n := s.heap.objs.size + 1) k
      refine .inr ⟨.inl k, c, e, ?_⟩
      have q := x.cell y c e
      rw [bindC_get ndP hp hu (by show scope.names.lookup y ≠ _; rw [k]; decide)] at q
      exact q
  · exact e0.hok.fresh (Nat.le_of_lt (x.above y c (PySem.mem_of_lookup h)))
  · unfold start
    show _ = N.length
    rw [List.length_append, List.length_map, List.length_replicate]
    omega

/-- THE RULE: a def (or a method) of the text, by its body. The body's reading t is chosen for each entry; it is run at the parameters' values -/
theorem fn_of {CX : CXT} {P : Program} {w : World} {K : PySem.W.Frag} {mg : Str → Option Value} {base : Heap} {k : Nat} {f : Addr} {name qual : Str} {params : Arguments} {body : List Stmt} {scope : Scope} {dV kV doc pm cdv ct oc : Value} {an od : Option Addr}
    {osl : Array (Option Value)} {N ps : List Str} {sp : Sp} (lk : K.lookup f = some ⟨oc, od, .func (PySem.W.fnOf name qual params body scope dV kV doc pm an cdv ct), osl⟩) (hcd : PySem.W.codeIn K cdv qual = true) (S : FnScope N ps scope)
    (len : ∀ vs H Q E, sp vs H Q E → vs.length = ps.length)
    (hbody : ∀ (A : Around) (outer : List Env) (s : Shared) (H : Hp) (vs : List V) (Q : VK) (E : XK), Room k (A.deeper (envOfC qual scope s.heap.objs.size f cdv)) → sp vs H Q E →
      ∃ t, PSs (cxOf CX P w K mg base N qual scope f cdv A outer s H E) body t ∧ t { nx := fun _ H' => Q .non H', rt := Q } (start N vs) H) :
    FnOk P w K mg base CX (k + 1) f (PySem.W.fnOf name qual params body scope dV kV doc pm an cdv ct) ps sp := by
  refine ⟨len, fun A outer s H args us vs Q E hr e0 hb r hsp => ?_⟩
  have hl := len _ _ _ _ hsp
  have KX : K.In s.heap := e0.mod.kin.keeps fun b o e => (e0.bs b o e).1
  have lim : s.heap.NoLimit := e0.mod.nolimit.keeps fun b o e => (e0.bs b o e).1
  have hkind : ∀ y ∈ ps.zip us, scope.names.lookup y.1 = some .local ∨ (scope.names.lookup y.1 = some .cell ∧ ((cellsFrom (s.heap.objs.size + 1) scope.names []).lookup y.1).isSome = true) := fun ⟨n, v⟩ hy => by
    rcases S.par n (List.of_mem_zip hy).1 with q | q
    · exact .inl q
    · exact .inr ⟨q, PySem.W.cellsFrom_some _ _ _ (.inl q)⟩
  refine codeAny_call_function hr.depth (KX _ _ lk) rfl S.co S.gen rfl (PySem.W.codeRec_of KX hcd) (hb _ _ _ _ ?_)
  refine wpAny_newFunctionEnv_cells S.kind hkind fun env he s1 x => ?_
  subst he
  refine ⟨lim.keeps x.toInCall.keep, codeAny_func ?_⟩
  obtain ⟨t, ht, hq⟩ := hbody A outer s H vs Q E (hr.deeper _) hsp
  have I : Inv (cxOf CX P w K mg base N qual scope f cdv A outer s H E) [] (start N vs) H s1 := inv_start S hr.hd e0 hl r x
  refine wpAny_mono (ht [] s1 (start N vs) H _ I hq) (fun fl s' hs => ?_) fun e s' hs => hs
  have fin : ∀ {σ' : St} {H' : Hp} {v : V} {u : Value}, Inv (cxOf CX P w K mg base N qual scope f cdv A outer s H E) [] σ' H' s' → RelV v u → Q v H' → CE outer P w H s Q u s' :=
    fun {σ' H' v u} J rv q => ⟨v, H', J.os, J.bare, J.base, J.hok, rv, q⟩
  cases fl with
  | ret u =>
    obtain ⟨v, σ', H', J, rv, q⟩ := hs
    exact fin J rv q
  | next =>
    obtain ⟨σ', H', J, q⟩ := hs
    exact fin (v := V.non) (u := Value.none) J rfl q
  | brk =>
    obtain ⟨_, _, _, q⟩ := hs
    exact False.elim q
  | cont =>
    obtain ⟨_, _, _, q⟩ := hs
    exact False.elim q
end L2

namespace L2
open PySem PySem.Spec PyProof.Rows
section
variable {X : Cx} {x : Str} {p pos : Pos} {e : Expr} {es : List Expr} {t : TA} {id T : String} {r : List V → Hp → VK → Prop}

def tCB (r : List V → Hp → VK → Prop) (t : TA) : TE := fun σ H Q => t σ H fun vs H1 => r vs H1 Q
/-- f(e, ..), f a built-in function -/
theorem pe_callB (hc : CallR X (.builtin id) r) (hg : Gl X x) (hm : X.mg x = none) (hv : bootBuiltins x = some (.builtin id)) (ha : PA X (e :: es) t) (hn : x ≠ "__name__" := by decide) (hdb : (x == ("__debug__" : Str)) = false := by decide)
    (he : starEach (e :: es) X.env = (false, eval e X.env) :: starEach es X.env := by rfl) (hpl : (backTo pos (starEach es X.env)).any (·.1) = false := by rfl) : PE X (.Call (.Name x p) (e :: es) [] pos) (tCB r t) := by
  intro pins s σ H Q I h
  refine wpAny_Call_Name_kw (ld_blt I hg hm hv ?_ hn hdb)
  exact PyProof.Rows.callWith_builtin1 (thn (ha pos pins s σ H _ I h) fun us s1 ⟨vs, H1, I1, r1, q1⟩ => hc pins s1 σ H1 vs us Q I1 r1 q1) he hpl
/-- T(e, ..), T a built-in type -/
theorem pe_callTy (hc : CallR X (.type T) r) (hg : Gl X x) (hm : X.mg x = none) (hv : bootBuiltins x = some (.type T)) (ha : PA X (e :: es) t) (hn : x ≠ "__name__" := by decide) (hdb : (x == ("__debug__" : Str)) = false := by decide)
    (he : starEach (e :: es) X.env = (false, eval e X.env) :: starEach es X.env := by rfl) (hpl : (backTo pos (starEach es X.env)).any (·.1) = false := by rfl) : PE X (.Call (.Name x p) (e :: es) [] pos) (tCB r t) := by
  intro pins s σ H Q I h
  refine wpAny_Call_Name_kw (ld_blt I hg hm hv ?_ hn hdb)
  exact PyProof.Rows.callWith_type1 (thn (ha pos pins s σ H _ I h) fun us s1 ⟨vs, H1, I1, r1, q1⟩ => hc pins s1 σ H1 vs us Q I1 r1 q1) he hpl
end
end L2

namespace HT
open PySem PyProof.Rows

/-- t < u of tuples of ints -/
def lexLt : List Int → List Int → Bool
  | [], [] => false
  | [], _ :: _ => true
  | _ :: _, [] => false
  | x :: xs, y :: ys => if x = y then lexLt xs ys else decide (x < y)
section
open PySem.SeqAt
open PySem.AutoSeq1 (wpAny_loadPart')
open PySem.MeetsSeq PySem.MeetsSeq2 PySem.MeetsSeq3

end

section
variable {prog : Program} {w : World} {A : Around} {E : Value → Shared → Prop} {s : Shared}

/-! ### t[a:b], not the whole -/
/-- a slice's bound as a place among n (d where it is left out) -/
def sIx (n d : Nat) : Option Int → Nat
  | none => d
  | some v => if v < 0 then (v + (n : Int)).toNat else min v.toNat n
theorem sIx_none (n d : Nat) : sIx n d none = d := rfl
theorem sIx_nat (n d k : Nat) : sIx n d (some (k : Int)) = min k n := by
  show (if (k : Int) < 0 then ((k : Int) + (n : Int)).toNat else min (k : Int).toNat n) = min k n
  rw [if_neg (by omega), Int.toNat_natCast]
theorem clip_eq (v : Int) (n d : Nat) : (if v < 0 then max (v + (n : Int)) 0 else min v (n : Int)) = ((sIx n d (some v) : Nat) : Int) := by
  show (if v < 0 then max (v + (n : Int)) 0 else min v (n : Int)) = (((if v < 0 then (v + (n : Int)).toNat else min v.toNat n) : Nat) : Int)
  by_cases hv : v < 0
  · simp only [if_pos hv]; omega
  · simp only [if_neg hv]; omega
end
end HT

namespace L2
open PySem PySem.Spec PyProof.Rows

/-! ### the parts of a slice -/
abbrev TO := St → Hp → (Option Int → Hp → Prop) → Prop
/-- a slice's part (left out, or an int) -/
def PO (X : Cx) (e : Option Expr) (t : TO) : Prop :=
  ∀ (pins : List (Addr × Obj)) (s : Shared) (σ : St) (H : Hp) (Q : Option Int → Hp → Prop), Inv X pins σ H s → t σ H Q →
    wpAny (model X.prog X.w) X.A (evalPart e X.env) (fun u s' => ∃ o H', Inv X pins σ H' s' ∧ IsPart u o ∧ Q o H') X.xe s
def tNoPart : TO := fun _ H Q => Q none H
def tPart (t : TE) : TO := fun σ H Q => t σ H fun x H1 => ∃ i, x = .int i ∧ Q (some i) H1

section
variable {X : Cx} {e : Expr} {te : TE} {lo hi : Option Expr} {tl th : TO} {pos p2 : Pos}

theorem po_none : PO X none tNoPart := by
  intro pins s σ H Q I h
  rw [evalPart_none]
  exact wpAny_pure ⟨none, H, I, .none, h⟩
theorem po_some (h : PE X e te) : PO X (some e) (tPart te) := by
  intro pins s σ H Q I hw
  rw [evalPart_some]
  refine thn (h pins s σ H _ I hw) fun u s1 ⟨x, H1, I1, r1, q1⟩ => ?_
  obtain ⟨i, rfl, q⟩ := q1
  obtain ⟨t, rfl⟩ := r1
  exact ⟨some i, H1, I1, .int i t, q⟩

/-- what a slice of a value is, by values: the slice object stands at sl -/
def SlR (X : Cx) (r : V → Option Int → Option Int → Hp → VK → Prop) : Prop :=
  ∀ (pins : List (Addr × Obj)) (s : Shared) (σ : St) (H : Hp) (x : V) (v vl vu : Value) (lo hi : Option Int) (sl : Addr) (Q : VK), Inv X pins σ H s → RelV x v → s.heap.IsSliceOf sl vl vu .none → IsPart vl lo → IsPart vu hi → r x lo hi H Q →
    ∃ T id, typeLookup (.type T) "__getitem__" = pure (some (.builtin id)) ∧ s.TypeIs v T ∧ wpAny (model X.prog X.w) X.A (getItem v (.ref sl)) (EP X pins σ Q) X.xe s
theorem SlR.or {r r' : V → Option Int → Option Int → Hp → VK → Prop} (h : SlR X r) (h' : SlR X r') : SlR X (fun x lo hi H Q => r x lo hi H Q ∨ r' x lo hi H Q) := by
  intro pins s σ H x v vl vu lo hi sl Q I rx hs pl pu q
  rcases q with q | q
  · exact h pins s σ H x v vl vu lo hi sl Q I rx hs pl pu q
  · exact h' pins s σ H x v vl vu lo hi sl Q I rx hs pl pu q
def tSl (r : V → Option Int → Option Int → Hp → VK → Prop) (te : TE) (tl th : TO) : TE := fun σ H Q => te σ H fun x H1 => tl σ H1 fun l H2 => th σ H2 fun u H3 => r x l u H3 Q
/-- a[lo:hi], any a -/
theorem pe_slice {r : V → Option Int → Option Int → Hp → VK → Prop} (hr : SlR X r) (he : PE X e te) (hl : PO X lo tl) (hu : PO X hi th) : PE X (.Subscript e (.Slice lo hi none p2) pos) (tSl r te tl th) := by
  intro pins s σ H Q I h
  refine Subscript_ (thn (he pins s σ H _ I h) fun v s1 ⟨x, H1, I1, r1, q1⟩ => ?_)
  refine wpAny_Slice (thn (hl pins s1 σ H1 _ I1 q1) fun vl s2 ⟨l, H2, I2, pl, q2⟩ => thn (hu pins s2 σ H2 _ I2 q2) fun vu s3 ⟨u, H3, I3, pu, q3⟩ => ?_)
  rw [evalPart_none]
  refine wpAny_pure ?_
  have I4 : Inv X pins σ H3 { s3 with heap := s3.heap.push { cls := .type "slice", data := .fields #[vl, vu, .none] } } := I3.kept (t' := s3.toks) fun b ob q => Heap.get?_push_of_some _ q
  obtain ⟨T, id, hT, ht, hg⟩ := hr pins { s3 with heap := s3.heap.push { cls := .type "slice", data := .fields #[vl, vu, .none] } } σ H3 x v vl vu l u s3.heap.objs.size Q I4 r1 (Heap.IsSliceOf.new ..) pl pu q3
  show wpAny (model X.prog X.w) X.A (subscriptTail e (.Slice lo hi none p2) v (.ref s3.heap.objs.size)) (EP X pins σ Q) X.xe { s3 with heap := s3.heap.push { cls := .type "slice", data := .fields #[vl, vu, .none] } }
  exact tail_any (ops := [.ref s3.heap.objs.size, v]) ht hT hg (by with_unfolding_all rfl)

/-- the items of xs[lo:hi] -/
def cutV (xs : List V) (lo hi : Option Int) : List V := (xs.drop (HT.sIx xs.length 0 lo)).take (HT.sIx xs.length xs.length hi - HT.sIx xs.length 0 lo)
theorem cutV_length (xs : List V) (lo hi : Option Int) : (cutV xs lo hi).length ≤ xs.length := by
  unfold cutV
  rw [List.length_take, List.length_drop]
  omega
/-- t[lo:hi], not the whole of it (the whole would be t itself) -/
def rSlT (K : PySem.W.Frag) : V → Option Int → Option Int → Hp → VK → Prop := fun x lo hi H Q => ∃ a xs, x = .ref a ∧ SqT K H a xs ∧
  ¬ (HT.sIx xs.length 0 lo = 0 ∧ HT.sIx xs.length xs.length hi = xs.length) ∧ ∀ p, H p = none → Q (.ref p) (upd H p (.tup (cutV xs lo hi)))
/-! ### t < u, t + u -/
def rLtT (K : PySem.W.Frag) : R2 := fun x y H Q => ∃ a b ns ms, x = .ref a ∧ y = .ref b ∧ SqT K H a (ns.map V.int) ∧ SqT K H b (ms.map V.int) ∧ Q (.bl (HT.lexLt ns ms)) H
/-- t + u, t not empty: u empty gives t itself -/
def rCatT (K : PySem.W.Frag) : R2 := fun x y H Q => ∃ a b xs ys, x = .ref a ∧ y = .ref b ∧ SqT K H a xs ∧ SqT K H b ys ∧ xs ≠ [] ∧ xs.length + ys.length ≤ sizeLine ∧
  (ys = [] → Q (.ref a) H) ∧ (ys ≠ [] → ∀ p, H p = none → Q (.ref p) (upd H p (.tup (xs ++ ys))))
end
end L2

namespace L2
open PySem PySem.Spec PyProof.Rows

/-! ### places -/
/-- the place that an index of any sign means -/
def ixN (n : Nat) (i : Int) : Option Nat := if 0 ≤ i then (if i < n then some i.toNat else none) else if -(n : Int) ≤ i then some (i + n).toNat else none
def atI {α : Type} (xs : List α) (i : Int) : Option α := (ixN xs.length i).bind fun j => xs[j]?
theorem ixN_seq {n : Nat} {i : Int} {j : Nat} (h : ixN n i = some j) : seqIndex? i n = some j ∧ j < n ∧ -(n : Int) ≤ i ∧ i < n := by
  unfold ixN at h
  by_cases h0 : 0 ≤ i
  · rw [if_pos h0] at h
    by_cases h1 : i < n
    · rw [if_pos h1] at h
      have e : i.toNat = j := Option.some.inj h
      exact ⟨by rw [seqIndex_of h0 h1, e], by omega, by omega, h1⟩
    · rw [if_neg h1] at h; cases h
  · rw [if_neg h0] at h
    by_cases h1 : -(n : Int) ≤ i
    · rw [if_pos h1] at h
      have e : (i + n).toNat = j := Option.some.inj h
      exact ⟨by rw [seqIndex_neg (by omega) h1, e], by omega, h1, by omega⟩
    · rw [if_neg h1] at h; cases h
theorem atI_get {α : Type} {xs : List α} {i : Int} {v : α} (h : atI xs i = some v) : ∃ j, seqIndex? i xs.length = some j ∧ xs[j]? = some v ∧ j < xs.length ∧ -(xs.length : Int) ≤ i ∧ i < xs.length := by
  unfold atI at h
  cases e : ixN xs.length i with
  | none => rw [e] at h; cases h
  | some j =>
    rw [e] at h
    obtain ⟨h1, h2, h3, h4⟩ := ixN_seq e
    exact ⟨j, h1, h, h2, h3, h4⟩
theorem atI_nat {α : Type} {xs : List α} {j : Nat} {v : α} (h : xs[j]? = some v) : atI xs (j : Int) = some v := by
  have hj : j < xs.length := (List.getElem?_eq_some_iff.mp h).1
  have e : ixN xs.length (j : Int) = some j := by
    unfold ixN
    rw [if_pos (by omega), if_pos (by omega)]; simp
  unfold atI; rw [e]; exact h
/-! ### what may be subscripted -/
/-- what stands as an index of a plain subscript -/
def PlainIx (b : Expr) : Prop := ∀ o i, subscripted b false o i = operate [o, i] (getItem o i)
/-- a subscript by values -/
def IxR (X : Cx) (r : R2) : Prop :=
  ∀ (value slice : Expr) (pins : List (Addr × Obj)) (s : Shared) (σ : St) (H : Hp) (x y : V) (v u : Value) (Q : VK), Inv X pins σ H s → RelV x v → RelV y u → r x y H Q →
    subscripted slice false v u = operate [v, u] (getItem v u) → wpAny (model X.prog X.w) X.A (subscriptTail value slice v u) (EP X pins σ Q) X.xe s
/-- a call of a builtin's method by values: the receiver, the arguments -/
def MtR (X : Cx) (id : String) (r : V → List V → Hp → VK → Prop) : Prop :=
  ∀ (pins : List (Addr × Obj)) (s : Shared) (σ : St) (H : Hp) (x : V) (xs : List V) (v : Value) (us : List Value) (Q : VK), Inv X pins σ H s → RelV x v → Vals xs us → r x xs H Q →
    wpAny (model X.prog X.w) X.A (call (.builtin id) (v :: us)) (EP X pins σ Q) X.xe s
section
variable {X : Cx} {a b : Expr} {ta tb : TE} {pos : Pos}
theorem IxR.or {r r' : R2} (h : IxR X r) (h' : IxR X r') : IxR X (fun x y H Q => r x y H Q ∨ r' x y H Q) := by
  intro value slice pins s σ H x y v u Q I rx ry q hs
  rcases q with q | q
  · exact h value slice pins s σ H x y v u Q I rx ry q hs
  · exact h' value slice pins s σ H x y v u Q I rx ry q hs
theorem MtR.or {id : String} {r r' : V → List V → Hp → VK → Prop} (h : MtR X id r) (h' : MtR X id r') : MtR X id (fun x xs H Q => r x xs H Q ∨ r' x xs H Q) := by
  intro pins s σ H x xs v us Q I rx rs q
  rcases q with q | q
  · exact h pins s σ H x xs v us Q I rx rs q
  · exact h' pins s σ H x xs v us Q I rx rs q
/-- a[b] -/
theorem pe_ix {r : R2} (hr : IxR X r) (ha : PE X a ta) (hb : PE X b tb) (hs : PlainIx b) : PE X (.Subscript a b pos) (tOp r ta tb) := by
  intro pins s σ H Q I h
  exact Subscript_ (binT ha hb I h fun v u s2 x y H2 I2 rx ry q => hr a b pins s2 σ H2 x y v u Q I2 rx ry q (hs _ _))

def rIxL (K : PySem.W.Frag) : R2 := fun x y H Q => ∃ p xs i v, x = .ref p ∧ y = .int i ∧ SqL K H p xs ∧ atI xs i = some v ∧ Q v H
def rIxT (K : PySem.W.Frag) : R2 := fun x y H Q => ∃ p xs i v, x = .ref p ∧ y = .int i ∧ SqT K H p xs ∧ atI xs i = some v ∧ Q v H
def rIxS : R2 := fun x y H Q => ∃ z i c, x = .str z ∧ y = .int i ∧ z.length ≤ sizeLine ∧ atI z.cps.toList i = some c ∧ Q (.str ⟨#[c]⟩) H
theorem ix_list : IxR X (rIxL X.K) := by
  intro value slice pins s σ H x y v u Q I rx ry h hs
  obtain ⟨p, xs, i, z, rfl, rfl, hq, he, q⟩ := h
  cases rx
  obtain ⟨t, rfl⟩ := ry
  obtain ⟨its, r, pl, hz⟩ := I.list hq
  obtain ⟨j, h1, h2, h3, h4, h5⟩ := atI_get he
  obtain ⟨w, ew, rw'⟩ := r.get h2
  have hl := r.length
  have hn := line63
  have fin : EP X pins σ Q w s := ⟨z, H, I, rw', q⟩
  by_cases h0 : 0 ≤ i
  · have hj : i.toNat = j := by
      rw [seqIndex_of h0 h5] at h1
      exact Option.some.inj h1
    exact item_listR pl.isList h0 (by omega) (by rw [hj]; simpa using ew) fin hs
  · have hj : (i + (its.toArray.size : Int)).toNat = j := by
      rw [seqIndex_neg (by omega) h4] at h1
      rw [List.size_toArray, ← hl]
      exact Option.some.inj h1
    exact subscriptTail_builtinR (x := w) pl.isList.typeIs slot_list_getitem.lookup
      (wpAny_getItem_list_neg (Q := fun r s' => r = w ∧ EP X pins σ Q r s') pl.isList (by omega) (by rw [List.size_toArray] <;> omega) (by omega) (by rw [hj]; simpa using ew) ⟨rfl, fin⟩) hs
theorem ix_tup : IxR X (rIxT X.K) := by
  intro value slice pins s σ H x y v u Q I rx ry h hs
  obtain ⟨p, xs, i, z, rfl, rfl, hq, he, q⟩ := h
  cases rx
  obtain ⟨t, rfl⟩ := ry
  obtain ⟨its, r, pl, hz⟩ := I.tuple hq
  obtain ⟨j, h1, h2, h3, h4, h5⟩ := atI_get he
  obtain ⟨w, ew, rw'⟩ := r.get h2
  have hl := r.length
  have hn := line63
  have fin : EP X pins σ Q w s := ⟨z, H, I, rw', q⟩
  exact subscriptTail_builtinR (x := w) pl.typeIs slot_tuple_getitem.lookup
    (getItem_tuple (j := j) (Q := fun r s' => r = w ∧ EP X pins σ Q r s') pl (by omega) (by omega) (by rw [List.size_toArray, ← hl]; exact h1) (by simpa using ew) ⟨rfl, fin⟩) hs
/-- list, tuple or str -/
def rIx (K : PySem.W.Frag) : R2 := fun x y H Q => rIxL K x y H Q ∨ rIxT K x y H Q ∨ rIxS x y H Q
/-! ### xs[i] = v, any sign -/
/-- the list's object behind a store -/
theorem mapSeq_set (its : List Value) (n j : Nat) (u : Value) : Obj.mapSeq (·.setIfInBounds j u) { cls := .type "list", data := .seq its.toArray n } = { cls := .type "list", data := .seq (its.set j u).toArray n } := by
  simp [Obj.mapSeq]
theorem Inv.lst {pins : List (Addr × Obj)} {σ : St} {H : Hp} {s : Shared} {p : Addr} {xs : List V} (I : Inv X pins σ H s) (h : H p = some (.lst xs)) :
    ∃ (its : List Value) (n : Nat), Vals xs its ∧ s.heap.get? p = some { cls := .type "list", data := .seq its.toArray n } ∧ xs.length ≤ sizeLine := by
  obtain ⟨z, its, n, r, e⟩ := I.hok p _ h
  exact ⟨its, n, r, e, z⟩
/-- the list at p is written by an update of its object -/
theorem Inv.lstUpd {pins : List (Addr × Obj)} {σ : St} {H : Hp} {s : Shared} {p : Addr} {xs ys : List V} {its its' : List Value} {n n' : Nat} {f : Obj → Obj} (I : Inv X pins σ H s) (h : H p = some (.lst xs))
    (ho : s.heap.get? p = some { cls := .type "list", data := .seq its.toArray n }) (hf : f { cls := .type "list", data := .seq its.toArray n } = { cls := .type "list", data := .seq its'.toArray n' }) (r : Vals ys its') (hz : ys.length ≤ sizeLine) (t : Nat) :
    Inv X pins σ (upd H p (.lst ys)) { s with heap := s.heap.update p f, toks := t } := by
  have e : (s.heap.update p f).get? p = some { cls := .type "list", data := .seq its'.toArray n' } := by
    rw [Heap.get?_update_self f ho (by rw [hf] <;> rfl), hf]
  refine I.write (x := p) (e := p) (by rw [h]; trivial) (.inl rfl) (fun b u hb q => (Heap.get?_update_other _ _ (Ne.symm hb)).trans q) ⟨_, e⟩ ?_
  exact ⟨hz, its', n', r, e⟩
def rSetL : V → V → V → Hp → (Hp → Prop) → Prop := fun o i v H Q => ∃ p xs k j, o = .ref p ∧ i = .int k ∧ H p = some (.lst xs) ∧ ixN xs.length k = some j ∧ Q (upd H p (.lst (xs.set j v)))
theorem set_list : PSet X rSetL := by
  intro pins s σ H o i v ov iv u Q I ro ri rv h
  obtain ⟨p, xs, k, j, rfl, rfl, hp, hj, q⟩ := h
  cases ro
  obtain ⟨t, rfl⟩ := ri
  obtain ⟨its, n, r, ho, hz⟩ := I.lst hp
  obtain ⟨h1, h2, h3, h4⟩ := ixN_seq hj
  have hl := r.length
  have hn := line63
  have I' : Inv X pins σ (upd H p (.lst (xs.set j v))) { s with heap := s.heap.update p (Obj.mapSeq (·.setIfInBounds j u)) } :=
    I.lstUpd hp ho (mapSeq_set its n j u) (r.set rv j) (by rw [List.length_set]; exact hz) s.toks
  by_cases h0 : 0 ≤ k
  · have hk : k.toNat = j := by
      rw [seqIndex_of h0 h4] at h1
      exact Option.some.inj h1
    exact PySem.W.ki_setAt ho h0 (by omega) (by rw [List.size_toArray, ← hl]; exact h4) (by rw [hk]; exact ⟨_, I', q⟩)
  · have hk : (k + (its.toArray.size : Int)).toNat = j := by
      rw [seqIndex_neg (by omega) h3] at h1
      rw [List.size_toArray, ← hl]
      exact Option.some.inj h1
    exact PySem.W.ki_setBack ho (by omega) (by rw [List.size_toArray, ← hl]; exact h3) (by omega) (by rw [hk]; exact ⟨_, I', q⟩)

/-! ### slices -/
theorem slice_bounds (lo hi : Option Int) (n : Nat) : (sliceBounds lo hi none n).1 = ((HT.sIx n 0 lo : Nat) : Int) ∧ (sliceBounds lo hi none n).2.1 = ((HT.sIx n n hi : Nat) : Int) ∧ (sliceBounds lo hi none n).2.2 = 1 := by
  refine ⟨?_, ?_, rfl⟩
  · cases lo with
    | none => simp [sliceBounds, HT.sIx]
    | some i =>
      simp only [sliceBounds, HT.sIx, Option.getD_none, show (1 : Int) > 0 by decide, if_true]
      by_cases h : i < 0
      · simp only [h, if_true] <;> omega
      · simp only [h, if_false] <;> omega
  · cases hi with
    | none => simp [sliceBounds, HT.sIx]
    | some i =>
      simp only [sliceBounds, HT.sIx, Option.getD_none, show (1 : Int) > 0 by decide, if_true]
      by_cases h : i < 0
      · simp only [h, if_true] <;> omega
      · simp only [h, if_false] <;> omega
theorem slicePick_cut (its : List Value) (lo hi : Option Int) : slicePick its.toArray lo hi none = ((its.drop (HT.sIx its.length 0 lo)).take (HT.sIx its.length its.length hi - HT.sIx its.length 0 lo)).toArray := by
  obtain ⟨h1, h2, h3⟩ := slice_bounds lo hi its.toArray.size
  unfold slicePick
  rw [h1, h2, h3]
  simp only [sliceRange_one, pick_run, List.size_toArray] <;> rfl
/-- xs[lo:hi] of a list: a new list -/
def rSlL (K : PySem.W.Frag) : V → Option Int → Option Int → Hp → VK → Prop := fun x lo hi H Q => ∃ a xs, x = .ref a ∧ SqL K H a xs ∧ ∀ p, H p = none → Q (.ref p) (upd H p (.lst (cutV xs lo hi)))
theorem sl_list : SlR X (rSlL X.K) := by
  intro pins s σ H x v vl vu lo hi sl Q I rx hs pl pu h
  obtain ⟨a, xs, rfl, hx, q⟩ := h
  cases rx
  obtain ⟨its, r, ht, hz⟩ := I.list hx
  have hlen := r.length
  refine ⟨"list", _, slot_list_getitem.lookup, ht.isList.typeIs, ?_⟩
  refine wpAny_getItem_list_slice ht.isList hs pl pu .none (by simp) ?_ (by rw [List.size_toArray] <;> omega)
  rw [slicePick_cut, ← hlen]
  refine ⟨.ref s.heap.objs.size, _, I.laid (t' := s.toks) (o := .lst (cutV xs lo hi)) (fun b ob q => Heap.get?_push_of_some _ q) (Nat.le_refl _) ?_, rfl, q _ (I.hok.fresh (Nat.le_refl _))⟩
  exact ⟨Nat.le_trans (cutV_length xs lo hi) hz, _, 0, (r.drop (HT.sIx xs.length 0 lo)).take (HT.sIx xs.length xs.length hi - HT.sIx xs.length 0 lo), Heap.get?_push_size _ rfl⟩

/-! ### in, not in: flat items -/
def flatV : V → Bool
  | .non => true
  | .bl _ => true
  | .int _ => true
  | .str _ => true
  | _ => false
/-- == of flat values -/
def eqV : V → V → Bool
  | .non, .non => true
  | .bl a, .bl b => a == b
  | .bl a, .int b => (if a then 1 else 0) == b
  | .int a, .bl b => a == (if b then 1 else 0)
  | .int a, .int b => a == b
  | .str a, .str b => a == b
  | _, _ => false
/-- the items' answers, read off the values (a value's own answer does not lean on its token) -/
def eqU (x : V) (u : Value) : Bool := match u with
  | .none => eqV .non x
  | .bool b => eqV (.bl b) x
  | .int i _ => eqV (.int i) x
  | .str z _ => eqV (.str z) x
  | _ => false
def inV (x : V) (xs : List V) : Bool := xs.any fun y => eqV y x
/-- x in a list or tuple of flat items -/
def rIn (K : PySem.W.Frag) (neg : Bool) : R2 := fun x y H Q => ∃ p xs, y = .ref p ∧ (SqL K H p xs ∨ SqT K H p xs) ∧ flatV x = true ∧ xs.all flatV = true ∧ Q (.bl (if neg then !inV x xs else inV x xs)) H
/-! ### len, list(x), tuple(x) of any list or tuple that is read -/
theorem call_len_seq : CallR X (.builtin "len") (fun xs H Q => ∃ p ys, xs = [.ref p] ∧ (SqL X.K H p ys ∨ SqT X.K H p ys) ∧ Q (.int ys.length) H) := by
  intro pins s σ H xs us Q I r h
  obtain ⟨p, ys, rfl, hq, q⟩ := h
  obtain ⟨u, rfl, rx⟩ := vals1 r
  cases rx
  have hn := line63
  rcases hq with hq | hq
  · obtain ⟨its, r', pl, hz⟩ := I.list hq
    have hlen := r'.length
    exact Calls.call_len_list pl.isList (by simp only [List.size_toArray] <;> omega) ⟨.int ys.length, H, I.tok _, ⟨s.toks + 1, by rw [List.size_toArray, hlen]⟩, q⟩
  · obtain ⟨its, r', pl, hz⟩ := I.tuple hq
    have hlen := r'.length
    exact len_tuple pl (by simp only [List.size_toArray] <;> omega) ⟨.int ys.length, H, I.tok _, ⟨s.toks + 1, by rw [List.size_toArray, hlen]⟩, q⟩
theorem CallR.or {f : Value} {r r' : List V → Hp → VK → Prop} (h : CallR X f r) (h' : CallR X f r') : CallR X f (fun xs H Q => r xs H Q ∨ r' xs H Q) := by
  intro pins s σ H xs us Q I rs q
  rcases q with q | q
  · exact h pins s σ H xs us Q I rs q
  · exact h' pins s σ H xs us Q I rs q
theorem call_list_of : CallR X (.type "list") (fun xs H Q => ∃ p ys, xs = [.ref p] ∧ (SqL X.K H p ys ∨ SqT X.K H p ys) ∧ ∀ l, H l = none → Q (.ref l) (upd H l (.lst ys))) := by
  intro pins s σ H xs us Q I r h
  obtain ⟨p, ys, rfl, hq, q⟩ := h
  obtain ⟨u, rfl, rx⟩ := vals1 r
  cases rx
  have fin : ∀ (its : List Value), Vals ys its → ys.length ≤ sizeLine → ∀ (h' : Heap) (c' : Nat), (∀ b o', s.heap.get? b = some o' → h'.get? b = some o') →
      h'.get? s.heap.objs.size = some { cls := .type "list", dict := none, data := .seq its.toArray c', slots := #[] } → EP X pins σ Q (.ref s.heap.objs.size) { s with heap := h' } := fun its r' hz h' c' kp e =>
    ⟨.ref s.heap.objs.size, _, I.laid (t' := s.toks) kp (Nat.le_refl _) (show ObjOk X.prog X.w _ h' _ (.lst ys) from ⟨hz, its, c', r', e⟩), rfl, q _ (I.hok.fresh (Nat.le_refl _))⟩
  rcases hq with hq | hq
  · obtain ⟨its, r', pl, hz⟩ := I.list hq
    have hlen := r'.length
    obtain ⟨o, ho, hc, n, hd⟩ := pl.isList
    exact call_list_seq p (.inl rfl) ho hc hd (fun h' c' kp e => fin its r' hz h' c' kp e) (by simp only [List.size_toArray] <;> omega)
  · obtain ⟨its, r', pl, hz⟩ := I.tuple hq
    have hlen := r'.length
    obtain ⟨o, ho, hc, n, hd⟩ := pl
    exact call_list_seq p (.inr rfl) ho hc hd (fun h' c' kp e => fin its r' hz h' c' kp e) (by simp only [List.size_toArray] <;> omega)
/-! ### the call of a builtin's method: o.m(..) -/
/-- the value is of that builtin type -/
def tyV (K : PySem.W.Frag) (T : String) (x : V) (H : Hp) : Prop := match x with
  | .str _ => T = "str"
  | .int _ => T = "int"
  | .ref p => (T = "list" ∧ ∃ xs, SqL K H p xs) ∨ (T = "tuple" ∧ ∃ o, K.lookup p = some o ∧ o.cls = .type "tuple" ∧ o.dict = none) ∨
      (T = "dict" ∧ ((∃ kvs, H p = some (.dK kvs)) ∨ ∃ kvs, H p = some (.dT kvs))) ∨ (T = "set" ∧ ∃ S n, H p = some (.set S n))
  | _ => False
theorem tyV_is {pins : List (Addr × Obj)} {σ : St} {H : Hp} {s : Shared} {T : String} {x : V} {v : Value} (I : Inv X pins σ H s) (r : RelV x v) (ty : tyV X.K T x H) :
    s.TypeIs v T ∧ ∀ a, v = .ref a → ∃ ob, s.heap.get? a = some ob ∧ ob.dict = none := by
  cases x with
  | str z =>
    obtain ⟨t, rfl⟩ := r
    cases (show T = "str" from ty)
    exact ⟨typeIs_str s z t, fun _ e => nomatch e⟩
  | int i =>
    obtain ⟨t, rfl⟩ := r
    cases (show T = "int" from ty)
    exact ⟨typeIs_int s i t, fun _ e => nomatch e⟩
  | ref p =>
    cases r
    rcases ty with ⟨rfl, xs, hq⟩ | ⟨rfl, o, hk, hc, hd⟩ | ⟨rfl, hk⟩ | ⟨rfl, S, n, hk⟩
    · obtain ⟨its, _, pl, _⟩ := I.list hq
      refine ⟨pl.isList.typeIs, fun a e => ?_⟩
      cases e
      obtain ⟨o, n, e, c, hd, _⟩ := pl
      exact ⟨o, e, hd⟩
    · refine ⟨⟨o, I.kIn p o hk, hc⟩, fun a e => ?_⟩
      cases e
      exact ⟨o, I.kIn _ o hk, hd⟩
    · have z : ∃ o, s.heap.get? p = some o ∧ o.ExactDict := by
        rcases hk with ⟨kvs, hk⟩ | ⟨kvs, hk⟩
        · obtain ⟨_, _, _, _, o, _, _, e, ex, _⟩ := I.hok p _ hk
          exact ⟨o, e, ex⟩
        · obtain ⟨_, _, _, _, o, _, _, e, ex, _⟩ := I.hok p _ hk
          exact ⟨o, e, ex⟩
      obtain ⟨o, e, ex⟩ := z
      refine ⟨⟨o, e, ex.1⟩, fun a e2 => ?_⟩
      cases e2
      exact ⟨o, e, ex.2.1⟩
    · obtain ⟨o, _, _, _, e, ex, _⟩ := I.hok p _ hk
      refine ⟨⟨o, e, ex.1⟩, fun a e2 => ?_⟩
      cases e2
      exact ⟨o, e, ex.2.1⟩
  | _ => exact False.elim ty
def tBM0 (K : PySem.W.Frag) (T : String) (r : V → List V → Hp → VK → Prop) (to : TE) : TE := fun σ H Q => to σ H fun x H1 => tyV K T x H1 ∧ r x [] H1 Q
def tBM (K : PySem.W.Frag) (T : String) (r : V → List V → Hp → VK → Prop) (to : TE) (t : TA) : TE := fun σ H Q => to σ H fun x H1 => tyV K T x H1 ∧ t σ H1 fun xs H2 => r x xs H2 Q
variable {o e : Expr} {es : List Expr} {to : TE} {t : TA} {name : Str} {apos cpos : Pos} {T id : String} {r : V → List V → Hp → VK → Prop}
theorem pe_bm (pa : PlainAttrs T) (slot : Slot T name id) (hty : typeOf (.builtin id) = pure (.type "method_descriptor")) (hm : MtR X id r) (ho : PE X o to) (ha : PA X (e :: es) t)
    (hbase : attributeBase o name X.env (eval o X.env) = eval o X.env := by rfl)
    (hfew : ((backTo cpos (starEach (e :: es) X.env)).all (fun x => !x.1) && (backToKw cpos (keywordEach [] X.env)).all (fun x => x.1.isSome)
      && decide ((e :: es).length + ([] : List Keyword).length + (if ([] : List Keyword).isEmpty then 0 else 1) < 30)) = true := by rfl)
    (hline : (apos.endLine == cpos.line) = true := by rfl) (hs : starEach (e :: es) X.env = (false, eval e X.env) :: starEach es X.env := by rfl) (hplain : (backTo cpos (starEach es X.env)).any (·.1) = false := by rfl) :
    PE X (.Call (.Attribute o name apos) (e :: es) [] cpos) (tBM X.K T r to t) := by
  intro pins s σ H Q I h
  refine wpAny_Call_method_late hbase hfew hline rfl (thn (ho pins s σ H _ I h) fun v s1 ⟨x, H1, I1, r1, ty, q1⟩ => ?_)
  obtain ⟨h1, h2⟩ := tyV_is I1 r1 ty
  refine ⟨T, id, pa, slot, hty, h1, h2, ?_⟩
  have hA := ha cpos pins s1 σ H1 _ I1 q1
  rw [hs] at hA ⊢
  refine Calls.callWith_builtin (by show (false || (backTo cpos (starEach es X.env)).any (·.1)) = false; rw [hplain] <;> rfl) (Calls.evalArgs_plain ?_)
  exact thn hA fun us s2 ⟨vs, H2, I2, r2, q2⟩ => hm pins s2 σ H2 x vs v us Q I2 r1 r2 q2
/- xs.append(e), list.index on a module's tuple .. are MtR facts of 06m -/
end
end L2

namespace L2
open PySem PySem.Spec PyProof.Rows

def MtM (X : Cx) (id : String) (r : V → List V → Hp → VK → Prop) : Prop :=
  ∀ (pins : List (Addr × Obj)) (s : Shared) (σ : St) (H : Hp) (x : V) (xs : List V) (v : Value) (us : List Value) (Q : VK), Inv X pins σ H s → RelV x v → Vals xs us → r x xs H Q →
    wpAny (model X.prog X.w) X.A (call (.builtin id) (v :: us)) (EP X pins σ Q) X.xe s

/-! ### lists of values -/
theorem Vals.one : ∀ {x : V} {us : List Value}, Vals [x] us → ∃ u, us = [u] ∧ RelV x u
  | _, _, .cons r .nil => ⟨_, rfl, r⟩
theorem Vals.two : ∀ {x y : V} {us : List Value}, Vals [x, y] us → ∃ u v, us = [u, v] ∧ RelV x u ∧ RelV y v
  | _, _, _, .cons r (.cons q .nil) => ⟨_, _, rfl, r, q⟩
theorem Vals.zero : ∀ {us : List Value}, Vals [] us → us = []
  | _, .nil => rfl
theorem Vals.dropLast {xs : List V} {us : List Value} (h : Vals xs us) : Vals xs.dropLast us.dropLast := by
  induction h with
  | nil => exact .nil
  | cons r t ih =>
    cases t with
    | nil => exact .nil
    | cons q t' => exact .cons r ih
theorem Vals.eraseIdx : ∀ {xs : List V} {us : List Value} (i : Nat), Vals xs us → Vals (xs.eraseIdx i) (us.eraseIdx i)
  | _, _, _, .nil => .nil
  | _, _, 0, .cons _ t => t
  | _, _, i + 1, .cons r t => .cons r (Vals.eraseIdx i t)
theorem Vals.reverse {xs : List V} {us : List Value} (h : Vals xs us) : Vals xs.reverse us.reverse := by
  induction h with
  | nil => exact .nil
  | cons r t ih => rw [List.reverse_cons, List.reverse_cons]; exact Vals.append ih (.cons r .nil)
theorem Vals.rep {xs : List V} {us : List Value} (h : Vals xs us) : ∀ k : Nat, Vals (List.replicate k xs).flatten (List.replicate k us).flatten
  | 0 => .nil
  | k + 1 => by
    rw [List.replicate_succ, List.replicate_succ, List.flatten_cons, List.flatten_cons]
    exact Vals.append h (Vals.rep h k)
theorem foldl_rep (its : List Value) : ∀ (k : Nat) (acc : List Value),
    List.foldl (fun x1 x2 => x1 ++ x2) acc.toArray (List.replicate k its.toArray) = (acc ++ (List.replicate k its).flatten).toArray
  | 0, acc => by simp
  | k + 1, acc => by
    have e : acc.toArray ++ its.toArray = (acc ++ its).toArray := by simp
    have e2 : (acc ++ its) ++ (List.replicate k its).flatten = acc ++ (List.replicate (k + 1) its).flatten := by
      rw [List.replicate_succ, List.flatten_cons, List.append_assoc]
    rw [← e2, ← foldl_rep its k (acc ++ its), ← e, List.replicate_succ, List.foldl_cons]

section
variable {X : Cx} {pins : List (Addr × Obj)} {σ : St} {H : Hp} {s : Shared} {l b : Addr} {xs ys zs : List V}

/-! ### the two steps: a tracked list is rewritten, a new list is laid -/
theorem Inv.lset {its its' : List Value} {n : Nat} {f : Array Value → Array Value} {t' : Nat} (I : Inv X pins σ H s) (hH : H l = some (.lst xs))
    (e : s.heap.get? l = some { cls := .type "list", data := .seq its.toArray n }) (hf : f its.toArray = its'.toArray) (hv : Vals ys its') (hz : ys.length ≤ sizeLine) :
    Inv X pins σ (upd H l (.lst ys)) { s with heap := s.heap.update l (Obj.mapSeq f), toks := t' } := by
  have q := PySem.IsL.update e f
  rw [hf] at q
  refine I.write (x := l) (e := l) (by rw [hH]; exact trivial) (.inl rfl) (fun b' u hb hu => (Heap.get?_update_other s.heap (Obj.mapSeq f) (Ne.symm hb)).trans hu) ⟨_, q⟩ ?_
  exact ⟨hz, its', _, hv, q⟩
theorem Inv.lnew {its : List Value} {t' : Nat} (I : Inv X pins σ H s) (hv : Vals ys its) (hz : ys.length ≤ sizeLine) :
    Inv X pins σ (upd H s.heap.objs.size (.lst ys)) { s with heap := s.heap.push { cls := .type "list", data := .seq its.toArray }, toks := t' } :=
  I.laid (fun _ _ q => Heap.get?_push_of_some _ q) (Nat.le_refl _) ⟨hz, its, 0, hv, Heap.get?_push_size _ rfl⟩
theorem Inv.fresh (I : Inv X pins σ H s) : H s.heap.objs.size = none := I.hok.fresh (Nat.le_refl _)
theorem Inv.lstM (I : Inv X pins σ H s) (hH : H l = some (.lst xs)) : xs.length ≤ sizeLine ∧ ∃ (its : List Value) (n : Nat), Vals xs its ∧ xs.length = its.length ∧ s.heap.get? l = some { cls := .type "list", data := .seq its.toArray n } := by
  obtain ⟨z, its, n, r, e⟩ := I.hok l _ hH
  exact ⟨z, its, n, r, r.length, e⟩

theorem notLongL {n : Nat} (h : n ≤ sizeLine) : Builtin.List.listTooLong n = false := by
  unfold Builtin.List.listTooLong
  exact decide_eq_false (by omega)
end

section
variable {X : Cx}

/-! ### methods -/
def rAppend : V → List V → Hp → VK → Prop := fun x vs H Q => ∃ l xs y, x = .ref l ∧ vs = [y] ∧ H l = some (.lst xs) ∧ xs.length < sizeLine ∧ Q .non (upd H l (.lst (xs ++ [y])))
theorem mt_append : MtM X "list.append" rAppend := by
  intro pins s σ H x vs v us Q I rx rv h
  obtain ⟨l, xs, y, rfl, rfl, hH, hz, q⟩ := h
  cases rx
  obtain ⟨u, rfl, ru⟩ := rv.one
  obtain ⟨z, its, n, r, hl, e⟩ := I.lstM hH
  refine call_meets F.slot_list_append ⟨_, e, rfl⟩ F.entry_list_append (F.args_list_append_2 _ _) (PySem.list_append l its.toArray n u (by rw [List.size_toArray]; omega)) ⟨e, ?_⟩
  refine ⟨.non, _, I.lset (its' := its ++ [u]) hH e (by simp) (r.append (.cons ru .nil)) ?_, rfl, q⟩
  rw [List.length_append, List.length_singleton]
  omega

def rExtend : V → List V → Hp → VK → Prop := fun x vs H Q => ∃ l b xs zs, x = .ref l ∧ vs = [.ref b] ∧ H l = some (.lst xs) ∧ H b = some (.lst zs) ∧ xs.length + zs.length ≤ sizeLine ∧ Q .non (upd H l (.lst (xs ++ zs)))
def rPop : V → List V → Hp → VK → Prop := fun x vs H Q => ∃ l xs y, x = .ref l ∧ vs = [] ∧ H l = some (.lst xs) ∧ xs[xs.length - 1]? = some y ∧ Q y (upd H l (.lst xs.dropLast))
def rPopAt : V → List V → Hp → VK → Prop := fun x vs H Q => ∃ l xs i k y, x = .ref l ∧ vs = [.int i] ∧ H l = some (.lst xs) ∧ -(2 ^ 63) ≤ i ∧ i < 2 ^ 63 ∧ seqIndex? i xs.length = some k ∧ xs[k]? = some y ∧ Q y (upd H l (.lst (xs.eraseIdx k)))
def rReverse : V → List V → Hp → VK → Prop := fun x vs H Q => ∃ l xs, x = .ref l ∧ vs = [] ∧ H l = some (.lst xs) ∧ Q .non (upd H l (.lst xs.reverse))
def rClear : V → List V → Hp → VK → Prop := fun x vs H Q => ∃ l xs, x = .ref l ∧ vs = [] ∧ H l = some (.lst xs) ∧ Q .non (upd H l (.lst []))
/-! ### list + list, list += list, list * int -/
def rCat : R2 := fun x y H Q => ∃ l b xs zs, x = .ref l ∧ y = .ref b ∧ H l = some (.lst xs) ∧ H b = some (.lst zs) ∧ xs.length + zs.length ≤ sizeLine ∧ ∀ p, H p = none → Q (.ref p) (upd H p (.lst (xs ++ zs)))
theorem op_cat : OpR X (binaryOp .Add) rCat := by
  intro pins s σ H x y v u Q I rx ry h
  obtain ⟨l, b, xs, zs, rfl, rfl, hH, hB, hz, q⟩ := h
  cases rx
  cases ry
  obtain ⟨z, its, n, r, hl, e⟩ := I.lstM hH
  obtain ⟨z2, its2, n2, r2, hl2, e2⟩ := I.lstM hB
  refine PySem.P.add_list e e2 ?_ (by rw [List.size_toArray, List.size_toArray]; omega)
  have ea : its.toArray ++ its2.toArray = (its ++ its2).toArray := by simp
  rw [ea]
  exact ⟨.ref _, _, I.lnew (t' := s.toks) (r.append r2) (by rw [List.length_append]; omega), rfl, q _ I.fresh⟩
/-- a list times an int (a negative one is nothing) -/
def rRep : R2 := fun x y H Q => ∃ l k xs, x = .ref l ∧ y = .int k ∧ H l = some (.lst xs) ∧ -(2 ^ 63) ≤ k ∧ k < 2 ^ 63 ∧ xs.length * k.toNat ≤ sizeLine ∧
  ∀ p, H p = none → Q (.ref p) (upd H p (.lst (List.replicate k.toNat xs).flatten))
theorem len_rep {α : Type} (xs : List α) (k : Nat) : (List.replicate k xs).flatten.length = k * xs.length := by
  induction k with
  | zero => simp
  | succ k ih => rw [List.replicate_succ, List.flatten_cons, List.length_append, ih, Nat.succ_mul, Nat.add_comm]
theorem op_rep : OpR X (binaryOp .Mult) rRep := by
  intro pins s σ H x y v u Q I rx ry h
  obtain ⟨l, k, xs, rfl, rfl, hH, h1, h2, hz, q⟩ := h
  cases rx
  obtain ⟨t, rfl⟩ := ry
  obtain ⟨z, its, n, r, hl, e⟩ := I.lstM hH
  have hlen : its.toArray.size * k.toNat ≤ sizeLine := by rw [List.size_toArray, ← hl]; exact hz
  have hcap : ¬ its.toArray.size * k.toNat > (2 ^ 63 - 1) / 8 := by
    have : (sizeLine : Nat) ≤ (2 ^ 63 - 1) / 8 := by decide
    omega
  have hfit : ¬ (!Builtin.List.listFitsIndex k) = true := by
    rw [fitsIndex_both h1 h2]
    exact Bool.false_ne_true
  have hlong : ¬ Builtin.List.listTooLong (its.toArray.size * k.toNat) = true := by
    rw [notLongL hlen]
    exact Bool.false_ne_true
  have hnew : List.foldl (fun x1 x2 => x1 ++ x2) #[] (List.replicate (if its.toArray.isEmpty = true then 0 else k.toNat) its.toArray) = (List.replicate k.toNat its).flatten.toArray := by
    have f0 : ∀ m : Nat, List.foldl (fun x1 x2 => x1 ++ x2) #[] (List.replicate m its.toArray) = (List.replicate m its).flatten.toArray := fun m => by
      have := foldl_rep its m []
      rw [List.nil_append] at this
      exact this
    rw [f0]
    cases its with
    | nil => simp
    | cons a r' => rw [if_neg (by simp)]
  refine wpAny_binaryOp_repeat_ref (T := "list") (U := "int") (by decide) ⟨_, e, rfl⟩ (fun s' => typeIs_int s' k t) noFill_list_mul F.fills_int_mul F.slot_int_rmul repeat_list F.slot_int_index.lookup
    (call_meets F.slot_int_rmul (typeIs_int s k t) F.entry_int_rmul (F.args_int_rmul_2 _ _) (int___rmul___int_list k t l its.toArray n)
      ⟨e, rfl, ⟨_, e, rfl⟩, call_meets F.slot_list_mul ⟨_, e, rfl⟩ F.entry_list_mul (F.args_list_mul_2 _ _) (AutoListH.list___mul___list_int_3 l its.toArray n k t hfit hcap hlong) ⟨e, ?_⟩⟩)
  rw [hnew]
  exact ⟨.ref _, _, I.lnew (t' := s.toks) (r.rep k.toNat) (by rw [len_rep, Nat.mul_comm]; exact hz), rfl, q _ I.fresh⟩

/-! ### del xs[i] -/
end

/-! ### xs[a:b] = ys -/
section
variable {prog : Program} {w : World} {A : Around} {E : Value → Shared → Prop} {s : Shared}
end

section
variable {X : Cx}
end
end L2

namespace L2
open PySem PySem.Spec PyProof.Rows

/-! ### lists of pairs as tables -/
section
variable {κ : Type} [DecidableEq κ]
def valV (kvs : List (κ × V)) (k : κ) : Option V := (kvs.find? fun kv => decide (kv.1 = k)).map (·.2)
/-- in its place, or at the end -/
def putK (kvs : List (κ × V)) (k : κ) (v : V) : List (κ × V) :=
  if (kvs.any fun kv => decide (kv.1 = k)) = true then kvs.map (fun kv => if kv.1 = k then (kv.1, v) else kv) else kvs ++ [(k, v)]
def dropK (kvs : List (κ × V)) (k : κ) : List (κ × V) := kvs.filter fun kv => decide (kv.1 ≠ k)

theorem valV_pos {p : κ × V} {r : List (κ × V)} {k : κ} (e : p.1 = k) : valV (p :: r) k = some p.2 := by simp [valV, List.find?_cons, e]
theorem valV_neg {p : κ × V} {r : List (κ × V)} {k : κ} (e : ¬ p.1 = k) : valV (p :: r) k = valV r k := by simp [valV, List.find?_cons, e]
theorem valV_any (k : κ) : ∀ kvs : List (κ × V), (kvs.any fun kv => decide (kv.1 = k)) = (valV kvs k).isSome
  | [] => rfl
  | p :: r => by
    rw [List.any_cons]
    by_cases e : p.1 = k
    · simp only [valV_pos e, decide_eq_true e, Bool.true_or, Option.isSome_some]
    · rw [valV_neg e, decide_eq_false e, Bool.false_or]; exact valV_any k r
theorem RelO.isSome_eq {o : Option V} {u : Option Value} (r : RelO o u) : o.isSome = u.isSome := by
  cases o with
  | none => cases u with
    | none => rfl
    | some _ => exact (show False from r).elim
  | some _ => cases u with
    | none => exact (show False from r).elim
    | some _ => rfl
theorem RelO.getD {o : Option V} {u : Option Value} {d : V} {d' : Value} (r : RelO o u) (rd : RelV d d') : RelV (o.getD d) (u.getD d') := by
  cases o with
  | none => cases u with
    | none => exact rd
    | some _ => exact (show False from r).elim
  | some _ => cases u with
    | none => exact (show False from r).elim
    | some _ => exact r

/-- raw tables of the same keys -/
theorem KV.val {kvs : List (κ × V)} {vs : List (κ × Value)} (r : KV kvs vs) (k : κ) : RelO (valV kvs k) (valueAt vs k) := by
  unfold KV at r
  induction r with
  | nil => exact True.intro
  | @cons p q ps qs h t ih =>
    obtain ⟨h1, h2⟩ := h
    by_cases e : p.1 = k
    · have e' : q.1 = k := h1.symm.trans e
      have b : valueAt (q :: qs) k = some q.2 := by simp [valueAt, List.find?_cons, e']
      rw [valV_pos e, b]; exact h2
    · have e' : ¬ q.1 = k := fun z => e (h1.trans z)
      have b : valueAt (q :: qs) k = valueAt qs k := by simp [valueAt, List.find?_cons, e']
      rw [valV_neg e, b]; exact ih
theorem KV.any {kvs : List (κ × V)} {vs : List (κ × Value)} (r : KV kvs vs) (k : κ) : (kvs.any fun kv => decide (kv.1 = k)) = vs.any fun kv => decide (kv.1 = k) := by
  unfold KV at r
  induction r with
  | nil => rfl
  | cons h t ih => rw [List.any_cons, List.any_cons, ih, h.1]
theorem KV.repl {kvs : List (κ × V)} {vs : List (κ × Value)} (r : KV kvs vs) (k : κ) {y : V} {u : Value} (ry : RelV y u) :
    KV (kvs.map fun kv => if kv.1 = k then (kv.1, y) else kv) (vs.map fun kv => if kv.1 = k then (kv.1, u) else kv) := by
  unfold KV at r ⊢
  induction r with
  | nil => exact .nil
  | @cons p q ps qs h t ih =>
    rw [List.map_cons, List.map_cons]
    refine .cons ?_ ih
    obtain ⟨h1, h2⟩ := h
    by_cases e : p.1 = k
    · rw [if_pos e, if_pos (h1.symm.trans e)]; exact ⟨h1, ry⟩
    · rw [if_neg e, if_neg (fun z => e (h1.trans z))]; exact ⟨h1, h2⟩
theorem KV.put {kvs : List (κ × V)} {vs : List (κ × Value)} (r : KV kvs vs) (k : κ) {y : V} {u : Value} (ry : RelV y u) : KV (putK kvs k y) (stored vs k u) := by
  unfold putK stored
  rw [r.any k]
  by_cases e : (vs.any fun kv => decide (kv.1 = k)) = true
  · rw [if_pos e, if_pos e]; exact r.repl k ry
  · rw [if_neg e, if_neg e]; exact Paired.snoc r ⟨rfl, ry⟩
theorem KV.drop {kvs : List (κ × V)} {vs : List (κ × Value)} (r : KV kvs vs) (k : κ) : KV (dropK kvs k) (without vs k) := by
  unfold KV at r ⊢
  unfold dropK without
  induction r with
  | nil => exact .nil
  | @cons p q ps qs h t ih =>
    obtain ⟨h1, h2⟩ := h
    rw [List.filter_cons, List.filter_cons]
    by_cases e : p.1 = k
    · have a : ¬ decide (p.1 ≠ k) = true := by simp [e]
      have b : ¬ decide (q.1 ≠ k) = true := by simp [h1.symm.trans e]
      rw [if_neg a, if_neg b]; exact ih
    · have e' : ¬ q.1 = k := fun z => e (h1.trans z)
      have a : decide (p.1 ≠ k) = true := by simp [e]
      have b : decide (q.1 ≠ k) = true := by simp [e']
      rw [if_pos a, if_pos b]; exact .cons ⟨h1, h2⟩ ih
theorem KV.keys {kvs : List (κ × V)} {vs : List (κ × Value)} (r : KV kvs vs) : kvs.map (·.1) = vs.map (·.1) := by
  unfold KV at r
  induction r with
  | nil => rfl
  | cons h t ih => rw [List.map_cons, List.map_cons, ih, h.1]
theorem KV.length {kvs : List (κ × V)} {vs : List (κ × Value)} (r : KV kvs vs) : kvs.length = vs.length := Paired.length r
end


/-! ### a tracked dict, its keys ints and texts or tuples of these -/
/-- raw entries of a dict with tuple keys -/
abbrev KT (H : Hp) : List (List Key × V) → List (List Key × Addr × Value) → Prop := Paired fun p q => p.1 = q.1 ∧ H q.2.1 = some (.tup (p.1.map kV)) ∧ RelV p.2 q.2.2
theorem KT.val {H : Hp} {kvs : List (List Key × V)} {xs : List (List Key × Addr × Value)} (r : KT H kvs xs) (k : List Key) : RelO (valV kvs k) ((atKey xs k).map (·.2)) := by
  induction r with
  | nil => exact True.intro
  | @cons p q ps qs h t ih =>
    obtain ⟨h1, _, h2⟩ := h
    by_cases e : p.1 = k
    · have e' : q.1 = k := h1.symm.trans e
      have b : atKey (q :: qs) k = some q.2 := by simp [atKey, List.find?_cons, e']
      rw [valV_pos e, b]; exact h2
    · have e' : ¬ q.1 = k := fun z => e (h1.trans z)
      have b : atKey (q :: qs) k = atKey qs k := by simp [atKey, List.find?_cons, e']
      rw [valV_neg e, b]; exact ih
theorem KT.repl {H : Hp} {kvs : List (List Key × V)} {xs : List (List Key × Addr × Value)} (r : KT H kvs xs) (k : List Key) {y : V} {u : Value} (ry : RelV y u) :
    KT H (kvs.map fun kv => if kv.1 = k then (kv.1, y) else kv) (xs.map (putAt k u)) := by
  induction r with
  | nil => exact .nil
  | @cons p q ps qs h t ih =>
    rw [List.map_cons, List.map_cons]
    refine .cons ?_ ih
    obtain ⟨h1, h2, h3⟩ := h
    unfold putAt
    by_cases e : p.1 = k
    · rw [if_pos e, if_pos (h1.symm.trans e)]; exact ⟨h1, h2, ry⟩
    · rw [if_neg e, if_neg (fun z => e (h1.trans z))]; exact ⟨h1, h2, h3⟩
theorem KT.put {H : Hp} {kvs : List (List Key × V)} {xs : List (List Key × Addr × Value)} (r : KT H kvs xs) (k : List Key) {b : Addr} {y : V} {u : Value} (hb : H b = some (.tup (k.map kV))) (ry : RelV y u) :
    KT H (putK kvs k y) (storedH xs k b u) := by
  have e : (kvs.any fun kv => decide (kv.1 = k)) = (atKey xs k).isSome := by
    rw [valV_any, (r.val k).isSome_eq, Option.isSome_map]
  unfold putK storedH
  rw [e]
  by_cases q : (atKey xs k).isSome = true
  · rw [if_pos q, if_pos q]; exact r.repl k ry
  · rw [if_neg q, if_neg q]; exact Paired.snoc r ⟨rfl, hb, ry⟩
theorem KT.keeps {H H' : Hp} {kvs : List (List Key × V)} {xs : List (List Key × Addr × Value)} (r : KT H kvs xs) (ht : ∀ b ys, H b = some (.tup ys) → H' b = some (.tup ys)) : KT H' kvs xs :=
  Paired.mapP r fun _ _ z => ⟨z.1, ht _ _ z.2.1, z.2.2⟩

section
variable {P : Program} {w : World} {H : Hp} {h : Heap} {a : Addr}
end

/-- what the dict at a holds at the key y -/
def DGet (H : Hp) (a : Addr) (y : V) (r : Option V) : Prop :=
  (∃ kvs k, Rd H a (.dK kvs) ∧ y = kV k ∧ r = valV kvs k) ∨ ∃ kvs k b, Rd H a (.dT kvs) ∧ y = .ref b ∧ H b = some (.tup (k.map kV)) ∧ r = valV kvs k
/-- the heap behind a[y] = v -/
def DPut (H : Hp) (a : Addr) (y v : V) (H' : Hp) : Prop :=
  (∃ kvs k, H a = some (.dK kvs) ∧ y = kV k ∧ kvs.length < sizeLine ∧ H' = upd H a (.dK (putK kvs k v))) ∨
  ∃ kvs k b, H a = some (.dT kvs) ∧ y = .ref b ∧ H b = some (.tup (k.map kV)) ∧ kvs.length < sizeLine ∧ H' = upd H a (.dT (putK kvs k v))
theorem DGet.k {H : Hp} {a : Addr} {kvs : List (Key × V)} {k : Key} (e : H a = some (.dK kvs)) : DGet H a (kV k) (valV kvs k) := .inl ⟨kvs, k, .inl e, rfl, rfl⟩
theorem DGet.t {H : Hp} {a b : Addr} {kvs : List (List Key × V)} {k : List Key} (e : H a = some (.dT kvs)) (eb : H b = some (.tup (k.map kV))) : DGet H a (.ref b) (valV kvs k) := .inr ⟨kvs, k, b, .inl e, rfl, eb, rfl⟩
theorem DPut.k {H : Hp} {a : Addr} {kvs : List (Key × V)} {k : Key} {v : V} (e : H a = some (.dK kvs)) (hl : kvs.length < sizeLine) : DPut H a (kV k) v (upd H a (.dK (putK kvs k v))) := .inl ⟨kvs, k, e, rfl, hl, rfl⟩
theorem DPut.t {H : Hp} {a b : Addr} {kvs : List (List Key × V)} {k : List Key} {v : V} (e : H a = some (.dT kvs)) (eb : H b = some (.tup (k.map kV))) (hl : kvs.length < sizeLine) :
    DPut H a (.ref b) v (upd H a (.dT (putK kvs k v))) := .inr ⟨kvs, k, b, e, rfl, eb, hl, rfl⟩


section
variable {X : Cx} {pins : List (Addr × Obj)} {σ : St} {H : Hp} {s : Shared} {a : Addr} {y v : V} {u r : Value} {o : Option V} {A : Around} {E : Value → Shared → Prop}

end

section
variable {X : Cx} {pins : List (Addr × Obj)} {σ : St} {H : Hp} {s : Shared} {a : Addr} {kvs : List (Key × V)} {k : Key} {u : Value} {A : Around} {E : Value → Shared → Prop}
end


/-! ### readings and rules -/
/-- the element of a subscription, not a slice -/
def NoSl (i : Expr) : Prop := ∀ ov iv, subscripted i false ov iv = operate [ov, iv] (getItem ov iv)
/-- d[y] -/
def tDGet (td ty : TE) : TE := fun σ H Q => td σ H fun x H1 => ty σ H1 fun y H2 => ∃ a v, x = .ref a ∧ DGet H2 a y (some v) ∧ Q v H2
/-- y in d, y not in d -/
def tDIn (ty td : TE) : TE := fun σ H Q => ty σ H fun y H1 => td σ H1 fun x H2 => ∃ a o, x = .ref a ∧ DGet H2 a y o ∧ Q (.bl o.isSome) H2
def tDNotIn (ty td : TE) : TE := fun σ H Q => ty σ H fun y H1 => td σ H1 fun x H2 => ∃ a o, x = .ref a ∧ DGet H2 a y o ∧ Q (.bl (!o.isSome)) H2
/-- d[y] = v -/
def sDPut (td ty tv : TE) : TS := fun D σ H => tv σ H fun v H1 => td σ H1 fun x H2 => ty σ H2 fun y H3 => ∃ a H4, x = .ref a ∧ DPut H3 a y v H4 ∧ D.nx σ H4
/-- d[y] op= v -/
def sDAug (td ty tv : TE) (rd : V → V → Hp → VK → Prop) : TS := fun D σ H => td σ H fun x H1 => ty σ H1 fun y H2 => ∃ a v, x = .ref a ∧ DGet H2 a y (some v) ∧
  tv σ H2 fun y2 H3 => rd v y2 H3 fun z H4 => ∃ H5, DPut H4 a y z H5 ∧ D.nx σ H5
/-- del d[y] -/
def sDDel (td ty : TE) : TS := fun D σ H => td σ H fun x H1 => ty σ H1 fun y H2 => ∃ a kvs k, x = .ref a ∧ H2 a = some (.dK kvs) ∧ y = kV k ∧ (valV kvs k).isSome = true ∧ D.nx σ (upd H2 a (.dK (dropK kvs k)))

section
variable {X : Cx} {o i e value : Expr} {pos pos' tpos : Pos} {td ty tv : TE}
end


/-! ### displays -/
/-- {}, to be a dict of the kind that is wanted -/
def tDNewK : TE := fun _ H Q => ∀ p, H p = none → Q (.ref p) (upd H p (.dK []))
def tDNewT : TE := fun _ H Q => ∀ p, H p = none → Q (.ref p) (upd H p (.dT []))
section
variable {X : Cx} {pos : Pos}
end

/-- the pairs of a display, from the left -/
def tPairs : List (TE × TE) → St → Hp → (List (V × V) → Hp → Prop) → Prop
  | [], _, H, Q => Q [] H
  | (tk, tv) :: r, σ, H, Q => tk σ H fun x H1 => tv σ H1 fun y H2 => tPairs r σ H2 fun ps H3 => Q ((x, y) :: ps) H3
abbrev VV : List (V × V) → List (Value × Value) → Prop := Paired fun p q => RelV p.1 q.1 ∧ RelV p.2 q.2
def PPs (X : Cx) (pos : Pos) (keys : List (Option Expr)) (values : List Expr) (trs : List (TE × TE)) : Prop :=
  ∀ (pins : List (Addr × Obj)) (s : Shared) (σ : St) (H : Hp) (Q : List (V × V) → Hp → Prop), Inv X pins σ H s → tPairs trs σ H Q →
    wpAny (model X.prog X.w) X.A (evalPairs (pairTrees keys values X.env pos)) (fun vs s' => ∃ ps H', Inv X pins σ H' s' ∧ VV ps vs ∧ Q ps H') X.xe s
def mergeK (kvs more : List (Key × V)) : List (Key × V) := more.foldl (fun acc kv => putK acc kv.1 kv.2) kvs
/-- {k: v, ..} with keys ints and texts; the new dict stands empty while the pairs are made -/
def tDisp (trs : List (TE × TE)) : TE := fun σ H Q => ∀ p, H p = none → tPairs trs σ (upd H p (.dK [])) fun ps H2 => H2 p = some (.dK []) ∧ ∃ kvs : List (Key × V), ps = kvs.map (fun kv => (kV kv.1, kv.2)) ∧ kvs.length ≤ 15 ∧ Q (.ref p) (upd H2 p (.dK (mergeK [] kvs)))
/-! ### methods -/
/-- a method call o.m(e) of a built-in, with one argument: what must be seen of the text -/
structure M1 (X : Cx) (o : Expr) (m : Str) (apos : Pos) (e : Expr) (cpos : Pos) : Prop where
  base : attributeBase o m X.env (eval o X.env) = eval o X.env
  few : ((backTo cpos (starEach [e] X.env)).all (fun x => !x.1) && (backToKw cpos (keywordEach [] X.env)).all (fun x => x.1.isSome)
    && decide (([e] : List Expr).length + ([] : List Keyword).length + (if ([] : List Keyword).isEmpty then 0 else 1) < 30)) = true
  line : (apos.endLine == cpos.line) = true
  trees : backTo cpos (starEach [e] X.env) = [(false, eval e X.env)]
structure M2 (X : Cx) (o : Expr) (m : Str) (apos : Pos) (e f : Expr) (cpos : Pos) : Prop where
  base : attributeBase o m X.env (eval o X.env) = eval o X.env
  few : ((backTo cpos (starEach [e, f] X.env)).all (fun x => !x.1) && (backToKw cpos (keywordEach [] X.env)).all (fun x => x.1.isSome)
    && decide (([e, f] : List Expr).length + ([] : List Keyword).length + (if ([] : List Keyword).isEmpty then 0 else 1) < 30)) = true
  line : (apos.endLine == cpos.line) = true
  trees : backTo cpos (starEach [e, f] X.env) = [(false, eval e X.env), (false, eval f X.env)]

/-- a is a dict, whatever its keys -/
def IsD (H : Hp) (a : Addr) : Prop := (∃ kvs, Rd H a (.dK kvs)) ∨ ∃ kvs, Rd H a (.dT kvs)
section
variable {X : Cx} {pins : List (Addr × Obj)} {σ : St} {H : Hp} {s : Shared} {a : Addr} {y d : V} {u r : Value} {o : Option V} {A : Around} {E : Value → Shared → Prop}
end

def tDGet1 (td ty : TE) : TE := fun σ H Q => td σ H fun x H1 => ∃ a, x = .ref a ∧ IsD H1 a ∧ ty σ H1 fun y H2 => ∃ o, DGet H2 a y o ∧ Q (o.getD .non) H2
def tDGet2 (td ty tx : TE) : TE := fun σ H Q => td σ H fun x H1 => ∃ a, x = .ref a ∧ IsD H1 a ∧ ty σ H1 fun y H2 => tx σ H2 fun z H3 => ∃ o, DGet H3 a y o ∧ Q (o.getD z) H3
/-- d.pop(k): there; d.pop(k, x): there or not -/
def tDPop1 (td ty : TE) : TE := fun σ H Q => td σ H fun x H1 => ∃ a, x = .ref a ∧ IsD H1 a ∧ ty σ H1 fun y H2 => ∃ kvs k v, H2 a = some (.dK kvs) ∧ y = kV k ∧ valV kvs k = some v ∧ Q v (upd H2 a (.dK (dropK kvs k)))
def tDPop2 (td ty tx : TE) : TE := fun σ H Q => td σ H fun x H1 => ∃ a, x = .ref a ∧ IsD H1 a ∧ ty σ H1 fun y H2 => tx σ H2 fun z H3 => ∃ kvs k, H3 a = some (.dK kvs) ∧ y = kV k ∧
  (∀ v, valV kvs k = some v → Q v (upd H3 a (.dK (dropK kvs k)))) ∧ (valV kvs k = none → Q z H3)
section
variable {X : Cx} {o e f : Expr} {apos cpos : Pos} {td ty tx : TE}
end

/-! ### dict(d): a copy -/
section
variable {X : Cx} {pins : List (Addr × Obj)} {σ : St} {H : Hp} {s : Shared} {a : Addr} {kvs : List (Key × V)} {A : Around} {E : Value → Shared → Prop}
end


section
variable {X : Cx} {pins : List (Addr × Obj)} {σ : St} {H : Hp} {s : Shared} {a : Addr} {y : V} {u : Value} {A : Around} {E : Value → Shared → Prop}
end
end L2

namespace Att
open PySem PySem.W PySem.Calls PyProof.Rows

/-! ### the script -/
theorem ints_of_wellAll {P : Params} {h : Heap} : ∀ (ns : List Int) (vs : List Value), WellAll P h vs (ns.map WData.int) → IntsAre vs ns := by
  intro ns
  induction ns with
  | nil =>
    intro vs w
    rw [List.map_nil] at w
    cases w
    exact .nil
  | cons n ns ih =>
    intro vs w
    rw [List.map_cons] at w
    cases w with
    | cons a b =>
      cases a
      exact .cons _ _ (ih _ b)

theorem script_of {l : OpenLaw} {n : Nat} (hn : l.most = some n) {P : Params} {h : Heap} {args : List WData} {vals : List Value}
    (hpre : l.row.toRowW.claim.pre args = true) (hwl : WellAll P h vals args) :
    ∃ a vs ns, vals = [Value.ref a] ∧ args = [WData.list (ns.map WData.int)] ∧ h.get? a = some { cls := .type "list", data := .seq vs.toArray } ∧ IntsAre vs ns ∧ ns.length ≤ n := by
  have hsh : WShape.hasAll [] args [.list .int] = true := (pre_splitW hpre).1
  have hc : l.pre.holds [] { args := args } = true := (pre_splitW hpre).2
  obtain ⟨d, r, rfl, h1, h2⟩ := hasAllW_cons hsh
  obtain rfl := hasAllW_nil h2
  obtain ⟨xs, rfl, h3⟩ := hasW_list h1
  obtain ⟨ns, rfl⟩ := items_int h3
  have hlen : ns.length ≤ n := by
    unfold OpenLaw.pre at hc
    have h4 : (WTm.not (.lt (.lit (.int (n : Int))) (.len (.arg 0)))).holds [] { args := [.list (ns.map .int)] } = true := by
      have h4 := (holds_andW hc).1
      rw [hn] at h4
      exact h4
    have h5 := condW_of h4 (w_not (w_lt w_lit (w_len_list (w_arg rfl))))
    rw [List.length_map] at h5
    refine Nat.le_of_not_lt fun q => ?_
    have q' : (n : Int) < ((ns.length : Nat) : Int) := by omega
    first
      | (rw [decide_eq_true q'] at h5; exact absurd h5 (by decide))
      | (simp at h5; omega)
  cases hwl with
  | cons w1 w2 =>
    cases w2
    cases w1 with
    | list ho hall => exact ⟨_, _, ns, rfl, rfl, ho, ints_of_wellAll ns _ hall, hlen⟩

theorem post_true (l : OpenLaw) (args : List WData) : l.row.toRowW.claim.post args (.bool true) args = true :=
  postW_of (r := l.row.toRowW) (X := (true == true))
    (show WShape.has [] (.bool true) .bool = true by first | rfl | decide | simp [WShape.has, WShape.arms, WShape.armsAll])
    (show (WTm.eq .res (.lit (.bool true))).value [] { args := args, res := some (.bool true), after := args } = some (.bool (true == true)) from w_eq_bool (w_res rfl) w_lit) rfl

/-! ### the attachment: holds_open's last premise (the goal 'hc' behind k_head) from a wpAny of the law's body -/
/-- the same from a codeAny of the CALL (for a layer whose function contracts speak of calls) -/
theorem attach_call {l : OpenLaw} {n : Nat} {q : Program} {loose : List Str} {XP : (Str → Option Value) → Heap → Prop} {YP : World → Heap → Prop} {d : DefRec}
    (hn : l.most = some n) (hdf : d.params.defaults = [])
    (call : ∀ (w : World) (s₀ s₁ : Shared) (mg mb : Str → Option Value) (fa : Addr) (o : Obj) (pm cd doc : Value) (a : Addr) (vs : List Value) (ns : List Int),
      Ground q loose [] XP w s₀ mg mb s₁.heap → YP w s₁.heap →
      s₁.heap.get? fa = some o → o.data = .func (docDef d.name d.params d.body d.scope pm cd doc) → s₁.heap.CodeRec cd d.name → mg d.name = some (.ref fa) →
      s₁.heap.get? a = some { cls := .type "list", data := .seq vs.toArray } → IntsAre vs ns → ns.length ≤ n → s₁.gens = #[] →
      codeAny (model l.prog w) callerA (.call (.ref fa) ⟨[.ref a], []⟩) (fun r s' => r = .ok (.ret (.bool true)) ∧ OldK s₁.heap s'.heap ∧ s'.os = s₁.os ∧ AllBare s'.gens) s₁) :
    WalkO q loose XP YP l.row.toRowW d [] (fun f vs => PySem.call f vs) := by
  intro w s₀ s₁ mg mb G Y fa o pm cd doc dV kV ho hd hcd hD hmg hg args vals as hpre hlay hrd hwl hlo
  obtain rfl : dV = .none := Dflts.none hD hdf
  obtain rfl : kV = .none := Dflts.noKw hD
  obtain ⟨a, vs, ns, rfl, rfl, hobj, hints, hlen⟩ := script_of hn hpre hwl
  refine enter_call (codeAny_mono (call w s₀ s₁ mg mb fa o pm cd doc a vs ns G Y ho (fd_plain hd) hcd hmg hobj hints hlen hg) fun r s' hq => ?_)
  obtain ⟨rfl, h2, h3, h4⟩ := hq
  exact ⟨.inl ⟨.bool true, .bool true, [], rfl, fun _ => rfl, .bool true, post_true l _, fun _ => ⟨List.Pairwise.nil, fun _ hm => (nomatch hm)⟩⟩, h2, h3, h4⟩

/-! ### rules over ANY heap (no ledger) from facts about the written part K: the library's own take a ledger (News) for what they write -/
section
variable {prog : Program} {w : World} {A : Around} {E : Value → Shared → Prop} {s : Shared} {K : Frag}

/-! the whole heap as the ledger: makes every rule that writes through a ledger a rule over any heap -/
def noObjs (h : Heap) : Heap := { h with objs := #[] }
def ledger (h : Heap) (L d : Addr) : List (Addr × Obj) := (List.range h.objs.size).filterMap fun a => if a = L ∨ a = d then none else (h.get? a).map fun o => (a, o)
end
end Att

namespace L2
open PySem PySem.Spec PyProof.Rows

theorem vals_ints : ∀ {vs : List Value} {ns : List Int}, IntsAre vs ns → Vals (ns.map V.int) vs
  | _, _, .nil => .nil
  | _, _, .cons n t h => .cons ⟨t, rfl⟩ (vals_ints h)

/-- nothing is tracked but the script, known to the object (or it is an object of the module) -/
def Only (H : Hp) : Prop := ∀ b, H b = none ∨ ∃ o xs, H b = some (.frz o (.lst xs))

/-- THE HEAD: the law's promise, at the heap behind the top. F, the promise of the law's def, may use that base is part of the heap (so K.In base, base.Ns mainGlobals mg stand in Mod) -/
theorem law_call {P : Program} {w : World} {K : PySem.W.Frag} {mg mb : Str → Option Value} {CX : CXT} {k : Nat} {fa a : Addr} {fd : FuncData} {x : Str} {sp : Sp} {s₁ : Shared} {vs : List Value} {ns : List Int}
    (KX : K.In s₁.heap) (hns : s₁.heap.Ns mainGlobals mg) (hb : s₁.heap.Ns builtinsNs mb) (hbb : ∀ x : Str, x ≠ "__name__" → mb x = bootBuiltins x) (hlim : s₁.heap.NoLimit) (hg : s₁.gens = #[])
    (ha : s₁.heap.get? a = some { cls := .type "list", data := .seq vs.toArray }) (hi : IntsAre vs ns) (hl : ns.length ≤ sizeLine) (hr : Room k callerA)
    (F : ∀ base : Heap, K.In base → base.Ns mainGlobals mg → FnOk P w K mg base CX k fa fd [x] sp) (hbind : ∀ (s : Shared) (u : Value), BindsTo s fd ⟨[u], []⟩ [(x, u)])
    (hsp : ∀ H : Hp, Only H → SqL K H a (ns.map V.int) → sp [.ref a] H (fun v _ => v = .bl true) fun _ _ _ => False)
    (hCX : ∀ H e s', CX [] H s₁ (fun _ _ _ => False) e s' → False) :
    codeAny (model P w) callerA (.call (.ref fa) ⟨[.ref a], []⟩) (fun r s' => r = .ok (.ret (.bool true)) ∧ OldK s₁.heap s'.heap ∧ s'.os = s₁.os ∧ AllBare s'.gens) s₁ := by
  have rv := vals_ints hi
  have lenV := hi.length
  -- from an abstract heap in which nothing but the script may be tracked
  have core : ∀ H : Hp, Only H → SqL K H a (ns.map V.int) → HOk P w H s₁.heap → (∀ b, H b ≠ none → b = a) → (H a ≠ none → K.lookup a = none) →
      codeAny (model P w) callerA (.call (.ref fa) ⟨[.ref a], []⟩) (fun r s' => r = .ok (.ret (.bool true)) ∧ OldK s₁.heap s'.heap ∧ s'.os = s₁.os ∧ AllBare s'.gens) s₁ := by
    intro H hO hS hok hA hK
    have base_of : ∀ {b : Addr} {o : Obj}, s₁.heap.get? b = some o → H b = none → (hidT s₁.heap H).get? b = some o := fun e n => hidT_get e n
    have noA : ∀ {b : Addr} {o : Obj} {es : Array DictEntry} {ep : Nat}, s₁.heap.get? b = some o → o.data = .dict es ep → H b = none := fun {b o es ep} e d => by
      cases q : H b with
      | none => rfl
      | some u =>
        have e' : b = a := hA b (by rw [q]; simp)
        subst e'
        rw [ha] at e; cases e
        have d' : Data.seq vs.toArray _ = Data.dict es ep := d
        cases d'
    have nsK : ∀ {b : Addr} {m : Str → Option Value}, s₁.heap.Ns b m → (hidT s₁.heap H).Ns b m := fun {b m} ⟨o, es, ep, e, d, r⟩ => ⟨o, es, ep, base_of e (noA e d), d, r⟩
    have hKb : K.In (hidT s₁.heap H) := fun b o e => base_of (KX b o e) (by
      cases q : H b with
      | none => rfl
      | some u =>
        have e' : b = a := hA b (by rw [q]; simp)
        subst e'
        rw [hK (by rw [q]; simp)] at e; cases e)
    have hM : Mod K mg (hidT s₁.heap H) := ⟨hKb, nsK hns, ⟨mb, nsK hb, hbb⟩, let ⟨mc, h1, h2⟩ := hlim; ⟨mc, nsK h1, h2⟩⟩
    have e0 : Env0 P w K mg (hidT s₁.heap H) callerA [] s₁ H := ⟨rfl, hM, fun b o e => of_hidT e, Nat.le_of_eq (hidT_size _ _), trivial, fun b hb => absurd (show b ∈ ([] : List Addr) from hb) (by simp), hok, .of_eq hg⟩
    refine codeAny_mono ((F _ hKb (nsK hns)).run callerA [] s₁ H ⟨[.ref a], []⟩ [.ref a] [.ref a] _ _ hr e0 (hbind s₁ (.ref a)) (.cons rfl .nil) (hsp H hO hS)) fun r s' h => ?_
    cases r with
    | error e => exact (hCX H e s' h).elim
    | ok fl =>
      cases fl with
      | next => exact False.elim h
      | brk => exact False.elim h
      | cont => exact False.elim h
      | ret u =>
        obtain ⟨v, H', os, bare, un, hok', r', q⟩ := h
        have q' : v = .bl true := q
        subst q'
        obtain rfl : u = Value.bool true := r'
        refine ⟨rfl, OldK.of_keep fun b o e => ?_, os, bare⟩
        cases q : H b with
        | none => exact un.keep b o e q (by intro z; exact absurd (show b ∈ ([] : List Addr) from z) (by simp)) (by simp)
        | some u =>
          rcases hO b with z | ⟨ob, xs, z⟩
          · rw [q] at z; cases z
          · have z2 := un.frzs b ob _ z
            obtain ⟨e1, _⟩ := hok b _ z
            obtain ⟨e2, _⟩ := hok' b _ z2
            rw [e] at e1; cases e1
            exact e2
  cases hk : K.lookup a with
  | some o =>
    -- the script is one of the module's own objects
    have e := KX a o hk
    rw [ha] at e
    cases e
    refine core (fun _ => none) (fun _ => .inl rfl) (.inr ⟨_, vs.toArray, _, hk, rfl, rfl, rfl, by rw [List.size_toArray, lenV]; exact hl, by simpa using rv⟩) (fun b u z => by have z' : (none : Option HO) = some u := z; cases z') (fun b z => absurd rfl z) fun z => absurd rfl z
  | none =>
    refine core (fun b => if b = a then some (.frz { cls := .type "list", data := .seq vs.toArray } (.lst (ns.map V.int))) else none) (fun b => ?_) (.inl (.inr ⟨{ cls := .type "list", data := .seq vs.toArray }, if_pos rfl⟩)) (fun b u z => ?_) (fun b z => ?_) fun _ => hk
    · by_cases hb : b = a
      · exact .inr ⟨_, _, if_pos hb⟩
      · exact .inl (if_neg hb)
    · by_cases hb : b = a
      · have z' := (if_pos hb).symm.trans z
        cases z'
        subst hb
        exact ⟨ha, by rw [List.length_map]; exact hl, vs, _, rv, ha⟩
      · have z' := (if_neg hb).symm.trans z
        cases z'
    · by_cases hb : b = a
      · exact hb
      · exact absurd (if_neg hb) z
end L2

namespace L2
open PySem PySem.Spec PyProof.Rows

abbrev KOf {K : PySem.W.Frag} {h : Heap} (_ : K.In h) : PySem.W.Frag := K

/-- the goal that k_head leaves (case hc), from the law's promise. F gives the function object fd (K's own) once, then the promise over every base -/
theorem walk_of {l : PySem.W.OpenLaw} {n k : Nat} {q : Program} {loose : List Str} {XP : (Str → Option Value) → Heap → Prop} {YP : World → Heap → Prop} {d : DefRec} {K : Params → PySem.W.Frag} {CX : World → CXT} {sp : World → Sp} {x : Str}
    (hn : l.most = some n) (hn2 : n ≤ sizeLine) (hdf : d.params.defaults = []) (hr : Room k callerA)
    (hY : ∀ (w : World) (h : Heap), YP w h → (K w.params).In h)
    (F : ∀ (w : World) (mg : Str → Option Value) (fa : Addr) (h : Heap), (K w.params).In h → h.Ns mainGlobals mg → mg d.name = some (.ref fa) →
      ∃ fd : FuncData, (∀ (s : Shared) (u : Value), BindsTo s fd ⟨[u], []⟩ [(x, u)]) ∧
        ∀ base : Heap, (K w.params).In base → base.Ns mainGlobals mg → FnOk l.prog w (K w.params) mg base (CX w) k fa fd [x] (sp w))
    (hsp : ∀ (w : World) (H : Hp) (a : Addr) (ns : List Int), ns.length ≤ n → Only H → SqL (K w.params) H a (ns.map V.int) → sp w [.ref a] H (fun v _ => v = .bl true) fun _ _ _ => False)
    (hCX : ∀ (w : World) (H : Hp) (s : Shared) (e : Value) (s' : Shared), CX w [] H s (fun _ _ _ => False) e s' → False) :
    PySem.W.WalkO q loose XP YP l.row.toRowW d [] (fun f vs => PySem.call f vs) := by
  refine Att.attach_call hn hdf fun w s₀ s₁ mg mb fa o pm cd doc a vs ns G Y ho hd hcd hmg hobj hints hlen hg => ?_
  have KX := hY w _ Y
  obtain ⟨fd, hb, hF⟩ := F w mg fa _ KX G.T.g hmg
  exact law_call KX G.T.g G.T.b G.T.builtins G.T.nolimit hg hobj hints (Nat.le_trans hlen hn2) hr hF hb (fun H hO hS => hsp w H a ns hlen hO hS) fun H e s' => hCX w H s₁ e s'
end L2

/- THE LAST THEOREM (shape; LID, My.* are yours):
   My.Adr: a structure of the addresses that your layer names (classes, functions); My.Txt K t: a structure (Prop) of the equations over K;
   My.txt_mk : {K} {implicit addresses ..} (e1 : nsIn K mainGlobals "law" = some (some (.ref f))) (e2 : K.lookup f = some ⟨oc, od, .func (fnOf "law" "law" params body scope dV kV doc pm an cdv ct), sl⟩) (e3 : codeIn K cdv "law" = true) .. : ∃ t, My.Txt K t

set_option maxRecDepth 100000 in
set_option maxHeartbeats 0 in
theorem PySem.Challenge.cw_LID_holds : PySem.Challenge.rw_LID.Holds := by
  w_on; o_law; k_head; (case hw => w_witness2)
  k_fill
  refine L2.walk_of (l := PySem.Challenge.rw_LID) (n := 63) (k := 40) (x := "script") (CX := fun w => ..) (sp := fun _ => My.sp_law) rfl (by decide) rfl ⟨rfl, by decide, by decide⟩ (fun w h Y => PySem.W.kIn_of Y) ?F ?S ?C
  case F =>
    intro w mg fa h KX G hmg
    have T : ∃ t, My.Txt (L2.KOf KX) t := by
      dsimp only [L2.KOf]                          -- K must stand as «<heap const> w.params» for k_is
      refine' My.txt_mk ?e1 ?e2 ?e3 ..
      (case e1 => PySem.W.k_is)                    -- in the order: a name -> its address -> its object -> its parts
      (case e2 => PySem.W.k_is)
      ..
    obtain ⟨t, T⟩ := T
    have e0 := hmg.symm.trans (PySem.W.mg_of KX G T.law)
    cases e0                                       -- fa is the law's own address
    exact ⟨_, fun s u => .of_eq rfl, fun base kb nb => My.law_fn T kb nb⟩     -- if «.of_eq rfl» comes too early: refine' ⟨_, ?b, fun base kb nb => My.law_fn T kb nb⟩; exact fun s u => .of_eq rfl
  case S => exact fun w H a ns hl hO hS => ..
  case C => exact ..
(the tactic k_is has no namespace: write k_is) -/

/-! SHORT WORDS over the layer: a def of the text, its body, what a loop and a test want. -/
namespace L2
open PySem PySem.Spec PyProof.Rows

/-! ### the text by places -/
/-- the j-th statement of a class's body -/
def inClass (s : Stmt) (j : Nat) : Stmt := match s with
  | .ClassDef _ _ _ body _ _ _ _ _ _ _ => body.getD j (.Pass ⟨0, 0, 0, 0⟩)
  | _ => .Pass ⟨0, 0, 0, 0⟩
def defArgs (s : Stmt) : Arguments := match s with
  | .FunctionDef _ a _ _ _ _ _ _ _ _ => a
  | _ => { posonlyargs := [], args := [], vararg := none, kwonlyargs := [], kw_defaults := [], kwarg := none, defaults := [] }
def defBody (s : Stmt) : List Stmt := match s with
  | .FunctionDef _ _ b _ _ _ _ _ _ _ => b
  | _ => []
def defScope (s : Stmt) : Scope := match s with
  | .FunctionDef _ _ _ _ _ _ sc _ _ _ => sc
  | _ => { kind := .function, names := [], isGenerator := false, isCoroutine := false }

/-! ### no exception leaves a def -/
abbrev CX0 : CXT := fun _ _ _ _ _ _ => False
abbrev E0 : XK := fun _ _ _ => False
/-! ### a def (or method) of the text as it stands behind the top -/
structure Fun (K : PySem.W.Frag) (x qual : Str) (st : Stmt) (f : Addr) (fd : FuncData) : Prop where
  ex : ∃ (oc : Value) (od : Option Addr) (kV doc pm : Value) (an : Option Addr) (cdv ct : Value) (osl : Array (Option Value)),
    fd = PySem.W.fnOf x qual (defArgs st) (defBody st) (defScope st) .none kV doc pm an cdv ct ∧ K.lookup f = some ⟨oc, od, .func fd, osl⟩ ∧ PySem.W.codeIn K cdv qual = true
  kp : PySem.W.keepIn K (.ref f) = true
section
variable {P : Program} {w : World} {K : PySem.W.Frag} {mg : Str → Option Value} {base : Heap}
/-- THE RULE for a def: its body as a term of rules, and the reading of that term -/
theorem Fun.ok {x qual : Str} {st : Stmt} {f : Addr} {fd : FuncData} {N ps : List Str} {k : Nat} {sp : Sp} (F : Fun K x qual st f fd) (S : FnScope N ps (defScope st)) (len : ∀ vs H Q E, sp vs H Q E → vs.length = ps.length)
    (hbody : ∀ (cdv : Value) (A : Around) (outer : List Env) (s : Shared) (H : Hp) (vs : List V) (Q : VK) (E : XK), Room k (A.deeper (envOfC qual (defScope st) s.heap.objs.size f cdv)) → sp vs H Q E →
      ∃ t, PSs (cxOf CX0 P w K mg base N qual (defScope st) f cdv A outer s H E).nox (defBody st) t ∧ t { nx := fun _ H' => Q .non H', rt := Q } (start N vs) H) : FnOk P w K mg base CX0 (k + 1) f fd ps sp := by
  obtain ⟨oc, od, kV, doc, pm, an, cdv, ct, osl, rfl, lk, hcd⟩ := F.ex
  refine fn_of lk hcd S len fun A outer s H vs Q E hr hsp => ?_
  obtain ⟨t, h, q⟩ := hbody cdv A outer s H vs Q E hr hsp
  exact ⟨t, h.nox, q⟩
/-- how its arguments bind (no defaults): h is «fun _ _ _ _ _ _ us hl => match us, hl with | [_, _], _ => rfl», one _ a parameter -/
theorem Fun.binds {x qual : Str} {st : Stmt} {f : Addr} {fd : FuncData} {ps : List Str} (F : Fun K x qual st f fd)
    (h : ∀ (kV doc pm : Value) (an : Option Addr) (cdv ct : Value) (us : List Value), us.length = ps.length → bindArgs (PySem.W.fnOf x qual (defArgs st) (defBody st) (defScope st) .none kV doc pm an cdv ct) ⟨us, []⟩ = pure (ps.zip us)) : Binds K fd ps [] := by
  obtain ⟨oc, od, kV, doc, pm, an, cdv, ct, osl, rfl, lk, hcd⟩ := F.ex
  exact .all (h kV doc pm an cdv ct)
theorem fun_mk {x qual : Str} {st : Stmt} {f : Addr} {oc : Value} {od an : Option Addr} {osl : Array (Option Value)} {kV doc pm cdv ct : Value} (l : K.lookup f = some ⟨oc, od, .func (PySem.W.fnOf x qual (defArgs st) (defBody st) (defScope st) .none kV doc pm an cdv ct), osl⟩)
    (c : PySem.W.codeIn K cdv qual = true) (k : PySem.W.keepIn K (.ref f) = true) : Fun K x qual st f (PySem.W.fnOf x qual (defArgs st) (defBody st) (defScope st) .none kV doc pm an cdv ct) := ⟨⟨oc, od, kV, doc, pm, an, cdv, ct, osl, rfl, l, c⟩, k⟩
end
/-! ### expressions in short: the name that stands in the i-th slot -/
section
variable {X : Cx}
theorem pv (i : Nat) {x : Str} {pos : Pos} (hN : X.N[i]? = some x := by rfl) (hv : Vis X.env.scope x := by first | exact Or.inl rfl | exact Or.inr (Or.inl rfl) | exact Or.inr (Or.inr rfl)) (hd : (x == ("__debug__" : Str)) = false := by decide)
    (hcd : (x == ("__classdict__" : Str)) = false := by decide) : PE X (.Name x pos) (tVar i) := pe_var hN hv hd hcd
end

/-! ### tests -/
theorem iteT {A B : Prop} (h : A) : if true = true then A else B := by
  rw [if_pos rfl]
  exact h
theorem ite2 {c A B : Prop} [Decidable c] (h1 : c → A) (h2 : ¬ c → B) : if c then A else B := by
  by_cases h : c
  · rw [if_pos h]
    exact h1 h
  · rw [if_neg h]
    exact h2 h
/-! ### heaps -/
/-- all that was tracked is as it was -/
def Same (H H' : Hp) : Prop := ∀ b o, H b = some o → H' b = some o
theorem Same.refl (H : Hp) : Same H H := fun _ _ h => h
theorem Same.trans {H H1 H2 : Hp} (a : Same H H1) (b : Same H1 H2) : Same H H2 := fun c o h => b c o (a c o h)
theorem Same.free {H H' : Hp} (e : Same H H') {l : Addr} (h : H' l = Option.none) : H l = Option.none := by
  cases q : H l with
  | none => rfl
  | some o =>
    rw [e l o q] at h
    cases h
theorem Same.seq {K : PySem.W.Frag} {H H' : Hp} {a : Addr} {xs : List V} (e : Same H H') (h : SqL K H a xs) : SqL K H' a xs := by
  rcases h with (h | ⟨o, h⟩) | h
  · exact .inl (.inl (e _ _ h))
  · exact .inl (.inr ⟨o, e _ _ h⟩)
  · exact .inr h

end L2

namespace L2
open PySem PySem.Spec PyProof.Rows
section
variable {X : Cx}
end
/-! ### a dict's pairs: keys that differ -/
section
variable {κ : Type} [DecidableEq κ]
end
end L2

/-! OWN RULES over the layer. -/
namespace L2
open PySem PySem.Spec PyProof.Rows

/-! ### sizes of ints -/
def Bt (n : Nat) (i : Int) : Prop := i.natAbs < 2 ^ n
theorem Bt.mono {m n : Nat} {i : Int} (h : Bt m i) (q : m ≤ n) : Bt n i := Nat.lt_of_lt_of_le h (Nat.pow_le_pow_right (by decide) q)
theorem Bt.bits {n : Nat} {i : Int} (h : Bt n i) : Builtin.Int.intBits i ≤ n := PyProof.Rows.intBits_le h
theorem Bt.mul {m n : Nat} {i j : Int} (h1 : Bt m i) (h2 : Bt n j) : Bt (m + n) (i * j) := by
  unfold Bt at *
  rw [Int.natAbs_mul, Nat.pow_add]
  exact Nat.mul_lt_mul_of_lt_of_lt h1 h2
theorem Bt.add {n : Nat} {i j : Int} (h1 : Bt n i) (h2 : Bt n j) : Bt (n + 1) (i + j) := by
  unfold Bt at *
  rw [Nat.pow_succ]
  generalize 2 ^ n = p at *
  omega
theorem Bt.neg {n : Nat} {i : Int} (h1 : Bt n i) : Bt n (-i) := by
  unfold Bt at *
  omega
theorem Bt.sub {n : Nat} {i j : Int} (h1 : Bt n i) (h2 : Bt n j) : Bt (n + 1) (i - j) := by
  have h := Bt.add h1 h2.neg
  rw [← Int.sub_eq_add_neg] at h
  exact h
theorem Bt.le {n : Nat} {i j : Int} (h : Bt n j) (q : i.natAbs ≤ j.natAbs) : Bt n i := Nat.lt_of_le_of_lt q h
theorem Bt.of {n : Nat} {i : Int} (b : Nat) (h1 : -(b : Int) ≤ i) (h2 : i ≤ (b : Int)) (h : b < 2 ^ n := by decide +kernel) : Bt n i := by
  unfold Bt
  exact Nat.lt_of_le_of_lt (by omega) h
theorem Bt.log {n : Nat} {i : Int} (h : Bt n i) (q : n ≤ 9000 := by decide) : i.natAbs.log2 < 9000 := by
  by_cases z : i.natAbs = 0
  · rw [z]; decide
  · exact Nat.lt_of_lt_of_le ((Nat.log2_lt z).mpr h) q
theorem Bt.mulOk {m n : Nat} {i j : Int} (h1 : Bt m i) (h2 : Bt n j) (q : m + n ≤ 134217728 := by decide) : IntMulOk i j := mulOk_of_bits h1.bits h2.bits q
theorem mulOkL {i j : Int} (h1 : -(2 ^ 64) < i := by decide) (h2 : i < 2 ^ 64 := by decide) : IntMulOk i j := .of_left (intBits_le_64 h1 h2)
theorem mulOkR {i j : Int} (h1 : -(2 ^ 64) < j := by decide) (h2 : j < 2 ^ 64 := by decide) : IntMulOk i j := .of_right (intBits_le_64 h1 h2)

section
variable {X : Cx}
theorem op_mulB : OpR X (binaryOp .Mult) (rI IntMulOk fun i j => .int (i * j)) := opI fun _ _ _ _ _ _ _ hc q => mul_int q hc
def CDivB (_ j : Int) : Prop := 0 < j ∧ j.natAbs.log2 < 9000
theorem CDivB.of {i j : Int} {n : Nat} (h : 0 < j) (b : Bt n j) (q : n ≤ 9000 := by decide) : CDivB i j := ⟨h, b.log q⟩
theorem CDivB.lit {i j : Int} (h : 0 < j := by decide) (q : j.natAbs.log2 < 9000 := by decide) : CDivB i j := ⟨h, q⟩
theorem op_fdivB : OpR X (binaryOp .FloorDiv) (rI CDivB fun i j => .int (i / j)) := opI fun i j _ _ _ _ _ hc q => by
  have h1 : (0 : Int) < j := hc.1
  exact floordiv_int (by omega) (by rw [Int.fdiv_eq_ediv_of_nonneg i (by omega)]; exact q) (.inl (PyProof.noPylong_of_log2 hc.2))
def CDivS (_ j : Int) : Prop := j ≠ 0 ∧ j.natAbs.log2 < 9000
theorem CDivS.of {i j : Int} {n : Nat} (h : j ≠ 0) (b : Bt n j) (q : n ≤ 9000 := by decide) : CDivS i j := ⟨h, b.log q⟩
theorem op_fdivS : OpR X (binaryOp .FloorDiv) (rI CDivS fun i j => .int (i.fdiv j)) := opI fun _ _ _ _ _ _ _ hc q => floordiv_int hc.1 q (.inl (PyProof.noPylong_of_log2 hc.2))
theorem op_modB : OpR X (binaryOp .Mod) (rI (fun _ j => 0 < j) fun i j => .int (i % j)) := op_mod

/-! ### tuples: tracked ones; a new one among others -/
def rIxTH : R2 := fun x y H Q => ∃ p xs i v, x = .ref p ∧ y = .int i ∧ H p = some (.tup xs) ∧ atI xs i = some v ∧ Q v H
theorem ix_tupH : IxR X rIxTH := fun value slice pins s σ H x y v u Q I rx ry ⟨p, xs, i, z, e1, e2, e3, e4, q⟩ hs =>
  ix_tup value slice pins s σ H x y v u Q I rx ry ⟨p, xs, i, z, e1, e2, SqT.of e3, e4, q⟩ hs
def rIxLH : R2 := fun x y H Q => ∃ p xs i v, x = .ref p ∧ y = .int i ∧ H p = some (.lst xs) ∧ atI xs i = some v ∧ Q v H
theorem ix_listH : IxR X rIxLH := fun value slice pins s σ H x y v u Q I rx ry ⟨p, xs, i, z, e1, e2, e3, e4, q⟩ hs =>
  ix_list value slice pins s σ H x y v u Q I rx ry ⟨p, xs, i, z, e1, e2, SqL.of e3, e4, q⟩ hs
def tTupS (t : TA) : TE := fun σ H Q => t σ H fun xs H1 => xs.length ≤ sizeLine ∧ ∀ p H2, Same H1 H2 → H1 p = none → H2 p = some (.tup xs) → Q (.ref p) H2
theorem same_upd {H : Hp} {p : Addr} {o : HO} (h : H p = none) : Same H (upd H p o) := fun b u e => by
  rw [upd_ne (ne_of_none e h)]
  exact e
theorem pe_tupS {es : List Expr} {t : TA} {x1} {pos : Pos} (h : PA X es t) : PE X (.Tuple es x1 pos) (tTupS t) := fun pins s σ H Q I hq =>
  thn (h := wpAny_Tuple_spliced (thn (h pos pins s σ H _ I hq) fun us s1 ⟨xs, H1, I1, r, z, q⟩ => ⟨by rw [← r.length]; exact z, by
    have hf : H1 s1.heap.objs.size = none := I1.hok.fresh (Nat.le_refl _)
    refine ⟨.ref s1.heap.objs.size, upd H1 s1.heap.objs.size (.tup xs), I1.laid (t' := s1.toks) (fun b u e => Heap.get?_push_of_some _ e) (Nat.le_refl _) ?_, rfl, q _ _ (same_upd hf) hf upd_same⟩
    exact ⟨z, us, r, ⟨_, Heap.get?_push_size _ rfl, rfl, _, rfl⟩⟩⟩)) fun _ _ z => z
theorem call_lenL : CallR X (.builtin "len") (fun xs H Q => ∃ p ys, xs = [.ref p] ∧ H p = some (.lst ys) ∧ Q (.int ys.length) H) := fun pins s σ H xs us Q I r ⟨p, ys, e, h, q⟩ =>
  call_len_seq pins s σ H xs us Q I r ⟨p, ys, e, .inl (SqL.of h), q⟩
/-- the script: len, an item -/
theorem call_lenQ : CallR X (.builtin "len") (fun xs H Q => ∃ p ns, xs = [.ref p] ∧ SqL X.K H p (List.map V.int ns) ∧ Q (.int (List.length ns : Nat)) H) := fun pins s σ H xs us Q I r ⟨p, ns, e, h, q⟩ =>
  call_len_seq pins s σ H xs us Q I r ⟨p, _, e, .inl h, by rw [List.length_map]; exact q⟩
def rIxQ (K : PySem.W.Frag) : R2 := fun x y H Q => ∃ p ns i, x = .ref p ∧ y = .int i ∧ SqL K H p (List.map V.int ns) ∧ 0 ≤ i ∧ i < (List.length ns : Nat) ∧ Q (.int (ns.getD i.toNat 0)) H
theorem atI_ints {ns : List Int} {i : Int} (h0 : 0 ≤ i) (h1 : i < (ns.length : Nat)) : atI (ns.map V.int) i = some (.int (ns.getD i.toNat 0)) := by
  obtain ⟨j, rfl⟩ := Int.eq_ofNat_of_zero_le h0
  refine atI_nat ?_
  have hj : j < ns.length := by omega
  rw [List.getElem?_map, List.getElem?_eq_getElem hj]
  simp [List.getD_eq_getElem?_getD, List.getElem?_eq_getElem hj]
theorem ix_listS : IxR X (rIxQ X.K) := fun value slice pins s σ H x y v u Q I rx ry ⟨p, ns, i, e1, e2, e3, h0, h1, q⟩ hs =>
  ix_list value slice pins s σ H x y v u Q I rx ry ⟨p, _, i, _, e1, e2, e3, atI_ints h0 h1, q⟩ hs

/-! ### calls of the text's defs -/
structure Cal (P : Program) (w : World) (K : PySem.W.Frag) (mg : Str → Option Value) (base : Heap) (CX : CXT) (k : Nat) (x : Str) (ps : List Str) (sp : Sp) : Prop where
  ex : ∃ f fd, FnOk P w K mg base CX k f fd ps sp ∧ mg x = some (.ref f) ∧ PySem.W.keepIn K (.ref f) = true ∧ Binds K fd ps []
theorem pe_cal {CX : CXT} {k : Nat} {x : Str} {ps : List Str} {sp : Sp} {E : XK} {e : Expr} {es : List Expr} {t : TA} {p pos : Pos} (C : Cal X.prog X.w X.K X.mg X.base CX k x ps sp) (hr : Room k X.A) (hg : Gl X x) (hx : Passes CX X E) (ha : PA X (e :: es) t)
    (hdb : (x == ("__debug__" : Str)) = false := by decide) (he : starEach (e :: es) X.env = (false, eval e X.env) :: starEach es X.env := by rfl) (hpl : (backTo pos (starEach es X.env)).any (·.1) = false := by rfl) :
    PE X (.Call (.Name x p) (e :: es) [] pos) (tCall sp [] E t) := by
  obtain ⟨f, fd, F, hm, hk, hb⟩ := C.ex
  exact pe_call F hr hg hm hk hb .nil hx ha hdb he hpl
end

/-- no exception is wished: none comes -/
def Strict (CX : CXT) : Prop := ∀ outer H s e s', ¬ CX outer H s (fun _ _ _ => False) e s'
theorem Strict.pass {CX : CXT} (h : Strict CX) {X : Cx} : Passes CX X E0 := fun _ _ H s e s' _ z => (h _ H s e s' z).elim

section
variable {P : Program} {w : World} {K : PySem.W.Frag} {mg : Str → Option Value} {base : Heap} {CX : CXT}
theorem Fun.okC {x qual : Str} {st : Stmt} {f : Addr} {fd : FuncData} {N ps : List Str} {k : Nat} {sp : Sp} (F : Fun K x qual st f fd) (S : FnScope N ps (defScope st)) (len : ∀ vs H Q E, sp vs H Q E → vs.length = ps.length)
    (hbody : ∀ (cdv : Value) (A : Around) (outer : List Env) (s : Shared) (H : Hp) (vs : List V) (Q : VK) (E : XK), Room k (A.deeper (envOfC qual (defScope st) s.heap.objs.size f cdv)) → sp vs H Q E →
      ∃ t, PSs (cxOf CX P w K mg base N qual (defScope st) f cdv A outer s H E).nox (defBody st) t ∧ t { nx := fun _ H' => Q .non H', rt := Q } (start N vs) H) : FnOk P w K mg base CX (k + 1) f fd ps sp := by
  obtain ⟨oc, od, kV, doc, pm, an, cdv, ct, osl, rfl, lk, hcd⟩ := F.ex
  refine fn_of lk hcd S len fun A outer s H vs Q E hr hsp => ?_
  obtain ⟨t, h, q⟩ := hbody cdv A outer s H vs Q E hr hsp
  exact ⟨t, h.nox, q⟩
/-- a def of the text, at its name -/
structure Dn (K : PySem.W.Frag) (mg : Str → Option Value) (x : Str) (st : Stmt) : Prop where
  ex : ∃ f fd, Fun K x x st f fd ∧ mg x = some (.ref f)
theorem Dn.cal {x : Str} {st : Stmt} {ps : List Str} {k : Nat} {sp : Sp} (D : Dn K mg x st)
    (hb : ∀ (kV doc pm : Value) (an : Option Addr) (cdv ct : Value) (us : List Value), us.length = ps.length → bindArgs (PySem.W.fnOf x x (defArgs st) (defBody st) (defScope st) .none kV doc pm an cdv ct) ⟨us, []⟩ = pure (ps.zip us))
    (h : ∀ f fd, Fun K x x st f fd → FnOk P w K mg base CX k f fd ps sp) : Cal P w K mg base CX k x ps sp := by
  obtain ⟨f, fd, F, hm⟩ := D.ex
  exact ⟨f, fd, h f fd F, hm, F.kp, F.binds hb⟩
end

/-! ### == of tuples of flat values; in a written tuple; isinstance of a built-in type -/
section
variable {X : Cx}
def eqL (xs ys : List V) : Bool := (List.range (min xs.length ys.length)).all (fun j => eqV (xs.getD j .non) (ys.getD j .non)) && xs.length == ys.length
def rEqT : R2 := fun x y H Q => ∃ p q xs ys, x = .ref p ∧ y = .ref q ∧ H p = some (.tup xs) ∧ H q = some (.tup ys) ∧ xs.all flatV = true ∧ ys.all flatV = true ∧ Q (.bl (eqL xs ys)) H
def rInT : R2 := fun x y H Q => ∃ p xs, y = .ref p ∧ H p = some (.tup xs) ∧ flatV x = true ∧ xs.all flatV = true ∧ Q (.bl (inV x xs)) H
theorem call_isT : CallR X (.builtin "isinstance") (fun xs H Q => ∃ x c t b, xs = [x, .ty c] ∧ TyOf X.K H x t ∧ PySem.W.kitOne X.K t (.type c) = some b ∧ Q (.bl b) H) := by
  intro pins s σ H xs us Q I r h
  obtain ⟨x, c, t, b, rfl, ty, e, q⟩ := h
  obtain ⟨u, u', rfl, rx, rc⟩ := vals2 r
  cases rc
  exact isinst_ok I rx ty e fun tk => ⟨.bl b, H, I.tok tk, rfl, q⟩
end
theorem at0 {α : Type} {x : α} {l : List α} : atI (x :: l) 0 = some x := atI_nat (j := 0) rfl
theorem at1 {α : Type} {x y : α} {l : List α} : atI (x :: y :: l) 1 = some y := atI_nat (j := 1) rfl
theorem at2 {α : Type} {x y z : α} {l : List α} : atI (x :: y :: z :: l) 2 = some z := atI_nat (j := 2) rfl
def Pr (a b : Int) : List V := [.int a, .int b]
theorem kit_tt {K : PySem.W.Frag} : PySem.W.kitOne K (.type "tuple") (.type "tuple") = some true := by unfold PySem.W.kitOne; rw [if_pos (by decide +kernel)]
end L2
/-! Numbers: the greatest common divisor, lowest terms. -/
namespace Nm
def g (a b : Int) : Int := (Int.gcd a b : Nat)
theorem g_nn (a b : Int) : 0 ≤ g a b := Int.natCast_nonneg _
theorem g_pos {a b : Int} (h : b ≠ 0) : 0 < g a b := by
  have := Int.gcd_pos_of_ne_zero_right a h
  unfold g
  omega
theorem g_dvd_l (a b : Int) : g a b ∣ a := Int.gcd_dvd_left ..
theorem g_dvd_r (a b : Int) : g a b ∣ b := Int.gcd_dvd_right ..
theorem g_comm (a b : Int) : g a b = g b a := by unfold g; rw [Int.gcd_comm]
theorem g_le {a b : Int} (h : 0 < b) : g a b ≤ b := Int.le_of_dvd h (g_dvd_r a b)
theorem g_abs (a b : Int) : g (a.natAbs : Int) b = g a b := by
  unfold g Int.gcd
  rw [Int.natAbs_natCast]
theorem g_abs_r (a b : Int) : g a (b.natAbs : Int) = g a b := by
  rw [g_comm, g_abs, g_comm]
theorem g_neg (a b : Int) : g (-a) b = g a b := by
  unfold g Int.gcd
  rw [Int.natAbs_neg]
theorem g_step {a b : Int} (ha : 0 ≤ a) (_hb : 0 < b) : g b (a % b) = g a b := by
  unfold g Int.gcd
  rw [Int.natAbs_emod_of_nonneg ha, Nat.gcd_comm b.natAbs, ← Nat.gcd_rec, Nat.gcd_comm]
theorem g_zero {a : Int} (ha : 0 ≤ a) : g a 0 = a := by
  unfold g
  rw [Int.gcd_zero_right]
  omega
theorem g_abs_le {a b : Int} (h : b ≠ 0) : g a b ≤ (b.natAbs : Int) := by
  rw [← g_abs_r]
  exact g_le (by omega)
/-- lowest terms -/
theorem low_gcd {a b : Int} (h : b ≠ 0) : g (a / g a b) (b / g a b) = 1 := by
  have p : 0 < Int.gcd a b := Int.gcd_pos_of_ne_zero_right a h
  unfold g
  rw [Int.gcd_ediv_gcd_ediv_gcd p]
  rfl
theorem low_pos {a b : Int} (h : 0 < b) : 0 < b / g a b := Int.ediv_pos_of_pos_of_dvd h (g_nn a b) (g_dvd_r a b)
theorem low_cross (a b : Int) : (a / g a b) * b = a * (b / g a b) := by
  rw [← Int.mul_ediv_assoc _ (g_dvd_r a b), Int.mul_comm a b, Int.mul_ediv_assoc _ (g_dvd_l a b), Int.mul_comm]
theorem cop_dvd {q a b : Int} (h : q ∣ a * b) (c : Int.gcd a q = 1) : q ∣ b := by
  have h1 := (Int.dvd_gcd_mul_iff_dvd_mul (k := q) (n := a) (m := b)).mpr h
  rw [Int.gcd_comm, c] at h1
  simpa using h1
/-- a share's one form -/
theorem low_one {p q p' q' : Int} (h : 0 < q) (h' : 0 < q') (e : g p q = 1) (e' : g p' q' = 1) (c : p * q' = p' * q) : p = p' ∧ q = q' := by
  have c1 : Int.gcd p q = 1 := by unfold g at e; omega
  have c2 : Int.gcd p' q' = 1 := by unfold g at e'; omega
  have d1 : q ∣ q' := by
    have : q ∣ p * q' := ⟨p', by rw [c, Int.mul_comm]⟩
    exact cop_dvd this c1
  have d2 : q' ∣ q := by
    have : q' ∣ p' * q := ⟨p, by rw [← c, Int.mul_comm]⟩
    exact cop_dvd this c2
  have eq : q = q' := by
    have := Int.le_of_dvd h' d1
    have := Int.le_of_dvd h d2
    omega
  subst eq
  exact ⟨Int.eq_of_mul_eq_mul_right (by omega) c, rfl⟩
theorem quot_abs {a g : Int} (_h : 0 < g) (d : g ∣ a) : (a / g).natAbs ≤ a.natAbs := by
  rw [Int.natAbs_ediv_of_dvd d]
  exact Nat.div_le_self _ _
theorem back {a b c d p q x y : Int} (hq : 0 < q) (hd : 0 < d) (e : p * (b * d) = (a * d - c * b) * q) (f : x * (q * d) = (p * d + c * q) * y) : x * b = a * y := by
  have h : (x * b) * (q * d) = (a * y) * (q * d) := by grind
  exact Int.eq_of_mul_eq_mul_right (by have := Int.mul_pos hq hd; omega) h
end Nm
/-! EXCEPTIONS of own classes: raised, passed on, caught by name. -/
namespace L2
open PySem PySem.Spec PyProof.Rows PySem.W

theorem ObjOk.get {P : Program} {w : World} {H : Hp} {h : Heap} {a : Addr} : ∀ {o : HO}, ObjOk P w H h a o → ∃ ob, h.get? a = some ob
  | .lst _, x => let ⟨_, _, _, _, e⟩ := x; ⟨_, e⟩
  | .tup _, x => let ⟨_, _, _, o, e, _⟩ := x; ⟨o, e⟩
  | .dK _, x => let ⟨_, _, _, _, o, _, _, e, _⟩ := x; ⟨o, e⟩
  | .dT _, x => let ⟨_, _, _, _, o, _, _, e, _⟩ := x; ⟨o, e⟩
  | .set _ _, x => by
    obtain ⟨o, es, ep, t, e, _⟩ := x
    exact ⟨o, e⟩
  | .ins _ _ _, x => let ⟨_, _, _, e, _⟩ := x; ⟨_, e⟩
  | .own _, x => x
  | .xd _, x => by
    obtain ⟨mA, ⟨o, es, ep, e, _⟩, _⟩ := x
    exact ⟨o, e⟩
  | .rng _ _, x => let ⟨_, _, _, e⟩ := x; ⟨_, e⟩
  | .frz _ _, x => ⟨_, x.1⟩
  | .tbl _, x => ⟨_, x⟩
  | .met _ _, x => ⟨_, x⟩
  | .ext _, x => x.2.1
theorem HOk.inB {P : Program} {w : World} {H : Hp} {h h' B : Heap} (ok : HOk P w H h) (hB : ∀ b u o, H b = some u → h.get? b = some o → B.get? b = some o) (st : B.StaysIn h') : HOk P w H h' := fun a o e =>
  (ok a o e).stay (fun b u hb q => st b u (by
    rcases hb with rfl | hb
    · exact hB _ _ _ e q
    · exact hB _ _ _ hb q)) (fun _ r => r) fun _ _ r => r

/-- an exception flies: the frames l it will come to, the abstract heap and the state ahead of the call, the abstract heap behind it -/
structure Fly (P : Program) (w : World) (l : List Env) (H : Hp) (s : Shared) (H' : Hp) (ad : Addr) (cls : Value) (s' : Shared) : Prop where
  os : s'.os = s.os
  bare : AllBare s'.gens
  un : Un (frs l) [] H H' s.heap s'.heap
  hok : HOk P w H' s'.heap
  fl : ∃ B a0, Heap.FlyingW B l ad cls a0 s'.heap ∧ (∀ b o, s.heap.get? b = some o → H b = none → b ∉ frs l → B.get? b = some o) ∧ (∀ b o, s.heap.get? b = some o → b ∉ frs l → ∃ o', B.get? b = some o') ∧
    (∀ b u o, H' b = some u → s'.heap.get? b = some o → B.get? b = some o)
def CX1 (P : Program) (w : World) : CXT := fun l H s E e s' => ∃ ad cls H', e = .ref ad ∧ Fly P w l H s H' ad cls s' ∧ E cls none H'
theorem strict1 (P : Program) (w : World) : Strict (CX1 P w) := fun _ _ _ _ _ ⟨_, _, _, _, _, h⟩ => h

section
variable {P : Program} {w : World} {K : PySem.W.Frag} {mg : Str → Option Value} {base : Heap} {N : List Str} {qual : Str} {scope : Scope} {f : Addr} {cdv : Value} {A : Around} {outer : List Env} {s0 : Shared} {H0 : Hp} {E : XK}
theorem xe_raise {pins : List (Addr × Obj)} {σ : St} {H : Hp} {s : Shared} {h' : Heap} {ad : Addr} {cls : Value} {vs : List Value}
    (I : Inv (cxOf (CX1 P w) P w K mg base N qual scope f cdv A outer s0 H0 E) pins σ H s) (mx : Heap.MadeExcOf s.heap h' ad cls vs) (e : E cls none H) :
    (cxOf (CX1 P w) P w K mg base N qual scope f cdv A outer s0 H0 E).xe (.ref ad) { s with heap := h' } := by
  let env : Env := envOfC qual scope s0.heap.objs.size f cdv
  have nin : ∀ b o, s0.heap.get? b = some o → b ∉ frs outer → b ∉ frs (env :: outer) := fun b o q hb z => by
    rcases List.mem_cons.mp (show b ∈ s0.heap.objs.size :: frs outer from z) with z | z
    · rw [z] at q
      exact absurd (Heap.lt_size q) (Nat.lt_irrefl _)
    · exact hb z
  have hin : ∀ b, b ∈ frs outer → b ∈ frs (env :: outer) := fun b hb => List.mem_cons.mpr (.inr hb)
  have ST : s.heap.FunFrames base (env :: outer) := I.stack
  have SF : ∀ b ∈ frs (env :: outer), H b = none := I.stkFree
  have BS : Un (frs outer) [] H0 H s0.heap s.heap := I.base
  show wpAny (model P w) (A.deeper env) (leaving env (.ref ad)) (fun _ s'' => CX1 P w outer H0 s0 E (.ref ad) s'') (fun e' s'' => CX1 P w outer H0 s0 E e' s'') { s with heap := h' }
  refine wpAny_leaves_madeW (base := hideAll s.heap (frs (env :: outer))) (h := s.heap) (L := s0.heap.objs.size) I.ok.frames rfl (fun b o q => of_hideAll _ q)
    (funFrames_hide ST fun en he a ha => List.mem_filterMap.mpr ⟨en, he, ha⟩) mx fun h2 t x1 _ _ x4 => ?_
  have x4 : Heap.UpToSlots h' h2 := x4
  have fr : ∀ b ∈ frs (env :: outer), ∀ o, s.heap.get? b = some o → ∃ sl, h2.get? b = some { o with slots := sl } := fun b hb o q => by
    obtain ⟨_, o1, q1, nf⟩ := ST.mem hb
    rw [q] at q1
    cases q1
    exact x4 b o (mx.keeps b o q) nf
  refine ⟨ad, cls, H, rfl, ⟨I.os, I.bare, ⟨fun b o q n hb hx => ?_, fun b o q n hb hx => ?_, BS.free, fun b o q hx => ?_, BS.tups, BS.frzs, BS.tbls⟩, ?_, ⟨_, _, x1, fun b o q n hb => ?_, fun b o q hb => ?_, fun b u o e1 q => ?_⟩⟩, e⟩
  · exact x1.1 b o (hideAll_get _ (BS.keep b o q n hb hx) (nin b o q hb))
  · obtain ⟨sl, q1⟩ := BS.slot b o q n hb hx
    obtain ⟨sl2, q2⟩ := fr b (hin b hb) _ q1
    exact ⟨sl2, q2⟩
  · obtain ⟨o1, q1⟩ := BS.there b o q hx
    by_cases hb : b ∈ frs (env :: outer)
    · obtain ⟨sl2, q2⟩ := fr b hb _ q1
      exact ⟨_, q2⟩
    · exact ⟨o1, x1.1 b o1 (hideAll_get _ q1 hb)⟩
  · exact HOk.inB I.hok (fun b u o e1 q => hideAll_get _ q fun z => by
      have := SF b z
      rw [e1] at this
      cases this) x1.1
  · exact hideAll_get _ (BS.keep b o q n hb (by simp)) (nin b o q hb)
  · obtain ⟨o1, q1⟩ := BS.there b o q (by simp)
    exact ⟨o1, hideAll_get _ q1 (nin b o q hb)⟩
  · obtain ⟨o1, q1⟩ := (I.hok b u e1).get
    have q2 := hideAll_get (frs (env :: outer)) q1 fun z => by
      have := SF b z
      rw [e1] at this
      cases this
    have q3 := x1.1 b o1 q2
    rw [q] at q3
    cases q3
    exact q2
end
end L2
/-! raise of an own class; try with one call in it. -/
namespace L2
open PySem PySem.Spec PyProof.Rows PySem.W

/-- an own exception class of the text, by what stands written -/
theorem exc_obj {K : Frag} {h : Heap} {C : Addr} {bmB : List Value} {newId : String} (X : K.In h) (q : excIn K C bmB newId = true) :
    ∃ tl N nm qn bs hdct sn sub ab col dd k0 k1 k2 k3 k5 mN, h.get? C = some (excClassObj nm qn C N bs tl hdct sn sub ab col dd k0 k1 k2 k3 k5 newId) ∧ h.Ns N mN ∧ mN "__init__" = none ∧ OwnTail h bmB tl := by
  unfold excIn at q
  split at q
  · rename_i dd cd sl ho
    split at q
    · rename_i C' bm k0 k1 k2 k3 n k5 hm hs
      simp only [Bool.and_eq_true, beq_iff_eq, Bool.not_eq_true'] at q
      obtain ⟨⟨⟨⟨⟨rfl, rfl⟩, hdel⟩, ht⟩, hok⟩, hni⟩ := q
      obtain ⟨nm, bs, mro, ns, qn, hd, sn, sub, ab, col, del⟩ := cd
      dsimp only at hm hdel hok hni
      subst hm hdel
      have hsl : sl = #[k0, k1, k2, k3, some (.builtin n), k5] := by
        obtain ⟨l⟩ := sl
        simp only at hs
        rw [hs]
      subst hsl
      exact ⟨bm, ns, nm, qn, bs, hd, sn, sub, ab, col, dd, k0, k1, k2, k3, k5, _, X _ _ ho, .of_isNs (isNs_of_in X hok), nsMap_none_of_in X hok hni, tail_of_in X ht⟩
    · cases q
  · cases q
abbrev bmVE : List Value := [.type "ValueError", .type "Exception", .type "BaseException", .type "object"]
abbrev newVE : String := "ValueError.__new__"
def tRaise (C : Addr) (E : XK) (t : TA) : TS := fun _ σ H => t σ H fun vs H1 => vs.length ≤ sizeLine ∧ E (.ref C) none H1
section
variable {P : Program} {w : World} {K : PySem.W.Frag} {mg : Str → Option Value} {base : Heap} {N : List Str} {qual : Str} {scope : Scope} {f : Addr} {cdv : Value} {A : Around} {outer : List Env} {s0 : Shared} {H0 : Hp} {E : XK}
theorem ps_raise {x : Str} {C : Addr} {np cpos pos : Pos} {e : Expr} {es : List Expr} {t : TA} (hg : Gl (cxOf (CX1 P w) P w K mg base N qual scope f cdv A outer s0 H0 E) x) (hm : mg x = some (.ref C)) (q : excIn K C bmVE newVE = true)
    (hh : A.handled = none) (ha : PA (cxOf (CX1 P w) P w K mg base N qual scope f cdv A outer s0 H0 E) (e :: es) t) (hdb : (x == ("__debug__" : Str)) = false := by decide)
    (he : starEach (e :: es) (cxOf (CX1 P w) P w K mg base N qual scope f cdv A outer s0 H0 E).env = (false, eval e (cxOf (CX1 P w) P w K mg base N qual scope f cdv A outer s0 H0 E).env) :: starEach es (cxOf (CX1 P w) P w K mg base N qual scope f cdv A outer s0 H0 E).env := by rfl)
    (hpl : (backTo cpos (starEach es (cxOf (CX1 P w) P w K mg base N qual scope f cdv A outer s0 H0 E).env)).any (·.1) = false := by rfl) :
    PS (cxOf (CX1 P w) P w K mg base N qual scope f cdv A outer s0 H0 E) (.Raise (some (.Call (.Name x np) (e :: es) [] cpos)) none pos) (tRaise C E t) := by
  intro pins s σ H D I h
  have FB := PySem.F.excBase_ValueError
  obtain ⟨tl, Nn, nm, qn, bs, hdct, sn, sub, ab, col, dd, k0, k1, k2, k3, k5, mN, hC, hN, hni, T⟩ := exc_obj I.ok.mod.kin q
  refine wpAny_Raise_call_subT (C := C) (nm := nm) (q := qn) (N := Nn) (bs := bs) (bm := tl) (hdct := hdct) (sn := sn) (sub := sub) (ab := ab) (col := col) (dd := dd) (k0 := k0) (k1 := k1) (k2 := k2) (k3 := k3) (k5 := k5)
    FB (mN := mN) (T.hasType FB.hasBase) hh (by rw [he]; show (false || (backTo cpos (starEach es _)).any (·.1)) = false; rw [hpl]; rfl) hni (ld_glob I hg hm ⟨rfl, ?_⟩ hdb)
  rw [he]
  have ha' := ha cpos pins s σ H _ I h
  rw [he] at ha'
  refine Calls.evalArgs_plain (thn ha' fun us s1 ⟨vs, H1, I1, r, z, k⟩ => ⟨rfl, by rw [← r.length]; exact z, I1.bk _ _ hC, hN.keeps I1.bk, T.keeps I1.bk, fun h' ad mx => ?_⟩)
  exact xe_raise I1 mx k
end

/-! ### catching -/
section
variable {X : Cx} {pins : List (Addr × Obj)} {σ : St} {H H' : Hp} {s s' : Shared}
/-- within an except suite -/
abbrev Cx.mark (X : Cx) (ad : Addr) : Cx := { X with A := X.A.mark (some (.ref ad)), calm := false, xe := fun _ _ => False }
theorem Inv.mark (I : Inv X pins σ H s) (ad : Addr) : Inv (X.mark ad) pins σ H s :=
  ⟨⟨I.ok.mod, I.ok.kind, I.ok.glob, I.ok.blt, I.ok.above, I.ok.inj, I.ok.has, I.ok.cab, fun z => (Bool.false_ne_true z).elim, I.ok.frames, I.ok.stk, I.ok.exf, I.ok.bs, I.ok.bsz, I.ok.noex, I.ok.exfs, I.ok.funs, I.ok.frf⟩,
    I.os, I.bare, I.base, I.loc, I.cell, I.free, I.freeC, I.pin, I.hok, I.len⟩
theorem Inv.unmark {ad : Addr} (ok : X.Ok) (I : Inv (X.mark ad) pins σ H s) : Inv X pins σ H s := ⟨ok, I.os, I.bare, I.base, I.loc, I.cell, I.free, I.freeC, I.pin, I.hok, I.len⟩
theorem name_goes {M : Model} {A : Around} {E : Value → Shared → Prop} {i : Nat} {n : Str} {pos : Pos} {Q : Unit → Shared → Prop} (I : Inv X pins σ H s) (hN : X.N.Nodup) (hi : X.N[i]? = some n) (hl : X.env.scope.names.lookup n = some .local)
    (h : ∀ s', Inv X pins (σ.set i none) H s' → Q () s') : wpAny M A (do bindName X.env n .none; unbindBehindTheSuite X.env n pos) Q E s := by
  have hiσ : i < σ.length := by rw [I.len]; exact (List.getElem?_eq_some_iff.mp hi).1
  refine wpAny_bind (wpAny_bindName (store_ok (v := .non) I hN hi (.inl hl) rfl (fun s1 I1 => ?_) (.inr hl)))
  obtain ⟨m, hn, hlk⟩ := id I1.loc
  have hmn : ∃ u, m n = some u := by
    obtain ⟨u, _, z⟩ := hlk i n .non hi (by rw [List.getElem?_set_self hiσ]) (.inl hl)
    rcases z with ⟨_, z⟩ | ⟨z, _⟩
    · exact ⟨u, z⟩
    · have hk : X.env.kindOf n = some .local := hl
      rw [hk] at z
      rcases z with z | z <;> cases z
  obtain ⟨u0, hu0⟩ := hmn
  unfold unbindBehindTheSuite
  refine wpAny_onRaise ?_
  unfold unbindName
  refine wpAny_bind (wpAny_point (wpAny_bind ?_))
  unfold deleteName
  have hk : X.env.kindOf n = some .local := hl
  have hcls : (X.env.scope.kind == .class || (X.env.scope.kind == .module && X.env.locals != X.env.globals)) = false := by rw [I.ok.kind]; rfl
  simp only [hk, hcls]
  rw [if_neg (by decide)]
  refine wpAny_bind (wpAny_nsDel_keeps hn fun h₂ v hn₂ hs₂ => ?_)
  rw [hu0]
  simp only [if_true, Option.isSome_some, Bool.not_true, Bool.false_eq_true, if_false]
  refine wpAny_pure (wpAny_point (h _ ?_))
  have hs : Heap.SameBut X.env.locals s1.heap h₂ := hs₂
  refine ⟨I1.ok, I1.os, I1.bare, ⟨fun b o e nn hb hx => ?_, fun b o e nn hb hx => ?_, I1.base.free, fun b o e hx => ?_, I1.base.tups, I1.base.frzs, I1.base.tbls⟩, ⟨_, hn₂, fun j y v' e1 e2 e3 => ?_⟩, fun y c e => ?_, I1.free, I1.freeC, fun p hp => ?_, fun b ob e => ?_, ?_⟩
  · exact (hs.2 b (Nat.ne_of_lt (Nat.lt_of_lt_of_le (Heap.lt_size e) I1.ok.above))).trans (I1.base.keep b o e nn hb hx)
  · obtain ⟨sl, e1⟩ := I1.base.slot b o e nn hb hx
    exact ⟨sl, (hs.2 b (Nat.ne_of_lt (Nat.lt_of_lt_of_le (Heap.lt_size e) I1.ok.above))).trans e1⟩
  · obtain ⟨o', e1⟩ := I1.base.there b o e hx
    exact ⟨o', (hs.2 b (Nat.ne_of_lt (Nat.lt_of_lt_of_le (Heap.lt_size e) I1.ok.above))).trans e1⟩
  · by_cases hj : j = i
    · subst hj
      rw [List.getElem?_set_self hiσ] at e2
      cases e2
    · rw [List.getElem?_set_ne (Ne.symm hj)] at e2
      obtain ⟨u', r', q⟩ := hlk j y v' e1 (by rw [List.getElem?_set_ne (Ne.symm hj)]; exact e2) e3
      refine ⟨u', r', ?_⟩
      rcases q with ⟨k, e⟩ | ⟨k, c, e, z⟩
      · refine .inl ⟨k, ?_⟩
        have : y ≠ n := fun e => hj (nodup_ix hN e1 (e ▸ hi))
        simp [this, e]
      · exact .inr ⟨k, c, e, z.sameBut hs (I1.cne y c e)⟩
  · obtain ⟨w', z⟩ := I1.cell y c e
    exact ⟨w', z.sameBut hs (I1.cne y c e)⟩
  · obtain ⟨e, nn, ne, nf, d⟩ := I1.pin p hp
    exact ⟨(hs.2 p.1 ne).trans e, nn, ne, nf, d⟩
  · refine (I1.hok b ob e).stay (fun c w' hc q => (hs.2 c ?_).trans q) (fun _ q => q) fun _ _ q => q
    rintro rfl
    have fr := I1.free
    rcases hc with rfl | hc
    · rw [fr] at e; cases e
    · rw [fr] at hc; cases hc
  · rw [List.length_set]
    exact I.len
/-- the caught exception's object -/
def ExO (ad : Addr) (cls : Value) : HO := .ext fun h => ∃ o vs, h.get? ad = some o ∧ o.cls = cls ∧ o.data = .fields vs
theorem Fly.new {P : Program} {w : World} {l : List Env} {ad : Addr} {cls : Value} (F : Fly P w l H s H' ad cls s') : s.heap.get? ad = none := by
  obtain ⟨B, a0, fl, c0, c2, c1⟩ := F.fl
  cases q : s.heap.get? ad with
  | none => rfl
  | some o =>
    by_cases hb : ad ∈ frs l
    · obtain ⟨_, o1, q1, nf⟩ := fl.2.2.1.mem hb
      obtain ⟨oe, vs, he, _, hd, _⟩ := fl.first
      rw [q1] at he
      cases he
      exact absurd hd (nf _)
    · obtain ⟨o', q'⟩ := c2 ad o q hb
      rw [fl.2.1] at q'
      cases q'
theorem Fly.tracked {P : Program} {w : World} {l : List Env} {ad : Addr} {cls : Value} (F : Fly P w l H s H' ad cls s') : H' ad = none := by
  obtain ⟨B, a0, fl, c0, c2, c1⟩ := F.fl
  cases q : H' ad with
  | none => rfl
  | some u =>
    obtain ⟨o, e⟩ := (F.hok ad u q).get
    have := c1 ad u o q e
    rw [fl.2.1] at this
    cases this
/-- the exception has landed here -/
theorem Fly.inv {ad : Addr} {cls : Value} (F : Fly X.prog X.w X.stack H s H' ad cls s') (I : Inv X pins σ H s) {B h6 : Heap} {a0 : Value} (fl : Heap.FlyingW B X.stack ad cls a0 s'.heap)
    (c0 : ∀ b o, s.heap.get? b = some o → H b = none → b ∉ frs X.stack → B.get? b = some o) (c2 : ∀ b o, s.heap.get? b = some o → b ∉ frs X.stack → ∃ o', B.get? b = some o')
    (c1 : ∀ b u o, H' b = some u → s'.heap.get? b = some o → B.get? b = some o) (st : B.StaysIn h6) (up : s'.heap.UpToSlots h6) : Inv X pins σ H' { s' with heap := h6 } := by
  have fr : ∀ b ∈ frs X.stack, ∀ o, s'.heap.get? b = some o → ∃ sl, h6.get? b = some { o with slots := sl } := fun b hb o q => by
    obtain ⟨_, o1, q1, nf⟩ := fl.2.2.1.mem hb
    rw [q] at q1
    cases q1
    exact up b o q nf
  refine I.call' (s' := { s' with heap := h6 }) (ch := []) F.os ⟨fun b o q n hb _ => st b o (c0 b o q n hb), fun b o q n hb hx => ?_, F.un.free, fun b o q hx => ?_, F.un.tups, F.un.frzs, F.un.tbls⟩ (F.hok.inB c1 st) F.bare (fun b hb => absurd hb (by simp))
  · obtain ⟨sl, q1⟩ := F.un.slot b o q n hb hx
    obtain ⟨sl2, q2⟩ := fr b hb _ q1
    exact ⟨sl2, q2⟩
  · by_cases hb : b ∈ frs X.stack
    · obtain ⟨o2, q2⟩ := F.un.there b o q hx
      obtain ⟨sl2, q3⟩ := fr b hb _ q2
      exact ⟨_, q3⟩
    · obtain ⟨o2, q2⟩ := c2 b o q hb
      exact ⟨o2, st b o2 q2⟩
theorem Inv.adopt {ad : Addr} {φ : Heap → Prop} (I : Inv X pins σ H' s') (I0 : Inv X pins σ H s) (new : s.heap.get? ad = none) (hn : H' ad = none) (ho : ∃ o, s'.heap.get? ad = some o) (p : φ s'.heap)
    (hst : ∀ h1 h2 : Heap, φ h1 → (∀ o, h1.get? ad = some o → h2.get? ad = some o) → φ h2) : Inv X pins σ (upd H' ad (.ext φ)) s' := by
  have ne : ∀ b o, s.heap.get? b = some o → b ≠ ad := fun b o e z => by rw [z, new] at e; cases e
  have tk : ∀ b u, H' b = some u → b ≠ ad := fun b u e z => by rw [z, hn] at e; cases e
  have ne0 : ∀ b o, b ∉ X.ex → X.s₀.heap.get? b = some o → b ≠ ad := fun b o hx e => by
    obtain ⟨o', e'⟩ := I0.base.there b o e hx
    exact ne b o' e'
  refine ⟨I.ok, I.os, I.bare, ⟨I.base.keep, I.base.slot, fun b o e n hx => ?_, I.base.there, fun b xs e => ?_, fun b o u e => ?_, fun b ps e => ?_⟩, I.loc, I.cell, ?_, fun y c e => ?_, fun q hq => ?_, fun b u e => ?_, I.len⟩
  · rw [upd_ne (ne0 b o hx e)]
    exact I.base.free b o e n hx
  · rw [upd_ne (tk _ _ (I.base.tups b xs e))]
    exact I.base.tups b xs e
  · rw [upd_ne (tk _ _ (I.base.frzs b o u e))]
    exact I.base.frzs b o u e
  · obtain ⟨m, e1⟩ := I.base.tbls b ps e
    exact ⟨m, by rw [upd_ne (tk _ _ e1)]; exact e1⟩
  · obtain ⟨m, ⟨o, es, ep, hl, _⟩, _⟩ := I0.loc
    rw [upd_ne (ne _ _ hl)]
    exact I.free
  · obtain ⟨v, o, hc, _⟩ := I0.cell y c e
    rw [upd_ne (ne _ _ hc)]
    exact I.freeC y c e
  · obtain ⟨e, n, r⟩ := I.pin q hq
    refine ⟨e, ?_, r⟩
    rw [upd_ne (ne _ _ (I0.pin q hq).1)]
    exact n
  · by_cases hb : b = ad
    · subst hb
      rw [upd_same] at e
      cases e
      exact ⟨p, ho, hst⟩
    · rw [upd_ne hb] at e
      exact (I.hok b u e).stay (fun _ _ _ q => q) (fun c r => by rw [upd_ne (tk _ _ r)]; exact r) fun c xs r => by rw [upd_ne (tk _ _ r)]; exact r
theorem caught {ad : Addr} {cls : Value} {cx n : Str} {np hpos : Pos} {b₀ : Stmt} {suite : List Stmt} {i : Nat} {ts : TS} {C2 : Addr} {D : Ends} (I : Inv X pins σ H s) (F : Fly X.prog X.w X.stack H s H' ad cls s')
    (hst : X.stack = X.env :: X.outer) (hf : X.env.frame = some X.env.locals) (hg : Gl X cx) (hm : X.mg cx = some (.ref C2)) (hx : exmOne X.K cls (.ref C2) = some true) (hN : X.N.Nodup) (hi : X.N[i]? = some n)
    (hl : X.env.scope.names.lookup n = some .local) (hs : PSs (X.mark ad) (b₀ :: suite) ts)
    (h : ts { nx := fun σ' H2 => D.nx (σ'.set i none) H2, rt := D.rt, bk := fun σ' H2 => D.bk (σ'.set i none) H2, ct := fun σ' H2 => D.ct (σ'.set i none) H2 } (σ.set i (some (.ref ad))) (upd H' ad (ExO ad cls)))
    (hdb : (cx == ("__debug__" : Str)) = false := by decide) :
    wpAny (model X.prog X.w) X.A (noteFrame (.ref ad) X.env) (fun _ s₂ => wpAny (model X.prog X.w) X.A (setFlight (.ref ad) none)
      (fun _ s₃ => wpAny (model X.prog X.w) X.A (handleBy (.ref ad) X.env [.ExceptHandler (some (.Name cx np)) (some n) (b₀ :: suite) hpos]) (SP X pins D) X.xe s₃) X.xe s₂) X.xe s' := by
  obtain ⟨B, a0, fl, c0, c2, c1⟩ := F.fl
  have fl' := fl
  rw [hst] at fl'
  refine wpAny_looks_onW (I.ok.frames.trans (by rw [hst])) hf fl' fun h4 held4 up4 => ?_
  refine wpAny_landsW held4 fun h5 fl5 up5 => ?_
  have U5 : s'.heap.UpToSlots h5 := up4.trans up5
  have I5 : Inv X pins σ H' { s' with heap := h5 } := F.inv I fl c0 c2 c1 fl5.1 U5
  obtain ⟨ob, hob, hobc⟩ := fl5.there
  refine wpAny_handleBy_cons (codeAny_handlers_test (ld_glob (X := X.mark ad) (I5.mark ad) hg hm ?_ hdb)) (by intro q; cases q)
  have LT : Looks (model X.prog X.w) h5 (typeOf (.ref ad)) cls := by
    subst hobc
    exact (Looks.ld hob).andThen .now
  refine (exm_one I5.kIn LT hx).here ?_
  refine codeAny_handlers_suite_as ?_
  refine lands_againW fl5 fun h6 fl6 up6 => ?_
  have I6 : Inv X pins σ H' { s' with heap := h6 } := F.inv I fl c0 c2 c1 fl6.1 (U5.trans up6)
  obtain ⟨oe, vs, he, hec, hed, _⟩ := fl6.first
  have I7 : Inv X pins σ (upd H' ad (ExO ad cls)) { s' with heap := h6 } := I6.adopt I F.new F.tracked ⟨oe, he⟩ ⟨oe, vs, he, hec, hed⟩ fun h1 h2 ⟨o, ws, e1, e2, e3⟩ k => ⟨o, ws, k o e1, e2, e3⟩
  refine store_ok (X := X.mark ad) (I7.mark ad) hN hi (.inl hl) (v := .ref ad) rfl (fun s7 I8 => ?_) (.inr hl)
  refine wpAny_mono (hs pins s7 _ _ _ I8 h) (fun fw s8 hq => ?_) fun _ _ z => z.elim
  cases fw with
  | next =>
    obtain ⟨σ8, H8, I9, q8⟩ := hq
    exact name_goes (I9.unmark I.ok) hN hi hl fun s9 I10 => ⟨_, _, I10, q8⟩
  | brk =>
    obtain ⟨σ8, H8, I9, q8⟩ := hq
    exact name_goes (I9.unmark I.ok) hN hi hl fun s9 I10 => ⟨_, _, I10, q8⟩
  | cont =>
    obtain ⟨σ8, H8, I9, q8⟩ := hq
    exact name_goes (I9.unmark I.ok) hN hi hl fun s9 I10 => ⟨_, _, I10, q8⟩
  | ret u =>
    obtain ⟨v8, σ8, H8, I9, r8, q8⟩ := hq
    exact name_goes (I9.unmark I.ok) hN hi hl fun s9 I10 => ⟨v8, _, _, I10, r8, q8⟩
end

/-! ### one call within try -/
section
variable {X : Cx} {CX : CXT} {k : Nat} {x : Str} {ps : List Str} {sp : Sp} {E : XK} {e : Expr} {es : List Expr} {t : TA} {p pos : Pos}
/-- what is wanted of the exception: its class is caught, and the suite's reading -/
def xTry (K : PySem.W.Frag) (C2 : Addr) (i : Nat) (ts : TS) (D : Ends) (σ : St) : XK := fun cls _ H2 => exmOne K cls (.ref C2) = some true ∧ ∀ ad, H2 ad = none →
  ts { nx := fun σ' H3 => D.nx (σ'.set i none) H3, rt := D.rt, bk := fun σ' H3 => D.bk (σ'.set i none) H3, ct := fun σ' H3 => D.ct (σ'.set i none) H3 } (σ.set i (some (.ref ad))) (upd H2 ad (ExO ad cls))
def tTryE (K : PySem.W.Frag) (sp : Sp) (t : TA) (C2 : Addr) (i : Nat) (ts : TS) : TS := fun D σ H => t σ H fun vs H1 => sp vs H1 (fun _ H2 => D.nx σ H2) (xTry K C2 i ts D σ)
def tTryA (K : PySem.W.Frag) (sp : Sp) (t : TA) (j : Nat) (C2 : Addr) (i : Nat) (ts : TS) : TS := fun D σ H => t σ H fun vs H1 => sp vs H1 (fun v H2 => D.nx (σ.set j (some v)) H2) (xTry K C2 i ts D σ)
variable {cx n : Str} {np hpos epos tpos : Pos} {b₀ : Stmt} {suite : List Stmt} {i : Nat} {ts : TS} {C2 : Addr}
end
end L2
/-! Numbers, further: a share of any bottom. -/
namespace Nm
def st (a b : Int) : Int := if b < 0 then -(a / g a b) else a / g a b
def sb (a b : Int) : Int := if b < 0 then -(b / g a b) else b / g a b
theorem fdiv_p {a d : Int} (h : 0 < d) : a.fdiv d = a / d := Int.fdiv_eq_ediv_of_nonneg a (by omega)
theorem fdiv_n {a d : Int} (h : 0 < d) (dv : d ∣ a) : a.fdiv (-d) = -(a / d) := by
  obtain ⟨k, rfl⟩ := dv
  rw [Int.mul_ediv_cancel_left _ (by omega), show d * k = (-d) * (-k) by rw [Int.neg_mul_neg]]
  exact Int.mul_fdiv_cancel_left _ (by omega)
theorem sb_pos {a b : Int} (h : b ≠ 0) : 0 < sb a b := by
  have g0 := g_pos (a := a) h
  unfold sb
  split
  · rename_i hb
    have h1 : 0 < (-b) / g a b := Int.ediv_pos_of_pos_of_dvd (by omega) (g_nn a b) (Int.dvd_neg.mpr (g_dvd_r a b))
    rw [Int.neg_ediv_of_dvd (g_dvd_r a b)] at h1
    exact h1
  · exact low_pos (by omega)
theorem g_neg_r (a b : Int) : g a (-b) = g a b := by rw [g_comm, g_neg, g_comm]
theorem st_low {a b : Int} (h : b ≠ 0) : g (st a b) (sb a b) = 1 := by
  have e := low_gcd (a := a) h
  unfold st sb
  split
  · rw [g_neg, g_neg_r]; exact e
  · exact e
theorem st_cross (a b : Int) : st a b * b = a * sb a b := by
  have e := low_cross a b
  unfold st sb
  split
  · rw [Int.neg_mul, e, Int.mul_neg]
  · exact e
theorem st_abs {a b : Int} (h : b ≠ 0) : (st a b).natAbs ≤ a.natAbs := by
  have := quot_abs (g_pos (a := a) h) (g_dvd_l a b)
  unfold st
  split <;> omega
theorem sb_abs {a b : Int} (h : b ≠ 0) : (sb a b).natAbs ≤ b.natAbs := by
  have := quot_abs (g_pos (a := a) h) (g_dvd_r a b)
  unfold sb
  split <;> omega
/-- the one share of a fraction -/
theorem st_one {a b p q : Int} (h : b ≠ 0) (hq : 0 < q) (e : g p q = 1) (c : p * b = a * q) : st a b = p ∧ sb a b = q := by
  refine low_one (sb_pos h) hq (st_low h) e ?_
  have c1 := st_cross a b
  have : (st a b * q) * b = (p * sb a b) * b := by
    calc (st a b * q) * b = (st a b * b) * q := by rw [Int.mul_right_comm]
      _ = (a * sb a b) * q := by rw [c1]
      _ = (a * q) * sb a b := by rw [Int.mul_right_comm]
      _ = (p * b) * sb a b := by rw [c]
      _ = (p * sb a b) * b := by rw [Int.mul_right_comm]
  exact Int.eq_of_mul_eq_mul_right h this
/-- two fractions that are one have one share -/
theorem st_eq {a b c d : Int} (h : b ≠ 0) (h' : d ≠ 0) (e : a * d = c * b) : st a b = st c d ∧ sb a b = sb c d := by
  refine st_one h (sb_pos h') (st_low h') ?_
  have c1 := st_cross c d
  have : (st c d * b) * d = (a * sb c d) * d := by
    calc (st c d * b) * d = (st c d * d) * b := by rw [Int.mul_right_comm]
      _ = (c * sb c d) * b := by rw [c1]
      _ = (c * b) * sb c d := by rw [Int.mul_right_comm]
      _ = (a * d) * sb c d := by rw [e]
      _ = (a * sb c d) * d := by rw [Int.mul_right_comm]
  exact Int.eq_of_mul_eq_mul_right h' this
end Nm
/-! a def that may raise. -/
namespace L2
open PySem PySem.Spec PyProof.Rows
section
variable {P : Program} {w : World} {K : PySem.W.Frag} {mg : Str → Option Value} {base : Heap} {CX : CXT}
theorem Fun.okX {x qual : Str} {st : Stmt} {f : Addr} {fd : FuncData} {N ps : List Str} {k : Nat} {sp : Sp} (F : Fun K x qual st f fd) (S : FnScope N ps (defScope st)) (len : ∀ vs H Q E, sp vs H Q E → vs.length = ps.length)
    (hbody : ∀ (cdv : Value) (A : Around) (outer : List Env) (s : Shared) (H : Hp) (vs : List V) (Q : VK) (E : XK), Room k (A.deeper (envOfC qual (defScope st) s.heap.objs.size f cdv)) → sp vs H Q E →
      ∃ t, PSs (cxOf CX P w K mg base N qual (defScope st) f cdv A outer s H E) (defBody st) t ∧ t { nx := fun _ H' => Q .non H', rt := Q } (start N vs) H) : FnOk P w K mg base CX (k + 1) f fd ps sp := by
  obtain ⟨oc, od, kV, doc, pm, an, cdv, ct, osl, rfl, lk, hcd⟩ := F.ex
  exact fn_of lk hcd S len fun A outer s H vs Q E hr hsp => hbody cdv A outer s H vs Q E hr hsp
end
/-! ### argument lists without stars, by one lemma -/
def noStar : Expr → Bool
  | .Starred _ _ => false
  | _ => true
theorem se {e : Expr} {es : List Expr} {env : Env} (h : noStar e = true) : starEach (e :: es) env = (false, eval e env) :: starEach es env := by
  cases e <;> first | rfl | exact absurd h Bool.false_ne_true
theorem na {env : Env} {pos : Pos} : ∀ {es : List Expr}, es.all noStar = true → (backTo pos (starEach es env)).any (·.1) = false
  | [], _ => rfl
  | e :: es, h => by
    rw [List.all_cons, Bool.and_eq_true] at h
    rw [se h.1]
    show (false || (backTo pos (starEach es env)).any (·.1)) = false
    rw [na h.2]
    rfl
end L2
/-! isinstance of a caught exception of an own class. -/
namespace L2
open PySem PySem.Spec PyProof.Rows PySem.W

/-- an own exception class, as isinstance asks it -/
structure ExcCls (K : PySem.W.Frag) (C : Addr) : Prop where
  cls : (clsIn K C).isSome = true
  ga : findIn K (.ref C) "__getattribute__" = some (some (.builtin "BaseException.__getattribute__"))
  gt : findIn K (.ref C) "__getattr__" = some none
  cl : findIn K (.ref C) "__class__" = some (some (.builtin "object.__class__"))
  be : mroIn K C (.type "BaseException") = some true
  ob : mroIn K C (.type "object") = some true

section
variable {prog : Program} {w : World} {A : Around} {E : Value → Shared → Prop} {K : PySem.W.Frag} {h : Heap} {g : Array GenState} {d : Drawn} {t : Nat} {os : OsState} {a C : Addr} {o : Obj}
end
def ExcAt (a C : Addr) (h : Heap) : Prop := ∃ o, h.get? a = some o ∧ o.cls = .ref C
section
variable {X : Cx}
/-- a class as a value -/
def clV : V → Option Value
  | .ref C => some (.ref C)
  | .ty T => some (.type T)
  | _ => none
end
end L2
/-! LIST COMPREHENSIONS (own text, over the layer's contexts). -/
namespace L2
open PySem PySem.Spec PyProof.Rows

/-! ### the closure -/
theorem closure_of {env : Env} : ∀ (names : List (Str × NameKind)) (cs : List (Str × Addr)), (∀ n, (n, NameKind.free) ∈ names → ∃ c, env.cells.lookup n = some c) → (∀ x c, cs.lookup x = some c → env.cells.lookup x = some c) →
    ∃ cl, (forIn names cs fun (x : Str × NameKind) (r : List (Str × Addr)) => (if (x.2 == NameKind.free) = true then do let c ← cellOf env x.1; pure (ForInStep.yield ((x.1, c) :: r)) else pure (ForInStep.yield r) : Sem (ForInStep (List (Str × Addr))))) = pure cl ∧
      (∀ x c, cl.lookup x = some c → env.cells.lookup x = some c) ∧ (∀ n, ((n, NameKind.free) ∈ names ∨ (cs.lookup n).isSome = true) → ∃ c, cl.lookup n = some c) ∧ (∀ x c, (x, c) ∈ cl → (env.cells.lookup x = some c ∧ (x, NameKind.free) ∈ names) ∨ (x, c) ∈ cs)
  | [], cs, _, h => ⟨cs, rfl, h, (fun n hn => by
      rcases hn with hn | hn
      · exact absurd hn (by simp)
      · exact Option.isSome_iff_exists.mp hn), fun x c m => .inr m⟩
  | (n, k) :: r, cs, hf, h => by
    by_cases hk : k = .free
    · subst hk
      obtain ⟨c, hc⟩ := hf n List.mem_cons_self
      obtain ⟨cl, e, h1, h2, h3⟩ := closure_of r ((n, c) :: cs) (fun m hm => hf m (List.mem_cons_of_mem _ hm)) (fun x c' hx => by
        rw [List.lookup_cons] at hx
        cases q : x == n with
        | true =>
          rw [q] at hx
          have e1 : x = n := by simpa using q
          cases hx
          rw [e1]; exact hc
        | false => rw [q] at hx; exact h x c' hx)
      refine ⟨cl, ?_, h1, fun m hm => h2 m ?_, fun x c' m => ?_⟩
      rotate_left 2
      · rcases h3 x c' m with ⟨q1, q2⟩ | m
        · exact .inl ⟨q1, List.mem_cons_of_mem _ q2⟩
        · rcases List.mem_cons.mp m with e | m
          · cases e
            exact .inl ⟨hc, List.mem_cons_self⟩
          · exact .inr m
      · rw [List.forIn_cons]
        have hco : cellOf env n = pure c := by unfold cellOf; rw [hc]
        simp only [beq_self_eq_true, if_true, hco, pure_bind]
        exact e
      · rcases hm with hm | hm
        · rcases List.mem_cons.mp hm with z | z
          · cases z
            right
            rw [List.lookup_cons]
            simp
          · exact .inl z
        · right
          rw [List.lookup_cons]
          cases q : m == n with
          | true => rfl
          | false => exact hm
    · obtain ⟨cl, e, h1, h2, h3⟩ := closure_of r cs (fun m hm => hf m (List.mem_cons_of_mem _ hm)) h
      refine ⟨cl, ?_, h1, fun m hm => h2 m ?_, fun x c' m => (h3 x c' m).imp (fun q => ⟨q.1, List.mem_cons_of_mem _ q.2⟩) id⟩
      · rw [List.forIn_cons]
        have : (k == NameKind.free) = false := by simpa using hk
        simp only [this, Bool.false_eq_true, if_false, pure_bind]
        exact e
      · rcases hm with hm | hm
        · rcases List.mem_cons.mp hm with z | z
          · cases z; exact absurd rfl hk
          · exact .inl z
        · exact .inr hm
theorem closureFor_of {env : Env} {scope : Scope} (hf : ∀ n, (n, NameKind.free) ∈ scope.names → ∃ c, env.cells.lookup n = some c) :
    ∃ cl, closureFor scope env = pure cl ∧ (∀ x c, cl.lookup x = some c → env.cells.lookup x = some c) ∧ (∀ n, (n, NameKind.free) ∈ scope.names → ∃ c, cl.lookup n = some c) ∧ (∀ x c, (x, c) ∈ cl → env.cells.lookup x = some c ∧ (x, NameKind.free) ∈ scope.names) := by
  obtain ⟨cl, e, h1, h2, h3⟩ := closure_of (env := env) scope.names [] hf (fun x c h => by simp at h)
  refine ⟨cl, ?_, h1, fun n hn => h2 n (.inl hn), fun x c m => (h3 x c m).elim id fun z => absurd z (by simp)⟩
  unfold closureFor
  simp only [bind_pure]
  exact e

/-! ### the names -/
/-- the outer names N with their scope; the block's names N' (k own ones first, then those from around at the places fr) with its scope -/
structure CompScope (N : List Str) (so : Scope) (N' : List Str) (scope : Scope) (k : Nat) (fr : List Nat) : Prop where
  kind : scope.kind = .function
  cels : ∀ y ∈ scope.names, y.2 = .cell → scope.names.lookup y.1 = some .cell ∧ (y.1, NameKind.free) ∉ scope.names
  locs : ∀ y ∈ scope.names, y.2 = .local → scope.names.lookup y.1 = some .local
  outer : ∀ y ∈ scope.names, y.2 = .free → (so.names.lookup y.1 = some .cell ∨ so.names.lookup y.1 = some .free)
  len : N'.length = k + fr.length
  at_ : ∀ t, t < fr.length → (fr[t]?).bind (fun j => N[j]?) = N'[k + t]?
  fre : ∀ x ∈ N'.drop k, scope.names.lookup x = some .free
def stC (k : Nat) (fr : List Nat) (σ : St) : St := List.replicate k none ++ fr.map fun j => (σ[j]?).join

/-- the block's context -/
def cxC (X : Cx) (N : List Str) (scope : Scope) (cl : List (Str × Addr)) (C : Addr) (s : Shared) (H : Hp) (ex : List Addr) : Cx where
  prog := X.prog
  w := X.w
  K := X.K
  mg := X.mg
  base := X.base
  A := X.A
  N := N
  s₀ := s
  H₀ := H
  env := compEnvC scope cl C X.env
  outer := X.stack
  stack := X.stack
  ex := ex
  calm := X.calm
  fn := fun x => scope.names.lookup x == some .cell
  pn := []
  xe := fun _ _ => False

theorem lookup_relabel_free {env : Env} : ∀ {names : List (Str × NameKind)} {x : Str}, names.lookup x = some .free →
    (names.map fun (n, k) => if (k == NameKind.free && env.scope.kind == .function && env.kindOf n == some .cell) then (n, NameKind.cell) else (n, k)).lookup x = some .cell ∨
    (names.map fun (n, k) => if (k == NameKind.free && env.scope.kind == .function && env.kindOf n == some .cell) then (n, NameKind.cell) else (n, k)).lookup x = some .free
  | [], _, h => by simp at h
  | (n, k) :: r, x, h => by
    have ih := @lookup_relabel_free env r x
    show List.lookup x ((if (k == NameKind.free && env.scope.kind == .function && env.kindOf n == some .cell) = true then (n, NameKind.cell) else (n, k)) :: _) = _ ∨ List.lookup x ((if (k == NameKind.free && env.scope.kind == .function && env.kindOf n == some .cell) = true then (n, NameKind.cell) else (n, k)) :: _) = _
    cases hx : x == n with
    | true =>
      simp only [List.lookup_cons, hx] at h
      cases h
      by_cases hc : (NameKind.free == NameKind.free && env.scope.kind == .function && env.kindOf n == some .cell) = true
      · rw [if_pos hc]; left; simp [List.lookup_cons, hx]
      · rw [if_neg hc]; right; simp [List.lookup_cons, hx]
    | false =>
      simp only [List.lookup_cons, hx] at h
      by_cases hc : (k == NameKind.free && env.scope.kind == .function && env.kindOf n == some .cell) = true
      · rw [if_pos hc]; simp only [List.lookup_cons, hx]; exact ih h
      · rw [if_neg hc]; simp only [List.lookup_cons, hx]; exact ih h
theorem relabel_back {env : Env} : ∀ {names : List (Str × NameKind)} {x : Str},
    ((names.map fun (n, k) => if (k == NameKind.free && env.scope.kind == .function && env.kindOf n == some .cell) then (n, NameKind.cell) else (n, k)).lookup x = some .cell ∨
    (names.map fun (n, k) => if (k == NameKind.free && env.scope.kind == .function && env.kindOf n == some .cell) then (n, NameKind.cell) else (n, k)).lookup x = some .free) → (x, NameKind.free) ∈ names ∨ (x, NameKind.cell) ∈ names
  | [], _, h => by simp at h
  | (n, k) :: r, x, h => by
    have ih := @relabel_back env r x
    have up : ((x, NameKind.free) ∈ r ∨ (x, NameKind.cell) ∈ r) → ((x, NameKind.free) ∈ (n, k) :: r ∨ (x, NameKind.cell) ∈ (n, k) :: r) := fun z => z.imp (List.mem_cons_of_mem _) (List.mem_cons_of_mem _)
    have h : List.lookup x ((if (k == NameKind.free && env.scope.kind == .function && env.kindOf n == some .cell) = true then (n, NameKind.cell) else (n, k)) :: _) = _ ∨ List.lookup x ((if (k == NameKind.free && env.scope.kind == .function && env.kindOf n == some .cell) = true then (n, NameKind.cell) else (n, k)) :: _) = _ := h
    cases hx : x == n with
    | true =>
      have e1 : x = n := by simpa using hx
      subst e1
      by_cases hc : (k == NameKind.free && env.scope.kind == .function && env.kindOf x == some .cell) = true
      · have : k = .free := by
          simp only [Bool.and_eq_true] at hc
          simpa using hc.1.1
        subst this
        exact .inl List.mem_cons_self
      · rw [if_neg hc] at h
        simp only [List.lookup_cons, hx] at h
        rcases h with h | h
        · cases h; exact .inr List.mem_cons_self
        · cases h; exact .inl List.mem_cons_self
    | false =>
      by_cases hc : (k == NameKind.free && env.scope.kind == .function && env.kindOf n == some .cell) = true
      · rw [if_pos hc] at h; simp only [List.lookup_cons, hx] at h; exact up (ih h)
      · rw [if_neg hc] at h; simp only [List.lookup_cons, hx] at h; exact up (ih h)
/-! ### cells of a block's own names -/
theorem cells_own : ∀ (names : List (Str × NameKind)) (h : Heap) (acc : List (Str × Addr)) (x : Str) (c : Addr), (x, c) ∈ cellsFrom h.objs.size names acc →
    (x, c) ∈ acc ∨ (h.objs.size ≤ c ∧ (pushCells h names).IsCell c none ∧ (x, NameKind.cell) ∈ names)
  | [], h, acc, x, c, m => .inl m
  | (n, k) :: r, h, acc, x, c, m => by
    unfold cellsFrom at m
    unfold pushCells
    by_cases hk : (k == NameKind.cell) = true
    · rw [if_pos hk] at m ⊢
      have ih := cells_own r (h.push { cls := .type "cell", data := .cell none }) ((n, h.objs.size) :: acc) x c
      rw [Heap.size_push] at ih
      rcases ih m with m | ⟨q1, q2, q3⟩
      · rcases List.mem_cons.mp m with e | m
        · cases e
          have hk : k = .cell := by simpa using hk
          subst hk
          refine .inr ⟨Nat.le_refl _, ?_, List.mem_cons_self⟩
          have q : (h.push { cls := .type "cell", data := .cell none }).IsCell h.objs.size none := ⟨_, Heap.get?_push_size _ rfl, rfl⟩
          exact q.keeps fun b o e => pushCells_keeps r _ b o e
        · exact .inl m
      · exact .inr ⟨by omega, q2, List.mem_cons_of_mem _ q3⟩
    · rw [if_neg hk] at m ⊢
      rcases cells_own r h acc x c m with m | ⟨q1, q2, q3⟩
      · exact .inl m
      · exact .inr ⟨q1, q2, List.mem_cons_of_mem _ q3⟩
theorem cells_inj : ∀ (names : List (Str × NameKind)) (n lo : Nat) (acc : List (Str × Addr)), (∀ x c, (x, c) ∈ acc → c < n) → (∀ x y c, lo ≤ c → (x, c) ∈ acc → (y, c) ∈ acc → x = y) →
    ∀ x y c, lo ≤ c → (x, c) ∈ cellsFrom n names acc → (y, c) ∈ cellsFrom n names acc → x = y
  | [], n, lo, acc, h1, h2, x, y, c, hl, m1, m2 => h2 x y c hl m1 m2
  | (z, k) :: r, n, lo, acc, h1, h2, x, y, c, hl, m1, m2 => by
    unfold cellsFrom at m1 m2
    by_cases hk : (k == NameKind.cell) = true
    · rw [if_pos hk] at m1 m2
      refine cells_inj r (n + 1) lo _ (fun x c m => ?_) (fun x y c hl m1 m2 => ?_) x y c hl m1 m2
      · rcases List.mem_cons.mp m with e | m
        · cases e; exact Nat.lt_succ_self _
        · exact Nat.lt_succ_of_lt (h1 x c m)
      · rcases List.mem_cons.mp m1 with e1 | m1 <;> rcases List.mem_cons.mp m2 with e2 | m2
        · cases e1; cases e2; rfl
        · cases e1; exact absurd (h1 _ _ m2) (Nat.lt_irrefl _)
        · cases e2; exact absurd (h1 _ _ m1) (Nat.lt_irrefl _)
        · exact h2 x y c hl m1 m2
    · rw [if_neg hk] at m1 m2
      exact cells_inj r n lo acc h1 h2 x y c hl m1 m2
theorem cells_skip : ∀ (names : List (Str × NameKind)) (n : Nat) (acc : List (Str × Addr)) (x : Str), (x, NameKind.cell) ∉ names → (cellsFrom n names acc).lookup x = acc.lookup x
  | [], n, acc, x, _ => rfl
  | (z, k) :: r, n, acc, x, h => by
    have hr : (x, NameKind.cell) ∉ r := fun m => h (List.mem_cons_of_mem _ m)
    unfold cellsFrom
    by_cases hk : (k == NameKind.cell) = true
    · rw [if_pos hk, cells_skip r _ _ x hr, List.lookup_cons]
      have hk : k = .cell := by simpa using hk
      subst hk
      have : (x == z) = false := by
        cases q : x == z with
        | false => rfl
        | true =>
          have e : x = z := by simpa using q
          subst e
          exact absurd List.mem_cons_self h
      rw [this]
    · rw [if_neg hk]
      exact cells_skip r n acc x hr
theorem cells_has : ∀ (names : List (Str × NameKind)) (n : Nat) (acc : List (Str × Addr)) (x : Str), ((x, NameKind.cell) ∈ names ∨ (acc.lookup x).isSome = true) → ((cellsFrom n names acc).lookup x).isSome = true
  | [], n, acc, x, h => by
    rcases h with h | h
    · simp at h
    · exact h
  | (z, k) :: r, n, acc, x, h => by
    unfold cellsFrom
    by_cases hk : (k == NameKind.cell) = true
    · rw [if_pos hk]
      refine cells_has r _ _ x ?_
      rcases h with h | h
      · rcases List.mem_cons.mp h with e | h
        · cases e
          right
          rw [List.lookup_cons]
          simp
        · exact .inl h
      · right
        rw [List.lookup_cons]
        cases q : x == z with
        | true => rfl
        | false => exact h
    · rw [if_neg hk]
      refine cells_has r _ _ x ?_
      rcases h with h | h
      · rcases List.mem_cons.mp h with e | h
        · cases e; exact absurd rfl hk
        · exact .inl h
      · exact .inr h
section
variable {M : Model} {A : Around} {E : Value → Shared → Prop} {s : Shared}
theorem wpAny_newEnv_comp {scope : Scope} {globals : Addr} {closure : List (Str × Addr)} {qual : Str} {func : Option Addr} {code : Value} {outer : Env} {Q : Env → Shared → Prop}
    (hQ : Q (newEnv scope s.heap.objs.size globals (cellsFrom (s.heap.objs.size + 1) scope.names closure) qual func code (some outer) builtinsNs)
      { s with heap := pushCells (s.heap.push { cls := .type "dict", data := .dict #[] }) scope.names }) :
    wpAny M A (newFunctionEnv scope globals closure [] qual func code (some outer)) Q E s := by
  simp only [newFunctionEnv, Option.isSome_some, if_true]
  refine wpAny_bind (wpAny_alloc ?_)
  refine wpAny_bind (wpAny_layCells _ (fun name kind cells => by cases hkc : kind == NameKind.cell <;> simp [hkc]) _ _ _ _ ?_)
  rw [show ({ s with heap := s.heap.push { cls := .type "dict", data := .dict #[] } } : Shared).heap.objs.size = s.heap.objs.size + 1 from Heap.size_push ..]
  refine wpAny_bind ?_
  rw [List.forIn_nil]
  exact wpAny_pure (wpAny_pure hQ)
end
/-- the cells that a block sees: those from around, and its own, which are new -/
structure BlkC (X : Cx) (scope : Scope) (cl : List (Str × Addr)) (lo : Nat) (C : Addr) (h1 : Heap) : Prop where
  old : ∀ x c, cl.lookup x = some c → X.env.cells.lookup x = some c ∨ (lo ≤ c ∧ C < c ∧ h1.IsCell c none)
  inj : ∀ x y c, C < c → cl.lookup x = some c → cl.lookup y = some c → x = y
  has : ∀ n, (n, NameKind.free) ∈ scope.names ∨ (n, NameKind.cell) ∈ scope.names → ∃ c, cl.lookup n = some c
  fre : ∀ n, scope.names.lookup n = some .free → ∀ c, cl.lookup n = some c → X.env.cells.lookup n = some c
  own : ∀ x c, scope.names.lookup x = some .cell → cl.lookup x = some c → lo ≤ c
section
variable {X : Cx} {pins : List (Addr × Obj)} {σ : St} {H : Hp} {s : Shared} {N' : List Str} {scope : Scope} {k : Nat} {fr : List Nat} {cl : List (Str × Addr)}
theorem compOk {C : Addr} {fp : List Addr} {h1 : Heap} (I : Inv X pins σ H s) (S : CompScope X.N X.env.scope N' scope k fr) (B : BlkC X scope cl s.heap.objs.size C h1)
    (hC : s.heap.objs.size ≤ C) (f2 : ∀ b ∈ fp, FpOk X pins H b) (lt : ∀ b ∈ fp, b < s.heap.objs.size) : (cxC X N' scope cl C s H fp).Ok where
  mod := I.ok.mod
  kind := S.kind
  glob := I.ok.glob
  blt := I.ok.blt
  above := hC
  inj := fun x y c h1 h2 => by
    rcases B.old _ _ h1 with o1 | o1 <;> rcases B.old _ _ h2 with o2 | o2
    · exact I.ok.inj x y c o1 o2
    · exact B.inj x y c o2.2.1 h1 h2
    · exact B.inj x y c o1.2.1 h1 h2
    · exact B.inj x y c o1.2.1 h1 h2
  has := fun x hx => B.has x (relabel_back hx)
  cab := fun x c z e => B.own x c (by
    have z : (scope.names.lookup x == some NameKind.cell) = true := z
    simpa using z) e
  hd := I.ok.hd
  frames := I.ok.frames
  stk := .inl rfl
  exf := fun b hb => ⟨Nat.ne_of_lt (Nat.lt_of_lt_of_le (lt b hb) hC), fun x c e => (B.old _ _ e).elim (fun o => (f2 b hb).2.2.2.2.1 x c o) fun o => Nat.ne_of_gt (Nat.lt_of_lt_of_le (lt b hb) o.1)⟩
  bs := I.bs
  bsz := Nat.le_trans I.ok.bsz I.sz
  noex := fun b o e hb => by
    rcases (f2 b hb).2.2.2.1 with z | z
    · exact I.ok.noex b o e z
    · exact absurd (Nat.lt_of_lt_of_le (Heap.lt_size e) (Nat.le_trans I.ok.bsz z)) (Nat.lt_irrefl _)
  exfs := fun b hb z => by
    rcases List.mem_cons.mp (I.stkSub b z) with q | q
    · exact (f2 b hb).2.1 q
    · exact (f2 b hb).2.2.1 q
  funs := I.stack
  frf := I.stkFree
theorem compInv {C : Addr} {fp : List Addr} {h1 : Heap} {tk : Nat} {m : Str → Option Value} (I : Inv X pins σ H s) (S : CompScope X.N X.env.scope N' scope k fr) (B : BlkC X scope cl s.heap.objs.size C h1)
    (hC : s.heap.objs.size ≤ C) (f2 : ∀ b ∈ fp, FpOk X pins H b) (lt : ∀ b ∈ fp, b < s.heap.objs.size) (old : ∀ b o, s.heap.get? b = some o → h1.get? b = some o) (hn : h1.Ns C m) :
    Inv (cxC X N' scope cl C s H fp) [] (stC k fr σ) H { s with heap := h1, toks := tk } := by
  refine ⟨compOk I S B hC f2 lt, rfl, I.bare, Un.kept old, ⟨m, hn, fun i x v e1 e2 e3 => ?_⟩, fun x c e => ?_, I.hok.fresh hC, fun x c e => (B.old _ _ e).elim (fun o => I.freeC x c o) fun o => I.hok.fresh o.1, fun p hp => absurd (show p ∈ ([] : List (Addr × Obj)) from hp) (by simp), I.hok.kept old, ?_⟩
  · have e1 : N'[i]? = some x := e1
    unfold stC at e2
    by_cases hi : i < k
    · rw [List.getElem?_append_left (by simpa using hi), List.getElem?_replicate, if_pos hi] at e2
      cases e2
    · rw [List.getElem?_append_right (by simpa using hi), List.length_replicate, List.getElem?_map] at e2
      cases q : fr[i - k]? with
      | none => rw [q] at e2; cases e2
      | some j =>
        rw [q] at e2
        have e2 : (σ[j]?).join = some v := Option.some.inj e2
        have ej : σ[j]? = some (some v) := by
          cases z : σ[j]? with
          | none => rw [z] at e2; cases e2
          | some o => rw [z] at e2; exact congrArg some e2
        have hlt : i - k < fr.length := (List.getElem?_eq_some_iff.mp q).1
        have hat := S.at_ (i - k) hlt
        rw [q, show k + (i - k) = i by omega, e1] at hat
        have hat : X.N[j]? = some x := hat
        have hxm : x ∈ N'.drop k := List.mem_iff_getElem?.mpr ⟨i - k, by rw [List.getElem?_drop, show k + (i - k) = i by omega]; exact e1⟩
        have hfr := S.fre x hxm
        have hmem : (x, NameKind.free) ∈ scope.names := PySem.mem_of_lookup hfr
        have hout := S.outer _ hmem rfl
        obtain ⟨m0, hn0, hl0⟩ := I.loc
        obtain ⟨u, r, l⟩ := hl0 j x v hat ej (.inr hout)
        refine ⟨u, r, .inr ⟨lookup_relabel_free hfr, ?_⟩⟩
        rcases l with ⟨kk, _⟩ | ⟨_, c, e, z⟩
        · have kk : X.env.scope.names.lookup x = some .local := kk
          rcases hout with q1 | q1
          · rw [kk] at q1; cases q1
          · rw [kk] at q1; cases q1
        · obtain ⟨c', e'⟩ := B.has x (.inl hmem)
          have ec := B.fre x hfr _ e'
          rw [e] at ec
          cases ec
          obtain ⟨ob, ho, hd⟩ := z
          exact ⟨c, e', ob, old _ _ ho, hd⟩
  · rcases B.old _ _ e with o | o
    · obtain ⟨v, ob, ho, hd⟩ := I.cell x c o
      exact ⟨v, ob, old _ _ ho, hd⟩
    · exact ⟨none, o.2.2⟩
  · unfold stC
    rw [List.length_append, List.length_replicate, List.length_map]
    exact S.len.symm
end

/-! ### one turn, with the step ahead of the store -/
section
variable {prog : Program} {w : World} {A : Around} {E : Value → Shared → Prop} {R : Result → Shared → Prop} {s : Shared}
theorem codeAny_compLoop_any {elt target iter : Expr} {ifs : List Expr} {scope : Scope} {pos : Pos} {it acc : Value} {env : Env} (I : Nat → Shared → Prop)
    (turn : ∀ n s, I n s → wpAny (model prog w) A (pyNext it) (fun r s₁ => match r with
      | none => R (.ok .next) s₁
      | some v => wpAny (model prog w) A (letOwnedTupleGo target it v) (fun _ s₁' => wpAny (model prog w) A (assign target env v) (fun _ s₂ =>
          wpAny (model prog w) A (forIn ifs true fun c r => if r = true then do let ok ← isTrue c env (eval c env); pure (ForInStep.yield ok) else pure (ForInStep.yield r)) (fun ok s₃ =>
            if ok = true then wpAny (model prog w) A (eval elt env) (fun x s₄ =>
              wpAny (model prog w) A (call (.builtin "list.append") [acc, x]) (fun _ s₅ => ∃ m, m < n ∧ I m s₅) (fun _ _ => False) s₄) (notedBy (model prog w) A env fun x s' => R (.error x) s') s₃
            else ∃ m, m < n ∧ I m s₃) (fun _ _ => False) s₂) (fun _ _ => False) s₁') (fun _ _ => False) s₁) (fun _ _ => False) s)
    (n : Nat) (h : I n s) :
    codeAny (model prog w) A (.compLoop (.ListComp elt [⟨target, iter, ifs, 0⟩] scope pos) 0 it acc env) R s := by
  refine codeAny_loop rfl I (fun n s hI => ?_) n h
  show wpAny _ A ((compTurn (.ListComp elt [⟨target, iter, ifs, 0⟩] scope pos) 0 it acc env).onRaise (fun x => do noteFrame x env; theTreesLotGoes x)) _ _ s
  refine wpAny_noted ?_
  rw [compTurn_list]
  refine wpAny_bind (wpAny_standAt (wpAny_bind (wpAny_mono (turn n s hI) (fun r s₁ h₁ => ?_) fun _ _ h' => h'.elim)))
  cases r with
  | none => exact wpAny_pure h₁
  | some v =>
    refine wpAny_bind (wpAny_mono h₁ (fun _ s₁' h₁' => ?_) fun _ _ h' => h'.elim)
    refine wpAny_bind (wpAny_mono h₁' (fun _ s₂ h₂ => wpAny_bind (wpAny_mono h₂ (fun ok s₃ h₃ => ?_) fun _ _ h' => h'.elim)) fun _ _ h' => h'.elim)
    cases ok with
    | false => exact wpAny_pure ⟨rfl, h₃⟩
    | true =>
      exact wpAny_bind (wpAny_bind (wpAny_mono h₃ (fun x s₄ h₄ => wpAny_bind (wpAny_mono h₄ (fun _ s₅ h₅ => wpAny_pure (wpAny_pure ⟨rfl, h₅⟩)) fun _ _ h' => h'.elim)) fun _ _ h' => h'))
end

/-! ### the tests of a clause -/
def PTs (X : Cx) (ifs : List Expr) (t : TT) : Prop :=
  ∀ (pins : List (Addr × Obj)) (s : Shared) (σ : St) (H : Hp) (Q : Bool → Hp → Prop), Inv X pins σ H s → t σ H Q →
    wpAny (model X.prog X.w) X.A (forIn ifs true fun c r => if r = true then do let ok ← isTrue c X.env (eval c X.env); pure (ForInStep.yield ok) else pure (ForInStep.yield r)) (TP X pins σ Q) X.xe s
def tYes : TT := fun _ H Q => Q true H
theorem pts_nil {X : Cx} : PTs X [] tYes := fun _ _ _ H _ I h => wpAny_tests_nil ⟨H, I, h⟩
/-! ### the block -/
section
variable {X : Cx}
/-- W: the invariant by the turn, a measure, the items so far, the block's names, the heap (the new list is not yet in it) -/
def tBlock (J : It) (g : TG) (tc : TT) (te : TE) (σ0 : St) (H1 : Hp) (fin : List V → Hp → Prop) : Prop :=
  ∃ W : Nat → Nat → List V → St → Hp → Prop, (∃ m, W 0 m [] σ0 H1) ∧ ∀ i m ys σ2 H2, W i m ys σ2 H2 →
    (J.stop i H2 ∧ fin ys H2) ∨
    (J.go i H2 ∧ ∀ x H3, J.yld i H2 x H3 → g x σ2 H3 fun σ3 H4 => tc σ3 H4 fun b H5 => if b = true then te σ3 H5 fun y H6 => ys.length < sizeLine ∧ ∃ m', m' < m ∧ W (i + 1) m' (ys ++ [y]) σ3 H6 else ∃ m', m' < m ∧ W (i + 1) m' ys σ3 H5)
def lstObj (its : List Value) (n : Nat) : Obj := { cls := .type "list", data := .seq its.toArray n }
theorem block_in {elt target iter : Expr} {ifs : List Expr} {scope : Scope} {pos : Pos} {g : TG} {tc : TT} {te : TE} {k : Nat} {fr : List Nat} {N' : List Str} {cl : List (Str × Addr)} {pins : List (Addr × Obj)} {σ : St} {H2 : Hp} {s2 : Shared}
    {it : Addr} {fp : List Addr} {tn : Nat → Heap → Prop} {J : It} {fin : List V → Hp → Prop} {R0 : Result → Shared → Prop} {XE : List (Str × Addr) → Addr → Shared → Hp → List Addr → Value → Shared → Prop}
    (hc : X.calm = true) (S : CompScope X.N X.env.scope N' scope k fr) (c1 : ∀ x c, cl.lookup x = some c → X.env.cells.lookup x = some c) (c2 : ∀ n, (n, NameKind.free) ∈ scope.names → ∃ c, cl.lookup n = some c) (cin : ∀ x c, (x, c) ∈ cl → ∃ y, X.env.cells.lookup y = some c) (cno : ∀ x, (x, NameKind.cell) ∈ scope.names → ∀ c, (x, c) ∉ cl)
    (hg : ∀ cl C s H ex, PG (cxC X N' scope cl C s H ex) target g) (ht : ∀ cl C s H ex, PTs (cxC X N' scope cl C s H ex) ifs tc) (he : ∀ cl C s H ex, PE ((cxC X N' scope cl C s H ex).wish (XE cl C s H ex)) elt te)
    (I2 : Inv X pins σ H2 s2) (T : Turn X.prog X.w X.K target J fp it tn) (st2 : tn 0 s2.heap) (f2 : ∀ b ∈ fp, FpOk X pins H2 b) (hb : tBlock J g tc te (stC k fr σ) H2 fin)
    (hR : ∀ (C : Addr), C = (s2.heap.push { cls := .type "list", dict := none, data := .seq ([] : List Value).toArray }).objs.size → ∀ (s' : Shared) (m : Str → Option Value) (ys : List V) (its : List Value) (n : Nat) (H' : Hp), s2.heap.objs.size < C → s'.heap.Ns C m → Vals ys its → ys.length ≤ sizeLine → s'.heap.get? s2.heap.objs.size = some (lstObj its n) → H' s2.heap.objs.size = none → H' C = none → fin ys H' →
      s'.os = s2.os → AllBare s'.gens → Un (frs X.stack) fp H2 H' s2.heap s'.heap → HOk X.prog X.w H' s'.heap → R0 (.ok .next) s')
    (hE : ∀ cl C x s', C = (s2.heap.push { cls := .type "list", dict := none, data := .seq ([] : List Value).toArray }).objs.size → s2.heap.objs.size < C → XE cl C s2 H2 fp x s' → notedBy (model X.prog X.w) X.A (compEnvC scope cl C X.env) (fun y s'' => R0 (.error y) s'') x s') :
    codeAny (model X.prog X.w) X.A (.compStart (.ListComp elt [⟨target, iter, ifs, 0⟩] scope pos) 0 (.ref it) (.ref s2.heap.objs.size) (compEnvC scope (cellsFrom ((s2.heap.push { cls := .type "list", dict := none, data := .seq ([] : List Value).toArray }).objs.size + 1) scope.names cl) (s2.heap.push { cls := .type "list", dict := none, data := .seq ([] : List Value).toArray }).objs.size X.env)) R0 { s2 with heap := pushCells ((s2.heap.push { cls := .type "list", dict := none, data := .seq ([] : List Value).toArray }).push { cls := .type "dict", data := .dict #[] }) scope.names } := by
  obtain ⟨W, ⟨m0, w0⟩, turn⟩ := hb
  have lt : ∀ b ∈ fp, b < s2.heap.objs.size := fun b hb => by
    obtain ⟨o, e, _⟩ := T.obj _ _ st2 b hb
    exact Heap.lt_size e
  generalize hH2 : s2.heap.push { cls := .type "list", dict := none, data := .seq ([] : List Value).toArray } = G2 at hR hE ⊢
  have hCs : G2.objs.size = s2.heap.objs.size + 1 := by rw [← hH2, Heap.size_push]
  have hDC : s2.heap.objs.size ≠ G2.objs.size := by rw [hCs]; exact Nat.ne_of_lt (Nat.lt_succ_self _)
  have hC : s2.heap.objs.size ≤ G2.objs.size := by rw [hCs]; exact Nat.le_succ _
  have old : ∀ b o, s2.heap.get? b = some o → (pushCells (G2.push { cls := .type "dict", data := .dict #[] }) scope.names).get? b = some o := fun b o e => by
    refine pushCells_keeps _ _ b o (Heap.get?_push_of_some _ ?_)
    rw [← hH2]
    exact Heap.get?_push_of_some _ e
  have hacc : (pushCells (G2.push { cls := .type "dict", data := .dict #[] }) scope.names).get? s2.heap.objs.size = some (lstObj [] 0) := by
    refine pushCells_keeps _ _ _ _ (Heap.get?_push_of_some _ ?_)
    rw [← hH2]
    exact Heap.get?_push_size _ rfl
  have hns₁ : (pushCells (G2.push { cls := .type "dict", data := .dict #[] }) scope.names).Ns G2.objs.size fun _ => none := (Heap.Ns.new G2 (.type "dict")).keeps (pushCells_keeps _ _)
  have cl0 : ∀ x c, (x, c) ∈ cl → c < G2.objs.size + 1 := fun x c m => by
    obtain ⟨y, hy⟩ := cin x c m
    obtain ⟨v, q⟩ := I2.cell y c hy
    rw [hCs]
    exact Nat.lt_succ_of_lt (Nat.lt_succ_of_lt q.lt)
  have B : BlkC X scope (cellsFrom (G2.objs.size + 1) scope.names cl) s2.heap.objs.size G2.objs.size (pushCells (G2.push { cls := .type "dict", data := .dict #[] }) scope.names) := by
    have own := cells_own scope.names (G2.push { cls := .type "dict", data := .dict #[] }) cl
    rw [Heap.size_push] at own
    refine ⟨fun x c e => ?_, fun x y c hc h1 h2 => ?_, fun n hn => ?_, fun n hn c e => ?_, fun x c hx e => ?_⟩
    · by_cases hx : (x, NameKind.cell) ∈ scope.names
      · rcases own x c (PySem.mem_of_lookup e) with m | ⟨q1, q2, _⟩
        · -- an outer name's cell cannot stand under a name of the block's own
          exfalso
          exact cno x hx c m
        · exact .inr ⟨Nat.le_trans hC (Nat.le_of_succ_le q1), q1, q2⟩
      · rw [cells_skip _ _ _ _ hx] at e
        exact .inl (c1 x c e)
    · exact cells_inj scope.names (G2.objs.size + 1) (G2.objs.size + 1) cl cl0 (fun x y c hl m1 _ => absurd (cl0 x c m1) (Nat.not_lt.mpr hl)) x y c hc (PySem.mem_of_lookup h1) (PySem.mem_of_lookup h2)
    · refine Option.isSome_iff_exists.mp (cells_has _ _ _ n ?_)
      rcases hn with hn | hn
      · obtain ⟨c, e⟩ := c2 n hn
        exact .inr (by rw [e]; rfl)
      · exact .inl hn
    · have hx : (n, NameKind.cell) ∉ scope.names := fun m => by
        have := (S.cels _ m rfl).1
        rw [hn] at this
        cases this
      rw [cells_skip _ _ _ _ hx] at e
      exact c1 n c e
    · have hx := PySem.mem_of_lookup hx
      rcases own x c (PySem.mem_of_lookup e) with m | ⟨q1, q2, _⟩
      · exact absurd m (cno x hx c)
      · exact Nat.le_trans hC (Nat.le_of_succ_le q1)
  generalize pushCells (G2.push { cls := .type "dict", data := .dict #[] }) scope.names = h₁ at *
  generalize cellsFrom (G2.objs.size + 1) scope.names cl = cl2 at *
  generalize hDd : s2.heap.objs.size = D at *
  generalize hCc : G2.objs.size = C at *
  have fD : H2 D = none := by rw [← hDd]; exact I2.hok.fresh (Nat.le_refl _)
  have cells : ∀ x c, cl2.lookup x = some c → c ≠ D := fun x c e => by
    rcases B.old _ _ e with o | o
    · obtain ⟨v, q⟩ := I2.cell x c o
      rw [← hDd]
      exact Nat.ne_of_lt q.lt
    · exact Nat.ne_of_gt (Nat.lt_trans (by rw [hCs]; exact Nat.lt_succ_self _) o.2.1)
  -- the loop's invariant
  have loop : ∀ (itv : Addr) (s3 : Shared), itv = it → (∃ tk, s3 = { s2 with heap := h₁, toks := tk }) →
      codeAny (model X.prog X.w) X.A (.compLoop (.ListComp elt [⟨target, iter, ifs, 0⟩] scope pos) 0 (.ref itv) (.ref D) (compEnvC scope cl2 C X.env)) R0 s3 := by
    rintro itv s3 rfl ⟨tk, rfl⟩
    have I3 : Inv (cxC X N' scope cl2 C s2 H2 fp) [] (stC k fr σ) H2 { s2 with heap := h₁, toks := tk } := compInv I2 S (by rw [hDd]; exact B) (by rw [hDd]; exact hC) f2 (by rw [hDd]; exact lt) old hns₁
    have stat : ∀ {H' : Hp} {o : Obj}, (∀ b ∈ fp, H' b = none) → ∀ b ∈ fp, FpOk (cxC X N' scope cl2 C s2 H2 fp) [(D, o)] H' b := fun {H' o} hn b hb =>
      ⟨hn b hb, Nat.ne_of_lt (Nat.lt_of_lt_of_le (lt b hb) hC), fun z => by
        rcases List.mem_cons.mp (I2.stkSub b z) with q | q
        · exact (f2 b hb).2.1 q
        · exact (f2 b hb).2.2.1 q, .inl hb, fun x c e => (B.old _ _ e).elim (fun o => (f2 b hb).2.2.2.2.1 x c o) (fun o => Nat.ne_of_gt (Nat.lt_of_lt_of_le (lt b hb) o.1)), fun p hp => by
        have e : p = (D, o) := by simpa [cxC] using hp
        rw [e]
        exact Nat.ne_of_gt (lt b hb)⟩
    have addD : ∀ {σ' : St} {H' : Hp} {s' : Shared} {o : Obj}, Inv (cxC X N' scope cl2 C s2 H2 fp) [] σ' H' s' → s'.heap.get? D = some o → H' D = none → (∀ v, o.data ≠ .cell v) → Inv (cxC X N' scope cl2 C s2 H2 fp) [(D, o)] σ' H' s' := fun {σ' H' s' o} I' e n hd =>
      I'.pins_of fun p hp => by
        have q : p = (D, o) := by simpa using hp
        subst q
        refine ⟨e, n, hDC, fun z => ?_, hd⟩
        obtain ⟨_, ob, ho, _⟩ := I2.stack.mem z
        exact absurd (Heap.lt_size ho) (by rw [hDd]; exact Nat.lt_irrefl _)
    have ndL : ∀ {its : List Value} {n : Nat} (v : Option Value), (lstObj its n).data ≠ .cell v := fun v z => by
      have z : Data.seq _ _ = Data.cell v := z
      cases z
    refine codeAny_compLoop_any (fun n s' => ∃ i ys σ' H' its cap, Inv (cxC X N' scope cl2 C s2 H2 fp) [] σ' H' s' ∧ tn i s'.heap ∧ (∀ b ∈ fp, H' b = none) ∧ s'.heap.get? D = some (lstObj its cap) ∧ H' D = none ∧ Vals ys its ∧ ys.length ≤ sizeLine ∧ W i n ys σ' H') ?_ m0
      ⟨0, [], _, H2, [], 0, I3, T.keep _ _ _ st2 (fun b _ o e => old b o e), fun b hb => (f2 b hb).1, hacc, fD, .nil, Nat.zero_le _, w0⟩
    rintro n s4 ⟨i, ys, σ4, H4, its, cap, I4, st4, fr4, hD4, nD4, vl4, sz4, w4⟩
    have I4' := addD I4 hD4 nD4 ndL
    rcases turn i n ys σ4 H4 w4 with ⟨stop, qf⟩ | ⟨go, step⟩
    · refine thn (T.done (cxC X N' scope cl2 C s2 H2 fp) rfl rfl rfl hc i _ s4 σ4 H4 _ I4' (stat fr4) st4 stop) fun r s5 ⟨hr, I5⟩ => ?_
      subst hr
      obtain ⟨m5, hn5, _⟩ := I5.loc
      exact hR C rfl s5 m5 ys its cap H4 (by rw [hCs]; exact Nat.lt_succ_self _) hn5 vl4 sz4 (I5.pin (D, lstObj its cap) (List.mem_append_right _ List.mem_cons_self)).1 nD4 I5.free qf I5.os I5.bare I5.base I5.hok
    · refine thn (T.item (cxC X N' scope cl2 C s2 H2 fp) rfl rfl rfl hc i _ s4 σ4 H4 _ I4' (stat fr4) st4 go) fun r s5 ⟨u, hr, h5⟩ => ?_
      subst hr
      refine thn h5 fun _ s6 ⟨x, H6, I6, r6, y6, st6, fr6⟩ => ?_
      have I6' := I6.pinned (stat fr6) (T.obj _ _ st6)
      refine thn (hg cl2 C s2 H2 fp _ s6 σ4 H6 x u _ I6' r6 (step x H6 y6)) fun _ s7 ⟨σ7, H7, I7, q7⟩ => ?_
      refine thn (ht cl2 C s2 H2 fp _ s7 σ7 H7 _ I7 q7) fun ok s8 ⟨H8, I8, q8⟩ => ?_
      -- what a pinned state tells of the iterator and of the list
      have back : ∀ {σ' : St} {H' : Hp} {s' : Shared}, Inv (cxC X N' scope cl2 C s2 H2 fp) ([(D, lstObj its cap)] ++ pinsAt fp s6.heap) σ' H' s' → tn (i + 1) s'.heap ∧ (∀ b ∈ fp, H' b = none) ∧ s'.heap.get? D = some (lstObj its cap) ∧ H' D = none := fun {σ' H' s'} I' => by
        have pD := I'.pin (D, lstObj its cap) (List.mem_append_right _ (List.mem_append_left _ (by simp)))
        refine ⟨T.keep _ _ _ st6 fun b hb o e => (I'.pin (b, o) (List.mem_append_right _ (List.mem_append_right _ (mem_pinsAt hb e)))).1, fun b hb => ?_, pD.1, pD.2.1⟩
        obtain ⟨o, e, d⟩ := T.obj _ _ st6 b hb
        exact (I'.pin (b, o) (List.mem_append_right _ (List.mem_append_right _ (mem_pinsAt hb e)))).2.1
      cases ok with
      | false =>
        rw [if_neg Bool.false_ne_true]
        rw [if_neg Bool.false_ne_true] at q8
        obtain ⟨m', hm, w8⟩ := q8
        obtain ⟨b1, b2, b3, b4⟩ := back I8
        exact ⟨m', hm, i + 1, ys, σ7, H8, its, cap, I8.pins_of (fun p hp => absurd hp (by simp)), b1, b2, b3, b4, vl4, sz4, w8⟩
      | true =>
        rw [if_pos rfl]
        rw [if_pos rfl] at q8
        refine wpAny_mono (he cl2 C s2 H2 fp _ s8 σ7 H8 _ (I8.wish _) q8) (fun y s9 ⟨z, H9, I9, r9, hlt, m', hm, w9⟩ => ?_) fun x s' hx => hE cl2 C x s' rfl (by rw [hCs]; exact Nat.lt_succ_self _) hx
        have I9 := I9.unwish
        obtain ⟨b1, b2, b3, b4⟩ := back I9
        have hl := vl4.length
        refine call_meets F.slot_list_append ⟨_, b3, rfl⟩ F.entry_list_append (F.args_list_append_2 _ _) (PySem.list_append D its.toArray cap y (by rw [List.size_toArray]; omega)) ⟨b3, ?_⟩
        obtain ⟨c', q⟩ : ∃ c', (s9.heap.update D (Obj.mapSeq fun x => x.push y)).get? D = some (lstObj (its ++ [y]) c') := by
          have q := PySem.IsL.update b3 (fun x => x.push y)
          rw [show its.toArray.push y = (its ++ [y]).toArray by simp] at q
          exact ⟨_, q⟩
        have I9' : Inv (cxC X N' scope cl2 C s2 H2 fp) [] σ7 H9 s9 := I9.pins_of (fun p hp => absurd hp (by simp))
        have kp : ∀ b o, b ≠ D → s9.heap.get? b = some o → (s9.heap.update D (Obj.mapSeq fun x => x.push y)).get? b = some o := fun b o hb e => (Heap.get?_update_other s9.heap (Obj.mapSeq fun x => x.push y) (Ne.symm hb)).trans e
        have I10 := I9'.turned (t' := s9.toks) (it := D) (h' := s9.heap.update D (Obj.mapSeq fun x => x.push y)) kp b4 hDC (.inr (by show s2.heap.objs.size ≤ D; rw [hDd]; exact Nat.le_refl _)) (fun x c e => cells x c e) (fun p hp => absurd hp (by simp [cxC]))
        refine ⟨m', hm, i + 1, ys ++ [z], σ7, H9, its ++ [y], c', I10, T.keep _ _ _ b1 (fun b hb o e => kp b o (Nat.ne_of_lt (lt b hb)) e), b2, q, b4, vl4.append (.cons r9 .nil), ?_, w9⟩
        · rw [List.length_append, List.length_singleton]
          omega
  exact codeAny_compStart_list (loop it _ rfl ⟨_, rfl⟩) (T.self _ 0 _ _ _ (T.keep _ _ _ st2 (fun b _ o e => old b o e)) (loop it _ rfl ⟨_, rfl⟩))

theorem block_run {elt target iter : Expr} {ifs : List Expr} {scope : Scope} {pos : Pos} {g : TG} {tc : TT} {te : TE} {k : Nat} {fr : List Nat} {N' : List Str} {cl : List (Str × Addr)} {pins : List (Addr × Obj)} {σ : St} {H2 : Hp} {s2 : Shared}
    {it : Addr} {fp : List Addr} {tn : Nat → Heap → Prop} {J : It} {E : Value → Shared → Prop} {fin : List V → Hp → Prop} {RR : Value → Addr → Result → Shared → Prop} {XE : List (Str × Addr) → Addr → Shared → Hp → List Addr → Value → Shared → Prop}
    (hc : X.calm = true) (S : CompScope X.N X.env.scope N' scope k fr) (c1 : ∀ x c, cl.lookup x = some c → X.env.cells.lookup x = some c) (c2 : ∀ n, (n, NameKind.free) ∈ scope.names → ∃ c, cl.lookup n = some c) (cin : ∀ x c, (x, c) ∈ cl → ∃ y, X.env.cells.lookup y = some c) (cno : ∀ x, (x, NameKind.cell) ∈ scope.names → ∀ c, (x, c) ∉ cl)
    (hg : ∀ cl C s H ex, PG (cxC X N' scope cl C s H ex) target g) (ht : ∀ cl C s H ex, PTs (cxC X N' scope cl C s H ex) ifs tc) (he : ∀ cl C s H ex, PE ((cxC X N' scope cl C s H ex).wish (XE cl C s H ex)) elt te)
    (I2 : Inv X pins σ H2 s2) (T : Turn X.prog X.w X.K target J fp it tn) (st2 : tn 0 s2.heap) (f2 : ∀ b ∈ fp, FpOk X pins H2 b) (hb : tBlock J g tc te (stC k fr σ) H2 fin)
    (hR : ∀ (C : Addr) (s' : Shared) (m : Str → Option Value) (ys : List V) (its : List Value) (n : Nat) (H' : Hp), s2.heap.objs.size < C → s'.heap.Ns C m → Vals ys its → ys.length ≤ sizeLine → s'.heap.get? s2.heap.objs.size = some (lstObj its n) → H' s2.heap.objs.size = none → H' C = none → fin ys H' →
      s'.os = s2.os → AllBare s'.gens → Un (frs X.stack) fp H2 H' s2.heap s'.heap → HOk X.prog X.w H' s'.heap → RR (.ref s2.heap.objs.size) C (.ok .next) s')
    (hE : ∀ cl C x s', s2.heap.objs.size < C → XE cl C s2 H2 fp x s' → notedBy (model X.prog X.w) X.A (compEnvC scope cl C X.env) (fun y s'' => RR (.ref s2.heap.objs.size) C (.error y) s'') x s') :
    wpAny (model X.prog X.w) X.A (newList []) (fun acc s₃ => wpAny (model X.prog X.w) X.A (newFunctionEnv scope X.env.globals cl [] X.env.qual none .none (some X.env)) (fun cenv s₄ =>
      codeAny (model X.prog X.w) X.A (.compStart (.ListComp elt [⟨target, iter, ifs, 0⟩] scope pos) 0 (.ref it) acc { cenv with scope := relabel scope X.env }) (RR acc cenv.locals) s₄) E s₃) E s2 := by
  refine wpAny_newObj_type (wpAny_newEnv_comp ?_)
  exact block_in (R0 := RR _ _) hc S c1 c2 cin cno hg ht he I2 T st2 f2 hb (fun C e => by subst e; exact hR _) (fun cl C x s' e => by subst e; exact hE cl _ x s')

/-- behind the block: the list is tracked -/
theorem comp_back {fp : List Addr} {pins : List (Addr × Obj)} {σ : St} {H2 H' : Hp} {s2 s' : Shared} {C : Addr} {ys : List V} {its : List Value} {n : Nat} {h' : Heap} (I2 : Inv X pins σ H2 s2) (f2 : ∀ b ∈ fp, FpOk X pins H2 b) (hC : s2.heap.objs.size < C)
    (vl : Vals ys its) (sz : ys.length ≤ sizeLine) (hD : s'.heap.get? s2.heap.objs.size = some (lstObj its n)) (nD : H' s2.heap.objs.size = none) (nC : H' C = none)
    (os : s'.os = s2.os) (bare : AllBare s'.gens) (un : Un (frs X.stack) fp H2 H' s2.heap s'.heap) (hok : HOk X.prog X.w H' s'.heap) (hs : Heap.SameBut C s'.heap h') :
    Inv X pins σ (upd H' s2.heap.objs.size (.lst ys)) { s' with heap := h' } := by
  have ltC : ∀ b o, s2.heap.get? b = some o → b ≠ C := fun b o e => Nat.ne_of_lt (Nat.lt_trans (Heap.lt_size e) hC)
  have ltD : ∀ b o, s2.heap.get? b = some o → b ≠ s2.heap.objs.size := fun b o e => Nat.ne_of_lt (Heap.lt_size e)
  have tk : ∀ b u, H' b = some u → b ≠ s2.heap.objs.size := fun b u e z => by rw [z, nD] at e; cases e
  have tC : ∀ b u, H' b = some u → b ≠ C := fun b u e z => by rw [z, nC] at e; cases e
  have fD : H2 s2.heap.objs.size = none := I2.hok.fresh (Nat.le_refl _)
  have t2 : ∀ b u, H2 b = some u → b ≠ s2.heap.objs.size := fun b u e z => by rw [z, fD] at e; cases e
  refine I2.call' (s' := { s' with heap := h' }) (ch := fp) os ⟨fun b o e m hb hx => ?_, fun b o e m hb hx => ?_, fun b o e m hx => ?_, fun b o e hx => ?_, fun b xs e => ?_, fun b o u e => ?_, fun b ps e => ?_⟩ (fun b u e => ?_) bare fun b hb => ?_
  · exact (hs.2 b (ltC b o e)).trans (un.keep b o e m hb hx)
  · obtain ⟨sl, q⟩ := un.slot b o e m hb hx
    exact ⟨sl, (hs.2 b (ltC b o e)).trans q⟩
  · rw [upd_ne (ltD b o e)]
    exact un.free b o e m hx
  · obtain ⟨o', q⟩ := un.there b o e hx
    exact ⟨o', (hs.2 b (ltC b o e)).trans q⟩
  · rw [upd_ne (t2 b _ e)]
    exact un.tups b xs e
  · rw [upd_ne (t2 b _ e)]
    exact un.frzs b o u e
  · obtain ⟨mo, q⟩ := un.tbls b ps e
    exact ⟨mo, by rw [upd_ne (t2 b _ e)]; exact q⟩
  · by_cases hb : b = s2.heap.objs.size
    · subst hb
      rw [upd_same] at e
      cases e
      exact ⟨sz, its, n, vl, (hs.2 _ (Nat.ne_of_lt hC)).trans hD⟩
    · rw [upd_ne hb] at e
      exact (hok b u e).stay (fun c v hc q => (hs.2 c (by
        rcases hc with rfl | hc
        · exact tC _ _ e
        · exact tC _ _ hc)).trans q) (fun c r => by rw [upd_ne (tk _ _ r)]; exact r) fun c xs r => by rw [upd_ne (tk _ _ r)]; exact r
  · exact ⟨(f2 b hb).2.2.2.1, (f2 b hb).2.1, (f2 b hb).2.2.2.2.1, (f2 b hb).2.2.2.2.2⟩

def tComp (wi : TI) (g : TG) (tc : TT) (te : TE) (k : Nat) (fr : List Nat) : TE := fun σ H Q => wi σ H fun J H1 => tBlock J g tc te (stC k fr σ) H1 fun ys H2 => ∀ D, H1 D = none → H2 D = none → Q (.ref D) (upd H2 D (.lst ys))
theorem pe_comp {elt target iter : Expr} {ifs : List Expr} {scope so : Scope} {pos : Pos} {wi : TI} {g : TG} {tc : TT} {te : TE} {k : Nat} {fr : List Nat} {N N' : List Str} (hc : X.calm = true) (hN : X.N = N) (hso : X.env.scope = so) (S : CompScope N so N' scope k fr)
    (hi : PI X target iter wi) (hg : ∀ cl C s H ex, PG (cxC X N' scope cl C s H ex) target g) (ht : ∀ cl C s H ex, PTs (cxC X N' scope cl C s H ex) ifs tc) (he : ∀ cl C s H ex, PE (cxC X N' scope cl C s H ex) elt te)
    (hs : ∀ x, foldedSetIterable iter X.env x = pure x := by intro _; rfl) : PE X (.ListComp elt [⟨target, iter, ifs, 0⟩] scope pos) (tComp wi g tc te k fr) := by
  subst hN hso
  intro pins s σ H Q I h
  rw [eval_ListComp]
  obtain ⟨cl, hcl, c1, c2, c3⟩ := closureFor_of (env := X.env) (scope := scope) fun n hn => I.ok.has n (S.outer _ hn rfl)
  refine wpAny_comprehension_free (use := none) (cl := cl) rfl hs hcl S.kind S.locs ?_
  refine thn (hi pins s σ H _ I h) fun v s1 h1 => thn h1 fun itv s2 h2 => ?_
  obtain ⟨it, fp, tn, J, H2, rfl, I2, T, st2, f2, hb⟩ := h2
  refine block_run (RR := fun acc C => compPost (model X.prog X.w) X.A X.xe none (EP X pins σ Q) acc C) hc S c1 c2 (fun x c m => ⟨x, (c3 x c m).1⟩) (fun x hx c m => (S.cels _ hx rfl).2 (c3 x c m).2) (XE := fun _ _ _ _ _ _ _ => False) hg ht he I2 T st2 f2 hb ?_ (fun _ _ _ _ _ z => False.elim z)
  intro C s' m ys its n H' hC hn vl sz hD nD nC fin os bare un hok
  exact ⟨m, hn, fun h' hs' => ⟨.ref _, _, comp_back I2 f2 hC vl sz hD nD nC os bare un hok hs', rfl, fin _ (I2.hok.fresh (Nat.le_refl _)) nD⟩⟩
/-- name = [ .. ]: the store comes ahead of the names' going -/
theorem ps_setC {elt target iter : Expr} {ifs : List Expr} {scope so : Scope} {pos spos py : Pos} {wi : TI} {g : TG} {tc : TT} {te : TE} {k : Nat} {fr : List Nat} {N N' : List Str} {y : Str} {i : Nat} (hc : X.calm = true) (hN : X.N.Nodup) (hy : X.N[i]? = some y) (hl : X.env.scope.names.lookup y = some .local)
    (hNN : X.N = N) (hso : X.env.scope = so) (S : CompScope N so N' scope k fr)
    (hi : PI X target iter wi) (hg : ∀ cl C s H ex, PG (cxC X N' scope cl C s H ex) target g) (ht : ∀ cl C s H ex, PTs (cxC X N' scope cl C s H ex) ifs tc) (he : ∀ cl C s H ex, PE (cxC X N' scope cl C s H ex) elt te)
    (hsw : swapsWith (.ListComp elt [⟨target, iter, ifs, 0⟩] scope pos) (some (.Name y py)) spos.line X.env = pure true := by rfl)
    (hs : ∀ x, foldedSetIterable iter X.env x = pure x := by intro _; rfl) : PS X (.Assign [.Name y py] (.ListComp elt [⟨target, iter, ifs, 0⟩] scope pos) spos) (tAsg (tComp wi g tc te k fr) (gName i)) := by
  subst hNN hso
  intro pins s σ H D I h
  rw [exec_Assign_Name_used _ _ _ _ hsw]
  obtain ⟨cl, hcl, c1, c2, c3⟩ := closureFor_of (env := X.env) (scope := scope) fun n hn => I.ok.has n (S.outer _ hn rfl)
  refine wpAny_bind (wpAny_standAt (wpAny_bind ?_))
  show wpAny _ X.A (do let _ ← comprehension (.ListComp elt [⟨target, iter, ifs, 0⟩] scope pos) scope X.env _ (newList []) false (eval iter X.env) (some (assign (.Name y py) X.env))) _ _ s
  refine wpAny_bind (wpAny_mono (wpAny_comprehension_free (use := some (assign (.Name y py) X.env)) (Q := fun _ s' => SP X pins D .next s') (cl := cl) rfl hs hcl S.kind S.locs ?_) (fun _ s' hq => wpAny_pure (wpAny_pure hq)) fun _ _ e => e)
  refine thn (hi pins s σ H _ I h) fun v s1 h1 => thn h1 fun itv s2 h2 => ?_
  obtain ⟨it, fp, tn, J, H2, rfl, I2, T, st2, f2, hb⟩ := h2
  refine block_run (RR := fun acc C => compPost (model X.prog X.w) X.A X.xe (some (assign (.Name y py) X.env)) (fun _ s' => SP X pins D .next s') acc C) hc S c1 c2 (fun x c m => ⟨x, (c3 x c m).1⟩) (fun x hx c m => (S.cels _ hx rfl).2 (c3 x c m).2) (XE := fun _ _ _ _ _ _ _ => False) hg ht he I2 T st2 f2 hb ?_ (fun _ _ _ _ _ z => False.elim z)
  intro C s' m ys its n H' hC hn vl sz hD nD nC fin os bare un hok
  have I3 : Inv X pins σ (upd H' s2.heap.objs.size (.lst ys)) s' := comp_back (h' := s'.heap) I2 f2 hC vl sz hD nD nC os bare un hok (.refl ..)
  refine wpAny_assign_Name (store_ok2 (v := .ref s2.heap.objs.size) I3 hN hy (.inl hl) rfl (fun s4 I4 ch => ?_) (.inr hl))
  have ltL : X.env.locals < s2.heap.objs.size := I2.lt
  obtain ⟨a, hsa, ha⟩ := ch
  have aC : a ≠ C := by
    rcases ha with rfl | ha
    · exact Nat.ne_of_lt (Nat.lt_trans ltL hC)
    · obtain ⟨v, q⟩ := I2.cell _ _ ha
      exact Nat.ne_of_lt (Nat.lt_trans q.lt hC)
  refine ⟨m, hn.sameBut hsa (Ne.symm aC), fun h' hs' => ⟨_, _, ?_, fin _ (I2.hok.fresh (Nat.le_refl _)) nD⟩⟩
  -- the block's names go
  have nC4 : (upd H' s2.heap.objs.size (.lst ys)) C = none := by rw [upd_ne (Nat.ne_of_gt hC)]; exact nC
  exact I4.turned (t' := s4.toks) (it := C) (h' := h') (fun b o hb e => (hs'.2 b hb).trans e) nC4 (Nat.ne_of_gt (Nat.lt_trans ltL hC)) (.inr (Nat.le_trans I2.sz (Nat.le_of_lt hC))) (fun x c e z => by
    obtain ⟨v, q⟩ := I2.cell x c e
    exact absurd (Nat.lt_trans q.lt hC) (by rw [z]; exact Nat.lt_irrefl _)) (fun p hp z => by
    have := Heap.lt_size (I2.pin p hp).1
    rw [z] at this
    exact absurd (Nat.lt_trans this hC) (Nat.lt_irrefl _))
end

/-! ### the forms one uses -/
/-- J walks n items, as long as Ok holds of the heap -/
structure Src (J : It) (Ok : Hp → Prop) (n : Nat) (Item : Nat → V → Hp → Hp → Prop) : Prop where
  go : ∀ i H, i < n → Ok H → J.go i H
  yld : ∀ i H x H3, i < n → Ok H → J.yld i H x H3 → Item i x H H3
  stop : ∀ H, Ok H → J.stop n H
theorem src_list {K : PySem.W.Frag} {a : Addr} {xs : List V} {Ok : Hp → Prop} (h : ∀ H, Ok H → SqL K H a xs) : Src (Itl K a) Ok xs.length (fun i x H H3 => H3 = H ∧ xs[i]? = some x) where
  go := fun i H hi ok => ⟨xs, xs[i], h H ok, by simp [hi]⟩
  yld := fun i H x H3 hi ok ⟨e, y⟩ => ⟨e, y xs (h H ok)⟩
  stop := fun H ok => ⟨xs, h H ok, Nat.le_refl _⟩
theorem src_range {lo : Int} {n : Nat} {Ok : Hp → Prop} : Src (Itr lo n) Ok n (fun i x H H3 => H3 = H ∧ x = .int (lo + i)) where
  go := fun _ _ hi _ => hi
  yld := fun _ _ _ _ _ _ y => y
  stop := fun _ _ => Nat.le_refl _
theorem block_src {J : It} {g : TG} {tc : TT} {te : TE} {σ0 : St} {H1 : Hp} {fin : List V → Hp → Prop} {n : Nat} {Item : Nat → V → Hp → Hp → Prop} (S : Src J (Same H1) n Item) (Own : St → Prop) (h0 : Own σ0) (P : Nat → List V → Hp → Prop) (p0 : P 0 [] H1) (hz : n ≤ sizeLine)
    (hs : ∀ i x σ H ys H3 (Q : St → V → Hp → Prop) (N : St → Hp → Prop), i < n → Same H1 H → P i ys H → ys.length ≤ i → Own σ → Item i x H H3 →
      (∀ σ3 y H6, Own σ3 → Same H1 H6 → P (i + 1) (ys ++ [y]) H6 → Q σ3 y H6) → (∀ σ3 H5, Own σ3 → Same H1 H5 → P (i + 1) ys H5 → N σ3 H5) →
      g x σ H3 fun σ3 H4 => tc σ3 H4 fun b H5 => if b = true then te σ3 H5 fun y H6 => Q σ3 y H6 else N σ3 H5)
    (hfin : ∀ ys H, Same H1 H → P n ys H → ys.length ≤ n → fin ys H) : tBlock J g tc te σ0 H1 fin := by
  refine ⟨fun i m ys σ H => m = n - i ∧ i ≤ n ∧ ys.length ≤ i ∧ Own σ ∧ Same H1 H ∧ P i ys H, ⟨n, by simp, Nat.zero_le _, Nat.le_refl _, h0, Same.refl _, p0⟩, ?_⟩
  rintro i m ys σ H ⟨rfl, hi, hl, ow, sm, p⟩
  by_cases hlt : i < n
  · refine .inr ⟨S.go i H hlt sm, fun x H3 y => hs i x σ H ys H3 (fun σ3 y H6 => ys.length < sizeLine ∧ ∃ m', m' < n - i ∧ m' = n - (i + 1) ∧ i + 1 ≤ n ∧ (ys ++ [y]).length ≤ i + 1 ∧ Own σ3 ∧ Same H1 H6 ∧ P (i + 1) (ys ++ [y]) H6)
      (fun σ3 H5 => ∃ m', m' < n - i ∧ m' = n - (i + 1) ∧ i + 1 ≤ n ∧ ys.length ≤ i + 1 ∧ Own σ3 ∧ Same H1 H5 ∧ P (i + 1) ys H5) hlt sm p hl ow (S.yld i H x H3 hlt sm y) (fun σ3 y H6 o s6 q => ?_) (fun σ3 H5 o s5 q => ?_)⟩
    · exact ⟨by omega, n - (i + 1), by omega, rfl, hlt, by rw [List.length_append, List.length_singleton]; omega, o, s6, q⟩
    · exact ⟨n - (i + 1), by omega, rfl, hlt, by omega, o, s5, q⟩
  · have e : i = n := by omega
    subst e
    exact .inl ⟨S.stop H sm, hfin ys H sm p hl⟩
/-- a plain map, one name: each item by itself -/
theorem comp_map {J : It} {te : TE} {tl : St} {H1 : Hp} {fin : List V → Hp → Prop} {n : Nat} {Item : Nat → V → Hp → Hp → Prop} (S : Src J (Same H1) n Item) (sub : ∀ i x H H3, Item i x H H3 → Same H H3) (hz : n ≤ sizeLine)
    (R : Nat → V → Hp → Prop) (mono : ∀ i y H H', Same H H' → R i y H → R i y H')
    (hs : ∀ i x w H H3 (Q : VK), i < n → Same H1 H → Item i x H H3 → (∀ y H6, Same H3 H6 → R i y H6 → Q y H6) → te ((w :: tl).set 0 (some x)) H3 Q)
    (hfin : ∀ ys H, Same H1 H → ys.length = n → (∀ i y, ys[i]? = some y → R i y H) → fin ys H) : tBlock J (gName 0) tYes te (none :: tl) H1 fin := by
  refine ⟨fun i m ys σ H => m = n - i ∧ i ≤ n ∧ ys.length = i ∧ (∃ w, σ = w :: tl) ∧ Same H1 H ∧ ∀ j y, ys[j]? = some y → R j y H, ⟨n, by simp, Nat.zero_le _, rfl, ⟨_, rfl⟩, Same.refl _, fun j y e => by simp at e⟩, ?_⟩
  rintro i m ys σ H ⟨rfl, hi, hl, ⟨w, rfl⟩, sm, p⟩
  by_cases hlt : i < n
  · refine .inr ⟨S.go i H hlt sm, fun x H3 y => ?_⟩
    have it := S.yld i H x H3 hlt sm y
    have s3 := sub i x H H3 it
    unfold gName tYes
    refine iteT ?_
    refine hs i x w H H3 _ hlt sm it fun y H6 s6 r => ⟨by omega, n - (i + 1), by omega, rfl, hlt, by rw [List.length_append, List.length_singleton]; omega, ⟨_, rfl⟩, sm.trans (s3.trans s6), fun j z e => ?_⟩
    by_cases hj : j < i
    · rw [List.getElem?_append_left (by omega)] at e
      exact mono j z _ _ (s3.trans s6) (p j z e)
    · rw [List.getElem?_append_right (by omega)] at e
      have e2 : j - ys.length = 0 := by
        by_cases q : j - ys.length = 0
        · exact q
        · rw [List.getElem?_eq_none (by simp; omega)] at e; cases e
      rw [e2] at e
      simp at e
      subst e
      have : j = i := by omega
      subst this
      exact r
  · have e : i = n := by omega
    subst e
    exact .inl ⟨S.stop H sm, hfin ys H sm hl p⟩
/-- a loop's body over what J walks -/
def tForB (J : It) (g : TG) (tb : TS) (D : Ends) (σ : St) (H : Hp) : Prop :=
  ∃ W : Nat → Nat → St → Hp → Prop, (∃ m, W 0 m σ H) ∧ ∀ i m σ H, W i m σ H →
    (J.stop i H ∧ D.nx σ H) ∨ (J.go i H ∧ ∃ N : St → Hp → Prop, (∀ σ' H', N σ' H' → ∃ m', m' < m ∧ W (i + 1) m' σ' H') ∧ ∀ x H', J.yld i H x H' → g x σ H' fun σ2 H2 => tb { D with nx := N, ct := N, bk := D.nx } σ2 H2)
theorem tFor_eq {wi : TI} {g : TG} {tb : TS} {D : Ends} {σ : St} {H : Hp} : tFor wi g tb D σ H = wi σ H fun J H1 => tForB J g tb D σ H1 := rfl
theorem for_src {J : It} {g : TG} {tb : TS} {D : Ends} {σ : St} {H : Hp} {n : Nat} {Item : Nat → V → Hp → Hp → Prop} {Ok : Hp → Prop} (S : Src J Ok n Item) (Pv : Nat → St → Hp → Prop) (h0 : Pv 0 σ H) (hok : ∀ i σ H, i ≤ n → Pv i σ H → Ok H)
    (hs : ∀ i x σ H H3, i < n → Pv i σ H → Item i x H H3 → g x σ H3 fun σ2 H2 => tb { D with nx := Pv (i + 1), ct := Pv (i + 1), bk := D.nx } σ2 H2) (hd : ∀ σ H, Pv n σ H → D.nx σ H) : tForB J g tb D σ H := by
  refine ⟨fun i m σ H => m = n - i ∧ i ≤ n ∧ Pv i σ H, ⟨n, by simp, Nat.zero_le _, h0⟩, ?_⟩
  rintro i m σ H ⟨rfl, hi, p⟩
  by_cases hlt : i < n
  · exact .inr ⟨S.go i H hlt (hok i σ H hi p), Pv (i + 1), fun σ' H' p' => ⟨n - (i + 1), by omega, rfl, hlt, p'⟩, fun x H' y => hs i x σ H H' hlt p (S.yld i H x H' hlt (hok i σ H hi p) y)⟩
  · have e : i = n := by omega
    subst e
    exact .inl ⟨S.stop H (hok i σ H hi p), hd σ H p⟩
/-- a plain map over pairs, two names -/
theorem comp_map2 {K : PySem.W.Frag} {J : It} {te : TE} {tl : St} {H1 : Hp} {fin : List V → Hp → Prop} {n : Nat} {Item : Nat → V → Hp → Hp → Prop} (S : Src J (Same H1) n Item) (It2 : Nat → V → V → Hp → Prop)
    (tp : ∀ i x H H3, i < n → Same H1 H → Item i x H H3 → Same H H3 ∧ ∃ p a b, x = .ref p ∧ SqT K H3 p [a, b] ∧ It2 i a b H3) (hz : n ≤ sizeLine)
    (R : Nat → V → Hp → Prop) (mono : ∀ i y H H', Same H H' → R i y H → R i y H')
    (hs : ∀ i a b H3 (Q : VK), i < n → Same H1 H3 → It2 i a b H3 → (∀ y H6, Same H3 H6 → R i y H6 → Q y H6) → te (some a :: some b :: tl) H3 Q)
    (hfin : ∀ ys H, Same H1 H → ys.length = n → (∀ (i : Nat) y, ys[i]? = some y → R i y H) → fin ys H) : tBlock J (gTup K 2 (gCons (gName 0) (gCons (gName 1) gNil))) tYes te (none :: none :: tl) H1 fin := by
  refine ⟨fun i m ys σ H => m = n - i ∧ i ≤ n ∧ ys.length = i ∧ (∃ w w', σ = w :: w' :: tl) ∧ Same H1 H ∧ ∀ (j : Nat) y, ys[j]? = some y → R j y H, ⟨n, by simp, Nat.zero_le _, rfl, ⟨_, _, rfl⟩, Same.refl _, fun j y e => by simp at e⟩, ?_⟩
  rintro i m ys σ H ⟨rfl, hi, hl, ⟨w, w', rfl⟩, sm, p⟩
  by_cases hlt : i < n
  · refine .inr ⟨S.go i H hlt sm, fun x H3 y => ?_⟩
    obtain ⟨s3, q, a, b, rfl, sq, it⟩ := tp i x H H3 hlt sm (S.yld i H x H3 hlt sm y)
    refine ⟨q, _, rfl, sq, rfl, _, _, rfl, _, _, rfl, rfl, ?_⟩
    unfold tYes
    refine iteT ?_
    refine hs i a b H3 _ hlt (sm.trans s3) it fun y H6 s6 r => ⟨by omega, n - (i + 1), by omega, rfl, hlt, by rw [List.length_append, List.length_singleton]; omega, ⟨_, _, rfl⟩, sm.trans (s3.trans s6), fun j z e => ?_⟩
    by_cases hj : j < i
    · rw [List.getElem?_append_left (by omega)] at e
      exact mono j z _ _ (s3.trans s6) (p j z e)
    · rw [List.getElem?_append_right (by omega)] at e
      have e2 : j - ys.length = 0 := by
        by_cases q : j - ys.length = 0
        · exact q
        · rw [List.getElem?_eq_none (by simp; omega)] at e; cases e
      rw [e2] at e
      simp at e
      subst e
      have : j = i := by omega
      subst this
      exact r
  · have e : i = n := by omega
    subst e
    exact .inl ⟨S.stop H sm, hfin ys H sm hl p⟩
end L2
/-! WHAT ELSE IS WALKED: zip, enumerate; an untracked object is tracked; several records turn. -/
namespace L2
open PySem PySem.Spec PyProof.Rows

section
variable {X : Cx} {pins : List (Addr × Obj)} {σ : St} {H : Hp} {s : Shared}
/-- records of ours at ch have turned -/
theorem Inv.moved {h' : Heap} {t' : Nat} {ch : List Addr} (I : Inv X pins σ H s) (f : ∀ b ∈ ch, FpOk X pins H b) (k : ∀ b o, b ∉ ch → s.heap.get? b = some o → h'.get? b = some o) : Inv X pins σ H { s with heap := h', toks := t' } := by
  have nch : ∀ b u, H b = some u → b ∉ ch := fun b u e z => by rw [(f b z).1] at e; cases e
  refine I.step (g' := s.gens) (d' := s.drawn) (ch := ch) (fun b hb => ⟨(f b hb).2.2.2.1, (f b hb).2.1, (f b hb).2.2.2.2.1, (f b hb).2.2.2.2.2⟩) (fun b o _ _ hc e _ => k b o hc e) (fun b o _ _ hc e _ => ⟨o.slots, k b o hc e⟩) (fun _ _ _ _ n => n)
    (fun b o hc e => ⟨o, k b o hc e⟩) (fun _ _ e => e) (fun _ _ _ e => e) (fun b ps e => ⟨#[], by rw [e]; simp⟩) (fun m hm => ?_) (fun b u e => ?_) I.bare
  · obtain ⟨o, es, ep, ho, r⟩ := hm
    exact ⟨o, es, ep, k _ o (fun z => (f _ z).2.1 rfl) ho, r⟩
  · refine (I.hok b u e).stay (fun c v hc q => k c v ?_ q) (fun _ q => q) fun _ _ q => q
    rcases hc with z | z
    · rw [z]; exact nch b u e
    · exact nch c _ z
/-- an object that nobody tracks is tracked from now on -/
theorem Inv.take {ad : Addr} {o : HO} (I : Inv X pins σ H s) (f : FpOk X pins H ad) (new : X.s₀.heap.objs.size ≤ ad) (ok : ObjOk X.prog X.w (upd H ad o) s.heap ad o) : Inv X pins σ (upd H ad o) s := by
  obtain ⟨hn, nL, nf, _, nc, np⟩ := f
  have tk : ∀ b u, H b = some u → b ≠ ad := fun b u e z => by rw [z, hn] at e; cases e
  refine ⟨I.ok, I.os, I.bare, ⟨I.base.keep, I.base.slot, fun b ob e m hx => ?_, I.base.there, fun b xs e => ?_, fun b ob u e => ?_, fun b ps e => ?_⟩, I.loc, I.cell, ?_, fun x c e => ?_, fun p hp => ?_, fun b u e => ?_, I.len⟩
  · rw [upd_ne (Nat.ne_of_lt (Nat.lt_of_lt_of_le (Heap.lt_size e) new))]
    exact I.base.free b ob e m hx
  · have q := I.base.tups b xs e
    rw [upd_ne (tk b _ q)]; exact q
  · have q := I.base.frzs b ob u e
    rw [upd_ne (tk b _ q)]; exact q
  · obtain ⟨mo, q⟩ := I.base.tbls b ps e
    exact ⟨mo, by rw [upd_ne (tk b _ q)]; exact q⟩
  · rw [upd_ne (Ne.symm nL)]; exact I.free
  · rw [upd_ne (nc x c e)]; exact I.freeC x c e
  · obtain ⟨a, b, c⟩ := I.pin p hp
    exact ⟨a, by rw [upd_ne (np p hp)]; exact b, c⟩
  · by_cases hb : b = ad
    · subst hb
      rw [upd_same] at e
      cases e
      exact ok
    · rw [upd_ne hb] at e
      exact (I.hok b u e).stay (fun _ _ _ q => q) (fun c r => by rw [upd_ne (tk _ _ r)]; exact r) fun c xs r => by rw [upd_ne (tk _ _ r)]; exact r
end

/-! ### zip of two lists, in a loop whose target is a tuple -/
def Itz (K : PySem.W.Frag) (a b : Addr) : It :=
  ⟨fun i H => ∃ xs ys x y, SqL K H a xs ∧ SqL K H b ys ∧ xs[i]? = some x ∧ ys[i]? = some y,
   fun i H v H' => ∃ p, H p = none ∧ v = .ref p ∧ ∃ x y, (∀ xs, SqL K H a xs → xs[i]? = some x) ∧ (∀ ys, SqL K H b ys → ys[i]? = some y) ∧ H' = upd H p (.tup [x, y]),
   fun i H => ∃ xs ys, SqL K H a xs ∧ SqL K H b ys ∧ (i = min xs.length ys.length)⟩
theorem turn_zip {P : Program} {w : World} {K : PySem.W.Frag} {elts : List Expr} {k : Nat} {pos : Pos} (z TI TO i1 i2 a b : Addr) (D : ZipApart z TI TO i1 i2 a b) :
    Turn P w K (.Tuple elts k pos) (Itz K a b) [z, TI, TO, i1, i2] z (fun i h => IsZip h z TI TO .none ∧ IsPair h TI (.ref i1) (.ref i2) ∧ (∃ x y, IsPair h TO x y) ∧ h.IsListIter i1 a i ∧ h.IsListIter i2 b i) where
  mem := by simp
  obj := fun i h st c hc => by
    obtain ⟨hz, hTI, ⟨x, y, hTO⟩, ⟨o1, e1, _, d1⟩, ⟨o2, e2, _, d2⟩⟩ := st
    simp only [List.mem_cons, List.not_mem_nil, or_false] at hc
    rcases hc with rfl | rfl | rfl | rfl | rfl
    · exact ⟨_, hz, fun v q => by cases q⟩
    · exact ⟨_, hTI, fun v q => by cases q⟩
    · exact ⟨_, hTO, fun v q => by cases q⟩
    · exact ⟨_, e1, fun v q => by rw [d1] at q; cases q⟩
    · exact ⟨_, e2, fun v q => by rw [d2] at q; cases q⟩
  keep := fun i h h' st kp => by
    obtain ⟨hz, hTI, ⟨x, y, hTO⟩, h1, h2⟩ := st
    exact ⟨kp z (by simp) _ hz, kp TI (by simp) _ hTI, ⟨x, y, kp TO (by simp) _ hTO⟩, h1.at fun o e => kp i1 (by simp) o e, h2.at fun o e => kp i2 (by simp) o e⟩
  item := by
    intro X hP hw hK hc i pins s σ H E I hf st hg
    subst hP hw hK
    obtain ⟨xs, ys, x, y, hq1, hq2, hx, hy⟩ := hg
    obtain ⟨its1, r1, p1, z1⟩ := I.list hq1
    obtain ⟨its2, r2, p2, z2⟩ := I.list hq2
    obtain ⟨u, eu, ru⟩ := r1.get hx
    obtain ⟨v, ev, rv⟩ := r2.get hy
    obtain ⟨hz, hTI, ⟨x0, y0, hTO⟩, h1, h2⟩ := st
    have W := WalksT.zip2 (prog := X.prog) (w := X.w) (I.ok.hd hc) z TI TO i1 i2 a b D its1.toArray its2.toArray
    have li : i < min its1.toArray.size its2.toArray.size := by
      have a1 := (List.getElem?_eq_some_iff.mp eu).1
      have a2 := (List.getElem?_eq_some_iff.mp ev).1
      simp only [List.size_toArray]
      omega
    refine W.item i s _ _ li ⟨hz, hTI, ⟨x0, y0, hTO⟩, h1, h2, p1.isList, p2.isList⟩ fun T vals h' tk hpt hT hI hm kk => ?_
    have sub : ∀ c ∈ [z, TO, i1, i2], c ∈ [z, TI, TO, i1, i2] := fun c hc => by simp at hc ⊢; rcases hc with rfl | rfl | rfl | rfl <;> simp
    have I1 : Inv X pins σ H { s with heap := h', toks := tk } := I.moved (ch := [z, TO, i1, i2]) (fun c hc => hf c (sub c hc)) kk
    have fT : FpOk X pins H T := I.fpOk hT (I.hok.fresh hT)
    refine ⟨_, rfl, W.go elts k pos i T _ _ _ hm fun h2' st2 kk2 => ?_⟩
    have I2 : Inv X pins σ H { s with heap := h2', toks := tk } := I1.moved (s := { s with heap := h', toks := tk }) (t' := tk) (ch := [z, TO, i1, i2]) (fun c hc => hf c (sub c hc)) kk2
    obtain ⟨x', y', ex, ey, rfl⟩ := hpt
    have ex' : its1[i]? = some x' := by simpa using ex
    have ey' : its2[i]? = some y' := by simpa using ey
    rw [eu] at ex'; cases ex'
    rw [ev] at ey'; cases ey'
    have apT := W.apart _ _ _ hm
    obtain ⟨oT, eT, cT, nT, dT⟩ := hI
    have hI2 : IsTup h2' T #[u, v] := ⟨oT, kk2 _ _ apT eT, cT, nT, dT⟩
    have I3 : Inv X pins σ (upd H T (.tup [x, y])) { s with heap := h2', toks := tk } :=
      I2.take fT (Nat.le_trans I.sz hT) ⟨by show 2 ≤ sizeLine; decide, [u, v], .cons ru (.cons rv .nil), hI2⟩
    obtain ⟨b1, b2, b3, b4, b5, _, _⟩ := st2
    refine ⟨.ref T, _, I3, rfl, ⟨T, fT.1, rfl, x, y, fun xs' q => ?_, fun ys' q => ?_, rfl⟩, ⟨b1, b2, b3, b4, b5⟩, fun c hc => ?_⟩
    · rw [I.list_inj q hq1]; exact hx
    · rw [I.list_inj q hq2]; exact hy
    · rw [upd_ne (fun q => ?_)]
      · exact (hf c hc).1
      · subst q
        obtain ⟨o, e, _⟩ : ∃ o, s.heap.get? c = some o ∧ True := by
          simp only [List.mem_cons, List.not_mem_nil, or_false] at hc
          obtain ⟨o1, e1, _⟩ := h1
          obtain ⟨o2, e2, _⟩ := h2
          rcases hc with rfl | rfl | rfl | rfl | rfl
          · exact ⟨_, hz, trivial⟩
          · exact ⟨_, hTI, trivial⟩
          · exact ⟨_, hTO, trivial⟩
          · exact ⟨_, e1, trivial⟩
          · exact ⟨_, e2, trivial⟩
        exact absurd (Heap.lt_size e) (Nat.not_lt.mpr hT)
  done := by
    intro X hP hw hK hc i pins s σ H E I hf st hg
    subst hP hw hK
    obtain ⟨xs, ys, hq1, hq2, hi⟩ := hg
    obtain ⟨its1, r1, p1, z1⟩ := I.list hq1
    obtain ⟨its2, r2, p2, z2⟩ := I.list hq2
    obtain ⟨hz, hTI, hTO, h1, h2⟩ := st
    have W := WalksT.zip2 (prog := X.prog) (w := X.w) (I.ok.hd hc) z TI TO i1 i2 a b D its1.toArray its2.toArray
    have l1 := r1.length
    have l2 := r2.length
    have e : i = min its1.toArray.size its2.toArray.size := by simp only [List.size_toArray]; omega
    subst e
    have sub : ∀ c ∈ [z, TO, i1, i2], c ∈ [z, TI, TO, i1, i2] := fun c hc => by simp at hc ⊢; rcases hc with rfl | rfl | rfl | rfl <;> simp
    exact W.done s _ _ ⟨hz, hTI, hTO, h1, h2, p1.isList, p2.isList⟩ fun h' tk kk => ⟨rfl, I.moved (ch := [z, TO, i1, i2]) (fun c hc => hf c (sub c hc)) kk⟩
  self := fun _ _ _ _ _ st h => wpAny_pyIter_zip st.1 h

/-! ### enumerate of a list -/
def Ite (K : PySem.W.Frag) (a : Addr) : It :=
  ⟨fun i H => ∃ xs x, SqL K H a xs ∧ xs[i]? = some x,
   fun i H v H' => ∃ p, H p = none ∧ v = .ref p ∧ ∃ x, (∀ xs, SqL K H a xs → xs[i]? = some x) ∧ H' = upd H p (.tup [.int i, x]),
   fun i H => ∃ xs, SqL K H a xs ∧ xs.length = i⟩
theorem turn_enum {P : Program} {w : World} {K : PySem.W.Frag} {elts : List Expr} {k : Nat} {pos : Pos} (e it a : Addr) (hei : e ≠ it) (hle : a ≠ e) (hli : a ≠ it) :
    Turn P w K (.Tuple elts k pos) (Ite K a) [e, it] e (fun i h => (∃ old, IsEnum h e it i old) ∧ h.IsListIter it a i) where
  mem := by simp
  obj := fun i h st c hc => by
    obtain ⟨⟨old, he⟩, ⟨o1, e1, _, d1⟩⟩ := st
    simp only [List.mem_cons, List.not_mem_nil, or_false] at hc
    rcases hc with rfl | rfl
    · exact ⟨_, he, fun v q => by cases q⟩
    · exact ⟨_, e1, fun v q => by rw [d1] at q; cases q⟩
  keep := fun i h h' st kp => by
    obtain ⟨⟨old, he⟩, h1⟩ := st
    exact ⟨⟨old, kp e (by simp) _ he⟩, h1.at fun o q => kp it (by simp) o q⟩
  item := by
    intro X hP hw hK hc i pins s σ H E I hf st hg
    subst hP hw hK
    obtain ⟨xs, x, hq1, hx⟩ := hg
    obtain ⟨its1, r1, p1, z1⟩ := I.list hq1
    obtain ⟨u, eu, ru⟩ := r1.get hx
    obtain ⟨he, h1⟩ := st
    have W := WalksT.enumerate (prog := X.prog) (w := X.w) (I.ok.hd hc) e it a hei hle hli its1.toArray
    have li : i < its1.toArray.size := by
      have a1 := (List.getElem?_eq_some_iff.mp eu).1
      simp only [List.size_toArray]
      omega
    refine W.item i s _ _ li ⟨he, h1, p1.isList⟩ fun T vals h' tk hpt hT hI hm kk => ?_
    have I1 : Inv X pins σ H { s with heap := h', toks := tk } := I.moved (ch := [e, it]) hf kk
    have fT : FpOk X pins H T := I.fpOk hT (I.hok.fresh hT)
    refine ⟨_, rfl, W.go elts k pos i T _ _ _ hm fun h2' st2 kk2 => ?_⟩
    have I2 : Inv X pins σ H { s with heap := h2', toks := tk } := I1.moved (s := { s with heap := h', toks := tk }) (t' := tk) (ch := [e, it]) hf kk2
    obtain ⟨t, x', ex, rfl⟩ := hpt
    have ex' : its1[i]? = some x' := by simpa using ex
    rw [eu] at ex'; cases ex'
    have apT := W.apart _ _ _ hm
    obtain ⟨oT, eT, cT, nT, dT⟩ := hI
    have hI2 : IsTup h2' T #[.int i t, u] := ⟨oT, kk2 _ _ apT eT, cT, nT, dT⟩
    have I3 : Inv X pins σ (upd H T (.tup [.int i, x])) { s with heap := h2', toks := tk } :=
      I2.take fT (Nat.le_trans I.sz hT) ⟨by show 2 ≤ sizeLine; decide, [.int i t, u], .cons ⟨t, rfl⟩ (.cons ru .nil), hI2⟩
    obtain ⟨b1, b2, _⟩ := st2
    refine ⟨.ref T, _, I3, rfl, ⟨T, fT.1, rfl, x, fun xs' q => ?_, rfl⟩, ⟨b1, b2⟩, fun c hc => ?_⟩
    · rw [I.list_inj q hq1]; exact hx
    · rw [upd_ne (fun q => ?_)]
      · exact (hf c hc).1
      · subst q
        obtain ⟨o, e, _⟩ : ∃ o, s.heap.get? c = some o ∧ True := by
          simp only [List.mem_cons, List.not_mem_nil, or_false] at hc
          obtain ⟨old, he⟩ := he
          obtain ⟨o1, e1, _⟩ := h1
          rcases hc with rfl | rfl
          · exact ⟨_, he, trivial⟩
          · exact ⟨_, e1, trivial⟩
        exact absurd (Heap.lt_size e) (Nat.not_lt.mpr hT)
  done := by
    intro X hP hw hK hc i pins s σ H E I hf st hg
    subst hP hw hK
    obtain ⟨xs, hq1, hi⟩ := hg
    obtain ⟨its1, r1, p1, z1⟩ := I.list hq1
    obtain ⟨he, h1⟩ := st
    have W := WalksT.enumerate (prog := X.prog) (w := X.w) (I.ok.hd hc) e it a hei hle hli its1.toArray
    have l1 := r1.length
    have e : i = its1.toArray.size := by simp only [List.size_toArray]; omega
    subst e
    exact W.done s _ _ ⟨he, h1, p1.isList⟩ fun h' tk kk => ⟨rfl, I.moved (ch := [_, it]) hf kk⟩
  self := fun _ _ _ _ _ st h => by
    obtain ⟨⟨old, he⟩, _⟩ := st
    exact wpAny_pyIter_enum he h

section
variable {X : Cx} {elts : List Expr} {kk : Nat} {tpos : Pos}
def iZip (K : PySem.W.Frag) (ta : TA) : TI := fun σ H R => ta σ H fun vs H1 => ∃ a b, vs = [.ref a, .ref b] ∧ (∃ xs, SqL K H1 a xs) ∧ (∃ ys, SqL K H1 b ys) ∧ R (Itz K a b) H1
theorem pi_zip {a b : Expr} {ta : TA} {p pos : Pos} (hg : Gl X "zip") (hm : X.mg "zip" = none) (ha : PA X [a, b] ta) (hs : starEach [a, b] X.env = [(false, eval a X.env), (false, eval b X.env)] := by rfl) (hs2 : starEach [b] X.env = [(false, eval b X.env)] := by rfl) :
    PI X (.Tuple elts kk tpos) (.Call (.Name "zip" p) [a, b] [] pos) (iZip X.K ta) := by
  intro pins s σ H R I h
  refine Call_ (ld_blt I hg hm rfl (PyProof.Rows.callWith_type1 (thn (ha pos pins s σ H _ I h) fun us s1 ⟨vs, H1, I1, r1, q1⟩ => ?_) (by rw [hs, hs2]) (by rw [hs2]; rfl)))
  obtain ⟨a, b, e, ⟨xs, q1⟩, ⟨ys, q2⟩, q⟩ := q1
  subst e
  obtain ⟨u, u', rfl, ra, rb⟩ := vals2 r1
  cases ra
  cases rb
  obtain ⟨its1, v1, p1, z1⟩ := I1.list q1
  obtain ⟨its2, v2, p2, z2⟩ := I1.list q2
  refine call_zip_2 p1.isList p2.isList fun h' b1 b2 b3 b4 b5 b6 kp => ?_
  refine wpAny_pyIter_zip b1 ?_
  have I2 : Inv X pins σ H1 { s1 with heap := h' } := I1.kept (t' := s1.toks) kp
  have la : a < s1.heap.objs.size := by obtain ⟨o, e, _⟩ := p1.isList; exact Heap.lt_size e
  have lb : b < s1.heap.objs.size := by obtain ⟨o, e, _⟩ := p2.isList; exact Heap.lt_size e
  refine ⟨s1.heap.objs.size + 4, [s1.heap.objs.size + 4, s1.heap.objs.size + 2, s1.heap.objs.size + 3, s1.heap.objs.size, s1.heap.objs.size + 1], _, _, H1, rfl, I2,
    turn_zip (s1.heap.objs.size + 4) (s1.heap.objs.size + 2) (s1.heap.objs.size + 3) s1.heap.objs.size (s1.heap.objs.size + 1) a b (by constructor <;> (first | exact Nat.ne_of_lt (by omega) | exact Nat.ne_of_gt (by omega) | exact Nat.ne_of_lt la | exact Nat.ne_of_lt lb | exact Nat.ne_of_lt (Nat.lt_of_lt_of_le la (Nat.le_add_right _ _)) | exact Nat.ne_of_lt (Nat.lt_of_lt_of_le lb (Nat.le_add_right _ _)))), ⟨b1, b2, ⟨_, _, b3⟩, b4, b5⟩, fun c hc => ?_, q⟩
  have hge : s1.heap.objs.size ≤ c := by
    simp only [List.mem_cons, List.not_mem_nil, or_false] at hc
    rcases hc with rfl | rfl | rfl | rfl | rfl <;> omega
  exact I1.fpOk hge (I1.hok.fresh hge)
def iEnum (K : PySem.W.Frag) (ta : TA) : TI := fun σ H R => ta σ H fun vs H1 => ∃ a, vs = [.ref a] ∧ (∃ xs, SqL K H1 a xs) ∧ R (Ite K a) H1
theorem pi_enumerate {a : Expr} {ta : TA} {p pos : Pos} (hg : Gl X "enumerate") (hm : X.mg "enumerate" = none) (ha : PA X [a] ta) (hs : starEach [a] X.env = [(false, eval a X.env)] := by rfl) :
    PI X (.Tuple elts kk tpos) (.Call (.Name "enumerate" p) [a] [] pos) (iEnum X.K ta) := by
  intro pins s σ H R I h
  refine Call_ (ld_blt I hg hm rfl (PyProof.Rows.callWith_type1 (thn (ha pos pins s σ H _ I h) fun us s1 ⟨vs, H1, I1, r1, q1⟩ => ?_) hs rfl))
  obtain ⟨a, e, ⟨xs, q1⟩, q⟩ := q1
  subst e
  obtain ⟨u, rfl, ra⟩ := vals1 r1
  cases ra
  obtain ⟨its1, v1, p1, z1⟩ := I1.list q1
  refine call_enumerate_list p1.isList fun h' b1 b2 b3 kp => ?_
  refine wpAny_pyIter_enum b1 ?_
  have I2 : Inv X pins σ H1 { s1 with heap := h' } := I1.kept (t' := s1.toks) kp
  have la : a < s1.heap.objs.size := by obtain ⟨o, e, _⟩ := p1.isList; exact Heap.lt_size e
  refine ⟨s1.heap.objs.size + 1, [s1.heap.objs.size + 1, s1.heap.objs.size], _, _, H1, rfl, I2,
    turn_enum (s1.heap.objs.size + 1) s1.heap.objs.size a (Nat.ne_of_gt (Nat.lt_succ_self _)) (Nat.ne_of_lt (Nat.lt_succ_of_lt la)) (Nat.ne_of_lt la), ⟨⟨_, b1⟩, b2⟩, fun c hc => ?_, q⟩
  have hge : s1.heap.objs.size ≤ c := by
    simp only [List.mem_cons, List.not_mem_nil, or_false] at hc
    rcases hc with rfl | rfl <;> omega
  exact I1.fpOk hge (I1.hok.fresh hge)
end
theorem src_zip {K : PySem.W.Frag} {a b : Addr} {xs ys : List V} {Ok : Hp → Prop} (h1 : ∀ H, Ok H → SqL K H a xs) (h2 : ∀ H, Ok H → SqL K H b ys) :
    Src (Itz K a b) Ok (min xs.length ys.length) (fun i v H H3 => ∃ p x y, H p = none ∧ v = .ref p ∧ xs[i]? = some x ∧ ys[i]? = some y ∧ H3 = upd H p (.tup [x, y])) where
  go := fun i H hi ok => ⟨xs, ys, xs[i]'(by omega), ys[i]'(by omega), h1 H ok, h2 H ok, by simp, by simp⟩
  yld := fun i H x H3 hi ok ⟨p, n, e, u, v, e1, e2, e3⟩ => ⟨p, u, v, n, e, e1 xs (h1 H ok), e2 ys (h2 H ok), e3⟩
  stop := fun H ok => ⟨xs, ys, h1 H ok, h2 H ok, rfl⟩
theorem src_enum {K : PySem.W.Frag} {a : Addr} {xs : List V} {Ok : Hp → Prop} (h1 : ∀ H, Ok H → SqL K H a xs) :
    Src (Ite K a) Ok xs.length (fun i v H H3 => ∃ p x, H p = none ∧ v = .ref p ∧ xs[i]? = some x ∧ H3 = upd H p (.tup [.int i, x])) where
  go := fun i H hi ok => ⟨xs, xs[i], h1 H ok, by simp [hi]⟩
  yld := fun i H x H3 hi ok ⟨p, n, e, u, e1, e3⟩ => ⟨p, u, n, e, e1 xs (h1 H ok), e3⟩
  stop := fun H ok => ⟨xs, h1 H ok, rfl⟩
end L2
/-! DATA: what a value stands for, through tuples and lists; == and != of things that stand for one datum. -/
namespace L2
open PySem PySem.Spec PyProof.Rows

inductive Dat where
  | non | bl (b : Bool) | int (i : Int) | str (x : Str) | tup (l : List Dat) | lst (l : List Dat)

mutual
def Rep (H : Hp) : Dat → V → Prop
  | .non, v => v = .non
  | .bl b, v => v = .bl b
  | .int i, v => v = .int i
  | .str x, v => v = .str x
  | .tup ds, v => ∃ p vs, v = .ref p ∧ H p = some (.tup vs) ∧ RepL H ds vs
  | .lst ds, v => ∃ p vs, v = .ref p ∧ H p = some (.lst vs) ∧ RepL H ds vs
def RepL (H : Hp) : List Dat → List V → Prop
  | [], vs => vs = []
  | d :: ds, vs => ∃ v r, vs = v :: r ∧ Rep H d v ∧ RepL H ds r
end
mutual
theorem Rep.mono {H H' : Hp} (s : Same H H') : ∀ {d : Dat} {v : V}, Rep H d v → Rep H' d v
  | .non, _, h => by rw [Rep] at *; exact h
  | .bl _, _, h => by rw [Rep] at *; exact h
  | .int _, _, h => by rw [Rep] at *; exact h
  | .str _, _, h => by rw [Rep] at *; exact h
  | .tup _, _, h => by
    rw [Rep] at *
    obtain ⟨p, vs, e, hp, r⟩ := h
    exact ⟨p, vs, e, s _ _ hp, RepL.mono s r⟩
  | .lst _, _, h => by
    rw [Rep] at *
    obtain ⟨p, vs, e, hp, r⟩ := h
    exact ⟨p, vs, e, s _ _ hp, RepL.mono s r⟩
theorem RepL.mono {H H' : Hp} (s : Same H H') : ∀ {ds : List Dat} {vs : List V}, RepL H ds vs → RepL H' ds vs
  | [], _, h => by rw [RepL] at *; exact h
  | _ :: _, _, h => by
    rw [RepL] at *
    obtain ⟨v, r, e, h1, h2⟩ := h
    exact ⟨v, r, e, Rep.mono s h1, RepL.mono s h2⟩
end
theorem RepL.length {H : Hp} : ∀ {ds : List Dat} {vs : List V}, RepL H ds vs → ds.length = vs.length
  | [], _, h => by rw [RepL] at h; subst h; rfl
  | _ :: _, _, h => by
    rw [RepL] at h
    obtain ⟨v, r, rfl, _, h2⟩ := h
    simp [h2.length]
theorem RepL.get {H : Hp} : ∀ {ds : List Dat} {vs : List V} {i : Nat} {v : V}, RepL H ds vs → vs[i]? = some v → ∃ d, ds[i]? = some d ∧ Rep H d v
  | [], _, i, v, h, e => by rw [RepL] at h; subst h; simp at e
  | d :: ds, _, i, v, h, e => by
    rw [RepL] at h
    obtain ⟨v', r, rfl, h1, h2⟩ := h
    cases i with
    | zero => simp at e; subst e; exact ⟨d, rfl, h1⟩
    | succ i => simp at e; obtain ⟨d', e', r'⟩ := h2.get e; exact ⟨d', by simpa using e', r'⟩
theorem RepL.at {H : Hp} : ∀ {ds : List Dat} {vs : List V} {i : Nat} {d : Dat}, RepL H ds vs → ds[i]? = some d → ∃ v, vs[i]? = some v ∧ Rep H d v
  | [], _, i, v, h, e => by simp at e
  | d :: ds, _, i, d', h, e => by
    rw [RepL] at h
    obtain ⟨v', r, rfl, h1, h2⟩ := h
    cases i with
    | zero => simp at e; subst e; exact ⟨v', rfl, h1⟩
    | succ i => simp at e; obtain ⟨v, e', r'⟩ := h2.at e; exact ⟨v, by simpa using e', r'⟩
theorem RepL.of {H : Hp} : ∀ {ds : List Dat} {vs : List V}, ds.length = vs.length → (∀ (i : Nat) d v, ds[i]? = some d → vs[i]? = some v → Rep H d v) → RepL H ds vs
  | [], [], _, _ => by rw [RepL]
  | [], _ :: _, h, _ => by simp at h
  | _ :: _, [], h, _ => by simp at h
  | d :: ds, v :: vs, h, k => by
    rw [RepL]
    exact ⟨v, vs, rfl, k 0 d v rfl rfl, RepL.of (by simpa using h) fun i d' v' e1 e2 => k (i + 1) d' v' (by simpa using e1) (by simpa using e2)⟩
theorem RepL.append {H : Hp} : ∀ {as bs : List Dat} {us vs : List V}, RepL H as us → RepL H bs vs → RepL H (as ++ bs) (us ++ vs)
  | [], _, _, _, h, k => by rw [RepL] at h; subst h; exact k
  | _ :: _, _, _, _, h, k => by
    rw [RepL] at h
    obtain ⟨v, r, rfl, h1, h2⟩ := h
    show RepL H (_ :: (_ ++ _)) (_ :: (_ ++ _))
    rw [RepL]
    exact ⟨_, _, rfl, h1, h2.append k⟩
theorem RepL.ints {H : Hp} : ∀ (ns : List Int), RepL H (ns.map Dat.int) (ns.map V.int)
  | [] => by simp only [List.map_nil]; rw [RepL]
  | n :: ns => by
    simp only [List.map_cons]
    rw [RepL]
    exact ⟨_, _, rfl, by rw [Rep], RepL.ints ns⟩
/-- two things of one datum are equal -/
def depth : Dat → Nat
  | .tup l => 1 + dL l
  | .lst l => 1 + dL l
  | _ => 0
where dL : List Dat → Nat
  | [] => 0
  | d :: ds => max (depth d) (dL ds)
theorem depth_mem {d : Dat} : ∀ {ds : List Dat}, d ∈ ds → depth d ≤ depth.dL ds
  | e :: ds, h => by
    rw [depth.dL]
    rcases List.mem_cons.mp h with rfl | h
    · exact Nat.le_max_left _ _
    · exact Nat.le_trans (depth_mem h) (Nat.le_max_right _ _)
section
variable {X : Cx} {pins : List (Addr × Obj)} {σ : St} {H : Hp} {s : Shared}
theorem all_true (n : Nat) : ((List.range n).all fun _ => true) = true := by simp
theorem eqAt_D (I : Inv X pins σ H s) : ∀ (n : Nat) (d : Dat), depth d ≤ n → ∀ (v v' : V) (u u' : Value) (A : Around), Rep H d v → Rep H d v' → RelV v u → RelV v' u' → A.units + n < cLine → SeqAt.EqAt A s u u' true := by
  intro n
  induction n with
  | zero =>
    intro d hd v v' u u' A h h' r r' hu
    cases d with
    | non => rw [Rep] at h h'; subst h h'; cases r; cases r'; exact SeqAt.EqAt.same _
    | bl b => rw [Rep] at h h'; subst h h'; cases r; cases r'; exact SeqAt.EqAt.same _
    | int i => rw [Rep] at h h'; subst h h'; obtain ⟨t, rfl⟩ := r; obtain ⟨t', rfl⟩ := r'; have := SeqAt.EqAt.int_int (A := A) (s := s) i t i t'; simpa using this
    | str x => rw [Rep] at h h'; subst h h'; obtain ⟨t, rfl⟩ := r; obtain ⟨t', rfl⟩ := r'; have := SeqAt.EqAt.str_str (A := A) (s := s) x t x t'; simpa using this
    | tup l => rw [depth] at hd; omega
    | lst l => rw [depth] at hd; omega
  | succ n ih =>
    intro d hd v v' u u' A h h' r r' hu
    cases d with
    | non => rw [Rep] at h h'; subst h h'; cases r; cases r'; exact SeqAt.EqAt.same _
    | bl b => rw [Rep] at h h'; subst h h'; cases r; cases r'; exact SeqAt.EqAt.same _
    | int i => rw [Rep] at h h'; subst h h'; obtain ⟨t, rfl⟩ := r; obtain ⟨t', rfl⟩ := r'; have := SeqAt.EqAt.int_int (A := A) (s := s) i t i t'; simpa using this
    | str x => rw [Rep] at h h'; subst h h'; obtain ⟨t, rfl⟩ := r; obtain ⟨t', rfl⟩ := r'; have := SeqAt.EqAt.str_str (A := A) (s := s) x t x t'; simpa using this
    | tup l =>
      rw [Rep] at h h'
      obtain ⟨p, vs, rfl, hp, rl⟩ := h
      obtain ⟨p', vs', rfl, hp', rl'⟩ := h'
      cases r
      cases r'
      rw [depth] at hd
      by_cases hpp : p = p'
      · subst hpp; exact SeqAt.EqAt.same _
      obtain ⟨its, rv, pl, hz⟩ := I.tuple (SqT.of hp)
      obtain ⟨its', rv', pl', hz'⟩ := I.tuple (SqT.of hp')
      have e1 := rl.length
      have e2 := rl'.length
      have l1 := rv.length
      have l2 := rv'.length
      have R := SeqAt.RcAt.tuples (A := A) (e := fun _ => true) pl pl' (by omega) (fun j h1 h2 => ?_)
      · simp only [List.size_toArray, all_true, Bool.true_and] at R
        rw [show (its.length == its'.length) = true by simp; omega] at R
        exact .of_refs hpp R
      · rw [List.size_toArray] at h1 h2
        obtain ⟨d, ed⟩ : ∃ d, l[j]? = some d := ⟨l[j]'(by omega), by simp⟩
        obtain ⟨v1, f1, q1⟩ := rl.at ed
        obtain ⟨v2, f2, q2⟩ := rl'.at ed
        obtain ⟨u1, g1, w1⟩ := rv.get f1
        obtain ⟨u2, g2, w2⟩ := rv'.get f2
        have a1 : its.toArray[j] = u1 := by simpa [List.getElem?_eq_getElem h1] using g1
        have a2 : its'.toArray[j] = u2 := by simpa [List.getElem?_eq_getElem h2] using g2
        rw [a1, a2]
        have := depth_mem (List.mem_of_getElem? ed)
        exact ih d (by omega) v1 v2 u1 u2 A.in1 q1 q2 w1 w2 (by show A.units + 1 + n < cLine; omega)
    | lst l =>
      rw [Rep] at h h'
      obtain ⟨p, vs, rfl, hp, rl⟩ := h
      obtain ⟨p', vs', rfl, hp', rl'⟩ := h'
      cases r
      cases r'
      rw [depth] at hd
      by_cases hpp : p = p'
      · subst hpp; exact SeqAt.EqAt.same _
      obtain ⟨its, rv, pl, hz⟩ := I.list (SqL.of hp)
      obtain ⟨its', rv', pl', hz'⟩ := I.list (SqL.of hp')
      have e1 := rl.length
      have e2 := rl'.length
      have l1 := rv.length
      have l2 := rv'.length
      have R := SeqAt.RcAt.lists (A := A) (e := fun _ => true) pl.isList pl'.isList (by simp only [List.size_toArray]; omega) (by omega) (fun j h1 h2 => ?_)
      · rw [all_true] at R
        exact .of_refs hpp R
      · rw [List.size_toArray] at h1 h2
        obtain ⟨d, ed⟩ : ∃ d, l[j]? = some d := ⟨l[j]'(by omega), by simp⟩
        obtain ⟨v1, f1, q1⟩ := rl.at ed
        obtain ⟨v2, f2, q2⟩ := rl'.at ed
        obtain ⟨u1, g1, w1⟩ := rv.get f1
        obtain ⟨u2, g2, w2⟩ := rv'.get f2
        have a1 : its.toArray[j] = u1 := by simpa [List.getElem?_eq_getElem h1] using g1
        have a2 : its'.toArray[j] = u2 := by simpa [List.getElem?_eq_getElem h2] using g2
        rw [a1, a2]
        have := depth_mem (List.mem_of_getElem? ed)
        exact ih d (by omega) v1 v2 u1 u2 A.in1 q1 q2 w1 w2 (by show A.units + 1 + n < cLine; omega)
end
section
variable {X : Cx}
/-- x == y, where both stand for the tuple or list d -/
def rEqD (b : Bool) : R2 := fun x y H Q => ∃ d, Rep H d x ∧ Rep H d y ∧ (∃ p, x = .ref p) ∧ depth d ≤ 40 ∧ Q (.bl b) H
theorem seqs_D {pins : List (Addr × Obj)} {σ : St} {H : Hp} {s : Shared} {d : Dat} {p p' : Addr} (I : Inv X pins σ H s) (hu : X.A.units + 64 < cLine) (h : Rep H d (.ref p)) (h' : Rep H d (.ref p')) (hd : depth d ≤ 40) :
    (∃ its its' : List Value, IsTup s.heap p its.toArray ∧ IsTup s.heap p' its'.toArray ∧ its.length = its'.length ∧ ∀ j (h1 : j < its.toArray.size) (h2 : j < its'.toArray.size), SeqAt.EqAt X.A.in1 s its.toArray[j] its'.toArray[j] true) ∨
    (∃ its its' : List Value, s.heap.IsList p its.toArray ∧ s.heap.IsList p' its'.toArray ∧ its.length = its'.length ∧ ∀ j (h1 : j < its.toArray.size) (h2 : j < its'.toArray.size), SeqAt.EqAt X.A.in1 s its.toArray[j] its'.toArray[j] true) := by
  cases d with
  | non => rw [Rep] at h; cases h
  | bl b => rw [Rep] at h; cases h
  | int i => rw [Rep] at h; cases h
  | str x => rw [Rep] at h; cases h
  | tup l =>
    left
    rw [Rep] at h h'
    obtain ⟨_, vs, e, hp, rl⟩ := h
    cases e
    obtain ⟨_, vs', e, hp', rl'⟩ := h'
    cases e
    rw [depth] at hd
    obtain ⟨its, rv, pl, hz⟩ := I.tuple (SqT.of hp)
    obtain ⟨its', rv', pl', hz'⟩ := I.tuple (SqT.of hp')
    have e1 := rl.length
    have e2 := rl'.length
    have l1 := rv.length
    have l2 := rv'.length
    refine ⟨its, its', pl, pl', by omega, fun j h1 h2 => ?_⟩
    rw [List.size_toArray] at h1 h2
    obtain ⟨d, ed⟩ : ∃ d, l[j]? = some d := ⟨l[j]'(by omega), by simp⟩
    obtain ⟨v1, f1, q1⟩ := rl.at ed
    obtain ⟨v2, f2, q2⟩ := rl'.at ed
    obtain ⟨u1, g1, w1⟩ := rv.get f1
    obtain ⟨u2, g2, w2⟩ := rv'.get f2
    have a1 : its.toArray[j] = u1 := by simpa [List.getElem?_eq_getElem h1] using g1
    have a2 : its'.toArray[j] = u2 := by simpa [List.getElem?_eq_getElem h2] using g2
    rw [a1, a2]
    have := depth_mem (List.mem_of_getElem? ed)
    exact eqAt_D I 40 d (by omega) v1 v2 u1 u2 X.A.in1 q1 q2 w1 w2 (by show X.A.units + 1 + 40 < cLine; omega)
  | lst l =>
    right
    rw [Rep] at h h'
    obtain ⟨_, vs, e, hp, rl⟩ := h
    cases e
    obtain ⟨_, vs', e, hp', rl'⟩ := h'
    cases e
    rw [depth] at hd
    obtain ⟨its, rv, pl, hz⟩ := I.list (SqL.of hp)
    obtain ⟨its', rv', pl', hz'⟩ := I.list (SqL.of hp')
    have e1 := rl.length
    have e2 := rl'.length
    have l1 := rv.length
    have l2 := rv'.length
    refine ⟨its, its', pl.isList, pl'.isList, by omega, fun j h1 h2 => ?_⟩
    rw [List.size_toArray] at h1 h2
    obtain ⟨d, ed⟩ : ∃ d, l[j]? = some d := ⟨l[j]'(by omega), by simp⟩
    obtain ⟨v1, f1, q1⟩ := rl.at ed
    obtain ⟨v2, f2, q2⟩ := rl'.at ed
    obtain ⟨u1, g1, w1⟩ := rv.get f1
    obtain ⟨u2, g2, w2⟩ := rv'.get f2
    have a1 : its.toArray[j] = u1 := by simpa [List.getElem?_eq_getElem h1] using g1
    have a2 : its'.toArray[j] = u2 := by simpa [List.getElem?_eq_getElem h2] using g2
    rw [a1, a2]
    have := depth_mem (List.mem_of_getElem? ed)
    exact eqAt_D I 40 d (by omega) v1 v2 u1 u2 X.A.in1 q1 q2 w1 w2 (by show X.A.units + 1 + 40 < cLine; omega)
theorem op_eqD (hu : X.A.units + 64 < cLine) : OpR X (compareOp .Eq) (rEqD true) := by
  intro pins s σ H x y v u Q I rx ry h
  obtain ⟨d, h1, h2, ⟨p, rfl⟩, hd, q⟩ := h
  obtain ⟨p', rfl⟩ : ∃ p', y = .ref p' := by
    cases d with
    | non => rw [Rep] at h1; cases h1
    | bl b => rw [Rep] at h1; cases h1
    | int i => rw [Rep] at h1; cases h1
    | str x => rw [Rep] at h1; cases h1
    | tup l => rw [Rep] at h2; obtain ⟨p', _, e, _⟩ := h2; exact ⟨p', e⟩
    | lst l => rw [Rep] at h2; obtain ⟨p', _, e, _⟩ := h2; exact ⟨p', e⟩
  cases rx
  cases ry
  rcases seqs_D I hu h1 h2 hd with ⟨its, its', a, b, e, k⟩ | ⟨its, its', a, b, e, k⟩
  · refine SeqAt.eq_tupleAt (e := fun _ => true) a b (by omega) k ⟨.bl true, H, I, ?_, q⟩
    show Value.bool _ = Value.bool true
    rw [all_true, List.size_toArray, List.size_toArray, e]
    simp
  · refine SeqAt.eq_listAt (e := fun _ => true) a b (by simp only [List.size_toArray]; exact e) (by omega) k ⟨.bl true, H, I, ?_, q⟩
    show Value.bool _ = Value.bool true
    rw [all_true]
theorem op_neD (hu : X.A.units + 64 < cLine) : OpR X (compareOp .NotEq) (rEqD false) := by
  intro pins s σ H x y v u Q I rx ry h
  obtain ⟨d, h1, h2, ⟨p, rfl⟩, hd, q⟩ := h
  obtain ⟨p', rfl⟩ : ∃ p', y = .ref p' := by
    cases d with
    | non => rw [Rep] at h1; cases h1
    | bl b => rw [Rep] at h1; cases h1
    | int i => rw [Rep] at h1; cases h1
    | str x => rw [Rep] at h1; cases h1
    | tup l => rw [Rep] at h2; obtain ⟨p', _, e, _⟩ := h2; exact ⟨p', e⟩
    | lst l => rw [Rep] at h2; obtain ⟨p', _, e, _⟩ := h2; exact ⟨p', e⟩
  cases rx
  cases ry
  rcases seqs_D I hu h1 h2 hd with ⟨its, its', a, b, e, k⟩ | ⟨its, its', a, b, e, k⟩
  · refine SeqAt.RcNeAt.tuples (A := X.A) (e := fun _ => true) a b (by omega) k X.prog X.w X.xe _ ⟨.bl false, H, I, ?_, q⟩
    show Value.bool _ = Value.bool false
    rw [all_true, List.size_toArray, List.size_toArray, e]
    simp
  · refine SeqAt.RcNeAt.lists (A := X.A) (e := fun _ => true) a b (by simp only [List.size_toArray]; exact e) (by omega) k X.prog X.w X.xe _ ⟨.bl false, H, I, ?_, q⟩
    show Value.bool _ = Value.bool false
    rw [all_true]
    rfl
/-- != of two tuples of flat values -/
def rNeT : R2 := fun x y H Q => ∃ p q xs ys, x = .ref p ∧ y = .ref q ∧ H p = some (.tup xs) ∧ H q = some (.tup ys) ∧ xs.all flatV = true ∧ ys.all flatV = true ∧ Q (.bl (!eqL xs ys)) H
end
end L2
/-! Lists of ints in order. -/
namespace Nm
def ins (x : Int) : List Int → List Int
  | [] => [x]
  | y :: r => if x ≤ y then x :: y :: r else y :: ins x r
def srt : List Int → List Int
  | [] => []
  | x :: r => ins x (srt r)
theorem ins_perm (x : Int) : ∀ l, (ins x l).Perm (x :: l)
  | [] => .refl _
  | y :: r => by
    unfold ins
    split
    · exact .refl _
    · exact ((ins_perm x r).cons y).trans (.swap ..)
end Nm
/-! sum, sorted; a dict's keys walked. -/
namespace L2
open PySem PySem.Spec PyProof.Rows PySem.W
section
variable {X : Cx}
/-- the keys of a dict, all ints -/
def keysI (kvs : List (Key × V)) : List Int := kvs.map fun p => match p.1 with | .inl i => i | .inr _ => 0
def allI (kvs : List (Key × V)) : Prop := ∀ p ∈ kvs, ∃ i, p.1 = Sum.inl i
end

/-! ### a dict held still, and let go -/
section
variable {X : Cx} {pins : List (Addr × Obj)} {σ : St} {H : Hp} {s : Shared}
theorem Inv.swap {ad : Addr} {o o' : HO} (I : Inv X pins σ H s) (e : H ad = some o) (n1 : ∀ xs, o ≠ .tup xs) (n2 : ∀ x, o ≠ .own x) (n3 : ∀ a b, X.H₀ ad ≠ some (.frz a b)) (n4 : ∀ ps, o ≠ .tbl ps) (ok : ObjOk X.prog X.w (upd H ad o') s.heap ad o') : Inv X pins σ (upd H ad o') s := by
  have ne : ∀ b, H b = none → b ≠ ad := fun b h z => by rw [z, e] at h; cases h
  refine ⟨I.ok, I.os, I.bare, ⟨I.base.keep, I.base.slot, fun b ob q m hx => ?_, I.base.there, fun b xs q => ?_, fun b ob u q => ?_, fun b ps q => ?_⟩, I.loc, I.cell, ?_, fun x c q => ?_, fun p hp => ?_, fun b u q => ?_, I.len⟩
  · have z := I.base.free b ob q m hx
    rw [upd_ne (ne b z)]; exact z
  · have z := I.base.tups b xs q
    rw [upd_ne (fun y => by rw [y, e] at z; exact n1 xs (Option.some.inj z))]; exact z
  · have z := I.base.frzs b ob u q
    rw [upd_ne (fun y => by rw [y] at q; exact n3 _ _ q)]; exact z
  · obtain ⟨mo, z⟩ := I.base.tbls b ps q
    exact ⟨mo, by rw [upd_ne (fun y => by rw [y, e] at z; exact n4 _ (Option.some.inj z))]; exact z⟩
  · rw [upd_ne (ne _ I.free)]; exact I.free
  · rw [upd_ne (ne _ (I.freeC x c q))]; exact I.freeC x c q
  · obtain ⟨a, b, c⟩ := I.pin p hp
    exact ⟨a, by rw [upd_ne (ne _ b)]; exact b, c⟩
  · by_cases hb : b = ad
    · subst hb
      rw [upd_same] at q
      cases q
      exact ok
    · rw [upd_ne hb] at q
      exact (I.hok b u q).stay (fun _ _ _ z => z) (fun c r => by rw [upd_ne (fun y => by rw [y, e] at r; exact n2 _ (Option.some.inj r))]; exact r) fun c xs r => by rw [upd_ne (fun y => by rw [y, e] at r; exact n1 _ (Option.some.inj r))]; exact r
/-- let go -/
def Thaw (H₀ : Hp) (q : Hp → Prop) (H : Hp) : Prop := ∃ d o kvs, H d = some (.frz o (.dK kvs)) ∧ (∀ a b, H₀ d ≠ some (.frz a b)) ∧ q (upd H d (.dK kvs))
end
def Itd (d : Addr) (o : Obj) (kvs : List (Key × V)) : It :=
  ⟨fun i H => H d = some (.frz o (.dK kvs)) ∧ i < kvs.length, fun i H x H' => H' = H ∧ ∃ p, kvs[i]? = some p ∧ x = kV p.1, fun i H => H d = some (.frz o (.dK kvs)) ∧ i = kvs.length⟩
section
variable {X : Cx} {x : Str} {xpos : Pos}
def iDict (tl : TE) : TI := fun σ H R => tl σ H fun v H1 => ∃ d kvs, v = .ref d ∧ H1 d = some (.dK kvs) ∧ ∀ o, R (Itd d o kvs) (upd H1 d (.frz o (.dK kvs)))
end
end L2
/-! THE SAME RULES, the fragment named apart (within a block or a suite the context is not a letter). -/
namespace L2
open PySem PySem.Spec PyProof.Rows PySem.W
section
variable {X : Cx} {K : PySem.W.Frag}
theorem pi_listK {tg l : Expr} {tl : TE} (hl : PE X l tl) (hK : X.K = K := by rfl) : PI X tg l (iList K tl) := by subst hK; exact pi_list hl
theorem pi_zipK {elts : List Expr} {kk : Nat} {tpos : Pos} {a b : Expr} {ta : TA} {p pos : Pos} (hg : Gl X "zip") (hm : X.mg "zip" = none) (ha : PA X [a, b] ta) (n1 : noStar a = true := by rfl) (n2 : noStar b = true := by rfl) (hK : X.K = K := by rfl) :
    PI X (.Tuple elts kk tpos) (.Call (.Name "zip" p) [a, b] [] pos) (iZip K ta) := by subst hK; exact pi_zip hg hm ha (by rw [se n1, se n2]; rfl) (by rw [se n2]; rfl)
theorem pi_enumerateK {elts : List Expr} {kk : Nat} {tpos : Pos} {a : Expr} {ta : TA} {p pos : Pos} (hg : Gl X "enumerate") (hm : X.mg "enumerate" = none) (ha : PA X [a] ta) (n1 : noStar a = true := by rfl) (hK : X.K = K := by rfl) :
    PI X (.Tuple elts kk tpos) (.Call (.Name "enumerate" p) [a] [] pos) (iEnum K ta) := by subst hK; exact pi_enumerate hg hm ha (by rw [se n1]; rfl)
theorem pg_tupK {es : List Expr} {k : Nat} {t : TGs} {n : Nat} {pos : Pos} (hc : X.calm = true) (h : PGs X es t) (hn : (assignEach es X.env).length = n := by rfl) (hst : (assignEach es X.env).findIdx? (·.1) = none := by rfl) (hK : X.K = K := by rfl) : PG X (.Tuple es k pos) (gTup K n t) := by
  subst hK; exact pg_tup hc h hn hst
theorem ix_listSK (hK : X.K = K := by rfl) : IxR X (rIxQ K) := by subst hK; exact ix_listS
theorem call_lenQK (hK : X.K = K := by rfl) : CallR X (.builtin "len") (fun xs H Q => ∃ p ns, xs = [.ref p] ∧ SqL K H p (List.map V.int ns) ∧ Q (.int (List.length ns : Nat)) H) := by subst hK; exact call_lenQ
theorem call_list_ofK (hK : X.K = K := by rfl) : CallR X (.type "list") (fun xs H Q => ∃ p ys, xs = [.ref p] ∧ (SqL K H p ys ∨ SqT K H p ys) ∧ ∀ l, H l = none → Q (.ref l) (upd H l (.lst ys))) := by subst hK; exact call_list_of
theorem call_isTK (hK : X.K = K := by rfl) : CallR X (.builtin "isinstance") (fun xs H Q => ∃ x c t b, xs = [x, .ty c] ∧ TyOf K H x t ∧ PySem.W.kitOne K t (.type c) = some b ∧ Q (.bl b) H) := by subst hK; exact call_isT
theorem sl_listK (hK : X.K = K := by rfl) : SlR X (rSlL K) := by subst hK; exact sl_list
theorem MtM.r {id : String} {r : V → List V → Hp → VK → Prop} (h : MtM X id r) : MtR X id r := h
end
end L2
/-! Numbers by keys: sums of weights. -/
namespace Nm
abbrev Ws := List (Int × Int)
def keys (ws : Ws) : List Int := ws.map (·.1)
def look : Ws → Int → Int
  | [], _ => 0
  | p :: r, k => if p.1 = k then p.2 else look r k
def put : Ws → Int → Int → Ws
  | [], k, v => [(k, v)]
  | p :: r, k, v => if p.1 = k then (k, v) :: r else p :: put r k v
def tot (ws : Ws) : Int := (ws.map (·.2)).sum
def addk (ws : Ws) (k x : Int) : Ws := put ws k (look ws k + x)
def addAll (ws ps : Ws) : Ws := ps.foldl (fun acc p => addk acc p.1 p.2) ws
def prs (as bs : Ws) : Ws := as.flatMap fun a => bs.map fun b => (a.1 + b.1, a.2 * b.2)
def bothW (as bs : Ws) : Ws := addAll [] (prs as bs)
def cnt (ps : Ws) (s : Int) : Int := (ps.map fun p => if p.1 = s then p.2 else 0).sum

/-- one list of weights, over another bottom: the same keys in any order, the weights times T are the others times B -/
structure Over (as ws : Ws) (B T : Int) : Prop where
  nd : (keys ws).Nodup
  perm : (keys as).Perm (keys ws)
  val : ∀ k ∈ keys ws, look as k * T = look ws k * B
/-- the rows of a table: each value's share of the bottom -/
def rowsOf (ws : Ws) (B : Int) : List (Int × Int × Int) := (srt (keys ws)).map fun v => (v, st (look ws v) B, sb (look ws v) B)
theorem Over.refl {ws : Ws} (h : (keys ws).Nodup) (B : Int) : Over ws ws B B := ⟨h, .refl _, fun _ _ => rfl⟩
/-- the weights that a table's rows stand for, over a bottom that all theirs divide -/
def weigh (rows : List (Int × Int × Int)) (B : Int) : Ws := rows.map fun r => (r.1, r.2.1 * (B / r.2.2))
end Nm
/-! Weights by keys as a dict; rows of a table as data. -/
namespace L2
open PySem PySem.Spec PyProof.Rows
def enc (ws : Nm.Ws) : List (Key × V) := ws.map fun p => (Sum.inl p.1, V.int p.2)
/-- rows (value, top, bottom) as tuples of a value and a share -/
def rowD (r : Int × Int × Int) : Dat := .tup [.int r.1, .tup [.int r.2.1, .int r.2.2]]
def rowsD (rows : List (Int × Int × Int)) : Dat := .lst (rows.map rowD)
def wrowD (p : Int × Int) : Dat := .tup [.int p.1, .int p.2]
def wrowsD (ws : Nm.Ws) : Dat := .lst (ws.map wrowD)
theorem rep_lst {H : Hp} {ds : List Dat} {v : V} : Rep H (.lst ds) v ↔ ∃ p vs, v = .ref p ∧ H p = some (.lst vs) ∧ RepL H ds vs := by rw [Rep]
/-- lists and tuples stay -/
def Sqs (H H' : Hp) : Prop := ∀ p xs, (H p = some (.tup xs) → H' p = some (.tup xs)) ∧ (H p = some (.lst xs) → H' p = some (.lst xs))
mutual
theorem Rep.sqs {H H' : Hp} (s : Sqs H H') : ∀ {d : Dat} {v : V}, Rep H d v → Rep H' d v
  | .non, _, h => by rw [Rep] at *; exact h
  | .bl _, _, h => by rw [Rep] at *; exact h
  | .int _, _, h => by rw [Rep] at *; exact h
  | .str _, _, h => by rw [Rep] at *; exact h
  | .tup _, _, h => by
    rw [Rep] at *
    obtain ⟨p, vs, e, hp, r⟩ := h
    exact ⟨p, vs, e, (s _ _).1 hp, RepL.sqs s r⟩
  | .lst _, _, h => by
    rw [Rep] at *
    obtain ⟨p, vs, e, hp, r⟩ := h
    exact ⟨p, vs, e, (s _ _).2 hp, RepL.sqs s r⟩
theorem RepL.sqs {H H' : Hp} (s : Sqs H H') : ∀ {ds : List Dat} {vs : List V}, RepL H ds vs → RepL H' ds vs
  | [], _, h => by rw [RepL] at *; exact h
  | _ :: _, _, h => by
    rw [RepL] at *
    obtain ⟨v, r, e, h1, h2⟩ := h
    exact ⟨v, r, e, Rep.sqs s h1, RepL.sqs s h2⟩
end
theorem none_of {H H' : Hp} (s : Same H H') {p : Addr} (h : H' p = none) : H p = none := by
  cases e : H p with
  | none => rfl
  | some o => rw [s p o e] at h; cases h
end L2
/-! Means and parts of weights; comprehensions that yield numbers and leave the heap. -/
namespace Nm
def mom (ws : Ws) : Int := (ws.map fun p => p.1 * p.2).sum
def abv (n : Int) (ws : Ws) : Int := (ws.map fun p => if n ≤ p.1 then p.2 else 0).sum
end Nm
namespace L2
open PySem PySem.Spec PyProof.Rows
/-- numbers, one name -/
theorem comp_ints {α : Type} {J : It} {tc : TT} {te : TE} {tl : St} {H1 : Hp} {fin : List V → Hp → Prop} {Item : Nat → V → Hp → Hp → Prop} (as : List α) (f : α → Option Int) (S : Src J (Same H1) as.length Item) (sub : ∀ i x H H3, Item i x H H3 → H3 = H) (hz : as.length ≤ sizeLine)
    (hs : ∀ i a x, as[i]? = some a → Item i x H1 H1 → ∀ (Y : VK) (N : Hp → Prop), (∀ z, f a = some z → Y (.int z) H1) → (f a = none → N H1) → tc (some x :: tl) H1 fun b H5 => if b = true then te (some x :: tl) H5 Y else N H5)
    (hfin : fin (List.map V.int (as.filterMap f)) H1) : tBlock J (gName 0) tc te (none :: tl) H1 fin := by
  refine block_src S (fun σ => ∃ w0, σ = w0 :: tl) ⟨_, rfl⟩ (fun i ys H => H = H1 ∧ ys = List.map V.int ((as.take i).filterMap f)) ⟨rfl, by simp⟩ hz ?_ ?_
  · rintro i x σ H ys H3 Q N hi sm ⟨rfl, rfl⟩ hl ⟨w0, rfl⟩ it kq kn
    obtain rfl := sub _ _ _ _ it
    have ea : as[i]? = some as[i] := List.getElem?_eq_getElem hi
    refine hs i _ x ea it _ _ (fun z e => kq _ _ _ ⟨_, rfl⟩ sm ⟨rfl, ?_⟩) (fun e => kn _ _ ⟨_, rfl⟩ sm ⟨rfl, ?_⟩)
    · rw [List.take_add_one, ea, List.filterMap_append, List.map_append]
      simp [e]
    · rw [List.take_add_one, ea, List.filterMap_append, List.map_append]
      simp [e]
  · rintro ys H sm ⟨rfl, rfl⟩ hl
    rw [List.take_of_length_le (Nat.le_refl _)]
    exact hfin
end L2
/-! sum of a dict's values; all, any of truths. -/
namespace L2
open PySem PySem.Spec PyProof.Rows PySem.W
section
variable {X : Cx} {K : PySem.W.Frag}
/-! ### sum(d.values()) -/
def tSumV (to : TE) : TE := fun σ H Q => to σ H fun v H1 => ∃ d kvs ns, v = .ref d ∧ H1 d = some (.dK kvs) ∧ kvs.map (·.2) = List.map V.int ns ∧ Q (.int ns.sum) H1
/-- one statement, then the rest, the rest kept apart -/
theorem seq_gen {a b : TS} {D : Ends} {σ : St} {H : Hp} (C : St → Hp → Prop) (hb : ∀ σ' H', C σ' H' → b D σ' H') (ha : ∀ N : St → Hp → Prop, (∀ σ' H', C σ' H' → N σ' H') → a { D with nx := N } σ H) : tSeq a b D σ H := ha _ hb
end
end L2
namespace Nm
/-- the rows of some weight, and the weights by values that they come to -/
def pos (ps : Ws) : Ws := ps.filter fun p => decide (0 < p.2)
def wof (ps : Ws) : Ws := addAll [] (pos ps)
def bad (ps : Ws) : Prop := (∃ p ∈ ps, p.2 < 0) ∨ pos ps = []
end Nm
/-! Texts: join, startswith, find, split, f-strings; in a module's dict. -/
namespace L2
open PySem PySem.Spec PyProof.Rows PySem.W
section
variable {X : Cx} {K : PySem.W.Frag}
def rJoin (K : PySem.W.Frag) : V → List V → Hp → VK → Prop := fun x xs H Q => ∃ sep p ts, x = .str sep ∧ xs = [.ref p] ∧ SqL K H p (List.map V.str ts) ∧ JoinOk sep ts = true ∧ Q (.str (Txt.join sep ts)) H
/-! ### f-strings -/
abbrev TJ := Str → TE
def PJ (X : Cx) (es : List Expr) (t : TJ) : Prop :=
  ∀ (pins : List (Addr × Obj)) (s : Shared) (σ : St) (H : Hp) (acc : Str) (Q : VK), Inv X pins σ H s → acc.length ≤ sizeLine → t acc σ H Q → wpAny (model X.prog X.w) X.A (joinParts acc (evalEach es X.env)) (EP X pins σ Q) X.xe s
def jNil : TJ := fun acc _ H Q => Q (.str acc) H
def jLit (x : Str) (t : TJ) : TJ := fun acc σ H Q => (acc ++ x).length ≤ sizeLine ∧ t (acc ++ x) σ H Q
def jInt (te : TE) (t : TJ) : TJ := fun acc σ H Q => te σ H fun v H1 => ∃ i, v = .int i ∧ i.natAbs.log2 < 1920 ∧ (acc ++ toString i).length ≤ sizeLine ∧ t (acc ++ toString i) σ H1 Q
def jStr (te : TE) (t : TJ) : TJ := fun acc σ H Q => te σ H fun v H1 => ∃ z, v = .str z ∧ z.length ≤ sizeLine ∧ (acc ++ z).length ≤ sizeLine ∧ t (acc ++ z) σ H1 Q
def tJoined (t : TJ) : TE := fun σ H Q => t Str.empty σ H Q
/-! ### in a module's dict of texts -/
def rInMod (K : PySem.W.Frag) (P : Params) : R2 := fun x y H Q => ∃ z a es n, x = .str z ∧ y = .ref a ∧ K.lookup a = some ⟨.type "dict", none, .dict es n, #[]⟩ ∧ KeysLit P es.toList ∧ (a == sysModules) = false ∧ Q (.bl (findBy Value.isStrOf es z).isSome) H
def keyS (e : DictEntry) : Str := match e.key with | .str x _ => x | _ => Str.empty
/-- a module's dict with these texts as keys -/
def MDict (K : PySem.W.Frag) (P : Params) (a : Addr) (ks : List Str) : Prop := ∃ es n, K.lookup a = some ⟨.type "dict", none, .dict es n, #[]⟩ ∧ KeysLit P es.toList ∧ (a == sysModules) = false ∧ es.toList.map keyS = ks
theorem keys_find {P : Params} (z : Str) : ∀ {l : List DictEntry}, KeysLit P l → (l.find? fun d => Value.isStrOf z d.key).isSome = (l.map keyS).any fun k => decide (k = z)
  | [], _ => rfl
  | e :: r, ⟨⟨x, t, e1, _⟩, h⟩ => by
    rw [List.find?_cons, List.map_cons, List.any_cons, ← keys_find z h]
    have k : keyS e = x := by unfold keyS; rw [e1]
    have i : Value.isStrOf z e.key = decide (keyS e = z) := by
      rw [k, e1]
      show (x == z) = decide (x = z)
      by_cases c : x = z
      · simp [c]
      · simp [c]
    rw [i]
    by_cases c : keyS e = z
    · simp [c]
    · simp [c]
theorem MDict.rd {P : Params} {a : Addr} {ks : List Str} (h : MDict K P a ks) {z : Str} {H : Hp} {Q : VK} (q : Q (.bl (ks.any fun k => decide (k = z))) H) : rInMod K P (.str z) (.ref a) H Q := by
  obtain ⟨es, n, hl, hk, lo, e⟩ := h
  refine ⟨z, a, es, n, rfl, rfl, hl, hk, lo, ?_⟩
  have f : (findBy Value.isStrOf es z).isSome = ks.any fun k => decide (k = z) := by
    rw [← e, ← keys_find z hk]
    unfold findBy
    obtain ⟨l⟩ := es
    rw [List.find?_toArray]
    cases l.find? fun d => Value.isStrOf z d.key <;> rfl
  rw [f]
  exact q
end
end L2
/-! BOARDS: places as data; what lies apart from a list that grows; slices of lists. -/
namespace L2
open PySem PySem.Spec PyProof.Rows PySem.W
inductive Pl where
  | fin (w : Int × Int) | thr (w : Int × Int) (ws : List (Int × Int)) | pck (who : Int) (to : List Int)
def plD : Pl → Dat
  | .fin w => .tup [.str (Str.ofString "end"), wrowD w]
  | .thr w ws => .tup [.str (Str.ofString "throw"), wrowD w, .lst (ws.map wrowD)]
  | .pck who to => .tup [.str (Str.ofString "pick"), .int who, .lst (to.map .int)]
def brD (b : List Pl) : Dat := .lst (b.map plD)
theorem depth_flat {ds : List Dat} {n : Nat} (h : ∀ d ∈ ds, depth d ≤ n) : depth.dL ds ≤ n := by
  induction ds with
  | nil => rw [depth.dL]; omega
  | cons d ds ih =>
    rw [depth.dL]
    have := h d List.mem_cons_self
    have := ih fun e he => h e (List.mem_cons_of_mem _ he)
    omega
/-- the heap without one object -/
def hid (H : Hp) (p : Addr) : Hp := fun a => if a = p then none else H a
theorem hid_ne {H : Hp} {p a : Addr} (h : a ≠ p) : hid H p a = H a := if_neg h
theorem hid_upd {H : Hp} {p : Addr} {o : HO} : Same (hid H p) (upd H p o) := fun a u e => by
  unfold hid at e
  by_cases h : a = p
  · rw [if_pos h] at e; cases e
  · rw [if_neg h] at e; rw [upd_ne h]; exact e
theorem hid_sub {H : Hp} {p : Addr} : Same (hid H p) H := fun a u e => by
  unfold hid at e
  by_cases h : a = p
  · rw [if_pos h] at e; cases e
  · rw [if_neg h] at e; exact e
theorem same_hid {H0 H : Hp} {p : Addr} (s : Same H0 H) (n : H0 p = none) : Same H0 (hid H p) := fun a u e => by
  rw [hid_ne (fun z => by rw [z, n] at e; cases e)]
  exact s _ _ e
theorem hid_mono {H H' : Hp} {p : Addr} (s : Same H H') : Same (hid H p) (hid H' p) := fun a u e => by
  unfold hid at *
  by_cases h : a = p
  · rw [if_pos h] at e; cases e
  · rw [if_neg h] at e ⊢; exact s _ _ e
theorem same_upd_of {H0 H : Hp} {p : Addr} {o : HO} (s : Same H0 H) (n : H0 p = none) : Same H0 (upd H p o) := (same_hid s n).trans hid_upd
theorem cut_take {xs : List V} {k : Int} (h : 0 ≤ k) : cutV xs none (some k) = xs.take k.toNat := by
  unfold cutV
  obtain ⟨n, rfl⟩ := Int.eq_ofNat_of_zero_le h
  rw [HT.sIx_none, show ((n : Nat) : Int) = Int.ofNat n from rfl]
  rw [show HT.sIx xs.length xs.length (some (Int.ofNat n)) = min n xs.length from HT.sIx_nat _ _ n]
  rw [List.drop_zero, Nat.sub_zero]
  show xs.take (min n xs.length) = xs.take n
  by_cases h : n ≤ xs.length
  · rw [Nat.min_eq_left h]
  · rw [Nat.min_eq_right (by omega), List.take_of_length_le (Nat.le_refl _), List.take_of_length_le (by omega)]
/-! ### while, by states; comprehensions whose blocks lay objects -/
/-! ### min, max of a list; lists of plain values compared -/
section
variable {X : Cx} {K : PySem.W.Frag}
def rEqF : R2 := fun x y H Q => ∃ p q xs ys, x = .ref p ∧ y = .ref q ∧ H p = some (.lst xs) ∧ H q = some (.lst ys) ∧ xs.all flatV = true ∧ ys.all flatV = true ∧ Q (.bl (eqL xs ys)) H
end
end L2
/-! list(reversed(x)), {k: v}, list of a dict. -/
namespace PySem
section
variable {prog : Program} {w : World} {A : Around} {E : Value → Shared → Prop} {s : Shared}
end
end PySem
namespace L2
open PySem PySem.Spec PyProof.Rows PySem.W
section
variable {X : Cx} {K : PySem.W.Frag}
def tRev (K : PySem.W.Frag) (te : TE) : TE := fun σ H Q => te σ H fun v H1 => ∃ p xs, v = .ref p ∧ SqL K H1 p xs ∧ ∀ l, H1 l = none → Q (.ref l) (upd H1 l (.lst xs.reverse))
/-- {k: v} -/
def tD1 (tk tv : TE) : TE := fun σ H Q => ∀ d, H d = none → tk σ (upd H d (.dK [])) fun x H1 => tv σ H1 fun v H2 => ∃ k, x = kV k ∧ H2 d = some (.dK []) ∧ Q (.ref d) (upd H2 d (.dK [(k, v)]))
end
end L2
/-! TEXTS cut apart, gone through sign by sign, read as numbers. -/
namespace PySem
open Builtin Builtin.Str
section
variable {prog : Program} {w : World} {A : Around} {E : Value → Shared → Prop} {s : Shared} {x y : Str} {t u : Tok} {Q : Value → Shared → Prop}
end
end PySem
namespace L2
open PySem PySem.Spec PyProof.Rows PySem.W
section
variable {X : Cx} {K : PySem.W.Frag}
/-- the signs of a text -/
def Its (z : Str) : It := ⟨fun i _ => i < z.cps.size, fun i H x H' => H' = H ∧ ∃ c, z.cps[i]? = some c ∧ x = .str ⟨#[c]⟩, fun i _ => z.cps.size ≤ i⟩
def iStr (tl : TE) : TI := fun σ H R => tl σ H fun x H1 => ∃ z, x = .str z ∧ z.cps.all (· < 128) = true ∧ R (Its z) H1
/-- z[lo:hi] of a text -/
def rSlS : V → Option Int → Option Int → Hp → VK → Prop := fun x lo hi H Q => ∃ z, x = .str z ∧ z.length ≤ sizeLine ∧ Q (.str (Txt.slice z lo hi)) H
end
end L2
namespace PySem
end PySem
/-! TEXTS cut apart by " + "; a module's dict of tuples read by []; tuples put together. -/
namespace PySem
open Builtin Builtin.Str StrLaws
abbrev PLUS : Str := ⟨#[32, 43, 32]⟩
end PySem
namespace L2
open PySem PySem.Spec PyProof.Rows PySem.W
section
variable {X : Cx} {K : PySem.W.Frag}
/-- D[z], D a module's dict, z one of its texts -/
def tMGet (K : PySem.W.Frag) (P : Params) (td ty : TE) : TE := fun σ H Q => td σ H fun x H1 => ty σ H1 fun y H2 => ∃ z a p es n, x = .ref a ∧ y = .str z ∧ K.lookup a = some ⟨.type "dict", none, .dict es n, #[]⟩ ∧ KeysLit P es.toList ∧ PySem.W.nsIn K a z = some (some (.ref p)) ∧ Q (.ref p) H2
def rNotMod (K : PySem.W.Frag) (P : Params) : R2 := fun x y H Q => ∃ z a es n, x = .str z ∧ y = .ref a ∧ K.lookup a = some ⟨.type "dict", none, .dict es n, #[]⟩ ∧ KeysLit P es.toList ∧ (a == sysModules) = false ∧ Q (.bl (!(findBy Value.isStrOf es z).isSome)) H
/-- one row of a module's dict of tuples of two numbers -/
def MRow (K : PySem.W.Frag) (a : Addr) (z : Str) (i j : Int) : Prop := ∃ p, PySem.W.nsIn K a z = some (some (.ref p)) ∧ ∃ dd n sl t u, K.lookup p = some ⟨.type "tuple", dd, .seq #[.int i t, .int j u] n, sl⟩
theorem MRow.rd {P : Params} {a : Addr} {ks : List Str} {z : Str} {i j : Int} (r : MRow K a z i j) (h : MDict K P a ks) : ∃ p es n, K.lookup a = some ⟨.type "dict", none, .dict es n, #[]⟩ ∧ KeysLit P es.toList ∧ PySem.W.nsIn K a z = some (some (.ref p)) ∧ ∀ H, SqT K H p [.int i, .int j] := by
  obtain ⟨p, e, dd, n1, sl, t, u, hp⟩ := r
  obtain ⟨es, n, hl, hk, _, _⟩ := h
  exact ⟨p, es, n, hl, hk, e, fun H => .inr ⟨_, _, n1, hp, rfl, rfl, (show 2 ≤ sizeLine by decide), .cons ⟨t, rfl⟩ (.cons ⟨u, rfl⟩ .nil)⟩⟩
end
end L2
/-! EXCEPTIONS that come out of a comprehension's block. -/
namespace PySem
section
variable {M : Model} {A : Around} {E : Value → Shared → Prop} {s : Shared} {env : Env}
end
end PySem
namespace L2
open PySem PySem.Spec PyProof.Rows PySem.W
section
variable {M : Model} {A : Around} {E : Value → Shared → Prop} {s : Shared} {B : Heap} {l : List Env} {ad L : Addr} {cls a0 : Value}
end
section
variable {P : Program} {w : World} {K : PySem.W.Frag} {mg : Str → Option Value} {base : Heap} {N : List Str} {qual : Str} {scope : Scope} {f : Addr} {cdv : Value} {A : Around} {outer : List Env} {s0 : Shared} {H0 : Hp} {E : XK}
/-- what may leave the block: an exception of a call within it -/
def xeC (X : Cx) (N' : List Str) (scp : Scope) (E : XK) : List (Str × Addr) → Addr → Shared → Hp → List Addr → Value → Shared → Prop := fun cl C s H ex e s' =>
  ∃ pins σ H4 s4, Inv (cxC X N' scp cl C s H ex) pins σ H4 s4 ∧ CX1 X.prog X.w X.stack H4 s4 E e s'
end
end L2
/-! ### list.insert -/
namespace L2
open PySem PySem.Spec PyProof.Rows PySem.W
section
variable {X : Cx}
def rIns : V → List V → Hp → VK → Prop := fun x vs H Q => ∃ l xs i y, x = .ref l ∧ vs = [.int i, y] ∧ H l = some (.lst xs) ∧ 0 ≤ i ∧ i ≤ (xs.length : Nat) ∧ xs.length < sizeLine ∧ Q .non (upd H l (.lst (xs.take i.toNat ++ y :: xs.drop i.toNat)))
theorem mt_insert : MtM X "list.insert" rIns := by
  intro pins s σ H x vs v us Q I rx rv h
  obtain ⟨l, xs, i, y, rfl, rfl, hH, h0, h1, hz, q⟩ := h
  cases rx
  obtain ⟨u1, u2, rfl, ⟨t, rfl⟩, ru⟩ := vals2 rv
  obtain ⟨z, its, n, r, hl, e⟩ := I.lstM hH
  have sl := sizeLine_eq
  refine call_meets PySem.F.slot_list_insert ⟨_, e, rfl⟩ PySem.F.entry_list_insert (PySem.F.args_list_insert_3 _ _ _) (AutoSeq1.list_insert_list_int_val_1 l its.toArray n i t u2 (by rw [fitsIndex_both (by omega) (by omega)]; decide) (by rw [List.size_toArray]; omega)) ⟨e, ?_⟩
  have k2 : (if i < 0 then (i + (its.toArray.size : Int)).toNat else min i.toNat its.toArray.size) = i.toNat := by
    rw [if_neg (by omega), List.size_toArray]
    omega
  refine ⟨.non, _, I.lset (its' := its.take i.toNat ++ u2 :: its.drop i.toNat) hH e ?_ ?_ ?_, rfl, q⟩
  · show (its.toArray.extract 0 (if i < 0 then (i + (its.toArray.size : Int)).toNat else min i.toNat its.toArray.size)).push u2 ++ its.toArray.extract (if i < 0 then (i + (its.toArray.size : Int)).toNat else min i.toNat its.toArray.size) = _
    rw [k2]
    apply Array.toList_inj.mp
    simp [List.take_of_length_le]
  · exact (r.take _).append (.cons ru (r.drop _))
  · simp
    omega
end
end L2
namespace K31
open PySem PySem.Spec PyProof.Rows L2
set_option maxHeartbeats 4000000
seal L2.PE L2.PT L2.PW L2.PA L2.PS L2.PSs L2.PG L2.PGs L2.PI L2.PTs L2.PO L2.OpR L2.UnR L2.CallR L2.IxR L2.SlR L2.MtR L2.MtM
theorem strictP {P : Program} {w : World} : Strict (CX1 P w) := strict1 P w
def top (i : Nat) : Stmt := PySem.Challenge.pw_pressluck_k31_rows_changed.main.body.getD i (.Pass ⟨0, 0, 0, 0⟩)
structure Txt (K : PySem.W.Frag) (mg : Str → Option Value) (q_NoShare : Addr) : Prop where
  z_abs : mg "abs" = none
  z_enumerate : mg "enumerate" = none
  z_isinstance : mg "isinstance" = none
  z_len : mg "len" = none
  z_list : mg "list" = none
  z_range : mg "range" = none
  z_tuple : mg "tuple" = none
  z_zip : mg "zip" = none
  d_common_divisor : Dn K mg "common_divisor" (top 4)
  d_share : Dn K mg "share" (top 5)
  d_plus : Dn K mg "plus" (top 6)
  d_row_with_head : Dn K mg "row_with_head" (top 8)
  d_swapped : Dn K mg "swapped" (top 9)
  d_without_first_column : Dn K mg "without_first_column" (top 10)
  d_swept : Dn K mg "swept" (top 11)
  d_whole_answers : Dn K mg "whole_answers" (top 12)
  d_column_of : Dn K mg "column_of" (top 13)
  d_turned_rows : Dn K mg "turned_rows" (top 14)
  d_factors_to_noughts : Dn K mg "factors_to_noughts" (top 15)
  d_solved : Dn K mg "solved" (top 16)
  d__law_cell : Dn K mg "_law_cell" (top 18)
  d__law_mixed : Dn K mg "_law_mixed" (top 19)
  d__law_rows : Dn K mg "_law_rows" (top 20)
  d__law_answer : Dn K mg "_law_answer" (top 21)
  d__law_changed : Dn K mg "_law_changed" (top 22)
  d__law_swapped : Dn K mg "_law_swapped" (top 23)
  k_NoShare : mg "NoShare" = some (.ref q_NoShare)
  x_NoShare : PySem.W.excIn K q_NoShare bmVE newVE = true
/-! ### lists side by side -/
def Al {α : Type} (R : α → V → Prop) : List α → List V → Prop
  | [], [] => True
  | a :: as, v :: vs => R a v ∧ Al R as vs
  | _, _ => False
theorem Al.length {α : Type} {R : α → V → Prop} : ∀ {as : List α} {vs : List V}, Al R as vs → vs.length = as.length
  | [], [], _ => rfl
  | a :: as, v :: vs, h => by simp [Al.length h.2]
theorem Al.imp {α : Type} {R S : α → V → Prop} (f : ∀ a v, R a v → S a v) : ∀ {as : List α} {vs : List V}, Al R as vs → Al S as vs
  | [], [], _ => trivial
  | a :: as, v :: vs, h => ⟨f _ _ h.1, Al.imp f h.2⟩
theorem Al.append {α : Type} {R : α → V → Prop} : ∀ {as bs : List α} {us vs : List V}, Al R as us → Al R bs vs → Al R (as ++ bs) (us ++ vs)
  | [], _, [], _, _, k => k
  | a :: as, _, v :: vs, _, h, k => ⟨h.1, Al.append h.2 k⟩
theorem Al.one {α : Type} {R : α → V → Prop} {a : α} {v : V} (h : R a v) : Al R [a] [v] := ⟨h, trivial⟩
theorem Al.reverse {α : Type} {R : α → V → Prop} : ∀ {as : List α} {vs : List V}, Al R as vs → Al R as.reverse vs.reverse
  | [], [], _ => trivial
  | a :: as, v :: vs, h => by
    rw [List.reverse_cons, List.reverse_cons]
    exact (Al.reverse h.2).append (.one h.1)
theorem Al.repL {α : Type} {H : Hp} {f : α → Dat} : ∀ {as : List α} {vs : List V}, Al (fun a v => Rep H (f a) v) as vs → RepL H (as.map f) vs
  | [], [], _ => by simp [RepL]
  | a :: as, v :: vs, h => by
    rw [List.map_cons, RepL]
    exact ⟨v, vs, rfl, h.1, Al.repL h.2⟩
theorem Al.get {α : Type} {R : α → V → Prop} : ∀ {as : List α} {vs : List V} {i : Nat} {v : V}, Al R as vs → vs[i]? = some v → ∃ a, as[i]? = some a ∧ R a v
  | [], [], i, v, _, e => by simp at e
  | a :: as, u :: vs, i, v, h, e => by
    cases i with
    | zero => simp at e; subst e; exact ⟨a, rfl, h.1⟩
    | succ i => simp at e; obtain ⟨b, e1, e2⟩ := Al.get h.2 e; exact ⟨b, by simpa using e1, e2⟩
theorem Al.at {α : Type} {R : α → V → Prop} : ∀ {as : List α} {vs : List V} {i : Nat} {a : α}, Al R as vs → as[i]? = some a → ∃ v, vs[i]? = some v ∧ R a v
  | [], [], i, v, _, e => by simp at e
  | a :: as, u :: vs, i, v, h, e => by
    cases i with
    | zero => simp at e; subst e; exact ⟨u, rfl, h.1⟩
    | succ i => simp at e; obtain ⟨b, e1, e2⟩ := Al.at h.2 e; exact ⟨b, by simpa using e1, e2⟩
theorem Al.of {α : Type} {R : α → V → Prop} : ∀ {as : List α} {vs : List V}, vs.length = as.length → (∀ (i : Nat) v a, vs[i]? = some v → as[i]? = some a → R a v) → Al R as vs
  | [], [], _, _ => trivial
  | [], _ :: _, l, _ => by simp at l
  | _ :: _, [], l, _ => by simp at l
  | a :: as, u :: vs, l, h => ⟨h 0 u a rfl rfl, Al.of (by simpa using l) fun i v b e1 e2 => h (i + 1) v b (by simpa using e1) (by simpa using e2)⟩
namespace Bar
abbrev Fm := Nat → Int
/-- a form taken out of the columns, one by one, with changing sign -/
def X (w : Fm) (F : List Nat → Int) : List Nat → Int
  | [] => 0
  | c :: cs => w c * F cs - X w (fun l => F (c :: l)) cs
def D : List Fm → List Nat → Int
  | [], [] => 1
  | [], _ :: _ => 0
  | w :: rs, cs => X w (D rs) cs
theorem X_add_F (w : Fm) : ∀ (cs : List Nat) (F G : List Nat → Int), X w (fun l => F l + G l) cs = X w F cs + X w G cs
  | [], _, _ => rfl
  | c :: cs, F, G => by
    simp only [X]
    rw [X_add_F w cs (fun l => F (c :: l)) (fun l => G (c :: l)), Int.mul_add]
    omega
theorem X_mul_F (w : Fm) (k : Int) : ∀ (cs : List Nat) (F : List Nat → Int), X w (fun l => k * F l) cs = k * X w F cs
  | [], _ => (Int.mul_zero k).symm
  | c :: cs, F => by
    simp only [X]
    rw [X_mul_F w k cs (fun l => F (c :: l)), Int.mul_sub, ← Int.mul_assoc, ← Int.mul_assoc, Int.mul_comm k (w c)]
theorem X_zero_F (w : Fm) : ∀ (cs : List Nat), X w (fun _ => 0) cs = 0
  | [] => rfl
  | c :: cs => by simp only [X]; rw [X_zero_F w cs]; simp
theorem X_neg_F (w : Fm) (cs : List Nat) (F : List Nat → Int) : X w (fun l => - F l) cs = - X w F cs := by
  have := X_mul_F w (-1) cs F
  rw [Int.neg_one_mul] at this
  rw [← this]
  congr 1; funext l; rw [Int.neg_one_mul]
theorem X_add_w (v w : Fm) : ∀ (cs : List Nat) (F : List Nat → Int), X (fun c => v c + w c) F cs = X v F cs + X w F cs
  | [], _ => rfl
  | c :: cs, F => by
    simp only [X]
    rw [X_add_w v w cs (fun l => F (c :: l)), Int.add_mul]
    omega
theorem X_mul_w (k : Int) (w : Fm) : ∀ (cs : List Nat) (F : List Nat → Int), X (fun c => k * w c) F cs = k * X w F cs
  | [], _ => (Int.mul_zero k).symm
  | c :: cs, F => by
    simp only [X]
    rw [X_mul_w k w cs (fun l => F (c :: l)), Int.mul_sub, Int.mul_assoc]
theorem X_congr {v w : Fm} : ∀ {cs : List Nat} {F : List Nat → Int}, (∀ c ∈ cs, v c = w c) → X v F cs = X w F cs
  | [], _, _ => rfl
  | c :: cs, F, h => by
    simp only [X]
    rw [h c (List.mem_cons_self ..), X_congr (cs := cs) fun c' hc => h c' (List.mem_cons_of_mem _ hc)]
theorem X_van {w : Fm} : ∀ {cs : List Nat} {F : List Nat → Int}, (∀ c ∈ cs, w c = 0) → X w F cs = 0
  | [], _, _ => rfl
  | c :: cs, F, h => by
    simp only [X]
    rw [h c (List.mem_cons_self ..), X_van (cs := cs) fun c' hc => h c' (List.mem_cons_of_mem _ hc)]
    simp
theorem X_XX (w : Fm) : ∀ (cs : List Nat) (F : List Nat → Int), X w (X w F) cs = 0
  | [], _ => rfl
  | c :: cs, F => by
    simp only [X]
    have e := X_add_F w cs (fun l => w c * F l) (fun l => - X w (fun m => F (c :: m)) l)
    have e2 : X w (fun l => w c * F l - X w (fun m => F (c :: m)) l) cs = X w (fun l => w c * F l + - X w (fun m => F (c :: m)) l) cs := by
      congr 1
    rw [e2, e, X_mul_F, X_neg_F, X_XX w cs fun m => F (c :: m)]
    omega
theorem X_anti (v w : Fm) (cs : List Nat) (F : List Nat → Int) : X v (X w F) cs = - X w (X v F) cs := by
  have e := X_XX (fun c => v c + w c) cs F
  have e1 : X (fun c => v c + w c) F = fun l => X v F l + X w F l := by funext l; exact X_add_w v w l F
  rw [e1, X_add_w, X_add_F, X_add_F, X_XX, X_XX] at e
  omega
theorem D_mem {w : Fm} : ∀ {rs : List Fm} (_ : w ∈ rs) (cs : List Nat), D (w :: rs) cs = 0
  | u :: rs, h, cs => by
    rcases List.mem_cons.mp h with rfl | h
    · exact X_XX _ _ _
    · show X w (X u (D rs)) cs = 0
      rw [X_anti]
      have e : X w (D rs) = fun _ => 0 := by funext l; exact D_mem h l
      rw [e, X_zero_F]
      rfl
/-- whole sums of forms -/
def Sp : List Fm → Fm → Prop
  | [], f => ∀ j, f j = 0
  | w :: rs, f => ∃ (c : Int) (g : Fm), Sp rs g ∧ ∀ j, f j = c * w j + g j
theorem Sp.congr {f g : Fm} : ∀ {rs : List Fm}, Sp rs f → (∀ j, f j = g j) → Sp rs g
  | [], h, e => fun j => by rw [← e]; exact h j
  | w :: rs, ⟨c, k, hk, e1⟩, e => ⟨c, k, hk, fun j => by rw [← e]; exact e1 j⟩
theorem Sp.zero : ∀ {rs : List Fm}, Sp rs (fun _ => 0)
  | [] => fun _ => rfl
  | _ :: _ => ⟨0, _, Sp.zero, fun j => by simp⟩
theorem Sp.add {f g : Fm} : ∀ {rs : List Fm}, Sp rs f → Sp rs g → Sp rs (fun j => f j + g j)
  | [], h, k => fun j => by show f j + g j = 0; rw [h j, k j]; rfl
  | w :: rs, ⟨c, f', hf, e1⟩, ⟨d, g', hg, e2⟩ => ⟨c + d, _, hf.add hg, fun j => by show f j + g j = _; rw [e1, e2, Int.add_mul]; omega⟩
theorem Sp.mul {f : Fm} (k : Int) : ∀ {rs : List Fm}, Sp rs f → Sp rs (fun j => k * f j)
  | [], h => fun j => by show k * f j = 0; rw [h j, Int.mul_zero]
  | w :: rs, ⟨c, f', hf, e1⟩ => ⟨k * c, _, hf.mul k, fun j => by show k * f j = _; rw [e1, Int.mul_add, Int.mul_assoc]⟩
theorem Sp.mem {u : Fm} : ∀ {rs : List Fm}, u ∈ rs → Sp rs u
  | w :: rs, h => by
    rcases List.mem_cons.mp h with rfl | h
    · exact ⟨1, _, Sp.zero, fun j => by rw [Int.one_mul, Int.add_zero]⟩
    · exact ⟨0, _, Sp.mem h, fun j => by rw [Int.zero_mul, Int.zero_add]⟩
theorem Sp.X {rs : List Fm} (w : Fm) : ∀ (cs : List Nat) (F : Nat → List Nat → Int), (∀ l, Sp rs (fun j => F j l)) → Sp rs (fun j => Bar.X w (F j) cs)
  | [], _, _ => Sp.zero
  | c :: cs, F, h => by
    have h1 := (h cs).mul (w c)
    have h2 := (Sp.X w cs (fun j l => F j (c :: l)) (fun l => h (c :: l))).mul (-1)
    exact (h1.add h2).congr fun j => by simp only [Bar.X]; rw [Int.neg_one_mul]; omega
theorem Sp_D : ∀ (rs : List Fm) (l : List Nat), Sp rs (fun j => D rs (j :: l))
  | [], l => fun j => rfl
  | w :: rs, l => by
    refine ⟨D rs l, _, (Sp.X w l (fun j m => D rs (j :: m)) fun m => Sp_D rs m).mul (-1), fun j => ?_⟩
    show w j * D rs l - X w (fun m => D rs (j :: m)) l = _
    rw [Int.neg_one_mul, Int.mul_comm]
    omega
theorem D_span {us : List Fm} : ∀ {rs : List Fm} {g : Fm}, Sp rs g → (∀ r ∈ rs, r ∈ us) → ∀ cs, D (g :: us) cs = 0
  | [], g, h, _, cs => X_van fun c _ => h c
  | w :: rs, g, ⟨c, g', h, e⟩, hs, cs => by
    have e' : g = fun j => c * w j + g' j := funext e
    show X g (D us) cs = 0
    rw [e', X_add_w, X_mul_w]
    have z1 : X w (D us) cs = 0 := D_mem (hs w (List.mem_cons_self ..)) cs
    have z2 : X g' (D us) cs = 0 := D_span h (fun r hr => hs r (List.mem_cons_of_mem _ hr)) cs
    rw [z1, z2]; simp
/-- d v less E(v) is a whole sum of the rows -/
theorem Sp_E (rs : List Fm) (cs : List Nat) (v : Fm) : Sp rs (fun j => D rs cs * v j + - D (v :: rs) (j :: cs)) := by
  refine (Sp.X v cs (fun j m => D rs (j :: m)) fun m => Sp_D rs m).congr fun j => ?_
  show _ = D rs cs * v j + - (v j * D rs cs - X v (fun m => D rs (j :: m)) cs)
  rw [Int.mul_comm]
  omega
theorem main (rs : List Fm) (cs : List Nat) (u v : Fm) (j k : Nat) (h : ∀ c ∈ cs, D (v :: rs) (c :: cs) = 0) :
    D rs cs * D (v :: u :: rs) (j :: k :: cs) = D (u :: rs) (k :: cs) * D (v :: rs) (j :: cs) - D (v :: rs) (k :: cs) * D (u :: rs) (j :: cs) := by
  have s := Sp_E rs cs v
  have z := D_span (us := u :: rs) s (fun r hr => List.mem_cons_of_mem _ hr) (j :: k :: cs)
  have z' : X (fun j => D rs cs * v j + - D (v :: rs) (j :: cs)) (D (u :: rs)) (j :: k :: cs) = 0 := z
  have e1 : D rs cs * D (v :: u :: rs) (j :: k :: cs) = X (fun j => D rs cs * v j) (D (u :: rs)) (j :: k :: cs) := (X_mul_w _ _ _ _).symm
  have e2 : X (fun j => D rs cs * v j + - D (v :: rs) (j :: cs)) (D (u :: rs)) (j :: k :: cs) = X (fun j => D rs cs * v j) (D (u :: rs)) (j :: k :: cs) + X (fun j => - D (v :: rs) (j :: cs)) (D (u :: rs)) (j :: k :: cs) := X_add_w _ _ _ _
  have e3 : X (fun j => - D (v :: rs) (j :: cs)) (D (u :: rs)) (j :: k :: cs) = - D (v :: rs) (j :: cs) * D (u :: rs) (k :: cs) - (- D (v :: rs) (k :: cs) * D (u :: rs) (j :: cs) - X (fun j => - D (v :: rs) (j :: cs)) (fun l => D (u :: rs) (j :: k :: l)) cs) := rfl
  have e4 : X (fun j => - D (v :: rs) (j :: cs)) (fun l => D (u :: rs) (j :: k :: l)) cs = 0 := X_van fun c hc => by rw [h c hc]; rfl
  rw [e1]
  rw [e2, e3, e4] at z'
  rw [Int.neg_mul, Int.neg_mul] at z'
  rw [Int.mul_comm (D (u :: rs) (k :: cs))]
  omega
/-- all heads are not 0 -/
def Good : List Fm → List Nat → Prop
  | [], [] => True
  | u :: rs, k :: cs => Good rs cs ∧ D (u :: rs) (k :: cs) ≠ 0
  | _, _ => False
theorem Good.ne : ∀ {rs : List Fm} {cs : List Nat}, Good rs cs → D rs cs ≠ 0
  | [], [], _ => by show (1 : Int) ≠ 0; decide
  | _ :: _, _ :: _, h => h.2
  | [], _ :: _, h => h.elim
  | _ :: _, [], h => h.elim
theorem Good.van : ∀ {rs : List Fm} {cs : List Nat}, Good rs cs → ∀ (v : Fm) (c : Nat), c ∈ cs → D (v :: rs) (c :: cs) = 0
  | [], [], _, _, _, hc => by cases hc
  | u :: rs, k :: cs, h, v, c, hc => by
    have hm := main rs cs u v c k (fun c hc => h.1.van v c hc)
    have hz : D (u :: rs) (k :: cs) * D (v :: rs) (c :: cs) - D (v :: rs) (k :: cs) * D (u :: rs) (c :: cs) = 0 := by
      rcases List.mem_cons.mp hc with rfl | hc
      · rw [Int.mul_comm]; omega
      · rw [h.1.van v c hc, h.1.van u c hc]; simp
    rw [hz] at hm
    rcases Int.mul_eq_zero.mp hm with h0 | h0
    · exact absurd h0 h.1.ne
    · exact h0
  | [], _ :: _, h, _, _, _ => h.elim
  | _ :: _, [], h, _, _, _ => h.elim
/-- one step's quotient is whole -/
theorem step_div {rs : List Fm} {cs : List Nat} (g : Good rs cs) (u v : Fm) (j k : Nat) :
    D (u :: rs) (k :: cs) * D (v :: rs) (j :: cs) - D (v :: rs) (k :: cs) * D (u :: rs) (j :: cs) = D rs cs * D (v :: u :: rs) (j :: k :: cs) :=
  (main rs cs u v j k (fun c hc => g.van v c hc)).symm
/-- the columns swept, the last ahead -/
def dn : Nat → List Nat
  | 0 => []
  | k + 1 => k :: dn k
theorem mem_dn : ∀ {n c : Nat}, c ∈ dn n ↔ c < n
  | 0, c => by simp [dn]
  | n + 1, c => by rw [dn, List.mem_cons, mem_dn]; omega
theorem dn_length : ∀ n, (dn n).length = n
  | 0 => rfl
  | n + 1 => by rw [dn, List.length_cons, dn_length]
def ng (i : Nat) : Fm := fun c => if c = i then -1 else 0
theorem step_own (rs : List Fm) (u : Fm) (j k : Nat) (h : k < j) :
    D (ng k :: u :: rs) (j :: k :: dn k) = D (u :: rs) (j :: dn k) := by
  show ng k j * D (u :: rs) (k :: dn k) - (ng k k * D (u :: rs) (j :: dn k) - X (ng k) (fun l => D (u :: rs) (j :: k :: l)) (dn k)) = _
  rw [X_van (w := ng k) fun c hc => by have := mem_dn.mp hc; exact if_neg (by omega)]
  have a : ng k j = 0 := if_neg (by omega)
  have b : ng k k = -1 := if_pos rfl
  rw [a, b]
  omega
def sm : Nat → (Nat → Int) → Int
  | 0, _ => 0
  | n + 1, f => sm n f + f n
theorem sm_ng (u : Fm) (F : List Nat → Int) (cs : List Nat) : ∀ n, sm n (fun i => u i * X (ng i) F cs) = X (fun c => if c < n then - u c else 0) F cs
  | 0 => by
    show 0 = _
    exact (X_van fun c _ => if_neg (by omega)).symm
  | n + 1 => by
    show sm n _ + u n * X (ng n) F cs = _
    rw [sm_ng u F cs n, ← X_mul_w, ← X_add_w]
    refine X_congr fun c _ => ?_
    show (if c < n then - u c else 0) + u n * (if c = n then -1 else 0) = _
    by_cases e : c = n
    · subst e
      rw [if_neg (by omega), if_pos rfl, if_pos (by omega)]
      omega
    · rw [if_neg e]
      by_cases l : c < n
      · rw [if_pos l, if_pos (by omega)]; simp
      · rw [if_neg l, if_neg (by omega)]; simp
/-- the answers, and the factors -/
theorem cramer (rs : List Fm) (u : Fm) (k : Nat) :
    sm k (fun i => u i * D (ng i :: rs) (k :: dn k)) = u k * D rs (dn k) - D (u :: rs) (k :: dn k) := by
  have e := sm_ng u (D rs) (k :: dn k) k
  have e1 : X (fun c => if c < k then - u c else 0) (D rs) (k :: dn k) = X (fun c => (-1) * u c + u k * (if c = k then 1 else 0)) (D rs) (k :: dn k) := by
    refine X_congr fun c hc => ?_
    rcases List.mem_cons.mp hc with rfl | hc
    · rw [if_neg (by omega), if_pos rfl]; omega
    · have := mem_dn.mp hc
      rw [if_pos this, if_neg (by omega)]; omega
  have e2 : X (fun c => if c = k then (1 : Int) else 0) (D rs) (k :: dn k) = D rs (dn k) := by
    show (if k = k then (1 : Int) else 0) * D rs (dn k) - X (fun c => if c = k then (1 : Int) else 0) (fun l => D rs (k :: l)) (dn k) = _
    rw [if_pos rfl, X_van fun c hc => by have := mem_dn.mp hc; exact if_neg (by omega)]
    omega
  have e3 : sm k (fun i => u i * D (ng i :: rs) (k :: dn k)) = sm k (fun i => u i * X (ng i) (D rs) (k :: dn k)) := rfl
  rw [e3, e, e1, X_add_w, X_mul_w, X_mul_w, e2]
  show (-1) * D (u :: rs) (k :: dn k) + u k * D rs (dn k) = _
  omega
theorem perm {rs us : List Fm} (h : rs.Perm us) : ∃ s : Int, (s = 1 ∨ s = -1) ∧ ∀ cs, D rs cs = s * D us cs := by
  induction h with
  | nil => exact ⟨1, .inl rfl, fun cs => (Int.one_mul _).symm⟩
  | cons w _ ih =>
    obtain ⟨s, h, e⟩ := ih
    refine ⟨s, h, fun cs => ?_⟩
    show X w _ cs = s * X w _ cs
    rw [← X_mul_F]
    congr 1
    funext l
    exact e l
  | swap x y l => exact ⟨-1, .inr rfl, fun cs => by rw [Int.neg_one_mul]; exact X_anti _ _ _ _⟩
  | trans _ _ ih1 ih2 =>
    obtain ⟨s, h, e⟩ := ih1
    obtain ⟨t, k, f⟩ := ih2
    refine ⟨s * t, ?_, fun cs => by rw [e, f, Int.mul_assoc]⟩
    rcases h with rfl | rfl <;> rcases k with rfl | rfl <;> decide
theorem perm_ne {rs us : List Fm} (h : rs.Perm us) (cs : List Nat) : D rs cs ≠ 0 ↔ D us cs ≠ 0 := by
  obtain ⟨s, hs, e⟩ := perm h
  rw [e]
  rcases hs with rfl | rfl <;> omega
/-- a row that is, but for a factor, a whole sum of others -/
theorem D_dep {rs : List Fm} {u g : Fm} {c : Int} {cs : List Nat} (hc : c ≠ 0) (hg : Sp rs g) (e : ∀ j ∈ cs, c * u j = g j) : D (u :: rs) cs = 0 := by
  have z := D_span hg (fun r hr => hr) cs
  have e1 : c * D (u :: rs) cs = D (g :: rs) cs := by
    show c * X u _ cs = X g _ cs
    rw [← X_mul_w]
    exact X_congr e
  rw [z] at e1
  rcases Int.mul_eq_zero.mp e1 with h | h
  · exact absurd h hc
  · exact h
theorem sm_congr {f g : Nat → Int} : ∀ {n}, (∀ i, i < n → f i = g i) → sm n f = sm n g
  | 0, _ => rfl
  | n + 1, h => by show sm n f + f n = sm n g + g n; rw [sm_congr fun i hi => h i (by omega), h n (by omega)]
theorem sm_add (f g : Nat → Int) : ∀ n, sm n (fun i => f i + g i) = sm n f + sm n g
  | 0 => rfl
  | n + 1 => by show sm n _ + (f n + g n) = sm n f + f n + (sm n g + g n); rw [sm_add f g n]; omega
theorem sm_mul (k : Int) (f : Nat → Int) : ∀ n, sm n (fun i => k * f i) = k * sm n f
  | 0 => (Int.mul_zero k).symm
  | n + 1 => by show sm n _ + k * f n = k * (sm n f + f n); rw [sm_mul k f n, Int.mul_add]
theorem sm_zero : ∀ n, sm n (fun _ => 0) = 0
  | 0 => rfl
  | n + 1 => by show sm n _ + 0 = 0; rw [sm_zero n]; rfl
theorem Sp.col {g : Nat → Int} {n : Nat} : ∀ {rs : List Fm} {f : Fm}, Sp rs f → (∀ u ∈ rs, sm n (fun j => g j * u j) = 0) → sm n (fun j => g j * f j) = 0
  | [], f, h, _ => by rw [sm_congr (g := fun _ => 0) fun i _ => by rw [h i, Int.mul_zero], sm_zero]
  | w :: rs, f, ⟨c, f', h, e⟩, hu => by
    have e1 : sm n (fun j => g j * f j) = sm n (fun j => c * (g j * w j) + g j * f' j) := sm_congr fun i _ => by
      rw [e, Int.mul_add, ← Int.mul_assoc, ← Int.mul_assoc, Int.mul_comm c]
    rw [e1, sm_add, sm_mul, hu w (List.mem_cons_self ..), h.col fun u hm => hu u (List.mem_cons_of_mem _ hm)]
    simp
theorem sm_one (g : Nat → Int) (t : Nat) : ∀ n, sm n (fun j => g j * (if j = t then 1 else 0)) = if t < n then g t else 0
  | 0 => by rw [if_neg (by omega)]; rfl
  | n + 1 => by
    show sm n _ + g n * (if n = t then 1 else 0) = _
    rw [sm_one g t n]
    by_cases e : n = t
    · subst e; rw [if_neg (by omega), if_pos rfl, if_pos (by omega)]; omega
    · rw [if_neg e]
      by_cases l : t < n
      · rw [if_pos l, if_pos (by omega)]; omega
      · rw [if_neg l, if_neg (by omega)]; omega
/-- columns that hang together: none but noughts -/
theorem col_zero {rs : List Fm} {n : Nat} (G : Good rs (dn n)) {g : Nat → Int} (h : ∀ u ∈ rs, sm n (fun j => g j * u j) = 0) {t : Nat} (ht : t < n) : g t = 0 := by
  have s := Sp_E rs (dn n) (fun j => if j = t then 1 else 0)
  have c := s.col h
  have e : sm n (fun j => g j * (D rs (dn n) * (if j = t then 1 else 0) + - D ((fun j => if j = t then (1 : Int) else 0) :: rs) (j :: dn n))) = sm n (fun j => D rs (dn n) * (g j * (if j = t then 1 else 0))) := sm_congr fun i hi => by
    rw [G.van _ i (mem_dn.mpr hi), Int.neg_zero, Int.add_zero, ← Int.mul_assoc, ← Int.mul_assoc, Int.mul_comm (g i)]
  rw [e, sm_mul, sm_one, if_pos ht] at c
  rcases Int.mul_eq_zero.mp c with h | h
  · exact absurd h G.ne
  · exact h
/-- how great -/
theorem X_bd {w : Fm} {b M : Nat} (hw : ∀ c, (w c).natAbs ≤ b) : ∀ (cs : List Nat) (F : List Nat → Int), (∀ l, l.length + 1 = cs.length → (F l).natAbs ≤ M) → (X w F cs).natAbs ≤ cs.length * (b * M)
  | [], _, _ => by simp [X]
  | c :: cs, F, h => by
    simp only [X]
    have h1 := Int.natAbs_mul (w c) (F cs)
    have h2 := Nat.mul_le_mul (hw c) (h cs rfl)
    have h3 := X_bd hw cs (fun l => F (c :: l)) (fun l hl => h (c :: l) (by simp only [List.length_cons]; omega))
    have h4 := Int.natAbs_sub_le (w c * F cs) (X w (fun l => F (c :: l)) cs)
    rw [List.length_cons, Nat.add_mul]
    omega
theorem D_bd {b N : Nat} : ∀ {rs : List Fm} (cs : List Nat), (∀ w ∈ rs, ∀ c, (w c).natAbs ≤ b) → cs.length ≤ N → (D rs cs).natAbs ≤ (N * b) ^ rs.length
  | [], [], _, _ => by simp [D]
  | [], _ :: _, _, _ => by simp [D]
  | w :: rs, cs, h, hl => by
    have h1 := X_bd (M := (N * b) ^ rs.length) (h w (List.mem_cons_self ..)) cs (D rs) (fun l hl' => D_bd l (fun w hw => h w (List.mem_cons_of_mem _ hw)) (by omega))
    show (X w (D rs) cs).natAbs ≤ _
    rw [List.length_cons, Nat.pow_succ, Nat.mul_comm ((N * b) ^ _), Nat.mul_assoc]
    exact Nat.le_trans h1 (Nat.mul_le_mul_right _ hl)
end Bar
namespace Bar
def fo (r : List Int) : Fm := fun c => r.getD c 0
def rowOf (v : Fm) (rs : List Fm) (k m : Nat) : List Int := (List.range (m - k)).map fun t => D (v :: rs) ((k + t) :: dn k)
theorem rowOf_length (v : Fm) (rs : List Fm) (k m : Nat) : (rowOf v rs k m).length = m - k := by simp [rowOf]
theorem rowOf_get {v : Fm} {rs : List Fm} {k m t : Nat} (h : k + t < m) : (rowOf v rs k m)[t]? = some (D (v :: rs) ((k + t) :: dn k)) := by
  unfold rowOf
  rw [List.getElem?_map, List.getElem?_range (by omega)]
  rfl
theorem D_one (v : Fm) (t : Nat) : D [v] [t] = v t := by
  show v t * 1 - 0 = v t
  omega
theorem rowOf_zero {r : List Int} {m : Nat} (h : r.length = m) : rowOf (fo r) [] 0 m = r := by
  refine List.ext_getElem? fun i => ?_
  by_cases l : i < m
  · rw [rowOf_get (by omega), List.getElem?_eq_getElem (by omega)]
    show some (D [fo r] [0 + i]) = _
    rw [D_one, Nat.zero_add]
    simp [fo, List.getD_eq_getElem?_getD, List.getElem?_eq_getElem (show i < r.length by omega)]
  · rw [List.getElem?_eq_none (by rw [rowOf_length]; omega), List.getElem?_eq_none (by omega)]
theorem rowOf_cons {k m : Nat} (h : k < m) (v : Fm) (rs : List Fm) : rowOf v rs k m = D (v :: rs) (k :: dn k) :: (List.range (m - (k + 1))).map fun t => D (v :: rs) ((k + 1 + t) :: dn k) := by
  unfold rowOf
  rw [show m - k = (m - (k + 1)) + 1 by omega, List.range_succ_eq_map, List.map_cons, List.map_map]
  congr 1
  refine List.map_congr_left fun t _ => ?_
  show D (v :: rs) ((k + (t + 1)) :: dn k) = _
  rw [show k + (t + 1) = k + 1 + t by omega]
theorem own_row {k m : Nat} (h : k < m) (u : Fm) (rs : List Fm) : (rowOf u rs k m).tail = rowOf (ng k) (u :: rs) (k + 1) m := by
  rw [rowOf_cons h, List.tail_cons]
  unfold rowOf
  refine List.map_congr_left fun t _ => ?_
  exact (step_own rs u (k + 1 + t) k (by omega)).symm
theorem zipWith_map {α : Type} (f : Int → Int → Int) (g h : α → Int) : ∀ l : List α, List.zipWith f (l.map g) (l.map h) = l.map fun a => f (g a) (h a)
  | [] => rfl
  | a :: l => by simp only [List.map_cons, List.zipWith_cons_cons, zipWith_map f g h l]
theorem elim_row {k m : Nat} (h : k < m) {rs : List Fm} (G : Good rs (dn k)) (u v : Fm) :
    List.zipWith (fun one other => (D (u :: rs) (k :: dn k) * one - D (v :: rs) (k :: dn k) * other).fdiv (D rs (dn k))) (rowOf v rs k m).tail (rowOf u rs k m).tail = rowOf v (u :: rs) (k + 1) m := by
  rw [rowOf_cons h, rowOf_cons h, List.tail_cons, List.tail_cons, zipWith_map]
  unfold rowOf
  refine List.map_congr_left fun t _ => ?_
  rw [step_div G u v (k + 1 + t) k]
  exact Int.mul_fdiv_cancel_left _ G.ne
/-- the rows behind k swept columns -/
structure Stp (U : List Fm) (n k : Nat) (rs V : List Fm) : Prop where
  len : V.length = n
  rl : rs.length = k
  good : Good rs (dn k)
  own : ∀ i, i < k → V[i]? = some (ng i)
  perm : (rs ++ V.drop k).Perm U
  le : k ≤ n
theorem Stp.start {U : List Fm} : Stp U U.length 0 [] U := ⟨rfl, rfl, trivial, fun i h => absurd h (by omega), List.Perm.refl _, Nat.zero_le _⟩
theorem perm_set {α : Type} {u a : α} : ∀ {l : List α} {i : Nat}, l[i]? = some u → (u :: l.set i a).Perm (a :: l)
  | [], _, h => by simp at h
  | b :: l, 0, h => by
    simp at h; subst h
    exact List.Perm.swap _ _ _
  | b :: l, i + 1, h => by
    simp only [List.getElem?_cons_succ] at h
    show (u :: b :: l.set i a).Perm (a :: b :: l)
    exact (List.Perm.swap _ _ _).trans (((perm_set h).cons b).trans (List.Perm.swap _ _ _))
def swp (V : List Fm) (k spot : Nat) (u a : Fm) : List Fm := (V.set k u).set spot a
theorem Stp.step {U : List Fm} {n k spot : Nat} {rs V : List Fm} {u a : Fm} (S : Stp U n k rs V) (hk : k < n) (hs : k ≤ spot) (hu : V[spot]? = some u) (ha : V[k]? = some a) (h : D (u :: rs) (k :: dn k) ≠ 0) :
    Stp U n (k + 1) (u :: rs) ((swp V k spot u a).set k (ng k)) := by
  have l := S.len
  refine ⟨by simp [swp, l], by rw [List.length_cons, S.rl], ⟨S.good, h⟩, fun i hi => ?_, ?_, hk⟩
  · by_cases e : i = k
    · subst e
      rw [List.getElem?_set_self (by simp [swp]; omega)]
    · unfold swp
      rw [List.getElem?_set_ne (by omega), List.getElem?_set_ne (by omega), List.getElem?_set_ne (by omega)]
      exact S.own i (by omega)
  · refine List.Perm.trans ?_ S.perm
    have hd : V.drop k = a :: V.drop (k + 1) := by
      obtain ⟨h1, h2⟩ := List.getElem?_eq_some_iff.mp ha
      rw [← h2]
      exact List.drop_eq_getElem_cons h1
    have e1 : ((swp V k spot u a).set k (ng k)).drop (k + 1) = ((V.drop (k + 1)).set (spot - (k + 1)) a) ∨ (spot = k ∧ ((swp V k spot u a).set k (ng k)).drop (k + 1) = V.drop (k + 1)) := by
      unfold swp
      by_cases e : spot = k
      · right
        subst e
        refine ⟨rfl, ?_⟩
        simp [List.drop_set]
      · left
        simp [List.drop_set]
        intro hh
        omega
    have e2 : (u :: ((swp V k spot u a).set k (ng k)).drop (k + 1)).Perm (a :: V.drop (k + 1)) := by
      rcases e1 with e1 | ⟨e, e1⟩
      · by_cases e : spot = k
        · subst e
          have : u = a := by rw [hu] at ha; exact Option.some.inj ha
          subst this
          unfold swp
          simp [List.drop_set]
        · rw [e1]
          refine perm_set ?_
          rw [List.getElem?_drop, show k + 1 + (spot - (k + 1)) = spot by omega]
          exact hu
      · subst e
        have : u = a := by rw [hu] at ha; exact Option.some.inj ha
        subst this
        rw [e1]
    rw [hd]
    refine List.Perm.trans ?_ (e2.append_left rs)
    show (u :: (rs ++ _)).Perm _
    exact (List.perm_middle).symm
/-- how great the numbers are -/
theorem Stp.bd {U : List Fm} {n k b : Nat} {rs V : List Fm} (S : Stp U n k rs V) (b1 : 1 ≤ b) (hb : ∀ u ∈ U, ∀ c, (u c).natAbs ≤ b) : (∀ u ∈ rs, ∀ c, (u c).natAbs ≤ b) ∧ ∀ v ∈ V, ∀ c, (v c).natAbs ≤ b := by
  refine ⟨fun u hu => hb u (S.perm.mem_iff.mp (List.mem_append_left _ hu)), fun v hv => ?_⟩
  obtain ⟨i, hi, rfl⟩ := List.getElem_of_mem hv
  by_cases l : i < k
  · have := S.own i l
    rw [List.getElem?_eq_getElem hi] at this
    rw [Option.some.inj this]
    intro c
    unfold ng
    split
    · exact b1
    · exact Nat.zero_le _
  · refine hb _ (S.perm.mem_iff.mp (List.mem_append_right _ ?_))
    refine List.mem_of_getElem? (i := i - k) ?_
    rw [List.getElem?_drop, show k + (i - k) = i by omega, List.getElem?_eq_getElem hi]
theorem pow_mono {x a c : Nat} (h : 1 ≤ x) (q : a ≤ c) : x ^ a ≤ x ^ c := Nat.pow_le_pow_right h q
theorem Stp.bdD {U : List Fm} {n k b : Nat} {rs V : List Fm} (S : Stp U n k rs V) (b1 : 1 ≤ b) (hb : ∀ u ∈ U, ∀ c, (u c).natAbs ≤ b) {v : Fm} (hv : v ∈ V) (hk : k < n + 1) (j : Nat) : (D (v :: rs) (j :: dn k)).natAbs ≤ ((n + 1) * b) ^ (n + 1) := by
  obtain ⟨h1, h2⟩ := S.bd b1 hb
  have h := D_bd (N := n + 1) (b := b) (rs := v :: rs) (j :: dn k) (fun w hw => by
    rcases List.mem_cons.mp hw with rfl | hw
    · exact h2 _ hv
    · exact h1 w hw) (by rw [List.length_cons, dn_length]; omega)
  refine Nat.le_trans h (pow_mono (Nat.mul_pos (by omega) b1) ?_)
  rw [List.length_cons, S.rl]
  omega
theorem Stp.bdd {U : List Fm} {n k b : Nat} {rs V : List Fm} (S : Stp U n k rs V) (b1 : 1 ≤ b) (hb : ∀ u ∈ U, ∀ c, (u c).natAbs ≤ b) : (D rs (dn k)).natAbs ≤ ((n + 1) * b) ^ (n + 1) := by
  obtain ⟨h1, h2⟩ := S.bd b1 hb
  have h := D_bd (N := n + 1) (b := b) (rs := rs) (dn k) h1 (by rw [dn_length]; have := S.le; omega)
  refine Nat.le_trans h (pow_mono (Nat.mul_pos (by omega) b1) ?_)
  rw [S.rl]
  have := S.le
  omega
/-- no column can be swept any more -/
def Stuck (k : Nat) (rs V : List Fm) : Prop := ∀ u ∈ V.drop k, D (u :: rs) (k :: dn k) = 0
/-- the factors -/
theorem Stp.noughts {U : List Fm} {n k : Nat} {rs V : List Fm} (S : Stp U n k rs V) (z : Stuck k rs V) {u : Fm} (hu : u ∈ U) : sm k (fun i => u i * D (ng i :: rs) (k :: dn k)) = u k * D rs (dn k) := by
  rw [cramer]
  have : D (u :: rs) (k :: dn k) = 0 := by
    rcases List.mem_append.mp (S.perm.mem_iff.mpr hu) with h | h
    · exact D_mem h _
    · exact z u h
  omega
/-- the answers -/
theorem Stp.answers {U : List Fm} {n : Nat} {rs V : List Fm} (S : Stp U n n rs V) {u : Fm} (hu : u ∈ U) : sm n (fun i => u i * D (ng i :: rs) (n :: dn n)) = u n * D rs (dn n) := by
  rw [cramer]
  have h : u ∈ rs := by
    rcases List.mem_append.mp (S.perm.mem_iff.mpr hu) with h | h
    · exact h
    · rw [List.drop_eq_nil_of_le (by rw [S.len]; exact Nat.le_refl _)] at h; cases h
  rw [D_mem h]
  omega
theorem Stp.all {U : List Fm} {n : Nat} {rs V : List Fm} (S : Stp U n n rs V) : rs.Perm U := by
  have := S.perm
  rw [List.drop_eq_nil_of_le (by rw [S.len]; exact Nat.le_refl _), List.append_nil] at this
  exact this
theorem Stp.ne {U : List Fm} {n : Nat} {rs V : List Fm} (S : Stp U n n rs V) : D U (dn n) ≠ 0 := (perm_ne S.all _).mp S.good.ne
end Bar
namespace Bar
def z0 : Fm := fun _ => 0
def lcs (g : Nat → Int) : Nat → List Fm → Fm
  | _, [] => fun _ => 0
  | o, w :: ws => fun j => g o * w j + lcs g (o + 1) ws j
theorem sm_front (f : Nat → Int) : ∀ n, sm (n + 1) f = f 0 + sm n (fun i => f (i + 1))
  | 0 => by show 0 + f 0 = f 0 + 0; omega
  | n + 1 => by
    show sm (n + 1) f + f (n + 1) = f 0 + (sm n (fun i => f (i + 1)) + f (n + 1))
    rw [sm_front f n]
    omega
theorem sm_lcs (g : Nat → Int) (j : Nat) : ∀ (W : List Fm) (o : Nat), sm W.length (fun i => g (o + i) * (W.getD i z0) j) = lcs g o W j
  | [], _ => rfl
  | w :: ws, o => by
    rw [List.length_cons, sm_front]
    show g (o + 0) * w j + _ = g o * w j + lcs g (o + 1) ws j
    rw [← sm_lcs g j ws (o + 1)]
    congr 1
    exact sm_congr fun i _ => by rw [show o + (i + 1) = o + 1 + i by omega]; rfl
theorem lcs_append (g : Nat → Int) (j : Nat) : ∀ (A B : List Fm) (o : Nat), lcs g o (A ++ B) j = lcs g o A j + lcs g (o + A.length) B j
  | [], B, o => by show lcs g o B j = 0 + lcs g (o + 0) B j; rw [Nat.add_zero]; omega
  | a :: A, B, o => by
    show g o * a j + lcs g (o + 1) (A ++ B) j = g o * a j + lcs g (o + 1) A j + lcs g (o + (A.length + 1)) B j
    rw [lcs_append g j A B (o + 1), show o + 1 + A.length = o + (A.length + 1) by omega]
    omega
theorem Sp.lcs (g : Nat → Int) : ∀ (W : List Fm) (o : Nat), Sp W (lcs g o W)
  | [], _ => fun _ => rfl
  | w :: ws, o => ⟨g o, _, Sp.lcs g ws (o + 1), fun _ => rfl⟩
theorem Sp.left {f : Fm} (B : List Fm) : ∀ {A : List Fm}, Sp A f → Sp (A ++ B) f
  | [], h => (Sp.zero (rs := B)).congr fun j => (h j).symm
  | _ :: _, ⟨c, g, h, e⟩ => ⟨c, g, h.left B, e⟩
theorem Sp.right {f : Fm} : ∀ (A : List Fm) {B : List Fm}, Sp B f → Sp (A ++ B) f
  | [], _, h => h
  | _ :: A, _, h => ⟨0, f, Sp.right A h, fun j => by rw [Int.zero_mul, Int.zero_add]⟩
/-- rows that hang together -/
theorem D_rel {W : List Fm} {g : Nat → Int} {k : Nat} {cs : List Nat} (hk : k < W.length) (hg : g k ≠ 0) (h : ∀ j ∈ cs, sm W.length (fun i => g i * (W.getD i z0) j) = 0) : D W cs = 0 := by
  have e : W = W.take k ++ W[k] :: W.drop (k + 1) := by
    rw [List.getElem_cons_drop, List.take_append_drop]
  have p : W.Perm (W[k] :: (W.take k ++ W.drop (k + 1))) := by
    conv => lhs; rw [e]
    exact List.perm_middle
  have z : D (W[k] :: (W.take k ++ W.drop (k + 1))) cs = 0 := by
    refine D_dep (c := g k) (g := fun j => (-1) * (lcs g 0 (W.take k) j + lcs g (k + 1) (W.drop (k + 1)) j)) hg (((Sp.lcs g (W.take k) 0).left _).add ((Sp.lcs g (W.drop (k + 1)) (k + 1)).right _) |>.mul (-1)) fun j hj => ?_
    have h1 := h j hj
    have h2 := sm_lcs g j W 0
    have h3 : sm W.length (fun i => g (0 + i) * (W.getD i z0) j) = sm W.length (fun i => g i * (W.getD i z0) j) := sm_congr fun i _ => by rw [Nat.zero_add]
    rw [h3, h1] at h2
    have h4 : lcs g 0 W j = lcs g 0 (W.take k) j + (g k * W[k] j + lcs g (k + 1) (W.drop (k + 1)) j) := by
      have := lcs_append g j (W.take k) (W[k] :: W.drop (k + 1)) 0
      rw [← e, List.length_take, Nat.min_eq_left (by omega), Nat.zero_add] at this
      exact this
    rw [h4] at h2
    omega
  obtain ⟨s, _, es⟩ := perm p
  rw [es, z, Int.mul_zero]
/-- a row with its side -/
def aug (L : List (List Int)) (S : List Int) : List (List Int) := List.zipWith (fun r s => r ++ [s]) L S
def cell (L : List (List Int)) (i j : Nat) : Int := (L.getD i []).getD j 0
structure Sq (L : List (List Int)) (n : Nat) : Prop where
  len : L.length = n
  row : ∀ r ∈ L, r.length = n
theorem Sq.at {L : List (List Int)} {n i : Nat} (h : Sq L n) (hi : i < n) : ∃ r, L[i]? = some r ∧ r.length = n ∧ r ∈ L := by
  have := h.len
  refine ⟨L[i], by simp [this, hi], h.row _ (List.getElem_mem _), List.getElem_mem _⟩
theorem aug_get {L : List (List Int)} {S : List Int} {n i : Nat} {r : List Int} (hS : S.length = n) (hi : i < n) (e : L[i]? = some r) : (aug L S)[i]? = some (r ++ [S.getD i 0]) := by
  unfold aug
  rw [List.getElem?_zipWith, e, List.getElem?_eq_getElem (show i < S.length by omega)]
  simp [List.getD_eq_getElem?_getD, List.getElem?_eq_getElem (show i < S.length by omega)]
theorem aug_len {L : List (List Int)} {S : List Int} {n : Nat} (hL : L.length = n) (hS : S.length = n) : (aug L S).length = n := by
  unfold aug
  rw [List.length_zipWith, hL, hS, Nat.min_self]
theorem aug_fo {L : List (List Int)} {S : List Int} {n i j : Nat} (hq : Sq L n) (hS : S.length = n) (hi : i < n) (hj : j < n) : (((aug L S).map fo).getD i z0) j = cell L i j := by
  obtain ⟨r, e, l, _⟩ := hq.at hi
  rw [List.getD_eq_getElem?_getD, List.getElem?_map, aug_get hS hi e]
  show fo (r ++ [S.getD i 0]) j = _
  unfold fo cell
  rw [List.getD_eq_getElem?_getD, List.getElem?_append_left (by omega), List.getD_eq_getElem?_getD (l := L), e]
  simp [List.getD_eq_getElem?_getD]
theorem aug_side {L : List (List Int)} {S : List Int} {n i : Nat} (hq : Sq L n) (hS : S.length = n) (hi : i < n) : (((aug L S).map fo).getD i z0) n = S.getD i 0 := by
  obtain ⟨r, e, l, _⟩ := hq.at hi
  rw [List.getD_eq_getElem?_getD, List.getElem?_map, aug_get hS hi e]
  show fo (r ++ [S.getD i 0]) n = _
  unfold fo
  rw [List.getD_eq_getElem?_getD, List.getElem?_append_right (by omega), l]
  simp
theorem mem_aug {L : List (List Int)} {S : List Int} {n i : Nat} (hq : Sq L n) (hS : S.length = n) (hi : i < n) : ((aug L S).map fo).getD i z0 ∈ (aug L S).map fo := by
  have l : ((aug L S).map fo).length = n := by rw [List.length_map, aug_len hq.len hS]
  rw [List.getD_eq_getElem?_getD, List.getElem?_eq_getElem (show i < ((aug L S).map fo).length by omega)]
  exact List.getElem_mem _
theorem aug_mem {L : List (List Int)} {S : List Int} {n : Nat} {u : Fm} (hq : Sq L n) (hS : S.length = n) (h : u ∈ (aug L S).map fo) : ∃ i, i < n ∧ u = ((aug L S).map fo).getD i z0 := by
  obtain ⟨i, hi, rfl⟩ := List.getElem_of_mem h
  rw [List.length_map, aug_len hq.len hS] at hi
  refine ⟨i, hi, ?_⟩
  rw [List.getD_eq_getElem?_getD, List.getElem?_eq_getElem]
  rfl
/-- rows, or columns, that hang together by some numbers -/
def RowRel (L : List (List Int)) (n : Nat) : Prop := ∃ (g : Nat → Int) (k : Nat), k < n ∧ g k ≠ 0 ∧ ∀ j, j < n → sm n (fun i => g i * cell L i j) = 0
def ColRel (L : List (List Int)) (n : Nat) : Prop := ∃ (g : Nat → Int) (k : Nat), k < n ∧ g k ≠ 0 ∧ ∀ i, i < n → sm n (fun j => g j * cell L i j) = 0
theorem no_col {L : List (List Int)} {S : List Int} {n : Nat} (hq : Sq L n) (hS : S.length = n) (h : ColRel L n) {rs V : List Fm} (St : Stp ((aug L S).map fo) n n rs V) : False := by
  obtain ⟨g, k, hk, hg, e⟩ := h
  refine hg (col_zero St.good (g := g) (fun u hu => ?_) hk)
  obtain ⟨i, hi, rfl⟩ := aug_mem hq hS (St.all.mem_iff.mp hu)
  rw [← e i hi]
  exact sm_congr fun j hj => by rw [aug_fo hq hS hi hj]
/-- stuck: the columns hang together -/
theorem stuck_col {L : List (List Int)} {S : List Int} {n k : Nat} {rs V : List Fm} (hq : Sq L n) (hS : S.length = n) (St : Stp ((aug L S).map fo) n k rs V) (hk : k < n) (z : Stuck k rs V) : ColRel L n := by
  refine ⟨fun j => if j < k then - D (ng j :: rs) (k :: dn k) else if j = k then D rs (dn k) else 0, k, hk, ?_, fun i hi => ?_⟩
  · show (if k < k then _ else if k = k then D rs (dn k) else 0) ≠ 0
    rw [if_neg (Nat.lt_irrefl _), if_pos rfl]
    exact St.good.ne
  · have e := St.noughts z (mem_aug hq hS hi)
    have key : ∀ q, k + 1 ≤ q → sm q (fun j => (if j < k then - D (ng j :: rs) (k :: dn k) else if j = k then D rs (dn k) else 0) * (((aug L S).map fo).getD i z0) j) = 0 := by
      intro q hq
      induction q with
      | zero => omega
      | succ q ih =>
        by_cases c : q = k
        · subst c
          show sm q _ + _ * _ = 0
          rw [if_neg (Nat.lt_irrefl _), if_pos rfl]
          have e2 : sm q (fun j => (if j < q then - D (ng j :: rs) (q :: dn q) else if j = q then D rs (dn q) else 0) * (((aug L S).map fo).getD i z0) j) = sm q (fun j => (-1) * ((((aug L S).map fo).getD i z0) j * D (ng j :: rs) (q :: dn q))) := sm_congr fun i hi => by
            rw [if_pos hi, Int.neg_mul, Int.neg_one_mul, Int.mul_comm]
          rw [e2, sm_mul, e, Int.mul_comm (D rs (dn q))]
          omega
        · show sm q _ + _ * _ = 0
          rw [ih (by omega), if_neg (by omega), if_neg c]
          simp
    refine Eq.trans (sm_congr fun j hj => ?_) (key n (by omega))
    rw [aug_fo hq hS hi hj]
/-- turned rows -/
def trn (L : List (List Int)) : List (List Int) := (List.range L.length).map fun c => L.map fun r => r.getD c 0
theorem trn_sq {L : List (List Int)} {n : Nat} (h : Sq L n) : Sq (trn L) n := by
  refine ⟨by unfold trn; rw [List.length_map, List.length_range, h.len], fun r hr => ?_⟩
  unfold trn at hr
  obtain ⟨c, _, rfl⟩ := List.mem_map.mp hr
  rw [List.length_map, h.len]
theorem trn_get {L : List (List Int)} {n c : Nat} (h : Sq L n) (hc : c < n) : (trn L)[c]? = some (L.map fun r => r.getD c 0) := by
  unfold trn
  rw [List.getElem?_map, List.getElem?_range (by rw [h.len]; exact hc)]
  rfl
theorem trn_cell {L : List (List Int)} {n i j : Nat} (h : Sq L n) (hi : i < n) (hj : j < n) : cell (trn L) i j = cell L j i := by
  obtain ⟨r, e, l, _⟩ := h.at hj
  unfold cell
  rw [List.getD_eq_getElem?_getD (l := trn L), trn_get h hi, Option.getD_some, List.getD_eq_getElem?_getD (l := List.map _ _), List.getElem?_map, e, List.getD_eq_getElem?_getD (l := L), e]
  rfl
theorem fo_cell {L : List (List Int)} {n i : Nat} (h : Sq L n) (hi : i < n) (j : Nat) : ((L.map fo).getD i z0) j = cell L i j := by
  obtain ⟨r, e, l, _⟩ := h.at hi
  unfold cell
  rw [List.getD_eq_getElem?_getD, List.getElem?_map, e, List.getD_eq_getElem?_getD (l := L), e]
  rfl
theorem turned_no {L : List (List Int)} {n : Nat} (hq : Sq L n) (h : ColRel L n) {rs V : List Fm} (St : Stp ((trn L).map fo) n n rs V) : False := by
  obtain ⟨g, k, hk, hg, e⟩ := h
  have l : ((trn L).map fo).length = n := by rw [List.length_map, (trn_sq hq).len]
  refine St.ne (D_rel (g := g) (k := k) (by omega) hg fun j hj => ?_)
  rw [l, ← e j (mem_dn.mp hj)]
  exact sm_congr fun i hi => by rw [fo_cell (trn_sq hq) hi, trn_cell hq hi (mem_dn.mp hj)]
/-- the factors as told -/
def facs (k n : Nat) (rs : List Fm) : List Int := (List.range k).map (fun i => - D (ng i :: rs) (k :: dn k)) ++ [D rs (dn k)] ++ List.replicate (n - (k + 1)) 0
theorem facs_len {k n : Nat} (h : k < n) (rs : List Fm) : (facs k n rs).length = n := by
  unfold facs
  simp
  omega
theorem facs_get {k n i : Nat} (rs : List Fm) : (facs k n rs).getD i 0 = if i < k then - D (ng i :: rs) (k :: dn k) else if i = k then D rs (dn k) else 0 := by
  unfold facs
  rw [List.getD_eq_getElem?_getD]
  by_cases c : i < k
  · rw [if_pos c, List.append_assoc, List.getElem?_append_left (by simp; omega), List.getElem?_map, List.getElem?_range c]
    rfl
  · rw [if_neg c, List.append_assoc, List.getElem?_append_right (by simp; omega)]
    by_cases d : i = k
    · subst d
      simp
    · rw [if_neg d, List.getElem?_append_right (by simp; omega), List.getElem?_replicate]
      split <;> rfl
theorem facs_rel {L : List (List Int)} {n k : Nat} {rs V : List Fm} (hq : Sq L n) (St : Stp ((trn L).map fo) n k rs V) (hk : k < n) (z : Stuck k rs V) {j : Nat} (hj : j < n) : sm n (fun i => (facs k n rs).getD i 0 * cell L i j) = 0 := by
  have hm : ((trn L).map fo).getD j z0 ∈ (trn L).map fo := by
    have l : ((trn L).map fo).length = n := by rw [List.length_map, (trn_sq hq).len]
    rw [List.getD_eq_getElem?_getD, List.getElem?_eq_getElem (show j < ((trn L).map fo).length by omega)]
    exact List.getElem_mem _
  have e := St.noughts z hm
  have ec : ∀ i, i < n → (((trn L).map fo).getD j z0) i = cell L i j := fun i hi => by rw [fo_cell (trn_sq hq) hj, trn_cell hq hj hi]
  have key : ∀ q, k + 1 ≤ q → q ≤ n → sm q (fun i => (facs k n rs).getD i 0 * cell L i j) = 0 := by
    intro q hq hn
    induction q with
    | zero => omega
    | succ q ih =>
      by_cases c : q = k
      · subst c
        show sm q _ + (facs q n rs).getD q 0 * cell L q j = 0
        rw [facs_get, if_neg (Nat.lt_irrefl _), if_pos rfl]
        have e2 : sm q (fun i => (facs q n rs).getD i 0 * cell L i j) = sm q (fun i => (-1) * ((((trn L).map fo).getD j z0) i * D (ng i :: rs) (q :: dn q))) := sm_congr fun i hi => by
          rw [facs_get, if_pos hi, ec i (by omega), Int.neg_mul, Int.neg_one_mul, Int.mul_comm]
        rw [e2, sm_mul, e, ec q hk, Int.mul_comm (D rs (dn q))]
        omega
      · show sm q _ + (facs k n rs).getD q 0 * cell L q j = 0
        rw [ih (by omega) (by omega), facs_get, if_neg (by omega), if_neg c]
        simp
  exact key n (by omega) (Nat.le_refl _)
theorem facs_ne {k n : Nat} {rs : List Fm} (hk : k < n) (G : Good rs (dn k)) : ∃ f ∈ facs k n rs, f ≠ 0 := ⟨D rs (dn k), by unfold facs; simp, G.ne⟩
/-- one step of the rows -/
def wrow (L : List (List Int)) (s : Nat) (l : Int) (i : Nat) : List Int :=
  if i = s then (L.getD i []).tail else List.zipWith (fun one other => ((L.getD s []).headD 0 * one - (L.getD i []).headD 0 * other).fdiv l) (L.getD i []).tail (L.getD s []).tail
def wfc (L : List (List Int)) (s : Nat) (l : Int) : List (List Int) := (List.range L.length).map (wrow L s l)
theorem getD_map {V : List Fm} {f : Fm → List Int} {i : Nat} {v : Fm} (h : V[i]? = some v) : (V.map f).getD i [] = f v := by
  rw [List.getD_eq_getElem?_getD, List.getElem?_map, h]
  rfl
theorem swp_map {V : List Fm} {f : Fm → List Int} {k spot : Nat} {u a : Fm} (hu : V[spot]? = some u) (ha : V[k]? = some a) : ((V.map f).set k ((V.map f).getD spot [])).set spot ((V.map f).getD k []) = (swp V k spot u a).map f := by
  rw [getD_map hu, getD_map ha]
  unfold swp
  rw [List.map_set, List.map_set]
theorem swp_at {V : List Fm} {k spot : Nat} {u a : Fm} (hu : V[spot]? = some u) (ha : V[k]? = some a) : (swp V k spot u a)[k]? = some u := by
  have h1 := (List.getElem?_eq_some_iff.mp ha).1
  unfold swp
  by_cases e : spot = k
  · subst e
    rw [List.getElem?_set_self (by simpa using h1)]
    rw [hu] at ha
    exact ha.symm
  · rw [List.getElem?_set_ne e, List.getElem?_set_self h1]
theorem wfc_step {n k m spot : Nat} {rs V : List Fm} {u a : Fm} (G : Good rs (dn k)) (hm : k < m) (hu : V[spot]? = some u) (ha : V[k]? = some a) :
    wfc ((swp V k spot u a).map fun v => rowOf v rs k m) k (D rs (dn k)) = ((swp V k spot u a).set k (ng k)).map fun v => rowOf v (u :: rs) (k + 1) m := by
  have hk := swp_at hu ha
  generalize swp V k spot u a = W at *
  unfold wfc
  refine List.ext_getElem? fun i => ?_
  rw [List.getElem?_map, List.getElem?_map, List.length_map]
  by_cases l : i < W.length
  · rw [List.getElem?_range l]
    have ew : W[i]? = some W[i] := List.getElem?_eq_getElem l
    by_cases e : i = k
    · subst e
      rw [List.getElem?_set_self l]
      show some (wrow _ i _ i) = some _
      unfold wrow
      rw [if_pos rfl, getD_map hk, own_row hm]
    · rw [List.getElem?_set_ne (by omega), ew]
      show some (wrow _ k _ i) = some (rowOf W[i] (u :: rs) (k + 1) m)
      unfold wrow
      rw [if_neg e, getD_map ew, getD_map hk, ← elim_row hm G u W[i]]
      have hh : ∀ v, (rowOf v rs k m).headD 0 = D (v :: rs) (k :: dn k) := fun v => by rw [rowOf_cons hm]; rfl
      rw [hh, hh]
  · rw [List.getElem?_eq_none (by rw [List.length_range]; omega), List.getElem?_eq_none (by rw [List.length_set]; omega)]
    rfl
theorem start_rows {L : List (List Int)} {m : Nat} (h : ∀ r ∈ L, r.length = m) : (L.map fo).map (fun v => rowOf v [] 0 m) = L := by
  rw [List.map_map]
  conv => rhs; rw [← List.map_id L]
  exact List.map_congr_left fun r hr => rowOf_zero (h r hr)
theorem fo_bd {L : List (List Int)} {b : Nat} (h : ∀ r ∈ L, ∀ x ∈ r, x.natAbs ≤ b) : ∀ u ∈ L.map fo, ∀ c, (u c).natAbs ≤ b := by
  intro u hu c
  obtain ⟨r, hr, rfl⟩ := List.mem_map.mp hu
  unfold fo
  rw [List.getD_eq_getElem?_getD]
  cases e : r[c]? with
  | none => exact Nat.zero_le _
  | some x => exact h r hr x (List.mem_of_getElem? e)
theorem rows_bd {U : List Fm} {n k m b : Nat} {rs V : List Fm} (S : Stp U n k rs V) (b1 : 1 ≤ b) (hb : ∀ u ∈ U, ∀ c, (u c).natAbs ≤ b) : ∀ r ∈ V.map (fun v => rowOf v rs k m), ∀ x ∈ r, x.natAbs ≤ ((n + 1) * b) ^ (n + 1) := by
  intro r hr x hx
  obtain ⟨v, hv, rfl⟩ := List.mem_map.mp hr
  unfold rowOf at hx
  obtain ⟨t, _, rfl⟩ := List.mem_map.mp hx
  exact S.bdD b1 hb hv (by have := S.le; omega) _
theorem X_congr2 {v w : Fm} : ∀ {cs : List Nat} {F G : List Nat → Int}, (∀ c ∈ cs, v c = w c) → (∀ l, (∀ c ∈ l, c ∈ cs) → F l = G l) → X v F cs = X w G cs
  | [], _, _, _, _ => rfl
  | c :: cs, F, G, h, k => by
    simp only [X]
    rw [h c (List.mem_cons_self ..), k cs fun c' hc => List.mem_cons_of_mem _ hc, X_congr2 (cs := cs) (G := fun l => G (c :: l)) (fun c' hc => h c' (List.mem_cons_of_mem _ hc)) fun l hl => k (c :: l) fun c' hc => ?_]
    rcases List.mem_cons.mp hc with rfl | hc
    · exact List.mem_cons_self ..
    · exact List.mem_cons_of_mem _ (hl c' hc)
theorem aug_D {n : Nat} : ∀ (L : List (List Int)) (S : List Int), S.length = L.length → (∀ r ∈ L, r.length = n) → ∀ cs : List Nat, (∀ c ∈ cs, c < n) → D ((aug L S).map fo) cs = D (L.map fo) cs
  | [], [], _, _, _, _ => rfl
  | [], _ :: _, h, _, _, _ => by simp at h
  | _ :: _, [], h, _, _, _ => by simp at h
  | r :: L, s :: S, h, hr, cs, hc => by
    show X (fo (r ++ [s])) (D ((aug L S).map fo)) cs = X (fo r) (D (L.map fo)) cs
    refine X_congr2 (fun c hcc => ?_) fun l hl => aug_D L S (by simpa using h) (fun q hq => hr q (List.mem_cons_of_mem _ hq)) l fun c hcl => hc c (hl c hcl)
    unfold fo
    have := hc c hcc
    have lr := hr r (List.mem_cons_self ..)
    rw [List.getD_eq_getElem?_getD, List.getElem?_append_left (by omega), List.getD_eq_getElem?_getD]
end Bar
namespace Bar
theorem sm_ind (x : Int) (t : Nat) : ∀ n, sm n (fun i => if i = t then x else 0) = if t < n then x else 0
  | 0 => by rw [if_neg (by omega)]; rfl
  | n + 1 => by
    show sm n _ + (if n = t then x else 0) = _
    rw [sm_ind x t n]
    by_cases e : n = t
    · subst e; rw [if_neg (by omega), if_pos rfl, if_pos (by omega)]; omega
    · rw [if_neg e]
      by_cases l : t < n
      · rw [if_pos l, if_pos (by omega)]; omega
      · rw [if_neg l, if_neg (by omega)]; omega
theorem cell_set {M : List (List Int)} {n t i j : Nat} {r : List Int} (h : M.length = n) (ht : t < n) : cell (M.set t r) i j = if i = t then r.getD j 0 else cell M i j := by
  unfold cell
  by_cases e : i = t
  · subst e
    rw [if_pos rfl, List.getD_eq_getElem?_getD (l := M.set _ _), List.getElem?_set_self (by omega)]
    rfl
  · rw [if_neg e, List.getD_eq_getElem?_getD (l := M.set _ _), List.getElem?_set_ne (by omega), ← List.getD_eq_getElem?_getD]
theorem sq_set {M : List (List Int)} {n t : Nat} {r : List Int} (h : Sq M n) (hr : r.length = n) : Sq (M.set t r) n := by
  refine ⟨by rw [List.length_set, h.len], fun q hq => ?_⟩
  rcases List.mem_or_eq_of_mem_set hq with h1 | h1
  · exact h.row q h1
  · rw [h1]; exact hr
/-- a row made of others -/
def Md (M : List (List Int)) (n k t : Nat) (r : List Int) : Prop := r.length = n ∧ ∃ c : Nat → Int, (∀ i, (c i).natAbs ≤ 3) ∧ c t = 0 ∧ (∀ j, j < n → r.getD j 0 = sm k (fun i => c i * cell M i j))
theorem Md.start (M : List (List Int)) (n t : Nat) : Md M n 0 t (List.replicate n 0) := by
  refine ⟨List.length_replicate, fun _ => 0, fun _ => Nat.zero_le _, rfl, fun j hj => ?_⟩
  rw [List.getD_eq_getElem?_getD, List.getElem?_replicate, if_pos hj]
  rfl
theorem Md.step {M : List (List Int)} {n k t : Nat} {r q : List Int} {f : Int} (h : Md M n k t r) (hM : M[k]? = some q) (hq : q.length = n) (hf : f.natAbs ≤ 3) (hk : k ≠ t) : Md M n (k + 1) t (List.zipWith (fun a b => a + f * b) r q) := by
  obtain ⟨l, c, h1, h2, h3⟩ := h
  refine ⟨by rw [List.length_zipWith, l, hq, Nat.min_self], fun i => if i = k then f else c i, fun i => ?_, ?_, fun j hj => ?_⟩
  · show (if i = k then f else c i).natAbs ≤ 3
    split
    · exact hf
    · exact h1 i
  · show (if t = k then f else c t) = 0
    rw [if_neg (by omega)]; exact h2
  · show _ = sm k _ + (if k = k then f else c k) * cell M k j
    rw [if_pos rfl, sm_congr (g := fun i => c i * cell M i j) fun i hi => by show (if i = k then f else c i) * _ = _; rw [if_neg (by omega)], ← h3 j hj]
    unfold cell
    rw [List.getD_eq_getElem?_getD (l := M), hM, Option.getD_some]
    simp only [List.getD_eq_getElem?_getD, List.getElem?_zipWith]
    rw [List.getElem?_eq_getElem (show j < r.length by omega), List.getElem?_eq_getElem (show j < q.length by omega)]
    rfl
theorem sm_abs {f : Nat → Int} {b : Nat} : ∀ {n}, (∀ i, i < n → (f i).natAbs ≤ b) → (sm n f).natAbs ≤ n * b
  | 0, _ => Nat.zero_le _
  | n + 1, h => by
    have h1 := sm_abs fun i hi => h i (Nat.lt_succ_of_lt hi)
    have h2 := h n (Nat.lt_succ_self n)
    show (sm n f + f n).natAbs ≤ _
    have h3 := Int.natAbs_add_le (sm n f) (f n)
    rw [Nat.succ_mul]
    omega
theorem cell_bd {M : List (List Int)} {b : Nat} (h : ∀ r ∈ M, ∀ x ∈ r, x.natAbs ≤ b) (i j : Nat) : (cell M i j).natAbs ≤ b := by
  unfold cell
  rw [List.getD_eq_getElem?_getD]
  cases e : (M.getD i [])[j]? with
  | none => exact Nat.zero_le _
  | some x =>
    rw [List.getD_eq_getElem?_getD] at e
    cases e2 : M[i]? with
    | none => rw [e2] at e; simp at e
    | some r => rw [e2] at e; exact h r (List.mem_of_getElem? e2) x (List.mem_of_getElem? e)
theorem Md.bd {M : List (List Int)} {n k t b : Nat} {r : List Int} (h : Md M n k t r) (hb : ∀ r ∈ M, ∀ x ∈ r, x.natAbs ≤ b) : ∀ x ∈ r, x.natAbs ≤ k * (3 * b) := by
  obtain ⟨l, c, h1, h2, h3⟩ := h
  intro x hx
  obtain ⟨j, hj, rfl⟩ := List.getElem_of_mem hx
  have e := h3 j (by omega)
  rw [List.getD_eq_getElem?_getD, List.getElem?_eq_getElem hj, Option.getD_some] at e
  rw [e]
  exact sm_abs fun i _ => by rw [Int.natAbs_mul]; exact Nat.mul_le_mul (h1 i) (cell_bd hb i j)
theorem Md.rel {M : List (List Int)} {n t : Nat} {r : List Int} (h : Md M n n t r) (hM : M.length = n) (ht : t < n) : RowRel (M.set t r) n := by
  obtain ⟨l, c, h1, h2, h3⟩ := h
  refine ⟨fun i => if i = t then -1 else c i, t, ht, by show (if t = t then (-1 : Int) else c t) ≠ 0; rw [if_pos rfl]; decide, fun j hj => ?_⟩
  have e : sm n (fun i => (if i = t then -1 else c i) * cell (M.set t r) i j) = sm n (fun i => c i * cell M i j + (if i = t then - r.getD j 0 else 0)) := sm_congr fun i hi => by
    rw [cell_set hM ht]
    by_cases e : i = t
    · subst e; rw [if_pos rfl, if_pos rfl, if_pos rfl, h2]; omega
    · rw [if_neg e, if_neg e, if_neg e]; omega
  rw [e, sm_add, sm_ind, if_pos ht, ← h3 j hj]
  omega
theorem trn_bd {M : List (List Int)} {b : Nat} (h : ∀ r ∈ M, ∀ x ∈ r, x.natAbs ≤ b) : ∀ r ∈ trn M, ∀ x ∈ r, x.natAbs ≤ b := by
  intro r hr x hx
  unfold trn at hr
  obtain ⟨c, _, rfl⟩ := List.mem_map.mp hr
  obtain ⟨q, hq, rfl⟩ := List.mem_map.mp hx
  rw [List.getD_eq_getElem?_getD]
  cases e : q[c]? with
  | none => exact Nat.zero_le _
  | some x => exact h q hq x (List.mem_of_getElem? e)
theorem set_bd {M : List (List Int)} {b t : Nat} {r : List Int} (h : ∀ r ∈ M, ∀ x ∈ r, x.natAbs ≤ b) (hr : ∀ x ∈ r, x.natAbs ≤ b) : ∀ q ∈ M.set t r, ∀ x ∈ q, x.natAbs ≤ b := by
  intro q hq
  rcases List.mem_or_eq_of_mem_set hq with h1 | h1
  · exact h q h1
  · rw [h1]; exact hr
theorem aug_bd {L : List (List Int)} {S : List Int} {b : Nat} (h : ∀ r ∈ L, ∀ x ∈ r, x.natAbs ≤ b) (hS : ∀ x ∈ S, x.natAbs ≤ b) : ∀ r ∈ aug L S, ∀ x ∈ r, x.natAbs ≤ b := by
  intro r hr x hx
  unfold aug at hr
  obtain ⟨i, hi, rfl⟩ := List.getElem_of_mem hr
  rw [List.getElem_zipWith] at hx
  rcases List.mem_append.mp hx with h1 | h1
  · exact h _ (List.getElem_mem _) x h1
  · rw [List.mem_singleton.mp h1]; exact hS _ (List.getElem_mem _)
theorem aug_row {L : List (List Int)} {S : List Int} {n : Nat} (h : Sq L n) : ∀ r ∈ aug L S, r.length = n + 1 := by
  intro r hr
  unfold aug at hr
  obtain ⟨i, hi, rfl⟩ := List.getElem_of_mem hr
  rw [List.getElem_zipWith, List.length_append, h.row _ (List.getElem_mem _)]
  rfl
end Bar
namespace Bar
def kil (g : Nat → Int) (n : Nat) (r : List Int) : Prop := sm n (fun j => g j * r.getD j 0) = 0
/-- no columns hang together -/
def Nc (L : List (List Int)) (n : Nat) : Prop := ∀ g : Nat → Int, (∀ r ∈ L, kil g n r) → ∀ j, j < n → g j = 0
theorem sm_only {f : Nat → Int} {j : Nat} : ∀ {n}, (∀ i, i < n → i ≠ j → f i = 0) → j < n → sm n f = f j
  | 0, _, h => by omega
  | n + 1, h, hj => by
    show sm n f + f n = f j
    by_cases e : j = n
    · subst e
      rw [sm_congr (g := fun _ => 0) fun i hi => h i (by omega) (by omega), sm_zero]
      omega
    · rw [sm_only (fun i hi hn => h i (by omega) hn) (by omega), h n (by omega) (by omega)]
      omega
theorem tri_nc {L : List (List Int)} {n : Nat} (hl : L.length = n) (h : ∀ (k : Nat) (r : List Int), L[k]? = some r → (∀ j, j < k → r.getD j 0 = 0) ∧ r.getD k 0 ≠ 0) : Nc L n := by
  intro g hg
  have key : ∀ m, m ≤ n → ∀ j, n - m ≤ j → j < n → g j = 0 := by
    intro m
    induction m with
    | zero => intro _ j h1 h2; omega
    | succ m ih =>
      intro hm j h1 h2
      by_cases c : n - m ≤ j
      · exact ih (by omega) j c h2
      · have ej : L[j]? = some L[j] := List.getElem?_eq_getElem (by omega)
        obtain ⟨z, nz⟩ := h j _ ej
        have hk := hg _ (List.mem_of_getElem? ej)
        unfold kil at hk
        rw [sm_only (j := j) (fun i hi hn => ?_) h2] at hk
        · rcases Int.mul_eq_zero.mp hk with h0 | h0
          · exact h0
          · exact absurd h0 nz
        · by_cases l : i < j
          · rw [z i l, Int.mul_zero]
          · rw [ih (by omega) i (by omega) hi, Int.zero_mul]
  exact fun j hj => key n (Nat.le_refl _) j (by omega) hj
theorem kil_add {g : Nat → Int} {n : Nat} {a b : List Int} {t : Int} (ha : a.length = n) (hb : b.length = n) : sm n (fun j => g j * (List.zipWith (fun x y => x + t * y) a b).getD j 0) = sm n (fun j => g j * a.getD j 0) + t * sm n (fun j => g j * b.getD j 0) := by
  rw [← sm_mul, ← sm_add]
  refine sm_congr fun j hj => ?_
  simp only [List.getD_eq_getElem?_getD, List.getElem?_zipWith]
  rw [List.getElem?_eq_getElem (show j < a.length by omega), List.getElem?_eq_getElem (show j < b.length by omega)]
  show g j * (a[j] + t * b[j]) = g j * a[j] + t * (g j * b[j])
  rw [Int.mul_add, ← Int.mul_assoc, ← Int.mul_assoc, Int.mul_comm (g j) t]
theorem nc_add {L : List (List Int)} {n k o : Nat} {a b : List Int} {t : Int} (h : Nc L n) (hk : L[k]? = some a) (ho : L[o]? = some b) (ne : o ≠ k) (ha : a.length = n) (hb : b.length = n) : Nc (L.set k (List.zipWith (fun x y => x + t * y) a b)) n := by
  intro g hg
  refine h g fun r hr => ?_
  have lk := (List.getElem?_eq_some_iff.mp hk).1
  have kb : kil g n b := hg b (List.mem_of_getElem? (i := o) (by rw [List.getElem?_set_ne (by omega)]; exact ho))
  obtain ⟨i, hi, rfl⟩ := List.getElem_of_mem hr
  by_cases e : i = k
  · subst e
    have ka := hg _ (List.mem_of_getElem? (i := i) (List.getElem?_set_self lk))
    rw [List.getElem?_eq_getElem hi] at hk
    cases hk
    unfold kil at ka kb ⊢
    rw [kil_add ha hb, kb] at ka
    omega
  · exact hg _ (List.mem_of_getElem? (i := i) (by rw [List.getElem?_set_ne (by omega), List.getElem?_eq_getElem hi]))
theorem nc_sub {L L' : List (List Int)} {n : Nat} (h : Nc L n) (s : ∀ r ∈ L, r ∈ L') : Nc L' n := fun g hg => h g fun r hr => hg r (s r hr)
theorem nc_col {L : List (List Int)} {n : Nat} (hl : L.length = n) (h : Nc L n) : ¬ ColRel L n := by
  rintro ⟨g, k, hk, hg, e⟩
  refine hg (h g (fun r hr => ?_) k hk)
  obtain ⟨i, hi, rfl⟩ := List.getElem_of_mem hr
  have := e i (by omega)
  unfold cell at this
  rw [List.getD_eq_getElem?_getD (l := L), List.getElem?_eq_getElem hi] at this
  exact this
/-- what is summed up of shares -/
def Gv (row x : List Int) (d : Int) (k : Nat) (top bot : Int) : Prop := 0 < bot ∧ top * d = bot * sm k (fun j => row.getD j 0 * x.getD j 0)
theorem Gv.start (row x : List Int) (d : Int) : Gv row x d 0 0 1 := ⟨by decide, by show 0 * d = 1 * 0; omega⟩
theorem Gv.step {row x : List Int} {d top bot t b : Int} {k : Nat} (h : Gv row x d k top bot) (hb : 0 < b) (e : t * d = x.getD k 0 * b) : Gv row x d (k + 1) (top * b + row.getD k 0 * t * bot) (bot * b) := by
  obtain ⟨h1, h2⟩ := h
  refine ⟨Int.mul_pos h1 hb, ?_⟩
  show _ = bot * b * (sm k _ + row.getD k 0 * x.getD k 0)
  generalize sm k (fun j => row.getD j 0 * x.getD j 0) = s at *
  generalize row.getD k 0 = n at *
  generalize x.getD k 0 = y at *
  have e1 : (top * b + n * t * bot) * d = (top * d) * b + n * bot * (t * d) := by
    rw [Int.add_mul, Int.mul_right_comm top b d]
    congr 1
    rw [Int.mul_assoc, Int.mul_assoc, Int.mul_assoc, Int.mul_left_comm t bot d]
  rw [e1, h2, e]
  rw [Int.mul_add, Int.mul_right_comm bot s b]
  congr 1
  rw [Int.mul_assoc, Int.mul_assoc, Int.mul_comm y b, Int.mul_left_comm n bot, Int.mul_left_comm n b]
theorem Gv.fin {row x : List Int} {d top bot s : Int} {n : Nat} (h : Gv row x d n top bot) (hd : d ≠ 0) (e : sm n (fun j => row.getD j 0 * x.getD j 0) = s * d) : top = s * bot := by
  obtain ⟨h1, h2⟩ := h
  rw [e] at h2
  refine Int.eq_of_mul_eq_mul_right hd ?_
  rw [h2, ← Int.mul_assoc, Int.mul_comm bot s]
end Bar
namespace Bar
theorem kil_add' {g : Nat → Int} {n : Nat} {a b : List Int} {t : Int} (ha : n ≤ a.length) (hb : n ≤ b.length) : sm n (fun j => g j * (List.zipWith (fun x y => x + t * y) a b).getD j 0) = sm n (fun j => g j * a.getD j 0) + t * sm n (fun j => g j * b.getD j 0) := by
  rw [← sm_mul, ← sm_add]
  refine sm_congr fun j hj => ?_
  simp only [List.getD_eq_getElem?_getD, List.getElem?_zipWith]
  rw [List.getElem?_eq_getElem (show j < a.length by omega), List.getElem?_eq_getElem (show j < b.length by omega)]
  show g j * (a[j] + t * b[j]) = g j * a[j] + t * (g j * b[j])
  rw [Int.mul_add, ← Int.mul_assoc, ← Int.mul_assoc, Int.mul_comm (g j) t]
theorem nc_add' {L : List (List Int)} {n k o : Nat} {a b : List Int} {t : Int} (h : Nc L n) (hk : L[k]? = some a) (ho : L[o]? = some b) (ne : o ≠ k) (ha : n ≤ a.length) (hb : n ≤ b.length) : Nc (L.set k (List.zipWith (fun x y => x + t * y) a b)) n := by
  intro g hg
  refine h g fun r hr => ?_
  have lk := (List.getElem?_eq_some_iff.mp hk).1
  have kb : kil g n b := hg b (List.mem_of_getElem? (i := o) (by rw [List.getElem?_set_ne (by omega)]; exact ho))
  obtain ⟨i, hi, rfl⟩ := List.getElem_of_mem hr
  by_cases e : i = k
  · subst e
    have ka := hg _ (List.mem_of_getElem? (i := i) (List.getElem?_set_self lk))
    rw [List.getElem?_eq_getElem hi] at hk
    cases hk
    unfold kil at ka kb ⊢
    rw [kil_add' ha hb, kb] at ka
    omega
  · exact hg _ (List.mem_of_getElem? (i := i) (by rw [List.getElem?_set_ne (by omega), List.getElem?_eq_getElem hi]))
theorem getD_scale (f : Int) (a : List Int) (j : Nat) : (a.map fun x => f * x).getD j 0 = f * a.getD j 0 := by
  rw [List.getD_eq_getElem?_getD, List.getElem?_map, List.getD_eq_getElem?_getD]
  cases a[j]? with
  | none => exact (Int.mul_zero f).symm
  | some x => rfl
theorem nc_scale {L : List (List Int)} {n k : Nat} {a : List Int} {f : Int} (h : Nc L n) (hk : L[k]? = some a) (hf : f ≠ 0) : Nc (L.set k (a.map fun x => f * x)) n := by
  intro g hg
  refine h g fun r hr => ?_
  have lk := (List.getElem?_eq_some_iff.mp hk).1
  obtain ⟨i, hi, rfl⟩ := List.getElem_of_mem hr
  by_cases e : i = k
  · subst e
    have ka := hg _ (List.mem_of_getElem? (i := i) (List.getElem?_set_self lk))
    rw [List.getElem?_eq_getElem hi] at hk
    cases hk
    unfold kil at ka ⊢
    have e2 : sm n (fun j => g j * (L[i].map fun x => f * x).getD j 0) = f * sm n (fun j => g j * L[i].getD j 0) := by
      rw [← sm_mul]
      refine sm_congr fun j _ => ?_
      rw [getD_scale, Int.mul_left_comm]
    rw [e2] at ka
    rcases Int.mul_eq_zero.mp ka with h0 | h0
    · exact absurd h0 hf
    · exact h0
  · exact hg _ (List.mem_of_getElem? (i := i) (by rw [List.getElem?_set_ne (by omega), List.getElem?_eq_getElem hi]))
/-- a line that the numbers x over d fit -/
def Fit (n : Nat) (x : List Int) (d : Int) (r : List Int) : Prop := sm n (fun j => r.getD j 0 * x.getD j 0) = r.getD n 0 * d
theorem Fit.add {n : Nat} {x : List Int} {d t : Int} {a b : List Int} (ha : Fit n x d a) (hb : Fit n x d b) (la : a.length = n + 1) (lb : b.length = n + 1) : Fit n x d (List.zipWith (fun x y => x + t * y) a b) := by
  have e : ∀ j, j ≤ n → (List.zipWith (fun x y => x + t * y) a b).getD j 0 = a.getD j 0 + t * b.getD j 0 := fun j hj => by
    simp only [List.getD_eq_getElem?_getD, List.getElem?_zipWith]
    rw [List.getElem?_eq_getElem (show j < a.length by omega), List.getElem?_eq_getElem (show j < b.length by omega)]
    rfl
  unfold Fit at *
  rw [e n (Nat.le_refl _), Int.add_mul, ← ha, Int.mul_assoc, ← hb, ← sm_mul, ← sm_add]
  refine sm_congr fun j hj => ?_
  rw [e j (by omega), Int.add_mul, Int.mul_assoc]
theorem Fit.scale {n : Nat} {x : List Int} {d f : Int} {a : List Int} (ha : Fit n x d a) : Fit n x d (a.map fun x => f * x) := by
  unfold Fit at *
  rw [getD_scale, Int.mul_assoc, ← ha, ← sm_mul]
  refine sm_congr fun j hj => ?_
  rw [getD_scale, Int.mul_assoc]
/-- one answer only -/
theorem fit_one {L : List (List Int)} {n : Nat} {x y : List Int} {d e : Int} (nc : Nc L n) (hx : ∀ r ∈ L, Fit n x d r) (hy : ∀ r ∈ L, Fit n y e r) {i : Nat} (hi : i < n) : x.getD i 0 * e = y.getD i 0 * d := by
  have := nc (fun j => x.getD j 0 * e - y.getD j 0 * d) (fun r hr => ?_) i hi
  · omega
  · have h1 := hx r hr
    have h2 := hy r hr
    unfold Fit at h1 h2
    unfold kil
    have e1 : sm n (fun j => (x.getD j 0 * e - y.getD j 0 * d) * r.getD j 0) = e * sm n (fun j => r.getD j 0 * x.getD j 0) + (-d) * sm n (fun j => r.getD j 0 * y.getD j 0) := by
      rw [← sm_mul, ← sm_mul, ← sm_add]
      refine sm_congr fun j _ => ?_
      rw [Int.sub_mul, Int.neg_mul, ← Int.sub_eq_add_neg]
      congr 1
      · rw [Int.mul_comm (x.getD j 0) e, Int.mul_assoc, Int.mul_comm (x.getD j 0)]
      · rw [Int.mul_comm (y.getD j 0) d, Int.mul_assoc, Int.mul_comm (y.getD j 0)]
    rw [e1, h1, h2, Int.neg_mul, Int.mul_left_comm d, Int.mul_left_comm e, Int.mul_comm e d]
    omega
/-- two places changed about -/
def tw (l : List Int) (a b : Nat) : List Int := (l.set a (l.getD b 0)).set b (l.getD a 0)
def tr (a b j : Nat) : Nat := if j = b then a else if j = a then b else j
theorem tw_get {l : List Int} {a b j : Nat} (ha : a < l.length) (hb : b < l.length) : (tw l a b).getD j 0 = l.getD (tr a b j) 0 := by
  unfold tw tr
  rw [List.getD_eq_getElem?_getD]
  by_cases e : j = b
  · subst e
    rw [if_pos rfl, List.getElem?_set_self (by rw [List.length_set]; exact hb)]
    rfl
  · rw [if_neg e, List.getElem?_set_ne (by omega)]
    by_cases f : j = a
    · subst f
      rw [if_pos rfl, List.getElem?_set_self ha]
      rfl
    · rw [if_neg f, List.getElem?_set_ne (by omega), List.getD_eq_getElem?_getD]
theorem tr_tr (a b j : Nat) : tr a b (tr a b j) = j := by
  unfold tr
  by_cases e : j = b
  · rw [if_pos e]
    by_cases f : a = b
    · rw [if_pos f, f, e]
    · rw [if_neg f, if_pos rfl, e]
  · rw [if_neg e]
    by_cases f : j = a
    · rw [if_pos f, if_pos rfl, f]
    · rw [if_neg f, if_neg e, if_neg f]
theorem sm_tr {f : Nat → Int} {a b n : Nat} (ha : a < n) (hb : b < n) : sm n (fun j => f (tr a b j)) = sm n f := by
  by_cases e : a = b
  · subst e
    refine sm_congr fun j _ => ?_
    unfold tr
    by_cases h : j = a
    · rw [if_pos h, h]
    · rw [if_neg h, if_neg h]
  · have e1 : sm n (fun j => f (tr a b j)) = sm n (fun j => f j + ((if j = a then f b - f a else 0) + (if j = b then f a - f b else 0))) := sm_congr fun j _ => by
      unfold tr
      by_cases h : j = b
      · rw [if_pos h, if_neg (show ¬ j = a by omega), if_pos h, h]; omega
      · rw [if_neg h, if_neg h]
        by_cases k : j = a
        · rw [if_pos k, if_pos k, k]; omega
        · rw [if_neg k, if_neg k]; omega
    rw [e1, sm_add, sm_add, sm_ind, sm_ind, if_pos ha, if_pos hb]
    omega
theorem Fit.tw {n a b : Nat} {x r : List Int} {d : Int} (h : Fit n x d r) (lx : x.length = n) (lr : r.length = n + 1) (ha : a < n) (hb : b < n) : Fit n (tw x a b) d (tw r a b) := by
  unfold Fit at *
  rw [tw_get (by omega) (by omega), show tr a b n = n by unfold tr; rw [if_neg (by omega), if_neg (by omega)], ← h, ← sm_tr (f := fun j => r.getD j 0 * x.getD j 0) ha hb]
  exact sm_congr fun j _ => by rw [tw_get (by omega) (by omega), tw_get (by omega) (by omega)]
theorem nc_tw {L : List (List Int)} {n a b : Nat} (h : Nc L n) (hl : ∀ r ∈ L, n ≤ r.length) (ha : a < n) (hb : b < n) : Nc (L.map fun r => tw r a b) n := by
  intro g hg j hj
  have htr : ∀ i, i < n → tr a b i < n := fun i hi => by
    unfold tr
    split
    · exact ha
    · split
      · exact hb
      · exact hi
  have := h (fun j => g (tr a b j)) (fun r hr => ?_) (tr a b j) (htr j hj)
  · rw [tr_tr] at this
    exact this
  · have k := hg _ (List.mem_map.mpr ⟨r, hr, rfl⟩)
    have lr := hl r hr
    unfold kil at k ⊢
    refine Eq.trans ?_ k
    rw [← sm_tr (f := fun j => g j * (tw r a b).getD j 0) ha hb]
    exact sm_congr fun i _ => by rw [tw_get (by omega) (by omega), tr_tr]
theorem nc_take {L : List (List Int)} {n : Nat} : Nc (L.map fun r => r.take n) n ↔ Nc L n := by
  have e : ∀ (g : Nat → Int) (r : List Int), kil g n (r.take n) ↔ kil g n r := fun g r => by
    unfold kil
    rw [sm_congr (g := fun j => g j * r.getD j 0) fun j hj => by rw [List.getD_eq_getElem?_getD, List.getElem?_take_of_lt hj, ← List.getD_eq_getElem?_getD]]
  constructor
  · intro h g hg
    refine h g fun r hr => ?_
    obtain ⟨q, hq, rfl⟩ := List.mem_map.mp hr
    exact (e g q).mpr (hg q hq)
  · intro h g hg
    exact h g fun r hr => (e g r).mp (hg _ (List.mem_map.mpr ⟨r, hr, rfl⟩))
theorem fit_add {n : Nat} {x y z : List Int} {d e f : Int} {L : List (List Int)} (nc : Nc L n) (hd : d ≠ 0) (he : e ≠ 0)
    (hx : ∀ r ∈ L, ∃ s, sm n (fun j => r.getD j 0 * x.getD j 0) = s * d ∧ ∃ t, sm n (fun j => r.getD j 0 * y.getD j 0) = t * e ∧ sm n (fun j => r.getD j 0 * z.getD j 0) = (s + t) * f) {i : Nat} (hi : i < n) :
    z.getD i 0 * (d * e) = (x.getD i 0 * e + y.getD i 0 * d) * f := by
  have := nc (fun j => z.getD j 0 * (d * e) - (x.getD j 0 * e + y.getD j 0 * d) * f) (fun r hr => ?_) i hi
  · omega
  · obtain ⟨s, h1, t, h2, h3⟩ := hx r hr
    unfold kil
    have e1 : sm n (fun j => (z.getD j 0 * (d * e) - (x.getD j 0 * e + y.getD j 0 * d) * f) * r.getD j 0) = (d * e) * sm n (fun j => r.getD j 0 * z.getD j 0) + ((-(e * f)) * sm n (fun j => r.getD j 0 * x.getD j 0) + (-(d * f)) * sm n (fun j => r.getD j 0 * y.getD j 0)) := by
      rw [← sm_mul, ← sm_mul, ← sm_mul, ← sm_add, ← sm_add]
      refine sm_congr fun j _ => ?_
      grind
    rw [e1, h1, h2, h3]
    grind
end Bar
/-! ### rows of whole numbers, as objects -/
def Rw (H : Hp) (r : List Int) (x : V) : Prop := ∃ q, x = .ref q ∧ H q = some (.lst (List.map V.int r))
theorem Rw.mono {H H' : Hp} {r : List Int} {x : V} (s : Same H H') (h : Rw H r x) : Rw H' r x := by
  obtain ⟨q, e, k⟩ := h
  exact ⟨q, e, s _ _ k⟩
def MtH (H : Hp) (a : Addr) (L : List (List Int)) : Prop := ∃ xs, H a = some (.lst xs) ∧ Al (Rw H) L xs
theorem MtH.mono {H H' : Hp} {a : Addr} {L : List (List Int)} (s : Same H H') (h : MtH H a L) : MtH H' a L := by
  obtain ⟨xs, h1, h2⟩ := h
  exact ⟨xs, s _ _ h1, h2.imp fun _ _ k => k.mono s⟩
theorem cut_drop {xs : List V} {k : Int} (h : 0 ≤ k) : cutV xs (some k) none = xs.drop k.toNat := by
  unfold cutV
  obtain ⟨n, rfl⟩ := Int.eq_ofNat_of_zero_le h
  rw [HT.sIx_none, HT.sIx_nat, Int.toNat_natCast]
  by_cases c : n ≤ xs.length
  · rw [Nat.min_eq_left c, List.take_of_length_le (by rw [List.length_drop]; exact Nat.le_refl _)]
  · rw [Nat.min_eq_right (by omega), List.drop_eq_nil_of_le (Nat.le_refl _), List.drop_eq_nil_of_le (show xs.length ≤ n by omega)]
    simp
theorem cut_tail (r : List Int) : cutV (List.map V.int r) (some 1) none = List.map V.int r.tail := by
  rw [cut_drop (by decide)]
  cases r <;> rfl
theorem ixN_nat {n i : Nat} (h : i < n) : ixN n (i : Int) = some i := by
  unfold ixN
  rw [if_pos (by omega), if_pos (by omega)]
  rfl
theorem at_row {xs : List V} {L : List (List Int)} {H : Hp} {i : Nat} {r : List Int} (al : Al (Rw H) L xs) (e : L[i]? = some r) : ∃ q, atI xs (i : Int) = some (.ref q) ∧ H q = some (.lst (List.map V.int r)) := by
  obtain ⟨v, ev, q, rfl, hq⟩ := al.at e
  exact ⟨q, atI_nat ev, hq⟩
theorem at_int {r : List Int} {j : Nat} (h : j < r.length) : atI (List.map V.int r) (j : Int) = some (.int (r.getD j 0)) := by
  refine atI_nat ?_
  rw [List.getElem?_map, List.getElem?_eq_getElem h]
  simp [List.getD_eq_getElem?_getD, List.getElem?_eq_getElem h]
theorem at_head {r : List Int} (h : 0 < r.length) : atI (List.map V.int r) 0 = some (.int (r.headD 0)) := by
  cases r with
  | nil => cases h
  | cons a r => exact atI_nat (j := 0) rfl
theorem Al.set {α : Type} {R : α → V → Prop} {a : α} {v : V} (h : R a v) : ∀ {as : List α} {vs : List V} {i : Nat}, Al R as vs → Al R (as.set i a) (vs.set i v)
  | [], [], _, _ => trivial
  | _ :: _, _ :: _, 0, k => ⟨h, k.2⟩
  | _ :: _, _ :: _, i + 1, k => ⟨k.1, Al.set h k.2⟩
theorem hid_hid {H : Hp} {p : Addr} {o : HO} : hid (upd H p o) p = hid H p := by
  funext a
  unfold hid
  by_cases h : a = p
  · rw [if_pos h, if_pos h]
  · rw [if_neg h, if_neg h, upd_ne h]
theorem MtH.free {H : Hp} {a : Addr} {L : List (List Int)} {xs : List V} (h : H a = some (.lst xs)) (al : Al (Rw H) L xs) : Al (Rw (hid H a)) L xs := by
  refine Al.of al.length fun i v r e1 e2 => ?_
  obtain ⟨r', e3, q, rfl, hq⟩ := al.get e1
  rw [e2] at e3
  cases e3
  refine ⟨q, rfl, ?_⟩
  rw [hid_ne]
  · exact hq
  · intro e
    rw [e, h] at hq
    have e4 : xs = List.map V.int r := by injection hq with h1; injection h1
    rw [e4, List.getElem?_map] at e1
    obtain ⟨z, _, ez⟩ := Option.map_eq_some_iff.mp e1
    cases ez
theorem MtH.ne {H : Hp} {a q : Addr} {L : List (List Int)} {xs : List V} {r : List Int} (h : H a = some (.lst xs)) (al : Al (Rw H) L xs) (l : 0 < L.length) (hq : H q = some (.lst (List.map V.int r))) : q ≠ a := by
  intro e
  rw [e, h] at hq
  have e4 : xs = List.map V.int r := by injection hq with h1; injection h1
  obtain ⟨v, ev, q', rfl, _⟩ := al.at (List.getElem?_eq_getElem l)
  rw [e4, List.getElem?_map] at ev
  obtain ⟨z, _, ez⟩ := Option.map_eq_some_iff.mp ev
  cases ez
theorem MtH.set {H : Hp} {a q : Addr} {L : List (List Int)} {xs : List V} {r : List Int} {i : Nat} (h : H a = some (.lst xs)) (al : Al (Rw H) L xs) (hq : H q = some (.lst (List.map V.int r))) (ne : q ≠ a) : MtH (upd H a (.lst (xs.set i (.ref q)))) a (L.set i r) := by
  refine ⟨_, upd_same, ?_⟩
  have al2 := (MtH.free h al).imp fun _ _ k => k.mono (hid_upd (o := .lst (xs.set i (.ref q))))
  exact al2.set ⟨q, rfl, by rw [upd_ne ne]; exact hq⟩
theorem Rw.push {H : Hp} {a q : Addr} {L : List (List Int)} {xs : List V} {r : List Int} (al : Al (Rw (hid H a)) L xs) (hq : H q = some (.lst (List.map V.int r))) (ne : q ≠ a) : Al (Rw (hid (upd H a (.lst (xs ++ [.ref q]))) a)) (L ++ [r]) (xs ++ [.ref q]) := by
  rw [hid_hid]
  exact al.append (.one ⟨q, rfl, by rw [hid_ne ne]; exact hq⟩)
theorem ints_zip {zs : List V} {f : Int → Int → Int} {as bs : List Int} (l : zs.length = min (List.map V.int as).length (List.map V.int bs).length) (h : ∀ (j : Nat) y, zs[j]? = some y → ∀ o1 o2, as[j]? = some o1 → bs[j]? = some o2 → y = .int (f o1 o2)) : zs = List.map V.int (List.zipWith f as bs) := by
  rw [List.length_map, List.length_map] at l
  refine List.ext_getElem? fun j => ?_
  by_cases c : j < min as.length bs.length
  · have e1 : as[j]? = some as[j] := List.getElem?_eq_getElem (by omega)
    have e2 : bs[j]? = some bs[j] := List.getElem?_eq_getElem (by omega)
    rw [List.getElem?_eq_getElem (show j < zs.length by omega), h j _ (List.getElem?_eq_getElem (by omega)) _ _ e1 e2, List.getElem?_map, List.getElem?_zipWith, e1, e2]
    rfl
  · rw [List.getElem?_eq_none (by omega), List.getElem?_eq_none (by rw [List.length_map, List.length_zipWith]; omega)]
def matD (L : List (List Int)) : Dat := .lst (L.map fun r => .lst (r.map Dat.int))
theorem Rw.rep {H : Hp} {r : List Int} {x : V} (h : Rw H r x) : Rep H (.lst (r.map Dat.int)) x := by
  obtain ⟨q, rfl, hq⟩ := h
  exact rep_lst.mpr ⟨_, _, rfl, hq, RepL.ints r⟩
theorem MtH.rep {H : Hp} {a : Addr} {L : List (List Int)} (h : MtH H a L) : Rep H (matD L) (.ref a) := by
  obtain ⟨xs, h1, h2⟩ := h
  exact rep_lst.mpr ⟨_, _, rfl, h1, Al.repL (h2.imp fun _ _ k => k.rep)⟩
def spRh : Sp := fun vs H Q _ => ∃ a L k, vs = [.ref a, .int (Nat.cast k)] ∧ MtH H a L ∧ k ≤ L.length ∧ L.length ≤ 64 ∧ (∀ r ∈ L, 0 < r.length) ∧ (∀ i : Nat, k ≤ i → i < L.length → (L.getD i []).headD 0 ≠ 0 → Q (.int i) H) ∧ ((∀ i : Nat, k ≤ i → i < L.length → (L.getD i []).headD 0 = 0) → Q .non H)
def spSwd : Sp := fun vs H Q _ => ∃ a L i j, vs = [.ref a, .int (Nat.cast i), .int (Nat.cast j)] ∧ MtH H a L ∧ i < L.length ∧ j < L.length ∧ L.length ≤ 64 ∧ ∀ p H', Same H H' → MtH H' p ((L.set i (L.getD j [])).set j (L.getD i [])) → Q (.ref p) H'
def spWf : Sp := fun vs H Q _ => ∃ a L s l m, vs = [.ref a, .int (Nat.cast s), .int l] ∧ MtH H a L ∧ s < L.length ∧ L.length ≤ 64 ∧ m ≤ 64 ∧ (∀ r ∈ L, r.length = m + 1) ∧ l ≠ 0 ∧ Bt 4000 l ∧ (∀ r ∈ L, ∀ x ∈ r, Bt 4000 x) ∧ ∀ p H', Same H H' → MtH H' p (Bar.wfc L s l) → Q (.ref p) H'
/-- rows that may be swept: as many numbers in each, none too great -/
structure Swb (L : List (List Int)) (n m b : Nat) : Prop where
  len : L.length = n
  row : ∀ r ∈ L, r.length = m
  nm : n ≤ m
  m64 : m ≤ 64
  b1 : 1 ≤ b
  bd : ∀ r ∈ L, ∀ x ∈ r, x.natAbs ≤ b
  top : ((n + 1) * b) ^ (n + 1) < 2 ^ 4000
def spSw : Sp := fun vs H Q _ => ∃ a L n m b, vs = [.ref a, .int (Nat.cast n)] ∧ MtH H a L ∧ Swb L n m b ∧ ∀ t p k rs W H', Bar.Stp (L.map Bar.fo) n k rs W → (k < n → Bar.Stuck k rs W) → Same H H' → H' t = some (.tup [.ref p, .int (Nat.cast k), .int (Bar.D rs (Bar.dn k))]) → MtH H' p (W.map fun v => Bar.rowOf v rs k m) → Q (.ref t) H'
/-- one sign for all -/
def sgo (d : Int) : Int := if 0 < d then 1 else -1
def ansL (n : Nat) (rs : List Bar.Fm) : List Int := (List.range n).map fun i => Bar.D (Bar.ng i :: rs) (n :: Bar.dn n) * sgo (Bar.D rs (Bar.dn n))
theorem sgo_or (d : Int) : sgo d = 1 ∨ sgo d = -1 := by
  unfold sgo
  split
  · exact .inl rfl
  · exact .inr rfl
theorem sgo_ok {i d : Int} : IntMulOk i (sgo d) := by
  rcases sgo_or d with h | h <;> rw [h] <;> exact mulOkR
theorem ans_eq {U W rs : List Bar.Fm} {n : Nat} (St : Bar.Stp U n n rs W) : W.filterMap (fun v => some (Bar.D (v :: rs) (n :: Bar.dn n) * sgo (Bar.D rs (Bar.dn n)))) = ansL n rs := by
  rw [List.filterMap_eq_map']
  unfold ansL
  refine List.ext_getElem? fun i => ?_
  rw [List.getElem?_map, List.getElem?_map]
  by_cases c : i < n
  · rw [St.own i c, List.getElem?_range c]
    rfl
  · rw [List.getElem?_eq_none (by rw [St.len]; omega), List.getElem?_eq_none (by rw [List.length_range]; omega)]
    rfl
def spWA : Sp := fun vs H Q _ => ∃ a c L S n b, vs = [.ref a, .ref c] ∧ MtH H a L ∧ H c = some (.lst (List.map V.int S)) ∧ S.length = n ∧ Bar.Sq L n ∧ Swb (Bar.aug L S) n (n + 1) b ∧
  (∀ k rs W H', Bar.Stp ((Bar.aug L S).map Bar.fo) n k rs W → k < n → Bar.Stuck k rs W → Same H H' → Q .non H') ∧
  (∀ rs W t p H', Bar.Stp ((Bar.aug L S).map Bar.fo) n n rs W → Same H H' → H' t = some (.tup [.ref p, .int (Bar.D rs (Bar.dn n) * sgo (Bar.D rs (Bar.dn n)))]) → H' p = some (.lst (List.map V.int (ansL n rs))) → Q (.ref t) H')
def spCol : Sp := fun vs H Q _ => ∃ a L c, vs = [.ref a, .int (Nat.cast c)] ∧ MtH H a L ∧ L.length ≤ 64 ∧ (∀ r ∈ L, c < r.length) ∧ ∀ p H', Same H H' → H' p = some (.lst (List.map V.int (L.map fun r => r.getD c 0))) → Q (.ref p) H'
def spTrn : Sp := fun vs H Q _ => ∃ a L n, vs = [.ref a] ∧ MtH H a L ∧ Bar.Sq L n ∧ n ≤ 64 ∧ ∀ p H', Same H H' → MtH H' p (Bar.trn L) → Q (.ref p) H'
def spFac : Sp := fun vs H Q _ => ∃ a L n b, vs = [.ref a] ∧ MtH H a L ∧ Bar.Sq L n ∧ Swb (Bar.trn L) n n b ∧ Bar.ColRel L n ∧ ∀ k rs W p H', Bar.Stp ((Bar.trn L).map Bar.fo) n k rs W → k < n → Bar.Stuck k rs W → Same H H' → H' p = some (.lst (List.map V.int (Bar.facs k n rs))) → Q (.ref p) H'
def spCd : Sp := fun vs H Q _ => ∃ a b, vs = [.int a, .int b] ∧ Q (.int (Nm.g a b)) H
/-- a share of any two numbers; refused where the second is 0 -/
def spSh (qn : Addr) : Sp := fun vs H Q E => ∃ a b, vs = [.int a, .int b] ∧ Bt 5000 b ∧ (b = 0 → E (.ref qn) none H) ∧ (b ≠ 0 → ∀ p H', Same H H' → H p = none → H' p = some (.tup (Pr (Nm.st a b) (Nm.sb a b))) → Q (.ref p) H')
/-! ### what solved tells -/
def ShR (H : Hp) (d x : Int) (v : V) : Prop := ∃ q, v = .ref q ∧ H q = some (.tup (Pr (Nm.st x d) (Nm.sb x d)))
theorem ShR.mono {H H' : Hp} {d x : Int} {v : V} (s : Same H H') (h : ShR H d x v) : ShR H' d x v := by
  obtain ⟨q, e, k⟩ := h
  exact ⟨q, e, s _ _ k⟩
structure Sol (L : List (List Int)) (S : List Int) (n : Nat) (x : List Int) (d : Int) : Prop where
  len : x.length = n
  pos : 0 < d
  bd : Bt 4000 d
  bx : ∀ v ∈ x, Bt 4000 v
  eq : ∀ i, i < n → Bar.sm n (fun j => Bar.cell L i j * x.getD j 0) = S.getD i 0 * d
  ne : Bar.D (L.map Bar.fo) (Bar.dn n) ≠ 0
  dnn : d.natAbs = (Bar.D (L.map Bar.fo) (Bar.dn n)).natAbs
theorem sgo_pos {d : Int} (h : d ≠ 0) : 0 < d * sgo d := by
  unfold sgo
  split
  · omega
  · omega
theorem sgo_abs (x d : Int) : (x * sgo d).natAbs = x.natAbs := by
  rcases sgo_or d with h | h <;> rw [h] <;> omega
theorem ansL_get {n i : Nat} {rs : List Bar.Fm} (h : i < n) : (ansL n rs).getD i 0 = Bar.D (Bar.ng i :: rs) (n :: Bar.dn n) * sgo (Bar.D rs (Bar.dn n)) := by
  unfold ansL
  rw [List.getD_eq_getElem?_getD, List.getElem?_map, List.getElem?_range h]
  rfl
theorem sol_of {L : List (List Int)} {S : List Int} {n b : Nat} {rs W : List Bar.Fm} (sq : Bar.Sq L n) (lS : S.length = n) (B : Swb (Bar.aug L S) n (n + 1) b) (St : Bar.Stp ((Bar.aug L S).map Bar.fo) n n rs W) : Sol L S n (ansL n rs) (Bar.D rs (Bar.dn n) * sgo (Bar.D rs (Bar.dn n))) := by
  have bU := Bar.fo_bd B.bd
  refine ⟨by unfold ansL; rw [List.length_map, List.length_range], sgo_pos St.good.ne, ?_, fun v hv => ?_, fun i hi => ?_, ?_, ?_⟩
  · unfold Bt
    rw [sgo_abs]
    exact Nat.lt_of_le_of_lt (St.bdd B.b1 bU) B.top
  · unfold ansL at hv
    obtain ⟨i, hi, rfl⟩ := List.mem_map.mp hv
    unfold Bt
    rw [sgo_abs]
    exact Nat.lt_of_le_of_lt (St.bdD B.b1 bU (List.mem_of_getElem? (St.own i (List.mem_range.mp hi))) (by omega) n) B.top
  · have e := St.answers (Bar.mem_aug sq lS hi)
    have e2 : Bar.sm n (fun j => Bar.cell L i j * (ansL n rs).getD j 0) = Bar.sm n (fun j => sgo (Bar.D rs (Bar.dn n)) * ((((Bar.aug L S).map Bar.fo).getD i Bar.z0) j * Bar.D (Bar.ng j :: rs) (n :: Bar.dn n))) := Bar.sm_congr fun j hj => by
      rw [ansL_get hj, Bar.aug_fo sq lS hi hj, ← Int.mul_assoc, Int.mul_comm]
    rw [e2, Bar.sm_mul, e, Bar.aug_side sq lS hi, Int.mul_comm, Int.mul_assoc]
  · rw [← Bar.aug_D L S (by rw [lS, sq.len]) sq.row _ fun c hc => Bar.mem_dn.mp hc]
    exact St.ne
  · rw [← Bar.aug_D L S (by rw [lS, sq.len]) sq.row _ fun c hc => Bar.mem_dn.mp hc, sgo_abs]
    obtain ⟨s, hs, e⟩ := Bar.perm St.all
    rw [e]
    rcases hs with rfl | rfl <;> omega
def spSo : Sp := fun vs H Q _ => ∃ a c L S n b, vs = [.ref a, .ref c] ∧ MtH H a L ∧ H c = some (.lst (List.map V.int S)) ∧ S.length = n ∧ Bar.Sq L n ∧ Swb (Bar.aug L S) n (n + 1) b ∧ Swb (Bar.trn L) n n b ∧
  (Bar.ColRel L n → ∀ t p fs H', Same H H' → H' t = some (.tup [.str "bent", .ref p]) → H' p = some (.lst (List.map V.int fs)) → fs.length = n → (∃ f ∈ fs, f ≠ 0) → (∀ j, j < n → Bar.sm n (fun i => fs.getD i 0 * Bar.cell L i j) = 0) → (∀ f ∈ fs, Bt 4001 f) → Q (.ref t) H') ∧
  (∀ x d t p vs H', Sol L S n x d → ¬ Bar.ColRel L n → Same H H' → H' t = some (.tup [.str "one", .ref p]) → H p = none → H' p = some (.lst vs) → Al (ShR H' d) x vs → Q (.ref t) H')
theorem Al.take {α : Type} {R : α → V → Prop} : ∀ {as : List α} {vs : List V} {i : Nat}, Al R as vs → Al R (as.take i) (vs.take i)
  | [], [], 0, _ => trivial
  | [], [], _ + 1, _ => trivial
  | _ :: _, _ :: _, 0, _ => trivial
  | _ :: _, _ :: _, _ + 1, h => ⟨h.1, Al.take h.2⟩
theorem Al.drop {α : Type} {R : α → V → Prop} : ∀ {as : List α} {vs : List V} {i : Nat}, Al R as vs → Al R (as.drop i) (vs.drop i)
  | [], [], 0, _ => trivial
  | [], [], _ + 1, _ => trivial
  | _ :: _, _ :: _, 0, h => h
  | _ :: as, _ :: vs, i + 1, h => Al.drop (as := as) (vs := vs) (i := i) h.2
theorem ins_perm {α : Type} (M : List α) (i : Nat) (r : α) : (M.take i ++ r :: M.drop i).Perm (M ++ [r]) := by
  refine List.perm_middle.trans ?_
  rw [List.take_append_drop]
  exact (List.perm_append_singleton r M).symm
def BB (k : Nat) : Nat := 5 * 3 ^ k
theorem BB_mono {a b : Nat} (h : a ≤ b) : BB a ≤ BB b := Nat.mul_le_mul_left _ (Nat.pow_le_pow_right (by decide) h)
theorem zip_bd {a b : List Int} {t : Int} {k : Nat} (ha : ∀ x ∈ a, x.natAbs ≤ BB k) (hb : ∀ x ∈ b, x.natAbs ≤ BB k) (ht : t.natAbs ≤ 2) : ∀ x ∈ List.zipWith (fun x y => x + t * y) a b, x.natAbs ≤ BB (k + 1) := by
  intro x hx
  obtain ⟨i, hi, rfl⟩ := List.getElem_of_mem hx
  rw [List.getElem_zipWith]
  rw [List.length_zipWith] at hi
  have h1 := ha _ (List.getElem_mem (show i < a.length by omega))
  have h2 := hb _ (List.getElem_mem (show i < b.length by omega))
  have h3 := Int.natAbs_add_le a[i] (t * b[i])
  have h4 : (t * b[i]).natAbs ≤ 2 * BB k := by rw [Int.natAbs_mul]; exact Nat.mul_le_mul ht h2
  have e : BB (k + 1) = 3 * BB k := by unfold BB; rw [Nat.pow_succ]; omega
  omega
theorem getD_set {r : List Int} {m i : Nat} {v : Int} (h : m < r.length) : (r.set m v).getD i 0 = if i = m then v else r.getD i 0 := by
  rw [List.getD_eq_getElem?_getD]
  by_cases e : i = m
  · subst e; rw [if_pos rfl, List.getElem?_set_self h]; rfl
  · rw [if_neg e, List.getElem?_set_ne (by omega), List.getD_eq_getElem?_getD]
theorem nc_aug {L : List (List Int)} {S : List Int} {n : Nat} (sq : Bar.Sq L n) (lS : S.length = n) (h : Bar.Nc L n) : Bar.Nc (Bar.aug L S) n := by
  have e : (Bar.aug L S).map (fun r => r.take n) = L := by
    refine List.ext_getElem? fun i => ?_
    rw [List.getElem?_map]
    by_cases c : i < n
    · obtain ⟨r, er, lr, _⟩ := sq.at c
      rw [Bar.aug_get lS c er, er]
      show some ((r ++ [S.getD i 0]).take n) = some r
      rw [List.take_append_of_le_length (by omega), List.take_of_length_le (by omega)]
    · rw [List.getElem?_eq_none (by rw [Bar.aug_len sq.len lS]; omega), List.getElem?_eq_none (by rw [sq.len]; omega)]
      rfl
  rw [← Bar.nc_take, e]
  exact h
theorem fit_aug {L : List (List Int)} {S : List Int} {n i : Nat} {x : List Int} {d : Int} {r : List Int} (sq : Bar.Sq L n) (lS : S.length = n) (hi : i < n) (er : L[i]? = some r) (h : ∀ q ∈ Bar.aug L S, Bar.Fit n x d q) : Bar.sm n (fun j => r.getD j 0 * x.getD j 0) = S.getD i 0 * d := by
  have := h _ (List.mem_of_getElem? (Bar.aug_get lS hi er))
  unfold Bar.Fit at this
  have lr := sq.row r (List.mem_of_getElem? er)
  have e1 : (r ++ [S.getD i 0]).getD n 0 = S.getD i 0 := by
    rw [List.getD_eq_getElem?_getD, List.getElem?_append_right (by omega), lr]
    simp
  rw [e1] at this
  rw [← this]
  exact Bar.sm_congr fun j hj => by rw [List.getD_eq_getElem?_getD (l := r ++ _), List.getElem?_append_left (by omega), ← List.getD_eq_getElem?_getD]
theorem aug_of {H : Hp} {P : Int → Prop} : ∀ {L : List (List Int)} {ys : List V}, ys.length = L.length → (∀ (i : Nat) y, ys[i]? = some y → ∃ s, P s ∧ ∀ r, L[i]? = some r → Rw H (r ++ [s]) y) → ∃ S : List Int, S.length = L.length ∧ (∀ s ∈ S, P s) ∧ Al (Rw H) (Bar.aug L S) ys
  | [], [], _, _ => ⟨[], rfl, by simp, trivial⟩
  | [], _ :: _, h, _ => by simp at h
  | _ :: _, [], h, _ => by simp at h
  | r :: L, y :: ys, h, k => by
    obtain ⟨s, ps, hs⟩ := k 0 y rfl
    obtain ⟨S, lS, pS, aS⟩ := aug_of (L := L) (ys := ys) (by simpa using h) fun i y e => by
      obtain ⟨s, p, q⟩ := k (i + 1) y (by simpa using e)
      exact ⟨s, p, fun r er => q r (by simpa using er)⟩
    refine ⟨s :: S, by simp [lS], fun z hz => ?_, ⟨hs r rfl, aS⟩⟩
    rcases List.mem_cons.mp hz with rfl | hz
    · exact ps
    · exact pS z hz
theorem cut_last {r : List Int} {n : Nat} (h : r.length = n + 1) : cutV (List.map V.int r) none (some (-1)) = List.map V.int (r.take n) := by
  unfold cutV
  have e := HT.clip_eq (-1) (List.map V.int r).length (List.map V.int r).length
  rw [if_pos (by decide), List.length_map, h] at e
  have e2 : HT.sIx (n + 1) (n + 1) (some (-1)) = n := by omega
  rw [List.length_map, h, HT.sIx_none, e2, Nat.sub_zero, List.drop_zero, List.map_take]
theorem at_last {r : List Int} {n : Nat} (h : r.length = n + 1) : atI (List.map V.int r) (-1) = some (.int (r.getD n 0)) := by
  unfold atI ixN
  rw [if_neg (by decide), List.length_map, h, if_pos (by omega), show ((-1 : Int) + ((n + 1 : Nat) : Int)).toNat = n by omega]
  show (List.map V.int r)[n]? = _
  rw [List.getElem?_map, List.getElem?_eq_getElem (show n < r.length by omega), List.getD_eq_getElem?_getD, List.getElem?_eq_getElem (show n < r.length by omega)]
  rfl
theorem aug_lines {n : Nat} : ∀ {M : List (List Int)}, (∀ r ∈ M, r.length = n + 1) → Bar.aug (M.map fun r => r.take n) (M.map fun r => r.getD n 0) = M
  | [], _ => rfl
  | r :: M, h => by
    have lr := h r (List.mem_cons_self ..)
    show (r.take n ++ [r.getD n 0]) :: Bar.aug (M.map fun r => r.take n) (M.map fun r => r.getD n 0) = r :: M
    rw [aug_lines fun q hq => h q (List.mem_cons_of_mem _ hq), List.getD_eq_getElem?_getD, List.getElem?_eq_getElem (show n < r.length by omega)]
    congr 1
    show r.take n ++ [r[n]] = r
    have : r.take (n + 1) = r := List.take_of_length_le (by omega)
    rw [List.take_succ_eq_append_getElem (by omega)] at this
    exact this
/-- shares as a datum -/
def shD (x : List Int) (d : Int) : Dat := .lst (x.map fun v => .tup [.int (Nm.st v d), .int (Nm.sb v d)])
theorem ShR.rep {H : Hp} {d x : Int} {v : V} (h : ShR H d x v) : Rep H (.tup [.int (Nm.st x d), .int (Nm.sb x d)]) v := by
  obtain ⟨q, rfl, hq⟩ := h
  rw [Rep]
  refine ⟨q, _, rfl, hq, ?_⟩
  simp only [Pr, RepL, Rep]
  exact ⟨_, _, rfl, rfl, _, _, rfl, rfl, rfl⟩
theorem shs_rep {H : Hp} {d : Int} {x : List Int} {a : Addr} {us : List V} (h : H a = some (.lst us)) (al : Al (ShR H d) x us) : Rep H (shD x d) (.ref a) :=
  rep_lst.mpr ⟨a, us, rfl, h, Al.repL (al.imp fun _ _ k => k.rep)⟩
theorem depth_sh (x : List Int) (d : Int) : depth (shD x d) ≤ 40 := by
  have := depth_flat (ds := x.map fun v => .tup [.int (Nm.st v d), .int (Nm.sb v d)]) (n := 1) fun e he => by
    obtain ⟨v, _, rfl⟩ := List.mem_map.mp he
    simp [depth, depth.dL]
  unfold shD
  rw [depth]
  omega
theorem shD_eq {x y : List Int} {d e : Int} (hd : d ≠ 0) (he : e ≠ 0) (l : x.length = y.length) (h : ∀ i, i < x.length → x.getD i 0 * e = y.getD i 0 * d) : shD x d = shD y e := by
  unfold shD
  congr 1
  refine List.ext_getElem? fun i => ?_
  rw [List.getElem?_map, List.getElem?_map]
  by_cases c : i < x.length
  · have h1 := h i c
    rw [List.getD_eq_getElem?_getD, List.getD_eq_getElem?_getD, List.getElem?_eq_getElem c, List.getElem?_eq_getElem (show i < y.length by omega), Option.getD_some, Option.getD_some] at h1
    rw [List.getElem?_eq_getElem c, List.getElem?_eq_getElem (show i < y.length by omega)]
    obtain ⟨a, b⟩ := Nm.st_eq hd he h1
    simp only [Option.map_some, a, b]
  · rw [List.getElem?_eq_none (by omega), List.getElem?_eq_none (by omega)]
    rfl
def spC (K : PySem.W.Frag) : Sp := fun vs H Q _ => ∃ a ns k, vs = [.ref a, .int k] ∧ SqL K H a (List.map V.int ns) ∧ 0 ≤ k ∧ k < 1000 ∧ ∀ n, Q (.int n) H
def spMx (K : PySem.W.Frag) : Sp := fun vs H Q _ => ∃ a ns k j, vs = [.ref a, .int k, .int j] ∧ SqL K H a (List.map V.int ns) ∧ 0 ≤ k ∧ k < 1000 ∧ 0 ≤ j ∧ j < 1000 ∧ ∀ n, 0 ≤ n → n < 2147483647 → Q (.int n) H
theorem tw_len (l : List Int) (a b : Nat) : (Bar.tw l a b).length = l.length := by unfold Bar.tw; rw [List.length_set, List.length_set]
theorem tw_mem {l : List Int} {a b : Nat} {x : Int} (h : x ∈ Bar.tw l a b) (ha : a < l.length) (hb : b < l.length) : x ∈ l := by
  unfold Bar.tw at h
  have g : ∀ i, i < l.length → l.getD i 0 ∈ l := fun i hi => by rw [List.getD_eq_getElem?_getD, List.getElem?_eq_getElem hi]; exact List.getElem_mem _
  rcases List.mem_or_eq_of_mem_set h with h | h
  · rcases List.mem_or_eq_of_mem_set h with h | h
    · exact h
    · rw [h]; exact g b hb
  · rw [h]; exact g a ha
theorem tw_ints (l : List Int) {i j : Nat} (hi : i < l.length) (hj : j < l.length) : ((List.map V.int l).set i ((List.map V.int l).getD j .non)).set j ((List.map V.int l).getD i .non) = List.map V.int (Bar.tw l i j) := by
  have g : ∀ k, k < l.length → (List.map V.int l).getD k .non = .int (l.getD k 0) := fun k hk => by
    rw [List.getD_eq_getElem?_getD, List.getElem?_map, List.getD_eq_getElem?_getD, List.getElem?_eq_getElem hk]
    rfl
  rw [g i hi, g j hj]
  unfold Bar.tw
  rw [List.map_set, List.map_set]
theorem tw_shs {H : Hp} {d : Int} {x : List Int} {us : List V} (al : Al (ShR H d) x us) {i j : Nat} (hi : i < x.length) (hj : j < x.length) : Al (ShR H d) (Bar.tw x i j) ((us.set i (us.getD j .non)).set j (us.getD i .non)) := by
  have g : ∀ k, k < x.length → ShR H d (x.getD k 0) (us.getD k .non) := fun k hk => by
    obtain ⟨v, ev, h⟩ := al.at (List.getElem?_eq_getElem hk)
    rw [List.getD_eq_getElem?_getD, List.getElem?_eq_getElem hk, List.getD_eq_getElem?_getD, ev]
    exact h
  exact Al.set (g i hi) (Al.set (g j hj) al)
theorem st_zero {d : Int} (h : 0 < d) : Nm.st 0 d = 0 ∧ Nm.sb 0 d = 1 := Nm.st_one (by omega) (by decide) (by decide) (by omega)
theorem sum_sh {a b c e x y z d f : Int} (hd : d ≠ 0) (he : e ≠ 0) (h1 : a * d = x * b) (h2 : c * e = y * f) {w' : Int} (h3 : z * (d * e) = (x * e + y * d) * w') : (a * f + c * b) * w' = z * (b * f) := by
  have h : ((a * f + c * b) * w') * (d * e) = (z * (b * f)) * (d * e) := by grind
  exact Int.eq_of_mul_eq_mul_right (Int.mul_ne_zero hd he) h
def spPlu : Sp := fun vs H Q _ => ∃ p q a b c d, vs = [.ref p, .ref q] ∧ H p = some (.tup (Pr a b)) ∧ H q = some (.tup (Pr c d)) ∧ Bt 4000 a ∧ Bt 300 b ∧ Bt 4000 c ∧ Bt 300 d ∧ b * d ≠ 0 ∧ ∀ r H', Same H H' → H' r = some (.tup (Pr (Nm.st (a * d + c * b) (b * d)) (Nm.sb (a * d + c * b) (b * d)))) → Q (.ref r) H'
def spRws (K : PySem.W.Frag) : Sp := fun vs H Q _ => ∃ a ns n, vs = [.ref a, .int (Nat.cast n)] ∧ SqL K H a (List.map V.int ns) ∧ 1 ≤ n ∧ n ≤ 5 ∧ ∀ p L H', Same H H' → MtH H' p L → Bar.Sq L n → Bar.Nc L n → (∀ r ∈ L, ∀ x ∈ r, x.natAbs ≤ BB 5) → Q (.ref p) H'
/-- lines: rows with a number more -/
structure Ln (M : List (List Int)) (n b : Nat) : Prop where
  len : M.length = n
  row : ∀ r ∈ M, r.length = n + 1
  bd : ∀ r ∈ M, ∀ x ∈ r, x.natAbs ≤ b
  n1 : 1 ≤ n
  n5 : n ≤ 5
  nc : Bar.Nc M n
structure Ans (M : List (List Int)) (n : Nat) (x : List Int) (d : Int) : Prop where
  len : x.length = n
  pos : 0 < d
  bd : Bt 300 d
  bx : ∀ v ∈ x, Bt 4000 v
  fit : ∀ r ∈ M, Bar.Fit n x d r
def spAns : Sp := fun vs H Q _ => ∃ a M n, vs = [.ref a] ∧ MtH H a M ∧ Ln M n 1000000000000 ∧ ∀ p us x d H', Same H H' → H p = none → H' p = some (.lst us) → Al (ShR H' d) x us → Ans M n x d → Q (.ref p) H'
def spChg (K : PySem.W.Frag) : Sp := fun vs H Q _ => ∃ s ns a M n, vs = [.ref s, .ref a] ∧ SqL K H s (List.map V.int ns) ∧ MtH H a M ∧ Ln M n 2000 ∧ ∀ p M' H', Same H H' → MtH H' p M' → Ln M' n 1000000000000 → (∀ x d, (∀ r ∈ M, Bar.Fit n x d r) → ∀ r ∈ M', Bar.Fit n x d r) → Q (.ref p) H'
def spTw : Sp := fun vs H Q _ => ∃ a us i j, vs = [.ref a, .int (Nat.cast i), .int (Nat.cast j)] ∧ H a = some (.lst us) ∧ i < us.length ∧ j < us.length ∧ us.length ≤ 64 ∧ ∀ p H', Same H H' → H p = none → H' p = some (.lst ((us.set i (us.getD j .non)).set j (us.getD i .non))) → Q (.ref p) H'
def spLaw (K : PySem.W.Frag) : Sp := fun vs H Q _ => ∃ (a : Addr) (ns : List Int), vs = [.ref a] ∧ SqL K H a (ns.map V.int) ∧ ns.length ≤ 63 ∧ ∀ H', Q (.bl true) H'
section
variable {P : Program} {w : World} {K : PySem.W.Frag} {mg : Str → Option Value} {base : Heap}
variable {q_NoShare : Addr}
theorem sc_common_divisor : FnScope ["one", "other", "rest"] ["one", "other"] (defScope (top 4)) := ⟨rfl, rfl, rfl, by decide +kernel, rfl, by decide +kernel, by decide +kernel⟩
theorem ok_cd (T : Txt K mg q_NoShare) : Cal P w K mg base (CX1 P w) 1 "common_divisor" ["one", "other"] spCd := by
  refine T.d_common_divisor.cal (fun _ _ _ _ _ _ us hl => match us, hl with | [_, _], _ => rfl) fun f fd F => F.okC sc_common_divisor (fun vs H Q E h => ?_) (fun cdv A outer s H vs Q E hr h => ?_)
  · obtain ⟨_, _, rfl, _⟩ := h; rfl
  · obtain ⟨a, b, rfl, k⟩ := h
    have nd := sc_common_divisor.nd
    refine ⟨_, (pss_cons (ps_set (i := 0) nd rfl (Or.inl rfl) (pe_callB call_abs (by rfl) T.z_abs rfl (pa_cons (pv 0) pa_nil (se rfl)) (he := se rfl) (hpl := na rfl)))
    (pss_cons (ps_set (i := 1) nd rfl (Or.inl rfl) (pe_callB call_abs (by rfl) T.z_abs rfl (pa_cons (pv 1) pa_nil (se rfl)) (he := se rfl) (hpl := na rfl)))
    (pss_cons (ps_while PassesOwn.never (pt_cmpR op_ne (pv 1) pe_int (nomark _)) (pss_cons (ps_set (i := 2) nd rfl (Or.inl rfl) (pe_op op_modB (pv 0) (pv 1)))
    (pss_cons (ps_set (i := 0) nd rfl (Or.inl rfl) (pv 1))
    (pss_one (ps_set (i := 1) nd rfl (Or.inl rfl) (pv 2))))))
    (pss_one (ps_ret (pv 0)))))), ?_⟩
    simp only [L2.start, Pr, tRev, tD1, tDPop1, tSl, tNoPart, tPart, rSlL, tDIn, tDNotIn, gSub, rSetL, tLst, tDNewK, tComp, L2.stC, tFor_eq, iList, iTup, iRng1, iRng2, iZip, iEnum, iDict, iStr, tChain, tSumV, tBM, rJoin, tJoined, jNil, jLit, jInt, jStr, tRaise, tDGet, tDGet2, tDGet1, sDPut, Option.join_some, List.getElem?_nil,  tSeq, tRet, tRetN, tIfS, tTest, tB, tOp, tUn, tVar, tC, tCB, tCons, tNil, tCall, tTupS, tAsg, gName, gNil, gCons, tPar, tNext, tDrop, tAnd, tOr, tNot, tAndV, tOrV, tNotV, tIf, rI, rI0, rU, rIxTH, rIxLH, rEqT, rNeT, rInT, rEq, rNe, scal, CPow, at0, at1, at2, List.map_cons, List.map_nil, List.length_cons, List.length_nil, Nat.reduceSub, Nat.reduceAdd, Nat.zero_add, List.replicate_zero, List.reduceReplicate, List.append_nil, List.nil_append, List.cons_append, List.getElem?_cons_zero, List.getElem?_cons_succ, List.set_cons_zero, List.set_cons_succ, Option.some.injEq, exists_eq_left', exists_eq_left, V.ref.injEq, V.int.injEq, V.bl.injEq, V.str.injEq, V.ty.injEq, HO.tup.injEq, HO.lst.injEq, List.cons.injEq, and_true, true_and, and_assoc, exists_and_left, decide_eq_true_eq, Bool.not_eq_true', decide_eq_false_iff_not, ite_true, ite_false, if_true, if_false, Int.reduceToNat, eq_self_iff_true]
    refine while_by (fun σ H1 => H1 = H ∧ ∃ (x y : Int) (z : Option V), σ = [some (.int x), some (.int y), z] ∧ 0 ≤ x ∧ 0 ≤ y ∧ Nm.g x y = Nm.g a b) (fun σ _ => match σ with | [_, some (.int y), _] => y.toNat | _ => 0) ?_ ?_ ?_
    · refine ⟨rfl, _, _, _, rfl, ?_, ?_, ?_⟩
      · split <;> omega
      · split <;> omega
      · rw [show (if a < 0 then -a else a) = (a.natAbs : Int) by split <;> omega, show (if b < 0 then -b else b) = (b.natAbs : Int) by split <;> omega, Nm.g_abs, Nm.g_abs_r]
    · rintro σ H1 ⟨rfl, x, y, z, rfl, x0, y0, e⟩
      simp only [L2.start, Pr, tRev, tD1, tDPop1, tSl, tNoPart, tPart, rSlL, tDIn, tDNotIn, gSub, rSetL, tLst, tDNewK, tComp, L2.stC, tFor_eq, iList, iTup, iRng1, iRng2, iZip, iEnum, iDict, iStr, tChain, tSumV, tBM, rJoin, tJoined, jNil, jLit, jInt, jStr, tRaise, tDGet, tDGet2, tDGet1, sDPut, Option.join_some, List.getElem?_nil,  tSeq, tRet, tRetN, tIfS, tTest, tB, tOp, tUn, tVar, tC, tCB, tCons, tNil, tCall, tTupS, tAsg, gName, gNil, gCons, tPar, tNext, tDrop, tAnd, tOr, tNot, tAndV, tOrV, tNotV, tIf, rI, rI0, rU, rIxTH, rIxLH, rEqT, rNeT, rInT, rEq, rNe, scal, CPow, at0, at1, at2, List.map_cons, List.map_nil, List.length_cons, List.length_nil, Nat.reduceSub, Nat.reduceAdd, Nat.zero_add, List.replicate_zero, List.reduceReplicate, List.append_nil, List.nil_append, List.cons_append, List.getElem?_cons_zero, List.getElem?_cons_succ, List.set_cons_zero, List.set_cons_succ, Option.some.injEq, exists_eq_left', exists_eq_left, V.ref.injEq, V.int.injEq, V.bl.injEq, V.str.injEq, V.ty.injEq, HO.tup.injEq, HO.lst.injEq, List.cons.injEq, and_true, true_and, and_assoc, exists_and_left, decide_eq_true_eq, Bool.not_eq_true', decide_eq_false_iff_not, ite_true, ite_false, if_true, if_false, Int.reduceToNat, eq_self_iff_true]
      refine ite2 (fun c => ?_) (fun c => ?_)
      · refine ⟨by omega, y0, Int.emod_nonneg _ (by omega), by rw [Nm.g_step x0 (by omega), e], ?_⟩
        have := Int.emod_lt_of_pos x (show 0 < y by omega)
        have := Int.emod_nonneg x (show y ≠ 0 by omega)
        omega
      · have z : y = 0 := by omega
        subst z
        rw [Nm.g_zero x0] at e
        rw [e]
        exact k
    · intro σ H1 Q1 Q2 hq hc
      simp only [L2.start, Pr, tRev, tD1, tDPop1, tSl, tNoPart, tPart, rSlL, tDIn, tDNotIn, gSub, rSetL, tLst, tDNewK, tComp, L2.stC, tFor_eq, iList, iTup, iRng1, iRng2, iZip, iEnum, iDict, iStr, tChain, tSumV, tBM, rJoin, tJoined, jNil, jLit, jInt, jStr, tRaise, tDGet, tDGet2, tDGet1, sDPut, Option.join_some, List.getElem?_nil,  tSeq, tRet, tRetN, tIfS, tTest, tB, tOp, tUn, tVar, tC, tCB, tCons, tNil, tCall, tTupS, tAsg, gName, gNil, gCons, tPar, tNext, tDrop, tAnd, tOr, tNot, tAndV, tOrV, tNotV, tIf, rI, rI0, rU, rIxTH, rIxLH, rEqT, rNeT, rInT, rEq, rNe, scal, CPow, at0, at1, at2, List.map_cons, List.map_nil, List.length_cons, List.length_nil, Nat.reduceSub, Nat.reduceAdd, Nat.zero_add, List.replicate_zero, List.reduceReplicate, List.append_nil, List.nil_append, List.cons_append, List.getElem?_cons_zero, List.getElem?_cons_succ, List.set_cons_zero, List.set_cons_succ, Option.some.injEq, exists_eq_left', exists_eq_left, V.ref.injEq, V.int.injEq, V.bl.injEq, V.str.injEq, V.ty.injEq, HO.tup.injEq, HO.lst.injEq, List.cons.injEq, and_true, true_and, and_assoc, exists_and_left, decide_eq_true_eq, Bool.not_eq_true', decide_eq_false_iff_not, ite_true, ite_false, if_true, if_false, Int.reduceToNat, eq_self_iff_true] at hc ⊢
      obtain ⟨v, e1, e2, q⟩ := hc
      exact ⟨v, e1, e2, hq _ _ q⟩
theorem sc_share : FnScope ["top", "bottom", "divisor"] ["top", "bottom"] (defScope (top 5)) := ⟨rfl, rfl, rfl, by decide +kernel, rfl, by decide +kernel, by decide +kernel⟩
theorem ok_sh (T : Txt K mg q_NoShare) : Cal P w K mg base (CX1 P w) 2 "share" ["top", "bottom"] (spSh q_NoShare) := by
  have c_common_divisor : Cal P w K mg base (CX1 P w) 1 "common_divisor" ["one", "other"] spCd := ok_cd T
  refine T.d_share.cal (fun _ _ _ _ _ _ us hl => match us, hl with | [_, _], _ => rfl) fun f fd F => F.okX sc_share (fun vs H Q E h => ?_) (fun cdv A outer s H vs Q E hr h => ?_)
  · obtain ⟨_, _, rfl, _⟩ := h; rfl
  · obtain ⟨a, b, rfl, bt, kE, kQ⟩ := h
    have nd := sc_share.nd
    have hd0 : A.handled = none := hr.hd
    refine ⟨_, (pss_cons (ps_if (pt_cmpR op_eq (pv 1) pe_int (nomark _)) (pss_one (ps_raise rfl T.k_NoShare T.x_NoShare hd0 (pa_cons pe_str pa_nil (se rfl)) (he := se rfl) (hpl := na rfl)))
      pss_nil)
    (pss_cons (ps_set (i := 2) nd rfl (Or.inl rfl) (pe_cal c_common_divisor (hr.mono (by decide)) rfl strictP.pass (pa_cons (pv 0) (pa_cons (pv 1) pa_nil (se rfl)) (se rfl)) (he := se rfl) (hpl := na rfl)))
    (pss_cons (ps_if (pt_cmpR op_lt (pv 1) pe_int (nomark _)) (pss_one (ps_set (i := 2) nd rfl (Or.inl rfl) (pe_un un_neg (pv 2))))
      pss_nil)
    (pss_one (ps_ret (pe_tupS (pa_cons (pe_op op_fdivS (pv 0) (pv 2)) (pa_cons (pe_op op_fdivS (pv 1) (pv 2)) pa_nil (se rfl)) (se rfl)))))))), ?_⟩
    simp only [L2.start, Pr, tRev, tD1, tDPop1, tSl, tNoPart, tPart, rSlL, tDIn, tDNotIn, gSub, rSetL, tLst, tDNewK, tComp, L2.stC, tFor_eq, iList, iTup, iRng1, iRng2, iZip, iEnum, iDict, iStr, tChain, tSumV, tBM, rJoin, tJoined, jNil, jLit, jInt, jStr, tRaise, tDGet, tDGet2, tDGet1, sDPut, Option.join_some, List.getElem?_nil,  tSeq, tRet, tRetN, tIfS, tTest, tB, tOp, tUn, tVar, tC, tCB, tCons, tNil, tCall, tTupS, tAsg, gName, gNil, gCons, tPar, tNext, tDrop, tAnd, tOr, tNot, tAndV, tOrV, tNotV, tIf, rI, rI0, rU, rIxTH, rIxLH, rEqT, rNeT, rInT, rEq, rNe, scal, CPow, at0, at1, at2, List.map_cons, List.map_nil, List.length_cons, List.length_nil, Nat.reduceSub, Nat.reduceAdd, Nat.zero_add, List.replicate_zero, List.reduceReplicate, List.append_nil, List.nil_append, List.cons_append, List.getElem?_cons_zero, List.getElem?_cons_succ, List.set_cons_zero, List.set_cons_succ, Option.some.injEq, exists_eq_left', exists_eq_left, V.ref.injEq, V.int.injEq, V.bl.injEq, V.str.injEq, V.ty.injEq, HO.tup.injEq, HO.lst.injEq, List.cons.injEq, and_true, true_and, and_assoc, exists_and_left, decide_eq_true_eq, Bool.not_eq_true', decide_eq_false_iff_not, ite_true, ite_false, if_true, if_false, Int.reduceToNat, eq_self_iff_true, spCd, tRaise]
    refine ite2 (fun z => ?_) (fun z => ?_)
    · exact ⟨by decide, kE z⟩
    · have g0 : 0 < Nm.g a b := Nm.g_pos z
      have gb : Bt 5000 (Nm.g a b) := bt.le (by have := Nm.g_abs_le (a := a) z; omega)
      have kq := kQ z
      unfold Nm.st Nm.sb at kq
      refine ite2 (fun c => ?_) (fun c => ?_)
      · rw [if_pos c, if_pos c] at kq
        rw [Nm.fdiv_n g0 (Nm.g_dvd_l a b), Nm.fdiv_n g0 (Nm.g_dvd_r a b)]
        exact ⟨CDivS.of (by omega) gb.neg, CDivS.of (by omega) gb.neg, by decide, fun p H2 s1 n1 e => kq p H2 s1 n1 e⟩
      · rw [if_neg c, if_neg c] at kq
        rw [Nm.fdiv_p g0, Nm.fdiv_p g0]
        exact ⟨CDivS.of (by omega) gb, CDivS.of (by omega) gb, by decide, fun p H2 s1 n1 e => kq p H2 s1 n1 e⟩
theorem sc_plus : FnScope ["one", "other"] ["one", "other"] (defScope (top 6)) := ⟨rfl, rfl, rfl, by decide +kernel, rfl, by decide +kernel, by decide +kernel⟩
theorem ok_plus (T : Txt K mg q_NoShare) : Cal P w K mg base (CX1 P w) 3 "plus" ["one", "other"] spPlu := by
  have c_share : Cal P w K mg base (CX1 P w) 2 "share" ["top", "bottom"] (spSh q_NoShare) := ok_sh T
  refine T.d_plus.cal (fun _ _ _ _ _ _ us hl => match us, hl with | [_, _], _ => rfl) fun f fd F => F.okC sc_plus (fun vs H Q E h => ?_) (fun cdv A outer s H vs Q E hr h => ?_)
  · obtain ⟨_, _, _, _, _, _, rfl, _⟩ := h; rfl
  · obtain ⟨p, q, a, b, c, d, rfl, hp, hq, ba, bb, bc, bd, nz, k⟩ := h
    have nd := sc_plus.nd
    refine ⟨_, (pss_one (ps_ret (pe_cal c_share (hr.mono (by decide)) rfl strictP.pass (pa_cons (pe_op op_add (pe_op op_mulB (pe_ix ix_tupH (pv 0) pe_int (fun _ _ => rfl)) (pe_ix ix_tupH (pv 1) pe_int (fun _ _ => rfl))) (pe_op op_mulB (pe_ix ix_tupH (pv 1) pe_int (fun _ _ => rfl)) (pe_ix ix_tupH (pv 0) pe_int (fun _ _ => rfl)))) (pa_cons (pe_op op_mulB (pe_ix ix_tupH (pv 0) pe_int (fun _ _ => rfl)) (pe_ix ix_tupH (pv 1) pe_int (fun _ _ => rfl))) pa_nil (se rfl)) (se rfl)) (he := se rfl) (hpl := na rfl)))), ?_⟩
    simp only [Pr] at hp hq
    simp only [L2.start, Pr, tRev, tD1, tDPop1, tSl, tNoPart, tPart, rSlL, tDIn, tDNotIn, gSub, rSetL, tLst, tDNewK, tComp, L2.stC, tFor_eq, iList, iTup, iRng1, iRng2, iZip, iEnum, iDict, iStr, tChain, tSumV, tBM, rJoin, tJoined, jNil, jLit, jInt, jStr, tRaise, tDGet, tDGet2, tDGet1, sDPut, Option.join_some, List.getElem?_nil,  tSeq, tRet, tRetN, tIfS, tTest, tB, tOp, tUn, tVar, tC, tCB, tCons, tNil, tCall, tTupS, tAsg, gName, gNil, gCons, tPar, tNext, tDrop, tAnd, tOr, tNot, tAndV, tOrV, tNotV, tIf, rI, rI0, rU, rIxTH, rIxLH, rEqT, rNeT, rInT, rEq, rNe, scal, CPow, at0, at1, at2, List.map_cons, List.map_nil, List.length_cons, List.length_nil, Nat.reduceSub, Nat.reduceAdd, Nat.zero_add, List.replicate_zero, List.reduceReplicate, List.append_nil, List.nil_append, List.cons_append, List.getElem?_cons_zero, List.getElem?_cons_succ, List.set_cons_zero, List.set_cons_succ, Option.some.injEq, exists_eq_left', exists_eq_left, V.ref.injEq, V.int.injEq, V.bl.injEq, V.str.injEq, V.ty.injEq, HO.tup.injEq, HO.lst.injEq, List.cons.injEq, and_true, true_and, and_assoc, exists_and_left, decide_eq_true_eq, Bool.not_eq_true', decide_eq_false_iff_not, ite_true, ite_false, if_true, if_false, Int.reduceToNat, eq_self_iff_true, spSh, hp, hq]
    exact ⟨ba.mulOk bd, bc.mulOk bb, bb.mulOk bd, (bb.mul bd).mono (by decide), fun z => absurd z nz, fun _ r H' s' _ e => k r H' s' e⟩
theorem sc_row_with_head : FnScope ["rows", "start", "spot"] ["rows", "start"] (defScope (top 8)) := ⟨rfl, rfl, rfl, by decide +kernel, rfl, by decide +kernel, by decide +kernel⟩
theorem ok_rh (T : Txt K mg q_NoShare) : Cal P w K mg base (CX1 P w) 1 "row_with_head" ["rows", "start"] spRh := by
  refine T.d_row_with_head.cal (fun _ _ _ _ _ _ us hl => match us, hl with | [_, _], _ => rfl) fun f fd F => F.okC sc_row_with_head (fun vs H Q E h => ?_) (fun cdv A outer s H vs Q E hr h => ?_)
  · obtain ⟨_, _, _, rfl, _⟩ := h; rfl
  · obtain ⟨a, L, k, rfl, ⟨xs, ha, al⟩, kn, n64, ne, kS, kN⟩ := h
    have nd := sc_row_with_head.nd
    refine ⟨_, (pss_cons (ps_for PassesOwn.never rfl (pi_range2 rfl T.z_range (pa_cons (pv 1) (pa_cons (pe_callB call_lenL (by rfl) T.z_len PySem.boot_len (pa_cons (pv 0) pa_nil (se rfl)) (he := se rfl) (hpl := na rfl)) pa_nil (se rfl)) (se rfl))) (pg_name (i := 2) nd rfl (Or.inl rfl)) (pss_one (ps_if (pt_cmpR op_ne (pe_ix ix_listH (pe_ix ix_listH (pv 0) (pv 2) (fun _ _ => rfl)) pe_int (fun _ _ => rfl)) pe_int (nomark _)) (pss_one (ps_ret (pv 2)))
      pss_nil)))
    (pss_one (ps_ret pe_non))), ?_⟩
    have lx := al.length
    simp only [L2.start, Pr, tRev, tD1, tDPop1, tSl, tNoPart, tPart, rSlL, tDIn, tDNotIn, gSub, rSetL, tLst, tDNewK, tComp, L2.stC, tFor_eq, iList, iTup, iRng1, iRng2, iZip, iEnum, iDict, iStr, tChain, tSumV, tBM, rJoin, tJoined, jNil, jLit, jInt, jStr, tRaise, tDGet, tDGet2, tDGet1, sDPut, Option.join_some, List.getElem?_nil,  tSeq, tRet, tRetN, tIfS, tTest, tB, tOp, tUn, tVar, tC, tCB, tCons, tNil, tCall, tTupS, tAsg, gName, gNil, gCons, tPar, tNext, tDrop, tAnd, tOr, tNot, tAndV, tOrV, tNotV, tIf, rI, rI0, rU, rIxTH, rIxLH, rEqT, rNeT, rInT, rEq, rNe, scal, CPow, at0, at1, at2, List.map_cons, List.map_nil, List.length_cons, List.length_nil, Nat.reduceSub, Nat.reduceAdd, Nat.zero_add, List.replicate_zero, List.reduceReplicate, List.append_nil, List.nil_append, List.cons_append, List.getElem?_cons_zero, List.getElem?_cons_succ, List.set_cons_zero, List.set_cons_succ, Option.some.injEq, exists_eq_left', exists_eq_left, V.ref.injEq, V.int.injEq, V.bl.injEq, V.str.injEq, V.ty.injEq, HO.tup.injEq, HO.lst.injEq, List.cons.injEq, and_true, true_and, and_assoc, exists_and_left, decide_eq_true_eq, Bool.not_eq_true', decide_eq_false_iff_not, ite_true, ite_false, if_true, if_false, Int.reduceToNat, eq_self_iff_true]
    refine ⟨_, ha, by omega, by omega, by omega, by omega, for_src (src_range (Ok := fun _ => True)) (fun i σ H' => H = H' ∧ (∀ j : Nat, k ≤ j → j < k + i → (L.getD j []).headD 0 = 0) ∧ ∃ z, σ = [some (.ref a), some (.int (k : Int)), z]) ⟨rfl, fun j h1 h2 => by omega, _, rfl⟩ (fun _ _ _ _ _ => trivial) ?_ ?_⟩
    · rintro i x σ H' H'' hi ⟨rfl, hz, z, rfl⟩ ⟨rfl, rfl⟩
      have hi2 : k + i < L.length := by omega
      have er : L[k + i]? = some L[k + i] := List.getElem?_eq_getElem hi2
      obtain ⟨q, eq, hq⟩ := at_row al er
      have eh := at_head (ne L[k + i] (List.getElem_mem hi2))
      have eg : L.getD (k + i) [] = L[k + i] := by rw [List.getD_eq_getElem?_getD, er]; rfl
      have ei : ((k : Int) + (i : Int)) = ((k + i : Nat) : Int) := by omega
      rw [ei]
      simp only [L2.start, Pr, tRev, tD1, tDPop1, tSl, tNoPart, tPart, rSlL, tDIn, tDNotIn, gSub, rSetL, tLst, tDNewK, tComp, L2.stC, tFor_eq, iList, iTup, iRng1, iRng2, iZip, iEnum, iDict, iStr, tChain, tSumV, tBM, rJoin, tJoined, jNil, jLit, jInt, jStr, tRaise, tDGet, tDGet2, tDGet1, sDPut, Option.join_some, List.getElem?_nil,  tSeq, tRet, tRetN, tIfS, tTest, tB, tOp, tUn, tVar, tC, tCB, tCons, tNil, tCall, tTupS, tAsg, gName, gNil, gCons, tPar, tNext, tDrop, tAnd, tOr, tNot, tAndV, tOrV, tNotV, tIf, rI, rI0, rU, rIxTH, rIxLH, rEqT, rNeT, rInT, rEq, rNe, scal, CPow, at0, at1, at2, List.map_cons, List.map_nil, List.length_cons, List.length_nil, Nat.reduceSub, Nat.reduceAdd, Nat.zero_add, List.replicate_zero, List.reduceReplicate, List.append_nil, List.nil_append, List.cons_append, List.getElem?_cons_zero, List.getElem?_cons_succ, List.set_cons_zero, List.set_cons_succ, Option.some.injEq, exists_eq_left', exists_eq_left, V.ref.injEq, V.int.injEq, V.bl.injEq, V.str.injEq, V.ty.injEq, HO.tup.injEq, HO.lst.injEq, List.cons.injEq, and_true, true_and, and_assoc, exists_and_left, decide_eq_true_eq, Bool.not_eq_true', decide_eq_false_iff_not, ite_true, ite_false, if_true, if_false, Int.reduceToNat, eq_self_iff_true, ha, eq, hq, eh]
      refine ite2 (fun c => ?_) (fun c => ?_)
      · exact kS (k + i) (by omega) hi2 (by rw [eg]; exact c)
      · refine ⟨fun j h1 h2 => ?_, _, rfl⟩
        by_cases e : j = k + i
        · rw [e, eg]
          exact Decidable.not_not.mp c
        · exact hz j h1 (by omega)
    · rintro σ H' ⟨rfl, hz, z, rfl⟩
      simp only [L2.start, Pr, tRev, tD1, tDPop1, tSl, tNoPart, tPart, rSlL, tDIn, tDNotIn, gSub, rSetL, tLst, tDNewK, tComp, L2.stC, tFor_eq, iList, iTup, iRng1, iRng2, iZip, iEnum, iDict, iStr, tChain, tSumV, tBM, rJoin, tJoined, jNil, jLit, jInt, jStr, tRaise, tDGet, tDGet2, tDGet1, sDPut, Option.join_some, List.getElem?_nil,  tSeq, tRet, tRetN, tIfS, tTest, tB, tOp, tUn, tVar, tC, tCB, tCons, tNil, tCall, tTupS, tAsg, gName, gNil, gCons, tPar, tNext, tDrop, tAnd, tOr, tNot, tAndV, tOrV, tNotV, tIf, rI, rI0, rU, rIxTH, rIxLH, rEqT, rNeT, rInT, rEq, rNe, scal, CPow, at0, at1, at2, List.map_cons, List.map_nil, List.length_cons, List.length_nil, Nat.reduceSub, Nat.reduceAdd, Nat.zero_add, List.replicate_zero, List.reduceReplicate, List.append_nil, List.nil_append, List.cons_append, List.getElem?_cons_zero, List.getElem?_cons_succ, List.set_cons_zero, List.set_cons_succ, Option.some.injEq, exists_eq_left', exists_eq_left, V.ref.injEq, V.int.injEq, V.bl.injEq, V.str.injEq, V.ty.injEq, HO.tup.injEq, HO.lst.injEq, List.cons.injEq, and_true, true_and, and_assoc, exists_and_left, decide_eq_true_eq, Bool.not_eq_true', decide_eq_false_iff_not, ite_true, ite_false, if_true, if_false, Int.reduceToNat, eq_self_iff_true]
      exact kN fun i h1 h2 => hz i h1 (by omega)
theorem sc_swapped : FnScope ["rows", "one", "other", "turned"] ["rows", "one", "other"] (defScope (top 9)) := ⟨rfl, rfl, rfl, by decide +kernel, rfl, by decide +kernel, by decide +kernel⟩
theorem ok_swd (T : Txt K mg q_NoShare) : Cal P w K mg base (CX1 P w) 1 "swapped" ["rows", "one", "other"] spSwd := by
  refine T.d_swapped.cal (fun _ _ _ _ _ _ us hl => match us, hl with | [_, _, _], _ => rfl) fun f fd F => F.okC sc_swapped (fun vs H Q E h => ?_) (fun cdv A outer s H vs Q E hr h => ?_)
  · obtain ⟨_, _, _, _, rfl, _⟩ := h; rfl
  · obtain ⟨a, L, i, j, rfl, ⟨xs, ha, al⟩, hi, hj, n64, kk⟩ := h
    have nd := sc_swapped.nd
    refine ⟨_, (pss_cons (ps_set (i := 3) nd rfl (Or.inl rfl) (pe_callTy (call_list_ofK (K := K)) (by rfl) T.z_list rfl (pa_cons (pv 0) pa_nil (se rfl)) (he := se rfl) (hpl := na rfl)))
    (pss_cons (ps_asg (pe_ix ix_listH (pv 0) (pv 2) (fun _ _ => rfl)) (pg_sub (pv 3) (pv 1) set_list))
    (pss_cons (ps_asg (pe_ix ix_listH (pv 0) (pv 1) (fun _ _ => rfl)) (pg_sub (pv 3) (pv 2) set_list))
    (pss_one (ps_ret (pv 3)))))), ?_⟩
    have lx := al.length
    have ei : L[i]? = some (L.getD i []) := by rw [List.getD_eq_getElem?_getD, List.getElem?_eq_getElem hi]; rfl
    have ej : L[j]? = some (L.getD j []) := by rw [List.getD_eq_getElem?_getD, List.getElem?_eq_getElem hj]; rfl
    obtain ⟨qi, ai, hqi⟩ := at_row al ei
    obtain ⟨qj, aj, hqj⟩ := at_row al ej
    simp only [L2.start, Pr, tRev, tD1, tDPop1, tSl, tNoPart, tPart, rSlL, tDIn, tDNotIn, gSub, rSetL, tLst, tDNewK, tComp, L2.stC, tFor_eq, iList, iTup, iRng1, iRng2, iZip, iEnum, iDict, iStr, tChain, tSumV, tBM, rJoin, tJoined, jNil, jLit, jInt, jStr, tRaise, tDGet, tDGet2, tDGet1, sDPut, Option.join_some, List.getElem?_nil,  tSeq, tRet, tRetN, tIfS, tTest, tB, tOp, tUn, tVar, tC, tCB, tCons, tNil, tCall, tTupS, tAsg, gName, gNil, gCons, tPar, tNext, tDrop, tAnd, tOr, tNot, tAndV, tOrV, tNotV, tIf, rI, rI0, rU, rIxTH, rIxLH, rEqT, rNeT, rInT, rEq, rNe, scal, CPow, at0, at1, at2, List.map_cons, List.map_nil, List.length_cons, List.length_nil, Nat.reduceSub, Nat.reduceAdd, Nat.zero_add, List.replicate_zero, List.reduceReplicate, List.append_nil, List.nil_append, List.cons_append, List.getElem?_cons_zero, List.getElem?_cons_succ, List.set_cons_zero, List.set_cons_succ, Option.some.injEq, exists_eq_left', exists_eq_left, V.ref.injEq, V.int.injEq, V.bl.injEq, V.str.injEq, V.ty.injEq, HO.tup.injEq, HO.lst.injEq, List.cons.injEq, and_true, true_and, and_assoc, exists_and_left, decide_eq_true_eq, Bool.not_eq_true', decide_eq_false_iff_not, ite_true, ite_false, if_true, if_false, Int.reduceToNat, eq_self_iff_true, ha]
    refine ⟨_, .inl (SqL.of ha), fun m nm => ?_⟩
    have sm := same_upd (o := .lst xs) nm
    have hm : upd H m (.lst xs) m = some (.lst xs) := upd_same
    generalize upd H m (.lst xs) = H1 at *
    simp only [L2.start, Pr, tRev, tD1, tDPop1, tSl, tNoPart, tPart, rSlL, tDIn, tDNotIn, gSub, rSetL, tLst, tDNewK, tComp, L2.stC, tFor_eq, iList, iTup, iRng1, iRng2, iZip, iEnum, iDict, iStr, tChain, tSumV, tBM, rJoin, tJoined, jNil, jLit, jInt, jStr, tRaise, tDGet, tDGet2, tDGet1, sDPut, Option.join_some, List.getElem?_nil,  tSeq, tRet, tRetN, tIfS, tTest, tB, tOp, tUn, tVar, tC, tCB, tCons, tNil, tCall, tTupS, tAsg, gName, gNil, gCons, tPar, tNext, tDrop, tAnd, tOr, tNot, tAndV, tOrV, tNotV, tIf, rI, rI0, rU, rIxTH, rIxLH, rEqT, rNeT, rInT, rEq, rNe, scal, CPow, at0, at1, at2, List.map_cons, List.map_nil, List.length_cons, List.length_nil, Nat.reduceSub, Nat.reduceAdd, Nat.zero_add, List.replicate_zero, List.reduceReplicate, List.append_nil, List.nil_append, List.cons_append, List.getElem?_cons_zero, List.getElem?_cons_succ, List.set_cons_zero, List.set_cons_succ, Option.some.injEq, exists_eq_left', exists_eq_left, V.ref.injEq, V.int.injEq, V.bl.injEq, V.str.injEq, V.ty.injEq, HO.tup.injEq, HO.lst.injEq, List.cons.injEq, and_true, true_and, and_assoc, exists_and_left, decide_eq_true_eq, Bool.not_eq_true', decide_eq_false_iff_not, ite_true, ite_false, if_true, if_false, Int.reduceToNat, eq_self_iff_true, sm _ _ ha, aj]
    have am : a ≠ m := fun e => by rw [e, nm] at ha; cases ha
    refine ⟨_, hm, i, ixN_nat (by omega), _, by rw [upd_ne am]; exact sm _ _ ha, _, ai, _, upd_same, j, ixN_nat (by rw [List.length_set]; omega), ?_⟩
    have s2 := same_upd_of (o := .lst ((xs.set i (V.ref qj)).set j (V.ref qi))) (same_upd_of (o := .lst (xs.set i (V.ref qj))) sm nm) nm
    exact kk _ _ s2 ⟨_, upd_same, ((al.imp fun _ _ h => h.mono s2).set ⟨qj, rfl, s2 _ _ hqj⟩).set ⟨qi, rfl, s2 _ _ hqi⟩⟩
theorem sc_without_first_column : FnScope ["rows", "spot", "last", "head", "tail", "left", "number", "row", "first"] ["rows", "spot", "last"] (defScope (top 10)) := ⟨rfl, rfl, rfl, by decide +kernel, rfl, by decide +kernel, by decide +kernel⟩
theorem ok_wf (T : Txt K mg q_NoShare) : Cal P w K mg base (CX1 P w) 1 "without_first_column" ["rows", "spot", "last"] spWf := by
  refine T.d_without_first_column.cal (fun _ _ _ _ _ _ us hl => match us, hl with | [_, _, _], _ => rfl) fun f fd F => F.okC sc_without_first_column (fun vs H Q E h => ?_) (fun cdv A outer s H vs Q E hr h => ?_)
  · obtain ⟨_, _, _, _, _, rfl, _⟩ := h; rfl
  · obtain ⟨a, L, s', l, m, rfl, ⟨xs, ha, al⟩, hs, n64, m64, rw1, l0, bl, bx, kk⟩ := h
    have nd := sc_without_first_column.nd
    refine ⟨_, (pss_cons (ps_set (i := 3) nd rfl (Or.inr rfl) (pe_ix ix_listH (pe_ix ix_listH (pv 0) (pv 1) (fun _ _ => rfl)) pe_int (fun _ _ => rfl)))
    (pss_cons (ps_set (i := 4) nd rfl (Or.inl rfl) (pe_slice (sl_listK (K := K)) (pe_ix ix_listH (pv 0) (pv 1) (fun _ _ => rfl)) (po_some pe_int) po_none))
    (pss_cons (ps_set (i := 5) nd rfl (Or.inl rfl) (pe_lst pa_nil))
    (pss_cons (ps_for PassesOwn.never rfl (pi_enumerateK (K := K) rfl T.z_enumerate (pa_cons (pv 0) pa_nil (se rfl))) (pg_tupK (K := K) (n := 2) rfl (pgs_cons (pg_name (i := 6) nd rfl (Or.inl rfl)) (pgs_cons (pg_name (i := 7) nd rfl (Or.inl rfl)) pgs_nil))) (pss_one (ps_if (pt_cmpR op_eq (pv 6) (pv 1) (nomark _)) (pss_one (ps_expr (pe_bm PySem.F.plainAttrs_list PySem.F.slot_list_append PySem.F.type_list_append mt_append.r (pv 5) (pa_cons (pv 4) pa_nil (se rfl)))))
      (pss_cons (ps_set (i := 8) nd rfl (Or.inr rfl) (pe_ix ix_listH (pv 7) pe_int (fun _ _ => rfl)))
    (pss_one (ps_expr (pe_bm PySem.F.plainAttrs_list PySem.F.slot_list_append PySem.F.type_list_append mt_append.r (pv 5) (pa_cons (pe_comp rfl (N := ["rows", "spot", "last", "head", "tail", "left", "number", "row", "first"]) (so := defScope (top 10)) (N' := ["one", "other", "last", "head", "first"]) (k := 2) (fr := [2, 3, 8]) rfl rfl ⟨rfl, by decide +kernel, by decide +kernel, by decide +kernel, rfl, by decide +kernel, by decide +kernel⟩ (pi_zipK (K := K) rfl T.z_zip (pa_cons (pe_slice (sl_listK (K := K)) (pv 7) (po_some pe_int) po_none) (pa_cons (pv 4) pa_nil (se rfl)) (se rfl))) (fun _ _ _ _ _ => (pg_tupK (K := K) (n := 2) rfl (pgs_cons (pg_name (i := 0) (show (["one", "other", "last", "head", "first"] : List Str).Nodup by decide +kernel) rfl (Or.inl rfl)) (pgs_cons (pg_name (i := 1) (show (["one", "other", "last", "head", "first"] : List Str).Nodup by decide +kernel) rfl (Or.inl rfl)) pgs_nil)))) (fun _ _ _ _ _ => pts_nil)
      (fun _ _ _ _ _ => (pe_op op_fdivS (pe_op op_sub (pe_op op_mulB (pv 3) (pv 0)) (pe_op op_mulB (pv 4) (pv 1))) (pv 2)))) pa_nil (se rfl)))))))))
    (pss_one (ps_ret (pv 5))))))), ?_⟩
    have sl := sizeLine_eq
    have lx := al.length
    have es : L[s']? = some (L.getD s' []) := by rw [List.getD_eq_getElem?_getD, List.getElem?_eq_getElem hs]; rfl
    obtain ⟨qs, as', hqs⟩ := at_row al es
    have ls := rw1 _ (List.mem_of_getElem? es)
    have bs := bx _ (List.mem_of_getElem? es)
    have hh := at_head (r := L.getD s' []) (by omega)
    have bh : Bt 4000 ((L.getD s' []).headD 0) := bs _ (by
      cases e : L.getD s' [] with
      | nil => rw [e] at ls; cases ls
      | cons x r => exact List.mem_cons_self ..)
    have hw : ∀ i : Nat, Bar.wrow L s' l i = if i = s' then (L.getD i []).tail else List.zipWith (fun one other => ((L.getD s' []).headD 0 * one - (L.getD i []).headD 0 * other).fdiv l) (L.getD i []).tail (L.getD s' []).tail := fun i => rfl
    generalize (L.getD s' []).headD 0 = hd at *
    generalize L.getD s' [] = R at *
    change tSeq _ _ _ [some (.ref a), some (.int (s' : Int)), some (.int l), none, none, none, none, none, none] H
    refine seq_gen (fun σ' H1 => H = H1 ∧ σ' = [some (.ref a), some (.int (s' : Int)), some (.int l), some (.int hd), none, none, none, none, none]) ?_ (fun N hN => ?_)
    case refine_2 =>
      simp only [L2.start, Pr, tRev, tD1, tDPop1, tSl, tNoPart, tPart, rSlL, tDIn, tDNotIn, gSub, rSetL, tLst, tDNewK, tComp, L2.stC, tFor_eq, iList, iTup, iRng1, iRng2, iZip, iEnum, iDict, iStr, tChain, tSumV, tBM, rJoin, tJoined, jNil, jLit, jInt, jStr, tRaise, tDGet, tDGet2, tDGet1, sDPut, Option.join_some, List.getElem?_nil,  tSeq, tRet, tRetN, tIfS, tTest, tB, tOp, tUn, tVar, tC, tCB, tCons, tNil, tCall, tTupS, tAsg, gName, gNil, gCons, tPar, tNext, tDrop, tAnd, tOr, tNot, tAndV, tOrV, tNotV, tIf, rI, rI0, rU, rIxTH, rIxLH, rEqT, rNeT, rInT, rEq, rNe, scal, CPow, at0, at1, at2, List.map_cons, List.map_nil, List.length_cons, List.length_nil, Nat.reduceSub, Nat.reduceAdd, Nat.zero_add, List.replicate_zero, List.reduceReplicate, List.append_nil, List.nil_append, List.cons_append, List.getElem?_cons_zero, List.getElem?_cons_succ, List.set_cons_zero, List.set_cons_succ, Option.some.injEq, exists_eq_left', exists_eq_left, V.ref.injEq, V.int.injEq, V.bl.injEq, V.str.injEq, V.ty.injEq, HO.tup.injEq, HO.lst.injEq, List.cons.injEq, and_true, true_and, and_assoc, exists_and_left, decide_eq_true_eq, Bool.not_eq_true', decide_eq_false_iff_not, ite_true, ite_false, if_true, if_false, Int.reduceToNat, eq_self_iff_true, ha, as', hqs, hh]
      exact hN _ _ ⟨rfl, rfl⟩
    rintro _ _ ⟨rfl, rfl⟩
    change tSeq _ _ _ [some (.ref a), some (.int (s' : Int)), some (.int l), some (.int hd), none, none, none, none, none] H
    refine seq_gen (fun σ' H1 => Same H H1 ∧ ∃ tl, H1 tl = some (.lst (List.map V.int R.tail)) ∧ σ' = [some (.ref a), some (.int (s' : Int)), some (.int l), some (.int hd), some (.ref tl), none, none, none, none]) ?_ (fun N hN => ?_)
    case refine_2 =>
      simp only [L2.start, Pr, tRev, tD1, tDPop1, tSl, tNoPart, tPart, rSlL, tDIn, tDNotIn, gSub, rSetL, tLst, tDNewK, tComp, L2.stC, tFor_eq, iList, iTup, iRng1, iRng2, iZip, iEnum, iDict, iStr, tChain, tSumV, tBM, rJoin, tJoined, jNil, jLit, jInt, jStr, tRaise, tDGet, tDGet2, tDGet1, sDPut, Option.join_some, List.getElem?_nil,  tSeq, tRet, tRetN, tIfS, tTest, tB, tOp, tUn, tVar, tC, tCB, tCons, tNil, tCall, tTupS, tAsg, gName, gNil, gCons, tPar, tNext, tDrop, tAnd, tOr, tNot, tAndV, tOrV, tNotV, tIf, rI, rI0, rU, rIxTH, rIxLH, rEqT, rNeT, rInT, rEq, rNe, scal, CPow, at0, at1, at2, List.map_cons, List.map_nil, List.length_cons, List.length_nil, Nat.reduceSub, Nat.reduceAdd, Nat.zero_add, List.replicate_zero, List.reduceReplicate, List.append_nil, List.nil_append, List.cons_append, List.getElem?_cons_zero, List.getElem?_cons_succ, List.set_cons_zero, List.set_cons_succ, Option.some.injEq, exists_eq_left', exists_eq_left, V.ref.injEq, V.int.injEq, V.bl.injEq, V.str.injEq, V.ty.injEq, HO.tup.injEq, HO.lst.injEq, List.cons.injEq, and_true, true_and, and_assoc, exists_and_left, decide_eq_true_eq, Bool.not_eq_true', decide_eq_false_iff_not, ite_true, ite_false, if_true, if_false, Int.reduceToNat, eq_self_iff_true, ha, as']
      exact ⟨_, SqL.of hqs, fun tl ntl => hN _ _ ⟨same_upd ntl, tl, by rw [upd_same, cut_tail], rfl⟩⟩
    rintro _ H1 ⟨sm1, tl, htl, rfl⟩
    change tSeq _ _ _ [some (.ref a), some (.int (s' : Int)), some (.int l), some (.int hd), some (.ref tl), none, none, none, none] H1
    refine seq_gen (fun σ' H2 => Same H1 H2 ∧ ∃ lf, H1 lf = none ∧ H2 lf = some (.lst []) ∧ σ' = [some (.ref a), some (.int (s' : Int)), some (.int l), some (.int hd), some (.ref tl), some (.ref lf), none, none, none]) ?_ (fun N hN => ?_)
    case refine_2 =>
      simp only [L2.start, Pr, tRev, tD1, tDPop1, tSl, tNoPart, tPart, rSlL, tDIn, tDNotIn, gSub, rSetL, tLst, tDNewK, tComp, L2.stC, tFor_eq, iList, iTup, iRng1, iRng2, iZip, iEnum, iDict, iStr, tChain, tSumV, tBM, rJoin, tJoined, jNil, jLit, jInt, jStr, tRaise, tDGet, tDGet2, tDGet1, sDPut, Option.join_some, List.getElem?_nil,  tSeq, tRet, tRetN, tIfS, tTest, tB, tOp, tUn, tVar, tC, tCB, tCons, tNil, tCall, tTupS, tAsg, gName, gNil, gCons, tPar, tNext, tDrop, tAnd, tOr, tNot, tAndV, tOrV, tNotV, tIf, rI, rI0, rU, rIxTH, rIxLH, rEqT, rNeT, rInT, rEq, rNe, scal, CPow, at0, at1, at2, List.map_cons, List.map_nil, List.length_cons, List.length_nil, Nat.reduceSub, Nat.reduceAdd, Nat.zero_add, List.replicate_zero, List.reduceReplicate, List.append_nil, List.nil_append, List.cons_append, List.getElem?_cons_zero, List.getElem?_cons_succ, List.set_cons_zero, List.set_cons_succ, Option.some.injEq, exists_eq_left', exists_eq_left, V.ref.injEq, V.int.injEq, V.bl.injEq, V.str.injEq, V.ty.injEq, HO.tup.injEq, HO.lst.injEq, List.cons.injEq, and_true, true_and, and_assoc, exists_and_left, decide_eq_true_eq, Bool.not_eq_true', decide_eq_false_iff_not, ite_true, ite_false, if_true, if_false, Int.reduceToNat, eq_self_iff_true]
      exact ⟨Nat.zero_le _, fun lf nl => hN _ _ ⟨same_upd nl, lf, nl, upd_same, rfl⟩⟩
    rintro _ H2 ⟨sm2, lf, nlf, hlf, rfl⟩
    have tlf : tl ≠ lf := fun e => by rw [e, nlf] at htl; cases htl
    change tSeq _ _ _ [some (.ref a), some (.int (s' : Int)), some (.int l), some (.int hd), some (.ref tl), some (.ref lf), none, none, none] H2
    refine seq_gen (fun σ' H3 => Same H1 H3 ∧ MtH H3 lf (Bar.wfc L s' l) ∧ ∃ z1 z2 z3, σ' = [some (.ref a), some (.int (s' : Int)), some (.int l), some (.int hd), some (.ref tl), some (.ref lf), z1, z2, z3]) ?_ (fun N hN => ?_)
    case refine_2 =>
      simp only [L2.start, Pr, tRev, tD1, tDPop1, tSl, tNoPart, tPart, rSlL, tDIn, tDNotIn, gSub, rSetL, tLst, tDNewK, tComp, L2.stC, tFor_eq, iList, iTup, iRng1, iRng2, iZip, iEnum, iDict, iStr, tChain, tSumV, tBM, rJoin, tJoined, jNil, jLit, jInt, jStr, tRaise, tDGet, tDGet2, tDGet1, sDPut, Option.join_some, List.getElem?_nil,  tSeq, tRet, tRetN, tIfS, tTest, tB, tOp, tUn, tVar, tC, tCB, tCons, tNil, tCall, tTupS, tAsg, gName, gNil, gCons, tPar, tNext, tDrop, tAnd, tOr, tNot, tAndV, tOrV, tNotV, tIf, rI, rI0, rU, rIxTH, rIxLH, rEqT, rNeT, rInT, rEq, rNe, scal, CPow, at0, at1, at2, List.map_cons, List.map_nil, List.length_cons, List.length_nil, Nat.reduceSub, Nat.reduceAdd, Nat.zero_add, List.replicate_zero, List.reduceReplicate, List.append_nil, List.nil_append, List.cons_append, List.getElem?_cons_zero, List.getElem?_cons_succ, List.set_cons_zero, List.set_cons_succ, Option.some.injEq, exists_eq_left', exists_eq_left, V.ref.injEq, V.int.injEq, V.bl.injEq, V.str.injEq, V.ty.injEq, HO.tup.injEq, HO.lst.injEq, List.cons.injEq, and_true, true_and, and_assoc, exists_and_left, decide_eq_true_eq, Bool.not_eq_true', decide_eq_false_iff_not, ite_true, ite_false, if_true, if_false, Int.reduceToNat, eq_self_iff_true]
      refine ⟨⟨_, SqL.of (sm2 _ _ (sm1 _ _ ha))⟩, for_src (src_enum (Ok := Same H1) (fun H' s => SqL.of (s _ _ (sm1 _ _ ha)))) (fun i σ H3 => Same H1 H3 ∧ ∃ ys, H3 lf = some (.lst ys) ∧ Al (Rw (hid H3 lf)) ((List.range i).map (Bar.wrow L s' l)) ys ∧ ∃ z1 z2 z3, σ = [some (.ref a), some (.int (s' : Int)), some (.int l), some (.int hd), some (.ref tl), some (.ref lf), z1, z2, z3]) ⟨sm2, [], hlf, trivial, _, _, _, rfl⟩ (fun _ _ _ _ h => h.1) ?_ ?_⟩
      · rintro i x σ H3 H4 hi ⟨sm3, ys, hl3, ay, z1, z2, z3, rfl⟩ ⟨p, y, np, rfl, ey, rfl⟩
        obtain ⟨r, er, q, rfl, hq⟩ := al.get ey
        have ly := ay.length
        rw [List.length_map, List.length_range] at ly
        have hlr := rw1 _ (List.mem_of_getElem? er)
        have bxr := bx _ (List.mem_of_getElem? er)
        have gr : L.getD i [] = r := by rw [List.getD_eq_getElem?_getD, er]; rfl
        refine ⟨p, _, rfl, SqT.of upd_same, rfl, ?_⟩
        have s4 := same_upd (o := .tup [.int i, .ref q]) np
        generalize upd H3 p (.tup [.int i, .ref q]) = H4 at *
        have sm4 := sm3.trans s4
        have hl4 := s4 _ _ hl3
        have hq4 := sm4 _ _ (sm1 _ _ hq)
        have ht4 := sm4 _ _ htl
        have ay4 := ay.imp fun _ _ h => h.mono (hid_mono (p := lf) s4)
        have eR : (List.range (i + 1)).map (Bar.wrow L s' l) = (List.range i).map (Bar.wrow L s' l) ++ [Bar.wrow L s' l i] := by rw [List.range_succ, List.map_append]; rfl
        simp only [L2.start, Pr, tRev, tD1, tDPop1, tSl, tNoPart, tPart, rSlL, tDIn, tDNotIn, gSub, rSetL, tLst, tDNewK, tComp, L2.stC, tFor_eq, iList, iTup, iRng1, iRng2, iZip, iEnum, iDict, iStr, tChain, tSumV, tBM, rJoin, tJoined, jNil, jLit, jInt, jStr, tRaise, tDGet, tDGet2, tDGet1, sDPut, Option.join_some, List.getElem?_nil,  tSeq, tRet, tRetN, tIfS, tTest, tB, tOp, tUn, tVar, tC, tCB, tCons, tNil, tCall, tTupS, tAsg, gName, gNil, gCons, tPar, tNext, tDrop, tAnd, tOr, tNot, tAndV, tOrV, tNotV, tIf, rI, rI0, rU, rIxTH, rIxLH, rEqT, rNeT, rInT, rEq, rNe, scal, CPow, at0, at1, at2, List.map_cons, List.map_nil, List.length_cons, List.length_nil, Nat.reduceSub, Nat.reduceAdd, Nat.zero_add, List.replicate_zero, List.reduceReplicate, List.append_nil, List.nil_append, List.cons_append, List.getElem?_cons_zero, List.getElem?_cons_succ, List.set_cons_zero, List.set_cons_succ, Option.some.injEq, exists_eq_left', exists_eq_left, V.ref.injEq, V.int.injEq, V.bl.injEq, V.str.injEq, V.ty.injEq, HO.tup.injEq, HO.lst.injEq, List.cons.injEq, and_true, true_and, and_assoc, exists_and_left, decide_eq_true_eq, Bool.not_eq_true', decide_eq_false_iff_not, ite_true, ite_false, if_true, if_false, Int.reduceToNat, eq_self_iff_true, rAppend]
        by_cases c : i = s'
        · rw [if_pos (by omega)]
          refine ⟨.inl ⟨rfl, _, SqL.of hl4⟩, _, hl4, by omega, same_upd_of sm4 nlf, _, upd_same, ?_, _, rfl⟩
          rw [hid_hid, eR]
          refine ay4.append (.one ⟨tl, rfl, ?_⟩)
          have eR2 : r = R := by
            subst c
            rw [er] at es
            cases es
            rfl
          rw [hid_ne tlf, ht4, hw, if_pos c, gr, eR2]
        · rw [if_neg (by omega)]
          have hhr := at_head (r := r) (by omega)
          simp only [L2.start, Pr, tRev, tD1, tDPop1, tSl, tNoPart, tPart, rSlL, tDIn, tDNotIn, gSub, rSetL, tLst, tDNewK, tComp, L2.stC, tFor_eq, iList, iTup, iRng1, iRng2, iZip, iEnum, iDict, iStr, tChain, tSumV, tBM, rJoin, tJoined, jNil, jLit, jInt, jStr, tRaise, tDGet, tDGet2, tDGet1, sDPut, Option.join_some, List.getElem?_nil,  tSeq, tRet, tRetN, tIfS, tTest, tB, tOp, tUn, tVar, tC, tCB, tCons, tNil, tCall, tTupS, tAsg, gName, gNil, gCons, tPar, tNext, tDrop, tAnd, tOr, tNot, tAndV, tOrV, tNotV, tIf, rI, rI0, rU, rIxTH, rIxLH, rEqT, rNeT, rInT, rEq, rNe, scal, CPow, at0, at1, at2, List.map_cons, List.map_nil, List.length_cons, List.length_nil, Nat.reduceSub, Nat.reduceAdd, Nat.zero_add, List.replicate_zero, List.reduceReplicate, List.append_nil, List.nil_append, List.cons_append, List.getElem?_cons_zero, List.getElem?_cons_succ, List.set_cons_zero, List.set_cons_succ, Option.some.injEq, exists_eq_left', exists_eq_left, V.ref.injEq, V.int.injEq, V.bl.injEq, V.str.injEq, V.ty.injEq, HO.tup.injEq, HO.lst.injEq, List.cons.injEq, and_true, true_and, and_assoc, exists_and_left, decide_eq_true_eq, Bool.not_eq_true', decide_eq_false_iff_not, ite_true, ite_false, if_true, if_false, Int.reduceToNat, eq_self_iff_true, hq4, hhr, rAppend]
          refine ⟨.inl ⟨rfl, _, SqL.of hl4⟩, _, SqL.of hq4, fun p2 np2 => ?_⟩
          have s5 := same_upd (o := .lst (cutV (List.map V.int r) (some 1) none)) np2
          have hp2 : upd H4 p2 (.lst (cutV (List.map V.int r) (some 1) none)) p2 = some (.lst (List.map V.int r.tail)) := by rw [upd_same, cut_tail]
          generalize upd H4 p2 (.lst (cutV (List.map V.int r) (some 1) none)) = H5 at *
          have sm5 := sm4.trans s5
          have ht5 := s5 _ _ ht4
          have bhr : Bt 4000 (r.headD 0) := bxr _ (by
            cases r with
            | nil => cases hlr
            | cons x r => exact List.mem_cons_self ..)
          refine ⟨⟨_, SqL.of hp2⟩, ⟨_, SqL.of ht5⟩, ?_⟩
          refine comp_map2 (K := K) (src_zip (fun H' s' => SqL.of (s' _ _ hp2)) (fun H' s' => SqL.of (s' _ _ ht5))) (fun j u v _ => ∃ o1 o2, r.tail[j]? = some o1 ∧ R.tail[j]? = some o2 ∧ u = .int o1 ∧ v = .int o2) ?_ (by rw [List.length_map, List.length_map, List.length_tail, List.length_tail]; omega) (fun j y _ => ∀ o1 o2, r.tail[j]? = some o1 → R.tail[j]? = some o2 → y = .int ((hd * o1 - r.headD 0 * o2).fdiv l)) (fun _ _ _ _ _ h => h) ?_ ?_
          · rintro j v H6 H7 hj s6 ⟨t, x, y, nt, rfl, ex, ey', rfl⟩
            rw [List.getElem?_map] at ex ey'
            obtain ⟨o1, e1, rfl⟩ := Option.map_eq_some_iff.mp ex
            obtain ⟨o2, e2, rfl⟩ := Option.map_eq_some_iff.mp ey'
            exact ⟨same_upd nt, t, _, _, rfl, SqT.of upd_same, o1, o2, e1, e2, rfl, rfl⟩
          · rintro j u v H6 Q2 hj s6 ⟨o1, o2, e1, e2, rfl, rfl⟩ kq
            have b1 := bxr o1 (List.mem_of_mem_tail (List.mem_of_getElem? e1))
            have b2 := bs o2 (List.mem_of_mem_tail (List.mem_of_getElem? e2))
            simp only [L2.start, Pr, tRev, tD1, tDPop1, tSl, tNoPart, tPart, rSlL, tDIn, tDNotIn, gSub, rSetL, tLst, tDNewK, tComp, L2.stC, tFor_eq, iList, iTup, iRng1, iRng2, iZip, iEnum, iDict, iStr, tChain, tSumV, tBM, rJoin, tJoined, jNil, jLit, jInt, jStr, tRaise, tDGet, tDGet2, tDGet1, sDPut, Option.join_some, List.getElem?_nil,  tSeq, tRet, tRetN, tIfS, tTest, tB, tOp, tUn, tVar, tC, tCB, tCons, tNil, tCall, tTupS, tAsg, gName, gNil, gCons, tPar, tNext, tDrop, tAnd, tOr, tNot, tAndV, tOrV, tNotV, tIf, rI, rI0, rU, rIxTH, rIxLH, rEqT, rNeT, rInT, rEq, rNe, scal, CPow, at0, at1, at2, List.map_cons, List.map_nil, List.length_cons, List.length_nil, Nat.reduceSub, Nat.reduceAdd, Nat.zero_add, List.replicate_zero, List.reduceReplicate, List.append_nil, List.nil_append, List.cons_append, List.getElem?_cons_zero, List.getElem?_cons_succ, List.set_cons_zero, List.set_cons_succ, Option.some.injEq, exists_eq_left', exists_eq_left, V.ref.injEq, V.int.injEq, V.bl.injEq, V.str.injEq, V.ty.injEq, HO.tup.injEq, HO.lst.injEq, List.cons.injEq, and_true, true_and, and_assoc, exists_and_left, decide_eq_true_eq, Bool.not_eq_true', decide_eq_false_iff_not, ite_true, ite_false, if_true, if_false, Int.reduceToNat, eq_self_iff_true]
            refine ⟨bh.mulOk b1, bhr.mulOk b2, CDivS.of l0 bl, kq _ _ (Same.refl _) fun _ _ f1 f2 => ?_⟩
            rw [e1] at f1
            rw [e2] at f2
            cases f1
            cases f2
            rfl
          · intro zs H6 s6 lz hz D n1 n2
            have ez := ints_zip (f := fun o1 o2 => (hd * o1 - r.headD 0 * o2).fdiv l) lz hz
            have hl6 := s6 _ _ (s5 _ _ hl4)
            refine ⟨_, same_upd n2 _ _ hl6, by omega, same_upd_of ((sm5.trans s6).trans (same_upd n2)) nlf, _, upd_same, ?_, _, rfl⟩
            rw [hid_hid, eR]
            refine (ay4.imp fun _ _ h => h.mono (hid_mono ((s5.trans s6).trans (same_upd n2)))).append (.one ⟨D, rfl, ?_⟩)
            rw [hid_ne (fun e => by rw [e, hl6] at n2; cases n2), upd_same, hw, if_neg c, gr, ez]
      · rintro σ H3 ⟨sm3, ys, hl3, ay, z1, z2, z3, rfl⟩
        rw [lx] at ay
        exact hN _ _ ⟨sm3, ⟨ys, hl3, ay.imp fun _ _ h => h.mono hid_sub⟩, _, _, _, rfl⟩
    rintro _ H3 ⟨sm3, hm, z1, z2, z3, rfl⟩
    simp only [L2.start, Pr, tRev, tD1, tDPop1, tSl, tNoPart, tPart, rSlL, tDIn, tDNotIn, gSub, rSetL, tLst, tDNewK, tComp, L2.stC, tFor_eq, iList, iTup, iRng1, iRng2, iZip, iEnum, iDict, iStr, tChain, tSumV, tBM, rJoin, tJoined, jNil, jLit, jInt, jStr, tRaise, tDGet, tDGet2, tDGet1, sDPut, Option.join_some, List.getElem?_nil,  tSeq, tRet, tRetN, tIfS, tTest, tB, tOp, tUn, tVar, tC, tCB, tCons, tNil, tCall, tTupS, tAsg, gName, gNil, gCons, tPar, tNext, tDrop, tAnd, tOr, tNot, tAndV, tOrV, tNotV, tIf, rI, rI0, rU, rIxTH, rIxLH, rEqT, rNeT, rInT, rEq, rNe, scal, CPow, at0, at1, at2, List.map_cons, List.map_nil, List.length_cons, List.length_nil, Nat.reduceSub, Nat.reduceAdd, Nat.zero_add, List.replicate_zero, List.reduceReplicate, List.append_nil, List.nil_append, List.cons_append, List.getElem?_cons_zero, List.getElem?_cons_succ, List.set_cons_zero, List.set_cons_succ, Option.some.injEq, exists_eq_left', exists_eq_left, V.ref.injEq, V.int.injEq, V.bl.injEq, V.str.injEq, V.ty.injEq, HO.tup.injEq, HO.lst.injEq, List.cons.injEq, and_true, true_and, and_assoc, exists_and_left, decide_eq_true_eq, Bool.not_eq_true', decide_eq_false_iff_not, ite_true, ite_false, if_true, if_false, Int.reduceToNat, eq_self_iff_true]
    exact kk _ _ (sm1.trans sm3) hm
theorem sc_swept : FnScope ["rows", "columns", "last", "column", "spot", "head"] ["rows", "columns"] (defScope (top 11)) := ⟨rfl, rfl, rfl, by decide +kernel, rfl, by decide +kernel, by decide +kernel⟩
theorem ok_sw (T : Txt K mg q_NoShare) : Cal P w K mg base (CX1 P w) 2 "swept" ["rows", "columns"] spSw := by
  have c_row_with_head : Cal P w K mg base (CX1 P w) 1 "row_with_head" ["rows", "start"] spRh := ok_rh T
  have c_swapped : Cal P w K mg base (CX1 P w) 1 "swapped" ["rows", "one", "other"] spSwd := ok_swd T
  have c_without_first_column : Cal P w K mg base (CX1 P w) 1 "without_first_column" ["rows", "spot", "last"] spWf := ok_wf T
  refine T.d_swept.cal (fun _ _ _ _ _ _ us hl => match us, hl with | [_, _], _ => rfl) fun f fd F => F.okC sc_swept (fun vs H Q E h => ?_) (fun cdv A outer s H vs Q E hr h => ?_)
  · obtain ⟨_, _, _, _, _, rfl, _⟩ := h; rfl
  · obtain ⟨a, L, n, m, b, rfl, hM, B, kk⟩ := h
    have nd := sc_swept.nd
    refine ⟨_, (pss_cons (ps_set (i := 2) nd rfl (Or.inl rfl) pe_int)
    (pss_cons (ps_for PassesOwn.never rfl (pi_range1 rfl T.z_range (pa_cons (pv 1) pa_nil (se rfl))) (pg_name (i := 3) nd rfl (Or.inl rfl)) (pss_cons (ps_set (i := 4) nd rfl (Or.inl rfl) (pe_cal c_row_with_head (hr.mono (by decide)) rfl strictP.pass (pa_cons (pv 0) (pa_cons (pv 3) pa_nil (se rfl)) (se rfl)) (he := se rfl) (hpl := na rfl)))
    (pss_cons (ps_if (pt_cmpR op_isN (pv 4) pe_non (nomark _)) (pss_one (ps_ret (pe_tupS (pa_cons (pv 0) (pa_cons (pv 3) (pa_cons (pv 2) pa_nil (se rfl)) (se rfl)) (se rfl)))))
      pss_nil)
    (pss_cons (ps_set (i := 0) nd rfl (Or.inl rfl) (pe_cal c_swapped (hr.mono (by decide)) rfl strictP.pass (pa_cons (pv 0) (pa_cons (pv 3) (pa_cons (pv 4) pa_nil (se rfl)) (se rfl)) (se rfl)) (he := se rfl) (hpl := na rfl)))
    (pss_cons (ps_set (i := 5) nd rfl (Or.inl rfl) (pe_ix ix_listH (pe_ix ix_listH (pv 0) (pv 3) (fun _ _ => rfl)) pe_int (fun _ _ => rfl)))
    (pss_cons (ps_set (i := 0) nd rfl (Or.inl rfl) (pe_cal c_without_first_column (hr.mono (by decide)) rfl strictP.pass (pa_cons (pv 0) (pa_cons (pv 3) (pa_cons (pv 2) pa_nil (se rfl)) (se rfl)) (se rfl)) (he := se rfl) (hpl := na rfl)))
    (pss_one (ps_set (i := 2) nd rfl (Or.inl rfl) (pv 5)))))))))
    (pss_one (ps_ret (pe_tupS (pa_cons (pv 0) (pa_cons (pv 1) (pa_cons (pv 2) pa_nil (se rfl)) (se rfl)) (se rfl))))))), ?_⟩
    have sl := sizeLine_eq
    have Bn := B.nm
    have Bm := B.m64
    have bU := Bar.fo_bd B.bd
    have hlen : (L.map Bar.fo).length = n := by rw [List.length_map, B.len]
    have bt : ∀ x : Int, x.natAbs ≤ ((n + 1) * b) ^ (n + 1) → Bt 4000 x := fun x h => Nat.lt_of_le_of_lt h B.top
    change tSeq _ _ _ [some (.ref a), some (.int (n : Int)), none, none, none, none] H
    refine seq_gen (fun σ' H1 => H = H1 ∧ σ' = [some (.ref a), some (.int (n : Int)), some (.int 1), none, none, none]) ?_ (fun N hN => ?_)
    case refine_2 =>
      simp only [L2.start, Pr, tRev, tD1, tDPop1, tSl, tNoPart, tPart, rSlL, tDIn, tDNotIn, gSub, rSetL, tLst, tDNewK, tComp, L2.stC, tFor_eq, iList, iTup, iRng1, iRng2, iZip, iEnum, iDict, iStr, tChain, tSumV, tBM, rJoin, tJoined, jNil, jLit, jInt, jStr, tRaise, tDGet, tDGet2, tDGet1, sDPut, Option.join_some, List.getElem?_nil,  tSeq, tRet, tRetN, tIfS, tTest, tB, tOp, tUn, tVar, tC, tCB, tCons, tNil, tCall, tTupS, tAsg, gName, gNil, gCons, tPar, tNext, tDrop, tAnd, tOr, tNot, tAndV, tOrV, tNotV, tIf, rI, rI0, rU, rIxTH, rIxLH, rEqT, rNeT, rInT, rEq, rNe, scal, CPow, at0, at1, at2, List.map_cons, List.map_nil, List.length_cons, List.length_nil, Nat.reduceSub, Nat.reduceAdd, Nat.zero_add, List.replicate_zero, List.reduceReplicate, List.append_nil, List.nil_append, List.cons_append, List.getElem?_cons_zero, List.getElem?_cons_succ, List.set_cons_zero, List.set_cons_succ, Option.some.injEq, exists_eq_left', exists_eq_left, V.ref.injEq, V.int.injEq, V.bl.injEq, V.str.injEq, V.ty.injEq, HO.tup.injEq, HO.lst.injEq, List.cons.injEq, and_true, true_and, and_assoc, exists_and_left, decide_eq_true_eq, Bool.not_eq_true', decide_eq_false_iff_not, ite_true, ite_false, if_true, if_false, Int.reduceToNat, eq_self_iff_true]
      exact hN _ _ ⟨rfl, rfl⟩
    rintro _ _ ⟨rfl, rfl⟩
    change tSeq _ _ _ [some (.ref a), some (.int (n : Int)), some (.int 1), none, none, none] H
    refine seq_gen (fun σ' H1 => Same H H1 ∧ ∃ p rs W, Bar.Stp (L.map Bar.fo) n n rs W ∧ MtH H1 p (W.map fun v => Bar.rowOf v rs n m) ∧ ∃ z1 z2 z3, σ' = [some (.ref p), some (.int (n : Int)), some (.int (Bar.D rs (Bar.dn n))), z1, z2, z3]) ?_ (fun N hN => ?_)
    case refine_2 =>
      simp only [L2.start, Pr, tRev, tD1, tDPop1, tSl, tNoPart, tPart, rSlL, tDIn, tDNotIn, gSub, rSetL, tLst, tDNewK, tComp, L2.stC, tFor_eq, iList, iTup, iRng1, iRng2, iZip, iEnum, iDict, iStr, tChain, tSumV, tBM, rJoin, tJoined, jNil, jLit, jInt, jStr, tRaise, tDGet, tDGet2, tDGet1, sDPut, Option.join_some, List.getElem?_nil,  tSeq, tRet, tRetN, tIfS, tTest, tB, tOp, tUn, tVar, tC, tCB, tCons, tNil, tCall, tTupS, tAsg, gName, gNil, gCons, tPar, tNext, tDrop, tAnd, tOr, tNot, tAndV, tOrV, tNotV, tIf, rI, rI0, rU, rIxTH, rIxLH, rEqT, rNeT, rInT, rEq, rNe, scal, CPow, at0, at1, at2, List.map_cons, List.map_nil, List.length_cons, List.length_nil, Nat.reduceSub, Nat.reduceAdd, Nat.zero_add, List.replicate_zero, List.reduceReplicate, List.append_nil, List.nil_append, List.cons_append, List.getElem?_cons_zero, List.getElem?_cons_succ, List.set_cons_zero, List.set_cons_succ, Option.some.injEq, exists_eq_left', exists_eq_left, V.ref.injEq, V.int.injEq, V.bl.injEq, V.str.injEq, V.ty.injEq, HO.tup.injEq, HO.lst.injEq, List.cons.injEq, and_true, true_and, and_assoc, exists_and_left, decide_eq_true_eq, Bool.not_eq_true', decide_eq_false_iff_not, ite_true, ite_false, if_true, if_false, Int.reduceToNat, eq_self_iff_true]
      refine ⟨by omega, by omega, for_src (src_range (Ok := fun _ => True)) (fun i σ H1 => Same H H1 ∧ ∃ p rs W, Bar.Stp (L.map Bar.fo) n i rs W ∧ MtH H1 p (W.map fun v => Bar.rowOf v rs i m) ∧ ∃ z1 z2 z3, σ = [some (.ref p), some (.int (n : Int)), some (.int (Bar.D rs (Bar.dn i))), z1, z2, z3]) ?_ (fun _ _ _ _ _ => trivial) ?_ ?_⟩
      · refine ⟨Same.refl _, a, [], L.map Bar.fo, ?_, ?_, _, _, _, rfl⟩
        · have := Bar.Stp.start (U := L.map Bar.fo)
          rw [hlen] at this
          exact this
        · rw [Bar.start_rows B.row]
          exact hM
      · rintro k x σ H1 H2 hi ⟨sm1, p, rs, W, S, hW, z1, z2, z3, rfl⟩ ⟨rfl, rfl⟩
        have lW := S.len
        have hk : k < n := by omega
        have hkm : k < m := by omega
        have rb := Bar.rows_bd (m := m) S B.b1 bU
        have db := bt _ (S.bdd B.b1 bU)
        have hlW : (W.map fun v => Bar.rowOf v rs k m).length = n := by rw [List.length_map, lW]
        have hrow : ∀ r ∈ W.map (fun v => Bar.rowOf v rs k m), r.length = (m - (k + 1)) + 1 := fun r hr => by
          obtain ⟨v, _, rfl⟩ := List.mem_map.mp hr
          rw [Bar.rowOf_length]
          omega
        have hhd : ∀ (i : Nat) (v : Bar.Fm), W[i]? = some v → ((W.map fun v => Bar.rowOf v rs k m).getD i []).headD 0 = Bar.D (v :: rs) (k :: Bar.dn k) := fun i v e => by
          rw [Bar.getD_map e, Bar.rowOf_cons hkm]
          rfl
        change tSeq _ _ _ [some (.ref p), some (.int (n : Int)), some (.int (Bar.D rs (Bar.dn k))), some (.int (0 + (k : Int))), z2, z3] H2
        rw [Int.zero_add]
        refine seq_gen (fun σ' H3 => H2 = H3 ∧ ((Bar.Stuck k rs W ∧ σ' = [some (.ref p), some (.int (n : Int)), some (.int (Bar.D rs (Bar.dn k))), some (.int (k : Int)), some .non, z3]) ∨ ∃ i u, k ≤ i ∧ i < n ∧ W[i]? = some u ∧ Bar.D (u :: rs) (k :: Bar.dn k) ≠ 0 ∧ σ' = [some (.ref p), some (.int (n : Int)), some (.int (Bar.D rs (Bar.dn k))), some (.int (k : Int)), some (.int (Nat.cast i)), z3])) ?_ (fun N hN' => ?_)
        case refine_2 =>
          simp only [L2.start, Pr, tRev, tD1, tDPop1, tSl, tNoPart, tPart, rSlL, tDIn, tDNotIn, gSub, rSetL, tLst, tDNewK, tComp, L2.stC, tFor_eq, iList, iTup, iRng1, iRng2, iZip, iEnum, iDict, iStr, tChain, tSumV, tBM, rJoin, tJoined, jNil, jLit, jInt, jStr, tRaise, tDGet, tDGet2, tDGet1, sDPut, Option.join_some, List.getElem?_nil,  tSeq, tRet, tRetN, tIfS, tTest, tB, tOp, tUn, tVar, tC, tCB, tCons, tNil, tCall, tTupS, tAsg, gName, gNil, gCons, tPar, tNext, tDrop, tAnd, tOr, tNot, tAndV, tOrV, tNotV, tIf, rI, rI0, rU, rIxTH, rIxLH, rEqT, rNeT, rInT, rEq, rNe, scal, CPow, at0, at1, at2, List.map_cons, List.map_nil, List.length_cons, List.length_nil, Nat.reduceSub, Nat.reduceAdd, Nat.zero_add, List.replicate_zero, List.reduceReplicate, List.append_nil, List.nil_append, List.cons_append, List.getElem?_cons_zero, List.getElem?_cons_succ, List.set_cons_zero, List.set_cons_succ, Option.some.injEq, exists_eq_left', exists_eq_left, V.ref.injEq, V.int.injEq, V.bl.injEq, V.str.injEq, V.ty.injEq, HO.tup.injEq, HO.lst.injEq, List.cons.injEq, and_true, true_and, and_assoc, exists_and_left, decide_eq_true_eq, Bool.not_eq_true', decide_eq_false_iff_not, ite_true, ite_false, if_true, if_false, Int.reduceToNat, eq_self_iff_true, spRh]
          refine ⟨_, k, rfl, hW, by omega, by omega, fun r hr => by rw [hrow r hr]; omega, fun i h1 h2 h3 => ?_, fun h => ?_⟩
          · rw [hlW] at h2
            have ei : W[i]? = some W[i] := List.getElem?_eq_getElem (by omega)
            rw [hhd i _ ei] at h3
            exact hN' _ _ ⟨rfl, .inr ⟨i, _, h1, h2, ei, h3, rfl⟩⟩
          · refine hN' _ _ ⟨rfl, .inl ⟨fun u hu => ?_, rfl⟩⟩
            obtain ⟨i, hi', rfl⟩ := List.getElem_of_mem hu
            rw [List.length_drop] at hi'
            have ei : W[k + i]? = some W[k + i] := List.getElem?_eq_getElem (by omega)
            have := h (k + i) (by omega) (by omega)
            rw [hhd _ _ ei] at this
            rw [List.getElem_drop]
            exact this
        rintro _ _ ⟨rfl, ⟨stk, rfl⟩ | ⟨i, u, h1, h2, ei, hne, rfl⟩⟩
        · simp only [L2.start, Pr, tRev, tD1, tDPop1, tSl, tNoPart, tPart, rSlL, tDIn, tDNotIn, gSub, rSetL, tLst, tDNewK, tComp, L2.stC, tFor_eq, iList, iTup, iRng1, iRng2, iZip, iEnum, iDict, iStr, tChain, tSumV, tBM, rJoin, tJoined, jNil, jLit, jInt, jStr, tRaise, tDGet, tDGet2, tDGet1, sDPut, Option.join_some, List.getElem?_nil,  tSeq, tRet, tRetN, tIfS, tTest, tB, tOp, tUn, tVar, tC, tCB, tCons, tNil, tCall, tTupS, tAsg, gName, gNil, gCons, tPar, tNext, tDrop, tAnd, tOr, tNot, tAndV, tOrV, tNotV, tIf, rI, rI0, rU, rIxTH, rIxLH, rEqT, rNeT, rInT, rEq, rNe, scal, CPow, at0, at1, at2, List.map_cons, List.map_nil, List.length_cons, List.length_nil, Nat.reduceSub, Nat.reduceAdd, Nat.zero_add, List.replicate_zero, List.reduceReplicate, List.append_nil, List.nil_append, List.cons_append, List.getElem?_cons_zero, List.getElem?_cons_succ, List.set_cons_zero, List.set_cons_succ, Option.some.injEq, exists_eq_left', exists_eq_left, V.ref.injEq, V.int.injEq, V.bl.injEq, V.str.injEq, V.ty.injEq, HO.tup.injEq, HO.lst.injEq, List.cons.injEq, and_true, true_and, and_assoc, exists_and_left, decide_eq_true_eq, Bool.not_eq_true', decide_eq_false_iff_not, ite_true, ite_false, if_true, if_false, Int.reduceToNat, eq_self_iff_true]
          exact ⟨by decide, fun t H3 s3 nt e3 => kk t p k rs W _ S (fun _ => stk) (sm1.trans s3) e3 (hW.mono s3)⟩
        · have ek : W[k]? = some W[k] := List.getElem?_eq_getElem (by omega)
          change tSeq _ _ _ [some (.ref p), some (.int (n : Int)), some (.int (Bar.D rs (Bar.dn k))), some (.int (k : Int)), some (.int (Nat.cast i)), z3] H2
          refine seq_gen (fun σ' H3 => H2 = H3 ∧ σ' = [some (.ref p), some (.int (n : Int)), some (.int (Bar.D rs (Bar.dn k))), some (.int (k : Int)), some (.int (Nat.cast i)), z3]) ?_ (fun N hN' => ?_)
          case refine_2 =>
            simp only [L2.start, Pr, tRev, tD1, tDPop1, tSl, tNoPart, tPart, rSlL, tDIn, tDNotIn, gSub, rSetL, tLst, tDNewK, tComp, L2.stC, tFor_eq, iList, iTup, iRng1, iRng2, iZip, iEnum, iDict, iStr, tChain, tSumV, tBM, rJoin, tJoined, jNil, jLit, jInt, jStr, tRaise, tDGet, tDGet2, tDGet1, sDPut, Option.join_some, List.getElem?_nil,  tSeq, tRet, tRetN, tIfS, tTest, tB, tOp, tUn, tVar, tC, tCB, tCons, tNil, tCall, tTupS, tAsg, gName, gNil, gCons, tPar, tNext, tDrop, tAnd, tOr, tNot, tAndV, tOrV, tNotV, tIf, rI, rI0, rU, rIxTH, rIxLH, rEqT, rNeT, rInT, rEq, rNe, scal, CPow, at0, at1, at2, List.map_cons, List.map_nil, List.length_cons, List.length_nil, Nat.reduceSub, Nat.reduceAdd, Nat.zero_add, List.replicate_zero, List.reduceReplicate, List.append_nil, List.nil_append, List.cons_append, List.getElem?_cons_zero, List.getElem?_cons_succ, List.set_cons_zero, List.set_cons_succ, Option.some.injEq, exists_eq_left', exists_eq_left, V.ref.injEq, V.int.injEq, V.bl.injEq, V.str.injEq, V.ty.injEq, HO.tup.injEq, HO.lst.injEq, List.cons.injEq, and_true, true_and, and_assoc, exists_and_left, decide_eq_true_eq, Bool.not_eq_true', decide_eq_false_iff_not, ite_true, ite_false, if_true, if_false, Int.reduceToNat, eq_self_iff_true]
            rw [if_neg (by simp)]
            exact hN' _ _ ⟨rfl, rfl⟩
          rintro _ _ ⟨rfl, rfl⟩
          change tSeq _ _ _ [some (.ref p), some (.int (n : Int)), some (.int (Bar.D rs (Bar.dn k))), some (.int (k : Int)), some (.int (Nat.cast i)), z3] H2
          refine seq_gen (fun σ' H3 => Same H2 H3 ∧ ∃ p2, MtH H3 p2 ((Bar.swp W k i u W[k]).map fun v => Bar.rowOf v rs k m) ∧ σ' = [some (.ref p2), some (.int (n : Int)), some (.int (Bar.D rs (Bar.dn k))), some (.int (k : Int)), some (.int (Nat.cast i)), z3]) ?_ (fun N hN' => ?_)
          case refine_2 =>
            simp only [L2.start, Pr, tRev, tD1, tDPop1, tSl, tNoPart, tPart, rSlL, tDIn, tDNotIn, gSub, rSetL, tLst, tDNewK, tComp, L2.stC, tFor_eq, iList, iTup, iRng1, iRng2, iZip, iEnum, iDict, iStr, tChain, tSumV, tBM, rJoin, tJoined, jNil, jLit, jInt, jStr, tRaise, tDGet, tDGet2, tDGet1, sDPut, Option.join_some, List.getElem?_nil,  tSeq, tRet, tRetN, tIfS, tTest, tB, tOp, tUn, tVar, tC, tCB, tCons, tNil, tCall, tTupS, tAsg, gName, gNil, gCons, tPar, tNext, tDrop, tAnd, tOr, tNot, tAndV, tOrV, tNotV, tIf, rI, rI0, rU, rIxTH, rIxLH, rEqT, rNeT, rInT, rEq, rNe, scal, CPow, at0, at1, at2, List.map_cons, List.map_nil, List.length_cons, List.length_nil, Nat.reduceSub, Nat.reduceAdd, Nat.zero_add, List.replicate_zero, List.reduceReplicate, List.append_nil, List.nil_append, List.cons_append, List.getElem?_cons_zero, List.getElem?_cons_succ, List.set_cons_zero, List.set_cons_succ, Option.some.injEq, exists_eq_left', exists_eq_left, V.ref.injEq, V.int.injEq, V.bl.injEq, V.str.injEq, V.ty.injEq, HO.tup.injEq, HO.lst.injEq, List.cons.injEq, and_true, true_and, and_assoc, exists_and_left, decide_eq_true_eq, Bool.not_eq_true', decide_eq_false_iff_not, ite_true, ite_false, if_true, if_false, Int.reduceToNat, eq_self_iff_true, spSwd]
            refine ⟨_, k, rfl, i, rfl, hW, by omega, by omega, by omega, fun p2 H3 s3 h3 => hN' _ _ ⟨s3, p2, ?_, rfl⟩⟩
            rw [Bar.swp_map ei ek] at h3
            exact h3
          rintro _ H3 ⟨sm3, p2, hW2, rfl⟩
          have hsw := Bar.swp_at ei ek
          have lsw : (Bar.swp W k i u W[k]).length = n := by unfold Bar.swp; rw [List.length_set, List.length_set, lW]
          have msw : ∀ v ∈ Bar.swp W k i u W[k], v ∈ W := fun v hv => by
            unfold Bar.swp at hv
            rcases List.mem_or_eq_of_mem_set hv with h | h
            · rcases List.mem_or_eq_of_mem_set h with h | h
              · exact h
              · rw [h]; exact List.mem_of_getElem? ei
            · rw [h]; exact List.getElem_mem _
          have hrow2 : ∀ r ∈ (Bar.swp W k i u W[k]).map (fun v => Bar.rowOf v rs k m), r.length = (m - (k + 1)) + 1 := fun r hr => by
            obtain ⟨v, _, rfl⟩ := List.mem_map.mp hr
            rw [Bar.rowOf_length]
            omega
          have bd2 : ∀ r ∈ (Bar.swp W k i u W[k]).map (fun v => Bar.rowOf v rs k m), ∀ x ∈ r, Bt 4000 x := fun r hr x hx => by
            obtain ⟨v, hv, rfl⟩ := List.mem_map.mp hr
            exact bt _ (rb _ (List.mem_map.mpr ⟨v, msw v hv, rfl⟩) x hx)
          have S2 := S.step hk h1 ei ek hne
          have ew := Bar.wfc_step (n := n) S.good hkm ei ek
          have e1 : ((Bar.swp W k i u W[k]).map fun v => Bar.rowOf v rs k m)[k]? = some (Bar.rowOf u rs k m) := by rw [List.getElem?_map, hsw]; rfl
          obtain ⟨xs, hxs, al⟩ := id hW2
          obtain ⟨q, aq, hq⟩ := at_row al e1
          have ah := at_head (r := Bar.rowOf u rs k m) (by rw [Bar.rowOf_length]; omega)
          have eh : (Bar.rowOf u rs k m).headD 0 = Bar.D (u :: rs) (k :: Bar.dn k) := by rw [Bar.rowOf_cons hkm]; rfl
          rw [eh] at ah
          change tSeq _ _ _ [some (.ref p2), some (.int (n : Int)), some (.int (Bar.D rs (Bar.dn k))), some (.int (k : Int)), some (.int (Nat.cast i)), z3] H3
          refine seq_gen (fun σ' H4 => H3 = H4 ∧ σ' = [some (.ref p2), some (.int (n : Int)), some (.int (Bar.D rs (Bar.dn k))), some (.int (k : Int)), some (.int (Nat.cast i)), some (.int (Bar.D (u :: rs) (k :: Bar.dn k)))]) ?_ (fun N hN' => ?_)
          case refine_2 =>
            simp only [L2.start, Pr, tRev, tD1, tDPop1, tSl, tNoPart, tPart, rSlL, tDIn, tDNotIn, gSub, rSetL, tLst, tDNewK, tComp, L2.stC, tFor_eq, iList, iTup, iRng1, iRng2, iZip, iEnum, iDict, iStr, tChain, tSumV, tBM, rJoin, tJoined, jNil, jLit, jInt, jStr, tRaise, tDGet, tDGet2, tDGet1, sDPut, Option.join_some, List.getElem?_nil,  tSeq, tRet, tRetN, tIfS, tTest, tB, tOp, tUn, tVar, tC, tCB, tCons, tNil, tCall, tTupS, tAsg, gName, gNil, gCons, tPar, tNext, tDrop, tAnd, tOr, tNot, tAndV, tOrV, tNotV, tIf, rI, rI0, rU, rIxTH, rIxLH, rEqT, rNeT, rInT, rEq, rNe, scal, CPow, at0, at1, at2, List.map_cons, List.map_nil, List.length_cons, List.length_nil, Nat.reduceSub, Nat.reduceAdd, Nat.zero_add, List.replicate_zero, List.reduceReplicate, List.append_nil, List.nil_append, List.cons_append, List.getElem?_cons_zero, List.getElem?_cons_succ, List.set_cons_zero, List.set_cons_succ, Option.some.injEq, exists_eq_left', exists_eq_left, V.ref.injEq, V.int.injEq, V.bl.injEq, V.str.injEq, V.ty.injEq, HO.tup.injEq, HO.lst.injEq, List.cons.injEq, and_true, true_and, and_assoc, exists_and_left, decide_eq_true_eq, Bool.not_eq_true', decide_eq_false_iff_not, ite_true, ite_false, if_true, if_false, Int.reduceToNat, eq_self_iff_true, hxs, aq, hq, ah]
            exact hN' _ _ ⟨rfl, rfl⟩
          rintro _ _ ⟨rfl, rfl⟩
          simp only [L2.start, Pr, tRev, tD1, tDPop1, tSl, tNoPart, tPart, rSlL, tDIn, tDNotIn, gSub, rSetL, tLst, tDNewK, tComp, L2.stC, tFor_eq, iList, iTup, iRng1, iRng2, iZip, iEnum, iDict, iStr, tChain, tSumV, tBM, rJoin, tJoined, jNil, jLit, jInt, jStr, tRaise, tDGet, tDGet2, tDGet1, sDPut, Option.join_some, List.getElem?_nil,  tSeq, tRet, tRetN, tIfS, tTest, tB, tOp, tUn, tVar, tC, tCB, tCons, tNil, tCall, tTupS, tAsg, gName, gNil, gCons, tPar, tNext, tDrop, tAnd, tOr, tNot, tAndV, tOrV, tNotV, tIf, rI, rI0, rU, rIxTH, rIxLH, rEqT, rNeT, rInT, rEq, rNe, scal, CPow, at0, at1, at2, List.map_cons, List.map_nil, List.length_cons, List.length_nil, Nat.reduceSub, Nat.reduceAdd, Nat.zero_add, List.replicate_zero, List.reduceReplicate, List.append_nil, List.nil_append, List.cons_append, List.getElem?_cons_zero, List.getElem?_cons_succ, List.set_cons_zero, List.set_cons_succ, Option.some.injEq, exists_eq_left', exists_eq_left, V.ref.injEq, V.int.injEq, V.bl.injEq, V.str.injEq, V.ty.injEq, HO.tup.injEq, HO.lst.injEq, List.cons.injEq, and_true, true_and, and_assoc, exists_and_left, decide_eq_true_eq, Bool.not_eq_true', decide_eq_false_iff_not, ite_true, ite_false, if_true, if_false, Int.reduceToNat, eq_self_iff_true, spWf]
          refine ⟨_, k, rfl, hW2, by rw [List.length_map]; omega, by rw [List.length_map]; omega, m - (k + 1), by omega, hrow2, S.good.ne, db, bd2, fun p3 H4 s4 h4 => ?_⟩
          rw [ew] at h4
          exact ⟨sm1.trans (sm3.trans s4), _, _, _, S2, h4, rfl, rfl, _, rfl⟩
      · rintro σ H1 ⟨sm1, p, rs, W, S, hW, z1, z2, z3, rfl⟩
        exact hN _ _ ⟨sm1, p, rs, W, S, hW, _, _, _, rfl⟩
    rintro _ H1 ⟨sm1, p, rs, W, S, hW, z1, z2, z3, rfl⟩
    simp only [L2.start, Pr, tRev, tD1, tDPop1, tSl, tNoPart, tPart, rSlL, tDIn, tDNotIn, gSub, rSetL, tLst, tDNewK, tComp, L2.stC, tFor_eq, iList, iTup, iRng1, iRng2, iZip, iEnum, iDict, iStr, tChain, tSumV, tBM, rJoin, tJoined, jNil, jLit, jInt, jStr, tRaise, tDGet, tDGet2, tDGet1, sDPut, Option.join_some, List.getElem?_nil,  tSeq, tRet, tRetN, tIfS, tTest, tB, tOp, tUn, tVar, tC, tCB, tCons, tNil, tCall, tTupS, tAsg, gName, gNil, gCons, tPar, tNext, tDrop, tAnd, tOr, tNot, tAndV, tOrV, tNotV, tIf, rI, rI0, rU, rIxTH, rIxLH, rEqT, rNeT, rInT, rEq, rNe, scal, CPow, at0, at1, at2, List.map_cons, List.map_nil, List.length_cons, List.length_nil, Nat.reduceSub, Nat.reduceAdd, Nat.zero_add, List.replicate_zero, List.reduceReplicate, List.append_nil, List.nil_append, List.cons_append, List.getElem?_cons_zero, List.getElem?_cons_succ, List.set_cons_zero, List.set_cons_succ, Option.some.injEq, exists_eq_left', exists_eq_left, V.ref.injEq, V.int.injEq, V.bl.injEq, V.str.injEq, V.ty.injEq, HO.tup.injEq, HO.lst.injEq, List.cons.injEq, and_true, true_and, and_assoc, exists_and_left, decide_eq_true_eq, Bool.not_eq_true', decide_eq_false_iff_not, ite_true, ite_false, if_true, if_false, Int.reduceToNat, eq_self_iff_true]
    exact ⟨by decide, fun t H2 s2 nt e2 => kk t p n rs W _ S (fun h => absurd h (Nat.lt_irrefl _)) (sm1.trans s2) e2 (hW.mono s2)⟩
theorem sc_whole_answers : FnScope ["rows", "right", "done", "sign"] ["rows", "right"] (defScope (top 12)) := ⟨rfl, rfl, rfl, by decide +kernel, rfl, by decide +kernel, by decide +kernel⟩
theorem ok_wa (T : Txt K mg q_NoShare) : Cal P w K mg base (CX1 P w) 3 "whole_answers" ["rows", "right"] spWA := by
  have c_swept : Cal P w K mg base (CX1 P w) 2 "swept" ["rows", "columns"] spSw := ok_sw T
  refine T.d_whole_answers.cal (fun _ _ _ _ _ _ us hl => match us, hl with | [_, _], _ => rfl) fun f fd F => F.okC sc_whole_answers (fun vs H Q E h => ?_) (fun cdv A outer s H vs Q E hr h => ?_)
  · obtain ⟨_, _, _, _, _, _, rfl, _⟩ := h; rfl
  · obtain ⟨a, c, L, S, n, b, rfl, hM, hc, lS, sq, B, kN, kS⟩ := h
    have nd := sc_whole_answers.nd
    refine ⟨_, (pss_cons (ps_set (i := 2) nd rfl (Or.inl rfl) (pe_cal c_swept (hr.mono (by decide)) rfl strictP.pass (pa_cons (pe_comp rfl (N := ["rows", "right", "done", "sign"]) (so := defScope (top 12)) (N' := ["row", "side"]) (k := 2) (fr := []) rfl rfl ⟨rfl, by decide +kernel, by decide +kernel, by decide +kernel, rfl, by decide +kernel, by decide +kernel⟩ (pi_zipK (K := K) rfl T.z_zip (pa_cons (pv 0) (pa_cons (pv 1) pa_nil (se rfl)) (se rfl))) (fun _ _ _ _ _ => (pg_tupK (K := K) (n := 2) rfl (pgs_cons (pg_name (i := 0) (show (["row", "side"] : List Str).Nodup by decide +kernel) rfl (Or.inl rfl)) (pgs_cons (pg_name (i := 1) (show (["row", "side"] : List Str).Nodup by decide +kernel) rfl (Or.inl rfl)) pgs_nil)))) (fun _ _ _ _ _ => pts_nil)
      (fun _ _ _ _ _ => (pe_op op_cat (pv 0) (pe_lst (pa_cons (pv 1) pa_nil (se rfl)))))) (pa_cons (pe_callB call_lenL (by rfl) T.z_len PySem.boot_len (pa_cons (pv 0) pa_nil (se rfl)) (he := se rfl) (hpl := na rfl)) pa_nil (se rfl)) (se rfl)) (he := se rfl) (hpl := na rfl)))
    (pss_cons (ps_if (pt_cmpR op_lt (pe_ix ix_tupH (pv 2) pe_int (fun _ _ => rfl)) (pe_callB call_lenL (by rfl) T.z_len PySem.boot_len (pa_cons (pv 0) pa_nil (se rfl)) (he := se rfl) (hpl := na rfl)) (nomark _)) (pss_one (ps_ret pe_non))
      pss_nil)
    (pss_cons (ps_set (i := 3) nd rfl (Or.inr rfl) (pe_ifExp (pt_cmpR op_gt (pe_ix ix_tupH (pv 2) pe_int (fun _ _ => rfl)) pe_int (nomark _)) pe_int (pe_un un_neg pe_int)))
    (pss_one (ps_ret (pe_tupS (pa_cons (pe_comp rfl (N := ["rows", "right", "done", "sign"]) (so := defScope (top 12)) (N' := ["row", "sign"]) (k := 1) (fr := [3]) rfl rfl ⟨rfl, by decide +kernel, by decide +kernel, by decide +kernel, rfl, by decide +kernel, by decide +kernel⟩ (pi_listK (K := K) (pe_ix ix_tupH (pv 2) pe_int (fun _ _ => rfl))) (fun _ _ _ _ _ => (pg_name (i := 0) (show (["row", "sign"] : List Str).Nodup by decide +kernel) rfl (Or.inl rfl))) (fun _ _ _ _ _ => pts_nil)
      (fun _ _ _ _ _ => (pe_op op_mulB (pe_ix ix_listH (pv 0) pe_int (fun _ _ => rfl)) (pv 1)))) (pa_cons (pe_op op_mulB (pe_ix ix_tupH (pv 2) pe_int (fun _ _ => rfl)) (pv 3)) pa_nil (se rfl)) (se rfl)))))))), ?_⟩
    have sl := sizeLine_eq
    obtain ⟨xs, ha, al⟩ := id hM
    have lx := al.length
    have hl := sq.len
    have n64 : n + 1 ≤ 64 := B.m64
    change tSeq _ _ _ [some (.ref a), some (.ref c), none, none] H
    refine seq_gen (fun σ' H1 => Same H H1 ∧ ∃ t p k rs W, Bar.Stp ((Bar.aug L S).map Bar.fo) n k rs W ∧ (k < n → Bar.Stuck k rs W) ∧ H1 t = some (.tup [.ref p, .int (Nat.cast k), .int (Bar.D rs (Bar.dn k))]) ∧ MtH H1 p (W.map fun v => Bar.rowOf v rs k (n + 1)) ∧ σ' = [some (.ref a), some (.ref c), some (.ref t), none]) ?_ (fun N hN => ?_)
    case refine_2 =>
      simp only [L2.start, Pr, tRev, tD1, tDPop1, tSl, tNoPart, tPart, rSlL, tDIn, tDNotIn, gSub, rSetL, tLst, tDNewK, tComp, L2.stC, tFor_eq, iList, iTup, iRng1, iRng2, iZip, iEnum, iDict, iStr, tChain, tSumV, tBM, rJoin, tJoined, jNil, jLit, jInt, jStr, tRaise, tDGet, tDGet2, tDGet1, sDPut, Option.join_some, List.getElem?_nil,  tSeq, tRet, tRetN, tIfS, tTest, tB, tOp, tUn, tVar, tC, tCB, tCons, tNil, tCall, tTupS, tAsg, gName, gNil, gCons, tPar, tNext, tDrop, tAnd, tOr, tNot, tAndV, tOrV, tNotV, tIf, rI, rI0, rU, rIxTH, rIxLH, rEqT, rNeT, rInT, rEq, rNe, scal, CPow, at0, at1, at2, List.map_cons, List.map_nil, List.length_cons, List.length_nil, Nat.reduceSub, Nat.reduceAdd, Nat.zero_add, List.replicate_zero, List.reduceReplicate, List.append_nil, List.nil_append, List.cons_append, List.getElem?_cons_zero, List.getElem?_cons_succ, List.set_cons_zero, List.set_cons_succ, Option.some.injEq, exists_eq_left', exists_eq_left, V.ref.injEq, V.int.injEq, V.bl.injEq, V.str.injEq, V.ty.injEq, HO.tup.injEq, HO.lst.injEq, List.cons.injEq, and_true, true_and, and_assoc, exists_and_left, decide_eq_true_eq, Bool.not_eq_true', decide_eq_false_iff_not, ite_true, ite_false, if_true, if_false, Int.reduceToNat, eq_self_iff_true, spSw]
      refine ⟨⟨_, SqL.of ha⟩, ⟨_, SqL.of hc⟩, ?_⟩
      refine comp_map2 (K := K) (src_zip (fun H' s' => SqL.of (s' _ _ ha)) (fun H' s' => SqL.of (s' _ _ hc))) (fun i u v _ => ∃ r x, L[i]? = some r ∧ S[i]? = some x ∧ Rw H r u ∧ v = .int x) ?_ (by rw [List.length_map]; omega) (fun i y H' => ∀ r x, L[i]? = some r → S[i]? = some x → Rw H' (r ++ [x]) y) (fun _ _ _ _ s h r x e1 e2 => (h r x e1 e2).mono s) ?_ ?_
      · rintro i v H2 H3 hi s2 ⟨t, x, y, nt, rfl, ex, ey, rfl⟩
        rw [List.getElem?_map] at ey
        obtain ⟨z, ez, rfl⟩ := Option.map_eq_some_iff.mp ey
        obtain ⟨r, er, hr⟩ := al.get ex
        exact ⟨same_upd nt, t, _, _, rfl, SqT.of upd_same, r, z, er, ez, hr, rfl⟩
      · rintro i u v H2 Q2 hi s2 ⟨r, x, er, ex, ⟨q, rfl, hq⟩, rfl⟩ kq
        have lr := sq.row r (List.mem_of_getElem? er)
        simp only [L2.start, Pr, tRev, tD1, tDPop1, tSl, tNoPart, tPart, rSlL, tDIn, tDNotIn, gSub, rSetL, tLst, tDNewK, tComp, L2.stC, tFor_eq, iList, iTup, iRng1, iRng2, iZip, iEnum, iDict, iStr, tChain, tSumV, tBM, rJoin, tJoined, jNil, jLit, jInt, jStr, tRaise, tDGet, tDGet2, tDGet1, sDPut, Option.join_some, List.getElem?_nil,  tSeq, tRet, tRetN, tIfS, tTest, tB, tOp, tUn, tVar, tC, tCB, tCons, tNil, tCall, tTupS, tAsg, gName, gNil, gCons, tPar, tNext, tDrop, tAnd, tOr, tNot, tAndV, tOrV, tNotV, tIf, rI, rI0, rU, rIxTH, rIxLH, rEqT, rNeT, rInT, rEq, rNe, scal, CPow, at0, at1, at2, List.map_cons, List.map_nil, List.length_cons, List.length_nil, Nat.reduceSub, Nat.reduceAdd, Nat.zero_add, List.replicate_zero, List.reduceReplicate, List.append_nil, List.nil_append, List.cons_append, List.getElem?_cons_zero, List.getElem?_cons_succ, List.set_cons_zero, List.set_cons_succ, Option.some.injEq, exists_eq_left', exists_eq_left, V.ref.injEq, V.int.injEq, V.bl.injEq, V.str.injEq, V.ty.injEq, HO.tup.injEq, HO.lst.injEq, List.cons.injEq, and_true, true_and, and_assoc, exists_and_left, decide_eq_true_eq, Bool.not_eq_true', decide_eq_false_iff_not, ite_true, ite_false, if_true, if_false, Int.reduceToNat, eq_self_iff_true, rCat]
        refine ⟨by decide, fun m nm => ⟨_, same_upd nm _ _ (s2 _ _ hq), _, upd_same, by simp only [List.length_map, List.length_cons, List.length_nil]; omega, fun p np => kq _ _ ((same_upd nm).trans (same_upd np)) fun r' x' e1 e2 => ?_⟩⟩
        rw [er] at e1
        rw [ex] at e2
        cases e1
        cases e2
        exact ⟨p, rfl, by rw [upd_same, List.map_append]; rfl⟩
      · intro ys H2 s2 ly hy D n1 n2
        have s3 := s2.trans (same_upd (o := .lst ys) n2)
        have hm : MtH (upd H2 D (.lst ys)) D (Bar.aug L S) := by
          rw [List.length_map] at ly
          refine ⟨ys, upd_same, Al.of (by rw [Bar.aug_len hl lS]; omega) fun i y r e1 e2 => ?_⟩
          have hi := (List.getElem?_eq_some_iff.mp e1).1
          have er : L[i]? = some L[i] := List.getElem?_eq_getElem (by omega)
          have ex : S[i]? = some (S.getD i 0) := by rw [List.getD_eq_getElem?_getD, List.getElem?_eq_getElem (by omega)]; rfl
          rw [Bar.aug_get lS (by omega) er] at e2
          cases e2
          exact (hy i y e1 _ _ er ex).mono (same_upd n2)
        refine ⟨_, s3 _ _ ha, Bar.aug L S, n, by omega, hm, n + 1, b, B, fun t p k rs W H3 St stk s4 h4 h5 => hN _ _ ⟨s3.trans s4, t, p, k, rs, W, St, stk, h4, h5, rfl⟩⟩
    rintro _ H1 ⟨sm1, t, p, k, rs, W, St, stk, ht, hW, rfl⟩
    have ha1 := sm1 _ _ ha
    have kn := St.le
    change tSeq _ _ _ [some (.ref a), some (.ref c), some (.ref t), none] H1
    refine seq_gen (fun σ' H2 => H1 = H2 ∧ k = n ∧ σ' = [some (.ref a), some (.ref c), some (.ref t), none]) ?_ (fun N hN => ?_)
    case refine_2 =>
      simp only [L2.start, Pr, tRev, tD1, tDPop1, tSl, tNoPart, tPart, rSlL, tDIn, tDNotIn, gSub, rSetL, tLst, tDNewK, tComp, L2.stC, tFor_eq, iList, iTup, iRng1, iRng2, iZip, iEnum, iDict, iStr, tChain, tSumV, tBM, rJoin, tJoined, jNil, jLit, jInt, jStr, tRaise, tDGet, tDGet2, tDGet1, sDPut, Option.join_some, List.getElem?_nil,  tSeq, tRet, tRetN, tIfS, tTest, tB, tOp, tUn, tVar, tC, tCB, tCons, tNil, tCall, tTupS, tAsg, gName, gNil, gCons, tPar, tNext, tDrop, tAnd, tOr, tNot, tAndV, tOrV, tNotV, tIf, rI, rI0, rU, rIxTH, rIxLH, rEqT, rNeT, rInT, rEq, rNe, scal, CPow, at0, at1, at2, List.map_cons, List.map_nil, List.length_cons, List.length_nil, Nat.reduceSub, Nat.reduceAdd, Nat.zero_add, List.replicate_zero, List.reduceReplicate, List.append_nil, List.nil_append, List.cons_append, List.getElem?_cons_zero, List.getElem?_cons_succ, List.set_cons_zero, List.set_cons_succ, Option.some.injEq, exists_eq_left', exists_eq_left, V.ref.injEq, V.int.injEq, V.bl.injEq, V.str.injEq, V.ty.injEq, HO.tup.injEq, HO.lst.injEq, List.cons.injEq, and_true, true_and, and_assoc, exists_and_left, decide_eq_true_eq, Bool.not_eq_true', decide_eq_false_iff_not, ite_true, ite_false, if_true, if_false, Int.reduceToNat, eq_self_iff_true, ht, ha1]
      exact ite2 (fun h => kN k rs W _ St (by omega) (stk (by omega)) sm1) (fun h => hN _ _ ⟨rfl, by omega, rfl⟩)
    rintro _ _ ⟨rfl, rfl, rfl⟩
    have d0 := St.good.ne
    change tSeq _ _ _ [some (.ref a), some (.ref c), some (.ref t), none] H1
    refine seq_gen (fun σ' H2 => H1 = H2 ∧ σ' = [some (.ref a), some (.ref c), some (.ref t), some (.int (sgo (Bar.D rs (Bar.dn k))))]) ?_ (fun N hN => ?_)
    case refine_2 =>
      simp only [L2.start, Pr, tRev, tD1, tDPop1, tSl, tNoPart, tPart, rSlL, tDIn, tDNotIn, gSub, rSetL, tLst, tDNewK, tComp, L2.stC, tFor_eq, iList, iTup, iRng1, iRng2, iZip, iEnum, iDict, iStr, tChain, tSumV, tBM, rJoin, tJoined, jNil, jLit, jInt, jStr, tRaise, tDGet, tDGet2, tDGet1, sDPut, Option.join_some, List.getElem?_nil,  tSeq, tRet, tRetN, tIfS, tTest, tB, tOp, tUn, tVar, tC, tCB, tCons, tNil, tCall, tTupS, tAsg, gName, gNil, gCons, tPar, tNext, tDrop, tAnd, tOr, tNot, tAndV, tOrV, tNotV, tIf, rI, rI0, rU, rIxTH, rIxLH, rEqT, rNeT, rInT, rEq, rNe, scal, CPow, at0, at1, at2, List.map_cons, List.map_nil, List.length_cons, List.length_nil, Nat.reduceSub, Nat.reduceAdd, Nat.zero_add, List.replicate_zero, List.reduceReplicate, List.append_nil, List.nil_append, List.cons_append, List.getElem?_cons_zero, List.getElem?_cons_succ, List.set_cons_zero, List.set_cons_succ, Option.some.injEq, exists_eq_left', exists_eq_left, V.ref.injEq, V.int.injEq, V.bl.injEq, V.str.injEq, V.ty.injEq, HO.tup.injEq, HO.lst.injEq, List.cons.injEq, and_true, true_and, and_assoc, exists_and_left, decide_eq_true_eq, Bool.not_eq_true', decide_eq_false_iff_not, ite_true, ite_false, if_true, if_false, Int.reduceToNat, eq_self_iff_true, ht]
      exact ite2 (fun h => hN _ _ ⟨rfl, by rw [sgo, if_pos h]⟩) (fun h => hN _ _ ⟨rfl, by rw [sgo, if_neg h]⟩)
    rintro _ _ ⟨rfl, rfl⟩
    obtain ⟨ws, hp, aw⟩ := id hW
    have lw := aw.length
    have lW := St.len
    rw [List.length_map] at lw
    simp only [L2.start, Pr, tRev, tD1, tDPop1, tSl, tNoPart, tPart, rSlL, tDIn, tDNotIn, gSub, rSetL, tLst, tDNewK, tComp, L2.stC, tFor_eq, iList, iTup, iRng1, iRng2, iZip, iEnum, iDict, iStr, tChain, tSumV, tBM, rJoin, tJoined, jNil, jLit, jInt, jStr, tRaise, tDGet, tDGet2, tDGet1, sDPut, Option.join_some, List.getElem?_nil,  tSeq, tRet, tRetN, tIfS, tTest, tB, tOp, tUn, tVar, tC, tCB, tCons, tNil, tCall, tTupS, tAsg, gName, gNil, gCons, tPar, tNext, tDrop, tAnd, tOr, tNot, tAndV, tOrV, tNotV, tIf, rI, rI0, rU, rIxTH, rIxLH, rEqT, rNeT, rInT, rEq, rNe, scal, CPow, at0, at1, at2, List.map_cons, List.map_nil, List.length_cons, List.length_nil, Nat.reduceSub, Nat.reduceAdd, Nat.zero_add, List.replicate_zero, List.reduceReplicate, List.append_nil, List.nil_append, List.cons_append, List.getElem?_cons_zero, List.getElem?_cons_succ, List.set_cons_zero, List.set_cons_succ, Option.some.injEq, exists_eq_left', exists_eq_left, V.ref.injEq, V.int.injEq, V.bl.injEq, V.str.injEq, V.ty.injEq, HO.tup.injEq, HO.lst.injEq, List.cons.injEq, and_true, true_and, and_assoc, exists_and_left, decide_eq_true_eq, Bool.not_eq_true', decide_eq_false_iff_not, ite_true, ite_false, if_true, if_false, Int.reduceToNat, eq_self_iff_true, ht, hp]
    refine ⟨⟨_, SqL.of hp⟩, ?_⟩
    have S' : Src (Itl K p) (Same H1) W.length (fun i x H H3 => H3 = H ∧ ws[i]? = some x) := by
      have := src_list (K := K) (a := p) (xs := ws) (Ok := Same H1) (fun H2 s2 => SqL.of (s2 _ _ hp))
      rwa [lw] at this
    refine comp_ints W (fun v => some (Bar.D (v :: rs) (k :: Bar.dn k) * sgo (Bar.D rs (Bar.dn k)))) S' (fun _ _ _ _ h => h.1) (by omega) ?_ ?_
    · rintro i v x ev ⟨_, ex⟩ Y N y1 _
      obtain ⟨r', er', q, rfl, hq⟩ := aw.get ex
      rw [List.getElem?_map, ev] at er'
      cases er'
      have hh := at_head (r := Bar.rowOf v rs k (k + 1)) (by rw [Bar.rowOf_length]; omega)
      rw [show (Bar.rowOf v rs k (k + 1)).headD 0 = Bar.D (v :: rs) (k :: Bar.dn k) from by rw [Bar.rowOf_cons (Nat.lt_succ_self k)]; rfl] at hh
      simp only [L2.start, Pr, tRev, tD1, tDPop1, tSl, tNoPart, tPart, rSlL, tDIn, tDNotIn, gSub, rSetL, tLst, tDNewK, tComp, L2.stC, tFor_eq, iList, iTup, iRng1, iRng2, iZip, iEnum, iDict, iStr, tChain, tSumV, tBM, rJoin, tJoined, jNil, jLit, jInt, jStr, tRaise, tDGet, tDGet2, tDGet1, sDPut, Option.join_some, List.getElem?_nil,  tSeq, tRet, tRetN, tIfS, tTest, tB, tOp, tUn, tVar, tC, tCB, tCons, tNil, tCall, tTupS, tAsg, gName, gNil, gCons, tPar, tNext, tDrop, tAnd, tOr, tNot, tAndV, tOrV, tNotV, tIf, rI, rI0, rU, rIxTH, rIxLH, rEqT, rNeT, rInT, rEq, rNe, scal, CPow, at0, at1, at2, List.map_cons, List.map_nil, List.length_cons, List.length_nil, Nat.reduceSub, Nat.reduceAdd, Nat.zero_add, List.replicate_zero, List.reduceReplicate, List.append_nil, List.nil_append, List.cons_append, List.getElem?_cons_zero, List.getElem?_cons_succ, List.set_cons_zero, List.set_cons_succ, Option.some.injEq, exists_eq_left', exists_eq_left, V.ref.injEq, V.int.injEq, V.bl.injEq, V.str.injEq, V.ty.injEq, HO.tup.injEq, HO.lst.injEq, List.cons.injEq, and_true, true_and, and_assoc, exists_and_left, decide_eq_true_eq, Bool.not_eq_true', decide_eq_false_iff_not, ite_true, ite_false, if_true, if_false, Int.reduceToNat, eq_self_iff_true, tYes, hq, hh]
      exact ⟨sgo_ok, y1 _ rfl⟩
    · intro D n1 n2
      refine ⟨_, same_upd n2 _ _ ht, _, at2, _, rfl, sgo_ok, by decide, fun q H2 s2 nq e2 => kS rs W q D _ St (sm1.trans ((same_upd n2).trans s2)) e2 ?_⟩
      rw [s2 _ _ upd_same, ans_eq St]
theorem sc_column_of : FnScope ["rows", "column"] ["rows", "column"] (defScope (top 13)) := ⟨rfl, rfl, rfl, by decide +kernel, rfl, by decide +kernel, by decide +kernel⟩
theorem ok_col (T : Txt K mg q_NoShare) : Cal P w K mg base (CX1 P w) 1 "column_of" ["rows", "column"] spCol := by
  refine T.d_column_of.cal (fun _ _ _ _ _ _ us hl => match us, hl with | [_, _], _ => rfl) fun f fd F => F.okC sc_column_of (fun vs H Q E h => ?_) (fun cdv A outer s H vs Q E hr h => ?_)
  · obtain ⟨_, _, _, rfl, _⟩ := h; rfl
  · obtain ⟨a, L, c, rfl, ⟨xs, ha, al⟩, n64, hc, kk⟩ := h
    have nd := sc_column_of.nd
    refine ⟨_, (pss_one (ps_ret (pe_comp rfl (N := ["rows", "column"]) (so := defScope (top 13)) (N' := ["row", "column"]) (k := 1) (fr := [1]) rfl rfl ⟨rfl, by decide +kernel, by decide +kernel, by decide +kernel, rfl, by decide +kernel, by decide +kernel⟩ (pi_listK (K := K) (pv 0)) (fun _ _ _ _ _ => (pg_name (i := 0) (show (["row", "column"] : List Str).Nodup by decide +kernel) rfl (Or.inl rfl))) (fun _ _ _ _ _ => pts_nil)
      (fun _ _ _ _ _ => (pe_ix ix_listH (pv 0) (pv 1) (fun _ _ => rfl)))))), ?_⟩
    have sl := sizeLine_eq
    have lx := al.length
    simp only [L2.start, Pr, tRev, tD1, tDPop1, tSl, tNoPart, tPart, rSlL, tDIn, tDNotIn, gSub, rSetL, tLst, tDNewK, tComp, L2.stC, tFor_eq, iList, iTup, iRng1, iRng2, iZip, iEnum, iDict, iStr, tChain, tSumV, tBM, rJoin, tJoined, jNil, jLit, jInt, jStr, tRaise, tDGet, tDGet2, tDGet1, sDPut, Option.join_some, List.getElem?_nil,  tSeq, tRet, tRetN, tIfS, tTest, tB, tOp, tUn, tVar, tC, tCB, tCons, tNil, tCall, tTupS, tAsg, gName, gNil, gCons, tPar, tNext, tDrop, tAnd, tOr, tNot, tAndV, tOrV, tNotV, tIf, rI, rI0, rU, rIxTH, rIxLH, rEqT, rNeT, rInT, rEq, rNe, scal, CPow, at0, at1, at2, List.map_cons, List.map_nil, List.length_cons, List.length_nil, Nat.reduceSub, Nat.reduceAdd, Nat.zero_add, List.replicate_zero, List.reduceReplicate, List.append_nil, List.nil_append, List.cons_append, List.getElem?_cons_zero, List.getElem?_cons_succ, List.set_cons_zero, List.set_cons_succ, Option.some.injEq, exists_eq_left', exists_eq_left, V.ref.injEq, V.int.injEq, V.bl.injEq, V.str.injEq, V.ty.injEq, HO.tup.injEq, HO.lst.injEq, List.cons.injEq, and_true, true_and, and_assoc, exists_and_left, decide_eq_true_eq, Bool.not_eq_true', decide_eq_false_iff_not, ite_true, ite_false, if_true, if_false, Int.reduceToNat, eq_self_iff_true]
    refine ⟨⟨_, SqL.of ha⟩, ?_⟩
    have S : Src (Itl K a) (Same H) L.length (fun i x H H3 => H3 = H ∧ xs[i]? = some x) := by
      have := src_list (K := K) (a := a) (xs := xs) (Ok := Same H) (fun H2 s2 => SqL.of (s2 _ _ ha))
      rwa [lx] at this
    refine comp_ints L (fun r => some (r.getD c 0)) S (fun _ _ _ _ h => h.1) (by omega) ?_ ?_
    · rintro i r x er ⟨_, ex⟩ Y N y1 _
      obtain ⟨r', er', q, rfl, hq⟩ := al.get ex
      rw [er] at er'
      cases er'
      have ai := at_int (hc r (List.mem_of_getElem? er))
      simp only [L2.start, Pr, tRev, tD1, tDPop1, tSl, tNoPart, tPart, rSlL, tDIn, tDNotIn, gSub, rSetL, tLst, tDNewK, tComp, L2.stC, tFor_eq, iList, iTup, iRng1, iRng2, iZip, iEnum, iDict, iStr, tChain, tSumV, tBM, rJoin, tJoined, jNil, jLit, jInt, jStr, tRaise, tDGet, tDGet2, tDGet1, sDPut, Option.join_some, List.getElem?_nil,  tSeq, tRet, tRetN, tIfS, tTest, tB, tOp, tUn, tVar, tC, tCB, tCons, tNil, tCall, tTupS, tAsg, gName, gNil, gCons, tPar, tNext, tDrop, tAnd, tOr, tNot, tAndV, tOrV, tNotV, tIf, rI, rI0, rU, rIxTH, rIxLH, rEqT, rNeT, rInT, rEq, rNe, scal, CPow, at0, at1, at2, List.map_cons, List.map_nil, List.length_cons, List.length_nil, Nat.reduceSub, Nat.reduceAdd, Nat.zero_add, List.replicate_zero, List.reduceReplicate, List.append_nil, List.nil_append, List.cons_append, List.getElem?_cons_zero, List.getElem?_cons_succ, List.set_cons_zero, List.set_cons_succ, Option.some.injEq, exists_eq_left', exists_eq_left, V.ref.injEq, V.int.injEq, V.bl.injEq, V.str.injEq, V.ty.injEq, HO.tup.injEq, HO.lst.injEq, List.cons.injEq, and_true, true_and, and_assoc, exists_and_left, decide_eq_true_eq, Bool.not_eq_true', decide_eq_false_iff_not, ite_true, ite_false, if_true, if_false, Int.reduceToNat, eq_self_iff_true, tYes, hq, ai]
      exact y1 _ rfl
    · intro D n1 n2
      refine kk _ _ (same_upd n2) ?_
      rw [upd_same, show List.filterMap (fun r : List Int => some (r.getD c 0)) L = L.map fun r => r.getD c 0 from by rw [List.filterMap_eq_map']]
theorem sc_turned_rows : FnScope ["rows"] ["rows"] (defScope (top 14)) := ⟨rfl, rfl, rfl, by decide +kernel, rfl, by decide +kernel, by decide +kernel⟩
theorem ok_trn (T : Txt K mg q_NoShare) : Cal P w K mg base (CX1 P w) 2 "turned_rows" ["rows"] spTrn := by
  have c_column_of : Cal P w K mg base (CX1 P w) 1 "column_of" ["rows", "column"] spCol := ok_col T
  refine T.d_turned_rows.cal (fun _ _ _ _ _ _ us hl => match us, hl with | [_], _ => rfl) fun f fd F => F.okC sc_turned_rows (fun vs H Q E h => ?_) (fun cdv A outer s H vs Q E hr h => ?_)
  · obtain ⟨_, _, _, rfl, _⟩ := h; rfl
  · obtain ⟨a, L, n, rfl, hM, sq, n64, kk⟩ := h
    have nd := sc_turned_rows.nd
    refine ⟨_, (pss_one (ps_ret (pe_comp rfl (N := ["rows"]) (so := defScope (top 14)) (N' := ["column", "rows"]) (k := 1) (fr := [0]) rfl rfl ⟨rfl, by decide +kernel, by decide +kernel, by decide +kernel, rfl, by decide +kernel, by decide +kernel⟩ (pi_range1 rfl T.z_range (pa_cons (pe_callB call_lenL (by rfl) T.z_len PySem.boot_len (pa_cons (pv 0) pa_nil (se rfl)) (he := se rfl) (hpl := na rfl)) pa_nil (se rfl))) (fun _ _ _ _ _ => (pg_name (i := 0) (show (["column", "rows"] : List Str).Nodup by decide +kernel) rfl (Or.inl rfl))) (fun _ _ _ _ _ => pts_nil)
      (fun _ _ _ _ _ => (pe_cal c_column_of (hr.mono (by decide)) rfl strictP.pass (pa_cons (pv 1) (pa_cons (pv 0) pa_nil (se rfl)) (se rfl)) (he := se rfl) (hpl := na rfl)))))), ?_⟩
    have sl := sizeLine_eq
    obtain ⟨xs, ha, al⟩ := id hM
    have lx := al.length
    have hl := sq.len
    simp only [L2.start, Pr, tRev, tD1, tDPop1, tSl, tNoPart, tPart, rSlL, tDIn, tDNotIn, gSub, rSetL, tLst, tDNewK, tComp, L2.stC, tFor_eq, iList, iTup, iRng1, iRng2, iZip, iEnum, iDict, iStr, tChain, tSumV, tBM, rJoin, tJoined, jNil, jLit, jInt, jStr, tRaise, tDGet, tDGet2, tDGet1, sDPut, Option.join_some, List.getElem?_nil,  tSeq, tRet, tRetN, tIfS, tTest, tB, tOp, tUn, tVar, tC, tCB, tCons, tNil, tCall, tTupS, tAsg, gName, gNil, gCons, tPar, tNext, tDrop, tAnd, tOr, tNot, tAndV, tOrV, tNotV, tIf, rI, rI0, rU, rIxTH, rIxLH, rEqT, rNeT, rInT, rEq, rNe, scal, CPow, at0, at1, at2, List.map_cons, List.map_nil, List.length_cons, List.length_nil, Nat.reduceSub, Nat.reduceAdd, Nat.zero_add, List.replicate_zero, List.reduceReplicate, List.append_nil, List.nil_append, List.cons_append, List.getElem?_cons_zero, List.getElem?_cons_succ, List.set_cons_zero, List.set_cons_succ, Option.some.injEq, exists_eq_left', exists_eq_left, V.ref.injEq, V.int.injEq, V.bl.injEq, V.str.injEq, V.ty.injEq, HO.tup.injEq, HO.lst.injEq, List.cons.injEq, and_true, true_and, and_assoc, exists_and_left, decide_eq_true_eq, Bool.not_eq_true', decide_eq_false_iff_not, ite_true, ite_false, if_true, if_false, Int.reduceToNat, eq_self_iff_true, ha]
    refine ⟨by omega, by omega, ?_⟩
    rw [show ((xs.length : Int)).toNat = n by omega]
    refine comp_map src_range (fun _ _ _ _ h => by rw [h.1]; exact Same.refl _) (by omega) (fun i y H2 => Rw H2 (L.map fun r : List Int => r.getD i 0) y) (fun i y H2 H3 s3 h => Rw.mono s3 h) ?_ ?_
    · rintro i x w0 H2 H3 Q2 hi s2 ⟨rfl, rfl⟩ kq
      simp only [L2.start, Pr, tRev, tD1, tDPop1, tSl, tNoPart, tPart, rSlL, tDIn, tDNotIn, gSub, rSetL, tLst, tDNewK, tComp, L2.stC, tFor_eq, iList, iTup, iRng1, iRng2, iZip, iEnum, iDict, iStr, tChain, tSumV, tBM, rJoin, tJoined, jNil, jLit, jInt, jStr, tRaise, tDGet, tDGet2, tDGet1, sDPut, Option.join_some, List.getElem?_nil,  tSeq, tRet, tRetN, tIfS, tTest, tB, tOp, tUn, tVar, tC, tCB, tCons, tNil, tCall, tTupS, tAsg, gName, gNil, gCons, tPar, tNext, tDrop, tAnd, tOr, tNot, tAndV, tOrV, tNotV, tIf, rI, rI0, rU, rIxTH, rIxLH, rEqT, rNeT, rInT, rEq, rNe, scal, CPow, at0, at1, at2, List.map_cons, List.map_nil, List.length_cons, List.length_nil, Nat.reduceSub, Nat.reduceAdd, Nat.zero_add, List.replicate_zero, List.reduceReplicate, List.append_nil, List.nil_append, List.cons_append, List.getElem?_cons_zero, List.getElem?_cons_succ, List.set_cons_zero, List.set_cons_succ, Option.some.injEq, exists_eq_left', exists_eq_left, V.ref.injEq, V.int.injEq, V.bl.injEq, V.str.injEq, V.ty.injEq, HO.tup.injEq, HO.lst.injEq, List.cons.injEq, and_true, true_and, and_assoc, exists_and_left, decide_eq_true_eq, Bool.not_eq_true', decide_eq_false_iff_not, ite_true, ite_false, if_true, if_false, Int.reduceToNat, eq_self_iff_true, spCol]
      refine ⟨L, i, Int.zero_add _, hM.mono s2, by omega, fun r hr => by rw [sq.row r hr]; exact hi, fun p H4 s4 h4 => kq _ _ s4 ⟨p, rfl, h4⟩⟩
    · intro ys H2 s2 ly hy D n1 n2
      refine kk _ _ (s2.trans (same_upd n2)) ⟨ys, upd_same, ?_⟩
      refine Al.of (by rw [(Bar.trn_sq sq).len]; exact ly) fun i y r e1 e2 => ?_
      have hi : i < n := by rw [← ly]; exact (List.getElem?_eq_some_iff.mp e1).1
      rw [Bar.trn_get sq hi] at e2
      cases e2
      exact (hy i y e1).mono (same_upd n2)
theorem sc_factors_to_noughts : FnScope ["rows", "done", "factors"] ["rows"] (defScope (top 15)) := ⟨rfl, rfl, rfl, by decide +kernel, rfl, by decide +kernel, by decide +kernel⟩
theorem ok_fac (T : Txt K mg q_NoShare) : Cal P w K mg base (CX1 P w) 3 "factors_to_noughts" ["rows"] spFac := by
  have c_swept : Cal P w K mg base (CX1 P w) 2 "swept" ["rows", "columns"] spSw := ok_sw T
  have c_turned_rows : Cal P w K mg base (CX1 P w) 2 "turned_rows" ["rows"] spTrn := ok_trn T
  refine T.d_factors_to_noughts.cal (fun _ _ _ _ _ _ us hl => match us, hl with | [_], _ => rfl) fun f fd F => F.okC sc_factors_to_noughts (fun vs H Q E h => ?_) (fun cdv A outer s H vs Q E hr h => ?_)
  · obtain ⟨_, _, _, _, rfl, _⟩ := h; rfl
  · obtain ⟨a, L, n, b, rfl, hM, sq, B, cr, kk⟩ := h
    have nd := sc_factors_to_noughts.nd
    refine ⟨_, (pss_cons (ps_set (i := 1) nd rfl (Or.inl rfl) (pe_cal c_swept (hr.mono (by decide)) rfl strictP.pass (pa_cons (pe_cal c_turned_rows (hr.mono (by decide)) rfl strictP.pass (pa_cons (pv 0) pa_nil (se rfl)) (he := se rfl) (hpl := na rfl)) (pa_cons (pe_callB call_lenL (by rfl) T.z_len PySem.boot_len (pa_cons (pv 0) pa_nil (se rfl)) (he := se rfl) (hpl := na rfl)) pa_nil (se rfl)) (se rfl)) (he := se rfl) (hpl := na rfl)))
    (pss_cons (ps_set (i := 2) nd rfl (Or.inl rfl) (pe_op op_cat (pe_comp rfl (N := ["rows", "done", "factors"]) (so := defScope (top 15)) (N' := ["row"]) (k := 1) (fr := []) rfl rfl ⟨rfl, by decide +kernel, by decide +kernel, by decide +kernel, rfl, by decide +kernel, by decide +kernel⟩ (pi_listK (K := K) (pe_slice (sl_listK (K := K)) (pe_ix ix_tupH (pv 1) pe_int (fun _ _ => rfl)) po_none (po_some (pe_ix ix_tupH (pv 1) pe_int (fun _ _ => rfl))))) (fun _ _ _ _ _ => (pg_name (i := 0) (show (["row"] : List Str).Nodup by decide +kernel) rfl (Or.inl rfl))) (fun _ _ _ _ _ => pts_nil)
      (fun _ _ _ _ _ => (pe_un un_neg (pe_ix ix_listH (pv 0) pe_int (fun _ _ => rfl))))) (pe_lst (pa_cons (pe_ix ix_tupH (pv 1) pe_int (fun _ _ => rfl)) pa_nil (se rfl)))))
    (pss_one (ps_ret (pe_op op_cat (pv 2) (pe_op op_rep (pe_lst (pa_cons pe_int pa_nil (se rfl))) (pe_op op_sub (pe_callB call_lenL (by rfl) T.z_len PySem.boot_len (pa_cons (pv 0) pa_nil (se rfl)) (he := se rfl) (hpl := na rfl)) (pe_callB call_lenL (by rfl) T.z_len PySem.boot_len (pa_cons (pv 2) pa_nil (se rfl)) (he := se rfl) (hpl := na rfl))))))))), ?_⟩
    have sl := sizeLine_eq
    obtain ⟨xs, ha, al⟩ := id hM
    have lx := al.length
    have hl := sq.len
    have n64 : n ≤ 64 := B.m64
    change tSeq _ _ _ [some (.ref a), none, none] H
    refine seq_gen (fun σ' H1 => Same H H1 ∧ ∃ t p k rs W, Bar.Stp ((Bar.trn L).map Bar.fo) n k rs W ∧ k < n ∧ Bar.Stuck k rs W ∧ H1 t = some (.tup [.ref p, .int (Nat.cast k), .int (Bar.D rs (Bar.dn k))]) ∧ MtH H1 p (W.map fun v => Bar.rowOf v rs k n) ∧ σ' = [some (.ref a), some (.ref t), none]) ?_ (fun N hN => ?_)
    case refine_2 =>
      simp only [L2.start, Pr, tRev, tD1, tDPop1, tSl, tNoPart, tPart, rSlL, tDIn, tDNotIn, gSub, rSetL, tLst, tDNewK, tComp, L2.stC, tFor_eq, iList, iTup, iRng1, iRng2, iZip, iEnum, iDict, iStr, tChain, tSumV, tBM, rJoin, tJoined, jNil, jLit, jInt, jStr, tRaise, tDGet, tDGet2, tDGet1, sDPut, Option.join_some, List.getElem?_nil,  tSeq, tRet, tRetN, tIfS, tTest, tB, tOp, tUn, tVar, tC, tCB, tCons, tNil, tCall, tTupS, tAsg, gName, gNil, gCons, tPar, tNext, tDrop, tAnd, tOr, tNot, tAndV, tOrV, tNotV, tIf, rI, rI0, rU, rIxTH, rIxLH, rEqT, rNeT, rInT, rEq, rNe, scal, CPow, at0, at1, at2, List.map_cons, List.map_nil, List.length_cons, List.length_nil, Nat.reduceSub, Nat.reduceAdd, Nat.zero_add, List.replicate_zero, List.reduceReplicate, List.append_nil, List.nil_append, List.cons_append, List.getElem?_cons_zero, List.getElem?_cons_succ, List.set_cons_zero, List.set_cons_succ, Option.some.injEq, exists_eq_left', exists_eq_left, V.ref.injEq, V.int.injEq, V.bl.injEq, V.str.injEq, V.ty.injEq, HO.tup.injEq, HO.lst.injEq, List.cons.injEq, and_true, true_and, and_assoc, exists_and_left, decide_eq_true_eq, Bool.not_eq_true', decide_eq_false_iff_not, ite_true, ite_false, if_true, if_false, Int.reduceToNat, eq_self_iff_true, spSw, spTrn]
      refine ⟨L, hM, n, sq, n64, fun p H1 s1 h1 => ⟨_, s1 _ _ ha, Bar.trn L, n, by omega, h1, n, b, B, fun t p2 k rs W H2 St stk s2 h2 h3 => ?_⟩⟩
      have kn : k < n := by
        have := St.le
        by_cases e : k = n
        · subst e
          exact (Bar.turned_no sq cr St).elim
        · omega
      exact hN _ _ ⟨s1.trans s2, t, p2, k, rs, W, St, kn, stk kn, h2, h3, rfl⟩
    rintro _ H1 ⟨sm1, t, p, k, rs, W, St, kn, stk, ht, hW, rfl⟩
    obtain ⟨ws, hp, aw⟩ := id hW
    change tSeq _ _ _ [some (.ref a), some (.ref t), none] H1
    simp only [L2.start, Pr, tRev, tD1, tDPop1, tSl, tNoPart, tPart, rSlL, tDIn, tDNotIn, gSub, rSetL, tLst, tDNewK, tComp, L2.stC, tFor_eq, iList, iTup, iRng1, iRng2, iZip, iEnum, iDict, iStr, tChain, tSumV, tBM, rJoin, tJoined, jNil, jLit, jInt, jStr, tRaise, tDGet, tDGet2, tDGet1, sDPut, Option.join_some, List.getElem?_nil,  tSeq, tRet, tRetN, tIfS, tTest, tB, tOp, tUn, tVar, tC, tCB, tCons, tNil, tCall, tTupS, tAsg, gName, gNil, gCons, tPar, tNext, tDrop, tAnd, tOr, tNot, tAndV, tOrV, tNotV, tIf, rI, rI0, rU, rIxTH, rIxLH, rEqT, rNeT, rInT, rEq, rNe, scal, CPow, at0, at1, at2, List.map_cons, List.map_nil, List.length_cons, List.length_nil, Nat.reduceSub, Nat.reduceAdd, Nat.zero_add, List.replicate_zero, List.reduceReplicate, List.append_nil, List.nil_append, List.cons_append, List.getElem?_cons_zero, List.getElem?_cons_succ, List.set_cons_zero, List.set_cons_succ, Option.some.injEq, exists_eq_left', exists_eq_left, V.ref.injEq, V.int.injEq, V.bl.injEq, V.str.injEq, V.ty.injEq, HO.tup.injEq, HO.lst.injEq, List.cons.injEq, and_true, true_and, and_assoc, exists_and_left, decide_eq_true_eq, Bool.not_eq_true', decide_eq_false_iff_not, ite_true, ite_false, if_true, if_false, Int.reduceToNat, eq_self_iff_true, ht, hp, rCat, rRep]
    have lw := aw.length
    have lW := St.len
    rw [List.length_map] at lw
    have ha1 := sm1 _ _ ha
    refine ⟨_, SqL.of hp, fun p2 np2 => ?_⟩
    have s2 := same_upd (o := .lst (cutV ws none (some (k : Int)))) np2
    have h2 : upd H1 p2 (.lst (cutV ws none (some (k : Int)))) p2 = some (.lst (ws.take k)) := by rw [upd_same, cut_take (by omega), Int.toNat_natCast]
    generalize upd H1 p2 (.lst (cutV ws none (some (k : Int)))) = H2 at *
    refine ⟨⟨_, SqL.of h2⟩, ?_⟩
    have S' : Src (Itl K p2) (Same H2) (List.range k).length (fun i x H H3 => H3 = H ∧ (ws.take k)[i]? = some x) := by
      have := src_list (K := K) (a := p2) (xs := ws.take k) (Ok := Same H2) (fun H2 s2 => SqL.of (s2 _ _ h2))
      rw [List.length_take, Nat.min_eq_left (by omega)] at this
      rwa [List.length_range]
    refine comp_ints (List.range k) (fun i => some (- Bar.D (Bar.ng i :: rs) (k :: Bar.dn k))) S' (fun _ _ _ _ h => h.1) (by rw [List.length_range]; omega) ?_ ?_
    · rintro i j x ej ⟨_, ex⟩ Y N y1 _
      have hi : i < k := by
        have := (List.getElem?_eq_some_iff.mp ej).1
        rwa [List.length_range] at this
      rw [List.getElem?_range hi] at ej
      cases ej
      rw [List.getElem?_take_of_lt hi] at ex
      obtain ⟨r', er', q, rfl, hq⟩ := aw.get ex
      rw [List.getElem?_map, St.own i hi] at er'
      cases er'
      have hh := at_head (r := Bar.rowOf (Bar.ng i) rs k n) (by rw [Bar.rowOf_length]; omega)
      rw [show (Bar.rowOf (Bar.ng i) rs k n).headD 0 = Bar.D (Bar.ng i :: rs) (k :: Bar.dn k) from by rw [Bar.rowOf_cons kn]; rfl] at hh
      simp only [L2.start, Pr, tRev, tD1, tDPop1, tSl, tNoPart, tPart, rSlL, tDIn, tDNotIn, gSub, rSetL, tLst, tDNewK, tComp, L2.stC, tFor_eq, iList, iTup, iRng1, iRng2, iZip, iEnum, iDict, iStr, tChain, tSumV, tBM, rJoin, tJoined, jNil, jLit, jInt, jStr, tRaise, tDGet, tDGet2, tDGet1, sDPut, Option.join_some, List.getElem?_nil,  tSeq, tRet, tRetN, tIfS, tTest, tB, tOp, tUn, tVar, tC, tCB, tCons, tNil, tCall, tTupS, tAsg, gName, gNil, gCons, tPar, tNext, tDrop, tAnd, tOr, tNot, tAndV, tOrV, tNotV, tIf, rI, rI0, rU, rIxTH, rIxLH, rEqT, rNeT, rInT, rEq, rNe, scal, CPow, at0, at1, at2, List.map_cons, List.map_nil, List.length_cons, List.length_nil, Nat.reduceSub, Nat.reduceAdd, Nat.zero_add, List.replicate_zero, List.reduceReplicate, List.append_nil, List.nil_append, List.cons_append, List.getElem?_cons_zero, List.getElem?_cons_succ, List.set_cons_zero, List.set_cons_succ, Option.some.injEq, exists_eq_left', exists_eq_left, V.ref.injEq, V.int.injEq, V.bl.injEq, V.str.injEq, V.ty.injEq, HO.tup.injEq, HO.lst.injEq, List.cons.injEq, and_true, true_and, and_assoc, exists_and_left, decide_eq_true_eq, Bool.not_eq_true', decide_eq_false_iff_not, ite_true, ite_false, if_true, if_false, Int.reduceToNat, eq_self_iff_true, tYes, s2 _ _ hq, hh]
      exact y1 _ rfl
    · intro D n1 n2
      rw [show List.filterMap (fun i => some (- Bar.D (Bar.ng i :: rs) (k :: Bar.dn k))) (List.range k) = (List.range k).map fun i => - Bar.D (Bar.ng i :: rs) (k :: Bar.dn k) from by rw [List.filterMap_eq_map']]
      have s3 := same_upd (o := .lst (List.map V.int ((List.range k).map fun i => - Bar.D (Bar.ng i :: rs) (k :: Bar.dn k)))) n2
      have h3 : upd H2 D (.lst (List.map V.int ((List.range k).map fun i => - Bar.D (Bar.ng i :: rs) (k :: Bar.dn k)))) D = some (.lst (List.map V.int ((List.range k).map fun i => - Bar.D (Bar.ng i :: rs) (k :: Bar.dn k)))) := upd_same
      generalize upd H2 D (.lst (List.map V.int ((List.range k).map fun i => - Bar.D (Bar.ng i :: rs) (k :: Bar.dn k)))) = H3 at *
      refine ⟨_, s3 _ _ (s2 _ _ ht), _, at2, by decide, fun m4 n4 => ⟨_, same_upd n4 _ _ h3, _, upd_same, by simp only [List.length_map, List.length_range, List.length_cons, List.length_nil]; omega, fun f5 n5 => ⟨by decide, fun m6 n6 => ?_⟩⟩⟩
      have s4 := same_upd (o := .lst [V.int (Bar.D rs (Bar.dn k))]) n4
      generalize upd H3 m4 (.lst [V.int (Bar.D rs (Bar.dn k))]) = H4 at *
      have s5 := same_upd (o := .lst (List.map V.int ((List.range k).map fun i => - Bar.D (Bar.ng i :: rs) (k :: Bar.dn k)) ++ [V.int (Bar.D rs (Bar.dn k))])) n5
      have h5 : upd H4 f5 (.lst (List.map V.int ((List.range k).map fun i => - Bar.D (Bar.ng i :: rs) (k :: Bar.dn k)) ++ [V.int (Bar.D rs (Bar.dn k))])) f5 = some (.lst (List.map V.int ((List.range k).map fun i => - Bar.D (Bar.ng i :: rs) (k :: Bar.dn k)) ++ [V.int (Bar.D rs (Bar.dn k))])) := upd_same
      generalize upd H4 f5 (.lst (List.map V.int ((List.range k).map fun i => - Bar.D (Bar.ng i :: rs) (k :: Bar.dn k)) ++ [V.int (Bar.D rs (Bar.dn k))])) = H5 at *
      have s6 := same_upd (o := .lst [V.int 0]) n6
      have h6 : upd H5 m6 (.lst [V.int 0]) m6 = some (.lst [V.int 0]) := upd_same
      generalize upd H5 m6 (.lst [V.int 0]) = H6 at *
      have u6 : Same H1 H6 := s2.trans (s3.trans (s4.trans (s5.trans s6)))
      have ef : Bar.facs k n rs = ((List.range k).map fun i => - Bar.D (Bar.ng i :: rs) (k :: Bar.dn k)) ++ [Bar.D rs (Bar.dn k)] ++ List.replicate (n - (k + 1)) 0 := rfl
      have l5 : (List.map V.int ((List.range k).map fun i => - Bar.D (Bar.ng i :: rs) (k :: Bar.dn k)) ++ [V.int (Bar.D rs (Bar.dn k))]).length = k + 1 := by simp
      generalize ((List.range k).map fun i => - Bar.D (Bar.ng i :: rs) (k :: Bar.dn k)) = G at *
      have ez : ((xs.length : Int) - ((k + 1 : Nat) : Int)).toNat = n - (k + 1) := by omega
      refine ⟨_, u6 _ _ ha1, _, s6 _ _ h5, _, h6, by rw [l5]; omega, by rw [l5]; omega, by rw [l5, ez]; simp only [List.length_cons, List.length_nil]; omega, fun p7 n7 => ⟨_, same_upd n7 _ _ (s6 _ _ h5), _, upd_same, by rw [l5, ez, len_rep]; simp only [List.length_cons, List.length_nil]; omega, fun p8 n8 => kk k rs W p8 _ St kn stk (sm1.trans (u6.trans ((same_upd n7).trans (same_upd n8)))) ?_⟩⟩
      rw [upd_same, l5, ez, ef, List.map_append, List.map_append, List.map_replicate, List.flatten_replicate_singleton]
      rfl
theorem sc_solved : FnScope ["rows", "right", "answers"] ["rows", "right"] (defScope (top 16)) := ⟨rfl, rfl, rfl, by decide +kernel, rfl, by decide +kernel, by decide +kernel⟩
theorem ok_so (T : Txt K mg q_NoShare) : Cal P w K mg base (CX1 P w) 4 "solved" ["rows", "right"] spSo := by
  have c_share : Cal P w K mg base (CX1 P w) 2 "share" ["top", "bottom"] (spSh q_NoShare) := ok_sh T
  have c_whole_answers : Cal P w K mg base (CX1 P w) 3 "whole_answers" ["rows", "right"] spWA := ok_wa T
  have c_factors_to_noughts : Cal P w K mg base (CX1 P w) 3 "factors_to_noughts" ["rows"] spFac := ok_fac T
  refine T.d_solved.cal (fun _ _ _ _ _ _ us hl => match us, hl with | [_, _], _ => rfl) fun f fd F => F.okC sc_solved (fun vs H Q E h => ?_) (fun cdv A outer s H vs Q E hr h => ?_)
  · obtain ⟨_, _, _, _, _, _, rfl, _⟩ := h; rfl
  · obtain ⟨a, c, L, S, n, b, rfl, hM, hc, lS, sq, B1, B2, kB, kO⟩ := h
    have nd := sc_solved.nd
    refine ⟨_, (pss_cons (ps_set (i := 2) nd rfl (Or.inr rfl) (pe_cal c_whole_answers (hr.mono (by decide)) rfl strictP.pass (pa_cons (pv 0) (pa_cons (pv 1) pa_nil (se rfl)) (se rfl)) (he := se rfl) (hpl := na rfl)))
    (pss_cons (ps_if (pt_cmpR op_isN (pv 2) pe_non (nomark _)) (pss_one (ps_ret (pe_tupS (pa_cons pe_str (pa_cons (pe_cal c_factors_to_noughts (hr.mono (by decide)) rfl strictP.pass (pa_cons (pv 0) pa_nil (se rfl)) (he := se rfl) (hpl := na rfl)) pa_nil (se rfl)) (se rfl)))))
      pss_nil)
    (pss_one (ps_ret (pe_tupS (pa_cons pe_str (pa_cons (pe_comp rfl (N := ["rows", "right", "answers"]) (so := defScope (top 16)) (N' := ["top", "answers"]) (k := 1) (fr := [2]) rfl rfl ⟨rfl, by decide +kernel, by decide +kernel, by decide +kernel, rfl, by decide +kernel, by decide +kernel⟩ (pi_listK (K := K) (pe_ix ix_tupH (pv 2) pe_int (fun _ _ => rfl))) (fun _ _ _ _ _ => (pg_name (i := 0) (show (["top", "answers"] : List Str).Nodup by decide +kernel) rfl (Or.inl rfl))) (fun _ _ _ _ _ => pts_nil)
      (fun _ _ _ _ _ => (pe_cal c_share (hr.mono (by decide)) rfl strictP.pass (pa_cons (pv 0) (pa_cons (pe_ix ix_tupH (pv 1) pe_int (fun _ _ => rfl)) pa_nil (se rfl)) (se rfl)) (he := se rfl) (hpl := na rfl)))) pa_nil (se rfl)) (se rfl))))))), ?_⟩
    have sl := sizeLine_eq
    have n64 := B1.m64
    subst lS
    have lS : S.length = S.length := rfl
    change tSeq _ _ _ [some (.ref a), some (.ref c), none] H
    refine seq_gen (fun σ' H1 => Same H H1 ∧ ((Bar.ColRel L S.length ∧ σ' = [some (.ref a), some (.ref c), some .non]) ∨ ∃ x d t p, Sol L S S.length x d ∧ ¬ Bar.ColRel L S.length ∧ H1 t = some (.tup [.ref p, .int d]) ∧ H1 p = some (.lst (List.map V.int x)) ∧ σ' = [some (.ref a), some (.ref c), some (.ref t)])) ?_ (fun N hN => ?_)
    case refine_2 =>
      simp only [L2.start, Pr, tRev, tD1, tDPop1, tSl, tNoPart, tPart, rSlL, tDIn, tDNotIn, gSub, rSetL, tLst, tDNewK, tComp, L2.stC, tFor_eq, iList, iTup, iRng1, iRng2, iZip, iEnum, iDict, iStr, tChain, tSumV, tBM, rJoin, tJoined, jNil, jLit, jInt, jStr, tRaise, tDGet, tDGet2, tDGet1, sDPut, Option.join_some, List.getElem?_nil,  tSeq, tRet, tRetN, tIfS, tTest, tB, tOp, tUn, tVar, tC, tCB, tCons, tNil, tCall, tTupS, tAsg, gName, gNil, gCons, tPar, tNext, tDrop, tAnd, tOr, tNot, tAndV, tOrV, tNotV, tIf, rI, rI0, rU, rIxTH, rIxLH, rEqT, rNeT, rInT, rEq, rNe, scal, CPow, at0, at1, at2, List.map_cons, List.map_nil, List.length_cons, List.length_nil, Nat.reduceSub, Nat.reduceAdd, Nat.zero_add, List.replicate_zero, List.reduceReplicate, List.append_nil, List.nil_append, List.cons_append, List.getElem?_cons_zero, List.getElem?_cons_succ, List.set_cons_zero, List.set_cons_succ, Option.some.injEq, exists_eq_left', exists_eq_left, V.ref.injEq, V.int.injEq, V.bl.injEq, V.str.injEq, V.ty.injEq, HO.tup.injEq, HO.lst.injEq, List.cons.injEq, and_true, true_and, and_assoc, exists_and_left, decide_eq_true_eq, Bool.not_eq_true', decide_eq_false_iff_not, ite_true, ite_false, if_true, if_false, Int.reduceToNat, eq_self_iff_true, spWA]
      refine ⟨L, hM, S, hc, sq, b, B1, fun k rs W H1 St kn stk s1 => hN _ _ ⟨s1, .inl ⟨Bar.stuck_col sq lS St kn stk, rfl⟩⟩, fun rs W t p H1 St s1 h1 h2 => hN _ _ ⟨s1, .inr ⟨_, _, t, p, sol_of sq lS B1 St, fun h => Bar.no_col sq lS h St, h1, h2, rfl⟩⟩⟩
    rintro _ H1 ⟨sm1, ⟨cr, rfl⟩ | ⟨x, d, t, p, so, nc, ht, hp, rfl⟩⟩
    · simp only [L2.start, Pr, tRev, tD1, tDPop1, tSl, tNoPart, tPart, rSlL, tDIn, tDNotIn, gSub, rSetL, tLst, tDNewK, tComp, L2.stC, tFor_eq, iList, iTup, iRng1, iRng2, iZip, iEnum, iDict, iStr, tChain, tSumV, tBM, rJoin, tJoined, jNil, jLit, jInt, jStr, tRaise, tDGet, tDGet2, tDGet1, sDPut, Option.join_some, List.getElem?_nil,  tSeq, tRet, tRetN, tIfS, tTest, tB, tOp, tUn, tVar, tC, tCB, tCons, tNil, tCall, tTupS, tAsg, gName, gNil, gCons, tPar, tNext, tDrop, tAnd, tOr, tNot, tAndV, tOrV, tNotV, tIf, rI, rI0, rU, rIxTH, rIxLH, rEqT, rNeT, rInT, rEq, rNe, scal, CPow, at0, at1, at2, List.map_cons, List.map_nil, List.length_cons, List.length_nil, Nat.reduceSub, Nat.reduceAdd, Nat.zero_add, List.replicate_zero, List.reduceReplicate, List.append_nil, List.nil_append, List.cons_append, List.getElem?_cons_zero, List.getElem?_cons_succ, List.set_cons_zero, List.set_cons_succ, Option.some.injEq, exists_eq_left', exists_eq_left, V.ref.injEq, V.int.injEq, V.bl.injEq, V.str.injEq, V.ty.injEq, HO.tup.injEq, HO.lst.injEq, List.cons.injEq, and_true, true_and, and_assoc, exists_and_left, decide_eq_true_eq, Bool.not_eq_true', decide_eq_false_iff_not, ite_true, ite_false, if_true, if_false, Int.reduceToNat, eq_self_iff_true, spFac]
      refine ⟨L, hM.mono sm1, S.length, sq, b, B2, cr, fun k rs W p H2 St kn stk s2 h2 => ⟨by decide, fun t H3 s3 nt e3 => kB cr t p _ _ (sm1.trans (s2.trans s3)) e3 (s3 _ _ h2) (Bar.facs_len kn rs) (Bar.facs_ne kn St.good) (fun j hj => Bar.facs_rel sq St kn stk hj) ?_⟩⟩
      have bU := Bar.fo_bd B2.bd
      have lt := B2.top
      intro f hf
      unfold Bar.facs at hf
      rcases List.mem_append.mp hf with hf | hf
      · rcases List.mem_append.mp hf with hf | hf
        · obtain ⟨i, hi, rfl⟩ := List.mem_map.mp hf
          have hi := List.mem_range.mp hi
          have hm : Bar.ng i ∈ W := List.mem_of_getElem? (St.own i hi)
          have := St.bdD B2.b1 bU hm (by omega) k
          exact Bt.mono (m := 4000) (Bt.neg (Nat.lt_of_le_of_lt this lt)) (by decide)
        · rw [List.mem_singleton.mp hf]
          exact Bt.mono (m := 4000) (Nat.lt_of_le_of_lt (St.bdd B2.b1 bU) lt) (by decide)
      · rw [(List.mem_replicate.mp hf).2]
        exact Bt.of 0 (by decide) (by decide) (Nat.pow_pos (by decide))
    · have lx := so.len
      simp only [L2.start, Pr, tRev, tD1, tDPop1, tSl, tNoPart, tPart, rSlL, tDIn, tDNotIn, gSub, rSetL, tLst, tDNewK, tComp, L2.stC, tFor_eq, iList, iTup, iRng1, iRng2, iZip, iEnum, iDict, iStr, tChain, tSumV, tBM, rJoin, tJoined, jNil, jLit, jInt, jStr, tRaise, tDGet, tDGet2, tDGet1, sDPut, Option.join_some, List.getElem?_nil,  tSeq, tRet, tRetN, tIfS, tTest, tB, tOp, tUn, tVar, tC, tCB, tCons, tNil, tCall, tTupS, tAsg, gName, gNil, gCons, tPar, tNext, tDrop, tAnd, tOr, tNot, tAndV, tOrV, tNotV, tIf, rI, rI0, rU, rIxTH, rIxLH, rEqT, rNeT, rInT, rEq, rNe, scal, CPow, at0, at1, at2, List.map_cons, List.map_nil, List.length_cons, List.length_nil, Nat.reduceSub, Nat.reduceAdd, Nat.zero_add, List.replicate_zero, List.reduceReplicate, List.append_nil, List.nil_append, List.cons_append, List.getElem?_cons_zero, List.getElem?_cons_succ, List.set_cons_zero, List.set_cons_succ, Option.some.injEq, exists_eq_left', exists_eq_left, V.ref.injEq, V.int.injEq, V.bl.injEq, V.str.injEq, V.ty.injEq, HO.tup.injEq, HO.lst.injEq, List.cons.injEq, and_true, true_and, and_assoc, exists_and_left, decide_eq_true_eq, Bool.not_eq_true', decide_eq_false_iff_not, ite_true, ite_false, if_true, if_false, Int.reduceToNat, eq_self_iff_true, ht, hp]
      rw [if_neg (by simp)]
      refine ⟨⟨_, SqL.of hp⟩, ?_⟩
      refine comp_map (src_list (fun H2 s2 => SqL.of (s2 _ _ hp))) (fun _ _ _ _ h => by rw [h.1]; exact Same.refl _) (by rw [List.length_map]; omega) (fun i y H2 => ∀ v, x[i]? = some v → ShR H2 d v y) (fun i y H2 H3 s3 h v e => (h v e).mono s3) ?_ ?_
      · rintro i u w0 H2 H3 Q2 hi s2 ⟨rfl, eu⟩ kq
        rw [List.getElem?_map] at eu
        obtain ⟨v, ev, rfl⟩ := Option.map_eq_some_iff.mp eu
        have d0 := so.pos
        simp only [L2.start, Pr, tRev, tD1, tDPop1, tSl, tNoPart, tPart, rSlL, tDIn, tDNotIn, gSub, rSetL, tLst, tDNewK, tComp, L2.stC, tFor_eq, iList, iTup, iRng1, iRng2, iZip, iEnum, iDict, iStr, tChain, tSumV, tBM, rJoin, tJoined, jNil, jLit, jInt, jStr, tRaise, tDGet, tDGet2, tDGet1, sDPut, Option.join_some, List.getElem?_nil,  tSeq, tRet, tRetN, tIfS, tTest, tB, tOp, tUn, tVar, tC, tCB, tCons, tNil, tCall, tTupS, tAsg, gName, gNil, gCons, tPar, tNext, tDrop, tAnd, tOr, tNot, tAndV, tOrV, tNotV, tIf, rI, rI0, rU, rIxTH, rIxLH, rEqT, rNeT, rInT, rEq, rNe, scal, CPow, at0, at1, at2, List.map_cons, List.map_nil, List.length_cons, List.length_nil, Nat.reduceSub, Nat.reduceAdd, Nat.zero_add, List.replicate_zero, List.reduceReplicate, List.append_nil, List.nil_append, List.cons_append, List.getElem?_cons_zero, List.getElem?_cons_succ, List.set_cons_zero, List.set_cons_succ, Option.some.injEq, exists_eq_left', exists_eq_left, V.ref.injEq, V.int.injEq, V.bl.injEq, V.str.injEq, V.ty.injEq, HO.tup.injEq, HO.lst.injEq, List.cons.injEq, and_true, true_and, and_assoc, exists_and_left, decide_eq_true_eq, Bool.not_eq_true', decide_eq_false_iff_not, ite_true, ite_false, if_true, if_false, Int.reduceToNat, eq_self_iff_true, spSh, s2 _ _ ht]
        refine ⟨so.bd.mono (by decide), fun z => absurd z (by omega), fun _ q H4 s4 nq e4 => kq _ _ s4 fun v' ev' => ?_⟩
        rw [ev] at ev'
        cases ev'
        exact ⟨q, rfl, e4⟩
      · intro ys H2 s2 ly hy D n1 n2
        rw [List.length_map] at ly
        refine ⟨by decide, fun t2 H3 s3 nt e3 => kO x d t2 D ys _ so nc (sm1.trans (s2.trans ((same_upd n2).trans s3))) e3 (none_of sm1 n1) (s3 _ _ upd_same) (Al.of ly fun i y v e1 e2 => (hy i y e1 v e2).mono ((same_upd n2).trans s3))⟩
theorem sc__law_cell : FnScope ["_law_script", "_law_k"] ["_law_script", "_law_k"] (defScope (top 18)) := ⟨rfl, rfl, rfl, by decide +kernel, rfl, by decide +kernel, by decide +kernel⟩
theorem ok_cell (T : Txt K mg q_NoShare) : Cal P w K mg base (CX1 P w) 1 "_law_cell" ["_law_script", "_law_k"] (spC K) := by
  refine T.d__law_cell.cal (fun _ _ _ _ _ _ us hl => match us, hl with | [_, _], _ => rfl) fun f fd F => F.okC sc__law_cell (fun vs H Q E h => ?_) (fun cdv A outer s H vs Q E hr h => ?_)
  · obtain ⟨_, _, _, rfl, _⟩ := h; rfl
  · obtain ⟨a, ns, k, rfl, hS, k0, k1, kk⟩ := h
    have nd := sc__law_cell.nd
    refine ⟨_, (pss_cons (ps_if (pt_cmpR op_lt (pv 1) (pe_callB (call_lenQK (K := K)) (by rfl) T.z_len PySem.boot_len (pa_cons (pv 0) pa_nil (se rfl)) (he := se rfl) (hpl := na rfl)) (nomark _)) (pss_one (ps_ret (pe_ix (ix_listSK (K := K)) (pv 0) (pv 1) (fun _ _ => rfl))))
      pss_nil)
    (pss_cons (ps_if (pt_cmpR op_eq (pe_callB (call_lenQK (K := K)) (by rfl) T.z_len PySem.boot_len (pa_cons (pv 0) pa_nil (se rfl)) (he := se rfl) (hpl := na rfl)) pe_int (nomark _)) (pss_one (ps_ret (pe_op op_add (pe_op op_mulB (pe_op op_mulB (pv 1) (pv 1)) pe_int) pe_int)))
      pss_nil)
    (pss_one (ps_ret (pe_op op_add (pe_op op_mulB (pe_op op_modB (pe_ix (ix_listSK (K := K)) (pv 0) (pe_op op_modB (pe_op op_mulB (pv 1) pe_int) (pe_callB (call_lenQK (K := K)) (by rfl) T.z_len PySem.boot_len (pa_cons (pv 0) pa_nil (se rfl)) (he := se rfl) (hpl := na rfl))) (fun _ _ => rfl)) pe_int) pe_int) (pe_op op_mulB (pe_op op_mulB (pv 1) (pv 1)) pe_int)))))), ?_⟩
    simp only [L2.start, Pr, tRev, tD1, tDPop1, tSl, tNoPart, tPart, rSlL, tDIn, tDNotIn, gSub, rSetL, tLst, tDNewK, tComp, L2.stC, tFor_eq, iList, iTup, iRng1, iRng2, iZip, iEnum, iDict, iStr, tChain, tSumV, tBM, rJoin, tJoined, jNil, jLit, jInt, jStr, tRaise, tDGet, tDGet2, tDGet1, sDPut, Option.join_some, List.getElem?_nil,  tSeq, tRet, tRetN, tIfS, tTest, tB, tOp, tUn, tVar, tC, tCB, tCons, tNil, tCall, tTupS, tAsg, gName, gNil, gCons, tPar, tNext, tDrop, tAnd, tOr, tNot, tAndV, tOrV, tNotV, tIf, rI, rI0, rU, rIxTH, rIxLH, rEqT, rNeT, rInT, rEq, rNe, scal, CPow, at0, at1, at2, List.map_cons, List.map_nil, List.length_cons, List.length_nil, Nat.reduceSub, Nat.reduceAdd, Nat.zero_add, List.replicate_zero, List.reduceReplicate, List.append_nil, List.nil_append, List.cons_append, List.getElem?_cons_zero, List.getElem?_cons_succ, List.set_cons_zero, List.set_cons_succ, Option.some.injEq, exists_eq_left', exists_eq_left, V.ref.injEq, V.int.injEq, V.bl.injEq, V.str.injEq, V.ty.injEq, HO.tup.injEq, HO.lst.injEq, List.cons.injEq, and_true, true_and, and_assoc, exists_and_left, decide_eq_true_eq, Bool.not_eq_true', decide_eq_false_iff_not, ite_true, ite_false, if_true, if_false, Int.reduceToNat, eq_self_iff_true, rIxQ]
    refine ⟨ns, hS, ite2 (fun c => ⟨ns, hS, k0, c, kk _⟩) (fun c => ⟨ns, hS, ite2 (fun z => ⟨mulOkL (by omega) (by omega), mulOkR, kk _⟩) (fun z => ?_)⟩)⟩
    have zp : (0 : Int) < (ns.length : Int) := by omega
    exact ⟨mulOkR, ns, hS, zp, ns, hS, Int.emod_nonneg _ (by omega), Int.emod_lt_of_pos _ zp, by decide, mulOkR, mulOkL (by omega) (by omega), mulOkR, kk _⟩
theorem sc__law_mixed : FnScope ["_law_script", "_law_k", "_law_j"] ["_law_script", "_law_k", "_law_j"] (defScope (top 19)) := ⟨rfl, rfl, rfl, by decide +kernel, rfl, by decide +kernel, by decide +kernel⟩
theorem ok_mx (T : Txt K mg q_NoShare) : Cal P w K mg base (CX1 P w) 2 "_law_mixed" ["_law_script", "_law_k", "_law_j"] (spMx K) := by
  have c__law_cell : Cal P w K mg base (CX1 P w) 1 "_law_cell" ["_law_script", "_law_k"] (spC K) := ok_cell T
  refine T.d__law_mixed.cal (fun _ _ _ _ _ _ us hl => match us, hl with | [_, _, _], _ => rfl) fun f fd F => F.okC sc__law_mixed (fun vs H Q E h => ?_) (fun cdv A outer s H vs Q E hr h => ?_)
  · obtain ⟨_, _, _, _, rfl, _⟩ := h; rfl
  · obtain ⟨a, ns, k, j, rfl, hS, k0, k1, j0, j1, kk⟩ := h
    have nd := sc__law_mixed.nd
    refine ⟨_, (pss_one (ps_ret (pe_op op_modB (pe_op op_mulB (pe_op op_add (pe_op op_modB (pe_cal c__law_cell (hr.mono (by decide)) rfl strictP.pass (pa_cons (pv 0) (pa_cons (pv 1) pa_nil (se rfl)) (se rfl)) (he := se rfl) (hpl := na rfl)) pe_int) (pe_op op_mulB pe_int (pv 2))) pe_int) pe_int))), ?_⟩
    simp only [L2.start, Pr, tRev, tD1, tDPop1, tSl, tNoPart, tPart, rSlL, tDIn, tDNotIn, gSub, rSetL, tLst, tDNewK, tComp, L2.stC, tFor_eq, iList, iTup, iRng1, iRng2, iZip, iEnum, iDict, iStr, tChain, tSumV, tBM, rJoin, tJoined, jNil, jLit, jInt, jStr, tRaise, tDGet, tDGet2, tDGet1, sDPut, Option.join_some, List.getElem?_nil,  tSeq, tRet, tRetN, tIfS, tTest, tB, tOp, tUn, tVar, tC, tCB, tCons, tNil, tCall, tTupS, tAsg, gName, gNil, gCons, tPar, tNext, tDrop, tAnd, tOr, tNot, tAndV, tOrV, tNotV, tIf, rI, rI0, rU, rIxTH, rIxLH, rEqT, rNeT, rInT, rEq, rNe, scal, CPow, at0, at1, at2, List.map_cons, List.map_nil, List.length_cons, List.length_nil, Nat.reduceSub, Nat.reduceAdd, Nat.zero_add, List.replicate_zero, List.reduceReplicate, List.append_nil, List.nil_append, List.cons_append, List.getElem?_cons_zero, List.getElem?_cons_succ, List.set_cons_zero, List.set_cons_succ, Option.some.injEq, exists_eq_left', exists_eq_left, V.ref.injEq, V.int.injEq, V.bl.injEq, V.str.injEq, V.ty.injEq, HO.tup.injEq, HO.lst.injEq, List.cons.injEq, and_true, true_and, and_assoc, exists_and_left, decide_eq_true_eq, Bool.not_eq_true', decide_eq_false_iff_not, ite_true, ite_false, if_true, if_false, Int.reduceToNat, eq_self_iff_true, spC]
    refine ⟨ns, hS, k0, k1, fun n => ?_⟩
    have m0 := Int.emod_nonneg n (show (2147483629 : Int) ≠ 0 by decide)
    have m1 := Int.emod_lt_of_pos n (show (0 : Int) < 2147483629 by decide)
    exact ⟨by decide, mulOkL, mulOkR, by decide, kk _ (Int.emod_nonneg _ (by decide)) (Int.emod_lt_of_pos _ (by decide))⟩
theorem sc__law_rows : FnScope ["_law_script", "_law_n", "_law_rows_here", "_law_k", "_law_row", "_law_j", "_law_factor"] ["_law_script", "_law_n"] (defScope (top 20)) := ⟨rfl, rfl, rfl, by decide +kernel, rfl, by decide +kernel, by decide +kernel⟩
theorem ok_rws (T : Txt K mg q_NoShare) : Cal P w K mg base (CX1 P w) 3 "_law_rows" ["_law_script", "_law_n"] (spRws K) := by
  have c__law_cell : Cal P w K mg base (CX1 P w) 1 "_law_cell" ["_law_script", "_law_k"] (spC K) := ok_cell T
  have c__law_mixed : Cal P w K mg base (CX1 P w) 2 "_law_mixed" ["_law_script", "_law_k", "_law_j"] (spMx K) := ok_mx T
  refine T.d__law_rows.cal (fun _ _ _ _ _ _ us hl => match us, hl with | [_, _], _ => rfl) fun f fd F => F.okC sc__law_rows (fun vs H Q E h => ?_) (fun cdv A outer s H vs Q E hr h => ?_)
  · obtain ⟨_, _, _, rfl, _⟩ := h; rfl
  · obtain ⟨a, ns, n, rfl, hS, n1, n5, kk⟩ := h
    have nd := sc__law_rows.nd
    refine ⟨_, (pss_cons (ps_set (i := 2) nd rfl (Or.inl rfl) (pe_lst pa_nil))
    (pss_cons (ps_for PassesOwn.never rfl (pi_range1 rfl T.z_range (pa_cons (pv 1) pa_nil (se rfl))) (pg_name (i := 3) nd rfl (Or.inl rfl)) (pss_cons (ps_set (i := 4) nd rfl (Or.inl rfl) (pe_op op_rep (pe_lst (pa_cons pe_int pa_nil (se rfl))) (pv 1)))
    (pss_cons (ps_for PassesOwn.never rfl (pi_range2 rfl T.z_range (pa_cons (pv 3) (pa_cons (pv 1) pa_nil (se rfl)) (se rfl))) (pg_name (i := 5) nd rfl (Or.inl rfl)) (pss_one (ps_asg (pe_op op_sub (pe_op op_modB (pe_op op_fdivB (pe_cal c__law_mixed (hr.mono (by decide)) rfl strictP.pass (pa_cons (pv 0) (pa_cons (pe_op op_add pe_int (pv 3)) (pa_cons (pv 5) pa_nil (se rfl)) (se rfl)) (se rfl)) (he := se rfl) (hpl := na rfl)) pe_int) pe_int) pe_int) (pg_sub (pv 4) (pv 5) set_list))))
    (pss_cons (ps_if (pt_cmpR op_eq (pe_ix ix_listH (pv 4) (pv 3) (fun _ _ => rfl)) pe_int (nomark _)) (pss_one (ps_asg (pe_op op_add (pv 3) pe_int) (pg_sub (pv 4) (pv 3) set_list)))
      pss_nil)
    (pss_one (ps_expr (pe_bm PySem.F.plainAttrs_list PySem.F.slot_list_append PySem.F.type_list_append mt_append.r (pv 2) (pa_cons (pv 4) pa_nil (se rfl)))))))))
    (pss_cons (ps_for PassesOwn.never rfl (pi_range2 rfl T.z_range (pa_cons pe_int (pa_cons (pv 1) pa_nil (se rfl)) (se rfl))) (pg_name (i := 3) nd rfl (Or.inl rfl)) (pss_cons (ps_set (i := 6) nd rfl (Or.inr rfl) (pe_op op_sub (pe_op op_modB (pe_op op_fdivB (pe_cal c__law_mixed (hr.mono (by decide)) rfl strictP.pass (pa_cons (pv 0) (pa_cons (pe_op op_add pe_int (pv 3)) (pa_cons (pv 3) pa_nil (se rfl)) (se rfl)) (se rfl)) (he := se rfl) (hpl := na rfl)) pe_int) pe_int) pe_int))
    (pss_one (ps_asg (pe_comp rfl (N := ["_law_script", "_law_n", "_law_rows_here", "_law_k", "_law_row", "_law_j", "_law_factor"]) (so := defScope (top 20)) (N' := ["_law_a", "_law_b", "_law_factor"]) (k := 2) (fr := [6]) rfl rfl ⟨rfl, by decide +kernel, by decide +kernel, by decide +kernel, rfl, by decide +kernel, by decide +kernel⟩ (pi_zipK (K := K) rfl T.z_zip (pa_cons (pe_ix ix_listH (pv 2) (pv 3) (fun _ _ => rfl)) (pa_cons (pe_ix ix_listH (pv 2) (pe_op op_modB (pe_cal c__law_cell (hr.mono (by decide)) rfl strictP.pass (pa_cons (pv 0) (pa_cons (pe_op op_add pe_int (pv 3)) pa_nil (se rfl)) (se rfl)) (he := se rfl) (hpl := na rfl)) (pv 3)) (fun _ _ => rfl)) pa_nil (se rfl)) (se rfl))) (fun _ _ _ _ _ => (pg_tupK (K := K) (n := 2) rfl (pgs_cons (pg_name (i := 0) (show (["_law_a", "_law_b", "_law_factor"] : List Str).Nodup by decide +kernel) rfl (Or.inl rfl)) (pgs_cons (pg_name (i := 1) (show (["_law_a", "_law_b", "_law_factor"] : List Str).Nodup by decide +kernel) rfl (Or.inl rfl)) pgs_nil)))) (fun _ _ _ _ _ => pts_nil)
      (fun _ _ _ _ _ => (pe_op op_add (pv 0) (pe_op op_mulB (pv 2) (pv 1))))) (pg_sub (pv 2) (pv 3) set_list)))))
    (pss_one (ps_ret (pv 2)))))), ?_⟩
    have sl := sizeLine_eq
    change tSeq _ _ _ [some (.ref a), some (.int (n : Int)), none, none, none, none, none] H
    refine seq_gen (fun σ' H1 => Same H H1 ∧ ∃ lf, H lf = none ∧ H1 lf = some (.lst []) ∧ σ' = [some (.ref a), some (.int (n : Int)), some (.ref lf), none, none, none, none]) ?_ (fun N hN => ?_)
    case refine_2 =>
      simp only [L2.start, Pr, tRev, tD1, tDPop1, tSl, tNoPart, tPart, rSlL, tDIn, tDNotIn, gSub, rSetL, tLst, tDNewK, tComp, L2.stC, tFor_eq, iList, iTup, iRng1, iRng2, iZip, iEnum, iDict, iStr, tChain, tSumV, tBM, rJoin, tJoined, jNil, jLit, jInt, jStr, tRaise, tDGet, tDGet2, tDGet1, sDPut, Option.join_some, List.getElem?_nil,  tSeq, tRet, tRetN, tIfS, tTest, tB, tOp, tUn, tVar, tC, tCB, tCons, tNil, tCall, tTupS, tAsg, gName, gNil, gCons, tPar, tNext, tDrop, tAnd, tOr, tNot, tAndV, tOrV, tNotV, tIf, rI, rI0, rU, rIxTH, rIxLH, rEqT, rNeT, rInT, rEq, rNe, scal, CPow, at0, at1, at2, List.map_cons, List.map_nil, List.length_cons, List.length_nil, Nat.reduceSub, Nat.reduceAdd, Nat.zero_add, List.replicate_zero, List.reduceReplicate, List.append_nil, List.nil_append, List.cons_append, List.getElem?_cons_zero, List.getElem?_cons_succ, List.set_cons_zero, List.set_cons_succ, Option.some.injEq, exists_eq_left', exists_eq_left, V.ref.injEq, V.int.injEq, V.bl.injEq, V.str.injEq, V.ty.injEq, HO.tup.injEq, HO.lst.injEq, List.cons.injEq, and_true, true_and, and_assoc, exists_and_left, decide_eq_true_eq, Bool.not_eq_true', decide_eq_false_iff_not, ite_true, ite_false, if_true, if_false, Int.reduceToNat, eq_self_iff_true]
      exact ⟨Nat.zero_le _, fun lf nl => hN _ _ ⟨same_upd nl, lf, nl, upd_same, rfl⟩⟩
    rintro _ H1 ⟨sm1, lf, nlf, hlf, rfl⟩
    change tSeq _ _ _ [some (.ref a), some (.int (n : Int)), some (.ref lf), none, none, none, none] H1
    refine seq_gen (fun σ' H2 => Same H H2 ∧ ∃ L, MtH H2 lf L ∧ Bar.Sq L n ∧ Bar.Nc L n ∧ (∀ r ∈ L, ∀ x ∈ r, x.natAbs ≤ BB 0) ∧ ∃ z1 z2 z3 z4, σ' = [some (.ref a), some (.int (n : Int)), some (.ref lf), z1, z2, z3, z4]) ?_ (fun N hN => ?_)
    case refine_2 =>
      simp only [L2.start, Pr, tRev, tD1, tDPop1, tSl, tNoPart, tPart, rSlL, tDIn, tDNotIn, gSub, rSetL, tLst, tDNewK, tComp, L2.stC, tFor_eq, iList, iTup, iRng1, iRng2, iZip, iEnum, iDict, iStr, tChain, tSumV, tBM, rJoin, tJoined, jNil, jLit, jInt, jStr, tRaise, tDGet, tDGet2, tDGet1, sDPut, Option.join_some, List.getElem?_nil,  tSeq, tRet, tRetN, tIfS, tTest, tB, tOp, tUn, tVar, tC, tCB, tCons, tNil, tCall, tTupS, tAsg, gName, gNil, gCons, tPar, tNext, tDrop, tAnd, tOr, tNot, tAndV, tOrV, tNotV, tIf, rI, rI0, rU, rIxTH, rIxLH, rEqT, rNeT, rInT, rEq, rNe, scal, CPow, at0, at1, at2, List.map_cons, List.map_nil, List.length_cons, List.length_nil, Nat.reduceSub, Nat.reduceAdd, Nat.zero_add, List.replicate_zero, List.reduceReplicate, List.append_nil, List.nil_append, List.cons_append, List.getElem?_cons_zero, List.getElem?_cons_succ, List.set_cons_zero, List.set_cons_succ, Option.some.injEq, exists_eq_left', exists_eq_left, V.ref.injEq, V.int.injEq, V.bl.injEq, V.str.injEq, V.ty.injEq, HO.tup.injEq, HO.lst.injEq, List.cons.injEq, and_true, true_and, and_assoc, exists_and_left, decide_eq_true_eq, Bool.not_eq_true', decide_eq_false_iff_not, ite_true, ite_false, if_true, if_false, Int.reduceToNat, eq_self_iff_true]
      refine ⟨by omega, by omega, for_src (src_range (Ok := fun _ => True)) (fun k σ H2 => Same H H2 ∧ ∃ xs L, H2 lf = some (.lst xs) ∧ Al (Rw (hid H2 lf)) L xs ∧ L.length = k ∧ (∀ (i : Nat) r, L[i]? = some r → r.length = n ∧ (∀ j, j < i → r.getD j 0 = 0) ∧ r.getD i 0 ≠ 0 ∧ ∀ x ∈ r, x.natAbs ≤ 5) ∧ ∃ z1 z2 z3 z4, σ = [some (.ref a), some (.int (n : Int)), some (.ref lf), z1, z2, z3, z4]) ⟨sm1, [], [], hlf, trivial, rfl, fun i r e => by simp at e, _, _, _, _, rfl⟩ (fun _ _ _ _ _ => trivial) ?_ ?_⟩
      · rintro k x σ H2 H3 hk ⟨sm2, xs, L, hl2, al, lL, rb, z1, z2, z3, z4, rfl⟩ ⟨rfl, rfl⟩
        have lx := al.length
        have hkn : k < n := by omega
        change tSeq _ _ _ [some (.ref a), some (.int (n : Int)), some (.ref lf), some (.int (0 + (k : Int))), z2, z3, z4] H3
        rw [Int.zero_add]
        refine seq_gen (fun σ' H4 => Same H3 H4 ∧ ∃ lr, H3 lr = none ∧ H4 lr = some (.lst (List.map V.int (List.replicate n 0))) ∧ σ' = [some (.ref a), some (.int (n : Int)), some (.ref lf), some (.int (k : Int)), some (.ref lr), z3, z4]) ?_ (fun N hN' => ?_)
        case refine_2 =>
          simp only [L2.start, Pr, tRev, tD1, tDPop1, tSl, tNoPart, tPart, rSlL, tDIn, tDNotIn, gSub, rSetL, tLst, tDNewK, tComp, L2.stC, tFor_eq, iList, iTup, iRng1, iRng2, iZip, iEnum, iDict, iStr, tChain, tSumV, tBM, rJoin, tJoined, jNil, jLit, jInt, jStr, tRaise, tDGet, tDGet2, tDGet1, sDPut, Option.join_some, List.getElem?_nil,  tSeq, tRet, tRetN, tIfS, tTest, tB, tOp, tUn, tVar, tC, tCB, tCons, tNil, tCall, tTupS, tAsg, gName, gNil, gCons, tPar, tNext, tDrop, tAnd, tOr, tNot, tAndV, tOrV, tNotV, tIf, rI, rI0, rU, rIxTH, rIxLH, rEqT, rNeT, rInT, rEq, rNe, scal, CPow, at0, at1, at2, List.map_cons, List.map_nil, List.length_cons, List.length_nil, Nat.reduceSub, Nat.reduceAdd, Nat.zero_add, List.replicate_zero, List.reduceReplicate, List.append_nil, List.nil_append, List.cons_append, List.getElem?_cons_zero, List.getElem?_cons_succ, List.set_cons_zero, List.set_cons_succ, Option.some.injEq, exists_eq_left', exists_eq_left, V.ref.injEq, V.int.injEq, V.bl.injEq, V.str.injEq, V.ty.injEq, HO.tup.injEq, HO.lst.injEq, List.cons.injEq, and_true, true_and, and_assoc, exists_and_left, decide_eq_true_eq, Bool.not_eq_true', decide_eq_false_iff_not, ite_true, ite_false, if_true, if_false, Int.reduceToNat, eq_self_iff_true, rRep]
          refine ⟨by decide, fun m nm => ⟨_, upd_same, by omega, by omega, by simp only [List.length_cons, List.length_nil]; omega, fun p np => hN' _ _ ⟨(same_upd nm).trans (same_upd np), p, none_of (same_upd nm) np, ?_, rfl⟩⟩⟩
          rw [upd_same, List.map_replicate, List.flatten_replicate_singleton, Int.toNat_natCast]
        rintro _ H4 ⟨sm4, lr, nlr, hlr, rfl⟩
        change tSeq _ _ _ [some (.ref a), some (.int (n : Int)), some (.ref lf), some (.int (k : Int)), some (.ref lr), z3, z4] H4
        refine seq_gen (fun σ' H5 => Same H3 H5 ∧ ∃ r, H5 lr = some (.lst (List.map V.int r)) ∧ r.length = n ∧ (∀ j, j < k → r.getD j 0 = 0) ∧ (∀ x ∈ r, x.natAbs ≤ 5) ∧ ∃ z3, σ' = [some (.ref a), some (.int (n : Int)), some (.ref lf), some (.int (k : Int)), some (.ref lr), z3, z4]) ?_ (fun N hN' => ?_)
        case refine_2 =>
          simp only [L2.start, Pr, tRev, tD1, tDPop1, tSl, tNoPart, tPart, rSlL, tDIn, tDNotIn, gSub, rSetL, tLst, tDNewK, tComp, L2.stC, tFor_eq, iList, iTup, iRng1, iRng2, iZip, iEnum, iDict, iStr, tChain, tSumV, tBM, rJoin, tJoined, jNil, jLit, jInt, jStr, tRaise, tDGet, tDGet2, tDGet1, sDPut, Option.join_some, List.getElem?_nil,  tSeq, tRet, tRetN, tIfS, tTest, tB, tOp, tUn, tVar, tC, tCB, tCons, tNil, tCall, tTupS, tAsg, gName, gNil, gCons, tPar, tNext, tDrop, tAnd, tOr, tNot, tAndV, tOrV, tNotV, tIf, rI, rI0, rU, rIxTH, rIxLH, rEqT, rNeT, rInT, rEq, rNe, scal, CPow, at0, at1, at2, List.map_cons, List.map_nil, List.length_cons, List.length_nil, Nat.reduceSub, Nat.reduceAdd, Nat.zero_add, List.replicate_zero, List.reduceReplicate, List.append_nil, List.nil_append, List.cons_append, List.getElem?_cons_zero, List.getElem?_cons_succ, List.set_cons_zero, List.set_cons_succ, Option.some.injEq, exists_eq_left', exists_eq_left, V.ref.injEq, V.int.injEq, V.bl.injEq, V.str.injEq, V.ty.injEq, HO.tup.injEq, HO.lst.injEq, List.cons.injEq, and_true, true_and, and_assoc, exists_and_left, decide_eq_true_eq, Bool.not_eq_true', decide_eq_false_iff_not, ite_true, ite_false, if_true, if_false, Int.reduceToNat, eq_self_iff_true]
          refine ⟨by omega, by omega, by omega, by omega, for_src (src_range (Ok := fun _ => True)) (fun j σ H5 => Same H3 H5 ∧ ∃ r, H5 lr = some (.lst (List.map V.int r)) ∧ r.length = n ∧ (∀ j, j < k → r.getD j 0 = 0) ∧ (∀ x ∈ r, x.natAbs ≤ 5) ∧ ∃ z3, σ = [some (.ref a), some (.int (n : Int)), some (.ref lf), some (.int (k : Int)), some (.ref lr), z3, z4]) ⟨sm4, _, hlr, List.length_replicate, fun j hj => by rw [List.getD_eq_getElem?_getD, List.getElem?_replicate]; split <;> rfl, fun x hx => by rw [(List.mem_replicate.mp hx).2]; decide, _, rfl⟩ (fun _ _ _ _ _ => trivial) ?_ ?_⟩
          · rintro j x σ H5 H6 hj ⟨sm5, r, hr5, lr5, rz, rb5, z3, rfl⟩ ⟨rfl, rfl⟩
            have ej : (k : Int) + (j : Int) = ((k + j : Nat) : Int) := by omega
            rw [ej]
            simp only [L2.start, Pr, tRev, tD1, tDPop1, tSl, tNoPart, tPart, rSlL, tDIn, tDNotIn, gSub, rSetL, tLst, tDNewK, tComp, L2.stC, tFor_eq, iList, iTup, iRng1, iRng2, iZip, iEnum, iDict, iStr, tChain, tSumV, tBM, rJoin, tJoined, jNil, jLit, jInt, jStr, tRaise, tDGet, tDGet2, tDGet1, sDPut, Option.join_some, List.getElem?_nil,  tSeq, tRet, tRetN, tIfS, tTest, tB, tOp, tUn, tVar, tC, tCB, tCons, tNil, tCall, tTupS, tAsg, gName, gNil, gCons, tPar, tNext, tDrop, tAnd, tOr, tNot, tAndV, tOrV, tNotV, tIf, rI, rI0, rU, rIxTH, rIxLH, rEqT, rNeT, rInT, rEq, rNe, scal, CPow, at0, at1, at2, List.map_cons, List.map_nil, List.length_cons, List.length_nil, Nat.reduceSub, Nat.reduceAdd, Nat.zero_add, List.replicate_zero, List.reduceReplicate, List.append_nil, List.nil_append, List.cons_append, List.getElem?_cons_zero, List.getElem?_cons_succ, List.set_cons_zero, List.set_cons_succ, Option.some.injEq, exists_eq_left', exists_eq_left, V.ref.injEq, V.int.injEq, V.bl.injEq, V.str.injEq, V.ty.injEq, HO.tup.injEq, HO.lst.injEq, List.cons.injEq, and_true, true_and, and_assoc, exists_and_left, decide_eq_true_eq, Bool.not_eq_true', decide_eq_false_iff_not, ite_true, ite_false, if_true, if_false, Int.reduceToNat, eq_self_iff_true, spMx]
            refine ⟨ns, (sm2.trans sm5).seq hS, by omega, by omega, by omega, by omega, fun v v0 v1 => ⟨CDivB.lit, by decide, _, hr5, k + j, ixN_nat (by rw [List.length_map]; omega), same_upd_of sm5 nlr, r.set (k + j) (v / 11 % 7 - 3), ?_, by rw [List.length_set]; exact lr5, fun i hi => ?_, fun x hx => ?_, _, rfl⟩⟩
            · rw [upd_same, List.map_set]
            · rw [getD_set (by omega), if_neg (by omega)]
              exact rz i hi
            · rcases List.mem_or_eq_of_mem_set hx with h | h
              · exact rb5 x h
              · have m0 := Int.emod_nonneg (v / 11) (show (7 : Int) ≠ 0 by decide)
                have m1 := Int.emod_lt_of_pos (v / 11) (show (0 : Int) < 7 by decide)
                rw [h]
                omega
          · rintro σ H5 ⟨sm5, r, hr5, lr5, rz, rb5, z3, rfl⟩
            exact hN' _ _ ⟨sm5, r, hr5, lr5, rz, rb5, _, rfl⟩
        rintro _ H5 ⟨sm5, r, hr5, lr5, rz, rb5, z3', rfl⟩
        have ak := at_int (r := r) (j := k) (by omega)
        change tSeq _ _ _ [some (.ref a), some (.int (n : Int)), some (.ref lf), some (.int (k : Int)), some (.ref lr), z3', z4] H5
        refine seq_gen (fun σ' H6 => Same H3 H6 ∧ ∃ r, H6 lr = some (.lst (List.map V.int r)) ∧ r.length = n ∧ (∀ j, j < k → r.getD j 0 = 0) ∧ r.getD k 0 ≠ 0 ∧ (∀ x ∈ r, x.natAbs ≤ 5) ∧ σ' = [some (.ref a), some (.int (n : Int)), some (.ref lf), some (.int (k : Int)), some (.ref lr), z3', z4]) ?_ (fun N hN' => ?_)
        case refine_2 =>
          simp only [L2.start, Pr, tRev, tD1, tDPop1, tSl, tNoPart, tPart, rSlL, tDIn, tDNotIn, gSub, rSetL, tLst, tDNewK, tComp, L2.stC, tFor_eq, iList, iTup, iRng1, iRng2, iZip, iEnum, iDict, iStr, tChain, tSumV, tBM, rJoin, tJoined, jNil, jLit, jInt, jStr, tRaise, tDGet, tDGet2, tDGet1, sDPut, Option.join_some, List.getElem?_nil,  tSeq, tRet, tRetN, tIfS, tTest, tB, tOp, tUn, tVar, tC, tCB, tCons, tNil, tCall, tTupS, tAsg, gName, gNil, gCons, tPar, tNext, tDrop, tAnd, tOr, tNot, tAndV, tOrV, tNotV, tIf, rI, rI0, rU, rIxTH, rIxLH, rEqT, rNeT, rInT, rEq, rNe, scal, CPow, at0, at1, at2, List.map_cons, List.map_nil, List.length_cons, List.length_nil, Nat.reduceSub, Nat.reduceAdd, Nat.zero_add, List.replicate_zero, List.reduceReplicate, List.append_nil, List.nil_append, List.cons_append, List.getElem?_cons_zero, List.getElem?_cons_succ, List.set_cons_zero, List.set_cons_succ, Option.some.injEq, exists_eq_left', exists_eq_left, V.ref.injEq, V.int.injEq, V.bl.injEq, V.str.injEq, V.ty.injEq, HO.tup.injEq, HO.lst.injEq, List.cons.injEq, and_true, true_and, and_assoc, exists_and_left, decide_eq_true_eq, Bool.not_eq_true', decide_eq_false_iff_not, ite_true, ite_false, if_true, if_false, Int.reduceToNat, eq_self_iff_true, hr5, ak]
          refine ite2 (fun c => ?_) (fun c => hN' _ _ ⟨sm5, r, hr5, lr5, rz, c, rb5, rfl⟩)
          refine ⟨k, ixN_nat (by rw [List.length_map]; omega), hN' _ _ ⟨same_upd_of sm5 nlr, r.set k ((k : Int) + 1), ?_, by rw [List.length_set]; exact lr5, fun i hi => ?_, ?_, fun x hx => ?_, rfl⟩⟩
          · rw [upd_same, List.map_set]
          · rw [getD_set (by omega), if_neg (by omega)]
            exact rz i hi
          · rw [getD_set (by omega), if_pos rfl]
            omega
          · rcases List.mem_or_eq_of_mem_set hx with h | h
            · exact rb5 x h
            · rw [h]; omega
        clear hr5 lr5 rz rb5 sm5 ak r
        clear H5
        rintro _ H5 ⟨sm5, r, hr5, lr5, rz, rn, rb5, rfl⟩
        have hl5 := sm5 _ _ hl2
        have ne : lr ≠ lf := fun e => by rw [e, hl2] at nlr; cases nlr
        simp only [L2.start, Pr, tRev, tD1, tDPop1, tSl, tNoPart, tPart, rSlL, tDIn, tDNotIn, gSub, rSetL, tLst, tDNewK, tComp, L2.stC, tFor_eq, iList, iTup, iRng1, iRng2, iZip, iEnum, iDict, iStr, tChain, tSumV, tBM, rJoin, tJoined, jNil, jLit, jInt, jStr, tRaise, tDGet, tDGet2, tDGet1, sDPut, Option.join_some, List.getElem?_nil,  tSeq, tRet, tRetN, tIfS, tTest, tB, tOp, tUn, tVar, tC, tCB, tCons, tNil, tCall, tTupS, tAsg, gName, gNil, gCons, tPar, tNext, tDrop, tAnd, tOr, tNot, tAndV, tOrV, tNotV, tIf, rI, rI0, rU, rIxTH, rIxLH, rEqT, rNeT, rInT, rEq, rNe, scal, CPow, at0, at1, at2, List.map_cons, List.map_nil, List.length_cons, List.length_nil, Nat.reduceSub, Nat.reduceAdd, Nat.zero_add, List.replicate_zero, List.reduceReplicate, List.append_nil, List.nil_append, List.cons_append, List.getElem?_cons_zero, List.getElem?_cons_succ, List.set_cons_zero, List.set_cons_succ, Option.some.injEq, exists_eq_left', exists_eq_left, V.ref.injEq, V.int.injEq, V.bl.injEq, V.str.injEq, V.ty.injEq, HO.tup.injEq, HO.lst.injEq, List.cons.injEq, and_true, true_and, and_assoc, exists_and_left, decide_eq_true_eq, Bool.not_eq_true', decide_eq_false_iff_not, ite_true, ite_false, if_true, if_false, Int.reduceToNat, eq_self_iff_true, rAppend]
        refine ⟨.inl ⟨rfl, _, SqL.of hl5⟩, _, hl5, by omega, same_upd_of (sm2.trans sm5) nlf, _, upd_same, L ++ [r], Rw.push (al.imp fun _ _ h => h.mono (hid_mono sm5)) hr5 ne, by rw [List.length_append, lL]; rfl, fun i r' e => ?_, _, rfl⟩
        by_cases c : i < L.length
        · rw [List.getElem?_append_left c] at e
          exact rb i r' e
        · have : i = L.length := by
            have := (List.getElem?_eq_some_iff.mp e).1
            rw [List.length_append, List.length_cons, List.length_nil] at this
            omega
          subst this
          rw [List.getElem?_append_right (Nat.le_refl _), Nat.sub_self] at e
          cases e
          rw [lL]
          exact ⟨lr5, rz, rn, rb5⟩
      · rintro σ H2 ⟨sm2, xs, L, hl2, al, lL, rb, z1, z2, z3, z4, rfl⟩
        have mem : ∀ r ∈ L, r.length = n ∧ ∀ x ∈ r, x.natAbs ≤ 5 := fun r hr => by
          obtain ⟨i, hi⟩ := List.getElem?_of_mem hr
          exact ⟨(rb i r hi).1, (rb i r hi).2.2.2⟩
        exact hN _ _ ⟨sm2, L, ⟨xs, hl2, al.imp fun _ _ h => h.mono hid_sub⟩, ⟨by omega, fun r hr => (mem r hr).1⟩, Bar.tri_nc (by omega) fun i r e => ⟨(rb i r e).2.1, (rb i r e).2.2.1⟩, fun r hr => (mem r hr).2, _, _, _, _, rfl⟩
    rintro _ H2 ⟨sm2, L, hL, sq, nc, bd, z1, z2, z3, z4, rfl⟩
    change tSeq _ _ _ [some (.ref a), some (.int (n : Int)), some (.ref lf), z1, z2, z3, z4] H2
    refine seq_gen (fun σ' H3 => Same H H3 ∧ ∃ L, MtH H3 lf L ∧ Bar.Sq L n ∧ Bar.Nc L n ∧ (∀ r ∈ L, ∀ x ∈ r, x.natAbs ≤ BB 5) ∧ ∃ z1 z2 z3 z4, σ' = [some (.ref a), some (.int (n : Int)), some (.ref lf), z1, z2, z3, z4]) ?_ (fun N hN => ?_)
    case refine_2 =>
      simp only [L2.start, Pr, tRev, tD1, tDPop1, tSl, tNoPart, tPart, rSlL, tDIn, tDNotIn, gSub, rSetL, tLst, tDNewK, tComp, L2.stC, tFor_eq, iList, iTup, iRng1, iRng2, iZip, iEnum, iDict, iStr, tChain, tSumV, tBM, rJoin, tJoined, jNil, jLit, jInt, jStr, tRaise, tDGet, tDGet2, tDGet1, sDPut, Option.join_some, List.getElem?_nil,  tSeq, tRet, tRetN, tIfS, tTest, tB, tOp, tUn, tVar, tC, tCB, tCons, tNil, tCall, tTupS, tAsg, gName, gNil, gCons, tPar, tNext, tDrop, tAnd, tOr, tNot, tAndV, tOrV, tNotV, tIf, rI, rI0, rU, rIxTH, rIxLH, rEqT, rNeT, rInT, rEq, rNe, scal, CPow, at0, at1, at2, List.map_cons, List.map_nil, List.length_cons, List.length_nil, Nat.reduceSub, Nat.reduceAdd, Nat.zero_add, List.replicate_zero, List.reduceReplicate, List.append_nil, List.nil_append, List.cons_append, List.getElem?_cons_zero, List.getElem?_cons_succ, List.set_cons_zero, List.set_cons_succ, Option.some.injEq, exists_eq_left', exists_eq_left, V.ref.injEq, V.int.injEq, V.bl.injEq, V.str.injEq, V.ty.injEq, HO.tup.injEq, HO.lst.injEq, List.cons.injEq, and_true, true_and, and_assoc, exists_and_left, decide_eq_true_eq, Bool.not_eq_true', decide_eq_false_iff_not, ite_true, ite_false, if_true, if_false, Int.reduceToNat, eq_self_iff_true]
      refine ⟨by decide, by decide, by omega, by omega, for_src (src_range (Ok := fun _ => True)) (fun k σ H3 => Same H H3 ∧ ∃ L, MtH H3 lf L ∧ Bar.Sq L n ∧ Bar.Nc L n ∧ (∀ r ∈ L, ∀ x ∈ r, x.natAbs ≤ BB k) ∧ ∃ z1 z2 z3 z4, σ = [some (.ref a), some (.int (n : Int)), some (.ref lf), z1, z2, z3, z4]) ⟨sm2, L, hL, sq, nc, bd, _, _, _, _, rfl⟩ (fun _ _ _ _ _ => trivial) ?_ ?_⟩
      · clear hL sq nc bd L sm2
        rintro k x σ H3 H4 hk ⟨sm3, L, hL, sq, nc, bd, z1, z2, z3, z4, rfl⟩ ⟨rfl, rfl⟩
        have hS4 := sm3.seq hS
        obtain ⟨xs, hx, al⟩ := id hL
        have lx := al.length
        have hl := sq.len
        have ek : (1 : Int) + (k : Int) = ((k + 1 : Nat) : Int) := by omega
        have kn : k + 1 < n := by omega
        change tSeq _ _ _ [some (.ref a), some (.int (n : Int)), some (.ref lf), some (.int ((1 : Int) + (k : Int))), z2, z3, z4] H4
        rw [ek]
        refine seq_gen (fun σ' H5 => H4 = H5 ∧ ∃ t : Int, t.natAbs ≤ 2 ∧ σ' = [some (.ref a), some (.int (n : Int)), some (.ref lf), some (.int ((k + 1 : Nat) : Int)), z2, z3, some (.int t)]) ?_ (fun N hN' => ?_)
        case refine_2 =>
          simp only [L2.start, Pr, tRev, tD1, tDPop1, tSl, tNoPart, tPart, rSlL, tDIn, tDNotIn, gSub, rSetL, tLst, tDNewK, tComp, L2.stC, tFor_eq, iList, iTup, iRng1, iRng2, iZip, iEnum, iDict, iStr, tChain, tSumV, tBM, rJoin, tJoined, jNil, jLit, jInt, jStr, tRaise, tDGet, tDGet2, tDGet1, sDPut, Option.join_some, List.getElem?_nil,  tSeq, tRet, tRetN, tIfS, tTest, tB, tOp, tUn, tVar, tC, tCB, tCons, tNil, tCall, tTupS, tAsg, gName, gNil, gCons, tPar, tNext, tDrop, tAnd, tOr, tNot, tAndV, tOrV, tNotV, tIf, rI, rI0, rU, rIxTH, rIxLH, rEqT, rNeT, rInT, rEq, rNe, scal, CPow, at0, at1, at2, List.map_cons, List.map_nil, List.length_cons, List.length_nil, Nat.reduceSub, Nat.reduceAdd, Nat.zero_add, List.replicate_zero, List.reduceReplicate, List.append_nil, List.nil_append, List.cons_append, List.getElem?_cons_zero, List.getElem?_cons_succ, List.set_cons_zero, List.set_cons_succ, Option.some.injEq, exists_eq_left', exists_eq_left, V.ref.injEq, V.int.injEq, V.bl.injEq, V.str.injEq, V.ty.injEq, HO.tup.injEq, HO.lst.injEq, List.cons.injEq, and_true, true_and, and_assoc, exists_and_left, decide_eq_true_eq, Bool.not_eq_true', decide_eq_false_iff_not, ite_true, ite_false, if_true, if_false, Int.reduceToNat, eq_self_iff_true, spMx]
          refine ⟨ns, hS4, by omega, by omega, by omega, by omega, fun v v0 v1 => ⟨CDivB.lit, by decide, hN' _ _ ⟨rfl, _, ?_, rfl⟩⟩⟩
          have m0 := Int.emod_nonneg (v / 13) (show (5 : Int) ≠ 0 by decide)
          have m1 := Int.emod_lt_of_pos (v / 13) (show (0 : Int) < 5 by decide)
          omega
        rintro _ _ ⟨rfl, t, bt, rfl⟩
        obtain ⟨r, er, lr, mr⟩ := sq.at kn
        obtain ⟨y, ay, hy⟩ := at_row al er
        simp only [L2.start, Pr, tRev, tD1, tDPop1, tSl, tNoPart, tPart, rSlL, tDIn, tDNotIn, gSub, rSetL, tLst, tDNewK, tComp, L2.stC, tFor_eq, iList, iTup, iRng1, iRng2, iZip, iEnum, iDict, iStr, tChain, tSumV, tBM, rJoin, tJoined, jNil, jLit, jInt, jStr, tRaise, tDGet, tDGet2, tDGet1, sDPut, Option.join_some, List.getElem?_nil,  tSeq, tRet, tRetN, tIfS, tTest, tB, tOp, tUn, tVar, tC, tCB, tCons, tNil, tCall, tTupS, tAsg, gName, gNil, gCons, tPar, tNext, tDrop, tAnd, tOr, tNot, tAndV, tOrV, tNotV, tIf, rI, rI0, rU, rIxTH, rIxLH, rEqT, rNeT, rInT, rEq, rNe, scal, CPow, at0, at1, at2, List.map_cons, List.map_nil, List.length_cons, List.length_nil, Nat.reduceSub, Nat.reduceAdd, Nat.zero_add, List.replicate_zero, List.reduceReplicate, List.append_nil, List.nil_append, List.cons_append, List.getElem?_cons_zero, List.getElem?_cons_succ, List.set_cons_zero, List.set_cons_succ, Option.some.injEq, exists_eq_left', exists_eq_left, V.ref.injEq, V.int.injEq, V.bl.injEq, V.str.injEq, V.ty.injEq, HO.tup.injEq, HO.lst.injEq, List.cons.injEq, and_true, true_and, and_assoc, exists_and_left, decide_eq_true_eq, Bool.not_eq_true', decide_eq_false_iff_not, ite_true, ite_false, if_true, if_false, Int.reduceToNat, eq_self_iff_true, spC, hx, ay]
        refine ⟨ns, hS4, by omega, by omega, fun v => ⟨by omega, ?_⟩⟩
        have m0 := Int.emod_nonneg v (show ((k + 1 : Nat) : Int) ≠ 0 by omega)
        have m1 := Int.emod_lt_of_pos v (show (0 : Int) < ((k + 1 : Nat) : Int) by omega)
        obtain ⟨o, eo⟩ := Int.eq_ofNat_of_zero_le m0
        rw [eo] at m1 ⊢
        obtain ⟨b, eb, lb, mb⟩ := sq.at (show o < n by omega)
        obtain ⟨q, aq, hq⟩ := at_row al eb
        refine ⟨_, aq, _, rfl, ⟨_, SqL.of hy⟩, ⟨_, SqL.of hq⟩, ?_⟩
        refine comp_map2 (K := K) (src_zip (fun H' s' => SqL.of (s' _ _ hy)) (fun H' s' => SqL.of (s' _ _ hq))) (fun j u v _ => ∃ o1 o2, r[j]? = some o1 ∧ b[j]? = some o2 ∧ u = .int o1 ∧ v = .int o2) ?_ (by rw [List.length_map, List.length_map]; omega) (fun j y _ => ∀ o1 o2, r[j]? = some o1 → b[j]? = some o2 → y = .int (o1 + t * o2)) (fun _ _ _ _ _ h => h) ?_ ?_
        · rintro j v H6 H7 hj s6 ⟨t', x, y, nt, rfl, ex, ey', rfl⟩
          rw [List.getElem?_map] at ex ey'
          obtain ⟨o1, e1, rfl⟩ := Option.map_eq_some_iff.mp ex
          obtain ⟨o2, e2, rfl⟩ := Option.map_eq_some_iff.mp ey'
          exact ⟨same_upd nt, t', _, _, rfl, SqT.of upd_same, o1, o2, e1, e2, rfl, rfl⟩
        · rintro j u v H6 Q2 hj s6 ⟨o1, o2, e1, e2, rfl, rfl⟩ kq
          simp only [L2.start, Pr, tRev, tD1, tDPop1, tSl, tNoPart, tPart, rSlL, tDIn, tDNotIn, gSub, rSetL, tLst, tDNewK, tComp, L2.stC, tFor_eq, iList, iTup, iRng1, iRng2, iZip, iEnum, iDict, iStr, tChain, tSumV, tBM, rJoin, tJoined, jNil, jLit, jInt, jStr, tRaise, tDGet, tDGet2, tDGet1, sDPut, Option.join_some, List.getElem?_nil,  tSeq, tRet, tRetN, tIfS, tTest, tB, tOp, tUn, tVar, tC, tCB, tCons, tNil, tCall, tTupS, tAsg, gName, gNil, gCons, tPar, tNext, tDrop, tAnd, tOr, tNot, tAndV, tOrV, tNotV, tIf, rI, rI0, rU, rIxTH, rIxLH, rEqT, rNeT, rInT, rEq, rNe, scal, CPow, at0, at1, at2, List.map_cons, List.map_nil, List.length_cons, List.length_nil, Nat.reduceSub, Nat.reduceAdd, Nat.zero_add, List.replicate_zero, List.reduceReplicate, List.append_nil, List.nil_append, List.cons_append, List.getElem?_cons_zero, List.getElem?_cons_succ, List.set_cons_zero, List.set_cons_succ, Option.some.injEq, exists_eq_left', exists_eq_left, V.ref.injEq, V.int.injEq, V.bl.injEq, V.str.injEq, V.ty.injEq, HO.tup.injEq, HO.lst.injEq, List.cons.injEq, and_true, true_and, and_assoc, exists_and_left, decide_eq_true_eq, Bool.not_eq_true', decide_eq_false_iff_not, ite_true, ite_false, if_true, if_false, Int.reduceToNat, eq_self_iff_true]
          refine ⟨mulOkL (by omega) (by omega), kq _ _ (Same.refl _) fun _ _ f1 f2 => ?_⟩
          rw [e1] at f1
          rw [e2] at f2
          cases f1
          cases f2
          rfl
        · intro zs H6 s6 lz hz D n1' n2'
          have ez := ints_zip (f := fun o1 o2 => o1 + t * o2) lz hz
          have s7 := s6.trans (same_upd (o := .lst zs) n2')
          have hD : upd H6 D (.lst zs) D = some (.lst (List.map V.int (List.zipWith (fun o1 o2 => o1 + t * o2) r b))) := by rw [upd_same, ez]
          generalize upd H6 D (.lst zs) = H7 at *
          have hx7 := s7 _ _ hx
          have al7 := al.imp fun _ _ h => h.mono s7
          refine ⟨_, hx7, k + 1, ixN_nat (by omega), same_upd_of (sm3.trans s7) nlf, _, MtH.set hx7 al7 hD (MtH.ne hx7 al7 (by omega) hD), Bar.sq_set sq (by rw [List.length_zipWith]; omega), Bar.nc_add nc er eb (by omega) lr lb, Bar.set_bd (fun r hr x hx => Nat.le_trans (bd r hr x hx) (BB_mono (Nat.le_succ k))) (zip_bd (bd r mr) (bd b mb) bt), _, rfl⟩
      · rintro σ H3 ⟨sm3, L, hL, sq, nc, bd, z1, z2, z3, z4, rfl⟩
        exact hN _ _ ⟨sm3, L, hL, sq, nc, fun r hr x hx => Nat.le_trans (bd r hr x hx) (BB_mono (by omega)), _, _, _, _, rfl⟩
    rintro _ H3 ⟨sm3, L, hL, sq, nc, bd, z1, z2, z3, z4, rfl⟩
    simp only [L2.start, Pr, tRev, tD1, tDPop1, tSl, tNoPart, tPart, rSlL, tDIn, tDNotIn, gSub, rSetL, tLst, tDNewK, tComp, L2.stC, tFor_eq, iList, iTup, iRng1, iRng2, iZip, iEnum, iDict, iStr, tChain, tSumV, tBM, rJoin, tJoined, jNil, jLit, jInt, jStr, tRaise, tDGet, tDGet2, tDGet1, sDPut, Option.join_some, List.getElem?_nil,  tSeq, tRet, tRetN, tIfS, tTest, tB, tOp, tUn, tVar, tC, tCB, tCons, tNil, tCall, tTupS, tAsg, gName, gNil, gCons, tPar, tNext, tDrop, tAnd, tOr, tNot, tAndV, tOrV, tNotV, tIf, rI, rI0, rU, rIxTH, rIxLH, rEqT, rNeT, rInT, rEq, rNe, scal, CPow, at0, at1, at2, List.map_cons, List.map_nil, List.length_cons, List.length_nil, Nat.reduceSub, Nat.reduceAdd, Nat.zero_add, List.replicate_zero, List.reduceReplicate, List.append_nil, List.nil_append, List.cons_append, List.getElem?_cons_zero, List.getElem?_cons_succ, List.set_cons_zero, List.set_cons_succ, Option.some.injEq, exists_eq_left', exists_eq_left, V.ref.injEq, V.int.injEq, V.bl.injEq, V.str.injEq, V.ty.injEq, HO.tup.injEq, HO.lst.injEq, List.cons.injEq, and_true, true_and, and_assoc, exists_and_left, decide_eq_true_eq, Bool.not_eq_true', decide_eq_false_iff_not, ite_true, ite_false, if_true, if_false, Int.reduceToNat, eq_self_iff_true]
    exact kk _ L _ sm3 hL sq nc bd
theorem sc__law_answer : FnScope ["_law_lines", "_law_found"] ["_law_lines"] (defScope (top 21)) := ⟨rfl, rfl, rfl, by decide +kernel, rfl, by decide +kernel, by decide +kernel⟩
theorem ok_ans (T : Txt K mg q_NoShare) : Cal P w K mg base (CX1 P w) 5 "_law_answer" ["_law_lines"] spAns := by
  have c_solved : Cal P w K mg base (CX1 P w) 4 "solved" ["rows", "right"] spSo := ok_so T
  refine T.d__law_answer.cal (fun _ _ _ _ _ _ us hl => match us, hl with | [_], _ => rfl) fun f fd F => F.okC sc__law_answer (fun vs H Q E h => ?_) (fun cdv A outer s H vs Q E hr h => ?_)
  · obtain ⟨_, _, _, rfl, _⟩ := h; rfl
  · obtain ⟨a, M, n, rfl, hM, ln, kk⟩ := h
    have nd := sc__law_answer.nd
    refine ⟨_, (pss_cons (ps_set (i := 1) nd rfl (Or.inl rfl) (pe_cal c_solved (hr.mono (by decide)) rfl strictP.pass (pa_cons (pe_comp rfl (N := ["_law_lines", "_law_found"]) (so := defScope (top 21)) (N' := ["_law_line"]) (k := 1) (fr := []) rfl rfl ⟨rfl, by decide +kernel, by decide +kernel, by decide +kernel, rfl, by decide +kernel, by decide +kernel⟩ (pi_listK (K := K) (pv 0)) (fun _ _ _ _ _ => (pg_name (i := 0) (show (["_law_line"] : List Str).Nodup by decide +kernel) rfl (Or.inl rfl))) (fun _ _ _ _ _ => pts_nil)
      (fun _ _ _ _ _ => (pe_slice (sl_listK (K := K)) (pv 0) po_none (po_some (pe_un un_neg pe_int))))) (pa_cons (pe_comp rfl (N := ["_law_lines", "_law_found"]) (so := defScope (top 21)) (N' := ["_law_line"]) (k := 1) (fr := []) rfl rfl ⟨rfl, by decide +kernel, by decide +kernel, by decide +kernel, rfl, by decide +kernel, by decide +kernel⟩ (pi_listK (K := K) (pv 0)) (fun _ _ _ _ _ => (pg_name (i := 0) (show (["_law_line"] : List Str).Nodup by decide +kernel) rfl (Or.inl rfl))) (fun _ _ _ _ _ => pts_nil)
      (fun _ _ _ _ _ => (pe_ix ix_listH (pv 0) (pe_un un_neg pe_int) (fun _ _ => rfl)))) pa_nil (se rfl)) (se rfl)) (he := se rfl) (hpl := na rfl)))
    (pss_cons (ps_if (PW.pt (pw_or (pt_not (pt_val (pe_callB (call_isTK (K := K)) (by rfl) T.z_isinstance rfl (pa_cons (pv 1) (pa_cons (pe_bltn (v := V.ty "tuple") rfl T.z_tuple rfl rfl) pa_nil (se rfl)) (se rfl)) (he := se rfl) (hpl := na rfl)))) (pw_or (pt_cmpR op_ne (pe_ix ix_tupH (pv 1) pe_int (fun _ _ => rfl)) pe_str (nomark _)) (pw_or1 (pt_cmpR op_ne (pe_callB call_lenL (by rfl) T.z_len PySem.boot_len (pa_cons (pe_ix ix_tupH (pv 1) pe_int (fun _ _ => rfl)) pa_nil (se rfl)) (he := se rfl) (hpl := na rfl)) (pe_callB call_lenL (by rfl) T.z_len PySem.boot_len (pa_cons (pv 0) pa_nil (se rfl)) (he := se rfl) (hpl := na rfl)) (nomark _)))))) (pss_one (ps_ret pe_non))
      pss_nil)
    (pss_one (ps_ret (pe_callTy (call_list_ofK (K := K)) (by rfl) T.z_list rfl (pa_cons (pe_ix ix_tupH (pv 1) pe_int (fun _ _ => rfl)) pa_nil (se rfl)) (he := se rfl) (hpl := na rfl)))))), ?_⟩
    have sl := sizeLine_eq
    obtain ⟨xs, ha, al⟩ := id hM
    have lx := al.length
    have lM := ln.len
    have n1 := ln.n1
    have n5 := ln.n5
    change tSeq _ _ _ [some (.ref a), none] H
    refine seq_gen (fun σ' H1 => Same H H1 ∧ ∃ x d t q us, Ans M n x d ∧ H1 t = some (.tup [.str "one", .ref q]) ∧ H1 q = some (.lst us) ∧ Al (ShR H1 d) x us ∧ σ' = [some (.ref a), some (.ref t)]) ?_ (fun N hN => ?_)
    case refine_2 =>
      simp only [L2.start, Pr, tRev, tD1, tDPop1, tSl, tNoPart, tPart, rSlL, tDIn, tDNotIn, gSub, rSetL, tLst, tDNewK, tComp, L2.stC, tFor_eq, iList, iTup, iRng1, iRng2, iZip, iEnum, iDict, iStr, tChain, tSumV, tBM, rJoin, tJoined, jNil, jLit, jInt, jStr, tRaise, tDGet, tDGet2, tDGet1, sDPut, Option.join_some, List.getElem?_nil,  tSeq, tRet, tRetN, tIfS, tTest, tB, tOp, tUn, tVar, tC, tCB, tCons, tNil, tCall, tTupS, tAsg, gName, gNil, gCons, tPar, tNext, tDrop, tAnd, tOr, tNot, tAndV, tOrV, tNotV, tIf, rI, rI0, rU, rIxTH, rIxLH, rEqT, rNeT, rInT, rEq, rNe, scal, CPow, at0, at1, at2, List.map_cons, List.map_nil, List.length_cons, List.length_nil, Nat.reduceSub, Nat.reduceAdd, Nat.zero_add, List.replicate_zero, List.reduceReplicate, List.append_nil, List.nil_append, List.cons_append, List.getElem?_cons_zero, List.getElem?_cons_succ, List.set_cons_zero, List.set_cons_succ, Option.some.injEq, exists_eq_left', exists_eq_left, V.ref.injEq, V.int.injEq, V.bl.injEq, V.str.injEq, V.ty.injEq, HO.tup.injEq, HO.lst.injEq, List.cons.injEq, and_true, true_and, and_assoc, exists_and_left, decide_eq_true_eq, Bool.not_eq_true', decide_eq_false_iff_not, ite_true, ite_false, if_true, if_false, Int.reduceToNat, eq_self_iff_true, spSo]
      refine ⟨⟨_, SqL.of ha⟩, ?_⟩
      refine comp_map (src_list (fun H2 s2 => SqL.of (s2 _ _ ha))) (fun _ _ _ _ h => by rw [h.1]; exact Same.refl _) (by omega) (fun i y H4 => ∀ r : List Int, M[i]? = some r → Rw H4 (r.take n) y) (fun i y H2 H3 s3 h q e => (h q e).mono s3) ?_ ?_
      · rintro i x w0 H4 H5 Q2 hi s4 ⟨rfl, ex⟩ kq
        obtain ⟨r, er, q, rfl, hq⟩ := al.get ex
        simp only [L2.start, Pr, tRev, tD1, tDPop1, tSl, tNoPart, tPart, rSlL, tDIn, tDNotIn, gSub, rSetL, tLst, tDNewK, tComp, L2.stC, tFor_eq, iList, iTup, iRng1, iRng2, iZip, iEnum, iDict, iStr, tChain, tSumV, tBM, rJoin, tJoined, jNil, jLit, jInt, jStr, tRaise, tDGet, tDGet2, tDGet1, sDPut, Option.join_some, List.getElem?_nil,  tSeq, tRet, tRetN, tIfS, tTest, tB, tOp, tUn, tVar, tC, tCB, tCons, tNil, tCall, tTupS, tAsg, gName, gNil, gCons, tPar, tNext, tDrop, tAnd, tOr, tNot, tAndV, tOrV, tNotV, tIf, rI, rI0, rU, rIxTH, rIxLH, rEqT, rNeT, rInT, rEq, rNe, scal, CPow, at0, at1, at2, List.map_cons, List.map_nil, List.length_cons, List.length_nil, Nat.reduceSub, Nat.reduceAdd, Nat.zero_add, List.replicate_zero, List.reduceReplicate, List.append_nil, List.nil_append, List.cons_append, List.getElem?_cons_zero, List.getElem?_cons_succ, List.set_cons_zero, List.set_cons_succ, Option.some.injEq, exists_eq_left', exists_eq_left, V.ref.injEq, V.int.injEq, V.bl.injEq, V.str.injEq, V.ty.injEq, HO.tup.injEq, HO.lst.injEq, List.cons.injEq, and_true, true_and, and_assoc, exists_and_left, decide_eq_true_eq, Bool.not_eq_true', decide_eq_false_iff_not, ite_true, ite_false, if_true, if_false, Int.reduceToNat, eq_self_iff_true]
        refine ⟨_, SqL.of (s4 _ _ hq), fun p np => kq _ _ (same_upd np) fun r' er' => ?_⟩
        rw [er] at er'
        cases er'
        exact ⟨p, rfl, by rw [upd_same]; exact congrArg _ (congrArg _ (cut_last (ln.row r (List.mem_of_getElem? er))))⟩
      · intro ys H2 s2 ly hy D n1' n2'
        have s3 := s2.trans (same_upd (o := .lst ys) n2')
        have hm : MtH (upd H2 D (.lst ys)) D (M.map fun r => r.take n) := by
          refine ⟨ys, upd_same, Al.of (by rw [List.length_map]; omega) fun i y q e1 e2 => ?_⟩
          rw [List.getElem?_map] at e2
          obtain ⟨r, er, rfl⟩ := Option.map_eq_some_iff.mp e2
          exact (hy i y e1 r er).mono (same_upd n2')
        generalize upd H2 D (.lst ys) = H3 at *
        have ha3 := s3 _ _ ha
        refine ⟨⟨_, SqL.of ha3⟩, ?_⟩
        have S' : Src (Itl K a) (Same H3) M.length (fun i x H H3 => H3 = H ∧ xs[i]? = some x) := by
          have := src_list (K := K) (a := a) (xs := xs) (Ok := Same H3) (fun H2 s2 => SqL.of (s2 _ _ ha3))
          rwa [lx] at this
        refine comp_ints M (fun r => some (r.getD n 0)) S' (fun _ _ _ _ h => h.1) (by omega) ?_ ?_
        · rintro i r x er ⟨_, ex⟩ Y N y1 _
          obtain ⟨r', er', q, rfl, hq⟩ := al.get ex
          rw [er] at er'
          cases er'
          have al1 := at_last (ln.row r (List.mem_of_getElem? er))
          simp only [L2.start, Pr, tRev, tD1, tDPop1, tSl, tNoPart, tPart, rSlL, tDIn, tDNotIn, gSub, rSetL, tLst, tDNewK, tComp, L2.stC, tFor_eq, iList, iTup, iRng1, iRng2, iZip, iEnum, iDict, iStr, tChain, tSumV, tBM, rJoin, tJoined, jNil, jLit, jInt, jStr, tRaise, tDGet, tDGet2, tDGet1, sDPut, Option.join_some, List.getElem?_nil,  tSeq, tRet, tRetN, tIfS, tTest, tB, tOp, tUn, tVar, tC, tCB, tCons, tNil, tCall, tTupS, tAsg, gName, gNil, gCons, tPar, tNext, tDrop, tAnd, tOr, tNot, tAndV, tOrV, tNotV, tIf, rI, rI0, rU, rIxTH, rIxLH, rEqT, rNeT, rInT, rEq, rNe, scal, CPow, at0, at1, at2, List.map_cons, List.map_nil, List.length_cons, List.length_nil, Nat.reduceSub, Nat.reduceAdd, Nat.zero_add, List.replicate_zero, List.reduceReplicate, List.append_nil, List.nil_append, List.cons_append, List.getElem?_cons_zero, List.getElem?_cons_succ, List.set_cons_zero, List.set_cons_succ, Option.some.injEq, exists_eq_left', exists_eq_left, V.ref.injEq, V.int.injEq, V.bl.injEq, V.str.injEq, V.ty.injEq, HO.tup.injEq, HO.lst.injEq, List.cons.injEq, and_true, true_and, and_assoc, exists_and_left, decide_eq_true_eq, Bool.not_eq_true', decide_eq_false_iff_not, ite_true, ite_false, if_true, if_false, Int.reduceToNat, eq_self_iff_true, tYes, s3 _ _ hq]
          exact ⟨_, al1, y1 _ rfl⟩
        · intro D2 n3 n4
          rw [show List.filterMap (fun r : List Int => some (r.getD n 0)) M = M.map fun r => r.getD n 0 from by rw [List.filterMap_eq_map']]
          have sqL : Bar.Sq (M.map fun r => r.take n) n := ⟨by rw [List.length_map, lM], fun q hq => by
            obtain ⟨r, hr, rfl⟩ := List.mem_map.mp hq
            rw [List.length_take, ln.row r hr]
            omega⟩
          have eA := aug_lines (n := n) ln.row
          have pw : ((n + 1) * 1000000000000) ^ (n + 1) < 2 ^ 4000 := Nat.lt_of_le_of_lt (Nat.le_trans (Nat.pow_le_pow_left (Nat.mul_le_mul_right _ (show n + 1 ≤ 6 by omega)) _) (Nat.pow_le_pow_right (by decide) (show n + 1 ≤ 6 by omega))) (by decide +kernel)
          have bL : ∀ r ∈ M.map (fun r => r.take n), ∀ x ∈ r, x.natAbs ≤ 1000000000000 := fun q hq x hx => by
            obtain ⟨r, hr, rfl⟩ := List.mem_map.mp hq
            exact ln.bd r hr x (List.mem_of_mem_take hx)
          have lS : (M.map fun r => r.getD n 0).length = n := by rw [List.length_map, lM]
          have B1 : Swb (Bar.aug (M.map fun r => r.take n) (M.map fun r => r.getD n 0)) n (n + 1) 1000000000000 := by
            rw [eA]
            exact ⟨lM, ln.row, by omega, by omega, by decide, ln.bd, pw⟩
          have B2 : Swb (Bar.trn (M.map fun r => r.take n)) n n 1000000000000 := ⟨(Bar.trn_sq sqL).len, (Bar.trn_sq sqL).row, by omega, by omega, by decide, Bar.trn_bd bL, pw⟩
          have ncr := Bar.nc_col sqL.len (Bar.nc_take.mpr ln.nc)
          refine ⟨_, hm.mono (same_upd n4), _, upd_same, ?_⟩
          rw [lS]
          refine ⟨sqL, _, B1, B2, fun cr => absurd cr ncr, fun x d t q us H5 so _ s5 ht nq hq ax => hN _ _ ⟨s3.trans ((same_upd n4).trans s5), x, d, t, q, us, ⟨so.len, so.pos, ?_, so.bx, fun r hr => ?_⟩, ht, hq, ax, rfl⟩⟩
          · have h := Bar.D_bd (N := 5) (b := 1000000000000) (Bar.dn n) (Bar.fo_bd bL) (by rw [Bar.dn_length]; omega)
            rw [List.length_map, List.length_map, lM] at h
            unfold Bt
            rw [so.dnn]
            exact Nat.lt_of_le_of_lt (Nat.le_trans h (Nat.pow_le_pow_right (by decide) n5)) (by decide +kernel)
          · obtain ⟨i, hi, rfl⟩ := List.getElem_of_mem hr
            have se := so.eq i (by omega)
            unfold Bar.Fit
            have e1 : (M.map fun r => r.getD n 0).getD i 0 = M[i].getD n 0 := by rw [List.getD_eq_getElem?_getD, List.getElem?_map, List.getElem?_eq_getElem hi]; rfl
            rw [e1] at se
            rw [← se]
            refine Bar.sm_congr fun j hj => ?_
            unfold Bar.cell
            rw [List.getD_eq_getElem?_getD (l := M.map _), List.getElem?_map, List.getElem?_eq_getElem hi]
            show _ = (M[i].take n).getD j 0 * _
            rw [List.getD_eq_getElem?_getD (l := M[i].take n), List.getElem?_take_of_lt hj, ← List.getD_eq_getElem?_getD]
    rintro _ H1 ⟨sm1, x, d, t, q, us, an, ht, hq, ax, rfl⟩
    have la := ax.length
    have lan := an.len
    simp only [L2.start, Pr, tRev, tD1, tDPop1, tSl, tNoPart, tPart, rSlL, tDIn, tDNotIn, gSub, rSetL, tLst, tDNewK, tComp, L2.stC, tFor_eq, iList, iTup, iRng1, iRng2, iZip, iEnum, iDict, iStr, tChain, tSumV, tBM, rJoin, tJoined, jNil, jLit, jInt, jStr, tRaise, tDGet, tDGet2, tDGet1, sDPut, Option.join_some, List.getElem?_nil,  tSeq, tRet, tRetN, tIfS, tTest, tB, tOp, tUn, tVar, tC, tCB, tCons, tNil, tCall, tTupS, tAsg, gName, gNil, gCons, tPar, tNext, tDrop, tAnd, tOr, tNot, tAndV, tOrV, tNotV, tIf, rI, rI0, rU, rIxTH, rIxLH, rEqT, rNeT, rInT, rEq, rNe, scal, CPow, at0, at1, at2, List.map_cons, List.map_nil, List.length_cons, List.length_nil, Nat.reduceSub, Nat.reduceAdd, Nat.zero_add, List.replicate_zero, List.reduceReplicate, List.append_nil, List.nil_append, List.cons_append, List.getElem?_cons_zero, List.getElem?_cons_succ, List.set_cons_zero, List.set_cons_succ, Option.some.injEq, exists_eq_left', exists_eq_left, V.ref.injEq, V.int.injEq, V.bl.injEq, V.str.injEq, V.ty.injEq, HO.tup.injEq, HO.lst.injEq, List.cons.injEq, and_true, true_and, and_assoc, exists_and_left, decide_eq_true_eq, Bool.not_eq_true', decide_eq_false_iff_not, ite_true, ite_false, if_true, if_false, Int.reduceToNat, eq_self_iff_true, ht, hq]
    refine ⟨_, TyOf.tup ht, _, kit_tt, ?_⟩
    rw [if_neg (by decide), if_neg (by decide)]
    refine ⟨_, sm1 _ _ ha, ?_⟩
    rw [if_neg (by omega)]
    exact ⟨_, .inl (SqL.of hq), fun l nl => kk l us x d _ (sm1.trans (same_upd nl)) (none_of sm1 nl) upd_same (ax.imp fun _ _ h => h.mono (same_upd nl)) an⟩
theorem sc__law_changed : FnScope ["_law_script", "_law_lines", "_law_turned", "_law_k", "_law_at", "_law_factor", "_law_other", "_law_more"] ["_law_script", "_law_lines"] (defScope (top 22)) := ⟨rfl, rfl, rfl, by decide +kernel, rfl, by decide +kernel, by decide +kernel⟩
theorem ok_chg (T : Txt K mg q_NoShare) : Cal P w K mg base (CX1 P w) 2 "_law_changed" ["_law_script", "_law_lines"] (spChg K) := by
  have c__law_cell : Cal P w K mg base (CX1 P w) 1 "_law_cell" ["_law_script", "_law_k"] (spC K) := ok_cell T
  refine T.d__law_changed.cal (fun _ _ _ _ _ _ us hl => match us, hl with | [_, _], _ => rfl) fun f fd F => F.okC sc__law_changed (fun vs H Q E h => ?_) (fun cdv A outer s H vs Q E hr h => ?_)
  · obtain ⟨_, _, _, _, _, rfl, _⟩ := h; rfl
  · obtain ⟨sa, ns, a, M, n, rfl, hS, hM, ln, kk⟩ := h
    have nd := sc__law_changed.nd
    refine ⟨_, (pss_cons (ps_set (i := 2) nd rfl (Or.inl rfl) (pe_lst pa_nil))
    (pss_cons (ps_for PassesOwn.never rfl (pi_range1 rfl T.z_range (pa_cons (pe_callB call_lenL (by rfl) T.z_len PySem.boot_len (pa_cons (pv 1) pa_nil (se rfl)) (he := se rfl) (hpl := na rfl)) pa_nil (se rfl))) (pg_name (i := 3) nd rfl (Or.inl rfl)) (pss_one (ps_expr (pe_bm PySem.F.plainAttrs_list PySem.F.slot_list_insert PySem.F.type_list_insert mt_insert.r (pv 2) (pa_cons (pe_op op_modB (pe_cal c__law_cell (hr.mono (by decide)) rfl strictP.pass (pa_cons (pv 0) (pa_cons (pe_op op_add pe_int (pv 3)) pa_nil (se rfl)) (se rfl)) (he := se rfl) (hpl := na rfl)) (pe_op op_add (pv 3) pe_int)) (pa_cons (pe_callTy (call_list_ofK (K := K)) (by rfl) T.z_list rfl (pa_cons (pe_ix ix_listH (pv 1) (pv 3) (fun _ _ => rfl)) pa_nil (se rfl)) (he := se rfl) (hpl := na rfl)) pa_nil (se rfl)) (se rfl))))))
    (pss_cons (ps_set (i := 4) nd rfl (Or.inl rfl) (pe_op op_modB (pe_cal c__law_cell (hr.mono (by decide)) rfl strictP.pass (pa_cons (pv 0) (pa_cons pe_int pa_nil (se rfl)) (se rfl)) (he := se rfl) (hpl := na rfl)) (pe_callB call_lenL (by rfl) T.z_len PySem.boot_len (pa_cons (pv 2) pa_nil (se rfl)) (he := se rfl) (hpl := na rfl))))
    (pss_cons (ps_set (i := 5) nd rfl (Or.inr rfl) (pe_ix ix_listH (pe_lst (pa_cons pe_int (pa_cons (pe_un un_neg pe_int) (pa_cons pe_int (pa_cons (pe_un un_neg pe_int) (pa_cons (pe_op op_pow pe_int pe_int) pa_nil (se rfl)) (se rfl)) (se rfl)) (se rfl)) (se rfl))) (pe_op op_modB (pe_cal c__law_cell (hr.mono (by decide)) rfl strictP.pass (pa_cons (pv 0) (pa_cons pe_int pa_nil (se rfl)) (se rfl)) (he := se rfl) (hpl := na rfl)) pe_int) (fun _ _ => rfl)))
    (pss_cons (ps_asg (pe_comp rfl (N := ["_law_script", "_law_lines", "_law_turned", "_law_k", "_law_at", "_law_factor", "_law_other", "_law_more"]) (so := defScope (top 22)) (N' := ["_law_number", "_law_factor"]) (k := 1) (fr := [5]) rfl rfl ⟨rfl, by decide +kernel, by decide +kernel, by decide +kernel, rfl, by decide +kernel, by decide +kernel⟩ (pi_listK (K := K) (pe_ix ix_listH (pv 2) (pv 4) (fun _ _ => rfl))) (fun _ _ _ _ _ => (pg_name (i := 0) (show (["_law_number", "_law_factor"] : List Str).Nodup by decide +kernel) rfl (Or.inl rfl))) (fun _ _ _ _ _ => pts_nil)
      (fun _ _ _ _ _ => (pe_op op_mulB (pv 1) (pv 0)))) (pg_sub (pv 2) (pv 4) set_list))
    (pss_cons (ps_set (i := 6) nd rfl (Or.inl rfl) (pe_op op_modB (pe_cal c__law_cell (hr.mono (by decide)) rfl strictP.pass (pa_cons (pv 0) (pa_cons pe_int pa_nil (se rfl)) (se rfl)) (he := se rfl) (hpl := na rfl)) (pe_callB call_lenL (by rfl) T.z_len PySem.boot_len (pa_cons (pv 2) pa_nil (se rfl)) (he := se rfl) (hpl := na rfl))))
    (pss_cons (ps_if (pt_cmpR op_ne (pv 6) (pv 4) (nomark _)) (pss_cons (ps_set (i := 7) nd rfl (Or.inr rfl) (pe_op op_sub (pe_op op_modB (pe_cal c__law_cell (hr.mono (by decide)) rfl strictP.pass (pa_cons (pv 0) (pa_cons pe_int pa_nil (se rfl)) (se rfl)) (he := se rfl) (hpl := na rfl)) pe_int) pe_int))
    (pss_one (ps_asg (pe_comp rfl (N := ["_law_script", "_law_lines", "_law_turned", "_law_k", "_law_at", "_law_factor", "_law_other", "_law_more"]) (so := defScope (top 22)) (N' := ["_law_a", "_law_b", "_law_more"]) (k := 2) (fr := [7]) rfl rfl ⟨rfl, by decide +kernel, by decide +kernel, by decide +kernel, rfl, by decide +kernel, by decide +kernel⟩ (pi_zipK (K := K) rfl T.z_zip (pa_cons (pe_ix ix_listH (pv 2) (pv 6) (fun _ _ => rfl)) (pa_cons (pe_ix ix_listH (pv 2) (pv 4) (fun _ _ => rfl)) pa_nil (se rfl)) (se rfl))) (fun _ _ _ _ _ => (pg_tupK (K := K) (n := 2) rfl (pgs_cons (pg_name (i := 0) (show (["_law_a", "_law_b", "_law_more"] : List Str).Nodup by decide +kernel) rfl (Or.inl rfl)) (pgs_cons (pg_name (i := 1) (show (["_law_a", "_law_b", "_law_more"] : List Str).Nodup by decide +kernel) rfl (Or.inl rfl)) pgs_nil)))) (fun _ _ _ _ _ => pts_nil)
      (fun _ _ _ _ _ => (pe_op op_add (pv 0) (pe_op op_mulB (pv 2) (pv 1))))) (pg_sub (pv 2) (pv 6) set_list))))
      pss_nil)
    (pss_one (ps_ret (pv 2)))))))))), ?_⟩
    have sl := sizeLine_eq
    obtain ⟨xs, ha, al⟩ := id hM
    have lx := al.length
    have lM := ln.len
    have n1 := ln.n1
    have n5 := ln.n5
    change tSeq _ _ _ [some (.ref sa), some (.ref a), none, none, none, none, none, none] H
    refine seq_gen (fun σ' H1 => Same H H1 ∧ ∃ tl, H tl = none ∧ H1 tl = some (.lst []) ∧ σ' = [some (.ref sa), some (.ref a), some (.ref tl), none, none, none, none, none]) ?_ (fun N hN => ?_)
    case refine_2 =>
      simp only [L2.start, Pr, tRev, tD1, tDPop1, tSl, tNoPart, tPart, rSlL, tDIn, tDNotIn, gSub, rSetL, tLst, tDNewK, tComp, L2.stC, tFor_eq, iList, iTup, iRng1, iRng2, iZip, iEnum, iDict, iStr, tChain, tSumV, tBM, rJoin, tJoined, jNil, jLit, jInt, jStr, tRaise, tDGet, tDGet2, tDGet1, sDPut, Option.join_some, List.getElem?_nil,  tSeq, tRet, tRetN, tIfS, tTest, tB, tOp, tUn, tVar, tC, tCB, tCons, tNil, tCall, tTupS, tAsg, gName, gNil, gCons, tPar, tNext, tDrop, tAnd, tOr, tNot, tAndV, tOrV, tNotV, tIf, rI, rI0, rU, rIxTH, rIxLH, rEqT, rNeT, rInT, rEq, rNe, scal, CPow, at0, at1, at2, List.map_cons, List.map_nil, List.length_cons, List.length_nil, Nat.reduceSub, Nat.reduceAdd, Nat.zero_add, List.replicate_zero, List.reduceReplicate, List.append_nil, List.nil_append, List.cons_append, List.getElem?_cons_zero, List.getElem?_cons_succ, List.set_cons_zero, List.set_cons_succ, Option.some.injEq, exists_eq_left', exists_eq_left, V.ref.injEq, V.int.injEq, V.bl.injEq, V.str.injEq, V.ty.injEq, HO.tup.injEq, HO.lst.injEq, List.cons.injEq, and_true, true_and, and_assoc, exists_and_left, decide_eq_true_eq, Bool.not_eq_true', decide_eq_false_iff_not, ite_true, ite_false, if_true, if_false, Int.reduceToNat, eq_self_iff_true]
      exact ⟨Nat.zero_le _, fun lf nl => hN _ _ ⟨same_upd nl, lf, nl, upd_same, rfl⟩⟩
    rintro _ H1 ⟨sm1, tl, ntl, htl, rfl⟩
    change tSeq _ _ _ [some (.ref sa), some (.ref a), some (.ref tl), none, none, none, none, none] H1
    refine seq_gen (fun σ' H2 => Same H H2 ∧ ∃ M', MtH H2 tl M' ∧ M'.Perm M ∧ ∃ z, σ' = [some (.ref sa), some (.ref a), some (.ref tl), z, none, none, none, none]) ?_ (fun N hN => ?_)
    case refine_2 =>
      simp only [L2.start, Pr, tRev, tD1, tDPop1, tSl, tNoPart, tPart, rSlL, tDIn, tDNotIn, gSub, rSetL, tLst, tDNewK, tComp, L2.stC, tFor_eq, iList, iTup, iRng1, iRng2, iZip, iEnum, iDict, iStr, tChain, tSumV, tBM, rJoin, tJoined, jNil, jLit, jInt, jStr, tRaise, tDGet, tDGet2, tDGet1, sDPut, Option.join_some, List.getElem?_nil,  tSeq, tRet, tRetN, tIfS, tTest, tB, tOp, tUn, tVar, tC, tCB, tCons, tNil, tCall, tTupS, tAsg, gName, gNil, gCons, tPar, tNext, tDrop, tAnd, tOr, tNot, tAndV, tOrV, tNotV, tIf, rI, rI0, rU, rIxTH, rIxLH, rEqT, rNeT, rInT, rEq, rNe, scal, CPow, at0, at1, at2, List.map_cons, List.map_nil, List.length_cons, List.length_nil, Nat.reduceSub, Nat.reduceAdd, Nat.zero_add, List.replicate_zero, List.reduceReplicate, List.append_nil, List.nil_append, List.cons_append, List.getElem?_cons_zero, List.getElem?_cons_succ, List.set_cons_zero, List.set_cons_succ, Option.some.injEq, exists_eq_left', exists_eq_left, V.ref.injEq, V.int.injEq, V.bl.injEq, V.str.injEq, V.ty.injEq, HO.tup.injEq, HO.lst.injEq, List.cons.injEq, and_true, true_and, and_assoc, exists_and_left, decide_eq_true_eq, Bool.not_eq_true', decide_eq_false_iff_not, ite_true, ite_false, if_true, if_false, Int.reduceToNat, eq_self_iff_true, sm1 _ _ ha]
      refine ⟨by omega, by omega, ?_⟩
      rw [show ((xs.length : Int)).toNat = n by omega]
      refine for_src (src_range (Ok := fun _ => True)) (fun k σ H2 => Same H H2 ∧ ∃ ys M', H2 tl = some (.lst ys) ∧ Al (Rw (hid H2 tl)) M' ys ∧ M'.Perm (M.take k) ∧ ∃ z, σ = [some (.ref sa), some (.ref a), some (.ref tl), z, none, none, none, none]) ⟨sm1, [], [], htl, trivial, List.Perm.refl _, _, rfl⟩ (fun _ _ _ _ _ => trivial) ?_ ?_
      · rintro k x σ H2 H3 hk ⟨sm2, ys, M', hy, am, pm, z, rfl⟩ ⟨rfl, rfl⟩
        have er : M[k]? = some M[k] := List.getElem?_eq_getElem (by omega)
        obtain ⟨y, ay, hyr⟩ := at_row al er
        have lM' := pm.length_eq
        rw [List.length_take] at lM'
        have ly := am.length
        simp only [L2.start, Pr, tRev, tD1, tDPop1, tSl, tNoPart, tPart, rSlL, tDIn, tDNotIn, gSub, rSetL, tLst, tDNewK, tComp, L2.stC, tFor_eq, iList, iTup, iRng1, iRng2, iZip, iEnum, iDict, iStr, tChain, tSumV, tBM, rJoin, tJoined, jNil, jLit, jInt, jStr, tRaise, tDGet, tDGet2, tDGet1, sDPut, Option.join_some, List.getElem?_nil,  tSeq, tRet, tRetN, tIfS, tTest, tB, tOp, tUn, tVar, tC, tCB, tCons, tNil, tCall, tTupS, tAsg, gName, gNil, gCons, tPar, tNext, tDrop, tAnd, tOr, tNot, tAndV, tOrV, tNotV, tIf, rI, rI0, rU, rIxTH, rIxLH, rEqT, rNeT, rInT, rEq, rNe, scal, CPow, at0, at1, at2, List.map_cons, List.map_nil, List.length_cons, List.length_nil, Nat.reduceSub, Nat.reduceAdd, Nat.zero_add, List.replicate_zero, List.reduceReplicate, List.append_nil, List.nil_append, List.cons_append, List.getElem?_cons_zero, List.getElem?_cons_succ, List.set_cons_zero, List.set_cons_succ, Option.some.injEq, exists_eq_left', exists_eq_left, V.ref.injEq, V.int.injEq, V.bl.injEq, V.str.injEq, V.ty.injEq, HO.tup.injEq, HO.lst.injEq, List.cons.injEq, and_true, true_and, and_assoc, exists_and_left, decide_eq_true_eq, Bool.not_eq_true', decide_eq_false_iff_not, ite_true, ite_false, if_true, if_false, Int.reduceToNat, eq_self_iff_true, spC, rIns, sm2 _ _ ha, Int.zero_add, ay]
        refine ⟨.inl ⟨rfl, _, SqL.of hy⟩, ns, sm2.seq hS, by omega, by omega, fun v => ⟨by omega, _, .inl (SqL.of (sm2 _ _ hyr)), fun c nc' => ?_⟩⟩
        have m0 := Int.emod_nonneg v (show (k : Int) + 1 ≠ 0 by omega)
        have m1 := Int.emod_lt_of_pos v (show (0 : Int) < (k : Int) + 1 by omega)
        have s3 := same_upd (o := .lst (List.map V.int M[k])) nc'
        have ne : c ≠ tl := fun e => by rw [e, hy] at nc'; cases nc'
        refine ⟨_, s3 _ _ hy, m0, by omega, by omega, same_upd_of (sm2.trans s3) ntl, _, upd_same, M'.take (v % ((k : Int) + 1)).toNat ++ M[k] :: M'.drop (v % ((k : Int) + 1)).toNat, ?_, ?_, _, rfl⟩
        · rw [hid_hid]
          have am3 := am.imp fun _ _ h => h.mono (hid_mono (p := tl) s3)
          exact Al.append am3.take (show Al _ (M[k] :: _) (_ :: _) from ⟨⟨c, rfl, by rw [hid_ne ne]; exact upd_same⟩, am3.drop⟩)
        · refine (ins_perm _ _ _).trans ?_
          rw [List.take_add_one, er]
          exact pm.append_right [M[k]]
      · rintro σ H2 ⟨sm2, ys, M', hy, am, pm, z, rfl⟩
        rw [List.take_of_length_le (by omega)] at pm
        exact hN _ _ ⟨sm2, M', ⟨ys, hy, am.imp fun _ _ h => h.mono hid_sub⟩, pm, _, rfl⟩
    rintro _ H2 ⟨sm2, M1, hM1, pm, z, rfl⟩
    have lM1 : M1.length = n := by rw [pm.length_eq]; exact lM
    have row1 : ∀ r ∈ M1, r.length = n + 1 := fun r hr => ln.row r (pm.mem_iff.mp hr)
    have bd1 : ∀ r ∈ M1, ∀ x ∈ r, x.natAbs ≤ 2000 := fun r hr => ln.bd r (pm.mem_iff.mp hr)
    have nc1 : Bar.Nc M1 n := Bar.nc_sub ln.nc fun r hr => pm.mem_iff.mpr hr
    have fit1 : ∀ x d, (∀ r ∈ M, Bar.Fit n x d r) → ∀ r ∈ M1, Bar.Fit n x d r := fun x d h r hr => h r (pm.mem_iff.mp hr)
    obtain ⟨ys, hys, am⟩ := id hM1
    have ly := am.length
    change tSeq _ _ _ [some (.ref sa), some (.ref a), some (.ref tl), z, none, none, none, none] H2
    refine seq_gen (fun σ' H3 => H2 = H3 ∧ ∃ t : Nat, t < n ∧ σ' = [some (.ref sa), some (.ref a), some (.ref tl), z, some (.int (t : Int)), none, none, none]) ?_ (fun N hN => ?_)
    case refine_2 =>
      simp only [L2.start, Pr, tRev, tD1, tDPop1, tSl, tNoPart, tPart, rSlL, tDIn, tDNotIn, gSub, rSetL, tLst, tDNewK, tComp, L2.stC, tFor_eq, iList, iTup, iRng1, iRng2, iZip, iEnum, iDict, iStr, tChain, tSumV, tBM, rJoin, tJoined, jNil, jLit, jInt, jStr, tRaise, tDGet, tDGet2, tDGet1, sDPut, Option.join_some, List.getElem?_nil,  tSeq, tRet, tRetN, tIfS, tTest, tB, tOp, tUn, tVar, tC, tCB, tCons, tNil, tCall, tTupS, tAsg, gName, gNil, gCons, tPar, tNext, tDrop, tAnd, tOr, tNot, tAndV, tOrV, tNotV, tIf, rI, rI0, rU, rIxTH, rIxLH, rEqT, rNeT, rInT, rEq, rNe, scal, CPow, at0, at1, at2, List.map_cons, List.map_nil, List.length_cons, List.length_nil, Nat.reduceSub, Nat.reduceAdd, Nat.zero_add, List.replicate_zero, List.reduceReplicate, List.append_nil, List.nil_append, List.cons_append, List.getElem?_cons_zero, List.getElem?_cons_succ, List.set_cons_zero, List.set_cons_succ, Option.some.injEq, exists_eq_left', exists_eq_left, V.ref.injEq, V.int.injEq, V.bl.injEq, V.str.injEq, V.ty.injEq, HO.tup.injEq, HO.lst.injEq, List.cons.injEq, and_true, true_and, and_assoc, exists_and_left, decide_eq_true_eq, Bool.not_eq_true', decide_eq_false_iff_not, ite_true, ite_false, if_true, if_false, Int.reduceToNat, eq_self_iff_true, spC, hys]
      refine ⟨ns, sm2.seq hS, by decide, by decide, fun v => ⟨by omega, hN _ _ ⟨rfl, (v % (ys.length : Int)).toNat, ?_, ?_⟩⟩⟩
      · have := Int.emod_lt_of_pos v (show (0 : Int) < ys.length by omega)
        have := Int.emod_nonneg v (show (ys.length : Int) ≠ 0 by omega)
        omega
      · rw [Int.toNat_of_nonneg (Int.emod_nonneg v (show (ys.length : Int) ≠ 0 by omega))]
    rintro _ _ ⟨rfl, t, ht, rfl⟩
    change tSeq _ _ _ [some (.ref sa), some (.ref a), some (.ref tl), z, some (.int (t : Int)), none, none, none] H2
    refine seq_gen (fun σ' H3 => Same H2 H3 ∧ ∃ f : Int, f ≠ 0 ∧ f.natAbs ≤ 1000000 ∧ σ' = [some (.ref sa), some (.ref a), some (.ref tl), z, some (.int (t : Int)), some (.int f), none, none]) ?_ (fun N hN => ?_)
    case refine_2 =>
      simp only [L2.start, Pr, tRev, tD1, tDPop1, tSl, tNoPart, tPart, rSlL, tDIn, tDNotIn, gSub, rSetL, tLst, tDNewK, tComp, L2.stC, tFor_eq, iList, iTup, iRng1, iRng2, iZip, iEnum, iDict, iStr, tChain, tSumV, tBM, rJoin, tJoined, jNil, jLit, jInt, jStr, tRaise, tDGet, tDGet2, tDGet1, sDPut, Option.join_some, List.getElem?_nil,  tSeq, tRet, tRetN, tIfS, tTest, tB, tOp, tUn, tVar, tC, tCB, tCons, tNil, tCall, tTupS, tAsg, gName, gNil, gCons, tPar, tNext, tDrop, tAnd, tOr, tNot, tAndV, tOrV, tNotV, tIf, rI, rI0, rU, rIxTH, rIxLH, rEqT, rNeT, rInT, rEq, rNe, scal, CPow, at0, at1, at2, List.map_cons, List.map_nil, List.length_cons, List.length_nil, Nat.reduceSub, Nat.reduceAdd, Nat.zero_add, List.replicate_zero, List.reduceReplicate, List.append_nil, List.nil_append, List.cons_append, List.getElem?_cons_zero, List.getElem?_cons_succ, List.set_cons_zero, List.set_cons_succ, Option.some.injEq, exists_eq_left', exists_eq_left, V.ref.injEq, V.int.injEq, V.bl.injEq, V.str.injEq, V.ty.injEq, HO.tup.injEq, HO.lst.injEq, List.cons.injEq, and_true, true_and, and_assoc, exists_and_left, decide_eq_true_eq, Bool.not_eq_true', decide_eq_false_iff_not, ite_true, ite_false, if_true, if_false, Int.reduceToNat, eq_self_iff_true, spC]
      refine ⟨by decide, by decide, by decide, by decide, fun m nm => ⟨ns, (sm2.trans (same_upd nm)).seq hS, by decide, by decide, fun v => ⟨by decide, _, upd_same, ?_⟩⟩⟩
      have m0 := Int.emod_nonneg v (show (5 : Int) ≠ 0 by decide)
      have m1 := Int.emod_lt_of_pos v (show (0 : Int) < 5 by decide)
      have m3 : v % 5 = 0 ∨ v % 5 = 1 ∨ v % 5 = 2 ∨ v % 5 = 3 ∨ v % 5 = 4 := by omega
      rcases m3 with e | e | e | e | e <;> rw [e]
      · exact ⟨_, at0, hN _ _ ⟨same_upd nm, 2, by decide, by decide, rfl⟩⟩
      · exact ⟨_, at1, hN _ _ ⟨same_upd nm, -1, by decide, by decide, rfl⟩⟩
      · exact ⟨_, at2, hN _ _ ⟨same_upd nm, 3, by decide, by decide, rfl⟩⟩
      · exact ⟨_, atI_nat (j := 3) rfl, hN _ _ ⟨same_upd nm, -7, by decide, by decide, rfl⟩⟩
      · exact ⟨_, atI_nat (j := 4) rfl, hN _ _ ⟨same_upd nm, 10 ^ 6, by decide, by decide, rfl⟩⟩
    rintro _ H3 ⟨sm3, f', f0, fb, rfl⟩
    have hys3 := sm3 _ _ hys
    have am3 := am.imp fun _ _ h => h.mono sm3
    have et : M1[t]? = some M1[t] := List.getElem?_eq_getElem (by omega)
    obtain ⟨y, ay, hyr⟩ := at_row am3 et
    have lr := row1 _ (List.mem_of_getElem? et)
    change tSeq _ _ _ [some (.ref sa), some (.ref a), some (.ref tl), z, some (.int (t : Int)), some (.int f'), none, none] H3
    refine seq_gen (fun σ' H4 => Same H H4 ∧ ∃ M2, MtH H4 tl M2 ∧ M2.length = n ∧ (∀ r ∈ M2, r.length = n + 1) ∧ (∀ r ∈ M2, ∀ x ∈ r, x.natAbs ≤ 2000000000) ∧ Bar.Nc M2 n ∧ (∀ x d, (∀ r ∈ M, Bar.Fit n x d r) → ∀ r ∈ M2, Bar.Fit n x d r) ∧ σ' = [some (.ref sa), some (.ref a), some (.ref tl), z, some (.int (t : Int)), some (.int f'), none, none]) ?_ (fun N hN => ?_)
    case refine_2 =>
      simp only [L2.start, Pr, tRev, tD1, tDPop1, tSl, tNoPart, tPart, rSlL, tDIn, tDNotIn, gSub, rSetL, tLst, tDNewK, tComp, L2.stC, tFor_eq, iList, iTup, iRng1, iRng2, iZip, iEnum, iDict, iStr, tChain, tSumV, tBM, rJoin, tJoined, jNil, jLit, jInt, jStr, tRaise, tDGet, tDGet2, tDGet1, sDPut, Option.join_some, List.getElem?_nil,  tSeq, tRet, tRetN, tIfS, tTest, tB, tOp, tUn, tVar, tC, tCB, tCons, tNil, tCall, tTupS, tAsg, gName, gNil, gCons, tPar, tNext, tDrop, tAnd, tOr, tNot, tAndV, tOrV, tNotV, tIf, rI, rI0, rU, rIxTH, rIxLH, rEqT, rNeT, rInT, rEq, rNe, scal, CPow, at0, at1, at2, List.map_cons, List.map_nil, List.length_cons, List.length_nil, Nat.reduceSub, Nat.reduceAdd, Nat.zero_add, List.replicate_zero, List.reduceReplicate, List.append_nil, List.nil_append, List.cons_append, List.getElem?_cons_zero, List.getElem?_cons_succ, List.set_cons_zero, List.set_cons_succ, Option.some.injEq, exists_eq_left', exists_eq_left, V.ref.injEq, V.int.injEq, V.bl.injEq, V.str.injEq, V.ty.injEq, HO.tup.injEq, HO.lst.injEq, List.cons.injEq, and_true, true_and, and_assoc, exists_and_left, decide_eq_true_eq, Bool.not_eq_true', decide_eq_false_iff_not, ite_true, ite_false, if_true, if_false, Int.reduceToNat, eq_self_iff_true, hys3, ay]
      refine ⟨⟨_, SqL.of hyr⟩, ?_⟩
      have S' : Src (Itl K y) (Same H3) M1[t].length (fun i x H H3 => H3 = H ∧ (List.map V.int M1[t])[i]? = some x) := by
        have := src_list (K := K) (a := y) (xs := List.map V.int M1[t]) (Ok := Same H3) (fun H2 s2 => SqL.of (s2 _ _ hyr))
        rwa [List.length_map] at this
      refine comp_ints M1[t] (fun v => some (f' * v)) S' (fun _ _ _ _ h => h.1) (by omega) ?_ ?_
      · rintro i v x ev ⟨_, ex⟩ Y N y1 _
        rw [List.getElem?_map, ev] at ex
        cases ex
        simp only [L2.start, Pr, tRev, tD1, tDPop1, tSl, tNoPart, tPart, rSlL, tDIn, tDNotIn, gSub, rSetL, tLst, tDNewK, tComp, L2.stC, tFor_eq, iList, iTup, iRng1, iRng2, iZip, iEnum, iDict, iStr, tChain, tSumV, tBM, rJoin, tJoined, jNil, jLit, jInt, jStr, tRaise, tDGet, tDGet2, tDGet1, sDPut, Option.join_some, List.getElem?_nil,  tSeq, tRet, tRetN, tIfS, tTest, tB, tOp, tUn, tVar, tC, tCB, tCons, tNil, tCall, tTupS, tAsg, gName, gNil, gCons, tPar, tNext, tDrop, tAnd, tOr, tNot, tAndV, tOrV, tNotV, tIf, rI, rI0, rU, rIxTH, rIxLH, rEqT, rNeT, rInT, rEq, rNe, scal, CPow, at0, at1, at2, List.map_cons, List.map_nil, List.length_cons, List.length_nil, Nat.reduceSub, Nat.reduceAdd, Nat.zero_add, List.replicate_zero, List.reduceReplicate, List.append_nil, List.nil_append, List.cons_append, List.getElem?_cons_zero, List.getElem?_cons_succ, List.set_cons_zero, List.set_cons_succ, Option.some.injEq, exists_eq_left', exists_eq_left, V.ref.injEq, V.int.injEq, V.bl.injEq, V.str.injEq, V.ty.injEq, HO.tup.injEq, HO.lst.injEq, List.cons.injEq, and_true, true_and, and_assoc, exists_and_left, decide_eq_true_eq, Bool.not_eq_true', decide_eq_false_iff_not, ite_true, ite_false, if_true, if_false, Int.reduceToNat, eq_self_iff_true, tYes]
        exact ⟨mulOkL (by omega) (by omega), y1 _ rfl⟩
      · intro D n3 n4
        rw [show List.filterMap (fun v : Int => some (f' * v)) M1[t] = M1[t].map fun v => f' * v from by rw [List.filterMap_eq_map']]
        have s4 := same_upd (o := .lst (List.map V.int (M1[t].map fun v => f' * v))) n4
        have hD : upd H3 D (.lst (List.map V.int (M1[t].map fun v => f' * v))) D = some (.lst (List.map V.int (M1[t].map fun v => f' * v))) := upd_same
        generalize upd H3 D (.lst (List.map V.int (M1[t].map fun v => f' * v))) = H4 at *
        have hys4 := s4 _ _ hys3
        have am4 := am3.imp fun _ _ h => h.mono s4
        refine ⟨_, hys4, t, ixN_nat (by omega), hN _ _ ⟨same_upd_of (sm2.trans (sm3.trans s4)) ntl, _, MtH.set hys4 am4 hD (MtH.ne hys4 am4 (by omega) hD), by rw [List.length_set]; exact lM1, fun r hr => ?_, fun r hr => ?_, Bar.nc_scale nc1 et f0, fun x d h r hr => ?_, rfl⟩⟩
        · rcases List.mem_or_eq_of_mem_set hr with h | h
          · exact row1 r h
          · rw [h, List.length_map]; exact lr
        · rcases List.mem_or_eq_of_mem_set hr with h | h
          · exact fun x hx => Nat.le_trans (bd1 r h x hx) (by decide)
          · intro x hx
            rw [h] at hx
            obtain ⟨w', hw, rfl⟩ := List.mem_map.mp hx
            rw [Int.natAbs_mul]
            exact Nat.le_trans (Nat.mul_le_mul fb (bd1 _ (List.getElem_mem _) w' hw)) (by decide)
        · rcases List.mem_or_eq_of_mem_set hr with h' | h'
          · exact fit1 x d h r h'
          · rw [h']; exact (fit1 x d h _ (List.getElem_mem _)).scale
    rintro _ H4 ⟨sm4, M2, hM2, lM2, row2, bd2, nc2, fit2, rfl⟩
    obtain ⟨us, hus, au⟩ := id hM2
    have lu := au.length
    change tSeq _ _ _ [some (.ref sa), some (.ref a), some (.ref tl), z, some (.int (t : Int)), some (.int f'), none, none] H4
    refine seq_gen (fun σ' H5 => H4 = H5 ∧ ∃ o : Nat, o < n ∧ σ' = [some (.ref sa), some (.ref a), some (.ref tl), z, some (.int (t : Int)), some (.int f'), some (.int (o : Int)), none]) ?_ (fun N hN => ?_)
    case refine_2 =>
      simp only [L2.start, Pr, tRev, tD1, tDPop1, tSl, tNoPart, tPart, rSlL, tDIn, tDNotIn, gSub, rSetL, tLst, tDNewK, tComp, L2.stC, tFor_eq, iList, iTup, iRng1, iRng2, iZip, iEnum, iDict, iStr, tChain, tSumV, tBM, rJoin, tJoined, jNil, jLit, jInt, jStr, tRaise, tDGet, tDGet2, tDGet1, sDPut, Option.join_some, List.getElem?_nil,  tSeq, tRet, tRetN, tIfS, tTest, tB, tOp, tUn, tVar, tC, tCB, tCons, tNil, tCall, tTupS, tAsg, gName, gNil, gCons, tPar, tNext, tDrop, tAnd, tOr, tNot, tAndV, tOrV, tNotV, tIf, rI, rI0, rU, rIxTH, rIxLH, rEqT, rNeT, rInT, rEq, rNe, scal, CPow, at0, at1, at2, List.map_cons, List.map_nil, List.length_cons, List.length_nil, Nat.reduceSub, Nat.reduceAdd, Nat.zero_add, List.replicate_zero, List.reduceReplicate, List.append_nil, List.nil_append, List.cons_append, List.getElem?_cons_zero, List.getElem?_cons_succ, List.set_cons_zero, List.set_cons_succ, Option.some.injEq, exists_eq_left', exists_eq_left, V.ref.injEq, V.int.injEq, V.bl.injEq, V.str.injEq, V.ty.injEq, HO.tup.injEq, HO.lst.injEq, List.cons.injEq, and_true, true_and, and_assoc, exists_and_left, decide_eq_true_eq, Bool.not_eq_true', decide_eq_false_iff_not, ite_true, ite_false, if_true, if_false, Int.reduceToNat, eq_self_iff_true, spC, hus]
      refine ⟨ns, sm4.seq hS, by decide, by decide, fun v => ⟨by omega, hN _ _ ⟨rfl, (v % (us.length : Int)).toNat, ?_, ?_⟩⟩⟩
      · have := Int.emod_lt_of_pos v (show (0 : Int) < us.length by omega)
        have := Int.emod_nonneg v (show (us.length : Int) ≠ 0 by omega)
        omega
      · rw [Int.toNat_of_nonneg (Int.emod_nonneg v (show (us.length : Int) ≠ 0 by omega))]
    rintro _ _ ⟨rfl, o, ho, rfl⟩
    change tSeq _ _ _ [some (.ref sa), some (.ref a), some (.ref tl), z, some (.int (t : Int)), some (.int f'), some (.int (o : Int)), none] H4
    refine seq_gen (fun σ' H5 => Same H H5 ∧ ∃ M2, MtH H5 tl M2 ∧ Ln M2 n 1000000000000 ∧ (∀ x d, (∀ r ∈ M, Bar.Fit n x d r) → ∀ r ∈ M2, Bar.Fit n x d r) ∧ ∃ z7, σ' = [some (.ref sa), some (.ref a), some (.ref tl), z, some (.int (t : Int)), some (.int f'), some (.int (o : Int)), z7]) ?_ (fun N hN => ?_)
    case refine_2 =>
      have no := hN _ _ ⟨sm4, M2, hM2, ⟨lM2, row2, fun r hr x hx => Nat.le_trans (bd2 r hr x hx) (by decide), n1, n5, nc2⟩, fit2, none, rfl⟩
      have et2 : M2[t]? = some M2[t] := List.getElem?_eq_getElem (by omega)
      have eo2 : M2[o]? = some M2[o] := List.getElem?_eq_getElem (by omega)
      obtain ⟨yt, at', hyt⟩ := at_row au et2
      obtain ⟨yo, ao, hyo⟩ := at_row au eo2
      have lrt := row2 _ (List.mem_of_getElem? et2)
      have lro := row2 _ (List.mem_of_getElem? eo2)
      simp only [L2.start, Pr, tRev, tD1, tDPop1, tSl, tNoPart, tPart, rSlL, tDIn, tDNotIn, gSub, rSetL, tLst, tDNewK, tComp, L2.stC, tFor_eq, iList, iTup, iRng1, iRng2, iZip, iEnum, iDict, iStr, tChain, tSumV, tBM, rJoin, tJoined, jNil, jLit, jInt, jStr, tRaise, tDGet, tDGet2, tDGet1, sDPut, Option.join_some, List.getElem?_nil,  tSeq, tRet, tRetN, tIfS, tTest, tB, tOp, tUn, tVar, tC, tCB, tCons, tNil, tCall, tTupS, tAsg, gName, gNil, gCons, tPar, tNext, tDrop, tAnd, tOr, tNot, tAndV, tOrV, tNotV, tIf, rI, rI0, rU, rIxTH, rIxLH, rEqT, rNeT, rInT, rEq, rNe, scal, CPow, at0, at1, at2, List.map_cons, List.map_nil, List.length_cons, List.length_nil, Nat.reduceSub, Nat.reduceAdd, Nat.zero_add, List.replicate_zero, List.reduceReplicate, List.append_nil, List.nil_append, List.cons_append, List.getElem?_cons_zero, List.getElem?_cons_succ, List.set_cons_zero, List.set_cons_succ, Option.some.injEq, exists_eq_left', exists_eq_left, V.ref.injEq, V.int.injEq, V.bl.injEq, V.str.injEq, V.ty.injEq, HO.tup.injEq, HO.lst.injEq, List.cons.injEq, and_true, true_and, and_assoc, exists_and_left, decide_eq_true_eq, Bool.not_eq_true', decide_eq_false_iff_not, ite_true, ite_false, if_true, if_false, Int.reduceToNat, eq_self_iff_true, spC, hus, at', ao]
      refine ite2 (fun c => ⟨ns, sm4.seq hS, by decide, by decide, fun v => ⟨by decide, ⟨_, SqL.of hyo⟩, ⟨_, SqL.of hyt⟩, ?_⟩⟩) (fun c => no)
      have c' : o ≠ t := by omega
      have m0 := Int.emod_nonneg v (show (9 : Int) ≠ 0 by decide)
      have m1 := Int.emod_lt_of_pos v (show (0 : Int) < 9 by decide)
      have bm : (v % 9 - 4).natAbs ≤ 4 := by omega
      generalize v % 9 - 4 = mo at *
      refine comp_map2 (K := K) (src_zip (fun H' s' => SqL.of (s' _ _ hyo)) (fun H' s' => SqL.of (s' _ _ hyt))) (fun j u v _ => ∃ o1 o2, M2[o][j]? = some o1 ∧ M2[t][j]? = some o2 ∧ u = .int o1 ∧ v = .int o2) ?_ (by rw [List.length_map, List.length_map]; omega) (fun j y _ => ∀ o1 o2, M2[o][j]? = some o1 → M2[t][j]? = some o2 → y = .int (o1 + mo * o2)) (fun _ _ _ _ _ h => h) ?_ ?_
      · rintro j v H6 H7 hj s6 ⟨t', x, y, nt, rfl, ex, ey', rfl⟩
        rw [List.getElem?_map] at ex ey'
        obtain ⟨o1, e1, rfl⟩ := Option.map_eq_some_iff.mp ex
        obtain ⟨o2, e2, rfl⟩ := Option.map_eq_some_iff.mp ey'
        exact ⟨same_upd nt, t', _, _, rfl, SqT.of upd_same, o1, o2, e1, e2, rfl, rfl⟩
      · rintro j u v H6 Q2 hj s6 ⟨o1, o2, e1, e2, rfl, rfl⟩ kq
        simp only [L2.start, Pr, tRev, tD1, tDPop1, tSl, tNoPart, tPart, rSlL, tDIn, tDNotIn, gSub, rSetL, tLst, tDNewK, tComp, L2.stC, tFor_eq, iList, iTup, iRng1, iRng2, iZip, iEnum, iDict, iStr, tChain, tSumV, tBM, rJoin, tJoined, jNil, jLit, jInt, jStr, tRaise, tDGet, tDGet2, tDGet1, sDPut, Option.join_some, List.getElem?_nil,  tSeq, tRet, tRetN, tIfS, tTest, tB, tOp, tUn, tVar, tC, tCB, tCons, tNil, tCall, tTupS, tAsg, gName, gNil, gCons, tPar, tNext, tDrop, tAnd, tOr, tNot, tAndV, tOrV, tNotV, tIf, rI, rI0, rU, rIxTH, rIxLH, rEqT, rNeT, rInT, rEq, rNe, scal, CPow, at0, at1, at2, List.map_cons, List.map_nil, List.length_cons, List.length_nil, Nat.reduceSub, Nat.reduceAdd, Nat.zero_add, List.replicate_zero, List.reduceReplicate, List.append_nil, List.nil_append, List.cons_append, List.getElem?_cons_zero, List.getElem?_cons_succ, List.set_cons_zero, List.set_cons_succ, Option.some.injEq, exists_eq_left', exists_eq_left, V.ref.injEq, V.int.injEq, V.bl.injEq, V.str.injEq, V.ty.injEq, HO.tup.injEq, HO.lst.injEq, List.cons.injEq, and_true, true_and, and_assoc, exists_and_left, decide_eq_true_eq, Bool.not_eq_true', decide_eq_false_iff_not, ite_true, ite_false, if_true, if_false, Int.reduceToNat, eq_self_iff_true]
        refine ⟨mulOkL (by omega) (by omega), kq _ _ (Same.refl _) fun _ _ f1 f2 => ?_⟩
        rw [e1] at f1
        rw [e2] at f2
        cases f1
        cases f2
        rfl
      · intro zs H6 s6 lz hz D n3 n4
        have ez := ints_zip (f := fun o1 o2 => o1 + mo * o2) lz hz
        have s7 := s6.trans (same_upd (o := .lst zs) n4)
        have hD : upd H6 D (.lst zs) D = some (.lst (List.map V.int (List.zipWith (fun o1 o2 => o1 + mo * o2) M2[o] M2[t]))) := by rw [upd_same, ez]
        generalize upd H6 D (.lst zs) = H7 at *
        have hus7 := s7 _ _ hus
        have au7 := au.imp fun _ _ h => h.mono s7
        refine ⟨_, hus7, o, ixN_nat (by omega), hN _ _ ⟨same_upd_of (sm4.trans s7) ntl, _, MtH.set hus7 au7 hD (MtH.ne hus7 au7 (by omega) hD), ⟨by rw [List.length_set]; exact lM2, fun r hr => ?_, fun r hr => ?_, n1, n5, Bar.nc_add' nc2 eo2 et2 (by omega) (by omega) (by omega)⟩, fun x d h r hr => ?_, _, rfl⟩⟩
        · rcases List.mem_or_eq_of_mem_set hr with h | h
          · exact row2 r h
          · rw [h, List.length_zipWith]; omega
        · rcases List.mem_or_eq_of_mem_set hr with h | h
          · exact fun x hx => Nat.le_trans (bd2 r h x hx) (by decide)
          · intro x hx
            rw [h] at hx
            obtain ⟨i, hi, rfl⟩ := List.getElem_of_mem hx
            rw [List.getElem_zipWith]
            rw [List.length_zipWith] at hi
            have h1 := bd2 _ (List.getElem_mem (show o < M2.length by omega)) _ (List.getElem_mem (show i < M2[o].length by omega))
            have h2 := bd2 _ (List.getElem_mem (show t < M2.length by omega)) _ (List.getElem_mem (show i < M2[t].length by omega))
            have h3 := Int.natAbs_add_le M2[o][i] (mo * M2[t][i])
            have h4 : (mo * M2[t][i]).natAbs ≤ 4 * 2000000000 := by rw [Int.natAbs_mul]; exact Nat.mul_le_mul bm h2
            omega
        · rcases List.mem_or_eq_of_mem_set hr with h' | h'
          · exact fit2 x d h r h'
          · rw [h']
            exact Bar.Fit.add (fit2 x d h _ (List.getElem_mem _)) (fit2 x d h _ (List.getElem_mem _)) lro lrt
    rintro _ H5 ⟨sm5, M3, hM3, ln3, fit3, z7, rfl⟩
    simp only [L2.start, Pr, tRev, tD1, tDPop1, tSl, tNoPart, tPart, rSlL, tDIn, tDNotIn, gSub, rSetL, tLst, tDNewK, tComp, L2.stC, tFor_eq, iList, iTup, iRng1, iRng2, iZip, iEnum, iDict, iStr, tChain, tSumV, tBM, rJoin, tJoined, jNil, jLit, jInt, jStr, tRaise, tDGet, tDGet2, tDGet1, sDPut, Option.join_some, List.getElem?_nil,  tSeq, tRet, tRetN, tIfS, tTest, tB, tOp, tUn, tVar, tC, tCB, tCons, tNil, tCall, tTupS, tAsg, gName, gNil, gCons, tPar, tNext, tDrop, tAnd, tOr, tNot, tAndV, tOrV, tNotV, tIf, rI, rI0, rU, rIxTH, rIxLH, rEqT, rNeT, rInT, rEq, rNe, scal, CPow, at0, at1, at2, List.map_cons, List.map_nil, List.length_cons, List.length_nil, Nat.reduceSub, Nat.reduceAdd, Nat.zero_add, List.replicate_zero, List.reduceReplicate, List.append_nil, List.nil_append, List.cons_append, List.getElem?_cons_zero, List.getElem?_cons_succ, List.set_cons_zero, List.set_cons_succ, Option.some.injEq, exists_eq_left', exists_eq_left, V.ref.injEq, V.int.injEq, V.bl.injEq, V.str.injEq, V.ty.injEq, HO.tup.injEq, HO.lst.injEq, List.cons.injEq, and_true, true_and, and_assoc, exists_and_left, decide_eq_true_eq, Bool.not_eq_true', decide_eq_false_iff_not, ite_true, ite_false, if_true, if_false, Int.reduceToNat, eq_self_iff_true]
    exact kk _ M3 _ sm5 hM3 ln3 fit3
theorem sc__law_swapped : FnScope ["_law_some", "_law_one", "_law_other", "_law_fresh"] ["_law_some", "_law_one", "_law_other"] (defScope (top 23)) := ⟨rfl, rfl, rfl, by decide +kernel, rfl, by decide +kernel, by decide +kernel⟩
theorem ok_tw (T : Txt K mg q_NoShare) : Cal P w K mg base (CX1 P w) 1 "_law_swapped" ["_law_some", "_law_one", "_law_other"] spTw := by
  refine T.d__law_swapped.cal (fun _ _ _ _ _ _ us hl => match us, hl with | [_, _, _], _ => rfl) fun f fd F => F.okC sc__law_swapped (fun vs H Q E h => ?_) (fun cdv A outer s H vs Q E hr h => ?_)
  · obtain ⟨_, _, _, _, rfl, _⟩ := h; rfl
  · obtain ⟨a, us, i, j, rfl, ha, hi, hj, l64, kk⟩ := h
    have nd := sc__law_swapped.nd
    refine ⟨_, (pss_cons (ps_set (i := 3) nd rfl (Or.inl rfl) (pe_callTy (call_list_ofK (K := K)) (by rfl) T.z_list rfl (pa_cons (pv 0) pa_nil (se rfl)) (he := se rfl) (hpl := na rfl)))
    (pss_cons (ps_asg (pe_ix ix_listH (pv 0) (pv 2) (fun _ _ => rfl)) (pg_sub (pv 3) (pv 1) set_list))
    (pss_cons (ps_asg (pe_ix ix_listH (pv 0) (pv 1) (fun _ _ => rfl)) (pg_sub (pv 3) (pv 2) set_list))
    (pss_one (ps_ret (pv 3)))))), ?_⟩
    have ei : atI us (i : Int) = some (us.getD i .non) := atI_nat (by rw [List.getD_eq_getElem?_getD, List.getElem?_eq_getElem hi]; rfl)
    have ej : atI us (j : Int) = some (us.getD j .non) := atI_nat (by rw [List.getD_eq_getElem?_getD, List.getElem?_eq_getElem hj]; rfl)
    simp only [L2.start, Pr, tRev, tD1, tDPop1, tSl, tNoPart, tPart, rSlL, tDIn, tDNotIn, gSub, rSetL, tLst, tDNewK, tComp, L2.stC, tFor_eq, iList, iTup, iRng1, iRng2, iZip, iEnum, iDict, iStr, tChain, tSumV, tBM, rJoin, tJoined, jNil, jLit, jInt, jStr, tRaise, tDGet, tDGet2, tDGet1, sDPut, Option.join_some, List.getElem?_nil,  tSeq, tRet, tRetN, tIfS, tTest, tB, tOp, tUn, tVar, tC, tCB, tCons, tNil, tCall, tTupS, tAsg, gName, gNil, gCons, tPar, tNext, tDrop, tAnd, tOr, tNot, tAndV, tOrV, tNotV, tIf, rI, rI0, rU, rIxTH, rIxLH, rEqT, rNeT, rInT, rEq, rNe, scal, CPow, at0, at1, at2, List.map_cons, List.map_nil, List.length_cons, List.length_nil, Nat.reduceSub, Nat.reduceAdd, Nat.zero_add, List.replicate_zero, List.reduceReplicate, List.append_nil, List.nil_append, List.cons_append, List.getElem?_cons_zero, List.getElem?_cons_succ, List.set_cons_zero, List.set_cons_succ, Option.some.injEq, exists_eq_left', exists_eq_left, V.ref.injEq, V.int.injEq, V.bl.injEq, V.str.injEq, V.ty.injEq, HO.tup.injEq, HO.lst.injEq, List.cons.injEq, and_true, true_and, and_assoc, exists_and_left, decide_eq_true_eq, Bool.not_eq_true', decide_eq_false_iff_not, ite_true, ite_false, if_true, if_false, Int.reduceToNat, eq_self_iff_true, ha]
    refine ⟨_, .inl (SqL.of ha), fun m nm => ?_⟩
    have sm := same_upd (o := .lst us) nm
    have hm : upd H m (.lst us) m = some (.lst us) := upd_same
    generalize upd H m (.lst us) = H1 at *
    have am : a ≠ m := fun e => by rw [e, nm] at ha; cases ha
    simp only [L2.start, Pr, tRev, tD1, tDPop1, tSl, tNoPart, tPart, rSlL, tDIn, tDNotIn, gSub, rSetL, tLst, tDNewK, tComp, L2.stC, tFor_eq, iList, iTup, iRng1, iRng2, iZip, iEnum, iDict, iStr, tChain, tSumV, tBM, rJoin, tJoined, jNil, jLit, jInt, jStr, tRaise, tDGet, tDGet2, tDGet1, sDPut, Option.join_some, List.getElem?_nil,  tSeq, tRet, tRetN, tIfS, tTest, tB, tOp, tUn, tVar, tC, tCB, tCons, tNil, tCall, tTupS, tAsg, gName, gNil, gCons, tPar, tNext, tDrop, tAnd, tOr, tNot, tAndV, tOrV, tNotV, tIf, rI, rI0, rU, rIxTH, rIxLH, rEqT, rNeT, rInT, rEq, rNe, scal, CPow, at0, at1, at2, List.map_cons, List.map_nil, List.length_cons, List.length_nil, Nat.reduceSub, Nat.reduceAdd, Nat.zero_add, List.replicate_zero, List.reduceReplicate, List.append_nil, List.nil_append, List.cons_append, List.getElem?_cons_zero, List.getElem?_cons_succ, List.set_cons_zero, List.set_cons_succ, Option.some.injEq, exists_eq_left', exists_eq_left, V.ref.injEq, V.int.injEq, V.bl.injEq, V.str.injEq, V.ty.injEq, HO.tup.injEq, HO.lst.injEq, List.cons.injEq, and_true, true_and, and_assoc, exists_and_left, decide_eq_true_eq, Bool.not_eq_true', decide_eq_false_iff_not, ite_true, ite_false, if_true, if_false, Int.reduceToNat, eq_self_iff_true, sm _ _ ha, ej]
    refine ⟨_, hm, i, ixN_nat (by omega), _, by rw [upd_ne am]; exact sm _ _ ha, _, ei, _, upd_same, j, ixN_nat (by rw [List.length_set]; omega), ?_⟩
    exact kk _ _ (same_upd_of (same_upd_of sm nm) nm) nm upd_same
theorem sc_law : FnScope ["_law_script", "_law_n", "_law_rows_here", "_law_lines", "_law_first", "_law_one", "_law_other", "_law_swapped_here", "_law_beside", "_law_both", "_law_second"] ["_law_script"] (defScope (top 24)) := ⟨rfl, rfl, rfl, by decide +kernel, rfl, by decide +kernel, by decide +kernel⟩
theorem ok_law (T : Txt K mg q_NoShare) {f : Addr} {fd : FuncData} (F : Fun K "law" "law" (top 24) f fd) : FnOk P w K mg base (CX1 P w) 6 f fd ["_law_script"] (spLaw K) := by
  have c__law_cell : Cal P w K mg base (CX1 P w) 1 "_law_cell" ["_law_script", "_law_k"] (spC K) := ok_cell T
  have c__law_rows : Cal P w K mg base (CX1 P w) 3 "_law_rows" ["_law_script", "_law_n"] (spRws K) := ok_rws T
  have c__law_answer : Cal P w K mg base (CX1 P w) 5 "_law_answer" ["_law_lines"] spAns := ok_ans T
  have c__law_changed : Cal P w K mg base (CX1 P w) 2 "_law_changed" ["_law_script", "_law_lines"] (spChg K) := ok_chg T
  have c__law_swapped : Cal P w K mg base (CX1 P w) 1 "_law_swapped" ["_law_some", "_law_one", "_law_other"] spTw := ok_tw T
  have c_plus : Cal P w K mg base (CX1 P w) 3 "plus" ["one", "other"] spPlu := ok_plus T
  refine F.okC sc_law (fun vs H Q E h => ?_) (fun cdv A outer s H vs Q E hr h => ?_)
  · obtain ⟨_, _, rfl, _⟩ := h; rfl
  · obtain ⟨sa, ns, rfl, hS, hlen, kk⟩ := h
    have nd := sc_law.nd
    refine ⟨_, (pss_cons (ps_set (i := 1) nd rfl (Or.inl rfl) (pe_op op_add pe_int (pe_op op_modB (pe_cal c__law_cell (hr.mono (by decide)) rfl strictP.pass (pa_cons (pv 0) (pa_cons pe_int pa_nil (se rfl)) (se rfl)) (he := se rfl) (hpl := na rfl)) pe_int)))
    (pss_cons (ps_set (i := 2) nd rfl (Or.inr rfl) (pe_cal c__law_rows (hr.mono (by decide)) rfl strictP.pass (pa_cons (pv 0) (pa_cons (pv 1) pa_nil (se rfl)) (se rfl)) (he := se rfl) (hpl := na rfl)))
    (pss_cons (ps_set (i := 3) nd rfl (Or.inr rfl) (pe_comp rfl (N := ["_law_script", "_law_n", "_law_rows_here", "_law_lines", "_law_first", "_law_one", "_law_other", "_law_swapped_here", "_law_beside", "_law_both", "_law_second"]) (so := defScope (top 24)) (N' := ["_law_k", "_law_script", "_law_rows_here"]) (k := 1) (fr := [0, 2]) rfl rfl ⟨rfl, by decide +kernel, by decide +kernel, by decide +kernel, rfl, by decide +kernel, by decide +kernel⟩ (pi_range1 rfl T.z_range (pa_cons (pv 1) pa_nil (se rfl))) (fun _ _ _ _ _ => (pg_name (i := 0) (show (["_law_k", "_law_script", "_law_rows_here"] : List Str).Nodup by decide +kernel) rfl (Or.inl rfl))) (fun _ _ _ _ _ => pts_nil)
      (fun _ _ _ _ _ => (pe_op op_cat (pe_ix ix_listH (pv 2) (pv 0) (fun _ _ => rfl)) (pe_lst (pa_cons (pe_op op_sub (pe_op op_modB (pe_cal c__law_cell (hr.mono (by decide)) rfl strictP.pass (pa_cons (pv 1) (pa_cons (pe_op op_add pe_int (pv 0)) pa_nil (se rfl)) (se rfl)) (he := se rfl) (hpl := na rfl)) pe_int) pe_int) pa_nil (se rfl)))))))
    (pss_cons (ps_set (i := 4) nd rfl (Or.inl rfl) (pe_cal c__law_answer (hr.mono (by decide)) rfl strictP.pass (pa_cons (pv 3) pa_nil (se rfl)) (he := se rfl) (hpl := na rfl)))
    (pss_cons (ps_if (PW.pt (pw_or (pt_cmpR op_isN (pv 4) pe_non (nomark _)) (pw_or1 (pt_cmpR (op_neD hr.units) (pe_cal c__law_answer (hr.mono (by decide)) rfl strictP.pass (pa_cons (pe_cal c__law_changed (hr.mono (by decide)) rfl strictP.pass (pa_cons (pv 0) (pa_cons (pv 3) pa_nil (se rfl)) (se rfl)) (he := se rfl) (hpl := na rfl)) pa_nil (se rfl)) (he := se rfl) (hpl := na rfl)) (pv 4) (nomark _))))) (pss_one (ps_ret pe_bl))
      pss_nil)
    (pss_cons (ps_set (i := 5) nd rfl (Or.inr rfl) (pe_op op_modB (pe_cal c__law_cell (hr.mono (by decide)) rfl strictP.pass (pa_cons (pv 0) (pa_cons pe_int pa_nil (se rfl)) (se rfl)) (he := se rfl) (hpl := na rfl)) (pv 1)))
    (pss_cons (ps_set (i := 6) nd rfl (Or.inr rfl) (pe_op op_modB (pe_op op_fdivB (pe_cal c__law_cell (hr.mono (by decide)) rfl strictP.pass (pa_cons (pv 0) (pa_cons pe_int pa_nil (se rfl)) (se rfl)) (he := se rfl) (hpl := na rfl)) pe_int) (pv 1)))
    (pss_cons (ps_set (i := 7) nd rfl (Or.inl rfl) (pe_cal c__law_answer (hr.mono (by decide)) rfl strictP.pass (pa_cons (pe_comp rfl (N := ["_law_script", "_law_n", "_law_rows_here", "_law_lines", "_law_first", "_law_one", "_law_other", "_law_swapped_here", "_law_beside", "_law_both", "_law_second"]) (so := defScope (top 24)) (N' := ["_law_line", "_law_one", "_law_other"]) (k := 1) (fr := [5, 6]) rfl rfl ⟨rfl, by decide +kernel, by decide +kernel, by decide +kernel, rfl, by decide +kernel, by decide +kernel⟩ (pi_listK (K := K) (pe_cal c__law_changed (hr.mono (by decide)) rfl strictP.pass (pa_cons (pv 0) (pa_cons (pv 3) pa_nil (se rfl)) (se rfl)) (he := se rfl) (hpl := na rfl))) (fun _ _ _ _ _ => (pg_name (i := 0) (show (["_law_line", "_law_one", "_law_other"] : List Str).Nodup by decide +kernel) rfl (Or.inl rfl))) (fun _ _ _ _ _ => pts_nil)
      (fun _ _ _ _ _ => (pe_cal c__law_swapped (hr.mono (by decide)) rfl strictP.pass (pa_cons (pv 0) (pa_cons (pv 1) (pa_cons (pv 2) pa_nil (se rfl)) (se rfl)) (se rfl)) (he := se rfl) (hpl := na rfl)))) pa_nil (se rfl)) (he := se rfl) (hpl := na rfl)))
    (pss_cons (ps_if (PW.pt (pw_or (pt_cmpR op_isN (pv 7) pe_non (nomark _)) (pw_or1 (pt_cmpR (op_neD hr.units) (pv 7) (pe_cal c__law_swapped (hr.mono (by decide)) rfl strictP.pass (pa_cons (pv 4) (pa_cons (pv 5) (pa_cons (pv 6) pa_nil (se rfl)) (se rfl)) (se rfl)) (he := se rfl) (hpl := na rfl)) (nomark _))))) (pss_one (ps_ret pe_bl))
      pss_nil)
    (pss_cons (ps_if (pt_cmpR (op_neD hr.units) (pe_cal c__law_answer (hr.mono (by decide)) rfl strictP.pass (pa_cons (pe_comp rfl (N := ["_law_script", "_law_n", "_law_rows_here", "_law_lines", "_law_first", "_law_one", "_law_other", "_law_swapped_here", "_law_beside", "_law_both", "_law_second"]) (so := defScope (top 24)) (N' := ["_law_row"]) (k := 1) (fr := []) rfl rfl ⟨rfl, by decide +kernel, by decide +kernel, by decide +kernel, rfl, by decide +kernel, by decide +kernel⟩ (pi_listK (K := K) (pv 2)) (fun _ _ _ _ _ => (pg_name (i := 0) (show (["_law_row"] : List Str).Nodup by decide +kernel) rfl (Or.inl rfl))) (fun _ _ _ _ _ => pts_nil)
      (fun _ _ _ _ _ => (pe_op op_cat (pv 0) (pe_lst (pa_cons pe_int pa_nil (se rfl)))))) pa_nil (se rfl)) (he := se rfl) (hpl := na rfl)) (pe_op op_rep (pe_lst (pa_cons (pe_tupS (pa_cons pe_int (pa_cons pe_int pa_nil (se rfl)) (se rfl))) pa_nil (se rfl))) (pv 1)) (nomark _)) (pss_one (ps_ret pe_bl))
      pss_nil)
    (pss_cons (ps_set (i := 8) nd rfl (Or.inr rfl) (pe_comp rfl (N := ["_law_script", "_law_n", "_law_rows_here", "_law_lines", "_law_first", "_law_one", "_law_other", "_law_swapped_here", "_law_beside", "_law_both", "_law_second"]) (so := defScope (top 24)) (N' := ["_law_k", "_law_script", "_law_rows_here"]) (k := 1) (fr := [0, 2]) rfl rfl ⟨rfl, by decide +kernel, by decide +kernel, by decide +kernel, rfl, by decide +kernel, by decide +kernel⟩ (pi_range1 rfl T.z_range (pa_cons (pv 1) pa_nil (se rfl))) (fun _ _ _ _ _ => (pg_name (i := 0) (show (["_law_k", "_law_script", "_law_rows_here"] : List Str).Nodup by decide +kernel) rfl (Or.inl rfl))) (fun _ _ _ _ _ => pts_nil)
      (fun _ _ _ _ _ => (pe_op op_cat (pe_ix ix_listH (pv 2) (pv 0) (fun _ _ => rfl)) (pe_lst (pa_cons (pe_op op_sub (pe_op op_modB (pe_cal c__law_cell (hr.mono (by decide)) rfl strictP.pass (pa_cons (pv 1) (pa_cons (pe_op op_add pe_int (pv 0)) pa_nil (se rfl)) (se rfl)) (he := se rfl) (hpl := na rfl)) pe_int) pe_int) pa_nil (se rfl)))))))
    (pss_cons (ps_setC (i := 9) rfl nd rfl rfl (N := ["_law_script", "_law_n", "_law_rows_here", "_law_lines", "_law_first", "_law_one", "_law_other", "_law_swapped_here", "_law_beside", "_law_both", "_law_second"]) (so := defScope (top 24)) (N' := ["_law_k", "_law_lines", "_law_beside"]) (k := 1) (fr := [3, 8]) rfl rfl ⟨rfl, by decide +kernel, by decide +kernel, by decide +kernel, rfl, by decide +kernel, by decide +kernel⟩ (pi_range1 rfl T.z_range (pa_cons (pv 1) pa_nil (se rfl))) (fun _ _ _ _ _ => (pg_name (i := 0) (show (["_law_k", "_law_lines", "_law_beside"] : List Str).Nodup by decide +kernel) rfl (Or.inl rfl))) (fun _ _ _ _ _ => pts_nil)
      (fun _ _ _ _ _ => (pe_op op_cat (pe_slice (sl_listK (K := K)) (pe_ix ix_listH (pv 1) (pv 0) (fun _ _ => rfl)) po_none (po_some (pe_un un_neg pe_int))) (pe_lst (pa_cons (pe_op op_add (pe_ix ix_listH (pe_ix ix_listH (pv 1) (pv 0) (fun _ _ => rfl)) (pe_un un_neg pe_int) (fun _ _ => rfl)) (pe_ix ix_listH (pe_ix ix_listH (pv 2) (pv 0) (fun _ _ => rfl)) (pe_un un_neg pe_int) (fun _ _ => rfl))) pa_nil (se rfl))))))
    (pss_cons (ps_set (i := 10) nd rfl (Or.inl rfl) (pe_cal c__law_answer (hr.mono (by decide)) rfl strictP.pass (pa_cons (pv 8) pa_nil (se rfl)) (he := se rfl) (hpl := na rfl)))
    (pss_cons (ps_if (pt_cmpR op_isN (pv 10) pe_non (nomark _)) (pss_one (ps_ret pe_bl))
      pss_nil)
    (pss_one (ps_ret (pe_cmpR (op_eqD hr.units) (pe_cal c__law_answer (hr.mono (by decide)) rfl strictP.pass (pa_cons (pv 9) pa_nil (se rfl)) (he := se rfl) (hpl := na rfl)) (pe_comp rfl (N := ["_law_script", "_law_n", "_law_rows_here", "_law_lines", "_law_first", "_law_one", "_law_other", "_law_swapped_here", "_law_beside", "_law_both", "_law_second"]) (so := defScope (top 24)) (N' := ["_law_a", "_law_b"]) (k := 2) (fr := []) rfl rfl ⟨rfl, by decide +kernel, by decide +kernel, by decide +kernel, rfl, by decide +kernel, by decide +kernel⟩ (pi_zipK (K := K) rfl T.z_zip (pa_cons (pv 4) (pa_cons (pv 10) pa_nil (se rfl)) (se rfl))) (fun _ _ _ _ _ => (pg_tupK (K := K) (n := 2) rfl (pgs_cons (pg_name (i := 0) (show (["_law_a", "_law_b"] : List Str).Nodup by decide +kernel) rfl (Or.inl rfl)) (pgs_cons (pg_name (i := 1) (show (["_law_a", "_law_b"] : List Str).Nodup by decide +kernel) rfl (Or.inl rfl)) pgs_nil)))) (fun _ _ _ _ _ => pts_nil)
      (fun _ _ _ _ _ => (pe_cal c_plus (hr.mono (by decide)) rfl strictP.pass (pa_cons (pv 0) (pa_cons (pv 1) pa_nil (se rfl)) (se rfl)) (he := se rfl) (hpl := na rfl)))) (nomark _)))))))))))))))))), ?_⟩
    have sl := sizeLine_eq
    change tSeq _ _ _ [some (.ref sa), none, none, none, none, none, none, none, none, none, none] H
    refine seq_gen (fun σ' H1 => H = H1 ∧ ∃ n : Nat, 1 ≤ n ∧ n ≤ 5 ∧ σ' = [some (.ref sa), some (.int (n : Int)), none, none, none, none, none, none, none, none, none]) ?_ (fun N hN => ?_)
    case refine_2 =>
      simp only [L2.start, Pr, tRev, tD1, tDPop1, tSl, tNoPart, tPart, rSlL, tDIn, tDNotIn, gSub, rSetL, tLst, tDNewK, tComp, L2.stC, tFor_eq, iList, iTup, iRng1, iRng2, iZip, iEnum, iDict, iStr, tChain, tSumV, tBM, rJoin, tJoined, jNil, jLit, jInt, jStr, tRaise, tDGet, tDGet2, tDGet1, sDPut, Option.join_some, List.getElem?_nil,  tSeq, tRet, tRetN, tIfS, tTest, tB, tOp, tUn, tVar, tC, tCB, tCons, tNil, tCall, tTupS, tAsg, gName, gNil, gCons, tPar, tNext, tDrop, tAnd, tOr, tNot, tAndV, tOrV, tNotV, tIf, rI, rI0, rU, rIxTH, rIxLH, rEqT, rNeT, rInT, rEq, rNe, scal, CPow, at0, at1, at2, List.map_cons, List.map_nil, List.length_cons, List.length_nil, Nat.reduceSub, Nat.reduceAdd, Nat.zero_add, List.replicate_zero, List.reduceReplicate, List.append_nil, List.nil_append, List.cons_append, List.getElem?_cons_zero, List.getElem?_cons_succ, List.set_cons_zero, List.set_cons_succ, Option.some.injEq, exists_eq_left', exists_eq_left, V.ref.injEq, V.int.injEq, V.bl.injEq, V.str.injEq, V.ty.injEq, HO.tup.injEq, HO.lst.injEq, List.cons.injEq, and_true, true_and, and_assoc, exists_and_left, decide_eq_true_eq, Bool.not_eq_true', decide_eq_false_iff_not, ite_true, ite_false, if_true, if_false, Int.reduceToNat, eq_self_iff_true, spC]
      refine ⟨ns, hS, by decide, by decide, fun v => ⟨by decide, hN _ _ ⟨rfl, (1 + v % 5).toNat, ?_, ?_, ?_⟩⟩⟩
      · have := Int.emod_nonneg v (show (5 : Int) ≠ 0 by decide); omega
      · have := Int.emod_lt_of_pos v (show (0 : Int) < 5 by decide); omega
      · rw [Int.toNat_of_nonneg (by have := Int.emod_nonneg v (show (5 : Int) ≠ 0 by decide); omega)]
    rintro _ _ ⟨rfl, n, n1, n5, rfl⟩
    change tSeq _ _ _ [some (.ref sa), some (.int (n : Int)), none, none, none, none, none, none, none, none, none] H
    refine seq_gen (fun σ' H1 => Same H H1 ∧ ∃ p L, MtH H1 p L ∧ Bar.Sq L n ∧ Bar.Nc L n ∧ (∀ r ∈ L, ∀ x ∈ r, x.natAbs ≤ BB 5) ∧ σ' = [some (.ref sa), some (.int (n : Int)), some (.ref p), none, none, none, none, none, none, none, none]) ?_ (fun N hN => ?_)
    case refine_2 =>
      simp only [L2.start, Pr, tRev, tD1, tDPop1, tSl, tNoPart, tPart, rSlL, tDIn, tDNotIn, gSub, rSetL, tLst, tDNewK, tComp, L2.stC, tFor_eq, iList, iTup, iRng1, iRng2, iZip, iEnum, iDict, iStr, tChain, tSumV, tBM, rJoin, tJoined, jNil, jLit, jInt, jStr, tRaise, tDGet, tDGet2, tDGet1, sDPut, Option.join_some, List.getElem?_nil,  tSeq, tRet, tRetN, tIfS, tTest, tB, tOp, tUn, tVar, tC, tCB, tCons, tNil, tCall, tTupS, tAsg, gName, gNil, gCons, tPar, tNext, tDrop, tAnd, tOr, tNot, tAndV, tOrV, tNotV, tIf, rI, rI0, rU, rIxTH, rIxLH, rEqT, rNeT, rInT, rEq, rNe, scal, CPow, at0, at1, at2, List.map_cons, List.map_nil, List.length_cons, List.length_nil, Nat.reduceSub, Nat.reduceAdd, Nat.zero_add, List.replicate_zero, List.reduceReplicate, List.append_nil, List.nil_append, List.cons_append, List.getElem?_cons_zero, List.getElem?_cons_succ, List.set_cons_zero, List.set_cons_succ, Option.some.injEq, exists_eq_left', exists_eq_left, V.ref.injEq, V.int.injEq, V.bl.injEq, V.str.injEq, V.ty.injEq, HO.tup.injEq, HO.lst.injEq, List.cons.injEq, and_true, true_and, and_assoc, exists_and_left, decide_eq_true_eq, Bool.not_eq_true', decide_eq_false_iff_not, ite_true, ite_false, if_true, if_false, Int.reduceToNat, eq_self_iff_true, spRws]
      exact ⟨ns, n, rfl, hS, n1, n5, fun p L H1 s1 hL sq nc bd => hN _ _ ⟨s1, p, L, hL, sq, nc, bd, rfl⟩⟩
    rintro _ H1 ⟨sm1, p, L, hL, sq, nc, bd, rfl⟩
    obtain ⟨xs, hp, al⟩ := id hL
    have lx := al.length
    have hl := sq.len
    have mkLn : ∀ (S : List Int) (b : Nat), S.length = n → (∀ s ∈ S, s.natAbs ≤ b) → 2000 ≤ b → Ln (Bar.aug L S) n b := fun S b lS bS hb => ⟨Bar.aug_len hl lS, Bar.aug_row sq, Bar.aug_bd (fun r hr x hx => Nat.le_trans (bd r hr x hx) (Nat.le_trans (by decide) hb)) bS, n1, n5, nc_aug sq lS nc⟩
    change tSeq _ _ _ [some (.ref sa), some (.int (n : Int)), some (.ref p), none, none, none, none, none, none, none, none] H1
    refine seq_gen (fun σ' H2 => Same H1 H2 ∧ ∃ c S, MtH H2 c (Bar.aug L S) ∧ S.length = n ∧ (∀ s ∈ S, s.natAbs ≤ 30) ∧ σ' = [some (.ref sa), some (.int (n : Int)), some (.ref p), some (.ref c), none, none, none, none, none, none, none]) ?_ (fun N hN => ?_)
    case refine_2 =>
      simp only [L2.start, Pr, tRev, tD1, tDPop1, tSl, tNoPart, tPart, rSlL, tDIn, tDNotIn, gSub, rSetL, tLst, tDNewK, tComp, L2.stC, tFor_eq, iList, iTup, iRng1, iRng2, iZip, iEnum, iDict, iStr, tChain, tSumV, tBM, rJoin, tJoined, jNil, jLit, jInt, jStr, tRaise, tDGet, tDGet2, tDGet1, sDPut, Option.join_some, List.getElem?_nil,  tSeq, tRet, tRetN, tIfS, tTest, tB, tOp, tUn, tVar, tC, tCB, tCons, tNil, tCall, tTupS, tAsg, gName, gNil, gCons, tPar, tNext, tDrop, tAnd, tOr, tNot, tAndV, tOrV, tNotV, tIf, rI, rI0, rU, rIxTH, rIxLH, rEqT, rNeT, rInT, rEq, rNe, scal, CPow, at0, at1, at2, List.map_cons, List.map_nil, List.length_cons, List.length_nil, Nat.reduceSub, Nat.reduceAdd, Nat.zero_add, List.replicate_zero, List.reduceReplicate, List.append_nil, List.nil_append, List.cons_append, List.getElem?_cons_zero, List.getElem?_cons_succ, List.set_cons_zero, List.set_cons_succ, Option.some.injEq, exists_eq_left', exists_eq_left, V.ref.injEq, V.int.injEq, V.bl.injEq, V.str.injEq, V.ty.injEq, HO.tup.injEq, HO.lst.injEq, List.cons.injEq, and_true, true_and, and_assoc, exists_and_left, decide_eq_true_eq, Bool.not_eq_true', decide_eq_false_iff_not, ite_true, ite_false, if_true, if_false, Int.reduceToNat, eq_self_iff_true]
      refine ⟨by omega, by omega, ?_⟩
      rw [Int.toNat_natCast]
      refine comp_map src_range (fun _ _ _ _ h => by rw [h.1]; exact Same.refl _) (by omega) (fun i y H4 => ∃ s : Int, s.natAbs ≤ 30 ∧ ∀ r, L[i]? = some r → Rw H4 (r ++ [s]) y) (fun _ _ _ _ s' ⟨s, h1, h2⟩ => ⟨s, h1, fun r e => (h2 r e).mono s'⟩) ?_ ?_
      · rintro i x w0 H4 H5 Q2 hi s4 ⟨rfl, rfl⟩ kq
        obtain ⟨r, er, lr, mr⟩ := sq.at hi
        obtain ⟨y, ay, hy⟩ := at_row al er
        simp only [L2.start, Pr, tRev, tD1, tDPop1, tSl, tNoPart, tPart, rSlL, tDIn, tDNotIn, gSub, rSetL, tLst, tDNewK, tComp, L2.stC, tFor_eq, iList, iTup, iRng1, iRng2, iZip, iEnum, iDict, iStr, tChain, tSumV, tBM, rJoin, tJoined, jNil, jLit, jInt, jStr, tRaise, tDGet, tDGet2, tDGet1, sDPut, Option.join_some, List.getElem?_nil,  tSeq, tRet, tRetN, tIfS, tTest, tB, tOp, tUn, tVar, tC, tCB, tCons, tNil, tCall, tTupS, tAsg, gName, gNil, gCons, tPar, tNext, tDrop, tAnd, tOr, tNot, tAndV, tOrV, tNotV, tIf, rI, rI0, rU, rIxTH, rIxLH, rEqT, rNeT, rInT, rEq, rNe, scal, CPow, at0, at1, at2, List.map_cons, List.map_nil, List.length_cons, List.length_nil, Nat.reduceSub, Nat.reduceAdd, Nat.zero_add, List.replicate_zero, List.reduceReplicate, List.append_nil, List.nil_append, List.cons_append, List.getElem?_cons_zero, List.getElem?_cons_succ, List.set_cons_zero, List.set_cons_succ, Option.some.injEq, exists_eq_left', exists_eq_left, V.ref.injEq, V.int.injEq, V.bl.injEq, V.str.injEq, V.ty.injEq, HO.tup.injEq, HO.lst.injEq, List.cons.injEq, and_true, true_and, and_assoc, exists_and_left, decide_eq_true_eq, Bool.not_eq_true', decide_eq_false_iff_not, ite_true, ite_false, if_true, if_false, Int.reduceToNat, eq_self_iff_true, spC, rCat, s4 _ _ hp, Int.zero_add, ay]
        refine ⟨ns, (sm1.trans s4).seq hS, by omega, by omega, fun v => ⟨by decide, by decide, fun m nm => ⟨_, same_upd nm _ _ (s4 _ _ hy), _, upd_same, by simp only [List.length_map, List.length_cons, List.length_nil]; omega, fun q nq => kq _ _ ((same_upd nm).trans (same_upd nq)) ⟨v % 61 - 30, ?_, fun r' er' => ⟨q, rfl, ?_⟩⟩⟩⟩⟩
        · have m0 := Int.emod_nonneg v (show (61 : Int) ≠ 0 by decide)
          have m1 := Int.emod_lt_of_pos v (show (0 : Int) < 61 by decide)
          omega
        · rw [er] at er'
          cases er'
          rw [upd_same, List.map_append]
          rfl
      · intro ys H4 s4 ly hy D n1' n2'
        obtain ⟨S, lS, pS, aS⟩ := aug_of (by omega) hy
        exact hN _ _ ⟨s4.trans (same_upd n2'), D, S, ⟨ys, upd_same, aS.imp fun _ _ h => h.mono (same_upd n2')⟩, by omega, pS, rfl⟩
    rintro _ H2 ⟨sm2, c, S, hc, lS, bS, rfl⟩
    have lnS := mkLn S 2000 lS (fun s hs => Nat.le_trans (bS s hs) (by decide)) (Nat.le_refl _)
    have lnS' := mkLn S 1000000000000 lS (fun s hs => Nat.le_trans (bS s hs) (by decide)) (by decide)
    change tSeq _ _ _ [some (.ref sa), some (.int (n : Int)), some (.ref p), some (.ref c), none, none, none, none, none, none, none] H2
    refine seq_gen (fun σ' H3 => Same H2 H3 ∧ ∃ fa us x d, H3 fa = some (.lst us) ∧ Al (ShR H3 d) x us ∧ Ans (Bar.aug L S) n x d ∧ σ' = [some (.ref sa), some (.int (n : Int)), some (.ref p), some (.ref c), some (.ref fa), none, none, none, none, none, none]) ?_ (fun N hN => ?_)
    case refine_2 =>
      simp only [L2.start, Pr, tRev, tD1, tDPop1, tSl, tNoPart, tPart, rSlL, tDIn, tDNotIn, gSub, rSetL, tLst, tDNewK, tComp, L2.stC, tFor_eq, iList, iTup, iRng1, iRng2, iZip, iEnum, iDict, iStr, tChain, tSumV, tBM, rJoin, tJoined, jNil, jLit, jInt, jStr, tRaise, tDGet, tDGet2, tDGet1, sDPut, Option.join_some, List.getElem?_nil,  tSeq, tRet, tRetN, tIfS, tTest, tB, tOp, tUn, tVar, tC, tCB, tCons, tNil, tCall, tTupS, tAsg, gName, gNil, gCons, tPar, tNext, tDrop, tAnd, tOr, tNot, tAndV, tOrV, tNotV, tIf, rI, rI0, rU, rIxTH, rIxLH, rEqT, rNeT, rInT, rEq, rNe, scal, CPow, at0, at1, at2, List.map_cons, List.map_nil, List.length_cons, List.length_nil, Nat.reduceSub, Nat.reduceAdd, Nat.zero_add, List.replicate_zero, List.reduceReplicate, List.append_nil, List.nil_append, List.cons_append, List.getElem?_cons_zero, List.getElem?_cons_succ, List.set_cons_zero, List.set_cons_succ, Option.some.injEq, exists_eq_left', exists_eq_left, V.ref.injEq, V.int.injEq, V.bl.injEq, V.str.injEq, V.ty.injEq, HO.tup.injEq, HO.lst.injEq, List.cons.injEq, and_true, true_and, and_assoc, exists_and_left, decide_eq_true_eq, Bool.not_eq_true', decide_eq_false_iff_not, ite_true, ite_false, if_true, if_false, Int.reduceToNat, eq_self_iff_true, spAns]
      exact ⟨_, hc, n, lnS', fun fa us x d H3 s3 nf hf ax an => hN _ _ ⟨s3, fa, us, x, d, hf, ax, an, rfl⟩⟩
    rintro _ H3 ⟨sm3, fa, us, x, d, hf, ax, an, rfl⟩
    have d0 := an.pos
    have lan := an.len
    have lus := ax.length
    change tSeq _ _ _ [some (.ref sa), some (.int (n : Int)), some (.ref p), some (.ref c), some (.ref fa), none, none, none, none, none, none] H3
    refine seq_gen (fun σ' H4 => Same H3 H4 ∧ σ' = [some (.ref sa), some (.int (n : Int)), some (.ref p), some (.ref c), some (.ref fa), none, none, none, none, none, none]) ?_ (fun N hN => ?_)
    case refine_2 =>
      simp only [L2.start, Pr, tRev, tD1, tDPop1, tSl, tNoPart, tPart, rSlL, tDIn, tDNotIn, gSub, rSetL, tLst, tDNewK, tComp, L2.stC, tFor_eq, iList, iTup, iRng1, iRng2, iZip, iEnum, iDict, iStr, tChain, tSumV, tBM, rJoin, tJoined, jNil, jLit, jInt, jStr, tRaise, tDGet, tDGet2, tDGet1, sDPut, Option.join_some, List.getElem?_nil,  tSeq, tRet, tRetN, tIfS, tTest, tB, tOp, tUn, tVar, tC, tCB, tCons, tNil, tCall, tTupS, tAsg, gName, gNil, gCons, tPar, tNext, tDrop, tAnd, tOr, tNot, tAndV, tOrV, tNotV, tIf, rI, rI0, rU, rIxTH, rIxLH, rEqT, rNeT, rInT, rEq, rNe, scal, CPow, at0, at1, at2, List.map_cons, List.map_nil, List.length_cons, List.length_nil, Nat.reduceSub, Nat.reduceAdd, Nat.zero_add, List.replicate_zero, List.reduceReplicate, List.append_nil, List.nil_append, List.cons_append, List.getElem?_cons_zero, List.getElem?_cons_succ, List.set_cons_zero, List.set_cons_succ, Option.some.injEq, exists_eq_left', exists_eq_left, V.ref.injEq, V.int.injEq, V.bl.injEq, V.str.injEq, V.ty.injEq, HO.tup.injEq, HO.lst.injEq, List.cons.injEq, and_true, true_and, and_assoc, exists_and_left, decide_eq_true_eq, Bool.not_eq_true', decide_eq_false_iff_not, ite_true, ite_false, if_true, if_false, Int.reduceToNat, eq_self_iff_true, spChg, spAns, rEqD]
      rw [if_neg (by simp)]
      refine ⟨ns, (sm1.trans (sm2.trans sm3)).seq hS, _, hc.mono sm3, n, lnS, fun q M' H4 s4 hM' ln' fit' => ⟨_, hM', n, ln', fun fb ws y e H5 s5 nf hb ay an' => ?_⟩⟩
      have ee : shD x d = shD y e := shD_eq (by omega) (by have := an'.pos; omega) (by rw [lan, an'.len]) fun i hi => Bar.fit_one ln'.nc (fit' x d an.fit) an'.fit (by omega)
      refine ⟨shD x d, by rw [ee]; exact shs_rep hb ay, shs_rep ((s4.trans s5) _ _ hf) (ax.imp fun _ _ h => h.mono (s4.trans s5)), ⟨_, rfl⟩, depth_sh _ _, ?_⟩
      rw [if_neg (by decide)]
      exact hN _ _ ⟨s4.trans s5, rfl⟩
    rintro _ H4 ⟨sm4, rfl⟩
    have s14 := sm2.trans (sm3.trans sm4)
    change tSeq _ _ _ [some (.ref sa), some (.int (n : Int)), some (.ref p), some (.ref c), some (.ref fa), none, none, none, none, none, none] H4
    refine seq_gen (fun σ' H5 => H4 = H5 ∧ ∃ o1 : Nat, o1 < n ∧ σ' = [some (.ref sa), some (.int (n : Int)), some (.ref p), some (.ref c), some (.ref fa), some (.int (o1 : Int)), none, none, none, none, none]) ?_ (fun N hN => ?_)
    case refine_2 =>
      simp only [L2.start, Pr, tRev, tD1, tDPop1, tSl, tNoPart, tPart, rSlL, tDIn, tDNotIn, gSub, rSetL, tLst, tDNewK, tComp, L2.stC, tFor_eq, iList, iTup, iRng1, iRng2, iZip, iEnum, iDict, iStr, tChain, tSumV, tBM, rJoin, tJoined, jNil, jLit, jInt, jStr, tRaise, tDGet, tDGet2, tDGet1, sDPut, Option.join_some, List.getElem?_nil,  tSeq, tRet, tRetN, tIfS, tTest, tB, tOp, tUn, tVar, tC, tCB, tCons, tNil, tCall, tTupS, tAsg, gName, gNil, gCons, tPar, tNext, tDrop, tAnd, tOr, tNot, tAndV, tOrV, tNotV, tIf, rI, rI0, rU, rIxTH, rIxLH, rEqT, rNeT, rInT, rEq, rNe, scal, CPow, at0, at1, at2, List.map_cons, List.map_nil, List.length_cons, List.length_nil, Nat.reduceSub, Nat.reduceAdd, Nat.zero_add, List.replicate_zero, List.reduceReplicate, List.append_nil, List.nil_append, List.cons_append, List.getElem?_cons_zero, List.getElem?_cons_succ, List.set_cons_zero, List.set_cons_succ, Option.some.injEq, exists_eq_left', exists_eq_left, V.ref.injEq, V.int.injEq, V.bl.injEq, V.str.injEq, V.ty.injEq, HO.tup.injEq, HO.lst.injEq, List.cons.injEq, and_true, true_and, and_assoc, exists_and_left, decide_eq_true_eq, Bool.not_eq_true', decide_eq_false_iff_not, ite_true, ite_false, if_true, if_false, Int.reduceToNat, eq_self_iff_true, spC]
      refine ⟨ns, (sm1.trans s14).seq hS, by decide, by decide, fun v => ⟨by omega, hN _ _ ⟨rfl, (v % (n : Int)).toNat, ?_, ?_⟩⟩⟩
      · have := Int.emod_lt_of_pos v (show (0 : Int) < n by omega)
        have := Int.emod_nonneg v (show (n : Int) ≠ 0 by omega)
        omega
      · rw [Int.toNat_of_nonneg (Int.emod_nonneg v (show (n : Int) ≠ 0 by omega))]
    rintro _ _ ⟨rfl, o1, ho1, rfl⟩
    change tSeq _ _ _ [some (.ref sa), some (.int (n : Int)), some (.ref p), some (.ref c), some (.ref fa), some (.int (o1 : Int)), none, none, none, none, none] H4
    refine seq_gen (fun σ' H5 => H4 = H5 ∧ ∃ o2 : Nat, o2 < n ∧ σ' = [some (.ref sa), some (.int (n : Int)), some (.ref p), some (.ref c), some (.ref fa), some (.int (o1 : Int)), some (.int (o2 : Int)), none, none, none, none]) ?_ (fun N hN => ?_)
    case refine_2 =>
      simp only [L2.start, Pr, tRev, tD1, tDPop1, tSl, tNoPart, tPart, rSlL, tDIn, tDNotIn, gSub, rSetL, tLst, tDNewK, tComp, L2.stC, tFor_eq, iList, iTup, iRng1, iRng2, iZip, iEnum, iDict, iStr, tChain, tSumV, tBM, rJoin, tJoined, jNil, jLit, jInt, jStr, tRaise, tDGet, tDGet2, tDGet1, sDPut, Option.join_some, List.getElem?_nil,  tSeq, tRet, tRetN, tIfS, tTest, tB, tOp, tUn, tVar, tC, tCB, tCons, tNil, tCall, tTupS, tAsg, gName, gNil, gCons, tPar, tNext, tDrop, tAnd, tOr, tNot, tAndV, tOrV, tNotV, tIf, rI, rI0, rU, rIxTH, rIxLH, rEqT, rNeT, rInT, rEq, rNe, scal, CPow, at0, at1, at2, List.map_cons, List.map_nil, List.length_cons, List.length_nil, Nat.reduceSub, Nat.reduceAdd, Nat.zero_add, List.replicate_zero, List.reduceReplicate, List.append_nil, List.nil_append, List.cons_append, List.getElem?_cons_zero, List.getElem?_cons_succ, List.set_cons_zero, List.set_cons_succ, Option.some.injEq, exists_eq_left', exists_eq_left, V.ref.injEq, V.int.injEq, V.bl.injEq, V.str.injEq, V.ty.injEq, HO.tup.injEq, HO.lst.injEq, List.cons.injEq, and_true, true_and, and_assoc, exists_and_left, decide_eq_true_eq, Bool.not_eq_true', decide_eq_false_iff_not, ite_true, ite_false, if_true, if_false, Int.reduceToNat, eq_self_iff_true, spC]
      refine ⟨ns, (sm1.trans s14).seq hS, by decide, by decide, fun v => ⟨CDivB.lit, by omega, hN _ _ ⟨rfl, (v / 7 % (n : Int)).toNat, ?_, ?_⟩⟩⟩
      · have := Int.emod_lt_of_pos (v / 7) (show (0 : Int) < n by omega)
        have := Int.emod_nonneg (v / 7) (show (n : Int) ≠ 0 by omega)
        omega
      · rw [Int.toNat_of_nonneg (Int.emod_nonneg (v / 7) (show (n : Int) ≠ 0 by omega))]
    rintro _ _ ⟨rfl, o2, ho2, rfl⟩
    change tSeq _ _ _ [some (.ref sa), some (.int (n : Int)), some (.ref p), some (.ref c), some (.ref fa), some (.int (o1 : Int)), some (.int (o2 : Int)), none, none, none, none] H4
    refine seq_gen (fun σ' H5 => Same H4 H5 ∧ ∃ fb ws y e, H5 fb = some (.lst ws) ∧ Al (ShR H5 e) y ws ∧ shD y e = shD (Bar.tw x o1 o2) d ∧ σ' = [some (.ref sa), some (.int (n : Int)), some (.ref p), some (.ref c), some (.ref fa), some (.int (o1 : Int)), some (.int (o2 : Int)), some (.ref fb), none, none, none]) ?_ (fun N hN => ?_)
    case refine_2 =>
      simp only [L2.start, Pr, tRev, tD1, tDPop1, tSl, tNoPart, tPart, rSlL, tDIn, tDNotIn, gSub, rSetL, tLst, tDNewK, tComp, L2.stC, tFor_eq, iList, iTup, iRng1, iRng2, iZip, iEnum, iDict, iStr, tChain, tSumV, tBM, rJoin, tJoined, jNil, jLit, jInt, jStr, tRaise, tDGet, tDGet2, tDGet1, sDPut, Option.join_some, List.getElem?_nil,  tSeq, tRet, tRetN, tIfS, tTest, tB, tOp, tUn, tVar, tC, tCB, tCons, tNil, tCall, tTupS, tAsg, gName, gNil, gCons, tPar, tNext, tDrop, tAnd, tOr, tNot, tAndV, tOrV, tNotV, tIf, rI, rI0, rU, rIxTH, rIxLH, rEqT, rNeT, rInT, rEq, rNe, scal, CPow, at0, at1, at2, List.map_cons, List.map_nil, List.length_cons, List.length_nil, Nat.reduceSub, Nat.reduceAdd, Nat.zero_add, List.replicate_zero, List.reduceReplicate, List.append_nil, List.nil_append, List.cons_append, List.getElem?_cons_zero, List.getElem?_cons_succ, List.set_cons_zero, List.set_cons_succ, Option.some.injEq, exists_eq_left', exists_eq_left, V.ref.injEq, V.int.injEq, V.bl.injEq, V.str.injEq, V.ty.injEq, HO.tup.injEq, HO.lst.injEq, List.cons.injEq, and_true, true_and, and_assoc, exists_and_left, decide_eq_true_eq, Bool.not_eq_true', decide_eq_false_iff_not, ite_true, ite_false, if_true, if_false, Int.reduceToNat, eq_self_iff_true, spChg, spAns, spTw]
      refine ⟨ns, (sm1.trans s14).seq hS, _, hc.mono (sm3.trans sm4), n, lnS, fun q M' H5 s5 hM' ln' fit' => ?_⟩
      obtain ⟨zs, hq, am⟩ := id hM'
      have lz := am.length
      have lM' := ln'.len
      refine ⟨⟨_, SqL.of hq⟩, ?_⟩
      refine comp_map (src_list (fun H2 s2 => SqL.of (s2 _ _ hq))) (fun _ _ _ _ h => by rw [h.1]; exact Same.refl _) (by omega) (fun i y H6 => ∀ r : List Int, M'[i]? = some r → Rw H6 (Bar.tw r o1 o2) y) (fun i y H2 H3 s3 h q e => (h q e).mono s3) ?_ ?_
      · rintro i x' w0 H6 H7 Q2 hi s6 ⟨rfl, ex⟩ kq
        obtain ⟨r, er, q', rfl, hq'⟩ := am.get ex
        have lr := ln'.row r (List.mem_of_getElem? er)
        simp only [L2.start, Pr, tRev, tD1, tDPop1, tSl, tNoPart, tPart, rSlL, tDIn, tDNotIn, gSub, rSetL, tLst, tDNewK, tComp, L2.stC, tFor_eq, iList, iTup, iRng1, iRng2, iZip, iEnum, iDict, iStr, tChain, tSumV, tBM, rJoin, tJoined, jNil, jLit, jInt, jStr, tRaise, tDGet, tDGet2, tDGet1, sDPut, Option.join_some, List.getElem?_nil,  tSeq, tRet, tRetN, tIfS, tTest, tB, tOp, tUn, tVar, tC, tCB, tCons, tNil, tCall, tTupS, tAsg, gName, gNil, gCons, tPar, tNext, tDrop, tAnd, tOr, tNot, tAndV, tOrV, tNotV, tIf, rI, rI0, rU, rIxTH, rIxLH, rEqT, rNeT, rInT, rEq, rNe, scal, CPow, at0, at1, at2, List.map_cons, List.map_nil, List.length_cons, List.length_nil, Nat.reduceSub, Nat.reduceAdd, Nat.zero_add, List.replicate_zero, List.reduceReplicate, List.append_nil, List.nil_append, List.cons_append, List.getElem?_cons_zero, List.getElem?_cons_succ, List.set_cons_zero, List.set_cons_succ, Option.some.injEq, exists_eq_left', exists_eq_left, V.ref.injEq, V.int.injEq, V.bl.injEq, V.str.injEq, V.ty.injEq, HO.tup.injEq, HO.lst.injEq, List.cons.injEq, and_true, true_and, and_assoc, exists_and_left, decide_eq_true_eq, Bool.not_eq_true', decide_eq_false_iff_not, ite_true, ite_false, if_true, if_false, Int.reduceToNat, eq_self_iff_true, spTw]
        refine ⟨_, o1, rfl, o2, rfl, s6 _ _ hq', by rw [List.length_map]; omega, by rw [List.length_map]; omega, by rw [List.length_map]; omega, fun q2 H8 s8 nq2 h8 => kq _ _ s8 fun r' er' => ?_⟩
        rw [er] at er'
        cases er'
        exact ⟨q2, rfl, by rw [h8, tw_ints r (by omega) (by omega)]⟩
      · intro ys H6 s6 ly hy D n1' n2'
        have s7 := s6.trans (same_upd (o := .lst ys) n2')
        have hm : MtH (upd H6 D (.lst ys)) D (M'.map fun r => Bar.tw r o1 o2) := by
          refine ⟨ys, upd_same, Al.of (by rw [List.length_map]; omega) fun i y q e1 e2 => ?_⟩
          rw [List.getElem?_map] at e2
          obtain ⟨r, er, rfl⟩ := Option.map_eq_some_iff.mp e2
          exact (hy i y e1 r er).mono (same_upd n2')
        generalize upd H6 D (.lst ys) = H7 at *
        have ln2 : Ln (M'.map fun r => Bar.tw r o1 o2) n 1000000000000 := ⟨by rw [List.length_map, lM'], fun q hq => by
            obtain ⟨r, hr, rfl⟩ := List.mem_map.mp hq
            rw [tw_len]
            exact ln'.row r hr, fun q hq z hz => by
            obtain ⟨r, hr, rfl⟩ := List.mem_map.mp hq
            have := ln'.row r hr
            exact ln'.bd r hr z (tw_mem hz (by omega) (by omega)), n1, n5, Bar.nc_tw ln'.nc (fun r hr => by have := ln'.row r hr; omega) ho1 ho2⟩
        refine ⟨_, hm, n, ln2, fun fb ws y e H8 s8 nf hb ay an2 => hN _ _ ⟨s5.trans (s7.trans s8), fb, ws, y, e, hb, ay, ?_, rfl⟩⟩
        refine (shD_eq (by omega) (by have := an2.pos; omega) (by rw [tw_len, lan, an2.len]) fun i hi => Bar.fit_one ln2.nc (fun q hq => ?_) an2.fit (by rw [tw_len] at hi; omega)).symm
        obtain ⟨r, hr, rfl⟩ := List.mem_map.mp hq
        exact (fit' x d an.fit r hr).tw lan (ln'.row r hr) ho1 ho2
    rintro _ H5 ⟨sm5, fb, ws, y, e, hb, ay, ee, rfl⟩
    have s35 := sm4.trans sm5
    change tSeq _ _ _ [some (.ref sa), some (.int (n : Int)), some (.ref p), some (.ref c), some (.ref fa), some (.int (o1 : Int)), some (.int (o2 : Int)), some (.ref fb), none, none, none] H5
    refine seq_gen (fun σ' H6 => Same H5 H6 ∧ σ' = [some (.ref sa), some (.int (n : Int)), some (.ref p), some (.ref c), some (.ref fa), some (.int (o1 : Int)), some (.int (o2 : Int)), some (.ref fb), none, none, none]) ?_ (fun N hN => ?_)
    case refine_2 =>
      simp only [L2.start, Pr, tRev, tD1, tDPop1, tSl, tNoPart, tPart, rSlL, tDIn, tDNotIn, gSub, rSetL, tLst, tDNewK, tComp, L2.stC, tFor_eq, iList, iTup, iRng1, iRng2, iZip, iEnum, iDict, iStr, tChain, tSumV, tBM, rJoin, tJoined, jNil, jLit, jInt, jStr, tRaise, tDGet, tDGet2, tDGet1, sDPut, Option.join_some, List.getElem?_nil,  tSeq, tRet, tRetN, tIfS, tTest, tB, tOp, tUn, tVar, tC, tCB, tCons, tNil, tCall, tTupS, tAsg, gName, gNil, gCons, tPar, tNext, tDrop, tAnd, tOr, tNot, tAndV, tOrV, tNotV, tIf, rI, rI0, rU, rIxTH, rIxLH, rEqT, rNeT, rInT, rEq, rNe, scal, CPow, at0, at1, at2, List.map_cons, List.map_nil, List.length_cons, List.length_nil, Nat.reduceSub, Nat.reduceAdd, Nat.zero_add, List.replicate_zero, List.reduceReplicate, List.append_nil, List.nil_append, List.cons_append, List.getElem?_cons_zero, List.getElem?_cons_succ, List.set_cons_zero, List.set_cons_succ, Option.some.injEq, exists_eq_left', exists_eq_left, V.ref.injEq, V.int.injEq, V.bl.injEq, V.str.injEq, V.ty.injEq, HO.tup.injEq, HO.lst.injEq, List.cons.injEq, and_true, true_and, and_assoc, exists_and_left, decide_eq_true_eq, Bool.not_eq_true', decide_eq_false_iff_not, ite_true, ite_false, if_true, if_false, Int.reduceToNat, eq_self_iff_true, spTw, rEqD]
      rw [if_neg (by simp)]
      refine ⟨_, o1, rfl, o2, rfl, s35 _ _ hf, by omega, by omega, by omega, fun q H6 s6 nq h6 => ⟨shD y e, shs_rep (s6 _ _ hb) (ay.imp fun _ _ h => h.mono s6), ?_, ⟨_, rfl⟩, depth_sh _ _, ?_⟩⟩
      · rw [ee]
        exact shs_rep h6 (tw_shs (ax.imp fun _ _ h => h.mono (s35.trans s6)) (by omega) (by omega))
      · rw [if_neg (by decide)]
        exact hN _ _ ⟨s6, rfl⟩
    rintro _ H6 ⟨sm6, rfl⟩
    have s16 := s14.trans (sm5.trans sm6)
    have hp6 := s16 _ _ hp
    change tSeq _ _ _ [some (.ref sa), some (.int (n : Int)), some (.ref p), some (.ref c), some (.ref fa), some (.int (o1 : Int)), some (.int (o2 : Int)), some (.ref fb), none, none, none] H6
    refine seq_gen (fun σ' H7 => Same H6 H7 ∧ σ' = [some (.ref sa), some (.int (n : Int)), some (.ref p), some (.ref c), some (.ref fa), some (.int (o1 : Int)), some (.int (o2 : Int)), some (.ref fb), none, none, none]) ?_ (fun N hN => ?_)
    case refine_2 =>
      simp only [L2.start, Pr, tRev, tD1, tDPop1, tSl, tNoPart, tPart, rSlL, tDIn, tDNotIn, gSub, rSetL, tLst, tDNewK, tComp, L2.stC, tFor_eq, iList, iTup, iRng1, iRng2, iZip, iEnum, iDict, iStr, tChain, tSumV, tBM, rJoin, tJoined, jNil, jLit, jInt, jStr, tRaise, tDGet, tDGet2, tDGet1, sDPut, Option.join_some, List.getElem?_nil,  tSeq, tRet, tRetN, tIfS, tTest, tB, tOp, tUn, tVar, tC, tCB, tCons, tNil, tCall, tTupS, tAsg, gName, gNil, gCons, tPar, tNext, tDrop, tAnd, tOr, tNot, tAndV, tOrV, tNotV, tIf, rI, rI0, rU, rIxTH, rIxLH, rEqT, rNeT, rInT, rEq, rNe, scal, CPow, at0, at1, at2, List.map_cons, List.map_nil, List.length_cons, List.length_nil, Nat.reduceSub, Nat.reduceAdd, Nat.zero_add, List.replicate_zero, List.reduceReplicate, List.append_nil, List.nil_append, List.cons_append, List.getElem?_cons_zero, List.getElem?_cons_succ, List.set_cons_zero, List.set_cons_succ, Option.some.injEq, exists_eq_left', exists_eq_left, V.ref.injEq, V.int.injEq, V.bl.injEq, V.str.injEq, V.ty.injEq, HO.tup.injEq, HO.lst.injEq, List.cons.injEq, and_true, true_and, and_assoc, exists_and_left, decide_eq_true_eq, Bool.not_eq_true', decide_eq_false_iff_not, ite_true, ite_false, if_true, if_false, Int.reduceToNat, eq_self_iff_true, spAns, rEqD, rRep]
      refine ⟨⟨_, SqL.of hp6⟩, ?_⟩
      refine comp_map (src_list (fun H2 s2 => SqL.of (s2 _ _ hp6))) (fun _ _ _ _ h => by rw [h.1]; exact Same.refl _) (by omega) (fun i y H4 => ∃ s : Int, s = 0 ∧ ∀ r, L[i]? = some r → Rw H4 (r ++ [s]) y) (fun _ _ _ _ s' ⟨s, h1, h2⟩ => ⟨s, h1, fun r e => (h2 r e).mono s'⟩) ?_ ?_
      · rintro i x' w0 H7 H8 Q2 hi s7 ⟨rfl, ex⟩ kq
        obtain ⟨r, er, q, rfl, hq⟩ := al.get ex
        have lr := sq.row r (List.mem_of_getElem? er)
        simp only [L2.start, Pr, tRev, tD1, tDPop1, tSl, tNoPart, tPart, rSlL, tDIn, tDNotIn, gSub, rSetL, tLst, tDNewK, tComp, L2.stC, tFor_eq, iList, iTup, iRng1, iRng2, iZip, iEnum, iDict, iStr, tChain, tSumV, tBM, rJoin, tJoined, jNil, jLit, jInt, jStr, tRaise, tDGet, tDGet2, tDGet1, sDPut, Option.join_some, List.getElem?_nil,  tSeq, tRet, tRetN, tIfS, tTest, tB, tOp, tUn, tVar, tC, tCB, tCons, tNil, tCall, tTupS, tAsg, gName, gNil, gCons, tPar, tNext, tDrop, tAnd, tOr, tNot, tAndV, tOrV, tNotV, tIf, rI, rI0, rU, rIxTH, rIxLH, rEqT, rNeT, rInT, rEq, rNe, scal, CPow, at0, at1, at2, List.map_cons, List.map_nil, List.length_cons, List.length_nil, Nat.reduceSub, Nat.reduceAdd, Nat.zero_add, List.replicate_zero, List.reduceReplicate, List.append_nil, List.nil_append, List.cons_append, List.getElem?_cons_zero, List.getElem?_cons_succ, List.set_cons_zero, List.set_cons_succ, Option.some.injEq, exists_eq_left', exists_eq_left, V.ref.injEq, V.int.injEq, V.bl.injEq, V.str.injEq, V.ty.injEq, HO.tup.injEq, HO.lst.injEq, List.cons.injEq, and_true, true_and, and_assoc, exists_and_left, decide_eq_true_eq, Bool.not_eq_true', decide_eq_false_iff_not, ite_true, ite_false, if_true, if_false, Int.reduceToNat, eq_self_iff_true, rCat]
        refine ⟨by decide, fun m nm => ⟨_, same_upd nm _ _ (s7 _ _ (s16 _ _ hq)), _, upd_same, by simp only [List.length_map, List.length_cons, List.length_nil]; omega, fun q2 nq2 => kq _ _ ((same_upd nm).trans (same_upd nq2)) ⟨0, rfl, fun r' er' => ⟨q2, rfl, ?_⟩⟩⟩⟩
        rw [er] at er'
        cases er'
        rw [upd_same, List.map_append]
        rfl
      · intro ys H7 s7 ly hy D n1' n2'
        obtain ⟨Z, lZ, pZ, aZ⟩ := aug_of (by omega) hy
        have hm : MtH (upd H7 D (.lst ys)) D (Bar.aug L Z) := ⟨ys, upd_same, aZ.imp fun _ _ h => h.mono (same_upd n2')⟩
        have s8 := s7.trans (same_upd (o := .lst ys) n2')
        generalize upd H7 D (.lst ys) = H8 at *
        have lnZ := mkLn Z 1000000000000 (by omega) (fun s hs => by rw [pZ s hs]; decide) (by decide)
        refine ⟨_, hm, n, lnZ, fun fc vs z e0 H9 s9 nf hvs az anz => ?_⟩
        have zz : ∀ i, i < n → z.getD i 0 = 0 := nc (fun j => z.getD j 0) fun r hr => by
          obtain ⟨i, hi, rfl⟩ := List.getElem_of_mem hr
          have := fit_aug sq (by omega) (show i < n by omega) (List.getElem?_eq_getElem hi) anz.fit
          have z0 : Z.getD i 0 = 0 := by
            rw [List.getD_eq_getElem?_getD, List.getElem?_eq_getElem (show i < Z.length by omega)]
            exact pZ _ (List.getElem_mem _)
          rw [z0, Int.zero_mul] at this
          unfold Bar.kil
          exact Eq.trans (Bar.sm_congr fun j _ => Int.mul_comm _ _) this
        have ez : z = List.replicate n 0 := by
          refine List.ext_getElem? fun i => ?_
          rw [List.getElem?_replicate]
          by_cases c : i < n
          · have := zz i c
            rw [List.getD_eq_getElem?_getD, List.getElem?_eq_getElem (show i < z.length by rw [anz.len]; exact c), Option.getD_some] at this
            rw [if_pos c, List.getElem?_eq_getElem (show i < z.length by rw [anz.len]; exact c), this]
          · rw [if_neg c, List.getElem?_eq_none (by rw [anz.len]; omega)]
        have ed : shD z e0 = .lst (List.replicate n (.tup [.int 0, .int 1])) := by
          obtain ⟨a1, a2⟩ := st_zero anz.pos
          unfold shD
          rw [ez, List.map_replicate, a1, a2]
        refine ⟨by decide, fun t1 G1 g1 m1 e1 => ⟨by decide, fun lt nlt => ⟨_, upd_same, by omega, by omega, by simp only [List.length_cons, List.length_nil]; omega, fun lq nlq => ?_⟩⟩⟩
        rw [show (List.replicate ((n : Int)).toNat [V.ref t1]).flatten = List.replicate n (V.ref t1) from by rw [List.flatten_replicate_singleton, Int.toNat_natCast]]
        have u1 := (same_upd (o := .lst [V.ref t1]) nlt).trans (same_upd (o := .lst (List.replicate n (V.ref t1))) nlq)
        refine ⟨shD z e0, shs_rep ((g1.trans u1) _ _ hvs) (az.imp fun _ _ h => h.mono (g1.trans u1)), ?_, ⟨_, rfl⟩, depth_sh _ _, ?_⟩
        · rw [ed]
          refine rep_lst.mpr ⟨lq, _, rfl, upd_same, ?_⟩
          refine RepL.of (by rw [List.length_replicate, List.length_replicate]) fun i dd v e2 e3 => ?_
          rw [List.getElem?_replicate] at e2 e3
          by_cases c : i < n
          · rw [if_pos c] at e2 e3
            cases e2
            cases e3
            rw [Rep]
            refine ⟨t1, _, rfl, u1 _ _ e1, ?_⟩
            simp only [RepL, Rep]
            exact ⟨_, _, rfl, rfl, _, _, rfl, rfl, rfl⟩
          · rw [if_neg c] at e2
            cases e2
        · rw [if_neg (by decide)]
          exact hN _ _ ⟨s8.trans (s9.trans (g1.trans u1)), rfl⟩
    rintro _ H7 ⟨sm7, rfl⟩
    have s17 := s16.trans sm7
    have hp7 := s17 _ _ hp
    change tSeq _ _ _ [some (.ref sa), some (.int (n : Int)), some (.ref p), some (.ref c), some (.ref fa), some (.int (o1 : Int)), some (.int (o2 : Int)), some (.ref fb), none, none, none] H7
    refine seq_gen (fun σ' H8 => Same H7 H8 ∧ ∃ b2 T', MtH H8 b2 (Bar.aug L T') ∧ T'.length = n ∧ (∀ s ∈ T', s.natAbs ≤ 30) ∧ σ' = [some (.ref sa), some (.int (n : Int)), some (.ref p), some (.ref c), some (.ref fa), some (.int (o1 : Int)), some (.int (o2 : Int)), some (.ref fb), some (.ref b2), none, none]) ?_ (fun N hN => ?_)
    case refine_2 =>
      simp only [L2.start, Pr, tRev, tD1, tDPop1, tSl, tNoPart, tPart, rSlL, tDIn, tDNotIn, gSub, rSetL, tLst, tDNewK, tComp, L2.stC, tFor_eq, iList, iTup, iRng1, iRng2, iZip, iEnum, iDict, iStr, tChain, tSumV, tBM, rJoin, tJoined, jNil, jLit, jInt, jStr, tRaise, tDGet, tDGet2, tDGet1, sDPut, Option.join_some, List.getElem?_nil,  tSeq, tRet, tRetN, tIfS, tTest, tB, tOp, tUn, tVar, tC, tCB, tCons, tNil, tCall, tTupS, tAsg, gName, gNil, gCons, tPar, tNext, tDrop, tAnd, tOr, tNot, tAndV, tOrV, tNotV, tIf, rI, rI0, rU, rIxTH, rIxLH, rEqT, rNeT, rInT, rEq, rNe, scal, CPow, at0, at1, at2, List.map_cons, List.map_nil, List.length_cons, List.length_nil, Nat.reduceSub, Nat.reduceAdd, Nat.zero_add, List.replicate_zero, List.reduceReplicate, List.append_nil, List.nil_append, List.cons_append, List.getElem?_cons_zero, List.getElem?_cons_succ, List.set_cons_zero, List.set_cons_succ, Option.some.injEq, exists_eq_left', exists_eq_left, V.ref.injEq, V.int.injEq, V.bl.injEq, V.str.injEq, V.ty.injEq, HO.tup.injEq, HO.lst.injEq, List.cons.injEq, and_true, true_and, and_assoc, exists_and_left, decide_eq_true_eq, Bool.not_eq_true', decide_eq_false_iff_not, ite_true, ite_false, if_true, if_false, Int.reduceToNat, eq_self_iff_true]
      refine ⟨by omega, by omega, ?_⟩
      rw [Int.toNat_natCast]
      refine comp_map src_range (fun _ _ _ _ h => by rw [h.1]; exact Same.refl _) (by omega) (fun i y H4 => ∃ s : Int, s.natAbs ≤ 30 ∧ ∀ r, L[i]? = some r → Rw H4 (r ++ [s]) y) (fun _ _ _ _ s' ⟨s, h1, h2⟩ => ⟨s, h1, fun r e => (h2 r e).mono s'⟩) ?_ ?_
      · rintro i x' w0 H8 H9 Q2 hi s8 ⟨rfl, rfl⟩ kq
        obtain ⟨r, er, lr, mr⟩ := sq.at hi
        obtain ⟨y', ay', hy'⟩ := at_row al er
        simp only [L2.start, Pr, tRev, tD1, tDPop1, tSl, tNoPart, tPart, rSlL, tDIn, tDNotIn, gSub, rSetL, tLst, tDNewK, tComp, L2.stC, tFor_eq, iList, iTup, iRng1, iRng2, iZip, iEnum, iDict, iStr, tChain, tSumV, tBM, rJoin, tJoined, jNil, jLit, jInt, jStr, tRaise, tDGet, tDGet2, tDGet1, sDPut, Option.join_some, List.getElem?_nil,  tSeq, tRet, tRetN, tIfS, tTest, tB, tOp, tUn, tVar, tC, tCB, tCons, tNil, tCall, tTupS, tAsg, gName, gNil, gCons, tPar, tNext, tDrop, tAnd, tOr, tNot, tAndV, tOrV, tNotV, tIf, rI, rI0, rU, rIxTH, rIxLH, rEqT, rNeT, rInT, rEq, rNe, scal, CPow, at0, at1, at2, List.map_cons, List.map_nil, List.length_cons, List.length_nil, Nat.reduceSub, Nat.reduceAdd, Nat.zero_add, List.replicate_zero, List.reduceReplicate, List.append_nil, List.nil_append, List.cons_append, List.getElem?_cons_zero, List.getElem?_cons_succ, List.set_cons_zero, List.set_cons_succ, Option.some.injEq, exists_eq_left', exists_eq_left, V.ref.injEq, V.int.injEq, V.bl.injEq, V.str.injEq, V.ty.injEq, HO.tup.injEq, HO.lst.injEq, List.cons.injEq, and_true, true_and, and_assoc, exists_and_left, decide_eq_true_eq, Bool.not_eq_true', decide_eq_false_iff_not, ite_true, ite_false, if_true, if_false, Int.reduceToNat, eq_self_iff_true, spC, rCat, s8 _ _ hp7, Int.zero_add, ay']
        refine ⟨ns, (sm1.trans (s17.trans s8)).seq hS, by omega, by omega, fun v => ⟨by decide, by decide, fun m nm => ⟨_, same_upd nm _ _ (s8 _ _ (s17 _ _ hy')), _, upd_same, by simp only [List.length_map, List.length_cons, List.length_nil]; omega, fun q nq => kq _ _ ((same_upd nm).trans (same_upd nq)) ⟨v % 61 - 30, ?_, fun r' er' => ⟨q, rfl, ?_⟩⟩⟩⟩⟩
        · have m0 := Int.emod_nonneg v (show (61 : Int) ≠ 0 by decide)
          have m1 := Int.emod_lt_of_pos v (show (0 : Int) < 61 by decide)
          omega
        · rw [er] at er'
          cases er'
          rw [upd_same, List.map_append]
          rfl
      · intro ys H8 s8 ly hy D n1' n2'
        obtain ⟨S, lS, pS, aS⟩ := aug_of (by omega) hy
        exact hN _ _ ⟨s8.trans (same_upd n2'), D, S, ⟨ys, upd_same, aS.imp fun _ _ h => h.mono (same_upd n2')⟩, by omega, pS, rfl⟩
    rintro _ H8 ⟨sm8, b2, T', hb2, lT, bT, rfl⟩
    have s28 := sm3.trans (sm4.trans (sm5.trans (sm6.trans (sm7.trans sm8))))
    obtain ⟨cs, hcs, ac⟩ := hc.mono s28
    obtain ⟨bs, hbs, ab⟩ := id hb2
    have lcs := ac.length
    have lbs := ab.length
    rw [Bar.aug_len hl lS] at lcs
    rw [Bar.aug_len hl lT] at lbs
    change tSeq _ _ _ [some (.ref sa), some (.int (n : Int)), some (.ref p), some (.ref c), some (.ref fa), some (.int (o1 : Int)), some (.int (o2 : Int)), some (.ref fb), some (.ref b2), none, none] H8
    refine seq_gen (fun σ' H9 => Same H8 H9 ∧ ∃ b3, MtH H9 b3 (Bar.aug L ((List.range n).map fun i => S.getD i 0 + T'.getD i 0)) ∧ σ' = [some (.ref sa), some (.int (n : Int)), some (.ref p), some (.ref c), some (.ref fa), some (.int (o1 : Int)), some (.int (o2 : Int)), some (.ref fb), some (.ref b2), some (.ref b3), none]) ?_ (fun N hN => ?_)
    case refine_2 =>
      simp only [L2.start, Pr, tRev, tD1, tDPop1, tSl, tNoPart, tPart, rSlL, tDIn, tDNotIn, gSub, rSetL, tLst, tDNewK, tComp, L2.stC, tFor_eq, iList, iTup, iRng1, iRng2, iZip, iEnum, iDict, iStr, tChain, tSumV, tBM, rJoin, tJoined, jNil, jLit, jInt, jStr, tRaise, tDGet, tDGet2, tDGet1, sDPut, Option.join_some, List.getElem?_nil,  tSeq, tRet, tRetN, tIfS, tTest, tB, tOp, tUn, tVar, tC, tCB, tCons, tNil, tCall, tTupS, tAsg, gName, gNil, gCons, tPar, tNext, tDrop, tAnd, tOr, tNot, tAndV, tOrV, tNotV, tIf, rI, rI0, rU, rIxTH, rIxLH, rEqT, rNeT, rInT, rEq, rNe, scal, CPow, at0, at1, at2, List.map_cons, List.map_nil, List.length_cons, List.length_nil, Nat.reduceSub, Nat.reduceAdd, Nat.zero_add, List.replicate_zero, List.reduceReplicate, List.append_nil, List.nil_append, List.cons_append, List.getElem?_cons_zero, List.getElem?_cons_succ, List.set_cons_zero, List.set_cons_succ, Option.some.injEq, exists_eq_left', exists_eq_left, V.ref.injEq, V.int.injEq, V.bl.injEq, V.str.injEq, V.ty.injEq, HO.tup.injEq, HO.lst.injEq, List.cons.injEq, and_true, true_and, and_assoc, exists_and_left, decide_eq_true_eq, Bool.not_eq_true', decide_eq_false_iff_not, ite_true, ite_false, if_true, if_false, Int.reduceToNat, eq_self_iff_true]
      refine ⟨by omega, by omega, ?_⟩
      rw [Int.toNat_natCast]
      refine comp_map src_range (fun _ _ _ _ h => by rw [h.1]; exact Same.refl _) (by omega) (fun i y H4 => ∀ r, L[i]? = some r → Rw H4 (r ++ [S.getD i 0 + T'.getD i 0]) y) (fun _ _ _ _ s' h r e => (h r e).mono s') ?_ ?_
      · rintro i x' w0 H9 H10 Q2 hi s9 ⟨rfl, rfl⟩ kq
        obtain ⟨r, er, lr, mr⟩ := sq.at hi
        have ec := Bar.aug_get lS hi er
        have eb := Bar.aug_get lT hi er
        obtain ⟨y1, a1, h1⟩ := at_row ac ec
        obtain ⟨y2, a2, h2⟩ := at_row ab eb
        have lrs : ∀ s : Int, (r ++ [s]).length = n + 1 := fun s => by rw [List.length_append, lr]; rfl
        have c1 := cut_last (lrs (S.getD i 0))
        have g1 := at_last (lrs (S.getD i 0))
        have g2 := at_last (lrs (T'.getD i 0))
        have gl : ∀ s : Int, (r ++ [s]).getD n 0 = s := fun s => by
          rw [List.getD_eq_getElem?_getD, List.getElem?_append_right (by omega), lr]
          simp
        have tk : (r ++ [S.getD i 0]).take n = r := by rw [List.take_append_of_le_length (by omega), List.take_of_length_le (by omega)]
        rw [gl] at g1 g2
        rw [tk] at c1
        have h1' := s9 _ _ h1
        have h2' := s9 _ _ h2
        have hcs' := s9 _ _ hcs
        have hbs' := s9 _ _ hbs
        simp only [L2.start, Pr, tRev, tD1, tDPop1, tSl, tNoPart, tPart, rSlL, tDIn, tDNotIn, gSub, rSetL, tLst, tDNewK, tComp, L2.stC, tFor_eq, iList, iTup, iRng1, iRng2, iZip, iEnum, iDict, iStr, tChain, tSumV, tBM, rJoin, tJoined, jNil, jLit, jInt, jStr, tRaise, tDGet, tDGet2, tDGet1, sDPut, Option.join_some, List.getElem?_nil,  tSeq, tRet, tRetN, tIfS, tTest, tB, tOp, tUn, tVar, tC, tCB, tCons, tNil, tCall, tTupS, tAsg, gName, gNil, gCons, tPar, tNext, tDrop, tAnd, tOr, tNot, tAndV, tOrV, tNotV, tIf, rI, rI0, rU, rIxTH, rIxLH, rEqT, rNeT, rInT, rEq, rNe, scal, CPow, at0, at1, at2, List.map_cons, List.map_nil, List.length_cons, List.length_nil, Nat.reduceSub, Nat.reduceAdd, Nat.zero_add, List.replicate_zero, List.reduceReplicate, List.append_nil, List.nil_append, List.cons_append, List.getElem?_cons_zero, List.getElem?_cons_succ, List.set_cons_zero, List.set_cons_succ, Option.some.injEq, exists_eq_left', exists_eq_left, V.ref.injEq, V.int.injEq, V.bl.injEq, V.str.injEq, V.ty.injEq, HO.tup.injEq, HO.lst.injEq, List.cons.injEq, and_true, true_and, and_assoc, exists_and_left, decide_eq_true_eq, Bool.not_eq_true', decide_eq_false_iff_not, ite_true, ite_false, if_true, if_false, Int.reduceToNat, eq_self_iff_true, rCat, hcs', Int.zero_add, a1]
        refine ⟨_, SqL.of h1', fun m nm => ?_⟩
        have u1 := same_upd (o := .lst (cutV (List.map V.int (r ++ [S.getD i 0])) none (some (-1)))) nm
        have hm : upd H10 m (.lst (cutV (List.map V.int (r ++ [S.getD i 0])) none (some (-1)))) m = some (.lst (List.map V.int r)) := by rw [upd_same, c1]
        generalize upd H10 m (.lst (cutV (List.map V.int (r ++ [S.getD i 0])) none (some (-1)))) = G at *
        refine ⟨_, u1 _ _ hcs', _, a1, _, rfl, _, u1 _ _ h1', _, g1, _, u1 _ _ hbs', _, a2, _, rfl, _, u1 _ _ h2', _, g2, _, rfl, _, rfl, by decide, fun m2 nm2 => ⟨_, same_upd nm2 _ _ hm, _, upd_same, by simp only [List.length_map, List.length_cons, List.length_nil]; omega, fun q nq => kq _ _ (u1.trans ((same_upd nm2).trans (same_upd nq))) fun r' er' => ⟨q, rfl, ?_⟩⟩⟩
        rw [er] at er'
        cases er'
        rw [upd_same, List.map_append]
        rfl
      · intro ys H9 s9 ly hy D n1' n2'
        refine hN _ _ ⟨s9.trans (same_upd n2'), D, ⟨ys, upd_same, Al.of (by rw [Bar.aug_len hl (by rw [List.length_map, List.length_range])]; omega) fun i y' q e1 e2 => ?_⟩, rfl⟩
        have hi : i < n := by rw [← ly]; exact (List.getElem?_eq_some_iff.mp e1).1
        obtain ⟨r, er, lr, mr⟩ := sq.at hi
        rw [Bar.aug_get (by rw [List.length_map, List.length_range]) hi er] at e2
        cases e2
        have := hy i y' e1 r er
        rw [show ((List.range n).map fun i => S.getD i 0 + T'.getD i 0).getD i 0 = S.getD i 0 + T'.getD i 0 from by rw [List.getD_eq_getElem?_getD, List.getElem?_map, List.getElem?_range hi]; rfl]
        exact this.mono (same_upd n2')
    rintro _ H9 ⟨sm9, b3, hb3, rfl⟩
    have lnT := mkLn T' 1000000000000 lT (fun s hs => Nat.le_trans (bT s hs) (by decide)) (by decide)
    change tSeq _ _ _ [some (.ref sa), some (.int (n : Int)), some (.ref p), some (.ref c), some (.ref fa), some (.int (o1 : Int)), some (.int (o2 : Int)), some (.ref fb), some (.ref b2), some (.ref b3), none] H9
    refine seq_gen (fun σ' H10 => Same H9 H10 ∧ ∃ fd2 vs u e2, H10 fd2 = some (.lst vs) ∧ Al (ShR H10 e2) u vs ∧ Ans (Bar.aug L T') n u e2 ∧ σ' = [some (.ref sa), some (.int (n : Int)), some (.ref p), some (.ref c), some (.ref fa), some (.int (o1 : Int)), some (.int (o2 : Int)), some (.ref fb), some (.ref b2), some (.ref b3), some (.ref fd2)]) ?_ (fun N hN => ?_)
    case refine_2 =>
      simp only [L2.start, Pr, tRev, tD1, tDPop1, tSl, tNoPart, tPart, rSlL, tDIn, tDNotIn, gSub, rSetL, tLst, tDNewK, tComp, L2.stC, tFor_eq, iList, iTup, iRng1, iRng2, iZip, iEnum, iDict, iStr, tChain, tSumV, tBM, rJoin, tJoined, jNil, jLit, jInt, jStr, tRaise, tDGet, tDGet2, tDGet1, sDPut, Option.join_some, List.getElem?_nil,  tSeq, tRet, tRetN, tIfS, tTest, tB, tOp, tUn, tVar, tC, tCB, tCons, tNil, tCall, tTupS, tAsg, gName, gNil, gCons, tPar, tNext, tDrop, tAnd, tOr, tNot, tAndV, tOrV, tNotV, tIf, rI, rI0, rU, rIxTH, rIxLH, rEqT, rNeT, rInT, rEq, rNe, scal, CPow, at0, at1, at2, List.map_cons, List.map_nil, List.length_cons, List.length_nil, Nat.reduceSub, Nat.reduceAdd, Nat.zero_add, List.replicate_zero, List.reduceReplicate, List.append_nil, List.nil_append, List.cons_append, List.getElem?_cons_zero, List.getElem?_cons_succ, List.set_cons_zero, List.set_cons_succ, Option.some.injEq, exists_eq_left', exists_eq_left, V.ref.injEq, V.int.injEq, V.bl.injEq, V.str.injEq, V.ty.injEq, HO.tup.injEq, HO.lst.injEq, List.cons.injEq, and_true, true_and, and_assoc, exists_and_left, decide_eq_true_eq, Bool.not_eq_true', decide_eq_false_iff_not, ite_true, ite_false, if_true, if_false, Int.reduceToNat, eq_self_iff_true, spAns]
      exact ⟨_, hb2.mono sm9, n, lnT, fun fa us x d H3 s3 nf hf ax an => hN _ _ ⟨s3, fa, us, x, d, hf, ax, an, rfl⟩⟩
    rintro _ H10 ⟨sm10, fd2, vs, u, e2, hvs, au, anT, rfl⟩
    have lU : ((List.range n).map fun i => S.getD i 0 + T'.getD i 0).length = n := by rw [List.length_map, List.length_range]
    have lnU := mkLn ((List.range n).map fun i => S.getD i 0 + T'.getD i 0) 1000000000000 lU (fun s hs => by
      obtain ⟨i, hi, rfl⟩ := List.mem_map.mp hs
      have hi := List.mem_range.mp hi
      have h1 := bS (S.getD i 0) (by rw [List.getD_eq_getElem?_getD, List.getElem?_eq_getElem (show i < S.length by omega)]; exact List.getElem_mem _)
      have h2 := bT (T'.getD i 0) (by rw [List.getD_eq_getElem?_getD, List.getElem?_eq_getElem (show i < T'.length by omega)]; exact List.getElem_mem _)
      omega) (by decide)
    have s310 := s35.trans (sm6.trans (sm7.trans (sm8.trans (sm9.trans sm10))))
    simp only [L2.start, Pr, tRev, tD1, tDPop1, tSl, tNoPart, tPart, rSlL, tDIn, tDNotIn, gSub, rSetL, tLst, tDNewK, tComp, L2.stC, tFor_eq, iList, iTup, iRng1, iRng2, iZip, iEnum, iDict, iStr, tChain, tSumV, tBM, rJoin, tJoined, jNil, jLit, jInt, jStr, tRaise, tDGet, tDGet2, tDGet1, sDPut, Option.join_some, List.getElem?_nil,  tSeq, tRet, tRetN, tIfS, tTest, tB, tOp, tUn, tVar, tC, tCB, tCons, tNil, tCall, tTupS, tAsg, gName, gNil, gCons, tPar, tNext, tDrop, tAnd, tOr, tNot, tAndV, tOrV, tNotV, tIf, rI, rI0, rU, rIxTH, rIxLH, rEqT, rNeT, rInT, rEq, rNe, scal, CPow, at0, at1, at2, List.map_cons, List.map_nil, List.length_cons, List.length_nil, Nat.reduceSub, Nat.reduceAdd, Nat.zero_add, List.replicate_zero, List.reduceReplicate, List.append_nil, List.nil_append, List.cons_append, List.getElem?_cons_zero, List.getElem?_cons_succ, List.set_cons_zero, List.set_cons_succ, Option.some.injEq, exists_eq_left', exists_eq_left, V.ref.injEq, V.int.injEq, V.bl.injEq, V.str.injEq, V.ty.injEq, HO.tup.injEq, HO.lst.injEq, List.cons.injEq, and_true, true_and, and_assoc, exists_and_left, decide_eq_true_eq, Bool.not_eq_true', decide_eq_false_iff_not, ite_true, ite_false, if_true, if_false, Int.reduceToNat, eq_self_iff_true, spAns, spPlu, rEqD]
    rw [if_neg (by simp)]
    refine ⟨_, hb3.mono sm10, n, lnU, fun fq ts z f' H11 s11 nf hts az anU => ?_⟩
    have s311 := s310.trans s11
    have hf11 := s311 _ _ hf
    have hv11 := s11 _ _ hvs
    have ax11 := ax.imp fun _ _ h => h.mono s311
    have au11 := au.imp fun _ _ h => h.mono s11
    have lvs := au.length
    have lu := anT.len
    have lzz := anU.len
    have e20 := anT.pos
    have f0 := anU.pos
    have fa3 : ∀ i, i < n → z.getD i 0 * (d * e2) = (x.getD i 0 * e2 + u.getD i 0 * d) * f' := fun i hi => Bar.fit_add nc (by omega) (by omega) (fun r hr => by
      obtain ⟨j, hj, rfl⟩ := List.getElem_of_mem hr
      have hjn : j < n := by omega
      have ej : L[j]? = some L[j] := List.getElem?_eq_getElem hj
      have g3 := fit_aug sq lU hjn ej anU.fit
      rw [show ((List.range n).map fun i => S.getD i 0 + T'.getD i 0).getD j 0 = S.getD j 0 + T'.getD j 0 from by rw [List.getD_eq_getElem?_getD, List.getElem?_map, List.getElem?_range hjn]; rfl] at g3
      exact ⟨_, fit_aug sq lS hjn ej an.fit, _, fit_aug sq lT hjn ej anT.fit, g3⟩) hi
    refine ⟨⟨_, SqL.of hf11⟩, ⟨_, SqL.of hv11⟩, ?_⟩
    refine comp_map2 (K := K) (src_zip (fun H' s' => SqL.of (s' _ _ hf11)) (fun H' s' => SqL.of (s' _ _ hv11))) (fun i a b _ => ∃ v w', x[i]? = some v ∧ u[i]? = some w' ∧ ShR H11 d v a ∧ ShR H11 e2 w' b) ?_ (by omega) (fun i y H' => ∀ zi, z[i]? = some zi → ShR H' f' zi y) (fun _ _ _ _ s h zi ez => (h zi ez).mono s) ?_ ?_
    · rintro i v H12 H13 hi s12 ⟨t', a', b', nt, rfl, ea, eb, rfl⟩
      obtain ⟨v1, ev1, hv1⟩ := ax11.get ea
      obtain ⟨w1, ew1, hw1⟩ := au11.get eb
      exact ⟨same_upd nt, t', _, _, rfl, SqT.of upd_same, v1, w1, ev1, ew1, hv1, hw1⟩
    · rintro i a' b' H12 Q2 hi s12 ⟨v1, w1, ev1, ew1, ⟨q1, rfl, hq1⟩, q2, rfl, hq2⟩ kq
      have B1 : Bt 4000 (Nm.st v1 d) := (an.bx v1 (List.mem_of_getElem? ev1)).le (Nm.st_abs (by omega))
      have B2 : Bt 300 (Nm.sb v1 d) := an.bd.le (Nm.sb_abs (by omega))
      have B3 : Bt 4000 (Nm.st w1 e2) := (anT.bx w1 (List.mem_of_getElem? ew1)).le (Nm.st_abs (by omega))
      have B4 : Bt 300 (Nm.sb w1 e2) := anT.bd.le (Nm.sb_abs (by omega))
      have p1 := Nm.sb_pos (a := v1) (b := d) (by omega)
      have p2 := Nm.sb_pos (a := w1) (b := e2) (by omega)
      have pp := Int.mul_pos p1 p2
      simp only [L2.start, Pr, tRev, tD1, tDPop1, tSl, tNoPart, tPart, rSlL, tDIn, tDNotIn, gSub, rSetL, tLst, tDNewK, tComp, L2.stC, tFor_eq, iList, iTup, iRng1, iRng2, iZip, iEnum, iDict, iStr, tChain, tSumV, tBM, rJoin, tJoined, jNil, jLit, jInt, jStr, tRaise, tDGet, tDGet2, tDGet1, sDPut, Option.join_some, List.getElem?_nil,  tSeq, tRet, tRetN, tIfS, tTest, tB, tOp, tUn, tVar, tC, tCB, tCons, tNil, tCall, tTupS, tAsg, gName, gNil, gCons, tPar, tNext, tDrop, tAnd, tOr, tNot, tAndV, tOrV, tNotV, tIf, rI, rI0, rU, rIxTH, rIxLH, rEqT, rNeT, rInT, rEq, rNe, scal, CPow, at0, at1, at2, List.map_cons, List.map_nil, List.length_cons, List.length_nil, Nat.reduceSub, Nat.reduceAdd, Nat.zero_add, List.replicate_zero, List.reduceReplicate, List.append_nil, List.nil_append, List.cons_append, List.getElem?_cons_zero, List.getElem?_cons_succ, List.set_cons_zero, List.set_cons_succ, Option.some.injEq, exists_eq_left', exists_eq_left, V.ref.injEq, V.int.injEq, V.bl.injEq, V.str.injEq, V.ty.injEq, HO.tup.injEq, HO.lst.injEq, List.cons.injEq, and_true, true_and, and_assoc, exists_and_left, decide_eq_true_eq, Bool.not_eq_true', decide_eq_false_iff_not, ite_true, ite_false, if_true, if_false, Int.reduceToNat, eq_self_iff_true, spPlu]
      refine ⟨_, _, s12 _ _ hq1, _, _, s12 _ _ hq2, B1, B2, B3, B4, by omega, fun r H' s' e' => kq _ _ s' fun zi ez => ⟨r, rfl, ?_⟩⟩
      have hin : i < n := by rw [← lan]; exact (List.getElem?_eq_some_iff.mp ev1).1
      have h3 := fa3 i hin
      rw [List.getD_eq_getElem?_getD, ez, List.getD_eq_getElem?_getD, ev1, List.getD_eq_getElem?_getD, ew1] at h3
      simp only [Option.getD_some] at h3
      have key := sum_sh (by omega) (by omega) (Nm.st_cross v1 d) (Nm.st_cross w1 e2) h3
      obtain ⟨k1, k2⟩ := Nm.st_eq (by omega) (by omega) key
      rw [e', k1, k2]
      rfl
    · intro zs H12 s12 lz hz D n3 n4
      have u12 := s12.trans (same_upd (o := .lst zs) n4)
      refine ⟨shD z f', shs_rep (u12 _ _ hts) (az.imp fun _ _ h => h.mono u12), shs_rep upd_same (Al.of (by omega) fun i y' zi e1 e3 => (hz i y' e1 zi e3).mono (same_upd n4)), ⟨_, rfl⟩, depth_sh _ _, kk _⟩
end
theorem all_mk {l : PySem.W.OpenLaw} {w : World} {K : PySem.W.Frag} {h : Heap} {mg : Str → Option Value} {fa : Addr} (X : K.In h) (G : h.Ns mainGlobals mg) (hfa : mg "law" = some (.ref fa))
    {f0 : Addr} {od0 an0 : Option Addr} {sl0 : Array (Option Value)} {oc0 kV0 dc0 pm0 cd0 ct0 : Value} {f1 : Addr} {od1 an1 : Option Addr} {sl1 : Array (Option Value)} {oc1 kV1 dc1 pm1 cd1 ct1 : Value} {f2 : Addr} {od2 an2 : Option Addr} {sl2 : Array (Option Value)} {oc2 kV2 dc2 pm2 cd2 ct2 : Value} {f3 : Addr} {od3 an3 : Option Addr} {sl3 : Array (Option Value)} {oc3 kV3 dc3 pm3 cd3 ct3 : Value} {f4 : Addr} {od4 an4 : Option Addr} {sl4 : Array (Option Value)} {oc4 kV4 dc4 pm4 cd4 ct4 : Value} {f5 : Addr} {od5 an5 : Option Addr} {sl5 : Array (Option Value)} {oc5 kV5 dc5 pm5 cd5 ct5 : Value} {f6 : Addr} {od6 an6 : Option Addr} {sl6 : Array (Option Value)} {oc6 kV6 dc6 pm6 cd6 ct6 : Value} {f7 : Addr} {od7 an7 : Option Addr} {sl7 : Array (Option Value)} {oc7 kV7 dc7 pm7 cd7 ct7 : Value} {f8 : Addr} {od8 an8 : Option Addr} {sl8 : Array (Option Value)} {oc8 kV8 dc8 pm8 cd8 ct8 : Value} {f9 : Addr} {od9 an9 : Option Addr} {sl9 : Array (Option Value)} {oc9 kV9 dc9 pm9 cd9 ct9 : Value} {f10 : Addr} {od10 an10 : Option Addr} {sl10 : Array (Option Value)} {oc10 kV10 dc10 pm10 cd10 ct10 : Value} {f11 : Addr} {od11 an11 : Option Addr} {sl11 : Array (Option Value)} {oc11 kV11 dc11 pm11 cd11 ct11 : Value} {f12 : Addr} {od12 an12 : Option Addr} {sl12 : Array (Option Value)} {oc12 kV12 dc12 pm12 cd12 ct12 : Value} {f13 : Addr} {od13 an13 : Option Addr} {sl13 : Array (Option Value)} {oc13 kV13 dc13 pm13 cd13 ct13 : Value} {f14 : Addr} {od14 an14 : Option Addr} {sl14 : Array (Option Value)} {oc14 kV14 dc14 pm14 cd14 ct14 : Value} {f15 : Addr} {od15 an15 : Option Addr} {sl15 : Array (Option Value)} {oc15 kV15 dc15 pm15 cd15 ct15 : Value} {f16 : Addr} {od16 an16 : Option Addr} {sl16 : Array (Option Value)} {oc16 kV16 dc16 pm16 cd16 ct16 : Value} {f17 : Addr} {od17 an17 : Option Addr} {sl17 : Array (Option Value)} {oc17 kV17 dc17 pm17 cd17 ct17 : Value} {f18 : Addr} {od18 an18 : Option Addr} {sl18 : Array (Option Value)} {oc18 kV18 dc18 pm18 cd18 ct18 : Value} {q_NoShare : Addr}
    (a0 : PySem.W.nsIn K mainGlobals "common_divisor" = some (some (.ref f0))) (l0 : K.lookup f0 = some ⟨oc0, od0, .func (PySem.W.fnOf "common_divisor" "common_divisor" (defArgs (top 4)) (defBody (top 4)) (defScope (top 4)) .none kV0 dc0 pm0 an0 cd0 ct0), sl0⟩) (e0 : PySem.W.codeIn K cd0 "common_divisor" = true) (k0 : PySem.W.keepIn K (.ref f0) = true)
    (a1 : PySem.W.nsIn K mainGlobals "share" = some (some (.ref f1))) (l1 : K.lookup f1 = some ⟨oc1, od1, .func (PySem.W.fnOf "share" "share" (defArgs (top 5)) (defBody (top 5)) (defScope (top 5)) .none kV1 dc1 pm1 an1 cd1 ct1), sl1⟩) (e1 : PySem.W.codeIn K cd1 "share" = true) (k1 : PySem.W.keepIn K (.ref f1) = true)
    (a2 : PySem.W.nsIn K mainGlobals "plus" = some (some (.ref f2))) (l2 : K.lookup f2 = some ⟨oc2, od2, .func (PySem.W.fnOf "plus" "plus" (defArgs (top 6)) (defBody (top 6)) (defScope (top 6)) .none kV2 dc2 pm2 an2 cd2 ct2), sl2⟩) (e2 : PySem.W.codeIn K cd2 "plus" = true) (k2 : PySem.W.keepIn K (.ref f2) = true)
    (a3 : PySem.W.nsIn K mainGlobals "row_with_head" = some (some (.ref f3))) (l3 : K.lookup f3 = some ⟨oc3, od3, .func (PySem.W.fnOf "row_with_head" "row_with_head" (defArgs (top 8)) (defBody (top 8)) (defScope (top 8)) .none kV3 dc3 pm3 an3 cd3 ct3), sl3⟩) (e3 : PySem.W.codeIn K cd3 "row_with_head" = true) (k3 : PySem.W.keepIn K (.ref f3) = true)
    (a4 : PySem.W.nsIn K mainGlobals "swapped" = some (some (.ref f4))) (l4 : K.lookup f4 = some ⟨oc4, od4, .func (PySem.W.fnOf "swapped" "swapped" (defArgs (top 9)) (defBody (top 9)) (defScope (top 9)) .none kV4 dc4 pm4 an4 cd4 ct4), sl4⟩) (e4 : PySem.W.codeIn K cd4 "swapped" = true) (k4 : PySem.W.keepIn K (.ref f4) = true)
    (a5 : PySem.W.nsIn K mainGlobals "without_first_column" = some (some (.ref f5))) (l5 : K.lookup f5 = some ⟨oc5, od5, .func (PySem.W.fnOf "without_first_column" "without_first_column" (defArgs (top 10)) (defBody (top 10)) (defScope (top 10)) .none kV5 dc5 pm5 an5 cd5 ct5), sl5⟩) (e5 : PySem.W.codeIn K cd5 "without_first_column" = true) (k5 : PySem.W.keepIn K (.ref f5) = true)
    (a6 : PySem.W.nsIn K mainGlobals "swept" = some (some (.ref f6))) (l6 : K.lookup f6 = some ⟨oc6, od6, .func (PySem.W.fnOf "swept" "swept" (defArgs (top 11)) (defBody (top 11)) (defScope (top 11)) .none kV6 dc6 pm6 an6 cd6 ct6), sl6⟩) (e6 : PySem.W.codeIn K cd6 "swept" = true) (k6 : PySem.W.keepIn K (.ref f6) = true)
    (a7 : PySem.W.nsIn K mainGlobals "whole_answers" = some (some (.ref f7))) (l7 : K.lookup f7 = some ⟨oc7, od7, .func (PySem.W.fnOf "whole_answers" "whole_answers" (defArgs (top 12)) (defBody (top 12)) (defScope (top 12)) .none kV7 dc7 pm7 an7 cd7 ct7), sl7⟩) (e7 : PySem.W.codeIn K cd7 "whole_answers" = true) (k7 : PySem.W.keepIn K (.ref f7) = true)
    (a8 : PySem.W.nsIn K mainGlobals "column_of" = some (some (.ref f8))) (l8 : K.lookup f8 = some ⟨oc8, od8, .func (PySem.W.fnOf "column_of" "column_of" (defArgs (top 13)) (defBody (top 13)) (defScope (top 13)) .none kV8 dc8 pm8 an8 cd8 ct8), sl8⟩) (e8 : PySem.W.codeIn K cd8 "column_of" = true) (k8 : PySem.W.keepIn K (.ref f8) = true)
    (a9 : PySem.W.nsIn K mainGlobals "turned_rows" = some (some (.ref f9))) (l9 : K.lookup f9 = some ⟨oc9, od9, .func (PySem.W.fnOf "turned_rows" "turned_rows" (defArgs (top 14)) (defBody (top 14)) (defScope (top 14)) .none kV9 dc9 pm9 an9 cd9 ct9), sl9⟩) (e9 : PySem.W.codeIn K cd9 "turned_rows" = true) (k9 : PySem.W.keepIn K (.ref f9) = true)
    (a10 : PySem.W.nsIn K mainGlobals "factors_to_noughts" = some (some (.ref f10))) (l10 : K.lookup f10 = some ⟨oc10, od10, .func (PySem.W.fnOf "factors_to_noughts" "factors_to_noughts" (defArgs (top 15)) (defBody (top 15)) (defScope (top 15)) .none kV10 dc10 pm10 an10 cd10 ct10), sl10⟩) (e10 : PySem.W.codeIn K cd10 "factors_to_noughts" = true) (k10 : PySem.W.keepIn K (.ref f10) = true)
    (a11 : PySem.W.nsIn K mainGlobals "solved" = some (some (.ref f11))) (l11 : K.lookup f11 = some ⟨oc11, od11, .func (PySem.W.fnOf "solved" "solved" (defArgs (top 16)) (defBody (top 16)) (defScope (top 16)) .none kV11 dc11 pm11 an11 cd11 ct11), sl11⟩) (e11 : PySem.W.codeIn K cd11 "solved" = true) (k11 : PySem.W.keepIn K (.ref f11) = true)
    (a12 : PySem.W.nsIn K mainGlobals "_law_cell" = some (some (.ref f12))) (l12 : K.lookup f12 = some ⟨oc12, od12, .func (PySem.W.fnOf "_law_cell" "_law_cell" (defArgs (top 18)) (defBody (top 18)) (defScope (top 18)) .none kV12 dc12 pm12 an12 cd12 ct12), sl12⟩) (e12 : PySem.W.codeIn K cd12 "_law_cell" = true) (k12 : PySem.W.keepIn K (.ref f12) = true)
    (a13 : PySem.W.nsIn K mainGlobals "_law_mixed" = some (some (.ref f13))) (l13 : K.lookup f13 = some ⟨oc13, od13, .func (PySem.W.fnOf "_law_mixed" "_law_mixed" (defArgs (top 19)) (defBody (top 19)) (defScope (top 19)) .none kV13 dc13 pm13 an13 cd13 ct13), sl13⟩) (e13 : PySem.W.codeIn K cd13 "_law_mixed" = true) (k13 : PySem.W.keepIn K (.ref f13) = true)
    (a14 : PySem.W.nsIn K mainGlobals "_law_rows" = some (some (.ref f14))) (l14 : K.lookup f14 = some ⟨oc14, od14, .func (PySem.W.fnOf "_law_rows" "_law_rows" (defArgs (top 20)) (defBody (top 20)) (defScope (top 20)) .none kV14 dc14 pm14 an14 cd14 ct14), sl14⟩) (e14 : PySem.W.codeIn K cd14 "_law_rows" = true) (k14 : PySem.W.keepIn K (.ref f14) = true)
    (a15 : PySem.W.nsIn K mainGlobals "_law_answer" = some (some (.ref f15))) (l15 : K.lookup f15 = some ⟨oc15, od15, .func (PySem.W.fnOf "_law_answer" "_law_answer" (defArgs (top 21)) (defBody (top 21)) (defScope (top 21)) .none kV15 dc15 pm15 an15 cd15 ct15), sl15⟩) (e15 : PySem.W.codeIn K cd15 "_law_answer" = true) (k15 : PySem.W.keepIn K (.ref f15) = true)
    (a16 : PySem.W.nsIn K mainGlobals "_law_changed" = some (some (.ref f16))) (l16 : K.lookup f16 = some ⟨oc16, od16, .func (PySem.W.fnOf "_law_changed" "_law_changed" (defArgs (top 22)) (defBody (top 22)) (defScope (top 22)) .none kV16 dc16 pm16 an16 cd16 ct16), sl16⟩) (e16 : PySem.W.codeIn K cd16 "_law_changed" = true) (k16 : PySem.W.keepIn K (.ref f16) = true)
    (a17 : PySem.W.nsIn K mainGlobals "_law_swapped" = some (some (.ref f17))) (l17 : K.lookup f17 = some ⟨oc17, od17, .func (PySem.W.fnOf "_law_swapped" "_law_swapped" (defArgs (top 23)) (defBody (top 23)) (defScope (top 23)) .none kV17 dc17 pm17 an17 cd17 ct17), sl17⟩) (e17 : PySem.W.codeIn K cd17 "_law_swapped" = true) (k17 : PySem.W.keepIn K (.ref f17) = true)
    (a18 : PySem.W.nsIn K mainGlobals "law" = some (some (.ref f18))) (l18 : K.lookup f18 = some ⟨oc18, od18, .func (PySem.W.fnOf "law" "law" (defArgs (top 24)) (defBody (top 24)) (defScope (top 24)) .none kV18 dc18 pm18 an18 cd18 ct18), sl18⟩) (e18 : PySem.W.codeIn K cd18 "law" = true) (k18 : PySem.W.keepIn K (.ref f18) = true)
    (z_abs : PySem.W.nsIn K mainGlobals "abs" = some none)
    (z_enumerate : PySem.W.nsIn K mainGlobals "enumerate" = some none)
    (z_isinstance : PySem.W.nsIn K mainGlobals "isinstance" = some none)
    (z_len : PySem.W.nsIn K mainGlobals "len" = some none)
    (z_list : PySem.W.nsIn K mainGlobals "list" = some none)
    (z_range : PySem.W.nsIn K mainGlobals "range" = some none)
    (z_tuple : PySem.W.nsIn K mainGlobals "tuple" = some none)
    (z_zip : PySem.W.nsIn K mainGlobals "zip" = some none)
    (k_NoShare : PySem.W.nsIn K mainGlobals "NoShare" = some (some (.ref q_NoShare)))
    (x_NoShare : PySem.W.excIn K q_NoShare bmVE newVE = true)
    : ∃ fd : FuncData, (∀ (s : Shared) (v : Value), BindsTo s fd ⟨[v], []⟩ [("_law_script", v)]) ∧ ∀ base : Heap, K.In base → base.Ns mainGlobals mg → FnOk l.prog w K mg base (CX1 l.prog w) 30 fa fd ["_law_script"] (spLaw K) := by
  have e := hfa.symm.trans (PySem.W.mg_of X G a18)
  cases e
  have T : Txt K mg q_NoShare := ⟨PySem.W.mg_none_of X G z_abs, PySem.W.mg_none_of X G z_enumerate, PySem.W.mg_none_of X G z_isinstance, PySem.W.mg_none_of X G z_len, PySem.W.mg_none_of X G z_list, PySem.W.mg_none_of X G z_range, PySem.W.mg_none_of X G z_tuple, PySem.W.mg_none_of X G z_zip, ⟨_, _, fun_mk l0 e0 k0, PySem.W.mg_of X G a0⟩, ⟨_, _, fun_mk l1 e1 k1, PySem.W.mg_of X G a1⟩, ⟨_, _, fun_mk l2 e2 k2, PySem.W.mg_of X G a2⟩, ⟨_, _, fun_mk l3 e3 k3, PySem.W.mg_of X G a3⟩, ⟨_, _, fun_mk l4 e4 k4, PySem.W.mg_of X G a4⟩, ⟨_, _, fun_mk l5 e5 k5, PySem.W.mg_of X G a5⟩, ⟨_, _, fun_mk l6 e6 k6, PySem.W.mg_of X G a6⟩, ⟨_, _, fun_mk l7 e7 k7, PySem.W.mg_of X G a7⟩, ⟨_, _, fun_mk l8 e8 k8, PySem.W.mg_of X G a8⟩, ⟨_, _, fun_mk l9 e9 k9, PySem.W.mg_of X G a9⟩, ⟨_, _, fun_mk l10 e10 k10, PySem.W.mg_of X G a10⟩, ⟨_, _, fun_mk l11 e11 k11, PySem.W.mg_of X G a11⟩, ⟨_, _, fun_mk l12 e12 k12, PySem.W.mg_of X G a12⟩, ⟨_, _, fun_mk l13 e13 k13, PySem.W.mg_of X G a13⟩, ⟨_, _, fun_mk l14 e14 k14, PySem.W.mg_of X G a14⟩, ⟨_, _, fun_mk l15 e15 k15, PySem.W.mg_of X G a15⟩, ⟨_, _, fun_mk l16 e16 k16, PySem.W.mg_of X G a16⟩, ⟨_, _, fun_mk l17 e17 k17, PySem.W.mg_of X G a17⟩, PySem.W.mg_of X G k_NoShare, x_NoShare⟩
  exact ⟨_, fun s v => .of_eq rfl, fun base _ _ => (ok_law T (fun_mk l18 e18 k18)).mono (by decide)⟩
theorem walk {l : PySem.W.OpenLaw} {q : Program} {loose : List Str} {XP : (Str → Option Value) → Heap → Prop} {YP : World → Heap → Prop} {d : DefRec} {K : Params → PySem.W.Frag} (hn : l.most = some 63) (hdf : d.params.defaults = [])
    (hY : ∀ (w : World) (h : Heap), YP w h → (K w.params).In h)
    (F : ∀ (w : World) (mg : Str → Option Value) (fa : Addr) (h : Heap), (K w.params).In h → h.Ns mainGlobals mg → mg d.name = some (.ref fa) →
      ∃ fd : FuncData, (∀ (s : Shared) (u : Value), BindsTo s fd ⟨[u], []⟩ [("_law_script", u)]) ∧ ∀ base : Heap, (K w.params).In base → base.Ns mainGlobals mg → FnOk l.prog w (K w.params) mg base (CX1 l.prog w) 30 fa fd ["_law_script"] (spLaw (K w.params))) :
    PySem.W.WalkO q loose XP YP l.row.toRowW d [] (fun f vs => PySem.call f vs) :=
  L2.walk_of (n := 63) (k := 30) (x := "_law_script") (CX := fun w => CX1 l.prog w) (sp := fun w => spLaw (K w.params)) hn (by decide) hdf ⟨rfl, by decide, by decide⟩ hY F (fun _ _ a ns hl _ hS => ⟨a, ns, rfl, hS, hl, fun _ => rfl⟩) fun _ _ _ _ _ z => (strict1 _ _) _ _ _ _ _ z
end K31
open PySem PySem.W PyProof.Rows
set_option maxRecDepth 100000 in
set_option maxHeartbeats 0 in
theorem PySem.Challenge.cw_pressluck_k31_rows_changed_holds : PySem.Challenge.rw_pressluck_k31_rows_changed.Holds := by
  w_on; o_law; k_head; (case hw => w_witness2)
  k_fill
  refine K31.walk (l := PySem.Challenge.rw_pressluck_k31_rows_changed) rfl rfl (fun w h Y => PySem.W.kIn_of Y) ?F
  case F =>
    intro w mg fa h KX G hmg
    refine' K31.all_mk KX G hmg ?a0 ?l0 ?e0 ?k0 ?a1 ?l1 ?e1 ?k1 ?a2 ?l2 ?e2 ?k2 ?a3 ?l3 ?e3 ?k3 ?a4 ?l4 ?e4 ?k4 ?a5 ?l5 ?e5 ?k5 ?a6 ?l6 ?e6 ?k6 ?a7 ?l7 ?e7 ?k7 ?a8 ?l8 ?e8 ?k8 ?a9 ?l9 ?e9 ?k9 ?a10 ?l10 ?e10 ?k10 ?a11 ?l11 ?e11 ?k11 ?a12 ?l12 ?e12 ?k12 ?a13 ?l13 ?e13 ?k13 ?a14 ?l14 ?e14 ?k14 ?a15 ?l15 ?e15 ?k15 ?a16 ?l16 ?e16 ?k16 ?a17 ?l17 ?e17 ?k17 ?a18 ?l18 ?e18 ?k18 ?z_abs ?z_enumerate ?z_isinstance ?z_len ?z_list ?z_range ?z_tuple ?z_zip ?k_NoShare ?x_NoShare
    (case a0 => k_is)
    (case l0 => k_is)
    (case e0 => k_is)
    (case k0 => k_is)
    (case a1 => k_is)
    (case l1 => k_is)
    (case e1 => k_is)
    (case k1 => k_is)
    (case a2 => k_is)
    (case l2 => k_is)
    (case e2 => k_is)
    (case k2 => k_is)
    (case a3 => k_is)
    (case l3 => k_is)
    (case e3 => k_is)
    (case k3 => k_is)
    (case a4 => k_is)
    (case l4 => k_is)
    (case e4 => k_is)
    (case k4 => k_is)
    (case a5 => k_is)
    (case l5 => k_is)
    (case e5 => k_is)
    (case k5 => k_is)
    (case a6 => k_is)
    (case l6 => k_is)
    (case e6 => k_is)
    (case k6 => k_is)
    (case a7 => k_is)
    (case l7 => k_is)
    (case e7 => k_is)
    (case k7 => k_is)
    (case a8 => k_is)
    (case l8 => k_is)
    (case e8 => k_is)
    (case k8 => k_is)
    (case a9 => k_is)
    (case l9 => k_is)
    (case e9 => k_is)
    (case k9 => k_is)
    (case a10 => k_is)
    (case l10 => k_is)
    (case e10 => k_is)
    (case k10 => k_is)
    (case a11 => k_is)
    (case l11 => k_is)
    (case e11 => k_is)
    (case k11 => k_is)
    (case a12 => k_is)
    (case l12 => k_is)
    (case e12 => k_is)
    (case k12 => k_is)
    (case a13 => k_is)
    (case l13 => k_is)
    (case e13 => k_is)
    (case k13 => k_is)
    (case a14 => k_is)
    (case l14 => k_is)
    (case e14 => k_is)
    (case k14 => k_is)
    (case a15 => k_is)
    (case l15 => k_is)
    (case e15 => k_is)
    (case k15 => k_is)
    (case a16 => k_is)
    (case l16 => k_is)
    (case e16 => k_is)
    (case k16 => k_is)
    (case a17 => k_is)
    (case l17 => k_is)
    (case e17 => k_is)
    (case k17 => k_is)
    (case a18 => k_is)
    (case l18 => k_is)
    (case e18 => k_is)
    (case k18 => k_is)
    (case z_abs => k_is)
    (case z_enumerate => k_is)
    (case z_isinstance => k_is)
    (case z_len => k_is)
    (case z_list => k_is)
    (case z_range => k_is)
    (case z_tuple => k_is)
    (case z_zip => k_is)
    (case k_NoShare => k_is)
    (case x_NoShare => first | k_is | kit_is | kernel_rfl)
