import PyProof.Rows.All
import Wide.All
import OpenK.AllK
import Wide.FinOn
import Lean
import PyProof.EqAt
import PyProof.EqKinds
import PyProof.TupleCall
import PyProof.NeKinds
import PySem.Challenge.RW_pressluck_k18_whole_pools_add_up
set_option Elab.async false
set_option linter.all false
set_option maxRecDepth 100000
local macro_rules | `(tactic| omega) => `(tactic| lia)
namespace L2
open PySem PySem.Spec PyProof.Rows
abbrev Key := Sum Int Str
noncomputable def keyIs : Key → Value → Bool
  | .inl k, v => Value.isInt k v
  | .inr x, v => Value.isStrOf x v
noncomputable def keyH (w : World) : Key → Int
  | .inl k => hashInt k
  | .inr x => hashStr w x
theorem keyIs_shape : ∀ {k : Key} {v : Value}, keyIs k v = true → (∃ i t, k = Sum.inl i ∧ v = Value.int i t) ∨ (∃ x t, k = Sum.inr x ∧ v = Value.str x t)
  | .inl i, v, h => by
    obtain ⟨t, e⟩ := Value.isInt_shape (k := i) (v := v) h
    exact .inl ⟨i, t, rfl, e⟩
  | .inr x, v, h => by
    obtain ⟨t, e⟩ := Value.isStrOf_shape (x := x) (v := v) h
    exact .inr ⟨x, t, rfl, e⟩
theorem keyIs_int (i : Int) (t : Tok) : keyIs (.inl i) (.int i t) = true := by simp [keyIs, Value.isInt]
theorem keyIs_str (x : Str) (t : Tok) : keyIs (.inr x) (.str x t) = true := by simp [keyIs, Value.isStrOf]
theorem key_ll (a b : Int) : decide ((Sum.inl a : Key) = Sum.inl b) = (a == b) := by
  by_cases e : a = b
  · subst e; simp
  · have h : ¬ (Sum.inl a : Key) = Sum.inl b := fun q => e (Sum.inl.inj q)
    rw [decide_eq_false h]
    exact (beq_eq_false_iff_ne.mpr e).symm
theorem key_rr (a b : Str) : decide ((Sum.inr a : Key) = Sum.inr b) = decide (a = b) := by
  by_cases e : a = b
  · subst e; simp
  · have h : ¬ (Sum.inr a : Key) = Sum.inr b := fun q => e (Sum.inr.inj q)
    rw [decide_eq_false h, decide_eq_false e]
theorem key_lr (a : Int) (b : Str) : decide ((Sum.inl a : Key) = Sum.inr b) = false := decide_eq_false (fun q => nomatch q)
theorem key_rl (a : Str) (b : Int) : decide ((Sum.inr a : Key) = Sum.inl b) = false := decide_eq_false (fun q => nomatch q)
noncomputable def mixKind (prog : Program) (w : World) : PySem.KeyKind prog w Key where
  is := keyIs
  hash := keyH w
  inj := fun v a b ha hb => by
    rcases keyIs_shape ha with ⟨i, t, rfl, rfl⟩ | ⟨x, t, rfl, rfl⟩
    · rcases keyIs_shape hb with ⟨j, u, rfl, e⟩ | ⟨y, u, rfl, e⟩
      · injection e with e1 _; rw [e1]
      · exact nomatch e
    · rcases keyIs_shape hb with ⟨j, u, rfl, e⟩ | ⟨y, u, rfl, e⟩
      · exact nomatch e
      · injection e with e1 _; rw [e1]
  byValue := fun k v h => by
    rcases keyIs_shape h with ⟨i, t, rfl, rfl⟩ | ⟨x, t, rfl, rfl⟩ <;> rfl
  pyHash := fun hv h => by
    rcases keyIs_shape hv with ⟨i, t, rfl, rfl⟩ | ⟨x, t, rfl, rfl⟩
    · exact wpAny_pyHash_int h
    · exact wpAny_pyHash_str h
  eqBool := fun hu hv h => by
    rcases keyIs_shape hu with ⟨i, t, rfl, rfl⟩ | ⟨x, t, rfl, rfl⟩
    · rcases keyIs_shape hv with ⟨j, u, rfl, rfl⟩ | ⟨y, u, rfl, rfl⟩
      · rw [key_ll] at h; exact wpAny_eqBool_int h
      · rw [key_lr] at h; exact SeqAt.EqAt.int_str i t y u _ _ _ _ h
    · rcases keyIs_shape hv with ⟨j, u, rfl, rfl⟩ | ⟨y, u, rfl, rfl⟩
      · rw [key_rl] at h; exact SeqAt.EqAt.str_int x t j u _ _ _ _ h
      · rw [key_rr] at h; exact wpAny_eqBool_str h
  «strs» := fun k x t v h => by
    rcases keyIs_shape h with ⟨i, u, rfl, e⟩ | ⟨y, u, rfl, e⟩
    · exact nomatch e
    · injection e with e1 _
      subst e1
      cases v <;> rfl
theorem mixKind_int (prog : Program) (w : World) (i : Int) (t : Tok) : (mixKind prog w).is (.inl i) (.int i t) = true := keyIs_int i t
theorem mixKind_str (prog : Program) (w : World) (x : Str) (t : Tok) : (mixKind prog w).is (.inr x) (.str x t) = true := keyIs_str x t
end L2
namespace L2
open PySem PySem.Spec PyProof.Rows
inductive V where
  | non | bl (b : Bool) | int (i : Int) | str (x : Str) | byt (b : Array UInt8) | flt (b : UInt64) | ref (a : Addr) | ty (n : String)
  deriving DecidableEq
noncomputable def RelV : V → Value → Prop
  | .non, u => u = Value.none
  | .bl b, u => u = Value.bool b
  | .int i, u => ∃ t, u = Value.int i t
  | .str x, u => ∃ t, u = Value.str x t
  | .byt b, u => ∃ t, u = Value.bytes b t
  | .flt b, u => ∃ t, u = Value.float b t
  | .ref a, u => u = Value.ref a
  | .ty n, u => u = Value.type n
abbrev Vals : List V → List Value → Prop := Paired RelV
theorem Vals.length {xs : List V} {us : List Value} (r : Vals xs us) : xs.length = us.length := Paired.length r
theorem Vals.get : ∀ {xs : List V} {us : List Value} {i : Nat} {x : V}, Vals xs us → xs[i]? = some x → ∃ u, us[i]? = some u ∧ RelV x u
  | _, _, _, _, .nil, e => by simp at e
  | _, _, 0, _, .cons r _, e => by simp at e; subst e; exact ⟨_, rfl, r⟩
  | _, _, i + 1, x, .cons _ t, e => by
    obtain ⟨u, h1, h2⟩ := Vals.get (i := i) (x := x) t (by simpa using e)
    exact ⟨u, by simpa using h1, h2⟩
theorem Vals.append : ∀ {xs ys : List V} {us ws : List Value}, Vals xs us → Vals ys ws → Vals (xs ++ ys) (us ++ ws)
  | _, _, _, _, .nil, s => s
  | _, _, _, _, .cons r t, s => .cons r (Vals.append t s)
theorem Vals.take : ∀ {xs : List V} {us : List Value} (n : Nat), Vals xs us → Vals (xs.take n) (us.take n)
  | _, _, 0, _ => .nil
  | _, _, _ + 1, .nil => .nil
  | _, _, n + 1, .cons r t => .cons r (Vals.take n t)
theorem Vals.drop : ∀ {xs : List V} {us : List Value} (n : Nat), Vals xs us → Vals (xs.drop n) (us.drop n)
  | _, _, 0, r => r
  | _, _, _ + 1, .nil => .nil
  | _, _, n + 1, .cons _ t => Vals.drop n t
noncomputable def RelO : Option V → Option Value → Prop
  | some v, some u => RelV v u
  | none, none => True
  | _, _ => False
noncomputable def KV {κ : Type} : List (κ × V) → List (κ × Value) → Prop := Paired fun (p : κ × V) (q : κ × Value) => p.1 = q.1 ∧ RelV p.2 q.2
noncomputable def kV : Key → V
  | .inl i => .int i
  | .inr x => .str x
inductive HO where
  | lst (xs : List V)
  | tup (xs : List V)
  | dK (kvs : List (Key × V)) | dT (kvs : List (List Key × V))
  | set (S : Int → Bool) (n : Nat)
  | ins (C dx : Addr) (fs : List (Str × V))
  | own (x : Addr)
  | xd (fs : List (Str × V))
  | met (f x : Addr)
  | rng (lo hi : Int)
  | frz (o : Obj) (u : HO)
  | tbl (ps : Array Value)
  | ext (φ : Heap → Prop)
abbrev Hp := Addr → Option HO
noncomputable def upd (H : Hp) (a : Addr) (o : HO) : Hp := fun b => if b = a then some o else H b
theorem upd_same {H : Hp} {a : Addr} {o : HO} : upd H a o a = some o := by unfold upd; rw [if_pos rfl]
theorem upd_ne {H : Hp} {a b : Addr} {o : HO} (h : b ≠ a) : upd H a o b = H b := by unfold upd; rw [if_neg h]
theorem upd_upd {H : Hp} {a : Addr} {o u : HO} : upd (upd H a o) a u = upd H a u := by
  funext b; unfold upd; split <;> rfl
theorem ne_of {H : Hp} {a b : Addr} {o u : HO} (h : H a = some o) (h' : H b = some u) (d : o ≠ u) : a ≠ b := by
  intro e; subst e; rw [h] at h'; exact d (Option.some.inj h')
theorem ne_of_none {H : Hp} {a b : Addr} {o : HO} (h : H a = some o) (h' : H b = none) : a ≠ b := by
  intro e; subst e; rw [h] at h'; cases h'
section
variable (P : Program) (w : World)
noncomputable def ObjOk (H : Hp) (h : Heap) (a : Addr) : HO → Prop
  | .lst xs => xs.length ≤ sizeLine ∧ ∃ (its : List Value) (n : Nat), Vals xs its ∧ h.get? a = some { cls := .type "list", data := .seq its.toArray n }
  | .tup xs => xs.length ≤ sizeLine ∧ ∃ its : List Value, Vals xs its ∧ IsTup h a its.toArray
  | .dK kvs => kvs.length ≤ sizeLine ∧ (a == sysModules) = false ∧ ∃ vs, KV kvs vs ∧ h.DictOf (mixKind P w) a vs
  | .dT kvs => kvs.length ≤ sizeLine ∧ (a == sysModules) = false ∧ ∃ xs : List (List Key × Addr × Value),
      Paired (fun (p : List Key × V) (q : List Key × Addr × Value) => p.1 = q.1 ∧ H q.2.1 = some (.tup (p.1.map kV)) ∧ RelV p.2 q.2.2) kvs xs ∧
      ∃ o es ep, h.get? a = some o ∧ o.ExactDict ∧ o.data = .dict es ep ∧ es.toList = xs.map (entryOfKey (tupleKind (mixKind P w))) ∧ (xs.map (·.1)).Nodup
  | .set S n => h.SetOf (intKind P w) a S n
  | .ins C dx fs => H dx = some (.own a) ∧ fs.length ≤ 1000 ∧ dx ≠ a ∧ h.get? a = some (PySem.W.instObj C dx) ∧
      ∃ mA, h.Ns1 dx mA ∧ (∀ f, RelO (fs.lookup f) (mA f)) ∧ PySem.Within mA (fs.map (·.1))
  | .own _ => ∃ o, h.get? a = some o
  | .xd fs => ∃ mA, h.Ns1 a mA ∧ ∀ f, RelO (fs.lookup f) (mA f)
  | .rng lo hi => ∃ t u v, h.get? a = some { cls := .type "range", data := .fields #[.int lo t, .int hi u, .int 1 v] }
  | .frz o u => h.get? a = some o ∧ ObjOk H h a u
  | .tbl ps => h.get? a = some { cls := .none, data := .fields ps }
  | .met f x => h.get? a = some (PySem.W.methodObj (.ref f) (.ref x))
  | .ext φ => φ h ∧ (∃ o, h.get? a = some o) ∧ ∀ h1 h2 : Heap, φ h1 → (∀ o, h1.get? a = some o → h2.get? a = some o) → φ h2
noncomputable def HOk (H : Hp) (h : Heap) : Prop := ∀ a o, H a = some o → ObjOk P w H h a o
end
section
variable {P : Program} {w : World} {H H' : Hp} {h h' : Heap} {a : Addr} {o : HO}
theorem ObjOk.lt (x : ObjOk P w H h a o) : a < h.objs.size := by
  cases o with
  | lst xs => obtain ⟨_, _, _, _, e⟩ := x; exact Heap.lt_size e
  | tup xs => obtain ⟨_, _, _, p⟩ := x; exact p.lt
  | dK kvs => obtain ⟨_, _, _, _, o, _, _, e, _⟩ := x; exact Heap.lt_size e
  | dT kvs => obtain ⟨_, _, _, _, o, _, _, e, _⟩ := x; exact Heap.lt_size e
  | set S n => obtain ⟨o, _, _, _, e, _⟩ := x; exact Heap.lt_size e
  | ins C dx fs => obtain ⟨_, _, _, e, _⟩ := x; exact Heap.lt_size e
  | own y => obtain ⟨_, e⟩ := x; exact Heap.lt_size e
  | xd fs => obtain ⟨_, ⟨_, _, _, e, _⟩, _⟩ := x; exact Heap.lt_size e
  | rng lo hi => obtain ⟨_, _, _, e⟩ := x; exact Heap.lt_size e
  | frz ob u => obtain ⟨e, _⟩ := x; exact Heap.lt_size e
  | tbl ps => exact Heap.lt_size (show h.get? a = some _ from x)
  | met f y => exact Heap.lt_size (show h.get? a = some _ from x)
  | ext φ => obtain ⟨_, ⟨_, e⟩, _⟩ := x; exact Heap.lt_size e
theorem Paired.mapP {α β : Type} {F G : α → β → Prop} : ∀ {l₁ : List α} {l₂ : List β}, Paired F l₁ l₂ → (∀ a b, F a b → G a b) → Paired G l₁ l₂
  | _, _, .nil, _ => .nil
  | _, _, .cons r t, f => .cons (f _ _ r) (Paired.mapP t f)
theorem ObjOk.stay (x : ObjOk P w H h a o) (k : ∀ b u, (b = a ∨ H b = some (.own a)) → h.get? b = some u → h'.get? b = some u)
    (ho : ∀ b, H b = some (.own a) → H' b = some (.own a)) (ht : ∀ b xs, H b = some (.tup xs) → H' b = some (.tup xs)) : ObjOk P w H' h' a o := by
  induction o with
  | lst xs => obtain ⟨z, its, n, r, e⟩ := x; exact ⟨z, its, n, r, k _ _ (.inl rfl) e⟩
  | tup xs => obtain ⟨z, its, r, ob, e, c⟩ := x; exact ⟨z, its, r, ob, k _ _ (.inl rfl) e, c⟩
  | dK kvs => obtain ⟨z, y, vs, r, ob, es, ep, e, c⟩ := x; exact ⟨z, y, vs, r, ob, es, ep, k _ _ (.inl rfl) e, c⟩
  | dT kvs =>
    obtain ⟨z, y, xs, r, ob, es, ep, e, c⟩ := x
    exact ⟨z, y, xs, Paired.mapP r fun p q z => ⟨z.1, ht _ _ z.2.1, z.2.2⟩, ob, es, ep, k _ _ (.inl rfl) e, c⟩
  | set S n => obtain ⟨ob, es, ep, t, e, c⟩ := x; exact ⟨ob, es, ep, t, k _ _ (.inl rfl) e, c⟩
  | ins C dx fs =>
    obtain ⟨d, z, ne, e, mA, ⟨od, es, ep, e2, c⟩, r⟩ := x
    exact ⟨ho _ d, z, ne, k _ _ (.inl rfl) e, mA, ⟨od, es, ep, k _ _ (.inr d) e2, c⟩, r⟩
  | own y => obtain ⟨ob, e⟩ := x; exact ⟨ob, k _ _ (.inl rfl) e⟩
  | xd fs => obtain ⟨mA, ⟨od, es, ep, e, c⟩, r⟩ := x; exact ⟨mA, ⟨od, es, ep, k _ _ (.inl rfl) e, c⟩, r⟩
  | rng lo hi => obtain ⟨t, u, v, e⟩ := x; exact ⟨t, u, v, k _ _ (.inl rfl) e⟩
  | frz ob u ih => obtain ⟨e, q⟩ := x; exact ⟨k _ _ (.inl rfl) e, ih q⟩
  | tbl ps =>
    have e : h.get? a = some { cls := .none, data := .fields ps } := x
    show h'.get? a = some { cls := .none, data := .fields ps }
    exact k a _ (.inl rfl) e
  | met f y =>
    have e : h.get? a = some (PySem.W.methodObj (.ref f) (.ref y)) := x
    show h'.get? a = some (PySem.W.methodObj (.ref f) (.ref y))
    exact k a _ (.inl rfl) e
  | ext φ => obtain ⟨p, ⟨o, e⟩, st⟩ := x; exact ⟨st _ _ p fun o q => k _ _ (.inl rfl) q, ⟨o, k _ _ (.inl rfl) e⟩, st⟩
theorem HOk.lt (x : HOk P w H h) (e : H a = some o) : a < h.objs.size := (x a o e).lt
theorem HOk.fresh (x : HOk P w H h) (e : h.objs.size ≤ a) : H a = none := by
  cases q : H a with
  | none => rfl
  | some u => exact absurd (Nat.lt_of_lt_of_le (x.lt q) e) (Nat.lt_irrefl _)
theorem HOk.kept (x : HOk P w H h) (k : ∀ b u, h.get? b = some u → h'.get? b = some u) : HOk P w H h' := fun a o e =>
  (x a o e).stay (fun b u _ q => k b u q) (fun _ q => q) fun _ _ q => q
theorem HOk.laid (x : HOk P w H h) (k : ∀ b u, h.get? b = some u → h'.get? b = some u) (hp : h.objs.size ≤ a) (new : ObjOk P w (upd H a o) h' a o) : HOk P w (upd H a o) h' := fun b u e => by
  have hn := x.fresh hp
  by_cases hb : b = a
  · subst hb; rw [upd_same] at e; cases e; exact new
  · rw [upd_ne hb] at e
    exact (x b u e).stay (fun c v _ q => k c v q) (fun c q => by rw [upd_ne (ne_of_none q hn)]; exact q) fun c xs q => by rw [upd_ne (ne_of_none q hn)]; exact q
end
noncomputable def Rd (H : Hp) (a : Addr) (u : HO) : Prop := H a = some u ∨ ∃ o, H a = some (.frz o u)
theorem Rd.ok {P : Program} {w : World} {H : Hp} {h : Heap} {a : Addr} {u : HO} (r : Rd H a u) (x : HOk P w H h) : ObjOk P w H h a u := by
  rcases r with r | ⟨o, r⟩
  · exact x a u r
  · obtain ⟨_, q⟩ := x a _ r
    exact q
noncomputable def Mut : Option HO → Prop
  | some (.lst _) => True
  | some (.dK _) => True
  | some (.dT _) => True
  | some (.set _ _) => True
  | some (.ins _ _ _) => True
  | some (.ext _) => True
  | _ => False
section
variable {P : Program} {w : World} {H : Hp} {h h' : Heap} {x e : Addr} {o' : HO}
theorem HOk.write (ok : HOk P w H h) (mu : Mut (H x)) (he : e = x ∨ H e = some (.own x)) (k : ∀ b u, b ≠ e → h.get? b = some u → h'.get? b = some u) (heo : ∃ u, h'.get? e = some u)
    (new : ObjOk P w (upd H x o') h' x o') : HOk P w (upd H x o') h' := fun b u q => by
  have nown : ∀ c y, H c = some (.own y) → c ≠ x := fun c y r z => by subst z; rw [r] at mu; exact mu
  have ntup : ∀ c xs, H c = some (.tup xs) → c ≠ x := fun c xs r z => by subst z; rw [r] at mu; exact mu
  by_cases hb : b = x
  · subst hb; rw [upd_same] at q; cases q; exact new
  · rw [upd_ne hb] at q
    by_cases hbe : b = e
    · have q' : H b = some (.own x) := by
        rcases he with z | z
        · exact absurd (hbe.trans z) hb
        · rw [hbe]; exact z
      rw [q] at q'; cases q'
      obtain ⟨v, hv⟩ := heo
      exact ⟨v, by rw [hbe]; exact hv⟩
    · refine (ok b u q).stay (fun c v hc r => k c v ?_ r) (fun c r => by rw [upd_ne (nown c b r)]; exact r) fun c xs r => by rw [upd_ne (ntup c xs r)]; exact r
      rcases hc with rfl | hc
      · exact hbe
      · rintro rfl
        rcases he with z | z
        · exact nown c b hc z
        · rw [hc] at z; cases z; exact hb rfl
end
structure Un (fs ex : List Addr) (H H' : Hp) (h h' : Heap) : Prop where
  keep : ∀ b o, h.get? b = some o → H b = none → b ∉ fs → b ∉ ex → h'.get? b = some o
  slot : ∀ b o, h.get? b = some o → H b = none → b ∈ fs → b ∉ ex → ∃ sl, h'.get? b = some { o with slots := sl }
  free : ∀ b o, h.get? b = some o → H b = none → b ∉ ex → H' b = none
  there : ∀ b o, h.get? b = some o → b ∉ ex → ∃ o', h'.get? b = some o'
  tups : ∀ b xs, H b = some (.tup xs) → H' b = some (.tup xs)
  frzs : ∀ b o u, H b = some (.frz o u) → H' b = some (.frz o u)
  tbls : ∀ b ps, H b = some (.tbl ps) → ∃ more, H' b = some (.tbl (ps ++ more))
section
variable {fs fs' ex ex' : List Addr} {H H1 H2 : Hp} {h h1 h2 h' : Heap} {a x e : Addr} {o : HO}
theorem Un.any (u : Un fs ex H H1 h h1) {b : Addr} {ob : Obj} (q : h.get? b = some ob) (n : H b = none) (hx : b ∉ ex) : ∃ sl, h1.get? b = some { ob with slots := sl } := by
  by_cases hb : b ∈ fs
  · exact u.slot b ob q n hb hx
  · exact ⟨ob.slots, u.keep b ob q n hb hx⟩
theorem Un.kept (k : ∀ b u, h.get? b = some u → h'.get? b = some u) : Un fs ex H H h h' :=
  ⟨fun b ob q _ _ _ => k b ob q, fun b ob q _ _ _ => ⟨ob.slots, k b ob q⟩, fun _ _ _ n _ => n, fun b ob q _ => ⟨ob, k b ob q⟩, fun _ _ q => q, fun _ _ _ q => q, fun _ ps q => ⟨#[], by rw [q]; simp⟩⟩
theorem Un.refl : Un fs ex H H h h := Un.kept fun _ _ q => q
theorem Un.laid (k : ∀ b u, h.get? b = some u → h'.get? b = some u) (hp : h.objs.size ≤ a) (hn : H a = none) : Un fs ex H (upd H a o) h h' where
  keep := fun b u q _ _ _ => k b u q
  slot := fun b u q _ _ _ => ⟨u.slots, k b u q⟩
  free := fun b u q n _ => by rw [upd_ne (Nat.ne_of_lt (Nat.lt_of_lt_of_le (Heap.lt_size q) hp))]; exact n
  there := fun b u q _ => ⟨u, k b u q⟩
  tups := fun b xs q => by rw [upd_ne (ne_of_none q hn)]; exact q
  frzs := fun b u xs q => by rw [upd_ne (ne_of_none q hn)]; exact q
  tbls := fun b ps q => ⟨#[], by rw [upd_ne (ne_of_none q hn), q]; simp⟩
theorem Un.write (mu : Mut (H x)) (he : e = x ∨ H e = some (.own x)) (k : ∀ b u, b ≠ e → h.get? b = some u → h'.get? b = some u) (heo : ∃ u, h'.get? e = some u) : Un fs ex H (upd H x o) h h' := by
  have hx : ∀ b, H b = none → b ≠ x := fun b n z => by subst z; rw [n] at mu; exact mu
  have hb : ∀ b, H b = none → b ≠ e := fun b n z => by
    subst z
    rcases he with r | r
    · exact hx b n r
    · rw [n] at r; cases r
  have hm : ∀ b u, H b = some u → ¬ Mut (some u) → b ≠ x := fun b u q nm z => by subst z; rw [q] at mu; exact nm mu
  refine ⟨fun b u q n _ _ => k b u (hb b n) q, fun b u q n _ _ => ⟨u.slots, k b u (hb b n) q⟩, fun b u q n _ => by rw [upd_ne (hx b n)]; exact n, fun b u q _ => ?_,
    fun b xs q => by rw [upd_ne (hm b _ q fun z => z)]; exact q, fun b u xs q => by rw [upd_ne (hm b _ q fun z => z)]; exact q, fun b ps q => ⟨#[], by rw [upd_ne (hm b _ q fun z => z), q]; simp⟩⟩
  by_cases hbe : b = e
  · subst hbe; exact heo
  · exact ⟨u, k b u hbe q⟩
end
noncomputable def trk (h : Heap) (H : Hp) : List Addr := (List.range h.objs.size).filter fun a => (H a).isSome
noncomputable def hidT (h : Heap) (H : Hp) : Heap := PySem.W.hideAll h (trk h H)
theorem hidT_size (h : Heap) (H : Hp) : (hidT h H).objs.size = h.objs.size := PySem.W.hideAll_size _ _
theorem hidT_get {h : Heap} {H : Hp} {b : Addr} {o : Obj} (e : h.get? b = some o) (n : H b = none) : (hidT h H).get? b = some o :=
  PySem.W.hideAll_get _ e fun hm => by
    have q : (H b).isSome = true := (List.mem_filter.mp hm).2
    rw [n] at q; simp at q
theorem of_hidT {h : Heap} {H : Hp} {b : Addr} {o : Obj} (e : (hidT h H).get? b = some o) : h.get? b = some o ∧ H b = none := by
  have e' : h.get? b = some o := PySem.W.of_hideAll (trk h H) e
  refine ⟨e', ?_⟩
  cases q : H b with
  | none => rfl
  | some x =>
    have hm : b ∈ trk h H := List.mem_filter.mpr ⟨List.mem_range.mpr (Heap.lt_size e'), by simp [q]⟩
    have z : (hidT h H).get? b = none := PySem.W.hideAll_none (trk h H) hm
    rw [z] at e; cases e
noncomputable def allNews (g h : Heap) (L : Addr) : List (Addr × Obj) := (List.range h.objs.size).filterMap fun a => if a = L ∨ (g.get? a).isSome = true then none else (h.get? a).map fun o => (a, o)
noncomputable def rest (g h : Heap) (L d : Addr) : List (Addr × Obj) := (allNews g h L).filter fun p => decide (p.1 ≠ d)
end L2
namespace L2
open PySem PySem.Spec PyProof.Rows
structure Mod (K : PySem.W.Frag) (mg : Str → Option Value) (base : Heap) : Prop where
  kin : K.In base
  glob : base.Ns mainGlobals mg
  blt : ∃ mb, base.Ns builtinsNs mb ∧ ∀ x : Str, x ≠ "__name__" → mb x = bootBuiltins x
  nolimit : base.NoLimit
structure Cx where
  prog : Program
  w : World
  K : PySem.W.Frag
  mg : Str → Option Value
  base : Heap
  A : Around
  N : List Str
  s₀ : Shared
  H₀ : Hp
  env : Env
  outer : List Env
  stack : List Env
  ex : List Addr
  fn : Str → Bool
  calm : Bool
  pn : List (Addr × Obj)
  xe : Value → Shared → Prop
def frs (l : List Env) : List Addr := l.filterMap (·.frame)
abbrev Cx.fs (X : Cx) : List Addr := frs X.outer
noncomputable def Vis (sc : Scope) (x : Str) : Prop := sc.names.lookup x = some .local ∨ sc.names.lookup x = some .cell ∨ sc.names.lookup x = some .free
noncomputable def Loc (sc : Scope) (x : Str) : Prop := sc.names.lookup x = some .local ∨ sc.names.lookup x = some .cell
noncomputable def Look (env : Env) (h : Heap) (m : Str → Option Value) (x : Str) (u : Value) : Prop :=
  (env.kindOf x = some .local ∧ m x = some u) ∨ ((env.kindOf x = some .cell ∨ env.kindOf x = some .free) ∧ ∃ c, env.cells.lookup x = some c ∧ h.IsCell c (some u))
structure Cx.Ok (X : Cx) : Prop where
  mod : Mod X.K X.mg X.base
  kind : X.env.scope.kind = .function
  glob : X.env.globals = mainGlobals
  blt : X.env.builtins = builtinsNs
  above : X.s₀.heap.objs.size ≤ X.env.locals
  inj : ∀ x y c, X.env.cells.lookup x = some c → X.env.cells.lookup y = some c → x = y
  has : ∀ x, (X.env.kindOf x = some .cell ∨ X.env.kindOf x = some .free) → ∃ c, X.env.cells.lookup x = some c
  cab : ∀ x c, X.fn x = true → X.env.cells.lookup x = some c → X.s₀.heap.objs.size ≤ c
  hd : X.calm = true → X.A.handled = none
  frames : X.A.frames = some X.stack
  stk : X.stack = X.outer ∨ (X.stack = X.env :: X.outer ∧ X.env.frame = some X.env.locals)
  exf : ∀ b ∈ X.ex, b ≠ X.env.locals ∧ ∀ x c, X.env.cells.lookup x = some c → c ≠ b
  bs : ∀ b o, X.base.get? b = some o → X.s₀.heap.get? b = some o ∧ X.H₀ b = none
  bsz : X.base.objs.size ≤ X.s₀.heap.objs.size
  noex : ∀ b o, X.base.get? b = some o → b ∉ X.ex
  exfs : ∀ b ∈ X.ex, b ∉ X.fs
  funs : X.s₀.heap.FunFrames X.base X.outer
  frf : ∀ b ∈ X.fs, X.H₀ b = none
structure Inv (X : Cx) (pins : List (Addr × Obj)) (σ : List (Option V)) (H : Hp) (s : Shared) : Prop where
  ok : X.Ok
  os : s.os = X.s₀.os
  bare : AllBare s.gens
  base : Un X.fs X.ex X.H₀ H X.s₀.heap s.heap
  loc : ∃ m, s.heap.Ns X.env.locals m ∧ ∀ (i : Nat) (x : Str) (v : V), X.N[i]? = some x → σ[i]? = some (some v) → Vis X.env.scope x → ∃ u, RelV v u ∧ Look X.env s.heap m x u
  cell : ∀ x c, X.env.cells.lookup x = some c → ∃ v, s.heap.IsCell c v
  free : H X.env.locals = none
  freeC : ∀ x c, X.env.cells.lookup x = some c → H c = none
  pin : ∀ p ∈ X.pn ++ pins, s.heap.get? p.1 = some p.2 ∧ H p.1 = none ∧ p.1 ≠ X.env.locals ∧ p.1 ∉ X.fs ∧ ∀ v, p.2.data ≠ .cell v
  hok : HOk X.prog X.w H s.heap
  len : σ.length = X.N.length
section
variable {X : Cx} {pins : List (Addr × Obj)} {σ : List (Option V)} {H H' : Hp} {s : Shared} {h' : Heap}
theorem Cx.Ok.nofr (ok : X.Ok) {b : Addr} {o : Obj} (e : X.base.get? b = some o) : b ∉ X.fs := fun hb => by
  have := (ok.funs.mem hb).1
  rw [e] at this; cases this
theorem Inv.bs (I : Inv X pins σ H s) : ∀ b o, X.base.get? b = some o → s.heap.get? b = some o ∧ H b = none := fun b o e =>
  ⟨I.base.keep b o (I.ok.bs b o e).1 (I.ok.bs b o e).2 (I.ok.nofr e) (I.ok.noex b o e), I.base.free b o (I.ok.bs b o e).1 (I.ok.bs b o e).2 (I.ok.noex b o e)⟩
theorem Inv.bk (I : Inv X pins σ H s) : ∀ b o, X.base.get? b = some o → s.heap.get? b = some o := fun b o e => (I.bs b o e).1
theorem Inv.mod (I : Inv X pins σ H s) : Mod X.K X.mg X.base := I.ok.mod
theorem Inv.kIn (I : Inv X pins σ H s) : X.K.In s.heap := I.ok.mod.kin.keeps I.bk
theorem Inv.lt (I : Inv X pins σ H s) : X.env.locals < s.heap.objs.size := let ⟨_, hn, _⟩ := I.loc; hn.lt
theorem Inv.sz (I : Inv X pins σ H s) : X.s₀.heap.objs.size ≤ s.heap.objs.size := Nat.le_trans I.ok.above (Nat.le_of_lt I.lt)
theorem Inv.nofs (I : Inv X pins σ H s) {a : Addr} (h : s.heap.objs.size ≤ a) : a ∉ X.fs := fun hb => by
  obtain ⟨_, o, ho, _⟩ := I.ok.funs.mem hb
  exact absurd (Nat.lt_of_lt_of_le (Heap.lt_size ho) (Nat.le_trans I.sz h)) (Nat.lt_irrefl _)
theorem Inv.cne (I : Inv X pins σ H s) : ∀ x c, X.env.cells.lookup x = some c → c ≠ X.env.locals := fun x c e z => by
  obtain ⟨v, o, ho, hd⟩ := I.cell x c e
  obtain ⟨m, ⟨o', es, ep, ho', hd', _⟩, _⟩ := I.loc
  rw [z, ho'] at ho; cases ho; rw [hd'] at hd; cases hd
theorem Inv.funs (I : Inv X pins σ H s) : s.heap.FunFrames X.base X.outer := by
  have all : ∀ (l : List Env), (∀ b ∈ frs l, b ∈ X.fs) → X.s₀.heap.FunFrames X.base l → s.heap.FunFrames X.base l := by
    intro l
    induction l with
    | nil => intro _ _; trivial
    | cons env r ih =>
      intro hs hl
      obtain ⟨hk, ⟨L, o, hf, hn, ho, hd⟩, hr⟩ := hl
      have hL : L ∈ X.fs := hs L (by unfold frs; rw [List.filterMap_cons, hf]; exact List.mem_cons_self)
      obtain ⟨sl, e⟩ := I.base.slot L o ho (I.ok.frf L hL) hL fun z => I.ok.exfs L z hL
      exact ⟨hk, ⟨L, _, hf, hn, e, hd⟩, ih (fun b hb => hs b (by unfold frs; rw [List.filterMap_cons, hf]; exact List.mem_cons_of_mem _ hb)) hr⟩
  exact all X.outer (fun _ hb => hb) I.ok.funs
theorem Inv.stack (I : Inv X pins σ H s) : s.heap.FunFrames X.base X.stack := by
  rcases I.ok.stk with e | ⟨e, hf⟩
  · rw [e]; exact I.funs
  · rw [e]
    obtain ⟨m, hn, _⟩ := I.loc
    refine .cons (by rw [I.ok.kind]; decide) hf hn ?_ I.funs
    exact Heap.get?_none_of_le (Nat.le_trans I.ok.bsz I.ok.above)
theorem Inv.stkSub (I : Inv X pins σ H s) : ∀ b ∈ frs X.stack, b ∈ X.env.locals :: X.fs := fun b hb => by
  rcases I.ok.stk with e | ⟨e, hf⟩
  · rw [e] at hb; exact List.mem_cons_of_mem _ hb
  · rw [e] at hb
    unfold frs at hb
    rw [List.filterMap_cons, hf] at hb
    exact hb
theorem Inv.stkFree (I : Inv X pins σ H s) : ∀ b ∈ frs X.stack, H b = none := fun b hb => by
  rcases List.mem_cons.mp (I.stkSub b hb) with e | hb
  · rw [e]; exact I.free
  · obtain ⟨_, o, ho, _⟩ := I.ok.funs.mem hb
    exact I.base.free b o ho (I.ok.frf b hb) fun z => I.ok.exfs b z hb
theorem Inv.step {g' : Array GenState} {t' : Nat} {d' : Drawn} {ch : List Addr} (I : Inv X pins σ H s)
    (hch : ∀ b ∈ ch, (b ∈ X.ex ∨ X.s₀.heap.objs.size ≤ b) ∧ b ≠ X.env.locals ∧ (∀ x c, X.env.cells.lookup x = some c → c ≠ b) ∧ ∀ p ∈ X.pn ++ pins, p.1 ≠ b)
    (keep : ∀ b o, b ≠ X.env.locals → b ∉ X.fs → b ∉ ch → s.heap.get? b = some o → H b = none → h'.get? b = some o)
    (slot : ∀ b o, b ≠ X.env.locals → b ∈ X.fs → b ∉ ch → s.heap.get? b = some o → H b = none → ∃ sl, h'.get? b = some { o with slots := sl }) (free : ∀ b o, b ∉ ch → s.heap.get? b = some o → H b = none → H' b = none)
    (there : ∀ b o, b ∉ ch → s.heap.get? b = some o → ∃ o', h'.get? b = some o')
    (tups : ∀ b xs, H b = some (.tup xs) → H' b = some (.tup xs)) (frzs : ∀ b o u, H b = some (.frz o u) → H' b = some (.frz o u)) (tbls : ∀ b ps, H b = some (.tbl ps) → ∃ more, H' b = some (.tbl (ps ++ more)))
    (ns : ∀ m, s.heap.Ns X.env.locals m → h'.Ns X.env.locals m) (hok : HOk X.prog X.w H' h') (hg : AllBare g') :
    Inv X pins σ H' { s with heap := h', gens := g', drawn := d', toks := t' } := by
  have neL : ∀ b o, X.s₀.heap.get? b = some o → b ≠ X.env.locals := fun b o e => Nat.ne_of_lt (Nat.lt_of_lt_of_le (Heap.lt_size e) I.ok.above)
  have neC : ∀ b o, X.s₀.heap.get? b = some o → b ∉ X.ex → b ∉ ch := fun b o e hx hb => by
    rcases (hch b hb).1 with z | z
    · exact hx z
    · exact absurd (Nat.lt_of_lt_of_le (Heap.lt_size e) z) (Nat.lt_irrefl _)
  have cellK : ∀ x c, X.env.cells.lookup x = some c → ∀ v, s.heap.IsCell c v → h'.IsCell c v := fun x c e v ⟨o, ho, hd⟩ => by
    have nch : c ∉ ch := fun z => (hch c z).2.2.1 x c e rfl
    by_cases hc : c ∈ X.fs
    · obtain ⟨sl, q⟩ := slot c o (I.cne x c e) hc nch ho (I.freeC x c e)
      exact ⟨_, q, hd⟩
    · exact ⟨o, keep c o (I.cne x c e) hc nch ho (I.freeC x c e), hd⟩
  refine ⟨I.ok, I.os, hg, ⟨fun b o e n hb hx => ?_, fun b o e n hb hx => ?_, fun b o e n hx => ?_, fun b o e hx => ?_, fun b xs e => tups b xs (I.base.tups b xs e), fun b o xs e => frzs b o xs (I.base.frzs b o xs e), fun b ps e => ?_⟩, ?_, fun x c e => ?_, ?_, fun x c e => ?_, fun p hp => ?_, hok, I.len⟩
  · exact keep b o (neL b o e) hb (neC b o e hx) (I.base.keep b o e n hb hx) (I.base.free b o e n hx)
  · obtain ⟨sl, e1⟩ := I.base.slot b o e n hb hx
    obtain ⟨sl', e2⟩ := slot b _ (neL b o e) hb (neC b o e hx) e1 (I.base.free b o e n hx)
    exact ⟨sl', e2⟩
  · obtain ⟨o', e1⟩ := I.base.there b o e hx
    exact free b o' (neC b o e hx) e1 (I.base.free b o e n hx)
  · obtain ⟨o', e1⟩ := I.base.there b o e hx
    exact there b o' (neC b o e hx) e1
  · obtain ⟨m1, e1⟩ := I.base.tbls b ps e
    obtain ⟨m2, e2⟩ := tbls b _ e1
    exact ⟨m1 ++ m2, by rw [e2, Array.append_assoc]⟩
  · obtain ⟨m, hn, hl⟩ := I.loc
    refine ⟨m, ns m hn, fun i x v e1 e2 e3 => ?_⟩
    obtain ⟨u, r, l⟩ := hl i x v e1 e2 e3
    refine ⟨u, r, ?_⟩
    rcases l with l | ⟨k, c, e, z⟩
    · exact .inl l
    · exact .inr ⟨k, c, e, cellK x c e _ z⟩
  · obtain ⟨v, z⟩ := I.cell x c e
    exact ⟨v, cellK x c e v z⟩
  · obtain ⟨m, ⟨o, _, _, ho, _⟩, _⟩ := I.loc
    exact free _ o (fun z => (hch _ z).2.1 rfl) ho I.free
  · obtain ⟨v, o, ho, hd⟩ := I.cell x c e
    exact free c o (fun z => (hch c z).2.2.1 x c e rfl) ho (I.freeC x c e)
  · obtain ⟨e, n, ne, nf, d⟩ := I.pin p hp
    have nch : p.1 ∉ ch := fun z => (hch p.1 z).2.2.2 p hp rfl
    exact ⟨keep p.1 p.2 ne nf nch e n, free p.1 p.2 nch e n, ne, nf, d⟩
theorem Inv.un {t' : Nat} (I : Inv X pins σ H s) (u : Un X.fs [] H H' s.heap h') (hok : HOk X.prog X.w H' h') : Inv X pins σ H' { s with heap := h', toks := t' } := by
  obtain ⟨m, ⟨o, es, ep, ho, r⟩, _⟩ := id I.loc
  obtain ⟨sl, hL⟩ := u.any ho I.free (by simp)
  exact I.step (g' := s.gens) (d' := s.drawn) (ch := []) (fun _ z => nomatch z) (fun b o _ hb _ e n => u.keep b o e n hb (by simp)) (fun b o _ hb _ e n => u.slot b o e n hb (by simp)) (fun b o _ e n => u.free b o e n (by simp)) (fun b o _ e => u.there b o e (by simp)) u.tups u.frzs u.tbls (fun m' hm => by
    obtain ⟨o', es', ep', ho', r'⟩ := hm
    rw [ho] at ho'; cases ho'
    exact ⟨_, es', ep', hL, r'⟩) hok I.bare
theorem Inv.call {g' : Array GenState} {t' : Nat} {d' : Drawn} {ch : List Addr} (I : Inv X pins σ H s) (u : Un (frs X.stack) ch H H' s.heap h') (hok : HOk X.prog X.w H' h') (hg : AllBare g')
    (hch : ∀ b ∈ ch, (b ∈ X.ex ∨ X.s₀.heap.objs.size ≤ b) ∧ b ≠ X.env.locals ∧ (∀ x c, X.env.cells.lookup x = some c → c ≠ b) ∧ ∀ p ∈ X.pn ++ pins, p.1 ≠ b) :
    Inv X pins σ H' { s with heap := h', gens := g', drawn := d', toks := t' } := by
  obtain ⟨m, ⟨o, es, ep, ho, r⟩, _⟩ := id I.loc
  obtain ⟨sl, hL⟩ := u.any ho I.free fun z => (hch _ z).2.1 rfl
  exact I.step (ch := ch) hch (fun b o hL hb hc e n => u.keep b o e n (fun z => (List.mem_cons.mp (I.stkSub b z)).elim hL hb) hc) (fun b o _ _ hc e n => u.any e n hc) (fun b o hc e n => u.free b o e n hc) (fun b o hc e => u.there b o e hc) u.tups u.frzs u.tbls (fun m' hm => by
    obtain ⟨o', es', ep', ho', r'⟩ := hm
    rw [ho] at ho'; cases ho'
    exact ⟨_, es', ep', hL, r'⟩) hok hg
theorem Inv.turned {t' : Nat} {it : Addr} (I : Inv X pins σ H s) (k : ∀ b o, b ≠ it → s.heap.get? b = some o → h'.get? b = some o) (hn : H it = none) (hL : it ≠ X.env.locals)
    (h1 : it ∈ X.ex ∨ X.s₀.heap.objs.size ≤ it) (h2 : ∀ x c, X.env.cells.lookup x = some c → c ≠ it) (h3 : ∀ p ∈ X.pn ++ pins, p.1 ≠ it) : Inv X pins σ H { s with heap := h', toks := t' } := by
  have nit : ∀ b u, H b = some u → b ≠ it := fun b u e z => by rw [z, hn] at e; cases e
  refine I.step (g' := s.gens) (d' := s.drawn) (ch := [it]) (fun b hb => ?_) (fun b o _ _ hc e _ => k b o (fun z => hc (by simp [z])) e) (fun b o _ _ hc e _ => ⟨o.slots, k b o (fun z => hc (by simp [z])) e⟩) (fun _ _ _ _ n => n)
    (fun b o hc e => ⟨o, k b o (fun z => hc (by simp [z])) e⟩) (fun _ _ e => e) (fun _ _ _ e => e) (fun b ps e => ⟨#[], by rw [e]; simp⟩) (fun m hm => ?_) (fun b u e => ?_) I.bare
  · have e : b = it := by simpa using hb
    subst e
    exact ⟨h1, hL, h2, h3⟩
  · obtain ⟨o, es, ep, ho, r⟩ := hm
    exact ⟨o, es, ep, k _ o (Ne.symm hL) ho, r⟩
  · refine (I.hok b u e).stay (fun c v hc q => k c v ?_ q) (fun _ q => q) fun _ _ q => q
    rcases hc with z | z
    · rw [z]; exact nit b u e
    · exact nit c _ z
theorem Inv.tok (I : Inv X pins σ H s) (t : Nat) : Inv X pins σ H { s with toks := t } := I.un (h' := s.heap) (t' := t) Un.refl I.hok
theorem Inv.kept {t' : Nat} (I : Inv X pins σ H s) (k : ∀ b u, s.heap.get? b = some u → h'.get? b = some u) : Inv X pins σ H { s with heap := h', toks := t' } := I.un (Un.kept k) (I.hok.kept k)
theorem Inv.laid {a : Addr} {o : HO} {t' : Nat} (I : Inv X pins σ H s) (k : ∀ b u, s.heap.get? b = some u → h'.get? b = some u) (hp : s.heap.objs.size ≤ a) (new : ObjOk X.prog X.w (upd H a o) h' a o) :
    Inv X pins σ (upd H a o) { s with heap := h', toks := t' } := I.un (Un.laid k hp (I.hok.fresh hp)) (I.hok.laid k hp new)
theorem Inv.write {x e : Addr} {o : HO} {t' : Nat} (I : Inv X pins σ H s) (mu : Mut (H x)) (he : e = x ∨ H e = some (.own x)) (k : ∀ b u, b ≠ e → s.heap.get? b = some u → h'.get? b = some u) (heo : ∃ u, h'.get? e = some u)
    (new : ObjOk X.prog X.w (upd H x o) h' x o) : Inv X pins σ (upd H x o) { s with heap := h', toks := t' } := I.un (Un.write mu he k heo) (I.hok.write mu he k heo new)
theorem Inv.pins_of {pins' : List (Addr × Obj)} (I : Inv X pins σ H s) (h : ∀ p ∈ pins', s.heap.get? p.1 = some p.2 ∧ H p.1 = none ∧ p.1 ≠ X.env.locals ∧ p.1 ∉ X.fs ∧ ∀ v, p.2.data ≠ .cell v) : Inv X pins' σ H s :=
  ⟨I.ok, I.os, I.bare, I.base, I.loc, I.cell, I.free, I.freeC, fun p hp => (List.mem_append.mp hp).elim (fun z => I.pin p (List.mem_append_left _ z)) (h p), I.hok, I.len⟩
theorem nodup_ix {N : List Str} (hN : N.Nodup) {i j : Nat} {x : Str} (a : N[i]? = some x) (b : N[j]? = some x) : i = j := by
  obtain ⟨h1, e1⟩ := List.getElem?_eq_some_iff.mp a
  obtain ⟨h2, e2⟩ := List.getElem?_eq_some_iff.mp b
  exact (List.getElem_inj hN).mp (e1.trans e2.symm)
theorem store_ok2 {M : Model} {A : Around} {E : Value → Shared → Prop} {i : Nat} {x : Str} {v : V} {u : Value} {Q : Unit → Shared → Prop} (I : Inv X pins σ H s) (hN : X.N.Nodup) (hi : X.N[i]? = some x) (hx : Loc X.env.scope x) (r : RelV v u)
    (h : ∀ s', Inv X pins (σ.set i (some v)) H s' → (∃ a, Heap.SameBut a s.heap s'.heap ∧ (a = X.env.locals ∨ X.env.cells.lookup x = some a)) → Q () s') (hf : X.fn x = true ∨ X.env.scope.names.lookup x = some .local := by first | exact .inl rfl | exact .inr rfl | assumption) : wpAny M A (storeName X.env x u) Q E s := by
  obtain ⟨m, hn, hl⟩ := id I.loc
  have hcls : (X.env.scope.kind == .class || (X.env.scope.kind == .module && X.env.locals != X.env.globals)) = false := by rw [I.ok.kind]; rfl
  have hiσ : i < σ.length := by rw [I.len]; exact (List.getElem?_eq_some_iff.mp hi).1
  have cne := I.cne
  have tracked : ∀ {a : Addr} {h' : Heap}, (∃ o, s.heap.get? a = some o ∧ H a = none) → Heap.SameBut a s.heap h' → HOk X.prog X.w H h' := fun {a h'} ha hs b ob e => by
    obtain ⟨_, _, hfree⟩ := ha
    refine (I.hok b ob e).stay (fun c w' hc q => (hs.2 c ?_).trans q) (fun _ q => q) fun _ _ q => q
    rintro rfl
    rcases hc with rfl | hc
    · rw [hfree] at e; cases e
    · rw [hfree] at hc; cases hc
  rcases hx with hk | hk
  · refine wpAny_storeName_local hk hn (fun h' hn' hs => ?_) hcls
    obtain ⟨oL, _, _, hoL, _⟩ := id hn
    refine h _ ⟨I.ok, I.os, I.bare, ⟨fun b o e n hb hx => ?_, fun b o e n hb hx => ?_, I.base.free, fun b o e hx => ?_, I.base.tups, I.base.frzs, I.base.tbls⟩, ⟨_, hn', fun j y v' e1 e2 e3 => ?_⟩, fun y c e => ?_, I.free, I.freeC, fun p hp => ?_, tracked ⟨oL, hoL, I.free⟩ hs, by simpa using I.len⟩ ⟨_, hs, .inl rfl⟩
    · exact (hs.2 b (Nat.ne_of_lt (Nat.lt_of_lt_of_le (Heap.lt_size e) I.ok.above))).trans (I.base.keep b o e n hb hx)
    · obtain ⟨sl, e1⟩ := I.base.slot b o e n hb hx
      exact ⟨sl, (hs.2 b (Nat.ne_of_lt (Nat.lt_of_lt_of_le (Heap.lt_size e) I.ok.above))).trans e1⟩
    · obtain ⟨o', e1⟩ := I.base.there b o e hx
      exact ⟨o', (hs.2 b (Nat.ne_of_lt (Nat.lt_of_lt_of_le (Heap.lt_size e) I.ok.above))).trans e1⟩
    · by_cases hj : j = i
      · subst hj
        rw [hi] at e1; cases e1
        rw [List.getElem?_set_self hiσ] at e2
        cases e2
        exact ⟨u, r, .inl ⟨hk, by simp⟩⟩
      · rw [List.getElem?_set_ne (Ne.symm hj)] at e2
        obtain ⟨u', r', q⟩ := hl j y v' e1 e2 e3
        refine ⟨u', r', ?_⟩
        rcases q with ⟨k, e⟩ | ⟨k, c, e, z⟩
        · refine .inl ⟨k, ?_⟩
          have : y ≠ x := fun e => hj (nodup_ix hN e1 (e ▸ hi))
          simp [this, e]
        · exact .inr ⟨k, c, e, z.sameBut hs (cne y c e)⟩
    · obtain ⟨w', z⟩ := I.cell y c e
      exact ⟨w', z.sameBut hs (cne y c e)⟩
    · obtain ⟨e, n, ne, nf, d⟩ := I.pin p hp
      exact ⟨(hs.2 p.1 ne).trans e, n, ne, nf, d⟩
  · have hfn : X.fn x = true := by
      rcases hf with z | z
      · exact z
      · rw [z] at hk; cases hk
    obtain ⟨c, hc⟩ := I.ok.has x (.inl hk)
    obtain ⟨w', z⟩ := I.cell x c hc
    refine wpAny_storeName_cell I.ok.kind hk hc z (fun h' hc' hs => ?_)
    obtain ⟨oc, hoc, hocd⟩ := id z
    refine h { s with heap := h' } ⟨I.ok, I.os, I.bare, ⟨fun b o e n hb hx => ?_, fun b o e n hb hx => ?_, I.base.free, fun b o e hx => ?_, I.base.tups, I.base.frzs, I.base.tbls⟩, ⟨m, hn.sameBut hs (Ne.symm (cne x c hc)), fun j y v' e1 e2 e3 => ?_⟩, fun y c' e => ?_, I.free, I.freeC, fun p hp => ?_, tracked ⟨oc, hoc, I.freeC x c hc⟩ hs, by simpa using I.len⟩ ⟨c, hs, .inr hc⟩
    · exact (hs.2 b (Nat.ne_of_lt (Nat.lt_of_lt_of_le (Heap.lt_size e) (I.ok.cab x c hfn hc)))).trans (I.base.keep b o e n hb hx)
    · obtain ⟨sl, e1⟩ := I.base.slot b o e n hb hx
      exact ⟨sl, (hs.2 b (Nat.ne_of_lt (Nat.lt_of_lt_of_le (Heap.lt_size e) (I.ok.cab x c hfn hc)))).trans e1⟩
    · obtain ⟨o', e1⟩ := I.base.there b o e hx
      exact ⟨o', (hs.2 b (Nat.ne_of_lt (Nat.lt_of_lt_of_le (Heap.lt_size e) (I.ok.cab x c hfn hc)))).trans e1⟩
    · by_cases hj : j = i
      · subst hj
        rw [hi] at e1; cases e1
        rw [List.getElem?_set_self hiσ] at e2
        cases e2
        exact ⟨u, r, .inr ⟨.inl hk, c, hc, hc'⟩⟩
      · rw [List.getElem?_set_ne (Ne.symm hj)] at e2
        obtain ⟨u', r', q⟩ := hl j y v' e1 e2 e3
        refine ⟨u', r', ?_⟩
        rcases q with q | ⟨k, c', e, z'⟩
        · exact .inl q
        · refine .inr ⟨k, c', e, z'.sameBut hs ?_⟩
          rintro rfl
          exact hj (nodup_ix hN e1 (I.ok.inj _ _ _ e hc ▸ hi))
    · by_cases hcc : c' = c
      · subst hcc; exact ⟨_, hc'⟩
      · obtain ⟨w2, z2⟩ := I.cell y c' e
        exact ⟨w2, z2.sameBut hs hcc⟩
    · obtain ⟨e, n, ne, nf, d⟩ := I.pin p hp
      refine ⟨(hs.2 p.1 ?_).trans e, n, ne, nf, d⟩
      intro q
      rw [q, hoc] at e
      have q' : oc = p.2 := Option.some.inj e
      exact d w' (by rw [← q']; exact hocd)
theorem store_ok {M : Model} {A : Around} {E : Value → Shared → Prop} {i : Nat} {x : Str} {v : V} {u : Value} {Q : Unit → Shared → Prop} (I : Inv X pins σ H s) (hN : X.N.Nodup) (hi : X.N[i]? = some x) (hx : Loc X.env.scope x) (r : RelV v u)
    (h : ∀ s', Inv X pins (σ.set i (some v)) H s' → Q () s') (hf : X.fn x = true ∨ X.env.scope.names.lookup x = some .local := by first | exact .inl rfl | exact .inr rfl | assumption) : wpAny M A (storeName X.env x u) Q E s :=
  store_ok2 I hN hi hx r (fun s' I' _ => h s' I') hf
theorem Inv.call' {s' : Shared} {ch : List Addr} (I : Inv X pins σ H s) (ho : s'.os = s.os) (u : Un (frs X.stack) ch H H' s.heap s'.heap) (hok : HOk X.prog X.w H' s'.heap) (hg : AllBare s'.gens)
    (hch : ∀ b ∈ ch, (b ∈ X.ex ∨ X.s₀.heap.objs.size ≤ b) ∧ b ≠ X.env.locals ∧ (∀ x c, X.env.cells.lookup x = some c → c ≠ b) ∧ ∀ p ∈ X.pn ++ pins, p.1 ≠ b) : Inv X pins σ H' s' := by
  obtain ⟨h', g', d', t', o'⟩ := s'
  have e : o' = s.os := ho
  subst e
  exact I.call (g' := g') (t' := t') (d' := d') u hok hg hch
end
abbrev XK := Value → Option Addr → Hp → Prop
abbrev St := List (Option V)
abbrev VK := V → Hp → Prop
abbrev TE := St → Hp → VK → Prop
abbrev TT := St → Hp → (Bool → Hp → Prop) → Prop
abbrev TA := St → Hp → (List V → Hp → Prop) → Prop
structure Ends where
  nx : St → Hp → Prop
  rt : VK
  bk : St → Hp → Prop := fun _ _ => False
  ct : St → Hp → Prop := fun _ _ => False
abbrev TS := Ends → St → Hp → Prop
noncomputable def EP (X : Cx) (pins : List (Addr × Obj)) (σ : St) (Q : VK) (u : Value) (s' : Shared) : Prop := ∃ v H', Inv X pins σ H' s' ∧ RelV v u ∧ Q v H'
noncomputable def TP (X : Cx) (pins : List (Addr × Obj)) (σ : St) (Q : Bool → Hp → Prop) (b : Bool) (s' : Shared) : Prop := ∃ H', Inv X pins σ H' s' ∧ Q b H'
noncomputable def AP (X : Cx) (pins : List (Addr × Obj)) (σ : St) (Q : List V → Hp → Prop) (us : List Value) (s' : Shared) : Prop := ∃ vs H', Inv X pins σ H' s' ∧ Vals vs us ∧ Q vs H'
noncomputable def SP (X : Cx) (pins : List (Addr × Obj)) (D : Ends) (f : Flow) (s' : Shared) : Prop :=
  match f with
  | .next => ∃ σ' H', Inv X pins σ' H' s' ∧ D.nx σ' H'
  | .brk => ∃ σ' H', Inv X pins σ' H' s' ∧ D.bk σ' H'
  | .cont => ∃ σ' H', Inv X pins σ' H' s' ∧ D.ct σ' H'
  | .ret u => ∃ v σ' H', Inv X pins σ' H' s' ∧ RelV v u ∧ D.rt v H'
noncomputable def PE (X : Cx) (e : Expr) (t : TE) : Prop :=
  ∀ (pins : List (Addr × Obj)) (s : Shared) (σ : St) (H : Hp) (Q : VK), Inv X pins σ H s → t σ H Q → wpAny (model X.prog X.w) X.A (eval e X.env) (EP X pins σ Q) X.xe s
noncomputable def PT (X : Cx) (e : Expr) (t : TT) : Prop :=
  ∀ (pins : List (Addr × Obj)) (s : Shared) (σ : St) (H : Hp) (Q : Bool → Hp → Prop), Inv X pins σ H s → t σ H Q → wpAny (model X.prog X.w) X.A (isTrue e X.env (eval e X.env)) (TP X pins σ Q) X.xe s
noncomputable def PW (X : Cx) (e : Expr) (t : TT) : Prop :=
  ∀ (whole : Sem Value) (pins : List (Addr × Obj)) (s : Shared) (σ : St) (H : Hp) (Q : Bool → Hp → Prop), Inv X pins σ H s → t σ H Q → wpAny (model X.prog X.w) X.A (isTrue e X.env whole) (TP X pins σ Q) X.xe s
theorem PW.pt {X : Cx} {e : Expr} {t : TT} (h : PW X e t) : PT X e t := h _
noncomputable def PA (X : Cx) (es : List Expr) (t : TA) : Prop :=
  ∀ (pos : Pos) (pins : List (Addr × Obj)) (s : Shared) (σ : St) (H : Hp) (Q : List V → Hp → Prop), Inv X pins σ H s → t σ H Q → wpAny (model X.prog X.w) X.A (spliced (backTo pos (starEach es X.env))) (AP X pins σ Q) X.xe s
noncomputable def PS (X : Cx) (st : Stmt) (t : TS) : Prop :=
  ∀ (pins : List (Addr × Obj)) (s : Shared) (σ : St) (H : Hp) (D : Ends), Inv X pins σ H s → t D σ H → wpAny (model X.prog X.w) X.A (exec st X.env) (SP X pins D) X.xe s
noncomputable def PSs (X : Cx) (st : List Stmt) (t : TS) : Prop :=
  ∀ (pins : List (Addr × Obj)) (s : Shared) (σ : St) (H : Hp) (D : Ends), Inv X pins σ H s → t D σ H → wpAny (model X.prog X.w) X.A (execs st X.env) (SP X pins D) X.xe s
theorem thn {α : Type} {t : Sem α} {Q Q' : α → Shared → Prop} {M : Model} {A : Around} {E : Value → Shared → Prop} {s : Shared} (h : wpAny M A t Q E s) (hQ : ∀ a s, Q a s → Q' a s) : wpAny M A t Q' E s := wpAny_mono h hQ fun _ _ x => x
end L2
namespace L2
open PySem PySem.Spec PyProof.Rows
section
variable {X : Cx}
theorem bin {a b : Expr} {ta tb : TE} (ha : PE X a ta) (hb : PE X b tb) {pins : List (Addr × Obj)} {s : Shared} {σ : St} {H : Hp} {R : V → V → Hp → Prop} (I : Inv X pins σ H s) (h : ta σ H fun x H1 => tb σ H1 fun y H2 => R x y H2)
    {α : Type} {Q : α → Shared → Prop} {f : Value → Value → Sem α}
    (hf : ∀ v u s2 x y H2, Inv X pins σ H2 s2 → RelV x v → RelV y u → R x y H2 → wpAny (model X.prog X.w) X.A (f v u) Q X.xe s2) :
    wpAny (model X.prog X.w) X.A (eval a X.env) (fun v s₁ => wpAny (model X.prog X.w) X.A (eval b X.env) (fun u s₂ => wpAny (model X.prog X.w) X.A (f v u) Q X.xe s₂) X.xe s₁) X.xe s := by
  refine thn (ha pins s σ H _ I h) fun v s1 ⟨x, H1, I1, r1, q1⟩ => ?_
  refine thn (hb pins s1 σ H1 _ I1 q1) fun u s2 ⟨y, H2, I2, r2, q2⟩ => ?_
  exact hf v u s2 x y H2 I2 r1 r2 q2
noncomputable def tVar (i : Nat) : TE := fun σ H Q => ∃ v, σ[i]? = some (some v) ∧ Q v H
noncomputable def tC (v : V) : TE := fun _ H Q => Q v H
theorem pe_var {i : Nat} {x : Str} {pos : Pos} (hN : X.N[i]? = some x) (hv : Vis X.env.scope x) (hd : (x == ("__debug__" : Str)) = false := by decide) (hcd : (x == ("__classdict__" : Str)) = false := by decide) : PE X (.Name x pos) (tVar i) := by
  intro pins s σ H Q I h
  obtain ⟨v, e, h⟩ := h
  obtain ⟨m, hn, hl⟩ := I.loc
  obtain ⟨u, r, l⟩ := hl i x v hN e hv
  have fin : EP X pins σ Q u s := ⟨v, H, I, r, h⟩
  rcases l with ⟨hk, hm⟩ | ⟨hk, c, hc, hcell⟩
  · exact wpAny_Name (wpAny_loadName_local I.ok.kind hk hn hm fin) hd
  · rcases hk with hk | hk
    · exact wpAny_Name (wpAny_loadName_cell I.ok.kind hk hc hcell fin) hd
    · exact wpAny_Name (wpAny_loadName_free I.ok.kind hk hc hcell fin hcd) hd
theorem pe_int {i j pos} : PE X (.Constant (.int i) j pos) (tC (.int i)) := fun _ _ _ H _ I h => wpAny_Constant_int ⟨.int i, H, I.tok _, ⟨_, rfl⟩, h⟩
theorem pe_bl {b j pos} : PE X (.Constant (.bool b) j pos) (tC (.bl b)) := fun _ _ _ H _ I h => Constant_bool ⟨.bl b, H, I, rfl, h⟩
theorem pe_non {j pos} : PE X (.Constant .none j pos) (tC .non) := fun _ _ _ H _ I h => Constant_none ⟨.non, H, I, rfl, h⟩
theorem pe_str {x j pos} : PE X (.Constant (.str x) j pos) (tC (.str x)) := fun _ _ _ H _ I h => Calls.Constant_str ⟨.str x, H, I.tok _, ⟨_, rfl⟩, h⟩
noncomputable def Gl (X : Cx) (x : Str) : Prop := X.env.kindOf x = some .globalImplicit
theorem ld_glob {E : Value → Shared → Prop} {pins : List (Addr × Obj)} {s : Shared} {σ : St} {H : Hp} {x : Str} {u : Value} {pos : Pos} {Q : Value → Shared → Prop} (I : Inv X pins σ H s) (hg : Gl X x) (hm : X.mg x = some u) (h : Q u s)
    (hd : (x == ("__debug__" : Str)) = false := by decide) : wpAny (model X.prog X.w) X.A (eval (.Name x pos) X.env) Q E s :=
  Calls.Name_function_global I.ok.kind hg (Calls.loadGlobal_global (by rw [I.ok.glob]; exact I.mod.glob.keeps I.bk) hm h) hd
theorem ld_blt {E : Value → Shared → Prop} {pins : List (Addr × Obj)} {s : Shared} {σ : St} {H : Hp} {x : Str} {u : Value} {pos : Pos} {Q : Value → Shared → Prop} (I : Inv X pins σ H s) (hg : Gl X x) (hm : X.mg x = none) (hv : bootBuiltins x = some u) (h : Q u s)
    (hn : x ≠ "__name__" := by decide) (hd : (x == ("__debug__" : Str)) = false := by decide) : wpAny (model X.prog X.w) X.A (eval (.Name x pos) X.env) Q E s := by
  obtain ⟨mb, h1, h2⟩ := I.mod.blt
  exact Calls.Name_function_global I.ok.kind hg (Calls.loadGlobal_builtin (by rw [I.ok.glob]; exact I.mod.glob.keeps I.bk) hm (by rw [I.ok.blt]; exact h1.keeps I.bk) ((h2 x hn).trans hv) h) hd
theorem pe_glob {x : Str} {v : V} {u : Value} {pos : Pos} (hg : Gl X x) (hm : X.mg x = some u) (r : RelV v u) (hd : (x == ("__debug__" : Str)) = false := by decide) : PE X (.Name x pos) (tC v) :=
  fun _ _ _ H _ I h => ld_glob I hg hm ⟨v, H, I, r, h⟩ hd
theorem pe_bltn {x : Str} {v : V} {u : Value} {pos : Pos} (hg : Gl X x) (hm : X.mg x = none) (hv : bootBuiltins x = some u) (r : RelV v u) (hn : x ≠ "__name__" := by decide) (hd : (x == ("__debug__" : Str)) = false := by decide) : PE X (.Name x pos) (tC v) :=
  fun _ _ _ H _ I h => ld_blt I hg hm hv ⟨v, H, I, r, h⟩ hn hd
noncomputable def t2I (ta tb : TE) (k : Int → Int → Hp → Prop) : St → Hp → Prop := fun σ H => ta σ H fun x H1 => tb σ H1 fun y H2 => ∃ i j, x = .int i ∧ y = .int j ∧ k i j H2
variable {a b : Expr} {ta tb : TE} {pos : Pos}
noncomputable def tCmp (p : Int → Int → Bool) (ta tb : TE) : TE := fun σ H Q => t2I ta tb (fun i j H2 => Q (.bl (p i j)) H2) σ H
abbrev tLt : TE → TE → TE := tCmp fun i j => decide (i < j)
abbrev tLe : TE → TE → TE := tCmp fun i j => decide (i ≤ j)
abbrev tGt : TE → TE → TE := tCmp fun i j => decide (j < i)
abbrev tGe : TE → TE → TE := tCmp fun i j => decide (j ≤ i)
abbrev tEqI : TE → TE → TE := tCmp fun i j => decide (i = j)
abbrev tNeI : TE → TE → TE := tCmp fun i j => !decide (i = j)
noncomputable def tB (t : TE) : TT := fun σ H Q => t σ H fun x H1 => ∃ c, x = .bl c ∧ Q c H1
theorem pt_val {e : Expr} {t : TE} (h : PE X e t) (he : ∀ whole, isTrue e X.env whole = (do let v ← whole; standAt e.pos; holding [v] (truthy v)) := by intro _; rfl) : PT X e (tB t) := by
  intro pins s σ H Q I hw
  refine isTrue_plain (thn (h pins s σ H _ I hw) fun v s1 ⟨x, H1, I1, r1, q1⟩ => ?_) (he _)
  obtain ⟨d, rfl, q⟩ := q1
  cases r1
  exact wpAny_truthy_bool ⟨H1, I1, q⟩
variable {tA tB' : TT} {rest : List Expr}
noncomputable def tAnd (t u : TT) : TT := fun σ H Q => t σ H fun c H1 => if c = true then u σ H1 Q else Q false H1
noncomputable def tOr (t u : TT) : TT := fun σ H Q => t σ H fun c H1 => if c = true then Q true H1 else u σ H1 Q
noncomputable def tNot (t : TT) : TT := fun σ H Q => t σ H fun c H1 => Q (!c) H1
theorem pw_and1 (ha : PT X a tA) : PW X (.BoolOp .And [a] pos) tA := by
  intro wh pins s σ H Q I h
  refine isTrue_and (thn (ha pins s σ H Q I h) fun c s1 e => ?_)
  cases c with
  | true => exact isTrue_and_nil e
  | false => exact e
theorem pw_or1 (ha : PT X a tA) : PW X (.BoolOp .Or [a] pos) tA := by
  intro wh pins s σ H Q I h
  refine isTrue_or (thn (ha pins s σ H Q I h) fun c s1 e => ?_)
  cases c with
  | false => exact isTrue_or_nil e
  | true => exact e
theorem pw_and (ha : PT X a tA) (hb : PW X (.BoolOp .And (b :: rest) pos) tB') : PW X (.BoolOp .And (a :: b :: rest) pos) (tAnd tA tB') := by
  intro wh pins s σ H Q I h
  refine isTrue_and (thn (ha pins s σ H _ I h) fun c s1 ⟨H1, I1, q1⟩ => ?_)
  cases c with
  | true => exact hb wh pins s1 σ H1 Q I1 q1
  | false => exact ⟨H1, I1, q1⟩
theorem pw_or (ha : PT X a tA) (hb : PW X (.BoolOp .Or (b :: rest) pos) tB') : PW X (.BoolOp .Or (a :: b :: rest) pos) (tOr tA tB') := by
  intro wh pins s σ H Q I h
  refine isTrue_or (thn (ha pins s σ H _ I h) fun c s1 ⟨H1, I1, q1⟩ => ?_)
  cases c with
  | true => exact ⟨H1, I1, q1⟩
  | false => exact hb wh pins s1 σ H1 Q I1 q1
theorem pt_not (ha : PT X a tA) : PT X (.UnaryOp .Not a pos) (tNot tA) := by
  intro pins s σ H Q I h
  exact isTrue_not (ha pins s σ H (fun c H1 => Q (!c) H1) I h)
noncomputable def tAndV (ta tb : TE) : TE := fun σ H Q => ta σ H fun x H1 => ∃ c, x = .bl c ∧ if c = true then tb σ H1 Q else Q (.bl false) H1
noncomputable def tOrV (ta tb : TE) : TE := fun σ H Q => ta σ H fun x H1 => ∃ c, x = .bl c ∧ if c = true then Q (.bl true) H1 else tb σ H1 Q
noncomputable def tNotV (ta : TE) : TE := fun σ H Q => ta σ H fun x H1 => ∃ c, x = .bl c ∧ Q (.bl (!c)) H1
theorem pe_one {op} {t : TE} (h : PE X a t) : PE X (.BoolOp op [a] pos) t := fun pins s σ H Q I hw => BoolOp_one (h pins s σ H Q I hw)
theorem pe_and (ha : PE X a ta) (hb : PE X (.BoolOp .And (b :: rest) pos) tb) : PE X (.BoolOp .And (a :: b :: rest) pos) (tAndV ta tb) := by
  intro pins s σ H Q I h
  refine BoolOp_and (thn (ha pins s σ H _ I h) fun v s1 ⟨x, H1, I1, r1, q1⟩ => ?_)
  obtain ⟨c, rfl, q1⟩ := q1
  cases r1
  refine wpAny_truthy_bool ?_
  cases c with
  | true => exact hb pins s1 σ H1 Q I1 q1
  | false => exact ⟨.bl false, H1, I1, rfl, q1⟩
noncomputable def tIf (t : TT) (ta tb : TE) : TE := fun σ H Q => t σ H fun c H1 => if c = true then ta σ H1 Q else tb σ H1 Q
theorem pe_ifExp {c : Expr} (hc : PT X c tA) (ha : PE X a ta) (hb : PE X b tb) : PE X (.IfExp c a b pos) (tIf tA ta tb) := by
  intro pins s σ H Q I h
  refine wpAny_IfExp (thn (hc pins s σ H _ I h) fun d s1 ⟨H1, I1, q1⟩ => ?_)
  cases d with
  | true => exact ha pins s1 σ H1 Q I1 q1
  | false => exact hb pins s1 σ H1 Q I1 q1
end
end L2
namespace L2
open PySem PySem.Spec PyProof.Rows
noncomputable def SqL (K : PySem.W.Frag) (H : Hp) (a : Addr) (xs : List V) : Prop :=
  Rd H a (.lst xs) ∨
    ∃ (o : Obj) (its : Array Value) (n : Nat), K.lookup a = some o ∧ o.cls = .type "list" ∧ o.dict = none ∧ o.data = .seq its n ∧ its.size ≤ sizeLine ∧ Vals xs its.toList
noncomputable def SqT (K : PySem.W.Frag) (H : Hp) (a : Addr) (xs : List V) : Prop :=
  Rd H a (.tup xs) ∨
    ∃ (o : Obj) (its : Array Value) (n : Nat), K.lookup a = some o ∧ o.cls = .type "tuple" ∧ o.data = .seq its n ∧ its.size ≤ sizeLine ∧ Vals xs its.toList
noncomputable def absV : Value → Option V
  | .none => some .non
  | .bool b => some (.bl b)
  | .int i _ => some (.int i)
  | .str x _ => some (.str x)
  | .bytes b _ => some (.byt b)
  | .float b _ => some (.flt b)
  | .ref a => some (.ref a)
  | .type n => some (.ty n)
  | _ => none
theorem RelV.abs {x : V} {u : Value} (r : RelV x u) : absV u = some x := by
  cases x with
  | non => cases r; rfl
  | bl _ => cases r; rfl
  | int _ => obtain ⟨t, rfl⟩ := r; rfl
  | str _ => obtain ⟨t, rfl⟩ := r; rfl
  | byt _ => obtain ⟨t, rfl⟩ := r; rfl
  | flt _ => obtain ⟨t, rfl⟩ := r; rfl
  | ref _ => cases r; rfl
  | ty _ => cases r; rfl
theorem RelV.inj {x y : V} {u : Value} (r : RelV x u) (q : RelV y u) : x = y := Option.some.inj (r.abs.symm.trans q.abs)
theorem Vals.inj : ∀ {xs ys : List V} {us : List Value}, Vals xs us → Vals ys us → xs = ys
  | _, _, _, .nil, .nil => rfl
  | _, _, _, .cons r t, .cons r' t' => by rw [r.inj r', Vals.inj t t']
section
variable {X : Cx} {pins : List (Addr × Obj)} {σ : St} {H : Hp} {s : Shared} {a : Addr} {xs ys : List V}
theorem SqL.of {K : PySem.W.Frag} (h : H a = some (.lst xs)) : SqL K H a xs := .inl (.inl h)
theorem SqT.of {K : PySem.W.Frag} (h : H a = some (.tup xs)) : SqT K H a xs := .inl (.inl h)
theorem Inv.list (I : Inv X pins σ H s) (h : SqL X.K H a xs) : ∃ its : List Value, Vals xs its ∧ PlainL s.heap a its.toArray ∧ xs.length ≤ sizeLine := by
  rcases h with h | ⟨o, its, n, hk, hc, hd, hs, hz, r⟩
  · obtain ⟨z, its, n, r, e⟩ := h.ok I.hok
    exact ⟨its, r, ⟨_, n, e, rfl, rfl, rfl⟩, z⟩
  · refine ⟨its.toList, r, ⟨o, n, I.kIn a o hk, hc, hd, by simpa using hs⟩, ?_⟩
    have e := r.length
    simp only [Array.length_toList] at e
    omega
theorem Inv.tuple (I : Inv X pins σ H s) (h : SqT X.K H a xs) : ∃ its : List Value, Vals xs its ∧ IsTup s.heap a its.toArray ∧ xs.length ≤ sizeLine := by
  rcases h with h | ⟨o, its, n, hk, hc, hs, hz, r⟩
  · obtain ⟨z, its, r, p⟩ := h.ok I.hok
    exact ⟨its, r, p, z⟩
  · refine ⟨its.toList, r, ⟨o, I.kIn a o hk, hc, n, by simpa using hs⟩, ?_⟩
    have e := r.length
    simp only [Array.length_toList] at e
    omega
theorem Inv.list_inj (I : Inv X pins σ H s) (h : SqL X.K H a xs) (h' : SqL X.K H a ys) : xs = ys := by
  obtain ⟨its, r, ⟨o, n, e, _, _, d⟩, _⟩ := I.list h
  obtain ⟨its', r', ⟨o', n', e', _, _, d'⟩, _⟩ := I.list h'
  rw [e] at e'; cases e'
  rw [d] at d'
  injection d' with d1 _
  have : its = its' := by simpa using congrArg Array.toList d1
  subst this
  exact r.inj r'
end
abbrev Cx.wish (X : Cx) (E : Value → Shared → Prop) : Cx := { X with xe := E }
abbrev Cx.nox (X : Cx) : Cx := X.wish fun _ _ => False
theorem Cx.Ok.wish {X : Cx} (ok : X.Ok) (E : Value → Shared → Prop) : (X.wish E).Ok :=
  ⟨ok.mod, ok.kind, ok.glob, ok.blt, ok.above, ok.inj, ok.has, ok.cab, ok.hd, ok.frames, ok.stk, ok.exf, ok.bs, ok.bsz, ok.noex, ok.exfs, ok.funs, ok.frf⟩
theorem Cx.Ok.unwish {X : Cx} {E : Value → Shared → Prop} (ok : (X.wish E).Ok) : X.Ok :=
  ⟨ok.mod, ok.kind, ok.glob, ok.blt, ok.above, ok.inj, ok.has, ok.cab, ok.hd, ok.frames, ok.stk, ok.exf, ok.bs, ok.bsz, ok.noex, ok.exfs, ok.funs, ok.frf⟩
section
variable {X : Cx} {pins : List (Addr × Obj)} {σ : St} {H : Hp} {s : Shared} {E : Value → Shared → Prop}
theorem Inv.wish (I : Inv X pins σ H s) (E : Value → Shared → Prop) : Inv (X.wish E) pins σ H s := ⟨I.ok.wish E, I.os, I.bare, I.base, I.loc, I.cell, I.free, I.freeC, I.pin, I.hok, I.len⟩
theorem Inv.unwish (I : Inv (X.wish E) pins σ H s) : Inv X pins σ H s := ⟨I.ok.unwish, I.os, I.bare, I.base, I.loc, I.cell, I.free, I.freeC, I.pin, I.hok, I.len⟩
theorem SP.unwish {D : Ends} {f : Flow} {s' : Shared} (h : SP (X.wish E) pins D f s') : SP X pins D f s' := by
  cases f with
  | next => obtain ⟨σ', H', I, q⟩ := h; exact ⟨σ', H', I.unwish, q⟩
  | brk => obtain ⟨σ', H', I, q⟩ := h; exact ⟨σ', H', I.unwish, q⟩
  | cont => obtain ⟨σ', H', I, q⟩ := h; exact ⟨σ', H', I.unwish, q⟩
  | ret u => obtain ⟨v, σ', H', I, r, q⟩ := h; exact ⟨v, σ', H', I.unwish, r, q⟩
theorem PSs.nox {st : List Stmt} {t : TS} (h : PSs X.nox st t) : PSs X st t := fun pins s σ H D I hw =>
  wpAny_mono (h pins s σ H D (I.wish _) hw) (fun _ _ q => q.unwish) fun _ _ z => False.elim z
end
section
variable {X : Cx} {st : Stmt} {rest : List Stmt} {t u : TS} {e : Expr} {te : TE} {pos : Pos}
noncomputable def tNext : TS := fun D σ H => D.nx σ H
noncomputable def tSeq (t u : TS) : TS := fun D σ H => t { D with nx := u D } σ H
theorem pss_nil : PSs X [] tNext := fun _ _ σ H _ I h => wpAny_execs_nil ⟨σ, H, I, h⟩
theorem pss_cons (h1 : PS X st t) (h2 : PSs X rest u) : PSs X (st :: rest) (tSeq t u) := by
  intro pins s σ H D I h
  refine wpAny_execs_cons (thn (h1 pins s σ H { D with nx := u D } I h) fun f s1 q => ?_)
  cases f with
  | next =>
    obtain ⟨σ', H', I', q⟩ := q
    exact h2 pins s1 σ' H' D I' q
  | ret v => exact q
  | brk => exact q
  | cont => exact q
theorem pss_one (h1 : PS X st t) : PSs X [st] t := by
  intro pins s σ H D I h
  refine wpAny_execs_cons (thn (h1 pins s σ H D I h) fun f s1 q => ?_)
  cases f with
  | next => exact wpAny_execs_nil q
  | ret v => exact q
  | brk => exact q
  | cont => exact q
noncomputable def tBreak : TS := fun D σ H => D.bk σ H
theorem ps_break : PS X (.Break pos) tBreak := fun _ _ σ H _ I h => wpAny_Break ⟨σ, H, I, h⟩
theorem Inv.quiet {pins : List (Addr × Obj)} {σ : St} {H : Hp} {s : Shared} (I : Inv X pins σ H s) : interactive X.env = false := by simp [interactive, I.ok.kind]
noncomputable def tDrop (te : TE) : TS := fun D σ H => te σ H fun _ H1 => D.nx σ H1
theorem ps_expr (he : PE X e te) (hs : swapsWith e none pos.line X.env = pure false := by rfl) : PS X (.Expr e pos) (tDrop te) := by
  intro pins s σ H D I h
  exact wpAny_Expr_any (thn (he pins s σ H _ I h) fun v s1 ⟨x, H1, I1, r1, q1⟩ => ⟨σ, H1, I1, q1⟩) I.quiet hs
noncomputable def tRet (te : TE) : TS := fun D σ H => te σ H D.rt
theorem ps_ret (he : PE X e te) : PS X (.Return (some e) pos) (tRet te) := by
  intro pins s σ H D I h
  exact wpAny_Return_some (thn (he pins s σ H _ I h) fun v s1 ⟨x, H1, I1, r1, q1⟩ => ⟨x, σ, H1, I1, r1, q1⟩)
noncomputable def tRetN : TS := fun D _ H => D.rt .non H
noncomputable def tIfS (c : TT) (t u : TS) : TS := fun D σ H => c σ H fun b H1 => if b = true then t D σ H1 else u D σ H1
theorem ps_if {c : Expr} {a b : List Stmt} {tc : TT} (hc : PT X c tc) (ha : PSs X a t) (hb : PSs X b u) : PS X (.If c a b pos) (tIfS tc t u) := by
  intro pins s σ H D I h
  refine wpAny_If (thn (hc pins s σ H _ I h) fun d s1 ⟨H1, I1, q1⟩ => ?_)
  cases d with
  | true => exact ha pins s1 σ H1 D I1 q1
  | false => exact hb pins s1 σ H1 D I1 q1
noncomputable def tNever : TS := fun _ _ _ => False
theorem ps_never : PS X st tNever := fun _ _ _ _ _ _ h => h.elim
end
abbrev TG := V → St → Hp → (St → Hp → Prop) → Prop
abbrev TGs := List V → St → Hp → (St → Hp → Prop) → Prop
noncomputable def PG (X : Cx) (target : Expr) (t : TG) : Prop :=
  ∀ (pins : List (Addr × Obj)) (s : Shared) (σ : St) (H : Hp) (v : V) (u : Value) (Q : St → Hp → Prop), Inv X pins σ H s → RelV v u → t v σ H Q →
    wpAny (model X.prog X.w) X.A (assign target X.env u) (fun _ s' => ∃ σ' H', Inv X pins σ' H' s' ∧ Q σ' H') X.xe s
noncomputable def PGs (X : Cx) (ts : List Expr) (t : TGs) : Prop :=
  ∀ (pins : List (Addr × Obj)) (s : Shared) (σ : St) (H : Hp) (vs : List V) (us : List Value) (Q : St → Hp → Prop), Inv X pins σ H s → Vals vs us → t vs σ H Q →
    wpAny (model X.prog X.w) X.A (assignInOrder ((assignEach ts X.env).map (·.2)) us) (fun _ s' => ∃ σ' H', Inv X pins σ' H' s' ∧ Q σ' H') X.xe s
abbrev TSet := V → V → V → Hp → (Hp → Prop) → Prop
abbrev TIp := V → V → Hp → VK → Prop
section
variable {X : Cx} {pos : Pos}
noncomputable def gName (i : Nat) : TG := fun v σ H Q => Q (σ.set i (some v)) H
theorem pg_name {i : Nat} {x : Str} (hN : X.N.Nodup) (hi : X.N[i]? = some x) (hx : Loc X.env.scope x) (hf : X.fn x = true ∨ X.env.scope.names.lookup x = some .local := by first | exact .inl rfl | exact .inr rfl | assumption) : PG X (.Name x pos) (gName i) := by
  intro pins s σ H v u Q I r h
  exact wpAny_assign_Name (store_ok I hN hi hx r (fun s' I' => ⟨_, H, I', h⟩) hf)
noncomputable def gNil : TGs := fun vs σ H Q => vs = [] ∧ Q σ H
noncomputable def gCons (t : TG) (u : TGs) : TGs := fun vs σ H Q => ∃ v r, vs = v :: r ∧ t v σ H fun σ' H' => u r σ' H' Q
theorem pgs_nil : PGs X [] gNil := by
  intro pins s σ H vs us Q I r h
  obtain ⟨e, h⟩ := h
  subst e
  cases r
  exact assignInOrder_nil ⟨σ, H, I, h⟩
theorem pgs_cons {e : Expr} {es : List Expr} {t : TG} {u : TGs} (h1 : PG X e t) (h2 : PGs X es u)
    (hs : (assignEach (e :: es) X.env).map (·.2) = assign e X.env :: (assignEach es X.env).map (·.2) := by rfl) : PGs X (e :: es) (gCons t u) := by
  intro pins s σ H vs us Q I r h
  obtain ⟨v, vr, e1, h⟩ := h
  subst e1
  cases r with
  | cons r rr =>
    rw [hs]
    refine assignInOrder_cons (thn (h1 pins s σ H _ _ _ I r h) fun _ s1 ⟨σ1, H1, I1, q1⟩ => ?_)
    exact h2 pins s1 σ1 H1 _ _ Q I1 rr q1
noncomputable def gTup (K : PySem.W.Frag) (n : Nat) (t : TGs) : TG := fun v σ H Q => ∃ a xs, v = .ref a ∧ SqT K H a xs ∧ xs.length = n ∧ t xs σ H Q
theorem pg_tup {es : List Expr} {k : Nat} {t : TGs} {n : Nat} (hc : X.calm = true) (h : PGs X es t)
    (hn : (assignEach es X.env).length = n := by rfl) (hst : (assignEach es X.env).findIdx? (·.1) = none := by rfl) : PG X (.Tuple es k pos) (gTup X.K n t) := by
  intro pins s σ H v u Q I r hw
  obtain ⟨a, xs, e1, hq, hl, hw⟩ := hw
  subst e1
  cases r
  obtain ⟨its, rv, ht, hz⟩ := I.tuple hq
  refine assign_Tuple_tuple (I.ok.hd hc) ht (by simp [hn, ← hl, rv.length]) hst fun h' hx => ?_
  have I1 : Inv X pins σ H { s with heap := h' } := I.kept (t' := s.toks) fun b o e => hx b o (Nat.ne_of_lt (Heap.lt_size e)) e
  exact h pins _ σ H xs _ Q I1 (by simpa using rv) hw
noncomputable def gSub (to ti : TE) (t : TSet) : TG := fun v σ H Q => to σ H fun o H1 => ti σ H1 fun i H2 => t o i v H2 fun H3 => Q σ H3
noncomputable def tAsg (te : TE) (g : TG) : TS := fun D σ H => te σ H fun x H1 => g x σ H1 D.nx
theorem ps_set {i : Nat} {x : Str} {e : Expr} {te : TE} {pos' : Pos} (hN : X.N.Nodup) (hi : X.N[i]? = some x) (hx : Loc X.env.scope x) (he : PE X e te) (hs : swapsWith e (some (.Name x pos')) pos.line X.env = pure false := by rfl) (hf : X.fn x = true ∨ X.env.scope.names.lookup x = some .local := by first | exact .inl rfl | exact .inr rfl | assumption) :
    PS X (.Assign [.Name x pos'] e pos) (tAsg te (gName i)) := by
  intro pins s σ H D I h
  refine wpAny_Assign_Name (thn (he pins s σ H _ I h) fun v s1 ⟨y, H1, I1, r1, q1⟩ => ?_) hs
  exact store_ok I1 hN hi hx r1 (fun s2 I2 => ⟨_, H1, I2, q1⟩) hf
noncomputable def tPar (i j : Nat) (ta : TA) : TS := fun D σ H => ta σ H fun vs H1 => ∃ v w, vs = [v, w] ∧ D.nx ((σ.set i (some v)).set j (some w)) H1
end
section
variable {X : Cx} {pos : Pos}
noncomputable def tWhile (c : TT) (tb : TS) : TS := fun D σ H => ∃ W : Nat → St → Hp → Prop, (∃ m, W m σ H) ∧ ∀ m σ H, W m σ H →
  c σ H fun b H1 => if b = true then ∃ N : St → Hp → Prop, (∀ σ' H', N σ' H' → ∃ m', m' < m ∧ W m' σ' H') ∧ tb { D with nx := N, ct := N, bk := D.nx } σ H1 else D.nx σ H1
theorem ps_while {c : Expr} {body : List Stmt} {tc : TT} {tb : TS} (hp : PassesOwn (model X.prog X.w) X.A X.env X.xe) (hc : PT X c tc) (hb : PSs X body tb) : PS X (.While c body [] pos) (tWhile tc tb) := by
  intro pins s σ H D I h
  obtain ⟨W, ⟨m0, w0⟩, turn⟩ := h
  refine wpAny_While (codeAny_whileLoop (fun n s' => ∃ σ' H', Inv X pins σ' H' s' ∧ W n σ' H') ?_ m0 ⟨σ, H, I, w0⟩)
  rintro n s1 ⟨σ1, H1, I1, w1⟩
  refine wpAny_passesOwn hp (thn (hc pins s1 σ1 H1 _ I1 (turn n σ1 H1 w1)) fun b s2 ⟨H2, I2, q2⟩ => ?_)
  cases b with
  | true =>
    obtain ⟨N, hN, q2⟩ := q2
    rw [if_pos rfl]
    refine wpAny_passesOwn hp (thn (hb pins s2 σ1 H2 _ I2 q2) fun f s3 q3 => ?_)
    cases f with
    | next =>
      obtain ⟨σ3, H3, I3, n3⟩ := q3
      obtain ⟨m', hm, w3⟩ := hN σ3 H3 n3
      exact ⟨m', hm, σ3, H3, I3, w3⟩
    | cont =>
      obtain ⟨σ3, H3, I3, n3⟩ := q3
      obtain ⟨m', hm, w3⟩ := hN σ3 H3 n3
      exact ⟨m', hm, σ3, H3, I3, w3⟩
    | brk => exact q3
    | ret v => exact q3
  | false =>
    rw [if_neg Bool.false_ne_true]
    exact wpAny_execs_nil ⟨σ1, H2, I2, q2⟩
end
structure It where
  go : Nat → Hp → Prop
  yld : Nat → Hp → V → Hp → Prop
  stop : Nat → Hp → Prop
noncomputable def FpOk (X : Cx) (pins : List (Addr × Obj)) (H : Hp) (b : Addr) : Prop :=
  H b = none ∧ b ≠ X.env.locals ∧ b ∉ X.fs ∧ (b ∈ X.ex ∨ X.s₀.heap.objs.size ≤ b) ∧ (∀ x c, X.env.cells.lookup x = some c → c ≠ b) ∧ ∀ p ∈ X.pn ++ pins, p.1 ≠ b
theorem Inv.fpOk {X : Cx} {pins : List (Addr × Obj)} {σ : St} {H H' : Hp} {s : Shared} {b : Addr} (I : Inv X pins σ H s) (hb : s.heap.objs.size ≤ b) (hn : H' b = none) : FpOk X pins H' b := by
  refine ⟨hn, Nat.ne_of_gt (Nat.lt_of_lt_of_le I.lt hb), I.nofs hb, .inr (Nat.le_trans I.sz hb), fun x c e z => ?_, fun p hp z => ?_⟩
  · obtain ⟨v, q⟩ := I.cell x c e
    exact absurd (Nat.lt_of_lt_of_le q.lt (by rw [z]; exact hb)) (Nat.lt_irrefl _)
  · exact absurd (Nat.lt_of_lt_of_le (Heap.lt_size (I.pin p hp).1) (by rw [z]; exact hb)) (Nat.lt_irrefl _)
structure Turn (P : Program) (w : World) (K : PySem.W.Frag) (tg : Expr) (J : It) (fp : List Addr) (it : Addr) (tn : Nat → Heap → Prop) : Prop where
  mem : it ∈ fp
  obj : ∀ i h, tn i h → ∀ b ∈ fp, ∃ o, h.get? b = some o ∧ ∀ v, o.data ≠ .cell v
  keep : ∀ i h h', tn i h → (∀ b ∈ fp, ∀ o, h.get? b = some o → h'.get? b = some o) → tn i h'
  item : ∀ (X : Cx), X.prog = P → X.w = w → X.K = K → X.calm = true → ∀ (i : Nat) (pins : List (Addr × Obj)) (s : Shared) (σ : St) (H : Hp) (E : Value → Shared → Prop), Inv X pins σ H s → (∀ b ∈ fp, FpOk X pins H b) → tn i s.heap → J.go i H →
    wpAny (model P w) X.A (pyNext (.ref it)) (fun r s1 => ∃ u, r = some u ∧
      wpAny (model P w) X.A (letOwnedTupleGo tg (.ref it) u) (fun _ s2 => ∃ x H', Inv X pins σ H' s2 ∧ RelV x u ∧ J.yld i H x H' ∧ tn (i + 1) s2.heap ∧ ∀ b ∈ fp, H' b = none) E s1) E s
  done : ∀ (X : Cx), X.prog = P → X.w = w → X.K = K → X.calm = true → ∀ (i : Nat) (pins : List (Addr × Obj)) (s : Shared) (σ : St) (H : Hp) (E : Value → Shared → Prop), Inv X pins σ H s → (∀ b ∈ fp, FpOk X pins H b) → tn i s.heap → J.stop i H →
    wpAny (model P w) X.A (pyNext (.ref it)) (fun r s1 => r = none ∧ Inv X pins σ H s1) E s
  self : ∀ (A : Around) (i : Nat) (s : Shared) (Q : Value → Shared → Prop) (E : Value → Shared → Prop), tn i s.heap → Q (.ref it) s → wpAny (model P w) A (pyIter (.ref it)) Q E s
abbrev TI := St → Hp → (It → Hp → Prop) → Prop
noncomputable def PIE (X : Cx) (pins : List (Addr × Obj)) (σ : St) (tg : Expr) (R : It → Hp → Prop) (itv : Value) (s2 : Shared) : Prop :=
  ∃ (it : Addr) (fp : List Addr) (tn : Nat → Heap → Prop) (J : It) (H' : Hp), itv = .ref it ∧ Inv X pins σ H' s2 ∧ Turn X.prog X.w X.K tg J fp it tn ∧ tn 0 s2.heap ∧ (∀ b ∈ fp, FpOk X pins H' b) ∧ R J H'
noncomputable def PI (X : Cx) (tg iter : Expr) (wi : TI) : Prop :=
  ∀ (pins : List (Addr × Obj)) (s : Shared) (σ : St) (H : Hp) (R : It → Hp → Prop), Inv X pins σ H s → wi σ H R →
    wpAny (model X.prog X.w) X.A (eval iter X.env) (fun v s1 => wpAny (model X.prog X.w) X.A (pyIter v) (PIE X pins σ tg R) X.xe s1) X.xe s
theorem go_of {M : Model} {A : Around} {E : Value → Shared → Prop} {s : Shared} {tg : Expr} {it : Addr} {u : Value} {o : Obj} {n : String} {vs : Array Value} {Q : Unit → Shared → Prop} (ho : s.heap.get? it = some o) (hc : o.cls = .type n) (hd : o.data = .fields vs)
    (hn : ["enumerate", "zip", "dict_itemiterator", "dict_reverseitemiterator", "odict_iterator", "itertools.zip_longest", "itertools.pairwise"].contains n = false) (hQ : Q () s) : wpAny M A (letOwnedTupleGo tg (.ref it) u) Q E s := by
  unfold letOwnedTupleGo
  cases tg <;> first
    | exact wpAny_pure hQ
    | (cases u <;> first
        | exact wpAny_pure hQ
        | (refine wpAny_bind (wpAny_load ho ?_)
           rw [hc, hd]
           show wpAny M A (if (["enumerate", "zip", "dict_itemiterator", "dict_reverseitemiterator", "odict_iterator", "itertools.zip_longest", "itertools.pairwise"].contains n && vs[0]? == some (rawInt _)) = true then _ else _) Q E s
           rw [if_neg (by intro h; rw [hn, Bool.false_and] at h; cases h)]
           exact wpAny_pure hQ))
noncomputable def Itl (K : PySem.W.Frag) (a : Addr) : It :=
  ⟨fun i H => ∃ xs x, SqL K H a xs ∧ xs[i]? = some x, fun i H x H' => H' = H ∧ ∀ xs, SqL K H a xs → xs[i]? = some x, fun i H => ∃ xs, SqL K H a xs ∧ xs.length ≤ i⟩
noncomputable def Itt (K : PySem.W.Frag) (a : Addr) : It :=
  ⟨fun i H => ∃ xs x, SqT K H a xs ∧ xs[i]? = some x, fun i H x H' => H' = H ∧ ∀ xs, SqT K H a xs → xs[i]? = some x, fun i H => ∃ xs, SqT K H a xs ∧ xs.length ≤ i⟩
noncomputable def Itr (lo : Int) (n : Nat) : It := ⟨fun i _ => i < n, fun i H x H' => H' = H ∧ x = .int (lo + i), fun i _ => n ≤ i⟩
theorem turn_list {P : Program} {w : World} {K : PySem.W.Frag} {tg : Expr} (a it : Addr) : Turn P w K tg (Itl K a) [it] it (fun i h => h.IsListIter it a i) where
  mem := by simp
  obj := fun i h st b hb => by
    have e : b = it := by simpa using hb
    subst e
    obtain ⟨o, e, c, d⟩ := st
    exact ⟨o, e, fun v z => by rw [d] at z; cases z⟩
  keep := fun i h h' st k => st.at fun o e => k it (by simp) o e
  item := by
    intro X hP hw hK hc i pins s σ H E I hf st hg
    subst hP hw hK
    obtain ⟨xs, x, hq, hx⟩ := hg
    obtain ⟨its, rv, p, hz⟩ := I.list hq
    obtain ⟨u, hu, ru⟩ := rv.get hx
    obtain ⟨f0, f1, f2, f3, f4, f5⟩ := hf it (by simp)
    refine wpAny_pyNext_list_item st p.isList (x := u) (by simpa using hu) fun h' st' sb => ?_
    have I1 : Inv X pins σ H { s with heap := h' } := I.turned (t' := s.toks) (fun b o hb e => (sb.2 b hb).trans e) f0 f1 f3 f4 f5
    obtain ⟨o, e, c, d⟩ := id st'
    exact ⟨u, rfl, go_of (s := { s with heap := h' }) e c d (by decide) ⟨x, H, I1, ru, ⟨rfl, fun ys hy => by rw [I.list_inj hy hq]; exact hx⟩, st', fun b hb => (hf b hb).1⟩⟩
  done := by
    intro X hP hw hK hc i pins s σ H E I hf st hg
    subst hP hw hK
    obtain ⟨xs, hq, hx⟩ := hg
    obtain ⟨its, rv, p, hz⟩ := I.list hq
    obtain ⟨f0, f1, f2, f3, f4, f5⟩ := hf it (by simp)
    have hl := rv.length
    exact wpAny_pyNext_list_end (I.ok.hd hc) st p.isList (by simp; omega) fun h' eb => ⟨rfl, I.turned (t' := s.toks) (fun b o hb e => eb b o hb e) f0 f1 f3 f4 f5⟩
  self := fun _ _ _ _ _ st h => wpAny_pyIter_listiter st h
theorem turn_range {P : Program} {w : World} {K : PySem.W.Frag} {tg : Expr} (it : Addr) (lo : Int) (n : Nat) : Turn P w K tg (Itr lo n) [it] it (fun i h => IsRangeIter h it (lo + (i : Nat) * 1) ((n : Int) - (i : Nat)) 1) where
  mem := by simp
  obj := fun i h st b hb => by
    have e : b = it := by simpa using hb
    subst e
    exact ⟨_, st, fun v z => by
      have z' : Data.fields _ = Data.cell v := z
      cases z'⟩
  keep := fun i h h' st k => k it (by simp) _ st
  item := by
    intro X hP hw hK hc i pins s σ H E I hf st hg
    subst hP hw hK
    obtain ⟨f0, f1, f2, f3, f4, f5⟩ := hf it (by simp)
    have W := Walks.range (prog := X.prog) (w := X.w) (I.ok.hd hc) it lo 1 n
    refine W.item i s _ _ hg st fun v h' tk hv st' kk => ?_
    obtain ⟨t, rfl⟩ := hv
    have I1 : Inv X pins σ H { s with heap := h', toks := tk } := I.turned (fun b o hb e => kk b o (by simpa using hb) e) f0 f1 f3 f4 f5
    refine ⟨_, rfl, go_of (s := { s with heap := h', toks := tk }) (n := "range_iterator") st' rfl rfl (by decide) ⟨.int (lo + i), H, I1, ⟨t, ?_⟩, ⟨rfl, rfl⟩, st', fun b hb => (hf b hb).1⟩⟩
    rw [Int.mul_one]
  done := by
    intro X hP hw hK hc i pins s σ H E I hf st hg
    subst hP hw hK
    obtain ⟨f0, f1, f2, f3, f4, f5⟩ := hf it (by simp)
    exact wpAny_pyNext_range_end (I.ok.hd hc) st (by have : n ≤ i := hg; omega) fun h' eb => ⟨rfl, I.turned (t' := s.toks) (fun b o hb e => eb b o hb e) f0 f1 f3 f4 f5⟩
  self := fun _ _ _ _ _ st h => wpAny_pyIter_rangeiter st h
end L2
namespace L2
open PySem PySem.Spec PyProof.Rows
section
variable {X : Cx} {tg : Expr}
noncomputable def iList (K : PySem.W.Frag) (tl : TE) : TI := fun σ H R => tl σ H fun x H1 => ∃ a, x = .ref a ∧ (∃ xs, SqL K H1 a xs) ∧ R (Itl K a) H1
noncomputable def iTup (K : PySem.W.Frag) (tl : TE) : TI := fun σ H R => tl σ H fun x H1 => ∃ a, x = .ref a ∧ (∃ xs, SqT K H1 a xs) ∧ R (Itt K a) H1
theorem pi_list {l : Expr} {tl : TE} (hl : PE X l tl) : PI X tg l (iList X.K tl) := by
  intro pins s σ H R I h
  refine thn (hl pins s σ H _ I h) fun v s1 ⟨x, H1, I1, r1, q1⟩ => ?_
  obtain ⟨a, e, ⟨xs, hq⟩, q⟩ := q1
  subst e
  cases r1
  obtain ⟨its, rv, p, hz⟩ := I1.list hq
  refine wpAny_pyIter_list p.isList ?_
  refine ⟨s1.heap.objs.size, [s1.heap.objs.size], _, _, H1, rfl, I1.kept (t' := s1.toks) fun b o e => Heap.get?_push_of_some _ e, turn_list a _, ⟨_, Heap.get?_push_size _ rfl, rfl, rfl⟩, fun b hb => ?_, q⟩
  have e : b = s1.heap.objs.size := by simpa using hb
  subst e
  exact I1.fpOk (Nat.le_refl _) (I1.hok.fresh (Nat.le_refl _))
theorem range_it {pins : List (Addr × Obj)} {σ : St} {H : Hp} {s : Shared} {R : It → Hp → Prop} {E : Value → Shared → Prop} {lo hi : Int} {t u v : Tok} {tk : Nat} (I : Inv X pins σ H s) (h1 : -(2 ^ 62) ≤ lo) (h2 : lo < 2 ^ 62) (h3 : -(2 ^ 62) ≤ hi) (h4 : hi < 2 ^ 62)
    (q : R (Itr lo (hi - lo).toNat) H) : wpAny (model X.prog X.w) X.A (pyIter (.ref s.heap.objs.size)) (PIE X pins σ tg R) E { s with heap := s.heap.push { cls := .type "range", data := .fields #[.int lo t, .int hi u, .int 1 v] }, toks := tk } := by
  refine wpAny_pyIter_range (IsRange.new ..) (small_one h1 h2 h3 h4) ?_
  have I1 : Inv X pins σ H { s with heap := s.heap.push { cls := .type "range", data := .fields #[.int lo t, .int hi u, .int 1 v] }, toks := tk } := I.kept fun b o e => Heap.get?_push_of_some _ e
  refine ⟨(s.heap.push { cls := .type "range", data := .fields #[.int lo t, .int hi u, .int 1 v] }).objs.size, [(s.heap.push { cls := .type "range", data := .fields #[.int lo t, .int hi u, .int 1 v] }).objs.size], _, _, H, rfl,
    I1.kept (t' := tk) fun b o e => Heap.get?_push_of_some _ e, turn_range _ lo (hi - lo).toNat, ?_, fun b hb => ?_, q⟩
  · have e1 : lo + ((0 : Nat) : Int) * 1 = lo := by simp
    have e2 : (((hi - lo).toNat : Nat) : Int) - ((0 : Nat) : Int) = Builtin.Range.rangeSize lo hi 1 := by rw [rangeSize_one]; split <;> omega
    show IsRangeIter _ _ (lo + ((0 : Nat) : Int) * 1) ((((hi - lo).toNat : Nat) : Int) - ((0 : Nat) : Int)) 1
    rw [e1, e2]
    exact Heap.get?_push_size _ rfl
  · have e : b = (s.heap.push { cls := .type "range", data := .fields #[.int lo t, .int hi u, .int 1 v] }).objs.size := by simpa using hb
    subst e
    exact I1.fpOk (Nat.le_refl _) (I1.hok.fresh (Nat.le_refl _))
noncomputable def iRng1 (ta : TA) : TI := fun σ H R => ta σ H fun vs H1 => ∃ j : Int, vs = [.int j] ∧ -(2 ^ 62) ≤ j ∧ j < 2 ^ 62 ∧ R (Itr 0 j.toNat) H1
noncomputable def iRng2 (ta : TA) : TI := fun σ H R => ta σ H fun vs H1 => ∃ i j : Int, vs = [.int i, .int j] ∧ (-(2 ^ 62) ≤ i ∧ i < 2 ^ 62 ∧ -(2 ^ 62) ≤ j ∧ j < 2 ^ 62) ∧ R (Itr i (j - i).toNat) H1
theorem pi_range1 {a : Expr} {ta : TA} {p pos : Pos} (hg : Gl X "range") (hm : X.mg "range" = none) (ha : PA X [a] ta) (hs : starEach [a] X.env = [(false, eval a X.env)] := by rfl) : PI X tg (.Call (.Name "range" p) [a] [] pos) (iRng1 ta) := by
  intro pins s σ H R I h
  refine Call_ (ld_blt I hg hm boot_range (PyProof.Rows.callWith_type1 (thn (ha pos pins s σ H _ I h) fun us s1 ⟨vs, H1, I1, r1, q1⟩ => ?_) hs rfl))
  obtain ⟨j, e, q1, q2, q⟩ := q1
  subst e
  cases r1 with
  | cons r rr =>
    cases rr
    obtain ⟨t, rfl⟩ := r
    exact call_range_1 (range_it I1 (by omega) (by omega) q1 q2 (by simpa using q))
theorem pi_range2 {a b : Expr} {ta : TA} {p pos : Pos} (hg : Gl X "range") (hm : X.mg "range" = none) (ha : PA X [a, b] ta) (hs : starEach [a, b] X.env = [(false, eval a X.env), (false, eval b X.env)] := by rfl) (hs2 : starEach [b] X.env = [(false, eval b X.env)] := by rfl) :
    PI X tg (.Call (.Name "range" p) [a, b] [] pos) (iRng2 ta) := by
  intro pins s σ H R I h
  refine Call_ (ld_blt I hg hm boot_range (PyProof.Rows.callWith_type1 (thn (ha pos pins s σ H _ I h) fun us s1 ⟨vs, H1, I1, r1, q1⟩ => ?_) (by rw [hs, hs2]) (by rw [hs2]; rfl)))
  obtain ⟨i, j, e, ⟨q1, q2, q3, q4⟩, q⟩ := q1
  subst e
  cases r1 with
  | cons r rr =>
    cases rr with
    | cons r' rr =>
      cases rr
      obtain ⟨t, rfl⟩ := r
      obtain ⟨t', rfl⟩ := r'
      exact call_range_2 (range_it I1 q1 q2 q3 q4 q)
noncomputable def tFor (wi : TI) (g : TG) (tb : TS) : TS := fun D σ H => wi σ H fun J H1 => ∃ W : Nat → Nat → St → Hp → Prop, (∃ m, W 0 m σ H1) ∧ ∀ i m σ H, W i m σ H →
  (J.stop i H ∧ D.nx σ H) ∨ (J.go i H ∧ ∃ N : St → Hp → Prop, (∀ σ' H', N σ' H' → ∃ m', m' < m ∧ W (i + 1) m' σ' H') ∧ ∀ x H', J.yld i H x H' → g x σ H' fun σ2 H2 => tb { D with nx := N, ct := N, bk := D.nx } σ2 H2)
noncomputable def pinsAt (fp : List Addr) (h : Heap) : List (Addr × Obj) := fp.filterMap fun b => (h.get? b).map fun o => (b, o)
theorem mem_pinsAt {fp : List Addr} {h : Heap} {b : Addr} {o : Obj} (hb : b ∈ fp) (e : h.get? b = some o) : (b, o) ∈ pinsAt fp h := List.mem_filterMap.mpr ⟨b, hb, by rw [e]; rfl⟩
theorem of_pinsAt {fp : List Addr} {h : Heap} {p : Addr × Obj} (hp : p ∈ pinsAt fp h) : p.1 ∈ fp ∧ h.get? p.1 = some p.2 := by
  obtain ⟨b, hb, e⟩ := List.mem_filterMap.mp hp
  cases q : h.get? b with
  | none => rw [q] at e; cases e
  | some o =>
    rw [q] at e
    have e' : (b, o) = p := Option.some.inj e
    subst e'
    exact ⟨hb, q⟩
theorem Inv.pinned {pins : List (Addr × Obj)} {σ : St} {H : Hp} {s : Shared} {fp : List Addr} (I : Inv X pins σ H s) (hf : ∀ b ∈ fp, FpOk X pins H b) (ho : ∀ b ∈ fp, ∃ o, s.heap.get? b = some o ∧ ∀ v, o.data ≠ .cell v) : Inv X (pins ++ pinsAt fp s.heap) σ H s :=
  I.pins_of fun p hp => (List.mem_append.mp hp).elim (fun z => I.pin p (List.mem_append_right _ z)) fun z => by
    obtain ⟨hb, e⟩ := of_pinsAt z
    obtain ⟨f0, f1, f2, _⟩ := hf p.1 hb
    obtain ⟨o, e', d⟩ := ho p.1 hb
    rw [e] at e'; cases e'
    exact ⟨e, f0, f1, f2, d⟩
theorem Inv.unpinned {pins pl : List (Addr × Obj)} {σ : St} {H : Hp} {s : Shared} (I : Inv X (pins ++ pl) σ H s) : Inv X pins σ H s := I.pins_of fun p hp => I.pin p (List.mem_append_right _ (List.mem_append_left _ hp))
theorem ps_for {iter : Expr} {body : List Stmt} {wi : TI} {g : TG} {tb : TS} {pos : Pos} (hp : PassesOwn (model X.prog X.w) X.A X.env X.xe) (hc : X.calm = true) (hi : PI X tg iter wi) (hg : PG X tg g) (hb : PSs X body tb)
    (hs : ∀ x, foldedSetIterable iter X.env x = pure x := by intro _; rfl) : PS X (.For tg iter body [] pos) (tFor wi g tb) := by
  intro pins s σ H D I h
  refine wpAny_For (thn (hi pins s σ H _ I h) fun v s1 h1 => thn h1 fun itv s2 h2 => ?_) hs
  obtain ⟨it, fp, tn, J, H2, e, I2, T, st2, f2, W, ⟨m0, w0⟩, turn⟩ := h2
  subst e
  have stat : ∀ {H' : Hp}, (∀ b ∈ fp, H' b = none) → ∀ b ∈ fp, FpOk X pins H' b := fun hn b hb => ⟨hn b hb, (f2 b hb).2⟩
  refine codeAny_forLoop_any (fun n s' => ∃ i σ' H', Inv X pins σ' H' s' ∧ tn i s'.heap ∧ (∀ b ∈ fp, H' b = none) ∧ W i n σ' H') ?_ m0 ⟨0, σ, H2, I2, st2, fun b hb => (f2 b hb).1, w0⟩
  rintro n s3 ⟨i, σ3, H3, I3, st3, fr3, w3⟩
  rcases turn i n σ3 H3 w3 with ⟨stop, qn⟩ | ⟨go, N, hN, step⟩
  · refine wpAny_passesOwn hp (thn (T.done X rfl rfl rfl hc i pins s3 σ3 H3 X.xe I3 (stat fr3) st3 stop) fun r s4 ⟨hr, I4⟩ => ?_)
    subst hr
    exact wpAny_execs_nil ⟨σ3, H3, I4, qn⟩
  · refine wpAny_passesOwn hp (thn (T.item X rfl rfl rfl hc i pins s3 σ3 H3 X.xe I3 (stat fr3) st3 go) fun r s4 ⟨u, hr, h4⟩ => ?_)
    subst hr
    refine wpAny_passesOwn hp (thn h4 fun _ s5 ⟨x, H5, I5, r5, y5, st5, fr5⟩ => ?_)
    have I5' := I5.pinned (stat fr5) (T.obj _ _ st5)
    refine wpAny_passesOwn hp (thn (hg _ s5 σ3 H5 x u _ I5' r5 (step x H5 y5)) fun _ s6 ⟨σ6, H6, I6, q6⟩ => ?_)
    refine wpAny_passesOwn hp (thn (hb _ s6 σ6 H6 _ I6 q6) fun f s7 q7 => ?_)
    have again : ∀ {σ7 : St} {H7 : Hp}, Inv X (pins ++ pinsAt fp s5.heap) σ7 H7 s7 → N σ7 H7 → ∃ m, m < n ∧ ∃ i σ' H', Inv X pins σ' H' s7 ∧ tn i s7.heap ∧ (∀ b ∈ fp, H' b = none) ∧ W i m σ' H' := fun {σ7 H7} I7 n7 => by
      obtain ⟨m', hm, w7⟩ := hN σ7 H7 n7
      refine ⟨m', hm, i + 1, σ7, H7, I7.unpinned, T.keep _ _ _ st5 fun b hb o e => (I7.pin (b, o) (List.mem_append_right _ (List.mem_append_right _ (mem_pinsAt hb e)))).1, fun b hb => ?_, w7⟩
      obtain ⟨o, e, d⟩ := T.obj _ _ st5 b hb
      exact (I7.pin (b, o) (List.mem_append_right _ (List.mem_append_right _ (mem_pinsAt hb e)))).2.1
    cases f with
    | next => obtain ⟨σ7, H7, I7, n7⟩ := q7; exact again I7 n7
    | cont => obtain ⟨σ7, H7, I7, n7⟩ := q7; exact again I7 n7
    | brk => obtain ⟨σ7, H7, I7, q7⟩ := q7; exact ⟨σ7, H7, I7.unpinned, q7⟩
    | ret v => obtain ⟨x7, σ7, H7, I7, r7, q7⟩ := q7; exact ⟨x7, σ7, H7, I7.unpinned, r7, q7⟩
end
theorem while_by {c : TT} {tb : TS} {D : Ends} {σ : St} {H : Hp} (Pv : St → Hp → Prop) (μ : St → Hp → Nat) (h0 : Pv σ H)
    (hs : ∀ σ H, Pv σ H → c σ H fun b H1 => if b = true then tb { D with nx := fun σ' H' => Pv σ' H' ∧ μ σ' H' < μ σ H, ct := fun σ' H' => Pv σ' H' ∧ μ σ' H' < μ σ H, bk := D.nx } σ H1 else D.nx σ H1)
    (mono : ∀ σ H Q Q', (∀ b H1, Q b H1 → Q' b H1) → c σ H Q → c σ H Q') : tWhile c tb D σ H := by
  refine ⟨fun m σ H => m = μ σ H ∧ Pv σ H, ⟨_, rfl, h0⟩, ?_⟩
  rintro m σ H ⟨rfl, p⟩
  refine mono σ H _ _ (fun b H1 q => ?_) (hs σ H p)
  cases b with
  | true => exact ⟨_, fun σ' H' ⟨p', l⟩ => ⟨_, l, rfl, p'⟩, q⟩
  | false => exact q
end L2
namespace L2
open PySem PySem.Spec PyProof.Rows
abbrev R2 := V → V → Hp → VK → Prop
noncomputable def OpR (X : Cx) (f : Value → Value → Sem Value) (r : R2) : Prop :=
  ∀ (pins : List (Addr × Obj)) (s : Shared) (σ : St) (H : Hp) (x y : V) (v u : Value) (Q : VK), Inv X pins σ H s → RelV x v → RelV y u → r x y H Q →
    wpAny (model X.prog X.w) X.A (f v u) (EP X pins σ Q) X.xe s
noncomputable def UnR (X : Cx) (f : Value → Sem Value) (r : V → Hp → VK → Prop) : Prop :=
  ∀ (pins : List (Addr × Obj)) (s : Shared) (σ : St) (H : Hp) (x : V) (v : Value) (Q : VK), Inv X pins σ H s → RelV x v → r x H Q →
    wpAny (model X.prog X.w) X.A (f v) (EP X pins σ Q) X.xe s
noncomputable def CallR (X : Cx) (f : Value) (r : List V → Hp → VK → Prop) : Prop :=
  ∀ (pins : List (Addr × Obj)) (s : Shared) (σ : St) (H : Hp) (xs : List V) (us : List Value) (Q : VK), Inv X pins σ H s → Vals xs us → r xs H Q →
    wpAny (model X.prog X.w) X.A (call f us) (EP X pins σ Q) X.xe s
noncomputable def tOp (r : R2) (ta tb : TE) : TE := fun σ H Q => ta σ H fun x H1 => tb σ H1 fun y H2 => r x y H2 Q
noncomputable def tUn (r : V → Hp → VK → Prop) (ta : TE) : TE := fun σ H Q => ta σ H fun x H1 => r x H1 Q
noncomputable def rI (C : Int → Int → Prop) (g : Int → Int → V) : R2 := fun x y H Q => ∃ i j, x = .int i ∧ y = .int j ∧ C i j ∧ Q (g i j) H
noncomputable def rI0 (g : Int → Int → V) : R2 := fun x y H Q => ∃ i j, x = .int i ∧ y = .int j ∧ Q (g i j) H
noncomputable def rU (g : Int → V) : V → Hp → VK → Prop := fun x H Q => ∃ i, x = .int i ∧ Q (g i) H
section
variable {X : Cx} {a b c : Expr} {ta tb tc : TE} {pos : Pos}
theorem binT (ha : PE X a ta) (hb : PE X b tb) {pins : List (Addr × Obj)} {s : Shared} {σ : St} {H : Hp} {R : V → V → Hp → Prop} (I : Inv X pins σ H s)
    (h : ta σ H fun x H1 => tb σ H1 fun y H2 => R x y H2) {Q : Value → Shared → Prop} {f : Value → Value → Sem Value}
    (hf : ∀ v u s2 x y H2, Inv X pins σ H2 s2 → RelV x v → RelV y u → R x y H2 → wpAny (model X.prog X.w) X.A (f v u) Q X.xe s2) :
    wpAny (model X.prog X.w) X.A (eval a X.env) (fun v s₁ => wpAny (model X.prog X.w) X.A (eval b X.env) (fun u s₂ => wpAny (model X.prog X.w) X.A (f v u) Q X.xe s₂) X.xe s₁) X.xe s := by
  refine thn (ha pins s σ H _ I h) fun v s1 ⟨x, H1, I1, r1, q1⟩ => ?_
  refine thn (hb pins s1 σ H1 _ I1 q1) fun u s2 ⟨y, H2, I2, r2, q2⟩ => ?_
  exact hf v u s2 x y H2 I2 r1 r2 q2
theorem pe_op {op : Operator} {r : R2} (ho : OpR X (binaryOp op) r) (ha : PE X a ta) (hb : PE X b tb) : PE X (.BinOp a op b pos) (tOp r ta tb) := by
  intro pins s σ H Q I h
  exact wpAny_BinOp (binT ha hb I h fun v u s2 x y H2 I2 rx ry q => ho pins s2 σ H2 x y v u Q I2 rx ry q)
theorem pe_un {op : UnaryOp} {r : V → Hp → VK → Prop} (ho : UnR X (unaryOp op) r) (ha : PE X a ta) : PE X (.UnaryOp op a pos) (tUn r ta) := by
  intro pins s σ H Q I h
  exact UnaryOp_ (thn (ha pins s σ H _ I h) fun v s1 ⟨x, H1, I1, r1, q1⟩ => ho pins s1 σ H1 x v Q I1 r1 q1)
theorem opI {f : Value → Value → Sem Value} {C : Int → Int → Prop} {g : Int → Int → Int}
    (rule : ∀ (i j : Int) (t u : Tok) (s : Shared) (Q : Value → Shared → Prop) (E : Value → Shared → Prop), C i j → Q (.int (g i j) s.toks) { s with toks := s.toks + 1 } → wpAny (model X.prog X.w) X.A (f (.int i t) (.int j u)) Q E s) :
    OpR X f (rI C fun i j => .int (g i j)) := by
  intro pins s σ H x y v u Q I rx ry h
  obtain ⟨i, j, rfl, rfl, hc, q⟩ := h
  obtain ⟨t, rfl⟩ := rx
  obtain ⟨t', rfl⟩ := ry
  exact rule i j t t' s _ _ hc ⟨.int (g i j), H, I.tok _, ⟨_, rfl⟩, q⟩
theorem opI0 {f : Value → Value → Sem Value} {g : Int → Int → Int}
    (rule : ∀ (i j : Int) (t u : Tok) (s : Shared) (Q : Value → Shared → Prop) (E : Value → Shared → Prop), Q (.int (g i j) s.toks) { s with toks := s.toks + 1 } → wpAny (model X.prog X.w) X.A (f (.int i t) (.int j u)) Q E s) :
    OpR X f (rI0 fun i j => .int (g i j)) := by
  intro pins s σ H x y v u Q I rx ry h
  obtain ⟨i, j, rfl, rfl, q⟩ := h
  obtain ⟨t, rfl⟩ := rx
  obtain ⟨t', rfl⟩ := ry
  exact rule i j t t' s _ _ ⟨.int (g i j), H, I.tok _, ⟨_, rfl⟩, q⟩
theorem opB0 {f : Value → Value → Sem Value} {g : Int → Int → Bool}
    (rule : ∀ (i j : Int) (t u : Tok) (s : Shared) (Q : Value → Shared → Prop) (E : Value → Shared → Prop), Q (.bool (g i j)) s → wpAny (model X.prog X.w) X.A (f (.int i t) (.int j u)) Q E s) :
    OpR X f (rI0 fun i j => .bl (g i j)) := by
  intro pins s σ H x y v u Q I rx ry h
  obtain ⟨i, j, rfl, rfl, q⟩ := h
  obtain ⟨t, rfl⟩ := rx
  obtain ⟨t', rfl⟩ := ry
  exact rule i j t t' s _ _ ⟨.bl (g i j), H, I, rfl, q⟩
noncomputable def CPow (i j : Int) : Prop := 0 ≤ j ∧ j ≤ 1000000 ∧ i.natAbs < 2 ^ 64
theorem op_add : OpR X (binaryOp .Add) (rI0 fun i j => .int (i + j)) := opI0 fun _ _ _ _ _ _ _ q => add_int q
theorem op_sub : OpR X (binaryOp .Sub) (rI0 fun i j => .int (i - j)) := opI0 fun _ _ _ _ _ _ _ q => sub_int q
theorem op_mod : OpR X (binaryOp .Mod) (rI (fun _ j => 0 < j) fun i j => .int (i % j)) := opI fun i j _ _ _ _ _ hc q => by
  have h1 : (0 : Int) < j := hc
  exact mod_int' (by omega) (by rw [Int.fmod_eq_emod_of_nonneg i (by omega)]; exact q)
theorem unI {f : Value → Sem Value} {g : Int → Int}
    (rule : ∀ (i : Int) (t : Tok) (s : Shared) (Q : Value → Shared → Prop) (E : Value → Shared → Prop), Q (.int (g i) s.toks) { s with toks := s.toks + 1 } → wpAny (model X.prog X.w) X.A (f (.int i t)) Q E s) :
    UnR X f (rU fun i => .int (g i)) := by
  intro pins s σ H x v Q I rx h
  obtain ⟨i, rfl, q⟩ := h
  obtain ⟨t, rfl⟩ := rx
  exact rule i t s _ _ ⟨.int (g i), H, I.tok _, ⟨_, rfl⟩, q⟩
theorem un_neg : UnR X (unaryOp .USub) (rU fun i => .int (-i)) := unI fun _ _ _ _ _ q => neg_int q
end
noncomputable def scal : V → V → Bool
  | .non, .non => true | .non, .int _ => true | .int _, .non => true | .non, .bl _ => true | .bl _, .non => true | .non, .str _ => true | .str _, .non => true
  | .int _, .int _ => true | .bl _, .bl _ => true | .str _, .str _ => true | .byt _, .byt _ => true
  | .int _, .str _ => true | .str _, .int _ => true | .bl _, .str _ => true | .str _, .bl _ => true
  | _, _ => false
noncomputable def rEq : R2 := fun x y H Q => scal x y = true ∧ Q (.bl (decide (x = y))) H
noncomputable def rNe : R2 := fun x y H Q => scal x y = true ∧ Q (.bl (!decide (x = y))) H
theorem dec_int {i j : Int} : decide (V.int i = V.int j) = (i == j) := by
  rw [Bool.eq_iff_iff]
  simp
theorem dec_bl {i j : Bool} : decide (V.bl i = V.bl j) = (i == j) := by
  rw [Bool.eq_iff_iff]
  simp
theorem dec_str {i j : Str} : decide (V.str i = V.str j) = (i == j) := by
  rw [Bool.eq_iff_iff]
  simp
theorem dec_byt {i j : Array UInt8} : decide (V.byt i = V.byt j) = (i.toList == j.toList) := by
  rw [Bool.eq_iff_iff]
  cases i
  cases j
  simp
section
variable {X : Cx} {a b c : Expr} {ta tb tc : TE} {pos : Pos}
theorem fin_bl {pins : List (Addr × Obj)} {σ : St} {H : Hp} {s : Shared} {Q : VK} {k k' : Bool} (I : Inv X pins σ H s) (q : Q (.bl k) H) (e : k = k') : EP X pins σ Q (.bool k') s := by
  subst e
  exact ⟨.bl k, H, I, rfl, q⟩
theorem op_eq : OpR X (compareOp .Eq) rEq := by
  intro pins s σ H x y v u Q I rx ry h
  obtain ⟨hs, q⟩ := h
  cases x with
  | non =>
    cases rx
    cases y with
    | non => cases ry; exact PySem.EqNone.eq_none_none (fin_bl I q (by simp))
    | bl j => cases ry; exact PySem.EqNone.eq_none_bool (fin_bl I q (by simp))
    | int j => obtain ⟨t', rfl⟩ := ry; exact PySem.EqNone.eq_none_int (fin_bl I q (by simp))
    | str j => obtain ⟨t', rfl⟩ := ry; exact PySem.EqNone.eq_none_str (fin_bl I q (by simp))
    | _ => exact absurd (show false = true from hs) Bool.false_ne_true
  | bl i =>
    cases rx
    cases y with
    | non => cases ry; exact PySem.EqNone.eq_bool_none (fin_bl I q (by simp))
    | bl j => cases ry; exact eq_bool (fin_bl I q dec_bl)
    | str j => obtain ⟨t', rfl⟩ := ry; exact PySem.EqMixed.eq_bool_str (fin_bl I q (by simp))
    | _ => exact absurd (show false = true from hs) Bool.false_ne_true
  | int i =>
    obtain ⟨t, rfl⟩ := rx
    cases y with
    | non => cases ry; exact PySem.EqNone.eq_int_none (fin_bl I q (by simp))
    | int j => obtain ⟨t', rfl⟩ := ry; exact eq_int (fin_bl I q dec_int)
    | str j => obtain ⟨t', rfl⟩ := ry; exact PySem.EqMixed.eq_int_str (fin_bl I q (by simp))
    | _ => exact absurd (show false = true from hs) Bool.false_ne_true
  | str i =>
    obtain ⟨t, rfl⟩ := rx
    cases y with
    | non => cases ry; exact PySem.EqNone.eq_str_none (fin_bl I q (by simp))
    | bl j => cases ry; exact PySem.EqMixed.eq_str_bool (fin_bl I q (by simp))
    | int j => obtain ⟨t', rfl⟩ := ry; exact PySem.EqMixed.eq_str_int (fin_bl I q (by simp))
    | str j => obtain ⟨t', rfl⟩ := ry; exact eq_str (fin_bl I q dec_str)
    | _ => exact absurd (show false = true from hs) Bool.false_ne_true
  | byt i =>
    obtain ⟨t, rfl⟩ := rx
    cases y with
    | byt j => obtain ⟨t', rfl⟩ := ry; exact PySem.W.eq_bytes (fin_bl I q dec_byt)
    | _ => exact absurd (show false = true from hs) Bool.false_ne_true
  | _ => cases y <;> exact absurd (show false = true from hs) Bool.false_ne_true
theorem op_ne : OpR X (compareOp .NotEq) rNe := by
  intro pins s σ H x y v u Q I rx ry h
  obtain ⟨hs, q⟩ := h
  cases x with
  | non =>
    cases rx
    cases y with
    | non => cases ry; exact PySem.EqNone.ne_none_none (fin_bl I q (by simp))
    | bl j => cases ry; exact PySem.EqNone.ne_none_bool (fin_bl I q (by simp))
    | int j => obtain ⟨t', rfl⟩ := ry; exact PySem.EqNone.ne_none_int (fin_bl I q (by simp))
    | str j => obtain ⟨t', rfl⟩ := ry; exact PySem.EqNone.ne_none_str (fin_bl I q (by simp))
    | _ => exact absurd (show false = true from hs) Bool.false_ne_true
  | bl i =>
    cases rx
    cases y with
    | non => cases ry; exact PySem.EqNone.ne_bool_none (fin_bl I q (by simp))
    | bl j => cases ry; exact ne_bool (fin_bl I q (congrArg not dec_bl))
    | str j => obtain ⟨t', rfl⟩ := ry; exact PySem.EqMixed.ne_bool_str (fin_bl I q (by simp))
    | _ => exact absurd (show false = true from hs) Bool.false_ne_true
  | int i =>
    obtain ⟨t, rfl⟩ := rx
    cases y with
    | non => cases ry; exact PySem.EqNone.ne_int_none (fin_bl I q (by simp))
    | int j => obtain ⟨t', rfl⟩ := ry; exact ne_int (fin_bl I q (congrArg not dec_int))
    | str j => obtain ⟨t', rfl⟩ := ry; exact PySem.EqMixed.ne_int_str (fin_bl I q (by simp))
    | _ => exact absurd (show false = true from hs) Bool.false_ne_true
  | str i =>
    obtain ⟨t, rfl⟩ := rx
    cases y with
    | non => cases ry; exact PySem.EqNone.ne_str_none (fin_bl I q (by simp))
    | bl j => cases ry; exact PySem.EqMixed.ne_str_bool (fin_bl I q (by simp))
    | int j => obtain ⟨t', rfl⟩ := ry; exact PySem.EqMixed.ne_str_int (fin_bl I q (by simp))
    | str j => obtain ⟨t', rfl⟩ := ry; exact ne_str (fin_bl I q (congrArg not dec_str))
    | _ => exact absurd (show false = true from hs) Bool.false_ne_true
  | byt i =>
    obtain ⟨t, rfl⟩ := rx
    cases y with
    | byt j => obtain ⟨t', rfl⟩ := ry; exact PySem.W.ne_bytes (fin_bl I q (congrArg not dec_byt))
    | _ => exact absurd (show false = true from hs) Bool.false_ne_true
  | _ => cases y <;> exact absurd (show false = true from hs) Bool.false_ne_true
theorem op_lt : OpR X (compareOp .Lt) (rI0 fun i j => .bl (decide (i < j))) := opB0 fun _ _ _ _ _ _ _ q => lt_int q
theorem op_le : OpR X (compareOp .LtE) (rI0 fun i j => .bl (decide (i ≤ j))) := opB0 fun _ _ _ _ _ _ _ q => le_int q
theorem op_gt : OpR X (compareOp .Gt) (rI0 fun i j => .bl (decide (j < i))) := opB0 fun _ _ _ _ _ _ _ q => gt_int q
theorem op_ge : OpR X (compareOp .GtE) (rI0 fun i j => .bl (decide (j ≤ i))) := opB0 fun _ _ _ _ _ _ _ q => ge_int q
theorem op_in_str : OpR X (compareOp .In) (fun x y H Q => ∃ i j, x = .str i ∧ y = .str j ∧ Q (.bl (!(Builtin.Str.occurrences j i 0 j.length 1).isEmpty)) H) := by
  intro pins s σ H x y v u Q I rx ry h
  obtain ⟨i, j, rfl, rfl, q⟩ := h
  obtain ⟨t, rfl⟩ := rx
  obtain ⟨t', rfl⟩ := ry
  exact in_str (fin_bl I q rfl)
theorem op_isN : OpR X (compareOp .Is) (fun x y H Q => y = .non ∧ Q (.bl (decide (x = .non))) H) := by
  intro pins s σ H x y v u Q I rx ry h
  obtain ⟨rfl, q⟩ := h
  cases ry
  refine is_none_gen (fin_bl I q ?_)
  cases x <;> first
    | (cases rx; rfl)
    | (obtain ⟨t, rfl⟩ := rx; rfl)
theorem nomark (b : Expr) {op : CmpOp} (h : op ≠ .In := by decide) (h2 : op ≠ .NotIn := by decide) : behindInMarks op b = false := by
  have e1 : (op == CmpOp.In) = false := by cases op <;> first | rfl | exact absurd rfl h
  have e2 : (op == CmpOp.NotIn) = false := by cases op <;> first | rfl | exact absurd rfl h2
  cases b <;> simp [behindInMarks, e1, e2]
theorem pe_cmpR {op : CmpOp} {r : R2} (ho : OpR X (compareOp op) r) (ha : PE X a ta) (hb : PE X b tb) (hm : behindInMarks op b = false) : PE X (.Compare a [op] [b] pos) (tOp r ta tb) := by
  intro pins s σ H Q I h
  exact wpAny_Compare1 (binT ha hb I h fun v u s2 x y H2 I2 rx ry q => ho pins s2 σ H2 x y v u Q I2 rx ry q) hm
noncomputable def tTest (t : TE) : TT := fun σ H Q => t σ H fun x H' => ∃ k, x = .bl k ∧ Q k H'
theorem pt_cmpR {op : CmpOp} {r : R2} (ho : OpR X (compareOp op) r) (ha : PE X a ta) (hb : PE X b tb) (hm : behindInMarks op b = false) : PT X (.Compare a [op] [b] pos) (tTest (tOp r ta tb)) := by
  intro pins s σ H Q I h
  refine wpAny_isTrue_Compare1 (thn (ha pins s σ H _ I h) fun v s1 ⟨x, H1, I1, r1, q1⟩ => thn (hb pins s1 σ H1 _ I1 q1) fun u s2 ⟨y, H2, I2, r2, q2⟩ =>
    thn (ho pins s2 σ H2 x y v u _ I2 r1 r2 q2) fun c s3 ⟨z, H3, I3, r3, k, e, q3⟩ => ?_) hm
  subst e
  cases r3
  exact wpAny_truthy_bool ⟨H3, I3, q3⟩
noncomputable def tChain (r r' : R2) (ta tb tc : TE) : TE := fun σ H Q => ta σ H fun x H1 => tb σ H1 fun y H2 => r x y H2 fun z H3 => ∃ k, z = .bl k ∧
  (if k = true then tc σ H3 fun w' H4 => r' y w' H4 Q else Q (.bl false) H3)
theorem pe_chain {op op' : CmpOp} {r r' : R2} (ho : OpR X (compareOp op) r) (ho' : OpR X (compareOp op') r') (ha : PE X a ta) (hb : PE X b tb) (hc : PE X c tc)
    (hm : lastMarks [op, op'] [b, c] = false := by with_unfolding_all rfl) : PE X (.Compare a [op, op'] [b, c] pos) (tChain r r' ta tb tc) := by
  intro pins s σ H Q I h
  refine Compare_chain (thn (ha pins s σ H _ I h) fun v s1 ⟨x, H1, I1, r1, q1⟩ => chain_link (thn (hb pins s1 σ H1 _ I1 q1) fun u s2 ⟨y, H2, I2, r2, q2⟩ =>
    thn (ho pins s2 σ H2 x y v u _ I2 r1 r2 q2) fun d s3 ⟨z, H3, I3, r3, k, e, q3⟩ => ?_)) hm
  subst e
  cases r3
  refine wpAny_truthy_bool ?_
  cases k with
  | false => exact ite_ff ⟨.bl false, H3, I3, rfl, q3⟩
  | true => exact ite_tt (chain_last (thn (hc pins s3 σ H3 _ I3 q3) fun w' s4 ⟨z', H4, I4, r4, q4⟩ => ho' pins s4 σ H4 y z' u w' Q I4 r2 r4 q4))
theorem pt_chain {op op' : CmpOp} {r r' : R2} (ho : OpR X (compareOp op) r) (ho' : OpR X (compareOp op') r') (ha : PE X a ta) (hb : PE X b tb) (hc : PE X c tc)
    (hm : lastMarks [op, op'] [b, c] = false := by with_unfolding_all rfl) : PT X (.Compare a [op, op'] [b, c] pos) (tTest (tChain r r' ta tb tc)) := by
  intro pins s σ H Q I h
  refine isTrue_chain (thn (ha pins s σ H _ I h) fun v s1 ⟨x, H1, I1, r1, q1⟩ => test_link (thn (hb pins s1 σ H1 _ I1 q1) fun u s2 ⟨y, H2, I2, r2, q2⟩ =>
    thn (ho pins s2 σ H2 x y v u _ I2 r1 r2 q2) fun d s3 ⟨z, H3, I3, r3, k, e, q3⟩ => ?_)) hm
  subst e
  cases r3
  refine wpAny_truthy_bool ?_
  cases k with
  | false =>
    obtain ⟨k', e', q'⟩ := q3
    cases e'
    exact ite_ff ⟨H3, I3, q'⟩
  | true =>
    refine ite_tt (test_last (thn (hc pins s3 σ H3 _ I3 q3) fun w' s4 ⟨z', H4, I4, r4, q4⟩ => thn (ho' pins s4 σ H4 y z' u w' _ I4 r2 r4 q4) fun d' s5 ⟨z2, H5, I5, r5, k2, e2, q5⟩ => ?_))
    subst e2
    cases r5
    exact wpAny_truthy_bool ⟨H5, I5, q5⟩
theorem line63 : (sizeLine : Nat) < 2 ^ 63 := by rw [sizeLine_eq]; decide
theorem vals1 {x : V} {us : List Value} (r : Vals [x] us) : ∃ u, us = [u] ∧ RelV x u := by
  cases r with
  | cons r1 r2 => cases r2; exact ⟨_, rfl, r1⟩
theorem vals2 {x y : V} {us : List Value} (r : Vals [x, y] us) : ∃ u w', us = [u, w'] ∧ RelV x u ∧ RelV y w' := by
  cases r with
  | cons r1 r2 =>
    cases r2 with
    | cons r3 r4 => cases r4; exact ⟨_, _, rfl, r1, r3⟩
theorem call_abs : CallR X (.builtin "abs") (fun xs H Q => ∃ i, xs = [.int i] ∧ Q (.int (if i < 0 then -i else i)) H) := by
  intro pins s σ H xs us Q I r h
  obtain ⟨i, rfl, q⟩ := h
  obtain ⟨u, rfl, t, rfl⟩ := vals1 r
  exact call_abs_int fun u tk => ⟨.int (if i < 0 then -i else i), H, I.tok _, ⟨_, rfl⟩, q⟩
theorem call_max2 (hc : X.calm = true) : CallR X (.builtin "max") (fun xs H Q => ∃ i j, xs = [.int i, .int j] ∧ Q (.int (if j > i then j else i)) H) := by
  intro pins s σ H xs us Q I r h
  obtain ⟨i, j, rfl, q⟩ := h
  obtain ⟨u, w', rfl, ⟨t, rfl⟩, ⟨t', rfl⟩⟩ := vals2 r
  refine max_two_ints (I.ok.hd hc) fun h' tk k => ⟨_, H, I.kept k, ?_, q⟩
  by_cases hj : j > i
  · rw [if_pos hj, if_pos hj]; exact ⟨_, rfl⟩
  · rw [if_neg hj, if_neg hj]; exact ⟨_, rfl⟩
theorem call_min2 (hc : X.calm = true) : CallR X (.builtin "min") (fun xs H Q => ∃ i j, xs = [.int i, .int j] ∧ Q (.int (if j < i then j else i)) H) := by
  intro pins s σ H xs us Q I r h
  obtain ⟨i, j, rfl, q⟩ := h
  obtain ⟨u, w', rfl, ⟨t, rfl⟩, ⟨t', rfl⟩⟩ := vals2 r
  refine min_two_ints (I.ok.hd hc) fun h' tk k => ⟨_, H, I.kept k, ?_, q⟩
  by_cases hj : j < i
  · rw [if_pos hj, if_pos hj]; exact ⟨_, rfl⟩
  · rw [if_neg hj, if_neg hj]; exact ⟨_, rfl⟩
theorem call_int1 : CallR X (.type "int") (fun xs H Q => (∃ i, xs = [.int i] ∧ Q (.int i) H) ∨ ∃ k, xs = [.bl k] ∧ Q (.int (if k then 1 else 0)) H) := by
  intro pins s σ H xs us Q I r h
  rcases h with ⟨i, rfl, q⟩ | ⟨k, rfl, q⟩
  · obtain ⟨u, rfl, t, rfl⟩ := vals1 r
    exact call_int_int ⟨.int i, H, I, ⟨_, rfl⟩, q⟩
  · obtain ⟨u, rfl, r1⟩ := vals1 r
    cases r1
    exact call_int_bool ⟨.int (if k then 1 else 0), H, I.tok _, ⟨_, rfl⟩, q⟩
theorem call_str_int : CallR X (.type "str") (fun xs H Q => ∃ i, xs = [.int i] ∧ i.natAbs.log2 < 1920 ∧ Q (.str (toString i)) H) := by
  intro pins s σ H xs us Q I r h
  obtain ⟨i, rfl, hz, q⟩ := h
  obtain ⟨u, rfl, t, rfl⟩ := vals1 r
  exact PySem.P.str_of_int hz ⟨.str _, H, I.tok _, ⟨_, rfl⟩, q⟩
end
end L2
namespace L2
open PySem PySem.Spec PyProof.Rows
structure ObjM (h : Heap) (x dx C : Addr) (mA : Str → Option Value) : Prop where
  obj : h.get? x = some (PySem.W.instObj C dx)
  ns : h.Ns1 dx mA
  ne : dx ≠ x
theorem lookIn_ns {h : Heap} {dx : Addr} {mA : Str → Option Value} (n : h.Ns1 dx mA) : ∃ od, h.get? dx = some od ∧ ∀ name, PySem.W.lookIn name od = some (mA name) := by
  obtain ⟨o, es, ep, ho, hd, hk, _, hm⟩ := n
  refine ⟨o, ho, fun name => ?_⟩
  have e := hm name
  unfold nsFind findBy at e
  rw [← Array.find?_toList] at e
  unfold PySem.W.lookIn
  rw [hd]
  dsimp only
  split
  · rename_i y q
    rw [q] at e
    exact congrArg some e
  · rename_i q
    rw [q] at e
    have a : es.toList.any (·.refKey) = false := by
      rw [List.any_eq_false]
      intro y hy
      obtain ⟨z, t, hkey⟩ := hk y (Array.mem_toList_iff.mp hy)
      simp [DictEntry.refKey, hkey]
    have a' : ¬ es.toList.any (·.refKey) = true := by rw [a]; exact Bool.false_ne_true
    rw [if_neg a']
    exact congrArg some e
theorem ObjM.look {h : Heap} {x dx C : Addr} {mA : Str → Option Value} (I : ObjM h x dx C mA) : ∃ od, PySem.W.InstAt h x (PySem.W.instObj C dx) C (some od) ∧ ∀ name, PySem.W.lookIn name od = some (mA name) :=
  let ⟨od, ho, hl⟩ := lookIn_ns I.ns
  ⟨od, ⟨I.obj, rfl, rfl, ho⟩, hl⟩
section
variable {prog : Program} {w : World} {A : Around} {E : Value → Shared → Prop} {s : Shared} {K : PySem.W.Frag} {x dx C f : Addr} {mA : Str → Option Value} {name : Str} {v : Value}
end
theorem RelO.some_of {v : V} {o : Option Value} (r : RelO (some v) o) : ∃ u, o = some u ∧ RelV v u := by
  cases o with
  | none => exact (show False from r).elim
  | some u => exact ⟨u, rfl, r⟩
section
variable {P : Program} {w : World} {H H' : Hp} {h h' : Heap} {a C dx : Addr} {fs fs' : List (Str × V)}
theorem ins_get (hok : HOk P w H h) (e : H a = some (.ins C dx fs)) : ∃ mA, ObjM h a dx C mA ∧ (∀ f, RelO (fs.lookup f) (mA f)) ∧ PySem.Within mA (fs.map (·.1)) ∧ fs.length ≤ 1000 ∧ H dx = some (.own a) := by
  obtain ⟨d, z, ne, ob, mA, n, r, q⟩ := (show ObjOk P w H h a (.ins C dx fs) from hok a _ e)
  exact ⟨mA, ⟨ob, n, ne⟩, r, q, z, d⟩
end
structure Cls (K : PySem.W.Frag) (C : Addr) : Prop where
  pg : PySem.W.plainGet K C Str.empty = true
  hd : PySem.W.hasDictIn K C = true
  po : PySem.W.plainOver K C = true
  sa : PySem.W.findIn K (.ref C) "__setattr__" = some (some (.builtin "object.__setattr__"))
theorem Cls.get {K : PySem.W.Frag} {C : Addr} (c : Cls K C) (f : Str) : PySem.W.plainGet K C f = true := c.pg
structure Con (K : PySem.W.Frag) (C : Addr) (f : Str) (v : V) (u : Value) : Prop where
  at_ : PySem.W.findIn K (.ref C) f = some (some u)
  rel : RelV v u
  get : PySem.W.specialIn K u "__get__" = some none
  cp : PySem.W.copiedNames.contains f = false
structure Meth (K : PySem.W.Frag) (C : Addr) (m : Str) (f : Addr) : Prop where
  at_ : PySem.W.findIn K (.ref C) m = some (some (.ref f))
  fn : PySem.W.isFn K (.ref f) = true
  kp : PySem.W.keepIn K (.ref f) = true
section
variable {X : Cx} {pins : List (Addr × Obj)} {σ : St} {H : Hp} {s : Shared} {a C dx : Addr} {fs : List (Str × V)} {f : Str} {v : V} {A : Around} {E : Value → Shared → Prop}
end
section
variable {X : Cx} {o e value : Expr} {f : Str} {pos pos' tpos : Pos} {ta tv : TE}
end
section
variable {X : Cx} {pins : List (Addr × Obj)} {σ : St} {H : Hp} {s : Shared} {A : Around} {E : Value → Shared → Prop} {Q : Value → Shared → Prop} {c : Value} {b : Bool}
inductive TyOf (K : PySem.W.Frag) (H : Hp) : V → Value → Prop where
  | non : TyOf K H .non (.type "NoneType")
  | bl (x : Bool) : TyOf K H (.bl x) (.type "bool")
  | int (i : Int) : TyOf K H (.int i) (.type "int")
  | str (x : Str) : TyOf K H (.str x) (.type "str")
  | flt (x : UInt64) : TyOf K H (.flt x) (.type "float")
  | lst {a : Addr} {xs : List V} (e : H a = some (.lst xs)) : TyOf K H (.ref a) (.type "list")
  | frz {a : Addr} {o : Obj} {xs : List V} (e : H a = some (.frz o (.lst xs))) : TyOf K H (.ref a) (.type "list")
  | tup {a : Addr} {xs : List V} (e : H a = some (.tup xs)) : TyOf K H (.ref a) (.type "tuple")
  | dK {a : Addr} {kvs : List (Key × V)} (e : H a = some (.dK kvs)) : TyOf K H (.ref a) (.type "dict")
  | dT {a : Addr} {kvs : List (List Key × V)} (e : H a = some (.dT kvs)) : TyOf K H (.ref a) (.type "dict")
  | ins {a C dx : Addr} {fs : List (Str × V)} (e : H a = some (.ins C dx fs)) (cl : Cls K C) (ha : PySem.W.findIn K (.ref C) "__class__" = some (some (.builtin "object.__class__")))
      (hn : PySem.W.specialIn K (.builtin "object.__class__") "__get__" = some (some (.builtin "getset_descriptor.__get__"))) (htk : PySem.W.takesIn K (.builtin "object.__class__") = some true)
      (hm : PySem.W.mroIn K C (.type "object") = some true) : TyOf K H (.ref a) (.ref C)
theorem isinst_ok {x : V} {u t : Value} (I : Inv X pins σ H s) (rx : RelV x u) (ty : TyOf X.K H x t) (e : PySem.W.kitOne X.K t c = some b) (h : ∀ tk, Q (.bool b) { s with toks := tk }) :
    wpAny (model X.prog X.w) A (call (.builtin "isinstance") [u, c]) Q E s := by
  cases ty with
  | non => cases (show u = Value.none from rx); exact PySem.W.kia_one PySem.W.kitx_none I.kIn True.intro e (fun z => nomatch z) h
  | bl y => cases (show u = Value.bool y from rx); exact PySem.W.kia_one PySem.W.kitx_bool I.kIn True.intro e (fun z => nomatch z) h
  | int i => obtain ⟨t, q⟩ := (show ∃ t, u = Value.int i t from rx); cases q; exact PySem.W.kia_one PySem.W.kitx_int I.kIn True.intro e (fun z => nomatch z) h
  | str y => obtain ⟨t, q⟩ := (show ∃ t, u = Value.str y t from rx); cases q; exact PySem.W.kia_one PySem.W.kitx_str I.kIn True.intro e (fun z => nomatch z) h
  | flt y => obtain ⟨t, q⟩ := (show ∃ t, u = Value.float y t from rx); cases q; exact PySem.W.kia_one PySem.W.kitx_float I.kIn True.intro e (fun z => nomatch z) h
  | @lst a xs ea =>
    cases (show u = Value.ref a from rx)
    obtain ⟨_, _, n, _, h1⟩ := (show ObjOk X.prog X.w H s.heap a (.lst xs) from I.hok a _ ea)
    exact PySem.W.kia_one PySem.W.kitx_list I.kIn ⟨_, h1, rfl⟩ e (fun z => nomatch z) h
  | @frz a ob xs ea =>
    cases (show u = Value.ref a from rx)
    obtain ⟨_, _, _, n, _, h1⟩ := (show ObjOk X.prog X.w H s.heap a (.frz ob (.lst xs)) from I.hok a _ ea)
    exact PySem.W.kia_one PySem.W.kitx_list I.kIn ⟨_, h1, rfl⟩ e (fun z => nomatch z) h
  | @tup a xs ea =>
    cases (show u = Value.ref a from rx)
    obtain ⟨_, _, _, p⟩ := (show ObjOk X.prog X.w H s.heap a (.tup xs) from I.hok a _ ea)
    obtain ⟨o, h1, h2, _⟩ := p
    exact PySem.W.kia_one PySem.W.kitx_tuple I.kIn ⟨o, h1, h2⟩ e (fun z => nomatch z) h
  | @dK a kvs ea =>
    cases (show u = Value.ref a from rx)
    obtain ⟨_, _, vs, _, p⟩ := (show ObjOk X.prog X.w H s.heap a (.dK kvs) from I.hok a _ ea)
    obtain ⟨o, es, ep, h1, h2, _⟩ := p
    exact PySem.W.kia_one PySem.W.kitx_dict I.kIn ⟨o, h1, h2.1⟩ e (fun z => nomatch z) h
  | @dT a kvs ea =>
    cases (show u = Value.ref a from rx)
    obtain ⟨_, _, xs, _, o, es, ep, h1, h2, _⟩ := (show ObjOk X.prog X.w H s.heap a (.dT kvs) from I.hok a _ ea)
    exact PySem.W.kia_one PySem.W.kitx_dict I.kIn ⟨o, h1, h2.1⟩ e (fun z => nomatch z) h
  | @ins a C dx fs ea cl ha hn htk hm =>
    cases (show u = Value.ref a from rx)
    obtain ⟨mA, O, _⟩ := ins_get I.hok ea
    obtain ⟨od, J, _⟩ := O.look
    exact PySem.W.kia_one (PySem.W.kitx_own (cl.get _) cl.hd ha hn htk hm) I.kIn J e (fun z => nomatch z) h
end
end L2
namespace L2
open PySem PySem.Spec PyProof.Rows
structure Room (k : Nat) (A : Around) : Prop where
  hd : A.handled = none
  dp : A.depth + 3 * k + 5 < recursionLimit
  un : A.units + 16 * k + 200 < cLine
theorem Room.mono {j k : Nat} {A : Around} (r : Room k A) (h : j ≤ k) : Room j A := ⟨r.hd, by have := r.dp; omega, by have := r.un; omega⟩
theorem Room.deeper {k : Nat} {A : Around} (r : Room (k + 1) A) (env : Env) : Room k (A.deeper env) :=
  ⟨r.hd, by have := r.dp; show A.depth + 1 + 3 * k + 5 < _; omega, by have := r.un; show A.units + 3 + 16 * k + 200 < _; omega⟩
theorem Room.depth {k : Nat} {A : Around} (r : Room k A) : A.depth < recursionLimit := by have := r.dp; omega
theorem Room.units {k : Nat} {A : Around} (r : Room k A) : A.units + 64 < cLine := by have := r.un; omega
noncomputable def tNil : TA := fun _ H Q => Q [] H
noncomputable def tCons (ta : TE) (tr : TA) : TA := fun σ H Q => ta σ H fun x H1 => tr σ H1 fun xs H2 => Q (x :: xs) H2
section
variable {X : Cx} {e : Expr} {es : List Expr} {te : TE} {t : TA} {pos : Pos}
theorem pa_nil : PA X [] tNil := fun _ _ _ _ H Q I h => Calls.spliced_nil ⟨[], H, I, .nil, h⟩
theorem pa_cons (ha : PE X e te) (hr : PA X es t) (hs : starEach (e :: es) X.env = (false, eval e X.env) :: starEach es X.env := by rfl) : PA X (e :: es) (tCons te t) := by
  intro pos pins s σ H Q I h
  rw [hs]
  show wpAny _ _ (spliced ((false, eval e X.env) :: backTo pos (starEach es X.env))) _ _ s
  refine Calls.spliced_cons (thn (ha pins s σ H _ I h) fun u s1 ⟨x, H1, I1, r1, q1⟩ => ?_)
  exact thn (hr pos pins s1 σ H1 _ I1 q1) fun us s2 ⟨xs, H2, I2, r2, q2⟩ => ⟨x :: xs, H2, I2, .cons r1 r2, q2⟩
noncomputable def tLst (t : TA) : TE := fun σ H Q => t σ H fun xs H1 => xs.length ≤ sizeLine ∧ ∀ p, H1 p = none → Q (.ref p) (upd H1 p (.lst xs))
theorem pe_lst (h : PA X es t) : PE X (.List es pos) (tLst t) := by
  intro pins s σ H Q I hq
  refine wpAny_List_spliced (thn (h pos pins s σ H _ I hq) fun us s1 ⟨xs, H1, I1, r, z, q⟩ => ⟨by rw [← r.length]; exact z, ?_⟩)
  have hf : H1 s1.heap.objs.size = none := I1.hok.fresh (Nat.le_refl _)
  refine ⟨.ref s1.heap.objs.size, upd H1 s1.heap.objs.size (.lst xs), I1.laid (t' := s1.toks) (fun b u e => Heap.get?_push_of_some _ e) (Nat.le_refl _) ?_, rfl, q _ hf⟩
  exact ⟨z, us, 0, r, Heap.get?_push_size _ rfl⟩
end
abbrev Sp := List V → Hp → VK → XK → Prop
abbrev CXT := List Env → Hp → Shared → XK → Value → Shared → Prop
structure Env0 (P : Program) (w : World) (K : PySem.W.Frag) (mg : Str → Option Value) (base : Heap) (A : Around) (outer : List Env) (s : Shared) (H : Hp) : Prop where
  frames : A.frames = some outer
  mod : Mod K mg base
  bs : ∀ b o, base.get? b = some o → s.heap.get? b = some o ∧ H b = none
  bsz : base.objs.size ≤ s.heap.objs.size
  funs : s.heap.FunFrames base outer
  frf : ∀ b ∈ frs outer, H b = none
  hok : HOk P w H s.heap
  bare : AllBare s.gens
noncomputable def CE (outer : List Env) (P : Program) (w : World) (H : Hp) (s : Shared) (Q : VK) (u : Value) (s' : Shared) : Prop :=
  ∃ v H', s'.os = s.os ∧ AllBare s'.gens ∧ Un (frs outer) [] H H' s.heap s'.heap ∧ HOk P w H' s'.heap ∧ RelV v u ∧ Q v H'
noncomputable def CR (CX : CXT) (outer : List Env) (P : Program) (w : World) (H : Hp) (s : Shared) (Q : VK) (E : XK) (r : Result) (s' : Shared) : Prop :=
  match r with
  | .ok (.ret u) => CE outer P w H s Q u s'
  | .ok _ => False
  | .error e => CX outer H s E e s'
structure FnOk (P : Program) (w : World) (K : PySem.W.Frag) (mg : Str → Option Value) (base : Heap) (CX : CXT) (k : Nat) (f : Addr) (fd : FuncData) (ps : List Str) (sp : Sp) : Prop where
  len : ∀ vs H Q E, sp vs H Q E → vs.length = ps.length
  run : ∀ (A : Around) (outer : List Env) (s : Shared) (H : Hp) (args : Args) (us : List Value) (vs : List V) (Q : VK) (E : XK), Room k A → Env0 P w K mg base A outer s H → BindsTo s fd args (ps.zip us) → Vals vs us → sp vs H Q E →
    codeAny (model P w) A (.call (.ref f) args) (CR CX outer P w H s Q E) s
theorem FnOk.mono {P : Program} {w : World} {K : PySem.W.Frag} {mg : Str → Option Value} {base : Heap} {CX : CXT} {j k : Nat} {f : Addr} {fd : FuncData} {ps : List Str} {sp : Sp} (F : FnOk P w K mg base CX j f fd ps sp) (h : j ≤ k) :
    FnOk P w K mg base CX k f fd ps sp := ⟨F.len, fun A outer s H args us vs Q E hr => F.run A outer s H args us vs Q E (hr.mono h)⟩
section
variable {X : Cx} {pins : List (Addr × Obj)} {σ : St} {H : Hp} {s s' : Shared}
theorem Inv.env0 (I : Inv X pins σ H s) : Env0 X.prog X.w X.K X.mg X.base X.A X.stack s H :=
  ⟨I.ok.frames, I.ok.mod, I.bs, Nat.le_trans I.ok.bsz I.sz, I.stack, I.stkFree, I.hok, I.bare⟩
theorem Inv.after {Q : VK} {u : Value} (I : Inv X pins σ H s) (h : CE X.stack X.prog X.w H s Q u s') : EP X pins σ Q u s' := by
  obtain ⟨v, H', os, bare, un, hok, r, q⟩ := h
  obtain ⟨hh, g, d, t, os'⟩ := s'
  obtain rfl : os' = s.os := os
  exact ⟨v, H', I.call (h' := hh) (g' := g) (d' := d) (t' := t) (ch := []) un hok bare (fun b z => absurd z (by simp)), r, q⟩
end
noncomputable def tCall (sp : Sp) (dvs : List V) (E : XK) (t : TA) : TE := fun σ H Q => t σ H fun vs H1 => sp (vs ++ dvs) H1 Q E
noncomputable def Binds (K : PySem.W.Frag) (fd : FuncData) (ps : List Str) (ds : List Value) : Prop :=
  ∀ (s : Shared) (us : List Value), K.In s.heap → (us ++ ds).length = ps.length → BindsTo s fd ⟨us, []⟩ (ps.zip (us ++ ds))
theorem Binds.all {K : PySem.W.Frag} {fd : FuncData} {ps : List Str} (h : ∀ us : List Value, us.length = ps.length → bindArgs fd ⟨us, []⟩ = pure (ps.zip us)) : Binds K fd ps [] := fun s us _ hl => by
  rw [List.append_nil] at hl ⊢
  exact .of_eq (h us hl)
noncomputable def Passes (CX : CXT) (X : Cx) (E : XK) : Prop := ∀ (pins : List (Addr × Obj)) (σ : St) (H : Hp) (s : Shared) (e : Value) (s' : Shared), Inv X pins σ H s → CX X.stack H s E e s' → X.xe e s'
section
variable {X : Cx} {CX : CXT} {k : Nat} {f C : Addr} {fd : FuncData} {ps : List Str} {sp : Sp} {dvs : List V} {ds : List Value} {E : XK} {x m : Str} {p pos apos : Pos} {e o : Expr} {es : List Expr} {ta : TE} {t : TA}
theorem run_fn {pins : List (Addr × Obj)} {σ : St} {H : Hp} {s : Shared} {Q : VK} {us : List Value} {vs : List V} (F : FnOk X.prog X.w X.K X.mg X.base CX k f fd ps sp) (hr : Room k X.A) (hb : Binds X.K fd ps ds) (hd : Vals dvs ds) (hx : Passes CX X E)
    (I : Inv X pins σ H s) (r : Vals vs us) (h : sp (vs ++ dvs) H Q E) : wpAny (model X.prog X.w) X.A (call (.ref f) us) (EP X pins σ Q) X.xe s := by
  have r2 : Vals (vs ++ dvs) (us ++ ds) := r.append hd
  have hl : (us ++ ds).length = ps.length := by rw [← r2.length]; exact F.len _ _ _ _ h
  refine wpAny_call (codeAny_mono (F.run X.A X.stack s H ⟨us, []⟩ (us ++ ds) (vs ++ dvs) Q E hr I.env0 (hb s us I.kIn hl) r2 h) fun r s' hq => ?_)
  cases r with
  | error e => exact hx pins σ H s e s' I hq
  | ok fl =>
    cases fl with
    | ret u => exact I.after hq
    | next => exact False.elim hq
    | brk => exact False.elim hq
    | cont => exact False.elim hq
theorem pe_call (F : FnOk X.prog X.w X.K X.mg X.base CX k f fd ps sp) (hr : Room k X.A) (hg : Gl X x) (hm : X.mg x = some (.ref f)) (hk : PySem.W.keepIn X.K (.ref f) = true) (hb : Binds X.K fd ps ds) (hd : Vals dvs ds) (hx : Passes CX X E)
    (ha : PA X (e :: es) t) (hdb : (x == ("__debug__" : Str)) = false := by decide) (he : starEach (e :: es) X.env = (false, eval e X.env) :: starEach es X.env := by rfl) (hpl : (backTo pos (starEach es X.env)).any (·.1) = false := by rfl) :
    PE X (.Call (.Name x p) (e :: es) [] pos) (tCall sp dvs E t) := by
  intro pins s σ H Q I h
  refine wpAny_Call_Name_kw (ld_glob I hg hm ?_ hdb)
  refine PySem.W.callWith_K (h₀ := X.base) I.ok.mod.kin hk (thn (ha pos pins s σ H _ I h) fun us s1 ⟨vs, H1, I1, r, q⟩ => ⟨I1.kIn, ?_⟩) he hpl
  exact run_fn F hr hb hd hx I1 r q
structure Mk (K : PySem.W.Frag) (C f : Addr) : Prop where
  makes : PySem.W.makesIn K C = true
  init : PySem.W.findIn K (.ref C) "__init__" = some (some (.ref f))
  fn : PySem.W.isFn K (.ref f) = true
  kp : PySem.W.keepIn K (.ref C) = true
end
section
variable {X : Cx} {CX : CXT} {k : Nat} {f C : Addr} {fd : FuncData} {ps ks : List Str} {sp : Sp} {E : XK} {x m : Str} {p pos apos kpos : Pos} {e o : Expr} {es : List Expr} {kws : List Keyword} {te ta : TE} {t tk : TA} {nm : Option Str}
structure KBinds (K : PySem.W.Frag) (fd : FuncData) (ps ks : List Str) (g : List Value → List Value → List Value) (gV : List V → List V → List V) : Prop where
  to : ∀ (s : Shared) (us ws : List Value), K.In s.heap → (g us ws).length = ps.length → BindsTo s fd ⟨us, ks.zip ws⟩ (ps.zip (g us ws))
  rel : ∀ {vs : List V} {us : List Value} {zs : List V} {ws : List Value}, Vals vs us → Vals zs ws → Vals (gV vs zs) (g us ws)
variable {g : List Value → List Value → List Value} {gV : List V → List V → List V}
end
structure FnScope (N P : List Str) (sc : Scope) : Prop where
  kind : sc.kind = .function
  co : sc.isCoroutine = false
  gen : sc.isGenerator = false
  nd : N.Nodup
  pre : N.take P.length = P
  par : ∀ x ∈ P, sc.names.lookup x = some .local ∨ sc.names.lookup x = some .cell
  nofree : ∀ y ∈ sc.names, y.2 ≠ .free
theorem bindL_out {kindOf : Str → Option NameKind} {x : Str} : ∀ {binds : List (Str × Value)} {m : Str → Option Value}, (∀ v, (x, v) ∉ binds) → bindL kindOf binds m x = m x
  | [], _, _ => rfl
  | (n, v) :: r, m, h => by
    unfold bindL
    rw [bindL_out fun w hw => h w (List.mem_cons_of_mem _ hw)]
    split
    · have : x ≠ n := by rintro rfl; exact h v List.mem_cons_self
      simp [this]
    · rfl
theorem bindC_out {kindOf : Str → Option NameKind} {x : Str} : ∀ {binds : List (Str × Value)} {m : Str → Option Value}, (∀ v, (x, v) ∉ binds) → bindC kindOf binds m x = m x
  | [], _, _ => rfl
  | (n, v) :: r, m, h => by
    unfold bindC
    rw [bindC_out fun w hw => h w (List.mem_cons_of_mem _ hw)]
    split
    · rfl
    · have : x ≠ n := by rintro rfl; exact h v List.mem_cons_self
      simp [this]
theorem bindL_get {kindOf : Str → Option NameKind} {x : Str} {v : Value} : ∀ {P : List Str} {vs : List Value} {i : Nat} {m : Str → Option Value}, P.Nodup → P[i]? = some x → vs[i]? = some v → kindOf x = some .local →
    bindL kindOf (P.zip vs) m x = some v
  | [], _, _, _, _, h, _, _ => by simp at h
  | _ :: _, [], _, _, _, _, h, _ => by simp at h
  | p :: P, w :: vs, 0, m, nd, h1, h2, hk => by
    simp at h1 h2; subst h1; subst h2
    show bindL kindOf ((p, w) :: P.zip vs) m p = _
    unfold bindL
    rw [bindL_out fun v hv => (List.nodup_cons.mp nd).1 (List.of_mem_zip hv).1, if_pos hk]
    simp
  | p :: P, w :: vs, i + 1, m, nd, h1, h2, hk => by
    show bindL kindOf ((p, w) :: P.zip vs) m x = _
    unfold bindL
    exact bindL_get (i := i) (List.nodup_cons.mp nd).2 (by simpa using h1) (by simpa using h2) hk
theorem bindC_get {kindOf : Str → Option NameKind} {x : Str} {v : Value} : ∀ {P : List Str} {vs : List Value} {i : Nat} {m : Str → Option Value}, P.Nodup → P[i]? = some x → vs[i]? = some v → kindOf x ≠ some .local →
    bindC kindOf (P.zip vs) m x = some v
  | [], _, _, _, _, h, _, _ => by simp at h
  | _ :: _, [], _, _, _, _, h, _ => by simp at h
  | p :: P, w :: vs, 0, m, nd, h1, h2, hk => by
    simp at h1 h2; subst h1; subst h2
    show bindC kindOf ((p, w) :: P.zip vs) m p = _
    unfold bindC
    rw [bindC_out fun v hv => (List.nodup_cons.mp nd).1 (List.of_mem_zip hv).1, if_neg hk]
    simp
  | p :: P, w :: vs, i + 1, m, nd, h1, h2, hk => by
    show bindC kindOf ((p, w) :: P.zip vs) m x = _
    unfold bindC
    exact bindC_get (i := i) (List.nodup_cons.mp nd).2 (by simpa using h1) (by simpa using h2) hk
noncomputable def start (N : List Str) (vs : List V) : St := vs.map some ++ List.replicate (N.length - vs.length) none
noncomputable def cxOf (CX : CXT) (P : Program) (w : World) (K : PySem.W.Frag) (mg : Str → Option Value) (base : Heap) (N : List Str) (qual : Str) (scope : Scope) (f : Addr) (cd : Value) (A : Around) (outer : List Env) (s : Shared) (H : Hp) (E : XK) : Cx where
  prog := P
  w := w
  K := K
  mg := mg
  base := base
  A := A.deeper (envOfC qual scope s.heap.objs.size f cd)
  N := N
  s₀ := s
  H₀ := H
  env := envOfC qual scope s.heap.objs.size f cd
  outer := outer
  stack := envOfC qual scope s.heap.objs.size f cd :: outer
  ex := []
  calm := true
  fn := fun _ => true
  pn := []
  xe := fun e s' => wpAny (model P w) (A.deeper (envOfC qual scope s.heap.objs.size f cd)) (leaving (envOfC qual scope s.heap.objs.size f cd) e) (fun _ s'' => CX outer H s E e s'') (fun e' s'' => CX outer H s E e' s'') s'
theorem cell_has {sc : Scope} {n : Nat} {x : Str} (h : sc.names.lookup x = some .cell) : ∃ c, (cellsFrom n sc.names []).lookup x = some c := by
  have q := PySem.W.cellsFrom_some sc.names n [] (.inl h)
  exact Option.isSome_iff_exists.mp q
theorem inv_start {CX : CXT} {P : Program} {w : World} {K : PySem.W.Frag} {mg : Str → Option Value} {base : Heap} {N ps : List Str} {qual : Str} {scope : Scope} {f : Addr} {cd : Value} {A : Around} {outer : List Env} {s s1 : Shared} {H : Hp} {E : XK} {us : List Value} {vs : List V}
    (S : FnScope N ps scope) (hd : A.handled = none) (e0 : Env0 P w K mg base A outer s H) (hl : vs.length = ps.length) (r : Vals vs us)
    (x : InCallC s s.heap.objs.size (bindL (envOfC qual scope s.heap.objs.size f cd).kindOf (ps.zip us) fun _ => none) (cellsFrom (s.heap.objs.size + 1) scope.names []) (bindC (envOfC qual scope s.heap.objs.size f cd).kindOf (ps.zip us) fun _ => none) s1) :
    Inv (cxOf CX P w K mg base N qual scope f cd A outer s H E) [] (start N vs) H s1 := by
  have hpl : ps.length ≤ N.length := by have := congrArg List.length S.pre; rw [List.length_take] at this; omega
  obtain ⟨h1, tk, rfl, hk⟩ := x.done
  have noA : ∀ b : Addr, b ∉ (cxOf CX P w K mg base N qual scope f cd A outer s H E).ex := fun b z => absurd (show b ∈ ([] : List Addr) from z) (by simp)
  refine ⟨⟨e0.mod, S.kind, rfl, rfl, Nat.le_refl _, fun y z c h1 h2 => ?_, fun y hy => ?_, fun y c _ h => ?_, fun _ => hd, Around.frames_deeper e0.frames, .inr ⟨rfl, rfl⟩, fun b z => absurd z (noA b), e0.bs, e0.bsz, fun b _ _ => noA b, fun b z => absurd z (noA b), e0.funs, e0.frf⟩,
    rfl, e0.bare, Un.kept hk, ⟨_, x.toInCall.ns, fun i y v h1 h2 h3 => ?_⟩, fun y c h => ⟨_, x.cell y c h⟩, e0.hok.fresh (Nat.le_refl _), fun y c h => ?_, fun p hp => absurd (show p ∈ ([] : List (Addr × Obj)) from hp) (by simp), e0.hok.kept hk, ?_⟩
  · exact name_of_addr x.apart (PySem.mem_of_lookup h1) (PySem.mem_of_lookup h2)
  · have hy : scope.names.lookup y = some .cell ∨ scope.names.lookup y = some .free := hy
    rcases hy with hy | hy
    · exact cell_has hy
    · exact absurd rfl (S.nofree _ (PySem.mem_of_lookup hy))
  · exact Nat.le_of_lt (x.above y c (PySem.mem_of_lookup h))
  · have hi : i < vs.length := by
      unfold start at h2
      by_cases hi : i < vs.length
      · exact hi
      · rw [List.getElem?_append_right (by simpa using hi)] at h2
        rw [List.getElem?_replicate] at h2
        split at h2 <;> cases h2
    have ha : vs[i]? = some v := by
      unfold start at h2
      rw [List.getElem?_append_left (by simpa using hi), List.getElem?_map] at h2
      cases e : vs[i]? with
      | none => rw [e] at h2; cases h2
      | some a => rw [e] at h2; cases h2; rfl
    obtain ⟨u, hu, rv⟩ := r.get ha
    have hp : ps[i]? = some y := by
      rw [← S.pre, List.getElem?_take_of_lt (by omega)]; exact h1
    have ndP : ps.Nodup := by rw [← S.pre]; exact S.nd.sublist (List.take_sublist _ _)
    refine ⟨u, rv, ?_⟩
    rcases S.par y (List.mem_of_getElem? hp) with k | k
    · exact .inl ⟨k, bindL_get ndP hp hu k⟩
    · obtain ⟨c, e⟩ := cell_has (n := s.heap.objs.size + 1) k
      refine .inr ⟨.inl k, c, e, ?_⟩
      have q := x.cell y c e
      rw [bindC_get ndP hp hu (by show scope.names.lookup y ≠ _; rw [k]; decide)] at q
      exact q
  · exact e0.hok.fresh (Nat.le_of_lt (x.above y c (PySem.mem_of_lookup h)))
  · unfold start
    show _ = N.length
    rw [List.length_append, List.length_map, List.length_replicate]
    omega
theorem fn_of {CX : CXT} {P : Program} {w : World} {K : PySem.W.Frag} {mg : Str → Option Value} {base : Heap} {k : Nat} {f : Addr} {name qual : Str} {params : Arguments} {body : List Stmt} {scope : Scope} {dV kV doc pm cdv ct oc : Value} {an od : Option Addr}
    {osl : Array (Option Value)} {N ps : List Str} {sp : Sp} (lk : K.lookup f = some ⟨oc, od, .func (PySem.W.fnOf name qual params body scope dV kV doc pm an cdv ct), osl⟩) (hcd : PySem.W.codeIn K cdv qual = true) (S : FnScope N ps scope)
    (len : ∀ vs H Q E, sp vs H Q E → vs.length = ps.length)
    (hbody : ∀ (A : Around) (outer : List Env) (s : Shared) (H : Hp) (vs : List V) (Q : VK) (E : XK), Room k (A.deeper (envOfC qual scope s.heap.objs.size f cdv)) → sp vs H Q E →
      ∃ t, PSs (cxOf CX P w K mg base N qual scope f cdv A outer s H E) body t ∧ t { nx := fun _ H' => Q .non H', rt := Q } (start N vs) H) :
    FnOk P w K mg base CX (k + 1) f (PySem.W.fnOf name qual params body scope dV kV doc pm an cdv ct) ps sp := by
  refine ⟨len, fun A outer s H args us vs Q E hr e0 hb r hsp => ?_⟩
  have hl := len _ _ _ _ hsp
  have KX : K.In s.heap := e0.mod.kin.keeps fun b o e => (e0.bs b o e).1
  have lim : s.heap.NoLimit := e0.mod.nolimit.keeps fun b o e => (e0.bs b o e).1
  have hkind : ∀ y ∈ ps.zip us, scope.names.lookup y.1 = some .local ∨ (scope.names.lookup y.1 = some .cell ∧ ((cellsFrom (s.heap.objs.size + 1) scope.names []).lookup y.1).isSome = true) := fun ⟨n, v⟩ hy => by
    rcases S.par n (List.of_mem_zip hy).1 with q | q
    · exact .inl q
    · exact .inr ⟨q, PySem.W.cellsFrom_some _ _ _ (.inl q)⟩
  refine codeAny_call_function hr.depth (KX _ _ lk) rfl S.co S.gen rfl (PySem.W.codeRec_of KX hcd) (hb _ _ _ _ ?_)
  refine wpAny_newFunctionEnv_cells S.kind hkind fun env he s1 x => ?_
  subst he
  refine ⟨lim.keeps x.toInCall.keep, codeAny_func ?_⟩
  obtain ⟨t, ht, hq⟩ := hbody A outer s H vs Q E (hr.deeper _) hsp
  have I : Inv (cxOf CX P w K mg base N qual scope f cdv A outer s H E) [] (start N vs) H s1 := inv_start S hr.hd e0 hl r x
  refine wpAny_mono (ht [] s1 (start N vs) H _ I hq) (fun fl s' hs => ?_) fun e s' hs => hs
  have fin : ∀ {σ' : St} {H' : Hp} {v : V} {u : Value}, Inv (cxOf CX P w K mg base N qual scope f cdv A outer s H E) [] σ' H' s' → RelV v u → Q v H' → CE outer P w H s Q u s' :=
    fun {σ' H' v u} J rv q => ⟨v, H', J.os, J.bare, J.base, J.hok, rv, q⟩
  cases fl with
  | ret u =>
    obtain ⟨v, σ', H', J, rv, q⟩ := hs
    exact fin J rv q
  | next =>
    obtain ⟨σ', H', J, q⟩ := hs
    exact fin (v := V.non) (u := Value.none) J rfl q
  | brk =>
    obtain ⟨_, _, _, q⟩ := hs
    exact False.elim q
  | cont =>
    obtain ⟨_, _, _, q⟩ := hs
    exact False.elim q
end L2
namespace L2
open PySem PySem.Spec PyProof.Rows
section
variable {X : Cx} {x : Str} {p pos : Pos} {e : Expr} {es : List Expr} {t : TA} {id T : String} {r : List V → Hp → VK → Prop}
noncomputable def tCB (r : List V → Hp → VK → Prop) (t : TA) : TE := fun σ H Q => t σ H fun vs H1 => r vs H1 Q
theorem pe_callB (hc : CallR X (.builtin id) r) (hg : Gl X x) (hm : X.mg x = none) (hv : bootBuiltins x = some (.builtin id)) (ha : PA X (e :: es) t) (hn : x ≠ "__name__" := by decide) (hdb : (x == ("__debug__" : Str)) = false := by decide)
    (he : starEach (e :: es) X.env = (false, eval e X.env) :: starEach es X.env := by rfl) (hpl : (backTo pos (starEach es X.env)).any (·.1) = false := by rfl) : PE X (.Call (.Name x p) (e :: es) [] pos) (tCB r t) := by
  intro pins s σ H Q I h
  refine wpAny_Call_Name_kw (ld_blt I hg hm hv ?_ hn hdb)
  exact PyProof.Rows.callWith_builtin1 (thn (ha pos pins s σ H _ I h) fun us s1 ⟨vs, H1, I1, r1, q1⟩ => hc pins s1 σ H1 vs us Q I1 r1 q1) he hpl
theorem pe_callTy (hc : CallR X (.type T) r) (hg : Gl X x) (hm : X.mg x = none) (hv : bootBuiltins x = some (.type T)) (ha : PA X (e :: es) t) (hn : x ≠ "__name__" := by decide) (hdb : (x == ("__debug__" : Str)) = false := by decide)
    (he : starEach (e :: es) X.env = (false, eval e X.env) :: starEach es X.env := by rfl) (hpl : (backTo pos (starEach es X.env)).any (·.1) = false := by rfl) : PE X (.Call (.Name x p) (e :: es) [] pos) (tCB r t) := by
  intro pins s σ H Q I h
  refine wpAny_Call_Name_kw (ld_blt I hg hm hv ?_ hn hdb)
  exact PyProof.Rows.callWith_type1 (thn (ha pos pins s σ H _ I h) fun us s1 ⟨vs, H1, I1, r1, q1⟩ => hc pins s1 σ H1 vs us Q I1 r1 q1) he hpl
end
end L2
namespace HT
open PySem PyProof.Rows
section
open PySem.SeqAt
open PySem.AutoSeq1 (wpAny_loadPart')
open PySem.MeetsSeq PySem.MeetsSeq2 PySem.MeetsSeq3
end
section
variable {prog : Program} {w : World} {A : Around} {E : Value → Shared → Prop} {s : Shared}
theorem cat_tup {t b : Addr} {vs ws : List Value} {Q : Value → Shared → Prop} (ht : IsTup s.heap t vs.toArray) (hb : IsTup s.heap b ws.toArray) (hv : vs ≠ [])
    (h1 : ws = [] → Q (.ref t) s) (h2 : ws ≠ [] → Q (.ref s.heap.objs.size) { s with heap := s.heap.push { cls := .type "tuple", data := .seq (vs ++ ws).toArray } })
    (hsz : vs.length + ws.length ≤ sizeLine) : wpAny (model prog w) A (binaryOp .Add (.ref t) (.ref b)) Q E s := by
  obtain ⟨⟨cls, dd, data, sl⟩, ho, hc, n, hd⟩ := id ht
  obtain ⟨⟨cls2, dd2, data2, sl2⟩, ho2, hc2, n2, hd2⟩ := id hb
  simp only at hc hd hc2 hd2
  subst hc hd hc2 hd2
  have e : vs.toArray ++ ws.toArray = (vs ++ ws).toArray := by simp
  by_cases hw : ws = []
  · exact concat_meets ⟨_, ho, rfl⟩ ⟨_, ho2, rfl⟩ noFill_tuple_add seq_tuple_add PySem.F.slot_tuple_add PySem.F.entry_tuple_add (PySem.F.args_tuple_add_2 _ _)
      (tuple_addW1 t b vs.toArray ws.toArray n n2 dd dd2 sl sl2 (by simpa using hv) (by simp [hw])) ⟨ho, ho2, h1 hw⟩
  · refine concat_meets ⟨_, ho, rfl⟩ ⟨_, ho2, rfl⟩ noFill_tuple_add seq_tuple_add PySem.F.slot_tuple_add PySem.F.entry_tuple_add (PySem.F.args_tuple_add_2 _ _)
      (tuple_addW2 t b vs.toArray ws.toArray n n2 dd dd2 sl sl2 (by simpa using hv) (by simpa using hw) (by rw [List.size_toArray, List.size_toArray]; exact hsz)) ⟨ho, ho2, ?_⟩
    rw [e]
    exact h2 hw
noncomputable def sIx (n d : Nat) : Option Int → Nat
  | none => d
  | some v => if v < 0 then (v + (n : Int)).toNat else min v.toNat n
theorem sIx_none (n d : Nat) : sIx n d none = d := rfl
theorem sIx_nat (n d k : Nat) : sIx n d (some (k : Int)) = min k n := by
  show (if (k : Int) < 0 then ((k : Int) + (n : Int)).toNat else min (k : Int).toNat n) = min k n
  rw [if_neg (by omega), Int.toNat_natCast]
end
end HT
namespace L2
open PySem PySem.Spec PyProof.Rows
abbrev TO := St → Hp → (Option Int → Hp → Prop) → Prop
noncomputable def PO (X : Cx) (e : Option Expr) (t : TO) : Prop :=
  ∀ (pins : List (Addr × Obj)) (s : Shared) (σ : St) (H : Hp) (Q : Option Int → Hp → Prop), Inv X pins σ H s → t σ H Q →
    wpAny (model X.prog X.w) X.A (evalPart e X.env) (fun u s' => ∃ o H', Inv X pins σ H' s' ∧ IsPart u o ∧ Q o H') X.xe s
noncomputable def tNoPart : TO := fun _ H Q => Q none H
noncomputable def tPart (t : TE) : TO := fun σ H Q => t σ H fun x H1 => ∃ i, x = .int i ∧ Q (some i) H1
theorem intsAre_of {ns : List Int} : ∀ {us : List Value}, Vals (ns.map V.int) us → IntsAre us ns := by
  induction ns with
  | nil => intro us r; rw [List.map_nil] at r; cases r; exact .nil
  | cons n ns ih =>
    intro us r
    rw [List.map_cons] at r
    cases r with
    | cons r1 r2 =>
      obtain ⟨t, e⟩ := r1
      subst e
      exact .cons n t (ih r2)
section
variable {X : Cx} {e : Expr} {te : TE} {lo hi : Option Expr} {tl th : TO} {pos p2 : Pos}
theorem po_none : PO X none tNoPart := by
  intro pins s σ H Q I h
  rw [evalPart_none]
  exact wpAny_pure ⟨none, H, I, .none, h⟩
theorem po_some (h : PE X e te) : PO X (some e) (tPart te) := by
  intro pins s σ H Q I hw
  rw [evalPart_some]
  refine thn (h pins s σ H _ I hw) fun u s1 ⟨x, H1, I1, r1, q1⟩ => ?_
  obtain ⟨i, rfl, q⟩ := q1
  obtain ⟨t, rfl⟩ := r1
  exact ⟨some i, H1, I1, .int i t, q⟩
noncomputable def SlR (X : Cx) (r : V → Option Int → Option Int → Hp → VK → Prop) : Prop :=
  ∀ (pins : List (Addr × Obj)) (s : Shared) (σ : St) (H : Hp) (x : V) (v vl vu : Value) (lo hi : Option Int) (sl : Addr) (Q : VK), Inv X pins σ H s → RelV x v → s.heap.IsSliceOf sl vl vu .none → IsPart vl lo → IsPart vu hi → r x lo hi H Q →
    ∃ T id, typeLookup (.type T) "__getitem__" = pure (some (.builtin id)) ∧ s.TypeIs v T ∧ wpAny (model X.prog X.w) X.A (getItem v (.ref sl)) (EP X pins σ Q) X.xe s
noncomputable def tSl (r : V → Option Int → Option Int → Hp → VK → Prop) (te : TE) (tl th : TO) : TE := fun σ H Q => te σ H fun x H1 => tl σ H1 fun l H2 => th σ H2 fun u H3 => r x l u H3 Q
theorem pe_slice {r : V → Option Int → Option Int → Hp → VK → Prop} (hr : SlR X r) (he : PE X e te) (hl : PO X lo tl) (hu : PO X hi th) : PE X (.Subscript e (.Slice lo hi none p2) pos) (tSl r te tl th) := by
  intro pins s σ H Q I h
  refine Subscript_ (thn (he pins s σ H _ I h) fun v s1 ⟨x, H1, I1, r1, q1⟩ => ?_)
  refine wpAny_Slice (thn (hl pins s1 σ H1 _ I1 q1) fun vl s2 ⟨l, H2, I2, pl, q2⟩ => thn (hu pins s2 σ H2 _ I2 q2) fun vu s3 ⟨u, H3, I3, pu, q3⟩ => ?_)
  rw [evalPart_none]
  refine wpAny_pure ?_
  have I4 : Inv X pins σ H3 { s3 with heap := s3.heap.push { cls := .type "slice", data := .fields #[vl, vu, .none] } } := I3.kept (t' := s3.toks) fun b ob q => Heap.get?_push_of_some _ q
  obtain ⟨T, id, hT, ht, hg⟩ := hr pins { s3 with heap := s3.heap.push { cls := .type "slice", data := .fields #[vl, vu, .none] } } σ H3 x v vl vu l u s3.heap.objs.size Q I4 r1 (Heap.IsSliceOf.new ..) pl pu q3
  show wpAny (model X.prog X.w) X.A (subscriptTail e (.Slice lo hi none p2) v (.ref s3.heap.objs.size)) (EP X pins σ Q) X.xe { s3 with heap := s3.heap.push { cls := .type "slice", data := .fields #[vl, vu, .none] } }
  exact tail_any (ops := [.ref s3.heap.objs.size, v]) ht hT hg (by with_unfolding_all rfl)
noncomputable def cutV (xs : List V) (lo hi : Option Int) : List V := (xs.drop (HT.sIx xs.length 0 lo)).take (HT.sIx xs.length xs.length hi - HT.sIx xs.length 0 lo)
theorem cutV_length (xs : List V) (lo hi : Option Int) : (cutV xs lo hi).length ≤ xs.length := by
  unfold cutV
  rw [List.length_take, List.length_drop]
  omega
noncomputable def rCatT (K : PySem.W.Frag) : R2 := fun x y H Q => ∃ a b xs ys, x = .ref a ∧ y = .ref b ∧ SqT K H a xs ∧ SqT K H b ys ∧ xs ≠ [] ∧ xs.length + ys.length ≤ sizeLine ∧
  (ys = [] → Q (.ref a) H) ∧ (ys ≠ [] → ∀ p, H p = none → Q (.ref p) (upd H p (.tup (xs ++ ys))))
theorem Vals.nil_iff {xs : List V} {us : List Value} (r : Vals xs us) : us = [] ↔ xs = [] := by
  cases r with
  | nil => simp
  | cons _ _ => simp
theorem op_catT : OpR X (binaryOp .Add) (rCatT X.K) := by
  intro pins s σ H x y v u Q I rx ry h
  obtain ⟨a, b, xs, ys, rfl, rfl, ha, hb, hx, hz, q1, q2⟩ := h
  cases rx
  cases ry
  obtain ⟨its, r1, p1, _⟩ := I.tuple ha
  obtain ⟨its2, r2, p2, _⟩ := I.tuple hb
  refine HT.cat_tup p1 p2 (fun z => hx (r1.nil_iff.mp z)) (fun z => ⟨.ref a, H, I, rfl, q1 (r2.nil_iff.mp z)⟩) (fun z => ?_) (by rw [← r1.length, ← r2.length]; exact hz)
  refine ⟨.ref s.heap.objs.size, _, I.laid (t' := s.toks) (o := .tup (xs ++ ys)) (fun b ob q => Heap.get?_push_of_some _ q) (Nat.le_refl _) ?_, rfl, q2 (fun w => z (r2.nil_iff.mpr w)) _ (I.hok.fresh (Nat.le_refl _))⟩
  exact ⟨by rw [List.length_append]; exact hz, _, r1.append r2, IsTup.new _ _⟩
end
end L2
namespace L2
open PySem PySem.Spec PyProof.Rows
noncomputable def ixN (n : Nat) (i : Int) : Option Nat := if 0 ≤ i then (if i < n then some i.toNat else none) else if -(n : Int) ≤ i then some (i + n).toNat else none
noncomputable def atI {α : Type} (xs : List α) (i : Int) : Option α := (ixN xs.length i).bind fun j => xs[j]?
theorem ixN_seq {n : Nat} {i : Int} {j : Nat} (h : ixN n i = some j) : seqIndex? i n = some j ∧ j < n ∧ -(n : Int) ≤ i ∧ i < n := by
  unfold ixN at h
  by_cases h0 : 0 ≤ i
  · rw [if_pos h0] at h
    by_cases h1 : i < n
    · rw [if_pos h1] at h
      have e : i.toNat = j := Option.some.inj h
      exact ⟨by rw [seqIndex_of h0 h1, e], by omega, by omega, h1⟩
    · rw [if_neg h1] at h; cases h
  · rw [if_neg h0] at h
    by_cases h1 : -(n : Int) ≤ i
    · rw [if_pos h1] at h
      have e : (i + n).toNat = j := Option.some.inj h
      exact ⟨by rw [seqIndex_neg (by omega) h1, e], by omega, h1, by omega⟩
    · rw [if_neg h1] at h; cases h
theorem atI_get {α : Type} {xs : List α} {i : Int} {v : α} (h : atI xs i = some v) : ∃ j, seqIndex? i xs.length = some j ∧ xs[j]? = some v ∧ j < xs.length ∧ -(xs.length : Int) ≤ i ∧ i < xs.length := by
  unfold atI at h
  cases e : ixN xs.length i with
  | none => rw [e] at h; cases h
  | some j =>
    rw [e] at h
    obtain ⟨h1, h2, h3, h4⟩ := ixN_seq e
    exact ⟨j, h1, h, h2, h3, h4⟩
theorem atI_nat {α : Type} {xs : List α} {j : Nat} {v : α} (h : xs[j]? = some v) : atI xs (j : Int) = some v := by
  have hj : j < xs.length := (List.getElem?_eq_some_iff.mp h).1
  have e : ixN xs.length (j : Int) = some j := by
    unfold ixN
    rw [if_pos (by omega), if_pos (by omega)]; simp
  unfold atI; rw [e]; exact h
theorem atI_last {α : Type} (xs : List α) (v : α) : atI (xs ++ [v]) (-1) = some v := by
  have hl : (xs ++ [v]).length = xs.length + 1 := by simp
  have e : ixN (xs ++ [v]).length (-1) = some xs.length := by
    unfold ixN
    rw [hl, if_neg (by decide), if_pos (by omega)]
    congr 1
    omega
  unfold atI
  rw [e]
  show (xs ++ [v])[xs.length]? = some v
  simp
noncomputable def PlainIx (b : Expr) : Prop := ∀ o i, subscripted b false o i = operate [o, i] (getItem o i)
noncomputable def IxR (X : Cx) (r : R2) : Prop :=
  ∀ (value slice : Expr) (pins : List (Addr × Obj)) (s : Shared) (σ : St) (H : Hp) (x y : V) (v u : Value) (Q : VK), Inv X pins σ H s → RelV x v → RelV y u → r x y H Q →
    subscripted slice false v u = operate [v, u] (getItem v u) → wpAny (model X.prog X.w) X.A (subscriptTail value slice v u) (EP X pins σ Q) X.xe s
noncomputable def MtR (X : Cx) (id : String) (r : V → List V → Hp → VK → Prop) : Prop :=
  ∀ (pins : List (Addr × Obj)) (s : Shared) (σ : St) (H : Hp) (x : V) (xs : List V) (v : Value) (us : List Value) (Q : VK), Inv X pins σ H s → RelV x v → Vals xs us → r x xs H Q →
    wpAny (model X.prog X.w) X.A (call (.builtin id) (v :: us)) (EP X pins σ Q) X.xe s
section
variable {X : Cx} {a b : Expr} {ta tb : TE} {pos : Pos}
theorem pe_ix {r : R2} (hr : IxR X r) (ha : PE X a ta) (hb : PE X b tb) (hs : PlainIx b) : PE X (.Subscript a b pos) (tOp r ta tb) := by
  intro pins s σ H Q I h
  exact Subscript_ (binT ha hb I h fun v u s2 x y H2 I2 rx ry q => hr a b pins s2 σ H2 x y v u Q I2 rx ry q (hs _ _))
noncomputable def rIxL (K : PySem.W.Frag) : R2 := fun x y H Q => ∃ p xs i v, x = .ref p ∧ y = .int i ∧ SqL K H p xs ∧ atI xs i = some v ∧ Q v H
noncomputable def rIxT (K : PySem.W.Frag) : R2 := fun x y H Q => ∃ p xs i v, x = .ref p ∧ y = .int i ∧ SqT K H p xs ∧ atI xs i = some v ∧ Q v H
theorem ix_list : IxR X (rIxL X.K) := by
  intro value slice pins s σ H x y v u Q I rx ry h hs
  obtain ⟨p, xs, i, z, rfl, rfl, hq, he, q⟩ := h
  cases rx
  obtain ⟨t, rfl⟩ := ry
  obtain ⟨its, r, pl, hz⟩ := I.list hq
  obtain ⟨j, h1, h2, h3, h4, h5⟩ := atI_get he
  obtain ⟨w, ew, rw'⟩ := r.get h2
  have hl := r.length
  have hn := line63
  have fin : EP X pins σ Q w s := ⟨z, H, I, rw', q⟩
  by_cases h0 : 0 ≤ i
  · have hj : i.toNat = j := by
      rw [seqIndex_of h0 h5] at h1
      exact Option.some.inj h1
    exact item_listR pl.isList h0 (by omega) (by rw [hj]; simpa using ew) fin hs
  · have hj : (i + (its.toArray.size : Int)).toNat = j := by
      rw [seqIndex_neg (by omega) h4] at h1
      rw [List.size_toArray, ← hl]
      exact Option.some.inj h1
    exact subscriptTail_builtinR (x := w) pl.isList.typeIs slot_list_getitem.lookup
      (wpAny_getItem_list_neg (Q := fun r s' => r = w ∧ EP X pins σ Q r s') pl.isList (by omega) (by rw [List.size_toArray] <;> omega) (by omega) (by rw [hj]; simpa using ew) ⟨rfl, fin⟩) hs
theorem ix_tup : IxR X (rIxT X.K) := by
  intro value slice pins s σ H x y v u Q I rx ry h hs
  obtain ⟨p, xs, i, z, rfl, rfl, hq, he, q⟩ := h
  cases rx
  obtain ⟨t, rfl⟩ := ry
  obtain ⟨its, r, pl, hz⟩ := I.tuple hq
  obtain ⟨j, h1, h2, h3, h4, h5⟩ := atI_get he
  obtain ⟨w, ew, rw'⟩ := r.get h2
  have hl := r.length
  have hn := line63
  have fin : EP X pins σ Q w s := ⟨z, H, I, rw', q⟩
  exact subscriptTail_builtinR (x := w) pl.typeIs slot_tuple_getitem.lookup
    (getItem_tuple (j := j) (Q := fun r s' => r = w ∧ EP X pins σ Q r s') pl (by omega) (by omega) (by rw [List.size_toArray, ← hl]; exact h1) (by simpa using ew) ⟨rfl, fin⟩) hs
noncomputable def rSetL : V → V → V → Hp → (Hp → Prop) → Prop := fun o i v H Q => ∃ p xs k j, o = .ref p ∧ i = .int k ∧ H p = some (.lst xs) ∧ ixN xs.length k = some j ∧ Q (upd H p (.lst (xs.set j v)))
theorem slice_bounds (lo hi : Option Int) (n : Nat) : (sliceBounds lo hi none n).1 = ((HT.sIx n 0 lo : Nat) : Int) ∧ (sliceBounds lo hi none n).2.1 = ((HT.sIx n n hi : Nat) : Int) ∧ (sliceBounds lo hi none n).2.2 = 1 := by
  refine ⟨?_, ?_, rfl⟩
  · cases lo with
    | none => simp [sliceBounds, HT.sIx]
    | some i =>
      simp only [sliceBounds, HT.sIx, Option.getD_none, show (1 : Int) > 0 by decide, if_true]
      by_cases h : i < 0
      · simp only [h, if_true] <;> omega
      · simp only [h, if_false] <;> omega
  · cases hi with
    | none => simp [sliceBounds, HT.sIx]
    | some i =>
      simp only [sliceBounds, HT.sIx, Option.getD_none, show (1 : Int) > 0 by decide, if_true]
      by_cases h : i < 0
      · simp only [h, if_true] <;> omega
      · simp only [h, if_false] <;> omega
theorem slicePick_cut (its : List Value) (lo hi : Option Int) : slicePick its.toArray lo hi none = ((its.drop (HT.sIx its.length 0 lo)).take (HT.sIx its.length its.length hi - HT.sIx its.length 0 lo)).toArray := by
  obtain ⟨h1, h2, h3⟩ := slice_bounds lo hi its.toArray.size
  unfold slicePick
  rw [h1, h2, h3]
  simp only [sliceRange_one, pick_run, List.size_toArray] <;> rfl
noncomputable def rSlL (K : PySem.W.Frag) : V → Option Int → Option Int → Hp → VK → Prop := fun x lo hi H Q => ∃ a xs, x = .ref a ∧ SqL K H a xs ∧ ∀ p, H p = none → Q (.ref p) (upd H p (.lst (cutV xs lo hi)))
theorem sl_list : SlR X (rSlL X.K) := by
  intro pins s σ H x v vl vu lo hi sl Q I rx hs pl pu h
  obtain ⟨a, xs, rfl, hx, q⟩ := h
  cases rx
  obtain ⟨its, r, ht, hz⟩ := I.list hx
  have hlen := r.length
  refine ⟨"list", _, slot_list_getitem.lookup, ht.isList.typeIs, ?_⟩
  refine wpAny_getItem_list_slice ht.isList hs pl pu .none (by simp) ?_ (by rw [List.size_toArray] <;> omega)
  rw [slicePick_cut, ← hlen]
  refine ⟨.ref s.heap.objs.size, _, I.laid (t' := s.toks) (o := .lst (cutV xs lo hi)) (fun b ob q => Heap.get?_push_of_some _ q) (Nat.le_refl _) ?_, rfl, q _ (I.hok.fresh (Nat.le_refl _))⟩
  exact ⟨Nat.le_trans (cutV_length xs lo hi) hz, _, 0, (r.drop (HT.sIx xs.length 0 lo)).take (HT.sIx xs.length xs.length hi - HT.sIx xs.length 0 lo), Heap.get?_push_size _ rfl⟩
noncomputable def flatV : V → Bool
  | .non => true
  | .bl _ => true
  | .int _ => true
  | .str _ => true
  | _ => false
noncomputable def eqV : V → V → Bool
  | .non, .non => true
  | .bl a, .bl b => a == b
  | .bl a, .int b => (if a then 1 else 0) == b
  | .int a, .bl b => a == (if b then 1 else 0)
  | .int a, .int b => a == b
  | .str a, .str b => a == b
  | _, _ => false
noncomputable def inV (x : V) (xs : List V) : Bool := xs.any fun y => eqV y x
theorem call_len_seq : CallR X (.builtin "len") (fun xs H Q => ∃ p ys, xs = [.ref p] ∧ (SqL X.K H p ys ∨ SqT X.K H p ys) ∧ Q (.int ys.length) H) := by
  intro pins s σ H xs us Q I r h
  obtain ⟨p, ys, rfl, hq, q⟩ := h
  obtain ⟨u, rfl, rx⟩ := vals1 r
  cases rx
  have hn := line63
  rcases hq with hq | hq
  · obtain ⟨its, r', pl, hz⟩ := I.list hq
    have hlen := r'.length
    exact Calls.call_len_list pl.isList (by simp only [List.size_toArray] <;> omega) ⟨.int ys.length, H, I.tok _, ⟨s.toks + 1, by rw [List.size_toArray, hlen]⟩, q⟩
  · obtain ⟨its, r', pl, hz⟩ := I.tuple hq
    have hlen := r'.length
    exact len_tuple pl (by simp only [List.size_toArray] <;> omega) ⟨.int ys.length, H, I.tok _, ⟨s.toks + 1, by rw [List.size_toArray, hlen]⟩, q⟩
theorem call_len_str : CallR X (.builtin "len") (fun xs H Q => ∃ z, xs = [.str z] ∧ z.length ≤ sizeLine ∧ Q (.int z.length) H) := by
  intro pins s σ H xs us Q I r h
  obtain ⟨z, rfl, hz, q⟩ := h
  obtain ⟨u, rfl, t, rfl⟩ := vals1 r
  have hn := line63
  exact len_str (by omega) ⟨.int z.length, H, I.tok _, ⟨_, rfl⟩, q⟩
noncomputable def tyV (K : PySem.W.Frag) (T : String) (x : V) (H : Hp) : Prop := match x with
  | .str _ => T = "str"
  | .int _ => T = "int"
  | .ref p => (T = "list" ∧ ∃ xs, SqL K H p xs) ∨ (T = "tuple" ∧ ∃ o, K.lookup p = some o ∧ o.cls = .type "tuple" ∧ o.dict = none) ∨
      (T = "dict" ∧ ((∃ kvs, H p = some (.dK kvs)) ∨ ∃ kvs, H p = some (.dT kvs))) ∨ (T = "set" ∧ ∃ S n, H p = some (.set S n))
  | _ => False
theorem tyV_is {pins : List (Addr × Obj)} {σ : St} {H : Hp} {s : Shared} {T : String} {x : V} {v : Value} (I : Inv X pins σ H s) (r : RelV x v) (ty : tyV X.K T x H) :
    s.TypeIs v T ∧ ∀ a, v = .ref a → ∃ ob, s.heap.get? a = some ob ∧ ob.dict = none := by
  cases x with
  | str z =>
    obtain ⟨t, rfl⟩ := r
    cases (show T = "str" from ty)
    exact ⟨typeIs_str s z t, fun _ e => nomatch e⟩
  | int i =>
    obtain ⟨t, rfl⟩ := r
    cases (show T = "int" from ty)
    exact ⟨typeIs_int s i t, fun _ e => nomatch e⟩
  | ref p =>
    cases r
    rcases ty with ⟨rfl, xs, hq⟩ | ⟨rfl, o, hk, hc, hd⟩ | ⟨rfl, hk⟩ | ⟨rfl, S, n, hk⟩
    · obtain ⟨its, _, pl, _⟩ := I.list hq
      refine ⟨pl.isList.typeIs, fun a e => ?_⟩
      cases e
      obtain ⟨o, n, e, c, hd, _⟩ := pl
      exact ⟨o, e, hd⟩
    · refine ⟨⟨o, I.kIn p o hk, hc⟩, fun a e => ?_⟩
      cases e
      exact ⟨o, I.kIn _ o hk, hd⟩
    · have z : ∃ o, s.heap.get? p = some o ∧ o.ExactDict := by
        rcases hk with ⟨kvs, hk⟩ | ⟨kvs, hk⟩
        · obtain ⟨_, _, _, _, o, _, _, e, ex, _⟩ := I.hok p _ hk
          exact ⟨o, e, ex⟩
        · obtain ⟨_, _, _, _, o, _, _, e, ex, _⟩ := I.hok p _ hk
          exact ⟨o, e, ex⟩
      obtain ⟨o, e, ex⟩ := z
      refine ⟨⟨o, e, ex.1⟩, fun a e2 => ?_⟩
      cases e2
      exact ⟨o, e, ex.2.1⟩
    · obtain ⟨o, _, _, _, e, ex, _⟩ := I.hok p _ hk
      refine ⟨⟨o, e, ex.1⟩, fun a e2 => ?_⟩
      cases e2
      exact ⟨o, e, ex.2.1⟩
  | _ => exact False.elim ty
noncomputable def tBM (K : PySem.W.Frag) (T : String) (r : V → List V → Hp → VK → Prop) (to : TE) (t : TA) : TE := fun σ H Q => to σ H fun x H1 => tyV K T x H1 ∧ t σ H1 fun xs H2 => r x xs H2 Q
variable {o e : Expr} {es : List Expr} {to : TE} {t : TA} {name : Str} {apos cpos : Pos} {T id : String} {r : V → List V → Hp → VK → Prop}
theorem pe_bm (pa : PlainAttrs T) (slot : Slot T name id) (hty : typeOf (.builtin id) = pure (.type "method_descriptor")) (hm : MtR X id r) (ho : PE X o to) (ha : PA X (e :: es) t)
    (hbase : attributeBase o name X.env (eval o X.env) = eval o X.env := by rfl)
    (hfew : ((backTo cpos (starEach (e :: es) X.env)).all (fun x => !x.1) && (backToKw cpos (keywordEach [] X.env)).all (fun x => x.1.isSome)
      && decide ((e :: es).length + ([] : List Keyword).length + (if ([] : List Keyword).isEmpty then 0 else 1) < 30)) = true := by rfl)
    (hline : (apos.endLine == cpos.line) = true := by rfl) (hs : starEach (e :: es) X.env = (false, eval e X.env) :: starEach es X.env := by rfl) (hplain : (backTo cpos (starEach es X.env)).any (·.1) = false := by rfl) :
    PE X (.Call (.Attribute o name apos) (e :: es) [] cpos) (tBM X.K T r to t) := by
  intro pins s σ H Q I h
  refine wpAny_Call_method_late hbase hfew hline rfl (thn (ho pins s σ H _ I h) fun v s1 ⟨x, H1, I1, r1, ty, q1⟩ => ?_)
  obtain ⟨h1, h2⟩ := tyV_is I1 r1 ty
  refine ⟨T, id, pa, slot, hty, h1, h2, ?_⟩
  have hA := ha cpos pins s1 σ H1 _ I1 q1
  rw [hs] at hA ⊢
  refine Calls.callWith_builtin (by show (false || (backTo cpos (starEach es X.env)).any (·.1)) = false; rw [hplain] <;> rfl) (Calls.evalArgs_plain ?_)
  exact thn hA fun us s2 ⟨vs, H2, I2, r2, q2⟩ => hm pins s2 σ H2 x vs v us Q I2 r1 r2 q2
end
end L2
namespace L2
open PySem PySem.Spec PyProof.Rows
noncomputable def MtM (X : Cx) (id : String) (r : V → List V → Hp → VK → Prop) : Prop :=
  ∀ (pins : List (Addr × Obj)) (s : Shared) (σ : St) (H : Hp) (x : V) (xs : List V) (v : Value) (us : List Value) (Q : VK), Inv X pins σ H s → RelV x v → Vals xs us → r x xs H Q →
    wpAny (model X.prog X.w) X.A (call (.builtin id) (v :: us)) (EP X pins σ Q) X.xe s
theorem Vals.one : ∀ {x : V} {us : List Value}, Vals [x] us → ∃ u, us = [u] ∧ RelV x u
  | _, _, .cons r .nil => ⟨_, rfl, r⟩
theorem Vals.rep {xs : List V} {us : List Value} (h : Vals xs us) : ∀ k : Nat, Vals (List.replicate k xs).flatten (List.replicate k us).flatten
  | 0 => .nil
  | k + 1 => by
    rw [List.replicate_succ, List.replicate_succ, List.flatten_cons, List.flatten_cons]
    exact Vals.append h (Vals.rep h k)
theorem foldl_rep (its : List Value) : ∀ (k : Nat) (acc : List Value),
    List.foldl (fun x1 x2 => x1 ++ x2) acc.toArray (List.replicate k its.toArray) = (acc ++ (List.replicate k its).flatten).toArray
  | 0, acc => by simp
  | k + 1, acc => by
    have e : acc.toArray ++ its.toArray = (acc ++ its).toArray := by simp
    have e2 : (acc ++ its) ++ (List.replicate k its).flatten = acc ++ (List.replicate (k + 1) its).flatten := by
      rw [List.replicate_succ, List.flatten_cons, List.append_assoc]
    rw [← e2, ← foldl_rep its k (acc ++ its), ← e, List.replicate_succ, List.foldl_cons]
section
variable {X : Cx} {pins : List (Addr × Obj)} {σ : St} {H : Hp} {s : Shared} {l b : Addr} {xs ys zs : List V}
theorem Inv.lset {its its' : List Value} {n : Nat} {f : Array Value → Array Value} {t' : Nat} (I : Inv X pins σ H s) (hH : H l = some (.lst xs))
    (e : s.heap.get? l = some { cls := .type "list", data := .seq its.toArray n }) (hf : f its.toArray = its'.toArray) (hv : Vals ys its') (hz : ys.length ≤ sizeLine) :
    Inv X pins σ (upd H l (.lst ys)) { s with heap := s.heap.update l (Obj.mapSeq f), toks := t' } := by
  have q := PySem.IsL.update e f
  rw [hf] at q
  refine I.write (x := l) (e := l) (by rw [hH]; exact trivial) (.inl rfl) (fun b' u hb hu => (Heap.get?_update_other s.heap (Obj.mapSeq f) (Ne.symm hb)).trans hu) ⟨_, q⟩ ?_
  exact ⟨hz, its', _, hv, q⟩
theorem Inv.lnew {its : List Value} {t' : Nat} (I : Inv X pins σ H s) (hv : Vals ys its) (hz : ys.length ≤ sizeLine) :
    Inv X pins σ (upd H s.heap.objs.size (.lst ys)) { s with heap := s.heap.push { cls := .type "list", data := .seq its.toArray }, toks := t' } :=
  I.laid (fun _ _ q => Heap.get?_push_of_some _ q) (Nat.le_refl _) ⟨hz, its, 0, hv, Heap.get?_push_size _ rfl⟩
theorem Inv.fresh (I : Inv X pins σ H s) : H s.heap.objs.size = none := I.hok.fresh (Nat.le_refl _)
theorem Inv.lstM (I : Inv X pins σ H s) (hH : H l = some (.lst xs)) : xs.length ≤ sizeLine ∧ ∃ (its : List Value) (n : Nat), Vals xs its ∧ xs.length = its.length ∧ s.heap.get? l = some { cls := .type "list", data := .seq its.toArray n } := by
  obtain ⟨z, its, n, r, e⟩ := I.hok l _ hH
  exact ⟨z, its, n, r, r.length, e⟩
theorem notLongL {n : Nat} (h : n ≤ sizeLine) : Builtin.List.listTooLong n = false := by
  unfold Builtin.List.listTooLong
  exact decide_eq_false (by omega)
end
section
variable {X : Cx}
noncomputable def rAppend : V → List V → Hp → VK → Prop := fun x vs H Q => ∃ l xs y, x = .ref l ∧ vs = [y] ∧ H l = some (.lst xs) ∧ xs.length < sizeLine ∧ Q .non (upd H l (.lst (xs ++ [y])))
theorem mt_append : MtM X "list.append" rAppend := by
  intro pins s σ H x vs v us Q I rx rv h
  obtain ⟨l, xs, y, rfl, rfl, hH, hz, q⟩ := h
  cases rx
  obtain ⟨u, rfl, ru⟩ := rv.one
  obtain ⟨z, its, n, r, hl, e⟩ := I.lstM hH
  refine call_meets F.slot_list_append ⟨_, e, rfl⟩ F.entry_list_append (F.args_list_append_2 _ _) (PySem.list_append l its.toArray n u (by rw [List.size_toArray]; omega)) ⟨e, ?_⟩
  refine ⟨.non, _, I.lset (its' := its ++ [u]) hH e (by simp) (r.append (.cons ru .nil)) ?_, rfl, q⟩
  rw [List.length_append, List.length_singleton]
  omega
noncomputable def rExtend : V → List V → Hp → VK → Prop := fun x vs H Q => ∃ l b xs zs, x = .ref l ∧ vs = [.ref b] ∧ H l = some (.lst xs) ∧ H b = some (.lst zs) ∧ xs.length + zs.length ≤ sizeLine ∧ Q .non (upd H l (.lst (xs ++ zs)))
theorem mt_extend : MtM X "list.extend" rExtend := by
  intro pins s σ H x vs v us Q I rx rv h
  obtain ⟨l, b, xs, zs, rfl, rfl, hH, hB, hz, q⟩ := h
  cases rx
  obtain ⟨u, rfl, ru⟩ := rv.one
  cases ru
  obtain ⟨z, its, n, r, hl, e⟩ := I.lstM hH
  obtain ⟨z2, its2, n2, r2, hl2, e2⟩ := I.lstM hB
  have hsz : its.toArray.size + its2.toArray.size ≤ sizeLine := by rw [List.size_toArray, List.size_toArray]; omega
  have hlong : ¬ (!its.toArray.isEmpty && Builtin.List.listTooLong (its.toArray.size + its2.toArray.size)) = true := by
    rw [notLongL hsz, Bool.and_false]
    exact Bool.false_ne_true
  refine call_meets F.slot_list_extend ⟨_, e, rfl⟩ F.entry_list_extend (F.args_list_extend_2 _ _)
    (AutoSeq1.list_extend_list_list_0 l its.toArray n b its2.toArray n2 hlong (by rw [List.size_toArray]; omega) (by omega)) ⟨e, e2, ?_⟩
  refine ⟨.non, _, I.lset (its' := its ++ its2) hH e (by simp) (r.append r2) ?_, rfl, q⟩
  rw [List.length_append]
  omega
noncomputable def rCat : R2 := fun x y H Q => ∃ l b xs zs, x = .ref l ∧ y = .ref b ∧ H l = some (.lst xs) ∧ H b = some (.lst zs) ∧ xs.length + zs.length ≤ sizeLine ∧ ∀ p, H p = none → Q (.ref p) (upd H p (.lst (xs ++ zs)))
theorem op_cat : OpR X (binaryOp .Add) rCat := by
  intro pins s σ H x y v u Q I rx ry h
  obtain ⟨l, b, xs, zs, rfl, rfl, hH, hB, hz, q⟩ := h
  cases rx
  cases ry
  obtain ⟨z, its, n, r, hl, e⟩ := I.lstM hH
  obtain ⟨z2, its2, n2, r2, hl2, e2⟩ := I.lstM hB
  refine PySem.P.add_list e e2 ?_ (by rw [List.size_toArray, List.size_toArray]; omega)
  have ea : its.toArray ++ its2.toArray = (its ++ its2).toArray := by simp
  rw [ea]
  exact ⟨.ref _, _, I.lnew (t' := s.toks) (r.append r2) (by rw [List.length_append]; omega), rfl, q _ I.fresh⟩
noncomputable def rRep : R2 := fun x y H Q => ∃ l k xs, x = .ref l ∧ y = .int k ∧ H l = some (.lst xs) ∧ -(2 ^ 63) ≤ k ∧ k < 2 ^ 63 ∧ xs.length * k.toNat ≤ sizeLine ∧
  ∀ p, H p = none → Q (.ref p) (upd H p (.lst (List.replicate k.toNat xs).flatten))
theorem len_rep {α : Type} (xs : List α) (k : Nat) : (List.replicate k xs).flatten.length = k * xs.length := by
  induction k with
  | zero => simp
  | succ k ih => rw [List.replicate_succ, List.flatten_cons, List.length_append, ih, Nat.succ_mul, Nat.add_comm]
theorem op_rep : OpR X (binaryOp .Mult) rRep := by
  intro pins s σ H x y v u Q I rx ry h
  obtain ⟨l, k, xs, rfl, rfl, hH, h1, h2, hz, q⟩ := h
  cases rx
  obtain ⟨t, rfl⟩ := ry
  obtain ⟨z, its, n, r, hl, e⟩ := I.lstM hH
  have hlen : its.toArray.size * k.toNat ≤ sizeLine := by rw [List.size_toArray, ← hl]; exact hz
  have hcap : ¬ its.toArray.size * k.toNat > (2 ^ 63 - 1) / 8 := by
    have : (sizeLine : Nat) ≤ (2 ^ 63 - 1) / 8 := by decide
    omega
  have hfit : ¬ (!Builtin.List.listFitsIndex k) = true := by
    rw [fitsIndex_both h1 h2]
    exact Bool.false_ne_true
  have hlong : ¬ Builtin.List.listTooLong (its.toArray.size * k.toNat) = true := by
    rw [notLongL hlen]
    exact Bool.false_ne_true
  have hnew : List.foldl (fun x1 x2 => x1 ++ x2) #[] (List.replicate (if its.toArray.isEmpty = true then 0 else k.toNat) its.toArray) = (List.replicate k.toNat its).flatten.toArray := by
    have f0 : ∀ m : Nat, List.foldl (fun x1 x2 => x1 ++ x2) #[] (List.replicate m its.toArray) = (List.replicate m its).flatten.toArray := fun m => by
      have := foldl_rep its m []
      rw [List.nil_append] at this
      exact this
    rw [f0]
    cases its with
    | nil => simp
    | cons a r' => rw [if_neg (by simp)]
  refine wpAny_binaryOp_repeat_ref (T := "list") (U := "int") (by decide) ⟨_, e, rfl⟩ (fun s' => typeIs_int s' k t) noFill_list_mul F.fills_int_mul F.slot_int_rmul repeat_list F.slot_int_index.lookup
    (call_meets F.slot_int_rmul (typeIs_int s k t) F.entry_int_rmul (F.args_int_rmul_2 _ _) (int___rmul___int_list k t l its.toArray n)
      ⟨e, rfl, ⟨_, e, rfl⟩, call_meets F.slot_list_mul ⟨_, e, rfl⟩ F.entry_list_mul (F.args_list_mul_2 _ _) (AutoListH.list___mul___list_int_3 l its.toArray n k t hfit hcap hlong) ⟨e, ?_⟩⟩)
  rw [hnew]
  exact ⟨.ref _, _, I.lnew (t' := s.toks) (r.rep k.toNat) (by rw [len_rep, Nat.mul_comm]; exact hz), rfl, q _ I.fresh⟩
end
section
variable {prog : Program} {w : World} {A : Around} {E : Value → Shared → Prop} {s : Shared}
end
section
variable {X : Cx}
end
end L2
namespace L2
open PySem PySem.Spec PyProof.Rows
section
variable {κ : Type} [DecidableEq κ]
noncomputable def valV (kvs : List (κ × V)) (k : κ) : Option V := (kvs.find? fun kv => decide (kv.1 = k)).map (·.2)
noncomputable def putK (kvs : List (κ × V)) (k : κ) (v : V) : List (κ × V) :=
  if (kvs.any fun kv => decide (kv.1 = k)) = true then kvs.map (fun kv => if kv.1 = k then (kv.1, v) else kv) else kvs ++ [(k, v)]
noncomputable def dropK (kvs : List (κ × V)) (k : κ) : List (κ × V) := kvs.filter fun kv => decide (kv.1 ≠ k)
theorem valV_pos {p : κ × V} {r : List (κ × V)} {k : κ} (e : p.1 = k) : valV (p :: r) k = some p.2 := by simp [valV, List.find?_cons, e]
theorem valV_neg {p : κ × V} {r : List (κ × V)} {k : κ} (e : ¬ p.1 = k) : valV (p :: r) k = valV r k := by simp [valV, List.find?_cons, e]
theorem valV_any (k : κ) : ∀ kvs : List (κ × V), (kvs.any fun kv => decide (kv.1 = k)) = (valV kvs k).isSome
  | [] => rfl
  | p :: r => by
    rw [List.any_cons]
    by_cases e : p.1 = k
    · simp only [valV_pos e, decide_eq_true e, Bool.true_or, Option.isSome_some]
    · rw [valV_neg e, decide_eq_false e, Bool.false_or]; exact valV_any k r
theorem length_putK (kvs : List (κ × V)) (k : κ) (v : V) : (putK kvs k v).length ≤ kvs.length + 1 := by
  unfold putK
  split
  · rw [List.length_map]; omega
  · rw [List.length_append, List.length_cons, List.length_nil]; omega
theorem RelO.isSome_eq {o : Option V} {u : Option Value} (r : RelO o u) : o.isSome = u.isSome := by
  cases o with
  | none => cases u with
    | none => rfl
    | some _ => exact (show False from r).elim
  | some _ => cases u with
    | none => exact (show False from r).elim
    | some _ => rfl
theorem RelO.getD {o : Option V} {u : Option Value} {d : V} {d' : Value} (r : RelO o u) (rd : RelV d d') : RelV (o.getD d) (u.getD d') := by
  cases o with
  | none => cases u with
    | none => exact rd
    | some _ => exact (show False from r).elim
  | some _ => cases u with
    | none => exact (show False from r).elim
    | some _ => exact r
theorem KV.val {kvs : List (κ × V)} {vs : List (κ × Value)} (r : KV kvs vs) (k : κ) : RelO (valV kvs k) (valueAt vs k) := by
  unfold KV at r
  induction r with
  | nil => exact True.intro
  | @cons p q ps qs h t ih =>
    obtain ⟨h1, h2⟩ := h
    by_cases e : p.1 = k
    · have e' : q.1 = k := h1.symm.trans e
      have b : valueAt (q :: qs) k = some q.2 := by simp [valueAt, List.find?_cons, e']
      rw [valV_pos e, b]; exact h2
    · have e' : ¬ q.1 = k := fun z => e (h1.trans z)
      have b : valueAt (q :: qs) k = valueAt qs k := by simp [valueAt, List.find?_cons, e']
      rw [valV_neg e, b]; exact ih
theorem KV.any {kvs : List (κ × V)} {vs : List (κ × Value)} (r : KV kvs vs) (k : κ) : (kvs.any fun kv => decide (kv.1 = k)) = vs.any fun kv => decide (kv.1 = k) := by
  unfold KV at r
  induction r with
  | nil => rfl
  | cons h t ih => rw [List.any_cons, List.any_cons, ih, h.1]
theorem KV.repl {kvs : List (κ × V)} {vs : List (κ × Value)} (r : KV kvs vs) (k : κ) {y : V} {u : Value} (ry : RelV y u) :
    KV (kvs.map fun kv => if kv.1 = k then (kv.1, y) else kv) (vs.map fun kv => if kv.1 = k then (kv.1, u) else kv) := by
  unfold KV at r ⊢
  induction r with
  | nil => exact .nil
  | @cons p q ps qs h t ih =>
    rw [List.map_cons, List.map_cons]
    refine .cons ?_ ih
    obtain ⟨h1, h2⟩ := h
    by_cases e : p.1 = k
    · rw [if_pos e, if_pos (h1.symm.trans e)]; exact ⟨h1, ry⟩
    · rw [if_neg e, if_neg (fun z => e (h1.trans z))]; exact ⟨h1, h2⟩
theorem KV.put {kvs : List (κ × V)} {vs : List (κ × Value)} (r : KV kvs vs) (k : κ) {y : V} {u : Value} (ry : RelV y u) : KV (putK kvs k y) (stored vs k u) := by
  unfold putK stored
  rw [r.any k]
  by_cases e : (vs.any fun kv => decide (kv.1 = k)) = true
  · rw [if_pos e, if_pos e]; exact r.repl k ry
  · rw [if_neg e, if_neg e]; exact Paired.snoc r ⟨rfl, ry⟩
theorem KV.length {kvs : List (κ × V)} {vs : List (κ × Value)} (r : KV kvs vs) : kvs.length = vs.length := Paired.length r
end
theorem kV_is {P : Program} {w : World} {k : Key} {u : Value} (r : RelV (kV k) u) : (mixKind P w).is k u = true := by
  cases k with
  | inl i => obtain ⟨t, e⟩ := (show ∃ t, u = Value.int i t from r); subst e; exact mixKind_int P w i t
  | inr x => obtain ⟨t, e⟩ := (show ∃ t, u = Value.str x t from r); subst e; exact mixKind_str P w x t
theorem items_are {P : Program} {w : World} : ∀ {ks : List Key} {us : List Value}, Vals (ks.map kV) us → ItemsAre (mixKind P w) ks us
  | [], _, r => by rw [List.map_nil] at r; cases r; exact .nil
  | k :: ks, _, r => by
    rw [List.map_cons] at r
    cases r with
    | cons h t => exact .cons (kV_is h) (items_are t)
abbrev KT (H : Hp) : List (List Key × V) → List (List Key × Addr × Value) → Prop := Paired fun p q => p.1 = q.1 ∧ H q.2.1 = some (.tup (p.1.map kV)) ∧ RelV p.2 q.2.2
theorem KT.val {H : Hp} {kvs : List (List Key × V)} {xs : List (List Key × Addr × Value)} (r : KT H kvs xs) (k : List Key) : RelO (valV kvs k) ((atKey xs k).map (·.2)) := by
  induction r with
  | nil => exact True.intro
  | @cons p q ps qs h t ih =>
    obtain ⟨h1, _, h2⟩ := h
    by_cases e : p.1 = k
    · have e' : q.1 = k := h1.symm.trans e
      have b : atKey (q :: qs) k = some q.2 := by simp [atKey, List.find?_cons, e']
      rw [valV_pos e, b]; exact h2
    · have e' : ¬ q.1 = k := fun z => e (h1.trans z)
      have b : atKey (q :: qs) k = atKey qs k := by simp [atKey, List.find?_cons, e']
      rw [valV_neg e, b]; exact ih
theorem KT.repl {H : Hp} {kvs : List (List Key × V)} {xs : List (List Key × Addr × Value)} (r : KT H kvs xs) (k : List Key) {y : V} {u : Value} (ry : RelV y u) :
    KT H (kvs.map fun kv => if kv.1 = k then (kv.1, y) else kv) (xs.map (putAt k u)) := by
  induction r with
  | nil => exact .nil
  | @cons p q ps qs h t ih =>
    rw [List.map_cons, List.map_cons]
    refine .cons ?_ ih
    obtain ⟨h1, h2, h3⟩ := h
    unfold putAt
    by_cases e : p.1 = k
    · rw [if_pos e, if_pos (h1.symm.trans e)]; exact ⟨h1, h2, ry⟩
    · rw [if_neg e, if_neg (fun z => e (h1.trans z))]; exact ⟨h1, h2, h3⟩
theorem KT.put {H : Hp} {kvs : List (List Key × V)} {xs : List (List Key × Addr × Value)} (r : KT H kvs xs) (k : List Key) {b : Addr} {y : V} {u : Value} (hb : H b = some (.tup (k.map kV))) (ry : RelV y u) :
    KT H (putK kvs k y) (storedH xs k b u) := by
  have e : (kvs.any fun kv => decide (kv.1 = k)) = (atKey xs k).isSome := by
    rw [valV_any, (r.val k).isSome_eq, Option.isSome_map]
  unfold putK storedH
  rw [e]
  by_cases q : (atKey xs k).isSome = true
  · rw [if_pos q, if_pos q]; exact r.repl k ry
  · rw [if_neg q, if_neg q]; exact Paired.snoc r ⟨rfl, hb, ry⟩
theorem KT.keeps {H H' : Hp} {kvs : List (List Key × V)} {xs : List (List Key × Addr × Value)} (r : KT H kvs xs) (ht : ∀ b ys, H b = some (.tup ys) → H' b = some (.tup ys)) : KT H' kvs xs :=
  Paired.mapP r fun _ _ z => ⟨z.1, ht _ _ z.2.1, z.2.2⟩
section
variable {P : Program} {w : World} {H : Hp} {h : Heap} {a : Addr}
theorem rd_of {u : HO} (ok : HOk P w H h) (e : Rd H a u) : ObjOk P w H h a u := e.ok ok
theorem dk_rd {kvs : List (Key × V)} (ok : HOk P w H h) (e : Rd H a (.dK kvs)) : kvs.length ≤ sizeLine ∧ (a == sysModules) = false ∧ ∃ vs, KV kvs vs ∧ h.DictOf (mixKind P w) a vs :=
  show ObjOk P w H h a (.dK kvs) from rd_of ok e
theorem dk_of {kvs : List (Key × V)} (ok : HOk P w H h) (e : H a = some (.dK kvs)) : kvs.length ≤ sizeLine ∧ (a == sysModules) = false ∧ ∃ vs, KV kvs vs ∧ h.DictOf (mixKind P w) a vs := dk_rd ok (.inl e)
theorem key_of {ks : List Key} (ok : HOk P w H h) (e : H a = some (.tup (ks.map kV))) : (tupleKind (mixKind P w)).is h ks a := by
  obtain ⟨_, its, r, o, h1, h2, n, h3⟩ := (show ObjOk P w H h a (.tup (ks.map kV)) from ok a _ e)
  exact ⟨o, its.toArray, n, h1, h2, h3, by simpa using items_are r⟩
theorem dt_rd {kvs : List (List Key × V)} (ok : HOk P w H h) (e : Rd H a (.dT kvs)) : kvs.length ≤ sizeLine ∧ (a == sysModules) = false ∧
    ∃ xs, KT H kvs xs ∧ h.DictOfH (tupleKind (mixKind P w)) a xs := by
  obtain ⟨z, y, xs, r, o, es, ep, h1, h2, h3, h4, h5⟩ := (show ObjOk P w H h a (.dT kvs) from rd_of ok e)
  refine ⟨z, y, xs, r, o, es, ep, h1, h2, h3, h4, fun x hx => ?_, h5⟩
  have all : ∀ {l : List (List Key × V)} {m : List (List Key × Addr × Value)}, KT H l m → ∀ x ∈ m, (tupleKind (mixKind P w)).is h x.1 x.2.1 := by
    intro l m q
    induction q with
    | nil => intro x hx; exact nomatch hx
    | @cons p q ps qs hq t ih =>
      intro x hx
      rcases List.mem_cons.mp hx with e | hx
      · subst e
        exact key_of ok (by rw [← hq.1]; exact hq.2.1)
      · exact ih x hx
  exact all r x hx
theorem dt_of {kvs : List (List Key × V)} (ok : HOk P w H h) (e : H a = some (.dT kvs)) : kvs.length ≤ sizeLine ∧ (a == sysModules) = false ∧
    ∃ xs, KT H kvs xs ∧ h.DictOfH (tupleKind (mixKind P w)) a xs := dt_rd ok (.inl e)
end
noncomputable def DGet (H : Hp) (a : Addr) (y : V) (r : Option V) : Prop :=
  (∃ kvs k, Rd H a (.dK kvs) ∧ y = kV k ∧ r = valV kvs k) ∨ ∃ kvs k b, Rd H a (.dT kvs) ∧ y = .ref b ∧ H b = some (.tup (k.map kV)) ∧ r = valV kvs k
noncomputable def DPut (H : Hp) (a : Addr) (y v : V) (H' : Hp) : Prop :=
  (∃ kvs k, H a = some (.dK kvs) ∧ y = kV k ∧ kvs.length < sizeLine ∧ H' = upd H a (.dK (putK kvs k v))) ∨
  ∃ kvs k b, H a = some (.dT kvs) ∧ y = .ref b ∧ H b = some (.tup (k.map kV)) ∧ kvs.length < sizeLine ∧ H' = upd H a (.dT (putK kvs k v))
theorem DPut.k {H : Hp} {a : Addr} {kvs : List (Key × V)} {k : Key} {v : V} (e : H a = some (.dK kvs)) (hl : kvs.length < sizeLine) : DPut H a (kV k) v (upd H a (.dK (putK kvs k v))) := .inl ⟨kvs, k, e, rfl, hl, rfl⟩
section
variable {X : Cx} {pins : List (Addr × Obj)} {σ : St} {H : Hp} {s : Shared} {a : Addr} {y v : V} {u r : Value} {o : Option V} {A : Around} {E : Value → Shared → Prop}
theorem Inv.big (I : Inv X pins σ H s) : sysModules < s.heap.objs.size := by
  have h : mainGlobals < s.heap.objs.size := (I.mod.glob.keeps I.bk).lt
  exact Nat.lt_trans (by decide) h
theorem d_getItem {Q : Value → Shared → Prop} (hu : A.units + 1 < cLine) (I : Inv X pins σ H s) (g : DGet H a y (some v)) (ry : RelV y u) (h : ∀ w' s', Inv X pins σ H s' → RelV v w' → Q w' s') :
    wpAny (model X.prog X.w) A (getItem (.ref a) u) Q E s := by
  rcases g with ⟨kvs, k, e, ey, l⟩ | ⟨kvs, k, b, e, ey, eb, l⟩
  · subst ey
    obtain ⟨z, hd, vs, rel, dd⟩ := dk_rd I.hok e
    obtain ⟨w', hw, rw'⟩ := RelO.some_of (v := v) (o := valueAt vs k) (by rw [l]; exact rel.val k)
    exact wpAny_getItem_of (kV_is ry) dd.mapOf hw (h w' _ (I.tok _) rw')
  · subst ey
    cases (show u = Value.ref b from ry)
    obtain ⟨z, hd, xs, rel, dd⟩ := dt_rd I.hok e
    obtain ⟨w', hw, rw'⟩ := RelO.some_of (v := v) (o := (atKey xs k).map (·.2)) (by rw [l]; exact rel.val k)
    obtain ⟨p, hp, hp2⟩ := Option.map_eq_some_iff.mp hw
    refine wpAny_getItem_heap (tupleKind_room_in1 hu) (key_of I.hok eb) dd hp ?_
    rw [hp2]
    exact h w' _ (I.tok _) rw'
theorem d_write {h' : Heap} {t' : Nat} {ob : HO} (I : Inv X pins σ H s) (mu : Mut (H a)) (hs : Heap.SameBut a s.heap h') (he : ∃ q, h'.get? a = some q) (new : ObjOk X.prog X.w (upd H a ob) h' a ob) :
    Inv X pins σ (upd H a ob) { s with heap := h', toks := t' } :=
  I.write (x := a) (e := a) mu (.inl rfl) (fun b q hb z => (hs.2 b hb).trans z) he new
theorem dk_new {P : Program} {w : World} {H' : Hp} {h' : Heap} {kvs : List (Key × V)} {vs : List (Key × Value)} (z : kvs.length ≤ sizeLine) (hd : (a == sysModules) = false) (rel : KV kvs vs) (dd : h'.DictOf (mixKind P w) a vs) :
    ObjOk P w H' h' a (.dK kvs) := ⟨z, hd, vs, rel, dd⟩
theorem d_setItem {H' : Hp} {Q : Unit → Shared → Prop} (hu : A.units + 1 < cLine) (I : Inv X pins σ H s) (g : DPut H a y v H') (ry : RelV y u) (rv : RelV v r) (h : ∀ s', Inv X pins σ H' s' → Q () s') :
    wpAny (model X.prog X.w) A (setItem (.ref a) u r) Q E s := by
  rcases g with ⟨kvs, k, e, ey, l, eH⟩ | ⟨kvs, k, b, e, ey, eb, l, eH⟩
  · subst ey eH
    obtain ⟨z, hd, vs, rel, dd⟩ := dk_of I.hok e
    have hz : vs.length ≤ sizeLine := by rw [← rel.length]; exact z
    have hl : (putK kvs k v).length ≤ sizeLine := by have := length_putK kvs k v; omega
    refine wpAny_setItem_pairs (hsz := hz) (kV_is ry) dd fun h' dd' hs => h _ ?_
    have he : ∃ q, h'.get? a = some q := let ⟨q, _, _, hq, _⟩ := dd'; ⟨q, hq⟩
    exact d_write I (by rw [e]; exact True.intro) hs he (dk_new hl hd (rel.put k rv) dd')
  · subst ey eH
    cases (show u = Value.ref b from ry)
    obtain ⟨z, hd, xs, rel, dd⟩ := dt_of I.hok e
    have hz : xs.length ≤ sizeLine := by rw [← Paired.length rel]; exact z
    have hl : (putK kvs k v).length ≤ sizeLine := by have := length_putK kvs k v; omega
    refine wpAny_setItem_heap (hsz := hz) (tupleKind_room_in1 hu) (key_of I.hok eb) dd fun h' dd' hs => h _ ?_
    obtain ⟨q, es, ep, hq, h2, h3, h4, _, h5⟩ := dd'
    refine d_write I (by rw [e]; exact True.intro) hs ⟨q, hq⟩ ⟨hl, hd, _, (rel.put k eb rv).keeps fun c ys ec => ?_, q, es, ep, hq, h2, h3, h4, h5⟩
    rw [upd_ne (ne_of ec e (fun z => nomatch z))]
    exact ec
end
section
variable {X : Cx} {pins : List (Addr × Obj)} {σ : St} {H : Hp} {s : Shared} {a : Addr} {kvs : List (Key × V)} {k : Key} {u : Value} {A : Around} {E : Value → Shared → Prop}
theorem d_len {Q : Value → Shared → Prop} (I : Inv X pins σ H s) (e : Rd H a (.dK kvs)) (h : ∀ t s', Inv X pins σ H s' → Q (.int kvs.length t) s') : wpAny (model X.prog X.w) A (call (.builtin "len") [.ref a]) Q E s := by
  obtain ⟨z, hd, vs, rel, dd⟩ := dk_rd I.hok e
  refine call_len_dict hd dd (by rw [← rel.length]; rw [sizeLine_eq] at z; omega) ?_
  rw [← rel.length]
  exact h _ _ (I.tok _)
end
noncomputable def NoSl (i : Expr) : Prop := ∀ ov iv, subscripted i false ov iv = operate [ov, iv] (getItem ov iv)
theorem subD_of {prog : Program} {w : World} {A : Around} {E : Value → Shared → Prop} {s : Shared} {env : Env} {value slice : Expr} {pos : Pos} {T id : String} {Q : Value → Shared → Prop}
    (hl : typeLookup (.type T) "__getitem__" = pure (some (.builtin id))) (hs : NoSl slice)
    (h : wpAny (model prog w) A (eval value env) (fun o s₁ => wpAny (model prog w) A (eval slice env) (fun i s₂ => s₂.TypeIs o T ∧ wpAny (model prog w) A (getItem o i) Q E s₂) E s₁) E s) :
    wpAny (model prog w) A (eval (.Subscript value slice pos) env) Q E s := by
  refine Subscript_ (wpAny_mono h (fun o s₁ h₁ => wpAny_mono h₁ (fun i s₂ h₂ => ?_) fun _ _ x => x) fun _ _ x => x)
  obtain ⟨hT, h₂⟩ := h₂
  unfold subscriptTail
  refine wpAny_bind ?_
  rw [getitemInPython_of_ne hT.not_modules]
  refine wpAny_bind (wpAny_specialOf hT hl ?_)
  have fin : wpAny (model prog w) A (subscripted slice false o i) (fun r s₃ => wpAny (model prog w) A (letTemporaryGo value o r >>= fun _ => pure r) Q E s₃) E s₂ := by
    rw [hs o i]
    exact wpAny_operating (wpAny_mono h₂ (fun r s₃ h₃ => wpAny_bind (wpAny_letTemporaryGo (wpAny_pure h₃))) fun _ _ x => x)
  first
    | exact wpAny_pure (wpAny_bind fin)
    | exact wpAny_bind (wpAny_pure (wpAny_bind fin))
    | exact wpAny_bind fin
theorem dict_typeIs {X : Cx} {pins : List (Addr × Obj)} {σ : St} {H : Hp} {s : Shared} {a : Addr} {y : V} {o : Option V} (I : Inv X pins σ H s) (g : DGet H a y o) : s.TypeIs (.ref a) "dict" := by
  rcases g with ⟨kvs, k, e, _, _⟩ | ⟨kvs, k, b, e, _, _, _⟩
  · obtain ⟨_, _, vs, _, dd⟩ := dk_rd I.hok e
    exact dd.typeIs
  · obtain ⟨_, _, xs, _, dd⟩ := dt_rd I.hok e
    exact dd.typeIs
noncomputable def tDGet (td ty : TE) : TE := fun σ H Q => td σ H fun x H1 => ty σ H1 fun y H2 => ∃ a v, x = .ref a ∧ DGet H2 a y (some v) ∧ Q v H2
noncomputable def tDIn (ty td : TE) : TE := fun σ H Q => ty σ H fun y H1 => td σ H1 fun x H2 => ∃ a o, x = .ref a ∧ DGet H2 a y o ∧ Q (.bl o.isSome) H2
noncomputable def tDNotIn (ty td : TE) : TE := fun σ H Q => ty σ H fun y H1 => td σ H1 fun x H2 => ∃ a o, x = .ref a ∧ DGet H2 a y o ∧ Q (.bl (!o.isSome)) H2
noncomputable def sDPut (td ty tv : TE) : TS := fun D σ H => tv σ H fun v H1 => td σ H1 fun x H2 => ty σ H2 fun y H3 => ∃ a H4, x = .ref a ∧ DPut H3 a y v H4 ∧ D.nx σ H4
section
variable {X : Cx} {o i e value : Expr} {pos pos' tpos : Pos} {td ty tv : TE}
theorem pe_dget (hu : X.A.units + 1 < cLine) (ho : PE X o td) (hi : PE X i ty) (hs : NoSl i) : PE X (.Subscript o i pos) (tDGet td ty) := by
  intro pins s σ H Q I h
  refine subD_of PySem.F.slot_dict_getitem.lookup hs (thn (ho pins s σ H _ I h) fun u s1 ⟨x, H1, I1, rx, q1⟩ => thn (hi pins s1 σ H1 _ I1 q1) fun iv s2 ⟨y, H2, I2, ry, a, v, ex, g, q2⟩ => ?_)
  subst ex
  obtain rfl : u = Value.ref a := rx
  exact ⟨dict_typeIs I2 g, d_getItem hu I2 g ry fun w' s3 I3 rw' => ⟨v, H2, I3, rw', q2⟩⟩
theorem ps_dput (hu : X.A.units + 1 < cLine) (ho : PE X o td) (hi : PE X i ty) (hv : PE X value tv) (hs : swapsWith value (some (.Subscript o i pos')) pos.line X.env = pure false) :
    PS X (.Assign [.Subscript o i pos'] value pos) (sDPut td ty tv) := by
  intro pins s σ H D I h
  refine wpAny_Assign_Subscript (thn (hv pins s σ H _ I h) fun r s1 ⟨v, H1, I1, rv, q1⟩ => thn (ho pins s1 σ H1 _ I1 q1) fun u s2 ⟨x, H2, I2, rx, q2⟩ => thn (hi pins s2 σ H2 _ I2 q2) fun iv s3 ⟨y, H3, I3, ry, a, H4, ex, g, q3⟩ => ?_) hs
  subst ex
  obtain rfl : u = Value.ref a := rx
  exact d_setItem hu I3 g ry rv fun s4 I4 => ⟨σ, H4, I4, q3⟩
end
theorem dk_empty {P : Program} {w : World} {H : Hp} (h : Heap) (hb : sysModules < h.objs.size) : ObjOk P w H (h.push { cls := .type "dict", data := .dict #[] }) h.objs.size (.dK []) :=
  ⟨Nat.zero_le _, beq_eq_false_iff_ne.mpr (Ne.symm (Nat.ne_of_lt hb)), [], .nil, Heap.DictOf.new h⟩
noncomputable def tDNewK : TE := fun _ H Q => ∀ p, H p = none → Q (.ref p) (upd H p (.dK []))
section
variable {X : Cx} {pos : Pos}
theorem pe_dnewK : PE X (.Dict [] [] pos) tDNewK := fun pins s σ H Q I h =>
  wpAny_Dict_empty ⟨.ref s.heap.objs.size, _, I.laid (a := s.heap.objs.size) (o := .dK []) (t' := s.toks) (fun _ _ q => Heap.get?_push_of_some _ q) (Nat.le_refl _) (dk_empty s.heap I.big), rfl, h _ (I.hok.fresh (Nat.le_refl _))⟩
end
abbrev VV : List (V × V) → List (Value × Value) → Prop := Paired fun p q => RelV p.1 q.1 ∧ RelV p.2 q.2
structure M1 (X : Cx) (o : Expr) (m : Str) (apos : Pos) (e : Expr) (cpos : Pos) : Prop where
  base : attributeBase o m X.env (eval o X.env) = eval o X.env
  few : ((backTo cpos (starEach [e] X.env)).all (fun x => !x.1) && (backToKw cpos (keywordEach [] X.env)).all (fun x => x.1.isSome)
    && decide (([e] : List Expr).length + ([] : List Keyword).length + (if ([] : List Keyword).isEmpty then 0 else 1) < 30)) = true
  line : (apos.endLine == cpos.line) = true
  trees : backTo cpos (starEach [e] X.env) = [(false, eval e X.env)]
structure M2 (X : Cx) (o : Expr) (m : Str) (apos : Pos) (e f : Expr) (cpos : Pos) : Prop where
  base : attributeBase o m X.env (eval o X.env) = eval o X.env
  few : ((backTo cpos (starEach [e, f] X.env)).all (fun x => !x.1) && (backToKw cpos (keywordEach [] X.env)).all (fun x => x.1.isSome)
    && decide (([e, f] : List Expr).length + ([] : List Keyword).length + (if ([] : List Keyword).isEmpty then 0 else 1) < 30)) = true
  line : (apos.endLine == cpos.line) = true
  trees : backTo cpos (starEach [e, f] X.env) = [(false, eval e X.env), (false, eval f X.env)]
noncomputable def IsD (H : Hp) (a : Addr) : Prop := (∃ kvs, Rd H a (.dK kvs)) ∨ ∃ kvs, Rd H a (.dT kvs)
theorem isD_at {X : Cx} {pins : List (Addr × Obj)} {σ : St} {H : Hp} {s : Shared} {a : Addr} (I : Inv X pins σ H s) (d : IsD H a) :
    s.TypeIs (.ref a) "dict" ∧ (∀ b, Value.ref a = .ref b → ∃ ob, s.heap.get? b = some ob ∧ ob.dict = none) ∧ (a == sysModules) = false := by
  rcases d with ⟨kvs, e⟩ | ⟨kvs, e⟩
  · obtain ⟨_, hd, vs, _, dd⟩ := dk_rd I.hok e
    refine ⟨dd.typeIs, fun b q => ?_, hd⟩
    cases q
    obtain ⟨ob, _, _, h1, h2, _⟩ := dd
    exact ⟨ob, h1, h2.2.1⟩
  · obtain ⟨_, hd, xs, _, dd⟩ := dt_rd I.hok e
    refine ⟨dd.typeIs, fun b q => ?_, hd⟩
    cases q
    obtain ⟨ob, _, _, h1, h2, _⟩ := dd
    exact ⟨ob, h1, h2.2.1⟩
section
variable {X : Cx} {pins : List (Addr × Obj)} {σ : St} {H : Hp} {s : Shared} {a : Addr} {y d : V} {u r : Value} {o : Option V} {A : Around} {E : Value → Shared → Prop}
theorem d_get2 {Q : Value → Shared → Prop} (hu : A.units + 1 < cLine) (I : Inv X pins σ H s) (g : DGet H a y o) (ry : RelV y u) (rd : RelV d r) (h : ∀ w' s', Inv X pins σ H s' → RelV (o.getD d) w' → Q w' s') :
    wpAny (model X.prog X.w) A (call (.builtin "dict.get") [.ref a, u, r]) Q E s := by
  rcases g with ⟨kvs, k, e, ey, l⟩ | ⟨kvs, k, b, e, ey, eb, l⟩
  · subst ey
    obtain ⟨z, hd, vs, rel, dd⟩ := dk_rd I.hok e
    refine call_meetsIn PySem.F.slot_dict_get dd.typeIs PySem.F.entry_dict_get (PySem.F.args_dict_get_3 _ _ _) (meets_dict_get_default (mixKind X.prog X.w) a (kV_is ry) hd r) ⟨_, dd.mapOf, h _ _ (I.tok _) ?_⟩
    rw [l]
    exact (rel.val k).getD rd
  · subst ey
    cases (show u = Value.ref b from ry)
    obtain ⟨z, hd, xs, rel, dd⟩ := dt_rd I.hok e
    refine call_meetsIn PySem.F.slot_dict_get dd.typeIs PySem.F.entry_dict_get (PySem.F.args_dict_get_3 _ _ _) (meetsH_dict_get_default (tupleKind (mixKind X.prog X.w)) a b hd r) ⟨tupleKind_room_in1 hu, k, xs, key_of I.hok eb, dd, h _ _ (I.tok _) ?_⟩
    rw [l]
    exact (rel.val k).getD rd
end
noncomputable def tDGet1 (td ty : TE) : TE := fun σ H Q => td σ H fun x H1 => ∃ a, x = .ref a ∧ IsD H1 a ∧ ty σ H1 fun y H2 => ∃ o, DGet H2 a y o ∧ Q (o.getD .non) H2
noncomputable def tDGet2 (td ty tx : TE) : TE := fun σ H Q => td σ H fun x H1 => ∃ a, x = .ref a ∧ IsD H1 a ∧ ty σ H1 fun y H2 => tx σ H2 fun z H3 => ∃ o, DGet H3 a y o ∧ Q (o.getD z) H3
noncomputable def tDPop1 (td ty : TE) : TE := fun σ H Q => td σ H fun x H1 => ∃ a, x = .ref a ∧ IsD H1 a ∧ ty σ H1 fun y H2 => ∃ kvs k v, H2 a = some (.dK kvs) ∧ y = kV k ∧ valV kvs k = some v ∧ Q v (upd H2 a (.dK (dropK kvs k)))
section
variable {X : Cx} {o e f : Expr} {apos cpos : Pos} {td ty tx : TE}
theorem pe_dget2 (hu : X.A.units + 1 < cLine) (ho : PE X o td) (he : PE X e ty) (hf : PE X f tx) (m : M2 X o "get" apos e f cpos) : PE X (.Call (.Attribute o "get" apos) [e, f] [] cpos) (tDGet2 td ty tx) := by
  intro pins s σ H Q I h
  refine wpAny_Call_method m.base m.few m.line PySem.F.plainAttrs_dict PySem.F.slot_dict_get PySem.F.type_dict_get (thn (ho pins s σ H _ I h) fun u s1 ⟨x, H1, I1, rx, a, ex, d, q1⟩ => ?_)
  subst ex
  obtain rfl : u = Value.ref a := rx
  obtain ⟨t1, t2, _⟩ := isD_at I1 d
  refine ⟨t1, t2, ?_⟩
  rw [m.trees]
  refine Calls.callWith_builtin rfl (Calls.evalArgs_plain (Calls.spliced_cons (thn (he pins s1 σ H1 _ I1 q1) fun iv s2 ⟨y, H2, I2, ry, q2⟩ =>
    Calls.spliced_cons (thn (hf pins s2 σ H2 _ I2 q2) fun fv s3 ⟨z, H3, I3, rz, ov, g, q3⟩ => Calls.spliced_nil ?_))))
  exact d_get2 hu I3 g ry rz fun w' s4 I4 rw' => ⟨_, H3, I4, rw', q3⟩
end
section
variable {X : Cx} {pins : List (Addr × Obj)} {σ : St} {H : Hp} {s : Shared} {a : Addr} {kvs : List (Key × V)} {A : Around} {E : Value → Shared → Prop}
end
section
variable {X : Cx} {pins : List (Addr × Obj)} {σ : St} {H : Hp} {s : Shared} {a : Addr} {y : V} {u : Value} {A : Around} {E : Value → Shared → Prop}
end
end L2
namespace Att
open PySem PySem.W PySem.Calls PyProof.Rows
theorem ints_of_wellAll {P : Params} {h : Heap} : ∀ (ns : List Int) (vs : List Value), WellAll P h vs (ns.map WData.int) → IntsAre vs ns := by
  intro ns
  induction ns with
  | nil =>
    intro vs w
    rw [List.map_nil] at w
    cases w
    exact .nil
  | cons n ns ih =>
    intro vs w
    rw [List.map_cons] at w
    cases w with
    | cons a b =>
      cases a
      exact .cons _ _ (ih _ b)
theorem script_of {l : OpenLaw} {n : Nat} (hn : l.most = some n) {P : Params} {h : Heap} {args : List WData} {vals : List Value}
    (hpre : l.row.toRowW.claim.pre args = true) (hwl : WellAll P h vals args) :
    ∃ a vs ns, vals = [Value.ref a] ∧ args = [WData.list (ns.map WData.int)] ∧ h.get? a = some { cls := .type "list", data := .seq vs.toArray } ∧ IntsAre vs ns ∧ ns.length ≤ n := by
  have hsh : WShape.hasAll [] args [.list .int] = true := (pre_splitW hpre).1
  have hc : l.pre.holds [] { args := args } = true := (pre_splitW hpre).2
  obtain ⟨d, r, rfl, h1, h2⟩ := hasAllW_cons hsh
  obtain rfl := hasAllW_nil h2
  obtain ⟨xs, rfl, h3⟩ := hasW_list h1
  obtain ⟨ns, rfl⟩ := items_int h3
  have hlen : ns.length ≤ n := by
    unfold OpenLaw.pre at hc
    have h4 : (WTm.not (.lt (.lit (.int (n : Int))) (.len (.arg 0)))).holds [] { args := [.list (ns.map .int)] } = true := by
      have h4 := (holds_andW hc).1
      rw [hn] at h4
      exact h4
    have h5 := condW_of h4 (w_not (w_lt w_lit (w_len_list (w_arg rfl))))
    rw [List.length_map] at h5
    refine Nat.le_of_not_lt fun q => ?_
    have q' : (n : Int) < ((ns.length : Nat) : Int) := by omega
    first
      | (rw [decide_eq_true q'] at h5; exact absurd h5 (by decide))
      | (simp at h5; omega)
  cases hwl with
  | cons w1 w2 =>
    cases w2
    cases w1 with
    | list ho hall => exact ⟨_, _, ns, rfl, rfl, ho, ints_of_wellAll ns _ hall, hlen⟩
theorem post_true (l : OpenLaw) (args : List WData) : l.row.toRowW.claim.post args (.bool true) args = true :=
  postW_of (r := l.row.toRowW) (X := (true == true))
    (show WShape.has [] (.bool true) .bool = true by first | rfl | decide | simp [WShape.has, WShape.arms, WShape.armsAll])
    (show (WTm.eq .res (.lit (.bool true))).value [] { args := args, res := some (.bool true), after := args } = some (.bool (true == true)) from w_eq_bool (w_res rfl) w_lit) rfl
theorem attach_call {l : OpenLaw} {n : Nat} {q : Program} {loose : List Str} {XP : (Str → Option Value) → Heap → Prop} {YP : World → Heap → Prop} {d : DefRec}
    (hn : l.most = some n) (hdf : d.params.defaults = [])
    (call : ∀ (w : World) (s₀ s₁ : Shared) (mg mb : Str → Option Value) (fa : Addr) (o : Obj) (pm cd doc : Value) (a : Addr) (vs : List Value) (ns : List Int),
      Ground q loose [] XP w s₀ mg mb s₁.heap → YP w s₁.heap →
      s₁.heap.get? fa = some o → o.data = .func (docDef d.name d.params d.body d.scope pm cd doc) → s₁.heap.CodeRec cd d.name → mg d.name = some (.ref fa) →
      s₁.heap.get? a = some { cls := .type "list", data := .seq vs.toArray } → IntsAre vs ns → ns.length ≤ n → s₁.gens = #[] →
      codeAny (model l.prog w) callerA (.call (.ref fa) ⟨[.ref a], []⟩) (fun r s' => r = .ok (.ret (.bool true)) ∧ OldK s₁.heap s'.heap ∧ s'.os = s₁.os ∧ AllBare s'.gens) s₁) :
    WalkO q loose XP YP l.row.toRowW d [] (fun f vs => PySem.call f vs) := by
  intro w s₀ s₁ mg mb G Y fa o pm cd doc dV kV ho hd hcd hD hmg hg args vals as hpre hlay hrd hwl hlo
  obtain rfl : dV = .none := Dflts.none hD hdf
  obtain rfl : kV = .none := Dflts.noKw hD
  obtain ⟨a, vs, ns, rfl, rfl, hobj, hints, hlen⟩ := script_of hn hpre hwl
  refine enter_call (codeAny_mono (call w s₀ s₁ mg mb fa o pm cd doc a vs ns G Y ho (fd_plain hd) hcd hmg hobj hints hlen hg) fun r s' hq => ?_)
  obtain ⟨rfl, h2, h3, h4⟩ := hq
  exact ⟨.inl ⟨.bool true, .bool true, [], rfl, fun _ => rfl, .bool true, post_true l _, fun _ => ⟨List.Pairwise.nil, fun _ hm => (nomatch hm)⟩⟩, h2, h3, h4⟩
section
variable {prog : Program} {w : World} {A : Around} {E : Value → Shared → Prop} {s : Shared} {K : Frag}
end
end Att
namespace L2
open PySem PySem.Spec PyProof.Rows
theorem vals_ints : ∀ {vs : List Value} {ns : List Int}, IntsAre vs ns → Vals (ns.map V.int) vs
  | _, _, .nil => .nil
  | _, _, .cons n t h => .cons ⟨t, rfl⟩ (vals_ints h)
noncomputable def Only (H : Hp) : Prop := ∀ b, H b = none ∨ ∃ o xs, H b = some (.frz o (.lst xs))
theorem law_call {P : Program} {w : World} {K : PySem.W.Frag} {mg mb : Str → Option Value} {CX : CXT} {k : Nat} {fa a : Addr} {fd : FuncData} {x : Str} {sp : Sp} {s₁ : Shared} {vs : List Value} {ns : List Int}
    (KX : K.In s₁.heap) (hns : s₁.heap.Ns mainGlobals mg) (hb : s₁.heap.Ns builtinsNs mb) (hbb : ∀ x : Str, x ≠ "__name__" → mb x = bootBuiltins x) (hlim : s₁.heap.NoLimit) (hg : s₁.gens = #[])
    (ha : s₁.heap.get? a = some { cls := .type "list", data := .seq vs.toArray }) (hi : IntsAre vs ns) (hl : ns.length ≤ sizeLine) (hr : Room k callerA)
    (F : ∀ base : Heap, K.In base → base.Ns mainGlobals mg → FnOk P w K mg base CX k fa fd [x] sp) (hbind : ∀ (s : Shared) (u : Value), BindsTo s fd ⟨[u], []⟩ [(x, u)])
    (hsp : ∀ H : Hp, Only H → SqL K H a (ns.map V.int) → sp [.ref a] H (fun v _ => v = .bl true) fun _ _ _ => False)
    (hCX : ∀ H e s', CX [] H s₁ (fun _ _ _ => False) e s' → False) :
    codeAny (model P w) callerA (.call (.ref fa) ⟨[.ref a], []⟩) (fun r s' => r = .ok (.ret (.bool true)) ∧ OldK s₁.heap s'.heap ∧ s'.os = s₁.os ∧ AllBare s'.gens) s₁ := by
  have rv := vals_ints hi
  have lenV := hi.length
  have core : ∀ H : Hp, Only H → SqL K H a (ns.map V.int) → HOk P w H s₁.heap → (∀ b, H b ≠ none → b = a) → (H a ≠ none → K.lookup a = none) →
      codeAny (model P w) callerA (.call (.ref fa) ⟨[.ref a], []⟩) (fun r s' => r = .ok (.ret (.bool true)) ∧ OldK s₁.heap s'.heap ∧ s'.os = s₁.os ∧ AllBare s'.gens) s₁ := by
    intro H hO hS hok hA hK
    have base_of : ∀ {b : Addr} {o : Obj}, s₁.heap.get? b = some o → H b = none → (hidT s₁.heap H).get? b = some o := fun e n => hidT_get e n
    have noA : ∀ {b : Addr} {o : Obj} {es : Array DictEntry} {ep : Nat}, s₁.heap.get? b = some o → o.data = .dict es ep → H b = none := fun {b o es ep} e d => by
      cases q : H b with
      | none => rfl
      | some u =>
        have e' : b = a := hA b (by rw [q]; simp)
        subst e'
        rw [ha] at e; cases e
        have d' : Data.seq vs.toArray _ = Data.dict es ep := d
        cases d'
    have nsK : ∀ {b : Addr} {m : Str → Option Value}, s₁.heap.Ns b m → (hidT s₁.heap H).Ns b m := fun {b m} ⟨o, es, ep, e, d, r⟩ => ⟨o, es, ep, base_of e (noA e d), d, r⟩
    have hKb : K.In (hidT s₁.heap H) := fun b o e => base_of (KX b o e) (by
      cases q : H b with
      | none => rfl
      | some u =>
        have e' : b = a := hA b (by rw [q]; simp)
        subst e'
        rw [hK (by rw [q]; simp)] at e; cases e)
    have hM : Mod K mg (hidT s₁.heap H) := ⟨hKb, nsK hns, ⟨mb, nsK hb, hbb⟩, let ⟨mc, h1, h2⟩ := hlim; ⟨mc, nsK h1, h2⟩⟩
    have e0 : Env0 P w K mg (hidT s₁.heap H) callerA [] s₁ H := ⟨rfl, hM, fun b o e => of_hidT e, Nat.le_of_eq (hidT_size _ _), trivial, fun b hb => absurd (show b ∈ ([] : List Addr) from hb) (by simp), hok, .of_eq hg⟩
    refine codeAny_mono ((F _ hKb (nsK hns)).run callerA [] s₁ H ⟨[.ref a], []⟩ [.ref a] [.ref a] _ _ hr e0 (hbind s₁ (.ref a)) (.cons rfl .nil) (hsp H hO hS)) fun r s' h => ?_
    cases r with
    | error e => exact (hCX H e s' h).elim
    | ok fl =>
      cases fl with
      | next => exact False.elim h
      | brk => exact False.elim h
      | cont => exact False.elim h
      | ret u =>
        obtain ⟨v, H', os, bare, un, hok', r', q⟩ := h
        have q' : v = .bl true := q
        subst q'
        obtain rfl : u = Value.bool true := r'
        refine ⟨rfl, OldK.of_keep fun b o e => ?_, os, bare⟩
        cases q : H b with
        | none => exact un.keep b o e q (by intro z; exact absurd (show b ∈ ([] : List Addr) from z) (by simp)) (by simp)
        | some u =>
          rcases hO b with z | ⟨ob, xs, z⟩
          · rw [q] at z; cases z
          · have z2 := un.frzs b ob _ z
            obtain ⟨e1, _⟩ := hok b _ z
            obtain ⟨e2, _⟩ := hok' b _ z2
            rw [e] at e1; cases e1
            exact e2
  cases hk : K.lookup a with
  | some o =>
    have e := KX a o hk
    rw [ha] at e
    cases e
    refine core (fun _ => none) (fun _ => .inl rfl) (.inr ⟨_, vs.toArray, _, hk, rfl, rfl, rfl, by rw [List.size_toArray, lenV]; exact hl, by simpa using rv⟩) (fun b u z => by have z' : (none : Option HO) = some u := z; cases z') (fun b z => absurd rfl z) fun z => absurd rfl z
  | none =>
    refine core (fun b => if b = a then some (.frz { cls := .type "list", data := .seq vs.toArray } (.lst (ns.map V.int))) else none) (fun b => ?_) (.inl (.inr ⟨{ cls := .type "list", data := .seq vs.toArray }, if_pos rfl⟩)) (fun b u z => ?_) (fun b z => ?_) fun _ => hk
    · by_cases hb : b = a
      · exact .inr ⟨_, _, if_pos hb⟩
      · exact .inl (if_neg hb)
    · by_cases hb : b = a
      · have z' := (if_pos hb).symm.trans z
        cases z'
        subst hb
        exact ⟨ha, by rw [List.length_map]; exact hl, vs, _, rv, ha⟩
      · have z' := (if_neg hb).symm.trans z
        cases z'
    · by_cases hb : b = a
      · exact hb
      · exact absurd (if_neg hb) z
end L2
namespace L2
open PySem PySem.Spec PyProof.Rows
abbrev KOf {K : PySem.W.Frag} {h : Heap} (_ : K.In h) : PySem.W.Frag := K
theorem walk_of {l : PySem.W.OpenLaw} {n k : Nat} {q : Program} {loose : List Str} {XP : (Str → Option Value) → Heap → Prop} {YP : World → Heap → Prop} {d : DefRec} {K : Params → PySem.W.Frag} {CX : World → CXT} {sp : World → Sp} {x : Str}
    (hn : l.most = some n) (hn2 : n ≤ sizeLine) (hdf : d.params.defaults = []) (hr : Room k callerA)
    (hY : ∀ (w : World) (h : Heap), YP w h → (K w.params).In h)
    (F : ∀ (w : World) (mg : Str → Option Value) (fa : Addr) (h : Heap), (K w.params).In h → h.Ns mainGlobals mg → mg d.name = some (.ref fa) →
      ∃ fd : FuncData, (∀ (s : Shared) (u : Value), BindsTo s fd ⟨[u], []⟩ [(x, u)]) ∧
        ∀ base : Heap, (K w.params).In base → base.Ns mainGlobals mg → FnOk l.prog w (K w.params) mg base (CX w) k fa fd [x] (sp w))
    (hsp : ∀ (w : World) (H : Hp) (a : Addr) (ns : List Int), ns.length ≤ n → Only H → SqL (K w.params) H a (ns.map V.int) → sp w [.ref a] H (fun v _ => v = .bl true) fun _ _ _ => False)
    (hCX : ∀ (w : World) (H : Hp) (s : Shared) (e : Value) (s' : Shared), CX w [] H s (fun _ _ _ => False) e s' → False) :
    PySem.W.WalkO q loose XP YP l.row.toRowW d [] (fun f vs => PySem.call f vs) := by
  refine Att.attach_call hn hdf fun w s₀ s₁ mg mb fa o pm cd doc a vs ns G Y ho hd hcd hmg hobj hints hlen hg => ?_
  have KX := hY w _ Y
  obtain ⟨fd, hb, hF⟩ := F w mg fa _ KX G.T.g hmg
  exact law_call KX G.T.g G.T.b G.T.builtins G.T.nolimit hg hobj hints (Nat.le_trans hlen hn2) hr hF hb (fun H hO hS => hsp w H a ns hlen hO hS) fun H e s' => hCX w H s₁ e s'
end L2
namespace L2
open PySem PySem.Spec PyProof.Rows
noncomputable def defArgs (s : Stmt) : Arguments := match s with
  | .FunctionDef _ a _ _ _ _ _ _ _ _ => a
  | _ => { posonlyargs := [], args := [], vararg := none, kwonlyargs := [], kw_defaults := [], kwarg := none, defaults := [] }
noncomputable def defBody (s : Stmt) : List Stmt := match s with
  | .FunctionDef _ _ b _ _ _ _ _ _ _ => b
  | _ => []
noncomputable def defScope (s : Stmt) : Scope := match s with
  | .FunctionDef _ _ _ _ _ _ sc _ _ _ => sc
  | _ => { kind := .function, names := [], isGenerator := false, isCoroutine := false }
abbrev CX0 : CXT := fun _ _ _ _ _ _ => False
abbrev E0 : XK := fun _ _ _ => False
structure Fun (K : PySem.W.Frag) (x qual : Str) (st : Stmt) (f : Addr) (fd : FuncData) : Prop where
  ex : ∃ (oc : Value) (od : Option Addr) (kV doc pm : Value) (an : Option Addr) (cdv ct : Value) (osl : Array (Option Value)),
    fd = PySem.W.fnOf x qual (defArgs st) (defBody st) (defScope st) .none kV doc pm an cdv ct ∧ K.lookup f = some ⟨oc, od, .func fd, osl⟩ ∧ PySem.W.codeIn K cdv qual = true
  kp : PySem.W.keepIn K (.ref f) = true
section
variable {P : Program} {w : World} {K : PySem.W.Frag} {mg : Str → Option Value} {base : Heap}
theorem Fun.binds {x qual : Str} {st : Stmt} {f : Addr} {fd : FuncData} {ps : List Str} (F : Fun K x qual st f fd)
    (h : ∀ (kV doc pm : Value) (an : Option Addr) (cdv ct : Value) (us : List Value), us.length = ps.length → bindArgs (PySem.W.fnOf x qual (defArgs st) (defBody st) (defScope st) .none kV doc pm an cdv ct) ⟨us, []⟩ = pure (ps.zip us)) : Binds K fd ps [] := by
  obtain ⟨oc, od, kV, doc, pm, an, cdv, ct, osl, rfl, lk, hcd⟩ := F.ex
  exact .all (h kV doc pm an cdv ct)
theorem fun_mk {x qual : Str} {st : Stmt} {f : Addr} {oc : Value} {od an : Option Addr} {osl : Array (Option Value)} {kV doc pm cdv ct : Value} (l : K.lookup f = some ⟨oc, od, .func (PySem.W.fnOf x qual (defArgs st) (defBody st) (defScope st) .none kV doc pm an cdv ct), osl⟩)
    (c : PySem.W.codeIn K cdv qual = true) (k : PySem.W.keepIn K (.ref f) = true) : Fun K x qual st f (PySem.W.fnOf x qual (defArgs st) (defBody st) (defScope st) .none kV doc pm an cdv ct) := ⟨⟨oc, od, kV, doc, pm, an, cdv, ct, osl, rfl, l, c⟩, k⟩
end
theorem hu_of {A : Around} {k : Nat} (hr : Room k A) : A.units + 1 < cLine := Nat.lt_of_le_of_lt (Nat.add_le_add_left (by decide : 1 ≤ 64) _) hr.units
section
variable {X : Cx}
theorem pv (i : Nat) {x : Str} {pos : Pos} (hN : X.N[i]? = some x := by rfl) (hv : Vis X.env.scope x := by first | exact Or.inl rfl | exact Or.inr (Or.inl rfl) | exact Or.inr (Or.inr rfl)) (hd : (x == ("__debug__" : Str)) = false := by decide)
    (hcd : (x == ("__classdict__" : Str)) = false := by decide) : PE X (.Name x pos) (tVar i) := pe_var hN hv hd hcd
end
theorem iteT {A B : Prop} (h : A) : if true = true then A else B := by
  rw [if_pos rfl]
  exact h
theorem ite2 {c A B : Prop} [Decidable c] (h1 : c → A) (h2 : ¬ c → B) : if c then A else B := by
  by_cases h : c
  · rw [if_pos h]
    exact h1 h
  · rw [if_neg h]
    exact h2 h
noncomputable def Same (H H' : Hp) : Prop := ∀ b o, H b = some o → H' b = some o
theorem Same.refl (H : Hp) : Same H H := fun _ _ h => h
theorem Same.trans {H H1 H2 : Hp} (a : Same H H1) (b : Same H1 H2) : Same H H2 := fun c o h => b c o (a c o h)
theorem Same.seq {K : PySem.W.Frag} {H H' : Hp} {a : Addr} {xs : List V} (e : Same H H') (h : SqL K H a xs) : SqL K H' a xs := by
  rcases h with (h | ⟨o, h⟩) | h
  · exact .inl (.inl (e _ _ h))
  · exact .inl (.inr ⟨o, e _ _ h⟩)
  · exact .inr h
end L2
namespace L2
open PySem PySem.Spec PyProof.Rows
section
variable {X : Cx}
theorem call_lenD : CallR X (.builtin "len") (fun xs H Q => ∃ a kvs, xs = [V.ref a] ∧ H a = some (.dK kvs) ∧ Q (.int kvs.length) H) := by
  intro pins s σ H xs us Q I r h
  obtain ⟨a, kvs, rfl, ha, q⟩ := h
  obtain ⟨u, rfl, ru⟩ := vals1 r
  cases ru
  exact d_len I (.inl ha) fun t s' I' => ⟨.int kvs.length, H, I', ⟨t, rfl⟩, q⟩
end
section
variable {κ : Type} [DecidableEq κ]
end
end L2
namespace L2
open PySem PySem.Spec PyProof.Rows
noncomputable def Bt (n : Nat) (i : Int) : Prop := i.natAbs < 2 ^ n
theorem Bt.mono {m n : Nat} {i : Int} (h : Bt m i) (q : m ≤ n) : Bt n i := Nat.lt_of_lt_of_le h (Nat.pow_le_pow_right (by decide) q)
theorem Bt.bits {n : Nat} {i : Int} (h : Bt n i) : Builtin.Int.intBits i ≤ n := PyProof.Rows.intBits_le h
theorem Bt.mul {m n : Nat} {i j : Int} (h1 : Bt m i) (h2 : Bt n j) : Bt (m + n) (i * j) := by
  unfold Bt at *
  rw [Int.natAbs_mul, Nat.pow_add]
  exact Nat.mul_lt_mul_of_lt_of_lt h1 h2
theorem Bt.neg {n : Nat} {i : Int} (h1 : Bt n i) : Bt n (-i) := by
  unfold Bt at *
  omega
theorem Bt.le {n : Nat} {i j : Int} (h : Bt n j) (q : i.natAbs ≤ j.natAbs) : Bt n i := Nat.lt_of_le_of_lt q h
theorem Bt.of {n : Nat} {i : Int} (b : Nat) (h1 : -(b : Int) ≤ i) (h2 : i ≤ (b : Int)) (h : b < 2 ^ n := by decide +kernel) : Bt n i := by
  unfold Bt
  exact Nat.lt_of_le_of_lt (by omega) h
theorem Bt.log {n : Nat} {i : Int} (h : Bt n i) (q : n ≤ 9000 := by decide) : i.natAbs.log2 < 9000 := by
  by_cases z : i.natAbs = 0
  · rw [z]; decide
  · exact Nat.lt_of_lt_of_le ((Nat.log2_lt z).mpr h) q
theorem Bt.mulOk {m n : Nat} {i j : Int} (h1 : Bt m i) (h2 : Bt n j) (q : m + n ≤ 134217728 := by decide) : IntMulOk i j := mulOk_of_bits h1.bits h2.bits q
theorem mulOkL {i j : Int} (h1 : -(2 ^ 64) < i := by decide) (h2 : i < 2 ^ 64 := by decide) : IntMulOk i j := .of_left (intBits_le_64 h1 h2)
theorem mulOkR {i j : Int} (h1 : -(2 ^ 64) < j := by decide) (h2 : j < 2 ^ 64 := by decide) : IntMulOk i j := .of_right (intBits_le_64 h1 h2)
section
variable {X : Cx}
theorem op_mulB : OpR X (binaryOp .Mult) (rI IntMulOk fun i j => .int (i * j)) := opI fun _ _ _ _ _ _ _ hc q => mul_int q hc
noncomputable def CDivB (_ j : Int) : Prop := 0 < j ∧ j.natAbs.log2 < 9000
theorem CDivB.of {i j : Int} {n : Nat} (h : 0 < j) (b : Bt n j) (q : n ≤ 9000 := by decide) : CDivB i j := ⟨h, b.log q⟩
theorem CDivB.lit {i j : Int} (h : 0 < j := by decide) (q : j.natAbs.log2 < 9000 := by decide) : CDivB i j := ⟨h, q⟩
theorem op_fdivB : OpR X (binaryOp .FloorDiv) (rI CDivB fun i j => .int (i / j)) := opI fun i j _ _ _ _ _ hc q => by
  have h1 : (0 : Int) < j := hc.1
  exact floordiv_int (by omega) (by rw [Int.fdiv_eq_ediv_of_nonneg i (by omega)]; exact q) (.inl (PyProof.noPylong_of_log2 hc.2))
noncomputable def CDivS (_ j : Int) : Prop := j ≠ 0 ∧ j.natAbs.log2 < 9000
theorem CDivS.of {i j : Int} {n : Nat} (h : j ≠ 0) (b : Bt n j) (q : n ≤ 9000 := by decide) : CDivS i j := ⟨h, b.log q⟩
theorem op_fdivS : OpR X (binaryOp .FloorDiv) (rI CDivS fun i j => .int (i.fdiv j)) := opI fun _ _ _ _ _ _ _ hc q => floordiv_int hc.1 q (.inl (PyProof.noPylong_of_log2 hc.2))
theorem op_modB : OpR X (binaryOp .Mod) (rI (fun _ j => 0 < j) fun i j => .int (i % j)) := op_mod
noncomputable def rIxTH : R2 := fun x y H Q => ∃ p xs i v, x = .ref p ∧ y = .int i ∧ H p = some (.tup xs) ∧ atI xs i = some v ∧ Q v H
theorem ix_tupH : IxR X rIxTH := fun value slice pins s σ H x y v u Q I rx ry ⟨p, xs, i, z, e1, e2, e3, e4, q⟩ hs =>
  ix_tup value slice pins s σ H x y v u Q I rx ry ⟨p, xs, i, z, e1, e2, SqT.of e3, e4, q⟩ hs
noncomputable def rIxLH : R2 := fun x y H Q => ∃ p xs i v, x = .ref p ∧ y = .int i ∧ H p = some (.lst xs) ∧ atI xs i = some v ∧ Q v H
theorem ix_listH : IxR X rIxLH := fun value slice pins s σ H x y v u Q I rx ry ⟨p, xs, i, z, e1, e2, e3, e4, q⟩ hs =>
  ix_list value slice pins s σ H x y v u Q I rx ry ⟨p, xs, i, z, e1, e2, SqL.of e3, e4, q⟩ hs
noncomputable def tTupS (t : TA) : TE := fun σ H Q => t σ H fun xs H1 => xs.length ≤ sizeLine ∧ ∀ p H2, Same H1 H2 → H1 p = none → H2 p = some (.tup xs) → Q (.ref p) H2
theorem same_upd {H : Hp} {p : Addr} {o : HO} (h : H p = none) : Same H (upd H p o) := fun b u e => by
  rw [upd_ne (ne_of_none e h)]
  exact e
theorem pe_tupS {es : List Expr} {t : TA} {x1} {pos : Pos} (h : PA X es t) : PE X (.Tuple es x1 pos) (tTupS t) := fun pins s σ H Q I hq =>
  thn (h := wpAny_Tuple_spliced (thn (h pos pins s σ H _ I hq) fun us s1 ⟨xs, H1, I1, r, z, q⟩ => ⟨by rw [← r.length]; exact z, by
    have hf : H1 s1.heap.objs.size = none := I1.hok.fresh (Nat.le_refl _)
    refine ⟨.ref s1.heap.objs.size, upd H1 s1.heap.objs.size (.tup xs), I1.laid (t' := s1.toks) (fun b u e => Heap.get?_push_of_some _ e) (Nat.le_refl _) ?_, rfl, q _ _ (same_upd hf) hf upd_same⟩
    exact ⟨z, us, r, ⟨_, Heap.get?_push_size _ rfl, rfl, _, rfl⟩⟩⟩)) fun _ _ z => z
theorem call_lenT : CallR X (.builtin "len") (fun xs H Q => ∃ p ys, xs = [.ref p] ∧ H p = some (.tup ys) ∧ Q (.int ys.length) H) := fun pins s σ H xs us Q I r ⟨p, ys, e, h, q⟩ =>
  call_len_seq pins s σ H xs us Q I r ⟨p, ys, e, .inr (SqT.of h), q⟩
theorem call_lenL : CallR X (.builtin "len") (fun xs H Q => ∃ p ys, xs = [.ref p] ∧ H p = some (.lst ys) ∧ Q (.int ys.length) H) := fun pins s σ H xs us Q I r ⟨p, ys, e, h, q⟩ =>
  call_len_seq pins s σ H xs us Q I r ⟨p, ys, e, .inl (SqL.of h), q⟩
theorem call_lenQ : CallR X (.builtin "len") (fun xs H Q => ∃ p ns, xs = [.ref p] ∧ SqL X.K H p (List.map V.int ns) ∧ Q (.int (List.length ns : Nat)) H) := fun pins s σ H xs us Q I r ⟨p, ns, e, h, q⟩ =>
  call_len_seq pins s σ H xs us Q I r ⟨p, _, e, .inl h, by rw [List.length_map]; exact q⟩
noncomputable def rIxQ (K : PySem.W.Frag) : R2 := fun x y H Q => ∃ p ns i, x = .ref p ∧ y = .int i ∧ SqL K H p (List.map V.int ns) ∧ 0 ≤ i ∧ i < (List.length ns : Nat) ∧ Q (.int (ns.getD i.toNat 0)) H
theorem atI_ints {ns : List Int} {i : Int} (h0 : 0 ≤ i) (h1 : i < (ns.length : Nat)) : atI (ns.map V.int) i = some (.int (ns.getD i.toNat 0)) := by
  obtain ⟨j, rfl⟩ := Int.eq_ofNat_of_zero_le h0
  refine atI_nat ?_
  have hj : j < ns.length := by omega
  rw [List.getElem?_map, List.getElem?_eq_getElem hj]
  simp [List.getD_eq_getElem?_getD, List.getElem?_eq_getElem hj]
theorem ix_listS : IxR X (rIxQ X.K) := fun value slice pins s σ H x y v u Q I rx ry ⟨p, ns, i, e1, e2, e3, h0, h1, q⟩ hs =>
  ix_list value slice pins s σ H x y v u Q I rx ry ⟨p, _, i, _, e1, e2, e3, atI_ints h0 h1, q⟩ hs
structure Cal (P : Program) (w : World) (K : PySem.W.Frag) (mg : Str → Option Value) (base : Heap) (CX : CXT) (k : Nat) (x : Str) (ps : List Str) (sp : Sp) : Prop where
  ex : ∃ f fd, FnOk P w K mg base CX k f fd ps sp ∧ mg x = some (.ref f) ∧ PySem.W.keepIn K (.ref f) = true ∧ Binds K fd ps []
theorem pe_cal {CX : CXT} {k : Nat} {x : Str} {ps : List Str} {sp : Sp} {E : XK} {e : Expr} {es : List Expr} {t : TA} {p pos : Pos} (C : Cal X.prog X.w X.K X.mg X.base CX k x ps sp) (hr : Room k X.A) (hg : Gl X x) (hx : Passes CX X E) (ha : PA X (e :: es) t)
    (hdb : (x == ("__debug__" : Str)) = false := by decide) (he : starEach (e :: es) X.env = (false, eval e X.env) :: starEach es X.env := by rfl) (hpl : (backTo pos (starEach es X.env)).any (·.1) = false := by rfl) :
    PE X (.Call (.Name x p) (e :: es) [] pos) (tCall sp [] E t) := by
  obtain ⟨f, fd, F, hm, hk, hb⟩ := C.ex
  exact pe_call F hr hg hm hk hb .nil hx ha hdb he hpl
end
noncomputable def Strict (CX : CXT) : Prop := ∀ outer H s e s', ¬ CX outer H s (fun _ _ _ => False) e s'
theorem Strict.pass {CX : CXT} (h : Strict CX) {X : Cx} : Passes CX X E0 := fun _ _ H s e s' _ z => (h _ H s e s' z).elim
section
variable {P : Program} {w : World} {K : PySem.W.Frag} {mg : Str → Option Value} {base : Heap} {CX : CXT}
theorem Fun.okC {x qual : Str} {st : Stmt} {f : Addr} {fd : FuncData} {N ps : List Str} {k : Nat} {sp : Sp} (F : Fun K x qual st f fd) (S : FnScope N ps (defScope st)) (len : ∀ vs H Q E, sp vs H Q E → vs.length = ps.length)
    (hbody : ∀ (cdv : Value) (A : Around) (outer : List Env) (s : Shared) (H : Hp) (vs : List V) (Q : VK) (E : XK), Room k (A.deeper (envOfC qual (defScope st) s.heap.objs.size f cdv)) → sp vs H Q E →
      ∃ t, PSs (cxOf CX P w K mg base N qual (defScope st) f cdv A outer s H E).nox (defBody st) t ∧ t { nx := fun _ H' => Q .non H', rt := Q } (start N vs) H) : FnOk P w K mg base CX (k + 1) f fd ps sp := by
  obtain ⟨oc, od, kV, doc, pm, an, cdv, ct, osl, rfl, lk, hcd⟩ := F.ex
  refine fn_of lk hcd S len fun A outer s H vs Q E hr hsp => ?_
  obtain ⟨t, h, q⟩ := hbody cdv A outer s H vs Q E hr hsp
  exact ⟨t, h.nox, q⟩
structure Dn (K : PySem.W.Frag) (mg : Str → Option Value) (x : Str) (st : Stmt) : Prop where
  ex : ∃ f fd, Fun K x x st f fd ∧ mg x = some (.ref f)
theorem Dn.cal {x : Str} {st : Stmt} {ps : List Str} {k : Nat} {sp : Sp} (D : Dn K mg x st)
    (hb : ∀ (kV doc pm : Value) (an : Option Addr) (cdv ct : Value) (us : List Value), us.length = ps.length → bindArgs (PySem.W.fnOf x x (defArgs st) (defBody st) (defScope st) .none kV doc pm an cdv ct) ⟨us, []⟩ = pure (ps.zip us))
    (h : ∀ f fd, Fun K x x st f fd → FnOk P w K mg base CX k f fd ps sp) : Cal P w K mg base CX k x ps sp := by
  obtain ⟨f, fd, F, hm⟩ := D.ex
  exact ⟨f, fd, h f fd F, hm, F.kp, F.binds hb⟩
end
section
variable {X : Cx}
noncomputable def eqL (xs ys : List V) : Bool := (List.range (min xs.length ys.length)).all (fun j => eqV (xs.getD j .non) (ys.getD j .non)) && xs.length == ys.length
noncomputable def rEqT : R2 := fun x y H Q => ∃ p q xs ys, x = .ref p ∧ y = .ref q ∧ H p = some (.tup xs) ∧ H q = some (.tup ys) ∧ xs.all flatV = true ∧ ys.all flatV = true ∧ Q (.bl (eqL xs ys)) H
noncomputable def rInT : R2 := fun x y H Q => ∃ p xs, y = .ref p ∧ H p = some (.tup xs) ∧ flatV x = true ∧ xs.all flatV = true ∧ Q (.bl (inV x xs)) H
theorem call_isT : CallR X (.builtin "isinstance") (fun xs H Q => ∃ x c t b, xs = [x, .ty c] ∧ TyOf X.K H x t ∧ PySem.W.kitOne X.K t (.type c) = some b ∧ Q (.bl b) H) := by
  intro pins s σ H xs us Q I r h
  obtain ⟨x, c, t, b, rfl, ty, e, q⟩ := h
  obtain ⟨u, u', rfl, rx, rc⟩ := vals2 r
  cases rc
  exact isinst_ok I rx ty e fun tk => ⟨.bl b, H, I.tok tk, rfl, q⟩
end
theorem at0 {α : Type} {x : α} {l : List α} : atI (x :: l) 0 = some x := atI_nat (j := 0) rfl
theorem at1 {α : Type} {x y : α} {l : List α} : atI (x :: y :: l) 1 = some y := atI_nat (j := 1) rfl
theorem at2 {α : Type} {x y z : α} {l : List α} : atI (x :: y :: z :: l) 2 = some z := atI_nat (j := 2) rfl
noncomputable def Pr (a b : Int) : List V := [.int a, .int b]
theorem kit_ss {K : PySem.W.Frag} : PySem.W.kitOne K (.type "str") (.type "str") = some true := by unfold PySem.W.kitOne; rw [if_pos (by decide +kernel)]
end L2
namespace Nm
noncomputable def g (a b : Int) : Int := (Int.gcd a b : Nat)
theorem g_nn (a b : Int) : 0 ≤ g a b := Int.natCast_nonneg _
theorem g_pos {a b : Int} (h : b ≠ 0) : 0 < g a b := by
  have := Int.gcd_pos_of_ne_zero_right a h
  unfold g
  omega
theorem g_dvd_l (a b : Int) : g a b ∣ a := Int.gcd_dvd_left ..
theorem g_dvd_r (a b : Int) : g a b ∣ b := Int.gcd_dvd_right ..
theorem g_comm (a b : Int) : g a b = g b a := by unfold g; rw [Int.gcd_comm]
theorem g_le {a b : Int} (h : 0 < b) : g a b ≤ b := Int.le_of_dvd h (g_dvd_r a b)
theorem g_abs (a b : Int) : g (a.natAbs : Int) b = g a b := by
  unfold g Int.gcd
  rw [Int.natAbs_natCast]
theorem g_abs_r (a b : Int) : g a (b.natAbs : Int) = g a b := by
  rw [g_comm, g_abs, g_comm]
theorem g_neg (a b : Int) : g (-a) b = g a b := by
  unfold g Int.gcd
  rw [Int.natAbs_neg]
theorem g_step {a b : Int} (ha : 0 ≤ a) (_hb : 0 < b) : g b (a % b) = g a b := by
  unfold g Int.gcd
  rw [Int.natAbs_emod_of_nonneg ha, Nat.gcd_comm b.natAbs, ← Nat.gcd_rec, Nat.gcd_comm]
theorem g_zero {a : Int} (ha : 0 ≤ a) : g a 0 = a := by
  unfold g
  rw [Int.gcd_zero_right]
  omega
theorem g_abs_le {a b : Int} (h : b ≠ 0) : g a b ≤ (b.natAbs : Int) := by
  rw [← g_abs_r]
  exact g_le (by omega)
theorem low_gcd {a b : Int} (h : b ≠ 0) : g (a / g a b) (b / g a b) = 1 := by
  have p : 0 < Int.gcd a b := Int.gcd_pos_of_ne_zero_right a h
  unfold g
  rw [Int.gcd_ediv_gcd_ediv_gcd p]
  rfl
theorem low_pos {a b : Int} (h : 0 < b) : 0 < b / g a b := Int.ediv_pos_of_pos_of_dvd h (g_nn a b) (g_dvd_r a b)
theorem low_cross (a b : Int) : (a / g a b) * b = a * (b / g a b) := by
  rw [← Int.mul_ediv_assoc _ (g_dvd_r a b), Int.mul_comm a b, Int.mul_ediv_assoc _ (g_dvd_l a b), Int.mul_comm]
theorem cop_dvd {q a b : Int} (h : q ∣ a * b) (c : Int.gcd a q = 1) : q ∣ b := by
  have h1 := (Int.dvd_gcd_mul_iff_dvd_mul (k := q) (n := a) (m := b)).mpr h
  rw [Int.gcd_comm, c] at h1
  simpa using h1
theorem low_one {p q p' q' : Int} (h : 0 < q) (h' : 0 < q') (e : g p q = 1) (e' : g p' q' = 1) (c : p * q' = p' * q) : p = p' ∧ q = q' := by
  have c1 : Int.gcd p q = 1 := by unfold g at e; omega
  have c2 : Int.gcd p' q' = 1 := by unfold g at e'; omega
  have d1 : q ∣ q' := by
    have : q ∣ p * q' := ⟨p', by rw [c, Int.mul_comm]⟩
    exact cop_dvd this c1
  have d2 : q' ∣ q := by
    have : q' ∣ p' * q := ⟨p, by rw [← c, Int.mul_comm]⟩
    exact cop_dvd this c2
  have eq : q = q' := by
    have := Int.le_of_dvd h' d1
    have := Int.le_of_dvd h d2
    omega
  subst eq
  exact ⟨Int.eq_of_mul_eq_mul_right (by omega) c, rfl⟩
theorem quot_abs {a g : Int} (_h : 0 < g) (d : g ∣ a) : (a / g).natAbs ≤ a.natAbs := by
  rw [Int.natAbs_ediv_of_dvd d]
  exact Nat.div_le_self _ _
theorem back {a b c d p q x y : Int} (hq : 0 < q) (hd : 0 < d) (e : p * (b * d) = (a * d - c * b) * q) (f : x * (q * d) = (p * d + c * q) * y) : x * b = a * y := by
  have h : (x * b) * (q * d) = (a * y) * (q * d) := by grind
  exact Int.eq_of_mul_eq_mul_right (by have := Int.mul_pos hq hd; omega) h
end Nm
namespace L2
open PySem PySem.Spec PyProof.Rows PySem.W
theorem ObjOk.get {P : Program} {w : World} {H : Hp} {h : Heap} {a : Addr} : ∀ {o : HO}, ObjOk P w H h a o → ∃ ob, h.get? a = some ob
  | .lst _, x => let ⟨_, _, _, _, e⟩ := x; ⟨_, e⟩
  | .tup _, x => let ⟨_, _, _, o, e, _⟩ := x; ⟨o, e⟩
  | .dK _, x => let ⟨_, _, _, _, o, _, _, e, _⟩ := x; ⟨o, e⟩
  | .dT _, x => let ⟨_, _, _, _, o, _, _, e, _⟩ := x; ⟨o, e⟩
  | .set _ _, x => by
    obtain ⟨o, es, ep, t, e, _⟩ := x
    exact ⟨o, e⟩
  | .ins _ _ _, x => let ⟨_, _, _, e, _⟩ := x; ⟨_, e⟩
  | .own _, x => x
  | .xd _, x => by
    obtain ⟨mA, ⟨o, es, ep, e, _⟩, _⟩ := x
    exact ⟨o, e⟩
  | .rng _ _, x => let ⟨_, _, _, e⟩ := x; ⟨_, e⟩
  | .frz _ _, x => ⟨_, x.1⟩
  | .tbl _, x => ⟨_, x⟩
  | .met _ _, x => ⟨_, x⟩
  | .ext _, x => x.2.1
theorem HOk.inB {P : Program} {w : World} {H : Hp} {h h' B : Heap} (ok : HOk P w H h) (hB : ∀ b u o, H b = some u → h.get? b = some o → B.get? b = some o) (st : B.StaysIn h') : HOk P w H h' := fun a o e =>
  (ok a o e).stay (fun b u hb q => st b u (by
    rcases hb with rfl | hb
    · exact hB _ _ _ e q
    · exact hB _ _ _ hb q)) (fun _ r => r) fun _ _ r => r
structure Fly (P : Program) (w : World) (l : List Env) (H : Hp) (s : Shared) (H' : Hp) (ad : Addr) (cls : Value) (s' : Shared) : Prop where
  os : s'.os = s.os
  bare : AllBare s'.gens
  un : Un (frs l) [] H H' s.heap s'.heap
  hok : HOk P w H' s'.heap
  fl : ∃ B a0, Heap.FlyingW B l ad cls a0 s'.heap ∧ (∀ b o, s.heap.get? b = some o → H b = none → b ∉ frs l → B.get? b = some o) ∧ (∀ b o, s.heap.get? b = some o → b ∉ frs l → ∃ o', B.get? b = some o') ∧
    (∀ b u o, H' b = some u → s'.heap.get? b = some o → B.get? b = some o)
noncomputable def CX1 (P : Program) (w : World) : CXT := fun l H s E e s' => ∃ ad cls H', e = .ref ad ∧ Fly P w l H s H' ad cls s' ∧ E cls none H'
theorem strict1 (P : Program) (w : World) : Strict (CX1 P w) := fun _ _ _ _ _ ⟨_, _, _, _, _, h⟩ => h
section
variable {P : Program} {w : World} {K : PySem.W.Frag} {mg : Str → Option Value} {base : Heap} {N : List Str} {qual : Str} {scope : Scope} {f : Addr} {cdv : Value} {A : Around} {outer : List Env} {s0 : Shared} {H0 : Hp} {E : XK}
theorem xe_raise {pins : List (Addr × Obj)} {σ : St} {H : Hp} {s : Shared} {h' : Heap} {ad : Addr} {cls : Value} {vs : List Value}
    (I : Inv (cxOf (CX1 P w) P w K mg base N qual scope f cdv A outer s0 H0 E) pins σ H s) (mx : Heap.MadeExcOf s.heap h' ad cls vs) (e : E cls none H) :
    (cxOf (CX1 P w) P w K mg base N qual scope f cdv A outer s0 H0 E).xe (.ref ad) { s with heap := h' } := by
  let env : Env := envOfC qual scope s0.heap.objs.size f cdv
  have nin : ∀ b o, s0.heap.get? b = some o → b ∉ frs outer → b ∉ frs (env :: outer) := fun b o q hb z => by
    rcases List.mem_cons.mp (show b ∈ s0.heap.objs.size :: frs outer from z) with z | z
    · rw [z] at q
      exact absurd (Heap.lt_size q) (Nat.lt_irrefl _)
    · exact hb z
  have hin : ∀ b, b ∈ frs outer → b ∈ frs (env :: outer) := fun b hb => List.mem_cons.mpr (.inr hb)
  have ST : s.heap.FunFrames base (env :: outer) := I.stack
  have SF : ∀ b ∈ frs (env :: outer), H b = none := I.stkFree
  have BS : Un (frs outer) [] H0 H s0.heap s.heap := I.base
  show wpAny (model P w) (A.deeper env) (leaving env (.ref ad)) (fun _ s'' => CX1 P w outer H0 s0 E (.ref ad) s'') (fun e' s'' => CX1 P w outer H0 s0 E e' s'') { s with heap := h' }
  refine wpAny_leaves_madeW (base := hideAll s.heap (frs (env :: outer))) (h := s.heap) (L := s0.heap.objs.size) I.ok.frames rfl (fun b o q => of_hideAll _ q)
    (funFrames_hide ST fun en he a ha => List.mem_filterMap.mpr ⟨en, he, ha⟩) mx fun h2 t x1 _ _ x4 => ?_
  have x4 : Heap.UpToSlots h' h2 := x4
  have fr : ∀ b ∈ frs (env :: outer), ∀ o, s.heap.get? b = some o → ∃ sl, h2.get? b = some { o with slots := sl } := fun b hb o q => by
    obtain ⟨_, o1, q1, nf⟩ := ST.mem hb
    rw [q] at q1
    cases q1
    exact x4 b o (mx.keeps b o q) nf
  refine ⟨ad, cls, H, rfl, ⟨I.os, I.bare, ⟨fun b o q n hb hx => ?_, fun b o q n hb hx => ?_, BS.free, fun b o q hx => ?_, BS.tups, BS.frzs, BS.tbls⟩, ?_, ⟨_, _, x1, fun b o q n hb => ?_, fun b o q hb => ?_, fun b u o e1 q => ?_⟩⟩, e⟩
  · exact x1.1 b o (hideAll_get _ (BS.keep b o q n hb hx) (nin b o q hb))
  · obtain ⟨sl, q1⟩ := BS.slot b o q n hb hx
    obtain ⟨sl2, q2⟩ := fr b (hin b hb) _ q1
    exact ⟨sl2, q2⟩
  · obtain ⟨o1, q1⟩ := BS.there b o q hx
    by_cases hb : b ∈ frs (env :: outer)
    · obtain ⟨sl2, q2⟩ := fr b hb _ q1
      exact ⟨_, q2⟩
    · exact ⟨o1, x1.1 b o1 (hideAll_get _ q1 hb)⟩
  · exact HOk.inB I.hok (fun b u o e1 q => hideAll_get _ q fun z => by
      have := SF b z
      rw [e1] at this
      cases this) x1.1
  · exact hideAll_get _ (BS.keep b o q n hb (by simp)) (nin b o q hb)
  · obtain ⟨o1, q1⟩ := BS.there b o q (by simp)
    exact ⟨o1, hideAll_get _ q1 (nin b o q hb)⟩
  · obtain ⟨o1, q1⟩ := (I.hok b u e1).get
    have q2 := hideAll_get (frs (env :: outer)) q1 fun z => by
      have := SF b z
      rw [e1] at this
      cases this
    have q3 := x1.1 b o1 q2
    rw [q] at q3
    cases q3
    exact q2
end
end L2
namespace L2
open PySem PySem.Spec PyProof.Rows PySem.W
theorem exc_obj {K : Frag} {h : Heap} {C : Addr} {bmB : List Value} {newId : String} (X : K.In h) (q : excIn K C bmB newId = true) :
    ∃ tl N nm qn bs hdct sn sub ab col dd k0 k1 k2 k3 k5 mN, h.get? C = some (excClassObj nm qn C N bs tl hdct sn sub ab col dd k0 k1 k2 k3 k5 newId) ∧ h.Ns N mN ∧ mN "__init__" = none ∧ OwnTail h bmB tl := by
  unfold excIn at q
  split at q
  · rename_i dd cd sl ho
    split at q
    · rename_i C' bm k0 k1 k2 k3 n k5 hm hs
      simp only [Bool.and_eq_true, beq_iff_eq, Bool.not_eq_true'] at q
      obtain ⟨⟨⟨⟨⟨rfl, rfl⟩, hdel⟩, ht⟩, hok⟩, hni⟩ := q
      obtain ⟨nm, bs, mro, ns, qn, hd, sn, sub, ab, col, del⟩ := cd
      dsimp only at hm hdel hok hni
      subst hm hdel
      have hsl : sl = #[k0, k1, k2, k3, some (.builtin n), k5] := by
        obtain ⟨l⟩ := sl
        simp only at hs
        rw [hs]
      subst hsl
      exact ⟨bm, ns, nm, qn, bs, hd, sn, sub, ab, col, dd, k0, k1, k2, k3, k5, _, X _ _ ho, .of_isNs (isNs_of_in X hok), nsMap_none_of_in X hok hni, tail_of_in X ht⟩
    · cases q
  · cases q
abbrev bmVE : List Value := [.type "ValueError", .type "Exception", .type "BaseException", .type "object"]
abbrev newVE : String := "ValueError.__new__"
noncomputable def tRaise (C : Addr) (E : XK) (t : TA) : TS := fun _ σ H => t σ H fun vs H1 => vs.length ≤ sizeLine ∧ E (.ref C) none H1
section
variable {P : Program} {w : World} {K : PySem.W.Frag} {mg : Str → Option Value} {base : Heap} {N : List Str} {qual : Str} {scope : Scope} {f : Addr} {cdv : Value} {A : Around} {outer : List Env} {s0 : Shared} {H0 : Hp} {E : XK}
theorem ps_raise {x : Str} {C : Addr} {np cpos pos : Pos} {e : Expr} {es : List Expr} {t : TA} (hg : Gl (cxOf (CX1 P w) P w K mg base N qual scope f cdv A outer s0 H0 E) x) (hm : mg x = some (.ref C)) (q : excIn K C bmVE newVE = true)
    (hh : A.handled = none) (ha : PA (cxOf (CX1 P w) P w K mg base N qual scope f cdv A outer s0 H0 E) (e :: es) t) (hdb : (x == ("__debug__" : Str)) = false := by decide)
    (he : starEach (e :: es) (cxOf (CX1 P w) P w K mg base N qual scope f cdv A outer s0 H0 E).env = (false, eval e (cxOf (CX1 P w) P w K mg base N qual scope f cdv A outer s0 H0 E).env) :: starEach es (cxOf (CX1 P w) P w K mg base N qual scope f cdv A outer s0 H0 E).env := by rfl)
    (hpl : (backTo cpos (starEach es (cxOf (CX1 P w) P w K mg base N qual scope f cdv A outer s0 H0 E).env)).any (·.1) = false := by rfl) :
    PS (cxOf (CX1 P w) P w K mg base N qual scope f cdv A outer s0 H0 E) (.Raise (some (.Call (.Name x np) (e :: es) [] cpos)) none pos) (tRaise C E t) := by
  intro pins s σ H D I h
  have FB := PySem.F.excBase_ValueError
  obtain ⟨tl, Nn, nm, qn, bs, hdct, sn, sub, ab, col, dd, k0, k1, k2, k3, k5, mN, hC, hN, hni, T⟩ := exc_obj I.ok.mod.kin q
  refine wpAny_Raise_call_subT (C := C) (nm := nm) (q := qn) (N := Nn) (bs := bs) (bm := tl) (hdct := hdct) (sn := sn) (sub := sub) (ab := ab) (col := col) (dd := dd) (k0 := k0) (k1 := k1) (k2 := k2) (k3 := k3) (k5 := k5)
    FB (mN := mN) (T.hasType FB.hasBase) hh (by rw [he]; show (false || (backTo cpos (starEach es _)).any (·.1)) = false; rw [hpl]; rfl) hni (ld_glob I hg hm ⟨rfl, ?_⟩ hdb)
  rw [he]
  have ha' := ha cpos pins s σ H _ I h
  rw [he] at ha'
  refine Calls.evalArgs_plain (thn ha' fun us s1 ⟨vs, H1, I1, r, z, k⟩ => ⟨rfl, by rw [← r.length]; exact z, I1.bk _ _ hC, hN.keeps I1.bk, T.keeps I1.bk, fun h' ad mx => ?_⟩)
  exact xe_raise I1 mx k
end
section
variable {X : Cx} {pins : List (Addr × Obj)} {σ : St} {H H' : Hp} {s s' : Shared}
abbrev Cx.mark (X : Cx) (ad : Addr) : Cx := { X with A := X.A.mark (some (.ref ad)), calm := false, xe := fun _ _ => False }
end
section
variable {X : Cx} {CX : CXT} {k : Nat} {x : Str} {ps : List Str} {sp : Sp} {E : XK} {e : Expr} {es : List Expr} {t : TA} {p pos : Pos}
variable {cx n : Str} {np hpos epos tpos : Pos} {b₀ : Stmt} {suite : List Stmt} {i : Nat} {ts : TS} {C2 : Addr}
end
end L2
namespace Nm
noncomputable def st (a b : Int) : Int := if b < 0 then -(a / g a b) else a / g a b
noncomputable def sb (a b : Int) : Int := if b < 0 then -(b / g a b) else b / g a b
theorem fdiv_p {a d : Int} (h : 0 < d) : a.fdiv d = a / d := Int.fdiv_eq_ediv_of_nonneg a (by omega)
theorem fdiv_n {a d : Int} (h : 0 < d) (dv : d ∣ a) : a.fdiv (-d) = -(a / d) := by
  obtain ⟨k, rfl⟩ := dv
  rw [Int.mul_ediv_cancel_left _ (by omega), show d * k = (-d) * (-k) by rw [Int.neg_mul_neg]]
  exact Int.mul_fdiv_cancel_left _ (by omega)
theorem sb_pos {a b : Int} (h : b ≠ 0) : 0 < sb a b := by
  have g0 := g_pos (a := a) h
  unfold sb
  split
  · rename_i hb
    have h1 : 0 < (-b) / g a b := Int.ediv_pos_of_pos_of_dvd (by omega) (g_nn a b) (Int.dvd_neg.mpr (g_dvd_r a b))
    rw [Int.neg_ediv_of_dvd (g_dvd_r a b)] at h1
    exact h1
  · exact low_pos (by omega)
theorem g_neg_r (a b : Int) : g a (-b) = g a b := by rw [g_comm, g_neg, g_comm]
theorem st_low {a b : Int} (h : b ≠ 0) : g (st a b) (sb a b) = 1 := by
  have e := low_gcd (a := a) h
  unfold st sb
  split
  · rw [g_neg, g_neg_r]; exact e
  · exact e
theorem st_cross (a b : Int) : st a b * b = a * sb a b := by
  have e := low_cross a b
  unfold st sb
  split
  · rw [Int.neg_mul, e, Int.mul_neg]
  · exact e
theorem st_abs {a b : Int} (h : b ≠ 0) : (st a b).natAbs ≤ a.natAbs := by
  have := quot_abs (g_pos (a := a) h) (g_dvd_l a b)
  unfold st
  split <;> omega
theorem sb_abs {a b : Int} (h : b ≠ 0) : (sb a b).natAbs ≤ b.natAbs := by
  have := quot_abs (g_pos (a := a) h) (g_dvd_r a b)
  unfold sb
  split <;> omega
theorem st_one {a b p q : Int} (h : b ≠ 0) (hq : 0 < q) (e : g p q = 1) (c : p * b = a * q) : st a b = p ∧ sb a b = q := by
  refine low_one (sb_pos h) hq (st_low h) e ?_
  have c1 := st_cross a b
  have : (st a b * q) * b = (p * sb a b) * b := by
    calc (st a b * q) * b = (st a b * b) * q := by rw [Int.mul_right_comm]
      _ = (a * sb a b) * q := by rw [c1]
      _ = (a * q) * sb a b := by rw [Int.mul_right_comm]
      _ = (p * b) * sb a b := by rw [c]
      _ = (p * sb a b) * b := by rw [Int.mul_right_comm]
  exact Int.eq_of_mul_eq_mul_right h this
theorem st_eq {a b c d : Int} (h : b ≠ 0) (h' : d ≠ 0) (e : a * d = c * b) : st a b = st c d ∧ sb a b = sb c d := by
  refine st_one h (sb_pos h') (st_low h') ?_
  have c1 := st_cross c d
  have : (st c d * b) * d = (a * sb c d) * d := by
    calc (st c d * b) * d = (st c d * d) * b := by rw [Int.mul_right_comm]
      _ = (c * sb c d) * b := by rw [c1]
      _ = (c * b) * sb c d := by rw [Int.mul_right_comm]
      _ = (a * d) * sb c d := by rw [e]
      _ = (a * sb c d) * d := by rw [Int.mul_right_comm]
  exact Int.eq_of_mul_eq_mul_right h' this
theorem st_pos {a b : Int} (h : 0 < b) : st a b = a / g a b ∧ sb a b = b / g a b := by
  unfold st sb
  rw [if_neg (by omega), if_neg (by omega)]
  exact ⟨rfl, rfl⟩
end Nm
namespace L2
open PySem PySem.Spec PyProof.Rows
section
variable {P : Program} {w : World} {K : PySem.W.Frag} {mg : Str → Option Value} {base : Heap} {CX : CXT}
theorem Fun.okX {x qual : Str} {st : Stmt} {f : Addr} {fd : FuncData} {N ps : List Str} {k : Nat} {sp : Sp} (F : Fun K x qual st f fd) (S : FnScope N ps (defScope st)) (len : ∀ vs H Q E, sp vs H Q E → vs.length = ps.length)
    (hbody : ∀ (cdv : Value) (A : Around) (outer : List Env) (s : Shared) (H : Hp) (vs : List V) (Q : VK) (E : XK), Room k (A.deeper (envOfC qual (defScope st) s.heap.objs.size f cdv)) → sp vs H Q E →
      ∃ t, PSs (cxOf CX P w K mg base N qual (defScope st) f cdv A outer s H E) (defBody st) t ∧ t { nx := fun _ H' => Q .non H', rt := Q } (start N vs) H) : FnOk P w K mg base CX (k + 1) f fd ps sp := by
  obtain ⟨oc, od, kV, doc, pm, an, cdv, ct, osl, rfl, lk, hcd⟩ := F.ex
  exact fn_of lk hcd S len fun A outer s H vs Q E hr hsp => hbody cdv A outer s H vs Q E hr hsp
end
noncomputable def noStar : Expr → Bool
  | .Starred _ _ => false
  | _ => true
theorem se {e : Expr} {es : List Expr} {env : Env} (h : noStar e = true) : starEach (e :: es) env = (false, eval e env) :: starEach es env := by
  cases e <;> first | rfl | exact absurd h Bool.false_ne_true
theorem na {env : Env} {pos : Pos} : ∀ {es : List Expr}, es.all noStar = true → (backTo pos (starEach es env)).any (·.1) = false
  | [], _ => rfl
  | e :: es, h => by
    rw [List.all_cons, Bool.and_eq_true] at h
    rw [se h.1]
    show (false || (backTo pos (starEach es env)).any (·.1)) = false
    rw [na h.2]
    rfl
end L2
namespace L2
open PySem PySem.Spec PyProof.Rows PySem.W
structure ExcCls (K : PySem.W.Frag) (C : Addr) : Prop where
  cls : (clsIn K C).isSome = true
  ga : findIn K (.ref C) "__getattribute__" = some (some (.builtin "BaseException.__getattribute__"))
  gt : findIn K (.ref C) "__getattr__" = some none
  cl : findIn K (.ref C) "__class__" = some (some (.builtin "object.__class__"))
  be : mroIn K C (.type "BaseException") = some true
  ob : mroIn K C (.type "object") = some true
section
variable {prog : Program} {w : World} {A : Around} {E : Value → Shared → Prop} {K : PySem.W.Frag} {h : Heap} {g : Array GenState} {d : Drawn} {t : Nat} {os : OsState} {a C : Addr} {o : Obj}
end
section
variable {X : Cx}
end
end L2
namespace L2
open PySem PySem.Spec PyProof.Rows
theorem closure_of {env : Env} : ∀ (names : List (Str × NameKind)) (cs : List (Str × Addr)), (∀ n, (n, NameKind.free) ∈ names → ∃ c, env.cells.lookup n = some c) → (∀ x c, cs.lookup x = some c → env.cells.lookup x = some c) →
    ∃ cl, (forIn names cs fun (x : Str × NameKind) (r : List (Str × Addr)) => (if (x.2 == NameKind.free) = true then do let c ← cellOf env x.1; pure (ForInStep.yield ((x.1, c) :: r)) else pure (ForInStep.yield r) : Sem (ForInStep (List (Str × Addr))))) = pure cl ∧
      (∀ x c, cl.lookup x = some c → env.cells.lookup x = some c) ∧ (∀ n, ((n, NameKind.free) ∈ names ∨ (cs.lookup n).isSome = true) → ∃ c, cl.lookup n = some c) ∧ (∀ x c, (x, c) ∈ cl → (env.cells.lookup x = some c ∧ (x, NameKind.free) ∈ names) ∨ (x, c) ∈ cs)
  | [], cs, _, h => ⟨cs, rfl, h, (fun n hn => by
      rcases hn with hn | hn
      · exact absurd hn (by simp)
      · exact Option.isSome_iff_exists.mp hn), fun x c m => .inr m⟩
  | (n, k) :: r, cs, hf, h => by
    by_cases hk : k = .free
    · subst hk
      obtain ⟨c, hc⟩ := hf n List.mem_cons_self
      obtain ⟨cl, e, h1, h2, h3⟩ := closure_of r ((n, c) :: cs) (fun m hm => hf m (List.mem_cons_of_mem _ hm)) (fun x c' hx => by
        rw [List.lookup_cons] at hx
        cases q : x == n with
        | true =>
          rw [q] at hx
          have e1 : x = n := by simpa using q
          cases hx
          rw [e1]; exact hc
        | false => rw [q] at hx; exact h x c' hx)
      refine ⟨cl, ?_, h1, fun m hm => h2 m ?_, fun x c' m => ?_⟩
      rotate_left 2
      · rcases h3 x c' m with ⟨q1, q2⟩ | m
        · exact .inl ⟨q1, List.mem_cons_of_mem _ q2⟩
        · rcases List.mem_cons.mp m with e | m
          · cases e
            exact .inl ⟨hc, List.mem_cons_self⟩
          · exact .inr m
      · rw [List.forIn_cons]
        have hco : cellOf env n = pure c := by unfold cellOf; rw [hc]
        simp only [beq_self_eq_true, if_true, hco, pure_bind]
        exact e
      · rcases hm with hm | hm
        · rcases List.mem_cons.mp hm with z | z
          · cases z
            right
            rw [List.lookup_cons]
            simp
          · exact .inl z
        · right
          rw [List.lookup_cons]
          cases q : m == n with
          | true => rfl
          | false => exact hm
    · obtain ⟨cl, e, h1, h2, h3⟩ := closure_of r cs (fun m hm => hf m (List.mem_cons_of_mem _ hm)) h
      refine ⟨cl, ?_, h1, fun m hm => h2 m ?_, fun x c' m => (h3 x c' m).imp (fun q => ⟨q.1, List.mem_cons_of_mem _ q.2⟩) id⟩
      · rw [List.forIn_cons]
        have : (k == NameKind.free) = false := by simpa using hk
        simp only [this, Bool.false_eq_true, if_false, pure_bind]
        exact e
      · rcases hm with hm | hm
        · rcases List.mem_cons.mp hm with z | z
          · cases z; exact absurd rfl hk
          · exact .inl z
        · exact .inr hm
theorem closureFor_of {env : Env} {scope : Scope} (hf : ∀ n, (n, NameKind.free) ∈ scope.names → ∃ c, env.cells.lookup n = some c) :
    ∃ cl, closureFor scope env = pure cl ∧ (∀ x c, cl.lookup x = some c → env.cells.lookup x = some c) ∧ (∀ n, (n, NameKind.free) ∈ scope.names → ∃ c, cl.lookup n = some c) ∧ (∀ x c, (x, c) ∈ cl → env.cells.lookup x = some c ∧ (x, NameKind.free) ∈ scope.names) := by
  obtain ⟨cl, e, h1, h2, h3⟩ := closure_of (env := env) scope.names [] hf (fun x c h => by simp at h)
  refine ⟨cl, ?_, h1, fun n hn => h2 n (.inl hn), fun x c m => (h3 x c m).elim id fun z => absurd z (by simp)⟩
  unfold closureFor
  simp only [bind_pure]
  exact e
structure CompScope (N : List Str) (so : Scope) (N' : List Str) (scope : Scope) (k : Nat) (fr : List Nat) : Prop where
  kind : scope.kind = .function
  cels : ∀ y ∈ scope.names, y.2 = .cell → scope.names.lookup y.1 = some .cell ∧ (y.1, NameKind.free) ∉ scope.names
  locs : ∀ y ∈ scope.names, y.2 = .local → scope.names.lookup y.1 = some .local
  outer : ∀ y ∈ scope.names, y.2 = .free → (so.names.lookup y.1 = some .cell ∨ so.names.lookup y.1 = some .free)
  len : N'.length = k + fr.length
  at_ : ∀ t, t < fr.length → (fr[t]?).bind (fun j => N[j]?) = N'[k + t]?
  fre : ∀ x ∈ N'.drop k, scope.names.lookup x = some .free
noncomputable def stC (k : Nat) (fr : List Nat) (σ : St) : St := List.replicate k none ++ fr.map fun j => (σ[j]?).join
noncomputable def cxC (X : Cx) (N : List Str) (scope : Scope) (cl : List (Str × Addr)) (C : Addr) (s : Shared) (H : Hp) (ex : List Addr) : Cx where
  prog := X.prog
  w := X.w
  K := X.K
  mg := X.mg
  base := X.base
  A := X.A
  N := N
  s₀ := s
  H₀ := H
  env := compEnvC scope cl C X.env
  outer := X.stack
  stack := X.stack
  ex := ex
  calm := X.calm
  fn := fun x => scope.names.lookup x == some .cell
  pn := []
  xe := fun _ _ => False
theorem lookup_relabel_free {env : Env} : ∀ {names : List (Str × NameKind)} {x : Str}, names.lookup x = some .free →
    (names.map fun (n, k) => if (k == NameKind.free && env.scope.kind == .function && env.kindOf n == some .cell) then (n, NameKind.cell) else (n, k)).lookup x = some .cell ∨
    (names.map fun (n, k) => if (k == NameKind.free && env.scope.kind == .function && env.kindOf n == some .cell) then (n, NameKind.cell) else (n, k)).lookup x = some .free
  | [], _, h => by simp at h
  | (n, k) :: r, x, h => by
    have ih := @lookup_relabel_free env r x
    show List.lookup x ((if (k == NameKind.free && env.scope.kind == .function && env.kindOf n == some .cell) = true then (n, NameKind.cell) else (n, k)) :: _) = _ ∨ List.lookup x ((if (k == NameKind.free && env.scope.kind == .function && env.kindOf n == some .cell) = true then (n, NameKind.cell) else (n, k)) :: _) = _
    cases hx : x == n with
    | true =>
      simp only [List.lookup_cons, hx] at h
      cases h
      by_cases hc : (NameKind.free == NameKind.free && env.scope.kind == .function && env.kindOf n == some .cell) = true
      · rw [if_pos hc]; left; simp [List.lookup_cons, hx]
      · rw [if_neg hc]; right; simp [List.lookup_cons, hx]
    | false =>
      simp only [List.lookup_cons, hx] at h
      by_cases hc : (k == NameKind.free && env.scope.kind == .function && env.kindOf n == some .cell) = true
      · rw [if_pos hc]; simp only [List.lookup_cons, hx]; exact ih h
      · rw [if_neg hc]; simp only [List.lookup_cons, hx]; exact ih h
theorem relabel_back {env : Env} : ∀ {names : List (Str × NameKind)} {x : Str},
    ((names.map fun (n, k) => if (k == NameKind.free && env.scope.kind == .function && env.kindOf n == some .cell) then (n, NameKind.cell) else (n, k)).lookup x = some .cell ∨
    (names.map fun (n, k) => if (k == NameKind.free && env.scope.kind == .function && env.kindOf n == some .cell) then (n, NameKind.cell) else (n, k)).lookup x = some .free) → (x, NameKind.free) ∈ names ∨ (x, NameKind.cell) ∈ names
  | [], _, h => by simp at h
  | (n, k) :: r, x, h => by
    have ih := @relabel_back env r x
    have up : ((x, NameKind.free) ∈ r ∨ (x, NameKind.cell) ∈ r) → ((x, NameKind.free) ∈ (n, k) :: r ∨ (x, NameKind.cell) ∈ (n, k) :: r) := fun z => z.imp (List.mem_cons_of_mem _) (List.mem_cons_of_mem _)
    have h : List.lookup x ((if (k == NameKind.free && env.scope.kind == .function && env.kindOf n == some .cell) = true then (n, NameKind.cell) else (n, k)) :: _) = _ ∨ List.lookup x ((if (k == NameKind.free && env.scope.kind == .function && env.kindOf n == some .cell) = true then (n, NameKind.cell) else (n, k)) :: _) = _ := h
    cases hx : x == n with
    | true =>
      have e1 : x = n := by simpa using hx
      subst e1
      by_cases hc : (k == NameKind.free && env.scope.kind == .function && env.kindOf x == some .cell) = true
      · have : k = .free := by
          simp only [Bool.and_eq_true] at hc
          simpa using hc.1.1
        subst this
        exact .inl List.mem_cons_self
      · rw [if_neg hc] at h
        simp only [List.lookup_cons, hx] at h
        rcases h with h | h
        · cases h; exact .inr List.mem_cons_self
        · cases h; exact .inl List.mem_cons_self
    | false =>
      by_cases hc : (k == NameKind.free && env.scope.kind == .function && env.kindOf n == some .cell) = true
      · rw [if_pos hc] at h; simp only [List.lookup_cons, hx] at h; exact up (ih h)
      · rw [if_neg hc] at h; simp only [List.lookup_cons, hx] at h; exact up (ih h)
theorem cells_own : ∀ (names : List (Str × NameKind)) (h : Heap) (acc : List (Str × Addr)) (x : Str) (c : Addr), (x, c) ∈ cellsFrom h.objs.size names acc →
    (x, c) ∈ acc ∨ (h.objs.size ≤ c ∧ (pushCells h names).IsCell c none ∧ (x, NameKind.cell) ∈ names)
  | [], h, acc, x, c, m => .inl m
  | (n, k) :: r, h, acc, x, c, m => by
    unfold cellsFrom at m
    unfold pushCells
    by_cases hk : (k == NameKind.cell) = true
    · rw [if_pos hk] at m ⊢
      have ih := cells_own r (h.push { cls := .type "cell", data := .cell none }) ((n, h.objs.size) :: acc) x c
      rw [Heap.size_push] at ih
      rcases ih m with m | ⟨q1, q2, q3⟩
      · rcases List.mem_cons.mp m with e | m
        · cases e
          have hk : k = .cell := by simpa using hk
          subst hk
          refine .inr ⟨Nat.le_refl _, ?_, List.mem_cons_self⟩
          have q : (h.push { cls := .type "cell", data := .cell none }).IsCell h.objs.size none := ⟨_, Heap.get?_push_size _ rfl, rfl⟩
          exact q.keeps fun b o e => pushCells_keeps r _ b o e
        · exact .inl m
      · exact .inr ⟨by omega, q2, List.mem_cons_of_mem _ q3⟩
    · rw [if_neg hk] at m ⊢
      rcases cells_own r h acc x c m with m | ⟨q1, q2, q3⟩
      · exact .inl m
      · exact .inr ⟨q1, q2, List.mem_cons_of_mem _ q3⟩
theorem cells_inj : ∀ (names : List (Str × NameKind)) (n lo : Nat) (acc : List (Str × Addr)), (∀ x c, (x, c) ∈ acc → c < n) → (∀ x y c, lo ≤ c → (x, c) ∈ acc → (y, c) ∈ acc → x = y) →
    ∀ x y c, lo ≤ c → (x, c) ∈ cellsFrom n names acc → (y, c) ∈ cellsFrom n names acc → x = y
  | [], n, lo, acc, h1, h2, x, y, c, hl, m1, m2 => h2 x y c hl m1 m2
  | (z, k) :: r, n, lo, acc, h1, h2, x, y, c, hl, m1, m2 => by
    unfold cellsFrom at m1 m2
    by_cases hk : (k == NameKind.cell) = true
    · rw [if_pos hk] at m1 m2
      refine cells_inj r (n + 1) lo _ (fun x c m => ?_) (fun x y c hl m1 m2 => ?_) x y c hl m1 m2
      · rcases List.mem_cons.mp m with e | m
        · cases e; exact Nat.lt_succ_self _
        · exact Nat.lt_succ_of_lt (h1 x c m)
      · rcases List.mem_cons.mp m1 with e1 | m1 <;> rcases List.mem_cons.mp m2 with e2 | m2
        · cases e1; cases e2; rfl
        · cases e1; exact absurd (h1 _ _ m2) (Nat.lt_irrefl _)
        · cases e2; exact absurd (h1 _ _ m1) (Nat.lt_irrefl _)
        · exact h2 x y c hl m1 m2
    · rw [if_neg hk] at m1 m2
      exact cells_inj r n lo acc h1 h2 x y c hl m1 m2
theorem cells_skip : ∀ (names : List (Str × NameKind)) (n : Nat) (acc : List (Str × Addr)) (x : Str), (x, NameKind.cell) ∉ names → (cellsFrom n names acc).lookup x = acc.lookup x
  | [], n, acc, x, _ => rfl
  | (z, k) :: r, n, acc, x, h => by
    have hr : (x, NameKind.cell) ∉ r := fun m => h (List.mem_cons_of_mem _ m)
    unfold cellsFrom
    by_cases hk : (k == NameKind.cell) = true
    · rw [if_pos hk, cells_skip r _ _ x hr, List.lookup_cons]
      have hk : k = .cell := by simpa using hk
      subst hk
      have : (x == z) = false := by
        cases q : x == z with
        | false => rfl
        | true =>
          have e : x = z := by simpa using q
          subst e
          exact absurd List.mem_cons_self h
      rw [this]
    · rw [if_neg hk]
      exact cells_skip r n acc x hr
theorem cells_has : ∀ (names : List (Str × NameKind)) (n : Nat) (acc : List (Str × Addr)) (x : Str), ((x, NameKind.cell) ∈ names ∨ (acc.lookup x).isSome = true) → ((cellsFrom n names acc).lookup x).isSome = true
  | [], n, acc, x, h => by
    rcases h with h | h
    · simp at h
    · exact h
  | (z, k) :: r, n, acc, x, h => by
    unfold cellsFrom
    by_cases hk : (k == NameKind.cell) = true
    · rw [if_pos hk]
      refine cells_has r _ _ x ?_
      rcases h with h | h
      · rcases List.mem_cons.mp h with e | h
        · cases e
          right
          rw [List.lookup_cons]
          simp
        · exact .inl h
      · right
        rw [List.lookup_cons]
        cases q : x == z with
        | true => rfl
        | false => exact h
    · rw [if_neg hk]
      refine cells_has r _ _ x ?_
      rcases h with h | h
      · rcases List.mem_cons.mp h with e | h
        · cases e; exact absurd rfl hk
        · exact .inl h
      · exact .inr h
section
variable {M : Model} {A : Around} {E : Value → Shared → Prop} {s : Shared}
theorem wpAny_newEnv_comp {scope : Scope} {globals : Addr} {closure : List (Str × Addr)} {qual : Str} {func : Option Addr} {code : Value} {outer : Env} {Q : Env → Shared → Prop}
    (hQ : Q (newEnv scope s.heap.objs.size globals (cellsFrom (s.heap.objs.size + 1) scope.names closure) qual func code (some outer) builtinsNs)
      { s with heap := pushCells (s.heap.push { cls := .type "dict", data := .dict #[] }) scope.names }) :
    wpAny M A (newFunctionEnv scope globals closure [] qual func code (some outer)) Q E s := by
  simp only [newFunctionEnv, Option.isSome_some, if_true]
  refine wpAny_bind (wpAny_alloc ?_)
  refine wpAny_bind (wpAny_layCells _ (fun name kind cells => by cases hkc : kind == NameKind.cell <;> simp [hkc]) _ _ _ _ ?_)
  rw [show ({ s with heap := s.heap.push { cls := .type "dict", data := .dict #[] } } : Shared).heap.objs.size = s.heap.objs.size + 1 from Heap.size_push ..]
  refine wpAny_bind ?_
  rw [List.forIn_nil]
  exact wpAny_pure (wpAny_pure hQ)
end
structure BlkC (X : Cx) (scope : Scope) (cl : List (Str × Addr)) (lo : Nat) (C : Addr) (h1 : Heap) : Prop where
  old : ∀ x c, cl.lookup x = some c → X.env.cells.lookup x = some c ∨ (lo ≤ c ∧ C < c ∧ h1.IsCell c none)
  inj : ∀ x y c, C < c → cl.lookup x = some c → cl.lookup y = some c → x = y
  has : ∀ n, (n, NameKind.free) ∈ scope.names ∨ (n, NameKind.cell) ∈ scope.names → ∃ c, cl.lookup n = some c
  fre : ∀ n, scope.names.lookup n = some .free → ∀ c, cl.lookup n = some c → X.env.cells.lookup n = some c
  own : ∀ x c, scope.names.lookup x = some .cell → cl.lookup x = some c → lo ≤ c
section
variable {X : Cx} {pins : List (Addr × Obj)} {σ : St} {H : Hp} {s : Shared} {N' : List Str} {scope : Scope} {k : Nat} {fr : List Nat} {cl : List (Str × Addr)}
theorem compOk {C : Addr} {fp : List Addr} {h1 : Heap} (I : Inv X pins σ H s) (S : CompScope X.N X.env.scope N' scope k fr) (B : BlkC X scope cl s.heap.objs.size C h1)
    (hC : s.heap.objs.size ≤ C) (f2 : ∀ b ∈ fp, FpOk X pins H b) (lt : ∀ b ∈ fp, b < s.heap.objs.size) : (cxC X N' scope cl C s H fp).Ok where
  mod := I.ok.mod
  kind := S.kind
  glob := I.ok.glob
  blt := I.ok.blt
  above := hC
  inj := fun x y c h1 h2 => by
    rcases B.old _ _ h1 with o1 | o1 <;> rcases B.old _ _ h2 with o2 | o2
    · exact I.ok.inj x y c o1 o2
    · exact B.inj x y c o2.2.1 h1 h2
    · exact B.inj x y c o1.2.1 h1 h2
    · exact B.inj x y c o1.2.1 h1 h2
  has := fun x hx => B.has x (relabel_back hx)
  cab := fun x c z e => B.own x c (by
    have z : (scope.names.lookup x == some NameKind.cell) = true := z
    simpa using z) e
  hd := I.ok.hd
  frames := I.ok.frames
  stk := .inl rfl
  exf := fun b hb => ⟨Nat.ne_of_lt (Nat.lt_of_lt_of_le (lt b hb) hC), fun x c e => (B.old _ _ e).elim (fun o => (f2 b hb).2.2.2.2.1 x c o) fun o => Nat.ne_of_gt (Nat.lt_of_lt_of_le (lt b hb) o.1)⟩
  bs := I.bs
  bsz := Nat.le_trans I.ok.bsz I.sz
  noex := fun b o e hb => by
    rcases (f2 b hb).2.2.2.1 with z | z
    · exact I.ok.noex b o e z
    · exact absurd (Nat.lt_of_lt_of_le (Heap.lt_size e) (Nat.le_trans I.ok.bsz z)) (Nat.lt_irrefl _)
  exfs := fun b hb z => by
    rcases List.mem_cons.mp (I.stkSub b z) with q | q
    · exact (f2 b hb).2.1 q
    · exact (f2 b hb).2.2.1 q
  funs := I.stack
  frf := I.stkFree
theorem compInv {C : Addr} {fp : List Addr} {h1 : Heap} {tk : Nat} {m : Str → Option Value} (I : Inv X pins σ H s) (S : CompScope X.N X.env.scope N' scope k fr) (B : BlkC X scope cl s.heap.objs.size C h1)
    (hC : s.heap.objs.size ≤ C) (f2 : ∀ b ∈ fp, FpOk X pins H b) (lt : ∀ b ∈ fp, b < s.heap.objs.size) (old : ∀ b o, s.heap.get? b = some o → h1.get? b = some o) (hn : h1.Ns C m) :
    Inv (cxC X N' scope cl C s H fp) [] (stC k fr σ) H { s with heap := h1, toks := tk } := by
  refine ⟨compOk I S B hC f2 lt, rfl, I.bare, Un.kept old, ⟨m, hn, fun i x v e1 e2 e3 => ?_⟩, fun x c e => ?_, I.hok.fresh hC, fun x c e => (B.old _ _ e).elim (fun o => I.freeC x c o) fun o => I.hok.fresh o.1, fun p hp => absurd (show p ∈ ([] : List (Addr × Obj)) from hp) (by simp), I.hok.kept old, ?_⟩
  · have e1 : N'[i]? = some x := e1
    unfold stC at e2
    by_cases hi : i < k
    · rw [List.getElem?_append_left (by simpa using hi), List.getElem?_replicate, if_pos hi] at e2
      cases e2
    · rw [List.getElem?_append_right (by simpa using hi), List.length_replicate, List.getElem?_map] at e2
      cases q : fr[i - k]? with
      | none => rw [q] at e2; cases e2
      | some j =>
        rw [q] at e2
        have e2 : (σ[j]?).join = some v := Option.some.inj e2
        have ej : σ[j]? = some (some v) := by
          cases z : σ[j]? with
          | none => rw [z] at e2; cases e2
          | some o => rw [z] at e2; exact congrArg some e2
        have hlt : i - k < fr.length := (List.getElem?_eq_some_iff.mp q).1
        have hat := S.at_ (i - k) hlt
        rw [q, show k + (i - k) = i by omega, e1] at hat
        have hat : X.N[j]? = some x := hat
        have hxm : x ∈ N'.drop k := List.mem_iff_getElem?.mpr ⟨i - k, by rw [List.getElem?_drop, show k + (i - k) = i by omega]; exact e1⟩
        have hfr := S.fre x hxm
        have hmem : (x, NameKind.free) ∈ scope.names := PySem.mem_of_lookup hfr
        have hout := S.outer _ hmem rfl
        obtain ⟨m0, hn0, hl0⟩ := I.loc
        obtain ⟨u, r, l⟩ := hl0 j x v hat ej (.inr hout)
        refine ⟨u, r, .inr ⟨lookup_relabel_free hfr, ?_⟩⟩
        rcases l with ⟨kk, _⟩ | ⟨_, c, e, z⟩
        · have kk : X.env.scope.names.lookup x = some .local := kk
          rcases hout with q1 | q1
          · rw [kk] at q1; cases q1
          · rw [kk] at q1; cases q1
        · obtain ⟨c', e'⟩ := B.has x (.inl hmem)
          have ec := B.fre x hfr _ e'
          rw [e] at ec
          cases ec
          obtain ⟨ob, ho, hd⟩ := z
          exact ⟨c, e', ob, old _ _ ho, hd⟩
  · rcases B.old _ _ e with o | o
    · obtain ⟨v, ob, ho, hd⟩ := I.cell x c o
      exact ⟨v, ob, old _ _ ho, hd⟩
    · exact ⟨none, o.2.2⟩
  · unfold stC
    rw [List.length_append, List.length_replicate, List.length_map]
    exact S.len.symm
end
section
variable {prog : Program} {w : World} {A : Around} {E : Value → Shared → Prop} {R : Result → Shared → Prop} {s : Shared}
theorem codeAny_compLoop_any {elt target iter : Expr} {ifs : List Expr} {scope : Scope} {pos : Pos} {it acc : Value} {env : Env} (I : Nat → Shared → Prop)
    (turn : ∀ n s, I n s → wpAny (model prog w) A (pyNext it) (fun r s₁ => match r with
      | none => R (.ok .next) s₁
      | some v => wpAny (model prog w) A (letOwnedTupleGo target it v) (fun _ s₁' => wpAny (model prog w) A (assign target env v) (fun _ s₂ =>
          wpAny (model prog w) A (forIn ifs true fun c r => if r = true then do let ok ← isTrue c env (eval c env); pure (ForInStep.yield ok) else pure (ForInStep.yield r)) (fun ok s₃ =>
            if ok = true then wpAny (model prog w) A (eval elt env) (fun x s₄ =>
              wpAny (model prog w) A (call (.builtin "list.append") [acc, x]) (fun _ s₅ => ∃ m, m < n ∧ I m s₅) (fun _ _ => False) s₄) (notedBy (model prog w) A env fun x s' => R (.error x) s') s₃
            else ∃ m, m < n ∧ I m s₃) (fun _ _ => False) s₂) (fun _ _ => False) s₁') (fun _ _ => False) s₁) (fun _ _ => False) s)
    (n : Nat) (h : I n s) :
    codeAny (model prog w) A (.compLoop (.ListComp elt [⟨target, iter, ifs, 0⟩] scope pos) 0 it acc env) R s := by
  refine codeAny_loop rfl I (fun n s hI => ?_) n h
  show wpAny _ A ((compTurn (.ListComp elt [⟨target, iter, ifs, 0⟩] scope pos) 0 it acc env).onRaise (fun x => do noteFrame x env; theTreesLotGoes x)) _ _ s
  refine wpAny_noted ?_
  rw [compTurn_list]
  refine wpAny_bind (wpAny_standAt (wpAny_bind (wpAny_mono (turn n s hI) (fun r s₁ h₁ => ?_) fun _ _ h' => h'.elim)))
  cases r with
  | none => exact wpAny_pure h₁
  | some v =>
    refine wpAny_bind (wpAny_mono h₁ (fun _ s₁' h₁' => ?_) fun _ _ h' => h'.elim)
    refine wpAny_bind (wpAny_mono h₁' (fun _ s₂ h₂ => wpAny_bind (wpAny_mono h₂ (fun ok s₃ h₃ => ?_) fun _ _ h' => h'.elim)) fun _ _ h' => h'.elim)
    cases ok with
    | false => exact wpAny_pure ⟨rfl, h₃⟩
    | true =>
      exact wpAny_bind (wpAny_bind (wpAny_mono h₃ (fun x s₄ h₄ => wpAny_bind (wpAny_mono h₄ (fun _ s₅ h₅ => wpAny_pure (wpAny_pure ⟨rfl, h₅⟩)) fun _ _ h' => h'.elim)) fun _ _ h' => h'))
end
noncomputable def PTs (X : Cx) (ifs : List Expr) (t : TT) : Prop :=
  ∀ (pins : List (Addr × Obj)) (s : Shared) (σ : St) (H : Hp) (Q : Bool → Hp → Prop), Inv X pins σ H s → t σ H Q →
    wpAny (model X.prog X.w) X.A (forIn ifs true fun c r => if r = true then do let ok ← isTrue c X.env (eval c X.env); pure (ForInStep.yield ok) else pure (ForInStep.yield r)) (TP X pins σ Q) X.xe s
noncomputable def tYes : TT := fun _ H Q => Q true H
theorem pts_nil {X : Cx} : PTs X [] tYes := fun _ _ _ H _ I h => wpAny_tests_nil ⟨H, I, h⟩
theorem pts_one {X : Cx} {c : Expr} {t : TT} (h : PT X c t) : PTs X [c] t := fun pins s σ H Q I hq => wpAny_tests_one (h pins s σ H Q I hq)
section
variable {X : Cx}
noncomputable def tBlock (J : It) (g : TG) (tc : TT) (te : TE) (σ0 : St) (H1 : Hp) (fin : List V → Hp → Prop) : Prop :=
  ∃ W : Nat → Nat → List V → St → Hp → Prop, (∃ m, W 0 m [] σ0 H1) ∧ ∀ i m ys σ2 H2, W i m ys σ2 H2 →
    (J.stop i H2 ∧ fin ys H2) ∨
    (J.go i H2 ∧ ∀ x H3, J.yld i H2 x H3 → g x σ2 H3 fun σ3 H4 => tc σ3 H4 fun b H5 => if b = true then te σ3 H5 fun y H6 => ys.length < sizeLine ∧ ∃ m', m' < m ∧ W (i + 1) m' (ys ++ [y]) σ3 H6 else ∃ m', m' < m ∧ W (i + 1) m' ys σ3 H5)
noncomputable def lstObj (its : List Value) (n : Nat) : Obj := { cls := .type "list", data := .seq its.toArray n }
theorem block_in {elt target iter : Expr} {ifs : List Expr} {scope : Scope} {pos : Pos} {g : TG} {tc : TT} {te : TE} {k : Nat} {fr : List Nat} {N' : List Str} {cl : List (Str × Addr)} {pins : List (Addr × Obj)} {σ : St} {H2 : Hp} {s2 : Shared}
    {it : Addr} {fp : List Addr} {tn : Nat → Heap → Prop} {J : It} {fin : List V → Hp → Prop} {R0 : Result → Shared → Prop} {XE : List (Str × Addr) → Addr → Shared → Hp → List Addr → Value → Shared → Prop}
    (hc : X.calm = true) (S : CompScope X.N X.env.scope N' scope k fr) (c1 : ∀ x c, cl.lookup x = some c → X.env.cells.lookup x = some c) (c2 : ∀ n, (n, NameKind.free) ∈ scope.names → ∃ c, cl.lookup n = some c) (cin : ∀ x c, (x, c) ∈ cl → ∃ y, X.env.cells.lookup y = some c) (cno : ∀ x, (x, NameKind.cell) ∈ scope.names → ∀ c, (x, c) ∉ cl)
    (hg : ∀ cl C s H ex, PG (cxC X N' scope cl C s H ex) target g) (ht : ∀ cl C s H ex, PTs (cxC X N' scope cl C s H ex) ifs tc) (he : ∀ cl C s H ex, PE ((cxC X N' scope cl C s H ex).wish (XE cl C s H ex)) elt te)
    (I2 : Inv X pins σ H2 s2) (T : Turn X.prog X.w X.K target J fp it tn) (st2 : tn 0 s2.heap) (f2 : ∀ b ∈ fp, FpOk X pins H2 b) (hb : tBlock J g tc te (stC k fr σ) H2 fin)
    (hR : ∀ (C : Addr), C = (s2.heap.push { cls := .type "list", dict := none, data := .seq ([] : List Value).toArray }).objs.size → ∀ (s' : Shared) (m : Str → Option Value) (ys : List V) (its : List Value) (n : Nat) (H' : Hp), s2.heap.objs.size < C → s'.heap.Ns C m → Vals ys its → ys.length ≤ sizeLine → s'.heap.get? s2.heap.objs.size = some (lstObj its n) → H' s2.heap.objs.size = none → H' C = none → fin ys H' →
      s'.os = s2.os → AllBare s'.gens → Un (frs X.stack) fp H2 H' s2.heap s'.heap → HOk X.prog X.w H' s'.heap → R0 (.ok .next) s')
    (hE : ∀ cl C x s', C = (s2.heap.push { cls := .type "list", dict := none, data := .seq ([] : List Value).toArray }).objs.size → s2.heap.objs.size < C → XE cl C s2 H2 fp x s' → notedBy (model X.prog X.w) X.A (compEnvC scope cl C X.env) (fun y s'' => R0 (.error y) s'') x s') :
    codeAny (model X.prog X.w) X.A (.compStart (.ListComp elt [⟨target, iter, ifs, 0⟩] scope pos) 0 (.ref it) (.ref s2.heap.objs.size) (compEnvC scope (cellsFrom ((s2.heap.push { cls := .type "list", dict := none, data := .seq ([] : List Value).toArray }).objs.size + 1) scope.names cl) (s2.heap.push { cls := .type "list", dict := none, data := .seq ([] : List Value).toArray }).objs.size X.env)) R0 { s2 with heap := pushCells ((s2.heap.push { cls := .type "list", dict := none, data := .seq ([] : List Value).toArray }).push { cls := .type "dict", data := .dict #[] }) scope.names } := by
  obtain ⟨W, ⟨m0, w0⟩, turn⟩ := hb
  have lt : ∀ b ∈ fp, b < s2.heap.objs.size := fun b hb => by
    obtain ⟨o, e, _⟩ := T.obj _ _ st2 b hb
    exact Heap.lt_size e
  generalize hH2 : s2.heap.push { cls := .type "list", dict := none, data := .seq ([] : List Value).toArray } = G2 at hR hE ⊢
  have hCs : G2.objs.size = s2.heap.objs.size + 1 := by rw [← hH2, Heap.size_push]
  have hDC : s2.heap.objs.size ≠ G2.objs.size := by rw [hCs]; exact Nat.ne_of_lt (Nat.lt_succ_self _)
  have hC : s2.heap.objs.size ≤ G2.objs.size := by rw [hCs]; exact Nat.le_succ _
  have old : ∀ b o, s2.heap.get? b = some o → (pushCells (G2.push { cls := .type "dict", data := .dict #[] }) scope.names).get? b = some o := fun b o e => by
    refine pushCells_keeps _ _ b o (Heap.get?_push_of_some _ ?_)
    rw [← hH2]
    exact Heap.get?_push_of_some _ e
  have hacc : (pushCells (G2.push { cls := .type "dict", data := .dict #[] }) scope.names).get? s2.heap.objs.size = some (lstObj [] 0) := by
    refine pushCells_keeps _ _ _ _ (Heap.get?_push_of_some _ ?_)
    rw [← hH2]
    exact Heap.get?_push_size _ rfl
  have hns₁ : (pushCells (G2.push { cls := .type "dict", data := .dict #[] }) scope.names).Ns G2.objs.size fun _ => none := (Heap.Ns.new G2 (.type "dict")).keeps (pushCells_keeps _ _)
  have cl0 : ∀ x c, (x, c) ∈ cl → c < G2.objs.size + 1 := fun x c m => by
    obtain ⟨y, hy⟩ := cin x c m
    obtain ⟨v, q⟩ := I2.cell y c hy
    rw [hCs]
    exact Nat.lt_succ_of_lt (Nat.lt_succ_of_lt q.lt)
  have B : BlkC X scope (cellsFrom (G2.objs.size + 1) scope.names cl) s2.heap.objs.size G2.objs.size (pushCells (G2.push { cls := .type "dict", data := .dict #[] }) scope.names) := by
    have own := cells_own scope.names (G2.push { cls := .type "dict", data := .dict #[] }) cl
    rw [Heap.size_push] at own
    refine ⟨fun x c e => ?_, fun x y c hc h1 h2 => ?_, fun n hn => ?_, fun n hn c e => ?_, fun x c hx e => ?_⟩
    · by_cases hx : (x, NameKind.cell) ∈ scope.names
      · rcases own x c (PySem.mem_of_lookup e) with m | ⟨q1, q2, _⟩
        ·
          exfalso
          exact cno x hx c m
        · exact .inr ⟨Nat.le_trans hC (Nat.le_of_succ_le q1), q1, q2⟩
      · rw [cells_skip _ _ _ _ hx] at e
        exact .inl (c1 x c e)
    · exact cells_inj scope.names (G2.objs.size + 1) (G2.objs.size + 1) cl cl0 (fun x y c hl m1 _ => absurd (cl0 x c m1) (Nat.not_lt.mpr hl)) x y c hc (PySem.mem_of_lookup h1) (PySem.mem_of_lookup h2)
    · refine Option.isSome_iff_exists.mp (cells_has _ _ _ n ?_)
      rcases hn with hn | hn
      · obtain ⟨c, e⟩ := c2 n hn
        exact .inr (by rw [e]; rfl)
      · exact .inl hn
    · have hx : (n, NameKind.cell) ∉ scope.names := fun m => by
        have := (S.cels _ m rfl).1
        rw [hn] at this
        cases this
      rw [cells_skip _ _ _ _ hx] at e
      exact c1 n c e
    · have hx := PySem.mem_of_lookup hx
      rcases own x c (PySem.mem_of_lookup e) with m | ⟨q1, q2, _⟩
      · exact absurd m (cno x hx c)
      · exact Nat.le_trans hC (Nat.le_of_succ_le q1)
  generalize pushCells (G2.push { cls := .type "dict", data := .dict #[] }) scope.names = h₁ at *
  generalize cellsFrom (G2.objs.size + 1) scope.names cl = cl2 at *
  generalize hDd : s2.heap.objs.size = D at *
  generalize hCc : G2.objs.size = C at *
  have fD : H2 D = none := by rw [← hDd]; exact I2.hok.fresh (Nat.le_refl _)
  have cells : ∀ x c, cl2.lookup x = some c → c ≠ D := fun x c e => by
    rcases B.old _ _ e with o | o
    · obtain ⟨v, q⟩ := I2.cell x c o
      rw [← hDd]
      exact Nat.ne_of_lt q.lt
    · exact Nat.ne_of_gt (Nat.lt_trans (by rw [hCs]; exact Nat.lt_succ_self _) o.2.1)
  have loop : ∀ (itv : Addr) (s3 : Shared), itv = it → (∃ tk, s3 = { s2 with heap := h₁, toks := tk }) →
      codeAny (model X.prog X.w) X.A (.compLoop (.ListComp elt [⟨target, iter, ifs, 0⟩] scope pos) 0 (.ref itv) (.ref D) (compEnvC scope cl2 C X.env)) R0 s3 := by
    rintro itv s3 rfl ⟨tk, rfl⟩
    have I3 : Inv (cxC X N' scope cl2 C s2 H2 fp) [] (stC k fr σ) H2 { s2 with heap := h₁, toks := tk } := compInv I2 S (by rw [hDd]; exact B) (by rw [hDd]; exact hC) f2 (by rw [hDd]; exact lt) old hns₁
    have stat : ∀ {H' : Hp} {o : Obj}, (∀ b ∈ fp, H' b = none) → ∀ b ∈ fp, FpOk (cxC X N' scope cl2 C s2 H2 fp) [(D, o)] H' b := fun {H' o} hn b hb =>
      ⟨hn b hb, Nat.ne_of_lt (Nat.lt_of_lt_of_le (lt b hb) hC), fun z => by
        rcases List.mem_cons.mp (I2.stkSub b z) with q | q
        · exact (f2 b hb).2.1 q
        · exact (f2 b hb).2.2.1 q, .inl hb, fun x c e => (B.old _ _ e).elim (fun o => (f2 b hb).2.2.2.2.1 x c o) (fun o => Nat.ne_of_gt (Nat.lt_of_lt_of_le (lt b hb) o.1)), fun p hp => by
        have e : p = (D, o) := by simpa [cxC] using hp
        rw [e]
        exact Nat.ne_of_gt (lt b hb)⟩
    have addD : ∀ {σ' : St} {H' : Hp} {s' : Shared} {o : Obj}, Inv (cxC X N' scope cl2 C s2 H2 fp) [] σ' H' s' → s'.heap.get? D = some o → H' D = none → (∀ v, o.data ≠ .cell v) → Inv (cxC X N' scope cl2 C s2 H2 fp) [(D, o)] σ' H' s' := fun {σ' H' s' o} I' e n hd =>
      I'.pins_of fun p hp => by
        have q : p = (D, o) := by simpa using hp
        subst q
        refine ⟨e, n, hDC, fun z => ?_, hd⟩
        obtain ⟨_, ob, ho, _⟩ := I2.stack.mem z
        exact absurd (Heap.lt_size ho) (by rw [hDd]; exact Nat.lt_irrefl _)
    have ndL : ∀ {its : List Value} {n : Nat} (v : Option Value), (lstObj its n).data ≠ .cell v := fun v z => by
      have z : Data.seq _ _ = Data.cell v := z
      cases z
    refine codeAny_compLoop_any (fun n s' => ∃ i ys σ' H' its cap, Inv (cxC X N' scope cl2 C s2 H2 fp) [] σ' H' s' ∧ tn i s'.heap ∧ (∀ b ∈ fp, H' b = none) ∧ s'.heap.get? D = some (lstObj its cap) ∧ H' D = none ∧ Vals ys its ∧ ys.length ≤ sizeLine ∧ W i n ys σ' H') ?_ m0
      ⟨0, [], _, H2, [], 0, I3, T.keep _ _ _ st2 (fun b _ o e => old b o e), fun b hb => (f2 b hb).1, hacc, fD, .nil, Nat.zero_le _, w0⟩
    rintro n s4 ⟨i, ys, σ4, H4, its, cap, I4, st4, fr4, hD4, nD4, vl4, sz4, w4⟩
    have I4' := addD I4 hD4 nD4 ndL
    rcases turn i n ys σ4 H4 w4 with ⟨stop, qf⟩ | ⟨go, step⟩
    · refine thn (T.done (cxC X N' scope cl2 C s2 H2 fp) rfl rfl rfl hc i _ s4 σ4 H4 _ I4' (stat fr4) st4 stop) fun r s5 ⟨hr, I5⟩ => ?_
      subst hr
      obtain ⟨m5, hn5, _⟩ := I5.loc
      exact hR C rfl s5 m5 ys its cap H4 (by rw [hCs]; exact Nat.lt_succ_self _) hn5 vl4 sz4 (I5.pin (D, lstObj its cap) (List.mem_append_right _ List.mem_cons_self)).1 nD4 I5.free qf I5.os I5.bare I5.base I5.hok
    · refine thn (T.item (cxC X N' scope cl2 C s2 H2 fp) rfl rfl rfl hc i _ s4 σ4 H4 _ I4' (stat fr4) st4 go) fun r s5 ⟨u, hr, h5⟩ => ?_
      subst hr
      refine thn h5 fun _ s6 ⟨x, H6, I6, r6, y6, st6, fr6⟩ => ?_
      have I6' := I6.pinned (stat fr6) (T.obj _ _ st6)
      refine thn (hg cl2 C s2 H2 fp _ s6 σ4 H6 x u _ I6' r6 (step x H6 y6)) fun _ s7 ⟨σ7, H7, I7, q7⟩ => ?_
      refine thn (ht cl2 C s2 H2 fp _ s7 σ7 H7 _ I7 q7) fun ok s8 ⟨H8, I8, q8⟩ => ?_
      have back : ∀ {σ' : St} {H' : Hp} {s' : Shared}, Inv (cxC X N' scope cl2 C s2 H2 fp) ([(D, lstObj its cap)] ++ pinsAt fp s6.heap) σ' H' s' → tn (i + 1) s'.heap ∧ (∀ b ∈ fp, H' b = none) ∧ s'.heap.get? D = some (lstObj its cap) ∧ H' D = none := fun {σ' H' s'} I' => by
        have pD := I'.pin (D, lstObj its cap) (List.mem_append_right _ (List.mem_append_left _ (by simp)))
        refine ⟨T.keep _ _ _ st6 fun b hb o e => (I'.pin (b, o) (List.mem_append_right _ (List.mem_append_right _ (mem_pinsAt hb e)))).1, fun b hb => ?_, pD.1, pD.2.1⟩
        obtain ⟨o, e, d⟩ := T.obj _ _ st6 b hb
        exact (I'.pin (b, o) (List.mem_append_right _ (List.mem_append_right _ (mem_pinsAt hb e)))).2.1
      cases ok with
      | false =>
        rw [if_neg Bool.false_ne_true]
        rw [if_neg Bool.false_ne_true] at q8
        obtain ⟨m', hm, w8⟩ := q8
        obtain ⟨b1, b2, b3, b4⟩ := back I8
        exact ⟨m', hm, i + 1, ys, σ7, H8, its, cap, I8.pins_of (fun p hp => absurd hp (by simp)), b1, b2, b3, b4, vl4, sz4, w8⟩
      | true =>
        rw [if_pos rfl]
        rw [if_pos rfl] at q8
        refine wpAny_mono (he cl2 C s2 H2 fp _ s8 σ7 H8 _ (I8.wish _) q8) (fun y s9 ⟨z, H9, I9, r9, hlt, m', hm, w9⟩ => ?_) fun x s' hx => hE cl2 C x s' rfl (by rw [hCs]; exact Nat.lt_succ_self _) hx
        have I9 := I9.unwish
        obtain ⟨b1, b2, b3, b4⟩ := back I9
        have hl := vl4.length
        refine call_meets F.slot_list_append ⟨_, b3, rfl⟩ F.entry_list_append (F.args_list_append_2 _ _) (PySem.list_append D its.toArray cap y (by rw [List.size_toArray]; omega)) ⟨b3, ?_⟩
        obtain ⟨c', q⟩ : ∃ c', (s9.heap.update D (Obj.mapSeq fun x => x.push y)).get? D = some (lstObj (its ++ [y]) c') := by
          have q := PySem.IsL.update b3 (fun x => x.push y)
          rw [show its.toArray.push y = (its ++ [y]).toArray by simp] at q
          exact ⟨_, q⟩
        have I9' : Inv (cxC X N' scope cl2 C s2 H2 fp) [] σ7 H9 s9 := I9.pins_of (fun p hp => absurd hp (by simp))
        have kp : ∀ b o, b ≠ D → s9.heap.get? b = some o → (s9.heap.update D (Obj.mapSeq fun x => x.push y)).get? b = some o := fun b o hb e => (Heap.get?_update_other s9.heap (Obj.mapSeq fun x => x.push y) (Ne.symm hb)).trans e
        have I10 := I9'.turned (t' := s9.toks) (it := D) (h' := s9.heap.update D (Obj.mapSeq fun x => x.push y)) kp b4 hDC (.inr (by show s2.heap.objs.size ≤ D; rw [hDd]; exact Nat.le_refl _)) (fun x c e => cells x c e) (fun p hp => absurd hp (by simp [cxC]))
        refine ⟨m', hm, i + 1, ys ++ [z], σ7, H9, its ++ [y], c', I10, T.keep _ _ _ b1 (fun b hb o e => kp b o (Nat.ne_of_lt (lt b hb)) e), b2, q, b4, vl4.append (.cons r9 .nil), ?_, w9⟩
        · rw [List.length_append, List.length_singleton]
          omega
  exact codeAny_compStart_list (loop it _ rfl ⟨_, rfl⟩) (T.self _ 0 _ _ _ (T.keep _ _ _ st2 (fun b _ o e => old b o e)) (loop it _ rfl ⟨_, rfl⟩))
theorem block_run {elt target iter : Expr} {ifs : List Expr} {scope : Scope} {pos : Pos} {g : TG} {tc : TT} {te : TE} {k : Nat} {fr : List Nat} {N' : List Str} {cl : List (Str × Addr)} {pins : List (Addr × Obj)} {σ : St} {H2 : Hp} {s2 : Shared}
    {it : Addr} {fp : List Addr} {tn : Nat → Heap → Prop} {J : It} {E : Value → Shared → Prop} {fin : List V → Hp → Prop} {RR : Value → Addr → Result → Shared → Prop} {XE : List (Str × Addr) → Addr → Shared → Hp → List Addr → Value → Shared → Prop}
    (hc : X.calm = true) (S : CompScope X.N X.env.scope N' scope k fr) (c1 : ∀ x c, cl.lookup x = some c → X.env.cells.lookup x = some c) (c2 : ∀ n, (n, NameKind.free) ∈ scope.names → ∃ c, cl.lookup n = some c) (cin : ∀ x c, (x, c) ∈ cl → ∃ y, X.env.cells.lookup y = some c) (cno : ∀ x, (x, NameKind.cell) ∈ scope.names → ∀ c, (x, c) ∉ cl)
    (hg : ∀ cl C s H ex, PG (cxC X N' scope cl C s H ex) target g) (ht : ∀ cl C s H ex, PTs (cxC X N' scope cl C s H ex) ifs tc) (he : ∀ cl C s H ex, PE ((cxC X N' scope cl C s H ex).wish (XE cl C s H ex)) elt te)
    (I2 : Inv X pins σ H2 s2) (T : Turn X.prog X.w X.K target J fp it tn) (st2 : tn 0 s2.heap) (f2 : ∀ b ∈ fp, FpOk X pins H2 b) (hb : tBlock J g tc te (stC k fr σ) H2 fin)
    (hR : ∀ (C : Addr) (s' : Shared) (m : Str → Option Value) (ys : List V) (its : List Value) (n : Nat) (H' : Hp), s2.heap.objs.size < C → s'.heap.Ns C m → Vals ys its → ys.length ≤ sizeLine → s'.heap.get? s2.heap.objs.size = some (lstObj its n) → H' s2.heap.objs.size = none → H' C = none → fin ys H' →
      s'.os = s2.os → AllBare s'.gens → Un (frs X.stack) fp H2 H' s2.heap s'.heap → HOk X.prog X.w H' s'.heap → RR (.ref s2.heap.objs.size) C (.ok .next) s')
    (hE : ∀ cl C x s', s2.heap.objs.size < C → XE cl C s2 H2 fp x s' → notedBy (model X.prog X.w) X.A (compEnvC scope cl C X.env) (fun y s'' => RR (.ref s2.heap.objs.size) C (.error y) s'') x s') :
    wpAny (model X.prog X.w) X.A (newList []) (fun acc s₃ => wpAny (model X.prog X.w) X.A (newFunctionEnv scope X.env.globals cl [] X.env.qual none .none (some X.env)) (fun cenv s₄ =>
      codeAny (model X.prog X.w) X.A (.compStart (.ListComp elt [⟨target, iter, ifs, 0⟩] scope pos) 0 (.ref it) acc { cenv with scope := relabel scope X.env }) (RR acc cenv.locals) s₄) E s₃) E s2 := by
  refine wpAny_newObj_type (wpAny_newEnv_comp ?_)
  exact block_in (R0 := RR _ _) hc S c1 c2 cin cno hg ht he I2 T st2 f2 hb (fun C e => by subst e; exact hR _) (fun cl C x s' e => by subst e; exact hE cl _ x s')
theorem comp_back {fp : List Addr} {pins : List (Addr × Obj)} {σ : St} {H2 H' : Hp} {s2 s' : Shared} {C : Addr} {ys : List V} {its : List Value} {n : Nat} {h' : Heap} (I2 : Inv X pins σ H2 s2) (f2 : ∀ b ∈ fp, FpOk X pins H2 b) (hC : s2.heap.objs.size < C)
    (vl : Vals ys its) (sz : ys.length ≤ sizeLine) (hD : s'.heap.get? s2.heap.objs.size = some (lstObj its n)) (nD : H' s2.heap.objs.size = none) (nC : H' C = none)
    (os : s'.os = s2.os) (bare : AllBare s'.gens) (un : Un (frs X.stack) fp H2 H' s2.heap s'.heap) (hok : HOk X.prog X.w H' s'.heap) (hs : Heap.SameBut C s'.heap h') :
    Inv X pins σ (upd H' s2.heap.objs.size (.lst ys)) { s' with heap := h' } := by
  have ltC : ∀ b o, s2.heap.get? b = some o → b ≠ C := fun b o e => Nat.ne_of_lt (Nat.lt_trans (Heap.lt_size e) hC)
  have ltD : ∀ b o, s2.heap.get? b = some o → b ≠ s2.heap.objs.size := fun b o e => Nat.ne_of_lt (Heap.lt_size e)
  have tk : ∀ b u, H' b = some u → b ≠ s2.heap.objs.size := fun b u e z => by rw [z, nD] at e; cases e
  have tC : ∀ b u, H' b = some u → b ≠ C := fun b u e z => by rw [z, nC] at e; cases e
  have fD : H2 s2.heap.objs.size = none := I2.hok.fresh (Nat.le_refl _)
  have t2 : ∀ b u, H2 b = some u → b ≠ s2.heap.objs.size := fun b u e z => by rw [z, fD] at e; cases e
  refine I2.call' (s' := { s' with heap := h' }) (ch := fp) os ⟨fun b o e m hb hx => ?_, fun b o e m hb hx => ?_, fun b o e m hx => ?_, fun b o e hx => ?_, fun b xs e => ?_, fun b o u e => ?_, fun b ps e => ?_⟩ (fun b u e => ?_) bare fun b hb => ?_
  · exact (hs.2 b (ltC b o e)).trans (un.keep b o e m hb hx)
  · obtain ⟨sl, q⟩ := un.slot b o e m hb hx
    exact ⟨sl, (hs.2 b (ltC b o e)).trans q⟩
  · rw [upd_ne (ltD b o e)]
    exact un.free b o e m hx
  · obtain ⟨o', q⟩ := un.there b o e hx
    exact ⟨o', (hs.2 b (ltC b o e)).trans q⟩
  · rw [upd_ne (t2 b _ e)]
    exact un.tups b xs e
  · rw [upd_ne (t2 b _ e)]
    exact un.frzs b o u e
  · obtain ⟨mo, q⟩ := un.tbls b ps e
    exact ⟨mo, by rw [upd_ne (t2 b _ e)]; exact q⟩
  · by_cases hb : b = s2.heap.objs.size
    · subst hb
      rw [upd_same] at e
      cases e
      exact ⟨sz, its, n, vl, (hs.2 _ (Nat.ne_of_lt hC)).trans hD⟩
    · rw [upd_ne hb] at e
      exact (hok b u e).stay (fun c v hc q => (hs.2 c (by
        rcases hc with rfl | hc
        · exact tC _ _ e
        · exact tC _ _ hc)).trans q) (fun c r => by rw [upd_ne (tk _ _ r)]; exact r) fun c xs r => by rw [upd_ne (tk _ _ r)]; exact r
  · exact ⟨(f2 b hb).2.2.2.1, (f2 b hb).2.1, (f2 b hb).2.2.2.2.1, (f2 b hb).2.2.2.2.2⟩
noncomputable def tComp (wi : TI) (g : TG) (tc : TT) (te : TE) (k : Nat) (fr : List Nat) : TE := fun σ H Q => wi σ H fun J H1 => tBlock J g tc te (stC k fr σ) H1 fun ys H2 => ∀ D, H1 D = none → H2 D = none → Q (.ref D) (upd H2 D (.lst ys))
theorem pe_comp {elt target iter : Expr} {ifs : List Expr} {scope so : Scope} {pos : Pos} {wi : TI} {g : TG} {tc : TT} {te : TE} {k : Nat} {fr : List Nat} {N N' : List Str} (hc : X.calm = true) (hN : X.N = N) (hso : X.env.scope = so) (S : CompScope N so N' scope k fr)
    (hi : PI X target iter wi) (hg : ∀ cl C s H ex, PG (cxC X N' scope cl C s H ex) target g) (ht : ∀ cl C s H ex, PTs (cxC X N' scope cl C s H ex) ifs tc) (he : ∀ cl C s H ex, PE (cxC X N' scope cl C s H ex) elt te)
    (hs : ∀ x, foldedSetIterable iter X.env x = pure x := by intro _; rfl) : PE X (.ListComp elt [⟨target, iter, ifs, 0⟩] scope pos) (tComp wi g tc te k fr) := by
  subst hN hso
  intro pins s σ H Q I h
  rw [eval_ListComp]
  obtain ⟨cl, hcl, c1, c2, c3⟩ := closureFor_of (env := X.env) (scope := scope) fun n hn => I.ok.has n (S.outer _ hn rfl)
  refine wpAny_comprehension_free (use := none) (cl := cl) rfl hs hcl S.kind S.locs ?_
  refine thn (hi pins s σ H _ I h) fun v s1 h1 => thn h1 fun itv s2 h2 => ?_
  obtain ⟨it, fp, tn, J, H2, rfl, I2, T, st2, f2, hb⟩ := h2
  refine block_run (RR := fun acc C => compPost (model X.prog X.w) X.A X.xe none (EP X pins σ Q) acc C) hc S c1 c2 (fun x c m => ⟨x, (c3 x c m).1⟩) (fun x hx c m => (S.cels _ hx rfl).2 (c3 x c m).2) (XE := fun _ _ _ _ _ _ _ => False) hg ht he I2 T st2 f2 hb ?_ (fun _ _ _ _ _ z => False.elim z)
  intro C s' m ys its n H' hC hn vl sz hD nD nC fin os bare un hok
  exact ⟨m, hn, fun h' hs' => ⟨.ref _, _, comp_back I2 f2 hC vl sz hD nD nC os bare un hok hs', rfl, fin _ (I2.hok.fresh (Nat.le_refl _)) nD⟩⟩
end
structure Src (J : It) (Ok : Hp → Prop) (n : Nat) (Item : Nat → V → Hp → Hp → Prop) : Prop where
  go : ∀ i H, i < n → Ok H → J.go i H
  yld : ∀ i H x H3, i < n → Ok H → J.yld i H x H3 → Item i x H H3
  stop : ∀ H, Ok H → J.stop n H
theorem src_list {K : PySem.W.Frag} {a : Addr} {xs : List V} {Ok : Hp → Prop} (h : ∀ H, Ok H → SqL K H a xs) : Src (Itl K a) Ok xs.length (fun i x H H3 => H3 = H ∧ xs[i]? = some x) where
  go := fun i H hi ok => ⟨xs, xs[i], h H ok, by simp [hi]⟩
  yld := fun i H x H3 hi ok ⟨e, y⟩ => ⟨e, y xs (h H ok)⟩
  stop := fun H ok => ⟨xs, h H ok, Nat.le_refl _⟩
theorem src_range {lo : Int} {n : Nat} {Ok : Hp → Prop} : Src (Itr lo n) Ok n (fun i x H H3 => H3 = H ∧ x = .int (lo + i)) where
  go := fun _ _ hi _ => hi
  yld := fun _ _ _ _ _ _ y => y
  stop := fun _ _ => Nat.le_refl _
theorem block_src {J : It} {g : TG} {tc : TT} {te : TE} {σ0 : St} {H1 : Hp} {fin : List V → Hp → Prop} {n : Nat} {Item : Nat → V → Hp → Hp → Prop} (S : Src J (Same H1) n Item) (Own : St → Prop) (h0 : Own σ0) (P : Nat → List V → Hp → Prop) (p0 : P 0 [] H1) (hz : n ≤ sizeLine)
    (hs : ∀ i x σ H ys H3 (Q : St → V → Hp → Prop) (N : St → Hp → Prop), i < n → Same H1 H → P i ys H → ys.length ≤ i → Own σ → Item i x H H3 →
      (∀ σ3 y H6, Own σ3 → Same H1 H6 → P (i + 1) (ys ++ [y]) H6 → Q σ3 y H6) → (∀ σ3 H5, Own σ3 → Same H1 H5 → P (i + 1) ys H5 → N σ3 H5) →
      g x σ H3 fun σ3 H4 => tc σ3 H4 fun b H5 => if b = true then te σ3 H5 fun y H6 => Q σ3 y H6 else N σ3 H5)
    (hfin : ∀ ys H, Same H1 H → P n ys H → ys.length ≤ n → fin ys H) : tBlock J g tc te σ0 H1 fin := by
  refine ⟨fun i m ys σ H => m = n - i ∧ i ≤ n ∧ ys.length ≤ i ∧ Own σ ∧ Same H1 H ∧ P i ys H, ⟨n, by simp, Nat.zero_le _, Nat.le_refl _, h0, Same.refl _, p0⟩, ?_⟩
  rintro i m ys σ H ⟨rfl, hi, hl, ow, sm, p⟩
  by_cases hlt : i < n
  · refine .inr ⟨S.go i H hlt sm, fun x H3 y => hs i x σ H ys H3 (fun σ3 y H6 => ys.length < sizeLine ∧ ∃ m', m' < n - i ∧ m' = n - (i + 1) ∧ i + 1 ≤ n ∧ (ys ++ [y]).length ≤ i + 1 ∧ Own σ3 ∧ Same H1 H6 ∧ P (i + 1) (ys ++ [y]) H6)
      (fun σ3 H5 => ∃ m', m' < n - i ∧ m' = n - (i + 1) ∧ i + 1 ≤ n ∧ ys.length ≤ i + 1 ∧ Own σ3 ∧ Same H1 H5 ∧ P (i + 1) ys H5) hlt sm p hl ow (S.yld i H x H3 hlt sm y) (fun σ3 y H6 o s6 q => ?_) (fun σ3 H5 o s5 q => ?_)⟩
    · exact ⟨by omega, n - (i + 1), by omega, rfl, hlt, by rw [List.length_append, List.length_singleton]; omega, o, s6, q⟩
    · exact ⟨n - (i + 1), by omega, rfl, hlt, by omega, o, s5, q⟩
  · have e : i = n := by omega
    subst e
    exact .inl ⟨S.stop H sm, hfin ys H sm p hl⟩
theorem comp_map {J : It} {te : TE} {tl : St} {H1 : Hp} {fin : List V → Hp → Prop} {n : Nat} {Item : Nat → V → Hp → Hp → Prop} (S : Src J (Same H1) n Item) (sub : ∀ i x H H3, Item i x H H3 → Same H H3) (hz : n ≤ sizeLine)
    (R : Nat → V → Hp → Prop) (mono : ∀ i y H H', Same H H' → R i y H → R i y H')
    (hs : ∀ i x w H H3 (Q : VK), i < n → Same H1 H → Item i x H H3 → (∀ y H6, Same H3 H6 → R i y H6 → Q y H6) → te ((w :: tl).set 0 (some x)) H3 Q)
    (hfin : ∀ ys H, Same H1 H → ys.length = n → (∀ i y, ys[i]? = some y → R i y H) → fin ys H) : tBlock J (gName 0) tYes te (none :: tl) H1 fin := by
  refine ⟨fun i m ys σ H => m = n - i ∧ i ≤ n ∧ ys.length = i ∧ (∃ w, σ = w :: tl) ∧ Same H1 H ∧ ∀ j y, ys[j]? = some y → R j y H, ⟨n, by simp, Nat.zero_le _, rfl, ⟨_, rfl⟩, Same.refl _, fun j y e => by simp at e⟩, ?_⟩
  rintro i m ys σ H ⟨rfl, hi, hl, ⟨w, rfl⟩, sm, p⟩
  by_cases hlt : i < n
  · refine .inr ⟨S.go i H hlt sm, fun x H3 y => ?_⟩
    have it := S.yld i H x H3 hlt sm y
    have s3 := sub i x H H3 it
    unfold gName tYes
    refine iteT ?_
    refine hs i x w H H3 _ hlt sm it fun y H6 s6 r => ⟨by omega, n - (i + 1), by omega, rfl, hlt, by rw [List.length_append, List.length_singleton]; omega, ⟨_, rfl⟩, sm.trans (s3.trans s6), fun j z e => ?_⟩
    by_cases hj : j < i
    · rw [List.getElem?_append_left (by omega)] at e
      exact mono j z _ _ (s3.trans s6) (p j z e)
    · rw [List.getElem?_append_right (by omega)] at e
      have e2 : j - ys.length = 0 := by
        by_cases q : j - ys.length = 0
        · exact q
        · rw [List.getElem?_eq_none (by simp; omega)] at e; cases e
      rw [e2] at e
      simp at e
      subst e
      have : j = i := by omega
      subst this
      exact r
  · have e : i = n := by omega
    subst e
    exact .inl ⟨S.stop H sm, hfin ys H sm hl p⟩
noncomputable def tForB (J : It) (g : TG) (tb : TS) (D : Ends) (σ : St) (H : Hp) : Prop :=
  ∃ W : Nat → Nat → St → Hp → Prop, (∃ m, W 0 m σ H) ∧ ∀ i m σ H, W i m σ H →
    (J.stop i H ∧ D.nx σ H) ∨ (J.go i H ∧ ∃ N : St → Hp → Prop, (∀ σ' H', N σ' H' → ∃ m', m' < m ∧ W (i + 1) m' σ' H') ∧ ∀ x H', J.yld i H x H' → g x σ H' fun σ2 H2 => tb { D with nx := N, ct := N, bk := D.nx } σ2 H2)
theorem tFor_eq {wi : TI} {g : TG} {tb : TS} {D : Ends} {σ : St} {H : Hp} : tFor wi g tb D σ H = wi σ H fun J H1 => tForB J g tb D σ H1 := rfl
theorem for_src {J : It} {g : TG} {tb : TS} {D : Ends} {σ : St} {H : Hp} {n : Nat} {Item : Nat → V → Hp → Hp → Prop} {Ok : Hp → Prop} (S : Src J Ok n Item) (Pv : Nat → St → Hp → Prop) (h0 : Pv 0 σ H) (hok : ∀ i σ H, i ≤ n → Pv i σ H → Ok H)
    (hs : ∀ i x σ H H3, i < n → Pv i σ H → Item i x H H3 → g x σ H3 fun σ2 H2 => tb { D with nx := Pv (i + 1), ct := Pv (i + 1), bk := D.nx } σ2 H2) (hd : ∀ σ H, Pv n σ H → D.nx σ H) : tForB J g tb D σ H := by
  refine ⟨fun i m σ H => m = n - i ∧ i ≤ n ∧ Pv i σ H, ⟨n, by simp, Nat.zero_le _, h0⟩, ?_⟩
  rintro i m σ H ⟨rfl, hi, p⟩
  by_cases hlt : i < n
  · exact .inr ⟨S.go i H hlt (hok i σ H hi p), Pv (i + 1), fun σ' H' p' => ⟨n - (i + 1), by omega, rfl, hlt, p'⟩, fun x H' y => hs i x σ H H' hlt p (S.yld i H x H' hlt (hok i σ H hi p) y)⟩
  · have e : i = n := by omega
    subst e
    exact .inl ⟨S.stop H (hok i σ H hi p), hd σ H p⟩
theorem comp_map2 {K : PySem.W.Frag} {J : It} {te : TE} {tl : St} {H1 : Hp} {fin : List V → Hp → Prop} {n : Nat} {Item : Nat → V → Hp → Hp → Prop} (S : Src J (Same H1) n Item) (It2 : Nat → V → V → Hp → Prop)
    (tp : ∀ i x H H3, i < n → Same H1 H → Item i x H H3 → Same H H3 ∧ ∃ p a b, x = .ref p ∧ SqT K H3 p [a, b] ∧ It2 i a b H3) (hz : n ≤ sizeLine)
    (R : Nat → V → Hp → Prop) (mono : ∀ i y H H', Same H H' → R i y H → R i y H')
    (hs : ∀ i a b H3 (Q : VK), i < n → Same H1 H3 → It2 i a b H3 → (∀ y H6, Same H3 H6 → R i y H6 → Q y H6) → te (some a :: some b :: tl) H3 Q)
    (hfin : ∀ ys H, Same H1 H → ys.length = n → (∀ (i : Nat) y, ys[i]? = some y → R i y H) → fin ys H) : tBlock J (gTup K 2 (gCons (gName 0) (gCons (gName 1) gNil))) tYes te (none :: none :: tl) H1 fin := by
  refine ⟨fun i m ys σ H => m = n - i ∧ i ≤ n ∧ ys.length = i ∧ (∃ w w', σ = w :: w' :: tl) ∧ Same H1 H ∧ ∀ (j : Nat) y, ys[j]? = some y → R j y H, ⟨n, by simp, Nat.zero_le _, rfl, ⟨_, _, rfl⟩, Same.refl _, fun j y e => by simp at e⟩, ?_⟩
  rintro i m ys σ H ⟨rfl, hi, hl, ⟨w, w', rfl⟩, sm, p⟩
  by_cases hlt : i < n
  · refine .inr ⟨S.go i H hlt sm, fun x H3 y => ?_⟩
    obtain ⟨s3, q, a, b, rfl, sq, it⟩ := tp i x H H3 hlt sm (S.yld i H x H3 hlt sm y)
    refine ⟨q, _, rfl, sq, rfl, _, _, rfl, _, _, rfl, rfl, ?_⟩
    unfold tYes
    refine iteT ?_
    refine hs i a b H3 _ hlt (sm.trans s3) it fun y H6 s6 r => ⟨by omega, n - (i + 1), by omega, rfl, hlt, by rw [List.length_append, List.length_singleton]; omega, ⟨_, _, rfl⟩, sm.trans (s3.trans s6), fun j z e => ?_⟩
    by_cases hj : j < i
    · rw [List.getElem?_append_left (by omega)] at e
      exact mono j z _ _ (s3.trans s6) (p j z e)
    · rw [List.getElem?_append_right (by omega)] at e
      have e2 : j - ys.length = 0 := by
        by_cases q : j - ys.length = 0
        · exact q
        · rw [List.getElem?_eq_none (by simp; omega)] at e; cases e
      rw [e2] at e
      simp at e
      subst e
      have : j = i := by omega
      subst this
      exact r
  · have e : i = n := by omega
    subst e
    exact .inl ⟨S.stop H sm, hfin ys H sm hl p⟩
end L2
namespace L2
open PySem PySem.Spec PyProof.Rows
section
variable {X : Cx} {pins : List (Addr × Obj)} {σ : St} {H : Hp} {s : Shared}
end
noncomputable def Itz (K : PySem.W.Frag) (a b : Addr) : It :=
  ⟨fun i H => ∃ xs ys x y, SqL K H a xs ∧ SqL K H b ys ∧ xs[i]? = some x ∧ ys[i]? = some y,
   fun i H v H' => ∃ p, H p = none ∧ v = .ref p ∧ ∃ x y, (∀ xs, SqL K H a xs → xs[i]? = some x) ∧ (∀ ys, SqL K H b ys → ys[i]? = some y) ∧ H' = upd H p (.tup [x, y]),
   fun i H => ∃ xs ys, SqL K H a xs ∧ SqL K H b ys ∧ (i = min xs.length ys.length)⟩
noncomputable def Ite (K : PySem.W.Frag) (a : Addr) : It :=
  ⟨fun i H => ∃ xs x, SqL K H a xs ∧ xs[i]? = some x,
   fun i H v H' => ∃ p, H p = none ∧ v = .ref p ∧ ∃ x, (∀ xs, SqL K H a xs → xs[i]? = some x) ∧ H' = upd H p (.tup [.int i, x]),
   fun i H => ∃ xs, SqL K H a xs ∧ xs.length = i⟩
section
variable {X : Cx} {elts : List Expr} {kk : Nat} {tpos : Pos}
noncomputable def iZip (K : PySem.W.Frag) (ta : TA) : TI := fun σ H R => ta σ H fun vs H1 => ∃ a b, vs = [.ref a, .ref b] ∧ (∃ xs, SqL K H1 a xs) ∧ (∃ ys, SqL K H1 b ys) ∧ R (Itz K a b) H1
noncomputable def iEnum (K : PySem.W.Frag) (ta : TA) : TI := fun σ H R => ta σ H fun vs H1 => ∃ a, vs = [.ref a] ∧ (∃ xs, SqL K H1 a xs) ∧ R (Ite K a) H1
end
end L2
namespace L2
open PySem PySem.Spec PyProof.Rows
inductive Dat where
  | non | bl (b : Bool) | int (i : Int) | str (x : Str) | tup (l : List Dat) | lst (l : List Dat)
mutual
noncomputable def Rep (H : Hp) : Dat → V → Prop
  | .non, v => v = .non
  | .bl b, v => v = .bl b
  | .int i, v => v = .int i
  | .str x, v => v = .str x
  | .tup ds, v => ∃ p vs, v = .ref p ∧ H p = some (.tup vs) ∧ RepL H ds vs
  | .lst ds, v => ∃ p vs, v = .ref p ∧ H p = some (.lst vs) ∧ RepL H ds vs
noncomputable def RepL (H : Hp) : List Dat → List V → Prop
  | [], vs => vs = []
  | d :: ds, vs => ∃ v r, vs = v :: r ∧ Rep H d v ∧ RepL H ds r
end
mutual
theorem Rep.mono {H H' : Hp} (s : Same H H') : ∀ {d : Dat} {v : V}, Rep H d v → Rep H' d v
  | .non, _, h => by rw [Rep] at *; exact h
  | .bl _, _, h => by rw [Rep] at *; exact h
  | .int _, _, h => by rw [Rep] at *; exact h
  | .str _, _, h => by rw [Rep] at *; exact h
  | .tup _, _, h => by
    rw [Rep] at *
    obtain ⟨p, vs, e, hp, r⟩ := h
    exact ⟨p, vs, e, s _ _ hp, RepL.mono s r⟩
  | .lst _, _, h => by
    rw [Rep] at *
    obtain ⟨p, vs, e, hp, r⟩ := h
    exact ⟨p, vs, e, s _ _ hp, RepL.mono s r⟩
theorem RepL.mono {H H' : Hp} (s : Same H H') : ∀ {ds : List Dat} {vs : List V}, RepL H ds vs → RepL H' ds vs
  | [], _, h => by rw [RepL] at *; exact h
  | _ :: _, _, h => by
    rw [RepL] at *
    obtain ⟨v, r, e, h1, h2⟩ := h
    exact ⟨v, r, e, Rep.mono s h1, RepL.mono s h2⟩
end
theorem RepL.length {H : Hp} : ∀ {ds : List Dat} {vs : List V}, RepL H ds vs → ds.length = vs.length
  | [], _, h => by rw [RepL] at h; subst h; rfl
  | _ :: _, _, h => by
    rw [RepL] at h
    obtain ⟨v, r, rfl, _, h2⟩ := h
    simp [h2.length]
theorem RepL.get {H : Hp} : ∀ {ds : List Dat} {vs : List V} {i : Nat} {v : V}, RepL H ds vs → vs[i]? = some v → ∃ d, ds[i]? = some d ∧ Rep H d v
  | [], _, i, v, h, e => by rw [RepL] at h; subst h; simp at e
  | d :: ds, _, i, v, h, e => by
    rw [RepL] at h
    obtain ⟨v', r, rfl, h1, h2⟩ := h
    cases i with
    | zero => simp at e; subst e; exact ⟨d, rfl, h1⟩
    | succ i => simp at e; obtain ⟨d', e', r'⟩ := h2.get e; exact ⟨d', by simpa using e', r'⟩
theorem RepL.at {H : Hp} : ∀ {ds : List Dat} {vs : List V} {i : Nat} {d : Dat}, RepL H ds vs → ds[i]? = some d → ∃ v, vs[i]? = some v ∧ Rep H d v
  | [], _, i, v, h, e => by simp at e
  | d :: ds, _, i, d', h, e => by
    rw [RepL] at h
    obtain ⟨v', r, rfl, h1, h2⟩ := h
    cases i with
    | zero => simp at e; subst e; exact ⟨v', rfl, h1⟩
    | succ i => simp at e; obtain ⟨v, e', r'⟩ := h2.at e; exact ⟨v, by simpa using e', r'⟩
theorem RepL.of {H : Hp} : ∀ {ds : List Dat} {vs : List V}, ds.length = vs.length → (∀ (i : Nat) d v, ds[i]? = some d → vs[i]? = some v → Rep H d v) → RepL H ds vs
  | [], [], _, _ => by rw [RepL]
  | [], _ :: _, h, _ => by simp at h
  | _ :: _, [], h, _ => by simp at h
  | d :: ds, v :: vs, h, k => by
    rw [RepL]
    exact ⟨v, vs, rfl, k 0 d v rfl rfl, RepL.of (by simpa using h) fun i d' v' e1 e2 => k (i + 1) d' v' (by simpa using e1) (by simpa using e2)⟩
noncomputable def depth : Dat → Nat
  | .tup l => 1 + dL l
  | .lst l => 1 + dL l
  | _ => 0
where dL : List Dat → Nat
  | [] => 0
  | d :: ds => max (depth d) (dL ds)
theorem depth_mem {d : Dat} : ∀ {ds : List Dat}, d ∈ ds → depth d ≤ depth.dL ds
  | e :: ds, h => by
    rw [depth.dL]
    rcases List.mem_cons.mp h with rfl | h
    · exact Nat.le_max_left _ _
    · exact Nat.le_trans (depth_mem h) (Nat.le_max_right _ _)
section
variable {X : Cx} {pins : List (Addr × Obj)} {σ : St} {H : Hp} {s : Shared}
theorem all_true (n : Nat) : ((List.range n).all fun _ => true) = true := by simp
theorem eqAt_D (I : Inv X pins σ H s) : ∀ (n : Nat) (d : Dat), depth d ≤ n → ∀ (v v' : V) (u u' : Value) (A : Around), Rep H d v → Rep H d v' → RelV v u → RelV v' u' → A.units + n < cLine → SeqAt.EqAt A s u u' true := by
  intro n
  induction n with
  | zero =>
    intro d hd v v' u u' A h h' r r' hu
    cases d with
    | non => rw [Rep] at h h'; subst h h'; cases r; cases r'; exact SeqAt.EqAt.same _
    | bl b => rw [Rep] at h h'; subst h h'; cases r; cases r'; exact SeqAt.EqAt.same _
    | int i => rw [Rep] at h h'; subst h h'; obtain ⟨t, rfl⟩ := r; obtain ⟨t', rfl⟩ := r'; have := SeqAt.EqAt.int_int (A := A) (s := s) i t i t'; simpa using this
    | str x => rw [Rep] at h h'; subst h h'; obtain ⟨t, rfl⟩ := r; obtain ⟨t', rfl⟩ := r'; have := SeqAt.EqAt.str_str (A := A) (s := s) x t x t'; simpa using this
    | tup l => rw [depth] at hd; omega
    | lst l => rw [depth] at hd; omega
  | succ n ih =>
    intro d hd v v' u u' A h h' r r' hu
    cases d with
    | non => rw [Rep] at h h'; subst h h'; cases r; cases r'; exact SeqAt.EqAt.same _
    | bl b => rw [Rep] at h h'; subst h h'; cases r; cases r'; exact SeqAt.EqAt.same _
    | int i => rw [Rep] at h h'; subst h h'; obtain ⟨t, rfl⟩ := r; obtain ⟨t', rfl⟩ := r'; have := SeqAt.EqAt.int_int (A := A) (s := s) i t i t'; simpa using this
    | str x => rw [Rep] at h h'; subst h h'; obtain ⟨t, rfl⟩ := r; obtain ⟨t', rfl⟩ := r'; have := SeqAt.EqAt.str_str (A := A) (s := s) x t x t'; simpa using this
    | tup l =>
      rw [Rep] at h h'
      obtain ⟨p, vs, rfl, hp, rl⟩ := h
      obtain ⟨p', vs', rfl, hp', rl'⟩ := h'
      cases r
      cases r'
      rw [depth] at hd
      by_cases hpp : p = p'
      · subst hpp; exact SeqAt.EqAt.same _
      obtain ⟨its, rv, pl, hz⟩ := I.tuple (SqT.of hp)
      obtain ⟨its', rv', pl', hz'⟩ := I.tuple (SqT.of hp')
      have e1 := rl.length
      have e2 := rl'.length
      have l1 := rv.length
      have l2 := rv'.length
      have R := SeqAt.RcAt.tuples (A := A) (e := fun _ => true) pl pl' (by omega) (fun j h1 h2 => ?_)
      · simp only [List.size_toArray, all_true, Bool.true_and] at R
        rw [show (its.length == its'.length) = true by simp; omega] at R
        exact .of_refs hpp R
      · rw [List.size_toArray] at h1 h2
        obtain ⟨d, ed⟩ : ∃ d, l[j]? = some d := ⟨l[j]'(by omega), by simp⟩
        obtain ⟨v1, f1, q1⟩ := rl.at ed
        obtain ⟨v2, f2, q2⟩ := rl'.at ed
        obtain ⟨u1, g1, w1⟩ := rv.get f1
        obtain ⟨u2, g2, w2⟩ := rv'.get f2
        have a1 : its.toArray[j] = u1 := by simpa [List.getElem?_eq_getElem h1] using g1
        have a2 : its'.toArray[j] = u2 := by simpa [List.getElem?_eq_getElem h2] using g2
        rw [a1, a2]
        have := depth_mem (List.mem_of_getElem? ed)
        exact ih d (by omega) v1 v2 u1 u2 A.in1 q1 q2 w1 w2 (by show A.units + 1 + n < cLine; omega)
    | lst l =>
      rw [Rep] at h h'
      obtain ⟨p, vs, rfl, hp, rl⟩ := h
      obtain ⟨p', vs', rfl, hp', rl'⟩ := h'
      cases r
      cases r'
      rw [depth] at hd
      by_cases hpp : p = p'
      · subst hpp; exact SeqAt.EqAt.same _
      obtain ⟨its, rv, pl, hz⟩ := I.list (SqL.of hp)
      obtain ⟨its', rv', pl', hz'⟩ := I.list (SqL.of hp')
      have e1 := rl.length
      have e2 := rl'.length
      have l1 := rv.length
      have l2 := rv'.length
      have R := SeqAt.RcAt.lists (A := A) (e := fun _ => true) pl.isList pl'.isList (by simp only [List.size_toArray]; omega) (by omega) (fun j h1 h2 => ?_)
      · rw [all_true] at R
        exact .of_refs hpp R
      · rw [List.size_toArray] at h1 h2
        obtain ⟨d, ed⟩ : ∃ d, l[j]? = some d := ⟨l[j]'(by omega), by simp⟩
        obtain ⟨v1, f1, q1⟩ := rl.at ed
        obtain ⟨v2, f2, q2⟩ := rl'.at ed
        obtain ⟨u1, g1, w1⟩ := rv.get f1
        obtain ⟨u2, g2, w2⟩ := rv'.get f2
        have a1 : its.toArray[j] = u1 := by simpa [List.getElem?_eq_getElem h1] using g1
        have a2 : its'.toArray[j] = u2 := by simpa [List.getElem?_eq_getElem h2] using g2
        rw [a1, a2]
        have := depth_mem (List.mem_of_getElem? ed)
        exact ih d (by omega) v1 v2 u1 u2 A.in1 q1 q2 w1 w2 (by show A.units + 1 + n < cLine; omega)
end
section
variable {X : Cx}
noncomputable def rEqD (b : Bool) : R2 := fun x y H Q => ∃ d, Rep H d x ∧ Rep H d y ∧ (∃ p, x = .ref p) ∧ depth d ≤ 40 ∧ Q (.bl b) H
theorem seqs_D {pins : List (Addr × Obj)} {σ : St} {H : Hp} {s : Shared} {d : Dat} {p p' : Addr} (I : Inv X pins σ H s) (hu : X.A.units + 64 < cLine) (h : Rep H d (.ref p)) (h' : Rep H d (.ref p')) (hd : depth d ≤ 40) :
    (∃ its its' : List Value, IsTup s.heap p its.toArray ∧ IsTup s.heap p' its'.toArray ∧ its.length = its'.length ∧ ∀ j (h1 : j < its.toArray.size) (h2 : j < its'.toArray.size), SeqAt.EqAt X.A.in1 s its.toArray[j] its'.toArray[j] true) ∨
    (∃ its its' : List Value, s.heap.IsList p its.toArray ∧ s.heap.IsList p' its'.toArray ∧ its.length = its'.length ∧ ∀ j (h1 : j < its.toArray.size) (h2 : j < its'.toArray.size), SeqAt.EqAt X.A.in1 s its.toArray[j] its'.toArray[j] true) := by
  cases d with
  | non => rw [Rep] at h; cases h
  | bl b => rw [Rep] at h; cases h
  | int i => rw [Rep] at h; cases h
  | str x => rw [Rep] at h; cases h
  | tup l =>
    left
    rw [Rep] at h h'
    obtain ⟨_, vs, e, hp, rl⟩ := h
    cases e
    obtain ⟨_, vs', e, hp', rl'⟩ := h'
    cases e
    rw [depth] at hd
    obtain ⟨its, rv, pl, hz⟩ := I.tuple (SqT.of hp)
    obtain ⟨its', rv', pl', hz'⟩ := I.tuple (SqT.of hp')
    have e1 := rl.length
    have e2 := rl'.length
    have l1 := rv.length
    have l2 := rv'.length
    refine ⟨its, its', pl, pl', by omega, fun j h1 h2 => ?_⟩
    rw [List.size_toArray] at h1 h2
    obtain ⟨d, ed⟩ : ∃ d, l[j]? = some d := ⟨l[j]'(by omega), by simp⟩
    obtain ⟨v1, f1, q1⟩ := rl.at ed
    obtain ⟨v2, f2, q2⟩ := rl'.at ed
    obtain ⟨u1, g1, w1⟩ := rv.get f1
    obtain ⟨u2, g2, w2⟩ := rv'.get f2
    have a1 : its.toArray[j] = u1 := by simpa [List.getElem?_eq_getElem h1] using g1
    have a2 : its'.toArray[j] = u2 := by simpa [List.getElem?_eq_getElem h2] using g2
    rw [a1, a2]
    have := depth_mem (List.mem_of_getElem? ed)
    exact eqAt_D I 40 d (by omega) v1 v2 u1 u2 X.A.in1 q1 q2 w1 w2 (by show X.A.units + 1 + 40 < cLine; omega)
  | lst l =>
    right
    rw [Rep] at h h'
    obtain ⟨_, vs, e, hp, rl⟩ := h
    cases e
    obtain ⟨_, vs', e, hp', rl'⟩ := h'
    cases e
    rw [depth] at hd
    obtain ⟨its, rv, pl, hz⟩ := I.list (SqL.of hp)
    obtain ⟨its', rv', pl', hz'⟩ := I.list (SqL.of hp')
    have e1 := rl.length
    have e2 := rl'.length
    have l1 := rv.length
    have l2 := rv'.length
    refine ⟨its, its', pl.isList, pl'.isList, by omega, fun j h1 h2 => ?_⟩
    rw [List.size_toArray] at h1 h2
    obtain ⟨d, ed⟩ : ∃ d, l[j]? = some d := ⟨l[j]'(by omega), by simp⟩
    obtain ⟨v1, f1, q1⟩ := rl.at ed
    obtain ⟨v2, f2, q2⟩ := rl'.at ed
    obtain ⟨u1, g1, w1⟩ := rv.get f1
    obtain ⟨u2, g2, w2⟩ := rv'.get f2
    have a1 : its.toArray[j] = u1 := by simpa [List.getElem?_eq_getElem h1] using g1
    have a2 : its'.toArray[j] = u2 := by simpa [List.getElem?_eq_getElem h2] using g2
    rw [a1, a2]
    have := depth_mem (List.mem_of_getElem? ed)
    exact eqAt_D I 40 d (by omega) v1 v2 u1 u2 X.A.in1 q1 q2 w1 w2 (by show X.A.units + 1 + 40 < cLine; omega)
theorem op_eqD (hu : X.A.units + 64 < cLine) : OpR X (compareOp .Eq) (rEqD true) := by
  intro pins s σ H x y v u Q I rx ry h
  obtain ⟨d, h1, h2, ⟨p, rfl⟩, hd, q⟩ := h
  obtain ⟨p', rfl⟩ : ∃ p', y = .ref p' := by
    cases d with
    | non => rw [Rep] at h1; cases h1
    | bl b => rw [Rep] at h1; cases h1
    | int i => rw [Rep] at h1; cases h1
    | str x => rw [Rep] at h1; cases h1
    | tup l => rw [Rep] at h2; obtain ⟨p', _, e, _⟩ := h2; exact ⟨p', e⟩
    | lst l => rw [Rep] at h2; obtain ⟨p', _, e, _⟩ := h2; exact ⟨p', e⟩
  cases rx
  cases ry
  rcases seqs_D I hu h1 h2 hd with ⟨its, its', a, b, e, k⟩ | ⟨its, its', a, b, e, k⟩
  · refine SeqAt.eq_tupleAt (e := fun _ => true) a b (by omega) k ⟨.bl true, H, I, ?_, q⟩
    show Value.bool _ = Value.bool true
    rw [all_true, List.size_toArray, List.size_toArray, e]
    simp
  · refine SeqAt.eq_listAt (e := fun _ => true) a b (by simp only [List.size_toArray]; exact e) (by omega) k ⟨.bl true, H, I, ?_, q⟩
    show Value.bool _ = Value.bool true
    rw [all_true]
noncomputable def rNeT : R2 := fun x y H Q => ∃ p q xs ys, x = .ref p ∧ y = .ref q ∧ H p = some (.tup xs) ∧ H q = some (.tup ys) ∧ xs.all flatV = true ∧ ys.all flatV = true ∧ Q (.bl (!eqL xs ys)) H
end
end L2
namespace Nm
noncomputable def ins (x : Int) : List Int → List Int
  | [] => [x]
  | y :: r => if x ≤ y then x :: y :: r else y :: ins x r
noncomputable def srt : List Int → List Int
  | [] => []
  | x :: r => ins x (srt r)
theorem ins_perm (x : Int) : ∀ l, (ins x l).Perm (x :: l)
  | [] => .refl _
  | y :: r => by
    unfold ins
    split
    · exact .refl _
    · exact ((ins_perm x r).cons y).trans (.swap ..)
theorem srt_perm : ∀ l, (srt l).Perm l
  | [] => .refl _
  | x :: r => (ins_perm x _).trans ((srt_perm r).cons x)
theorem ins_ord (x : Int) : ∀ l : List Int, l.Pairwise (· ≤ ·) → (ins x l).Pairwise (· ≤ ·)
  | [], _ => by unfold ins; simp
  | y :: r, h => by
    unfold ins
    rw [List.pairwise_cons] at h
    split
    · rename_i c
      rw [List.pairwise_cons, List.pairwise_cons]
      refine ⟨fun z hz => ?_, h.1, h.2⟩
      rcases List.mem_cons.mp hz with rfl | hz
      · exact c
      · have := h.1 z hz; omega
    · rename_i c
      rw [List.pairwise_cons]
      refine ⟨fun z hz => ?_, ins_ord x r h.2⟩
      rcases List.mem_cons.mp ((ins_perm x r).mem_iff.mp hz) with rfl | hz
      · omega
      · exact h.1 z hz
theorem srt_ord : ∀ l : List Int, (srt l).Pairwise (· ≤ ·)
  | [] => by unfold srt; simp
  | x :: r => ins_ord x _ (srt_ord r)
theorem srt_length (l : List Int) : (srt l).length = l.length := (srt_perm l).length_eq
theorem ord_one : ∀ {a b : List Int}, a.Perm b → a.Pairwise (· ≤ ·) → b.Pairwise (· ≤ ·) → a = b
  | [], b, p, _, _ => by simpa using p.symm.eq_nil
  | x :: a, [], p, _, _ => by simpa using p.eq_nil
  | x :: a, y :: b, p, ha, hb => by
    rw [List.pairwise_cons] at ha hb
    have e : x = y := by
      have h1 : y ∈ x :: a := p.mem_iff.mpr List.mem_cons_self
      have h2 : x ∈ y :: b := p.mem_iff.mp List.mem_cons_self
      rcases List.mem_cons.mp h1 with h1 | h1
      · exact h1.symm
      · rcases List.mem_cons.mp h2 with h2 | h2
        · exact h2
        · have := ha.1 y h1
          have := hb.1 x h2
          omega
    subst e
    rw [ord_one ((List.perm_cons x).mp p) ha.2 hb.2]
theorem srt_one {a b : List Int} (p : a.Perm b) (o : a.Pairwise (· ≤ ·)) : a = srt b := ord_one (p.trans (srt_perm b).symm) o (srt_ord b)
theorem srt_mem {a : Int} {l : List Int} : a ∈ srt l ↔ a ∈ l := (srt_perm l).mem_iff
theorem srt_congr {a b : List Int} (p : a.Perm b) : srt a = srt b := srt_one ((srt_perm a).trans p) (srt_ord a)
end Nm
namespace L2
open PySem PySem.Spec PyProof.Rows PySem.W
section
variable {X : Cx}
theorem ints_items {us : List Value} {ns : List Int} (h : IntsAre us ns) : ∃ xs, us.toArray = intItems xs ∧ preSum (numAt xs) xs.size = ns.sum := by
  obtain ⟨xs, hx⟩ := h.allInts.items
  refine ⟨xs, hx, ?_⟩
  have e1 : ns = xs.toList.map (·.1) := by
    rw [← nums_intItems, ← hx]
    exact h.numsOf.symm
  rw [preSum_eq, List.take_of_length_le (by simp), e1]
theorem call_sum_l (hc : X.calm = true) : CallR X (.builtin "sum") (fun xs H Q => ∃ p ns, xs = [.ref p] ∧ SqL X.K H p (List.map V.int ns) ∧ Q (.int ns.sum) H) := by
  intro pins s σ H xs us Q I r h
  obtain ⟨p, ns, rfl, hq, q⟩ := h
  obtain ⟨u, rfl, rx⟩ := vals1 r
  cases rx
  obtain ⟨its, rv, pl, hz⟩ := I.list hq
  obtain ⟨ys, e1, e2⟩ := ints_items (intsAre_of rv)
  have hl := pl.isList
  rw [e1] at hl
  refine sum_intListG (I.ok.hd hc) hl fun h' tk t' hk => ⟨.int ns.sum, H, I.kept (t' := tk) hk, ⟨t', ?_⟩, q⟩
  rw [e2]
theorem vals_ints_of {us : List Value} {ns : List Int} (h : IntsAre us ns) : Vals (ns.map V.int) us := by
  induction h with
  | nil => exact .nil
  | cons n t _ ih => exact .cons ⟨t, rfl⟩ ih
theorem call_sorted_l : CallR X (.builtin "sorted") (fun xs H Q => ∃ p ns, xs = [.ref p] ∧ SqL X.K H p (List.map V.int ns) ∧ ns.length < 64 ∧ ∀ l, H l = none → Q (.ref l) (upd H l (.lst (List.map V.int (Nm.srt ns))))) := by
  intro pins s σ H xs us Q I r h
  obtain ⟨p, ns, rfl, hq, hn, q⟩ := h
  obtain ⟨u, rfl, rx⟩ := vals1 r
  cases rx
  obtain ⟨its, rv, pl, hz⟩ := I.list hq
  have hl := rv.length
  rw [List.length_map] at hl
  refine sorted_ints pl.isList (intsAre_of rv) (by omega) fun out ns' a1 a2 a3 => ?_
  obtain rfl := Nm.srt_one a2 a3
  obtain ⟨e, he⟩ := sortedAll_at s.heap its out
  have fr := I.hok.fresh (a := s.heap.objs.size + 1) (Nat.le_succ _)
  refine ⟨.ref (s.heap.objs.size + 1), _, I.laid (t' := s.toks) (fun _ _ => sortedAll_old) (Nat.le_succ _) (o := .lst (List.map V.int (Nm.srt ns))) ⟨?_, out.toList, e, vals_ints_of a1, ?_⟩, rfl, q _ fr⟩
  · rw [List.length_map, Nm.srt_length, sizeLine_eq]; omega
  · exact he
noncomputable def keysI (kvs : List (Key × V)) : List Int := kvs.map fun p => match p.1 with | .inl i => i | .inr _ => 0
noncomputable def allI (kvs : List (Key × V)) : Prop := ∀ p ∈ kvs, ∃ i, p.1 = Sum.inl i
end
section
variable {X : Cx} {pins : List (Addr × Obj)} {σ : St} {H : Hp} {s : Shared}
end
noncomputable def Itd (d : Addr) (o : Obj) (kvs : List (Key × V)) : It :=
  ⟨fun i H => H d = some (.frz o (.dK kvs)) ∧ i < kvs.length, fun i H x H' => H' = H ∧ ∃ p, kvs[i]? = some p ∧ x = kV p.1, fun i H => H d = some (.frz o (.dK kvs)) ∧ i = kvs.length⟩
section
variable {X : Cx} {x : Str} {xpos : Pos}
noncomputable def iDict (tl : TE) : TI := fun σ H R => tl σ H fun v H1 => ∃ d kvs, v = .ref d ∧ H1 d = some (.dK kvs) ∧ ∀ o, R (Itd d o kvs) (upd H1 d (.frz o (.dK kvs)))
end
end L2
namespace L2
open PySem PySem.Spec PyProof.Rows PySem.W
section
variable {X : Cx} {K : PySem.W.Frag}
theorem pi_listK {tg l : Expr} {tl : TE} (hl : PE X l tl) (hK : X.K = K := by rfl) : PI X tg l (iList K tl) := by subst hK; exact pi_list hl
theorem pg_tupK {es : List Expr} {k : Nat} {t : TGs} {n : Nat} {pos : Pos} (hc : X.calm = true) (h : PGs X es t) (hn : (assignEach es X.env).length = n := by rfl) (hst : (assignEach es X.env).findIdx? (·.1) = none := by rfl) (hK : X.K = K := by rfl) : PG X (.Tuple es k pos) (gTup K n t) := by
  subst hK; exact pg_tup hc h hn hst
theorem ix_listSK (hK : X.K = K := by rfl) : IxR X (rIxQ K) := by subst hK; exact ix_listS
theorem call_lenQK (hK : X.K = K := by rfl) : CallR X (.builtin "len") (fun xs H Q => ∃ p ns, xs = [.ref p] ∧ SqL K H p (List.map V.int ns) ∧ Q (.int (List.length ns : Nat)) H) := by subst hK; exact call_lenQ
theorem call_isTK (hK : X.K = K := by rfl) : CallR X (.builtin "isinstance") (fun xs H Q => ∃ x c t b, xs = [x, .ty c] ∧ TyOf K H x t ∧ PySem.W.kitOne K t (.type c) = some b ∧ Q (.bl b) H) := by subst hK; exact call_isT
theorem call_sum_lK (hc : X.calm = true := by rfl) (hK : X.K = K := by rfl) : CallR X (.builtin "sum") (fun xs H Q => ∃ p ns, xs = [.ref p] ∧ SqL K H p (List.map V.int ns) ∧ Q (.int ns.sum) H) := by subst hK; exact call_sum_l hc
theorem call_sorted_lK (hK : X.K = K := by rfl) : CallR X (.builtin "sorted") (fun xs H Q => ∃ p ns, xs = [.ref p] ∧ SqL K H p (List.map V.int ns) ∧ ns.length < 64 ∧ ∀ l, H l = none → Q (.ref l) (upd H l (.lst (List.map V.int (Nm.srt ns))))) := by subst hK; exact call_sorted_l
theorem sl_listK (hK : X.K = K := by rfl) : SlR X (rSlL K) := by subst hK; exact sl_list
theorem MtM.r {id : String} {r : V → List V → Hp → VK → Prop} (h : MtM X id r) : MtR X id r := h
end
end L2
namespace Nm
abbrev Ws := List (Int × Int)
noncomputable def keys (ws : Ws) : List Int := ws.map (·.1)
noncomputable def look : Ws → Int → Int
  | [], _ => 0
  | p :: r, k => if p.1 = k then p.2 else look r k
noncomputable def put : Ws → Int → Int → Ws
  | [], k, v => [(k, v)]
  | p :: r, k, v => if p.1 = k then (k, v) :: r else p :: put r k v
noncomputable def tot (ws : Ws) : Int := (ws.map (·.2)).sum
noncomputable def addk (ws : Ws) (k x : Int) : Ws := put ws k (look ws k + x)
noncomputable def addAll (ws ps : Ws) : Ws := ps.foldl (fun acc p => addk acc p.1 p.2) ws
noncomputable def prs (as bs : Ws) : Ws := as.flatMap fun a => bs.map fun b => (a.1 + b.1, a.2 * b.2)
noncomputable def bothW (as bs : Ws) : Ws := addAll [] (prs as bs)
noncomputable def cnt (ps : Ws) (s : Int) : Int := (ps.map fun p => if p.1 = s then p.2 else 0).sum
theorem look_put : ∀ (ws : Ws) (k v j : Int), look (put ws k v) j = if k = j then v else look ws j
  | [], k, v, j => by simp [put, look]
  | p :: r, k, v, j => by
    unfold put
    split
    · rename_i c
      simp only [look]
      by_cases e : k = j
      · simp [e]
      · rw [if_neg e, if_neg e, if_neg (by omega)]
    · rename_i c
      simp only [look]
      by_cases e : p.1 = j
      · rw [if_pos e, if_neg (by omega), if_pos e]
      · rw [if_neg e, if_neg e]
        exact look_put r k v j
theorem mem_put {ws : Ws} {k v j : Int} : j ∈ keys (put ws k v) ↔ j = k ∨ j ∈ keys ws := by
  induction ws with
  | nil => simp [put, keys]
  | cons p r ih =>
    unfold put
    split
    · rename_i c
      simp only [keys, List.map_cons, List.mem_cons]
      rw [c]
      constructor
      · intro h; exact .inr h
      · rintro (h | h)
        · exact .inl h
        · exact h
    · simp only [keys, List.map_cons, List.mem_cons] at ih ⊢
      rw [ih]
      constructor
      · rintro (h | h | h)
        · exact .inr (.inl h)
        · exact .inl h
        · exact .inr (.inr h)
      · rintro (h | h | h)
        · exact .inr (.inl h)
        · exact .inl h
        · exact .inr (.inr h)
theorem nodup_put {ws : Ws} (k v : Int) (h : (keys ws).Nodup) : (keys (put ws k v)).Nodup := by
  induction ws with
  | nil => simp [put, keys]
  | cons p r ih =>
    have h' : p.1 ∉ keys r ∧ (keys r).Nodup := by simpa [keys] using h
    unfold put
    split
    · rename_i c
      have : k ∉ keys r ∧ (keys r).Nodup := by rw [← c]; exact h'
      simpa [keys] using this
    · rename_i c
      have i := ih h'.2
      have n : p.1 ∉ keys (put r k v) := fun z => by
        rcases mem_put.mp z with z | z
        · exact c z
        · exact h'.1 z
      have : p.1 ∉ keys (put r k v) ∧ (keys (put r k v)).Nodup := ⟨n, i⟩
      simpa [keys] using this
theorem tot_addk : ∀ (ws : Ws) (k x : Int), tot (addk ws k x) = tot ws + x
  | [], k, x => by simp [addk, put, look, tot]
  | p :: r, k, x => by
    have ih := tot_addk r k x
    unfold addk tot at *
    unfold put look
    by_cases c : p.1 = k
    · rw [if_pos c, if_pos c]
      simp only [List.map_cons, List.sum_cons]
      omega
    · rw [if_neg c, if_neg c]
      simp only [List.map_cons, List.sum_cons]
      omega
theorem len_put (ws : Ws) (k v : Int) : (put ws k v).length ≤ ws.length + 1 := by
  induction ws with
  | nil => simp [put]
  | cons p r ih =>
    unfold put
    split
    · simp
    · simp only [List.length_cons]; omega
theorem look_addAll : ∀ (ps ws : Ws) (s : Int), look (addAll ws ps) s = look ws s + cnt ps s
  | [], ws, s => by simp [addAll, cnt]
  | p :: r, ws, s => by
    have ih := look_addAll r (addk ws p.1 p.2) s
    show look (addAll (addk ws p.1 p.2) r) s = _
    rw [ih]
    unfold addk cnt
    rw [look_put]
    simp only [List.map_cons, List.sum_cons]
    by_cases c : p.1 = s
    · rw [if_pos c, if_pos c, c]; omega
    · rw [if_neg c, if_neg c]; omega
theorem mem_addAll {s : Int} : ∀ {ps ws : Ws}, s ∈ keys (addAll ws ps) ↔ s ∈ keys ws ∨ s ∈ keys ps
  | [], ws => by simp [addAll, keys]
  | p :: r, ws => by
    show s ∈ keys (addAll (addk ws p.1 p.2) r) ↔ _
    rw [mem_addAll]
    unfold addk
    rw [mem_put]
    simp only [keys, List.map_cons, List.mem_cons]
    constructor
    · rintro ((h | h) | h)
      · exact .inr (.inl h)
      · exact .inl h
      · exact .inr (.inr h)
    · rintro (h | h | h)
      · exact .inl (.inr h)
      · exact .inl (.inl h)
      · exact .inr h
theorem nodup_addAll : ∀ {ps ws : Ws}, (keys ws).Nodup → (keys (addAll ws ps)).Nodup
  | [], _, h => h
  | p :: r, ws, h => by
    show (keys (addAll (addk ws p.1 p.2) r)).Nodup
    exact nodup_addAll (nodup_put _ _ h)
theorem tot_addAll : ∀ (ps ws : Ws), tot (addAll ws ps) = tot ws + tot ps
  | [], ws => by simp [addAll, tot]
  | p :: r, ws => by
    show tot (addAll (addk ws p.1 p.2) r) = _
    rw [tot_addAll, tot_addk]
    unfold tot
    simp only [List.map_cons, List.sum_cons]
    omega
theorem len_addAll : ∀ (ps ws : Ws), (addAll ws ps).length ≤ ws.length + ps.length
  | [], ws => by simp [addAll]
  | p :: r, ws => by
    have h := len_addAll r (addk ws p.1 p.2)
    have h2 := len_put ws p.1 (look ws p.1 + p.2)
    show (addAll (addk ws p.1 p.2) r).length ≤ _
    unfold addk at *
    simp only [List.length_cons]
    omega
theorem sum_perm {α : Type} {l m : List α} (f : α → Int) (h : l.Perm m) : (l.map f).sum = (m.map f).sum := by
  induction h with
  | nil => rfl
  | cons x _ ih => simp [ih]
  | swap x y l => simp only [List.map_cons, List.sum_cons]; omega
  | trans _ _ i j => rw [i, j]
theorem sum_mul {α : Type} (f : α → Int) (c : Int) : ∀ l : List α, (l.map fun x => f x * c).sum = (l.map f).sum * c
  | [] => by simp
  | x :: r => by simp only [List.map_cons, List.sum_cons, sum_mul f c r, Int.add_mul]
theorem sum_congr {α : Type} {f g : α → Int} : ∀ {l : List α}, (∀ x ∈ l, f x = g x) → (l.map f).sum = (l.map g).sum
  | [], _ => rfl
  | x :: r, h => by
    simp only [List.map_cons, List.sum_cons]
    rw [h x List.mem_cons_self, sum_congr fun y hy => h y (List.mem_cons_of_mem _ hy)]
theorem cnt_append (p q : Ws) (s : Int) : cnt (p ++ q) s = cnt p s + cnt q s := by simp [cnt]
theorem cnt_prs (as bs : Ws) (s : Int) : cnt (prs as bs) s = (as.map fun a => (bs.map fun b => if a.1 + b.1 = s then a.2 * b.2 else 0).sum).sum := by
  induction as with
  | nil => simp [prs, cnt]
  | cons a r ih =>
    unfold prs at *
    rw [List.flatMap_cons, cnt_append, ih, List.map_cons, List.sum_cons]
    simp [cnt, Function.comp_def]
theorem tot_prs (as bs : Ws) : tot (prs as bs) = tot as * tot bs := by
  induction as with
  | nil => simp [prs, tot]
  | cons a r ih =>
    unfold prs tot at *
    rw [List.flatMap_cons, List.map_append, List.sum_append, ih, List.map_cons, List.sum_cons, Int.add_mul]
    have h : ((bs.map fun b => (a.1 + b.1, a.2 * b.2)).map (·.2)).sum = a.2 * (bs.map (·.2)).sum := by
      rw [List.map_map, Int.mul_comm, ← sum_mul]
      exact sum_congr fun x _ => by simp [Int.mul_comm]
    rw [h]
theorem mem_prs {as bs : Ws} {s : Int} : s ∈ keys (prs as bs) ↔ ∃ a ∈ keys as, ∃ b ∈ keys bs, a + b = s := by
  unfold prs keys
  simp only [List.mem_map, List.mem_flatMap]
  constructor
  · rintro ⟨p, ⟨a, ha, b, hb, rfl⟩, rfl⟩
    exact ⟨a.1, ⟨a, ha, rfl⟩, b.1, ⟨b, hb, rfl⟩, rfl⟩
  · rintro ⟨_, ⟨a, ha, rfl⟩, _, ⟨b, hb, rfl⟩, rfl⟩
    exact ⟨_, ⟨a, ha, b, hb, rfl⟩, rfl⟩
structure Over (as ws : Ws) (B T : Int) : Prop where
  nd : (keys ws).Nodup
  perm : (keys as).Perm (keys ws)
  val : ∀ k ∈ keys ws, look as k * T = look ws k * B
theorem look_mem {ws : Ws} {p : Int × Int} (h : (keys ws).Nodup) (hp : p ∈ ws) : look ws p.1 = p.2 := by
  induction ws with
  | nil => cases hp
  | cons q r ih =>
    have h' : q.1 ∉ keys r ∧ (keys r).Nodup := by simpa [keys] using h
    unfold look
    rcases List.mem_cons.mp hp with rfl | hp
    · rw [if_pos rfl]
    · rw [if_neg (fun z => h'.1 (by rw [z]; exact List.mem_map.mpr ⟨p, hp, rfl⟩))]
      exact ih h'.2 hp
theorem eq_keys {ws : Ws} (h : (keys ws).Nodup) : ws = (keys ws).map fun k => (k, look ws k) := by
  unfold keys
  rw [List.map_map]
  conv => lhs; rw [← List.map_id ws]
  apply List.map_congr_left
  intro p hp
  simp only [id, Function.comp]
  rw [look_mem h hp]
theorem sum_by_keys {ws : Ws} (h : (keys ws).Nodup) (f : Int × Int → Int) : (ws.map f).sum = ((keys ws).map fun k => f (k, look ws k)).sum := by
  conv => lhs; rw [eq_keys h]
  rw [List.map_map]
  rfl
theorem cnt_over {as ws bs vs : Ws} {B T C S : Int} (h1 : Over as ws B T) (h2 : Over bs vs C S) (s : Int) : cnt (prs as bs) s * (T * S) = cnt (prs ws vs) s * (B * C) := by
  have na : (keys as).Nodup := h1.perm.nodup_iff.mpr h1.nd
  have nb : (keys bs).Nodup := h2.perm.nodup_iff.mpr h2.nd
  rw [cnt_prs, cnt_prs, sum_by_keys na, sum_by_keys h1.nd, sum_perm _ h1.perm, ← sum_mul, ← sum_mul]
  apply sum_congr
  intro k hk
  dsimp only
  rw [sum_by_keys nb, sum_by_keys h2.nd, sum_perm _ h2.perm, ← sum_mul, ← sum_mul]
  apply sum_congr
  intro j hj
  dsimp only
  split
  · have e1 := h1.val k hk
    have e2 := h2.val j hj
    calc look as k * look bs j * (T * S) = (look as k * T) * (look bs j * S) := by grind
      _ = (look ws k * B) * (look vs j * C) := by rw [e1, e2]
      _ = look ws k * look vs j * (B * C) := by grind
  · simp
theorem both_keys {as ws bs vs : Ws} (h1 : (keys as).Perm (keys ws)) (h2 : (keys bs).Perm (keys vs)) : (keys (bothW as bs)).Perm (keys (bothW ws vs)) := by
  refine (List.perm_ext_iff_of_nodup (nodup_addAll (by simp [keys])) (nodup_addAll (by simp [keys]))).mpr fun s => ?_
  show s ∈ keys (addAll [] (prs as bs)) ↔ s ∈ keys (addAll [] (prs ws vs))
  rw [mem_addAll, mem_addAll, mem_prs, mem_prs]
  constructor
  · rintro (h | ⟨a, ha, b, hb, e⟩)
    · exact .inl h
    · exact .inr ⟨a, h1.mem_iff.mp ha, b, h2.mem_iff.mp hb, e⟩
  · rintro (h | ⟨a, ha, b, hb, e⟩)
    · exact .inl h
    · exact .inr ⟨a, h1.mem_iff.mpr ha, b, h2.mem_iff.mpr hb, e⟩
theorem both_look (as bs : Ws) (s : Int) : look (bothW as bs) s = cnt (prs as bs) s := by
  unfold bothW
  rw [look_addAll]
  simp [look]
theorem both_nodup (as bs : Ws) : (keys (bothW as bs)).Nodup := nodup_addAll (by simp [keys])
noncomputable def rowsOf (ws : Ws) (B : Int) : List (Int × Int × Int) := (srt (keys ws)).map fun v => (v, st (look ws v) B, sb (look ws v) B)
theorem rows_both {as ws bs vs : Ws} {B T C S : Int} (h1 : Over as ws B T) (h2 : Over bs vs C S) (hB : B * C ≠ 0) (hT : T * S ≠ 0) : rowsOf (bothW as bs) (B * C) = rowsOf (bothW ws vs) (T * S) := by
  unfold rowsOf
  rw [srt_congr (both_keys h1.perm h2.perm)]
  apply List.map_congr_left
  intro v _
  rw [both_look, both_look]
  have e := st_eq hB hT (cnt_over h1 h2 v)
  rw [e.1, e.2]
theorem rows_over {as ws : Ws} {B T : Int} (h : Over as ws B T) (hB : B ≠ 0) (hT : T ≠ 0) : rowsOf as B = rowsOf ws T := by
  unfold rowsOf
  rw [srt_congr h.perm]
  apply List.map_congr_left
  intro v hv
  have e := st_eq hB hT (h.val v (srt_mem.mp hv))
  rw [e.1, e.2]
noncomputable def weigh (rows : List (Int × Int × Int)) (B : Int) : Ws := rows.map fun r => (r.1, r.2.1 * (B / r.2.2))
theorem look_map {L : List Int} {f : Int → Int} {k : Int} (h : k ∈ L) : look (L.map fun v => (v, f v)) k = f k := by
  induction L with
  | nil => cases h
  | cons x r ih =>
    rw [List.map_cons]
    unfold look
    by_cases c : x = k
    · rw [if_pos c, c]
    · rw [if_neg c]
      rcases List.mem_cons.mp h with z | z
      · exact absurd z.symm c
      · exact ih z
theorem weigh_over {ws : Ws} {B T : Int} (h : (keys ws).Nodup) (hT : T ≠ 0) (hd : ∀ r ∈ rowsOf ws T, r.2.2 ∣ B) : Over (weigh (rowsOf ws T) B) ws B T := by
  have kk : keys (weigh (rowsOf ws T) B) = srt (keys ws) := by
    unfold keys weigh rowsOf
    rw [List.map_map, List.map_map]
    conv => rhs; rw [← List.map_id (srt _)]
    rfl
  refine ⟨h, by rw [kk]; exact srt_perm _, fun k hk => ?_⟩
  have e : weigh (rowsOf ws T) B = (srt (keys ws)).map fun v => (v, st (look ws v) T * (B / sb (look ws v) T)) := by
    unfold weigh rowsOf
    rw [List.map_map]
    rfl
  rw [e, look_map (srt_mem.mpr hk)]
  have d : sb (look ws k) T ∣ B := hd (k, st (look ws k) T, sb (look ws k) T) (List.mem_map.mpr ⟨k, srt_mem.mpr hk, rfl⟩)
  obtain ⟨m, rfl⟩ := d
  have p := sb_pos (a := look ws k) hT
  rw [Int.mul_ediv_cancel_left _ (by omega)]
  have c := st_cross (look ws k) T
  calc st (look ws k) T * m * T = (st (look ws k) T * T) * m := by rw [Int.mul_right_comm]
    _ = (look ws k * sb (look ws k) T) * m := by rw [c]
    _ = look ws k * (sb (look ws k) T * m) := by rw [Int.mul_assoc]
theorem addAll_append (ws p q : Ws) : addAll ws (p ++ q) = addAll (addAll ws p) q := by
  unfold addAll
  rw [List.foldl_append]
theorem addAll_snoc (ws p : Ws) (k x : Int) : addAll ws (p ++ [(k, x)]) = addk (addAll ws p) k x := by
  rw [addAll_append]
  rfl
theorem prs_append (as bs cs : Ws) : prs (as ++ bs) cs = prs as cs ++ prs bs cs := by
  unfold prs
  rw [List.flatMap_append]
theorem prs_one (a : Int × Int) (bs : Ws) : prs [a] bs = bs.map fun b => (a.1 + b.1, a.2 * b.2) := by
  unfold prs
  simp
theorem prs_take {as : Ws} {i : Nat} {a : Int × Int} (bs : Ws) (h : as[i]? = some a) : prs (as.take (i + 1)) bs = prs (as.take i) bs ++ bs.map fun b => (a.1 + b.1, a.2 * b.2) := by
  rw [List.take_add_one, h, prs_append, Option.toList_some, prs_one]
theorem prs_len (as bs : Ws) : (prs as bs).length = as.length * bs.length := by
  induction as with
  | nil => simp [prs]
  | cons a r ih =>
    rw [show a :: r = [a] ++ r from rfl, prs_append, List.length_append, ih, prs_one, List.length_map, List.length_append, List.length_singleton, Nat.add_mul, Nat.one_mul]
theorem len_both (as bs : Ws) : (bothW as bs).length ≤ as.length * bs.length := by
  have := len_addAll (prs as bs) []
  rw [prs_len] at this
  unfold bothW
  simpa using this
theorem sum_pos : ∀ {l : List Int}, 0 < l.length → (∀ x ∈ l, 0 < x) → 0 < l.sum
  | [], h, _ => by simp at h
  | x :: r, _, h => by
    have hx := h x List.mem_cons_self
    rw [List.sum_cons]
    by_cases c : 0 < r.length
    · have := sum_pos c fun y hy => h y (List.mem_cons_of_mem _ hy)
      omega
    · have : r = [] := List.eq_nil_of_length_eq_zero (by omega)
      subst this
      simpa using hx
theorem wt_mem {ws : Ws} (nd : (keys ws).Nodup) {P : Int → Prop} (h : ∀ k ∈ keys ws, P (look ws k)) : ∀ x ∈ ws.map (·.2), P x := fun x hx => by
  obtain ⟨p, hp, rfl⟩ := List.mem_map.mp hx
  have := h p.1 (List.mem_map.mpr ⟨p, hp, rfl⟩)
  rwa [look_mem nd hp] at this
theorem tot_pos {ws : Ws} (h : 0 < ws.length) (nd : (keys ws).Nodup) (w : ∀ k ∈ keys ws, 0 < look ws k) : 0 < tot ws :=
  sum_pos (by rw [List.length_map]; exact h) (wt_mem nd w)
theorem cnt_nn {ps : Ws} (h : ∀ p ∈ ps, 0 < p.2) (s : Int) : 0 ≤ cnt ps s := by
  induction ps with
  | nil => simp [cnt]
  | cons p r ih =>
    have i := ih fun q hq => h q (List.mem_cons_of_mem _ hq)
    have hp := h p List.mem_cons_self
    unfold cnt at *
    rw [List.map_cons, List.sum_cons]
    split <;> omega
theorem cnt_pos {ps : Ws} (h : ∀ p ∈ ps, 0 < p.2) {s : Int} (hs : s ∈ keys ps) : 0 < cnt ps s := by
  induction ps with
  | nil => simp [keys] at hs
  | cons p r ih =>
    have h' : ∀ q ∈ r, 0 < q.2 := fun q hq => h q (List.mem_cons_of_mem _ hq)
    have hp := h p List.mem_cons_self
    have n := cnt_nn h' s
    have e : cnt (p :: r) s = (if p.1 = s then p.2 else 0) + cnt r s := by unfold cnt; rw [List.map_cons, List.sum_cons]
    rw [e]
    by_cases c : p.1 = s
    · rw [if_pos c]; omega
    · rw [if_neg c]
      have hs' : s ∈ keys r := by
        unfold keys at hs ⊢
        rw [List.map_cons] at hs
        rcases List.mem_cons.mp hs with z | z
        · exact absurd z.symm c
        · exact z
      have := ih h' hs'
      omega
theorem prs_wt {as bs : Ws} (ha : ∀ p ∈ as, 0 < p.2) (hb : ∀ p ∈ bs, 0 < p.2) : ∀ p ∈ prs as bs, 0 < p.2 := fun p hp => by
  unfold prs at hp
  obtain ⟨a, ma, q⟩ := List.mem_flatMap.mp hp
  obtain ⟨b, mb, rfl⟩ := List.mem_map.mp q
  exact Int.mul_pos (ha a ma) (hb b mb)
theorem sum_ge {x : Int} : ∀ {l : List Int}, (∀ y ∈ l, 0 < y) → x ∈ l → x ≤ l.sum
  | y :: r, h, hx => by
    have hy := h y List.mem_cons_self
    have hr : 0 ≤ r.sum := by
      by_cases c : 0 < r.length
      · have := sum_pos c fun z hz => h z (List.mem_cons_of_mem _ hz)
        omega
      · have : r = [] := List.eq_nil_of_length_eq_zero (by omega)
        subst this
        simp
    rw [List.sum_cons]
    rcases List.mem_cons.mp hx with e | e
    · omega
    · have := sum_ge (fun z hz => h z (List.mem_cons_of_mem _ hz)) e
      omega
theorem look_le {ws : Ws} (nd : (keys ws).Nodup) (w : ∀ k ∈ keys ws, 0 < look ws k) {k : Int} (hk : k ∈ keys ws) : look ws k ≤ tot ws := by
  unfold keys at hk
  obtain ⟨p, hp, rfl⟩ := List.mem_map.mp hk
  rw [look_mem nd hp]
  exact sum_ge (wt_mem nd w) (List.mem_map.mpr ⟨p, hp, rfl⟩)
theorem cnt_cons_r (bs : Ws) (a : Int × Int) (r : Ws) (s : Int) : cnt (prs bs (a :: r)) s = cnt (bs.map fun b => (b.1 + a.1, b.2 * a.2)) s + cnt (prs bs r) s := by
  induction bs with
  | nil => simp [prs, cnt]
  | cons b t ih =>
    rw [show b :: t = [b] ++ t from rfl, prs_append, prs_append, cnt_append, cnt_append, ih, prs_one, prs_one, List.map_append, cnt_append, List.map_cons]
    rw [show (b.1 + a.1, b.2 * a.2) :: List.map (fun c : Int × Int => (b.1 + c.1, b.2 * c.2)) r = [(b.1 + a.1, b.2 * a.2)] ++ List.map (fun c : Int × Int => (b.1 + c.1, b.2 * c.2)) r from rfl, cnt_append]
    simp only [List.map_cons, List.map_nil]
    omega
theorem cnt_swap (as bs : Ws) (s : Int) : cnt (prs bs as) s = cnt (prs as bs) s := by
  induction as with
  | nil =>
    have : prs bs [] = [] := by unfold prs; simp
    rw [this]
    simp [prs]
  | cons a r ih =>
    rw [cnt_cons_r, ih, show a :: r = [a] ++ r from rfl, prs_append, cnt_append, prs_one]
    congr 2
    apply List.map_congr_left
    intro b _
    rw [Int.add_comm, Int.mul_comm]
theorem cnt_look {ws : Ws} (nd : (keys ws).Nodup) (k : Int) : cnt ws k = look ws k := by
  induction ws with
  | nil => simp [cnt, look]
  | cons p r ih =>
    have h' : p.1 ∉ keys r ∧ (keys r).Nodup := by simpa [keys] using nd
    have e : cnt (p :: r) k = (if p.1 = k then p.2 else 0) + cnt r k := by unfold cnt; rw [List.map_cons, List.sum_cons]
    rw [e, ih h'.2, show look (p :: r) k = if p.1 = k then p.2 else look r k from rfl]
    by_cases c : p.1 = k
    · rw [if_pos c, if_pos c]
      have : look r k = 0 := by
        rw [← ih h'.2, ← c]
        have out : ∀ {t : Ws}, p.1 ∉ keys t → cnt t p.1 = 0 := by
          intro t
          induction t with
          | nil => intro _; simp [cnt]
          | cons q u ih2 =>
            intro hn
            have n1 : q.1 ≠ p.1 := fun z => hn (by rw [← z]; exact List.mem_cons_self)
            have n2 : p.1 ∉ keys u := fun z => hn (List.mem_cons_of_mem _ z)
            have e2 : cnt (q :: u) p.1 = (if q.1 = p.1 then q.2 else 0) + cnt u p.1 := by unfold cnt; rw [List.map_cons, List.sum_cons]
            rw [e2, if_neg n1, ih2 n2]
            rfl
        exact out h'.1
      omega
    · rw [if_neg c, if_neg c]; omega
end Nm
namespace L2
open PySem PySem.Spec PyProof.Rows
noncomputable def enc (ws : Nm.Ws) : List (Key × V) := ws.map fun p => (Sum.inl p.1, V.int p.2)
theorem enc_len (ws : Nm.Ws) : (enc ws).length = ws.length := by unfold enc; rw [List.length_map]
theorem keysI_enc (ws : Nm.Ws) : keysI (enc ws) = Nm.keys ws := by
  unfold keysI enc Nm.keys
  rw [List.map_map]
  rfl
theorem allI_enc (ws : Nm.Ws) : allI (enc ws) := fun p hp => by
  unfold enc at hp
  obtain ⟨q, _, rfl⟩ := List.mem_map.mp hp
  exact ⟨q.1, rfl⟩
theorem val_enc (ws : Nm.Ws) (k : Int) : valV (enc ws) (Sum.inl k) = if k ∈ Nm.keys ws then some (.int (Nm.look ws k)) else none := by
  induction ws with
  | nil => simp [enc, valV, Nm.keys]
  | cons p r ih =>
    unfold valV at *
    unfold enc at *
    rw [List.map_cons, List.find?_cons]
    unfold Nm.look
    by_cases c : p.1 = k
    · rw [show decide ((Sum.inl p.1 : Key) = Sum.inl k) = true by rw [c]; simp]
      simp [Nm.keys, c]
    · rw [show decide ((Sum.inl p.1 : Key) = Sum.inl k) = false by simpa using c]
      simp only [ih]
      have e : (k ∈ Nm.keys (p :: r)) = (k ∈ Nm.keys r) := by
        unfold Nm.keys
        rw [List.map_cons, List.mem_cons]
        apply propext
        constructor
        · rintro (h | h)
          · exact absurd h.symm c
          · exact h
        · exact .inr
      simp only [e, if_neg c]
theorem put_enc {ws : Nm.Ws} (nd : (Nm.keys ws).Nodup) (k v : Int) : putK (enc ws) (Sum.inl k) (.int v) = enc (Nm.put ws k v) := by
  have key : ∀ {ws : Nm.Ws}, k ∉ Nm.keys ws → (enc ws).map (fun kv => if kv.1 = (Sum.inl k : Key) then (kv.1, V.int v) else kv) = enc ws := by
    intro ws h
    unfold enc
    rw [List.map_map]
    apply List.map_congr_left
    intro p hp
    have : p.1 ≠ k := fun z => h (by rw [← z]; exact List.mem_map.mpr ⟨p, hp, rfl⟩)
    simp [this]
  have any : ∀ ws : Nm.Ws, ((enc ws).any fun kv => decide (kv.1 = (Sum.inl k : Key))) = decide (k ∈ Nm.keys ws) := by
    intro ws
    induction ws with
    | nil => simp [enc, Nm.keys]
    | cons p r ih =>
      unfold enc at *
      rw [List.map_cons, List.any_cons, ih]
      unfold Nm.keys
      rw [List.map_cons]
      by_cases c : p.1 = k
      · simp [c]
      · have c2 : ¬ k = p.1 := fun z => c z.symm
        simp [c, c2]
  unfold putK
  rw [any]
  clear any
  by_cases c : k ∈ Nm.keys ws
  · rw [if_pos (by simpa using c)]
    induction ws with
    | nil => simp [Nm.keys] at c
    | cons p r ih =>
      have h' : p.1 ∉ Nm.keys r ∧ (Nm.keys r).Nodup := by simpa [Nm.keys] using nd
      unfold Nm.put
      by_cases e : p.1 = k
      · rw [if_pos e]
        have := key (ws := r) (by rw [← e]; exact h'.1)
        unfold enc at *
        rw [List.map_cons, List.map_cons, this, List.map_cons]
        simp [e]
      · rw [if_neg e]
        have c' : k ∈ Nm.keys r := by
          unfold Nm.keys at c ⊢
          rw [List.map_cons] at c
          rcases List.mem_cons.mp c with z | z
          · exact absurd z.symm e
          · exact z
        have := ih h'.2 c'
        unfold enc at *
        rw [List.map_cons, List.map_cons, this, List.map_cons]
        simp [e]
  · rw [if_neg (by simpa using c)]
    induction ws with
    | nil => simp [enc, Nm.put]
    | cons p r ih =>
      have h' : p.1 ∉ Nm.keys r ∧ (Nm.keys r).Nodup := by simpa [Nm.keys] using nd
      have e : ¬ p.1 = k := fun z => c (by unfold Nm.keys; rw [List.map_cons, z]; exact List.mem_cons_self)
      have c' : k ∉ Nm.keys r := fun z => c (by unfold Nm.keys at *; rw [List.map_cons]; exact List.mem_cons_of_mem _ z)
      unfold Nm.put
      rw [if_neg e]
      have := ih h'.2 c'
      unfold enc at *
      rw [List.map_cons, List.cons_append, this, List.map_cons]
theorem dget_rd {H : Hp} {d : Addr} {ws : Nm.Ws} {v : Int} (h : Rd H d (.dK (enc ws))) (hv : v ∈ Nm.keys ws) : DGet H d (.int v) (some (.int (Nm.look ws v))) :=
  .inl ⟨_, Sum.inl v, h, rfl, by rw [val_enc, if_pos hv]⟩
theorem dget_enc {H : Hp} {d : Addr} {ws : Nm.Ws} {v : Int} (h : H d = some (.dK (enc ws))) (hv : v ∈ Nm.keys ws) : DGet H d (.int v) (some (.int (Nm.look ws v))) := dget_rd (.inl h) hv
theorem look_out {ws : Nm.Ws} {v : Int} (h : v ∉ Nm.keys ws) : Nm.look ws v = 0 := by
  induction ws with
  | nil => rfl
  | cons p r ih =>
    unfold Nm.keys at h
    rw [List.map_cons] at h
    unfold Nm.look
    rw [if_neg (fun z => h (by rw [z]; exact List.mem_cons_self))]
    exact ih fun z => h (List.mem_cons_of_mem _ z)
theorem dget_zero {H : Hp} {d : Addr} {ws : Nm.Ws} (v : Int) (h : Rd H d (.dK (enc ws))) : ∃ o, DGet H d (.int v) o ∧ o.getD (.int 0) = .int (Nm.look ws v) := by
  refine ⟨_, .inl ⟨_, Sum.inl v, h, rfl, rfl⟩, ?_⟩
  rw [val_enc]
  by_cases c : v ∈ Nm.keys ws
  · rw [if_pos c]; rfl
  · rw [if_neg c, look_out c]; rfl
theorem dput_enc {H : Hp} {d : Addr} {ws : Nm.Ws} (v x : Int) (h : H d = some (.dK (enc ws))) (nd : (Nm.keys ws).Nodup) (hl : ws.length < sizeLine) : DPut H d (.int v) (.int x) (upd H d (.dK (enc (Nm.put ws v x)))) := by
  have := DPut.k (k := Sum.inl v) (v := .int x) h (by rw [enc_len]; exact hl)
  rw [put_enc nd] at this
  exact this
noncomputable def rowD (r : Int × Int × Int) : Dat := .tup [.int r.1, .tup [.int r.2.1, .int r.2.2]]
noncomputable def rowsD (rows : List (Int × Int × Int)) : Dat := .lst (rows.map rowD)
noncomputable def wrowD (p : Int × Int) : Dat := .tup [.int p.1, .int p.2]
noncomputable def wrowsD (ws : Nm.Ws) : Dat := .lst (ws.map wrowD)
theorem rep_row {H : Hp} {r : Int × Int × Int} {v : V} : Rep H (rowD r) v ↔ ∃ p q, v = .ref p ∧ H p = some (.tup [.int r.1, .ref q]) ∧ H q = some (.tup [.int r.2.1, .int r.2.2]) := by
  unfold rowD
  simp only [Rep, RepL]
  constructor
  · rintro ⟨p, vs, rfl, hp, a, b, rfl, rfl, c, d, rfl, ⟨q, us, rfl, hq, e, f, rfl, rfl, g, h, rfl, rfl, rfl⟩, rfl⟩
    exact ⟨p, q, rfl, hp, hq⟩
  · rintro ⟨p, q, rfl, hp, hq⟩
    exact ⟨p, _, rfl, hp, _, _, rfl, rfl, _, _, rfl, ⟨q, _, rfl, hq, _, _, rfl, rfl, _, _, rfl, rfl, rfl⟩, rfl⟩
theorem rep_wrow {H : Hp} {r : Int × Int} {v : V} : Rep H (wrowD r) v ↔ ∃ p, v = .ref p ∧ H p = some (.tup [.int r.1, .int r.2]) := by
  unfold wrowD
  simp only [Rep, RepL]
  constructor
  · rintro ⟨p, vs, rfl, hp, a, b, rfl, rfl, c, d, rfl, rfl, rfl⟩
    exact ⟨p, rfl, hp⟩
  · rintro ⟨p, rfl, hp⟩
    exact ⟨p, _, rfl, hp, _, _, rfl, rfl, _, _, rfl, rfl, rfl⟩
theorem rep_lst {H : Hp} {ds : List Dat} {v : V} : Rep H (.lst ds) v ↔ ∃ p vs, v = .ref p ∧ H p = some (.lst vs) ∧ RepL H ds vs := by rw [Rep]
theorem depth_rows (rows : List (Int × Int × Int)) : depth (rowsD rows) ≤ 40 := by
  have h : ∀ rows : List (Int × Int × Int), depth.dL (rows.map rowD) ≤ 2 := by
    intro rows
    induction rows with
    | nil => simp [depth.dL]
    | cons r rs ih =>
      rw [List.map_cons, depth.dL]
      have : depth (rowD r) = 2 := by simp [rowD, depth, depth.dL]
      omega
  have := h rows
  unfold rowsD
  rw [depth]
  omega
noncomputable def Sqs (H H' : Hp) : Prop := ∀ p xs, (H p = some (.tup xs) → H' p = some (.tup xs)) ∧ (H p = some (.lst xs) → H' p = some (.lst xs))
theorem sqs_upd {H : Hp} {d : Addr} {o o' : HO} (h : H d = some o) (n1 : ∀ xs, o ≠ .tup xs) (n2 : ∀ xs, o ≠ .lst xs) : Sqs H (upd H d o') := fun p xs =>
  ⟨fun e => by rw [upd_ne (fun z => by rw [z, h] at e; exact n1 xs (Option.some.inj e))]; exact e, fun e => by rw [upd_ne (fun z => by rw [z, h] at e; exact n2 xs (Option.some.inj e))]; exact e⟩
theorem sqs_dK {H : Hp} {d : Addr} {kvs : List (Key × V)} {o' : HO} (h : H d = some (.dK kvs)) : Sqs H (upd H d o') := sqs_upd h (fun _ z => nomatch z) (fun _ z => nomatch z)
theorem same_over {H1 H0 : Hp} {d : Addr} {X Y : HO} (n : H1 d = none) (s : Same (upd H1 d X) H0) : Same H1 (upd H0 d Y) := fun p o e => by
  have np : p ≠ d := fun z => by rw [z, n] at e; cases e
  rw [upd_ne np]
  exact s _ _ (by rw [upd_ne np]; exact e)
theorem upd_at {H : Hp} {d : Addr} {o : HO} (h : H d = some o) : upd H d o = H := by
  funext p
  by_cases e : p = d
  · subst e; rw [upd_same, h]
  · rw [upd_ne e]
theorem none_of {H H' : Hp} (s : Same H H') {p : Addr} (h : H' p = none) : H p = none := by
  cases e : H p with
  | none => rfl
  | some o => rw [s p o e] at h; cases h
end L2
namespace Nm
noncomputable def mom (ws : Ws) : Int := (ws.map fun p => p.1 * p.2).sum
noncomputable def abv (n : Int) (ws : Ws) : Int := (ws.map fun p => if n ≤ p.1 then p.2 else 0).sum
theorem mom_over {as ws : Ws} {B T : Int} (h : Over as ws B T) : mom as * T = mom ws * B := by
  have na : (keys as).Nodup := h.perm.nodup_iff.mpr h.nd
  unfold mom
  rw [sum_by_keys na, sum_by_keys h.nd, sum_perm _ h.perm, ← sum_mul, ← sum_mul]
  exact sum_congr fun k hk => by dsimp only; rw [Int.mul_assoc, Int.mul_assoc, h.val k hk]
theorem abv_over {as ws : Ws} {B T : Int} (n : Int) (h : Over as ws B T) : abv n as * T = abv n ws * B := by
  have na : (keys as).Nodup := h.perm.nodup_iff.mpr h.nd
  unfold abv
  rw [sum_by_keys na, sum_by_keys h.nd, sum_perm _ h.perm, ← sum_mul, ← sum_mul]
  refine sum_congr fun k hk => ?_
  dsimp only
  split
  · exact h.val k hk
  · simp
theorem mom_addk : ∀ (ws : Ws) (k x : Int), mom (addk ws k x) = mom ws + k * x
  | [], k, x => by simp [addk, put, look, mom]
  | p :: r, k, x => by
    have ih := mom_addk r k x
    unfold addk mom at *
    unfold put look
    by_cases c : p.1 = k
    · rw [if_pos c, if_pos c]
      simp only [List.map_cons, List.sum_cons]
      rw [c, Int.mul_add]
      omega
    · rw [if_neg c, if_neg c]
      simp only [List.map_cons, List.sum_cons]
      omega
theorem mom_addAll : ∀ (ps ws : Ws), mom (addAll ws ps) = mom ws + mom ps
  | [], ws => by simp [addAll, mom]
  | p :: r, ws => by
    show mom (addAll (addk ws p.1 p.2) r) = _
    rw [mom_addAll, mom_addk]
    unfold mom
    simp only [List.map_cons, List.sum_cons]
    omega
theorem mom_append (p q : Ws) : mom (p ++ q) = mom p + mom q := by simp [mom]
theorem mom_pair (a : Int × Int) (bs : Ws) : mom (bs.map fun b => (a.1 + b.1, a.2 * b.2)) = a.1 * a.2 * tot bs + a.2 * mom bs := by
  induction bs with
  | nil => simp [mom, tot]
  | cons b r ih =>
    unfold mom tot at *
    simp only [List.map_cons, List.sum_cons]
    rw [ih]
    grind
theorem mom_prs (as bs : Ws) : mom (prs as bs) = mom as * tot bs + tot as * mom bs := by
  induction as with
  | nil => simp [prs, mom, tot]
  | cons a r ih =>
    rw [show a :: r = [a] ++ r from rfl, prs_append, mom_append, ih, prs_one, mom_pair]
    unfold mom tot
    simp only [List.cons_append, List.nil_append, List.map_cons, List.sum_cons]
    grind
theorem mean_plus {M1 T1 M2 T2 : Int} (h1 : 0 < T1) (h2 : 0 < T2) :
    st (st M1 T1 * sb M2 T2 + st M2 T2 * sb M1 T1) (sb M1 T1 * sb M2 T2) = st (M1 * T2 + T1 * M2) (T1 * T2) ∧
    sb (st M1 T1 * sb M2 T2 + st M2 T2 * sb M1 T1) (sb M1 T1 * sb M2 T2) = sb (M1 * T2 + T1 * M2) (T1 * T2) := by
  have b1 := sb_pos (a := M1) (show T1 ≠ 0 by omega)
  have b2 := sb_pos (a := M2) (show T2 ≠ 0 by omega)
  have c1 := st_cross M1 T1
  have c2 := st_cross M2 T2
  refine st_eq (Int.mul_ne_zero (by omega) (by omega)) (Int.mul_ne_zero (by omega) (by omega)) ?_
  generalize st M1 T1 = x1 at *
  generalize sb M1 T1 = y1 at *
  generalize st M2 T2 = x2 at *
  generalize sb M2 T2 = y2 at *
  calc (x1 * y2 + x2 * y1) * (T1 * T2) = (x1 * T1) * (y2 * T2) + (x2 * T2) * (y1 * T1) := by grind
    _ = (M1 * y1) * (y2 * T2) + (M2 * y2) * (y1 * T1) := by rw [c1, c2]
    _ = (M1 * T2 + T1 * M2) * (y1 * y2) := by grind
theorem abv_filter (n : Int) (ws : Ws) : (ws.filterMap fun p => if n ≤ p.1 then some p.2 else none).sum = abv n ws := by
  induction ws with
  | nil => simp [abv]
  | cons p r ih =>
    rw [List.filterMap_cons]
    unfold abv at *
    rw [List.map_cons, List.sum_cons]
    by_cases c : n ≤ p.1
    · simp only [if_pos c, List.sum_cons, ih]
    · simp only [if_neg c, ih]
      omega
end Nm
namespace L2
open PySem PySem.Spec PyProof.Rows
theorem comp_ints {α : Type} {J : It} {tc : TT} {te : TE} {tl : St} {H1 : Hp} {fin : List V → Hp → Prop} {Item : Nat → V → Hp → Hp → Prop} (as : List α) (f : α → Option Int) (S : Src J (Same H1) as.length Item) (sub : ∀ i x H H3, Item i x H H3 → H3 = H) (hz : as.length ≤ sizeLine)
    (hs : ∀ i a x, as[i]? = some a → Item i x H1 H1 → ∀ (Y : VK) (N : Hp → Prop), (∀ z, f a = some z → Y (.int z) H1) → (f a = none → N H1) → tc (some x :: tl) H1 fun b H5 => if b = true then te (some x :: tl) H5 Y else N H5)
    (hfin : fin (List.map V.int (as.filterMap f)) H1) : tBlock J (gName 0) tc te (none :: tl) H1 fin := by
  refine block_src S (fun σ => ∃ w0, σ = w0 :: tl) ⟨_, rfl⟩ (fun i ys H => H = H1 ∧ ys = List.map V.int ((as.take i).filterMap f)) ⟨rfl, by simp⟩ hz ?_ ?_
  · rintro i x σ H ys H3 Q N hi sm ⟨rfl, rfl⟩ hl ⟨w0, rfl⟩ it kq kn
    obtain rfl := sub _ _ _ _ it
    have ea : as[i]? = some as[i] := List.getElem?_eq_getElem hi
    refine hs i _ x ea it _ _ (fun z e => kq _ _ _ ⟨_, rfl⟩ sm ⟨rfl, ?_⟩) (fun e => kn _ _ ⟨_, rfl⟩ sm ⟨rfl, ?_⟩)
    · rw [List.take_add_one, ea, List.filterMap_append, List.map_append]
      simp [e]
    · rw [List.take_add_one, ea, List.filterMap_append, List.map_append]
      simp [e]
  · rintro ys H sm ⟨rfl, rfl⟩ hl
    rw [List.take_of_length_le (Nat.le_refl _)]
    exact hfin
theorem comp_ints2 {K : PySem.W.Frag} {α : Type} {J : It} {tc : TT} {te : TE} {tl : St} {H1 : Hp} {fin : List V → Hp → Prop} {Item : Nat → V → Hp → Hp → Prop} (as : List α) (f : α → Option Int) (S : Src J (Same H1) as.length Item) (sub : ∀ i x H H3, Item i x H H3 → H3 = H) (hz : as.length ≤ sizeLine)
    (hs : ∀ i a x, as[i]? = some a → Item i x H1 H1 → ∃ p u v, x = .ref p ∧ SqT K H1 p [u, v] ∧ ∀ (Y : VK) (N : Hp → Prop), (∀ z, f a = some z → Y (.int z) H1) → (f a = none → N H1) → tc (some u :: some v :: tl) H1 fun b H5 => if b = true then te (some u :: some v :: tl) H5 Y else N H5)
    (hfin : fin (List.map V.int (as.filterMap f)) H1) : tBlock J (gTup K 2 (gCons (gName 0) (gCons (gName 1) gNil))) tc te (none :: none :: tl) H1 fin := by
  refine block_src S (fun σ => ∃ w0 w1, σ = w0 :: w1 :: tl) ⟨_, _, rfl⟩ (fun i ys H => H = H1 ∧ ys = List.map V.int ((as.take i).filterMap f)) ⟨rfl, by simp⟩ hz ?_ ?_
  · rintro i x σ H ys H3 Q N hi sm ⟨rfl, rfl⟩ hl ⟨w0, w1, rfl⟩ it kq kn
    obtain rfl := sub _ _ _ _ it
    have ea : as[i]? = some as[i] := List.getElem?_eq_getElem hi
    obtain ⟨p, u, v, rfl, sq, k⟩ := hs i _ x ea it
    refine ⟨p, _, rfl, sq, rfl, _, _, rfl, _, _, rfl, rfl, ?_⟩
    refine k _ _ (fun z e => kq _ _ _ ⟨_, _, rfl⟩ sm ⟨rfl, ?_⟩) (fun e => kn _ _ ⟨_, _, rfl⟩ sm ⟨rfl, ?_⟩)
    · rw [List.take_add_one, ea, List.filterMap_append, List.map_append]
      simp [e]
    · rw [List.take_add_one, ea, List.filterMap_append, List.map_append]
      simp [e]
  · rintro ys H sm ⟨rfl, rfl⟩ hl
    rw [List.take_of_length_le (Nat.le_refl _)]
    exact hfin
theorem fm_some {α β : Type} (f : α → β) (l : List α) : l.filterMap (fun a => some (f a)) = l.map f := by
  rw [← List.filterMap_eq_map]; rfl
end L2
namespace L2
open PySem PySem.Spec PyProof.Rows PySem.W
section
variable {X : Cx} {K : PySem.W.Frag}
theorem bools_of : ∀ {us : List Value} {bs : List Bool}, Vals (bs.map V.bl) us → LSm.BoolsAre us bs
  | _, [], .nil => .nil
  | _, b :: bs, .cons r t => by
    have e : _ = Value.bool b := r
    subst e
    exact .cons b (bools_of t)
theorem call_all_l (hc : X.calm = true) : CallR X (.builtin "all") (fun xs H Q => ∃ p bs, xs = [.ref p] ∧ SqL X.K H p (List.map V.bl bs) ∧ Q (.bl (bs.all id)) H) := by
  intro pins s σ H xs us Q I r h
  obtain ⟨p, bs, rfl, hq, q⟩ := h
  obtain ⟨u, rfl, rx⟩ := vals1 r
  cases rx
  obtain ⟨its, rv, pl, hz⟩ := I.list hq
  have hb := bools_of rv
  have hl := pl.isList
  have hlt : p < s.heap.objs.size := by obtain ⟨_, e, _⟩ := hl; exact Heap.lt_size e
  refine call_all_walk (wpAny_pyIter_list hl ?_)
  refine ⟨s.heap.objs.size, [s.heap.objs.size, p], [s.heap.objs.size], its.toArray.size, _, _, fun i => (bs[i]?).getD true, rfl, Walks.list (A := X.A.in1) (I.ok.hd hc) _ p (Nat.ne_of_lt hlt) its.toArray,
    ⟨⟨_, Heap.get?_push_size _ rfl, rfl, rfl⟩, hl.push _⟩, fun i v s' Q' E' hP hQ => ?_, fun h' tk hk => ?_⟩
  · obtain ⟨b, e, rfl⟩ := hb.get i v (by simpa using hP)
    simp only [e, Option.getD_some] at hQ
    exact wpAny_truthy_bool hQ
  · have e : ((List.range its.toArray.size).all fun i => (bs[i]?).getD true) = bs.all id := by
      rw [List.size_toArray, hb.length]; exact LSm.range_all bs
    rw [e]
    exact ⟨.bl _, H, I.kept (t' := tk) (LSm.kept_iter hk), rfl, q⟩
theorem call_all_lK (hc : X.calm = true := by rfl) (hK : X.K = K := by rfl) : CallR X (.builtin "all") (fun xs H Q => ∃ p bs, xs = [.ref p] ∧ SqL K H p (List.map V.bl bs) ∧ Q (.bl (bs.all id)) H) := by subst hK; exact call_all_l hc
theorem kv_val {as : List (Key × V)} {bs : List (Key × Value)} (r : KV as bs) : ∀ (j : Nat) {b}, bs[j]? = some b → ∃ a, as[j]? = some a ∧ RelV a.2 b.2 := by
  induction r with
  | nil => intro j b e; simp at e
  | cons r1 r2 ih =>
    intro j b e
    cases j with
    | zero => simp at e; subst e; exact ⟨_, rfl, r1.2⟩
    | succ j => simp at e; obtain ⟨a, e1, e2⟩ := ih j e; exact ⟨a, by simpa using e1, e2⟩
theorem preSum_list (ns : List Int) : preSum (fun i => ns.getD i 0) ns.length = ns.sum := by
  have e := preSum_eq (ns.map fun n => (n, (0 : Nat))).toArray ns.length
  have f : (fun i => ns.getD i 0) = numAt (ns.map fun n => (n, (0 : Nat))).toArray := by
    funext i
    unfold numAt
    simp only [List.getElem?_toArray, List.getElem?_map, List.getD_eq_getElem?_getD]
    cases ns[i]? <;> rfl
  rw [f]
  refine e.trans ?_
  rw [List.take_of_length_le (by simp)]
  congr 1
  simp [Function.comp_def]
noncomputable def tSumV (to : TE) : TE := fun σ H Q => to σ H fun v H1 => ∃ d kvs ns, v = .ref d ∧ H1 d = some (.dK kvs) ∧ kvs.map (·.2) = List.map V.int ns ∧ Q (.int ns.sum) H1
theorem pe_sumvals {o : Expr} {to : TE} {p apos cpos pos : Pos} (hc : X.calm = true) (hg : Gl X "sum") (hm : X.mg "sum" = none) (ho : PE X o to)
    (hbase : attributeBase o "values" X.env (eval o X.env) = eval o X.env := by rfl) (hline : (apos.endLine == cpos.line) = true := by rfl)
    (he : starEach [Expr.Call (.Attribute o "values" apos) [] [] cpos] X.env = [(false, eval (.Call (.Attribute o "values" apos) [] [] cpos) X.env)] := by rfl) :
    PE X (.Call (.Name "sum" p) [.Call (.Attribute o "values" apos) [] [] cpos] [] pos) (tSumV to) := by
  intro pins s σ H Q I h
  refine wpAny_Call_Name_kw (ld_blt I hg hm (u := .builtin "sum") rfl ?_ (by decide) (by decide))
  rw [he]
  refine PySem.callWith_builtin1 ?_
  refine wpAny_Call_method0_late hbase hline (thn (ho pins s σ H _ I h) fun v s1 ⟨x, H1, I1, r1, q1⟩ => ?_)
  obtain ⟨d, kvs, ns, rfl, hd, hv, q⟩ := q1
  obtain ⟨h1, h2⟩ := tyV_is (T := "dict") I1 r1 (.inr (.inr (.inl ⟨rfl, .inl ⟨_, hd⟩⟩)))
  cases r1
  obtain ⟨hz, lo, vs, kv, dd⟩ := dk_of I1.hok hd
  have hlen : kvs.length = vs.length := Paired.length kv
  refine ⟨"dict", "dict.values", PySem.F.plainAttrs_dict, PySem.F.slot_dict_values, PySem.F.type_dict_values, h1, h2, Calls.callWith_builtin rfl (PySem.evalArgs_none ?_)⟩
  refine call_meetsIn PySem.F.slot_dict_values dd.typeIs PySem.F.entry_dict_values (PySem.F.args_dict_values_1 _) (meets_dict_values _ d lo) ⟨⟨vs, dd⟩, ?_⟩
  have I2 : Inv X pins σ H1 { s1 with heap := s1.heap.push { cls := .type "dict_values", data := .fields #[.ref d] } } := I1.kept (t' := s1.toks) fun b o e => Heap.get?_push_of_some _ e
  obtain ⟨hz, lo, vs, kv, dd⟩ := dk_of I2.hok hd
  have hlen : kvs.length = vs.length := Paired.length kv
  obtain ⟨ep, hat⟩ := dd.dictAt
  have hn : ns.length = vs.length := by
    have := congrArg List.length hv
    rw [List.length_map, List.length_map] at this
    omega
  have Ks := kdl_values (prog := X.prog) (w := X.w) (r := s1.heap.objs.size) (d := d) (knd := mixKind X.prog X.w) (kvs := vs) (ep := ep)
  have hok : ({ s1 with heap := s1.heap.push { cls := .type "dict_values", data := .fields #[.ref d] } } : Shared).heap.IsValuesView s1.heap.objs.size d ∧ ({ s1 with heap := s1.heap.push { cls := .type "dict_values", data := .fields #[.ref d] } } : Shared).heap.DictAt (mixKind X.prog X.w) d vs ep := ⟨⟨_, Heap.get?_push_size _ rfl, rfl, rfl⟩, hat⟩
  refine call_sum_walkAnyS ?_
  obtain ⟨oI, St, hit, W, st⟩ := Ks.iter X.A.in1 _ (I.ok.hd hc) hok
  refine hit _ _ ⟨_, _, _, _, vs.length, _, _, fun i => ns.getD i 0, rfl, W.toS, st, fun b hb => ?_, fun i v hP => ?_, fun s' t' hm' => ?_⟩
  · show b < (Heap.push _ oI).objs.size
    rw [size_push']
    rcases List.mem_cons.mp hb with e | hb
    · rw [e]; exact Nat.lt_succ_self _
    · rw [List.mem_singleton.mp hb]; exact Nat.lt_succ_of_lt (Ks.there _ hok).2
  · obtain ⟨k, e⟩ := hP
    obtain ⟨a, e1, e2⟩ := kv_val kv i e
    have e3 : (kvs.map (·.2))[i]? = some a.2 := by rw [List.getElem?_map, e1]; rfl
    rw [hv, List.getElem?_map] at e3
    obtain ⟨n, en, ea⟩ := Option.map_eq_some_iff.mp e3
    rw [← ea] at e2
    obtain ⟨t, e2⟩ := e2
    refine ⟨t, ?_⟩
    show v = Value.int (ns.getD i 0) t
    rw [List.getD_eq_getElem?_getD, en]
    exact e2
  · have hk : ∀ b o, (s1.heap.push { cls := .type "dict_values", data := .fields #[.ref d] }).get? b = some o → s'.heap.get? b = some o := fun b o e =>
      hm'.heap b o (fun hI => absurd (Heap.lt_size e) (by rw [List.mem_singleton.mp hI]; exact Nat.lt_irrefl _)) (Heap.get?_push_of_some _ e)
    rw [Moved.eq_with hm', ← hn, preSum_list]
    exact ⟨.int ns.sum, H1, I2.kept (t' := s'.toks) hk, ⟨t', rfl⟩, q⟩
theorem comp_vals {α : Type} {J : It} {tc : TT} {te : TE} {tl : St} {H1 : Hp} {fin : List V → Hp → Prop} {Item : Nat → V → Hp → Hp → Prop} (as : List α) (f : α → Option V) (S : Src J (Same H1) as.length Item) (sub : ∀ i x H H3, Item i x H H3 → H3 = H) (hz : as.length ≤ sizeLine)
    (hs : ∀ i a x, as[i]? = some a → Item i x H1 H1 → ∀ (Y : VK) (N : Hp → Prop), (∀ z, f a = some z → Y z H1) → (f a = none → N H1) → tc (some x :: tl) H1 fun b H5 => if b = true then te (some x :: tl) H5 Y else N H5)
    (hfin : fin (as.filterMap f) H1) : tBlock J (gName 0) tc te (none :: tl) H1 fin := by
  refine block_src S (fun σ => ∃ w0, σ = w0 :: tl) ⟨_, rfl⟩ (fun i ys H => H = H1 ∧ ys = (as.take i).filterMap f) ⟨rfl, by simp⟩ hz ?_ ?_
  · rintro i x σ H ys H3 Q N hi sm ⟨rfl, rfl⟩ hl ⟨w0, rfl⟩ it kq kn
    obtain rfl := sub _ _ _ _ it
    have ea : as[i]? = some as[i] := List.getElem?_eq_getElem hi
    refine hs i _ x ea it _ _ (fun z e => kq _ _ _ ⟨_, rfl⟩ sm ⟨rfl, ?_⟩) (fun e => kn _ _ ⟨_, rfl⟩ sm ⟨rfl, ?_⟩)
    · rw [List.take_add_one, ea, List.filterMap_append]
      simp [e]
    · rw [List.take_add_one, ea, List.filterMap_append]
      simp [e]
  · rintro ys H sm ⟨rfl, rfl⟩ hl
    rw [List.take_of_length_le (Nat.le_refl _)]
    exact hfin
theorem seq_gen {a b : TS} {D : Ends} {σ : St} {H : Hp} (C : St → Hp → Prop) (hb : ∀ σ' H', C σ' H' → b D σ' H') (ha : ∀ N : St → Hp → Prop, (∀ σ' H', C σ' H' → N σ' H') → a { D with nx := N } σ H) : tSeq a b D σ H := ha _ hb
theorem if_gen {tc : TT} {a b : TS} {D : Ends} {σ : St} {H : Hp} (C1 C2 : Hp → Prop) (h1 : ∀ H', C1 H' → a D σ H') (h2 : ∀ H', C2 H' → b D σ H')
    (ht : ∀ Y N : Hp → Prop, (∀ H', C1 H' → Y H') → (∀ H', C2 H' → N H') → tc σ H fun v H' => if v = true then Y H' else N H') : tIfS tc a b D σ H := ht _ _ h1 h2
end
end L2
namespace Nm
noncomputable def pos (ps : Ws) : Ws := ps.filter fun p => decide (0 < p.2)
noncomputable def wof (ps : Ws) : Ws := addAll [] (pos ps)
noncomputable def bad (ps : Ws) : Prop := (∃ p ∈ ps, p.2 < 0) ∨ pos ps = []
theorem pos_snoc (ps : Ws) (p : Int × Int) : pos (ps ++ [p]) = if 0 < p.2 then pos ps ++ [p] else pos ps := by
  unfold pos
  rw [List.filter_append]
  by_cases c : 0 < p.2
  · rw [if_pos c]; simp [c]
  · rw [if_neg c]; simp [c]
theorem wof_snoc (ps : Ws) (p : Int × Int) : wof (ps ++ [p]) = if 0 < p.2 then addk (wof ps) p.1 p.2 else wof ps := by
  unfold wof
  rw [pos_snoc]
  split
  · rw [addAll_snoc]
  · rfl
theorem wof_nodup (ps : Ws) : (keys (wof ps)).Nodup := nodup_addAll (by simp [keys])
theorem wof_len (ps : Ws) : (wof ps).length ≤ ps.length := by
  have := len_addAll (pos ps) []
  have h2 : (pos ps).length ≤ ps.length := List.length_filter_le _ _
  unfold wof
  simp only [List.length_nil] at this
  omega
theorem wof_nil {ps : Ws} : wof ps = [] ↔ pos ps = [] := by
  constructor
  · intro h
    cases e : pos ps with
    | nil => rfl
    | cons p r =>
      have m : p.1 ∈ keys (wof ps) := by
        unfold wof
        rw [e]
        exact mem_addAll.mpr (.inr (by simp [keys]))
      rw [h] at m
      simp [keys] at m
  · intro h
    unfold wof
    rw [h]
    rfl
theorem pos_pos (ps : Ws) : ∀ p ∈ pos ps, 0 < p.2 := fun p hp => by
  unfold pos at hp
  simpa using (List.mem_filter.mp hp).2
theorem wof_pos (ps : Ws) : ∀ k ∈ keys (wof ps), 0 < look (wof ps) k := fun k hk => by
  unfold wof at *
  rw [look_addAll]
  have h : k ∈ keys (pos ps) := by
    rcases mem_addAll.mp hk with z | z
    · simp [keys] at z
    · exact z
  have := cnt_pos (pos_pos ps) h
  simp only [look]
  omega
theorem wof_tot (ps : Ws) : tot (wof ps) = tot (pos ps) := by
  unfold wof
  rw [tot_addAll]
  simp [tot]
theorem tot_pos_le {c : Int} (c0 : 0 ≤ c) : ∀ {ps : Ws}, (∀ p ∈ ps, p.2 ≤ c) → tot (pos ps) ≤ ps.length * c
  | [], _ => by simp [pos, tot]
  | p :: r, h => by
    have ih := tot_pos_le c0 fun q hq => h q (List.mem_cons_of_mem _ hq)
    have hp := h p List.mem_cons_self
    rw [List.length_cons, Int.natCast_succ, Int.add_mul]
    unfold pos at *
    rw [List.filter_cons]
    split
    · rw [show tot (p :: List.filter (fun p => decide (0 < p.2)) r) = p.2 + tot (List.filter (fun p => decide (0 < p.2)) r) from by unfold tot; rw [List.map_cons, List.sum_cons]]
      omega
    · omega
end Nm
namespace L2
open PySem PySem.Spec PyProof.Rows PySem.W
section
variable {X : Cx} {K : PySem.W.Frag}
theorem strs_of : ∀ {us : List Value} {ts : List Str}, Vals (ts.map V.str) us → ∃ l : List (Str × Tok), strValues l = us ∧ l.map (·.1) = ts
  | _, [], .nil => ⟨[], rfl, rfl⟩
  | _, x :: ts, .cons r t => by
    obtain ⟨k, rfl⟩ := (r : ∃ k, _ = Value.str x k)
    obtain ⟨l, rfl, rfl⟩ := strs_of t
    exact ⟨(x, k) :: l, rfl, rfl⟩
noncomputable def rJoin (K : PySem.W.Frag) : V → List V → Hp → VK → Prop := fun x xs H Q => ∃ sep p ts, x = .str sep ∧ xs = [.ref p] ∧ SqL K H p (List.map V.str ts) ∧ JoinOk sep ts = true ∧ Q (.str (Txt.join sep ts)) H
theorem mt_join : MtR X "str.join" (rJoin X.K) := by
  intro pins s σ H x xs v us Q I rx rv h
  obtain ⟨sep, p, ts, rfl, rfl, hq, ok, q⟩ := h
  obtain ⟨t, rfl⟩ := rx
  obtain ⟨u, rfl, ru⟩ := vals1 rv
  cases ru
  obtain ⟨its, r, pl, hz⟩ := I.list hq
  obtain ⟨l, rfl, e2⟩ := strs_of r
  exact SC.join pl.isList e2 ok fun t' k => ⟨.str _, H, I.tok _, ⟨_, rfl⟩, q⟩
theorem mt_joinK (hK : X.K = K := by rfl) : MtR X "str.join" (rJoin K) := by subst hK; exact mt_join
theorem call_str_i : CallR X (.type "str") (fun xs H Q => ∃ i, xs = [.int i] ∧ i.natAbs.log2 < 1920 ∧ Q (.str (toString i)) H) := call_str_int
theorem call_int_b : CallR X (.type "int") (fun xs H Q => ∃ k, xs = [.bl k] ∧ Q (.int (if k then 1 else 0)) H) := by
  intro pins s σ H xs us Q I r h
  exact call_int1 pins s σ H xs us Q I r (.inr h)
abbrev TJ := Str → TE
noncomputable def PJ (X : Cx) (es : List Expr) (t : TJ) : Prop :=
  ∀ (pins : List (Addr × Obj)) (s : Shared) (σ : St) (H : Hp) (acc : Str) (Q : VK), Inv X pins σ H s → acc.length ≤ sizeLine → t acc σ H Q → wpAny (model X.prog X.w) X.A (joinParts acc (evalEach es X.env)) (EP X pins σ Q) X.xe s
noncomputable def jNil : TJ := fun acc _ H Q => Q (.str acc) H
noncomputable def jLit (x : Str) (t : TJ) : TJ := fun acc σ H Q => (acc ++ x).length ≤ sizeLine ∧ t (acc ++ x) σ H Q
noncomputable def jInt (te : TE) (t : TJ) : TJ := fun acc σ H Q => te σ H fun v H1 => ∃ i, v = .int i ∧ i.natAbs.log2 < 1920 ∧ (acc ++ toString i).length ≤ sizeLine ∧ t (acc ++ toString i) σ H1 Q
noncomputable def jStr (te : TE) (t : TJ) : TJ := fun acc σ H Q => te σ H fun v H1 => ∃ z, v = .str z ∧ z.length ≤ sizeLine ∧ (acc ++ z).length ≤ sizeLine ∧ t (acc ++ z) σ H1 Q
theorem pj_nil : PJ X [] jNil := fun pins s σ H acc Q I hz h => joinParts_nil ⟨.str acc, H, I.tok _, ⟨_, rfl⟩, h⟩ hz
theorem pj_lit {x : Str} {j : Nat} {pos : Pos} {es : List Expr} {t : TJ} (h : PJ X es t) : PJ X (.Constant (.str x) j pos :: es) (jLit x t) := by
  intro pins s σ H acc Q I hz q
  refine joinParts_cons ?_
  exact Calls.Constant_str ⟨q.1, h pins _ σ H _ Q (I.tok _) q.1 q.2⟩
theorem pj_int {e : Expr} {pos : Pos} {es : List Expr} {te : TE} {t : TJ} (he : PE X e te) (h : PJ X es t) : PJ X (.FormattedValue e (-1) none pos :: es) (jInt te t) := by
  intro pins s σ H acc Q I hz q
  refine joinParts_cons (FormattedValue_plain (thn (he pins s σ H _ I q) fun u s1 ⟨v, H1, I1, r, q1⟩ => ?_))
  obtain ⟨i, rfl, hl, hz', q1⟩ := q1
  obtain ⟨t, rfl⟩ := r
  exact formatField_int_small hl ⟨hz', h pins _ σ H1 _ Q (I1.tok _) hz' q1⟩
noncomputable def tJoined (t : TJ) : TE := fun σ H Q => t Str.empty σ H Q
theorem pe_joined {a b : Expr} {es : List Expr} {pos : Pos} {t : TJ} (h : PJ X (a :: b :: es) t) : PE X (.JoinedStr (a :: b :: es) pos) (tJoined t) := by
  intro pins s σ H Q I q
  exact JoinedStr_many (h pins s σ H Str.empty Q I (Nat.zero_le _) q)
noncomputable def rInMod (K : PySem.W.Frag) (P : Params) : R2 := fun x y H Q => ∃ z a es n, x = .str z ∧ y = .ref a ∧ K.lookup a = some ⟨.type "dict", none, .dict es n, #[]⟩ ∧ KeysLit P es.toList ∧ (a == sysModules) = false ∧ Q (.bl (findBy Value.isStrOf es z).isSome) H
theorem op_in_mod : OpR X (compareOp .In) (rInMod X.K X.w.params) := by
  intro pins s σ H x y v u Q I rx ry h
  obtain ⟨z, a, es, n, rfl, rfl, hl, hk, lo, q⟩ := h
  obtain ⟨t, rfl⟩ := rx
  cases ry
  exact wpAny_in_of (strKind_is X.prog X.w z t) lo (mapOf_K (prog := X.prog) I.kIn hl hk) ⟨.bl _, H, I.tok _, rfl, q⟩
theorem op_in_modK {w : World} (hK : X.K = K := by rfl) (hw : X.w = w := by rfl) : OpR X (compareOp .In) (rInMod K w.params) := by subst hK hw; exact op_in_mod
noncomputable def keyS (e : DictEntry) : Str := match e.key with | .str x _ => x | _ => Str.empty
noncomputable def MDict (K : PySem.W.Frag) (P : Params) (a : Addr) (ks : List Str) : Prop := ∃ es n, K.lookup a = some ⟨.type "dict", none, .dict es n, #[]⟩ ∧ KeysLit P es.toList ∧ (a == sysModules) = false ∧ es.toList.map keyS = ks
theorem keys_find {P : Params} (z : Str) : ∀ {l : List DictEntry}, KeysLit P l → (l.find? fun d => Value.isStrOf z d.key).isSome = (l.map keyS).any fun k => decide (k = z)
  | [], _ => rfl
  | e :: r, ⟨⟨x, t, e1, _⟩, h⟩ => by
    rw [List.find?_cons, List.map_cons, List.any_cons, ← keys_find z h]
    have k : keyS e = x := by unfold keyS; rw [e1]
    have i : Value.isStrOf z e.key = decide (keyS e = z) := by
      rw [k, e1]
      show (x == z) = decide (x = z)
      by_cases c : x = z
      · simp [c]
      · simp [c]
    rw [i]
    by_cases c : keyS e = z
    · simp [c]
    · simp [c]
theorem MDict.rd {P : Params} {a : Addr} {ks : List Str} (h : MDict K P a ks) {z : Str} {H : Hp} {Q : VK} (q : Q (.bl (ks.any fun k => decide (k = z))) H) : rInMod K P (.str z) (.ref a) H Q := by
  obtain ⟨es, n, hl, hk, lo, e⟩ := h
  refine ⟨z, a, es, n, rfl, rfl, hl, hk, lo, ?_⟩
  have f : (findBy Value.isStrOf es z).isSome = ks.any fun k => decide (k = z) := by
    rw [← e, ← keys_find z hk]
    unfold findBy
    obtain ⟨l⟩ := es
    rw [List.find?_toArray]
    cases l.find? fun d => Value.isStrOf z d.key <;> rfl
  rw [f]
  exact q
end
end L2
namespace L2
open PySem PySem.Spec PyProof.Rows PySem.W
inductive Pl where
  | fin (w : Int × Int) | thr (w : Int × Int) (ws : List (Int × Int)) | pck (who : Int) (to : List Int)
noncomputable def hid (H : Hp) (p : Addr) : Hp := fun a => if a = p then none else H a
theorem hid_ne {H : Hp} {p a : Addr} (h : a ≠ p) : hid H p a = H a := if_neg h
theorem hid_upd {H : Hp} {p : Addr} {o : HO} : Same (hid H p) (upd H p o) := fun a u e => by
  unfold hid at e
  by_cases h : a = p
  · rw [if_pos h] at e; cases e
  · rw [if_neg h] at e; rw [upd_ne h]; exact e
theorem hid_sub {H : Hp} {p : Addr} : Same (hid H p) H := fun a u e => by
  unfold hid at e
  by_cases h : a = p
  · rw [if_pos h] at e; cases e
  · rw [if_neg h] at e; exact e
theorem same_hid {H0 H : Hp} {p : Addr} (s : Same H0 H) (n : H0 p = none) : Same H0 (hid H p) := fun a u e => by
  rw [hid_ne (fun z => by rw [z, n] at e; cases e)]
  exact s _ _ e
theorem hid_mono {H H' : Hp} {p : Addr} (s : Same H H') : Same (hid H p) (hid H' p) := fun a u e => by
  unfold hid at *
  by_cases h : a = p
  · rw [if_pos h] at e; cases e
  · rw [if_neg h] at e ⊢; exact s _ _ e
theorem same_upd_of {H0 H : Hp} {p : Addr} {o : HO} (s : Same H0 H) (n : H0 p = none) : Same H0 (upd H p o) := (same_hid s n).trans hid_upd
theorem cut_take {xs : List V} {k : Int} (h : 0 ≤ k) : cutV xs none (some k) = xs.take k.toNat := by
  unfold cutV
  obtain ⟨n, rfl⟩ := Int.eq_ofNat_of_zero_le h
  rw [HT.sIx_none, show ((n : Nat) : Int) = Int.ofNat n from rfl]
  rw [show HT.sIx xs.length xs.length (some (Int.ofNat n)) = min n xs.length from HT.sIx_nat _ _ n]
  rw [List.drop_zero, Nat.sub_zero]
  show xs.take (min n xs.length) = xs.take n
  by_cases h : n ≤ xs.length
  · rw [Nat.min_eq_left h]
  · rw [Nat.min_eq_right (by omega), List.take_of_length_le (Nat.le_refl _), List.take_of_length_le (by omega)]
theorem while_at {c : TT} {tb : TS} {D : Ends} {σ : St} {H : Hp} (W : Nat → St → Hp → Prop) {m : Nat} (h0 : W m σ H)
    (hs : ∀ m σ H, W m σ H → c σ H fun b H1 => if b = true then tb { D with nx := fun σ' H' => ∃ m', m' < m ∧ W m' σ' H', ct := fun σ' H' => ∃ m', m' < m ∧ W m' σ' H', bk := D.nx } σ H1 else D.nx σ H1)
    (mono : ∀ σ H Q Q', (∀ b H1, Q b H1 → Q' b H1) → c σ H Q → c σ H Q') : tWhile c tb D σ H := by
  refine ⟨W, ⟨m, h0⟩, fun m σ H w => mono σ H _ _ (fun b H1 q => ?_) (hs m σ H w)⟩
  cases b with
  | true => exact ⟨_, fun _ _ h => h, q⟩
  | false => exact q
section
variable {X : Cx} {K : PySem.W.Frag}
theorem op_catTK (hK : X.K = K := by rfl) : OpR X (binaryOp .Add) (rCatT K) := by subst hK; exact op_catT
end
end L2
namespace PySem
section
variable {prog : Program} {w : World} {A : Around} {E : Value → Shared → Prop} {s : Shared}
end
end PySem
namespace L2
open PySem PySem.Spec PyProof.Rows PySem.W
section
variable {X : Cx} {K : PySem.W.Frag}
noncomputable def tRev (K : PySem.W.Frag) (te : TE) : TE := fun σ H Q => te σ H fun v H1 => ∃ p xs, v = .ref p ∧ SqL K H1 p xs ∧ ∀ l, H1 l = none → Q (.ref l) (upd H1 l (.lst xs.reverse))
noncomputable def tD1 (tk tv : TE) : TE := fun σ H Q => ∀ d, H d = none → tk σ (upd H d (.dK [])) fun x H1 => tv σ H1 fun v H2 => ∃ k, x = kV k ∧ H2 d = some (.dK []) ∧ Q (.ref d) (upd H2 d (.dK [(k, v)]))
end
end L2
namespace PySem
open Builtin Builtin.Str
section
variable {prog : Program} {w : World} {A : Around} {E : Value → Shared → Prop} {s : Shared} {x y : Str} {t u : Tok} {Q : Value → Shared → Prop}
theorem call_split (hy : (y.length == 0) = false)
    (hq : ∀ l k, l.map (·.1) = Txt.split x y → Q (.ref s.heap.objs.size) { s with heap := s.heap.push { cls := .type "list", data := .seq (strValues l).toArray }, toks := k })
    (hsz : x.length ≤ sizeLine) (hsz2 : (partsBetween x (occurrences x y 0 x.length (x.length + 1)) y.length).length ≤ sizeLine) :
    wpAny (model prog w) A (call (.builtin "str.split") [.str x t, .str y u]) Q E s := by
  cases h1 : (decide (x.length < y.length) || decide (Builtin.Str.strKind x < Builtin.Str.strKind y))
  · cases hf : (occurrences x y 0 x.length (x.length + 1)).isEmpty
    · refine call_meets F.slot_str_split (typeIs_str _ _ _) F.entry_str_split (F.args_str_split_2 _ _) (meets_str_split_sep x y t u h1 hy hf hsz hsz2) ?_
      show wants Q E _ { s with toks := _, heap := s.heap.push { cls := .type "list", data := .seq (strsFrom s.toks (partsBetween x (occurrences x y 0 x.length (x.length + 1)) y.length)).toArray } }
      rw [strsFrom_eq]
      exact hq (numbered s.toks _) _ ((numbered_texts _ _).trans ((if_neg (ne_true_of_eq_false h1)).trans (if_neg (ne_true_of_eq_false hf))).symm)
    · exact call_meets F.slot_str_split (typeIs_str _ _ _) F.entry_str_split (F.args_str_split_2 _ _) (meets_str_split_not_found x y t u h1 hy hf)
        (hq [(x, t)] s.toks ((if_neg (ne_true_of_eq_false h1)).trans (if_pos hf)).symm)
  · exact call_meets F.slot_str_split (typeIs_str _ _ _) F.entry_str_split (F.args_str_split_2 _ _) (meets_str_split_cannot_occur x y t u h1)
      (hq [(x, t)] s.toks (if_pos h1).symm)
end
theorem cut_inj {c : Nat} : ∀ {a b r q : List Nat}, c ∉ a → c ∉ b → a ++ c :: r = b ++ c :: q → a = b ∧ r = q
  | [], [], r, q, _, _, h => by simp at h; exact ⟨rfl, h⟩
  | [], y :: b, r, q, _, hb, h => by simp at h; exact absurd (h.1 ▸ List.mem_cons_self) hb
  | x :: a, [], r, q, ha, _, h => by simp at h; exact absurd (h.1 ▸ List.mem_cons_self) ha
  | x :: a, y :: b, r, q, ha, hb, h => by
    simp only [List.cons_append, List.cons.injEq] at h
    obtain ⟨e1, e2⟩ := cut_inj (fun m => ha (List.mem_cons_of_mem _ m)) (fun m => hb (List.mem_cons_of_mem _ m)) h.2
    exact ⟨by rw [h.1, e1], e2⟩
theorem str_ext {a b : Str} (h : a.cps.toList = b.cps.toList) : a = b := by
  cases a; cases b
  congr 1
  exact Array.toList_inj.mp h
theorem join_cons (c : Nat) (x y : Str) (r : List Str) : (Str.join ⟨#[c]⟩ (x :: y :: r)).cps.toList = x.cps.toList ++ c :: (Str.join ⟨#[c]⟩ (y :: r)).cps.toList := by
  show (x ++ ⟨#[c]⟩ ++ Str.join ⟨#[c]⟩ (y :: r)).cps.toList = _
  simp only [Str.cps_append, Array.toList_append, List.append_assoc]
  rfl
theorem join_inj (c : Nat) : ∀ (ps qs : List Str), ps ≠ [] → qs ≠ [] → (∀ p ∈ ps, c ∉ p.cps.toList) → (∀ p ∈ qs, c ∉ p.cps.toList) → Str.join ⟨#[c]⟩ ps = Str.join ⟨#[c]⟩ qs → ps = qs
  | [], _, h, _, _, _, _ => absurd rfl h
  | _, [], _, h, _, _, _ => absurd rfl h
  | [x], [y], _, _, _, _, e => by
    have e : x = y := e
    rw [e]
  | [x], y :: y2 :: r, _, _, hp, _, e => by
    exfalso
    have e := congrArg (fun z : Str => z.cps.toList) e
    simp only [join_cons] at e
    refine hp x List.mem_cons_self ?_
    have e : x.cps.toList = _ := e
    rw [e]
    exact List.mem_append_right _ List.mem_cons_self
  | x :: x2 :: r, [y], _, _, _, hq, e => by
    exfalso
    have e := congrArg (fun z : Str => z.cps.toList) e
    simp only [join_cons] at e
    refine hq y List.mem_cons_self ?_
    have e : _ = y.cps.toList := e
    rw [← e]
    exact List.mem_append_right _ List.mem_cons_self
  | x :: x2 :: r, y :: y2 :: q, _, _, hp, hq, e => by
    have e := congrArg (fun z : Str => z.cps.toList) e
    simp only [join_cons] at e
    obtain ⟨e1, e2⟩ := cut_inj (hp x List.mem_cons_self) (hq y List.mem_cons_self) e
    rw [str_ext e1, join_inj c (x2 :: r) (y2 :: q) (by simp) (by simp) (fun p m => hp p (List.mem_cons_of_mem _ m)) (fun p m => hq p (List.mem_cons_of_mem _ m)) (str_ext e2)]
theorem split_ne (x y : Str) : Txt.split x y ≠ [] := by
  unfold Txt.split
  split
  · simp
  · split
    · simp
    · unfold Builtin.Str.partsBetween
      cases Builtin.Str.occurrences x y 0 x.length (x.length + 1) <;> simp
theorem split_join (c : Nat) {ps : List Str} (h : ps ≠ []) (hp : ∀ p ∈ ps, c ∉ p.cps.toList) : Txt.split (Txt.join ⟨#[c]⟩ ps) ⟨#[c]⟩ = ps := by
  have e : Txt.join ⟨#[c]⟩ ps = Str.join ⟨#[c]⟩ ps := StrLaws.glued_eq_join _ _
  rw [e]
  exact join_inj c _ _ (split_ne _ _) h (StrLaws.split_free _ c) hp (StrLaws.join_split _ _)
end PySem
namespace L2
open PySem PySem.Spec PyProof.Rows PySem.W
section
variable {X : Cx} {K : PySem.W.Frag}
theorem strVals : ∀ (l : List (Str × Tok)), Vals (List.map V.str (l.map (·.1))) (strValues l)
  | [] => .nil
  | p :: l => .cons ⟨p.2, rfl⟩ (strVals l)
theorem parts_len (x y : Str) : (Builtin.Str.partsBetween x (Builtin.Str.occurrences x y 0 x.length (x.length + 1)) y.length).length ≤ x.length + 2 := by
  have := StrLaws.occ_length_le x y 0 x.length (x.length + 1)
  unfold Builtin.Str.partsBetween
  simp only [List.length_map, List.length_zip, List.length_cons, List.length_append, List.length_singleton]
  omega
theorem mt_split : MtR X "str.split" (fun x xs H Q => ∃ z c, x = .str z ∧ xs = [.str ⟨#[c]⟩] ∧ z.length ≤ 1000000 ∧ ∀ l, H l = none → Q (.ref l) (upd H l (.lst (List.map V.str (Txt.split z ⟨#[c]⟩))))) := by
  intro pins s σ H x xs v us Q I rx rv h
  obtain ⟨z, c, rfl, rfl, hz, q⟩ := h
  obtain ⟨t, rfl⟩ := rx
  obtain ⟨u, rfl, ru⟩ := vals1 rv
  obtain ⟨t2, rfl⟩ := ru
  have pl := parts_len z ⟨#[c]⟩
  have sl := sizeLine_eq
  have fr := I.hok.fresh (a := s.heap.objs.size) (Nat.le_refl _)
  refine call_split rfl (fun l k e => ?_) (by omega) (by omega)
  have lv := strVals l
  rw [e] at lv
  have ll := lv.length
  rw [List.length_map] at ll
  refine ⟨.ref s.heap.objs.size, _, I.laid (t' := k) (fun b o e => Heap.get?_push_of_some _ e) (Nat.le_refl _) (o := .lst (List.map V.str (Txt.split z ⟨#[c]⟩))) ⟨?_, strValues l, 0, lv, ?_⟩, rfl, q _ fr⟩
  · rw [List.length_map]
    have : (Txt.split z ⟨#[c]⟩).length ≤ z.length + 2 := by
      unfold Txt.split
      split
      · simp
      · split
        · simp
        · exact pl
    omega
  · exact Heap.get?_push_size _ rfl
theorem call_int_s : CallR X (.type "int") (fun xs H Q => ∃ z n, xs = [.str z] ∧ z.length ≤ 640 ∧ PySem.intText? z = some n ∧ Q (.int n) H) := by
  intro pins s σ H xs us Q I r h
  obtain ⟨z, n, rfl, hl, hn, q⟩ := h
  obtain ⟨u, rfl, t, rfl⟩ := vals1 r
  exact PySem.W.KIN.call_text hn hl ⟨.int n, H, I.tok _, ⟨_, rfl⟩, q⟩
theorem call_lenS : CallR X (.builtin "len") (fun xs H Q => ∃ z, xs = [.str z] ∧ z.length ≤ sizeLine ∧ Q (.int z.length) H) := call_len_str
noncomputable def Its (z : Str) : It := ⟨fun i _ => i < z.cps.size, fun i H x H' => H' = H ∧ ∃ c, z.cps[i]? = some c ∧ x = .str ⟨#[c]⟩, fun i _ => z.cps.size ≤ i⟩
theorem turn_str {P : Program} {w : World} {tg : Expr} (z : Str) (t : Tok) (it : Addr) : Turn P w K tg (Its z) [it] it (fun i h => h.IsStrIter it "str_ascii_iterator" z t i) where
  mem := by simp
  obj := fun i h st b hb => by
    have e : b = it := by simpa using hb
    subst e
    obtain ⟨o, e, c, d⟩ := st
    exact ⟨o, e, fun v z => by rw [d] at z; cases z⟩
  keep := fun i h h' st k => let ⟨o, e, r⟩ := st; ⟨o, k it (by simp) o e, r⟩
  item := by
    intro X hP hw hK hc i pins s σ H E I hf st hg
    subst hP hw hK
    obtain ⟨f0, f1, f2, f3, f4, f5⟩ := hf it (by simp)
    have hg : i < z.cps.size := hg
    refine wpAny_pyNext_ascii_item st (c := z.cps[i]) (by simp [hg]) fun h' st' sb => ?_
    have I1 : Inv X pins σ H { s with heap := h', toks := s.toks + 1 } := I.turned (t' := s.toks + 1) (fun b o hb e => (sb.2 b hb).trans e) f0 f1 f3 f4 f5
    obtain ⟨o, e, c, d⟩ := id st'
    exact ⟨_, rfl, go_of (s := { s with heap := h', toks := s.toks + 1 }) e c d (by decide) ⟨.str ⟨#[z.cps[i]]⟩, H, I1, ⟨_, rfl⟩, ⟨rfl, _, by simp [hg], rfl⟩, st', fun b hb => (hf b hb).1⟩⟩
  done := by
    intro X hP hw hK hc i pins s σ H E I hf st hg
    subst hP hw hK
    obtain ⟨f0, f1, f2, f3, f4, f5⟩ := hf it (by simp)
    have hg : z.cps.size ≤ i := hg
    exact wpAny_pyNext_ascii_end (I.ok.hd hc) st (by simp [hg]) fun h' eb => ⟨rfl, I.turned (t' := s.toks) (fun b o hb e => eb b o hb e) f0 f1 f3 f4 f5⟩
  self := fun _ _ _ _ _ st h => wpAny_pyIter_striter_ascii st h
noncomputable def iStr (tl : TE) : TI := fun σ H R => tl σ H fun x H1 => ∃ z, x = .str z ∧ z.cps.all (· < 128) = true ∧ R (Its z) H1
theorem pi_str {tg l : Expr} {tl : TE} (hl : PE X l tl) : PI X tg l (iStr tl) := by
  intro pins s σ H R I h
  refine thn (hl pins s σ H _ I h) fun v s1 ⟨x, H1, I1, r1, q1⟩ => ?_
  obtain ⟨z, e, ha, q⟩ := q1
  subst e
  obtain ⟨t, rfl⟩ := r1
  refine wpAny_pyIter_ascii ha ?_
  refine ⟨s1.heap.objs.size, [s1.heap.objs.size], _, _, H1, rfl, I1.kept (t' := s1.toks) fun b o e => Heap.get?_push_of_some _ e, turn_str z t _, ⟨_, Heap.get?_push_size _ rfl, rfl, rfl⟩, fun b hb => ?_, q⟩
  have e : b = s1.heap.objs.size := by simpa using hb
  subst e
  exact I1.fpOk (Nat.le_refl _) (I1.hok.fresh (Nat.le_refl _))
theorem src_str {z : Str} {Ok : Hp → Prop} : Src (Its z) Ok z.cps.size (fun i x H H3 => H3 = H ∧ ∃ c, z.cps[i]? = some c ∧ x = .str ⟨#[c]⟩) where
  go := fun i H hi _ => hi
  yld := fun i H x H3 hi _ y => y
  stop := fun H _ => Nat.le_refl _
theorem comp_map3 {K : PySem.W.Frag} {J : It} {te : TE} {tl : St} {H1 : Hp} {fin : List V → Hp → Prop} {n : Nat} {Item : Nat → V → Hp → Hp → Prop} (S : Src J (Same H1) n Item) (It2 : Nat → V → V → V → Hp → Prop)
    (tp : ∀ i x H H3, i < n → Same H1 H → Item i x H H3 → Same H H3 ∧ ∃ p a b c, x = .ref p ∧ SqT K H3 p [a, b, c] ∧ It2 i a b c H3) (hz : n ≤ sizeLine)
    (R : Nat → V → Hp → Prop) (mono : ∀ i y H H', Same H H' → R i y H → R i y H')
    (hs : ∀ i a b c H3 (Q : VK), i < n → Same H1 H3 → It2 i a b c H3 → (∀ y H6, Same H3 H6 → R i y H6 → Q y H6) → te (some a :: some b :: some c :: tl) H3 Q)
    (hfin : ∀ ys H, Same H1 H → ys.length = n → (∀ (i : Nat) y, ys[i]? = some y → R i y H) → fin ys H) : tBlock J (gTup K 3 (gCons (gName 0) (gCons (gName 1) (gCons (gName 2) gNil)))) tYes te (none :: none :: none :: tl) H1 fin := by
  refine ⟨fun i m ys σ H => m = n - i ∧ i ≤ n ∧ ys.length = i ∧ (∃ w w' w'', σ = w :: w' :: w'' :: tl) ∧ Same H1 H ∧ ∀ (j : Nat) y, ys[j]? = some y → R j y H, ⟨n, by simp, Nat.zero_le _, rfl, ⟨_, _, _, rfl⟩, Same.refl _, fun j y e => by simp at e⟩, ?_⟩
  rintro i m ys σ H ⟨rfl, hi, hl, ⟨w, w', w'', rfl⟩, sm, p⟩
  by_cases hlt : i < n
  · refine .inr ⟨S.go i H hlt sm, fun x H3 y => ?_⟩
    obtain ⟨s3, q, a, b, c, rfl, sq, it⟩ := tp i x H H3 hlt sm (S.yld i H x H3 hlt sm y)
    refine ⟨q, _, rfl, sq, rfl, _, _, rfl, _, _, rfl, _, _, rfl, rfl, ?_⟩
    unfold tYes
    refine iteT ?_
    refine hs i a b c H3 _ hlt (sm.trans s3) it fun y H6 s6 r => ⟨by omega, n - (i + 1), by omega, rfl, hlt, by rw [List.length_append, List.length_singleton]; omega, ⟨_, _, _, rfl⟩, sm.trans (s3.trans s6), fun j z e => ?_⟩
    by_cases hj : j < i
    · rw [List.getElem?_append_left (by omega)] at e
      exact mono j z _ _ (s3.trans s6) (p j z e)
    · rw [List.getElem?_append_right (by omega)] at e
      have e2 : j - ys.length = 0 := by
        by_cases q : j - ys.length = 0
        · exact q
        · rw [List.getElem?_eq_none (by simp; omega)] at e; cases e
      rw [e2] at e
      simp at e
      subst e
      have : j = i := by omega
      subst this
      exact r
  · have e : i = n := by omega
    subst e
    exact .inl ⟨S.stop H sm, hfin ys H sm hl p⟩
theorem pe_globI {x : Str} {i : Int} {pos : Pos} (hg : Gl X x) (h : ∃ t, X.mg x = some (.int i t)) (hd : (x == ("__debug__" : Str)) = false := by decide) : PE X (.Name x pos) (tC (.int i)) := by
  obtain ⟨t, h⟩ := h
  exact pe_glob hg h ⟨t, rfl⟩ hd
theorem pe_globS {x : Str} {i : Str} {pos : Pos} (hg : Gl X x) (h : ∃ t, X.mg x = some (.str i t)) (hd : (x == ("__debug__" : Str)) = false := by decide) : PE X (.Name x pos) (tC (.str i)) := by
  obtain ⟨t, h⟩ := h
  exact pe_glob hg h ⟨t, rfl⟩ hd
end
end L2
namespace PySem
end PySem
namespace PySem
open Builtin Builtin.Str StrLaws
abbrev PLUS : Str := ⟨#[32, 43, 32]⟩
theorem plus_at {x : Str} {k : Nat} (h : At x PLUS x.length k) : x.cps.toList[k + 1]? = some 43 := by
  have h2 := h.2
  rw [subAt_eq] at h2
  have h3 : (x.cps.toList.drop k).take 3 = [32, 43, 32] := beq_iff_eq.mp h2
  have : ((x.cps.toList.drop k).take 3)[1]? = some 43 := by rw [h3]; rfl
  rw [List.getElem?_take_of_lt (by decide), List.getElem?_drop] at this
  exact this
theorem plus_is {x : Str} {a b : List Nat} (e : x.cps.toList = a ++ (32 :: 43 :: 32 :: b)) : At x PLUS x.length a.length := by
  refine ⟨?_, ?_⟩
  · have : x.length = (a ++ (32 :: 43 :: 32 :: b)).length := by rw [← e, Array.length_toList]; rfl
    rw [this, List.length_append]
    show a.length + 3 ≤ _
    simp
  · rw [subAt_eq, e, List.drop_left]
    rfl
theorem plus_parts (x : Str) : ∀ (ps : List Str), ps ≠ [] → (∀ p ∈ ps, 43 ∉ p.cps.toList) → ∀ (pre : List Nat) (cuts : List Nat) (f : Nat), x.cps.toList = pre ++ (Str.join PLUS ps).cps.toList → ChainG x PLUS x.length pre.length cuts f → (∀ k, f ≤ k → ¬ At x PLUS x.length k) → partsFrom x 3 pre.length cuts = ps
  | [], h, _, _, _, _, _, _, _ => absurd rfl h
  | [p], _, hp, pre, cuts, f, e, hg, hn => by
    have e : x.cps.toList = pre ++ p.cps.toList := e
    have no : ∀ k, pre.length ≤ k → ¬ At x PLUS x.length k := by
      intro k hk a
      have a1 := plus_at a
      rw [e, List.getElem?_append_right (by omega)] at a1
      exact hp p List.mem_cons_self (List.mem_of_getElem? a1)
    cases cuts with
    | cons c r => exact absurd hg.2.1 (no c hg.1)
    | nil =>
      show [strSub x pre.length x.length] = [p]
      congr 1
      have : ∀ a b : Str, a.cps.toList = b.cps.toList → a = b := fun a b h => by cases a; cases b; congr 1; exact Array.toList_inj.mp h
      refine this _ _ ?_
      rw [strSub_toList, e, List.drop_left, List.take_of_length_le]
      have : x.length = (pre ++ p.cps.toList).length := by rw [← e, Array.length_toList]; rfl
      rw [this, List.length_append]
      omega
  | p :: q :: r, _, hp, pre, cuts, f, e, hg, hn => by
    have je : (Str.join PLUS (p :: q :: r)).cps.toList = p.cps.toList ++ (32 :: 43 :: 32 :: (Str.join PLUS (q :: r)).cps.toList) := by
      show (p ++ PLUS ++ Str.join PLUS (q :: r)).cps.toList = _
      simp only [Str.cps_append, Array.toList_append, List.append_assoc]
      rfl
    rw [je] at e
    have e1 : x.cps.toList = (pre ++ p.cps.toList) ++ (32 :: 43 :: 32 :: (Str.join PLUS (q :: r)).cps.toList) := by rw [e, List.append_assoc]
    have at0 := plus_is e1
    have no : ∀ k, pre.length ≤ k → k < (pre ++ p.cps.toList).length → ¬ At x PLUS x.length k := by
      intro k hk h2 a
      have a1 := plus_at a
      rw [List.length_append] at h2
      rw [e, List.getElem?_append_right (by omega)] at a1
      by_cases q1 : k + 1 - pre.length < p.cps.toList.length
      · rw [List.getElem?_append_left q1] at a1
        exact hp p List.mem_cons_self (List.mem_of_getElem? a1)
      · rw [List.getElem?_append_right (by omega), show k + 1 - pre.length - p.cps.toList.length = 0 by omega] at a1
        simp at a1
    cases cuts with
    | nil =>
      have ef : f = pre.length := hg
      exact absurd at0 (hn _ (by rw [ef, List.length_append]; omega))
    | cons c cs =>
      obtain ⟨g1, g2, g3, g4⟩ := hg
      have ec : c = (pre ++ p.cps.toList).length := by
        rcases Nat.lt_trichotomy c (pre ++ p.cps.toList).length with h | h | h
        · exact absurd g2 (no c g1 h)
        · exact h
        · exact absurd at0 (g3 _ (by rw [List.length_append]; omega) h)
      subst ec
      have l3 : (pre ++ p.cps.toList ++ [32, 43, 32]).length = (pre ++ p.cps.toList).length + 3 := by simp; omega
      have ih := plus_parts x (q :: r) (by simp) (fun y hy => hp y (List.mem_cons_of_mem _ hy)) (pre ++ p.cps.toList ++ [32, 43, 32]) cs f (by rw [e1]; simp) (by rw [l3]; exact g4) hn
      rw [l3] at ih
      show strSub x pre.length (pre ++ p.cps.toList).length :: partsFrom x 3 ((pre ++ p.cps.toList).length + 3) cs = _
      rw [ih]
      congr 1
      have : ∀ a b : Str, a.cps.toList = b.cps.toList → a = b := fun a b h => by cases a; cases b; congr 1; exact Array.toList_inj.mp h
      refine this _ _ ?_
      rw [strSub_toList, e, List.drop_left, List.length_append, Nat.add_sub_cancel_left, List.take_left]
theorem split_plus {ps : List Str} (h : ps ≠ []) (hp : ∀ p ∈ ps, 43 ∉ p.cps.toList) : Txt.split (Str.join PLUS ps) PLUS = ps := by
  obtain ⟨f, hG, hn⟩ := occ_tight (Str.join PLUS ps) PLUS (by decide)
  have key := plus_parts (Str.join PLUS ps) ps h hp [] _ f rfl hG hn
  unfold Txt.split
  split
  · rename_i hc
    rw [Bool.or_eq_true, decide_eq_true_eq, decide_eq_true_eq] at hc
    have lt : (Str.join PLUS ps).length < 3 := by
      rcases hc with hc | hc
      · exact hc
      · exfalso
        have e : Builtin.Str.strKind PLUS = 1 := by decide +kernel
        rw [e] at hc
        unfold Builtin.Str.strKind at hc
        split at hc
        · omega
        · split at hc <;> omega
    cases ps with
    | nil => exact absurd rfl h
    | cons p r =>
      cases r with
      | nil => rfl
      | cons q r =>
        exfalso
        have e : (Str.join PLUS (p :: q :: r)).length = p.length + 3 + (Str.join PLUS (q :: r)).length := by
          show (p ++ PLUS ++ Str.join PLUS (q :: r)).length = _
          rw [Str.length_append, Str.length_append]
          rfl
        omega
  · split
    · rename_i he
      have e0 := List.isEmpty_iff.mp he
      rw [e0] at key
      have k2 : [strSub (Str.join PLUS ps) 0 (Str.join PLUS ps).length] = ps := key
      rw [sub_whole] at k2
      exact k2
    · rw [partsBetween_eq]
      exact key
end PySem
namespace L2
open PySem PySem.Spec PyProof.Rows PySem.W
section
variable {X : Cx} {K : PySem.W.Frag}
theorem mt_splitY : MtR X "str.split" (fun x xs H Q => ∃ z y, x = .str z ∧ xs = [.str y] ∧ (y.length == 0) = false ∧ z.length ≤ 1000000 ∧ ∀ l, H l = none → Q (.ref l) (upd H l (.lst (List.map V.str (Txt.split z y))))) := by
  intro pins s σ H x xs v us Q I rx rv h
  obtain ⟨z, c, rfl, rfl, hy, hz, q⟩ := h
  obtain ⟨t, rfl⟩ := rx
  obtain ⟨u, rfl, ru⟩ := vals1 rv
  obtain ⟨t2, rfl⟩ := ru
  have pl := parts_len z c
  have sl := sizeLine_eq
  have fr := I.hok.fresh (a := s.heap.objs.size) (Nat.le_refl _)
  refine call_split hy (fun l k e => ?_) (by omega) (by omega)
  have lv := strVals l
  rw [e] at lv
  have ll := lv.length
  rw [List.length_map] at ll
  refine ⟨.ref s.heap.objs.size, _, I.laid (t' := k) (fun b o e => Heap.get?_push_of_some _ e) (Nat.le_refl _) (o := .lst (List.map V.str (Txt.split z c))) ⟨?_, strValues l, 0, lv, ?_⟩, rfl, q _ fr⟩
  · rw [List.length_map]
    have : (Txt.split z c).length ≤ z.length + 2 := by
      unfold Txt.split
      split
      · simp
      · split
        · simp
        · exact pl
    omega
  · exact Heap.get?_push_size _ rfl
noncomputable def tMGet (K : PySem.W.Frag) (P : Params) (td ty : TE) : TE := fun σ H Q => td σ H fun x H1 => ty σ H1 fun y H2 => ∃ z a p es n, x = .ref a ∧ y = .str z ∧ K.lookup a = some ⟨.type "dict", none, .dict es n, #[]⟩ ∧ KeysLit P es.toList ∧ PySem.W.nsIn K a z = some (some (.ref p)) ∧ Q (.ref p) H2
theorem pe_mget {w : World} {o i : Expr} {pos : Pos} {td ty : TE} (ho : PE X o td) (hi : PE X i ty) (hs : NoSl i) (hK : X.K = K := by rfl) (hw : X.w = w := by rfl) : PE X (.Subscript o i pos) (tMGet K w.params td ty) := by
  subst hK hw
  intro pins s σ H Q I h
  refine subD_of PySem.F.slot_dict_getitem.lookup hs (thn (ho pins s σ H _ I h) fun u s1 ⟨x, H1, I1, rx, q1⟩ => thn (hi pins s1 σ H1 _ I1 q1) fun iv s2 ⟨y, H2, I2, ry, z, a, p, es, n, ex, ey, hl, hk, e, q2⟩ => ?_)
  subst ex ey
  obtain rfl : u = Value.ref a := rx
  obtain ⟨t, rfl⟩ := ry
  have hm := mapOf_K (prog := X.prog) I2.kIn hl hk
  exact ⟨hm.typeIs, wpAny_getItem_of (strKind_is X.prog X.w z t) hm (find_K hl e) ⟨.ref p, H2, I2.tok _, rfl, q2⟩⟩
noncomputable def rNotMod (K : PySem.W.Frag) (P : Params) : R2 := fun x y H Q => ∃ z a es n, x = .str z ∧ y = .ref a ∧ K.lookup a = some ⟨.type "dict", none, .dict es n, #[]⟩ ∧ KeysLit P es.toList ∧ (a == sysModules) = false ∧ Q (.bl (!(findBy Value.isStrOf es z).isSome)) H
theorem op_notin_modK {w : World} (hK : X.K = K := by rfl) (hw : X.w = w := by rfl) : OpR X (compareOp .NotIn) (rNotMod K w.params) := by
  subst hK hw
  intro pins s σ H x y v u Q I rx ry h
  obtain ⟨z, a, es, n, rfl, rfl, hl, hk, lo, q⟩ := h
  obtain ⟨t, rfl⟩ := rx
  cases ry
  exact wpAny_notIn_of (strKind_is X.prog X.w z t) lo (mapOf_K (prog := X.prog) I.kIn hl hk) ⟨.bl _, H, I.tok _, rfl, q⟩
theorem MDict.rdN {P : Params} {a : Addr} {ks : List Str} (h : MDict K P a ks) {z : Str} {H : Hp} {Q : VK} (q : Q (.bl (!(ks.any fun k => decide (k = z)))) H) : rNotMod K P (.str z) (.ref a) H Q := by
  obtain ⟨z', a', es, n, e1, e2, hl, hk, lo, q'⟩ := MDict.rd h (z := z) (H := H) (Q := fun v H' => ∀ b, v = .bl b → Q (.bl (!b)) H') (fun b e => by cases e; exact q)
  cases e1
  cases e2
  exact ⟨z, a, es, n, rfl, rfl, hl, hk, lo, q' _ rfl⟩
theorem ix_tupQK (hK : X.K = K := by rfl) : IxR X (rIxT K) := by subst hK; exact ix_tup
noncomputable def MRow (K : PySem.W.Frag) (a : Addr) (z : Str) (i j : Int) : Prop := ∃ p, PySem.W.nsIn K a z = some (some (.ref p)) ∧ ∃ dd n sl t u, K.lookup p = some ⟨.type "tuple", dd, .seq #[.int i t, .int j u] n, sl⟩
theorem MRow.rd {P : Params} {a : Addr} {ks : List Str} {z : Str} {i j : Int} (r : MRow K a z i j) (h : MDict K P a ks) : ∃ p es n, K.lookup a = some ⟨.type "dict", none, .dict es n, #[]⟩ ∧ KeysLit P es.toList ∧ PySem.W.nsIn K a z = some (some (.ref p)) ∧ ∀ H, SqT K H p [.int i, .int j] := by
  obtain ⟨p, e, dd, n1, sl, t, u, hp⟩ := r
  obtain ⟨es, n, hl, hk, _, _⟩ := h
  exact ⟨p, es, n, hl, hk, e, fun H => .inr ⟨_, _, n1, hp, rfl, rfl, (show 2 ≤ sizeLine by decide), .cons ⟨t, rfl⟩ (.cons ⟨u, rfl⟩ .nil)⟩⟩
end
end L2
namespace PySem
section
variable {M : Model} {A : Around} {E : Value → Shared → Prop} {s : Shared} {env : Env}
end
end PySem
namespace L2
open PySem PySem.Spec PyProof.Rows PySem.W
section
variable {M : Model} {A : Around} {E : Value → Shared → Prop} {s : Shared} {B : Heap} {l : List Env} {ad L : Addr} {cls a0 : Value}
end
section
variable {P : Program} {w : World} {K : PySem.W.Frag} {mg : Str → Option Value} {base : Heap} {N : List Str} {qual : Str} {scope : Scope} {f : Addr} {cdv : Value} {A : Around} {outer : List Env} {s0 : Shared} {H0 : Hp} {E : XK}
end
end L2
namespace L2
open PySem PySem.Spec PyProof.Rows PySem.W
section
variable {X : Cx}
end
end L2
namespace L2
open PySem PySem.Spec PyProof.Rows PySem.W
structure FnOkM (P : Program) (w : World) (K : PySem.W.Frag) (mg : Str → Option Value) (base : Heap) (CX : CXT) (k : Nat) (f : Addr) (fd : FuncData) (ps : List Str) (sp : Sp) : Prop where
  len : ∀ vs H Q E, sp vs H Q E → vs.length = ps.length
  run : ∀ (A : Around) (ad : Addr) (outer : List Env) (s : Shared) (H : Hp) (args : Args) (us : List Value) (vs : List V) (Q : VK) (E : XK), Room k A → Env0 P w K mg base A outer s H → BindsTo s fd args (ps.zip us) → Vals vs us → sp vs H Q E →
    codeAny (model P w) (A.mark (some (.ref ad))) (.call (.ref f) args) (CR CX outer P w H s Q E) s
structure CalM (P : Program) (w : World) (K : PySem.W.Frag) (mg : Str → Option Value) (base : Heap) (CX : CXT) (k : Nat) (x : Str) (ps : List Str) (sp : Sp) : Prop where
  ex : ∃ f fd, FnOkM P w K mg base CX k f fd ps sp ∧ mg x = some (.ref f) ∧ PySem.W.keepIn K (.ref f) = true ∧ Binds K fd ps []
section
variable {P : Program} {w : World} {K : PySem.W.Frag} {mg : Str → Option Value} {base : Heap} {CX : CXT}
end
section
variable {X : Cx} {K : PySem.W.Frag}
end
end L2
namespace PySem
open Builtin Builtin.Str StrLaws
end PySem
namespace L2
open PySem PySem.Spec PyProof.Rows PySem.W
section
variable {X : Cx} {K : PySem.W.Frag}
end
end L2
namespace L2
open PySem PySem.Spec PyProof.Rows PySem.W
section
variable {X : Cx} {K : PySem.W.Frag}
noncomputable def tSortR (K : PySem.W.Frag) (te : TE) : TE := fun σ H Q => te σ H fun v H1 => ∃ p ns, v = .ref p ∧ SqL K H1 p (List.map V.int ns) ∧ ns.length < 64 ∧ ∀ l, H1 l = none → Q (.ref l) (upd H1 l (.lst (List.map V.int (Nm.srt ns).reverse)))
theorem pe_sortR {e d : Expr} {te : TE} {p1 pos kp : Pos} (hg : Gl X "sorted") (hm : X.mg "sorted" = none) (he : PE X e te) (hd : PE X d (tC (.bl true))) (n1 : noStar e = true := by rfl) :
    PE X (.Call (.Name "sorted" p1) [e] [⟨some "reverse", d, kp⟩] pos) (tSortR X.K te) := by
  intro pins s σ H Q I h
  refine wpAny_Call_Name_kw (ld_blt I hg hm (u := .builtin "sorted") rfl ?_ (by decide) (by decide))
  refine PyProof.Rows.callWith_kw (e := e) (rest := []) ?_ (by rw [se n1]; rfl) (by rw [se n1]; rfl) rfl rfl
  rw [se n1]
  show wpAny _ _ (spliced [(false, eval e X.env)]) _ _ s
  refine Calls.spliced_cons (thn (he pins s σ H _ I h) fun u s1 ⟨x, H1, I1, r1, q1⟩ => Calls.spliced_nil ?_)
  refine PyProof.Rows.kws_cons (thn (hd pins s1 σ H1 (fun v H2 => v = .bl true ∧ H2 = H1) I1 ⟨rfl, rfl⟩) fun dv s2 ⟨y, H2, I2, r2, ey, eh⟩ => PyProof.Rows.kws_nil ?_)
  subst ey
  subst eh
  have r2 : dv = .bool true := r2
  subst r2
  obtain ⟨p, ns, rfl, hq, hn, q⟩ := q1
  cases r1
  obtain ⟨its, rv, pl, hz⟩ := I2.list hq
  have hl := rv.length
  rw [List.length_map] at hl
  show wpAny _ _ (call (.builtin "sorted") [.ref p] [(Str.ofString "reverse", .bool true)]) _ _ _
  refine sorted_ints_rev pl.isList (intsAre_of rv) (by omega) fun out ns' a1 a2 a3 => ?_
  have a3 : ns'.Pairwise (· ≥ ·) := a3
  have e3 : ns' = (Nm.srt ns).reverse := by
    have := Nm.srt_one ((List.reverse_perm ns').trans a2) (List.pairwise_reverse.mpr a3)
    rw [← this, List.reverse_reverse]
  subst e3
  obtain ⟨e, he⟩ := sortedAll_at s2.heap its out
  have fr := I2.hok.fresh (a := s2.heap.objs.size + 1) (Nat.le_succ _)
  refine ⟨.ref (s2.heap.objs.size + 1), _, I2.laid (t' := s2.toks) (fun _ _ => sortedAll_old) (Nat.le_succ _) (o := .lst (List.map V.int (Nm.srt ns).reverse)) ⟨?_, out.toList, e, vals_ints_of a1, ?_⟩, rfl, q _ fr⟩
  · rw [List.length_map, List.length_reverse, Nm.srt_length, sizeLine_eq]; omega
  · exact he
theorem pe_sortRK {e d : Expr} {te : TE} {p1 pos kp : Pos} (hg : Gl X "sorted") (hm : X.mg "sorted" = none) (he : PE X e te) (hd : PE X d (tC (.bl true))) (n1 : noStar e = true := by rfl) (hK : X.K = K := by rfl) :
    PE X (.Call (.Name "sorted" p1) [e] [⟨some "reverse", d, kp⟩] pos) (tSortR K te) := by subst hK; exact pe_sortR hg hm he hd n1
end
end L2
namespace PySem.SeqAt
open AutoSeq1 (wpAny_loadPart')
open MeetsSeq MeetsSeq2 MeetsSeq3
end PySem.SeqAt
namespace L2
open PySem PySem.Spec PyProof.Rows PySem.W
noncomputable def lexGe : List Int → List Int → Bool
  | [], [] => true
  | [], _ :: _ => false
  | _ :: _, [] => true
  | a :: r, b :: q => if a = b then lexGe r q else decide (b ≤ a)
section
variable {X : Cx} {K : PySem.W.Frag}
end
end L2
namespace PySem.UL
section
variable {prog : Program} {w : World} {A : Around} {E : Value → Shared → Prop} {s : Shared}
end
end PySem.UL
namespace L2
open PySem PySem.Spec PyProof.Rows PySem.W
section
variable {X : Cx} {K : PySem.W.Frag}
end
end L2
namespace PySem.Tim
open PySem PyProof.Rows
noncomputable def IsI (x : Keyed) : Prop := ∃ n t, x.1 = .int n t
abbrev kn (x : Keyed) : Int := numOf x.1
noncomputable def gallop' : Bool → Keyed → Array Keyed → Nat → Nat → Nat → StateT SortSt Sem (Option Nat) := sortPriv% PySem.Builtin.gallop
noncomputable def byd (left : Bool) (key : Keyed) (arr : Array Keyed) (base i : Nat) : StateT SortSt Sem (Option Bool) := do
  let x ← elem' arr (base + i)
  if left then lt' x key else return (← lt' key x).map (!·)
noncomputable def gbin (left : Bool) (key : Keyed) (arr : Array Keyed) (base n lo0 hi0 : Nat) : StateT SortSt Sem (Option Nat) := do
  let mut lo := lo0
  let mut hi := hi0
  for _ in [0:n] do
    if lo ≥ hi then break
    let m := lo + (hi - lo) / 2
    let some more ← byd left key arr base m | return none
    if more then lo := m + 1 else hi := m
  return some hi
theorem gallop'_eq (left : Bool) (key : Keyed) (arr : Array Keyed) (base n hint : Nat) : gallop' left key arr base n hint = (do
  let some right ← byd left key arr base hint | return none
  if right then
    let mut lastofs := 0
    let mut ofs := 1
    for _ in [0:n] do
      if ofs ≥ n - hint then break
      let some more ← byd left key arr base (hint + ofs) | return none
      if !more then break
      lastofs := ofs
      ofs := 2 * ofs + 1
    gbin left key arr base n (hint + lastofs + 1) (hint + min ofs (n - hint))
  else
    let mut lastofs := 0
    let mut ofs := 1
    for _ in [0:n] do
      if ofs ≥ hint + 1 then break
      let some found ← byd left key arr base (hint - ofs) | return none
      if found then break
      lastofs := ofs
      ofs := 2 * ofs + 1
    gbin left key arr base n (hint + 1 - min ofs (hint + 1)) (hint - lastofs)) := rfl
section
variable {prog : Program} {w : World} {A : Around} {E : Value → Shared → Prop} {s : Shared}
theorem wpS_lt {st : SortSt} {x y : Keyed} {Q : Option Bool → SortSt → Prop} (hk : kindOf st = oneType') (hx : IsI x) (hy : IsI y) (h : Q (some (decide (kn x < kn y))) st) : wpS (model prog w) A E s (lt' x y) Q st := by
  obtain ⟨a, t, ea⟩ := hx
  obtain ⟨b, u, eb⟩ := hy
  unfold kn at h
  rw [ea, eb] at h
  rw [lt'_eq]
  refine wpS_bind (wpS_get ?_)
  rw [hk, keyLt'_oneType, ea, eb]
  refine wpS_bind (wpS_lift (wpAny_attempt (oneLt_int ⟨rfl, ?_⟩)))
  exact wpS_pure h
theorem wpS_elem {st : SortSt} {arr : Array Keyed} {i : Nat} {p : Keyed} {Q : Keyed → SortSt → Prop} (hp : arr[i]? = some p) (h : Q p st) : wpS (model prog w) A E s (elem' arr i) Q st := by
  rw [elem'_eq, hp]
  exact wpS_pure h
noncomputable def B (left : Bool) (key : Keyed) (arr : Array Keyed) (base i : Nat) : Bool := if left then decide (K arr (base + i) < kn key) else decide (K arr (base + i) ≤ kn key)
theorem wpS_byd {st : SortSt} {left : Bool} {key : Keyed} {arr : Array Keyed} {base i : Nat} {p : Keyed} {Q : Option Bool → SortSt → Prop} (hk : kindOf st = oneType') (hy : IsI key) (hp : arr[base + i]? = some p) (ip : IsI p)
    (h : Q (some (B left key arr base i)) st) : wpS (model prog w) A E s (byd left key arr base i) Q st := by
  have e : K arr (base + i) = kn p := by unfold K; rw [hp]
  unfold byd
  refine wpS_bind (wpS_elem hp ?_)
  unfold B at h
  rw [e] at h
  cases left with
  | true => exact wpS_lt hk ip hy h
  | false =>
    refine wpS_bind (wpS_lt hk hy ip (wpS_pure ?_))
    have e2 : (Option.map (fun x => !x) (some (decide (kn key < kn p)))) = some (decide (kn p ≤ kn key)) := by
      by_cases c : kn key < kn p
      · simp [c]
      · simp [c]; omega
    rw [e2]
    exact h
theorem wpS_gallop {st : SortSt} {left : Bool} {key : Keyed} {arr : Array Keyed} {base n hint : Nat} {Q : Option Nat → SortSt → Prop} (hk : kindOf st = oneType') (hy : IsI key) (hp : ∀ i, i < n → ∃ p, arr[base + i]? = some p ∧ IsI p)
    (hh : hint < n) (mono : ∀ i j, i ≤ j → j < n → K arr (base + i) ≤ K arr (base + j))
    (h : ∀ k, k ≤ n → (∀ i, i < k → B left key arr base i = true) → (∀ i, k ≤ i → i < n → B left key arr base i = false) → Q (some k) st) : wpS (model prog w) A E s (gallop' left key arr base n hint) Q st := by
  have dn : ∀ {i j}, i ≤ j → j < n → B left key arr base j = true → B left key arr base i = true := fun {i j} hij hj hb => by
    have := mono i j hij hj
    unfold B at *
    cases left with
    | true => simp at *; omega
    | false => simp at *; omega
  have ask : ∀ {i : Nat} {Q' : Option Bool → SortSt → Prop}, i < n → Q' (some (B left key arr base i)) st → wpS (model prog w) A E s (byd left key arr base i) Q' st := fun {i Q'} hi hq => by
    obtain ⟨p, e, ip⟩ := hp i hi
    exact wpS_byd hk hy e ip hq
  have bin : ∀ lo hi, lo ≤ hi → hi ≤ n → (∀ i, i < lo → B left key arr base i = true) → (∀ i, hi ≤ i → i < n → B left key arr base i = false) → wpS (model prog w) A E s (gbin left key arr base n lo hi) Q st := by
    intro lo hi l1 l2 b1 b2
    unfold gbin
    refine wpS_bind (wpS_mono (wpS_forRange (I := fun x c st' => st' = st ∧ ∃ lo hi, c = (none, lo, hi) ∧ lo ≤ hi ∧ hi ≤ n ∧ hi - lo ≤ n - x ∧ (∀ i, i < lo → B left key arr base i = true) ∧ (∀ i, hi ≤ i → i < n → B left key arr base i = false))
      (Q := fun c st' => st' = st ∧ ∃ hi, c = (none, hi, hi) ∧ hi ≤ n ∧ (∀ i, i < hi → B left key arr base i = true) ∧ (∀ i, hi ≤ i → i < n → B left key arr base i = false)) ?step ?fin ⟨rfl, lo, hi, rfl, l1, l2, by omega, b1, b2⟩) ?post)
    case fin =>
      rintro c st' ⟨rfl, lo, hi, rfl, l1, l2, l3, b1, b2⟩
      have : lo = hi := by omega
      subst this
      exact ⟨rfl, lo, rfl, l2, b1, b2⟩
    case step =>
      rintro x c st' _ hx ⟨rfl, lo, hi, rfl, l1, l2, l3, b1, b2⟩
      dsimp only
      by_cases c : lo ≥ hi
      · rw [if_pos c]
        have : lo = hi := by omega
        subst this
        exact wpS_pure ⟨rfl, lo, rfl, l2, b1, b2⟩
      · rw [if_neg c]
        have hm : lo + (hi - lo) / 2 < n := by omega
        refine wpS_bind (ask hm ?_)
        cases hb : B left key arr base (lo + (hi - lo) / 2) with
        | true =>
          dsimp only
          rw [if_pos rfl]
          refine wpS_pure ⟨rfl, _, _, rfl, by omega, l2, by omega, fun i hi' => dn (show i ≤ lo + (hi - lo) / 2 by omega) hm hb, b2⟩
        | false =>
          dsimp only
          rw [if_neg (by simp)]
          refine wpS_pure ⟨rfl, _, _, rfl, by omega, by omega, by omega, b1, fun i h1 h2 => ?_⟩
          cases hc : B left key arr base i with
          | false => rfl
          | true => rw [dn h1 h2 hc] at hb; cases hb
    case post =>
      rintro c st' ⟨rfl, hi, rfl, l2, b1, b2⟩
      exact wpS_pure (h hi l2 b1 b2)
  rw [gallop'_eq]
  refine wpS_bind (ask hh ?_)
  cases hr : B left key arr base hint with
  | true =>
    dsimp only
    rw [if_pos rfl]
    refine wpS_bind (wpS_mono (wpS_forRange (I := fun x c st' => st' = st ∧ ∃ lst ofs, c = (none, lst, ofs) ∧ lst < ofs ∧ x + 1 ≤ ofs ∧ hint + lst < n ∧ B left key arr base (hint + lst) = true)
      (Q := fun c st' => st' = st ∧ ∃ lst ofs, c = (none, lst, ofs) ∧ lst < ofs ∧ hint + lst < n ∧ B left key arr base (hint + lst) = true ∧ (ofs ≥ n - hint ∨ B left key arr base (hint + ofs) = false)) ?step ?fin ⟨rfl, 0, 1, rfl, by omega, by omega, by omega, hr⟩) ?post)
    case fin =>
      rintro c st' ⟨rfl, lst, ofs, rfl, l1, l2, l3, b1⟩
      exact ⟨rfl, lst, ofs, rfl, l1, l3, b1, .inl (by omega)⟩
    case step =>
      rintro x c st' _ hx ⟨rfl, lst, ofs, rfl, l1, l2, l3, b1⟩
      dsimp only
      by_cases c : ofs ≥ n - hint
      · rw [if_pos c]
        exact wpS_pure ⟨rfl, lst, ofs, rfl, l1, l3, b1, .inl c⟩
      · rw [if_neg c]
        refine wpS_bind (ask (by omega) ?_)
        cases hb : B left key arr base (hint + ofs) with
        | true =>
          dsimp only
          rw [if_neg (by simp)]
          exact wpS_pure ⟨rfl, ofs, 2 * ofs + 1, rfl, by omega, by omega, by omega, hb⟩
        | false =>
          dsimp only
          rw [if_pos (by simp)]
          exact wpS_pure ⟨rfl, lst, ofs, rfl, l1, l3, b1, .inr hb⟩
    case post =>
      rintro c st' ⟨rfl, lst, ofs, rfl, l1, l3, b1, b2⟩
      dsimp only
      refine bin _ _ (by omega) (by omega) (fun i hi => dn (show i ≤ hint + lst by omega) l3 b1) fun i h1 h2 => ?_
      rcases b2 with c | c
      · omega
      · cases hc : B left key arr base i with
        | false => rfl
        | true => rw [dn (show hint + ofs ≤ i by omega) h2 hc] at c; cases c
  | false =>
    dsimp only
    rw [if_neg (by simp)]
    refine wpS_bind (wpS_mono (wpS_forRange (I := fun x c st' => st' = st ∧ ∃ lst ofs, c = (none, lst, ofs) ∧ lst < ofs ∧ x + 1 ≤ ofs ∧ lst ≤ hint ∧ B left key arr base (hint - lst) = false)
      (Q := fun c st' => st' = st ∧ ∃ lst ofs, c = (none, lst, ofs) ∧ lst < ofs ∧ lst ≤ hint ∧ B left key arr base (hint - lst) = false ∧ (ofs ≥ hint + 1 ∨ B left key arr base (hint - ofs) = true)) ?step2 ?fin2 ⟨rfl, 0, 1, rfl, by omega, by omega, by omega, hr⟩) ?post2)
    case fin2 =>
      rintro c st' ⟨rfl, lst, ofs, rfl, l1, l2, l3, b1⟩
      exact ⟨rfl, lst, ofs, rfl, l1, l3, b1, .inl (by omega)⟩
    case step2 =>
      rintro x c st' _ hx ⟨rfl, lst, ofs, rfl, l1, l2, l3, b1⟩
      dsimp only
      by_cases c : ofs ≥ hint + 1
      · rw [if_pos c]
        exact wpS_pure ⟨rfl, lst, ofs, rfl, l1, l3, b1, .inl c⟩
      · rw [if_neg c]
        refine wpS_bind (ask (by omega) ?_)
        cases hb : B left key arr base (hint - ofs) with
        | false =>
          dsimp only
          rw [if_neg (by simp)]
          exact wpS_pure ⟨rfl, ofs, 2 * ofs + 1, rfl, by omega, by omega, by omega, hb⟩
        | true =>
          dsimp only
          rw [if_pos rfl]
          exact wpS_pure ⟨rfl, lst, ofs, rfl, l1, l3, b1, .inr hb⟩
    case post2 =>
      rintro c st' ⟨rfl, lst, ofs, rfl, l1, l3, b1, b2⟩
      dsimp only
      refine bin _ _ (by omega) (by omega) (fun i hi => ?_) fun i h1 h2 => ?_
      · rcases b2 with c | c
        · omega
        · exact dn (show i ≤ hint - ofs by omega) (by omega) c
      · cases hc : B left key arr base i with
        | false => rfl
        | true => rw [dn h1 h2 hc] at b1; cases b1
noncomputable def setG' (g : Nat) : StateT SortSt Sem Unit := (sortPriv% PySem.Builtin.setMinGallop) g
theorem setG'_eq (g : Nat) : setG' g = modify fun s => SortSt.mk' (kindOf s) (arrOf s) (pendingOf s) g (failedOf s) := rfl
noncomputable def mergeLo' : Array Keyed → Array Keyed → StateT SortSt Sem (Array Keyed) := sortPriv% PySem.Builtin.mergeLo
noncomputable def dn (a b out : Array Keyed) (ia ib : Nat) : Array Keyed := out ++ a.extract ia a.size ++ b.extract ib b.size
noncomputable def lA (a b out : Array Keyed) (ia ib : Nat) : Array Keyed := out ++ b.extract ib b.size ++ a.extract ia a.size
theorem mergeLo'_eq (a b : Array Keyed) : mergeLo' a b = (do
  rule "list.sort.merge-lo"
  let mut out : Array Keyed := #[← elem' b 0]
  let mut ia := 0
  let mut ib := 1
  if ib == b.size then return dn a b out ia ib
  if ia + 1 == a.size then return lA a b out ia ib
  let mut minGallop := gallopOf (← get)
  for _ in [0:a.size + b.size] do
    let mut acount := 0
    let mut bcount := 0
    for _ in [0:a.size + b.size] do
      let some bWins ← lt' (← elem' b ib) (← elem' a ia) | return dn a b out ia ib
      if bWins then
        out := out.push (← elem' b ib); ib := ib + 1; bcount := bcount + 1; acount := 0
        if ib == b.size then return dn a b out ia ib
        if bcount ≥ minGallop then break
      else
        out := out.push (← elem' a ia); ia := ia + 1; acount := acount + 1; bcount := 0
        if ia + 1 == a.size then return lA a b out ia ib
        if acount ≥ minGallop then break
    rule "list.sort.gallop"
    minGallop := minGallop + 1
    for _ in [0:a.size + b.size] do
      if minGallop > 1 then minGallop := minGallop - 1
      setG' minGallop
      let some k ← gallop' false (← elem' b ib) a ia (a.size - ia) 0 | return dn a b out ia ib
      acount := k
      if k > 0 then
        out := out ++ a.extract ia (ia + k); ia := ia + k
        if ia + 1 == a.size then return lA a b out ia ib
        if ia == a.size then return dn a b out ia ib
      out := out.push (← elem' b ib); ib := ib + 1
      if ib == b.size then return dn a b out ia ib
      let some k ← gallop' true (← elem' a ia) b ib (b.size - ib) 0 | return dn a b out ia ib
      bcount := k
      if k > 0 then
        out := out ++ b.extract ib (ib + k); ib := ib + k
        if ib == b.size then return dn a b out ia ib
      out := out.push (← elem' a ia); ia := ia + 1
      if ia + 1 == a.size then return lA a b out ia ib
      if acount < 7 && bcount < 7 then break
    minGallop := minGallop + 1
    setG' minGallop
  unsupported "internal:list.sort.merge-bound") := rfl
noncomputable def Le (x y : Keyed) : Prop := kn x ≤ kn y
structure MI (a b out : List Keyed) (ia ib : Nat) : Prop where
  perm : out.Perm (a.take ia ++ b.take ib)
  srt : out.Pairwise Le
  le : ∀ x ∈ out, ∀ y, (y ∈ a.drop ia ∨ y ∈ b.drop ib) → kn x ≤ kn y
theorem take_one {l : List Keyed} {i : Nat} {x : Keyed} (e : l[i]? = some x) : l.take (i + 1) = l.take i ++ [x] := by rw [List.take_add_one, e]; rfl
theorem drop_one {l : List Keyed} {i : Nat} {x : Keyed} (e : l[i]? = some x) : l.drop i = x :: l.drop (i + 1) := by
  obtain ⟨h, rfl⟩ := List.getElem?_eq_some_iff.mp e
  exact List.drop_eq_getElem_cons h
theorem srt_drop {l : List Keyed} {i : Nat} {x : Keyed} (h : l.Pairwise Le) (e : l[i]? = some x) : ∀ y ∈ l.drop i, kn x ≤ kn y := by
  have := List.Pairwise.drop (i := i) h
  rw [drop_one e] at this ⊢
  intro y hy
  rcases List.mem_cons.mp hy with rfl | hy
  · exact Int.le_refl _
  · exact (List.pairwise_cons.mp this).1 y hy
theorem MI.pushB {a b out : List Keyed} {ia ib : Nat} {x : Keyed} (m : MI a b out ia ib) (hb : b.Pairwise Le) (e : b[ib]? = some x) (h : ∀ y ∈ a.drop ia, kn x ≤ kn y) : MI a b (out ++ [x]) ia (ib + 1) := by
  have xb : x ∈ b.drop ib := by rw [drop_one e]; simp
  have sub : ∀ y ∈ b.drop (ib + 1), y ∈ b.drop ib := fun y hy => by rw [drop_one e]; exact List.mem_cons_of_mem _ hy
  refine ⟨?_, ?_, ?_⟩
  · rw [take_one e, ← List.append_assoc]
    exact m.perm.append_right _
  · rw [List.pairwise_append]
    exact ⟨m.srt, by simp, fun u hu v hv => by rw [List.mem_singleton.mp hv]; exact m.le u hu x (.inr xb)⟩
  · intro u hu y hy
    rcases List.mem_append.mp hu with hu | hu
    · rcases hy with hy | hy
      · exact m.le u hu y (.inl hy)
      · exact m.le u hu y (.inr (sub y hy))
    · rw [List.mem_singleton.mp hu]
      rcases hy with hy | hy
      · exact h y hy
      · exact srt_drop hb e y (sub y hy)
theorem MI.pushA {a b out : List Keyed} {ia ib : Nat} {x : Keyed} (m : MI a b out ia ib) (ha : a.Pairwise Le) (e : a[ia]? = some x) (h : ∀ y ∈ b.drop ib, kn x ≤ kn y) : MI a b (out ++ [x]) (ia + 1) ib := by
  have xb : x ∈ a.drop ia := by rw [drop_one e]; simp
  have sub : ∀ y ∈ a.drop (ia + 1), y ∈ a.drop ia := fun y hy => by rw [drop_one e]; exact List.mem_cons_of_mem _ hy
  refine ⟨?_, ?_, ?_⟩
  · rw [take_one e, List.append_assoc]
    refine (m.perm.append_right [x]).trans ?_
    rw [List.append_assoc]
    exact List.perm_append_comm.append_left _
  · rw [List.pairwise_append]
    exact ⟨m.srt, by simp, fun u hu v hv => by rw [List.mem_singleton.mp hv]; exact m.le u hu x (.inl xb)⟩
  · intro u hu y hy
    rcases List.mem_append.mp hu with hu | hu
    · rcases hy with hy | hy
      · exact m.le u hu y (.inl (sub y hy))
      · exact m.le u hu y (.inr hy)
    · rw [List.mem_singleton.mp hu]
      rcases hy with hy | hy
      · exact srt_drop ha e y (sub y hy)
      · exact h y hy
theorem MI.appA {a b out : List Keyed} {ia ib : Nat} (m : MI a b out ia ib) (ha : a.Pairwise Le) : ∀ k, ia + k ≤ a.length → (∀ i x, i < k → a[ia + i]? = some x → ∀ y ∈ b.drop ib, kn x ≤ kn y) → MI a b (out ++ (a.drop ia).take k) (ia + k) ib
  | 0, _, _ => by simpa using m
  | k + 1, hk, h => by
    have e : a[ia + k]? = some (a[ia + k]'(by omega)) := List.getElem?_eq_getElem (by omega)
    have m1 := (m.appA ha k (by omega) fun i x hi => h i x (by omega)).pushA ha e (h k _ (by omega) e)
    have e2 : (a.drop ia).take (k + 1) = (a.drop ia).take k ++ [a[ia + k]'(by omega)] := take_one (by rw [List.getElem?_drop]; exact e)
    rw [e2, ← List.append_assoc]
    exact m1
theorem MI.appB {a b out : List Keyed} {ia ib : Nat} (m : MI a b out ia ib) (hb : b.Pairwise Le) : ∀ k, ib + k ≤ b.length → (∀ i x, i < k → b[ib + i]? = some x → ∀ y ∈ a.drop ia, kn x ≤ kn y) → MI a b (out ++ (b.drop ib).take k) ia (ib + k)
  | 0, _, _ => by simpa using m
  | k + 1, hk, h => by
    have e : b[ib + k]? = some (b[ib + k]'(by omega)) := List.getElem?_eq_getElem (by omega)
    have m1 := (m.appB hb k (by omega) fun i x hi => h i x (by omega)).pushB hb e (h k _ (by omega) e)
    have e2 : (b.drop ib).take (k + 1) = (b.drop ib).take k ++ [b[ib + k]'(by omega)] := take_one (by rw [List.getElem?_drop]; exact e)
    rw [e2, ← List.append_assoc]
    exact m1
noncomputable def Res (a b r : List Keyed) : Prop := r.Perm (a ++ b) ∧ r.Pairwise Le
theorem MI.doneB {a b out : List Keyed} {ia ib : Nat} (m : MI a b out ia ib) (ha : a.Pairwise Le) (h : b.length ≤ ib) : Res a b (out ++ a.drop ia ++ b.drop ib) := by
  have e : b.drop ib = [] := List.drop_of_length_le h
  have e2 : b.take ib = b := List.take_of_length_le h
  rw [e, List.append_nil]
  refine ⟨?_, ?_⟩
  · have := m.perm.append_right (a.drop ia)
    rw [e2, List.append_assoc] at this
    refine this.trans ((List.perm_append_comm (l₁ := b) (l₂ := a.drop ia)).append_left (a.take ia) |>.trans ?_)
    rw [← List.append_assoc, List.take_append_drop]
  · rw [List.pairwise_append]
    exact ⟨m.srt, ha.drop, fun u hu v hv => m.le u hu v (.inl hv)⟩
theorem MI.doneA {a b out : List Keyed} {ia ib : Nat} (m : MI a b out ia ib) (hb : b.Pairwise Le) (h : a.length ≤ ia) : Res a b (out ++ a.drop ia ++ b.drop ib) := by
  have e : a.drop ia = [] := List.drop_of_length_le h
  have e2 : a.take ia = a := List.take_of_length_le h
  rw [e, List.append_nil]
  refine ⟨?_, ?_⟩
  · have := m.perm.append_right (b.drop ib)
    rw [e2, List.append_assoc, List.take_append_drop] at this
    exact this
  · rw [List.pairwise_append]
    exact ⟨m.srt, hb.drop, fun u hu v hv => m.le u hu v (.inr hv)⟩
theorem MI.lastA {a b out : List Keyed} {ia ib : Nat} (m : MI a b out ia ib) (ha : a.Pairwise Le) (hb : b.Pairwise Le) (h : ia + 1 = a.length) (hl : ∀ x, a[ia]? = some x → ∀ y ∈ b, kn y ≤ kn x) : Res a b (out ++ b.drop ib ++ a.drop ia) := by
  have e : a[ia]? = some (a[ia]'(by omega)) := List.getElem?_eq_getElem (by omega)
  have e2 : a.drop ia = [a[ia]'(by omega)] := by rw [drop_one e, List.drop_of_length_le (by omega)]
  refine ⟨?_, ?_⟩
  · have h1 := (m.perm.append_right (b.drop ib)).append_right (a.drop ia)
    rw [List.append_assoc (a.take ia), List.take_append_drop] at h1
    refine h1.trans ?_
    rw [List.append_assoc]
    refine ((List.perm_append_comm (l₁ := b) (l₂ := a.drop ia)).append_left (a.take ia)).trans ?_
    rw [← List.append_assoc, List.take_append_drop]
  · rw [List.pairwise_append, List.pairwise_append]
    refine ⟨⟨m.srt, hb.drop, fun u hu v hv => m.le u hu v (.inr hv)⟩, ha.drop, fun u hu v hv => ?_⟩
    rcases List.mem_append.mp hu with hu | hu
    · exact m.le u hu v (.inl hv)
    · rw [e2] at hv
      rw [List.mem_singleton.mp hv]
      exact hl _ e u (List.mem_of_mem_drop hu)
theorem dn_list (a b out : Array Keyed) (ia ib : Nat) : (dn a b out ia ib).toList = out.toList ++ a.toList.drop ia ++ b.toList.drop ib := by
  unfold dn
  simp only [Array.toList_append, Array.toList_extract]
  simp
  rw [List.take_of_length_le (by simp), List.take_of_length_le (by simp)]
theorem lA_list (a b out : Array Keyed) (ia ib : Nat) : (lA a b out ia ib).toList = out.toList ++ b.toList.drop ib ++ a.toList.drop ia := by
  unfold lA
  simp only [Array.toList_append, Array.toList_extract]
  simp
  rw [List.take_of_length_le (by simp), List.take_of_length_le (by simp)]
noncomputable def SG (st st' : SortSt) : Prop := kindOf st' = kindOf st ∧ arrOf st' = arrOf st ∧ pendingOf st' = pendingOf st ∧ failedOf st' = failedOf st
theorem SG.refl (st : SortSt) : SG st st := ⟨rfl, rfl, rfl, rfl⟩
theorem wpS_setG {st st' : SortSt} {g : Nat} {Q : Unit → SortSt → Prop} (hs : SG st st') (h : ∀ st'', SG st st'' → Q () st'') : wpS (model prog w) A E s (setG' g) Q st' := by
  rw [setG'_eq]
  exact wpS_modify (h _ ⟨hs.1, hs.2.1, hs.2.2.1, hs.2.2.2⟩)
theorem K_get {a : Array Keyed} {i : Nat} {x : Keyed} (e : a.toList[i]? = some x) : K a i = kn x := by
  unfold K
  rw [← Array.getElem?_toList, e]
theorem ex_list (a : Array Keyed) (i k : Nat) : (a.extract i (i + k)).toList = (a.toList.drop i).take k := by
  rw [Array.toList_extract]
  simp
theorem arr_get {a : Array Keyed} {i : Nat} (h : i < a.size) : ∃ x, a.toList[i]? = some x ∧ a[i]? = some x := ⟨a[i], by rw [List.getElem?_eq_getElem (by simpa using h)]; rfl, by simp [h]⟩
abbrev LoT := Option (Array Keyed) × Array Keyed × Nat × Nat × Nat × Nat × Nat
noncomputable def loC (a b out : Array Keyed) (ia ib mg ac bc : Nat) : StateT SortSt Sem (ForInStep LoT) := do
  let v ← elem' a ia
  if ia + 1 + 1 == a.size then pure (.done (some (lA a b (out.push v) (ia + 1) ib), out.push v, ia + 1, ib, mg, ac, bc))
  else if ac < 7 && bc < 7 then pure (.done (none, out.push v, ia + 1, ib, mg, ac, bc)) else pure (.yield (none, out.push v, ia + 1, ib, mg, ac, bc))
noncomputable def loB (a b out : Array Keyed) (ia ib mg ac bc : Nat) : StateT SortSt Sem (ForInStep LoT) := do
  let u ← elem' b ib
  if ib + 1 == b.size then pure (.done (some (dn a b (out.push u) ia (ib + 1)), out.push u, ia, ib + 1, mg, ac, bc))
  else
    let v ← elem' a ia
    let x ← gallop' true v b (ib + 1) (b.size - (ib + 1)) 0
    match x with
    | some k =>
      if k > 0 then
        if ib + 1 + k == b.size then pure (.done (some (dn a b (out.push u ++ b.extract (ib + 1) (ib + 1 + k)) ia (ib + 1 + k)), out.push u ++ b.extract (ib + 1) (ib + 1 + k), ia, ib + 1 + k, mg, ac, k))
        else loC a b (out.push u ++ b.extract (ib + 1) (ib + 1 + k)) ia (ib + 1 + k) mg ac k
      else loC a b (out.push u) ia (ib + 1) mg ac k
    | _ => pure (.done (some (dn a b (out.push u) ia (ib + 1)), out.push u, ia, ib + 1, mg, ac, bc))
theorem K_mono {a : Array Keyed} (sA : a.toList.Pairwise Le) {i j : Nat} (h : i ≤ j) (hj : j < a.size) : K a i ≤ K a j := by
  obtain ⟨x, ex, _⟩ := arr_get (a := a) (i := i) (by omega)
  obtain ⟨y, ey, _⟩ := arr_get (a := a) hj
  rw [K_get ex, K_get ey]
  refine srt_drop sA ex y ?_
  have : (a.toList.drop i)[j - i]? = some y := by rw [List.getElem?_drop, show i + (j - i) = j by omega]; exact ey
  exact List.mem_of_getElem? this
structure MC (st : SortSt) (a b : Array Keyed) : Prop where
  hk : kindOf st = oneType'
  iA : ∀ x ∈ a.toList, IsI x
  iB : ∀ x ∈ b.toList, IsI x
  sA : a.toList.Pairwise Le
  sB : b.toList.Pairwise Le
  hl : ∀ x, a.toList[a.size - 1]? = some x → ∀ y ∈ b.toList, kn y ≤ kn x
theorem MC.rB {st : SortSt} {a b out : Array Keyed} {ia ib : Nat} (c : MC st a b) (m : MI a.toList b.toList out.toList ia ib) (e : ib = b.size) : Res a.toList b.toList (dn a b out ia ib).toList := by rw [dn_list]; exact m.doneB c.sA (by simp; omega)
theorem MC.rL {st : SortSt} {a b out : Array Keyed} {ia ib : Nat} (c : MC st a b) (m : MI a.toList b.toList out.toList ia ib) (e : ia + 1 = a.size) : Res a.toList b.toList (lA a b out ia ib).toList := by
  rw [lA_list]
  exact m.lastA c.sA c.sB (by simp; omega) fun x hx => c.hl x (by rw [show a.size - 1 = ia by omega]; exact hx)
theorem wpS_loC {st st' : SortSt} {a b out : Array Keyed} {ia ib mg ac bc : Nat} {v : Keyed} {P : ForInStep LoT → SortSt → Prop} (c : MC st a b) (sg : SG st st') (m : MI a.toList b.toList out.toList ia ib) (l1 : ia + 1 < a.size) (l2 : ib < b.size)
    (ev : a.toList[ia]? = some v) (hv : ∀ y ∈ b.toList.drop ib, kn v ≤ kn y) (hr : ∀ r z, Res a.toList b.toList r.toList → P (.done (some r, z)) st')
    (hn : ∀ out' ia' ib' ac' bc', MI a.toList b.toList out'.toList ia' ib' → ia' + 1 < a.size → ib' < b.size → ia + ib ≤ ia' + ib' → P (.done (none, out', ia', ib', mg, ac', bc')) st' ∧ P (.yield (none, out', ia', ib', mg, ac', bc')) st') :
    wpS (model prog w) A E s (loC a b out ia ib mg ac bc) P st' := by
  unfold loC
  have ev' : a[ia]? = some v := by rw [← Array.getElem?_toList]; exact ev
  have m2 := m.pushA c.sA ev hv
  rw [← Array.toList_push] at m2
  refine wpS_bind (wpS_elem ev' ?_)
  by_cases d : ia + 1 + 1 = a.size
  · rw [if_pos (by simpa using d)]
    exact wpS_pure (hr _ _ (c.rL m2 d))
  · rw [if_neg (by simpa using d)]
    obtain ⟨h1, h2⟩ := hn _ _ _ ac bc m2 (by omega) l2 (by omega)
    split
    · exact wpS_pure h1
    · exact wpS_pure h2
theorem wpS_loB {st st' : SortSt} {a b out : Array Keyed} {ia ib mg ac bc : Nat} {u : Keyed} {P : ForInStep LoT → SortSt → Prop} (c : MC st a b) (sg : SG st st') (m : MI a.toList b.toList out.toList ia ib) (l1 : ia + 1 < a.size) (l2 : ib < b.size)
    (eu : b.toList[ib]? = some u) (hu : ∀ y ∈ a.toList.drop ia, kn u ≤ kn y) (hr : ∀ r z, Res a.toList b.toList r.toList → P (.done (some r, z)) st')
    (hn : ∀ out' ia' ib' ac' bc', MI a.toList b.toList out'.toList ia' ib' → ia' + 1 < a.size → ib' < b.size → ia + ib ≤ ia' + ib' → P (.done (none, out', ia', ib', mg, ac', bc')) st' ∧ P (.yield (none, out', ia', ib', mg, ac', bc')) st') :
    wpS (model prog w) A E s (loB a b out ia ib mg ac bc) P st' := by
  unfold loB
  have eu' : b[ib]? = some u := by rw [← Array.getElem?_toList]; exact eu
  have m2 := m.pushB c.sB eu hu
  rw [← Array.toList_push] at m2
  refine wpS_bind (wpS_elem eu' ?_)
  by_cases d : ib + 1 = b.size
  · rw [if_pos (by simpa using d)]
    exact wpS_pure (hr _ _ (c.rB m2 d))
  rw [if_neg (by simpa using d)]
  obtain ⟨v, ev, ev'⟩ := arr_get (a := a) (i := ia) (by omega)
  refine wpS_bind (wpS_elem ev' (wpS_bind (wpS_gallop (sg.1.trans c.hk) (c.iA _ (List.mem_of_getElem? ev)) (fun i hi => ?_) (by omega) (fun i j hij hj => K_mono c.sB (by omega) (by omega)) fun k hk b1 b2 => ?_)))
  · obtain ⟨x, ex, ex'⟩ := arr_get (a := b) (i := ib + 1 + i) (by omega)
    exact ⟨x, ex', c.iB _ (List.mem_of_getElem? ex)⟩
  · dsimp only
    have lb : b.toList.length = b.size := by simp
    have up : ∀ i x, i < k → b.toList[ib + 1 + i]? = some x → ∀ y ∈ a.toList.drop ia, kn x ≤ kn y := fun i x hi ex y hy => by
      have h1 := b1 i hi
      unfold B at h1
      rw [K_get ex] at h1
      have h2 := srt_drop c.sA ev y hy
      simp at h1
      omega
    have dwn : ∀ y ∈ b.toList.drop (ib + 1 + k), kn v ≤ kn y := fun y hy => by
      obtain ⟨i, ei⟩ := List.getElem?_of_mem hy
      rw [List.getElem?_drop] at ei
      have hlt : ib + 1 + k + i < b.size := by have := (List.getElem?_eq_some_iff.mp ei).1; omega
      have h1 := b2 (k + i) (by omega) (by omega)
      unfold B at h1
      rw [K_get (by rw [show ib + 1 + (k + i) = ib + 1 + k + i by omega]; exact ei)] at h1
      simp at h1
      exact h1
    have m3 := m2.appB c.sB k (by omega) up
    rw [← ex_list, ← Array.toList_append] at m3
    by_cases k0 : k > 0
    · rw [if_pos k0]
      by_cases d2 : ib + 1 + k = b.size
      · rw [if_pos (by simpa using d2)]
        exact wpS_pure (hr _ _ (c.rB m3 d2))
      · rw [if_neg (by simpa using d2)]
        exact wpS_loC c sg m3 l1 (by omega) ev dwn hr fun o i j x y mm q1 q2 q3 => hn o i j x y mm q1 q2 (by omega)
    · rw [if_neg k0]
      have k00 : k = 0 := by omega
      subst k00
      exact wpS_loC c sg m2 l1 (by omega) ev (by simpa using dwn) hr fun o i j x y mm q1 q2 q3 => hn o i j x y mm q1 q2 (by omega)
theorem wpS_mergeLo {st : SortSt} {a b : Array Keyed} {Q : Array Keyed → SortSt → Prop} (hk : kindOf st = oneType') (iA : ∀ x ∈ a.toList, IsI x) (iB : ∀ x ∈ b.toList, IsI x) (sA : a.toList.Pairwise Le) (sB : b.toList.Pairwise Le) (a1 : 1 ≤ a.size) (b1 : 1 ≤ b.size)
    (hf : ∀ x y, b.toList[0]? = some x → a.toList[0]? = some y → kn x ≤ kn y) (hl : ∀ x, a.toList[a.size - 1]? = some x → ∀ y ∈ b.toList, kn y ≤ kn x)
    (h : ∀ r st', SG st st' → Res a.toList b.toList r.toList → Q r st') : wpS (model prog w) A E s (mergeLo' a b) Q st := by
  have la : a.toList.length = a.size := by simp
  have lb : b.toList.length = b.size := by simp
  have rB : ∀ {out : Array Keyed} {ia ib : Nat}, MI a.toList b.toList out.toList ia ib → ib = b.size → Res a.toList b.toList (dn a b out ia ib).toList := fun m e => by rw [dn_list]; exact m.doneB sA (by omega)
  have rA : ∀ {out : Array Keyed} {ia ib : Nat}, MI a.toList b.toList out.toList ia ib → ia = a.size → Res a.toList b.toList (dn a b out ia ib).toList := fun m e => by rw [dn_list]; exact m.doneA sB (by omega)
  have rL : ∀ {out : Array Keyed} {ia ib : Nat}, MI a.toList b.toList out.toList ia ib → ia + 1 = a.size → Res a.toList b.toList (lA a b out ia ib).toList := fun {out ia ib} m e => by
    rw [lA_list]
    exact m.lastA sA sB (by omega) fun x hx => hl x (by rw [show a.size - 1 = ia by omega]; exact hx)
  have mA : ∀ {i : Nat} {x : Keyed}, a.toList[i]? = some x → IsI x := fun e => iA _ (List.mem_of_getElem? e)
  have mB : ∀ {i : Nat} {x : Keyed}, b.toList[i]? = some x → IsI x := fun e => iB _ (List.mem_of_getElem? e)
  rw [mergeLo'_eq]
  refine wpS_bind (wpS_lift (wpAny_rule ⟨rfl, ?_⟩))
  obtain ⟨x0, ex0, ex0'⟩ := arr_get (a := b) (i := 0) (by omega)
  refine wpS_bind (wpS_elem ex0' ?_)
  obtain ⟨y0, ey0, ey0'⟩ := arr_get (a := a) (i := 0) (by omega)
  have m0 : MI a.toList b.toList (#[x0] : Array Keyed).toList 0 1 := by
    have : MI a.toList b.toList [] 0 0 := ⟨by simp, by simp, by simp⟩
    have := this.pushB sB ex0 fun y hy => by
      rw [List.drop_zero] at hy
      have h1 := hf _ _ ex0 ey0
      have h2 := srt_drop sA ey0 y (by rw [List.drop_zero]; exact hy)
      omega
    simpa using this
  dsimp only
  by_cases c1 : 1 = b.size
  · rw [if_pos (by simpa using c1)]
    exact wpS_pure (h _ _ (SG.refl _) (rB m0 c1))
  rw [if_neg (by simpa using c1)]
  by_cases c2 : 0 + 1 = a.size
  · rw [if_pos (by simpa using c2)]
    exact wpS_pure (h _ _ (SG.refl _) (rL m0 c2))
  rw [if_neg (by simpa using c2)]
  refine wpS_bind (wpS_get ?_)
  refine wpS_bind (wpS_mono (wpS_forRange
    (I := fun x c st' => SG st st' ∧ ∃ out ia ib mg, c = (none, out, ia, ib, mg) ∧ MI a.toList b.toList out.toList ia ib ∧ ia + 1 < a.size ∧ ib < b.size ∧ x + 1 ≤ ia + ib)
    (Q := fun c st' => SG st st' ∧ ∃ r z, c = (some r, z) ∧ Res a.toList b.toList r.toList) ?step ?fin ⟨SG.refl _, _, 0, 1, _, rfl, m0, by omega, by omega, by omega⟩) ?post)
  case fin =>
    rintro c st' ⟨sg, out, ia, ib, mg, rfl, m, l1, l2, l3⟩
    omega
  case post =>
    rintro c st' ⟨sg, r, z, rfl, rs⟩
    exact wpS_pure (h r st' sg rs)
  case step =>
    rintro x c st1 _ hx ⟨sg1, out, ia, ib, mg, rfl, m, l1, l2, l3⟩
    dsimp only
    refine wpS_bind (wpS_mono (wpS_forRange
      (I := fun y c st' => SG st st' ∧ ∃ out' ia' ib' ac bc, c = (none, out', ia', ib', ac, bc) ∧ MI a.toList b.toList out'.toList ia' ib' ∧ ia' + 1 < a.size ∧ ib' < b.size ∧ ia + ib + y ≤ ia' + ib')
      (Q := fun c st' => SG st st' ∧ ((∃ r z, c = (some r, z) ∧ Res a.toList b.toList r.toList) ∨ ∃ out' ia' ib' ac bc, c = (none, out', ia', ib', ac, bc) ∧ MI a.toList b.toList out'.toList ia' ib' ∧ ia' + 1 < a.size ∧ ib' < b.size ∧ ia + ib + 1 ≤ ia' + ib')) ?step1 ?fin1 ⟨sg1, out, ia, ib, 0, 0, rfl, m, l1, l2, by omega⟩) ?post1)
    case fin1 =>
      rintro c st' ⟨sg, out', ia', ib', ac, bc, rfl, m', k1, k2, k3⟩
      exact ⟨sg, .inr ⟨out', ia', ib', ac, bc, rfl, m', k1, k2, by omega⟩⟩
    case step1 =>
      rintro y c st2 _ hy ⟨sg, out', ia', ib', ac, bc, rfl, m', k1, k2, k3⟩
      dsimp only
      obtain ⟨u, eu, eu'⟩ := arr_get (a := b) k2
      obtain ⟨v, ev, ev'⟩ := arr_get (a := a) (i := ia') (by omega)
      refine wpS_bind (wpS_elem eu' (wpS_bind (wpS_elem ev' (wpS_bind (wpS_lt (sg.1.trans hk) (mB eu) (mA ev) ?_)))))
      by_cases c : kn u < kn v
      · simp only [c, decide_true, if_true]
        have m2 := m'.pushB sB eu fun z hz => by have := srt_drop sA ev z hz; omega
        rw [← Array.toList_push] at m2
        refine wpS_bind (wpS_elem eu' ?_)
        by_cases d : ib' + 1 = b.size
        · rw [if_pos (by simpa using d)]
          exact wpS_pure ⟨sg, .inl ⟨_, _, rfl, rB m2 d⟩⟩
        · rw [if_neg (by simpa using d)]
          split
          · exact wpS_pure ⟨sg, .inr ⟨_, _, _, _, _, rfl, m2, k1, by omega, by omega⟩⟩
          · exact wpS_pure ⟨sg, _, _, _, _, _, rfl, m2, k1, by omega, by omega⟩
      · simp only [c, decide_false, Bool.false_eq_true, if_false]
        have m2 := m'.pushA sA ev fun z hz => by have := srt_drop sB eu z hz; omega
        rw [← Array.toList_push] at m2
        refine wpS_bind (wpS_elem ev' ?_)
        by_cases d : ia' + 1 + 1 = a.size
        · rw [if_pos (by simpa using d)]
          exact wpS_pure ⟨sg, .inl ⟨_, _, rfl, rL m2 d⟩⟩
        · rw [if_neg (by simpa using d)]
          split
          · exact wpS_pure ⟨sg, .inr ⟨_, _, _, _, _, rfl, m2, by omega, k2, by omega⟩⟩
          · exact wpS_pure ⟨sg, _, _, _, _, _, rfl, m2, by omega, k2, by omega⟩
    case post1 =>
      rintro c st2 ⟨sg2, hc⟩
      rcases hc with ⟨r, z, rfl, rs⟩ | ⟨out', ia', ib', ac, bc, rfl, m', k1, k2, k3⟩
      · exact wpS_pure ⟨sg2, _, _, rfl, rs⟩
      dsimp only
      refine wpS_bind (wpS_lift (wpAny_rule ⟨rfl, ?_⟩))
      refine wpS_bind (wpS_mono (wpS_forRange
        (I := fun y c st' => SG st st' ∧ ∃ out'' ia'' ib'' mg ac bc, c = (none, out'', ia'', ib'', mg, ac, bc) ∧ MI a.toList b.toList out''.toList ia'' ib'' ∧ ia'' + 1 < a.size ∧ ib'' < b.size ∧ ia + ib + 1 ≤ ia'' + ib'')
        (Q := fun c st' => SG st st' ∧ ((∃ r z, c = (some r, z) ∧ Res a.toList b.toList r.toList) ∨ ∃ out'' ia'' ib'' mg ac bc, c = (none, out'', ia'', ib'', mg, ac, bc) ∧ MI a.toList b.toList out''.toList ia'' ib'' ∧ ia'' + 1 < a.size ∧ ib'' < b.size ∧ ia + ib + 1 ≤ ia'' + ib'')) ?step2 ?fin2 ⟨sg2, out', ia', ib', _, ac, bc, rfl, m', k1, k2, by omega⟩) ?post2)
      case fin2 =>
        rintro c st' ⟨sg, hc⟩
        exact ⟨sg, .inr hc⟩
      case post2 =>
        rintro c st3 ⟨sg3, hc⟩
        rcases hc with ⟨r, z, rfl, rs⟩ | ⟨o3, ia3, ib3, mg3, ac3, bc3, rfl, m3, q1, q2, q3⟩
        · exact wpS_pure ⟨sg3, _, _, rfl, rs⟩
        dsimp only
        refine wpS_bind (wpS_setG sg3 fun st4 sg4 => wpS_pure ⟨sg4, o3, ia3, ib3, _, rfl, m3, q1, q2, by omega⟩)
      case step2 =>
        rintro y c st3 _ hy ⟨sg3, o3, ia3, ib3, mg3, ac3, bc3, rfl, m3, q1, q2, q3⟩
        dsimp only
        have C : MC st a b := ⟨hk, iA, iB, sA, sB, hl⟩
        obtain ⟨u, eu, eu'⟩ := arr_get (a := b) q2
        have body : ∀ g : Nat, wpS (model prog w) A E s (do
            setG' g
            let u ← elem' b ib3
            let x ← gallop' false u a ia3 (a.size - ia3) 0
            match x with
            | some k =>
              if k > 0 then
                if ia3 + k + 1 == a.size then pure (ForInStep.done (some (lA a b (o3 ++ a.extract ia3 (ia3 + k)) (ia3 + k) ib3), o3 ++ a.extract ia3 (ia3 + k), ia3 + k, ib3, g, k, bc3))
                else if ia3 + k == a.size then pure (ForInStep.done (some (dn a b (o3 ++ a.extract ia3 (ia3 + k)) (ia3 + k) ib3), o3 ++ a.extract ia3 (ia3 + k), ia3 + k, ib3, g, k, bc3))
                else loB a b (o3 ++ a.extract ia3 (ia3 + k)) (ia3 + k) ib3 g k bc3
              else loB a b o3 ia3 ib3 g k bc3
            | _ => pure (ForInStep.done (some (dn a b o3 ia3 ib3), o3, ia3, ib3, g, ac3, bc3)))
          (fun r st' => match r with
            | .done c' => SG st st' ∧ ((∃ r z, c' = (some r, z) ∧ Res a.toList b.toList r.toList) ∨ ∃ out'' ia'' ib'' mg ac bc, c' = (none, out'', ia'', ib'', mg, ac, bc) ∧ MI a.toList b.toList out''.toList ia'' ib'' ∧ ia'' + 1 < a.size ∧ ib'' < b.size ∧ ia + ib + 1 ≤ ia'' + ib'')
            | .yield c' => SG st st' ∧ ∃ out'' ia'' ib'' mg ac bc, c' = (none, out'', ia'', ib'', mg, ac, bc) ∧ MI a.toList b.toList out''.toList ia'' ib'' ∧ ia'' + 1 < a.size ∧ ib'' < b.size ∧ ia + ib + 1 ≤ ia'' + ib'') st3 := by
          intro g
          refine wpS_bind (wpS_setG sg3 fun st4 sg4 => ?_)
          refine wpS_bind (wpS_elem eu' (wpS_bind (wpS_gallop (sg4.1.trans hk) (mB eu) (fun i hi => ?_) (by omega) (fun i j hij hj => K_mono sA (by omega) (by omega)) fun k hk b1 b2 => ?_)))
          · obtain ⟨x, ex, ex'⟩ := arr_get (a := a) (i := ia3 + i) (by omega)
            exact ⟨x, ex', mA ex⟩
          · dsimp only
            have up : ∀ i x, i < k → a.toList[ia3 + i]? = some x → ∀ y ∈ b.toList.drop ib3, kn x ≤ kn y := fun i x hi ex y hy => by
              have h1 := b1 i hi
              unfold B at h1
              rw [K_get ex] at h1
              have h2 := srt_drop sB eu y hy
              simp at h1
              omega
            have dwn : ∀ y ∈ a.toList.drop (ia3 + k), kn u ≤ kn y := fun y hy => by
              obtain ⟨i, ei⟩ := List.getElem?_of_mem hy
              rw [List.getElem?_drop] at ei
              have hlt : ia3 + k + i < a.size := by have := (List.getElem?_eq_some_iff.mp ei).1; omega
              have h1 := b2 (k + i) (by omega) (by omega)
              unfold B at h1
              rw [K_get (by rw [show ia3 + (k + i) = ia3 + k + i by omega]; exact ei)] at h1
              simp at h1
              omega
            have m4 := m3.appA sA k (by omega) up
            rw [← ex_list, ← Array.toList_append] at m4
            by_cases k0 : k > 0
            · rw [if_pos k0]
              by_cases d1 : ia3 + k + 1 = a.size
              · rw [if_pos (by simpa using d1)]
                exact wpS_pure ⟨sg4, .inl ⟨_, _, rfl, rL m4 d1⟩⟩
              rw [if_neg (by simpa using d1)]
              by_cases d2 : ia3 + k = a.size
              · rw [if_pos (by simpa using d2)]
                exact wpS_pure ⟨sg4, .inl ⟨_, _, rfl, rA m4 d2⟩⟩
              rw [if_neg (by simpa using d2)]
              exact wpS_loB C sg4 m4 (by omega) q2 eu dwn (fun r z rs => ⟨sg4, .inl ⟨_, _, rfl, rs⟩⟩) fun o i j x y mm p1 p2 p3 => ⟨⟨sg4, .inr ⟨o, i, j, _, x, y, rfl, mm, p1, p2, by omega⟩⟩, ⟨sg4, o, i, j, _, x, y, rfl, mm, p1, p2, by omega⟩⟩
            · rw [if_neg k0]
              have k00 : k = 0 := by omega
              subst k00
              exact wpS_loB C sg4 m3 q1 q2 eu (by simpa using dwn) (fun r z rs => ⟨sg4, .inl ⟨_, _, rfl, rs⟩⟩) fun o i j x y mm p1 p2 p3 => ⟨⟨sg4, .inr ⟨o, i, j, _, x, y, rfl, mm, p1, p2, by omega⟩⟩, ⟨sg4, o, i, j, _, x, y, rfl, mm, p1, p2, by omega⟩⟩
        by_cases c : mg3 > 1
        · rw [if_pos c]
          exact wpS_mono (body _) fun r st' hh => by cases r <;> exact hh
        · rw [if_neg c]
          exact wpS_mono (body _) fun r st' hh => by cases r <;> exact hh
structure HI (a b o : List Keyed) (na nb : Nat) : Prop where
  perm : o.Perm (a.drop na ++ b.drop nb)
  srt : o.Pairwise Le
  le : ∀ x ∈ o, ∀ y, (y ∈ a.take na ∨ y ∈ b.take nb) → kn y ≤ kn x
theorem srt_take {l : List Keyed} {i : Nat} {x : Keyed} (h : l.Pairwise Le) (e : l[i]? = some x) : ∀ y ∈ l.take (i + 1), kn y ≤ kn x := by
  intro y hy
  have := List.Pairwise.take (i := i + 1) h
  rw [take_one e] at this hy
  rcases List.mem_append.mp hy with hy | hy
  · exact (List.pairwise_append.mp this).2.2 y hy x (by simp)
  · rw [List.mem_singleton.mp hy]; exact Int.le_refl _
theorem HI.pushA {a b o : List Keyed} {na nb : Nat} {x : Keyed} (m : HI a b o (na + 1) nb) (ha : a.Pairwise Le) (e : a[na]? = some x) (h : ∀ y ∈ b.take nb, kn y ≤ kn x) : HI a b (x :: o) na nb := by
  have xa : x ∈ a.take (na + 1) := by rw [take_one e]; simp
  have sub : ∀ y ∈ a.take na, y ∈ a.take (na + 1) := fun y hy => by rw [take_one e]; exact List.mem_append_left _ hy
  refine ⟨?_, ?_, ?_⟩
  · rw [drop_one e]
    exact m.perm.cons x
  · exact List.pairwise_cons.mpr ⟨fun u hu => m.le u hu x (.inl xa), m.srt⟩
  · intro u hu y hy
    rcases List.mem_cons.mp hu with rfl | hu
    · rcases hy with hy | hy
      · exact srt_take ha e y (sub y hy)
      · exact h y hy
    · rcases hy with hy | hy
      · exact m.le u hu y (.inl (sub y hy))
      · exact m.le u hu y (.inr hy)
theorem HI.pushB {a b o : List Keyed} {na nb : Nat} {x : Keyed} (m : HI a b o na (nb + 1)) (hb : b.Pairwise Le) (e : b[nb]? = some x) (h : ∀ y ∈ a.take na, kn y ≤ kn x) : HI a b (x :: o) na nb := by
  have xb : x ∈ b.take (nb + 1) := by rw [take_one e]; simp
  have sub : ∀ y ∈ b.take nb, y ∈ b.take (nb + 1) := fun y hy => by rw [take_one e]; exact List.mem_append_left _ hy
  refine ⟨?_, ?_, ?_⟩
  · rw [drop_one e]
    exact (m.perm.cons x).trans List.perm_middle.symm
  · exact List.pairwise_cons.mpr ⟨fun u hu => m.le u hu x (.inr xb), m.srt⟩
  · intro u hu y hy
    rcases List.mem_cons.mp hu with rfl | hu
    · rcases hy with hy | hy
      · exact h y hy
      · exact srt_take hb e y (sub y hy)
    · rcases hy with hy | hy
      · exact m.le u hu y (.inl hy)
      · exact m.le u hu y (.inr (sub y hy))
theorem HI.appA {a b o : List Keyed} {na nb : Nat} (m : HI a b o na nb) (ha : a.Pairwise Le) (hn : na ≤ a.length) : ∀ k, k ≤ na → (∀ i x, na - k ≤ i → i < na → a[i]? = some x → ∀ y ∈ b.take nb, kn y ≤ kn x) → HI a b ((a.drop (na - k)).take k ++ o) (na - k) nb
  | 0, _, _ => by simpa using m
  | k + 1, hk, h => by
    have e : a[na - (k + 1)]? = some (a[na - (k + 1)]'(by omega)) := List.getElem?_eq_getElem (by omega)
    have m0 := m.appA ha hn k (by omega) fun i x h1 h2 => h i x (by omega) h2
    rw [show na - k = na - (k + 1) + 1 by omega] at m0
    have m1 := m0.pushA ha e (h _ _ (Nat.le_refl _) (by omega) e)
    rw [drop_one e, List.take_succ_cons]
    exact m1
theorem HI.appB {a b o : List Keyed} {na nb : Nat} (m : HI a b o na nb) (hb : b.Pairwise Le) (hn : nb ≤ b.length) : ∀ k, k ≤ nb → (∀ i x, nb - k ≤ i → i < nb → b[i]? = some x → ∀ y ∈ a.take na, kn y ≤ kn x) → HI a b ((b.drop (nb - k)).take k ++ o) na (nb - k)
  | 0, _, _ => by simpa using m
  | k + 1, hk, h => by
    have e : b[nb - (k + 1)]? = some (b[nb - (k + 1)]'(by omega)) := List.getElem?_eq_getElem (by omega)
    have m0 := m.appB hb hn k (by omega) fun i x h1 h2 => h i x (by omega) h2
    rw [show nb - k = nb - (k + 1) + 1 by omega] at m0
    have m1 := m0.pushB hb e (h _ _ (Nat.le_refl _) (by omega) e)
    rw [drop_one e, List.take_succ_cons]
    exact m1
theorem HI.doneA {a b o : List Keyed} {nb : Nat} (m : HI a b o 0 nb) (hb : b.Pairwise Le) : Res a b (a.take 0 ++ b.take nb ++ o) := by
  rw [List.take_zero, List.nil_append]
  refine ⟨?_, ?_⟩
  · have := m.perm.append_left (b.take nb)
    rw [List.drop_zero, ← List.append_assoc] at this
    refine this.trans ((List.perm_append_comm (l₁ := b.take nb) (l₂ := a)).append_right (b.drop nb) |>.trans ?_)
    rw [List.append_assoc, List.take_append_drop]
  · rw [List.pairwise_append]
    exact ⟨hb.take, m.srt, fun u hu v hv => m.le v hv u (.inr hu)⟩
theorem HI.doneB {a b o : List Keyed} {na : Nat} (m : HI a b o na 0) (ha : a.Pairwise Le) : Res a b (a.take na ++ b.take 0 ++ o) := by
  rw [List.take_zero, List.append_nil]
  refine ⟨?_, ?_⟩
  · have := m.perm.append_left (a.take na)
    rw [List.drop_zero, ← List.append_assoc, List.take_append_drop] at this
    exact this
  · rw [List.pairwise_append]
    exact ⟨ha.take, m.srt, fun u hu v hv => m.le v hv u (.inl hu)⟩
theorem HI.firstB {a b o : List Keyed} {na : Nat} (m : HI a b o na 1) (ha : a.Pairwise Le) (hb : b.Pairwise Le) (hf : ∀ x, b[0]? = some x → ∀ y ∈ a, kn x ≤ kn y) : Res a b (b.take 1 ++ a.take na ++ o) := by
  refine ⟨?_, ?_⟩
  · have h1 := m.perm.append_left (b.take 1 ++ a.take na)
    refine h1.trans ?_
    have h2 := ((List.perm_append_comm (l₁ := b.take 1) (l₂ := a.take na)).append_right (a.drop na ++ b.drop 1))
    refine h2.trans ?_
    rw [List.append_assoc]
    refine (List.Perm.append_left (a.take na) (List.perm_append_comm_assoc (b.take 1) (a.drop na) (b.drop 1))).trans ?_
    rw [List.take_append_drop, ← List.append_assoc, List.take_append_drop]
  · rw [List.pairwise_append, List.pairwise_append]
    refine ⟨⟨hb.take, ha.take, fun u hu v hv => ?_⟩, m.srt, fun u hu v hv => ?_⟩
    · cases b with
      | nil => simp at hu
      | cons b0 br =>
        rw [List.take_succ_cons, List.take_zero, List.mem_singleton] at hu
        rw [hu]
        exact hf b0 rfl v (List.mem_of_mem_take hv)
    · rcases List.mem_append.mp hu with hu | hu
      · exact m.le v hv u (.inr hu)
      · exact m.le v hv u (.inl hu)
noncomputable def mergeHi' : Array Keyed → Array Keyed → StateT SortSt Sem (Array Keyed) := sortPriv% PySem.Builtin.mergeHi
noncomputable def dh (a b out : Array Keyed) (na nb : Nat) : Array Keyed := a.extract 0 na ++ b.extract 0 nb ++ out.reverse
noncomputable def fB (a b out : Array Keyed) (na nb : Nat) : Array Keyed := b.extract 0 nb ++ a.extract 0 na ++ out.reverse
theorem dh_list (a b out : Array Keyed) (na nb : Nat) : (dh a b out na nb).toList = a.toList.take na ++ b.toList.take nb ++ out.toList.reverse := by
  unfold dh
  simp [Array.toList_extract]
theorem fB_list (a b out : Array Keyed) (na nb : Nat) : (fB a b out na nb).toList = b.toList.take nb ++ a.toList.take na ++ out.toList.reverse := by
  unfold fB
  simp [Array.toList_extract]
theorem exr_list (a out : Array Keyed) (i n : Nat) : (out ++ (a.extract i n).reverse).toList.reverse = (a.toList.drop i).take (n - i) ++ out.toList.reverse := by
  simp [Array.toList_extract]
theorem mergeHi'_eq (a b : Array Keyed) : mergeHi' a b = (do
  rule "list.sort.merge-hi"
  let mut na := a.size - 1
  let mut nb := b.size
  let mut out : Array Keyed := #[← elem' a na]
  if na == 0 then return dh a b out na nb
  if nb == 1 then return fB a b out na nb
  let mut minGallop := gallopOf (← get)
  for _ in [0:a.size + b.size] do
    let mut acount := 0
    let mut bcount := 0
    for _ in [0:a.size + b.size] do
      let some aWins ← lt' (← elem' b (nb - 1)) (← elem' a (na - 1)) | return dh a b out na nb
      if aWins then
        na := na - 1; out := out.push (← elem' a na); acount := acount + 1; bcount := 0
        if na == 0 then return dh a b out na nb
        if acount ≥ minGallop then break
      else
        nb := nb - 1; out := out.push (← elem' b nb); bcount := bcount + 1; acount := 0
        if nb == 1 then return fB a b out na nb
        if bcount ≥ minGallop then break
    rule "list.sort.gallop"
    minGallop := minGallop + 1
    for _ in [0:a.size + b.size] do
      if minGallop > 1 then minGallop := minGallop - 1
      setG' minGallop
      let some at_ ← gallop' false (← elem' b (nb - 1)) a 0 na (na - 1) | return dh a b out na nb
      let k := na - at_
      acount := k
      if k > 0 then
        out := out ++ (a.extract at_ na).reverse; na := at_
        if na == 0 then return dh a b out na nb
      nb := nb - 1; out := out.push (← elem' b nb)
      if nb == 1 then return fB a b out na nb
      let some at_ ← gallop' true (← elem' a (na - 1)) b 0 nb (nb - 1) | return dh a b out na nb
      let k := nb - at_
      bcount := k
      if k > 0 then
        out := out ++ (b.extract at_ nb).reverse; nb := at_
        if nb == 1 then return fB a b out na nb
        if nb == 0 then return dh a b out na nb
      na := na - 1; out := out.push (← elem' a na)
      if na == 0 then return dh a b out na nb
      if acount < 7 && bcount < 7 then break
    minGallop := minGallop + 1
    setG' minGallop
  unsupported "internal:list.sort.merge-bound") := rfl
theorem push_rev (out : Array Keyed) (x : Keyed) : (out.push x).toList.reverse = x :: out.toList.reverse := by simp
abbrev HiT := Option (Array Keyed) × Nat × Nat × Array Keyed × Nat × Nat × Nat
noncomputable def hiC (a b : Array Keyed) (na nb : Nat) (out : Array Keyed) (mg ac bc : Nat) : StateT SortSt Sem (ForInStep HiT) := do
  let v ← elem' a (na - 1)
  if na - 1 == 0 then pure (.done (some (dh a b (out.push v) (na - 1) nb), na - 1, nb, out.push v, mg, ac, bc))
  else if ac < 7 && bc < 7 then pure (.done (none, na - 1, nb, out.push v, mg, ac, bc)) else pure (.yield (none, na - 1, nb, out.push v, mg, ac, bc))
noncomputable def hiB (a b : Array Keyed) (na nb : Nat) (out : Array Keyed) (mg ac bc : Nat) : StateT SortSt Sem (ForInStep HiT) := do
  let u ← elem' b (nb - 1)
  if nb - 1 == 1 then pure (.done (some (fB a b (out.push u) na (nb - 1)), na, nb - 1, out.push u, mg, ac, bc))
  else
    let v ← elem' a (na - 1)
    let x ← gallop' true v b 0 (nb - 1) (nb - 1 - 1)
    match x with
    | some at_ =>
      if nb - 1 - at_ > 0 then
        if at_ == 1 then pure (.done (some (fB a b (out.push u ++ (b.extract at_ (nb - 1)).reverse) na at_), na, at_, out.push u ++ (b.extract at_ (nb - 1)).reverse, mg, ac, nb - 1 - at_))
        else if at_ == 0 then pure (.done (some (dh a b (out.push u ++ (b.extract at_ (nb - 1)).reverse) na at_), na, at_, out.push u ++ (b.extract at_ (nb - 1)).reverse, mg, ac, nb - 1 - at_))
        else hiC a b na at_ (out.push u ++ (b.extract at_ (nb - 1)).reverse) mg ac (nb - 1 - at_)
      else hiC a b na (nb - 1) (out.push u) mg ac (nb - 1 - at_)
    | _ => pure (.done (some (dh a b (out.push u) na (nb - 1)), na, nb - 1, out.push u, mg, ac, bc))
structure HC (st : SortSt) (a b : Array Keyed) : Prop where
  hk : kindOf st = oneType'
  iA : ∀ x ∈ a.toList, IsI x
  iB : ∀ x ∈ b.toList, IsI x
  sA : a.toList.Pairwise Le
  sB : b.toList.Pairwise Le
  hf : ∀ x, b.toList[0]? = some x → ∀ y ∈ a.toList, kn x ≤ kn y
theorem HC.rA {st : SortSt} {a b out : Array Keyed} {na nb : Nat} (c : HC st a b) (m : HI a.toList b.toList out.toList.reverse na nb) (e : na = 0) : Res a.toList b.toList (dh a b out na nb).toList := by subst e; rw [dh_list]; exact m.doneA c.sB
theorem HC.rB {st : SortSt} {a b out : Array Keyed} {na nb : Nat} (c : HC st a b) (m : HI a.toList b.toList out.toList.reverse na nb) (e : nb = 0) : Res a.toList b.toList (dh a b out na nb).toList := by subst e; rw [dh_list]; exact m.doneB c.sA
theorem HC.rF {st : SortSt} {a b out : Array Keyed} {na nb : Nat} (c : HC st a b) (m : HI a.toList b.toList out.toList.reverse na nb) (e : nb = 1) : Res a.toList b.toList (fB a b out na nb).toList := by subst e; rw [fB_list]; exact m.firstB c.sA c.sB c.hf
theorem wpS_hiC {st st' : SortSt} {a b out : Array Keyed} {na nb mg ac bc : Nat} {v : Keyed} {P : ForInStep HiT → SortSt → Prop} (c : HC st a b) (sg : SG st st') (m : HI a.toList b.toList out.toList.reverse na nb) (l1 : 1 ≤ na) (l2 : 2 ≤ nb)
    (ev : a.toList[na - 1]? = some v) (hv : ∀ y ∈ b.toList.take nb, kn y ≤ kn v) (hr : ∀ r z, Res a.toList b.toList r.toList → P (.done (some r, z)) st')
    (hn : ∀ na' nb' out' ac' bc', HI a.toList b.toList out'.toList.reverse na' nb' → 1 ≤ na' → 2 ≤ nb' → na' ≤ na → nb' ≤ nb → P (.done (none, na', nb', out', mg, ac', bc')) st' ∧ P (.yield (none, na', nb', out', mg, ac', bc')) st') :
    wpS (model prog w) A E s (hiC a b na nb out mg ac bc) P st' := by
  unfold hiC
  have ev' : a[na - 1]? = some v := by rw [← Array.getElem?_toList]; exact ev
  rw [show na = na - 1 + 1 by omega] at m
  have m2 := m.pushA c.sA ev hv
  rw [← push_rev] at m2
  refine wpS_bind (wpS_elem ev' ?_)
  by_cases d : na - 1 = 0
  · rw [if_pos (by simpa using d)]
    exact wpS_pure (hr _ _ (c.rA m2 d))
  · rw [if_neg (by simpa using d)]
    obtain ⟨h1, h2⟩ := hn _ _ _ ac bc m2 (by omega) l2 (by omega) (Nat.le_refl _)
    split
    · exact wpS_pure h1
    · exact wpS_pure h2
theorem wpS_hiB {st st' : SortSt} {a b out : Array Keyed} {na nb mg ac bc : Nat} {u : Keyed} {P : ForInStep HiT → SortSt → Prop} (c : HC st a b) (sg : SG st st') (m : HI a.toList b.toList out.toList.reverse na nb) (l1 : 1 ≤ na) (na1 : na ≤ a.size) (l2 : 2 ≤ nb) (nb1 : nb ≤ b.size)
    (eu : b.toList[nb - 1]? = some u) (hu : ∀ y ∈ a.toList.take na, kn y ≤ kn u) (hr : ∀ r z, Res a.toList b.toList r.toList → P (.done (some r, z)) st')
    (hn : ∀ na' nb' out' ac' bc', HI a.toList b.toList out'.toList.reverse na' nb' → 1 ≤ na' → 2 ≤ nb' → na' ≤ na → nb' ≤ nb → P (.done (none, na', nb', out', mg, ac', bc')) st' ∧ P (.yield (none, na', nb', out', mg, ac', bc')) st') :
    wpS (model prog w) A E s (hiB a b na nb out mg ac bc) P st' := by
  unfold hiB
  have la : a.toList.length = a.size := by simp
  have lb : b.toList.length = b.size := by simp
  have eu' : b[nb - 1]? = some u := by rw [← Array.getElem?_toList]; exact eu
  rw [show nb = nb - 1 + 1 by omega] at m
  have m2 := m.pushB c.sB eu hu
  rw [← push_rev] at m2
  refine wpS_bind (wpS_elem eu' ?_)
  by_cases d : nb - 1 = 1
  · rw [if_pos (by simpa using d)]
    exact wpS_pure (hr _ _ (c.rF m2 d))
  rw [if_neg (by simpa using d)]
  obtain ⟨v, ev, ev'⟩ := arr_get (a := a) (i := na - 1) (by omega)
  refine wpS_bind (wpS_elem ev' (wpS_bind (wpS_gallop (sg.1.trans c.hk) (c.iA _ (List.mem_of_getElem? ev)) (fun i hi => ?_) (by omega) (fun i j hij hj => K_mono c.sB (by omega) (by omega)) fun k hk b1 b2 => ?_)))
  · obtain ⟨x, ex, ex'⟩ := arr_get (a := b) (i := 0 + i) (by omega)
    exact ⟨x, ex', c.iB _ (List.mem_of_getElem? ex)⟩
  · dsimp only
    have up : ∀ i x, k ≤ i → i < nb - 1 → b.toList[i]? = some x → ∀ y ∈ a.toList.take na, kn y ≤ kn x := fun i x h1 h2 ex y hy => by
      have q := b2 i h1 h2
      unfold B at q
      rw [Nat.zero_add, K_get ex] at q
      have q2 := srt_take c.sA ev y (by rw [show na - 1 + 1 = na by omega]; exact hy)
      simp at q
      omega
    have dwn : ∀ y ∈ b.toList.take k, kn y ≤ kn v := fun y hy => by
      obtain ⟨i, ei⟩ := List.getElem?_of_mem hy
      have hik : i < k := by have := (List.getElem?_eq_some_iff.mp ei).1; rw [List.length_take] at this; omega
      rw [List.getElem?_take, if_pos hik] at ei
      have q := b1 i hik
      unfold B at q
      rw [Nat.zero_add, K_get ei] at q
      simp at q
      omega
    by_cases k0 : nb - 1 - k > 0
    · rw [if_pos k0]
      have m3 := m2.appB c.sB (by omega) (nb - 1 - k) (by omega) fun i x h1 h2 => up i x (by omega) h2
      rw [show nb - 1 - (nb - 1 - k) = k by omega, ← exr_list] at m3
      by_cases d1 : k = 1
      · rw [if_pos (by simpa using d1)]
        exact wpS_pure (hr _ _ (c.rF m3 d1))
      rw [if_neg (by simpa using d1)]
      by_cases d2 : k = 0
      · rw [if_pos (by simpa using d2)]
        exact wpS_pure (hr _ _ (c.rB m3 d2))
      rw [if_neg (by simpa using d2)]
      exact wpS_hiC c sg m3 l1 (by omega) ev dwn hr fun x y o p q mm q1 q2 q3 q4 => hn x y o p q mm q1 q2 q3 (by omega)
    · rw [if_neg k0]
      have kk : k = nb - 1 := by omega
      rw [kk] at dwn
      exact wpS_hiC c sg m2 l1 (by omega) ev dwn hr fun x y o p q mm q1 q2 q3 q4 => hn x y o p q mm q1 q2 q3 (by omega)
theorem wpS_mergeHi {st : SortSt} {a b : Array Keyed} {Q : Array Keyed → SortSt → Prop} (hk : kindOf st = oneType') (iA : ∀ x ∈ a.toList, IsI x) (iB : ∀ x ∈ b.toList, IsI x) (sA : a.toList.Pairwise Le) (sB : b.toList.Pairwise Le) (a1 : 1 ≤ a.size) (b1 : 1 ≤ b.size)
    (hf : ∀ x, b.toList[0]? = some x → ∀ y ∈ a.toList, kn x ≤ kn y) (hl : ∀ x, a.toList[a.size - 1]? = some x → ∀ y ∈ b.toList, kn y ≤ kn x)
    (h : ∀ r st', SG st st' → Res a.toList b.toList r.toList → Q r st') : wpS (model prog w) A E s (mergeHi' a b) Q st := by
  have la : a.toList.length = a.size := by simp
  have lb : b.toList.length = b.size := by simp
  have C : HC st a b := ⟨hk, iA, iB, sA, sB, hf⟩
  have mA : ∀ {i : Nat} {x : Keyed}, a.toList[i]? = some x → IsI x := fun e => iA _ (List.mem_of_getElem? e)
  have mB : ∀ {i : Nat} {x : Keyed}, b.toList[i]? = some x → IsI x := fun e => iB _ (List.mem_of_getElem? e)
  rw [mergeHi'_eq]
  refine wpS_bind (wpS_lift (wpAny_rule ⟨rfl, ?_⟩))
  obtain ⟨x0, ex0, ex0'⟩ := arr_get (a := a) (i := a.size - 1) (by omega)
  refine wpS_bind (wpS_elem ex0' ?_)
  have m0 : HI a.toList b.toList (#[x0] : Array Keyed).toList.reverse (a.size - 1) b.size := by
    have : HI a.toList b.toList [] (a.size - 1 + 1) b.size := ⟨by rw [List.drop_of_length_le (by omega), List.drop_of_length_le (by omega)]; simp, by simp, by simp⟩
    have := this.pushA sA ex0 fun y hy => hl x0 ex0 y (List.mem_of_mem_take hy)
    simpa using this
  dsimp only
  by_cases c1 : a.size - 1 = 0
  · rw [if_pos (by simpa using c1)]
    exact wpS_pure (h _ _ (SG.refl _) (C.rA m0 c1))
  rw [if_neg (by simpa using c1)]
  by_cases c2 : b.size = 1
  · rw [if_pos (by simpa using c2)]
    exact wpS_pure (h _ _ (SG.refl _) (C.rF m0 c2))
  rw [if_neg (by simpa using c2)]
  refine wpS_bind (wpS_get ?_)
  refine wpS_bind (wpS_mono (wpS_forRange
    (I := fun x c st' => SG st st' ∧ ∃ na nb out mg, c = (none, na, nb, out, mg) ∧ HI a.toList b.toList out.toList.reverse na nb ∧ 1 ≤ na ∧ na ≤ a.size ∧ 2 ≤ nb ∧ nb ≤ b.size ∧ x + na + nb + 1 ≤ a.size + b.size)
    (Q := fun c st' => SG st st' ∧ ∃ r z, c = (some r, z) ∧ Res a.toList b.toList r.toList) ?step ?fin ⟨SG.refl _, _, _, _, _, rfl, m0, by omega, by omega, by omega, by omega, by omega⟩) ?post)
  case fin =>
    rintro c st' ⟨sg, na, nb, out, mg, rfl, m, l1, l2, l3, l4, l5⟩
    omega
  case post =>
    rintro c st' ⟨sg, r, z, rfl, rs⟩
    exact wpS_pure (h r st' sg rs)
  case step =>
    rintro x c st1 _ hx ⟨sg1, na, nb, out, mg, rfl, m, l1, l2, l3, l4, l5⟩
    dsimp only
    refine wpS_bind (wpS_mono (wpS_forRange
      (I := fun y c st' => SG st st' ∧ ∃ na' nb' out' ac bc, c = (none, na', nb', out', ac, bc) ∧ HI a.toList b.toList out'.toList.reverse na' nb' ∧ 1 ≤ na' ∧ na' ≤ a.size ∧ 2 ≤ nb' ∧ nb' ≤ b.size ∧ na' + nb' + y ≤ na + nb)
      (Q := fun c st' => SG st st' ∧ ((∃ r z, c = (some r, z) ∧ Res a.toList b.toList r.toList) ∨ ∃ na' nb' out' ac bc, c = (none, na', nb', out', ac, bc) ∧ HI a.toList b.toList out'.toList.reverse na' nb' ∧ 1 ≤ na' ∧ na' ≤ a.size ∧ 2 ≤ nb' ∧ nb' ≤ b.size ∧ na' + nb' + 1 ≤ na + nb)) ?step1 ?fin1 ⟨sg1, na, nb, out, 0, 0, rfl, m, l1, l2, l3, l4, by omega⟩) ?post1)
    case fin1 =>
      rintro c st' ⟨sg, na', nb', out', ac, bc, rfl, m', k1, k2, k3, k4, k5⟩
      exact ⟨sg, .inr ⟨na', nb', out', ac, bc, rfl, m', k1, k2, k3, k4, by omega⟩⟩
    case step1 =>
      rintro y c st2 _ hy ⟨sg, na', nb', out', ac, bc, rfl, m', k1, k2, k3, k4, k5⟩
      dsimp only
      obtain ⟨u, eu, eu'⟩ := arr_get (a := b) (i := nb' - 1) (by omega)
      obtain ⟨v, ev, ev'⟩ := arr_get (a := a) (i := na' - 1) (by omega)
      refine wpS_bind (wpS_elem eu' (wpS_bind (wpS_elem ev' (wpS_bind (wpS_lt (sg.1.trans hk) (mB eu) (mA ev) ?_)))))
      by_cases c : kn u < kn v
      · simp only [c, decide_true, if_true]
        rw [show na' = na' - 1 + 1 by omega] at m'
        have m2 := m'.pushA sA ev fun z hz => by have := srt_take sB eu z (by rw [show nb' - 1 + 1 = nb' by omega]; exact hz); omega
        rw [← push_rev] at m2
        refine wpS_bind (wpS_elem ev' ?_)
        by_cases d : na' - 1 = 0
        · rw [if_pos (by simpa using d)]
          exact wpS_pure ⟨sg, .inl ⟨_, _, rfl, C.rA m2 d⟩⟩
        · rw [if_neg (by simpa using d)]
          split
          · exact wpS_pure ⟨sg, .inr ⟨_, _, _, _, _, rfl, m2, by omega, by omega, k3, k4, by omega⟩⟩
          · exact wpS_pure ⟨sg, _, _, _, _, _, rfl, m2, by omega, by omega, k3, k4, by omega⟩
      · simp only [c, decide_false, Bool.false_eq_true, if_false]
        rw [show nb' = nb' - 1 + 1 by omega] at m'
        have m2 := m'.pushB sB eu fun z hz => by have := srt_take sA ev z (by rw [show na' - 1 + 1 = na' by omega]; exact hz); omega
        rw [← push_rev] at m2
        refine wpS_bind (wpS_elem eu' ?_)
        by_cases d : nb' - 1 = 1
        · rw [if_pos (by simpa using d)]
          exact wpS_pure ⟨sg, .inl ⟨_, _, rfl, C.rF m2 d⟩⟩
        · rw [if_neg (by simpa using d)]
          split
          · exact wpS_pure ⟨sg, .inr ⟨_, _, _, _, _, rfl, m2, k1, k2, by omega, by omega, by omega⟩⟩
          · exact wpS_pure ⟨sg, _, _, _, _, _, rfl, m2, k1, k2, by omega, by omega, by omega⟩
    case post1 =>
      rintro c st2 ⟨sg2, hc⟩
      rcases hc with ⟨r, z, rfl, rs⟩ | ⟨na', nb', out', ac, bc, rfl, m', k1, k2, k3, k4, k5⟩
      · exact wpS_pure ⟨sg2, _, _, rfl, rs⟩
      dsimp only
      refine wpS_bind (wpS_lift (wpAny_rule ⟨rfl, ?_⟩))
      refine wpS_bind (wpS_mono (wpS_forRange
        (I := fun y c st' => SG st st' ∧ ∃ na'' nb'' out'' mg ac bc, c = (none, na'', nb'', out'', mg, ac, bc) ∧ HI a.toList b.toList out''.toList.reverse na'' nb'' ∧ 1 ≤ na'' ∧ na'' ≤ na' ∧ 2 ≤ nb'' ∧ nb'' ≤ nb')
        (Q := fun c st' => SG st st' ∧ ((∃ r z, c = (some r, z) ∧ Res a.toList b.toList r.toList) ∨ ∃ na'' nb'' out'' mg ac bc, c = (none, na'', nb'', out'', mg, ac, bc) ∧ HI a.toList b.toList out''.toList.reverse na'' nb'' ∧ 1 ≤ na'' ∧ na'' ≤ na' ∧ 2 ≤ nb'' ∧ nb'' ≤ nb')) ?step2 ?fin2 ⟨sg2, na', nb', out', _, ac, bc, rfl, m', k1, Nat.le_refl _, k3, Nat.le_refl _⟩) ?post2)
      case fin2 =>
        rintro c st' ⟨sg, hc⟩
        exact ⟨sg, .inr hc⟩
      case post2 =>
        rintro c st3 ⟨sg3, hc⟩
        rcases hc with ⟨r, z, rfl, rs⟩ | ⟨na3, nb3, o3, mg3, ac3, bc3, rfl, m3, q1, q2, q3, q4⟩
        · exact wpS_pure ⟨sg3, _, _, rfl, rs⟩
        dsimp only
        refine wpS_bind (wpS_setG sg3 fun st4 sg4 => wpS_pure ⟨sg4, na3, nb3, o3, _, rfl, m3, q1, by omega, q3, by omega, by omega⟩)
      case step2 =>
        rintro y c st3 _ hy ⟨sg3, na3, nb3, o3, mg3, ac3, bc3, rfl, m3, q1, q2, q3, q4⟩
        dsimp only
        obtain ⟨u, eu, eu'⟩ := arr_get (a := b) (i := nb3 - 1) (by omega)
        have body : ∀ g : Nat, wpS (model prog w) A E s (do
            setG' g
            let u ← elem' b (nb3 - 1)
            let x ← gallop' false u a 0 na3 (na3 - 1)
            match x with
            | some at_ =>
              if na3 - at_ > 0 then
                if at_ == 0 then pure (ForInStep.done (some (dh a b (o3 ++ (a.extract at_ na3).reverse) at_ nb3), at_, nb3, o3 ++ (a.extract at_ na3).reverse, g, na3 - at_, bc3))
                else hiB a b at_ nb3 (o3 ++ (a.extract at_ na3).reverse) g (na3 - at_) bc3
              else hiB a b na3 nb3 o3 g (na3 - at_) bc3
            | _ => pure (ForInStep.done (some (dh a b o3 na3 nb3), na3, nb3, o3, g, ac3, bc3)))
          (fun r st' => match r with
            | .done c' => SG st st' ∧ ((∃ r z, c' = (some r, z) ∧ Res a.toList b.toList r.toList) ∨ ∃ na'' nb'' out'' mg ac bc, c' = (none, na'', nb'', out'', mg, ac, bc) ∧ HI a.toList b.toList out''.toList.reverse na'' nb'' ∧ 1 ≤ na'' ∧ na'' ≤ na' ∧ 2 ≤ nb'' ∧ nb'' ≤ nb')
            | .yield c' => SG st st' ∧ ∃ na'' nb'' out'' mg ac bc, c' = (none, na'', nb'', out'', mg, ac, bc) ∧ HI a.toList b.toList out''.toList.reverse na'' nb'' ∧ 1 ≤ na'' ∧ na'' ≤ na' ∧ 2 ≤ nb'' ∧ nb'' ≤ nb') st3 := by
          intro g
          refine wpS_bind (wpS_setG sg3 fun st4 sg4 => ?_)
          refine wpS_bind (wpS_elem eu' (wpS_bind (wpS_gallop (sg4.1.trans hk) (mB eu) (fun i hi => ?_) (by omega) (fun i j hij hj => K_mono sA (by omega) (by omega)) fun k hk b1 b2 => ?_)))
          · obtain ⟨x, ex, ex'⟩ := arr_get (a := a) (i := 0 + i) (by omega)
            exact ⟨x, ex', mA ex⟩
          · dsimp only
            have up : ∀ i x, k ≤ i → i < na3 → a.toList[i]? = some x → ∀ y ∈ b.toList.take nb3, kn y ≤ kn x := fun i x h1 h2 ex y hy => by
              have q := b2 i h1 h2
              unfold B at q
              rw [Nat.zero_add, K_get ex] at q
              have q2 := srt_take sB eu y (by rw [show nb3 - 1 + 1 = nb3 by omega]; exact hy)
              simp at q
              omega
            have dwn : ∀ y ∈ a.toList.take k, kn y ≤ kn u := fun y hy => by
              obtain ⟨i, ei⟩ := List.getElem?_of_mem hy
              have hik : i < k := by have := (List.getElem?_eq_some_iff.mp ei).1; rw [List.length_take] at this; omega
              rw [List.getElem?_take, if_pos hik] at ei
              have q := b1 i hik
              unfold B at q
              rw [Nat.zero_add, K_get ei] at q
              simp at q
              omega
            by_cases k0 : na3 - k > 0
            · rw [if_pos k0]
              have m4 := m3.appA sA (by omega) (na3 - k) (by omega) fun i x h1 h2 => up i x (by omega) h2
              rw [show na3 - (na3 - k) = k by omega, ← exr_list] at m4
              by_cases d1 : k = 0
              · rw [if_pos (by simpa using d1)]
                exact wpS_pure ⟨sg4, .inl ⟨_, _, rfl, C.rA m4 d1⟩⟩
              rw [if_neg (by simpa using d1)]
              exact wpS_hiB C sg4 m4 (by omega) (by omega) q3 (by omega) eu dwn (fun r z rs => ⟨sg4, .inl ⟨_, _, rfl, rs⟩⟩) fun i j o x y mm p1 p2 p3 p4 => ⟨⟨sg4, .inr ⟨i, j, o, _, x, y, rfl, mm, p1, by omega, p2, by omega⟩⟩, ⟨sg4, i, j, o, _, x, y, rfl, mm, p1, by omega, p2, by omega⟩⟩
            · rw [if_neg k0]
              have kk : k = na3 := by omega
              rw [kk] at dwn
              exact wpS_hiB C sg4 m3 q1 (by omega) q3 (by omega) eu dwn (fun r z rs => ⟨sg4, .inl ⟨_, _, rfl, rs⟩⟩) fun i j o x y mm p1 p2 p3 p4 => ⟨⟨sg4, .inr ⟨i, j, o, _, x, y, rfl, mm, p1, by omega, p2, by omega⟩⟩, ⟨sg4, i, j, o, _, x, y, rfl, mm, p1, by omega, p2, by omega⟩⟩
        by_cases c : mg3 > 1
        · rw [if_pos c]
          exact wpS_mono (body _) fun r st' hh => by cases r <;> exact hh
        · rw [if_neg c]
          exact wpS_mono (body _) fun r st' hh => by cases r <;> exact hh
noncomputable def wr (sa : Nat) (arr : Array Keyed) (l : List (Keyed × Nat)) : Array Keyed := l.foldl (fun a p => a.setIfInBounds (sa + p.2) p.1) arr
theorem wr_get (sa : Nat) : ∀ (l : List Keyed) (s : Nat) (arr : Array Keyed) (t : Nat), sa + s + l.length ≤ arr.size → (wr sa arr (l.zipIdx s))[t]? = if sa + s ≤ t ∧ t < sa + s + l.length then l[t - (sa + s)]? else arr[t]?
  | [], s, arr, t, _ => by
    rw [if_neg (by simp)]
    rfl
  | x :: l, s, arr, t, h => by
    rw [List.length_cons] at h
    rw [List.zipIdx_cons]
    show (wr sa (arr.setIfInBounds (sa + s) x) (l.zipIdx (s + 1)))[t]? = _
    rw [wr_get sa l (s + 1) _ t (by rw [Array.size_setIfInBounds]; omega), List.length_cons]
    by_cases c : sa + (s + 1) ≤ t ∧ t < sa + (s + 1) + l.length
    · rw [if_pos c, if_pos (by omega), show t - (sa + s) = t - (sa + (s + 1)) + 1 by omega, List.getElem?_cons_succ]
    · rw [if_neg c]
      by_cases d : t = sa + s
      · rw [if_pos (by omega), d, Nat.sub_self, List.getElem?_cons_zero, Array.getElem?_setIfInBounds_self_of_lt (by omega)]
      · rw [if_neg (by omega), Array.getElem?_setIfInBounds_ne (by omega)]
theorem wpS_set {st st1 : SortSt} {Q : PUnit → SortSt → Prop} (h : Q ⟨⟩ st1) : wpS (model prog w) A E s (set st1 : StateT SortSt Sem PUnit) Q st := by
  unfold wpS; rw [StateT.run_set]; exact wpAny_pure ⟨rfl, h⟩
noncomputable def SegS (arr : Array Keyed) (lo n : Nat) : Prop := ∀ i j, lo ≤ i → i ≤ j → j < lo + n → K arr i ≤ K arr j
theorem seg_list {arr : Array Keyed} {lo n : Nat} (h : SegS arr lo n) (hn : lo + n ≤ arr.size) : (arr.extract lo (lo + n)).toList.Pairwise Le := by
  rw [ex_list, List.pairwise_iff_getElem]
  intro i j hi hj hij
  have l : ((arr.toList.drop lo).take n).length ≤ n := by rw [List.length_take]; omega
  have e : ∀ (k : Nat) (hk : k < ((arr.toList.drop lo).take n).length), K arr (lo + k) = kn (((arr.toList.drop lo).take n)[k]) := fun k hk => by
    refine K_get ?_
    have : ((arr.toList.drop lo).take n)[k]? = some (((arr.toList.drop lo).take n)[k]) := List.getElem?_eq_getElem hk
    rw [List.getElem?_take, if_pos (by omega), List.getElem?_drop] at this
    exact this
  have := h (lo + i) (lo + j) (by omega) (by omega) (by omega)
  rw [e i hi, e j hj] at this
  exact this
theorem ex_mem {arr : Array Keyed} {lo n : Nat} {x : Keyed} (h : x ∈ (arr.extract lo (lo + n)).toList) : ∃ t, lo ≤ t ∧ t < lo + n ∧ arr.toList[t]? = some x := by
  rw [ex_list] at h
  obtain ⟨i, ei⟩ := List.getElem?_of_mem h
  have hi : i < n := by have := (List.getElem?_eq_some_iff.mp ei).1; rw [List.length_take] at this; omega
  rw [List.getElem?_take, if_pos hi, List.getElem?_drop] at ei
  exact ⟨lo + i, by omega, by omega, ei⟩
theorem ex_get {arr : Array Keyed} {lo n i : Nat} (hi : i < n) : (arr.extract lo (lo + n)).toList[i]? = arr.toList[lo + i]? := by
  rw [ex_list, List.getElem?_take, if_pos hi, List.getElem?_drop]
noncomputable def AllI (arr : Array Keyed) : Prop := ∀ x ∈ arr.toList, IsI x
theorem mergeAt'_eq (i : Nat) : mergeAt' i = (do
  let s ← get
  let (some (sa, na, power), some (sb, nb, _)) := ((pendingOf s)[i]?, (pendingOf s)[i + 1]?) | unsupported "internal:list.sort.pending"
  set (setPending s (((pendingOf s).setIfInBounds i (sa, na + nb, power)).eraseIdxIfInBounds (i + 1)))
  let some k ← gallop' false (← elem' (arrOf s) sb) (arrOf s) sa na 0 | return false
  let (sa, na) := (sa + k, na - k)
  if na == 0 then return true
  let some nb ← gallop' true (← elem' (arrOf s) (sa + na - 1)) (arrOf s) sb nb (nb - 1) | return false
  if nb == 0 then return true
  let x := (arrOf s).extract sa sb
  let y := (arrOf s).extract sb (sb + nb)
  let merged ← if na ≤ nb then mergeLo' x y else mergeHi' x y
  modify fun s => setArr s (merged.toList.zipIdx.foldl (fun a (p, j) => a.setIfInBounds (sa + j) p) (arrOf s))
  return (failedOf (← get)).isNone) := rfl
theorem wpS_mergeAt {st : SortSt} {i sa na pw nb pw2 : Nat} {Q : Bool → SortSt → Prop} (hk : kindOf st = oneType') (hfl : failedOf st = none) (ai : AllI (arrOf st)) (p1 : (pendingOf st)[i]? = some (sa, na, pw)) (p2 : (pendingOf st)[i + 1]? = some (sa + na, nb, pw2))
    (a1 : 1 ≤ na) (b1 : 1 ≤ nb) (hz : sa + na + nb ≤ (arrOf st).size) (s1 : SegS (arrOf st) sa na) (s2 : SegS (arrOf st) (sa + na) nb)
    (h : ∀ st', kindOf st' = oneType' → failedOf st' = none → pendingOf st' = ((pendingOf st).setIfInBounds i (sa, na + nb, pw)).eraseIdxIfInBounds (i + 1) → (arrOf st').Perm (arrOf st) → SegS (arrOf st') sa (na + nb) →
      (∀ t, t < sa ∨ sa + na + nb ≤ t → (arrOf st')[t]? = (arrOf st)[t]?) → Q true st') : wpS (model prog w) A E s (mergeAt' i) Q st := by
  rw [mergeAt'_eq]
  refine wpS_bind (wpS_get ?_)
  rw [p1, p2]
  dsimp only
  refine wpS_bind (wpS_set ?_)
  generalize hst : setPending st (((pendingOf st).setIfInBounds i (sa, na + nb, pw)).eraseIdxIfInBounds (i + 1)) = st1
  have k1 : kindOf st1 = oneType' := by rw [← hst]; exact hk
  have f1 : failedOf st1 = none := by rw [← hst]; exact hfl
  have ar1 : arrOf st1 = arrOf st := by rw [← hst]
  have pn1 : pendingOf st1 = ((pendingOf st).setIfInBounds i (sa, na + nb, pw)).eraseIdxIfInBounds (i + 1) := by rw [← hst]
  generalize arrOf st = arr at *
  have gt : ∀ {t}, t < arr.size → ∃ p, arr.toList[t]? = some p ∧ arr[t]? = some p ∧ IsI p := fun ht => by
    obtain ⟨p, e1, e2⟩ := arr_get ht
    exact ⟨p, e1, e2, ai _ (List.mem_of_getElem? e1)⟩
  obtain ⟨u, eu, eu', iu⟩ := gt (t := sa + na) (by omega)
  refine wpS_bind (wpS_elem eu' (wpS_bind (wpS_gallop k1 iu (fun j hj => ?_) (by omega) (fun x y hxy hy => s1 _ _ (by omega) (by omega) (by omega)) fun k hkn b1' b2' => ?_)))
  · obtain ⟨p, e1, e2, e3⟩ := gt (t := sa + j) (by omega)
    exact ⟨p, e2, e3⟩
  dsimp only
  have F1 : ∀ t, sa ≤ t → t < sa + k → K arr t ≤ K arr (sa + na) := fun t h1 h2 => by
    have q := b1' (t - sa) (by omega)
    unfold B at q
    rw [show sa + (t - sa) = t by omega] at q
    rw [K_get eu]
    simpa using q
  have F2 : ∀ t, sa + k ≤ t → t < sa + na → K arr (sa + na) < K arr t := fun t h1 h2 => by
    have q := b2' (t - sa) (by omega) (by omega)
    unfold B at q
    rw [show sa + (t - sa) = t by omega] at q
    rw [K_get eu]
    simp at q
    omega
  by_cases c1 : na - k = 0
  · rw [if_pos (by simpa using c1)]
    refine wpS_pure (h st1 k1 f1 pn1 (by rw [ar1]) ?_ fun t _ => by rw [ar1])
    rw [ar1]
    intro x y h1 h2 h3
    by_cases cy : y < sa + na
    · exact s1 _ _ h1 h2 cy
    · by_cases cx : x < sa + na
      · have q1 := F1 x h1 (by omega)
        have q2 := s2 (sa + na) y (Nat.le_refl _) (by omega) (by omega)
        omega
      · exact s2 _ _ (by omega) h2 (by omega)
  rw [if_neg (by simpa using c1)]
  obtain ⟨v, ev, ev', iv⟩ := gt (t := sa + k + (na - k) - 1) (by omega)
  refine wpS_bind (wpS_elem ev' (wpS_bind (wpS_gallop k1 iv (fun j hj => ?_) (by omega) (fun x y hxy hy => s2 _ _ (by omega) (by omega) (by omega)) fun m hmn d1 d2 => ?_)))
  · obtain ⟨p, e1, e2, e3⟩ := gt (t := sa + na + j) (by omega)
    exact ⟨p, e2, e3⟩
  dsimp only
  rw [show sa + k + (na - k) - 1 = sa + na - 1 by omega] at ev
  have F3 : ∀ t, sa + na ≤ t → t < sa + na + m → K arr t < K arr (sa + na - 1) := fun t h1 h2 => by
    have q := d1 (t - (sa + na)) (by omega)
    unfold B at q
    rw [show sa + na + (t - (sa + na)) = t by omega] at q
    rw [K_get ev]
    simpa using q
  have F4 : ∀ t, sa + na + m ≤ t → t < sa + na + nb → K arr (sa + na - 1) ≤ K arr t := fun t h1 h2 => by
    have q := d2 (t - (sa + na)) (by omega) (by omega)
    unfold B at q
    rw [show sa + na + (t - (sa + na)) = t by omega] at q
    rw [K_get ev]
    simp at q
    omega
  by_cases c2 : m = 0
  · rw [if_pos (by simpa using c2)]
    refine wpS_pure (h st1 k1 f1 pn1 (by rw [ar1]) ?_ fun t _ => by rw [ar1])
    rw [ar1]
    intro x y h1 h2 h3
    by_cases cy : y < sa + na
    · exact s1 _ _ h1 h2 cy
    · by_cases cx : x < sa + na
      · have q1 := s1 x (sa + na - 1) h1 (by omega) (by omega)
        have q2 := F4 y (by omega) (by omega)
        omega
      · exact s2 _ _ (by omega) h2 (by omega)
  rw [if_neg (by simpa using c2)]
  have ex1 : arr.extract (sa + k) (sa + na) = arr.extract (sa + k) (sa + k + (na - k)) := by congr 1; omega
  rw [ex1]
  generalize hx : arr.extract (sa + k) (sa + k + (na - k)) = X
  generalize hy : arr.extract (sa + na) (sa + na + m) = Y
  have lX : X.size = na - k := by rw [← hx, Array.size_extract]; omega
  have lY : Y.size = m := by rw [← hy, Array.size_extract]; omega
  have mX : ∀ e ∈ X.toList, ∃ t, sa + k ≤ t ∧ t < sa + na ∧ arr.toList[t]? = some e := fun e he => by
    rw [← hx] at he
    obtain ⟨t, h1, h2, h3⟩ := ex_mem he
    exact ⟨t, h1, by omega, h3⟩
  have mY : ∀ e ∈ Y.toList, ∃ t, sa + na ≤ t ∧ t < sa + na + m ∧ arr.toList[t]? = some e := fun e he => by
    rw [← hy] at he
    exact ex_mem he
  have iX : ∀ e ∈ X.toList, IsI e := fun e he => by obtain ⟨t, _, _, h3⟩ := mX e he; exact ai _ (List.mem_of_getElem? h3)
  have iY : ∀ e ∈ Y.toList, IsI e := fun e he => by obtain ⟨t, _, _, h3⟩ := mY e he; exact ai _ (List.mem_of_getElem? h3)
  have sX : X.toList.Pairwise Le := by rw [← hx]; exact seg_list (fun i j h1 h2 h3 => s1 i j (by omega) h2 (by omega)) (by omega)
  have sY : Y.toList.Pairwise Le := by rw [← hy]; exact seg_list (fun i j h1 h2 h3 => s2 i j h1 h2 (by omega)) (by omega)
  have hf : ∀ x, Y.toList[0]? = some x → ∀ y ∈ X.toList, kn x ≤ kn y := fun x ex y hy' => by
    rw [← hy, ex_get (by omega), Nat.add_zero] at ex
    obtain ⟨t, h1, h2, h3⟩ := mX y hy'
    have q := F2 t h1 h2
    rw [K_get ex, K_get h3] at q
    omega
  have hl : ∀ x, X.toList[X.size - 1]? = some x → ∀ y ∈ Y.toList, kn y ≤ kn x := fun x ex y hy' => by
    rw [lX, ← hx, ex_get (by omega), show sa + k + (na - k - 1) = sa + na - 1 by omega] at ex
    obtain ⟨t, h1, h2, h3⟩ := mY y hy'
    have q := F3 t h1 h2
    rw [K_get ex, K_get h3] at q
    omega
  have fin : ∀ (r : Array Keyed) (st2 : SortSt), SG st1 st2 → Res X.toList Y.toList r.toList → wpS (model prog w) A E s (do
      modify fun s => setArr s (List.foldl (fun a (x : Keyed × Nat) => a.setIfInBounds (sa + k + x.snd) x.fst) (arrOf s) r.toList.zipIdx)
      let z ← get
      pure (failedOf z).isNone) Q st2 := by
    intro r st2 sg rs
    refine wpS_bind (wpS_modify (wpS_bind (wpS_get ?_)))
    have lrs : r.toList.length = r.size := by simp
    have lr : r.toList.length = na - k + m := by rw [rs.1.length_eq, List.length_append]; simp [lX, lY]
    have er : (failedOf (setArr st2 (List.foldl (fun a x => a.setIfInBounds (sa + k + x.snd) x.fst) (arrOf st2) r.toList.zipIdx))).isNone = true := by
      show (failedOf st2).isNone = true
      rw [sg.2.2.2, f1]
      rfl
    rw [er]
    have g : ∀ t, (wr (sa + k) arr (r.toList.zipIdx 0))[t]? = if sa + k ≤ t ∧ t < sa + na + m then r.toList[t - (sa + k)]? else arr[t]? := fun t => by
      rw [wr_get (sa + k) r.toList 0 arr t (by omega)]
      by_cases c : sa + k ≤ t ∧ t < sa + na + m
      · rw [if_pos c, if_pos (by omega), Nat.add_zero]
      · rw [if_neg c, if_neg (by omega)]
    have ea : arrOf (setArr st2 (List.foldl (fun a x => a.setIfInBounds (sa + k + x.snd) x.fst) (arrOf st2) r.toList.zipIdx)) = wr (sa + k) arr (r.toList.zipIdx 0) := by
      show List.foldl (fun a x => a.setIfInBounds (sa + k + x.snd) x.fst) (arrOf st2) r.toList.zipIdx = _
      rw [sg.2.1, ar1]
      rfl
    refine wpS_pure (h _ (sg.1.trans k1) (sg.2.2.2.trans f1) (sg.2.2.1.trans pn1) ?_ ?_ ?_)
    · rw [ea, Array.perm_iff_toList_perm]
      have e1 : (wr (sa + k) arr (r.toList.zipIdx 0)).toList = arr.toList.take (sa + k) ++ (r.toList ++ arr.toList.drop (sa + na + m)) := by
        apply List.ext_getElem?
        intro t
        rw [Array.getElem?_toList, g]
        have lt : (arr.toList.take (sa + k)).length = sa + k := by rw [List.length_take]; simp; omega
        by_cases c : t < sa + k
        · rw [if_neg (by omega), List.getElem?_append_left (by omega), List.getElem?_take, if_pos c, Array.getElem?_toList]
        · rw [List.getElem?_append_right (by omega), lt]
          by_cases c' : t < sa + na + m
          · rw [if_pos (by omega), List.getElem?_append_left (by omega)]
          · rw [if_neg (by omega), List.getElem?_append_right (by omega), List.getElem?_drop, lr, show sa + na + m + (t - (sa + k) - (na - k + m)) = t by omega, Array.getElem?_toList]
      have e2 : arr.toList = arr.toList.take (sa + k) ++ ((X.toList ++ Y.toList) ++ arr.toList.drop (sa + na + m)) := by
        rw [← hx, ← hy, ex_list, ex_list, List.append_assoc]
        have a1 : List.take m (List.drop (sa + na) arr.toList) ++ List.drop (sa + na + m) arr.toList = List.drop (sa + na) arr.toList := by
          have q := List.take_append_drop m (List.drop (sa + na) arr.toList)
          rw [List.drop_drop] at q
          exact q
        have a2 : List.take (na - k) (List.drop (sa + k) arr.toList) ++ List.drop (sa + na) arr.toList = List.drop (sa + k) arr.toList := by
          have q := List.take_append_drop (na - k) (List.drop (sa + k) arr.toList)
          rw [List.drop_drop, show sa + k + (na - k) = sa + na by omega] at q
          exact q
        rw [a1, a2, List.take_append_drop]
      rw [e1]
      conv => rhs; rw [e2]
      exact (rs.1.append_right _).append_left _
    · rw [ea]
      have Ko : ∀ t, ¬ (sa + k ≤ t ∧ t < sa + na + m) → K (wr (sa + k) arr (r.toList.zipIdx 0)) t = K arr t := fun t ht => K_congr (by rw [g, if_neg ht])
      have Ki : ∀ t, sa + k ≤ t → t < sa + na + m → K (wr (sa + k) arr (r.toList.zipIdx 0)) t = K r (t - (sa + k)) := fun t h1 h2 => K_congr (by rw [g, if_pos ⟨h1, h2⟩, Array.getElem?_toList])
      have Kb : ∀ t, sa + k ≤ t → t < sa + na + m → K arr (sa + na) ≤ K r (t - (sa + k)) ∧ K r (t - (sa + k)) ≤ K arr (sa + na - 1) := fun t h1 h2 => by
        obtain ⟨e, ee, _⟩ := arr_get (a := r) (i := t - (sa + k)) (by omega)
        rw [K_get ee]
        have hm := rs.1.mem_iff.mp (List.mem_of_getElem? ee)
        rcases List.mem_append.mp hm with hm | hm
        · obtain ⟨t', q1, q2, q3⟩ := mX e hm
          have w1 := F2 t' q1 q2
          have w2 := s1 t' (sa + na - 1) (by omega) (by omega) (by omega)
          rw [K_get q3] at w1 w2
          omega
        · obtain ⟨t', q1, q2, q3⟩ := mY e hm
          have w1 := F3 t' q1 q2
          have w2 := s2 (sa + na) t' (Nat.le_refl _) q1 (by omega)
          rw [K_get q3] at w1 w2
          omega
      intro x y h1 h2 h3
      by_cases cx : x < sa + k
      · rw [Ko x (by omega)]
        by_cases cy : y < sa + k
        · rw [Ko y (by omega)]
          exact s1 _ _ h1 h2 (by omega)
        · have w1 := F1 x h1 cx
          by_cases cy2 : y < sa + na + m
          · rw [Ki y (by omega) cy2]
            have := (Kb y (by omega) cy2).1
            omega
          · rw [Ko y (by omega)]
            have := s2 (sa + na) y (Nat.le_refl _) (by omega) (by omega)
            omega
      · by_cases cx2 : x < sa + na + m
        · rw [Ki x (by omega) cx2]
          by_cases cy2 : y < sa + na + m
          · rw [Ki y (by omega) cy2]
            exact K_mono rs.2 (by omega) (by omega)
          · rw [Ko y (by omega)]
            have w1 := (Kb x (by omega) cx2).2
            have w2 := F4 y (by omega) (by omega)
            omega
        · rw [Ko x (by omega), Ko y (by omega)]
          exact s2 _ _ (by omega) h2 (by omega)
    · intro t ht
      rw [ea, g, if_neg (by omega)]
  by_cases c3 : na - k ≤ m
  · rw [if_pos c3]
    exact wpS_bind (wpS_mergeLo k1 iX iY sX sY (by omega) (by omega) (fun x y ex ey => hf x ex y (List.mem_of_getElem? ey)) hl fin)
  · rw [if_neg c3]
    exact wpS_bind (wpS_mergeHi k1 iX iY sX sY (by omega) (by omega) hf hl fin)
end
end PySem.Tim
namespace PySem.Tim
open PySem PyProof.Rows
section
variable {prog : Program} {w : World} {A : Around} {E : Value → Shared → Prop} {s : Shared}
structure TB (a₀ : Array Keyed) (st : SortSt) : Prop where
  perm : (arrOf st).Perm a₀
  kind : kindOf st = oneType'
  failed : failedOf st = none
theorem TB.size {a₀ : Array Keyed} {st : SortSt} (h : TB a₀ st) : (arrOf st).size = a₀.size := h.perm.size_eq
theorem TB.all {a₀ : Array Keyed} {st : SortSt} (h : TB a₀ st) (h0 : AllI a₀) : AllI (arrOf st) := fun x hx => h0 x ((Array.perm_iff_toList_perm.mp h.perm).mem_iff.mp hx)
noncomputable def Dst (a₀ : Array Keyed) : Prop := (a₀.toList.map kn).Nodup
theorem TB.ne {a₀ : Array Keyed} {st : SortSt} (h : TB a₀ st) (hd : Dst a₀) {i j : Nat} (hij : i < j) (hj : j < a₀.size) : K (arrOf st) i ≠ K (arrOf st) j := by
  have hz := h.size
  obtain ⟨x, ex, _⟩ := arr_get (a := arrOf st) (i := i) (by omega)
  obtain ⟨y, ey, _⟩ := arr_get (a := arrOf st) (i := j) (by omega)
  have nd : ((arrOf st).toList.map kn).Nodup := (((Array.perm_iff_toList_perm.mp h.perm).map kn).nodup_iff).mpr hd
  rw [K_get ex, K_get ey]
  intro e
  rw [List.nodup_iff_pairwise_ne, List.pairwise_map] at nd
  obtain ⟨hx, rfl⟩ := List.getElem?_eq_some_iff.mp ex
  obtain ⟨hy, rfl⟩ := List.getElem?_eq_some_iff.mp ey
  exact List.pairwise_iff_getElem.mp nd i j hx hy hij e
theorem wpS_ltT {a₀ : Array Keyed} {st : SortSt} {i j : Nat} {Q : Option Bool → SortSt → Prop} (hB : TB a₀ st) (h0 : AllI a₀) (hi : i < a₀.size) (hj : j < a₀.size) (h : Q (some (decide (K (arrOf st) i < K (arrOf st) j))) st) : wpS (model prog w) A E s (ltAt' i j) Q st := by
  have hz := hB.size
  obtain ⟨x, ex, ex'⟩ := arr_get (a := arrOf st) (i := i) (by omega)
  obtain ⟨y, ey, ey'⟩ := arr_get (a := arrOf st) (i := j) (by omega)
  rw [K_get ex, K_get ey] at h
  rw [ltAt'_eq]
  refine wpS_bind (wpS_get ?_)
  exact wpS_bind (wpS_elem ex' (wpS_bind (wpS_elem ey' (wpS_lt hB.kind (hB.all h0 _ (List.mem_of_getElem? ex)) (hB.all h0 _ (List.mem_of_getElem? ey)) h))))
theorem seg_one (arr : Array Keyed) (lo : Nat) : SegS arr lo 1 := fun i j h1 h2 h3 => by
  have : i = j := by omega
  subst this
  exact Int.le_refl _
noncomputable def From (lo : Nat) (st st' : SortSt) : Prop := pendingOf st' = pendingOf st ∧ ∀ t, t < lo → (arrOf st')[t]? = (arrOf st)[t]?
theorem From.refl (lo : Nat) (st : SortSt) : From lo st st := ⟨rfl, fun _ _ => rfl⟩
theorem From.trans {lo : Nat} {a b c : SortSt} (h : From lo a b) (k : From lo b c) : From lo a c := ⟨k.1.trans h.1, fun t ht => (k.2 t ht).trans (h.2 t ht)⟩
theorem TB.setArr {a₀ : Array Keyed} {st : SortSt} (h : TB a₀ st) {xs : Array Keyed} (hp : xs.Perm (arrOf st)) : TB a₀ (setArr st xs) := ⟨hp.trans h.perm, h.kind, h.failed⟩
theorem wpS_binT {a₀ : Array Keyed} {st : SortSt} {lo n ok : Nat} {Q : Bool → SortSt → Prop} (h0 : AllI a₀) (hn : lo + n ≤ a₀.size) (hok : ok ≤ n) (hB : TB a₀ st) (hs : SegS (arrOf st) lo ok)
    (h : ∀ st', TB a₀ st' → From lo st st' → SegS (arrOf st') lo n → Q true st') : wpS (model prog w) A E s (binarySort' lo n ok) Q st := by
  rw [binarySort'_eq]
  refine wpS_bind (wpS_mono (wpS_forRange (I := fun k c st' => c = (none, ()) ∧ TB a₀ st' ∧ From lo st st' ∧ SegS (arrOf st') lo (min k n))
    (Q := fun c st' => c = (none, ()) ∧ TB a₀ st' ∧ From lo st st' ∧ SegS (arrOf st') lo n) ?step ?fin ?init) ?post)
  case post =>
    rintro c st' ⟨rfl, hB', fr, hs'⟩
    exact wpS_pure (h st' hB' fr hs')
  case init =>
    refine ⟨rfl, hB, From.refl _ _, fun i j h1 hij hj => ?_⟩
    by_cases h1 : ok = 0
    · have : i = j := by omega
      subst this; exact Int.le_refl _
    · exact hs i j (by omega) hij (by omega)
  case fin =>
    rintro c st' ⟨hc, hB', fr, hs'⟩
    refine ⟨hc, hB', fr, ?_⟩
    rwa [show min (max (max ok 1) n) n = n by omega] at hs'
  case step =>
    rintro k c st' hak hkn ⟨rfl, hB', fr, hs'⟩
    rw [show min k n = k by omega] at hs'
    have hk : lo + k < a₀.size := by omega
    refine wpS_bind (wpS_mono (wpS_forRange (I := fun x c st'' => st'' = st' ∧ ∃ l r, c = (none, l, r) ∧ l ≤ r ∧ r ≤ k ∧ r - l ≤ k - x ∧
        (∀ i, lo ≤ i → i < lo + l → K (arrOf st') i ≤ K (arrOf st') (lo + k)) ∧ (∀ i, lo + r ≤ i → i < lo + k → K (arrOf st') (lo + k) < K (arrOf st') i))
      (Q := fun c st'' => st'' = st' ∧ ∃ l r, c = (none, l, r) ∧ l ≤ k ∧
        (∀ i, lo ≤ i → i < lo + l → K (arrOf st') i ≤ K (arrOf st') (lo + k)) ∧ (∀ i, lo + l ≤ i → i < lo + k → K (arrOf st') (lo + k) < K (arrOf st') i)) ?istep ?ifin ?iinit) ?ipost)
    case iinit => exact ⟨rfl, 0, k, rfl, by omega, by omega, by omega, fun i hi h2 => by omega, fun i h1 h2 => by omega⟩
    case ifin =>
      rintro c st'' ⟨rfl, l, r, rfl, hlr, hrk, hm, hlo, hhi⟩
      have : l = r := by omega
      subst this
      exact ⟨rfl, l, l, rfl, hrk, hlo, hhi⟩
    case istep =>
      rintro x c st'' _ hxk ⟨rfl, l, r, rfl, hlr, hrk, hm, hlo, hhi⟩
      dsimp only
      by_cases hge : l ≥ r
      · rw [if_pos hge]
        have : l = r := by omega
        subst this
        exact wpS_pure ⟨rfl, l, l, rfl, hrk, hlo, hhi⟩
      · rw [if_neg hge]
        refine wpS_bind (wpS_ltT hB' h0 hk (by omega) ?_)
        by_cases hless : K (arrOf st'') (lo + k) < K (arrOf st'') (lo + (l + r) / 2)
        · simp only [hless, decide_true, if_true]
          refine wpS_pure ⟨rfl, l, (l + r) / 2, rfl, by omega, by omega, by omega, hlo, fun i h1 h2 => ?_⟩
          exact Int.lt_of_lt_of_le hless (hs' _ _ (by omega) h1 h2)
        · simp only [hless, decide_false, Bool.false_eq_true, if_false]
          refine wpS_pure ⟨rfl, (l + r) / 2 + 1, r, rfl, by omega, by omega, by omega, fun i h0' h1 => ?_, hhi⟩
          exact Int.le_trans (hs' i (lo + (l + r) / 2) h0' (by omega) (by omega)) (Int.not_lt.mp hless)
    case ipost =>
      rintro c st'' ⟨rfl, l, r, rfl, hlk, hlo, hhi⟩
      show wpS _ _ _ _ (do moveDown' (lo + k) (lo + l); pure (ForInStep.yield (none, ()))) _ _
      rw [moveDown'_eq]
      have hks : lo + k < (arrOf st'').size := by rw [hB'.size]; exact hk
      refine wpS_bind (wpS_modify (wpS_pure ⟨rfl, hB'.setArr (bubble_perm _ _ _), fr.trans ⟨rfl, fun t ht => ?_⟩, ?_⟩))
      · show (bubble (arrOf st'') (lo + k) (lo + k - (lo + l)))[t]? = _
        rw [getElem?_bubble hks _ (by omega), if_neg (by omega), if_neg (by omega)]
      rw [show min (k + 1) n = k + 1 by omega]
      intro i j h1 hij hj
      show K (bubble (arrOf st'') (lo + k) (lo + k - (lo + l))) i ≤ K (bubble (arrOf st'') (lo + k) (lo + k - (lo + l))) j
      rw [K_bubble hks (by omega), K_bubble hks (by omega), show lo + k - (lo + k - (lo + l)) = lo + l by omega]
      repeat' split
      all_goals first
        | (exfalso; omega)
        | exact Int.le_refl _
        | exact hlo _ (by omega) (by omega)
        | exact Int.le_of_lt (hhi _ (by omega) (by omega))
        | exact hs' _ _ (by omega) (by omega) (by omega)
theorem wpS_runT {a₀ : Array Keyed} {st : SortSt} {lo nrem : Nat} {Q : Option Nat → SortSt → Prop} (h0 : AllI a₀) (hd : Dst a₀) (hn : lo + nrem ≤ a₀.size) (h1 : 1 ≤ nrem) (hB : TB a₀ st)
    (h : ∀ m st', TB a₀ st' → From lo st st' → 1 ≤ m → m ≤ nrem → SegS (arrOf st') lo m → Q (some m) st') : wpS (model prog w) A E s (countRun' lo nrem) Q st := by
  rw [countRun'_eq]
  refine wpS_bind (wpS_mono (wpS_forRange (I := fun x c st' => st' = st ∧ c = (none, x) ∧ SegS (arrOf st) lo x)
    (Q := fun c st' => st' = st ∧ ∃ n, c = (none, n) ∧ 1 ≤ n ∧ n ≤ nrem ∧ SegS (arrOf st) lo n ∧ (n = nrem ∨ K (arrOf st) (lo + n) < K (arrOf st) (lo + n - 1))) ?step ?fin ⟨rfl, rfl, seg_one _ _⟩) ?post)
  case fin =>
    rintro c st' ⟨rfl, rfl, hs'⟩
    rw [show max 1 nrem = nrem by omega] at hs' ⊢
    exact ⟨rfl, nrem, rfl, h1, Nat.le_refl _, hs', .inl rfl⟩
  case step =>
    rintro x c st' hax hxn ⟨rfl, rfl, hs'⟩
    dsimp only
    refine wpS_bind (wpS_ltT hB h0 (by omega) (by omega) ?_)
    by_cases hless : K (arrOf st') (lo + x) < K (arrOf st') (lo + x - 1)
    · simp only [hless, decide_true, if_true]
      exact wpS_pure ⟨rfl, x, rfl, hax, by omega, hs', .inr hless⟩
    · simp only [hless, decide_false, Bool.false_eq_true, if_false]
      refine wpS_pure ⟨rfl, rfl, fun i j q1 hij hj => ?_⟩
      by_cases hjx : j < lo + x
      · exact hs' i j q1 hij hjx
      · have hj' : j = lo + x := by omega
        subst hj'
        by_cases hi' : i = lo + x
        · subst hi'; exact Int.le_refl _
        · exact Int.le_trans (hs' i (lo + x - 1) q1 (by omega) (by omega)) (Int.not_lt.mp hless)
  case post =>
    rintro c st' ⟨rfl, n, rfl, n1, n2, hs, hor⟩
    dsimp only
    by_cases nn : n = nrem
    · rw [if_pos (by simpa using nn)]
      exact wpS_pure (h n st' hB (From.refl _ _) n1 n2 hs)
    rw [if_neg (by simpa using nn)]
    have hlt := hor.resolve_left nn
    by_cases g1 : n > 1
    · rw [if_pos g1]
      refine wpS_bind (wpS_ltT hB h0 (by omega) (by omega) ?_)
      have q1 := hs lo (lo + n - 1) (Nat.le_refl _) (by omega) (by omega)
      have q2 := hB.ne hd (i := lo) (j := lo + n - 1) (by omega) (by omega)
      have q3 : K (arrOf st') lo < K (arrOf st') (lo + n - 1) := by omega
      simp only [q3, decide_true, if_true]
      exact wpS_pure (h n st' hB (From.refl _ _) n1 n2 hs)
    rw [if_neg g1]
    have e1 : n = 1 := by omega
    subst e1
    have ni : ∀ i j, lo ≤ i → i ≤ j → j < lo + (1 + 1) → K (arrOf st') j ≤ K (arrOf st') i := fun i j q1 q2 q3 => by
      by_cases ij : i = j
      · subst ij; exact Int.le_refl _
      · have e1 : i = lo := by omega
        have e2 : j = lo + 1 := by omega
        rw [e1, e2]
        rw [show lo + 1 - 1 = lo by omega] at hlt
        omega
    refine wpS_bind (wpS_lift (wpAny_rule ⟨rfl, ?_⟩))
    refine wpS_bind (wpS_mono (wpS_forRange (I := fun x c st2 => st2 = st' ∧ c = (none, x, 0) ∧ ∀ i j, lo ≤ i → i ≤ j → j < lo + x → K (arrOf st') j ≤ K (arrOf st') i)
      (Q := fun c st2 => st2 = st' ∧ ∃ m, c = (none, m, 0) ∧ 2 ≤ m ∧ m ≤ nrem ∧ ∀ i j, lo ≤ i → i ≤ j → j < lo + m → K (arrOf st') j ≤ K (arrOf st') i) ?step2 ?fin2 ⟨rfl, rfl, ni⟩) ?post2)
    case fin2 =>
      rintro c st2 ⟨rfl, rfl, hs'⟩
      rw [show max (1 + 1) nrem = nrem by omega] at hs' ⊢
      exact ⟨rfl, nrem, rfl, by omega, Nat.le_refl _, hs'⟩
    case step2 =>
      rintro x c st2 hax hxn ⟨rfl, rfl, hs'⟩
      dsimp only
      refine wpS_bind (wpS_ltT hB h0 (by omega) (by omega) ?_)
      by_cases hless : K (arrOf st2) (lo + x) < K (arrOf st2) (lo + x - 1)
      · simp only [hless, decide_true, if_true]
        rw [if_neg (by omega)]
        refine wpS_pure ⟨rfl, rfl, fun i j q1 q2 q3 => ?_⟩
        by_cases hjx : j < lo + x
        · exact hs' i j q1 q2 hjx
        · have hj' : j = lo + x := by omega
          subst hj'
          by_cases hi' : i = lo + x
          · subst hi'; exact Int.le_refl _
          · exact Int.le_trans (Int.le_of_lt hless) (hs' i (lo + x - 1) q1 (by omega) (by omega))
      · simp only [hless, decide_false, Bool.false_eq_true, if_false]
        refine wpS_bind (wpS_ltT hB h0 (by omega) (by omega) ?_)
        have q2 := hB.ne hd (i := lo + x - 1) (j := lo + x) (by omega) (by omega)
        have q3 : K (arrOf st2) (lo + x - 1) < K (arrOf st2) (lo + x) := by omega
        simp only [q3, decide_true, if_true]
        exact wpS_pure ⟨rfl, x, rfl, by omega, by omega, hs'⟩
    case post2 =>
      rintro c st2 ⟨rfl, m, rfl, m2, m3, hs'⟩
      dsimp only
      rw [if_neg (by omega)]
      have hz := hB.size
      refine wpS_bind (wpS_reverse ?_)
      have em : ∀ t, (mirror (arrOf st2) lo (lo + m) ((lo + m - lo) / 2))[t]? = if lo ≤ t ∧ t < lo + m then (arrOf st2)[lo + (lo + m) - 1 - t]? else (arrOf st2)[t]? := fun t => getElem?_mirror_all (by omega) t
      generalize hst : setArr st2 (mirror (arrOf st2) lo (lo + m) ((lo + m - lo) / 2)) = st3
      have B3 : TB a₀ st3 := by rw [← hst]; exact hB.setArr (mirror_perm _ _ _ _)
      have fr3 : From lo st2 st3 := by
        rw [← hst]
        refine ⟨rfl, fun t ht => ?_⟩
        show (mirror (arrOf st2) lo (lo + m) ((lo + m - lo) / 2))[t]? = _
        rw [em, if_neg (by omega)]
      have s3 : SegS (arrOf st3) lo m := by
        rw [← hst]
        intro i j q1 q2 q3
        show K (mirror (arrOf st2) lo (lo + m) ((lo + m - lo) / 2)) i ≤ K (mirror (arrOf st2) lo (lo + m) ((lo + m - lo) / 2)) j
        have w1 : K (mirror (arrOf st2) lo (lo + m) ((lo + m - lo) / 2)) i = K (arrOf st2) (lo + (lo + m) - 1 - i) := K_congr (by rw [em, if_pos (by omega)])
        have w2 : K (mirror (arrOf st2) lo (lo + m) ((lo + m - lo) / 2)) j = K (arrOf st2) (lo + (lo + m) - 1 - j) := K_congr (by rw [em, if_pos (by omega)])
        rw [w1, w2]
        exact hs' _ _ (by omega) (by omega) (by omega)
      clear hst em
      refine wpS_bind (wpS_mono (wpS_forRange (I := fun x c st4 => st4 = st3 ∧ c = (none, x) ∧ SegS (arrOf st3) lo x)
        (Q := fun c st4 => st4 = st3 ∧ ∃ k, c = (none, k) ∧ 1 ≤ k ∧ k ≤ nrem ∧ SegS (arrOf st3) lo k) ?step3 ?fin3 ⟨rfl, rfl, s3⟩) ?post3)
      case fin3 =>
        rintro c st4 ⟨rfl, rfl, hs4⟩
        rw [show max m nrem = nrem by omega] at hs4 ⊢
        exact ⟨rfl, nrem, rfl, h1, Nat.le_refl _, hs4⟩
      case step3 =>
        rintro x c st4 hax hxn ⟨rfl, rfl, hs4⟩
        dsimp only
        refine wpS_bind (wpS_ltT B3 h0 (by omega) (by omega) ?_)
        by_cases hless : K (arrOf st4) (lo + x) < K (arrOf st4) (lo + x - 1)
        · simp only [hless, decide_true, if_true]
          exact wpS_pure ⟨rfl, x, rfl, by omega, by omega, hs4⟩
        · simp only [hless, decide_false, Bool.false_eq_true, if_false]
          refine wpS_pure ⟨rfl, rfl, fun i j q1 hij hj => ?_⟩
          by_cases hjx : j < lo + x
          · exact hs4 i j q1 hij hjx
          · have hj' : j = lo + x := by omega
            subst hj'
            by_cases hi' : i = lo + x
            · subst hi'; exact Int.le_refl _
            · exact Int.le_trans (hs4 i (lo + x - 1) q1 (by omega) (by omega)) (Int.not_lt.mp hless)
      case post3 =>
        rintro c st4 ⟨rfl, k, rfl, k1, k2, hs4⟩
        exact wpS_pure (h k st4 B3 fr3 k1 k2 hs4)
noncomputable def Runs (arr : Array Keyed) : Nat → List (Nat × Nat × Nat) → Nat → Prop
  | s, [], e => s = e
  | s, (a, n, _) :: r, e => a = s ∧ 1 ≤ n ∧ SegS arr s n ∧ Runs arr (s + n) r e
theorem seg_congr {arr arr' : Array Keyed} {lo n : Nat} (h : ∀ t, lo ≤ t → t < lo + n → arr'[t]? = arr[t]?) (k : SegS arr lo n) : SegS arr' lo n := fun i j h1 h2 h3 => by
  rw [K_congr (h i h1 (by omega)), K_congr (h j (by omega) h3)]
  exact k i j h1 h2 h3
theorem Runs.le {arr : Array Keyed} : ∀ {P : List (Nat × Nat × Nat)} {s e : Nat}, Runs arr s P e → s + P.length ≤ e
  | [], s, e, h => by have : s = e := h; simp; omega
  | (a, n, p) :: r, s, e, h => by
    have := Runs.le h.2.2.2
    have := h.2.1
    simp
    omega
theorem Runs.congr {arr arr' : Array Keyed} : ∀ {P : List (Nat × Nat × Nat)} {s e : Nat}, (∀ t, s ≤ t → t < e → arr'[t]? = arr[t]?) → Runs arr s P e → Runs arr' s P e
  | [], s, e, _, h => h
  | (a, n, p) :: r, s, e, k, h => by
    have := Runs.le h.2.2.2
    exact ⟨h.1, h.2.1, seg_congr (fun t h1 h2 => k t h1 (by omega)) h.2.2.1, Runs.congr (fun t h1 h2 => k t (by omega) h2) h.2.2.2⟩
theorem Runs.push {arr : Array Keyed} {n : Nat} (n1 : 1 ≤ n) : ∀ {P : List (Nat × Nat × Nat)} {s e : Nat}, Runs arr s P e → SegS arr e n → Runs arr s (P ++ [(e, n, 0)]) (e + n)
  | [], s, e, h, k => by
    have : s = e := h
    subst this
    exact ⟨rfl, n1, k, rfl⟩
  | (a, m, p) :: r, s, e, h, k => ⟨h.1, h.2.1, h.2.2.1, Runs.push n1 h.2.2.2 k⟩
theorem Runs.at {arr : Array Keyed} : ∀ {P : List (Nat × Nat × Nat)} {s e i sa na pw sb nb pw2 : Nat}, Runs arr s P e → P[i]? = some (sa, na, pw) → P[i + 1]? = some (sb, nb, pw2) →
    s ≤ sa ∧ sb = sa + na ∧ 1 ≤ na ∧ 1 ≤ nb ∧ SegS arr sa na ∧ SegS arr sb nb ∧ sa + na + nb ≤ e ∧
      ∀ arr', (∀ t, t < sa ∨ sa + na + nb ≤ t → arr'[t]? = arr[t]?) → SegS arr' sa (na + nb) → Runs arr' s ((P.set i (sa, na + nb, pw)).eraseIdx (i + 1)) e
  | [], s, e, i, sa, na, pw, sb, nb, pw2, h, e1, e2 => by simp at e1
  | (a, n, p) :: r, s, e, 0, sa, na, pw, sb, nb, pw2, h, e1, e2 => by
    simp at e1
    obtain ⟨rfl, rfl, rfl⟩ := e1
    cases r with
    | nil => simp at e2
    | cons q r =>
      obtain ⟨b, m, p'⟩ := q
      simp at e2
      obtain ⟨rfl, rfl, rfl⟩ := e2
      obtain ⟨rfl, n1, s1, rfl, m1, s2, rest⟩ := h
      have := Runs.le rest
      refine ⟨Nat.le_refl _, rfl, n1, m1, s1, s2, by omega, fun arr' k sg => ?_⟩
      exact ⟨rfl, by omega, sg, by rw [← Nat.add_assoc]; exact Runs.congr (fun t h1 h2 => k t (.inr (by omega))) rest⟩
  | (a, n, p) :: r, s, e, i + 1, sa, na, pw, sb, nb, pw2, h, e1, e2 => by
    simp at e1 e2
    obtain ⟨rfl, n1, s1, rest⟩ := h
    obtain ⟨q1, q2, q3, q4, q5, q6, q7, q8⟩ := Runs.at rest e1 e2
    refine ⟨by omega, q2, q3, q4, q5, q6, q7, fun arr' k sg => ?_⟩
    exact ⟨rfl, n1, seg_congr (fun t h1 h2 => k t (.inl (by omega))) s1, q8 arr' k sg⟩
theorem Runs.power {arr : Array Keyed} {pw : Nat} : ∀ {P : List (Nat × Nat × Nat)} {s e : Nat}, Runs arr s P e → ∀ i, Runs arr s (P.modify i fun x => (x.1, x.2.1, pw)) e
  | [], s, e, h, i => by simpa using h
  | (a, n, p) :: r, s, e, h, 0 => by
    rw [List.modify_zero_cons]
    exact ⟨h.1, h.2.1, h.2.2.1, h.2.2.2⟩
  | (a, n, p) :: r, s, e, h, i + 1 => by
    rw [List.modify_succ_cons]
    exact ⟨h.1, h.2.1, h.2.2.1, Runs.power h.2.2.2 i⟩
theorem wpS_mergeT {a₀ : Array Keyed} {st : SortSt} {i e : Nat} {Q : Bool → SortSt → Prop} (h0 : AllI a₀) (hB : TB a₀ st) (r : Runs (arrOf st) 0 (pendingOf st).toList e) (he : e ≤ a₀.size) (hi : i + 1 < (pendingOf st).size)
    (h : ∀ st', TB a₀ st' → Runs (arrOf st') 0 (pendingOf st').toList e → (pendingOf st').size + 1 = (pendingOf st).size → (∀ t, e ≤ t → (arrOf st')[t]? = (arrOf st)[t]?) → Q true st') : wpS (model prog w) A E s (mergeAt' i) Q st := by
  have l : (pendingOf st).toList.length = (pendingOf st).size := by simp
  obtain ⟨⟨sa, na, pw⟩, e1⟩ : ∃ x, (pendingOf st).toList[i]? = some x := ⟨_, List.getElem?_eq_getElem (by omega)⟩
  obtain ⟨⟨sb, nb, pw2⟩, e2⟩ : ∃ x, (pendingOf st).toList[i + 1]? = some x := ⟨_, List.getElem?_eq_getElem (by omega)⟩
  obtain ⟨q1, q2, q3, q4, q5, q6, q7, q8⟩ := r.at e1 e2
  subst q2
  refine wpS_mergeAt hB.kind hB.failed (hB.all h0) (by rw [← Array.getElem?_toList]; exact e1) (by rw [← Array.getElem?_toList]; exact e2) q3 q4 (by rw [hB.size]; omega) q5 q6 fun st' k f pn pm sg out => ?_
  have tl : (pendingOf st').toList = ((pendingOf st).toList.set i (sa, na + nb, pw)).eraseIdx (i + 1) := by rw [pn]; simp
  refine h st' ⟨pm.trans hB.perm, k, f⟩ ?_ ?_ fun t ht => out t (.inr (by omega))
  · rw [tl]
    exact q8 _ out sg
  · have l' : (pendingOf st').toList.length = (pendingOf st').size := by simp
    rw [← l', tl, List.length_eraseIdx, List.length_set]
    rw [if_pos (by omega)]
    omega
theorem wpS_sortT {a₀ : Array Keyed} {st : SortSt} {Q : Unit → SortSt → Prop} (h0 : AllI a₀) (hd : Dst a₀) (hB : TB a₀ st) (hp : pendingOf st = #[]) (h2 : 1 ≤ a₀.size)
    (h : ∀ st', (arrOf st').Perm a₀ → failedOf st' = none → SortedTo (arrOf st') a₀.size → Q () st') : wpS (model prog w) A E s sortRuns' Q st := by
  rw [sortRuns'_eq]
  refine wpS_bind (wpS_get ?_)
  dsimp only
  simp only [hB.size]
  generalize minRun' a₀.size a₀.size 0 = mr
  refine wpS_bind (wpS_mono (wpS_forRange
    (I := fun x c st' => ∃ lo, c = (none, lo) ∧ TB a₀ st' ∧ Runs (arrOf st') 0 (pendingOf st').toList lo ∧ lo ≤ a₀.size ∧ (x ≤ lo ∨ lo = a₀.size))
    (Q := fun c st' => c = (none, a₀.size) ∧ TB a₀ st' ∧ Runs (arrOf st') 0 (pendingOf st').toList a₀.size) ?step ?fin ⟨0, rfl, hB, by rw [hp]; rfl, by omega, .inl (Nat.le_refl _)⟩) ?post)
  case fin =>
    rintro c st' ⟨lo, rfl, B, r, l1, l2⟩
    have : lo = a₀.size := by omega
    subst this
    exact ⟨rfl, B, r⟩
  case step =>
    rintro x c st1 _ hx ⟨lo, rfl, B1, r1, l1, l2⟩
    dsimp only
    by_cases c : lo ≥ a₀.size
    · rw [if_pos c]
      have : lo = a₀.size := by omega
      subst this
      exact wpS_pure ⟨rfl, B1, r1⟩
    rw [if_neg c]
    refine wpS_bind (wpS_runT h0 hd (by omega) (by omega) B1 fun m st2 B2 fr2 m1 m2 s2 => ?_)
    dsimp only
    have r2 : Runs (arrOf st2) 0 (pendingOf st2).toList lo := by
      rw [fr2.1]
      exact Runs.congr (fun t _ ht => fr2.2 t ht) r1
    have last : ∀ (n : Nat) (st2 : SortSt), 1 ≤ n → lo + n ≤ a₀.size → TB a₀ st2 → Runs (arrOf st2) 0 (pendingOf st2).toList lo → SegS (arrOf st2) lo n → wpS (model prog w) A E s (do
        modify fun s => setPending s ((pendingOf s).push (lo, n, 0))
        pure (ForInStep.yield ((none, lo + n) : Option Unit × Nat)))
        (fun r st' => match r with
          | .done c' => c' = (none, a₀.size) ∧ TB a₀ st' ∧ Runs (arrOf st') 0 (pendingOf st').toList a₀.size
          | .yield c' => ∃ lo, c' = (none, lo) ∧ TB a₀ st' ∧ Runs (arrOf st') 0 (pendingOf st').toList lo ∧ lo ≤ a₀.size ∧ (x + 1 ≤ lo ∨ lo = a₀.size)) st2 := fun n st2 n1 hn B2 r2 s2 => by
      refine wpS_bind (wpS_modify (wpS_pure ⟨lo + n, rfl, ⟨B2.perm, B2.kind, B2.failed⟩, ?_, hn, by omega⟩))
      show Runs (arrOf st2) 0 ((pendingOf st2).push (lo, n, 0)).toList (lo + n)
      rw [Array.toList_push]
      exact r2.push n1 s2
    by_cases c3 : m < mr
    · rw [if_pos c3]
      refine wpS_bind (wpS_lift (wpAny_rule ⟨rfl, ?_⟩))
      refine wpS_bind (wpS_binT h0 (by omega) (by omega) B2 s2 fun st3 B3 fr3 s3 => ?_)
      rw [if_neg (by simp)]
      have r3 : Runs (arrOf st3) 0 (pendingOf st3).toList lo := by
        rw [fr3.1]
        exact Runs.congr (fun t _ ht => fr3.2 t ht) r2
      refine wpS_bind (wpS_get ?_)
      cases hb : (pendingOf st3).back? with
      | none => exact wpS_mono (last (min (a₀.size - lo) mr) st3 (by omega) (by omega) B3 r3 s3) fun r st' hh => by cases r <;> exact hh
      | some y =>
        obtain ⟨s1, k1, p1⟩ := y
        dsimp only
        refine wpS_bind (wpS_mono (wpS_forRange (I := fun x c st2 => c = (none, ()) ∧ TB a₀ st2 ∧ Runs (arrOf st2) 0 (pendingOf st2).toList lo ∧ SegS (arrOf st2) lo (min (a₀.size - lo) mr))
          (Q := fun c st2 => c = (none, ()) ∧ TB a₀ st2 ∧ Runs (arrOf st2) 0 (pendingOf st2).toList lo ∧ SegS (arrOf st2) lo (min (a₀.size - lo) mr)) ?stepA ?finA ⟨rfl, B3, r3, s3⟩) ?postA)
        case finA => exact fun _ _ hh => hh
        case stepA =>
          rintro x' c' st4 _ hx' ⟨rfl, B4, r4, sg4⟩
          refine wpS_bind (wpS_get ?_)
          by_cases c1 : (pendingOf st4).size > 1
          · rw [if_pos c1]
            obtain ⟨⟨f1, f2, older⟩, e1⟩ : ∃ x, (pendingOf st4)[(pendingOf st4).size - 2]? = some x := ⟨_, getElem?_pos _ _ (by omega)⟩
            rw [e1]
            dsimp only
            by_cases c2 : older ≤ power' a₀.size (2 * s1 + k1) (2 * s1 + k1 + k1 + (min (a₀.size - lo) mr)) a₀.size
            · rw [if_pos c2]
              exact wpS_pure ⟨rfl, B4, r4, sg4⟩
            · rw [if_neg c2]
              refine wpS_bind (wpS_mergeT h0 B4 r4 (by omega) (by omega) fun st5 B5 r5 _ out => ?_)
              rw [if_neg (by simp)]
              exact wpS_pure ⟨rfl, B5, r5, seg_congr (fun t h1 _ => out t h1) sg4⟩
          · rw [if_neg c1]
            exact wpS_pure ⟨rfl, B4, r4, sg4⟩
        case postA =>
          rintro c' st4 ⟨rfl, B4, r4, sg4⟩
          dsimp only
          refine wpS_bind (wpS_modify ?_)
          refine wpS_mono (last (min (a₀.size - lo) mr) (setPending st4 ((pendingOf st4).modify ((pendingOf st4).size - 1) fun x => (x.fst, x.2.fst, power' a₀.size (2 * s1 + k1) (2 * s1 + k1 + k1 + (min (a₀.size - lo) mr)) a₀.size))) (by omega) (by omega) ⟨B4.perm, B4.kind, B4.failed⟩ ?_ sg4) fun r st' hh => by cases r <;> exact hh
          show Runs (arrOf st4) 0 ((pendingOf st4).modify ((pendingOf st4).size - 1) fun x => (x.fst, x.2.fst, power' a₀.size (2 * s1 + k1) (2 * s1 + k1 + k1 + (min (a₀.size - lo) mr)) a₀.size)).toList lo
          rw [Array.toList_modify]
          exact r4.power _
    · rw [if_neg c3]
      refine wpS_bind (wpS_get ?_)
      cases hb : (pendingOf st2).back? with
      | none => exact wpS_mono (last m st2 (by omega) (by omega) B2 r2 s2) fun r st' hh => by cases r <;> exact hh
      | some y =>
        obtain ⟨s1, k1, p1⟩ := y
        dsimp only
        refine wpS_bind (wpS_mono (wpS_forRange (I := fun x c st2 => c = (none, ()) ∧ TB a₀ st2 ∧ Runs (arrOf st2) 0 (pendingOf st2).toList lo ∧ SegS (arrOf st2) lo m)
          (Q := fun c st2 => c = (none, ()) ∧ TB a₀ st2 ∧ Runs (arrOf st2) 0 (pendingOf st2).toList lo ∧ SegS (arrOf st2) lo m) ?stepB ?finB ⟨rfl, B2, r2, s2⟩) ?postB)
        case finB => exact fun _ _ hh => hh
        case stepB =>
          rintro x' c' st4 _ hx' ⟨rfl, B4, r4, sg4⟩
          refine wpS_bind (wpS_get ?_)
          by_cases c1 : (pendingOf st4).size > 1
          · rw [if_pos c1]
            obtain ⟨⟨f1, f2, older⟩, e1⟩ : ∃ x, (pendingOf st4)[(pendingOf st4).size - 2]? = some x := ⟨_, getElem?_pos _ _ (by omega)⟩
            rw [e1]
            dsimp only
            by_cases c2 : older ≤ power' a₀.size (2 * s1 + k1) (2 * s1 + k1 + k1 + m) a₀.size
            · rw [if_pos c2]
              exact wpS_pure ⟨rfl, B4, r4, sg4⟩
            · rw [if_neg c2]
              refine wpS_bind (wpS_mergeT h0 B4 r4 (by omega) (by omega) fun st5 B5 r5 _ out => ?_)
              rw [if_neg (by simp)]
              exact wpS_pure ⟨rfl, B5, r5, seg_congr (fun t h1 _ => out t h1) sg4⟩
          · rw [if_neg c1]
            exact wpS_pure ⟨rfl, B4, r4, sg4⟩
        case postB =>
          rintro c' st4 ⟨rfl, B4, r4, sg4⟩
          dsimp only
          refine wpS_bind (wpS_modify ?_)
          refine wpS_mono (last m (setPending st4 ((pendingOf st4).modify ((pendingOf st4).size - 1) fun x => (x.fst, x.2.fst, power' a₀.size (2 * s1 + k1) (2 * s1 + k1 + k1 + m) a₀.size))) (by omega) (by omega) ⟨B4.perm, B4.kind, B4.failed⟩ ?_ sg4) fun r st' hh => by cases r <;> exact hh
          show Runs (arrOf st4) 0 ((pendingOf st4).modify ((pendingOf st4).size - 1) fun x => (x.fst, x.2.fst, power' a₀.size (2 * s1 + k1) (2 * s1 + k1 + k1 + m) a₀.size)).toList lo
          rw [Array.toList_modify]
          exact r4.power _
  case post =>
    rintro c st1 ⟨rfl, B1, r1⟩
    dsimp only
    have l1 : (pendingOf st1).toList.length = (pendingOf st1).size := by simp
    have ll := r1.le
    refine wpS_bind (wpS_mono (wpS_forRange (I := fun x c st2 => c = (none, ()) ∧ TB a₀ st2 ∧ Runs (arrOf st2) 0 (pendingOf st2).toList a₀.size ∧ (pendingOf st2).size + x ≤ a₀.size + 1)
      (Q := fun c st2 => c = (none, ()) ∧ TB a₀ st2 ∧ Runs (arrOf st2) 0 (pendingOf st2).toList a₀.size ∧ (pendingOf st2).size ≤ 1) ?step4 ?fin4 ⟨rfl, B1, r1, by omega⟩) ?post4)
    case fin4 =>
      rintro c st2 ⟨rfl, B2, r2, l2⟩
      exact ⟨rfl, B2, r2, by omega⟩
    case step4 =>
      rintro x c st2 _ hx ⟨rfl, B2, r2, l2⟩
      refine wpS_bind (wpS_get ?_)
      by_cases c1 : (pendingOf st2).size ≤ 1
      · rw [if_pos c1]
        exact wpS_pure ⟨rfl, B2, r2, c1⟩
      rw [if_neg c1]
      refine wpS_bind (wpS_mergeT h0 B2 r2 (Nat.le_refl _) ?_ fun st3 B3 r3 l3 _ => ?_)
      · have key : ∀ b : Bool, (if b = true then (pendingOf st2).size - 2 - 1 else (pendingOf st2).size - 2) + 1 < (pendingOf st2).size := fun b => by cases b <;> simp <;> omega
        exact key _
      · rw [if_neg (by simp)]
        exact wpS_pure ⟨rfl, B3, r3, by omega⟩
    case post4 =>
      rintro c st2 ⟨rfl, B2, r2, l2⟩
      refine wpS_pure (h _ B2.perm B2.failed ?_)
      have l3 : (pendingOf st2).toList.length = (pendingOf st2).size := by simp
      generalize (pendingOf st2).toList = P at *
      cases P with
      | nil =>
        have : 0 = a₀.size := r2
        omega
      | cons p P =>
        cases P with
        | nil =>
          obtain ⟨a, n, pw⟩ := p
          obtain ⟨_, _, sg, e⟩ := r2
          have e : 0 + n = a₀.size := e
          exact fun i j h1 h2 => sg i j (by omega) h1 (by omega)
        | cons q P => simp at l3; omega
end
end PySem.Tim
namespace PySem.Tim
open PySem PyProof.Rows
section
variable {prog : Program} {w : World} {A : Around} {E : Value → Shared → Prop} {s : Shared}
theorem ints_nums : ∀ {vs : List Value} {ns : List Int}, IntsAre vs ns → vs.map numOf = ns
  | _, _, .nil => rfl
  | _, _, .cons n t h => by rw [List.map_cons, ints_nums h]; rfl
theorem pairs_kn (vs : List Value) : (pairsOf vs).toList.map kn = vs.map numOf := by
  rw [pairsOf_toList]
  induction vs with
  | nil => rfl
  | cons v r ih => rw [List.zip_cons_cons, List.map_cons, ih, List.map_cons]
theorem sort_many {a : Addr} {vs : List Value} {ns : List Int} {n : Nat} {P : PySem.Fin → Shared → Prop} (ho : s.heap.get? a = some (seqObj "list" vs.toArray n)) (hI : IntsAre vs ns) (nd : ns.Nodup) (h2 : 2 ≤ vs.length) (hz : vs.length ≤ sizeLine)
    (h : ∀ (out : Array Value) (ns' : List Int), IntsAre out.toList ns' → ns'.Perm ns → ns'.Pairwise (· ≤ ·) → P (.done (.ret .none)) { s with heap := sortedHeap s.heap a vs out }) :
    wpAny (model prog w) A (Builtin.«list.sort» ⟨[.ref a], []⟩) P E s := by
  rw [list_sort_plain]
  have ha : a < s.heap.objs.size := Heap.lt_size ho
  have hv : vs.toArray.size = vs.length := by simp
  refine wpAny_bind (listItems_at ho rfl (wpAny_bind (listUpdate_at ho rfl ?_ (hsz := by rw [hv]; exact hz) (hsz2 := Nat.zero_le _))))
  obtain ⟨e1, ho1⟩ : ∃ e1, (s.heap.update a (Obj.mapSeq fun _ => #[])).get? a = some (seqObj "list" #[] e1) := ⟨_, get?_update_seq ho (fun _ => #[])⟩
  refine wpAny_bind (seqEpoch_at ho1 rfl (wpAny_bind (wpAny_newTuple (wpAny_bind (wpAny_newList (wpAny_holding ?_))) (by rw [List.toList_toArray]; exact hz))))
  show wpAny (model prog w) A _ P E { s with heap := ((s.heap.update a (Obj.mapSeq fun _ => #[])).push (seqObj "tuple" vs.toArray 0)).push (seqObj "list" #[] 0) }
  generalize hh : (((s.heap.update a (Obj.mapSeq fun _ => #[])).push (seqObj "tuple" vs.toArray 0)).push (seqObj "list" #[] 0)) = h6
  have ho6 : h6.get? a = some (seqObj "list" #[] e1) := by
    rw [← hh, Heap.get?_push_ne _ _ _ (by rw [size_push', Heap.size_update]; exact Nat.ne_of_lt (Nat.lt_succ_of_lt ha)), Heap.get?_push_ne _ _ _ (by rw [Heap.size_update]; exact Nat.ne_of_lt ha)]
    exact ho1
  dsimp only
  rw [if_neg (by omega), if_neg (by omega)]
  obtain ⟨v₁, v₂, rest, rfl⟩ : ∃ v₁ v₂ rest, vs = v₁ :: v₂ :: rest := by
    match vs, h2 with
    | [], h2 => simp at h2
    | [_], h2 => simp at h2
    | v₁ :: v₂ :: rest, _ => exact ⟨v₁, v₂, rest, rfl⟩
  rw [keyKind_ints hI]
  refine wpAny_bind (wpAny_pure ?_)
  have ds : Dst (pairsOf (v₁ :: v₂ :: rest)) := by unfold Dst; rw [pairs_kn, ints_nums hI]; exact nd
  have sr := wpS_sortT (prog := prog) (w := w) (A := A) (E := E) (s := { s with heap := h6 }) (a₀ := pairsOf (v₁ :: v₂ :: rest)) (st := SortSt.mk' oneType' ((v₁ :: v₂ :: rest).toArray.zip (v₁ :: v₂ :: rest).toArray) #[] 7 none)
    (Q := fun _ st' => (arrOf st').Perm (pairsOf (v₁ :: v₂ :: rest)) ∧ failedOf st' = none ∧ SortedTo (arrOf st') (pairsOf (v₁ :: v₂ :: rest)).size)
    hI.intKeys ds ⟨Array.Perm.refl _, rfl, rfl⟩ rfl (by rw [pairsOf_size]; simp) fun st' a1 a2 a3 => ⟨a1, a2, a3⟩
  refine wpAny_bind (wpAny_mono sr ?_ fun _ _ e => e)
  rintro ⟨⟨⟩, st'⟩ s' ⟨rfl, hp, hf, hs⟩
  dsimp only
  obtain ⟨ns', q1, q2, q3⟩ := sorted_out hI hp hs
  refine wpAny_bind (seqEpoch_at ho6 rfl (wpAny_bind (listUpdate_at ho6 rfl ?_ (hsz := Nat.zero_le _) (hsz2 := by
    refine Nat.le_trans (Nat.le_of_eq ((Array.size_map ..).trans (hp.size_eq.trans (pairsOf_size _)))) ?_
    omega))))
  rw [hf]
  simp only [bne_self_eq_false, Bool.false_eq_true, if_false]
  have fin := h ((arrOf st').map (·.2)) ns' q1 q2 q3
  unfold sortedHeap at fin
  rw [hh] at fin
  exact wpAny_pure fin
theorem sort_all {a : Addr} {vs : List Value} {ns : List Int} {n : Nat} {P : PySem.Fin → Shared → Prop} (ho : s.heap.get? a = some (seqObj "list" vs.toArray n)) (hI : IntsAre vs ns) (nd : ns.Nodup) (hz : vs.length ≤ sizeLine)
    (h : ∀ (out : Array Value) (ns' : List Int), IntsAre out.toList ns' → ns'.Perm ns → ns'.Pairwise (· ≤ ·) → P (.done (.ret .none)) { s with heap := sortedHeap s.heap a vs out }) :
    wpAny (model prog w) A (Builtin.«list.sort» ⟨[.ref a], []⟩) P E s := by
  by_cases c : vs.length < 64
  · exact list_sort_tree ho hI c h
  · exact sort_many ho hI nd (by omega) hz h
end
end PySem.Tim
namespace L2
open PySem PySem.Spec PyProof.Rows PySem.W
section
variable {X : Cx} {K : PySem.W.Frag}
theorem call_sorted_dN (hc : X.calm = true) : CallR X (.builtin "sorted") (fun xs H Q => ∃ d kvs, xs = [.ref d] ∧ Rd H d (.dK kvs) ∧ allI kvs ∧ (keysI kvs).Nodup ∧ kvs.length ≤ 10000 ∧ ∀ l, H l = none → Q (.ref l) (upd H l (.lst (List.map V.int (Nm.srt (keysI kvs)))))) := by
  intro pins s σ H xs us Q I r h
  obtain ⟨d, kvs, rfl, hd, hall, hnd, hn, q⟩ := h
  obtain ⟨u, rfl, rx⟩ := vals1 r
  cases rx
  obtain ⟨hz, lo, vs, kv, dd⟩ := dk_rd I.hok hd
  have hlen : kvs.length = vs.length := Paired.length kv
  obtain ⟨ep, hat⟩ := dd.dictAt
  refine Calls.call_function_entry kind_sorted plain_sorted entry_sorted (args_sorted1 _) ?_
  unfold Builtin.«sorted»
  refine wpAny_bind (m := checkCount "sorted" 1 1 _) (wpAny_pure ?_)
  refine wpAny_bind (kdu_collect (A := X.A.in1) (kdl_dict (kvs := vs) (ep := ep) lo) (I.ok.hd hc) hat (by rw [← hlen, sizeLine_eq]; omega) fun h' tk acc hk hacc => ?_)
  have hl : acc.toList.length = vs.length := by rw [Array.length_toList]; exact hacc.1
  have hI : IntsAre acc.toList (keysI kvs) := by
    have all : ∀ (j : Nat) v, acc.toList[j]? = some v → ∃ i t, v = Value.int i t ∧ (keysI kvs)[j]? = some i := fun j v e => by
      obtain ⟨k, x, hx, hk⟩ := hacc.2 j v (by rw [← Array.getElem?_toList]; exact e)
      obtain ⟨p, e1, e2⟩ : ∃ p, kvs[j]? = some p ∧ p.1 = k := by
        have : ∀ {as : List (Key × V)} {bs : List (Key × Value)} (j : Nat) {b}, KV as bs → bs[j]? = some b → ∃ a, as[j]? = some a ∧ a.1 = b.1 := by
          intro as bs j b r
          induction r generalizing j with
          | nil => intro e; simp at e
          | cons r1 r2 ih =>
            intro e
            cases j with
            | zero => simp at e; subst e; exact ⟨_, rfl, r1.1⟩
            | succ j => simp at e; obtain ⟨a, e1, e2⟩ := ih j e; exact ⟨a, by simpa using e1, e2⟩
        obtain ⟨a, e1, e2⟩ := this j kv hx
        exact ⟨a, e1, e2⟩
      obtain ⟨i, hi⟩ := hall p (List.mem_of_getElem? e1)
      rw [← e2, hi] at hk
      have hk : keyIs (.inl i) v = true := hk
      rcases keyIs_shape hk with ⟨i', t, e3, e4⟩ | ⟨x', t, e3, _⟩
      · cases e3
        refine ⟨i, t, e4, ?_⟩
        unfold keysI
        rw [List.getElem?_map, e1]
        simp [hi]
      · cases e3
    have go : ∀ (us : List Value) (ns : List Int), us.length = ns.length → (∀ (j : Nat) v, us[j]? = some v → ∃ i t, v = Value.int i t ∧ ns[j]? = some i) → IntsAre us ns := by
      intro us
      induction us with
      | nil => intro ns hl _; cases ns with | nil => exact .nil | cons _ _ => simp at hl
      | cons u us ih =>
        intro ns hl k
        cases ns with
        | nil => simp at hl
        | cons n ns =>
          obtain ⟨i, t, rfl, e⟩ := k 0 u rfl
          simp at e
          subst e
          exact .cons n t (ih ns (by simpa using hl) fun j v e => by
            obtain ⟨i, t, e1, e2⟩ := k (j + 1) v (by simpa using e)
            exact ⟨i, t, e1, by simpa using e2⟩)
    refine go _ _ ?_ all
    unfold keysI
    rw [List.length_map, hl, hlen]
  refine wpAny_bind (wpAny_newList ?_ (by rw [hl, ← hlen, sizeLine_eq]; omega))
  have hoL : (h'.push (seqObj "list" acc.toList.toArray 0)).get? h'.objs.size = some (seqObj "list" acc.toList.toArray 0) := Heap.get?_push_size _ rfl
  have I1 : Inv X pins σ H { s with heap := h', toks := tk } := I.kept (t' := tk) hk
  refine wpAny_bind (wpAny_holding (wpAny_call_entry slot_list_sort ⟨_, hoL, rfl⟩ entry_list_sort (PySem.Tim.sort_all hoL hI hnd (by rw [hl, ← hlen, sizeLine_eq]; omega) fun out ns' a1 a2 a3 => ⟨_, rfl, ?_⟩) (args_list_sort _)))
  obtain rfl := Nm.srt_one a2 a3
  obtain ⟨e, he⟩ := sortedHeap_at (out := out) hoL
  have fr := I1.hok.fresh (a := h'.objs.size) (Nat.le_refl _)
  refine wpAny_pure ⟨_, rfl, .ref h'.objs.size, _, I1.laid (t' := tk) (fun b o eb => ?_) (Nat.le_refl _) (o := .lst (List.map V.int (Nm.srt (keysI kvs)))) ⟨?_, out.toList, e, vals_ints_of a1, ?_⟩, rfl, q _ fr⟩
  · rw [sortedHeap_old (Nat.ne_of_lt (Heap.lt_size eb)) (by rw [Heap.size_push]; exact Nat.lt_succ_of_lt (Heap.lt_size eb))]
    exact Heap.get?_push_of_some _ eb
  · rw [List.length_map, Nm.srt_length, sizeLine_eq]
    unfold keysI
    rw [List.length_map]
    omega
  · exact he
theorem call_sorted_dNK (hc : X.calm = true := by rfl) : CallR X (.builtin "sorted") (fun xs H Q => ∃ d kvs, xs = [.ref d] ∧ Rd H d (.dK kvs) ∧ allI kvs ∧ (keysI kvs).Nodup ∧ kvs.length ≤ 10000 ∧ ∀ l, H l = none → Q (.ref l) (upd H l (.lst (List.map V.int (Nm.srt (keysI kvs)))))) := call_sorted_dN hc
end
end L2
namespace L2
open PySem PySem.Spec PyProof.Rows
section
variable {X : Cx} {k k2 : Nat} {x x2 : Str} {ps ps2 : List Str} {sp sp2 : Sp} {e e2 : Expr} {es es2 : List Expr} {t t2 : TA} {p pos p2 pos2 : Pos} {cx n : Str} {np hpos epos epos2 tpos ipos : Pos} {b₀ : Stmt} {suite : List Stmt} {i : Nat} {ts : TS} {C2 : Addr} {c : Expr} {tc : TT}
end
end L2
namespace L2
open PySem PySem.Spec PyProof.Rows
noncomputable instance decPyData : DecidableEq PyData := fun _ _ => Classical.propDecidable _
mutual
noncomputable def hsh : PyData → Bool
  | .int _ => true
  | .str x => PyData.canLay0 (.str x)
  | .tuple xs => hshL xs
  | _ => false
noncomputable def hshL : List PyData → Bool
  | [] => true
  | x :: xs => hsh x && hshL xs
end
mutual
noncomputable def hashP (w : World) : PyData → Int
  | .int i => keyH w (.inl i)
  | .str x => keyH w (.inr x)
  | .tuple xs => reduceHash (Builtin.Tuple.tupleHashOf (hashL w xs))
  | _ => 0
noncomputable def hashL (w : World) : List PyData → List Int
  | [] => []
  | x :: xs => hashP w x :: hashL w xs
end
mutual
noncomputable def drw : PyData → Nat
  | .tuple xs => drwL xs + 1
  | _ => 1
noncomputable def drwL : List PyData → Nat
  | [] => 0
  | x :: xs => drw x + drwL xs
end
section
variable {prog : Program} {w : World}
noncomputable def PH (prog : Program) (w : World) (m : Nat) (h : Heap) (d : PyData) (v : Value) : Prop := ∀ (A : Around) (E : Value → Shared → Prop) (s : Shared) (Q : Int → Shared → Prop), s.heap = h → A.units + m < cLine →
  Q (hashP w d) { s with toks := s.toks + drw d } → wpAny (model prog w) A (pyHash v) Q E s
inductive PHs (prog : Program) (w : World) (m : Nat) (h : Heap) : List PyData → List Value → Prop
  | nil : PHs prog w m h [] []
  | cons {d v ds vs} : PH prog w m h d v → PHs prog w m h ds vs → PHs prog w m h (d :: ds) (v :: vs)
end
end L2
namespace PySem.Sts
open PySem PyProof.Rows
noncomputable def Rise (xs : Array Nat) : Prop := xs.toList.Pairwise (· < ·)
noncomputable def TP (L : Bool) (t : SetTable) : Prop := Rise t.place ∧ t.led = L
end PySem.Sts
namespace PySem.Sts
open PySem PyProof.Rows
noncomputable def Tb (L : Bool) (h : Heap) (a : Addr) : Prop := ∃ o es ep t, h.get? a = some o ∧ o.data = .set es ep t ∧ TP L t
section
variable {prog : Program} {w : World} {K : Type} [DecidableEq K] {knd : KeyKind prog w K} {A : Around} {E : Value → Shared → Prop} {s : Shared} {L : Bool}
end
end PySem.Sts
namespace PySem.Sts
open PySem PyProof.Rows
section
variable {prog : Program} {w : World} {A : Around} {R : Result → Shared → Prop} {I : Addr} {fp wr : List Addr} {G : Array GenState → Array GenState → Prop} {n : Nat} {P : Nat → Value → Prop} {St : Nat → Shared → Prop} {L : Bool}
end
section
variable {prog : Program} {w : World} {A : Around} {E : Value → Shared → Prop} {s : Shared}
end
end PySem.Sts
namespace PySem.Sts
open PySem PyProof.Rows
section
variable {prog : Program} {w : World} {A : Around} {E : Value → Shared → Prop} {s : Shared}
end
end PySem.Sts
namespace PySem.Sts
open PySem PyProof.Rows
section
variable {prog : Program} {w : World} {A : Around} {E : Value → Shared → Prop} {s : Shared}
end
section
variable {prog : Program} {w : World} {A : Around} {E : Value → Shared → Prop} {s : Shared}
end
end PySem.Sts
namespace PySem.Sts
open PySem PyProof.Rows
section
variable {prog : Program} {w : World} {A : Around} {E : Value → Shared → Prop} {s : Shared}
end
end PySem.Sts
namespace PySem.Sts
open PySem PyProof.Rows
section
variable {prog : Program} {w : World} {A : Around} {E : Value → Shared → Prop} {s : Shared}
end
end PySem.Sts
namespace L2
open PySem PySem.Spec PyProof.Rows PySem.W PySem.Sts
section
variable {X : Cx} {P : Program} {w : World} {K : PySem.W.Frag}
end
end L2
namespace L2
open PySem PySem.Spec PyProof.Rows
mutual
noncomputable def toP : Dat → PyData
  | .non => .none
  | .bl b => .bool b
  | .int i => .int i
  | .str x => .str x
  | .tup l => .tuple (toPL l)
  | .lst l => .list (toPL l)
noncomputable def toPL : List Dat → List PyData
  | [] => []
  | d :: ds => toP d :: toPL ds
end
section
variable {P : Program} {w : World} {H : Hp} {h : Heap}
end
abbrev Rows := List (Dat × Addr × Int)
abbrev RwN : Rows → List (PyData × Addr × Value) → Prop := Paired fun p q => toP p.1 = q.1 ∧ p.2.1 = q.2.1 ∧ ∃ t, q.2.2 = Value.int p.2.2 t
section
variable {P : Program} {w : World} {H : Hp} {h : Heap} {a : Addr}
end
section
variable {X : Cx} {P : Program} {w : World} {o i e value : Expr} {pos pos' tpos : Pos} {td ty tv : TE}
end
end L2
namespace L2
open PySem PySem.Spec PyProof.Rows PySem.W
section
variable {X : Cx} {x : Str} {xpos : Pos}
end
section
variable {prog : Program} {w : World} {A : Around} {E : Value → Shared → Prop} {s : Shared}
end
section
variable {X : Cx} {K : PySem.W.Frag}
end
end L2
namespace L2
open PySem PySem.Spec PyProof.Rows PySem.W
section
variable {X : Cx}
end
end L2
namespace KS
open PySem PySem.W PyProof.Rows
section
variable {prog : Program} {w : World} {A : Around} {E : Value → Shared → Prop} {s : Shared}
end
end KS
namespace L2
open PySem PySem.Spec PyProof.Rows PySem.W
section
variable {X : Cx} {K : PySem.W.Frag}
end
end L2
namespace L2
open PySem PySem.Spec PyProof.Rows PySem.W
section
variable {X : Cx} {K : PySem.W.Frag}
end
end L2
namespace L2
open PySem PySem.Spec PyProof.Rows PySem.W
section
variable {X : Cx} {K : PySem.W.Frag}
end
end L2
namespace L2
open PySem PySem.Spec PyProof.Rows
end L2
namespace Hd
open PySem PySem.W PyProof.Rows
noncomputable def runBy (ok : Thread → Bool) (st : SharedT → Thread → Option (SharedT × Thread)) (n : Nat) : SharedT → Thread → Option SharedT :=
  @Nat.rec (fun _ => SharedT → Thread → Option SharedT) (fun _ _ => none)
    (fun _ ih s t => @Bool.rec (fun _ => Option SharedT) (@Bool.rec (fun _ => Option SharedT) none (@Option.rec (SharedT × Thread) (fun _ => Option SharedT) none (fun r => @Prod.rec _ _ (fun _ => Option SharedT) (fun a b => ih a b) r) (st s t)) (ok t)) (some s) (through t)) n
theorem runBy_spec {tb : String → Option Builtin} {p : Program} {w : World} {n₀ : Nat} {ann : Option Value} : ∀ (n : Nat) (s : SharedT) (t : Thread) (s' : SharedT), runBy (stepOk n₀ ann) (stepT (denote tb) p w) n s t = some s' → topRun tb p w n₀ ann n s.abs t = some s'.abs
  | 0, _, _, _, h => by cases h
  | n + 1, s, t, s', h => by
    unfold topRun
    replace h : @Bool.rec (fun _ => Option SharedT) (@Bool.rec (fun _ => Option SharedT) none (@Option.rec (SharedT × Thread) (fun _ => Option SharedT) none (fun r => @Prod.rec _ _ (fun _ => Option SharedT) (fun a b => runBy (stepOk n₀ ann) (stepT (denote tb) p w) n a b) r) (stepT (denote tb) p w s t)) (stepOk n₀ ann t)) (some s) (through t) = some s' := h
    cases ht : through t with
    | true => rw [ht] at h; cases h; rfl
    | false =>
      rw [ht] at h
      cases hk : stepOk n₀ ann t with
      | false => rw [hk] at h; cases h
      | true =>
        rw [hk] at h
        cases hs : stepT (denote tb) p w s t with
        | none => rw [hs] at h; cases h
        | some r => obtain ⟨s₂, t₂⟩ := r; rw [hs] at h; rw [stepT_spec hs]; exact runBy_spec n s₂ t₂ s' h
noncomputable def bt (P : Params) : BT := ((boot_heap P).objs.toList.foldl (fun (x : BT × Nat) o => (x.1.ins x.2 o, x.2 + 1)) (.nil, 0)).1
noncomputable def bootT (w : World) (os : OsState) : SharedT := ⟨bt w.params, 11, {}, Array.mk [], boot_drawn, boot_toks, os⟩
theorem bootT_abs (w : World) (os : OsState) : (bootT w os).abs = ⟨boot_heap w.params, Array.mk [], boot_drawn, boot_toks, os⟩ := by kernel_rfl
theorem bootT_size (w : World) : ((boot_heap w.params).isNs mainGlobals && (Array.mk [] : Array GenState).size == 0, (boot_heap w.params).objs.size, (boot_heap w.params).nsMap mainGlobals "__annotations__") = (true, 11, some (.ref 6)) := by kernel_rfl
theorem left_run {p q : Program} {loose : List Str} {Xt : Shared → Bool} {α : Type} {Yf : Shared → α} {Ya : World → α} {N : Nat} {g0 : Bool}
    (open_ : ∀ w : World, (fencedOpening treeTable p w N).map (fun s => (s.heap, s.gens, s.drawn, s.toks)) = some (boot_heap w.params, Array.mk [], boot_drawn, boot_toks))
    (run : ∀ (w : World) (os : OsState), (runBy (stepOk 11 (some (.ref 6))) (stepT (denote treeTable) p w) N (bootT w os) (topStub p)).map (fun s => ((staticsOk (importedModules p.main.body) (boot_heap w.params) s.abs.heap && namesBound p s.abs.heap && gensDone s.abs && laidKept (boot_heap w.params) s.abs.heap), openSeen q loose (importedModules p.main.body) Xt g0 s.abs, Yf s.abs)) = some (true, openGood q loose, Ya w)) :
    LeftO p q loose Xt Yf Ya N g0 := fun w => by
  obtain ⟨⟨h, gs, d, k, os⟩, e, e'⟩ := Option.map_eq_some_iff.mp (open_ w)
  obtain ⟨rfl, rfl, rfl, rfl⟩ : h = boot_heap w.params ∧ gs = Array.mk [] ∧ d = boot_drawn ∧ k = boot_toks := by simpa using e'
  obtain ⟨z1, z2, z3⟩ : _ ∧ _ ∧ _ := by simpa only [Prod.mk.injEq] using bootT_size w
  obtain ⟨s, r, l⟩ := Option.map_eq_some_iff.mp (run w os)
  obtain ⟨l1, l2, l3⟩ : _ ∧ _ ∧ _ := by simpa only [Prod.mk.injEq] using l
  have r := runBy_spec _ _ _ _ r
  rw [bootT_abs] at r
  have t : topFrom treeTable p w N ⟨boot_heap w.params, Array.mk [], boot_drawn, boot_toks, os⟩ = some s.abs := by
    unfold topFrom
    dsimp only
    rw [z1, z2, z3, r]
    show (match staticsOk (importedModules p.main.body) (boot_heap w.params) s.abs.heap && namesBound p s.abs.heap && gensDone s.abs && laidKept (boot_heap w.params) s.abs.heap with | true => _ | false => _) = _
    rw [l1]
  unfold openEnds
  rw [e]
  show ((topFrom treeTable p w N ⟨boot_heap w.params, Array.mk [], boot_drawn, boot_toks, os⟩)).map _ = _
  rw [t]
  show some (_, _) = _
  rw [l2, l3]
noncomputable def Runs (p q : Program) (loose : List Str) (Xt : Shared → Bool) {α : Type} (Yf : Shared → α) (Ya : World → α) (N : Nat) (g0 : Bool) (w : World) : Prop :=
  ∀ os : OsState, (runBy (PySem.W.Fast.tw6613529449190102663 11 (some (.ref 6))) (PySem.W.Fast.tw10156331382660048174 (PySem.W.Fast.tw11892475500146522536 PySem.W.Fast.tw14364793385576792824) p w) N (bootT w os) (topStub p)).map (fun s => ((staticsOk (importedModules p.main.body) (boot_heap w.params) s.abs.heap && namesBound p s.abs.heap && gensDone s.abs && laidKept (boot_heap w.params) s.abs.heap), PySem.W.Fast.tw4187177175401517315 q loose (importedModules p.main.body) Xt g0 s.abs, Yf s.abs)) = some (true, openGood q loose, Ya w)
theorem left_runQ {p q : Program} {loose : List Str} {Xt : Shared → Bool} {α : Type} {Yf : Shared → α} {Ya : World → α} {N : Nat} {g0 : Bool}
    (e : opening p = plainProg p.main.scope.names) (hN : Nat.ble 600 N = true) (f : ∀ s, fenceModules? p s = some s)
    (run : ∀ w : World, Runs p q loose Xt Yf Ya N g0 w) :
    LeftO p q loose Xt Yf Ya N g0 := by
  refine left_run (boot_open e hN f) ?_
  unfold Runs at run
  rw [PySem.W.Fast.te6613529449190102663, PySem.W.Fast.te10156331382660048174, PySem.W.Fast.te11892475500146522536, PySem.W.Fast.te14364793385576792824, PySem.W.Fast.te4187177175401517315]
  exact run
end Hd
namespace K18
open PySem PySem.Spec PyProof.Rows L2
set_option maxHeartbeats 4000000
local macro_rules | `(tactic| simp_all only [$ls,*]) => `(tactic| simp only [L2.start, Pr, tRev, tSortR, tD1, tDPop1, tSl, tNoPart, tPart, rSlL, tDIn, tDNotIn, gSub, rSetL, tLst, tDNewK, tComp, L2.stC, tFor_eq, iList, iTup, iRng1, iRng2, iZip, iEnum, iDict, iStr, tChain, tSumV, tBM, rJoin, tJoined, jNil, jLit, jInt, jStr, tRaise, tDGet, tDGet2, tDGet1, sDPut, Option.join_some, List.getElem?_nil,  tSeq, tRet, tRetN, tIfS, tTest, tB, tOp, tUn, tVar, tC, tCB, tCons, tNil, tCall, tTupS, tAsg, gName, gNil, gCons, tPar, tNext, tDrop, tAnd, tOr, tNot, tAndV, tOrV, tNotV, tIf, rI, rI0, rU, rIxTH, rIxLH, rEqT, rNeT, rInT, rEq, rNe, scal, CPow, at0, at1, at2, List.map_cons, List.map_nil, List.length_cons, List.length_nil, Nat.reduceSub, Nat.reduceAdd, Nat.zero_add, List.replicate_zero, List.reduceReplicate, List.append_nil, List.nil_append, List.cons_append, List.getElem?_cons_zero, List.getElem?_cons_succ, List.set_cons_zero, List.set_cons_succ, Option.some.injEq, exists_eq_left', exists_eq_left, V.ref.injEq, V.int.injEq, V.bl.injEq, V.str.injEq, V.ty.injEq, HO.tup.injEq, HO.lst.injEq, List.cons.injEq, and_true, true_and, and_assoc, exists_and_left, decide_eq_true_eq, Bool.not_eq_true', decide_eq_false_iff_not, ite_true, ite_false, if_true, if_false, Int.reduceToNat, eq_self_iff_true, $ls,*])
seal L2.PE L2.PT L2.PW L2.PA L2.PS L2.PSs L2.PG L2.PGs L2.PI L2.PTs L2.PO L2.OpR L2.UnR L2.CallR L2.IxR L2.SlR L2.MtR L2.MtM
theorem strictP {P : Program} {w : World} : Strict (CX1 P w) := strict1 P w
noncomputable def top (i : Nat) : Stmt := PySem.Challenge.pw_pressluck_k18_whole_pools_add_up.main.body.getD i (.Pass ⟨0, 0, 0, 0⟩)
structure Txt (K : PySem.W.Frag) (mg : Str → Option Value) (pr : Params) (q_NoShare q_NoTable q_TooMany q_OF_MANY q_OF_ONE : Addr) : Prop where
  z_abs : mg "abs" = none
  z_all : mg "all" = none
  z_int : mg "int" = none
  z_isinstance : mg "isinstance" = none
  z_len : mg "len" = none
  z_max : mg "max" = none
  z_min : mg "min" = none
  z_range : mg "range" = none
  z_sorted : mg "sorted" = none
  z_str : mg "str" = none
  z_sum : mg "sum" = none
  d_common_divisor : Dn K mg "common_divisor" (top 9)
  d_share : Dn K mg "share" (top 10)
  d_plus : Dn K mg "plus" (top 11)
  d_common_bottom : Dn K mg "common_bottom" (top 12)
  d_is_figures : Dn K mg "is_figures" (top 13)
  d_whole_in : Dn K mg "whole_in" (top 14)
  d_table_by_weights : Dn K mg "table_by_weights" (top 16)
  d_table_of : Dn K mg "table_of" (top 17)
  d_bottom_of : Dn K mg "bottom_of" (top 18)
  d_weighed : Dn K mg "weighed" (top 19)
  d_added : Dn K mg "added" (top 20)
  d_mean : Dn K mg "mean" (top 21)
  d_share_from : Dn K mg "share_from" (top 22)
  d_power : Dn K mg "power" (top 26)
  d_most_faces : Dn K mg "most_faces" (top 27)
  d_part_bottom : Dn K mg "part_bottom" (top 28)
  d_part_count : Dn K mg "part_count" (top 29)
  d_check_size : Dn K mg "check_size" (top 30)
  d_dice_faces : Dn K mg "dice_faces" (top 31)
  d_again_faces : Dn K mg "again_faces" (top 32)
  d_burst_faces : Dn K mg "burst_faces" (top 33)
  d_part_faces : Dn K mg "part_faces" (top 34)
  d_value_of : Dn K mg "value_of" (top 35)
  d_sides_product : Dn K mg "sides_product" (top 36)
  d_part_throws : Dn K mg "part_throws" (top 37)
  d_throws_by_bottom : Dn K mg "throws_by_bottom" (top 38)
  d_throws : Dn K mg "throws" (top 39)
  d_pool_table : Dn K mg "pool_table" (top 40)
  d_show_dice : Dn K mg "show_dice" (top 48)
  d_show_part : Dn K mg "show_part" (top 49)
  d_show_pool : Dn K mg "show_pool" (top 50)
  d_read_number : Dn K mg "read_number" (top 51)
  d_read_dice : Dn K mg "read_dice" (top 52)
  d_read_worded : Dn K mg "read_worded" (top 53)
  d_read_part : Dn K mg "read_part" (top 54)
  d_read_pool : Dn K mg "read_pool" (top 55)
  d__law_at : Dn K mg "_law_at" (top 57)
  d__law_power : Dn K mg "_law_power" (top 58)
  d__law_part : Dn K mg "_law_part" (top 59)
  d__law_many : Dn K mg "_law_many" (top 60)
  d__law_pool : Dn K mg "_law_pool" (top 61)
  d__law_even : Dn K mg "_law_even" (top 62)
  d__law_parts_add_up : Dn K mg "_law_parts_add_up" (top 63)
  d__law_from : Dn K mg "_law_from" (top 64)
  d__law_best_and_worst : Dn K mg "_law_best_and_worst" (top 65)
  c_FIGURES : ∃ t, mg "FIGURES" = some (.str "0123456789" t)
  c_MOST_FIGURES : ∃ t, mg "MOST_FIGURES" = some (.int 12 t)
  c_MOST_THROWS : ∃ t, mg "MOST_THROWS" = some (.int 1296 t)
  c_MOST_BOTTOM : ∃ t, mg "MOST_BOTTOM" = some (.int 1000000 t)
  c_MOST_PARTS : ∃ t, mg "MOST_PARTS" = some (.int 4 t)
  c_MOST_NUMBER : ∃ t, mg "MOST_NUMBER" = some (.int 99 t)
  c_MOST_DICE : ∃ t, mg "MOST_DICE" = some (.int 6 t)
  c_MOST_SIDES : ∃ t, mg "MOST_SIDES" = some (.int 20 t)
  k_NoShare : mg "NoShare" = some (.ref q_NoShare)
  k_NoTable : mg "NoTable" = some (.ref q_NoTable)
  k_TooMany : mg "TooMany" = some (.ref q_TooMany)
  x_NoShare : PySem.W.excIn K q_NoShare bmVE newVE = true
  x_NoTable : PySem.W.excIn K q_NoTable bmVE newVE = true
  x_TooMany : PySem.W.excIn K q_TooMany bmVE newVE = true
  g_OF_MANY : mg "OF_MANY" = some (.ref q_OF_MANY)
  g_OF_ONE : mg "OF_ONE" = some (.ref q_OF_ONE)
  r_OF_MANY_best : MRow K q_OF_MANY "best" 1 6
  r_OF_MANY_hits : MRow K q_OF_MANY "hits" 1 20
  r_OF_MANY_worst : MRow K q_OF_MANY "worst" 1 6
  r_OF_ONE_again : MRow K q_OF_ONE "again" 0 20
  r_OF_ONE_burst : MRow K q_OF_ONE "burst" 0 6
  m_OF_MANY : MDict K pr q_OF_MANY ["best", "worst", "hits"]
  m_OF_ONE : MDict K pr q_OF_ONE ["again", "burst"]
noncomputable def Al {α : Type} (R : α → V → Prop) : List α → List V → Prop
  | [], [] => True
  | a :: as, v :: vs => R a v ∧ Al R as vs
  | _, _ => False
theorem Al.length {α : Type} {R : α → V → Prop} : ∀ {as : List α} {vs : List V}, Al R as vs → vs.length = as.length
  | [], [], _ => rfl
  | a :: as, v :: vs, h => by simp [Al.length h.2]
theorem Al.imp {α : Type} {R S : α → V → Prop} (f : ∀ a v, R a v → S a v) : ∀ {as : List α} {vs : List V}, Al R as vs → Al S as vs
  | [], [], _ => trivial
  | a :: as, v :: vs, h => ⟨f _ _ h.1, Al.imp f h.2⟩
theorem Al.append {α : Type} {R : α → V → Prop} : ∀ {as bs : List α} {us vs : List V}, Al R as us → Al R bs vs → Al R (as ++ bs) (us ++ vs)
  | [], _, [], _, _, k => k
  | a :: as, _, v :: vs, _, h, k => ⟨h.1, Al.append h.2 k⟩
theorem Al.one {α : Type} {R : α → V → Prop} {a : α} {v : V} (h : R a v) : Al R [a] [v] := ⟨h, trivial⟩
theorem Al.get {α : Type} {R : α → V → Prop} : ∀ {as : List α} {vs : List V} {i : Nat} {v : V}, Al R as vs → vs[i]? = some v → ∃ a, as[i]? = some a ∧ R a v
  | [], [], i, v, _, e => by simp at e
  | a :: as, u :: vs, i, v, h, e => by
    cases i with
    | zero => simp at e; subst e; exact ⟨a, rfl, h.1⟩
    | succ i => simp at e; obtain ⟨b, e1, e2⟩ := Al.get h.2 e; exact ⟨b, by simpa using e1, e2⟩
theorem Al.at {α : Type} {R : α → V → Prop} : ∀ {as : List α} {vs : List V} {i : Nat} {a : α}, Al R as vs → as[i]? = some a → ∃ v, vs[i]? = some v ∧ R a v
  | [], [], i, v, _, e => by simp at e
  | a :: as, u :: vs, i, v, h, e => by
    cases i with
    | zero => simp at e; subst e; exact ⟨u, rfl, h.1⟩
    | succ i => simp at e; obtain ⟨b, e1, e2⟩ := Al.at h.2 e; exact ⟨b, by simpa using e1, e2⟩
theorem Al.of {α : Type} {R : α → V → Prop} : ∀ {as : List α} {vs : List V}, vs.length = as.length → (∀ (i : Nat) v a, vs[i]? = some v → as[i]? = some a → R a v) → Al R as vs
  | [], [], _, _ => trivial
  | [], _ :: _, l, _ => by simp at l
  | _ :: _, [], l, _ => by simp at l
  | a :: as, u :: vs, l, h => ⟨h 0 u a rfl rfl, Al.of (by simpa using l) fun i v b e1 e2 => h (i + 1) v b (by simpa using e1) (by simpa using e2)⟩
noncomputable def dcF (s : Nat) : Nat → List (List Int)
  | 0 => [[]]
  | d + 1 => (dcF s d).flatMap fun f => (List.range s).map fun i : Nat => f ++ [((i : Nat) : Int) + 1]
theorem dcF_len (s : Nat) : ∀ d, (dcF s d).length = s ^ d
  | 0 => rfl
  | d + 1 => by
    have h : ∀ l : List (List Int), (l.flatMap fun f => (List.range s).map fun i : Nat => f ++ [((i : Nat) : Int) + 1]).length = l.length * s := by
      intro l
      induction l with
      | nil => simp
      | cons a r ih => rw [List.flatMap_cons, List.length_append, ih, List.length_map, List.length_range, List.length_cons, Nat.succ_mul, Nat.add_comm]
    rw [dcF, h, dcF_len s d, Nat.pow_succ]
theorem dcF_row (s : Nat) : ∀ d, ∀ f ∈ dcF s d, f.length = d ∧ ∀ x ∈ f, 1 ≤ x ∧ x ≤ (s : Int)
  | 0, f, h => by
    rw [List.mem_singleton.mp h]
    exact ⟨rfl, by simp⟩
  | d + 1, f, h => by
    obtain ⟨g, hg, hf⟩ := List.mem_flatMap.mp h
    obtain ⟨i, hi, rfl⟩ := List.mem_map.mp hf
    obtain ⟨l, k⟩ := dcF_row s d g hg
    have := List.mem_range.mp hi
    refine ⟨by rw [List.length_append, l]; rfl, fun x hx => ?_⟩
    rcases List.mem_append.mp hx with h | h
    · exact k x h
    · rw [List.mem_singleton.mp h]; omega
noncomputable def Lt (f g : List Int) : Prop := lexGe f g = false
noncomputable def agF (low s : Nat) : List (List Int) := (List.range s).flatMap fun i : Nat => if i < low then (List.range s).map fun j : Nat => [((i : Nat) : Int) + 1, ((j : Nat) : Int) + 1] else [[((i : Nat) : Int) + 1]]
noncomputable def buR (s a : Nat) : List (List Int) := (List.range (s - 1)).map fun i : Nat => List.replicate a (s : Int) ++ [((i : Nat) : Int) + 1]
noncomputable def buF (s : Nat) (most : Nat) : List (List Int) := ((List.range most).flatMap fun a => buR s a) ++ [List.replicate most (s : Int)]
noncomputable def wsum (F : List (List Int)) (s w : Nat) : Nat := (F.map fun f => w / s ^ f.length).sum
theorem sum_const {α : Type} {g : α → Nat} {c : Nat} : ∀ {l : List α}, (∀ a ∈ l, g a = c) → (l.map g).sum = l.length * c
  | [], _ => by simp
  | a :: r, h => by
    rw [List.map_cons, List.sum_cons, sum_const (l := r) fun x hx => h x (List.mem_cons_of_mem _ hx), h a (by simp), List.length_cons, Nat.succ_mul, Nat.add_comm]
theorem wsum_flat {α : Type} {g : α → List (List Int)} {s w : Nat} : ∀ l : List α, wsum (l.flatMap g) s w = (l.map fun a => wsum (g a) s w).sum
  | [] => rfl
  | a :: r => by
    have := wsum_flat (g := g) (s := s) (w := w) r
    unfold wsum at *
    rw [List.flatMap_cons, List.map_append, List.sum_append_nat, this, List.map_cons, List.sum_cons]
theorem wsum_dc {s : Nat} (h : 0 < s) (d : Nat) : wsum (dcF s d) s (s ^ d) = s ^ d := by
  unfold wsum
  rw [sum_const (c := 1) fun f hf => by rw [(dcF_row s d f hf).1]; exact Nat.div_self (Nat.pow_pos h), dcF_len, Nat.mul_one]
theorem wsum_ag1 {low s : Nat} (h : 0 < s) : wsum (agF low s) s (s ^ 2) = s ^ 2 := by
  unfold agF
  rw [wsum_flat, sum_const (c := s) fun i hi => ?_, List.length_range, Nat.pow_two]
  by_cases c : i < low
  · rw [if_pos c]
    unfold wsum
    rw [sum_const (c := 1) fun f hf => ?_, List.length_map, List.length_range, Nat.mul_one]
    obtain ⟨j, _, rfl⟩ := List.mem_map.mp hf
    exact Nat.div_self (Nat.pow_pos h)
  · rw [if_neg c]
    unfold wsum
    simp [Nat.pow_two, Nat.mul_div_cancel _ h]
theorem wsum_ag0 {s : Nat} (h : 0 < s) : wsum (agF 0 s) s s = s := by
  unfold agF
  rw [wsum_flat, sum_const (c := 1) fun i hi => ?_, List.length_range, Nat.mul_one]
  rw [if_neg (by omega)]
  unfold wsum
  simp [Nat.div_self h]
theorem wsum_bu {s : Nat} (h : 0 < s) (most : Nat) : wsum (buF s most) s (s ^ most) = s ^ most := by
  have row : ∀ a, a < most → wsum (buR s a) s (s ^ most) = (s - 1) * s ^ (most - a - 1) := by
    intro a ha
    unfold wsum
    rw [sum_const (c := s ^ (most - a - 1)) fun f hf => ?_]
    · unfold buR
      rw [List.length_map, List.length_range]
    · obtain ⟨i, _, rfl⟩ := List.mem_map.mp hf
      rw [List.length_append, List.length_replicate]
      show s ^ most / s ^ (a + 1) = _
      rw [Nat.pow_div (by omega) h]
      congr 1
  have key : ∀ k, k ≤ most → ((List.range k).map fun a => wsum (buR s a) s (s ^ most)).sum + s ^ (most - k) = s ^ most := by
    intro k
    induction k with
    | zero => intro _; simp
    | succ k ih =>
      intro hk
      have e := ih (by omega)
      rw [List.range_succ, List.map_append, List.sum_append_nat, List.map_cons, List.map_nil, List.sum_cons, List.sum_nil, row k (by omega)]
      have p : s ^ (most - k) = s * s ^ (most - k - 1) := by
        rw [Nat.mul_comm, ← Nat.pow_succ]
        congr 1
        omega
      have q : (s - 1) * s ^ (most - k - 1) + s ^ (most - k - 1) = s * s ^ (most - k - 1) := by
        rw [← Nat.succ_mul]
        congr 1
        omega
      rw [show most - (k + 1) = most - k - 1 by omega]
      omega
  have e := key most (Nat.le_refl _)
  unfold buF
  have ap : ∀ F G : List (List Int), wsum (F ++ G) s (s ^ most) = wsum F s (s ^ most) + wsum G s (s ^ most) := by
    intro F G
    unfold wsum
    rw [List.map_append, List.sum_append_nat]
  rw [ap, wsum_flat]
  have l1 : wsum [List.replicate most (s : Int)] s (s ^ most) = 1 := by
    unfold wsum
    simp [Nat.div_self (Nat.pow_pos (n := most) h)]
  rw [l1]
  simpa using e
theorem agF_row {low s : Nat} : ∀ f ∈ agF low s, (∀ x ∈ f, 1 ≤ x ∧ x ≤ (s : Int)) ∧ ((∃ a b : Int, f = [a, b] ∧ a ≤ (low : Int)) ∨ ∃ a : Int, f = [a] ∧ (low : Int) < a) := by
  intro f hf
  obtain ⟨i, hi, hf⟩ := List.mem_flatMap.mp hf
  have hi := List.mem_range.mp hi
  by_cases c : i < low
  · rw [if_pos c] at hf
    obtain ⟨j, hj, rfl⟩ := List.mem_map.mp hf
    have hj := List.mem_range.mp hj
    refine ⟨fun x hx => ?_, .inl ⟨_, _, rfl, by omega⟩⟩
    simp only [List.mem_cons, List.not_mem_nil, or_false] at hx
    rcases hx with rfl | rfl <;> omega
  · rw [if_neg c] at hf
    rw [List.mem_singleton.mp hf]
    refine ⟨fun x hx => ?_, .inr ⟨_, rfl, by omega⟩⟩
    rw [List.mem_singleton.mp hx]
    omega
theorem buF_row {s most : Nat} (h : 0 < s) : ∀ f ∈ buF s most, (∀ x ∈ f, 1 ≤ x ∧ x ≤ (s : Int)) ∧ ((∃ (a : Nat) (x : Int), a < most ∧ x < s ∧ f = List.replicate a (s : Int) ++ [x]) ∨ f = List.replicate most (s : Int)) := by
  intro f hf
  unfold buF at hf
  rcases List.mem_append.mp hf with hf | hf
  · obtain ⟨a, ha, hf⟩ := List.mem_flatMap.mp hf
    have ha := List.mem_range.mp ha
    obtain ⟨i, hi, rfl⟩ := List.mem_map.mp hf
    have hi := List.mem_range.mp hi
    refine ⟨fun x hx => ?_, .inl ⟨a, _, ha, by omega, rfl⟩⟩
    rcases List.mem_append.mp hx with hx | hx
    · rw [List.eq_of_mem_replicate hx]; omega
    · rw [List.mem_singleton.mp hx]; omega
  · rw [List.mem_singleton.mp hf]
    refine ⟨fun x hx => ?_, .inr rfl⟩
    rw [List.eq_of_mem_replicate hx]; omega
theorem agF_len (low s : Nat) : (agF low s).length = ((List.range s).map fun i => if i < low then s else 1).sum := by
  unfold agF
  have : ∀ l : List Nat, (l.flatMap fun i : Nat => if i < low then (List.range s).map fun j : Nat => [((i : Nat) : Int) + 1, ((j : Nat) : Int) + 1] else [[((i : Nat) : Int) + 1]]).length = (l.map fun i => if i < low then s else 1).sum := by
    intro l
    induction l with
    | nil => rfl
    | cons a r ih =>
      rw [List.flatMap_cons, List.length_append, ih, List.map_cons, List.sum_cons]
      congr 1
      split <;> simp
  exact this _
inductive Pt
  | num (n : Nat)
  | dice (m s : Nat)
  | best (n m s : Nat)
  | worst (n m s : Nat)
  | hits (n m s : Nat)
  | again (n s : Nat)
  | burst (n s : Nat)
noncomputable def ptV : Pt → List V
  | .num n => [.str (Str.ofString "number"), .int (n : Int)]
  | .dice m s => [.str (Str.ofString "dice"), .int (m : Int), .int (s : Int)]
  | .best n m s => [.str (Str.ofString "best"), .int (n : Int), .int (m : Int), .int (s : Int)]
  | .worst n m s => [.str (Str.ofString "worst"), .int (n : Int), .int (m : Int), .int (s : Int)]
  | .hits n m s => [.str (Str.ofString "hits"), .int (n : Int), .int (m : Int), .int (s : Int)]
  | .again n s => [.str (Str.ofString "again"), .int (n : Int), .int (s : Int)]
  | .burst n s => [.str (Str.ofString "burst"), .int (n : Int), .int (s : Int)]
noncomputable def lst : Pt → Nat
  | .num n => n
  | .dice _ s => s
  | .best _ _ s => s
  | .worst _ _ s => s
  | .hits _ _ s => s
  | .again _ s => s
  | .burst _ s => s
noncomputable def sd : Pt → Nat
  | .num _ => 1
  | p => lst p
noncomputable def mst : Pt → Nat
  | .num _ => 0
  | .dice m _ => m
  | .best _ m _ => m
  | .worst _ m _ => m
  | .hits _ m _ => m
  | .again n _ => if 0 < n then 2 else 1
  | .burst n _ => n + 1
noncomputable def bot (p : Pt) : Nat := sd p ^ mst p
noncomputable def cnt : Pt → Nat
  | .num _ => 1
  | .again n s => min n s * s + (s - min n s)
  | .burst n s => (n + 1) * (s - 1) + 1
  | p => bot p
noncomputable def ptF : Pt → List (List Int)
  | .num _ => [[]]
  | .dice m s => dcF s m
  | .best _ m s => dcF s m
  | .worst _ m s => dcF s m
  | .hits _ m s => dcF s m
  | .again n s => agF n s
  | .burst n s => buF s (n + 1)
noncomputable def val : Pt → List Int → Int
  | .num n, _ => n
  | .best n _ _, f => ((Nm.srt f).reverse.take n).sum
  | .worst n _ _, f => ((Nm.srt f).take n).sum
  | .hits n _ _, f => ((f.filter fun x => decide ((n : Int) ≤ x)).length : Nat)
  | .again _ _, f => f.getLastD 0
  | .dice _ _, f => f.sum
  | .burst _ _, f => f.sum
noncomputable def GoodP : Pt → Prop
  | .num n => n ≤ 99
  | .dice m s => 1 ≤ s ∧ s ≤ 20 ∧ m ≤ 6
  | .best n m s => 1 ≤ s ∧ s ≤ 20 ∧ m ≤ 6 ∧ n ≤ m
  | .worst n m s => 1 ≤ s ∧ s ≤ 20 ∧ m ≤ 6 ∧ n ≤ m
  | .hits n m s => 1 ≤ s ∧ s ≤ 20 ∧ m ≤ 6 ∧ n ≤ 20
  | .again n s => 1 ≤ s ∧ s ≤ 20 ∧ n ≤ 20
  | .burst n s => 1 ≤ s ∧ s ≤ 20 ∧ n ≤ 6
theorem sd_pos {p : Pt} (g : GoodP p) : 1 ≤ sd p ∧ sd p ≤ 20 := by
  cases p <;> simp only [sd, lst, GoodP] at * <;> omega
theorem lst_le {p : Pt} (g : GoodP p) : lst p ≤ 99 := by
  cases p <;> simp only [lst, GoodP] at * <;> omega
theorem mst_le {p : Pt} (g : GoodP p) : mst p ≤ 7 := by
  cases p <;> simp only [mst, GoodP] at * <;> (try split) <;> omega
theorem pow_small {s e : Nat} (hs : s ≤ 20) (he : e ≤ 10) : s ^ e ≤ 10240000000000 :=
  Nat.le_trans (Nat.pow_le_pow_left hs e) (Nat.le_trans (Nat.pow_le_pow_right (by decide) he) (by decide))
theorem sum_low (low c : Nat) : ∀ k, ((List.range k).map fun i => if i < low then c else 1).sum = min low k * c + (k - min low k)
  | 0 => by simp
  | k + 1 => by
    rw [List.range_succ, List.map_append, List.sum_append_nat, sum_low low c k, List.map_cons, List.map_nil, List.sum_cons, List.sum_nil]
    by_cases h : k < low
    · rw [if_pos h, Nat.min_eq_right (by omega), Nat.min_eq_right (by omega), Nat.succ_mul]
      omega
    · rw [if_neg h, Nat.min_eq_left (by omega), Nat.min_eq_left (by omega)]
      omega
theorem buF_len (s : Nat) (most : Nat) : (buF s most).length = most * (s - 1) + 1 := by
  unfold buF
  rw [List.length_append]
  have : ∀ l : List Nat, (l.flatMap fun a => buR s a).length = l.length * (s - 1) := by
    intro l
    induction l with
    | nil => simp
    | cons a r ih => rw [List.flatMap_cons, List.length_append, ih, List.length_cons, Nat.succ_mul]; unfold buR; rw [List.length_map, List.length_range]; omega
  rw [this, List.length_range]
  rfl
theorem ptF_len (p : Pt) : (ptF p).length = cnt p := by
  cases p with
  | num n => rfl
  | dice m s => exact dcF_len s m
  | best n m s => exact dcF_len s m
  | worst n m s => exact dcF_len s m
  | hits n m s => exact dcF_len s m
  | again n s => show (agF n s).length = min n s * s + (s - min n s); rw [agF_len, sum_low]
  | burst n s => exact buF_len s _
theorem ptF_sum {p : Pt} (g : GoodP p) : wsum (ptF p) (sd p) (bot p) = bot p := by
  cases p with
  | num n => simp [wsum, ptF, bot, sd, mst]
  | dice m s => exact wsum_dc g.1 m
  | best n m s => exact wsum_dc g.1 m
  | worst n m s => exact wsum_dc g.1 m
  | hits n m s => exact wsum_dc g.1 m
  | again n s =>
    show wsum (agF n s) s (s ^ (if 0 < n then 2 else 1)) = s ^ (if 0 < n then 2 else 1)
    by_cases h : 0 < n
    · rw [if_pos h]; exact wsum_ag1 g.1
    · have : n = 0 := by omega
      subst this
      rw [if_neg (by omega), Nat.pow_one]
      exact wsum_ag0 g.1
  | burst n s => exact wsum_bu g.1 (n + 1)
theorem ptF_row {p : Pt} (g : GoodP p) : ∀ f ∈ ptF p, (∀ x ∈ f, 1 ≤ x ∧ x ≤ (lst p : Int)) ∧ f.length ≤ mst p := by
  intro f hf
  cases p with
  | num n => rw [List.mem_singleton.mp hf]; simp
  | dice m s => obtain ⟨a, b⟩ := dcF_row s m f hf; exact ⟨b, Nat.le_of_eq a⟩
  | best n m s => obtain ⟨a, b⟩ := dcF_row s m f hf; exact ⟨b, Nat.le_of_eq a⟩
  | worst n m s => obtain ⟨a, b⟩ := dcF_row s m f hf; exact ⟨b, Nat.le_of_eq a⟩
  | hits n m s => obtain ⟨a, b⟩ := dcF_row s m f hf; exact ⟨b, Nat.le_of_eq a⟩
  | again n s =>
    obtain ⟨a, b⟩ := agF_row f hf
    refine ⟨a, ?_⟩
    show f.length ≤ if 0 < n then 2 else 1
    rcases b with ⟨x, y, rfl, h⟩ | ⟨x, rfl, h⟩
    · have := (a x (by simp)).1
      rw [if_pos (by omega)]
      simp
    · simp
      split <;> omega
  | burst n s =>
    obtain ⟨a, b⟩ := buF_row g.1 f hf
    refine ⟨a, ?_⟩
    show f.length ≤ n + 1
    rcases b with ⟨k, x, hk, h, rfl⟩ | rfl
    · simp; omega
    · simp
theorem row_bot {p : Pt} (g : GoodP p) {f : List Int} (hf : f ∈ ptF p) : 1 ≤ sd p ^ f.length ∧ sd p ^ f.length ≤ bot p :=
  ⟨Nat.pow_pos (sd_pos g).1, Nat.pow_le_pow_right (sd_pos g).1 (ptF_row g f hf).2⟩
abbrev Row := List Int × Int × Nat
noncomputable def ptR (p : Pt) : List Row := (ptF p).map fun f => (f, val p f, sd p ^ f.length)
noncomputable def stp (rs : List Row) (p : Pt) : List Row := rs.flatMap fun r => (ptR p).map fun q => (r.1 ++ q.1, r.2.1 + q.2.1, r.2.2 * q.2.2)
noncomputable def thr (ps : List Pt) : List Row := ps.foldl stp [([], 0, 1)]
theorem thr_snoc (ps : List Pt) (p : Pt) : thr (ps ++ [p]) = stp (thr ps) p := by unfold thr; rw [List.foldl_append]; rfl
noncomputable def prd : List Nat → Nat
  | [] => 1
  | a :: r => a * prd r
theorem prd_snoc (l : List Nat) (a : Nat) : prd (l ++ [a]) = prd l * a := by
  induction l with
  | nil => simp [prd]
  | cons b r ih => simp only [List.cons_append, prd, ih, Nat.mul_assoc]
theorem prd_pos {l : List Nat} (h : ∀ a ∈ l, 1 ≤ a) : 1 ≤ prd l := by
  induction l with
  | nil => simp [prd]
  | cons b r ih =>
    have h1 := h b (by simp)
    have h2 := ih fun a ha => h a (List.mem_cons_of_mem _ ha)
    exact Nat.mul_le_mul h1 h2
theorem prd_take {l : List Nat} (h : ∀ a ∈ l, 1 ≤ a) : ∀ i, prd (l.take i) ≤ prd l := by
  induction l with
  | nil => intro i; simp
  | cons b r ih =>
    intro i
    have h1 := h b (by simp)
    have h0 : ∀ a ∈ r, 1 ≤ a := fun a ha => h a (List.mem_cons_of_mem _ ha)
    cases i with
    | zero => exact Nat.mul_le_mul h1 (prd_pos h0)
    | succ i => exact Nat.mul_le_mul (Nat.le_refl _) (ih h0 i)
theorem stp_len (rs : List Row) (p : Pt) : (stp rs p).length = rs.length * cnt p := by
  unfold stp
  induction rs with
  | nil => simp
  | cons r t ih =>
    rw [List.flatMap_cons, List.length_append, ih, List.length_map, List.length_cons, Nat.succ_mul]
    unfold ptR
    rw [List.length_map, ptF_len]
    omega
theorem take_snoc {α : Type} {l : List α} {i : Nat} (h : i < l.length) : l.take (i + 1) = l.take i ++ [l[i]] := by
  rw [List.take_add_one, List.getElem?_eq_getElem h]
  rfl
theorem thr_len (ps : List Pt) : (thr ps).length = prd (ps.map cnt) := by
  have : ∀ i, i ≤ ps.length → (thr (ps.take i)).length = prd ((ps.take i).map cnt) := by
    intro i
    induction i with
    | zero => intro _; rfl
    | succ i ih =>
      intro h
      rw [take_snoc (by omega), thr_snoc, stp_len, ih (by omega), List.map_append, List.map_cons, List.map_nil, prd_snoc]
  have := this ps.length (Nat.le_refl _)
  rwa [List.take_of_length_le (Nat.le_refl _)] at this
theorem cnt_pos {p : Pt} (g : GoodP p) : 1 ≤ cnt p := by
  cases p with
  | num n => simp [cnt]
  | dice m s => exact Nat.pow_pos g.1
  | best n m s => exact Nat.pow_pos g.1
  | worst n m s => exact Nat.pow_pos g.1
  | hits n m s => exact Nat.pow_pos g.1
  | again n s =>
    simp only [cnt, GoodP] at *
    by_cases h : s - min n s = 0
    · have : min n s = s := by omega
      rw [this]
      have : 1 * 1 ≤ s * s := Nat.mul_le_mul g.1 g.1
      omega
    · omega
  | burst n s => simp [cnt]
theorem bot_pos {p : Pt} (g : GoodP p) : 1 ≤ bot p := Nat.pow_pos (sd_pos g).1
noncomputable def GoodL (ps : List Pt) : Prop := (∀ p ∈ ps, GoodP p) ∧ prd (ps.map cnt) ≤ 1296 ∧ prd (ps.map bot) ≤ 1000000
theorem goodL_cnt {ps : List Pt} (g : GoodL ps) (i : Nat) : prd ((ps.take i).map cnt) ≤ 1296 := by
  rw [List.map_take]
  exact Nat.le_trans (prd_take (fun a ha => by obtain ⟨p, hp, rfl⟩ := List.mem_map.mp ha; exact cnt_pos (g.1 p hp)) i) g.2.1
theorem goodL_bot {ps : List Pt} (g : GoodL ps) (i : Nat) : prd ((ps.take i).map bot) ≤ 1000000 := by
  rw [List.map_take]
  exact Nat.le_trans (prd_take (fun a ha => by obtain ⟨p, hp, rfl⟩ := List.mem_map.mp ha; exact bot_pos (g.1 p hp)) i) g.2.2
theorem mem_prd {l : List Nat} (h : ∀ a ∈ l, 1 ≤ a) : ∀ a ∈ l, a ≤ prd l := by
  induction l with
  | nil => intro a ha; cases ha
  | cons b r ih =>
    intro a ha
    have h1 := h b (by simp)
    have h0 : ∀ a ∈ r, 1 ≤ a := fun a ha => h a (List.mem_cons_of_mem _ ha)
    rw [prd]
    rcases List.mem_cons.mp ha with rfl | ha
    · have := Nat.mul_le_mul (Nat.le_refl a) (prd_pos h0)
      omega
    · have := Nat.mul_le_mul h1 (ih h0 a ha)
      omega
theorem goodL_one {ps : List Pt} (g : GoodL ps) {p : Pt} (hp : p ∈ ps) : GoodP p ∧ cnt p ≤ 1296 ∧ bot p ≤ 1000000 :=
  ⟨g.1 p hp, Nat.le_trans (mem_prd (fun a ha => by obtain ⟨p, hp, rfl⟩ := List.mem_map.mp ha; exact cnt_pos (g.1 p hp)) _ (List.mem_map_of_mem hp)) g.2.1,
    Nat.le_trans (mem_prd (fun a ha => by obtain ⟨p, hp, rfl⟩ := List.mem_map.mp ha; exact bot_pos (g.1 p hp)) _ (List.mem_map_of_mem hp)) g.2.2⟩
theorem goodL1 {p : Pt} (g : GoodP p) (h1 : cnt p ≤ 1296) (h2 : bot p ≤ 1000000) : GoodL [p] :=
  ⟨fun q hq => by rw [List.mem_singleton.mp hq]; exact g, by simpa [prd] using h1, by simpa [prd] using h2⟩
theorem thr_row {ps : List Pt} (g : ∀ p ∈ ps, GoodP p) : ∀ i, i ≤ ps.length → ∀ r ∈ thr (ps.take i), r.1.length ≤ 7 * i ∧ 1 ≤ r.2.2 ∧ r.2.2 ≤ prd ((ps.take i).map bot) := by
  intro i
  induction i with
  | zero => intro _ r hr; rw [List.mem_singleton.mp hr]; simp [prd]
  | succ i ih =>
    intro h r hr
    rw [take_snoc (by omega), thr_snoc] at hr
    obtain ⟨r0, h0, hr⟩ := List.mem_flatMap.mp hr
    obtain ⟨q, hq, rfl⟩ := List.mem_map.mp hr
    obtain ⟨f, hf, rfl⟩ := List.mem_map.mp hq
    obtain ⟨a, b, c⟩ := ih (by omega) r0 h0
    have gp := g _ (List.getElem_mem (show i < ps.length by omega))
    obtain ⟨d, e⟩ := row_bot gp hf
    have l := (ptF_row gp f hf).2
    have m := mst_le gp
    rw [take_snoc (by omega), List.map_append, List.map_cons, List.map_nil, prd_snoc]
    refine ⟨by rw [List.length_append]; show r0.1.length + f.length ≤ _; omega, Nat.mul_le_mul b d, Nat.mul_le_mul c e⟩
noncomputable def Ls (f g : List Int) : Prop := ∃ (c : List Int) (x y : Int) (s t : List Int), f = c ++ x :: s ∧ g = c ++ y :: t ∧ x < y
theorem Ls.pre {f g : List Int} (a : List Int) : Ls f g → Ls (a ++ f) (a ++ g) := by
  rintro ⟨c, x, y, s, t, rfl, rfl, h⟩
  exact ⟨a ++ c, x, y, s, t, by simp, by simp, h⟩
noncomputable def wsR (rs : List Row) (W : Nat) : Nat := (rs.map fun r => W / r.2.2).sum
theorem wsR_stp {rs : List Row} {p : Pt} {W : Nat} (g : GoodP p) (h : ∀ r ∈ rs, r.2.2 ∣ W) : wsR (stp rs p) (W * bot p) = wsR rs W * bot p := by
  induction rs with
  | nil => simp [wsR, stp]
  | cons r rs ih =>
    have i := ih fun q hq => h q (List.mem_cons_of_mem _ hq)
    have e : stp (r :: rs) p = ((ptR p).map fun q => ((r.1 ++ q.1, r.2.1 + q.2.1, r.2.2 * q.2.2) : Row)) ++ stp rs p := by unfold stp; rw [List.flatMap_cons]
    have a : ∀ x y : List Row, wsR (x ++ y) (W * bot p) = wsR x (W * bot p) + wsR y (W * bot p) := fun x y => by unfold wsR; rw [List.map_append, List.sum_append_nat]
    rw [e, a, i]
    have f : wsR ((ptR p).map fun q => ((r.1 ++ q.1, r.2.1 + q.2.1, r.2.2 * q.2.2) : Row)) (W * bot p) = W / r.2.2 * bot p := by
      conv => rhs; rw [← ptF_sum g]
      unfold wsR ptR wsum
      rw [List.map_map, List.map_map]
      have d := h r List.mem_cons_self
      have k : ∀ l : List (List Int), (∀ f ∈ l, sd p ^ f.length ∣ bot p) → (List.map ((fun r : Row => W * bot p / r.2.2) ∘ (fun q : Row => ((r.1 ++ q.1, r.2.1 + q.2.1, r.2.2 * q.2.2) : Row)) ∘ fun f => (f, val p f, sd p ^ f.length)) l).sum = W / r.2.2 * (List.map (fun f => bot p / sd p ^ f.length) l).sum := by
        intro l
        induction l with
        | nil => intro _; simp
        | cons f l ih =>
          intro hl
          rw [List.map_cons, List.sum_cons, List.map_cons, List.sum_cons, ih fun x hx => hl x (List.mem_cons_of_mem _ hx), Nat.mul_add]
          congr 1
          exact Nat.mul_div_mul_comm d (hl f List.mem_cons_self)
      exact k _ fun f hf => Nat.pow_dvd_pow _ (ptF_row g f hf).2
    rw [f]
    unfold wsR
    rw [List.map_cons, List.sum_cons, Nat.add_mul]
theorem stp_dvd {rs : List Row} {p : Pt} {W : Nat} (g : GoodP p) (h : ∀ r ∈ rs, r.2.2 ∣ W) : ∀ r ∈ stp rs p, r.2.2 ∣ W * bot p := by
  intro r hr
  obtain ⟨r0, h0, hr⟩ := List.mem_flatMap.mp hr
  obtain ⟨u, hu, rfl⟩ := List.mem_map.mp hr
  unfold ptR at hu
  obtain ⟨f, hf, rfl⟩ := List.mem_map.mp hu
  exact Nat.mul_dvd_mul (h r0 h0) (Nat.pow_dvd_pow _ (ptF_row g f hf).2)
theorem thr_ws {ps : List Pt} (g : ∀ p ∈ ps, GoodP p) : wsR (thr ps) (prd (ps.map bot)) = prd (ps.map bot) := by
  have : ∀ (ps : List Pt) (rs : List Row) (W : Nat), (∀ p ∈ ps, GoodP p) → (∀ r ∈ rs, r.2.2 ∣ W) → wsR (ps.foldl stp rs) (W * prd (ps.map bot)) = wsR rs W * prd (ps.map bot) := by
    intro ps
    induction ps with
    | nil => intro rs W _ _; simp [prd]
    | cons p ps ih =>
      intro rs W g h
      rw [List.foldl_cons, List.map_cons, prd, ← Nat.mul_assoc, ih _ _ (fun q hq => g q (List.mem_cons_of_mem _ hq)) (stp_dvd (g p (by simp)) h), wsR_stp (g p (by simp)) h, Nat.mul_assoc]
  have := this ps [([], 0, 1)] 1 g (by simp)
  simpa [wsR, thr] using this
noncomputable def pw (p : Pt) : Nm.Ws := (ptF p).map fun f => (val p f, ((bot p / sd p ^ f.length : Nat) : Int))
noncomputable def prA (A : Nm.Ws) (ps : List Pt) : Nm.Ws := ps.foldl (fun a p => Nm.prs a (pw p)) A
noncomputable def plW (ps : List Pt) : Nm.Ws := prA [(0, 1)] ps
noncomputable def tabP (ps : List Pt) : List (Int × Int × Int) := Nm.rowsOf (Nm.wof (plW ps)) (Nm.tot (Nm.wof (plW ps)))
theorem prs_unit (A : Nm.Ws) : Nm.prs [(0, 1)] A = A := by
  rw [Nm.prs_one]
  simp
theorem plW_cons (p : Pt) (ps : List Pt) : plW (p :: ps) = prA (pw p) ps := by unfold plW prA; rw [List.foldl_cons, prs_unit]
noncomputable def rowW (C : Nat) (rs : List Row) : Nm.Ws := rs.map fun r => (r.2.1, ((C / r.2.2 : Nat) : Int))
theorem rowW_stp {rs : List Row} {p : Pt} {W : Nat} (g : GoodP p) (h : ∀ r ∈ rs, r.2.2 ∣ W) : rowW (W * bot p) (stp rs p) = Nm.prs (rowW W rs) (pw p) := by
  induction rs with
  | nil => rfl
  | cons r rs ih =>
    have i := ih fun q hq => h q (List.mem_cons_of_mem _ hq)
    have e : stp (r :: rs) p = ((ptR p).map fun q => ((r.1 ++ q.1, r.2.1 + q.2.1, r.2.2 * q.2.2) : Row)) ++ stp rs p := by unfold stp; rw [List.flatMap_cons]
    have e2 : Nm.prs (rowW W (r :: rs)) (pw p) = ((pw p).map fun b => (r.2.1 + b.1, ((W / r.2.2 : Nat) : Int) * b.2)) ++ Nm.prs (rowW W rs) (pw p) := by unfold Nm.prs rowW; rw [List.map_cons, List.flatMap_cons]
    rw [e, e2, ← i]
    unfold rowW
    rw [List.map_append]
    congr 1
    unfold ptR pw
    rw [List.map_map, List.map_map, List.map_map]
    refine List.map_congr_left fun f hf => ?_
    simp only [Function.comp]
    have d : sd p ^ f.length ∣ bot p := Nat.pow_dvd_pow _ (ptF_row g f hf).2
    rw [Nat.mul_div_mul_comm (h r List.mem_cons_self) d, Int.natCast_mul]
theorem rowW_thr {ps : List Pt} (g : ∀ p ∈ ps, GoodP p) : rowW (prd (ps.map bot)) (thr ps) = plW ps := by
  have : ∀ (ps : List Pt) (rs : List Row) (W : Nat), (∀ p ∈ ps, GoodP p) → (∀ r ∈ rs, r.2.2 ∣ W) → rowW (W * prd (ps.map bot)) (ps.foldl stp rs) = prA (rowW W rs) ps := by
    intro ps
    induction ps with
    | nil => intro rs W _ _; simp [prd, prA]
    | cons p ps ih =>
      intro rs W g h
      have gp := g p (by simp)
      rw [List.foldl_cons, List.map_cons, prd, ← Nat.mul_assoc, ih _ _ (fun q hq => g q (List.mem_cons_of_mem _ hq)) (stp_dvd gp h), rowW_stp gp h]
      rfl
  have := this ps [([], 0, 1)] 1 g (by simp)
  rw [Nat.one_mul] at this
  exact this
theorem pw_pos {p : Pt} (g : GoodP p) : ∀ x ∈ pw p, 0 < x.2 := fun x hx => by
  obtain ⟨f, hf, rfl⟩ := List.mem_map.mp hx
  have := row_bot g hf
  have : 0 < bot p / sd p ^ f.length := Nat.div_pos this.2 this.1
  show (0 : Int) < ((bot p / sd p ^ f.length : Nat) : Int)
  omega
theorem prA_pos : ∀ {ps : List Pt} {A : Nm.Ws}, (∀ p ∈ ps, GoodP p) → (∀ x ∈ A, 0 < x.2) → ∀ x ∈ prA A ps, 0 < x.2
  | [], A, _, h => h
  | p :: ps, A, g, h => prA_pos (ps := ps) (A := Nm.prs A (pw p)) (fun q hq => g q (List.mem_cons_of_mem _ hq)) (Nm.prs_wt h (pw_pos (g p (by simp))))
theorem plW_pos {ps : List Pt} (g : ∀ p ∈ ps, GoodP p) : ∀ x ∈ plW ps, 0 < x.2 := prA_pos g (by simp)
theorem prA_len : ∀ {ps : List Pt} {A : Nm.Ws}, (prA A ps).length = A.length * prd (ps.map cnt)
  | [], A => by simp [prA, prd]
  | p :: ps, A => by
    have := prA_len (ps := ps) (A := Nm.prs A (pw p))
    rw [Nm.prs_len] at this
    have e : (pw p).length = cnt p := by unfold pw; rw [List.length_map, ptF_len]
    rw [e] at this
    show (prA (Nm.prs A (pw p)) ps).length = _
    rw [this, List.map_cons, prd, Nat.mul_assoc]
theorem plW_len (ps : List Pt) : (plW ps).length = prd (ps.map cnt) := by
  unfold plW
  rw [prA_len]
  simp
theorem plW_ne {ps : List Pt} (g : ∀ p ∈ ps, GoodP p) : plW ps ≠ [] := fun e => by
  have h := plW_len ps
  rw [e] at h
  have := prd_pos (l := ps.map cnt) fun a ha => by obtain ⟨p, hp, rfl⟩ := List.mem_map.mp ha; exact cnt_pos (g p hp)
  simp at h
  omega
theorem pos_all {ps : Nm.Ws} (h : ∀ x ∈ ps, 0 < x.2) : Nm.pos ps = ps := by
  unfold Nm.pos
  exact List.filter_eq_self.mpr fun x hx => by simpa using h x hx
theorem wof_all {ps : Nm.Ws} (h : ∀ x ∈ ps, 0 < x.2) : (∀ s, Nm.look (Nm.wof ps) s = Nm.cnt ps s) ∧ (∀ s, s ∈ Nm.keys (Nm.wof ps) ↔ s ∈ Nm.keys ps) ∧ Nm.tot (Nm.wof ps) = Nm.tot ps := by
  unfold Nm.wof
  rw [pos_all h]
  refine ⟨fun s => ?_, fun s => ?_, ?_⟩
  · rw [Nm.look_addAll]
    show 0 + Nm.cnt ps s = _
    omega
  · rw [Nm.mem_addAll]
    simp [Nm.keys]
  · rw [Nm.tot_addAll]
    simp [Nm.tot]
theorem key_cnt {ps : Nm.Ws} (h : ∀ x ∈ ps, 0 < x.2) (s : Int) : s ∈ Nm.keys ps ↔ 0 < Nm.cnt ps s := by
  refine ⟨fun k => Nm.cnt_pos h k, fun k => ?_⟩
  by_cases c : s ∈ Nm.keys ps
  · exact c
  · have : Nm.cnt ps s = 0 := by
      clear k h
      induction ps with
      | nil => rfl
      | cons x r ih =>
        have c1 : x.1 ≠ s := fun e => c (by simp [Nm.keys, e])
        have c2 : s ∉ Nm.keys r := fun e => c (by simp only [Nm.keys, List.map_cons, List.mem_cons]; exact .inr e)
        have := ih c2
        unfold Nm.cnt at *
        rw [List.map_cons, List.sum_cons, if_neg c1, this]
        rfl
    omega
theorem perm_of_nodup {l m : List Int} (hl : l.Nodup) (hm : m.Nodup) (h : ∀ x, x ∈ l ↔ x ∈ m) : l.Perm m := (List.perm_ext_iff_of_nodup hl hm).mpr h
noncomputable def Sim (A B : Nm.Ws) : Prop := ∀ s, Nm.cnt A s * Nm.tot B = Nm.cnt B s * Nm.tot A
theorem tot_ws {A : Nm.Ws} (h : ∀ x ∈ A, 0 < x.2) (n : A ≠ []) : 0 < Nm.tot A := by
  unfold Nm.tot
  exact Nm.sum_pos (by rw [List.length_map]; exact List.length_pos_iff.mpr n) fun x hx => by obtain ⟨y, hy, rfl⟩ := List.mem_map.mp hx; exact h y hy
theorem sim_rows {A B : Nm.Ws} (ha : ∀ x ∈ A, 0 < x.2) (hb : ∀ x ∈ B, 0 < x.2) (na : A ≠ []) (nb : B ≠ []) (h : Sim A B) : Nm.rowsOf (Nm.wof A) (Nm.tot (Nm.wof A)) = Nm.rowsOf (Nm.wof B) (Nm.tot (Nm.wof B)) := by
  obtain ⟨a1, a2, a3⟩ := wof_all ha
  obtain ⟨b1, b2, b3⟩ := wof_all hb
  have ta := tot_ws ha na
  have tb := tot_ws hb nb
  have ks : ∀ s, s ∈ Nm.keys (Nm.wof A) ↔ s ∈ Nm.keys (Nm.wof B) := fun s => by
    rw [a2, b2, key_cnt ha, key_cnt hb]
    have e := h s
    constructor
    · intro k
      have : 0 < Nm.cnt A s * Nm.tot B := Int.mul_pos k tb
      rw [e] at this
      exact Int.pos_of_mul_pos_left this ta
    · intro k
      have : 0 < Nm.cnt B s * Nm.tot A := Int.mul_pos k ta
      rw [← e] at this
      exact Int.pos_of_mul_pos_left this tb
  refine Nm.rows_over ⟨Nm.wof_nodup B, perm_of_nodup (Nm.wof_nodup A) (Nm.wof_nodup B) ks, fun k _ => ?_⟩ (by rw [a3]; omega) (by rw [b3]; omega)
  rw [a1, b1, a3, b3]
  exact h k
theorem tab_sim {ps qs : List Pt} (gp : ∀ p ∈ ps, GoodP p) (gq : ∀ p ∈ qs, GoodP p) (h : Sim (plW ps) (plW qs)) : tabP ps = tabP qs :=
  sim_rows (plW_pos gp) (plW_pos gq) (plW_ne gp) (plW_ne gq) h
theorem cnt_by (A B : Nm.Ws) (s : Int) : Nm.cnt (Nm.prs A B) s = (A.map fun a => Nm.cnt B (s - a.1) * a.2).sum := by
  rw [Nm.cnt_prs]
  refine Nm.sum_congr fun a _ => ?_
  unfold Nm.cnt
  rw [← Nm.sum_mul]
  refine Nm.sum_congr fun b _ => ?_
  by_cases c : a.1 + b.1 = s
  · rw [if_pos c, if_pos (by omega), Int.mul_comm]
  · rw [if_neg c, if_neg (by omega), Int.zero_mul]
noncomputable def Ceq (A B : Nm.Ws) : Prop := ∀ s, Nm.cnt A s = Nm.cnt B s
theorem Ceq.right {A B : Nm.Ws} (C : Nm.Ws) (h : Ceq A B) : Ceq (Nm.prs C A) (Nm.prs C B) := fun s => by
  rw [cnt_by, cnt_by]
  exact Nm.sum_congr fun a _ => by rw [h]
theorem ceq_swap (A B : Nm.Ws) : Ceq (Nm.prs A B) (Nm.prs B A) := fun s => Nm.cnt_swap B A s
theorem Ceq.trans {A B C : Nm.Ws} (h : Ceq A B) (k : Ceq B C) : Ceq A C := fun s => (h s).trans (k s)
theorem Ceq.left {A B : Nm.Ws} (C : Nm.Ws) (h : Ceq A B) : Ceq (Nm.prs A C) (Nm.prs B C) := (ceq_swap A C).trans ((h.right C).trans (ceq_swap C B))
theorem prs_assoc (A B C : Nm.Ws) : Nm.prs (Nm.prs A B) C = Nm.prs A (Nm.prs B C) := by
  induction A with
  | nil => rfl
  | cons a A ih =>
    have e : ∀ X, Nm.prs (a :: A) X = (X.map fun b => (a.1 + b.1, a.2 * b.2)) ++ Nm.prs A X := fun X => by unfold Nm.prs; rw [List.flatMap_cons]
    rw [e, e, Nm.prs_append, ih]
    congr 1
    unfold Nm.prs
    rw [List.flatMap_map, List.map_flatMap]
    congr 1
    funext b
    rw [List.map_map]
    refine List.map_congr_left fun c _ => ?_
    simp only [Function.comp, Int.add_assoc, Int.mul_assoc]
theorem Ceq.sim {A B : Nm.Ws} (h : Ceq A B) (t : Nm.tot A = Nm.tot B) : Sim A B := fun s => by rw [h s, t]
noncomputable def lo : Pt → Int
  | .num n => n
  | _ => 0
theorem plW_tot {ps : List Pt} (g : ∀ p ∈ ps, GoodP p) : Nm.tot (plW ps) = (prd (ps.map bot) : Nat) := by
  rw [← rowW_thr g]
  have e := thr_ws g
  conv => rhs; rw [← e]
  unfold rowW wsR Nm.tot
  generalize thr ps = rs
  induction rs with
  | nil => rfl
  | cons r rs ih => simp only [List.map_cons, List.sum_cons, ih, Int.natCast_add]
theorem prs_unit_r (A : Nm.Ws) : Nm.prs A [(0, 1)] = A := by
  induction A with
  | nil => rfl
  | cons a A ih =>
    have e : Nm.prs (a :: A) [(0, 1)] = [(a.1 + 0, a.2 * 1)] ++ Nm.prs A [(0, 1)] := by unfold Nm.prs; rw [List.flatMap_cons]; rfl
    rw [e, ih, Int.add_zero, Int.mul_one]
    rfl
theorem prA_prs : ∀ (ps : List Pt) (A : Nm.Ws), prA A ps = Nm.prs A (plW ps)
  | [], A => (prs_unit_r A).symm
  | p :: ps, A => by
    rw [plW_cons, prA_prs ps (pw p), ← prs_assoc, ← prA_prs ps (Nm.prs A (pw p))]
    rfl
theorem plW_app (a b : List Pt) : plW (a ++ b) = Nm.prs (plW a) (plW b) := by
  rw [← prA_prs]
  unfold plW prA
  rw [List.foldl_append]
theorem plW_one (p : Pt) : plW [p] = pw p := plW_cons p []
theorem tab_turn {a b : List Pt} (g : ∀ p ∈ a ++ b, GoodP p) : tabP (b ++ a) = tabP (a ++ b) := by
  refine tab_sim (fun p hp => g p ?_) g ?_
  · rcases List.mem_append.mp hp with h | h
    · exact List.mem_append.mpr (.inr h)
    · exact List.mem_append.mpr (.inl h)
  · rw [plW_app, plW_app]
    exact (ceq_swap _ _).sim (by rw [Nm.tot_prs, Nm.tot_prs, Int.mul_comm])
theorem mom_turn (a b : List Pt) : Nm.mom (plW (b ++ a)) = Nm.mom (plW (a ++ b)) := by
  rw [plW_app, plW_app, Nm.mom_prs, Nm.mom_prs]
  grind
theorem tot_turn (a b : List Pt) : Nm.tot (plW (b ++ a)) = Nm.tot (plW (a ++ b)) := by rw [plW_app, plW_app, Nm.tot_prs, Nm.tot_prs, Int.mul_comm]
theorem prd_app : ∀ (a b : List Nat), prd (a ++ b) = prd a * prd b
  | [], b => by simp [prd]
  | x :: a, b => by rw [List.cons_append, prd, prd, prd_app a b, Nat.mul_assoc]
theorem goodL_turn {a b : List Pt} (g : GoodL (a ++ b)) : GoodL (b ++ a) := by
  obtain ⟨g1, g2, g3⟩ := g
  rw [List.map_append, prd_app] at g2 g3
  refine ⟨fun p hp => g1 p ?_, by rw [List.map_append, prd_app, Nat.mul_comm]; exact g2, by rw [List.map_append, prd_app, Nat.mul_comm]; exact g3⟩
  rcases List.mem_append.mp hp with h | h
  · exact List.mem_append.mpr (.inr h)
  · exact List.mem_append.mpr (.inl h)
theorem goodL_take {ps : List Pt} (g : GoodL ps) (i : Nat) : GoodL (ps.take i) := ⟨fun p hp => g.1 p (List.mem_of_mem_take hp), goodL_cnt g i, goodL_bot g i⟩
noncomputable def sby (f : Int → Int) (ws : Nm.Ws) : Int := (ws.map fun p => f p.1 * p.2).sum
theorem sby_addk (f : Int → Int) : ∀ (ws : Nm.Ws) (k x : Int), sby f (Nm.addk ws k x) = sby f ws + f k * x
  | [], k, x => by simp [sby, Nm.addk, Nm.put, Nm.look]
  | p :: r, k, x => by
    have ih := sby_addk f r k x
    unfold Nm.addk at *
    unfold Nm.put Nm.look
    by_cases c : p.1 = k
    · rw [if_pos c, if_pos c]
      simp only [sby, List.map_cons, List.sum_cons, ← c]
      rw [Int.mul_add]
      omega
    · rw [if_neg c, if_neg c]
      simp only [sby, List.map_cons, List.sum_cons] at ih ⊢
      omega
theorem sby_addAll (f : Int → Int) : ∀ (ps ws : Nm.Ws), sby f (Nm.addAll ws ps) = sby f ws + sby f ps
  | [], ws => by simp [sby, Nm.addAll]
  | p :: r, ws => by
    have e : Nm.addAll ws (p :: r) = Nm.addAll (Nm.addk ws p.1 p.2) r := rfl
    rw [e, sby_addAll f r, sby_addk]
    simp only [sby, List.map_cons, List.sum_cons]
    omega
theorem abv_sby (n : Int) (ws : Nm.Ws) : Nm.abv n ws = sby (fun v => if n ≤ v then 1 else 0) ws := by
  unfold Nm.abv sby
  refine Nm.sum_congr fun p _ => ?_
  by_cases c : n ≤ p.1
  · simp only [if_pos c, Int.one_mul]
  · simp only [if_neg c, Int.zero_mul]
theorem wof_mom {A : Nm.Ws} (h : ∀ x ∈ A, 0 < x.2) : Nm.mom (Nm.wof A) = Nm.mom A := by
  unfold Nm.wof
  rw [pos_all h, Nm.mom_addAll]
  simp [Nm.mom]
theorem wof_abv {A : Nm.Ws} (h : ∀ x ∈ A, 0 < x.2) (n : Int) : Nm.abv n (Nm.wof A) = Nm.abv n A := by
  unfold Nm.wof
  rw [pos_all h, abv_sby, sby_addAll, abv_sby]
  simp [sby]
noncomputable def GoodR (W : Int) (rows : List (Int × Int × Int)) : Prop := 0 < W ∧ W ≤ 1000000 ∧ rows.length ≤ 1296 ∧ ∀ r ∈ rows, 0 < r.2.2 ∧ r.2.2 ∣ W ∧ 0 ≤ r.2.1 ∧ r.2.1 ≤ W
noncomputable def GoodB (W : Int) (rows : List (Int × Int × Int)) (B : Int) : Prop := 0 < B ∧ B ∣ W ∧ ∀ r ∈ rows, r.2.2 ∣ B
theorem tab_len (ps : List Pt) (g : ∀ p ∈ ps, GoodP p) : (tabP ps).length ≤ prd (ps.map cnt) := by
  unfold tabP Nm.rowsOf
  rw [List.length_map, Nm.srt_length]
  unfold Nm.keys Nm.wof
  rw [List.length_map, pos_all (plW_pos g)]
  have := Nm.len_addAll (plW ps) []
  rw [plW_len] at this
  simpa using this
theorem goodR_tab {ps : List Pt} (g : GoodL ps) : GoodR (Nm.tot (plW ps)) (tabP ps) := by
  obtain ⟨w1, w2, w3⟩ := wof_all (plW_pos g.1)
  have T0 := tot_ws (plW_pos g.1) (plW_ne g.1)
  have tt := plW_tot g.1
  have tl := tab_len ps g.1
  have := g.2.1
  have := g.2.2
  refine ⟨T0, by omega, by omega, fun r hr => ?_⟩
  unfold tabP Nm.rowsOf at hr
  obtain ⟨v, hv, rfl⟩ := List.mem_map.mp hr
  have hv := Nm.srt_mem.mp hv
  rw [w3]
  have l0 : 0 < Nm.look (Nm.wof (plW ps)) v := by rw [w1]; exact Nm.cnt_pos (plW_pos g.1) ((w2 v).mp hv)
  have l1 : Nm.look (Nm.wof (plW ps)) v ≤ Nm.tot (plW ps) := by
    rw [← w3]
    exact Nm.look_le (Nm.wof_nodup _) (fun k hk => by rw [w1]; exact Nm.cnt_pos (plW_pos g.1) ((w2 k).mp hk)) hv
  obtain ⟨e1, e2⟩ := Nm.st_pos (a := Nm.look (Nm.wof (plW ps)) v) T0
  have g0 := Nm.g_pos (a := Nm.look (Nm.wof (plW ps)) v) (show Nm.tot (plW ps) ≠ 0 by omega)
  have a1 := Nm.st_abs (a := Nm.look (Nm.wof (plW ps)) v) (show Nm.tot (plW ps) ≠ 0 by omega)
  have s0 : 0 ≤ Nm.st (Nm.look (Nm.wof (plW ps)) v) (Nm.tot (plW ps)) := by rw [e1]; exact Int.ediv_nonneg (by omega) (by omega)
  refine ⟨Nm.sb_pos (by omega), ?_, s0, ?_⟩
  · show Nm.sb (Nm.look (Nm.wof (plW ps)) v) (Nm.tot (plW ps)) ∣ Nm.tot (plW ps)
    rw [e2]
    exact Int.ediv_dvd_of_dvd (Nm.g_dvd_r _ _)
  · show Nm.st (Nm.look (Nm.wof (plW ps)) v) (Nm.tot (plW ps)) ≤ Nm.tot (plW ps)
    omega
theorem over_tab {ps : List Pt} (g : GoodL ps) {W B : Int} (gb : GoodB W (tabP ps) B) : Nm.Over (Nm.weigh (tabP ps) B) (Nm.wof (plW ps)) B (Nm.tot (plW ps)) := by
  obtain ⟨w1, w2, w3⟩ := wof_all (plW_pos g.1)
  have T0 := tot_ws (plW_pos g.1) (plW_ne g.1)
  have := Nm.weigh_over (B := B) (T := Nm.tot (Nm.wof (plW ps))) (Nm.wof_nodup (plW ps)) (by omega) gb.2.2
  unfold tabP
  rw [w3] at this ⊢
  exact this
theorem cnt_wof {A : Nm.Ws} (h : ∀ x ∈ A, 0 < x.2) : Ceq (Nm.wof A) A := fun s => by rw [Nm.cnt_look (Nm.wof_nodup A), (wof_all h).1]
theorem add_tab {a b : List Pt} (ga : GoodL a) (gb : GoodL b) {W1 W2 B1 B2 : Int} (h1 : GoodB W1 (tabP a) B1) (h2 : GoodB W2 (tabP b) B2) :
    Nm.rowsOf (Nm.bothW (Nm.weigh (tabP a) B1) (Nm.weigh (tabP b) B2)) (B1 * B2) = tabP (a ++ b) := by
  have pa := plW_pos ga.1
  have pb := plW_pos gb.1
  have g : ∀ p ∈ a ++ b, GoodP p := fun p hp => by
    rcases List.mem_append.mp hp with h | h
    · exact ga.1 p h
    · exact gb.1 p h
  have Ta := tot_ws pa (plW_ne ga.1)
  have Tb := tot_ws pb (plW_ne gb.1)
  have Tab := tot_ws (plW_pos g) (plW_ne g)
  obtain ⟨w1, w2, w3⟩ := wof_all (plW_pos g)
  obtain ⟨a1, a2, a3⟩ := wof_all pa
  obtain ⟨b1, b2, b3⟩ := wof_all pb
  rw [Nm.rows_both (over_tab ga h1) (over_tab gb h2) (Int.mul_ne_zero (by have := h1.1; omega) (by have := h2.1; omega)) (Int.mul_ne_zero (by omega) (by omega))]
  have ce : Ceq (Nm.prs (Nm.wof (plW a)) (Nm.wof (plW b))) (plW (a ++ b)) := by
    rw [plW_app]
    exact ((cnt_wof pa).left _).trans ((cnt_wof pb).right _)
  have tt : Nm.tot (plW (a ++ b)) = Nm.tot (plW a) * Nm.tot (plW b) := by rw [plW_app, Nm.tot_prs]
  unfold tabP
  refine Nm.rows_over ⟨Nm.wof_nodup _, perm_of_nodup (Nm.both_nodup _ _) (Nm.wof_nodup _) fun s => ?_, fun k _ => ?_⟩ (Int.mul_ne_zero (by omega) (by omega)) (by rw [w3]; omega)
  · rw [w2]
    have e1 : s ∈ Nm.keys (Nm.bothW (Nm.wof (plW a)) (Nm.wof (plW b))) ↔ s ∈ Nm.keys (Nm.prs (Nm.wof (plW a)) (Nm.wof (plW b))) := by
      unfold Nm.bothW
      rw [Nm.mem_addAll]
      simp [Nm.keys]
    rw [e1, plW_app, Nm.mem_prs, Nm.mem_prs]
    constructor
    · rintro ⟨x, hx, y, hy, e⟩
      exact ⟨x, (a2 x).mp hx, y, (b2 y).mp hy, e⟩
    · rintro ⟨x, hx, y, hy, e⟩
      exact ⟨x, (a2 x).mpr hx, y, (b2 y).mpr hy, e⟩
  · rw [Nm.both_look, ce k, w1, w3, tt]
theorem mean_tab {ps : List Pt} (g : GoodL ps) {W B : Int} (gb : GoodB W (tabP ps) B) : Nm.st (Nm.mom (Nm.weigh (tabP ps) B)) B = Nm.st (Nm.mom (plW ps)) (Nm.tot (plW ps)) ∧ Nm.sb (Nm.mom (Nm.weigh (tabP ps) B)) B = Nm.sb (Nm.mom (plW ps)) (Nm.tot (plW ps)) := by
  have T0 := tot_ws (plW_pos g.1) (plW_ne g.1)
  refine Nm.st_eq (by have := gb.1; omega) (by omega) ?_
  rw [Nm.mom_over (over_tab g gb), wof_mom (plW_pos g.1)]
theorem from_tab {ps : List Pt} (g : GoodL ps) (n : Int) {W B : Int} (gb : GoodB W (tabP ps) B) : Nm.st (Nm.abv n (Nm.weigh (tabP ps) B)) B = Nm.st (Nm.abv n (plW ps)) (Nm.tot (plW ps)) ∧ Nm.sb (Nm.abv n (Nm.weigh (tabP ps) B)) B = Nm.sb (Nm.abv n (plW ps)) (Nm.tot (plW ps)) := by
  have T0 := tot_ws (plW_pos g.1) (plW_ne g.1)
  refine Nm.st_eq (by have := gb.1; omega) (by omega) ?_
  rw [Nm.abv_over n (over_tab g gb), wof_abv (plW_pos g.1)]
noncomputable def mnT (ps : List Pt) : Int := Nm.st (Nm.mom (plW ps)) (Nm.tot (plW ps))
noncomputable def mnB (ps : List Pt) : Int := Nm.sb (Nm.mom (plW ps)) (Nm.tot (plW ps))
theorem mn_app {a b : List Pt} (ga : GoodL a) (gb : GoodL b) : Nm.st (mnT a * mnB b + mnT b * mnB a) (mnB a * mnB b) = mnT (a ++ b) ∧ Nm.sb (mnT a * mnB b + mnT b * mnB a) (mnB a * mnB b) = mnB (a ++ b) := by
  have Ta := tot_ws (plW_pos ga.1) (plW_ne ga.1)
  have Tb := tot_ws (plW_pos gb.1) (plW_ne gb.1)
  have := Nm.mean_plus (M1 := Nm.mom (plW a)) (M2 := Nm.mom (plW b)) Ta Tb
  unfold mnT mnB
  rw [plW_app, Nm.mom_prs, Nm.tot_prs]
  exact this
theorem mnB_bnd {a : List Pt} (g : GoodL a) : 0 < mnB a ∧ mnB a ≤ 1000000 := by
  have T0 := tot_ws (plW_pos g.1) (plW_ne g.1)
  have T1 := (goodR_tab g).2.1
  have p := Nm.sb_pos (a := Nm.mom (plW a)) (show Nm.tot (plW a) ≠ 0 by omega)
  have q := Nm.sb_abs (a := Nm.mom (plW a)) (show Nm.tot (plW a) ≠ 0 by omega)
  unfold mnB
  omega
theorem sumI_append : ∀ a b : List Int, (a ++ b).sum = a.sum + b.sum
  | [], b => by simp
  | x :: a, b => by rw [List.cons_append, List.sum_cons, List.sum_cons, sumI_append a b]; omega
theorem sumI_perm {a b : List Int} (h : a.Perm b) : a.sum = b.sum := by
  have := Nm.sum_perm (fun x : Int => x) h
  simpa using this
theorem bw_val {f : List Int} {n : Nat} (h : n ≤ f.length) : ((Nm.srt f).reverse.take n).sum + ((Nm.srt f).take (f.length - n)).sum = f.sum := by
  have e : (Nm.srt f).reverse.take n = ((Nm.srt f).drop (f.length - n)).reverse := by rw [List.take_reverse, Nm.srt_length]
  rw [e, sumI_perm (List.reverse_perm _), Int.add_comm, ← sumI_append, List.take_append_drop, sumI_perm (Nm.srt_perm f)]
noncomputable def dsum (F : List (List Int)) : Int := (F.map List.sum).sum
theorem dsum_flat (s : Nat) : ∀ F : List (List Int), dsum (F.flatMap fun f => (List.range s).map fun i : Nat => f ++ [((i : Nat) : Int) + 1]) = s * dsum F + F.length * ((List.range s).map fun i : Nat => ((i : Nat) : Int) + 1).sum
  | [] => by simp [dsum]
  | f :: F => by
    have ih := dsum_flat s F
    unfold dsum at *
    rw [List.flatMap_cons, List.map_append, sumI_append, ih, List.map_cons, List.sum_cons, List.length_cons, List.map_map]
    have e : ∀ l : List Nat, (l.map (List.sum ∘ fun i : Nat => f ++ [((i : Nat) : Int) + 1])).sum = l.length * f.sum + (l.map fun i : Nat => ((i : Nat) : Int) + 1).sum := by
      intro l
      induction l with
      | nil => simp
      | cons a l ih =>
        rw [List.map_cons, List.sum_cons, ih, List.map_cons, List.sum_cons, List.length_cons]
        simp only [Function.comp, sumI_append, List.sum_cons, List.sum_nil]
        grind
    rw [e, List.length_range]
    grind
theorem rsum (s : Nat) : 2 * ((List.range s).map fun i : Nat => ((i : Nat) : Int) + 1).sum = s * (s + 1) := by
  induction s with
  | zero => rfl
  | succ s ih =>
    rw [List.range_succ, List.map_append, sumI_append, Int.mul_add, ih]
    simp only [List.map_cons, List.map_nil, List.sum_cons, List.sum_nil]
    grind
theorem dc_dsum (s : Nat) : ∀ d : Nat, 2 * dsum (dcF s d) = d * (s + 1) * ((s ^ d : Nat) : Int)
  | 0 => by simp [dsum, dcF]
  | d + 1 => by
    have ih := dc_dsum s d
    have r := rsum s
    rw [dcF, dsum_flat, dcF_len, Nat.pow_succ]
    grind
theorem bw_mom {n m s : Nat} (h : n ≤ m) : Nm.mom (plW [.best n m s]) + Nm.mom (plW [.worst (m - n) m s]) = dsum (dcF s m) := by
  rw [plW_one, plW_one]
  have row := dcF_row s m
  have wt : ∀ f ∈ dcF s m, 1 ≤ s → ((s ^ m / s ^ f.length : Nat) : Int) = 1 := fun f hf hs => by rw [(row f hf).1, Nat.div_self (Nat.pow_pos hs)]; rfl
  by_cases s0 : 1 ≤ s
  · have key : ∀ F : List (List Int), (∀ f ∈ F, f ∈ dcF s m) → Nm.mom (F.map fun f => (val (.best n m s) f, ((bot (.best n m s) / sd (.best n m s) ^ f.length : Nat) : Int))) + Nm.mom (F.map fun f => (val (.worst (m - n) m s) f, ((bot (.worst (m - n) m s) / sd (.worst (m - n) m s) ^ f.length : Nat) : Int))) = dsum F := by
      intro F
      induction F with
      | nil => intro _; rfl
      | cons f F ih =>
        intro hF
        have i := ih fun g hg => hF g (List.mem_cons_of_mem _ hg)
        have hf := hF f (by simp)
        have w1 : ((bot (.best n m s) / sd (.best n m s) ^ f.length : Nat) : Int) = 1 := wt f hf s0
        have w2 : ((bot (.worst (m - n) m s) / sd (.worst (m - n) m s) ^ f.length : Nat) : Int) = 1 := wt f hf s0
        have v := bw_val (f := f) (n := n) (by rw [(row f hf).1]; exact h)
        rw [(row f hf).1] at v
        have v1 : val (.best n m s) f = ((Nm.srt f).reverse.take n).sum := rfl
        have v2 : val (.worst (m - n) m s) f = ((Nm.srt f).take (m - n)).sum := rfl
        unfold Nm.mom dsum at *
        rw [List.map_cons, List.map_cons, List.sum_cons, List.map_cons, List.map_cons, List.sum_cons, List.map_cons, List.sum_cons, ← i]
        simp only [w1, w2, v1, v2, Int.mul_one]
        omega
    exact key (dcF s m) fun f hf => hf
  · have e : s = 0 := by omega
    subst e
    cases m with
    | zero =>
      have : n = 0 := by omega
      subst this
      decide +kernel
    | succ m =>
      have : dcF 0 (m + 1) = [] := List.eq_nil_of_length_eq_zero (by rw [dcF_len]; simp)
      show Nm.mom ((dcF 0 (m + 1)).map _) + Nm.mom ((dcF 0 (m + 1)).map _) = dsum (dcF 0 (m + 1))
      rw [this]
      rfl
theorem bw_even {n m s : Nat} (h : n ≤ m) (ga : GoodL [.best n m s]) (gb : GoodL [.worst (m - n) m s]) {x y : Int} (ex : x = Nm.st (mnT [.best n m s] * mnB [.worst (m - n) m s] + mnT [.worst (m - n) m s] * mnB [.best n m s]) (mnB [.best n m s] * mnB [.worst (m - n) m s]))
    (ey : y = Nm.sb (mnT [.best n m s] * mnB [.worst (m - n) m s] + mnT [.worst (m - n) m s] * mnB [.best n m s]) (mnB [.best n m s] * mnB [.worst (m - n) m s])) : x * 2 = (m : Int) * ((s : Int) + 1) * y := by
  obtain ⟨e1, e2⟩ := mn_app ga gb
  rw [e1] at ex
  rw [e2] at ey
  have Ta := plW_tot ga.1
  have Tb := plW_tot gb.1
  have ba : prd ([Pt.best n m s].map bot) = s ^ m := by simp [prd, bot, sd, lst, mst]
  have bb : prd ([Pt.worst (m - n) m s].map bot) = s ^ m := by simp [prd, bot, sd, lst, mst]
  rw [ba] at Ta
  rw [bb] at Tb
  have T0 := tot_ws (plW_pos ga.1) (plW_ne ga.1)
  have ms := bw_mom (s := s) h
  have ds := dc_dsum s m
  have c := Nm.st_cross (Nm.mom (plW ([.best n m s] ++ [.worst (m - n) m s]))) (Nm.tot (plW ([.best n m s] ++ [.worst (m - n) m s])))
  unfold mnT at ex
  unfold mnB at ey
  rw [← ex, ← ey, plW_app, Nm.mom_prs, Nm.tot_prs, Ta, Tb] at c
  rw [Ta] at T0
  generalize ((s ^ m : Nat) : Int) = T at *
  generalize Nm.mom (plW [.best n m s]) = M1 at *
  generalize Nm.mom (plW [.worst (m - n) m s]) = M2 at *
  have k : (x * 2) * (T * T) = ((m : Int) * ((s : Int) + 1) * y) * (T * T) := by
    have e3 : (M1 * T + T * M2) * 2 = (m : Int) * ((s : Int) + 1) * T * T := by grind
    grind
  exact Int.eq_of_mul_eq_mul_right (Int.mul_ne_zero (by omega) (by omega)) k
noncomputable def spCd : Sp := fun vs H Q _ => ∃ a b, vs = [.int a, .int b] ∧ Q (.int (Nm.g a b)) H
noncomputable def spSh (qn : Addr) : Sp := fun vs H Q E => ∃ a b, vs = [.int a, .int b] ∧ Bt 5000 b ∧ (b = 0 → E (.ref qn) none H) ∧ (b ≠ 0 → ∀ p H', Same H H' → H p = none → H' p = some (.tup (Pr (Nm.st a b) (Nm.sb a b))) → Q (.ref p) H')
noncomputable def spTW : Sp := fun vs H Q _ => ∃ d B ws, vs = [.ref d, .int B] ∧ H d = some (.dK (enc ws)) ∧ (Nm.keys ws).Nodup ∧ ws.length ≤ 10000 ∧ B ≠ 0 ∧ Bt 5000 B ∧ ∀ p H', Same H H' → H p = none → Rep H' (rowsD (Nm.rowsOf ws B)) (.ref p) → Q (.ref p) H'
noncomputable def spTO (qt : Addr) : Sp := fun vs H Q E => ∃ v ps, vs = [v] ∧ Rep H (wrowsD ps) v ∧ ps.length ≤ 1296 ∧ (∀ p ∈ ps, p.2 ≤ 10 ^ 12) ∧
  (Nm.bad ps → ∀ H', Same H H' → E (.ref qt) none H') ∧
  (¬ Nm.bad ps → ∀ p H', Same H H' → H p = none → Rep H' (rowsD (Nm.rowsOf (Nm.wof ps) (Nm.tot (Nm.wof ps)))) (.ref p) → Q (.ref p) H')
noncomputable def Fa (H : Hp) (f : List Int) (v : V) : Prop := ∃ q, v = .ref q ∧ H q = some (.lst (List.map V.int f))
theorem Fa.mono {H H' : Hp} {f : List Int} {v : V} (s : Same H H') : Fa H f v → Fa H' f v := fun ⟨q, e, h⟩ => ⟨q, e, s _ _ h⟩
noncomputable def TR (G H : Hp) (r : Row) (v : V) : Prop := ∃ a q, v = .ref a ∧ H a = some (.tup [.ref q, .int r.2.1, .int (r.2.2 : Int)]) ∧ H q = some (.lst (List.map V.int r.1)) ∧ G q = none
theorem TR.mono {G H H' : Hp} {r : Row} {v : V} (s : Same H H') : TR G H r v → TR G H' r v := fun ⟨a, q, e, h, k, n⟩ => ⟨a, q, e, s _ _ h, s _ _ k, n⟩
noncomputable def WR (G H : Hp) (r : Row) (v : V) : Prop := ∃ a q t, v = .ref a ∧ H a = some (.tup [.ref q, .int r.2.1, .ref t]) ∧ H q = some (.lst (List.map V.int r.1)) ∧ G q = none ∧ H t = some (.tup [.int 1, .int (r.2.2 : Int)])
theorem WR.mono {G H H' : Hp} {r : Row} {v : V} (s : Same H H') : WR G H r v → WR G H' r v := fun ⟨a, q, t, e, h, k, n, m⟩ => ⟨a, q, t, e, s _ _ h, s _ _ k, n, s _ _ m⟩
noncomputable def PlH (H : Hp) (l : Addr) (ps : List Pt) : Prop := ∃ xs, H l = some (.lst xs) ∧ Al (fun p v => ∃ q, v = .ref q ∧ H q = some (.tup (ptV p))) ps xs
theorem PlH.mono {H H' : Hp} {l : Addr} {ps : List Pt} (s : Same H H') : PlH H l ps → PlH H' l ps := fun ⟨xs, h, a⟩ => ⟨xs, s _ _ h, a.imp fun _ _ ⟨q, e, k⟩ => ⟨q, e, s _ _ k⟩⟩
theorem hid_hid {H : Hp} {p : Addr} {o : HO} : hid (upd H p o) p = hid H p := by
  funext a
  unfold hid
  by_cases c : a = p
  · rw [if_pos c, if_pos c]
  · rw [if_neg c, if_neg c, upd_ne c]
theorem last_p (p : Pt) : atI (ptV p) (-1) = some (.int (lst p : Int)) := by cases p <;> rfl
theorem g_one (b : Int) : Nm.g 1 b = 1 := by unfold Nm.g; simp
theorem st_one {b : Int} (h : 0 < b) : Nm.st 1 b = 1 := by unfold Nm.st; rw [g_one, if_neg (by omega)]; simp
theorem sb_one {b : Int} (h : 0 < b) : Nm.sb 1 b = b := by unfold Nm.sb; rw [g_one, if_neg (by omega)]; simp
theorem while_at {c : TT} {tb : TS} {D : Ends} {σ : L2.St} {H : Hp} (Pv : L2.St → Hp → Prop) (μ : L2.St → Hp → Nat) (h0 : Pv σ H)
    (hs : ∀ σ H, Pv σ H → ∃ b : Bool, (∀ Q : Bool → Hp → Prop, Q b H → c σ H Q) ∧ if b = true then tb { D with nx := fun σ' H' => Pv σ' H' ∧ μ σ' H' < μ σ H, ct := fun σ' H' => Pv σ' H' ∧ μ σ' H' < μ σ H, bk := D.nx } σ H else D.nx σ H) : tWhile c tb D σ H := by
  refine ⟨fun m σ H => m = μ σ H ∧ Pv σ H, ⟨_, rfl, h0⟩, ?_⟩
  rintro m σ H ⟨rfl, p⟩
  obtain ⟨b, k, q⟩ := hs σ H p
  refine k _ ?_
  cases b with
  | true => exact ⟨_, fun σ' H' ⟨p', l⟩ => ⟨_, l, rfl, p'⟩, q⟩
  | false => exact q
noncomputable def kd : Pt → Str
  | .num _ => Str.ofString "number"
  | .dice _ _ => Str.ofString "dice"
  | .best _ _ _ => Str.ofString "best"
  | .worst _ _ _ => Str.ofString "worst"
  | .hits _ _ _ => Str.ofString "hits"
  | .again _ _ => Str.ofString "again"
  | .burst _ _ => Str.ofString "burst"
noncomputable def spPw : Sp := fun vs H Q _ => ∃ b e : Nat, vs = [.int (b : Int), .int (e : Int)] ∧ (1 ≤ b ∨ e = 0) ∧ e ≤ 10 ∧ b ^ e ≤ 1000000 ∧ Q (.int ((b ^ e : Nat) : Int)) H
noncomputable def spMf : Sp := fun vs H Q _ => ∃ q p, vs = [.ref q] ∧ H q = some (.tup (ptV p)) ∧ Q (.int (mst p : Int)) H
noncomputable def spBo : Sp := fun vs H Q _ => ∃ q p, vs = [.ref q] ∧ H q = some (.tup (ptV p)) ∧ GoodP p ∧ bot p ≤ 1000000 ∧ Q (.int (bot p : Int)) H
noncomputable def spCt : Sp := fun vs H Q _ => ∃ q p, vs = [.ref q] ∧ H q = some (.tup (ptV p)) ∧ GoodP p ∧ bot p ≤ 1000000 ∧ Q (.int (cnt p : Int)) H
noncomputable def spCk : Sp := fun vs H Q _ => ∃ l ps, vs = [.ref l] ∧ PlH H l ps ∧ GoodL ps ∧ Q .non H
noncomputable def spDf : Sp := fun vs H Q _ => ∃ d s : Nat, vs = [.int (d : Int), .int (s : Int)] ∧ 1 ≤ s ∧ s ≤ 20 ∧ d ≤ 6 ∧ s ^ d ≤ 1296 ∧ ∀ l H' xs, Same H H' → H' l = some (.lst xs) → Al (Fa H') (dcF s d) xs → Q (.ref l) H'
noncomputable def spAf : Sp := fun vs H Q _ => ∃ n s : Nat, vs = [.int (n : Int), .int (s : Int)] ∧ s ≤ 20 ∧ ∀ l H' xs, Same H H' → H' l = some (.lst xs) → Al (Fa H') (agF n s) xs → Q (.ref l) H'
noncomputable def spBf : Sp := fun vs H Q _ => ∃ n s : Nat, vs = [.int (n : Int), .int (s : Int)] ∧ 1 ≤ s ∧ s ≤ 20 ∧ n ≤ 7 ∧ ∀ l H' xs, Same H H' → H' l = some (.lst xs) → Al (Fa H') (buF s n) xs → Q (.ref l) H'
noncomputable def spPf : Sp := fun vs H Q _ => ∃ q p, vs = [.ref q] ∧ H q = some (.tup (ptV p)) ∧ GoodP p ∧ cnt p ≤ 1296 ∧ ∀ l H' xs, Same H H' → H' l = some (.lst xs) → Al (Fa H') (ptF p) xs → Q (.ref l) H'
noncomputable def spVo : Sp := fun vs H Q _ => ∃ q p l f, vs = [.ref q, .ref l] ∧ H q = some (.tup (ptV p)) ∧ H l = some (.lst (List.map V.int f)) ∧ GoodP p ∧ f ∈ ptF p ∧ ∀ H', Same H H' → Q (.int (val p f)) H'
noncomputable def spSp : Sp := fun vs H Q _ => ∃ q p l f, vs = [.ref q, .ref l] ∧ H q = some (.tup (ptV p)) ∧ H l = some (.lst (List.map V.int f)) ∧ GoodP p ∧ f ∈ ptF p ∧ Q (.int ((sd p ^ f.length : Nat) : Int)) H
noncomputable def spPt : Sp := fun vs H Q _ => ∃ q p, vs = [.ref q] ∧ H q = some (.tup (ptV p)) ∧ GoodP p ∧ cnt p ≤ 1296 ∧ ∀ l H' xs, Same H H' → H' l = some (.lst xs) → Al (TR (fun _ => none) H') (ptR p) xs → Q (.ref l) H'
noncomputable def spTb : Sp := fun vs H Q _ => ∃ a ps, vs = [.ref a] ∧ PlH H a ps ∧ GoodL ps ∧ ps.length ≤ 4 ∧ ∀ l H' xs, Same H H' → H' l = some (.lst xs) → Al (TR H H') (thr ps) xs → Q (.ref l) H'
noncomputable def spTh : Sp := fun vs H Q _ => ∃ a ps, vs = [.ref a] ∧ PlH H a ps ∧ GoodL ps ∧ ps.length ≤ 4 ∧ ∀ l H' xs, Same H H' → H l = none → H' l = some (.lst xs) → Al (WR H (hid H' l)) (thr ps) xs → Q (.ref l) H'
noncomputable def Four (p : Pt) : Prop := ∃ wd : Str, atI (ptV p) 0 = some (.str wd) ∧ ¬ wd = "number" ∧ ¬ wd = "again" ∧ ¬ wd = "burst" ∧ atI (ptV p) (-1) = some (.int (lst p : Nat)) ∧ atI (ptV p) (-2) = some (.int (mst p : Nat)) ∧ atI (ptV p) (((ptV p).length : Nat) - 1 : Int) = some (.int (lst p : Nat)) ∧ atI (ptV p) (((ptV p).length : Nat) - 2 : Int) = some (.int (mst p : Nat)) ∧ cnt p = lst p ^ mst p ∧ bot p = lst p ^ mst p ∧ ptF p = dcF (lst p) (mst p) ∧ (GoodP p → 1 ≤ lst p ∧ lst p ≤ 20 ∧ mst p ≤ 6)
theorem four_dice {m s : Nat} : Four (.dice m s) := ⟨"dice", rfl, by decide +kernel, by decide +kernel, by decide +kernel, rfl, rfl, rfl, rfl, rfl, rfl, rfl, fun g => ⟨g.1, g.2.1, g.2.2⟩⟩
theorem four_best {n m s : Nat} : Four (.best n m s) := ⟨"best", rfl, by decide +kernel, by decide +kernel, by decide +kernel, rfl, rfl, rfl, rfl, rfl, rfl, rfl, fun g => ⟨g.1, g.2.1, g.2.2.1⟩⟩
theorem four_worst {n m s : Nat} : Four (.worst n m s) := ⟨"worst", rfl, by decide +kernel, by decide +kernel, by decide +kernel, rfl, rfl, rfl, rfl, rfl, rfl, rfl, fun g => ⟨g.1, g.2.1, g.2.2.1⟩⟩
theorem four_hits {n m s : Nat} : Four (.hits n m s) := ⟨"hits", rfl, by decide +kernel, by decide +kernel, by decide +kernel, rfl, rfl, rfl, rfl, rfl, rfl, rfl, fun g => ⟨g.1, g.2.1, g.2.2.1⟩⟩
noncomputable def spCB : Sp := fun vs H Q _ => ∃ v ps W, vs = [v] ∧ Rep H (wrowsD ps) v ∧ 0 < W ∧ W ≤ 1000000 ∧ ps.length ≤ 1296 ∧ (∀ p ∈ ps, 0 < p.2 ∧ p.2 ∣ W) ∧ ∀ B, 0 < B → B ∣ W → (∀ p ∈ ps, p.2 ∣ B) → Q (.int B) H
noncomputable def spBto : Sp := fun vs H Q _ => ∃ v rows W, vs = [v] ∧ Rep H (rowsD rows) v ∧ GoodR W rows ∧ ∀ B H', Same H H' → GoodB W rows B → Q (.int B) H'
noncomputable def spWe : Sp := fun vs H Q _ => ∃ v rows W B, vs = [v, .int B] ∧ Rep H (rowsD rows) v ∧ GoodR W rows ∧ GoodB W rows B ∧ ∀ v' H', Same H H' → Rep H' (wrowsD (Nm.weigh rows B)) v' → Q v' H'
noncomputable def spAdd : Sp := fun vs H Q _ => ∃ v v' r1 r2 W1 W2, vs = [v, v'] ∧ Rep H (rowsD r1) v ∧ Rep H (rowsD r2) v' ∧ GoodR W1 r1 ∧ GoodR W2 r2 ∧ r1.length * r2.length ≤ 1296 ∧
  ∀ B1 B2 p H', Same H H' → H p = none → GoodB W1 r1 B1 → GoodB W2 r2 B2 → Rep H' (rowsD (Nm.rowsOf (Nm.bothW (Nm.weigh r1 B1) (Nm.weigh r2 B2)) (B1 * B2))) (.ref p) → Q (.ref p) H'
noncomputable def spPlus : Sp := fun vs H Q _ => ∃ p q a b c d, vs = [.ref p, .ref q] ∧ H p = some (.tup (Pr a b)) ∧ H q = some (.tup (Pr c d)) ∧ Bt 60 b ∧ Bt 60 d ∧ b * d ≠ 0 ∧
  ∀ r H', Same H H' → H' r = some (.tup (Pr (Nm.st (a * d + c * b) (b * d)) (Nm.sb (a * d + c * b) (b * d)))) → Q (.ref r) H'
noncomputable def spMean : Sp := fun vs H Q _ => ∃ v rows W, vs = [v] ∧ Rep H (rowsD rows) v ∧ GoodR W rows ∧
  ∀ B p H', Same H H' → GoodB W rows B → H' p = some (.tup (Pr (Nm.st (Nm.mom (Nm.weigh rows B)) B) (Nm.sb (Nm.mom (Nm.weigh rows B)) B))) → Q (.ref p) H'
noncomputable def spSF : Sp := fun vs H Q _ => ∃ v n rows W, vs = [v, .int n] ∧ Rep H (rowsD rows) v ∧ GoodR W rows ∧
  ∀ B p H', Same H H' → GoodB W rows B → H' p = some (.tup (Pr (Nm.st (Nm.abv n (Nm.weigh rows B)) B) (Nm.sb (Nm.abv n (Nm.weigh rows B)) B))) → Q (.ref p) H'
theorem lcm_dvd' {a b W : Int} (h1 : a ∣ W) (h2 : b ∣ W) : a / Nm.g a b * b ∣ W := by
  rw [Nm.low_cross, ← Int.mul_ediv_assoc _ (Nm.g_dvd_r a b)]
  have e : a * b / Nm.g a b = a * b / ((Int.gcd a b : Nat) : Int) := rfl
  rw [e]
  refine Int.natAbs_dvd_natAbs.mp ?_
  rw [Int.natAbs_ediv_of_dvd (Int.dvd_trans (Int.gcd_dvd_left ..) (Int.dvd_mul_right ..)), Int.natAbs_mul, Int.natAbs_natCast]
  exact Nat.lcm_dvd (Int.natAbs_dvd_natAbs.mpr h1) (Int.natAbs_dvd_natAbs.mpr h2)
theorem goodB_le {W B : Int} {rows : List (Int × Int × Int)} (g : GoodR W rows) (gb : GoodB W rows B) : B ≤ 1000000 := Int.le_trans (Int.le_of_dvd g.1 gb.2.1) g.2.1
theorem good_weigh {rows : List (Int × Int × Int)} {W B : Int} (g : GoodR W rows) (gb : GoodB W rows B) : ∀ p ∈ Nm.weigh rows B, 0 ≤ p.2 ∧ p.2 ≤ 1000000000000 := fun p hp => by
  unfold Nm.weigh at hp
  obtain ⟨r, hr, rfl⟩ := List.mem_map.mp hp
  obtain ⟨g1, g2, g3, g4⟩ := g.2.2.2 r hr
  have b0 := gb.1
  have b1 := goodB_le g gb
  have w1 := g.2.1
  have q0 : 0 ≤ B / r.2.2 := Int.ediv_nonneg (by omega) (by omega)
  have q1 : B / r.2.2 ≤ 1000000 := Int.le_trans (Int.ediv_le_self _ (by omega)) b1
  refine ⟨Int.mul_nonneg g3 q0, ?_⟩
  have : r.2.1 * (B / r.2.2) ≤ 1000000 * 1000000 := Int.mul_le_mul (by omega) q1 q0 (by decide)
  simpa using this
abbrev FIG : Str := Str.ofString "0123456789"
theorem fig_rng : ∀ c ∈ FIG.cps.toList, 48 ≤ c ∧ c ≤ 57 := by decide +kernel
noncomputable def numT (k : Int) : Str := Str.ofString (toString k)
noncomputable def figN (n : Nat) : Bool := decide ((numT (n : Int)).length ≤ 3) && decide (1 ≤ (numT (n : Int)).length) && (numT (n : Int)).cps.toList.all fun c => decide (c ∈ FIG.cps.toList)
theorem fig_all : ∀ n : Nat, n < 1000 → figN n = true := by decide +kernel
theorem num_fig {k : Int} (h0 : 0 ≤ k) (h1 : k < 1000) : 1 ≤ (numT k).length ∧ (numT k).length ≤ 3 ∧ ∀ c ∈ (numT k).cps.toList, c ∈ FIG.cps.toList := by
  obtain ⟨n, rfl⟩ := Int.eq_ofNat_of_zero_le h0
  have := fig_all n (by omega)
  unfold figN at this
  simp only [Bool.and_eq_true, decide_eq_true_eq, List.all_eq_true] at this
  exact ⟨this.1.2, this.1.1, this.2⟩
theorem num_rng {k : Int} (h0 : 0 ≤ k) (h1 : k < 1000) : ∀ c ∈ (numT k).cps.toList, 48 ≤ c ∧ c ≤ 57 := fun c hc => fig_rng c ((num_fig h0 h1).2.2 c hc)
theorem app_list (a b : Str) : (a ++ b).cps.toList = a.cps.toList ++ b.cps.toList := by rw [Str.cps_append, Array.toList_append]
inductive Xp
  | num (n : Int)
  | dice (m s : Int)
  | many (k : Str) (n m s : Int)
  | one (k : Str) (n s : Int)
noncomputable def XGp : Xp → Prop
  | .num n => 0 ≤ n ∧ n < 100
  | .dice m s => 1 ≤ m ∧ m ≤ 6 ∧ 1 ≤ s ∧ s ≤ 20
  | .many k n m s => ((k = Str.ofString "worst" ∧ n ≤ m) ∨ (k = Str.ofString "best" ∧ n ≤ m) ∨ (k = Str.ofString "hits" ∧ n ≤ 20)) ∧ 1 ≤ n ∧ 1 ≤ m ∧ m ≤ 6 ∧ 1 ≤ s ∧ s ≤ 20
  | .one k n s => ((k = Str.ofString "again" ∧ n ≤ 20) ∨ (k = Str.ofString "burst" ∧ n ≤ 6)) ∧ 0 ≤ n ∧ 1 ≤ s ∧ s ≤ 20
noncomputable def xpV : Xp → List V
  | .num n => [.str (Str.ofString "number"), .int n]
  | .dice m s => [.str (Str.ofString "dice"), .int m, .int s]
  | .many k n m s => [.str k, .int n, .int m, .int s]
  | .one k n s => [.str k, .int n, .int s]
noncomputable def dcL (m s : Int) : List Str := [if m = 1 then Str.ofString "" else numT m, numT s]
noncomputable def dcT (m s : Int) : Str := (if m = 1 then Str.ofString "" else numT m) ++ Str.ofString "d" ++ numT s
noncomputable def xpW : Xp → List Str
  | .num n => [numT n]
  | .dice m s => [dcT m s]
  | .many k n m s => [k, numT n, Str.ofString "of", dcT m s]
  | .one k n s => [k, numT n, Str.ofString "of", dcT 1 s]
noncomputable def xpT : Xp → Str
  | .num n => numT n
  | .dice m s => dcT m s
  | .many k n m s => k ++ Str.ofString " " ++ numT n ++ Str.ofString " of " ++ dcT m s
  | .one k n s => k ++ Str.ofString " " ++ numT n ++ Str.ofString " of " ++ dcT 1 s
theorem xpT_join (p : Xp) : xpT p = Txt.join ⟨#[32]⟩ (xpW p) := by
  have e1 : (⟨#[32]⟩ : Str) = Str.ofString " " := by decide +kernel
  have e2 : Str.ofString " of " = Str.ofString " " ++ Str.ofString "of" ++ Str.ofString " " := by decide +kernel
  have g : ∀ ps, Txt.join ⟨#[32]⟩ ps = Str.join ⟨#[32]⟩ ps := fun ps => StrLaws.glued_eq_join _ _
  rw [g, e1]
  cases p with
  | num n => rfl
  | dice m s => rfl
  | many k n m s =>
    show k ++ Str.ofString " " ++ numT n ++ Str.ofString " of " ++ dcT m s = k ++ Str.ofString " " ++ (numT n ++ Str.ofString " " ++ (Str.ofString "of" ++ Str.ofString " " ++ dcT m s))
    rw [e2]
    simp only [Str.append_assoc]
  | one k n s =>
    show k ++ Str.ofString " " ++ numT n ++ Str.ofString " of " ++ dcT 1 s = k ++ Str.ofString " " ++ (numT n ++ Str.ofString " " ++ (Str.ofString "of" ++ Str.ofString " " ++ dcT 1 s))
    rw [e2]
    simp only [Str.append_assoc]
noncomputable def XLo (z : Str) : Prop := ∀ c ∈ z.cps.toList, 48 ≤ c ∧ c < 128
theorem XLo.app {a b : Str} (ha : XLo a) (hb : XLo b) : XLo (a ++ b) := fun c hc => by
  rw [app_list] at hc
  rcases List.mem_append.mp hc with h | h
  · exact ha c h
  · exact hb c h
theorem lo_num {k : Int} (h0 : 0 ≤ k) (h1 : k < 1000) : XLo (numT k) := fun c hc => by have := num_rng h0 h1 c hc; omega
theorem lo_dc {m s : Int} (hm : 1 ≤ m ∧ m ≤ 6) (hs : 1 ≤ s ∧ s ≤ 20) : XLo (dcT m s) := by
  unfold dcT
  refine ((?_ : XLo _).app (by unfold XLo; decide +kernel)).app (lo_num (by omega) (by omega))
  split
  · unfold XLo; decide +kernel
  · exact lo_num (by omega) (by omega)
theorem lo_w {p : Xp} (g : XGp p) : ∀ y ∈ xpW p, XLo y := by
  intro y hy
  cases p with
  | num n => rw [List.mem_singleton.mp hy]; exact lo_num g.1 (by have := g.2; omega)
  | dice m s => rw [List.mem_singleton.mp hy]; exact lo_dc ⟨g.1, g.2.1⟩ ⟨g.2.2.1, g.2.2.2⟩
  | many k n m s =>
    obtain ⟨gk, n1, m1, m6, s1, s20⟩ := g
    simp only [xpW, List.mem_cons, List.not_mem_nil, or_false] at hy
    have n20 : n ≤ 20 := by rcases gk with h | h | h <;> omega
    rcases hy with rfl | rfl | rfl | rfl
    · rcases gk with h | h | h <;> rw [h.1] <;> (unfold XLo; decide +kernel)
    · exact lo_num (by omega) (by omega)
    · unfold XLo; decide +kernel
    · exact lo_dc ⟨m1, m6⟩ ⟨s1, s20⟩
  | one k n s =>
    obtain ⟨gk, n0, s1, s20⟩ := g
    simp only [xpW, List.mem_cons, List.not_mem_nil, or_false] at hy
    have n20 : n ≤ 20 := by rcases gk with h | h <;> omega
    rcases hy with rfl | rfl | rfl | rfl
    · rcases gk with h | h <;> rw [h.1] <;> (unfold XLo; decide +kernel)
    · exact lo_num (by omega) (by omega)
    · unfold XLo; decide +kernel
    · exact lo_dc ⟨by decide, by decide⟩ ⟨s1, s20⟩
theorem pt_cut {p : Xp} (g : XGp p) : Txt.split (xpT p) ⟨#[32]⟩ = xpW p := by
  rw [xpT_join]
  exact split_join 32 (by cases p <;> simp [xpW]) fun y hy hc => by have := lo_w g y hy 32 hc; omega
theorem dc_cut {m s : Int} (hm : 1 ≤ m ∧ m ≤ 6) (hs : 1 ≤ s ∧ s ≤ 20) : Txt.split (dcT m s) ⟨#[100]⟩ = dcL m s := by
  have e : dcT m s = Txt.join ⟨#[100]⟩ (dcL m s) := by
    have g : ∀ ps, Txt.join ⟨#[100]⟩ ps = Str.join ⟨#[100]⟩ ps := fun ps => StrLaws.glued_eq_join _ _
    have e1 : (⟨#[100]⟩ : Str) = Str.ofString "d" := by decide +kernel
    rw [g, e1]
    rfl
  rw [e]
  refine split_join 100 (by simp [dcL]) fun y hy hc => ?_
  simp only [dcL, List.mem_cons, List.not_mem_nil, or_false] at hy
  rcases hy with rfl | rfl
  · split at hc
    · exact absurd hc (by decide +kernel)
    · have := num_rng (show 0 ≤ m by omega) (by omega) 100 hc; omega
  · have := num_rng (show 0 ≤ s by omega) (by omega) 100 hc; omega
theorem pt_rng {p : Xp} (g : XGp p) : ∀ c ∈ (xpT p).cps.toList, c ≠ 43 ∧ c < 128 := by
  have lo := lo_w g
  have of1 : ∀ c ∈ (Str.ofString " of ").cps.toList, c ≠ 43 ∧ c < 128 := by decide +kernel
  have sp1 : ∀ c ∈ (Str.ofString " ").cps.toList, c ≠ 43 ∧ c < 128 := by decide +kernel
  have use : ∀ {y : Str}, y ∈ xpW p → ∀ c ∈ y.cps.toList, c ≠ 43 ∧ c < 128 := fun hy c hc => by have := lo _ hy c hc; omega
  intro c hc
  cases p with
  | num n => exact use List.mem_cons_self c hc
  | dice m s => exact use List.mem_cons_self c hc
  | many k n m s =>
    simp only [xpT, app_list, List.mem_append] at hc
    rcases hc with (((hc | hc) | hc) | hc) | hc
    · exact use (by simp [xpW]) c hc
    · exact sp1 c hc
    · exact use (y := numT n) (by simp [xpW]) c hc
    · exact of1 c hc
    · exact use (y := dcT m s) (by simp [xpW]) c hc
  | one k n s =>
    simp only [xpT, app_list, List.mem_append] at hc
    rcases hc with (((hc | hc) | hc) | hc) | hc
    · exact use (by simp [xpW]) c hc
    · exact sp1 c hc
    · exact use (y := numT n) (by simp [xpW]) c hc
    · exact of1 c hc
    · exact use (y := dcT 1 s) (by simp [xpW]) c hc
theorem dc_len {m s : Int} (hm : 1 ≤ m ∧ m ≤ 6) (hs : 1 ≤ s ∧ s ≤ 20) : 1 ≤ (dcT m s).length ∧ (dcT m s).length ≤ 10 := by
  have l1 := (num_fig (show 0 ≤ s by omega) (by omega)).2.1
  have l2 := (num_fig (show 0 ≤ m by omega) (by omega)).2.1
  have d1 : (Str.ofString "d").length = 1 := by decide +kernel
  have e0 : (Str.ofString "").length = 0 := by decide +kernel
  unfold dcT
  rw [Str.length_append, Str.length_append, d1]
  split <;> omega
theorem pt_len {p : Xp} (g : XGp p) : 1 ≤ (xpT p).length ∧ (xpT p).length ≤ 40 := by
  have of4 : (Str.ofString " of ").length = 4 := by decide +kernel
  have sp1 : (Str.ofString " ").length = 1 := by decide +kernel
  cases p with
  | num n => have := num_fig g.1 (by have := g.2; omega); exact ⟨this.1, by have := this.2.1; show (numT n).length ≤ 40; omega⟩
  | dice m s => have := dc_len ⟨g.1, g.2.1⟩ ⟨g.2.2.1, g.2.2.2⟩; exact ⟨this.1, by have := this.2; show (dcT m s).length ≤ 40; omega⟩
  | many k n m s =>
    obtain ⟨gk, n1, m1, m6, s1, s20⟩ := g
    have n20 : n ≤ 20 := by rcases gk with h | h | h <;> omega
    have kl : k.length ≤ 5 := by rcases gk with h | h | h <;> rw [h.1] <;> decide +kernel
    have l1 := num_fig (show 0 ≤ n by omega) (by omega)
    have l2 := dc_len ⟨m1, m6⟩ ⟨s1, s20⟩
    simp only [xpT, Str.length_append, of4, sp1]
    omega
  | one k n s =>
    obtain ⟨gk, n0, s1, s20⟩ := g
    have n20 : n ≤ 20 := by rcases gk with h | h <;> omega
    have kl : k.length ≤ 5 := by rcases gk with h | h <;> rw [h.1] <;> decide +kernel
    have l1 := num_fig (show 0 ≤ n by omega) (by omega)
    have l2 := dc_len (m := 1) ⟨by decide, by decide⟩ ⟨s1, s20⟩
    simp only [xpT, Str.length_append, of4, sp1]
    omega
noncomputable def xlT (ps : List Xp) : Str := Str.join PLUS (ps.map xpT)
theorem pl_cut {ps : List Xp} (h : ps ≠ []) (g : ∀ p ∈ ps, XGp p) : Txt.split (xlT ps) PLUS = ps.map xpT := by
  refine split_plus (by simpa using h) fun y hy hc => ?_
  obtain ⟨p, hp, rfl⟩ := List.mem_map.mp hy
  exact (pt_rng (g p hp) 43 hc).1 rfl
theorem plus_eq : Str.ofString " + " = PLUS := by decide +kernel
theorem pl_len : ∀ {ps : List Xp}, (∀ p ∈ ps, XGp p) → (xlT ps).length ≤ 43 * ps.length := by
  intro ps
  induction ps with
  | nil => intro _; exact Nat.zero_le _
  | cons p r ih =>
    intro g
    have l1 := (pt_len (g p List.mem_cons_self)).2
    have l2 := ih fun q hq => g q (List.mem_cons_of_mem _ hq)
    cases r with
    | nil => show (xpT p).length ≤ _; simp; omega
    | cons q r =>
      have e : (xlT (p :: q :: r)).length = (xpT p).length + 3 + (xlT (q :: r)).length := by
        show (xpT p ++ PLUS ++ Str.join PLUS ((q :: r).map xpT)).length = _
        rw [Str.length_append, Str.length_append]
        rfl
      rw [e]
      simp only [List.length_cons] at *
      omega
noncomputable def PoolL (H : Hp) (l : Addr) (ps : List Xp) : Prop := ∃ xs, H l = some (.lst xs) ∧ xs.length = ps.length ∧ ∀ (i : Nat) p, ps[i]? = some p → ∃ q, xs[i]? = some (.ref q) ∧ H q = some (.tup (xpV p))
noncomputable def spFig : Sp := fun vs H Q _ => ∃ k, vs = [.str (numT k)] ∧ 0 ≤ k ∧ k < 1000 ∧ ∀ H', Same H H' → Q (.bl true) H'
noncomputable def spWi : Sp := fun vs H Q _ => ∃ k a b, vs = [.str (numT k), .int a, .int b] ∧ 0 ≤ k ∧ k < 1000 ∧ a ≤ k ∧ k ≤ b ∧ ∀ H', Same H H' → Q (.int k) H'
noncomputable def spDc : Sp := fun vs H Q _ => ∃ m s, vs = [.str (dcT m s)] ∧ 1 ≤ m ∧ m ≤ 6 ∧ 1 ≤ s ∧ s ≤ 20 ∧ ∀ p H', Same H H' → H' p = some (.tup [.int m, .int s]) → Q (.ref p) H'
noncomputable def spWd : Sp := fun vs H Q _ => ∃ k n m s, vs = [.str k, .str (numT n), .str (dcT m s)] ∧
  ((XGp (.many k n m s) ∧ ∀ p H', Same H H' → H' p = some (.tup (xpV (.many k n m s))) → Q (.ref p) H') ∨ (m = 1 ∧ XGp (.one k n s) ∧ ∀ p H', Same H H' → H' p = some (.tup (xpV (.one k n s))) → Q (.ref p) H'))
noncomputable def spXp : Sp := fun vs H Q _ => ∃ p, vs = [.str (xpT p)] ∧ XGp p ∧ ∀ q H', Same H H' → H' q = some (.tup (xpV p)) → Q (.ref q) H'
noncomputable def spXl : Sp := fun vs H Q _ => ∃ ps, vs = [.str (xlT ps)] ∧ ps ≠ [] ∧ ps.length ≤ 4 ∧ (∀ p ∈ ps, XGp p) ∧ ∀ l H', Same H H' → H l = none → PoolL H' l ps → Q (.ref l) H'
theorem fm_map {α β : Type} (f : α → β) (l : List α) : l.filterMap (fun a => some (f a)) = l.map f := by
  induction l with
  | nil => rfl
  | cons a l ih => simp
theorem all_bls {α : Type} (f : α → Bool) (l : List α) (h : ∀ a ∈ l, f a = true) : (l.map f).all id = true := by
  rw [List.all_eq_true]
  intro b hb
  obtain ⟨a, ha, rfl⟩ := List.mem_map.mp hb
  exact h a ha
theorem log_small {i : Int} (h0 : 0 ≤ i) (h1 : i < 1000) : i.natAbs.log2 < 1920 := by
  have : i.natAbs.log2 < 10 := by
    by_cases z : i.natAbs = 0
    · rw [z]; decide
    · exact (Nat.log2_lt z).mpr (by omega)
  omega
theorem num_ascii {k : Int} (h0 : 0 ≤ k) (h1 : k < 1000) : (numT k).cps.all (· < 128) = true := by
  rw [← Array.all_toList, List.all_eq_true]
  intro c hc
  have := num_rng h0 h1 c hc
  simp only [decide_eq_true_eq]
  omega
theorem empty_app (z : Str) : Str.ofString "" ++ z = z := PySem.W.KT.empty_app z
noncomputable def spShD : Sp := fun vs H Q _ => ∃ m s : Int, vs = [.int m, .int s] ∧ 1 ≤ m ∧ m < 100 ∧ 0 ≤ s ∧ s < 100 ∧ Q (.str (dcT m s)) H
noncomputable def spShP : Sp := fun vs H Q _ => ∃ q p, vs = [.ref q] ∧ H q = some (.tup (xpV p)) ∧ XGp p ∧ ∀ H', Same H H' → Q (.str (xpT p)) H'
noncomputable def spShL : Sp := fun vs H Q _ => ∃ l ps, vs = [.ref l] ∧ PoolL H l ps ∧ ps.length ≤ 4 ∧ (∀ p ∈ ps, XGp p) ∧ ∀ H', Same H H' → Q (.str (xlT ps)) H'
theorem dcT_len {m s : Int} (h : 0 ≤ m) (h' : m < 1000) (k : 0 ≤ s) (k' : s < 1000) : (dcT m s).length ≤ 7 := by
  have := (num_fig h h').2.1
  have := (num_fig k k').2.1
  have e : (Str.ofString "d").length = 1 := by decide +kernel
  have e0 : (Str.ofString "").length = 0 := by decide +kernel
  unfold dcT
  split <;> simp only [strLen_append] <;> omega
theorem joinOk_of {sep : Str} {ts : List Str} {B : Nat} (hB : ∀ y ∈ ts, y.length ≤ B) (h : ts.length * B + ts.length * sep.length ≤ 16777216) : JoinOk sep ts = true := by
  unfold JoinOk
  rw [Bool.not_eq_true']
  exact StrLaws.joinFits hB h
theorem join4_ok {x s d : Str} (h1 : x.length ≤ 5) (h2 : s.length ≤ 3) (h3 : d.length ≤ 7) : JoinOk (Str.ofString " ") [x, s, Str.ofString "of", d] = true := by
  have e0 : (Str.ofString " ").length = 1 := by decide +kernel
  refine joinOk_of (B := 10) (fun y hy => ?_) (by rw [e0]; simp)
  have e : (Str.ofString "of").length = 2 := by decide +kernel
  simp only [List.mem_cons, List.not_mem_nil, or_false] at hy
  rcases hy with rfl | rfl | rfl | rfl <;> omega
theorem sp_eq : (⟨#[32]⟩ : Str) = Str.ofString " " := by decide +kernel
theorem pool_ok {ps : List Xp} (h : ps.length ≤ 4) (g : ∀ p ∈ ps, XGp p) : JoinOk (Str.ofString " + ") (ps.map xpT) = true := by
  refine joinOk_of (B := 40) (fun y hy => ?_) ?_
  · obtain ⟨p, hp, rfl⟩ := List.mem_map.mp hy
    have := pl_len (ps := [p]) fun q hq => by rw [List.mem_singleton.mp hq]; exact g p hp
    have e : (xlT [p]).length = (xpT p).length := rfl
    have := (pt_len (g p hp)).2
    omega
  · have e : (Str.ofString " + ").length = 3 := by decide +kernel
    rw [e, List.length_map]
    omega
noncomputable def RdP : Pt → Prop
  | .dice m _ => 1 ≤ m
  | .best n m _ => 1 ≤ n ∧ 1 ≤ m
  | .worst n m _ => 1 ≤ n ∧ 1 ≤ m
  | .hits n m _ => 1 ≤ n ∧ 1 ≤ m
  | _ => True
noncomputable def toX : Pt → Xp
  | .num n => .num n
  | .dice m s => .dice m s
  | .best n m s => .many (Str.ofString "best") n m s
  | .worst n m s => .many (Str.ofString "worst") n m s
  | .hits n m s => .many (Str.ofString "hits") n m s
  | .again n s => .one (Str.ofString "again") n s
  | .burst n s => .one (Str.ofString "burst") n s
theorem toX_V (p : Pt) : xpV (toX p) = ptV p := by cases p <;> rfl
theorem toX_good {p : Pt} (g : GoodP p) (r : RdP p) : XGp (toX p) := by
  cases p with
  | num n => have g : n ≤ 99 := g; exact ⟨by omega, by omega⟩
  | dice m s => obtain ⟨a, b, c⟩ := g; have r : 1 ≤ m := r; exact ⟨by omega, by omega, by omega, by omega⟩
  | best n m s => obtain ⟨a, b, c, d⟩ := g; obtain ⟨e, f⟩ := r; exact ⟨.inr (.inl ⟨rfl, by omega⟩), by omega, by omega, by omega, by omega, by omega⟩
  | worst n m s => obtain ⟨a, b, c, d⟩ := g; obtain ⟨e, f⟩ := r; exact ⟨.inl ⟨rfl, by omega⟩, by omega, by omega, by omega, by omega, by omega⟩
  | hits n m s => obtain ⟨a, b, c, d⟩ := g; obtain ⟨e, f⟩ := r; exact ⟨.inr (.inr ⟨rfl, by omega⟩), by omega, by omega, by omega, by omega, by omega⟩
  | again n s => obtain ⟨a, b, c⟩ := g; exact ⟨.inl ⟨rfl, by omega⟩, by omega, by omega, by omega⟩
  | burst n s => obtain ⟨a, b, c⟩ := g; exact ⟨.inr ⟨rfl, by omega⟩, by omega, by omega, by omega⟩
theorem plH_toX {H : Hp} {l : Addr} {ps : List Pt} (h : PlH H l ps) : PoolL H l (ps.map toX) := by
  obtain ⟨xs, h1, h2⟩ := h
  refine ⟨xs, h1, by rw [List.length_map]; exact h2.length, fun i p e => ?_⟩
  rw [List.getElem?_map] at e
  obtain ⟨q, eq, rfl⟩ := Option.map_eq_some_iff.mp e
  obtain ⟨v, ev, a, rfl, ha⟩ := h2.at eq
  exact ⟨a, ev, by rw [toX_V]; exact ha⟩
theorem plH_ofX {H : Hp} {l : Addr} {ps : List Pt} (h : PoolL H l (ps.map toX)) : PlH H l ps := by
  obtain ⟨xs, h1, h2, h3⟩ := h
  rw [List.length_map] at h2
  refine ⟨xs, h1, Al.of h2 fun i v p e1 e2 => ?_⟩
  obtain ⟨q, e3, hq⟩ := h3 i (toX p) (by rw [List.getElem?_map, e2]; rfl)
  rw [e1] at e3
  cases e3
  exact ⟨q, rfl, by rw [← toX_V]; exact hq⟩
noncomputable def spPl : Sp := fun vs H Q _ => ∃ a ps, vs = [.ref a] ∧ PlH H a ps ∧ GoodL ps ∧ ps.length ≤ 4 ∧ ∀ p H', Same H H' → H p = none → Rep H' (rowsD (tabP ps)) (.ref p) → Q (.ref p) H'
noncomputable def spAt (K : PySem.W.Frag) : Sp := fun vs H Q _ => ∃ a ns k, vs = [.ref a, .int k] ∧ SqL K H a (List.map V.int ns) ∧ 0 ≤ k ∧ k < 1000 ∧ ∀ n, Q (.int n) H
noncomputable def spLp : Sp := fun vs H Q _ => ∃ b e : Nat, vs = [.int (b : Int), .int (e : Int)] ∧ b ≤ 20 ∧ e ≤ 10 ∧ Q (.int ((b ^ e : Nat) : Int)) H
noncomputable def spLPt : Sp := fun vs H Q _ => ∃ a b, vs = [.int a, .int b] ∧ ∀ q p H', Same H H' → H' q = some (.tup (ptV p)) → GoodP p → RdP p → Q (.ref q) H'
noncomputable def spLMa : Sp := fun vs H Q _ => ∃ q p, vs = [.ref q] ∧ H q = some (.tup (ptV p)) ∧ GoodP p ∧ ∀ l H', Same H H' → H' l = some (.lst [.int (cnt p : Int), .int (bot p : Int)]) → Q (.ref l) H'
noncomputable def spLPo (K : PySem.W.Frag) : Sp := fun vs H Q _ => ∃ a ns, vs = [.ref a] ∧ SqL K H a (List.map V.int ns) ∧ ∀ l ps H', Same H H' → PlH H' l ps → GoodL ps → (∀ p ∈ ps, RdP p) → ps ≠ [] → ps.length ≤ 4 → Q (.ref l) H'
noncomputable def spEv : Sp := fun vs H Q _ => ∃ p q a b c d, vs = [.ref p, .ref q] ∧ H p = some (.tup (Pr a b)) ∧ H q = some (.tup (Pr c d)) ∧ IntMulOk a d ∧ IntMulOk c b ∧ a * d = c * b ∧ Q (.bl true) H
noncomputable def spAU : Sp := fun vs H Q _ => ∃ l t ps, vs = [.ref l, .int t] ∧ PlH H l ps ∧ GoodL ps ∧ ps ≠ [] ∧ ps.length ≤ 4 ∧ ∀ H', Same H H' → Q (.bl true) H'
noncomputable def spFr : Sp := fun vs H Q _ => ∃ l n ps, vs = [.ref l, .int n] ∧ PlH H l ps ∧ GoodL ps ∧ ps ≠ [] ∧ ps.length ≤ 4 ∧ ∀ H', Same H H' → Q (.bl true) H'
noncomputable def spBW (K : PySem.W.Frag) : Sp := fun vs H Q _ => ∃ a ns, vs = [.ref a] ∧ SqL K H a (List.map V.int ns) ∧ ∀ H', Same H H' → Q (.bl true) H'
noncomputable def spLaw (K : PySem.W.Frag) : Sp := fun vs H Q _ => ∃ (a : Addr) (ns : List Int), vs = [.ref a] ∧ SqL K H a (ns.map V.int) ∧ ns.length ≤ 63 ∧ ∀ H', Q (.bl true) H'
section
variable {P : Program} {w : World} {K : PySem.W.Frag} {mg : Str → Option Value} {base : Heap}
variable {q_NoShare q_NoTable q_TooMany q_OF_MANY q_OF_ONE : Addr}
theorem sc_common_divisor : FnScope ["one", "other", "rest"] ["one", "other"] (defScope (top 9)) := ⟨rfl, rfl, rfl, by decide +kernel, rfl, by decide +kernel, by decide +kernel⟩
theorem ok_cd (T : Txt K mg w.params q_NoShare q_NoTable q_TooMany q_OF_MANY q_OF_ONE) : Cal P w K mg base (CX1 P w) 1 "common_divisor" ["one", "other"] spCd := by
  refine T.d_common_divisor.cal (fun _ _ _ _ _ _ us hl => match us, hl with | [_, _], _ => rfl) fun f fd F => F.okC sc_common_divisor (fun vs H Q E h => ?_) (fun cdv A outer s H vs Q E hr h => ?_)
  · obtain ⟨_, _, rfl, _⟩ := h; rfl
  · obtain ⟨a, b, rfl, k⟩ := h
    have nd := sc_common_divisor.nd
    refine ⟨_, (pss_cons (ps_set (i := 0) nd rfl (Or.inl rfl) (pe_callB call_abs (by rfl) T.z_abs rfl (pa_cons (pv 0) pa_nil (se rfl)) (he := se rfl) (hpl := na rfl)))
    (pss_cons (ps_set (i := 1) nd rfl (Or.inl rfl) (pe_callB call_abs (by rfl) T.z_abs rfl (pa_cons (pv 1) pa_nil (se rfl)) (he := se rfl) (hpl := na rfl)))
    (pss_cons (ps_while PassesOwn.never (pt_cmpR op_ne (pv 1) pe_int (nomark _)) (pss_cons (ps_set (i := 2) nd rfl (Or.inl rfl) (pe_op op_modB (pv 0) (pv 1)))
    (pss_cons (ps_set (i := 0) nd rfl (Or.inl rfl) (pv 1))
    (pss_one (ps_set (i := 1) nd rfl (Or.inl rfl) (pv 2))))))
    (pss_one (ps_ret (pv 0)))))), ?_⟩
    simp_all only []
    refine while_by (fun σ H1 => H1 = H ∧ ∃ (x y : Int) (z : Option V), σ = [some (.int x), some (.int y), z] ∧ 0 ≤ x ∧ 0 ≤ y ∧ Nm.g x y = Nm.g a b) (fun σ _ => match σ with | [_, some (.int y), _] => y.toNat | _ => 0) ?_ ?_ ?_
    · refine ⟨rfl, _, _, _, rfl, ?_, ?_, ?_⟩
      · split <;> omega
      · split <;> omega
      · rw [show (if a < 0 then -a else a) = (a.natAbs : Int) by split <;> omega, show (if b < 0 then -b else b) = (b.natAbs : Int) by split <;> omega, Nm.g_abs, Nm.g_abs_r]
    · rintro σ H1 ⟨rfl, x, y, z, rfl, x0, y0, e⟩
      simp_all only []
      refine ite2 (fun c => ?_) (fun c => ?_)
      · refine ⟨by omega, y0, Int.emod_nonneg _ (by omega), by rw [Nm.g_step x0 (by omega), e], ?_⟩
        have := Int.emod_lt_of_pos x (show 0 < y by omega)
        have := Int.emod_nonneg x (show y ≠ 0 by omega)
        omega
      · have z : y = 0 := by omega
        subst z
        rw [Nm.g_zero x0] at e
        rw [e]
        exact k
    · intro σ H1 Q1 Q2 hq hc
      simp only [L2.start, Pr, tRev, tSortR, tD1, tDPop1, tSl, tNoPart, tPart, rSlL, tDIn, tDNotIn, gSub, rSetL, tLst, tDNewK, tComp, L2.stC, tFor_eq, iList, iTup, iRng1, iRng2, iZip, iEnum, iDict, iStr, tChain, tSumV, tBM, rJoin, tJoined, jNil, jLit, jInt, jStr, tRaise, tDGet, tDGet2, tDGet1, sDPut, Option.join_some, List.getElem?_nil,  tSeq, tRet, tRetN, tIfS, tTest, tB, tOp, tUn, tVar, tC, tCB, tCons, tNil, tCall, tTupS, tAsg, gName, gNil, gCons, tPar, tNext, tDrop, tAnd, tOr, tNot, tAndV, tOrV, tNotV, tIf, rI, rI0, rU, rIxTH, rIxLH, rEqT, rNeT, rInT, rEq, rNe, scal, CPow, at0, at1, at2, List.map_cons, List.map_nil, List.length_cons, List.length_nil, Nat.reduceSub, Nat.reduceAdd, Nat.zero_add, List.replicate_zero, List.reduceReplicate, List.append_nil, List.nil_append, List.cons_append, List.getElem?_cons_zero, List.getElem?_cons_succ, List.set_cons_zero, List.set_cons_succ, Option.some.injEq, exists_eq_left', exists_eq_left, V.ref.injEq, V.int.injEq, V.bl.injEq, V.str.injEq, V.ty.injEq, HO.tup.injEq, HO.lst.injEq, List.cons.injEq, and_true, true_and, and_assoc, exists_and_left, decide_eq_true_eq, Bool.not_eq_true', decide_eq_false_iff_not, ite_true, ite_false, if_true, if_false, Int.reduceToNat, eq_self_iff_true] at hc ⊢
      obtain ⟨v, e1, e2, q⟩ := hc
      exact ⟨v, e1, e2, hq _ _ q⟩
theorem sc_share : FnScope ["top", "bottom", "divisor"] ["top", "bottom"] (defScope (top 10)) := ⟨rfl, rfl, rfl, by decide +kernel, rfl, by decide +kernel, by decide +kernel⟩
theorem ok_sh (T : Txt K mg w.params q_NoShare q_NoTable q_TooMany q_OF_MANY q_OF_ONE) : Cal P w K mg base (CX1 P w) 2 "share" ["top", "bottom"] (spSh q_NoShare) := by
  have c_common_divisor : Cal P w K mg base (CX1 P w) 1 "common_divisor" ["one", "other"] spCd := ok_cd T
  refine T.d_share.cal (fun _ _ _ _ _ _ us hl => match us, hl with | [_, _], _ => rfl) fun f fd F => F.okX sc_share (fun vs H Q E h => ?_) (fun cdv A outer s H vs Q E hr h => ?_)
  · obtain ⟨_, _, rfl, _⟩ := h; rfl
  · obtain ⟨a, b, rfl, bt, kE, kQ⟩ := h
    have nd := sc_share.nd
    have hd0 : A.handled = none := hr.hd
    refine ⟨_, (pss_cons (ps_if (pt_cmpR op_eq (pv 1) pe_int (nomark _)) (pss_one (ps_raise rfl T.k_NoShare T.x_NoShare hd0 (pa_cons pe_str pa_nil (se rfl)) (he := se rfl) (hpl := na rfl)))
      pss_nil)
    (pss_cons (ps_set (i := 2) nd rfl (Or.inl rfl) (pe_cal c_common_divisor (hr.mono (by decide)) rfl strictP.pass (pa_cons (pv 0) (pa_cons (pv 1) pa_nil (se rfl)) (se rfl)) (he := se rfl) (hpl := na rfl)))
    (pss_cons (ps_if (pt_cmpR op_lt (pv 1) pe_int (nomark _)) (pss_one (ps_set (i := 2) nd rfl (Or.inl rfl) (pe_un un_neg (pv 2))))
      pss_nil)
    (pss_one (ps_ret (pe_tupS (pa_cons (pe_op op_fdivS (pv 0) (pv 2)) (pa_cons (pe_op op_fdivS (pv 1) (pv 2)) pa_nil (se rfl)) (se rfl)))))))), ?_⟩
    simp_all only [spCd, tRaise]
    refine ite2 (fun z => ?_) (fun z => ?_)
    · exact ⟨by decide, kE z⟩
    · have g0 : 0 < Nm.g a b := Nm.g_pos z
      have gb : Bt 5000 (Nm.g a b) := bt.le (by have := Nm.g_abs_le (a := a) z; omega)
      have kq := kQ z
      unfold Nm.st Nm.sb at kq
      refine ite2 (fun c => ?_) (fun c => ?_)
      · rw [if_pos c, if_pos c] at kq
        rw [Nm.fdiv_n g0 (Nm.g_dvd_l a b), Nm.fdiv_n g0 (Nm.g_dvd_r a b)]
        exact ⟨CDivS.of (by omega) gb.neg, CDivS.of (by omega) gb.neg, by decide, fun p H2 s1 n1 e => kq p H2 s1 n1 e⟩
      · rw [if_neg c, if_neg c] at kq
        rw [Nm.fdiv_p g0, Nm.fdiv_p g0]
        exact ⟨CDivS.of (by omega) gb, CDivS.of (by omega) gb, by decide, fun p H2 s1 n1 e => kq p H2 s1 n1 e⟩
theorem sc_table_by_weights : FnScope ["weights", "bottom"] ["weights", "bottom"] (defScope (top 16)) := ⟨rfl, rfl, rfl, by decide +kernel, rfl, by decide +kernel, by decide +kernel⟩
theorem ok_tw (T : Txt K mg w.params q_NoShare q_NoTable q_TooMany q_OF_MANY q_OF_ONE) : Cal P w K mg base (CX1 P w) 3 "table_by_weights" ["weights", "bottom"] spTW := by
  have c_share : Cal P w K mg base (CX1 P w) 2 "share" ["top", "bottom"] (spSh q_NoShare) := ok_sh T
  refine T.d_table_by_weights.cal (fun _ _ _ _ _ _ us hl => match us, hl with | [_, _], _ => rfl) fun f fd F => F.okC sc_table_by_weights (fun vs H Q E h => ?_) (fun cdv A outer s H vs Q E hr h => ?_)
  · obtain ⟨_, _, _, rfl, _⟩ := h; rfl
  · obtain ⟨d, B, ws, rfl, hd, ndk, hz, B0, bB, k⟩ := h
    have nd := sc_table_by_weights.nd
    refine ⟨_, (pss_one (ps_ret (pe_comp rfl (N := ["weights", "bottom"]) (so := defScope (top 16)) (N' := ["value", "weights", "bottom"]) (k := 1) (fr := [0, 1]) rfl rfl ⟨rfl, by decide +kernel, by decide +kernel, by decide +kernel, rfl, by decide +kernel, by decide +kernel⟩ (pi_listK (K := K) (pe_callB call_sorted_dNK (by rfl) T.z_sorted rfl (pa_cons (pv 0) pa_nil (se rfl)) (he := se rfl) (hpl := na rfl))) (fun _ _ _ _ _ => (pg_name (i := 0) (show (["value", "weights", "bottom"] : List Str).Nodup by decide +kernel) rfl (Or.inl rfl))) (fun _ _ _ _ _ => pts_nil)
      (fun _ _ _ _ _ => (pe_tupS (pa_cons (pv 0) (pa_cons (pe_cal c_share (hr.mono (by decide)) rfl strictP.pass (pa_cons (pe_dget (hu_of hr) (pv 1) (pv 0) (fun _ _ => rfl)) (pa_cons (pv 2) pa_nil (se rfl)) (se rfl)) (he := se rfl) (hpl := na rfl)) pa_nil (se rfl)) (se rfl))))))), ?_⟩
    simp_all only []
    refine ⟨enc ws, .inl hd, allI_enc ws, by rw [keysI_enc]; exact ndk, by rw [enc_len]; exact hz, fun l nl => ⟨⟨_, SqL.of upd_same⟩, ?_⟩⟩
    rw [keysI_enc]
    have sm : Same H (upd H l (.lst (List.map V.int (Nm.srt (Nm.keys ws))))) := same_upd nl
    have ll : (List.map V.int (Nm.srt (Nm.keys ws))).length = ws.length := by rw [List.length_map, Nm.srt_length]; unfold Nm.keys; rw [List.length_map]
    refine comp_map (src_list (fun H2 s2 => s2.seq (SqL.of upd_same))) (fun _ _ _ _ h => by rw [h.1]; exact Same.refl _) (by rw [ll, sizeLine_eq]; omega) (fun i y H2 => ∀ r, (Nm.rowsOf ws B)[i]? = some r → Rep H2 (rowD r) y) (fun i y H2 H3 s3 h r e => (h r e).mono s3) ?_ ?_
    · rintro i x w0 H2 H3 Q2 hi s2 ⟨rfl, hx⟩ kq
      rw [List.getElem?_map] at hx
      obtain ⟨v, ev, rfl⟩ := Option.map_eq_some_iff.mp hx
      have hv : v ∈ Nm.keys ws := Nm.srt_mem.mp (List.mem_of_getElem? ev)
      have hd2 := s2 _ _ (sm _ _ hd)
      simp_all only [spSh]
      refine ⟨_, dget_enc hd2 hv, _, rfl, bB, fun z => absurd z B0, fun _ p H4 s4 _ e4 => ⟨by decide, fun p5 H5 s5 _ e5 => ?_⟩⟩
      refine kq _ _ (s4.trans s5) fun r er => ?_
      have : r = (v, Nm.st (Nm.look ws v) B, Nm.sb (Nm.look ws v) B) := by
        unfold Nm.rowsOf at er
        rw [List.getElem?_map, ev] at er
        exact (Option.some.inj er).symm
      subst this
      exact rep_row.mpr ⟨p5, p, rfl, e5, s5 _ _ e4⟩
    · intro ys H2 s2 ly hy D n1 n2
      refine k _ _ (sm.trans (s2.trans (same_upd n2))) (none_of sm n1) (rep_lst.mpr ⟨D, ys, rfl, upd_same, ?_⟩)
      refine RepL.of ?_ fun i dd v e1 e2 => ?_
      · rw [List.length_map, ly]
        unfold Nm.rowsOf
        rw [List.length_map, List.length_map]
      · rw [List.getElem?_map] at e1
        obtain ⟨r, er, rfl⟩ := Option.map_eq_some_iff.mp e1
        exact (hy i v e2 r er).mono (same_upd n2)
theorem sc_table_of : FnScope ["rows", "weights", "value", "weight"] ["rows"] (defScope (top 17)) := ⟨rfl, rfl, rfl, by decide +kernel, rfl, by decide +kernel, by decide +kernel⟩
theorem ok_to (T : Txt K mg w.params q_NoShare q_NoTable q_TooMany q_OF_MANY q_OF_ONE) : Cal P w K mg base (CX1 P w) 4 "table_of" ["rows"] (spTO q_NoTable) := by
  have c_table_by_weights : Cal P w K mg base (CX1 P w) 3 "table_by_weights" ["weights", "bottom"] spTW := ok_tw T
  refine T.d_table_of.cal (fun _ _ _ _ _ _ us hl => match us, hl with | [_], _ => rfl) fun f fd F => F.okX sc_table_of (fun vs H Q E h => ?_) (fun cdv A outer s H vs Q E hr h => ?_)
  · obtain ⟨_, _, rfl, _⟩ := h; rfl
  · obtain ⟨v, ps, rfl, rp, hz, hb, kE, kQ⟩ := h
    have nd := sc_table_of.nd
    have hd0 : A.handled = none := hr.hd
    refine ⟨_, (pss_cons (ps_set (i := 1) nd rfl (Or.inl rfl) pe_dnewK)
    (pss_cons (ps_for PassesOwn.leaving rfl (pi_listK (K := K) (pv 0)) (pg_tupK (K := K) (n := 2) rfl (pgs_cons (pg_name (i := 2) nd rfl (Or.inl rfl)) (pgs_cons (pg_name (i := 3) nd rfl (Or.inl rfl)) pgs_nil))) (pss_cons (ps_if (pt_cmpR op_lt (pv 3) pe_int (nomark _)) (pss_one (ps_raise rfl T.k_NoTable T.x_NoTable hd0 (pa_cons pe_str pa_nil (se rfl)) (he := se rfl) (hpl := na rfl)))
      pss_nil)
    (pss_one (ps_if (pt_cmpR op_gt (pv 3) pe_int (nomark _)) (pss_one (ps_dput (hu_of hr) (pv 1) (pv 2) (pe_op op_add (pe_dget2 (hu_of hr) (pv 1) (pv 2) pe_int (by first | exact ⟨rfl, rfl, rfl⟩ | constructor <;> rfl)) (pv 3)) rfl))
      pss_nil))))
    (pss_cons (ps_if (pt_cmpR op_eq (pe_callB call_lenD (by rfl) T.z_len PySem.boot_len (pa_cons (pv 1) pa_nil (se rfl)) (he := se rfl) (hpl := na rfl)) pe_int (nomark _)) (pss_one (ps_raise rfl T.k_NoTable T.x_NoTable hd0 (pa_cons pe_str pa_nil (se rfl)) (he := se rfl) (hpl := na rfl)))
      pss_nil)
    (pss_one (ps_ret (pe_cal c_table_by_weights (hr.mono (by decide)) rfl strictP.pass (pa_cons (pv 1) (pa_cons (pe_sumvals rfl (by rfl) T.z_sum (pv 1) (he := se rfl)) pa_nil (se rfl)) (se rfl)) (he := se rfl) (hpl := na rfl))))))), ?_⟩
    simp_all only [spTW, tRaise]
    intro d nd1
    obtain ⟨a, xs, rfl, ha, rl⟩ := rep_lst.mp rp
    have n1 := rl.length
    rw [List.length_map] at n1
    have q1 : ∀ o, SqL K (upd H d o) a xs := fun o => SqL.of (same_upd nd1 _ _ ha)
    refine ⟨_, rfl, ⟨_, q1 _⟩, for_src (src_list (Ok := fun H' => ∃ o, H' = upd H d o) (fun H' ⟨o, e⟩ => by rw [e]; exact q1 o))
      (fun i σ H' => H' = upd H d (.dK (enc (Nm.wof (ps.take i)))) ∧ (∀ p ∈ ps.take i, 0 ≤ p.2) ∧ ∃ z1 z2, σ = [some (.ref a), some (.ref d), z1, z2])
      ⟨by rw [List.take_zero]; rfl, by simp, _, _, rfl⟩ (fun _ _ _ _ h => ⟨_, h.1⟩) ?_ ?_⟩
    · rintro i x σ H' H'' hi ⟨rfl, nn, z1, z2, rfl⟩ ⟨rfl, hx⟩
      obtain ⟨dd, ed, rd⟩ := rl.get hx
      rw [List.getElem?_map] at ed
      obtain ⟨p, ep, rfl⟩ := Option.map_eq_some_iff.mp ed
      obtain ⟨q, rfl, hq⟩ := rep_wrow.mp rd
      have tk : ps.take (i + 1) = ps.take i ++ [p] := by rw [List.take_add_one, ep]; rfl
      refine ⟨q, _, rfl, SqT.of (same_upd nd1 _ _ hq), rfl, ?_⟩
      simp_all only [tRaise]
      rw [tk, Nm.wof_snoc]
      refine ite2 (fun c => ?_) (fun c => ?_)
      · exact ⟨by decide, kE (.inl ⟨p, List.mem_of_getElem? ep, c⟩) _ (same_upd nd1)⟩
      · have nn' : ∀ r ∈ ps.take i ++ [p], 0 ≤ r.2 := fun r hr => by
          rcases List.mem_append.mp hr with h | h
          · exact nn r h
          · have : r = p := by simpa using h
            subst this
            omega
        refine ite2 (fun c2 => ?_) (fun c2 => ?_)
        · obtain ⟨o, ho, eo⟩ := dget_zero (H := upd H d (.dK (enc (Nm.wof (ps.take i))))) p.1 (.inl upd_same)
          refine ⟨.inl ⟨_, .inl upd_same⟩, o, ho, ?_⟩
          rw [eo]
          simp_all only []
          refine ⟨_, dput_enc _ _ upd_same (Nm.wof_nodup _) ?_, ?_, nn', ?_⟩
          · have := Nm.wof_len (ps.take i)
            rw [List.length_take] at this
            rw [sizeLine_eq]
            omega
          · rw [upd_upd, if_pos c2]
            rfl
          · exact ⟨_, rfl⟩
        · refine ⟨by rw [if_neg c2], nn', ?_⟩
          exact ⟨_, rfl⟩
    · rintro σ H' ⟨rfl, nn, z1, z2, rfl⟩
      rw [List.take_of_length_le (by omega)] at nn ⊢
      simp_all only [tRaise, spTW]
      have el : (enc (Nm.wof ps)).length = (Nm.wof ps).length := enc_len _
      refine ⟨_, upd_same, ite2 (fun z => ⟨by decide, kE (.inr ?_) _ (same_upd nd1)⟩) (fun z => ?_)⟩
      · exact Nm.wof_nil.mp (List.eq_nil_of_length_eq_zero (by omega))
      · have np : Nm.pos ps ≠ [] := fun e => by
          have := Nm.wof_nil.mpr e
          exact z (by rw [el, this]; rfl)
        have nb : ¬ Nm.bad ps := fun b => by
          rcases b with ⟨p, hp, c⟩ | c
          · have := nn p hp
            omega
          · exact np c
        have T0 := Nm.tot_pos (show 0 < (Nm.wof ps).length by omega) (Nm.wof_nodup ps) (Nm.wof_pos ps)
        have T1 := Nm.tot_pos_le (c := 10 ^ 12) (by decide) hb
        rw [← Nm.wof_tot] at T1
        have lw := Nm.wof_len ps
        have ev : List.map (fun x : Key × V => x.2) (enc (Nm.wof ps)) = List.map V.int ((Nm.wof ps).map (·.2)) := by
          unfold enc
          rw [List.map_map, List.map_map]
          rfl
        refine ⟨_, upd_same, _, ev, _, upd_same, Nm.wof_nodup ps, by omega, ?_, ?_, fun p H' s' np' r' => ?_⟩
        · show Nm.tot (Nm.wof ps) ≠ 0
          omega
        · show Bt 5000 (Nm.tot (Nm.wof ps))
          exact Bt.of (10 ^ 16) (by omega) (by omega)
        · exact kQ nb p H' ((same_upd nd1).trans s') (none_of (same_upd nd1) np') r'
theorem sc_power : FnScope ["base", "exponent", "product", "turn"] ["base", "exponent"] (defScope (top 26)) := ⟨rfl, rfl, rfl, by decide +kernel, rfl, by decide +kernel, by decide +kernel⟩
theorem ok_pw (T : Txt K mg w.params q_NoShare q_NoTable q_TooMany q_OF_MANY q_OF_ONE) : Cal P w K mg base (CX1 P w) 1 "power" ["base", "exponent"] spPw := by
  refine T.d_power.cal (fun _ _ _ _ _ _ us hl => match us, hl with | [_, _], _ => rfl) fun f fd F => F.okC sc_power (fun vs H Q E h => ?_) (fun cdv A outer s H vs Q E hr h => ?_)
  · obtain ⟨_, _, rfl, _⟩ := h; rfl
  · obtain ⟨b, e, rfl, be, e10, hb, kk⟩ := h
    have nd := sc_power.nd
    refine ⟨_, (pss_cons (ps_set (i := 2) nd rfl (Or.inl rfl) pe_int)
    (pss_cons (ps_for PassesOwn.never rfl (pi_range1 rfl T.z_range (pa_cons (pv 1) pa_nil (se rfl))) (pg_name (i := 3) nd rfl (Or.inl rfl)) (pss_cons (ps_if (pt_cmpR op_gt (pv 2) (pe_globI rfl T.c_MOST_BOTTOM) (nomark _)) (pss_one ps_break)
      pss_nil)
    (pss_one (ps_set (i := 2) nd rfl (Or.inl rfl) (pe_op op_mulB (pv 2) (pv 0))))))
    (pss_one (ps_ret (pv 2))))), ?_⟩
    have sl := sizeLine_eq
    simp_all only []
    refine ⟨by omega, by omega, for_src (src_range (Ok := fun _ => True)) (fun i σ H' => H = H' ∧ ∃ z, σ = [some (.int (b : Int)), some (.int (e : Int)), some (.int ((b ^ i : Nat) : Int)), z]) ⟨rfl, _, rfl⟩ (fun _ _ _ _ _ => trivial) ?_ ?_⟩
    · rintro i x σ H' H'' hi ⟨rfl, z, rfl⟩ ⟨rfl, rfl⟩
      have b1 : 1 ≤ b := by omega
      have le : b ^ i ≤ b ^ e := Nat.pow_le_pow_right b1 (by omega)
      simp_all only []
      rw [if_neg (by omega)]
      refine ⟨mulOkL (by omega) (by omega), ?_, _, rfl⟩
      rw [Nat.pow_succ, Int.natCast_mul]
    · rintro σ H' ⟨rfl, z, rfl⟩
      rw [Int.toNat_natCast]
      simp_all only []
      exact kk
theorem sc_most_faces : FnScope ["part"] ["part"] (defScope (top 27)) := ⟨rfl, rfl, rfl, by decide +kernel, rfl, by decide +kernel, by decide +kernel⟩
theorem ok_mf (T : Txt K mg w.params q_NoShare q_NoTable q_TooMany q_OF_MANY q_OF_ONE) : Cal P w K mg base (CX1 P w) 1 "most_faces" ["part"] spMf := by
  refine T.d_most_faces.cal (fun _ _ _ _ _ _ us hl => match us, hl with | [_], _ => rfl) fun f fd F => F.okC sc_most_faces (fun vs H Q E h => ?_) (fun cdv A outer s H vs Q E hr h => ?_)
  · obtain ⟨_, _, rfl, _⟩ := h; rfl
  · obtain ⟨q, p, rfl, hq, kk⟩ := h
    have nd := sc_most_faces.nd
    refine ⟨_, (pss_cons (ps_if (pt_cmpR op_eq (pe_ix ix_tupH (pv 0) pe_int (fun _ _ => rfl)) pe_str (nomark _)) (pss_one (ps_ret pe_int))
      pss_nil)
    (pss_cons (ps_if (pt_cmpR op_eq (pe_ix ix_tupH (pv 0) pe_int (fun _ _ => rfl)) pe_str (nomark _)) (pss_one (ps_ret (pe_ifExp (pt_cmpR op_gt (pe_ix ix_tupH (pv 0) pe_int (fun _ _ => rfl)) pe_int (nomark _)) pe_int pe_int)))
      pss_nil)
    (pss_cons (ps_if (pt_cmpR op_eq (pe_ix ix_tupH (pv 0) pe_int (fun _ _ => rfl)) pe_str (nomark _)) (pss_one (ps_ret (pe_op op_add (pe_callB (call_max2 rfl) (by rfl) T.z_max rfl (pa_cons (pe_ix ix_tupH (pv 0) pe_int (fun _ _ => rfl)) (pa_cons pe_int pa_nil (se rfl)) (se rfl)) (he := se rfl) (hpl := na rfl)) pe_int)))
      pss_nil)
    (pss_one (ps_ret (pe_ix ix_tupH (pv 0) (pe_un un_neg pe_int) (fun _ _ => rfl))))))), ?_⟩
    by_cases hk : Four p
    · obtain ⟨wd, f0, w1, w2, w3, _, f2, _⟩ := hk
      generalize ptV p = vs at *
      simp_all only [hq, f0, f2]
      rw [if_neg w1, if_neg w2, if_neg w3]
      exact kk
    cases p with
    | num n =>
      simp only [ptV] at hq
      simp_all only [hq]
      exact kk
    | again n s =>
      simp only [ptV] at hq
      simp_all only [hq]
      rw [if_neg (by decide +kernel)]
      have e : mst (.again n s) = if 0 < n then 2 else 1 := rfl
      rw [e] at kk
      by_cases c : 0 < n
      · rw [if_pos (by omega)]
        rw [if_pos c] at kk
        exact kk
      · rw [if_neg (by omega)]
        rw [if_neg c] at kk
        exact kk
    | burst n s =>
      simp only [ptV] at hq
      simp_all only [hq]
      rw [if_neg (by decide +kernel), if_neg (by decide +kernel)]
      rw [show (if (0 : Int) > (n : Int) then (0 : Int) else (n : Int)) = (n : Int) from if_neg (by omega)]
      exact kk
    | dice m s => exact absurd four_dice hk
    | best n m s => exact absurd four_best hk
    | worst n m s => exact absurd four_worst hk
    | hits n m s => exact absurd four_hits hk
theorem sc_part_bottom : FnScope ["part"] ["part"] (defScope (top 28)) := ⟨rfl, rfl, rfl, by decide +kernel, rfl, by decide +kernel, by decide +kernel⟩
theorem ok_bo (T : Txt K mg w.params q_NoShare q_NoTable q_TooMany q_OF_MANY q_OF_ONE) : Cal P w K mg base (CX1 P w) 2 "part_bottom" ["part"] spBo := by
  have c_power : Cal P w K mg base (CX1 P w) 1 "power" ["base", "exponent"] spPw := ok_pw T
  have c_most_faces : Cal P w K mg base (CX1 P w) 1 "most_faces" ["part"] spMf := ok_mf T
  refine T.d_part_bottom.cal (fun _ _ _ _ _ _ us hl => match us, hl with | [_], _ => rfl) fun f fd F => F.okC sc_part_bottom (fun vs H Q E h => ?_) (fun cdv A outer s H vs Q E hr h => ?_)
  · obtain ⟨_, _, rfl, _⟩ := h; rfl
  · obtain ⟨q, p, rfl, hq, g, hb, kk⟩ := h
    have nd := sc_part_bottom.nd
    refine ⟨_, (pss_one (ps_ret (pe_cal c_power (hr.mono (by decide)) rfl strictP.pass (pa_cons (pe_ix ix_tupH (pv 0) (pe_un un_neg pe_int) (fun _ _ => rfl)) (pa_cons (pe_cal c_most_faces (hr.mono (by decide)) rfl strictP.pass (pa_cons (pv 0) pa_nil (se rfl)) (he := se rfl) (hpl := na rfl)) pa_nil (se rfl)) (se rfl)) (he := se rfl) (hpl := na rfl)))), ?_⟩
    simp_all only [spPw, spMf]
    refine ⟨_, hq, _, last_p p, p, hq, lst p, rfl, mst p, rfl, ?_, ?_, ?_, ?_⟩
    · cases p with
      | num n => exact .inr rfl
      | _ => exact .inl g.1
    · have := mst_le g; omega
    · have : lst p ^ mst p = bot p := by cases p <;> rfl
      rw [this]; exact hb
    · have : lst p ^ mst p = bot p := by cases p <;> rfl
      rw [this]; exact kk
theorem sc_part_count : FnScope ["part", "sides", "low"] ["part"] (defScope (top 29)) := ⟨rfl, rfl, rfl, by decide +kernel, rfl, by decide +kernel, by decide +kernel⟩
theorem ok_ct (T : Txt K mg w.params q_NoShare q_NoTable q_TooMany q_OF_MANY q_OF_ONE) : Cal P w K mg base (CX1 P w) 3 "part_count" ["part"] spCt := by
  have c_most_faces : Cal P w K mg base (CX1 P w) 1 "most_faces" ["part"] spMf := ok_mf T
  have c_part_bottom : Cal P w K mg base (CX1 P w) 2 "part_bottom" ["part"] spBo := ok_bo T
  refine T.d_part_count.cal (fun _ _ _ _ _ _ us hl => match us, hl with | [_], _ => rfl) fun f fd F => F.okC sc_part_count (fun vs H Q E h => ?_) (fun cdv A outer s H vs Q E hr h => ?_)
  · obtain ⟨_, _, rfl, _⟩ := h; rfl
  · obtain ⟨q, p, rfl, hq, g, hb, kk⟩ := h
    have nd := sc_part_count.nd
    refine ⟨_, (pss_cons (ps_set (i := 1) nd rfl (Or.inl rfl) (pe_ix ix_tupH (pv 0) (pe_un un_neg pe_int) (fun _ _ => rfl)))
    (pss_cons (ps_if (pt_cmpR op_eq (pe_ix ix_tupH (pv 0) pe_int (fun _ _ => rfl)) pe_str (nomark _)) (pss_cons (ps_set (i := 2) nd rfl (Or.inl rfl) (pe_callB (call_max2 rfl) (by rfl) T.z_max rfl (pa_cons (pe_callB (call_min2 rfl) (by rfl) T.z_min rfl (pa_cons (pe_ix ix_tupH (pv 0) pe_int (fun _ _ => rfl)) (pa_cons (pv 1) pa_nil (se rfl)) (se rfl)) (he := se rfl) (hpl := na rfl)) (pa_cons pe_int pa_nil (se rfl)) (se rfl)) (he := se rfl) (hpl := na rfl)))
    (pss_one (ps_ret (pe_op op_sub (pe_op op_add (pe_op op_mulB (pv 2) (pv 1)) (pv 1)) (pv 2)))))
      pss_nil)
    (pss_cons (ps_if (pt_cmpR op_eq (pe_ix ix_tupH (pv 0) pe_int (fun _ _ => rfl)) pe_str (nomark _)) (pss_one (ps_ret (pe_op op_add (pe_op op_mulB (pe_cal c_most_faces (hr.mono (by decide)) rfl strictP.pass (pa_cons (pv 0) pa_nil (se rfl)) (he := se rfl) (hpl := na rfl)) (pe_op op_sub (pv 1) pe_int)) pe_int)))
      pss_nil)
    (pss_one (ps_ret (pe_cal c_part_bottom (hr.mono (by decide)) rfl strictP.pass (pa_cons (pv 0) pa_nil (se rfl)) (he := se rfl) (hpl := na rfl))))))), ?_⟩
    by_cases hk : Four p
    · obtain ⟨wd, f0, w1, w2, w3, f1, _, _, _, ec, eb, _⟩ := hk
      simp_all only [hq, f0, f1, spBo]
      rw [if_neg w2, if_neg w3]
      rw [ec, ← eb] at kk
      exact ⟨p, rfl, g, hb, kk⟩
    cases p with
    | num n =>
      simp only [ptV] at hq
      simp_all only [hq, spBo]
      refine ⟨_, rfl, ?_⟩
      rw [if_neg (by decide +kernel), if_neg (by decide +kernel)]
      exact ⟨.num n, rfl, g, hb, kk⟩
    | again n s =>
      simp only [ptV] at hq
      simp_all only [hq]
      refine ⟨_, rfl, ?_⟩
      simp_all only []
      have e : (if (0 : Int) > (if (s : Int) < (n : Int) then (s : Int) else (n : Int)) then (0 : Int) else (if (s : Int) < (n : Int) then (s : Int) else (n : Int))) = ((min n s : Nat) : Int) := by
        by_cases c : (s : Int) < (n : Int)
        · rw [if_pos c, if_neg (by omega), Nat.min_eq_right (by omega)]
        · rw [if_neg c, if_neg (by omega), Nat.min_eq_left (by omega)]
      have s20 := g.2.1
      rw [e]
      refine ⟨mulOkR (by omega) (by omega), ?_⟩
      have e2 : ((min n s : Nat) : Int) * (s : Int) + (s : Int) - ((min n s : Nat) : Int) = ((min n s * s + (s - min n s) : Nat) : Int) := by
        rw [Int.natCast_add, Int.natCast_mul, Int.natCast_sub (Nat.min_le_right n s)]
        omega
      rw [e2]
      exact kk
    | burst n s =>
      simp only [ptV] at hq
      simp_all only [hq, spMf]
      refine ⟨_, rfl, ?_⟩
      rw [if_neg (by decide +kernel)]
      simp_all only []
      refine ⟨.burst n s, rfl, mulOkR (by have := g.2.1; omega) (by have := g.2.1; omega), ?_⟩
      have e2 : ((mst (.burst n s) : Nat) : Int) * ((s : Int) - 1) + 1 = (((n + 1) * (s - 1) + 1 : Nat) : Int) := by
        rw [Int.natCast_add, Int.natCast_mul, Int.natCast_sub g.1]
        rfl
      rw [e2]
      exact kk
    | dice m s => exact absurd four_dice hk
    | best n m s => exact absurd four_best hk
    | worst n m s => exact absurd four_worst hk
    | hits n m s => exact absurd four_hits hk
theorem sc_check_size : FnScope ["pool", "count", "bottom", "part"] ["pool"] (defScope (top 30)) := ⟨rfl, rfl, rfl, by decide +kernel, rfl, by decide +kernel, by decide +kernel⟩
theorem ok_ck (T : Txt K mg w.params q_NoShare q_NoTable q_TooMany q_OF_MANY q_OF_ONE) : Cal P w K mg base (CX1 P w) 4 "check_size" ["pool"] spCk := by
  have c_part_count : Cal P w K mg base (CX1 P w) 3 "part_count" ["part"] spCt := ok_ct T
  have c_part_bottom : Cal P w K mg base (CX1 P w) 2 "part_bottom" ["part"] spBo := ok_bo T
  refine T.d_check_size.cal (fun _ _ _ _ _ _ us hl => match us, hl with | [_], _ => rfl) fun f fd F => F.okX sc_check_size (fun vs H Q E h => ?_) (fun cdv A outer s H vs Q E hr h => ?_)
  · obtain ⟨_, _, rfl, _⟩ := h; rfl
  · obtain ⟨l, ps, rfl, hp, g, kk⟩ := h
    have nd := sc_check_size.nd
    have hd0 : A.handled = none := hr.hd
    refine ⟨_, (pss_cons (ps_set (i := 1) nd rfl (Or.inl rfl) pe_int)
    (pss_cons (ps_set (i := 2) nd rfl (Or.inl rfl) pe_int)
    (pss_cons (ps_for PassesOwn.leaving rfl (pi_listK (K := K) (pv 0)) (pg_name (i := 3) nd rfl (Or.inl rfl)) (pss_cons (ps_set (i := 1) nd rfl (Or.inl rfl) (pe_op op_mulB (pv 1) (pe_cal c_part_count (hr.mono (by decide)) rfl strictP.pass (pa_cons (pv 3) pa_nil (se rfl)) (he := se rfl) (hpl := na rfl))))
    (pss_one (ps_set (i := 2) nd rfl (Or.inl rfl) (pe_op op_mulB (pv 2) (pe_cal c_part_bottom (hr.mono (by decide)) rfl strictP.pass (pa_cons (pv 3) pa_nil (se rfl)) (he := se rfl) (hpl := na rfl)))))))
    (pss_one (ps_if (PW.pt (pw_or (pt_cmpR op_gt (pv 1) (pe_globI rfl T.c_MOST_THROWS) (nomark _)) (pw_or1 (pt_cmpR op_gt (pv 2) (pe_globI rfl T.c_MOST_BOTTOM) (nomark _))))) (pss_one (ps_raise rfl T.k_TooMany T.x_TooMany hd0 (pa_cons pe_str pa_nil (se rfl)) (he := se rfl) (hpl := na rfl)))
      pss_nil))))), ?_⟩
    obtain ⟨xs, hl, al⟩ := hp
    have lx := al.length
    simp_all only []
    refine ⟨⟨_, SqL.of hl⟩, for_src (src_list (Ok := fun H' => H = H') (fun H' e => by subst e; exact SqL.of hl)) (fun i σ H' => H = H' ∧ ∃ z, σ = [some (.ref l), some (.int ((prd ((ps.take i).map cnt) : Nat) : Int)), some (.int ((prd ((ps.take i).map bot) : Nat) : Int)), z]) ⟨rfl, _, rfl⟩ (fun _ _ _ _ h => h.1) ?_ ?_⟩
    · rintro i x σ H' H'' hi ⟨rfl, z, rfl⟩ ⟨rfl, ex⟩
      obtain ⟨p, ep, q, rfl, hq⟩ := al.get ex
      obtain ⟨hip, ep'⟩ := List.getElem?_eq_some_iff.mp ep
      have hm : p ∈ ps := by rw [← ep']; exact List.getElem_mem hip
      obtain ⟨gp, c1, b1⟩ := goodL_one g hm
      have c0 := goodL_cnt g i
      have b0 := goodL_bot g i
      simp_all only [spCt, spBo]
      refine ⟨p, hq, gp, b1, mulOkL (by omega) (by omega), p, hq, gp, b1, mulOkL (by omega) (by omega), ?_, ?_, _, rfl⟩
      · rw [take_snoc hip, ep', List.map_append, List.map_cons, List.map_nil, prd_snoc, Int.natCast_mul]
      · rw [take_snoc hip, ep', List.map_append, List.map_cons, List.map_nil, prd_snoc, Int.natCast_mul]
    · rintro σ H' ⟨rfl, z, rfl⟩
      rw [lx, List.take_of_length_le (Nat.le_refl _)]
      have c0 := g.2.1
      have b0 := g.2.2
      simp_all only []
      rw [if_neg (by omega), if_neg (by omega)]
      exact kk
theorem sc_dice_faces : FnScope ["dice", "sides", "found", "turn", "longer", "faces"] ["dice", "sides"] (defScope (top 31)) := ⟨rfl, rfl, rfl, by decide +kernel, rfl, by decide +kernel, by decide +kernel⟩
theorem ok_df (T : Txt K mg w.params q_NoShare q_NoTable q_TooMany q_OF_MANY q_OF_ONE) : Cal P w K mg base (CX1 P w) 1 "dice_faces" ["dice", "sides"] spDf := by
  refine T.d_dice_faces.cal (fun _ _ _ _ _ _ us hl => match us, hl with | [_, _], _ => rfl) fun f fd F => F.okC sc_dice_faces (fun vs H Q E h => ?_) (fun cdv A outer s H vs Q E hr h => ?_)
  · obtain ⟨_, _, rfl, _⟩ := h; rfl
  · obtain ⟨d, s', rfl, s1, s20, d6, hd, kk⟩ := h
    have nd := sc_dice_faces.nd
    refine ⟨_, (pss_cons (ps_set (i := 2) nd rfl (Or.inl rfl) (pe_lst (pa_cons (pe_lst pa_nil) pa_nil (se rfl))))
    (pss_cons (ps_for PassesOwn.never rfl (pi_range1 rfl T.z_range (pa_cons (pv 0) pa_nil (se rfl))) (pg_name (i := 3) nd rfl (Or.inl rfl)) (pss_cons (ps_set (i := 4) nd rfl (Or.inl rfl) (pe_lst pa_nil))
    (pss_cons (ps_for PassesOwn.never rfl (pi_listK (K := K) (pv 2)) (pg_name (i := 5) nd rfl (Or.inr rfl)) (pss_one (ps_expr (pe_bm PySem.F.plainAttrs_list PySem.F.slot_list_extend PySem.F.type_list_extend mt_extend.r (pv 4) (pa_cons (pe_comp rfl (N := ["dice", "sides", "found", "turn", "longer", "faces"]) (so := defScope (top 31)) (N' := ["face", "faces"]) (k := 1) (fr := [5]) rfl rfl ⟨rfl, by decide +kernel, by decide +kernel, by decide +kernel, rfl, by decide +kernel, by decide +kernel⟩ (pi_range2 rfl T.z_range (pa_cons pe_int (pa_cons (pe_op op_add (pv 1) pe_int) pa_nil (se rfl)) (se rfl))) (fun _ _ _ _ _ => (pg_name (i := 0) (show (["face", "faces"] : List Str).Nodup by decide +kernel) rfl (Or.inl rfl))) (fun _ _ _ _ _ => pts_nil)
      (fun _ _ _ _ _ => (pe_op op_cat (pv 1) (pe_lst (pa_cons (pv 0) pa_nil (se rfl)))))) pa_nil (se rfl))))))
    (pss_one (ps_set (i := 2) nd rfl (Or.inl rfl) (pv 4))))))
    (pss_one (ps_ret (pv 2))))), ?_⟩
    have sl := sizeLine_eq
    simp_all only []
    refine ⟨Nat.zero_le _, fun e0 m0 => ⟨by decide, fun l0 n0 => ⟨by omega, by omega, ?_⟩⟩⟩
    have s0 : Same H (upd (upd H e0 (.lst [])) l0 (.lst [.ref e0])) := (same_upd m0).trans (same_upd n0)
    refine for_src (src_range (Ok := fun _ => True)) (fun i σ H' => Same H H' ∧ ∃ l xs z z' z'', H' l = some (.lst xs) ∧ Al (Fa H') (dcF s' i) xs ∧ σ = [some (.int (d : Int)), some (.int (s' : Int)), some (.ref l), z, z', z'']) ?_ (fun _ _ _ _ _ => trivial) ?_ ?_
    · exact ⟨s0, l0, _, _, _, _, upd_same, .one ⟨e0, rfl, same_upd n0 _ _ upd_same⟩, rfl⟩
    · rintro i x σ H' H'' hi ⟨sm, l, xs, z, z', z'', hl, al, rfl⟩ ⟨rfl, rfl⟩
      have lx := al.length
      rw [dcF_len] at lx
      have hle : s' ^ (i + 1) ≤ 1296 := Nat.le_trans (Nat.pow_le_pow_right s1 (by omega)) hd
      have hle0 : s' ^ i ≤ 1296 := Nat.le_trans (Nat.pow_le_pow_right s1 (by omega)) hd
      change tSeq _ _ _ [some (.int (d : Int)), some (.int (s' : Int)), some (.ref l), some (.int (0 + i)), z', z''] H''
      refine seq_gen (fun σ' H1 => Same H'' H1 ∧ ∃ m, H'' m = none ∧ H1 m = some (.lst []) ∧ σ' = [some (.int (d : Int)), some (.int (s' : Int)), some (.ref l), some (.int (0 + i)), some (.ref m), z'']) ?_ (fun N hN => ?_)
      case refine_2 =>
        simp_all only []
        exact ⟨Nat.zero_le _, fun m nm => hN _ _ ⟨same_upd nm, m, nm, upd_same, rfl⟩⟩
      rintro _ H1 ⟨sm1, m, nm, hm, rfl⟩
      change tSeq _ _ _ [some (.int (d : Int)), some (.int (s' : Int)), some (.ref l), some (.int (0 + i)), some (.ref m), z''] H1
      refine seq_gen (fun σ' H2 => Same H'' H2 ∧ ∃ ys, H2 m = some (.lst ys) ∧ Al (Fa H2) (dcF s' (i + 1)) ys ∧ ∃ z, σ' = [some (.int (d : Int)), some (.int (s' : Int)), some (.ref l), some (.int (0 + i)), some (.ref m), z]) ?_ (fun N hN => ?_)
      case refine_2 =>
        simp_all only []
        refine ⟨⟨_, SqL.of (sm1 _ _ hl)⟩, for_src (src_list (Ok := Same H'') (fun H2 s2 => SqL.of (s2 _ _ hl)))
          (fun j σ H2 => Same H'' H2 ∧ ∃ ys z, H2 m = some (.lst ys) ∧ ys.length = j * s' ∧ Al (Fa (hid H2 m)) (((dcF s' i).take j).flatMap fun f => (List.range s').map fun i : Nat => f ++ [((i : Nat) : Int) + 1]) ys ∧ σ = [some (.int (d : Int)), some (.int (s' : Int)), some (.ref l), some (.int (0 + i)), some (.ref m), z])
          ⟨sm1, [], _, hm, by simp, trivial, rfl⟩ (fun _ _ _ _ h => h.1) ?_ ?_⟩
        · rintro j x σ H2 H3 hj ⟨sm2, ys, z, hm2, ly, ay, rfl⟩ ⟨rfl, ex⟩
          obtain ⟨f, ef, q, rfl, hq⟩ := al.get ex
          obtain ⟨hjf, ef'⟩ := List.getElem?_eq_some_iff.mp ef
          have fl := (dcF_row s' i f (by rw [← ef']; exact List.getElem_mem hjf)).1
          have hq2 := sm2 _ _ hq
          simp_all only [rExtend]
          refine ⟨.inl ⟨rfl, _, SqL.of hm2⟩, by omega, by omega, by omega, by omega, ?_⟩
          rw [show ((s' : Int) + 1 - 1).toNat = s' by omega]
          refine comp_map src_range (fun _ _ _ _ h => by rw [h.1]; exact Same.refl _) (by omega) (fun k y H4 => Fa (hid H4 m) (f ++ [((k : Nat) : Int) + 1]) y) (fun k y H4 H5 s5 h => h.mono (hid_mono s5)) ?_ ?_
          · rintro k x w0 H4 H5 Q2 hk s4 ⟨rfl, rfl⟩ kq
            simp_all only [rCat]
            refine ⟨by decide, fun a1 n1 => ⟨_, same_upd n1 _ _ (s4 _ _ hq2), _, upd_same, by rw [List.length_map]; simp only [List.length_cons, List.length_nil]; omega, fun a2 n2 => kq _ _ ((same_upd n1).trans (same_upd n2)) ⟨a2, rfl, ?_⟩⟩⟩
            have ne : a2 ≠ m := fun e => by
              subst e
              rw [same_upd n1 _ _ (s4 _ _ hm2)] at n2
              cases n2
            rw [hid_ne ne, upd_same, List.map_append, Int.add_comm]
            rfl
          · intro zs H4 s4 lz hz D n1 n2
            have hm4 := s4 _ _ hm2
            have jm : j * s' ≤ s' ^ (i + 1) := by rw [Nat.pow_succ]; exact Nat.mul_le_mul_right _ (by omega)
            have szz : ∀ {k : Nat}, k = j * s' + s' → k ≤ sizeLine := fun e => by omega
            refine ⟨_, same_upd n2 _ _ hm4, _, upd_same, szz (by rw [ly, lz]), ?_⟩
            have s5 : Same H3 (upd H4 D (.lst zs)) := s4.trans (same_upd n2)
            refine ⟨same_upd_of (sm2.trans s5) nm, _, upd_same, by rw [List.length_append, ly, lz, Nat.succ_mul], ?_, _, rfl⟩
            rw [hid_hid, List.take_add_one, ef, List.flatMap_append]
            refine Al.append (ay.imp fun _ _ h => h.mono (hid_mono s5)) ?_
            simp only [Option.toList, List.flatMap_cons, List.flatMap_nil, List.append_nil]
            refine Al.of (by rw [List.length_map, List.length_range]; exact lz) fun k y g e1 e2 => ?_
            rw [List.getElem?_map] at e2
            obtain ⟨k', ek, rfl⟩ := Option.map_eq_some_iff.mp e2
            obtain ⟨hk1, hk2⟩ := List.getElem?_eq_some_iff.mp ek
            rw [List.getElem_range] at hk2
            subst hk2
            exact (hz _ _ e1).mono (hid_mono (same_upd n2))
        · rintro σ H2 ⟨sm2, ys, z, hm2, ly, ay, rfl⟩
          refine hN _ _ ⟨sm2, ys, hm2, ?_, _, rfl⟩
          rw [lx, ← dcF_len s' i, List.take_of_length_le (Nat.le_refl _)] at ay
          exact ay.imp fun _ _ h => h.mono hid_sub
      rintro _ H2 ⟨sm2, ys, hm2, ay, z, rfl⟩
      simp_all only []
      first | exact ⟨sm.trans sm2, m, _, hm2, ay, rfl, ⟨_, rfl⟩, ⟨_, rfl⟩, ⟨_, rfl⟩⟩ | exact ⟨sm.trans sm2, m, _, hm2, ay, rfl, _, _, rfl⟩ | exact ⟨sm.trans sm2, m, _, hm2, ay, rfl, ⟨_, rfl⟩, _, rfl⟩ | exact ⟨sm.trans sm2, m, _, hm2, ay, rfl, _, rfl⟩
    · rintro σ H' ⟨sm, l, xs, z, z', z'', hl, al, rfl⟩
      rw [Int.toNat_natCast] at al
      simp_all only []
      exact kk _ _ _ sm hl al
theorem sc_again_faces : FnScope ["low", "sides", "found", "face"] ["low", "sides"] (defScope (top 32)) := ⟨rfl, rfl, rfl, by decide +kernel, rfl, by decide +kernel, by decide +kernel⟩
theorem ok_af (T : Txt K mg w.params q_NoShare q_NoTable q_TooMany q_OF_MANY q_OF_ONE) : Cal P w K mg base (CX1 P w) 1 "again_faces" ["low", "sides"] spAf := by
  refine T.d_again_faces.cal (fun _ _ _ _ _ _ us hl => match us, hl with | [_, _], _ => rfl) fun f fd F => F.okC sc_again_faces (fun vs H Q E h => ?_) (fun cdv A outer s H vs Q E hr h => ?_)
  · obtain ⟨_, _, rfl, _⟩ := h; rfl
  · obtain ⟨n, s', rfl, s20, kk⟩ := h
    have nd := sc_again_faces.nd
    refine ⟨_, (pss_cons (ps_set (i := 2) nd rfl (Or.inl rfl) (pe_lst pa_nil))
    (pss_cons (ps_for PassesOwn.never rfl (pi_range2 rfl T.z_range (pa_cons pe_int (pa_cons (pe_op op_add (pv 1) pe_int) pa_nil (se rfl)) (se rfl))) (pg_name (i := 3) nd rfl (Or.inr rfl)) (pss_one (ps_if (pt_cmpR op_le (pv 3) (pv 0) (nomark _)) (pss_one (ps_expr (pe_bm PySem.F.plainAttrs_list PySem.F.slot_list_extend PySem.F.type_list_extend mt_extend.r (pv 2) (pa_cons (pe_comp rfl (N := ["low", "sides", "found", "face"]) (so := defScope (top 32)) (N' := ["second", "face"]) (k := 1) (fr := [3]) rfl rfl ⟨rfl, by decide +kernel, by decide +kernel, by decide +kernel, rfl, by decide +kernel, by decide +kernel⟩ (pi_range2 rfl T.z_range (pa_cons pe_int (pa_cons (pe_op op_add (pv 1) pe_int) pa_nil (se rfl)) (se rfl))) (fun _ _ _ _ _ => (pg_name (i := 0) (show (["second", "face"] : List Str).Nodup by decide +kernel) rfl (Or.inl rfl))) (fun _ _ _ _ _ => pts_nil)
      (fun _ _ _ _ _ => (pe_lst (pa_cons (pv 1) (pa_cons (pv 0) pa_nil (se rfl)) (se rfl))))) pa_nil (se rfl)))))
      (pss_one (ps_expr (pe_bm PySem.F.plainAttrs_list PySem.F.slot_list_append PySem.F.type_list_append mt_append.r (pv 2) (pa_cons (pe_lst (pa_cons (pv 3) pa_nil (se rfl))) pa_nil (se rfl))))))))
    (pss_one (ps_ret (pv 2))))), ?_⟩
    have sl := sizeLine_eq
    simp_all only []
    refine ⟨Nat.zero_le _, fun m nm => ⟨by omega, by omega, by omega, by omega, ?_⟩⟩
    rw [show ((s' : Int) + 1 - 1).toNat = s' by omega]
    refine for_src (src_range (Ok := fun _ => True)) (fun i σ H' => Same H H' ∧ ∃ xs z, H' m = some (.lst xs) ∧ xs.length ≤ i * 20 ∧ Al (Fa (hid H' m)) ((List.range i).flatMap fun i : Nat => if i < n then (List.range s').map fun j : Nat => [((i : Nat) : Int) + 1, ((j : Nat) : Int) + 1] else [[((i : Nat) : Int) + 1]]) xs ∧ σ = [some (.int (n : Int)), some (.int (s' : Int)), some (.ref m), z]) ?_ (fun _ _ _ _ _ => trivial) ?_ ?_
    · exact ⟨same_upd nm, _, _, upd_same, Nat.zero_le _, trivial, rfl⟩
    · rintro i x σ H1 H2 hi ⟨sm, xs, z, hm, lx, al, rfl⟩ ⟨rfl, rfl⟩
      change tIfS _ _ _ _ [some (.int (n : Int)), some (.int (s' : Int)), some (.ref m), some (.int (1 + (i : Int)))] H2
      refine if_gen (fun H' => H2 = H' ∧ i < n) (fun H' => H2 = H' ∧ ¬ i < n) (fun H' e => ?_) (fun H' e => ?_) (fun Y N hY hN => ?_)
      · obtain ⟨rfl, c⟩ := e
        simp_all only [rExtend]
        refine ⟨.inl ⟨rfl, _, SqL.of hm⟩, by omega, by omega, by omega, by omega, ?_⟩
        rw [show ((s' : Int) + 1 - 1).toNat = s' by omega]
        refine comp_map src_range (fun _ _ _ _ h => by rw [h.1]; exact Same.refl _) (by omega) (fun k y H4 => Fa (hid H4 m) [((i : Nat) : Int) + 1, ((k : Nat) : Int) + 1] y) (fun k y H4 H5 s5 h => h.mono (hid_mono s5)) ?_ ?_
        · rintro k x w0 H4 H5 Q2 hk s4 ⟨rfl, rfl⟩ kq
          simp_all only []
          refine ⟨by decide, fun a1 n1 => kq _ _ (same_upd n1) ⟨a1, rfl, ?_⟩⟩
          have ne : a1 ≠ m := fun e => by
            subst e
            rw [s4 _ _ hm] at n1
            cases n1
          rw [hid_ne ne, upd_same, Int.add_comm, Int.add_comm 1 (k : Int)]
          rfl
        · intro zs H4 s4 lz hz D n1 n2
          have hm4 := s4 _ _ hm
          refine ⟨_, same_upd n2 _ _ hm4, _, upd_same, by omega, ?_⟩
          have s5 : Same H2 (upd H4 D (.lst zs)) := s4.trans (same_upd n2)
          refine ⟨same_upd_of (sm.trans s5) nm, _, upd_same, by rw [List.length_append, lz]; omega, ?_, _, rfl⟩
          rw [hid_hid, List.range_succ, List.flatMap_append]
          refine Al.append (al.imp fun _ _ h => h.mono (hid_mono s5)) ?_
          simp only [List.flatMap_cons, List.flatMap_nil, List.append_nil]
          rw [if_pos c]
          refine Al.of (by rw [List.length_map, List.length_range]; exact lz) fun k y g e1 e2 => ?_
          rw [List.getElem?_map] at e2
          obtain ⟨k', ek, rfl⟩ := Option.map_eq_some_iff.mp e2
          obtain ⟨hk1, hk2⟩ := List.getElem?_eq_some_iff.mp ek
          rw [List.getElem_range] at hk2
          subst hk2
          exact (hz _ _ e1).mono (hid_mono (same_upd n2))
      · obtain ⟨rfl, c⟩ := e
        simp_all only [rAppend]
        refine ⟨.inl ⟨rfl, _, SqL.of hm⟩, by decide, fun a1 n1 => ⟨_, same_upd n1 _ _ hm, by omega, ?_⟩⟩
        have s5 := same_upd (o := .lst [V.int (1 + (i : Int))]) n1
        have ne : a1 ≠ m := fun e => by
          subst e
          rw [hm] at n1
          cases n1
        refine ⟨same_upd_of (sm.trans s5) nm, _, upd_same, by rw [List.length_append]; simp only [List.length_cons, List.length_nil]; omega, ?_, _, rfl⟩
        rw [hid_hid, List.range_succ, List.flatMap_append]
        refine Al.append (al.imp fun _ _ h => h.mono (hid_mono s5)) ?_
        simp only [List.flatMap_cons, List.flatMap_nil, List.append_nil]
        rw [if_neg c]
        refine .one ⟨a1, rfl, ?_⟩
        rw [hid_ne ne, upd_same, Int.add_comm]
        rfl
      · simp_all only []
        exact ite2 (fun c => hY _ ⟨rfl, by omega⟩) (fun c => hN _ ⟨rfl, by omega⟩)
    · rintro σ H' ⟨sm, xs, z, hm, lx, al, rfl⟩
      simp_all only []
      exact kk _ _ _ sm hm (al.imp fun _ _ h => h.mono hid_sub)
theorem sc_burst_faces : FnScope ["most", "sides", "found", "ahead"] ["most", "sides"] (defScope (top 33)) := ⟨rfl, rfl, rfl, by decide +kernel, rfl, by decide +kernel, by decide +kernel⟩
theorem ok_bf (T : Txt K mg w.params q_NoShare q_NoTable q_TooMany q_OF_MANY q_OF_ONE) : Cal P w K mg base (CX1 P w) 1 "burst_faces" ["most", "sides"] spBf := by
  refine T.d_burst_faces.cal (fun _ _ _ _ _ _ us hl => match us, hl with | [_, _], _ => rfl) fun f fd F => F.okC sc_burst_faces (fun vs H Q E h => ?_) (fun cdv A outer s H vs Q E hr h => ?_)
  · obtain ⟨_, _, rfl, _⟩ := h; rfl
  · obtain ⟨n, s', rfl, s1, s20, n7, kk⟩ := h
    have nd := sc_burst_faces.nd
    refine ⟨_, (pss_cons (ps_set (i := 2) nd rfl (Or.inl rfl) (pe_lst pa_nil))
    (pss_cons (ps_for PassesOwn.never rfl (pi_range1 rfl T.z_range (pa_cons (pv 0) pa_nil (se rfl))) (pg_name (i := 3) nd rfl (Or.inr rfl)) (pss_one (ps_expr (pe_bm PySem.F.plainAttrs_list PySem.F.slot_list_extend PySem.F.type_list_extend mt_extend.r (pv 2) (pa_cons (pe_comp rfl (N := ["most", "sides", "found", "ahead"]) (so := defScope (top 33)) (N' := ["face", "sides", "ahead"]) (k := 1) (fr := [1, 3]) rfl rfl ⟨rfl, by decide +kernel, by decide +kernel, by decide +kernel, rfl, by decide +kernel, by decide +kernel⟩ (pi_range2 rfl T.z_range (pa_cons pe_int (pa_cons (pv 1) pa_nil (se rfl)) (se rfl))) (fun _ _ _ _ _ => (pg_name (i := 0) (show (["face", "sides", "ahead"] : List Str).Nodup by decide +kernel) rfl (Or.inl rfl))) (fun _ _ _ _ _ => pts_nil)
      (fun _ _ _ _ _ => (pe_op op_cat (pe_op op_rep (pe_lst (pa_cons (pv 1) pa_nil (se rfl))) (pv 2)) (pe_lst (pa_cons (pv 0) pa_nil (se rfl)))))) pa_nil (se rfl))))))
    (pss_cons (ps_expr (pe_bm PySem.F.plainAttrs_list PySem.F.slot_list_append PySem.F.type_list_append mt_append.r (pv 2) (pa_cons (pe_op op_rep (pe_lst (pa_cons (pv 1) pa_nil (se rfl))) (pv 0)) pa_nil (se rfl))))
    (pss_one (ps_ret (pv 2)))))), ?_⟩
    have sl := sizeLine_eq
    change tSeq _ _ _ [some (.int (n : Int)), some (.int (s' : Int)), none, none] H
    refine seq_gen (fun σ' H1 => Same H H1 ∧ ∃ m, H m = none ∧ H1 m = some (.lst []) ∧ σ' = [some (.int (n : Int)), some (.int (s' : Int)), some (.ref m), none]) ?_ (fun N hN => ?_)
    case refine_2 =>
      simp_all only []
      exact ⟨Nat.zero_le _, fun m nm => hN _ _ ⟨same_upd nm, m, nm, upd_same, rfl⟩⟩
    rintro _ H1 ⟨sm1, m, nm, hm, rfl⟩
    change tSeq _ _ _ [some (.int (n : Int)), some (.int (s' : Int)), some (.ref m), none] H1
    refine seq_gen (fun σ' H1 => Same H H1 ∧ ∃ xs z, H1 m = some (.lst xs) ∧ xs.length ≤ n * 20 ∧ Al (Fa (hid H1 m)) ((List.range n).flatMap fun a => buR s' a) xs ∧ σ' = [some (.int (n : Int)), some (.int (s' : Int)), some (.ref m), z]) ?_ (fun N hN => ?_)
    case refine_2 =>
      simp_all only []
      refine ⟨by omega, by omega, ?_⟩
      rw [Int.toNat_natCast]
      refine for_src (src_range (Ok := fun _ => True)) (fun i σ H' => Same H H' ∧ ∃ xs z, H' m = some (.lst xs) ∧ xs.length ≤ i * 20 ∧ Al (Fa (hid H' m)) ((List.range i).flatMap fun a => buR s' a) xs ∧ σ = [some (.int (n : Int)), some (.int (s' : Int)), some (.ref m), z]) ?_ (fun _ _ _ _ _ => trivial) ?_ ?_
      · exact ⟨sm1, _, _, hm, Nat.zero_le _, trivial, rfl⟩
      · rintro i x σ H2 H3 hi ⟨sm, xs, z, hm, lx, al, rfl⟩ ⟨rfl, rfl⟩
        simp_all only [rExtend]
        refine ⟨.inl ⟨rfl, _, SqL.of hm⟩, by omega, by omega, by omega, by omega, ?_⟩
        rw [show ((s' : Int) - 1).toNat = s' - 1 by omega]
        refine comp_map src_range (fun _ _ _ _ h => by rw [h.1]; exact Same.refl _) (by omega) (fun k y H4 => Fa (hid H4 m) (List.replicate i (s' : Int) ++ [((k : Nat) : Int) + 1]) y) (fun k y H4 H5 s5 h => h.mono (hid_mono s5)) ?_ ?_
        · rintro k x w0 H4 H5 Q2 hk s4 ⟨rfl, rfl⟩ kq
          simp_all only [rCat, rRep]
          refine ⟨by decide, fun a1 n1 => ⟨_, upd_same, by omega, by omega, by simp only [List.length_cons, List.length_nil]; omega, fun a2 n2 => ⟨by decide, fun a3 n3 => ⟨_, same_upd n3 _ _ upd_same, _, upd_same, ?_, fun a4 n4 => kq _ _ ((same_upd n1).trans ((same_upd n2).trans ((same_upd n3).trans (same_upd n4)))) ⟨a4, rfl, ?_⟩⟩⟩⟩⟩
          · rw [len_rep]
            simp only [List.length_cons, List.length_nil]
            omega
          · have ne : a4 ≠ m := fun e => by
              subst e
              rw [same_upd n3 _ _ (same_upd n2 _ _ (same_upd n1 _ _ (s4 _ _ hm)))] at n4
              cases n4
            rw [hid_ne ne, upd_same, List.flatten_replicate_singleton, List.map_append, List.map_replicate, show ((0 : Int) + (i : Int)).toNat = i by omega, Int.add_comm 1 (k : Int)]
            rfl
        · intro zs H4 s4 lz hz D n1 n2
          have hm4 := s4 _ _ hm
          refine ⟨_, same_upd n2 _ _ hm4, _, upd_same, by omega, ?_⟩
          have s5 : Same H3 (upd H4 D (.lst zs)) := s4.trans (same_upd n2)
          refine ⟨same_upd_of (sm.trans s5) nm, _, upd_same, by rw [List.length_append, lz]; omega, ?_, _, rfl⟩
          rw [hid_hid, List.range_succ, List.flatMap_append]
          refine Al.append (al.imp fun _ _ h => h.mono (hid_mono s5)) ?_
          simp only [List.flatMap_cons, List.flatMap_nil, List.append_nil]
          unfold buR
          refine Al.of (by rw [List.length_map, List.length_range]; exact lz) fun k y g e1 e2 => ?_
          rw [List.getElem?_map] at e2
          obtain ⟨k', ek, rfl⟩ := Option.map_eq_some_iff.mp e2
          obtain ⟨hk1, hk2⟩ := List.getElem?_eq_some_iff.mp ek
          rw [List.getElem_range] at hk2
          subst hk2
          exact (hz _ _ e1).mono (hid_mono (same_upd n2))
      · rintro σ H' ⟨sm, xs, z, hm, lx, al, rfl⟩
        exact hN _ _ ⟨sm, xs, _, hm, lx, al, rfl⟩
    rintro _ H2 ⟨sm, xs, z, hm, lx, al, rfl⟩
    simp_all only [rAppend, rRep]
    refine ⟨.inl ⟨rfl, _, SqL.of hm⟩, by decide, fun a1 n1 => ⟨_, upd_same, by omega, by omega, by simp only [List.length_cons, List.length_nil]; omega, fun a2 n2 => ⟨_, same_upd n2 _ _ (same_upd n1 _ _ hm), by omega, ?_⟩⟩⟩
    generalize eH : upd (upd H2 a1 (.lst [V.int (s' : Int)])) a2 (.lst (List.replicate (n : Int).toNat [V.int (s' : Int)]).flatten) = H5
    have s5 : Same H2 H5 := by rw [← eH]; exact (same_upd n1).trans (same_upd n2)
    have ne : a2 ≠ m := fun e => by
      subst e
      rw [same_upd n1 _ _ hm] at n2
      cases n2
    have e5 : H5 a2 = some (.lst (List.map V.int (List.replicate n (s' : Int)))) := by
      rw [← eH, upd_same, List.flatten_replicate_singleton, List.map_replicate, Int.toNat_natCast]
    refine kk _ _ _ (same_upd_of (sm.trans s5) nm) upd_same ?_
    refine Al.append (al.imp fun _ _ h => (h.mono (hid_mono s5)).mono hid_upd) (.one ⟨a2, rfl, ?_⟩)
    rw [upd_ne ne]
    exact e5
theorem sc_part_faces : FnScope ["part"] ["part"] (defScope (top 34)) := ⟨rfl, rfl, rfl, by decide +kernel, rfl, by decide +kernel, by decide +kernel⟩
theorem ok_pf (T : Txt K mg w.params q_NoShare q_NoTable q_TooMany q_OF_MANY q_OF_ONE) : Cal P w K mg base (CX1 P w) 2 "part_faces" ["part"] spPf := by
  have c_most_faces : Cal P w K mg base (CX1 P w) 1 "most_faces" ["part"] spMf := ok_mf T
  have c_dice_faces : Cal P w K mg base (CX1 P w) 1 "dice_faces" ["dice", "sides"] spDf := ok_df T
  have c_again_faces : Cal P w K mg base (CX1 P w) 1 "again_faces" ["low", "sides"] spAf := ok_af T
  have c_burst_faces : Cal P w K mg base (CX1 P w) 1 "burst_faces" ["most", "sides"] spBf := ok_bf T
  refine T.d_part_faces.cal (fun _ _ _ _ _ _ us hl => match us, hl with | [_], _ => rfl) fun f fd F => F.okC sc_part_faces (fun vs H Q E h => ?_) (fun cdv A outer s H vs Q E hr h => ?_)
  · obtain ⟨_, _, rfl, _⟩ := h; rfl
  · obtain ⟨q, p, rfl, hq, g, hc, kk⟩ := h
    have nd := sc_part_faces.nd
    refine ⟨_, (pss_cons (ps_if (pt_cmpR op_eq (pe_ix ix_tupH (pv 0) pe_int (fun _ _ => rfl)) pe_str (nomark _)) (pss_one (ps_ret (pe_lst (pa_cons (pe_lst pa_nil) pa_nil (se rfl)))))
      pss_nil)
    (pss_cons (ps_if (pt_cmpR op_eq (pe_ix ix_tupH (pv 0) pe_int (fun _ _ => rfl)) pe_str (nomark _)) (pss_one (ps_ret (pe_cal c_again_faces (hr.mono (by decide)) rfl strictP.pass (pa_cons (pe_ix ix_tupH (pv 0) pe_int (fun _ _ => rfl)) (pa_cons (pe_ix ix_tupH (pv 0) pe_int (fun _ _ => rfl)) pa_nil (se rfl)) (se rfl)) (he := se rfl) (hpl := na rfl))))
      pss_nil)
    (pss_cons (ps_if (pt_cmpR op_eq (pe_ix ix_tupH (pv 0) pe_int (fun _ _ => rfl)) pe_str (nomark _)) (pss_one (ps_ret (pe_cal c_burst_faces (hr.mono (by decide)) rfl strictP.pass (pa_cons (pe_cal c_most_faces (hr.mono (by decide)) rfl strictP.pass (pa_cons (pv 0) pa_nil (se rfl)) (he := se rfl) (hpl := na rfl)) (pa_cons (pe_ix ix_tupH (pv 0) pe_int (fun _ _ => rfl)) pa_nil (se rfl)) (se rfl)) (he := se rfl) (hpl := na rfl))))
      pss_nil)
    (pss_one (ps_ret (pe_cal c_dice_faces (hr.mono (by decide)) rfl strictP.pass (pa_cons (pe_ix ix_tupH (pv 0) (pe_un un_neg pe_int) (fun _ _ => rfl)) (pa_cons (pe_ix ix_tupH (pv 0) (pe_un un_neg pe_int) (fun _ _ => rfl)) pa_nil (se rfl)) (se rfl)) (he := se rfl) (hpl := na rfl))))))), ?_⟩
    by_cases hk : Four p
    · obtain ⟨wd, f0, w1, w2, w3, f1, f2, _, _, ec, _, ef, gg⟩ := hk
      obtain ⟨g1, g2, g3⟩ := gg g
      rw [ef] at kk
      rw [ec] at hc
      generalize ptV p = vs at *
      simp_all only [hq, f0, f1, f2, spDf]
      rw [if_neg w1, if_neg w2, if_neg w3]
      exact ⟨mst p, rfl, lst p, rfl, g1, g2, g3, hc, kk⟩
    cases p with
    | num n =>
      simp only [ptV] at hq
      simp_all only [hq]
      refine ⟨Nat.zero_le _, fun e0 m0 => ⟨by decide, fun l0 n0 => kk _ _ _ ((same_upd m0).trans (same_upd n0)) upd_same (.one ⟨e0, rfl, same_upd n0 _ _ upd_same⟩)⟩⟩
    | again n s =>
      simp only [ptV] at hq
      simp_all only [hq, spAf]
      rw [if_neg (by decide +kernel)]
      refine ⟨n, rfl, s, rfl, g.2.1, kk⟩
    | burst n s =>
      simp only [ptV] at hq
      simp_all only [hq, spMf, spBf]
      rw [if_neg (by decide +kernel), if_neg (by decide +kernel)]
      refine ⟨.burst n s, rfl, n + 1, rfl, s, rfl, g.1, g.2.1, by have := g.2.2; omega, kk⟩
    | dice m s => exact absurd four_dice hk
    | best n m s => exact absurd four_best hk
    | worst n m s => exact absurd four_worst hk
    | hits n m s => exact absurd four_hits hk
theorem sc_value_of : FnScope ["part", "faces"] ["part", "faces"] (defScope (top 35)) := ⟨rfl, rfl, rfl, by decide +kernel, rfl, by decide +kernel, by decide +kernel⟩
theorem ok_vo (T : Txt K mg w.params q_NoShare q_NoTable q_TooMany q_OF_MANY q_OF_ONE) : Cal P w K mg base (CX1 P w) 1 "value_of" ["part", "faces"] spVo := by
  refine T.d_value_of.cal (fun _ _ _ _ _ _ us hl => match us, hl with | [_, _], _ => rfl) fun f fd F => F.okC sc_value_of (fun vs H Q E h => ?_) (fun cdv A outer s H vs Q E hr h => ?_)
  · obtain ⟨_, _, _, _, rfl, _⟩ := h; rfl
  · obtain ⟨q, p, l, fs, rfl, hq, hl, g, hf, kk⟩ := h
    have nd := sc_value_of.nd
    refine ⟨_, (pss_cons (ps_if (pt_cmpR op_eq (pe_ix ix_tupH (pv 0) pe_int (fun _ _ => rfl)) pe_str (nomark _)) (pss_one (ps_ret (pe_ix ix_tupH (pv 0) pe_int (fun _ _ => rfl))))
      pss_nil)
    (pss_cons (ps_if (pt_cmpR op_eq (pe_ix ix_tupH (pv 0) pe_int (fun _ _ => rfl)) pe_str (nomark _)) (pss_one (ps_ret (pe_callB (call_sum_lK (K := K)) (by rfl) T.z_sum rfl (pa_cons (pe_slice (sl_listK (K := K)) (pe_sortRK (K := K) rfl T.z_sorted (pv 1) pe_bl (n1 := rfl)) po_none (po_some (pe_ix ix_tupH (pv 0) pe_int (fun _ _ => rfl)))) pa_nil (se rfl)) (he := se rfl) (hpl := na rfl))))
      pss_nil)
    (pss_cons (ps_if (pt_cmpR op_eq (pe_ix ix_tupH (pv 0) pe_int (fun _ _ => rfl)) pe_str (nomark _)) (pss_one (ps_ret (pe_callB (call_sum_lK (K := K)) (by rfl) T.z_sum rfl (pa_cons (pe_slice (sl_listK (K := K)) (pe_callB (call_sorted_lK (K := K)) (by rfl) T.z_sorted rfl (pa_cons (pv 1) pa_nil (se rfl)) (he := se rfl) (hpl := na rfl)) po_none (po_some (pe_ix ix_tupH (pv 0) pe_int (fun _ _ => rfl)))) pa_nil (se rfl)) (he := se rfl) (hpl := na rfl))))
      pss_nil)
    (pss_cons (ps_if (pt_cmpR op_eq (pe_ix ix_tupH (pv 0) pe_int (fun _ _ => rfl)) pe_str (nomark _)) (pss_one (ps_ret (pe_callB call_lenL (by rfl) T.z_len PySem.boot_len (pa_cons (pe_comp rfl (N := ["part", "faces"]) (so := defScope (top 35)) (N' := ["face", "part"]) (k := 1) (fr := [0]) rfl rfl ⟨rfl, by decide +kernel, by decide +kernel, by decide +kernel, rfl, by decide +kernel, by decide +kernel⟩ (pi_listK (K := K) (pv 1)) (fun _ _ _ _ _ => (pg_name (i := 0) (show (["face", "part"] : List Str).Nodup by decide +kernel) rfl (Or.inl rfl))) (fun _ _ _ _ _ => (pts_one (pt_cmpR op_ge (pv 0) (pe_ix ix_tupH (pv 1) pe_int (fun _ _ => rfl)) (nomark _))))
      (fun _ _ _ _ _ => (pv 0))) pa_nil (se rfl)) (he := se rfl) (hpl := na rfl))))
      pss_nil)
    (pss_cons (ps_if (pt_cmpR op_eq (pe_ix ix_tupH (pv 0) pe_int (fun _ _ => rfl)) pe_str (nomark _)) (pss_one (ps_ret (pe_ix ix_listH (pv 1) (pe_un un_neg pe_int) (fun _ _ => rfl))))
      pss_nil)
    (pss_one (ps_ret (pe_callB (call_sum_lK (K := K)) (by rfl) T.z_sum rfl (pa_cons (pv 1) pa_nil (se rfl)) (he := se rfl) (hpl := na rfl))))))))), ?_⟩
    have sl := sizeLine_eq
    have fl := (ptF_row g fs hf).2
    have ml := mst_le g
    cases p with
    | num n =>
      simp only [ptV] at hq
      simp_all only [hq]
      exact kk _ (Same.refl _)
    | dice m s =>
      simp only [ptV] at hq
      simp_all only [hq]
      rw [if_neg (by decide +kernel), if_neg (by decide +kernel), if_neg (by decide +kernel), if_neg (by decide +kernel), if_neg (by decide +kernel)]
      exact ⟨fs, SqL.of hl, kk _ (Same.refl _)⟩
    | best n m s =>
      simp only [ptV] at hq
      simp_all only [hq]
      rw [if_neg (by decide +kernel)]
      refine ⟨_, SqL.of hl, by omega, fun a n1 => ⟨_, same_upd n1 _ _ hq, _, at1, _, rfl, _, SqL.of upd_same, fun b n2 => ⟨((Nm.srt fs).reverse.take n), SqL.of ?_, kk _ ((same_upd n1).trans (same_upd n2))⟩⟩⟩
      rw [upd_same, cut_take (by omega), List.map_take, Int.toNat_natCast]
    | worst n m s =>
      simp only [ptV] at hq
      simp_all only [hq]
      rw [if_neg (by decide +kernel), if_neg (by decide +kernel)]
      refine ⟨_, SqL.of hl, by omega, fun a n1 => ⟨_, same_upd n1 _ _ hq, _, at1, _, rfl, _, SqL.of upd_same, fun b n2 => ⟨((Nm.srt fs).take n), SqL.of ?_, kk _ ((same_upd n1).trans (same_upd n2))⟩⟩⟩
      rw [upd_same, cut_take (by omega), List.map_take, Int.toNat_natCast]
    | hits n m s =>
      simp only [ptV] at hq
      simp_all only [hq]
      rw [if_neg (by decide +kernel), if_neg (by decide +kernel), if_neg (by decide +kernel)]
      refine ⟨⟨_, SqL.of hl⟩, ?_⟩
      have S : Src (Itl K l) (Same H) fs.length (fun i x H H3 => H3 = H ∧ (List.map V.int fs)[i]? = some x) := by
        have := src_list (K := K) (a := l) (xs := List.map V.int fs) (Ok := Same H) (fun H2 s2 => SqL.of (s2 _ _ hl))
        rwa [List.length_map] at this
      refine comp_ints fs (fun x => if (n : Int) ≤ x then some x else none) S (fun _ _ _ _ h => h.1) (by omega) ?_ ?_
      · rintro i a x ea ⟨_, hx⟩ Y N y1 n1
        rw [List.getElem?_map, ea] at hx
        cases hx
        simp_all only [hq]
        refine ite2 (fun c => y1 _ (if_pos c)) (fun c => n1 (if_neg c))
      · intro D n1 n2
        refine ⟨_, upd_same, ?_⟩
        have e : (List.map V.int (fs.filterMap fun x => if (n : Int) ≤ x then some x else none)).length = (fs.filter fun x => decide ((n : Int) ≤ x)).length := by
          rw [List.length_map]
          clear hl hf fl kk S
          induction fs with
          | nil => rfl
          | cons a r ih =>
            by_cases c : (n : Int) ≤ a
            · simp [c, ih]
            · simp [c, ih]
        rw [e]
        exact kk _ (same_upd n2)
    | again n s =>
      simp only [ptV] at hq
      simp_all only [hq]
      rw [if_neg (by decide +kernel), if_neg (by decide +kernel), if_neg (by decide +kernel), if_neg (by decide +kernel)]
      obtain ⟨_, h⟩ := agF_row fs hf
      rcases h with ⟨x, y, rfl, _⟩ | ⟨x, rfl, _⟩
      · exact ⟨_, hl, _, rfl, kk _ (Same.refl _)⟩
      · exact ⟨_, hl, _, rfl, kk _ (Same.refl _)⟩
    | burst n s =>
      simp only [ptV] at hq
      simp_all only [hq]
      rw [if_neg (by decide +kernel), if_neg (by decide +kernel), if_neg (by decide +kernel), if_neg (by decide +kernel), if_neg (by decide +kernel)]
      exact ⟨fs, SqL.of hl, kk _ (Same.refl _)⟩
theorem sc_sides_product : FnScope ["part", "faces", "product", "face"] ["part", "faces"] (defScope (top 36)) := ⟨rfl, rfl, rfl, by decide +kernel, rfl, by decide +kernel, by decide +kernel⟩
theorem ok_sp (T : Txt K mg w.params q_NoShare q_NoTable q_TooMany q_OF_MANY q_OF_ONE) : Cal P w K mg base (CX1 P w) 1 "sides_product" ["part", "faces"] spSp := by
  refine T.d_sides_product.cal (fun _ _ _ _ _ _ us hl => match us, hl with | [_, _], _ => rfl) fun f fd F => F.okC sc_sides_product (fun vs H Q E h => ?_) (fun cdv A outer s H vs Q E hr h => ?_)
  · obtain ⟨_, _, _, _, rfl, _⟩ := h; rfl
  · obtain ⟨q, p, l, fs, rfl, hq, hl, g, hf, kk⟩ := h
    have nd := sc_sides_product.nd
    refine ⟨_, (pss_cons (ps_set (i := 2) nd rfl (Or.inl rfl) pe_int)
    (pss_cons (ps_for PassesOwn.never rfl (pi_listK (K := K) (pv 1)) (pg_name (i := 3) nd rfl (Or.inl rfl)) (pss_one (ps_set (i := 2) nd rfl (Or.inl rfl) (pe_op op_mulB (pv 2) (pe_ix ix_tupH (pv 0) (pe_un un_neg pe_int) (fun _ _ => rfl))))))
    (pss_one (ps_ret (pv 2))))), ?_⟩
    have fl := (ptF_row g fs hf).2
    have ml := mst_le g
    have l99 := lst_le g
    have s20 := (sd_pos g).2
    have e0 : 0 < fs.length → lst p = sd p := fun h => by
      cases p with
      | num n => rw [List.mem_singleton.mp hf] at h; cases h
      | _ => rfl
    simp_all only []
    refine ⟨⟨_, SqL.of hl⟩, for_src (src_list (Ok := fun H' => H = H') (fun H' e => by subst e; exact SqL.of hl)) (fun i σ H' => H = H' ∧ ∃ z, σ = [some (.ref q), some (.ref l), some (.int ((sd p ^ i : Nat) : Int)), z]) ⟨rfl, _, rfl⟩ (fun _ _ _ _ h => h.1) ?_ ?_⟩
    · rintro i x σ H' H'' hi ⟨rfl, z, rfl⟩ ⟨rfl, ex⟩
      rw [List.length_map] at hi
      have le := pow_small (e := i) s20 (by omega)
      have e1 := e0 (by omega)
      simp_all only []
      refine ⟨_, hq, _, last_p p, ?_⟩
      simp_all only []
      refine ⟨mulOkL (by omega) (by omega), ?_, _, rfl⟩
      rw [Nat.pow_succ, Int.natCast_mul, e1]
    · rintro σ H' ⟨rfl, z, rfl⟩
      rw [List.length_map]
      simp_all only []
      exact kk
theorem sc_part_throws : FnScope ["part"] ["part"] (defScope (top 37)) := ⟨rfl, rfl, rfl, by decide +kernel, rfl, by decide +kernel, by decide +kernel⟩
theorem ok_pt (T : Txt K mg w.params q_NoShare q_NoTable q_TooMany q_OF_MANY q_OF_ONE) : Cal P w K mg base (CX1 P w) 3 "part_throws" ["part"] spPt := by
  have c_part_faces : Cal P w K mg base (CX1 P w) 2 "part_faces" ["part"] spPf := ok_pf T
  have c_value_of : Cal P w K mg base (CX1 P w) 1 "value_of" ["part", "faces"] spVo := ok_vo T
  have c_sides_product : Cal P w K mg base (CX1 P w) 1 "sides_product" ["part", "faces"] spSp := ok_sp T
  refine T.d_part_throws.cal (fun _ _ _ _ _ _ us hl => match us, hl with | [_], _ => rfl) fun f fd F => F.okC sc_part_throws (fun vs H Q E h => ?_) (fun cdv A outer s H vs Q E hr h => ?_)
  · obtain ⟨_, _, rfl, _⟩ := h; rfl
  · obtain ⟨q, p, rfl, hq, g, hc, kk⟩ := h
    have nd := sc_part_throws.nd
    refine ⟨_, (pss_one (ps_ret (pe_comp rfl (N := ["part"]) (so := defScope (top 37)) (N' := ["faces", "part"]) (k := 1) (fr := [0]) rfl rfl ⟨rfl, by decide +kernel, by decide +kernel, by decide +kernel, rfl, by decide +kernel, by decide +kernel⟩ (pi_listK (K := K) (pe_cal c_part_faces (hr.mono (by decide)) rfl strictP.pass (pa_cons (pv 0) pa_nil (se rfl)) (he := se rfl) (hpl := na rfl))) (fun _ _ _ _ _ => (pg_name (i := 0) (show (["faces", "part"] : List Str).Nodup by decide +kernel) rfl (Or.inl rfl))) (fun _ _ _ _ _ => pts_nil)
      (fun _ _ _ _ _ => (pe_tupS (pa_cons (pv 0) (pa_cons (pe_cal c_value_of (hr.mono (by decide)) rfl strictP.pass (pa_cons (pv 1) (pa_cons (pv 0) pa_nil (se rfl)) (se rfl)) (he := se rfl) (hpl := na rfl)) (pa_cons (pe_cal c_sides_product (hr.mono (by decide)) rfl strictP.pass (pa_cons (pv 1) (pa_cons (pv 0) pa_nil (se rfl)) (se rfl)) (he := se rfl) (hpl := na rfl)) pa_nil (se rfl)) (se rfl)) (se rfl))))))), ?_⟩
    have sl := sizeLine_eq
    simp_all only [spPf]
    refine ⟨p, hq, g, hc, fun l H1 xs s1 hl al => ⟨⟨_, SqL.of hl⟩, ?_⟩⟩
    have lx := al.length
    rw [ptF_len] at lx
    refine comp_map (src_list (fun H2 s2 => SqL.of (s2 _ _ hl))) (fun _ _ _ _ h => by rw [h.1]; exact Same.refl _) (by omega) (fun i y H2 => ∀ f, (ptF p)[i]? = some f → TR (fun _ => none) H2 (f, val p f, sd p ^ f.length) y) (fun i y H2 H3 s3 h f e => (h f e).mono s3) ?_ ?_
    · rintro i x w0 H2 H3 Q2 hi s2 ⟨rfl, ex⟩ kq
      obtain ⟨fs, ef, b, rfl, hb⟩ := al.get ex
      have hf : fs ∈ ptF p := List.mem_of_getElem? ef
      have hq2 := s2 _ _ (s1 _ _ hq)
      have hb2 := s2 _ _ hb
      simp_all only [spVo, spSp]
      refine ⟨p, hq2, fs, hb2, g, hf, fun H4 s4 => ⟨p, s4 _ _ hq2, fs, s4 _ _ hb2, g, hf, by decide, fun a H5 s5 na e5 => kq _ _ (s4.trans s5) fun f e => ?_⟩⟩
      rw [ef] at e
      cases e
      exact ⟨a, b, rfl, e5, s5 _ _ (s4 _ _ hb2), rfl⟩
    · intro ys H2 s2 ly hy D n1 n2
      refine kk _ _ _ (s1.trans (s2.trans (same_upd n2))) upd_same ?_
      refine Al.of (by unfold ptR; rw [List.length_map, ptF_len]; omega) fun i y r e1 e2 => ?_
      unfold ptR at e2
      rw [List.getElem?_map] at e2
      obtain ⟨f, ef, rfl⟩ := Option.map_eq_some_iff.mp e2
      exact (hy i y e1 f ef).mono (same_upd n2)
theorem sc_throws_by_bottom : FnScope ["pool", "found", "part", "behind", "longer", "faces", "value", "bottom"] ["pool"] (defScope (top 38)) := ⟨rfl, rfl, rfl, by decide +kernel, rfl, by decide +kernel, by decide +kernel⟩
theorem ok_tb (T : Txt K mg w.params q_NoShare q_NoTable q_TooMany q_OF_MANY q_OF_ONE) : Cal P w K mg base (CX1 P w) 5 "throws_by_bottom" ["pool"] spTb := by
  have c_check_size : Cal P w K mg base (CX1 P w) 4 "check_size" ["pool"] spCk := ok_ck T
  have c_part_throws : Cal P w K mg base (CX1 P w) 3 "part_throws" ["part"] spPt := ok_pt T
  refine T.d_throws_by_bottom.cal (fun _ _ _ _ _ _ us hl => match us, hl with | [_], _ => rfl) fun f fd F => F.okC sc_throws_by_bottom (fun vs H Q E h => ?_) (fun cdv A outer s H vs Q E hr h => ?_)
  · obtain ⟨_, _, rfl, _⟩ := h; rfl
  · obtain ⟨a, ps, rfl, hp, g, l4, kk⟩ := h
    have nd := sc_throws_by_bottom.nd
    refine ⟨_, (pss_cons (ps_expr (pe_cal c_check_size (hr.mono (by decide)) rfl strictP.pass (pa_cons (pv 0) pa_nil (se rfl)) (he := se rfl) (hpl := na rfl)))
    (pss_cons (ps_set (i := 1) nd rfl (Or.inl rfl) (pe_lst (pa_cons (pe_tupS (pa_cons (pe_lst pa_nil) (pa_cons pe_int (pa_cons pe_int pa_nil (se rfl)) (se rfl)) (se rfl))) pa_nil (se rfl))))
    (pss_cons (ps_for PassesOwn.never rfl (pi_listK (K := K) (pv 0)) (pg_name (i := 2) nd rfl (Or.inl rfl)) (pss_cons (ps_set (i := 3) nd rfl (Or.inl rfl) (pe_cal c_part_throws (hr.mono (by decide)) rfl strictP.pass (pa_cons (pv 2) pa_nil (se rfl)) (he := se rfl) (hpl := na rfl)))
    (pss_cons (ps_set (i := 4) nd rfl (Or.inl rfl) (pe_lst pa_nil))
    (pss_cons (ps_for PassesOwn.never rfl (pi_listK (K := K) (pv 1)) (pg_tupK (K := K) (n := 3) rfl (pgs_cons (pg_name (i := 5) nd rfl (Or.inr rfl)) (pgs_cons (pg_name (i := 6) nd rfl (Or.inr rfl)) (pgs_cons (pg_name (i := 7) nd rfl (Or.inr rfl)) pgs_nil)))) (pss_one (ps_expr (pe_bm PySem.F.plainAttrs_list PySem.F.slot_list_extend PySem.F.type_list_extend mt_extend.r (pv 4) (pa_cons (pe_comp rfl (N := ["pool", "found", "part", "behind", "longer", "faces", "value", "bottom"]) (so := defScope (top 38)) (N' := ["more", "faces", "value", "bottom"]) (k := 1) (fr := [5, 6, 7]) rfl rfl ⟨rfl, by decide +kernel, by decide +kernel, by decide +kernel, rfl, by decide +kernel, by decide +kernel⟩ (pi_listK (K := K) (pv 3)) (fun _ _ _ _ _ => (pg_name (i := 0) (show (["more", "faces", "value", "bottom"] : List Str).Nodup by decide +kernel) rfl (Or.inl rfl))) (fun _ _ _ _ _ => pts_nil)
      (fun _ _ _ _ _ => (pe_tupS (pa_cons (pe_op op_cat (pv 1) (pe_ix ix_tupH (pv 0) pe_int (fun _ _ => rfl))) (pa_cons (pe_op op_add (pv 2) (pe_ix ix_tupH (pv 0) pe_int (fun _ _ => rfl))) (pa_cons (pe_op op_mulB (pv 3) (pe_ix ix_tupH (pv 0) pe_int (fun _ _ => rfl))) pa_nil (se rfl)) (se rfl)) (se rfl))))) pa_nil (se rfl))))))
    (pss_one (ps_set (i := 1) nd rfl (Or.inl rfl) (pv 4)))))))
    (pss_one (ps_ret (pv 1)))))), ?_⟩
    have sl := sizeLine_eq
    obtain ⟨vs, ha, ap⟩ := hp
    have lv := ap.length
    change tSeq _ _ _ [some (.ref a), none, none, none, none, none, none, none] H
    refine seq_gen (fun σ' H1 => H = H1 ∧ σ' = [some (.ref a), none, none, none, none, none, none, none]) ?_ (fun N hN => ?_)
    case refine_2 =>
      simp_all only [spCk]
      exact ⟨ps, ⟨vs, ha, ap⟩, g, hN _ _ ⟨rfl, rfl⟩⟩
    rintro _ _ ⟨rfl, rfl⟩
    change tSeq _ _ _ [some (.ref a), none, none, none, none, none, none, none] H
    refine seq_gen (fun σ' H1 => Same H H1 ∧ ∃ l xs, H1 l = some (.lst xs) ∧ Al (TR H H1) (thr []) xs ∧ σ' = [some (.ref a), some (.ref l), none, none, none, none, none, none]) ?_ (fun N hN => ?_)
    case refine_2 =>
      simp_all only []
      refine ⟨Nat.zero_le _, fun e0 m0 => ⟨by decide, fun t H1 s1 nt e1 => ⟨by decide, fun l n1 => hN _ _ ⟨(same_upd m0).trans (s1.trans (same_upd n1)), l, _, upd_same, .one ⟨t, e0, rfl, same_upd n1 _ _ e1, same_upd n1 _ _ (s1 _ _ upd_same), m0⟩, rfl⟩⟩⟩⟩
    rintro _ H1 ⟨sm1, l, xs, hl, al, rfl⟩
    change tSeq _ _ _ [some (.ref a), some (.ref l), none, none, none, none, none, none] H1
    refine seq_gen (fun σ' H2 => Same H H2 ∧ ∃ l xs, H2 l = some (.lst xs) ∧ Al (TR H H2) (thr ps) xs ∧ ∃ z1 z2 z3 z4 z5 z6, σ' = [some (.ref a), some (.ref l), z1, z2, z3, z4, z5, z6]) ?_ (fun N hN => ?_)
    case refine_2 =>
      simp_all only []
      refine ⟨⟨_, SqL.of (sm1 _ _ ha)⟩, for_src (src_list (Ok := Same H) (fun H2 s2 => SqL.of (s2 _ _ ha)))
        (fun i σ H2 => Same H H2 ∧ ∃ l xs z1 z2 z3 z4 z5 z6, H2 l = some (.lst xs) ∧ Al (TR H H2) (thr (ps.take i)) xs ∧ σ = [some (.ref a), some (.ref l), z1, z2, z3, z4, z5, z6])
        ⟨sm1, l, xs, _, _, _, _, _, _, hl, al, rfl⟩ (fun _ _ _ _ h => h.1) ?_ ?_⟩
      · clear hl al xs l
        rintro i x σ H2 H3 hi ⟨sm2, l, xs, z1, z2, z3, z4, z5, z6, hl, al, rfl⟩ ⟨rfl, ex⟩
        obtain ⟨p, ep, q, rfl, hq⟩ := ap.get ex
        obtain ⟨hip, ep'⟩ := List.getElem?_eq_some_iff.mp ep
        have hm : p ∈ ps := by rw [← ep']; exact List.getElem_mem hip
        obtain ⟨gp, c1, b1⟩ := goodL_one g hm
        have lx := al.length
        rw [thr_len] at lx
        have c0 := goodL_cnt g i
        have c2 := goodL_cnt g (i + 1)
        have es : thr (ps.take (i + 1)) = stp (thr (ps.take i)) p := by rw [take_snoc hip, ep', thr_snoc]
        have ec : prd ((ps.take (i + 1)).map cnt) = prd ((ps.take i).map cnt) * cnt p := by rw [take_snoc hip, ep', List.map_append, List.map_cons, List.map_nil, prd_snoc]
        rw [ec] at c2
        change tSeq _ _ _ [some (.ref a), some (.ref l), some (.ref q), z2, z3, z4, z5, z6] H3
        refine seq_gen (fun σ' H4 => Same H3 H4 ∧ ∃ b bs, H4 b = some (.lst bs) ∧ Al (TR (fun _ => none) H4) (ptR p) bs ∧ σ' = [some (.ref a), some (.ref l), some (.ref q), some (.ref b), z3, z4, z5, z6]) ?_ (fun N hN => ?_)
        case refine_2 =>
          simp_all only [spPt]
          exact ⟨p, sm2 _ _ hq, gp, c1, fun b H4 bs s4 hb ab => hN _ _ ⟨s4, b, bs, hb, ab, rfl⟩⟩
        rintro _ H4 ⟨sm4, b, bs, hb, ab, rfl⟩
        have lb := ab.length
        unfold ptR at lb
        rw [List.length_map, ptF_len] at lb
        have hl := sm4 _ _ hl
        have al := al.imp fun _ _ h => TR.mono sm4 h
        change tSeq _ _ _ [some (.ref a), some (.ref l), some (.ref q), some (.ref b), z3, z4, z5, z6] H4
        refine seq_gen (fun σ' H5 => Same H4 H5 ∧ ∃ m, H4 m = none ∧ H5 m = some (.lst []) ∧ σ' = [some (.ref a), some (.ref l), some (.ref q), some (.ref b), some (.ref m), z4, z5, z6]) ?_ (fun N hN => ?_)
        case refine_2 =>
          simp_all only []
          exact ⟨Nat.zero_le _, fun m nm => hN _ _ ⟨same_upd nm, m, nm, upd_same, rfl⟩⟩
        rintro _ H5 ⟨sm5, m, nm, hm5, rfl⟩
        change tSeq _ _ _ [some (.ref a), some (.ref l), some (.ref q), some (.ref b), some (.ref m), z4, z5, z6] H5
        refine seq_gen (fun σ' H6 => Same H4 H6 ∧ ∃ ys, H6 m = some (.lst ys) ∧ Al (TR H H6) (stp (thr (ps.take i)) p) ys ∧ ∃ z4 z5 z6, σ' = [some (.ref a), some (.ref l), some (.ref q), some (.ref b), some (.ref m), z4, z5, z6]) ?_ (fun N hN => ?_)
        case refine_2 =>
          simp_all only []
          refine ⟨⟨_, SqL.of (sm5 _ _ hl)⟩, for_src (src_list (Ok := Same H4) (fun H2 s2 => SqL.of (s2 _ _ hl)))
            (fun j σ H6 => Same H4 H6 ∧ ∃ ys z4 z5 z6, H6 m = some (.lst ys) ∧ ys.length = j * cnt p ∧ Al (TR H (hid H6 m)) (stp ((thr (ps.take i)).take j) p) ys ∧ σ = [some (.ref a), some (.ref l), some (.ref q), some (.ref b), some (.ref m), z4, z5, z6])
            ⟨sm5, [], _, _, _, hm5, by simp, trivial, rfl⟩ (fun _ _ _ _ h => h.1) ?_ ?_⟩
          · rintro j x σ H6 H7 hj ⟨sm6, ys, z4, z5, z6, hm6, ly, ay, rfl⟩ ⟨rfl, ex⟩
            obtain ⟨r, er, t, fq, rfl, ht, hfq, nfq⟩ := al.get ex
            have hr' := thr_row g.1 i (by omega) r (List.mem_of_getElem? er)
            have ht := sm6 _ _ ht
            have hfq := sm6 _ _ hfq
            have hb6 := sm6 _ _ hb
            have b0 := goodL_bot g i
            refine ⟨t, _, rfl, SqT.of ht, rfl, _, _, rfl, _, _, rfl, _, _, rfl, rfl, ?_⟩
            simp_all only [rExtend]
            refine ⟨.inl ⟨rfl, _, SqL.of hm6⟩, ⟨_, SqL.of hb6⟩, ?_⟩
            refine comp_map (src_list (fun H2 s2 => SqL.of (s2 _ _ hb6))) (fun _ _ _ _ h => by rw [h.1]; exact Same.refl _) (by omega) (fun k y H8 => ∀ u, (ptR p)[k]? = some u → TR H (hid H8 m) (r.1 ++ u.1, r.2.1 + u.2.1, r.2.2 * u.2.2) y) (fun k y H8 H9 s9 h u e => (h u e).mono (hid_mono s9)) ?_ ?_
            · rintro k x w0 H8 H9 Q2 hk s8 ⟨rfl, ex⟩ kq
              obtain ⟨u, eu, c, d, rfl, hc, hd, _⟩ := ab.get ex
              have hc8 := s8 _ _ (sm6 _ _ hc)
              have hd8 := s8 _ _ (sm6 _ _ hd)
              have hfq8 := s8 _ _ hfq
              have lu : u.1.length ≤ 7 := by
                have hu := List.mem_of_getElem? eu
                unfold ptR at hu
                obtain ⟨f, hf, rfl⟩ := List.mem_map.mp hu
                exact Nat.le_trans (ptF_row gp f hf).2 (mst_le gp)
              simp_all only [rCat, hc8, hd8, hfq8]
              refine ⟨by rw [List.length_map, List.length_map]; omega, fun a1 n1 => ?_⟩
              have s9 := same_upd (o := .lst (List.map V.int r.1 ++ List.map V.int u.1)) n1
              simp only [s9 _ _ hc8]
              refine ⟨_, rfl, _, at1, _, rfl, _, rfl, _, at2, _, rfl, mulOkL (by omega) (by omega), by decide, fun t2 H10 s10 nt2 e10 => kq _ _ (s9.trans s10) fun u' eu' => ?_⟩
              rw [eu] at eu'
              cases eu'
              have hm9 := s9 _ _ (s8 _ _ hm6)
              refine ⟨t2, a1, rfl, ?_, ?_, ?_⟩
              · rw [hid_ne (fun e => by rw [e, hm9] at nt2; cases nt2), e10, Int.natCast_mul]
              · rw [hid_ne (fun e => by rw [e, s8 _ _ hm6] at n1; cases n1), s10 _ _ upd_same, List.map_append]
              · exact none_of (sm2.trans (sm4.trans (sm6.trans s8))) n1
            · intro zs H8 s8 lz hz D n1 n2
              have hm8 := s8 _ _ hm6
              have jm : j * cnt p + cnt p ≤ prd ((ps.take i).map cnt) * cnt p := by
                rw [← Nat.succ_mul]
                exact Nat.mul_le_mul_right _ (by omega)
              refine ⟨_, same_upd n2 _ _ hm8, _, upd_same, by omega, ?_⟩
              have s9 : Same H7 (upd H8 D (.lst zs)) := s8.trans (same_upd n2)
              refine ⟨same_upd_of (sm6.trans s9) nm, _, upd_same, by rw [List.length_append, ly, lz, lb, Nat.succ_mul], ?_, _, rfl⟩
              rw [hid_hid, List.take_add_one, er]
              unfold stp
              rw [List.flatMap_append]
              refine Al.append (ay.imp fun _ _ h => h.mono (hid_mono s9)) ?_
              simp only [Option.toList, List.flatMap_cons, List.flatMap_nil, List.append_nil]
              refine Al.of (by rw [List.length_map]; unfold ptR; rw [List.length_map, ptF_len]; omega) fun k y v e1 e2 => ?_
              rw [List.getElem?_map] at e2
              obtain ⟨u, eu, rfl⟩ := Option.map_eq_some_iff.mp e2
              exact (hz _ _ e1 u eu).mono (hid_mono (same_upd n2))
          · rintro σ H6 ⟨sm6, ys, z4, z5, z6, hm6, ly, ay, rfl⟩
            refine hN _ _ ⟨sm6, ys, hm6, ?_, _, _, _, rfl⟩
            rw [lx, ← thr_len, List.take_of_length_le (Nat.le_refl _)] at ay
            exact ay.imp fun _ _ h => h.mono hid_sub
        rintro _ H6 ⟨sm6, ys, hm6, ay, z4, z5, z6, rfl⟩
        simp_all only []
        rw [es]
        exact ⟨sm2.trans (sm4.trans sm6), m, _, hm6, ay, rfl, _, rfl⟩
      · rintro σ H2 ⟨sm2, l, xs, z1, z2, z3, z4, z5, z6, hl, al, rfl⟩
        rw [lv, List.take_of_length_le (Nat.le_refl _)] at al
        exact hN _ _ ⟨sm2, l, xs, hl, al, _, _, _, _, _, _, rfl⟩
    rintro _ H2 ⟨sm2, l, xs, hl, al, z1, z2, z3, z4, z5, z6, rfl⟩
    simp_all only []
    exact kk _ _ _ sm2 hl al
theorem sc_throws : FnScope ["pool"] ["pool"] (defScope (top 39)) := ⟨rfl, rfl, rfl, by decide +kernel, rfl, by decide +kernel, by decide +kernel⟩
theorem ok_th (T : Txt K mg w.params q_NoShare q_NoTable q_TooMany q_OF_MANY q_OF_ONE) : Cal P w K mg base (CX1 P w) 6 "throws" ["pool"] spTh := by
  have c_throws_by_bottom : Cal P w K mg base (CX1 P w) 5 "throws_by_bottom" ["pool"] spTb := ok_tb T
  have c_share : Cal P w K mg base (CX1 P w) 2 "share" ["top", "bottom"] (spSh q_NoShare) := ok_sh T
  refine T.d_throws.cal (fun _ _ _ _ _ _ us hl => match us, hl with | [_], _ => rfl) fun f fd F => F.okC sc_throws (fun vs H Q E h => ?_) (fun cdv A outer s H vs Q E hr h => ?_)
  · obtain ⟨_, _, rfl, _⟩ := h; rfl
  · obtain ⟨a, ps, rfl, hp, g, l4, kk⟩ := h
    have nd := sc_throws.nd
    refine ⟨_, (pss_one (ps_ret (pe_comp rfl (N := ["pool"]) (so := defScope (top 39)) (N' := ["faces", "value", "bottom"]) (k := 3) (fr := []) rfl rfl ⟨rfl, by decide +kernel, by decide +kernel, by decide +kernel, rfl, by decide +kernel, by decide +kernel⟩ (pi_listK (K := K) (pe_cal c_throws_by_bottom (hr.mono (by decide)) rfl strictP.pass (pa_cons (pv 0) pa_nil (se rfl)) (he := se rfl) (hpl := na rfl))) (fun _ _ _ _ _ => (pg_tupK (K := K) (n := 3) rfl (pgs_cons (pg_name (i := 0) (show (["faces", "value", "bottom"] : List Str).Nodup by decide +kernel) rfl (Or.inl rfl)) (pgs_cons (pg_name (i := 1) (show (["faces", "value", "bottom"] : List Str).Nodup by decide +kernel) rfl (Or.inl rfl)) (pgs_cons (pg_name (i := 2) (show (["faces", "value", "bottom"] : List Str).Nodup by decide +kernel) rfl (Or.inl rfl)) pgs_nil))))) (fun _ _ _ _ _ => pts_nil)
      (fun _ _ _ _ _ => (pe_tupS (pa_cons (pv 0) (pa_cons (pv 1) (pa_cons (pe_cal c_share (hr.mono (by decide)) rfl strictP.pass (pa_cons pe_int (pa_cons (pv 2) pa_nil (se rfl)) (se rfl)) (he := se rfl) (hpl := na rfl)) pa_nil (se rfl)) (se rfl)) (se rfl))))))), ?_⟩
    have sl := sizeLine_eq
    simp_all only [spTb]
    refine ⟨ps, hp, g, l4, fun l H1 xs s1 hl al => ⟨⟨_, SqL.of hl⟩, ?_⟩⟩
    have lx := al.length
    rw [thr_len] at lx
    have c0 := g.2.1
    refine comp_map3 (K := K) (src_list (fun H2 s2 => SqL.of (s2 _ _ hl))) (fun i u v b' H2 => ∃ r q, (thr ps)[i]? = some r ∧ u = .ref q ∧ v = .int r.2.1 ∧ b' = .int (r.2.2 : Int) ∧ H2 q = some (.lst (List.map V.int r.1)) ∧ H q = none) ?_ (by omega)
      (fun i y H2 => ∀ r, (thr ps)[i]? = some r → WR H H2 r y) (fun i y H2 H3 s3 h r e => (h r e).mono s3) ?_ ?_
    · rintro i x H2 H3 hi s2 ⟨rfl, ex⟩
      obtain ⟨r, er, t, q, rfl, ht, hq, nq⟩ := al.get ex
      exact ⟨Same.refl _, t, _, _, _, rfl, SqT.of (s2 _ _ ht), r, q, er, rfl, rfl, rfl, s2 _ _ hq, nq⟩
    · rintro i u v b' H2 Q2 hi s2 ⟨r, q, er, rfl, rfl, rfl, hq, nq⟩ kq
      have hr' := thr_row g.1 ps.length (Nat.le_refl _) r (by rw [List.take_of_length_le (Nat.le_refl _)]; exact List.mem_of_getElem? er)
      have b0 := goodL_bot g ps.length
      simp_all only [spSh]
      refine ⟨Bt.of 1000000 (by omega) (by omega), fun z => absurd z (by omega), fun z t H3 s3 nt e3 => ⟨by decide, fun a2 H4 s4 na2 e4 => kq _ _ (s3.trans s4) fun r' er' => ?_⟩⟩
      rw [er] at er'
      cases er'
      rw [st_one (by omega), sb_one (by omega)] at e3
      refine ⟨a2, q, t, rfl, e4, s4 _ _ (s3 _ _ hq), ?_, s4 _ _ e3⟩
      exact nq
    · intro ys H2 s2 ly hy D n1 n2
      have nD : H1 D = none := none_of s2 n2
      refine kk D _ ys (s1.trans (s2.trans (same_upd n2))) (none_of s1 nD) upd_same ?_
      refine Al.of (by rw [thr_len]; omega) fun i y r e1 e2 => ?_
      obtain ⟨a2, q, t, rfl, h1, h2, h3, h4⟩ := hy i y e1 r e2
      have ne : ∀ {x : Addr} {o : HO}, H2 x = some o → x ≠ D := fun e z => by rw [z, n2] at e; cases e
      rw [hid_hid]
      exact ⟨a2, q, t, rfl, by rw [hid_ne (ne h1)]; exact h1, by rw [hid_ne (ne h2)]; exact h2, h3, by rw [hid_ne (ne h4)]; exact h4⟩
theorem sc_pool_table : FnScope ["pool", "found", "common", "part"] ["pool"] (defScope (top 40)) := ⟨rfl, rfl, rfl, by decide +kernel, rfl, by decide +kernel, by decide +kernel⟩
theorem ok_pl (T : Txt K mg w.params q_NoShare q_NoTable q_TooMany q_OF_MANY q_OF_ONE) : Cal P w K mg base (CX1 P w) 6 "pool_table" ["pool"] spPl := by
  have c_throws_by_bottom : Cal P w K mg base (CX1 P w) 5 "throws_by_bottom" ["pool"] spTb := ok_tb T
  have c_part_bottom : Cal P w K mg base (CX1 P w) 2 "part_bottom" ["part"] spBo := ok_bo T
  have c_table_of : Cal P w K mg base (CX1 P w) 4 "table_of" ["rows"] (spTO q_NoTable) := ok_to T
  refine T.d_pool_table.cal (fun _ _ _ _ _ _ us hl => match us, hl with | [_], _ => rfl) fun f fd F => F.okC sc_pool_table (fun vs H Q E h => ?_) (fun cdv A outer s H vs Q E hr h => ?_)
  · obtain ⟨_, _, rfl, _⟩ := h; rfl
  · obtain ⟨a, ps, rfl, hp, gl, l4, kk⟩ := h
    have nd := sc_pool_table.nd
    refine ⟨_, (pss_cons (ps_set (i := 1) nd rfl (Or.inl rfl) (pe_cal c_throws_by_bottom (hr.mono (by decide)) rfl strictP.pass (pa_cons (pv 0) pa_nil (se rfl)) (he := se rfl) (hpl := na rfl)))
    (pss_cons (ps_set (i := 2) nd rfl (Or.inr rfl) pe_int)
    (pss_cons (ps_for PassesOwn.never rfl (pi_listK (K := K) (pv 0)) (pg_name (i := 3) nd rfl (Or.inl rfl)) (pss_one (ps_set (i := 2) nd rfl (Or.inr rfl) (pe_op op_mulB (pv 2) (pe_cal c_part_bottom (hr.mono (by decide)) rfl strictP.pass (pa_cons (pv 3) pa_nil (se rfl)) (he := se rfl) (hpl := na rfl))))))
    (pss_one (ps_ret (pe_cal c_table_of (hr.mono (by decide)) rfl strictP.pass (pa_cons (pe_comp rfl (N := ["pool", "found", "common", "part"]) (so := defScope (top 40)) (N' := ["faces", "value", "bottom", "common"]) (k := 3) (fr := [2]) rfl rfl ⟨rfl, by decide +kernel, by decide +kernel, by decide +kernel, rfl, by decide +kernel, by decide +kernel⟩ (pi_listK (K := K) (pv 1)) (fun _ _ _ _ _ => (pg_tupK (K := K) (n := 3) rfl (pgs_cons (pg_name (i := 0) (show (["faces", "value", "bottom", "common"] : List Str).Nodup by decide +kernel) rfl (Or.inl rfl)) (pgs_cons (pg_name (i := 1) (show (["faces", "value", "bottom", "common"] : List Str).Nodup by decide +kernel) rfl (Or.inl rfl)) (pgs_cons (pg_name (i := 2) (show (["faces", "value", "bottom", "common"] : List Str).Nodup by decide +kernel) rfl (Or.inl rfl)) pgs_nil))))) (fun _ _ _ _ _ => pts_nil)
      (fun _ _ _ _ _ => (pe_tupS (pa_cons (pv 1) (pa_cons (pe_op op_fdivB (pv 3) (pv 2)) pa_nil (se rfl)) (se rfl))))) pa_nil (se rfl)) (he := se rfl) (hpl := na rfl))))))), ?_⟩
    have sl := sizeLine_eq
    obtain ⟨vs, ha, ap⟩ := id hp
    have lv := ap.length
    change tSeq _ _ _ [some (.ref a), none, none, none] H
    refine seq_gen (fun σ' H1 => Same H H1 ∧ ∃ l xs, H1 l = some (.lst xs) ∧ Al (TR H H1) (thr ps) xs ∧ σ' = [some (.ref a), some (.ref l), none, none]) ?_ (fun N hN => ?_)
    case refine_2 =>
      simp_all only [spTb]
      exact ⟨ps, hp, gl, l4, fun l H1 xs s1 hl al => hN _ _ ⟨s1, l, xs, hl, al, rfl⟩⟩
    rintro _ H1 ⟨sm1, l, xs, hl, al, rfl⟩
    have lx := al.length
    rw [thr_len] at lx
    change tSeq _ _ _ [some (.ref a), some (.ref l), none, none] H1
    refine seq_gen (fun σ' H2 => H1 = H2 ∧ σ' = [some (.ref a), some (.ref l), some (.int 1), none]) ?_ (fun N hN => ?_)
    case refine_2 =>
      simp_all only []
      exact hN _ _ ⟨rfl, rfl⟩
    rintro _ _ ⟨rfl, rfl⟩
    change tSeq _ _ _ [some (.ref a), some (.ref l), some (.int 1), none] H1
    refine seq_gen (fun σ' H2 => H1 = H2 ∧ ∃ z, σ' = [some (.ref a), some (.ref l), some (.int (prd (ps.map bot) : Int)), z]) ?_ (fun N hN => ?_)
    case refine_2 =>
      simp_all only []
      refine ⟨⟨_, SqL.of (sm1 _ _ ha)⟩, for_src (src_list (Ok := fun H' => H1 = H') (fun H' e => by subst e; exact SqL.of (sm1 _ _ ha))) (fun i σ H' => H1 = H' ∧ ∃ z, σ = [some (.ref a), some (.ref l), some (.int (prd ((ps.take i).map bot) : Int)), z]) ⟨rfl, _, rfl⟩ (fun _ _ _ _ h => h.1) ?_ ?_⟩
      · rintro i x σ H' H'' hi ⟨rfl, z, rfl⟩ ⟨rfl, ex⟩
        obtain ⟨p, ep, q, rfl, hq⟩ := ap.get ex
        obtain ⟨hip, ep'⟩ := List.getElem?_eq_some_iff.mp ep
        obtain ⟨gp, c1, b1⟩ := goodL_one gl (List.mem_of_getElem? ep)
        have b0 := goodL_bot gl i
        simp_all only [spBo]
        refine ⟨p, sm1 _ _ hq, gp, b1, mulOkL (by omega) (by omega), ?_, _, rfl⟩
        rw [take_snoc hip, ep', List.map_append, List.map_cons, List.map_nil, prd_snoc, Int.natCast_mul]
      · rintro σ H' ⟨rfl, z, rfl⟩
        rw [lv, List.take_of_length_le (Nat.le_refl _)]
        exact hN _ _ ⟨rfl, _, rfl⟩
    rintro _ _ ⟨rfl, z, rfl⟩
    have c0 := gl.2.1
    have bW := gl.2.2
    have rwt := rowW_thr gl.1
    have dv : ∀ r ∈ thr ps, 1 ≤ r.2.2 ∧ r.2.2 ≤ prd (ps.map bot) := fun r hr' => by
      have := thr_row gl.1 ps.length (Nat.le_refl _) r (by rw [List.take_of_length_le (Nat.le_refl _)]; exact hr')
      rw [List.take_of_length_le (Nat.le_refl _)] at this
      exact this.2
    have pp := plW_pos gl.1
    have pn := plW_ne gl.1
    have pln : (plW ps).length ≤ 1296 := by rw [plW_len]; exact c0
    have up : ∀ x ∈ plW ps, x.2 ≤ 10 ^ 12 := fun x hx => by
      rw [← rwt] at hx
      obtain ⟨r, hr', rfl⟩ := List.mem_map.mp hx
      have := Nat.div_le_self (prd (ps.map bot)) r.2.2
      show ((prd (ps.map bot) / r.2.2 : Nat) : Int) ≤ 10 ^ 12
      omega
    have nb : ¬ Nm.bad (plW ps) := fun b => by
      rcases b with ⟨x, hx, c⟩ | c
      · have := pp x hx; omega
      · rw [pos_all pp] at c; exact pn c
    generalize hW : prd (ps.map bot) = W at *
    simp_all only [spTO]
    refine ⟨⟨_, SqL.of hl⟩, ?_⟩
    refine comp_map3 (K := K) (src_list (fun H2 s2 => SqL.of (s2 _ _ hl))) (fun i u v b' H2 => ∃ r, (thr ps)[i]? = some r ∧ v = .int r.2.1 ∧ b' = .int (r.2.2 : Int)) ?_ (by omega)
      (fun i y H2 => ∀ r, (thr ps)[i]? = some r → Rep H2 (wrowD (r.2.1, ((W / r.2.2 : Nat) : Int))) y) (fun i y H2 H3 s3 h r e => (h r e).mono s3) ?_ ?_
    · rintro i x H2 H3 hi s2 ⟨rfl, ex⟩
      obtain ⟨r, er, t, q, rfl, ht, hq, nq⟩ := al.get ex
      exact ⟨Same.refl _, t, _, _, _, rfl, SqT.of (s2 _ _ ht), r, er, rfl, rfl⟩
    · rintro i u v b' H2 Q2 hi s2 ⟨r, er, rfl, rfl⟩ kq
      have hb := dv r (List.mem_of_getElem? er)
      simp_all only []
      refine ⟨CDivB.of (n := 64) (by omega) (Bt.of 1000000 (by omega) (by omega)), by decide, fun t H3 s3 nt e3 => kq _ _ s3 fun r' er' => ?_⟩
      rw [er] at er'
      cases er'
      rw [← Int.natCast_ediv] at e3
      exact rep_wrow.mpr ⟨t, rfl, e3⟩
    · intro ys H2 s2 ly hy D n1 n2
      have rp : Rep (upd H2 D (.lst ys)) (wrowsD (plW ps)) (.ref D) := by
        rw [← rwt]
        refine rep_lst.mpr ⟨D, ys, rfl, upd_same, RepL.of ?_ fun i dd v e1 e2 => ?_⟩
        · unfold rowW
          rw [List.length_map, List.length_map, ly, lx, ← thr_len]
        · unfold rowW at e1
          rw [List.getElem?_map, List.getElem?_map] at e1
          obtain ⟨p, ep, rfl⟩ := Option.map_eq_some_iff.mp e1
          obtain ⟨r, er, rfl⟩ := Option.map_eq_some_iff.mp ep
          exact (hy i v e2 r er).mono (same_upd n2)
      have sD : Same H (upd H2 D (.lst ys)) := sm1.trans (s2.trans (same_upd n2))
      exact ⟨plW ps, rp, pln, up, fun b => absurd b nb, fun _ p H' s' np r' => kk p H' (sD.trans s') (none_of sD np) r'⟩
theorem sc_common_bottom : FnScope ["several", "common", "one"] ["several"] (defScope (top 12)) := ⟨rfl, rfl, rfl, by decide +kernel, rfl, by decide +kernel, by decide +kernel⟩
theorem ok_cb (T : Txt K mg w.params q_NoShare q_NoTable q_TooMany q_OF_MANY q_OF_ONE) : Cal P w K mg base (CX1 P w) 2 "common_bottom" ["several"] spCB := by
  have c_common_divisor : Cal P w K mg base (CX1 P w) 1 "common_divisor" ["one", "other"] spCd := ok_cd T
  refine T.d_common_bottom.cal (fun _ _ _ _ _ _ us hl => match us, hl with | [_], _ => rfl) fun f fd F => F.okC sc_common_bottom (fun vs H Q E h => ?_) (fun cdv A outer s H vs Q E hr h => ?_)
  · obtain ⟨_, _, _, rfl, _⟩ := h; rfl
  · obtain ⟨v, ps, W, rfl, rp, W0, W1, hz, good, k⟩ := h
    have nd := sc_common_bottom.nd
    refine ⟨_, (pss_cons (ps_set (i := 1) nd rfl (Or.inl rfl) pe_int)
    (pss_cons (ps_for PassesOwn.never rfl (pi_listK (K := K) (pv 0)) (pg_name (i := 2) nd rfl (Or.inl rfl)) (pss_one (ps_set (i := 1) nd rfl (Or.inl rfl) (pe_op op_mulB (pe_op op_fdivB (pv 1) (pe_cal c_common_divisor (hr.mono (by decide)) rfl strictP.pass (pa_cons (pv 1) (pa_cons (pe_ix ix_tupH (pv 2) pe_int (fun _ _ => rfl)) pa_nil (se rfl)) (se rfl)) (he := se rfl) (hpl := na rfl))) (pe_ix ix_tupH (pv 2) pe_int (fun _ _ => rfl))))))
    (pss_one (ps_ret (pv 1))))), ?_⟩
    obtain ⟨l, xs, rfl, hl, rl⟩ := rep_lst.mp rp
    have len := rl.length
    rw [List.length_map] at len
    simp_all only []
    refine ⟨⟨_, SqL.of hl⟩, for_src (src_list (Ok := fun H2 => H2 = H) (fun H2 e => by rw [e]; exact SqL.of hl)) (fun i σ H2 => H2 = H ∧ ∃ B z, σ = [some (.ref l), some (.int B), z] ∧ 0 < B ∧ B ∣ W ∧ ∀ p ∈ ps.take i, p.2 ∣ B)
      ⟨rfl, 1, none, rfl, by decide, Int.one_dvd _, by simp⟩ (fun _ _ _ _ h => h.1) ?_ ?_⟩
    · rintro i x σ H2 H3 hi ⟨rfl, B, z, rfl, B0, bB, dv⟩ ⟨rfl, hx⟩
      obtain ⟨d, ed, rd⟩ := rl.get hx
      obtain ⟨p, ep, rfl⟩ := List.getElem?_map .. ▸ ed |> Option.map_eq_some_iff.mp
      obtain ⟨a, rfl, ha⟩ := rep_wrow.mp rd
      obtain ⟨p0, bp⟩ := good p (List.mem_of_getElem? ep)
      have g0 := Nm.g_pos (a := B) (show p.2 ≠ 0 by omega)
      have p1 : p.2 ≤ 1000000 := Int.le_trans (Int.le_of_dvd W0 bp) W1
      have gb : Bt 20 (Nm.g B p.2) := Bt.of 1000000 (by omega) (by have := Nm.g_le (a := B) p0; omega)
      simp_all only [spCd, ha]
      have e : B / Nm.g B p.2 * p.2 = B * (p.2 / Nm.g B p.2) := Nm.low_cross B p.2
      refine ⟨CDivB.of g0 gb, mulOkR (by omega) (by omega), ?_, ?_, ?_⟩
      · exact Int.mul_pos (Int.ediv_pos_of_pos_of_dvd B0 (Nm.g_nn _ _) (Nm.g_dvd_l _ _)) p0
      · exact lcm_dvd' bB bp
      · intro q hq
        rw [List.take_add_one, ep] at hq
        rcases List.mem_append.mp hq with hq | hq
        · rw [e]
          exact Int.dvd_trans (dv q hq) (Int.dvd_mul_right _ _)
        · have : q = p := by simpa using hq
          subst this
          exact Int.dvd_mul_left _ _
    · rintro σ H2 ⟨rfl, B, z, rfl, B0, bB, dv⟩
      simp_all only []
      exact k B B0 bB (fun p hp => dv p (by rw [List.take_of_length_le (by omega)]; exact hp))
theorem sc_bottom_of : FnScope ["table"] ["table"] (defScope (top 18)) := ⟨rfl, rfl, rfl, by decide +kernel, rfl, by decide +kernel, by decide +kernel⟩
theorem ok_bto (T : Txt K mg w.params q_NoShare q_NoTable q_TooMany q_OF_MANY q_OF_ONE) : Cal P w K mg base (CX1 P w) 3 "bottom_of" ["table"] spBto := by
  have c_common_bottom : Cal P w K mg base (CX1 P w) 2 "common_bottom" ["several"] spCB := ok_cb T
  refine T.d_bottom_of.cal (fun _ _ _ _ _ _ us hl => match us, hl with | [_], _ => rfl) fun f fd F => F.okC sc_bottom_of (fun vs H Q E h => ?_) (fun cdv A outer s H vs Q E hr h => ?_)
  · obtain ⟨_, _, _, rfl, _⟩ := h; rfl
  · obtain ⟨v, rows, W, rfl, rp, ⟨W0, W1, hz, good⟩, k⟩ := h
    have nd := sc_bottom_of.nd
    refine ⟨_, (pss_one (ps_ret (pe_cal c_common_bottom (hr.mono (by decide)) rfl strictP.pass (pa_cons (pe_comp rfl (N := ["table"]) (so := defScope (top 18)) (N' := ["value", "part"]) (k := 2) (fr := []) rfl rfl ⟨rfl, by decide +kernel, by decide +kernel, by decide +kernel, rfl, by decide +kernel, by decide +kernel⟩ (pi_listK (K := K) (pv 0)) (fun _ _ _ _ _ => (pg_tupK (K := K) (n := 2) rfl (pgs_cons (pg_name (i := 0) (show (["value", "part"] : List Str).Nodup by decide +kernel) rfl (Or.inl rfl)) (pgs_cons (pg_name (i := 1) (show (["value", "part"] : List Str).Nodup by decide +kernel) rfl (Or.inl rfl)) pgs_nil)))) (fun _ _ _ _ _ => pts_nil)
      (fun _ _ _ _ _ => (pv 1))) pa_nil (se rfl)) (he := se rfl) (hpl := na rfl)))), ?_⟩
    obtain ⟨l, xs, rfl, hl, rl⟩ := rep_lst.mp rp
    have len := rl.length
    rw [List.length_map] at len
    simp_all only []
    refine ⟨⟨_, SqL.of hl⟩, ?_⟩
    refine comp_map2 (src_list (fun H2 s2 => s2.seq (SqL.of hl))) (fun i a b H3 => ∀ r, rows[i]? = some r → Rep H3 (wrowD r.2) b) ?_ (by rw [sizeLine_eq]; omega) (fun i y H2 => ∀ r, rows[i]? = some r → Rep H2 (wrowD r.2) y) (fun i y H2 H3 s3 h r e => (h r e).mono s3) ?_ ?_
    · rintro i x H2 H3 hi s2 ⟨rfl, hx⟩
      obtain ⟨d, ed, rd⟩ := rl.get hx
      rw [List.getElem?_map] at ed
      obtain ⟨r, er, rfl⟩ := Option.map_eq_some_iff.mp ed
      obtain ⟨p, q, rfl, hp, hq⟩ := rep_row.mp rd
      refine ⟨Same.refl _, p, _, _, rfl, SqT.of (s2 _ _ hp), fun r' er' => ?_⟩
      rw [er] at er'
      cases er'
      exact rep_wrow.mpr ⟨q, rfl, s2 _ _ hq⟩
    · intro i a b H3 Q2 hi s3 it kq
      simp_all only []
      exact kq _ _ (Same.refl _) it
    · intro ys H2 s2 ly hy D n1 n2
      simp_all only [spCB]
      have rp2 : Rep (upd H2 D (.lst ys)) (wrowsD (rows.map (·.2))) (.ref D) := by
        refine rep_lst.mpr ⟨D, ys, rfl, upd_same, RepL.of ?_ fun i dd v e1 e2 => ?_⟩
        · rw [List.length_map, List.length_map, ly, len]
        · rw [List.getElem?_map, List.getElem?_map] at e1
          obtain ⟨p, ep, rfl⟩ := Option.map_eq_some_iff.mp e1
          obtain ⟨r, er, rfl⟩ := Option.map_eq_some_iff.mp ep
          exact (hy i v e2 r er).mono (same_upd n2)
      refine ⟨_, rp2, W, W0, W1, by rw [List.length_map]; exact hz, fun p hp => ?_, fun B B0 bB dv => ?_⟩
      · obtain ⟨r, hr', rfl⟩ := List.mem_map.mp hp
        exact ⟨(good r hr').1, (good r hr').2.1⟩
      · refine k B _ (s2.trans (same_upd n2)) ⟨B0, bB, fun r hr' => dv _ (List.mem_map.mpr ⟨r, hr', rfl⟩)⟩
theorem sc_weighed : FnScope ["table", "bottom"] ["table", "bottom"] (defScope (top 19)) := ⟨rfl, rfl, rfl, by decide +kernel, rfl, by decide +kernel, by decide +kernel⟩
theorem ok_we (T : Txt K mg w.params q_NoShare q_NoTable q_TooMany q_OF_MANY q_OF_ONE) : Cal P w K mg base (CX1 P w) 1 "weighed" ["table", "bottom"] spWe := by
  refine T.d_weighed.cal (fun _ _ _ _ _ _ us hl => match us, hl with | [_, _], _ => rfl) fun f fd F => F.okC sc_weighed (fun vs H Q E h => ?_) (fun cdv A outer s H vs Q E hr h => ?_)
  · obtain ⟨_, _, _, _, rfl, _⟩ := h; rfl
  · obtain ⟨v, rows, W, B, rfl, rp, gr, gb, k⟩ := h
    have b1 := goodB_le gr gb
    obtain ⟨W0, W1, hz, good⟩ := id gr
    obtain ⟨B0, bB, dv⟩ := gb
    have nd := sc_weighed.nd
    refine ⟨_, (pss_one (ps_ret (pe_comp rfl (N := ["table", "bottom"]) (so := defScope (top 19)) (N' := ["value", "part", "bottom"]) (k := 2) (fr := [1]) rfl rfl ⟨rfl, by decide +kernel, by decide +kernel, by decide +kernel, rfl, by decide +kernel, by decide +kernel⟩ (pi_listK (K := K) (pv 0)) (fun _ _ _ _ _ => (pg_tupK (K := K) (n := 2) rfl (pgs_cons (pg_name (i := 0) (show (["value", "part", "bottom"] : List Str).Nodup by decide +kernel) rfl (Or.inl rfl)) (pgs_cons (pg_name (i := 1) (show (["value", "part", "bottom"] : List Str).Nodup by decide +kernel) rfl (Or.inl rfl)) pgs_nil)))) (fun _ _ _ _ _ => pts_nil)
      (fun _ _ _ _ _ => (pe_tupS (pa_cons (pv 0) (pa_cons (pe_op op_mulB (pe_ix ix_tupH (pv 1) pe_int (fun _ _ => rfl)) (pe_op op_fdivB (pv 2) (pe_ix ix_tupH (pv 1) pe_int (fun _ _ => rfl)))) pa_nil (se rfl)) (se rfl))))))), ?_⟩
    obtain ⟨l, xs, rfl, hl, rl⟩ := rep_lst.mp rp
    have len := rl.length
    rw [List.length_map] at len
    simp_all only []
    refine ⟨⟨_, SqL.of hl⟩, ?_⟩
    refine comp_map2 (src_list (fun H2 s2 => s2.seq (SqL.of hl))) (fun i a b H3 => ∃ r, rows[i]? = some r ∧ a = .int r.1 ∧ Rep H3 (wrowD r.2) b) ?_ (by rw [sizeLine_eq]; omega) (fun i y H2 => ∀ r, rows[i]? = some r → Rep H2 (wrowD (r.1, r.2.1 * (B / r.2.2))) y) (fun i y H2 H3 s3 h r e => (h r e).mono s3) ?_ ?_
    · rintro i x H2 H3 hi s2 ⟨rfl, hx⟩
      obtain ⟨d, ed, rd⟩ := rl.get hx
      rw [List.getElem?_map] at ed
      obtain ⟨r, er, rfl⟩ := Option.map_eq_some_iff.mp ed
      obtain ⟨p, q, rfl, hp, hq⟩ := rep_row.mp rd
      exact ⟨Same.refl _, p, _, _, rfl, SqT.of (s2 _ _ hp), r, er, rfl, rep_wrow.mpr ⟨q, rfl, s2 _ _ hq⟩⟩
    · rintro i a b H3 Q2 hi s3 ⟨r, er, rfl, rb⟩ kq
      obtain ⟨q, rfl, hq⟩ := rep_wrow.mp rb
      obtain ⟨g3, g2, g0, g1⟩ := good r (List.mem_of_getElem? er)
      have r1 : r.2.2 ≤ 1000000 := Int.le_trans (Int.le_of_dvd W0 g2) W1
      simp_all only [hq]
      refine ⟨CDivB.of (n := 20) g3 (Bt.of 1000000 (by omega) (by omega)), mulOkL (by omega) (by omega), by decide, fun p4 H4 s4 _ e4 => kq _ _ s4 fun r' er' => ?_⟩
      rw [er] at er'
      cases er'
      exact rep_wrow.mpr ⟨p4, rfl, e4⟩
    · intro ys H2 s2 ly hy D n1 n2
      refine k _ _ (s2.trans (same_upd n2)) (rep_lst.mpr ⟨D, ys, rfl, upd_same, RepL.of ?_ fun i dd v e1 e2 => ?_⟩)
      · rw [List.length_map, ly]
        unfold Nm.weigh
        rw [List.length_map, len]
      · unfold Nm.weigh at e1
        rw [List.getElem?_map, List.getElem?_map] at e1
        obtain ⟨p, ep, rfl⟩ := Option.map_eq_some_iff.mp e1
        obtain ⟨r, er, rfl⟩ := Option.map_eq_some_iff.mp ep
        exact (hy i v e2 r er).mono (same_upd n2)
theorem sc_added : FnScope ["one", "other", "first_bottom", "second_bottom", "second_rows", "weights", "first", "first_weight", "second", "second_weight", "value"] ["one", "other"] (defScope (top 20)) := ⟨rfl, rfl, rfl, by decide +kernel, rfl, by decide +kernel, by decide +kernel⟩
theorem ok_add (T : Txt K mg w.params q_NoShare q_NoTable q_TooMany q_OF_MANY q_OF_ONE) : Cal P w K mg base (CX1 P w) 4 "added" ["one", "other"] spAdd := by
  have c_bottom_of : Cal P w K mg base (CX1 P w) 3 "bottom_of" ["table"] spBto := ok_bto T
  have c_weighed : Cal P w K mg base (CX1 P w) 1 "weighed" ["table", "bottom"] spWe := ok_we T
  have c_table_by_weights : Cal P w K mg base (CX1 P w) 3 "table_by_weights" ["weights", "bottom"] spTW := ok_tw T
  refine T.d_added.cal (fun _ _ _ _ _ _ us hl => match us, hl with | [_, _], _ => rfl) fun f fd F => F.okC sc_added (fun vs H Q E h => ?_) (fun cdv A outer s H vs Q E hr h => ?_)
  · obtain ⟨_, _, _, _, _, _, rfl, _⟩ := h; rfl
  · obtain ⟨v, v', r1, r2, W1, W2, rfl, rp1, rp2, good1, good2, hz, k⟩ := h
    have hz1 := good1.2.2.1
    have hz2 := good2.2.2.1
    have nd := sc_added.nd
    refine ⟨_, (pss_cons (ps_set (i := 2) nd rfl (Or.inl rfl) (pe_cal c_bottom_of (hr.mono (by decide)) rfl strictP.pass (pa_cons (pv 0) pa_nil (se rfl)) (he := se rfl) (hpl := na rfl)))
    (pss_cons (ps_set (i := 3) nd rfl (Or.inl rfl) (pe_cal c_bottom_of (hr.mono (by decide)) rfl strictP.pass (pa_cons (pv 1) pa_nil (se rfl)) (he := se rfl) (hpl := na rfl)))
    (pss_cons (ps_set (i := 4) nd rfl (Or.inl rfl) (pe_cal c_weighed (hr.mono (by decide)) rfl strictP.pass (pa_cons (pv 1) (pa_cons (pv 3) pa_nil (se rfl)) (se rfl)) (he := se rfl) (hpl := na rfl)))
    (pss_cons (ps_set (i := 5) nd rfl (Or.inl rfl) pe_dnewK)
    (pss_cons (ps_for PassesOwn.never rfl (pi_listK (K := K) (pe_cal c_weighed (hr.mono (by decide)) rfl strictP.pass (pa_cons (pv 0) (pa_cons (pv 2) pa_nil (se rfl)) (se rfl)) (he := se rfl) (hpl := na rfl))) (pg_tupK (K := K) (n := 2) rfl (pgs_cons (pg_name (i := 6) nd rfl (Or.inl rfl)) (pgs_cons (pg_name (i := 7) nd rfl (Or.inl rfl)) pgs_nil))) (pss_one (ps_for PassesOwn.never rfl (pi_listK (K := K) (pv 4)) (pg_tupK (K := K) (n := 2) rfl (pgs_cons (pg_name (i := 8) nd rfl (Or.inl rfl)) (pgs_cons (pg_name (i := 9) nd rfl (Or.inl rfl)) pgs_nil))) (pss_cons (ps_set (i := 10) nd rfl (Or.inl rfl) (pe_op op_add (pv 6) (pv 8)))
    (pss_one (ps_dput (hu_of hr) (pv 5) (pv 10) (pe_op op_add (pe_dget2 (hu_of hr) (pv 5) (pv 10) pe_int (by first | exact ⟨rfl, rfl, rfl⟩ | constructor <;> rfl)) (pe_op op_mulB (pv 7) (pv 9))) rfl))))))
    (pss_one (ps_ret (pe_cal c_table_by_weights (hr.mono (by decide)) rfl strictP.pass (pa_cons (pv 5) (pa_cons (pe_op op_mulB (pv 2) (pv 3)) pa_nil (se rfl)) (se rfl)) (he := se rfl) (hpl := na rfl))))))))), ?_⟩
    simp_all only [spBto, spWe, spTW]
    refine ⟨r1, rp1, W1, good1, fun B1 H1 s1 gb1 => ⟨r2, rp2.mono s1, W2, good2, fun B2 H2 s2 gb2 => ?_⟩⟩
    refine ⟨r2, rp2.mono (s1.trans s2), W2, good2, gb2, fun u2 H3 s3 ru2 => fun d nd3 => ?_⟩
    have s13 := s1.trans (s2.trans s3)
    refine ⟨r1, (rp1.mono s13).mono (same_upd nd3), W1, good1, gb1, fun u1 H4 s4 ru1 => ?_⟩
    have ru2 := (ru2.mono (same_upd nd3)).mono s4
    have c1 := goodB_le good1 gb1
    have c2 := goodB_le good2 gb2
    have d1 := gb1.1
    have d2 := gb2.1
    have gw1 := good_weigh good1 gb1
    have gw2 := good_weigh good2 gb2
    have l1 : (Nm.weigh r1 B1).length = r1.length := by unfold Nm.weigh; rw [List.length_map]
    have l2 : (Nm.weigh r2 B2).length = r2.length := by unfold Nm.weigh; rw [List.length_map]
    have hd4 : H4 d = some (.dK (enc [])) := s4 _ _ upd_same
    have so := fun Y => same_over (Y := Y) nd3 s4
    clear s4
    generalize eas : Nm.weigh r1 B1 = as at *
    generalize ebs : Nm.weigh r2 B2 = bs at *
    obtain ⟨a1, xs1, rfl, ha1, rl1⟩ := rep_lst.mp ru1
    obtain ⟨a2, xs2, rfl, ha2, rl2⟩ := rep_lst.mp ru2
    have n1 := rl1.length
    have n2 := rl2.length
    rw [List.length_map] at n1 n2
    have q1 : ∀ o, SqL K (upd H4 d o) a1 xs1 := fun o => SqL.of ((sqs_dK hd4 _ _).2 ha1)
    have q2 : ∀ o, SqL K (upd H4 d o) a2 xs2 := fun o => SqL.of ((sqs_dK hd4 _ _).2 ha2)
    refine ⟨_, rfl, ⟨_, SqL.of ha1⟩, for_src (src_list (Ok := fun H' => ∃ o, H' = upd H4 d o) (fun H' ⟨o, e⟩ => by rw [e]; exact q1 o))
      (fun i σ H' => H' = upd H4 d (.dK (enc (Nm.addAll [] (Nm.prs (as.take i) bs)))) ∧ ∃ z1 z2 z3 z4 z5, σ = [some v, some v', some (V.int B1), some (V.int B2), some (V.ref a2), some (V.ref d), z1, z2, z3, z4, z5])
      ⟨by rw [List.take_zero]; exact (upd_at hd4).symm, _, _, _, _, _, rfl⟩ (fun _ _ _ _ h => ⟨_, h.1⟩) ?_ ?_⟩
    · rintro i x σ H' H'' hi ⟨rfl, z1, z2, z3, z4, z5, rfl⟩ ⟨rfl, hx⟩
      obtain ⟨dd, ed, rd⟩ := rl1.get hx
      rw [List.getElem?_map] at ed
      obtain ⟨a, ea, rfl⟩ := Option.map_eq_some_iff.mp ed
      obtain ⟨p, rfl, hp⟩ := rep_wrow.mp rd
      have hp' : ∀ o, SqT K (upd H4 d o) p [V.int a.1, V.int a.2] := fun o => SqT.of ((sqs_dK hd4 _ _).1 hp)
      refine ⟨p, _, rfl, hp' _, rfl, ?_⟩
      simp_all only []
      refine ⟨⟨_, q2 _⟩, for_src (src_list (Ok := fun H' => ∃ o, H' = upd H4 d o) (fun H' ⟨o, e⟩ => by rw [e]; exact q2 o))
        (fun j σ H' => H' = upd H4 d (.dK (enc (Nm.addAll [] (Nm.prs (as.take i) bs ++ (bs.take j).map fun b => (a.1 + b.1, a.2 * b.2))))) ∧ ∃ z3 z4 z5, σ = [some v, some v', some (V.int B1), some (V.int B2), some (V.ref a2), some (V.ref d), some (.int a.1), some (.int a.2), z3, z4, z5])
        ⟨by simp, _, _, _, rfl⟩ (fun _ _ _ _ h => ⟨_, h.1⟩) ?_ ?_⟩
      · rintro j y σ H' H'' hj ⟨rfl, z3, z4, z5, rfl⟩ ⟨rfl, hy⟩
        obtain ⟨dd, ed, rd⟩ := rl2.get hy
        rw [List.getElem?_map] at ed
        obtain ⟨b, eb, rfl⟩ := Option.map_eq_some_iff.mp ed
        obtain ⟨pb, rfl, hpb⟩ := rep_wrow.mp rd
        refine ⟨pb, _, rfl, SqT.of ((sqs_dK hd4 _ _).1 hpb), rfl, ?_⟩
        simp_all only []
        have m1 := gw1 a (List.mem_of_getElem? ea)
        have m2 := gw2 b (List.mem_of_getElem? eb)
        have ndk : (Nm.keys (Nm.addAll [] (Nm.prs (as.take i) bs ++ (bs.take j).map fun b => (a.1 + b.1, a.2 * b.2)))).Nodup := Nm.nodup_addAll (by simp [Nm.keys])
        have len : (Nm.addAll [] (Nm.prs (as.take i) bs ++ (bs.take j).map fun b => (a.1 + b.1, a.2 * b.2))).length < sizeLine := by
          have h1 := Nm.len_addAll (Nm.prs (as.take i) bs ++ (bs.take j).map fun b => (a.1 + b.1, a.2 * b.2)) []
          rw [List.length_append, Nm.prs_len, List.length_map, List.length_take, List.length_take] at h1
          have h2 : min i as.length * bs.length ≤ as.length * bs.length := Nat.mul_le_mul (Nat.min_le_right _ _) (Nat.le_refl _)
          rw [← l1, ← l2] at hz
          rw [← l1] at hz1
          rw [← l2] at hz2
          rw [sizeLine_eq]
          simp only [List.length_nil] at h1
          omega
        obtain ⟨o, ho, eo⟩ := dget_zero (H := upd H4 d (.dK (enc (Nm.addAll [] (Nm.prs (as.take i) bs ++ (bs.take j).map fun b => (a.1 + b.1, a.2 * b.2)))))) (a.1 + b.1) (.inl upd_same)
        refine ⟨.inl ⟨_, .inl upd_same⟩, o, ho, ?_⟩
        rw [eo]
        simp_all only []
        refine ⟨mulOkL (by omega) (by omega), _, dput_enc _ _ upd_same ndk len, ?_, ?_⟩
        · rw [upd_upd, List.take_add_one, eb, Option.toList_some, List.map_append, ← List.append_assoc]
          rw [List.map_cons, List.map_nil, Nm.addAll_snoc]
          rfl
        · exact ⟨_, rfl⟩
      · rintro σ H' ⟨rfl, z3, z4, z5, rfl⟩
        refine ⟨?_, _, _, _, _, _, rfl⟩
        rw [List.take_of_length_le (l := bs) (by omega), Nm.prs_take bs ea]
    · rintro σ H' ⟨rfl, z1, z2, z3, z4, z5, rfl⟩
      simp_all only [spTW]
      rw [List.take_of_length_le (by omega)]
      have bb : Bt 5000 (B1 * B2) := (Bt.mul (m := 64) (n := 64) (Bt.of 1000000 (by omega) (by omega)) (Bt.of 1000000 (by omega) (by omega))).mono (by decide)
      refine ⟨mulOkL (by omega) (by omega), _, upd_same, Nm.nodup_addAll (by simp [Nm.keys]), ?_, Int.mul_ne_zero (by omega) (by omega), bb, fun u H5 s5 nu ru => ?_⟩
      · have h1 := Nm.len_both as bs
        rw [l1, l2] at h1
        exact Nat.le_trans h1 (Nat.le_trans hz (by decide))
      · exact k B1 B2 u H5 ((s13.trans (so _)).trans s5) (none_of (s13.trans (so _)) nu) gb1 gb2 (by rw [eas, ebs]; exact ru)
theorem sc_plus : FnScope ["one", "other"] ["one", "other"] (defScope (top 11)) := ⟨rfl, rfl, rfl, by decide +kernel, rfl, by decide +kernel, by decide +kernel⟩
theorem ok_plus (T : Txt K mg w.params q_NoShare q_NoTable q_TooMany q_OF_MANY q_OF_ONE) : Cal P w K mg base (CX1 P w) 3 "plus" ["one", "other"] spPlus := by
  have c_share : Cal P w K mg base (CX1 P w) 2 "share" ["top", "bottom"] (spSh q_NoShare) := ok_sh T
  refine T.d_plus.cal (fun _ _ _ _ _ _ us hl => match us, hl with | [_, _], _ => rfl) fun f fd F => F.okC sc_plus (fun vs H Q E h => ?_) (fun cdv A outer s H vs Q E hr h => ?_)
  · obtain ⟨_, _, _, _, _, _, rfl, _⟩ := h; rfl
  · obtain ⟨p, q, a, b, c, d, rfl, hp, hq, bb, bd, nz, k⟩ := h
    have nd := sc_plus.nd
    refine ⟨_, (pss_one (ps_ret (pe_cal c_share (hr.mono (by decide)) rfl strictP.pass (pa_cons (pe_op op_add (pe_op op_mulB (pe_ix ix_tupH (pv 0) pe_int (fun _ _ => rfl)) (pe_ix ix_tupH (pv 1) pe_int (fun _ _ => rfl))) (pe_op op_mulB (pe_ix ix_tupH (pv 1) pe_int (fun _ _ => rfl)) (pe_ix ix_tupH (pv 0) pe_int (fun _ _ => rfl)))) (pa_cons (pe_op op_mulB (pe_ix ix_tupH (pv 0) pe_int (fun _ _ => rfl)) (pe_ix ix_tupH (pv 1) pe_int (fun _ _ => rfl))) pa_nil (se rfl)) (se rfl)) (he := se rfl) (hpl := na rfl)))), ?_⟩
    simp only [Pr] at hp hq
    simp_all only [spSh, hp, hq]
    refine ⟨?_, ?_, bb.mulOk bd, ?_⟩
    · exact IntMulOk.of_right (Nat.le_trans bd.bits (by decide))
    · exact IntMulOk.of_right (Nat.le_trans bb.bits (by decide))
    · exact ⟨(bb.mul bd).mono (by decide), fun z => absurd z nz, fun _ r H' s' _ e => k r H' s' e⟩
theorem sc_mean : FnScope ["table", "bottom"] ["table"] (defScope (top 21)) := ⟨rfl, rfl, rfl, by decide +kernel, rfl, by decide +kernel, by decide +kernel⟩
theorem ok_mean (T : Txt K mg w.params q_NoShare q_NoTable q_TooMany q_OF_MANY q_OF_ONE) : Cal P w K mg base (CX1 P w) 4 "mean" ["table"] spMean := by
  have c_share : Cal P w K mg base (CX1 P w) 2 "share" ["top", "bottom"] (spSh q_NoShare) := ok_sh T
  have c_bottom_of : Cal P w K mg base (CX1 P w) 3 "bottom_of" ["table"] spBto := ok_bto T
  have c_weighed : Cal P w K mg base (CX1 P w) 1 "weighed" ["table", "bottom"] spWe := ok_we T
  refine T.d_mean.cal (fun _ _ _ _ _ _ us hl => match us, hl with | [_], _ => rfl) fun f fd F => F.okC sc_mean (fun vs H Q E h => ?_) (fun cdv A outer s H vs Q E hr h => ?_)
  · obtain ⟨_, _, _, rfl, _⟩ := h; rfl
  · obtain ⟨v, rows, W, rfl, rp, good, k⟩ := h
    have hz := good.2.2.1
    have nd := sc_mean.nd
    refine ⟨_, (pss_cons (ps_set (i := 1) nd rfl (Or.inl rfl) (pe_cal c_bottom_of (hr.mono (by decide)) rfl strictP.pass (pa_cons (pv 0) pa_nil (se rfl)) (he := se rfl) (hpl := na rfl)))
    (pss_one (ps_ret (pe_cal c_share (hr.mono (by decide)) rfl strictP.pass (pa_cons (pe_callB (call_sum_lK (K := K)) (by rfl) T.z_sum rfl (pa_cons (pe_comp rfl (N := ["table", "bottom"]) (so := defScope (top 21)) (N' := ["value", "weight"]) (k := 2) (fr := []) rfl rfl ⟨rfl, by decide +kernel, by decide +kernel, by decide +kernel, rfl, by decide +kernel, by decide +kernel⟩ (pi_listK (K := K) (pe_cal c_weighed (hr.mono (by decide)) rfl strictP.pass (pa_cons (pv 0) (pa_cons (pv 1) pa_nil (se rfl)) (se rfl)) (he := se rfl) (hpl := na rfl))) (fun _ _ _ _ _ => (pg_tupK (K := K) (n := 2) rfl (pgs_cons (pg_name (i := 0) (show (["value", "weight"] : List Str).Nodup by decide +kernel) rfl (Or.inl rfl)) (pgs_cons (pg_name (i := 1) (show (["value", "weight"] : List Str).Nodup by decide +kernel) rfl (Or.inl rfl)) pgs_nil)))) (fun _ _ _ _ _ => pts_nil)
      (fun _ _ _ _ _ => (pe_op op_mulB (pv 0) (pv 1)))) pa_nil (se rfl)) (he := se rfl) (hpl := na rfl)) (pa_cons (pv 1) pa_nil (se rfl)) (se rfl)) (he := se rfl) (hpl := na rfl))))), ?_⟩
    simp_all only [spSh, spBto, spWe]
    refine ⟨rows, rp, W, good, fun B H1 s1 gb => ⟨rows, rp.mono s1, W, good, gb, fun u H2 s2 ru => ?_⟩⟩
    have c1 := goodB_le good gb
    have d1 := gb.1
    have gw := good_weigh good gb
    have lw : (Nm.weigh rows B).length = rows.length := by unfold Nm.weigh; rw [List.length_map]
    have k := fun p H' s' e => k B p H' s' gb e
    generalize Nm.weigh rows B = as at *
    obtain ⟨a, xs, rfl, ha, rl⟩ := rep_lst.mp ru
    have n1 := rl.length
    rw [List.length_map] at n1
    refine ⟨_, rfl, ⟨_, SqL.of ha⟩, ?_⟩
    have S : Src (Itl K a) (Same H2) xs.length _ := src_list (fun H' s' => s'.seq (SqL.of ha))
    rw [← n1] at S
    refine comp_ints2 as (fun p => some (p.1 * p.2)) S (fun _ _ _ _ h => h.1) (by rw [sizeLine_eq]; omega) ?_ ?_
    · rintro i p x ep ⟨_, hx⟩
      obtain ⟨dd, ed, rd⟩ := rl.get hx
      rw [List.getElem?_map, ep] at ed
      cases ed
      obtain ⟨q, rfl, hq⟩ := rep_wrow.mp rd
      refine ⟨q, _, _, rfl, SqT.of hq, fun Y N k1 _ => ?_⟩
      have m := List.mem_of_getElem? ep
      simp_all only [tYes]
      have := gw p m
      exact ⟨mulOkR (by omega) (by omega), k1 _ rfl⟩
    · intro D n1 n2
      rw [fm_some]
      refine ⟨_, SqL.of upd_same, Bt.of 1000000 (by omega) (by omega), fun z => absurd z (by omega), fun _ p H3 s3 _ e3 => ?_⟩
      exact k p H3 ((s1.trans s2).trans ((same_upd n2).trans s3)) e3
theorem sc_share_from : FnScope ["table", "number", "bottom"] ["table", "number"] (defScope (top 22)) := ⟨rfl, rfl, rfl, by decide +kernel, rfl, by decide +kernel, by decide +kernel⟩
theorem ok_sf (T : Txt K mg w.params q_NoShare q_NoTable q_TooMany q_OF_MANY q_OF_ONE) : Cal P w K mg base (CX1 P w) 4 "share_from" ["table", "number"] spSF := by
  have c_share : Cal P w K mg base (CX1 P w) 2 "share" ["top", "bottom"] (spSh q_NoShare) := ok_sh T
  have c_bottom_of : Cal P w K mg base (CX1 P w) 3 "bottom_of" ["table"] spBto := ok_bto T
  have c_weighed : Cal P w K mg base (CX1 P w) 1 "weighed" ["table", "bottom"] spWe := ok_we T
  refine T.d_share_from.cal (fun _ _ _ _ _ _ us hl => match us, hl with | [_, _], _ => rfl) fun f fd F => F.okC sc_share_from (fun vs H Q E h => ?_) (fun cdv A outer s H vs Q E hr h => ?_)
  · obtain ⟨_, _, _, _, rfl, _⟩ := h; rfl
  · obtain ⟨v, n, rows, W, rfl, rp, good, k⟩ := h
    have hz := good.2.2.1
    have nd := sc_share_from.nd
    refine ⟨_, (pss_cons (ps_set (i := 2) nd rfl (Or.inl rfl) (pe_cal c_bottom_of (hr.mono (by decide)) rfl strictP.pass (pa_cons (pv 0) pa_nil (se rfl)) (he := se rfl) (hpl := na rfl)))
    (pss_one (ps_ret (pe_cal c_share (hr.mono (by decide)) rfl strictP.pass (pa_cons (pe_callB (call_sum_lK (K := K)) (by rfl) T.z_sum rfl (pa_cons (pe_comp rfl (N := ["table", "number", "bottom"]) (so := defScope (top 22)) (N' := ["value", "weight", "number"]) (k := 2) (fr := [1]) rfl rfl ⟨rfl, by decide +kernel, by decide +kernel, by decide +kernel, rfl, by decide +kernel, by decide +kernel⟩ (pi_listK (K := K) (pe_cal c_weighed (hr.mono (by decide)) rfl strictP.pass (pa_cons (pv 0) (pa_cons (pv 2) pa_nil (se rfl)) (se rfl)) (he := se rfl) (hpl := na rfl))) (fun _ _ _ _ _ => (pg_tupK (K := K) (n := 2) rfl (pgs_cons (pg_name (i := 0) (show (["value", "weight", "number"] : List Str).Nodup by decide +kernel) rfl (Or.inl rfl)) (pgs_cons (pg_name (i := 1) (show (["value", "weight", "number"] : List Str).Nodup by decide +kernel) rfl (Or.inl rfl)) pgs_nil)))) (fun _ _ _ _ _ => (pts_one (pt_cmpR op_ge (pv 0) (pv 2) (nomark _))))
      (fun _ _ _ _ _ => (pv 1))) pa_nil (se rfl)) (he := se rfl) (hpl := na rfl)) (pa_cons (pv 2) pa_nil (se rfl)) (se rfl)) (he := se rfl) (hpl := na rfl))))), ?_⟩
    simp_all only [spSh, spBto, spWe]
    refine ⟨rows, rp, W, good, fun B H1 s1 gb => ⟨rows, rp.mono s1, W, good, gb, fun u H2 s2 ru => ?_⟩⟩
    have c1 := goodB_le good gb
    have d1 := gb.1
    have lw : (Nm.weigh rows B).length = rows.length := by unfold Nm.weigh; rw [List.length_map]
    have k := fun p H' s' e => k B p H' s' gb e
    generalize Nm.weigh rows B = as at *
    obtain ⟨a, xs, rfl, ha, rl⟩ := rep_lst.mp ru
    have n1 := rl.length
    rw [List.length_map] at n1
    refine ⟨_, rfl, ⟨_, SqL.of ha⟩, ?_⟩
    have S : Src (Itl K a) (Same H2) xs.length _ := src_list (fun H' s' => s'.seq (SqL.of ha))
    rw [← n1] at S
    refine comp_ints2 as (fun p => if n ≤ p.1 then some p.2 else none) S (fun _ _ _ _ h => h.1) (by rw [sizeLine_eq]; omega) ?_ ?_
    · rintro i p x ep ⟨_, hx⟩
      obtain ⟨dd, ed, rd⟩ := rl.get hx
      rw [List.getElem?_map, ep] at ed
      cases ed
      obtain ⟨q, rfl, hq⟩ := rep_wrow.mp rd
      refine ⟨q, _, _, rfl, SqT.of hq, fun Y N k1 k2 => ?_⟩
      simp_all only []
      by_cases c : n ≤ p.1
      · rw [if_pos c]
        exact k1 _ (if_pos c)
      · rw [if_neg c]
        exact k2 (if_neg c)
    · intro D n1 n2
      refine ⟨_, SqL.of upd_same, Bt.of 1000000 (by omega) (by omega), fun z => absurd z (by omega), fun _ p H3 s3 _ e3 => ?_⟩
      rw [Nm.abv_filter] at e3
      exact k p H3 ((s1.trans s2).trans ((same_upd n2).trans s3)) e3
theorem sc_is_figures : FnScope ["text"] ["text"] (defScope (top 13)) := ⟨rfl, rfl, rfl, by decide +kernel, rfl, by decide +kernel, by decide +kernel⟩
theorem ok_fig (T : Txt K mg w.params q_NoShare q_NoTable q_TooMany q_OF_MANY q_OF_ONE) : Cal P w K mg base (CX1 P w) 1 "is_figures" ["text"] spFig := by
  refine T.d_is_figures.cal (fun _ _ _ _ _ _ us hl => match us, hl with | [_], _ => rfl) fun f fd F => F.okC sc_is_figures (fun vs H Q E h => ?_) (fun cdv A outer s H vs Q E hr h => ?_)
  · obtain ⟨_, rfl, _⟩ := h; rfl
  · obtain ⟨k, rfl, k0, k1, kk⟩ := h
    have nd := sc_is_figures.nd
    refine ⟨_, (pss_one (ps_ret (pe_and (pe_chain op_le op_le pe_int (pe_callB call_lenS (by rfl) T.z_len PySem.boot_len (pa_cons (pv 0) pa_nil (se rfl)) (he := se rfl) (hpl := na rfl)) (pe_globI rfl T.c_MOST_FIGURES)) (pe_one (pe_callB (call_all_lK (K := K)) (by rfl) T.z_all rfl (pa_cons (pe_comp rfl (N := ["text"]) (so := defScope (top 13)) (N' := ["sign"]) (k := 1) (fr := []) rfl rfl ⟨rfl, by decide +kernel, by decide +kernel, by decide +kernel, rfl, by decide +kernel, by decide +kernel⟩ (pi_str (pv 0)) (fun _ _ _ _ _ => (pg_name (i := 0) (show (["sign"] : List Str).Nodup by decide +kernel) rfl (Or.inl rfl))) (fun _ _ _ _ _ => pts_nil)
      (fun _ _ _ _ _ => (pe_cmpR op_in_str (pv 0) (pe_globS rfl T.c_FIGURES) rfl))) pa_nil (se rfl)) (he := se rfl) (hpl := na rfl)))))), ?_⟩
    obtain ⟨l1, l3, fg⟩ := num_fig k0 k1
    simp_all only []
    refine ⟨by have := sizeLine_eq; omega, ?_⟩
    rw [if_pos (by omega), if_pos (by omega)]
    refine ⟨num_ascii k0 k1, ?_⟩
    generalize numT k = z at *
    have S : Src (Its z) (Same H) z.cps.toList.length (fun i x H H3 => H3 = H ∧ ∃ c, z.cps[i]? = some c ∧ x = .str ⟨#[c]⟩) := by rw [Array.length_toList]; exact src_str
    refine comp_vals z.cps.toList (fun c => some (.bl (decide (c ∈ FIG.cps.toList)))) S (fun _ _ _ _ h => h.1) (by have := sizeLine_eq; have : z.cps.toList.length = z.length := Array.length_toList; omega) ?_ ?_
    · rintro i c x ec ⟨_, c', ec', rfl⟩ Y N y1 _
      rw [Array.getElem?_toList] at ec
      rw [ec] at ec'
      cases ec'
      simp_all only [tYes, StrLaws.found_one]
      exact y1 _ rfl
    · intro D n1 n2
      rw [fm_map]
      refine ⟨z.cps.toList.map fun c => decide (c ∈ FIG.cps.toList), ?_, ?_⟩
      · rw [List.map_map]; exact SqL.of upd_same
      · rw [all_bls _ _ fun c hc => decide_eq_true (fg c hc)]
        exact kk _ (same_upd n2)
theorem sc_whole_in : FnScope ["text", "least", "most", "number"] ["text", "least", "most"] (defScope (top 14)) := ⟨rfl, rfl, rfl, by decide +kernel, rfl, by decide +kernel, by decide +kernel⟩
theorem ok_wi (T : Txt K mg w.params q_NoShare q_NoTable q_TooMany q_OF_MANY q_OF_ONE) : Cal P w K mg base (CX1 P w) 2 "whole_in" ["text", "least", "most"] spWi := by
  have c_is_figures : Cal P w K mg base (CX1 P w) 1 "is_figures" ["text"] spFig := ok_fig T
  refine T.d_whole_in.cal (fun _ _ _ _ _ _ us hl => match us, hl with | [_, _, _], _ => rfl) fun f fd F => F.okC sc_whole_in (fun vs H Q E h => ?_) (fun cdv A outer s H vs Q E hr h => ?_)
  · obtain ⟨_, _, _, rfl, _⟩ := h; rfl
  · obtain ⟨k, a, b, rfl, k0, k1, ka, kb, kk⟩ := h
    have nd := sc_whole_in.nd
    refine ⟨_, (pss_cons (ps_if (pt_not (pt_val (pe_cal c_is_figures (hr.mono (by decide)) rfl strictP.pass (pa_cons (pv 0) pa_nil (se rfl)) (he := se rfl) (hpl := na rfl)))) (pss_one (ps_ret pe_non))
      pss_nil)
    (pss_cons (ps_set (i := 3) nd rfl (Or.inl rfl) (pe_callTy call_int_s (by rfl) T.z_int rfl (pa_cons (pv 0) pa_nil (se rfl)) (he := se rfl) (hpl := na rfl)))
    (pss_one (ps_ret (pe_ifExp (PW.pt (pw_and (pt_cmpR op_eq (pe_callTy call_str_i (by rfl) T.z_str rfl (pa_cons (pv 3) pa_nil (se rfl)) (he := se rfl) (hpl := na rfl)) (pv 0) (nomark _)) (pw_and1 (pt_chain op_le op_le (pv 1) (pv 3) (pv 2))))) (pv 3) pe_non))))), ?_⟩
    simp_all only [spFig]
    refine ⟨k, rfl, k0, k1, fun H1 s1 => ?_⟩
    rw [if_neg (by decide)]
    refine ⟨(by have := (num_fig k0 k1).2.1; omega), k, (show PySem.intText? (numT k) = some k from PySem.W.KIN.num_reads k0 (by omega)), log_small k0 k1, ?_⟩
    rw [if_pos (show Str.ofString (toString k) = numT k from rfl), if_pos (by omega), if_pos (by omega)]
    exact kk _ s1
theorem sc_read_number : FnScope ["text", "least", "most", "number"] ["text", "least", "most"] (defScope (top 51)) := ⟨rfl, rfl, rfl, by decide +kernel, rfl, by decide +kernel, by decide +kernel⟩
theorem ok_rn (T : Txt K mg w.params q_NoShare q_NoTable q_TooMany q_OF_MANY q_OF_ONE) : Cal P w K mg base (CX1 P w) 3 "read_number" ["text", "least", "most"] spWi := by
  have c_whole_in : Cal P w K mg base (CX1 P w) 2 "whole_in" ["text", "least", "most"] spWi := ok_wi T
  refine T.d_read_number.cal (fun _ _ _ _ _ _ us hl => match us, hl with | [_, _, _], _ => rfl) fun f fd F => F.okC sc_read_number (fun vs H Q E h => ?_) (fun cdv A outer s H vs Q E hr h => ?_)
  · obtain ⟨_, _, _, rfl, _⟩ := h; rfl
  · obtain ⟨k, a, b, rfl, k0, k1, ka, kb, kk⟩ := h
    have nd := sc_read_number.nd
    refine ⟨_, (pss_cons (ps_set (i := 3) nd rfl (Or.inl rfl) (pe_cal c_whole_in (hr.mono (by decide)) rfl strictP.pass (pa_cons (pv 0) (pa_cons (pv 1) (pa_cons (pv 2) pa_nil (se rfl)) (se rfl)) (se rfl)) (he := se rfl) (hpl := na rfl)))
    (pss_cons (ps_if (pt_cmpR op_isN (pv 3) pe_non (nomark _)) (pss_one ps_never)
      pss_nil)
    (pss_one (ps_ret (pv 3))))), ?_⟩
    simp_all only [spWi]
    refine ⟨k, rfl, k0, k1, ka, kb, fun H1 s1 => ?_⟩
    rw [if_neg (by simp)]
    exact kk _ s1
theorem sc_read_dice : FnScope ["text", "pieces", "dice"] ["text"] (defScope (top 52)) := ⟨rfl, rfl, rfl, by decide +kernel, rfl, by decide +kernel, by decide +kernel⟩
theorem ok_dc (T : Txt K mg w.params q_NoShare q_NoTable q_TooMany q_OF_MANY q_OF_ONE) : Cal P w K mg base (CX1 P w) 4 "read_dice" ["text"] spDc := by
  have c_read_number : Cal P w K mg base (CX1 P w) 3 "read_number" ["text", "least", "most"] spWi := ok_rn T
  refine T.d_read_dice.cal (fun _ _ _ _ _ _ us hl => match us, hl with | [_], _ => rfl) fun f fd F => F.okC sc_read_dice (fun vs H Q E h => ?_) (fun cdv A outer s H vs Q E hr h => ?_)
  · obtain ⟨_, _, rfl, _⟩ := h; rfl
  · obtain ⟨m, n, rfl, m1, m6, n1, n20, kk⟩ := h
    have nd := sc_read_dice.nd
    refine ⟨_, (pss_cons (ps_set (i := 1) nd rfl (Or.inl rfl) (pe_bm PySem.F.plainAttrs_str PySem.F.slot_str_split PySem.F.type_str_split mt_split (pv 0) (pa_cons pe_str pa_nil (se rfl))))
    (pss_cons (ps_if (pt_cmpR op_ne (pe_callB call_lenL (by rfl) T.z_len PySem.boot_len (pa_cons (pv 1) pa_nil (se rfl)) (he := se rfl) (hpl := na rfl)) pe_int (nomark _)) (pss_one ps_never)
      pss_nil)
    (pss_cons (ps_set (i := 2) nd rfl (Or.inl rfl) (pe_ifExp (pt_cmpR op_eq (pe_ix ix_listH (pv 1) pe_int (fun _ _ => rfl)) pe_str (nomark _)) pe_int (pe_cal c_read_number (hr.mono (by decide)) rfl strictP.pass (pa_cons (pe_ix ix_listH (pv 1) pe_int (fun _ _ => rfl)) (pa_cons pe_int (pa_cons (pe_globI rfl T.c_MOST_DICE) pa_nil (se rfl)) (se rfl)) (se rfl)) (he := se rfl) (hpl := na rfl))))
    (pss_one (ps_ret (pe_tupS (pa_cons (pv 2) (pa_cons (pe_cal c_read_number (hr.mono (by decide)) rfl strictP.pass (pa_cons (pe_ix ix_listH (pv 1) pe_int (fun _ _ => rfl)) (pa_cons pe_int (pa_cons (pe_globI rfl T.c_MOST_SIDES) pa_nil (se rfl)) (se rfl)) (se rfl)) (he := se rfl) (hpl := na rfl)) pa_nil (se rfl)) (se rfl)))))))), ?_⟩
    have dl := dc_len ⟨m1, m6⟩ ⟨n1, n20⟩
    have cut := dc_cut ⟨m1, m6⟩ ⟨n1, n20⟩
    have e100 : Str.ofString "d" = ⟨#[100]⟩ := by decide +kernel
    change tSeq _ _ _ [some (.str (dcT m n)), none, none] H
    refine seq_gen (fun σ' H1 => Same H H1 ∧ ∃ l, H1 l = some (.lst (List.map V.str (dcL m n))) ∧ σ' = [some (.str (dcT m n)), some (.ref l), none]) ?_ (fun N hN => ?_)
    case refine_2 =>
      simp_all only []
      refine ⟨rfl, 100, e100, by omega, fun l nl => ?_⟩
      rw [cut]
      exact hN _ _ ⟨same_upd nl, l, upd_same, rfl⟩
    rintro _ H1 ⟨sm1, l, hl, rfl⟩
    change tSeq _ _ _ [some (.str (dcT m n)), some (.ref l), none] H1
    refine seq_gen (fun σ' H2 => H1 = H2 ∧ σ' = [some (.str (dcT m n)), some (.ref l), none]) ?_ (fun N hN => ?_)
    case refine_2 =>
      simp_all only []
      refine ⟨_, hl, ?_⟩
      rw [if_neg (show ¬ ¬ (((List.map V.str (dcL m n)).length : Nat) : Int) = 2 from fun h => h rfl)]
      exact hN _ _ ⟨rfl, rfl⟩
    rintro _ _ ⟨rfl, rfl⟩
    change tSeq _ _ _ [some (.str (dcT m n)), some (.ref l), none] H1
    refine seq_gen (fun σ' H2 => Same H1 H2 ∧ σ' = [some (.str (dcT m n)), some (.ref l), some (.int m)]) ?_ (fun N hN => ?_)
    case refine_2 =>
      simp_all only [spWi]
      by_cases e : m = 1
      · subst e
        refine ⟨_, hl, .str (Str.ofString ""), rfl, rfl, ?_⟩
        rw [if_pos rfl]
        exact hN _ _ ⟨Same.refl _, rfl⟩
      · have a0 : atI (List.map V.str (dcL m n)) 0 = some (.str (numT m)) := by
          refine atI_nat (j := 0) ?_
          show some (V.str (if m = 1 then Str.ofString "" else numT m)) = _
          rw [if_neg e]
        refine ⟨_, hl, .str (numT m), a0, rfl, ?_⟩
        rw [if_neg]
        · exact ⟨_, hl, _, a0, m, rfl, by omega, by omega, by omega, by omega, fun H2 s2 => hN _ _ ⟨s2, rfl⟩⟩
        · intro h
          injection h with h
          have l1 := (num_fig (show 0 ≤ m by omega) (by omega)).1
          rw [h] at l1
          exact absurd l1 (by decide +kernel)
    rintro _ H2 ⟨sm2, rfl⟩
    have hl2 := sm2 _ _ hl
    simp_all only [spWi]
    exact ⟨_, hl2, _, atI_nat (j := 1) rfl, n, rfl, by omega, by omega, by omega, by omega, fun H3 s3 => ⟨by decide, fun p H4 s4 np e4 => kk _ _ (sm1.trans (sm2.trans (s3.trans s4))) e4⟩⟩
theorem sc_read_worded : FnScope ["kind", "figures", "dice_text", "dice", "number"] ["kind", "figures", "dice_text"] (defScope (top 53)) := ⟨rfl, rfl, rfl, by decide +kernel, rfl, by decide +kernel, by decide +kernel⟩
theorem ok_wd (T : Txt K mg w.params q_NoShare q_NoTable q_TooMany q_OF_MANY q_OF_ONE) : Cal P w K mg base (CX1 P w) 5 "read_worded" ["kind", "figures", "dice_text"] spWd := by
  have c_read_number : Cal P w K mg base (CX1 P w) 3 "read_number" ["text", "least", "most"] spWi := ok_rn T
  have c_read_dice : Cal P w K mg base (CX1 P w) 4 "read_dice" ["text"] spDc := ok_dc T
  refine T.d_read_worded.cal (fun _ _ _ _ _ _ us hl => match us, hl with | [_, _, _], _ => rfl) fun f fd F => F.okC sc_read_worded (fun vs H Q E h => ?_) (fun cdv A outer s H vs Q E hr h => ?_)
  · obtain ⟨_, _, _, _, rfl, _⟩ := h; rfl
  · obtain ⟨k, n, m, x, rfl, h⟩ := h
    have nd := sc_read_worded.nd
    refine ⟨_, (pss_cons (ps_set (i := 3) nd rfl (Or.inl rfl) (pe_cal c_read_dice (hr.mono (by decide)) rfl strictP.pass (pa_cons (pv 2) pa_nil (se rfl)) (he := se rfl) (hpl := na rfl)))
    (pss_cons (ps_if (pt_cmpR (op_in_modK (K := K) (w := w)) (pv 0) (pe_glob (v := V.ref _) rfl T.g_OF_ONE rfl) rfl) (pss_cons (ps_set (i := 4) nd rfl (Or.inl rfl) (pe_cal c_read_number (hr.mono (by decide)) rfl strictP.pass (pa_cons (pv 1) (pa_cons (pe_ix (ix_tupQK (K := K)) (pe_mget (K := K) (w := w) (pe_glob (v := V.ref _) rfl T.g_OF_ONE rfl) (pv 0) (fun _ _ => rfl)) pe_int (fun _ _ => rfl)) (pa_cons (pe_ix (ix_tupQK (K := K)) (pe_mget (K := K) (w := w) (pe_glob (v := V.ref _) rfl T.g_OF_ONE rfl) (pv 0) (fun _ _ => rfl)) pe_int (fun _ _ => rfl)) pa_nil (se rfl)) (se rfl)) (se rfl)) (he := se rfl) (hpl := na rfl)))
    (pss_cons (ps_if (pt_cmpR op_ne (pe_ix ix_tupH (pv 3) pe_int (fun _ _ => rfl)) pe_int (nomark _)) (pss_one ps_never)
      pss_nil)
    (pss_one (ps_ret (pe_tupS (pa_cons (pv 0) (pa_cons (pv 4) (pa_cons (pe_ix ix_tupH (pv 3) pe_int (fun _ _ => rfl)) pa_nil (se rfl)) (se rfl)) (se rfl)))))))
      pss_nil)
    (pss_cons (ps_if (pt_cmpR (op_notin_modK (K := K) (w := w)) (pv 0) (pe_glob (v := V.ref _) rfl T.g_OF_MANY rfl) rfl) (pss_one ps_never)
      pss_nil)
    (pss_cons (ps_set (i := 4) nd rfl (Or.inl rfl) (pe_cal c_read_number (hr.mono (by decide)) rfl strictP.pass (pa_cons (pv 1) (pa_cons (pe_ix (ix_tupQK (K := K)) (pe_mget (K := K) (w := w) (pe_glob (v := V.ref _) rfl T.g_OF_MANY rfl) (pv 0) (fun _ _ => rfl)) pe_int (fun _ _ => rfl)) (pa_cons (pe_ix (ix_tupQK (K := K)) (pe_mget (K := K) (w := w) (pe_glob (v := V.ref _) rfl T.g_OF_MANY rfl) (pv 0) (fun _ _ => rfl)) pe_int (fun _ _ => rfl)) pa_nil (se rfl)) (se rfl)) (se rfl)) (he := se rfl) (hpl := na rfl)))
    (pss_cons (ps_if (PW.pt (pw_and (pt_cmpR op_ne (pv 0) pe_str (nomark _)) (pw_and1 (pt_cmpR op_gt (pv 4) (pe_ix ix_tupH (pv 3) pe_int (fun _ _ => rfl)) (nomark _))))) (pss_one ps_never)
      pss_nil)
    (pss_one (ps_ret (pe_tupS (pa_cons (pv 0) (pa_cons (pv 4) (pa_cons (pe_ix ix_tupH (pv 3) pe_int (fun _ _ => rfl)) (pa_cons (pe_ix ix_tupH (pv 3) pe_int (fun _ _ => rfl)) pa_nil (se rfl)) (se rfl)) (se rfl)) (se rfl)))))))))), ?_⟩
    have kws : ∀ (P : Prop), (XGp (.many k n m x) → P) → (m = 1 → XGp (.one k n x) → P) → P := fun P a b => by
      rcases h with ⟨g, _⟩ | ⟨e, g, _⟩
      · exact a g
      · exact b e g
    have md : 1 ≤ m ∧ m ≤ 6 ∧ 1 ≤ x ∧ x ≤ 20 := kws _ (fun g => g.2.2) (fun e g => ⟨by omega, by omega, g.2.2.1, g.2.2.2⟩)
    change tSeq _ _ _ [some (.str k), some (.str (numT n)), some (.str (dcT m x)), none, none] H
    refine seq_gen (fun σ' H1 => Same H H1 ∧ ∃ p, H1 p = some (.tup [.int m, .int x]) ∧ σ' = [some (.str k), some (.str (numT n)), some (.str (dcT m x)), some (.ref p), none]) ?_ (fun N hN => ?_)
    case refine_2 =>
      simp_all only [spDc]
      exact ⟨m, x, rfl, md.1, md.2.1, md.2.2.1, md.2.2.2, fun p H1 s1 e => hN _ _ ⟨s1, p, e, rfl⟩⟩
    rintro _ H1 ⟨sm1, p, hp, rfl⟩
    change tSeq _ _ _ [some (.str k), some (.str (numT n)), some (.str (dcT m x)), some (.ref p), none] H1
    rcases h with ⟨⟨gk, n1, m1, m6, x1, x20⟩, kk⟩ | ⟨rfl, ⟨gk, n0, x1, x20⟩, kk⟩
    · have n20 : n ≤ 20 := by rcases gk with h | h | h <;> omega
      have no : (["again", "burst"] : List Str).any (fun y => decide (y = k)) = false := by rcases gk with h | h | h <;> rw [h.1] <;> decide +kernel
      have ye : (["best", "worst", "hits"] : List Str).any (fun y => decide (y = k)) = true := by rcases gk with h | h | h <;> rw [h.1] <;> decide +kernel
      refine seq_gen (fun σ' H2 => H1 = H2 ∧ σ' = [some (.str k), some (.str (numT n)), some (.str (dcT m x)), some (.ref p), none]) ?_ (fun N hN => ?_)
      case refine_2 =>
        simp_all only []
        refine MDict.rd T.m_OF_ONE ⟨_, rfl, ?_⟩
        rw [if_neg (by rw [no]; decide)]
        exact hN _ _ ⟨rfl, rfl⟩
      rintro _ _ ⟨rfl, rfl⟩
      change tSeq _ _ _ [some (.str k), some (.str (numT n)), some (.str (dcT m x)), some (.ref p), none] H1
      refine seq_gen (fun σ' H2 => H1 = H2 ∧ σ' = [some (.str k), some (.str (numT n)), some (.str (dcT m x)), some (.ref p), none]) ?_ (fun N hN => ?_)
      case refine_2 =>
        simp_all only []
        refine MDict.rdN T.m_OF_MANY ⟨_, rfl, ?_⟩
        rw [if_neg (by rw [ye]; decide)]
        exact hN _ _ ⟨rfl, rfl⟩
      rintro _ _ ⟨rfl, rfl⟩
      change tSeq _ _ _ [some (.str k), some (.str (numT n)), some (.str (dcT m x)), some (.ref p), none] H1
      refine seq_gen (fun σ' H2 => Same H1 H2 ∧ σ' = [some (.str k), some (.str (numT n)), some (.str (dcT m x)), some (.ref p), some (.int n)]) ?_ (fun N hN => ?_)
      case refine_2 =>
        obtain ⟨hi, hn, pp, es, nn, hl, hk, e, sq⟩ : ∃ hi : Int, n ≤ hi ∧ ∃ pp es nn, K.lookup q_OF_MANY = some ⟨.type "dict", none, .dict es nn, #[]⟩ ∧ PySem.W.KeysLit w.params es.toList ∧ PySem.W.nsIn K q_OF_MANY k = some (some (.ref pp)) ∧ ∀ H, SqT K H pp [.int 1, .int hi] := by
          rcases gk with h | h | h
          · rw [h.1]; exact ⟨6, by omega, MRow.rd T.r_OF_MANY_worst T.m_OF_MANY⟩
          · rw [h.1]; exact ⟨6, by omega, MRow.rd T.r_OF_MANY_best T.m_OF_MANY⟩
          · rw [h.1]; exact ⟨20, by omega, MRow.rd T.r_OF_MANY_hits T.m_OF_MANY⟩
        simp_all only [tMGet, rIxT, spWi]
        exact ⟨pp, es, nn, hl, hk, e, _, sq _, _, at0, pp, es, nn, hl, hk, e, _, sq _, _, at1, n, rfl, 1, rfl, hi, rfl, by omega, by omega, by omega, by omega, fun H2 s2 => hN _ _ ⟨s2, rfl⟩⟩
      rintro _ H2 ⟨sm2, rfl⟩
      have hp2 := sm2 _ _ hp
      change tSeq _ _ _ [some (.str k), some (.str (numT n)), some (.str (dcT m x)), some (.ref p), some (.int n)] H2
      refine seq_gen (fun σ' H3 => H2 = H3 ∧ σ' = [some (.str k), some (.str (numT n)), some (.str (dcT m x)), some (.ref p), some (.int n)]) ?_ (fun N hN => ?_)
      case refine_2 =>
        simp_all only [hp2]
        refine ite2 (fun c => ?_) (fun c => ?_)
        · rw [if_neg (by rcases gk with h | h | h
                         · omega
                         · omega
                         · exact absurd h.1 c)]
          exact hN _ _ ⟨rfl, rfl⟩
        · rw [if_neg (by decide)]
          exact hN _ _ ⟨rfl, rfl⟩
      rintro _ _ ⟨rfl, rfl⟩
      simp_all only [hp2]
      exact ⟨by decide, fun q H3 s3 nq e3 => kk _ _ (sm1.trans (sm2.trans s3)) e3⟩
    · have ye : (["again", "burst"] : List Str).any (fun y => decide (y = k)) = true := by rcases gk with h | h <;> rw [h.1] <;> decide +kernel
      obtain ⟨hi, hn, pp, es, nn, hl, hk, e, sq⟩ : ∃ hi : Int, (n ≤ hi ∧ hi ≤ 20) ∧ ∃ pp es nn, K.lookup q_OF_ONE = some ⟨.type "dict", none, .dict es nn, #[]⟩ ∧ PySem.W.KeysLit w.params es.toList ∧ PySem.W.nsIn K q_OF_ONE k = some (some (.ref pp)) ∧ ∀ H, SqT K H pp [.int 0, .int hi] := by
        rcases gk with h | h
        · rw [h.1]; exact ⟨20, by omega, MRow.rd T.r_OF_ONE_again T.m_OF_ONE⟩
        · rw [h.1]; exact ⟨6, by omega, MRow.rd T.r_OF_ONE_burst T.m_OF_ONE⟩
      refine seq_gen (fun _ _ => False) (fun _ _ h => h.elim) (fun N hN => ?_)
      simp_all only [tMGet, rIxT, spWi]
      refine MDict.rd T.m_OF_ONE ⟨_, rfl, ?_⟩
      rw [if_pos ye]
      refine ⟨pp, es, nn, hl, hk, e, _, sq _, _, at0, pp, es, nn, hl, hk, e, _, sq _, _, at1, n, rfl, 0, rfl, hi, rfl, by omega, by omega, by omega, by omega, fun H2 s2 => ?_⟩
      have hp2 := s2 _ _ hp
      refine ⟨_, hp2, _, rfl, rfl, ?_⟩
      rw [if_neg (fun h => h rfl)]
      exact ⟨_, hp2, _, rfl, by decide, fun q H3 s3 nq e3 => kk _ _ (sm1.trans (s2.trans s3)) e3⟩
theorem sc_read_part : FnScope ["text", "words"] ["text"] (defScope (top 54)) := ⟨rfl, rfl, rfl, by decide +kernel, rfl, by decide +kernel, by decide +kernel⟩
theorem ok_xp (T : Txt K mg w.params q_NoShare q_NoTable q_TooMany q_OF_MANY q_OF_ONE) : Cal P w K mg base (CX1 P w) 6 "read_part" ["text"] spXp := by
  have c_read_number : Cal P w K mg base (CX1 P w) 3 "read_number" ["text", "least", "most"] spWi := ok_rn T
  have c_read_dice : Cal P w K mg base (CX1 P w) 4 "read_dice" ["text"] spDc := ok_dc T
  have c_read_worded : Cal P w K mg base (CX1 P w) 5 "read_worded" ["kind", "figures", "dice_text"] spWd := ok_wd T
  refine T.d_read_part.cal (fun _ _ _ _ _ _ us hl => match us, hl with | [_], _ => rfl) fun f fd F => F.okC sc_read_part (fun vs H Q E h => ?_) (fun cdv A outer s H vs Q E hr h => ?_)
  · obtain ⟨_, rfl, _⟩ := h; rfl
  · obtain ⟨p, rfl, gp, kk⟩ := h
    have nd := sc_read_part.nd
    refine ⟨_, (pss_cons (ps_set (i := 1) nd rfl (Or.inl rfl) (pe_bm PySem.F.plainAttrs_str PySem.F.slot_str_split PySem.F.type_str_split mt_split (pv 0) (pa_cons pe_str pa_nil (se rfl))))
    (pss_cons (ps_if (PW.pt (pw_and (pt_cmpR op_eq (pe_callB call_lenL (by rfl) T.z_len PySem.boot_len (pa_cons (pv 1) pa_nil (se rfl)) (he := se rfl) (hpl := na rfl)) pe_int (nomark _)) (pw_and1 (pt_cmpR op_eq (pe_ix ix_listH (pv 1) pe_int (fun _ _ => rfl)) pe_str (nomark _))))) (pss_one (ps_ret (pe_cal c_read_worded (hr.mono (by decide)) rfl strictP.pass (pa_cons (pe_ix ix_listH (pv 1) pe_int (fun _ _ => rfl)) (pa_cons (pe_ix ix_listH (pv 1) pe_int (fun _ _ => rfl)) (pa_cons (pe_ix ix_listH (pv 1) pe_int (fun _ _ => rfl)) pa_nil (se rfl)) (se rfl)) (se rfl)) (he := se rfl) (hpl := na rfl))))
      pss_nil)
    (pss_cons (ps_if (pt_cmpR op_ne (pe_callB call_lenL (by rfl) T.z_len PySem.boot_len (pa_cons (pv 1) pa_nil (se rfl)) (he := se rfl) (hpl := na rfl)) pe_int (nomark _)) (pss_one ps_never)
      pss_nil)
    (pss_cons (ps_if (pt_cmpR op_in_str pe_str (pv 0) rfl) (pss_one (ps_ret (pe_op (op_catTK (K := K)) (pe_tupS (pa_cons pe_str pa_nil (se rfl))) (pe_cal c_read_dice (hr.mono (by decide)) rfl strictP.pass (pa_cons (pv 0) pa_nil (se rfl)) (he := se rfl) (hpl := na rfl)))))
      pss_nil)
    (pss_one (ps_ret (pe_tupS (pa_cons pe_str (pa_cons (pe_cal c_read_number (hr.mono (by decide)) rfl strictP.pass (pa_cons (pv 0) (pa_cons pe_int (pa_cons (pe_globI rfl T.c_MOST_NUMBER) pa_nil (se rfl)) (se rfl)) (se rfl)) (he := se rfl) (hpl := na rfl)) pa_nil (se rfl)) (se rfl))))))))), ?_⟩
    have pl := pt_len gp
    have cut := pt_cut gp
    have e32 : Str.ofString " " = ⟨#[32]⟩ := by decide +kernel
    have e100 : Str.ofString "d" = ⟨#[100]⟩ := by decide +kernel
    change tSeq _ _ _ [some (.str (xpT p)), none] H
    refine seq_gen (fun σ' H1 => Same H H1 ∧ ∃ l, H1 l = some (.lst (List.map V.str (xpW p))) ∧ σ' = [some (.str (xpT p)), some (.ref l)]) ?_ (fun N hN => ?_)
    case refine_2 =>
      simp_all only []
      refine ⟨rfl, 32, e32, by omega, fun l nl => ?_⟩
      rw [cut]
      exact hN _ _ ⟨same_upd nl, l, upd_same, rfl⟩
    rintro _ H1 ⟨sm1, l, hl, rfl⟩
    change tSeq _ _ _ [some (.str (xpT p)), some (.ref l)] H1
    cases p with
    | num n =>
      have nf := num_fig gp.1 (by have := gp.2; omega)
      have hl1 : H1 l = some (.lst [V.str (numT n)]) := hl
      refine seq_gen (fun σ' H2 => H1 = H2 ∧ σ' = [some (.str (numT n)), some (.ref l)]) ?_ (fun N hN => ?_)
      case refine_2 =>
        simp_all only [hl1]
        rw [if_neg (by decide), if_neg (by decide)]
        exact hN _ _ ⟨rfl, rfl⟩
      rintro _ _ ⟨rfl, rfl⟩
      change tSeq _ _ _ [some (.str (numT n)), some (.ref l)] H1
      refine seq_gen (fun σ' H2 => H1 = H2 ∧ σ' = [some (.str (numT n)), some (.ref l)]) ?_ (fun N hN => ?_)
      case refine_2 =>
        simp_all only [hl1]
        rw [if_neg (by decide)]
        exact hN _ _ ⟨rfl, rfl⟩
      rintro _ _ ⟨rfl, rfl⟩
      simp_all only [spWi]
      have ne : (Builtin.Str.occurrences (numT n) ⟨#[100]⟩ 0 (numT n).length 1).isEmpty = true := by
        have h := StrLaws.found_one (numT n) 100
        rw [decide_eq_false (fun hc => by have := num_rng gp.1 (by have := gp.2; omega) 100 hc; omega)] at h
        simpa using h
      rw [e100, ne, if_neg (by decide)]
      exact ⟨n, rfl, gp.1, by have := gp.2; omega, gp.1, by have := gp.2; omega, fun H' s' => ⟨by decide, fun q H2 s2 nq e => kk _ _ (sm1.trans (s'.trans s2)) e⟩⟩
    | dice m x =>
      have hl1 : H1 l = some (.lst [V.str (dcT m x)]) := hl
      refine seq_gen (fun σ' H2 => H1 = H2 ∧ σ' = [some (.str (dcT m x)), some (.ref l)]) ?_ (fun N hN => ?_)
      case refine_2 =>
        simp_all only [hl1]
        rw [if_neg (by decide), if_neg (by decide)]
        exact hN _ _ ⟨rfl, rfl⟩
      rintro _ _ ⟨rfl, rfl⟩
      change tSeq _ _ _ [some (.str (dcT m x)), some (.ref l)] H1
      refine seq_gen (fun σ' H2 => H1 = H2 ∧ σ' = [some (.str (dcT m x)), some (.ref l)]) ?_ (fun N hN => ?_)
      case refine_2 =>
        simp_all only [hl1]
        rw [if_neg (by decide)]
        exact hN _ _ ⟨rfl, rfl⟩
      rintro _ _ ⟨rfl, rfl⟩
      simp_all only [spWi, spDc, rCatT]
      have ne : (Builtin.Str.occurrences (dcT m x) ⟨#[100]⟩ 0 (dcT m x).length 1).isEmpty = false := by
        have h := StrLaws.found_one (dcT m x) 100
        rw [decide_eq_true (by unfold dcT; rw [app_list, app_list]; exact List.mem_append_left _ (List.mem_append_right _ (by decide +kernel)))] at h
        simpa using h
      rw [e100, ne, if_pos rfl]
      exact ⟨by decide, fun p H2 s2 np e => ⟨m, x, rfl, gp.1, gp.2.1, gp.2.2.1, gp.2.2.2, fun p1 H' s' e' => ⟨_, SqT.of (s' _ _ e), _, SqT.of e', by simp, (show 1 + 2 ≤ sizeLine by decide), fun h => (by simp at h), fun _ q nq => kk _ _ (sm1.trans (s2.trans (s'.trans (same_upd nq)))) upd_same⟩⟩⟩
    | many k n m x =>
      have hl1 : H1 l = some (.lst [V.str k, V.str (numT n), V.str (Str.ofString "of"), V.str (dcT m x)]) := hl
      refine seq_gen (fun _ _ => False) (fun _ _ h => h.elim) (fun N hN => ?_)
      simp_all only [hl1, spWd]
      rw [if_pos (by decide)]
      exact ⟨_, atI_nat (j := 3) rfl, n, rfl, m, x, rfl, .inl ⟨gp, fun q H' s' e => kk _ _ (sm1.trans s') e⟩⟩
    | one k n x =>
      have hl1 : H1 l = some (.lst [V.str k, V.str (numT n), V.str (Str.ofString "of"), V.str (dcT 1 x)]) := hl
      refine seq_gen (fun _ _ => False) (fun _ _ h => h.elim) (fun N hN => ?_)
      simp_all only [hl1, spWd]
      rw [if_pos (by decide)]
      exact ⟨_, atI_nat (j := 3) rfl, n, rfl, 1, x, rfl, .inr ⟨rfl, gp, fun q H' s' e => kk _ _ (sm1.trans s') e⟩⟩
theorem sc_read_pool : FnScope ["text", "pieces"] ["text"] (defScope (top 55)) := ⟨rfl, rfl, rfl, by decide +kernel, rfl, by decide +kernel, by decide +kernel⟩
theorem ok_xl (T : Txt K mg w.params q_NoShare q_NoTable q_TooMany q_OF_MANY q_OF_ONE) : Cal P w K mg base (CX1 P w) 7 "read_pool" ["text"] spXl := by
  have c_read_part : Cal P w K mg base (CX1 P w) 6 "read_part" ["text"] spXp := ok_xp T
  refine T.d_read_pool.cal (fun _ _ _ _ _ _ us hl => match us, hl with | [_], _ => rfl) fun f fd F => F.okC sc_read_pool (fun vs H Q E h => ?_) (fun cdv A outer s H vs Q E hr h => ?_)
  · obtain ⟨_, rfl, _⟩ := h; rfl
  · obtain ⟨ps, rfl, pn, p4, gp, kk⟩ := h
    have nd := sc_read_pool.nd
    refine ⟨_, (pss_cons (ps_if (pt_not (pt_val (pe_callB (call_isTK (K := K)) (by rfl) T.z_isinstance rfl (pa_cons (pv 0) (pa_cons (pe_bltn (v := V.ty "str") rfl T.z_str rfl rfl) pa_nil (se rfl)) (se rfl)) (he := se rfl) (hpl := na rfl)))) (pss_one ps_never)
      pss_nil)
    (pss_cons (ps_set (i := 1) nd rfl (Or.inl rfl) (pe_bm PySem.F.plainAttrs_str PySem.F.slot_str_split PySem.F.type_str_split mt_splitY (pv 0) (pa_cons pe_str pa_nil (se rfl))))
    (pss_cons (ps_if (pt_cmpR op_gt (pe_callB call_lenL (by rfl) T.z_len PySem.boot_len (pa_cons (pv 1) pa_nil (se rfl)) (he := se rfl) (hpl := na rfl)) (pe_globI rfl T.c_MOST_PARTS) (nomark _)) (pss_one ps_never)
      pss_nil)
    (pss_one (ps_ret (pe_comp rfl (N := ["text", "pieces"]) (so := defScope (top 55)) (N' := ["piece"]) (k := 1) (fr := []) rfl rfl ⟨rfl, by decide +kernel, by decide +kernel, by decide +kernel, rfl, by decide +kernel, by decide +kernel⟩ (pi_listK (K := K) (pv 1)) (fun _ _ _ _ _ => (pg_name (i := 0) (show (["piece"] : List Str).Nodup by decide +kernel) rfl (Or.inl rfl))) (fun _ _ _ _ _ => pts_nil)
      (fun _ _ _ _ _ => (pe_cal c_read_part (hr.mono (by decide)) rfl strictP.pass (pa_cons (pv 0) pa_nil (se rfl)) (he := se rfl) (hpl := na rfl))))))))), ?_⟩
    have pl := pl_len gp
    have cut := pl_cut pn gp
    change tSeq _ _ _ [some (.str (xlT ps)), none] H
    refine seq_gen (fun σ' H1 => H = H1 ∧ σ' = [some (.str (xlT ps)), none]) ?_ (fun N hN => ?_)
    case refine_2 =>
      simp_all only []
      refine ⟨_, TyOf.str _, _, kit_ss, ?_⟩
      rw [if_neg (by decide)]
      exact hN _ _ ⟨rfl, rfl⟩
    rintro _ _ ⟨rfl, rfl⟩
    change tSeq _ _ _ [some (.str (xlT ps)), none] H
    refine seq_gen (fun σ' H1 => Same H H1 ∧ ∃ l, H1 l = some (.lst (List.map V.str (ps.map xpT))) ∧ σ' = [some (.str (xlT ps)), some (.ref l)]) ?_ (fun N hN => ?_)
    case refine_2 =>
      simp_all only []
      refine ⟨rfl, by decide +kernel, by omega, fun l nl => ?_⟩
      rw [plus_eq, cut]
      exact hN _ _ ⟨same_upd nl, l, upd_same, rfl⟩
    rintro _ H1 ⟨sm1, l, hl, rfl⟩
    change tSeq _ _ _ [some (.str (xlT ps)), some (.ref l)] H1
    refine seq_gen (fun σ' H2 => H1 = H2 ∧ σ' = [some (.str (xlT ps)), some (.ref l)]) ?_ (fun N hN => ?_)
    case refine_2 =>
      simp_all only []
      refine ⟨_, hl, ?_⟩
      rw [if_neg (by rw [List.length_map, List.length_map]; omega)]
      exact hN _ _ ⟨rfl, rfl⟩
    rintro _ _ ⟨rfl, rfl⟩
    simp_all only []
    refine ⟨⟨_, SqL.of hl⟩, ?_⟩
    refine comp_map (src_list (K := K) (fun H' s' => SqL.of (s' _ _ hl))) (fun _ _ _ _ h => by rw [h.1]; exact Same.refl _) (by rw [List.length_map, List.length_map, sizeLine_eq]; omega) (fun i y H4 => ∀ p, ps[i]? = some p → ∃ q, y = .ref q ∧ H4 q = some (.tup (xpV p))) (fun i y H4 H5 s5 h p e => let ⟨q, a, b⟩ := h p e; ⟨q, a, s5 _ _ b⟩) ?_ ?_
    · rintro i x w0 H4 H5 Q2 hi s4 ⟨rfl, ex⟩ kq
      rw [List.getElem?_map, List.getElem?_map] at ex
      obtain ⟨tx, etx, rfl⟩ := Option.map_eq_some_iff.mp ex
      obtain ⟨p, ep, rfl⟩ := Option.map_eq_some_iff.mp etx
      simp_all only [spXp]
      refine ⟨p, rfl, gp p (List.mem_of_getElem? ep), fun q H6 s6 e6 => kq _ _ s6 fun p' ep' => ?_⟩
      rw [ep] at ep'
      cases ep'
      exact ⟨q, rfl, e6⟩
    · intro ys H5 s5 ly hy D n1 n2
      rw [List.length_map, List.length_map] at ly
      refine kk _ _ (sm1.trans (s5.trans (same_upd n2))) (none_of (sm1.trans s5) n2) ⟨ys, upd_same, ly, fun i p ep => ?_⟩
      have li : i < ys.length := by
        have := (List.getElem?_eq_some_iff.mp ep).1
        omega
      obtain ⟨q, eq, hq⟩ := hy i _ (List.getElem?_eq_getElem li) p ep
      exact ⟨q, by rw [List.getElem?_eq_getElem li, eq], same_upd n2 _ _ hq⟩
theorem sc_show_dice : FnScope ["dice", "sides"] ["dice", "sides"] (defScope (top 48)) := ⟨rfl, rfl, rfl, by decide +kernel, rfl, by decide +kernel, by decide +kernel⟩
theorem ok_shd (T : Txt K mg w.params q_NoShare q_NoTable q_TooMany q_OF_MANY q_OF_ONE) : Cal P w K mg base (CX1 P w) 1 "show_dice" ["dice", "sides"] spShD := by
  refine T.d_show_dice.cal (fun _ _ _ _ _ _ us hl => match us, hl with | [_, _], _ => rfl) fun f fd F => F.okC sc_show_dice (fun vs H Q E h => ?_) (fun cdv A outer s H vs Q E hr h => ?_)
  · obtain ⟨_, _, rfl, _⟩ := h; rfl
  · obtain ⟨a, b, rfl, a0, a1, b0, b1, k⟩ := h
    have nd := sc_show_dice.nd
    refine ⟨_, (pss_cons (ps_if (pt_cmpR op_eq (pv 0) pe_int (nomark _)) (pss_one (ps_ret (pe_joined (pj_lit (pj_int (pv 1) pj_nil)))))
      pss_nil)
    (pss_one (ps_ret (pe_joined (pj_int (pv 0) (pj_lit (pj_int (pv 1) pj_nil))))))), ?_⟩
    have l1 := (num_fig (k := a) (by omega) (by omega)).2.1
    have l2 := (num_fig (k := b) (by omega) (by omega)).2.1
    have e : (Str.ofString "d").length = 1 := by decide +kernel
    unfold numT at l1 l2
    simp_all only [Str.empty_append, strLen_append, sizeLine_eq]
    unfold dcT numT at k
    by_cases c : a = 1
    · rw [if_pos c] at k ⊢
      rw [empty_app] at k
      exact ⟨by omega, log_small (by omega) (by omega), by omega, k⟩
    · rw [if_neg c] at k ⊢
      exact ⟨log_small (by omega) (by omega), by omega, by omega, log_small (by omega) (by omega), by omega, k⟩
theorem sc_show_part : FnScope ["part", "dice"] ["part"] (defScope (top 49)) := ⟨rfl, rfl, rfl, by decide +kernel, rfl, by decide +kernel, by decide +kernel⟩
theorem ok_shp (T : Txt K mg w.params q_NoShare q_NoTable q_TooMany q_OF_MANY q_OF_ONE) : Cal P w K mg base (CX1 P w) 2 "show_part" ["part"] spShP := by
  have c_show_dice : Cal P w K mg base (CX1 P w) 1 "show_dice" ["dice", "sides"] spShD := ok_shd T
  refine T.d_show_part.cal (fun _ _ _ _ _ _ us hl => match us, hl with | [_], _ => rfl) fun f fd F => F.okC sc_show_part (fun vs H Q E h => ?_) (fun cdv A outer s H vs Q E hr h => ?_)
  · obtain ⟨_, _, rfl, _⟩ := h; rfl
  · obtain ⟨q, p, rfl, hq, gp, k⟩ := h
    have nd := sc_show_part.nd
    refine ⟨_, (pss_cons (ps_if (pt_cmpR op_eq (pe_ix ix_tupH (pv 0) pe_int (fun _ _ => rfl)) pe_str (nomark _)) (pss_one (ps_ret (pe_callTy call_str_i (by rfl) T.z_str rfl (pa_cons (pe_ix ix_tupH (pv 0) pe_int (fun _ _ => rfl)) pa_nil (se rfl)) (he := se rfl) (hpl := na rfl))))
      pss_nil)
    (pss_cons (ps_if (pt_cmpR op_eq (pe_ix ix_tupH (pv 0) pe_int (fun _ _ => rfl)) pe_str (nomark _)) (pss_one (ps_ret (pe_cal c_show_dice (hr.mono (by decide)) rfl strictP.pass (pa_cons (pe_ix ix_tupH (pv 0) pe_int (fun _ _ => rfl)) (pa_cons (pe_ix ix_tupH (pv 0) pe_int (fun _ _ => rfl)) pa_nil (se rfl)) (se rfl)) (he := se rfl) (hpl := na rfl))))
      pss_nil)
    (pss_cons (ps_set (i := 1) nd rfl (Or.inl rfl) (pe_ifExp (pt_cmpR (op_in_modK (K := K) (w := w)) (pe_ix ix_tupH (pv 0) pe_int (fun _ _ => rfl)) (pe_glob (v := V.ref _) rfl T.g_OF_ONE rfl) rfl) pe_int (pe_ix ix_tupH (pv 0) pe_int (fun _ _ => rfl))))
    (pss_one (ps_ret (pe_bm PySem.F.plainAttrs_str PySem.F.slot_str_join PySem.F.type_str_join (mt_joinK (K := K)) pe_str (pa_cons (pe_lst (pa_cons (pe_ix ix_tupH (pv 0) pe_int (fun _ _ => rfl)) (pa_cons (pe_callTy call_str_i (by rfl) T.z_str rfl (pa_cons (pe_ix ix_tupH (pv 0) pe_int (fun _ _ => rfl)) pa_nil (se rfl)) (he := se rfl) (hpl := na rfl)) (pa_cons pe_str (pa_cons (pe_cal c_show_dice (hr.mono (by decide)) rfl strictP.pass (pa_cons (pv 1) (pa_cons (pe_ix ix_tupH (pv 0) (pe_un un_neg pe_int) (fun _ _ => rfl)) pa_nil (se rfl)) (se rfl)) (he := se rfl) (hpl := na rfl)) pa_nil (se rfl)) (se rfl)) (se rfl)) (se rfl))) pa_nil (se rfl)))))))), ?_⟩
    have md := T.m_OF_ONE
    cases p with
    | num a =>
      obtain ⟨a0, a1⟩ := gp
      simp only [xpV] at hq
      simp_all only [spShD, hq]
      exact ⟨log_small (by omega) (by omega), k _ (Same.refl _)⟩
    | dice a b =>
      obtain ⟨a0, a1, b0, b1⟩ := gp
      simp only [xpV] at hq
      simp_all only [spShD, hq]
      rw [if_neg (by decide +kernel)]
      exact ⟨by omega, by omega, by omega, by omega, k _ (Same.refl _)⟩
    | one x a b =>
      obtain ⟨hx, a0, b0, b1⟩ := gp
      simp only [xpV] at hq
      have n1 : x ≠ Str.ofString "number" := by rcases hx with ⟨rfl, _⟩ | ⟨rfl, _⟩ <;> decide +kernel
      have n2 : x ≠ Str.ofString "dice" := by rcases hx with ⟨rfl, _⟩ | ⟨rfl, _⟩ <;> decide +kernel
      have i1 : ([Str.ofString "again", Str.ofString "burst"].any fun k => decide (k = x)) = true := by rcases hx with ⟨rfl, _⟩ | ⟨rfl, _⟩ <;> decide +kernel
      have lx : x.length ≤ 5 := by rcases hx with ⟨rfl, _⟩ | ⟨rfl, _⟩ <;> decide +kernel
      have a20 : a ≤ 20 := by rcases hx with ⟨_, h⟩ | ⟨_, h⟩ <;> omega
      simp_all only [spShD, hq]
      rw [if_neg n1, if_neg n2]
      refine md.rd ⟨_, rfl, ?_⟩
      rw [if_pos i1]
      refine ⟨rfl, _, hq, _, at0, _, hq, _, at1, _, rfl, log_small (by omega) (by omega), _, hq, _, atI_last [V.str x, V.int a] _, _, rfl, by decide, by decide, by omega, by omega, by decide, fun l nl => ⟨[x, _, _, _], SqL.of upd_same, join4_ok lx (num_fig (k := a) (by omega) (by omega)).2.1 (dcT_len (by decide) (by decide) (by omega) (by omega)), ?_⟩⟩
      have := k _ (same_upd nl (o := .lst [V.str x, V.str (numT a), V.str (Str.ofString "of"), V.str (dcT 1 b)]))
      rw [xpT_join, sp_eq] at this
      exact this
    | many x a b c =>
      obtain ⟨hx, a0, b0, b1, c0, c1⟩ := gp
      simp only [xpV] at hq
      have n1 : x ≠ Str.ofString "number" := by rcases hx with ⟨rfl, _⟩ | ⟨rfl, _⟩ | ⟨rfl, _⟩ <;> decide +kernel
      have n2 : x ≠ Str.ofString "dice" := by rcases hx with ⟨rfl, _⟩ | ⟨rfl, _⟩ | ⟨rfl, _⟩ <;> decide +kernel
      have i1 : ([Str.ofString "again", Str.ofString "burst"].any fun k => decide (k = x)) = false := by rcases hx with ⟨rfl, _⟩ | ⟨rfl, _⟩ | ⟨rfl, _⟩ <;> decide +kernel
      have lx : x.length ≤ 5 := by rcases hx with ⟨rfl, _⟩ | ⟨rfl, _⟩ | ⟨rfl, _⟩ <;> decide +kernel
      have a20 : a ≤ 20 := by rcases hx with ⟨_, h⟩ | ⟨_, h⟩ | ⟨_, h⟩ <;> omega
      simp_all only [spShD, hq]
      rw [if_neg n1, if_neg n2]
      refine md.rd ⟨_, rfl, ?_⟩
      rw [i1, if_neg (by decide)]
      refine ⟨_, hq, _, at2, rfl, _, hq, _, at0, _, hq, _, at1, _, rfl, log_small (by omega) (by omega), _, hq, _, atI_last [V.str x, V.int a, V.int b] _, _, rfl, _, rfl, by omega, by omega, by omega, by omega, by decide, fun l nl => ⟨[x, _, _, _], SqL.of upd_same, join4_ok lx (num_fig (k := a) (by omega) (by omega)).2.1 (dcT_len (by omega) (by omega) (by omega) (by omega)), ?_⟩⟩
      have := k _ (same_upd nl (o := .lst [V.str x, V.str (numT a), V.str (Str.ofString "of"), V.str (dcT b c)]))
      rw [xpT_join, sp_eq] at this
      exact this
theorem sc_show_pool : FnScope ["pool"] ["pool"] (defScope (top 50)) := ⟨rfl, rfl, rfl, by decide +kernel, rfl, by decide +kernel, by decide +kernel⟩
theorem ok_shl (T : Txt K mg w.params q_NoShare q_NoTable q_TooMany q_OF_MANY q_OF_ONE) : Cal P w K mg base (CX1 P w) 3 "show_pool" ["pool"] spShL := by
  have c_show_part : Cal P w K mg base (CX1 P w) 2 "show_part" ["part"] spShP := ok_shp T
  refine T.d_show_pool.cal (fun _ _ _ _ _ _ us hl => match us, hl with | [_], _ => rfl) fun f fd F => F.okC sc_show_pool (fun vs H Q E h => ?_) (fun cdv A outer s H vs Q E hr h => ?_)
  · obtain ⟨_, _, rfl, _⟩ := h; rfl
  · obtain ⟨l, ps, rfl, ⟨xs, hl, len, hx⟩, hz, gp, k⟩ := h
    have nd := sc_show_pool.nd
    refine ⟨_, (pss_one (ps_ret (pe_bm PySem.F.plainAttrs_str PySem.F.slot_str_join PySem.F.type_str_join (mt_joinK (K := K)) pe_str (pa_cons (pe_comp rfl (N := ["pool"]) (so := defScope (top 50)) (N' := ["part"]) (k := 1) (fr := []) rfl rfl ⟨rfl, by decide +kernel, by decide +kernel, by decide +kernel, rfl, by decide +kernel, by decide +kernel⟩ (pi_listK (K := K) (pv 0)) (fun _ _ _ _ _ => (pg_name (i := 0) (show (["part"] : List Str).Nodup by decide +kernel) rfl (Or.inl rfl))) (fun _ _ _ _ _ => pts_nil)
      (fun _ _ _ _ _ => (pe_cal c_show_part (hr.mono (by decide)) rfl strictP.pass (pa_cons (pv 0) pa_nil (se rfl)) (he := se rfl) (hpl := na rfl)))) pa_nil (se rfl))))), ?_⟩
    simp_all only []
    refine ⟨rfl, ⟨_, SqL.of hl⟩, ?_⟩
    refine comp_map (src_list (fun H2 s2 => s2.seq (SqL.of hl))) (fun _ _ _ _ h => by rw [h.1]; exact Same.refl _) (by rw [sizeLine_eq]; omega) (fun i y _ => ∀ p, ps[i]? = some p → y = .str (xpT p)) (fun i y H2 H3 s3 h => h) ?_ ?_
    · rintro i x w0 H2 H3 Q2 hi s2 ⟨rfl, ex⟩ kq
      have li : i < ps.length := by omega
      obtain ⟨q, e1, hq⟩ := hx i _ (List.getElem?_eq_getElem li)
      rw [e1] at ex
      cases ex
      simp_all only [spShP]
      refine ⟨_, s2 _ _ hq, gp _ (List.getElem_mem li), fun H4 s4 => kq _ _ s4 fun p' ep' => ?_⟩
      rw [List.getElem?_eq_getElem li] at ep'
      cases ep'
      rfl
    · intro ys H2 s2 ly hy D n1 n2
      have eys : ys = List.map V.str (ps.map xpT) := by
        apply List.ext_getElem?
        intro i
        by_cases hi : i < ps.length
        · have l1 : i < ys.length := by omega
          rw [List.getElem?_eq_getElem l1, hy i _ (List.getElem?_eq_getElem l1) _ (List.getElem?_eq_getElem hi), List.getElem?_map, List.getElem?_map, List.getElem?_eq_getElem hi]
          rfl
        · rw [List.getElem?_eq_none (by omega), List.getElem?_eq_none (by rw [List.length_map, List.length_map]; omega)]
      subst eys
      refine ⟨_, SqL.of upd_same, pool_ok hz gp, ?_⟩
      have := k _ (s2.trans (same_upd n2 (o := .lst (List.map V.str (ps.map xpT)))))
      unfold xlT at this
      rw [← StrLaws.glued_eq_join, ← plus_eq] at this
      exact this
theorem sc__law_at : FnScope ["_law_script", "_law_k", "_law_base"] ["_law_script", "_law_k"] (defScope (top 57)) := ⟨rfl, rfl, rfl, by decide +kernel, rfl, by decide +kernel, by decide +kernel⟩
theorem ok_at (T : Txt K mg w.params q_NoShare q_NoTable q_TooMany q_OF_MANY q_OF_ONE) : Cal P w K mg base (CX1 P w) 1 "_law_at" ["_law_script", "_law_k"] (spAt K) := by
  refine T.d__law_at.cal (fun _ _ _ _ _ _ us hl => match us, hl with | [_, _], _ => rfl) fun f fd F => F.okC sc__law_at (fun vs H Q E h => ?_) (fun cdv A outer s H vs Q E hr h => ?_)
  · obtain ⟨_, _, _, rfl, _⟩ := h; rfl
  · obtain ⟨a, ns, k, rfl, hS, k0, k1, kk⟩ := h
    have nd := sc__law_at.nd
    refine ⟨_, (pss_cons (ps_if (pt_cmpR op_lt (pv 1) (pe_callB (call_lenQK (K := K)) (by rfl) T.z_len PySem.boot_len (pa_cons (pv 0) pa_nil (se rfl)) (he := se rfl) (hpl := na rfl)) (nomark _)) (pss_one (ps_ret (pe_ix (ix_listSK (K := K)) (pv 0) (pv 1) (fun _ _ => rfl))))
      pss_nil)
    (pss_cons (ps_set (i := 2) nd rfl (Or.inl rfl) pe_int)
    (pss_cons (ps_if (pt_cmpR op_gt (pe_callB (call_lenQK (K := K)) (by rfl) T.z_len PySem.boot_len (pa_cons (pv 0) pa_nil (se rfl)) (he := se rfl) (hpl := na rfl)) pe_int (nomark _)) (pss_one (ps_set (i := 2) nd rfl (Or.inl rfl) (pe_op op_modB (pe_ix (ix_listSK (K := K)) (pv 0) (pe_op op_modB (pe_op op_add (pe_op op_mulB (pv 1) pe_int) pe_int) (pe_callB (call_lenQK (K := K)) (by rfl) T.z_len PySem.boot_len (pa_cons (pv 0) pa_nil (se rfl)) (he := se rfl) (hpl := na rfl))) (fun _ _ => rfl)) pe_int)))
      pss_nil)
    (pss_one (ps_ret (pe_op op_modB (pe_op op_mulB (pe_op op_add (pe_op op_add (pv 2) (pe_op op_mulB pe_int (pv 1))) pe_int) (pe_op op_add (pe_op op_add (pe_op op_mulB (pv 2) pe_int) (pe_op op_mulB (pv 1) (pv 1))) pe_int)) pe_int)))))), ?_⟩
    simp_all only [rIxQ]
    have kq : IntMulOk k k := mulOkL (by omega) (by omega)
    refine ⟨ns, hS, ite2 (fun c => ⟨ns, hS, k0, c, kk _⟩) (fun c => ⟨ns, hS, ite2 (fun z => ?_) (fun z => ?_)⟩)⟩
    · have m1 := Int.emod_nonneg (ns.getD ((k * 19 + 9) % (ns.length : Int)).toNat 0) (show (998897 : Int) ≠ 0 by decide)
      have m2 := Int.emod_lt_of_pos (ns.getD ((k * 19 + 9) % (ns.length : Int)).toNat 0) (show (0 : Int) < 998897 by decide)
      exact ⟨mulOkR, ns, hS, z, ns, hS, Int.emod_nonneg _ (by omega), Int.emod_lt_of_pos _ z, by decide, mulOkL, mulOkR, kq, mulOkL (by omega) (by omega), by decide, kk _⟩
    · exact ⟨mulOkL, mulOkL, kq, mulOkL (by omega) (by omega), by decide, kk _⟩
theorem sc__law_power : FnScope ["_law_base", "_law_many_here", "_law_found", "_law_k"] ["_law_base", "_law_many_here"] (defScope (top 58)) := ⟨rfl, rfl, rfl, by decide +kernel, rfl, by decide +kernel, by decide +kernel⟩
theorem ok_lp (T : Txt K mg w.params q_NoShare q_NoTable q_TooMany q_OF_MANY q_OF_ONE) : Cal P w K mg base (CX1 P w) 1 "_law_power" ["_law_base", "_law_many_here"] spLp := by
  refine T.d__law_power.cal (fun _ _ _ _ _ _ us hl => match us, hl with | [_, _], _ => rfl) fun f fd F => F.okC sc__law_power (fun vs H Q E h => ?_) (fun cdv A outer s H vs Q E hr h => ?_)
  · obtain ⟨_, _, rfl, _⟩ := h; rfl
  · obtain ⟨b, e, rfl, b20, e10, kk⟩ := h
    have nd := sc__law_power.nd
    refine ⟨_, (pss_cons (ps_set (i := 2) nd rfl (Or.inl rfl) pe_int)
    (pss_cons (ps_for PassesOwn.never rfl (pi_range1 rfl T.z_range (pa_cons (pv 1) pa_nil (se rfl))) (pg_name (i := 3) nd rfl (Or.inl rfl)) (pss_one (ps_set (i := 2) nd rfl (Or.inl rfl) (pe_op op_mulB (pv 2) (pv 0)))))
    (pss_one (ps_ret (pv 2))))), ?_⟩
    have sl := sizeLine_eq
    simp_all only []
    refine ⟨by omega, by omega, for_src (src_range (Ok := fun _ => True)) (fun i σ H' => H = H' ∧ ∃ z, σ = [some (.int (b : Int)), some (.int (e : Int)), some (.int ((b ^ i : Nat) : Int)), z]) ⟨rfl, _, rfl⟩ (fun _ _ _ _ _ => trivial) ?_ ?_⟩
    · rintro i x σ H' H'' hi ⟨rfl, z, rfl⟩ ⟨rfl, rfl⟩
      have le := pow_small (e := i) b20 (by omega)
      simp_all only []
      refine ⟨mulOkL (by omega) (by omega), ?_, _, rfl⟩
      rw [Nat.pow_succ, Int.natCast_mul]
    · rintro σ H' ⟨rfl, z, rfl⟩
      rw [Int.toNat_natCast]
      simp_all only []
      exact kk
theorem sc__law_part : FnScope ["_law_one", "_law_two", "_law_sides", "_law_many_here", "_law_kind"] ["_law_one", "_law_two"] (defScope (top 59)) := ⟨rfl, rfl, rfl, by decide +kernel, rfl, by decide +kernel, by decide +kernel⟩
theorem ok_lpt (T : Txt K mg w.params q_NoShare q_NoTable q_TooMany q_OF_MANY q_OF_ONE) : Cal P w K mg base (CX1 P w) 1 "_law_part" ["_law_one", "_law_two"] spLPt := by
  refine T.d__law_part.cal (fun _ _ _ _ _ _ us hl => match us, hl with | [_, _], _ => rfl) fun f fd F => F.okC sc__law_part (fun vs H Q E h => ?_) (fun cdv A outer s H vs Q E hr h => ?_)
  · obtain ⟨_, _, rfl, _⟩ := h; rfl
  · obtain ⟨a, b, rfl, kk⟩ := h
    have nd := sc__law_part.nd
    refine ⟨_, (pss_cons (ps_set (i := 2) nd rfl (Or.inl rfl) (pe_op op_add pe_int (pe_op op_modB (pe_op op_fdivB (pv 0) pe_int) (pe_ix ix_listH (pe_lst (pa_cons pe_int (pa_cons pe_int (pa_cons pe_int pa_nil (se rfl)) (se rfl)) (se rfl))) (pe_op op_modB (pe_op op_fdivB (pv 0) pe_int) pe_int) (fun _ _ => rfl)))))
    (pss_cons (ps_set (i := 3) nd rfl (Or.inl rfl) (pe_op op_add pe_int (pe_op op_modB (pe_op op_fdivB (pv 0) pe_int) pe_int)))
    (pss_cons (ps_set (i := 4) nd rfl (Or.inl rfl) (pe_op op_modB (pv 0) pe_int))
    (pss_cons (ps_if (pt_cmpR op_eq (pv 4) pe_int (nomark _)) (pss_one (ps_ret (pe_tupS (pa_cons pe_str (pa_cons (pe_op op_modB (pv 1) pe_int) pa_nil (se rfl)) (se rfl)))))
      pss_nil)
    (pss_cons (ps_if (pt_cmpR op_eq (pv 4) pe_int (nomark _)) (pss_one (ps_ret (pe_tupS (pa_cons pe_str (pa_cons (pv 3) (pa_cons (pv 2) pa_nil (se rfl)) (se rfl)) (se rfl)))))
      pss_nil)
    (pss_cons (ps_if (PW.pt (pw_or (pt_cmpR op_eq (pv 4) pe_int (nomark _)) (pw_or1 (pt_cmpR op_eq (pv 4) pe_int (nomark _))))) (pss_one (ps_ret (pe_tupS (pa_cons (pe_ix ix_listH (pe_lst (pa_cons pe_str (pa_cons pe_str pa_nil (se rfl)) (se rfl))) (pe_op op_sub (pv 4) pe_int) (fun _ _ => rfl)) (pa_cons (pe_op op_add pe_int (pe_op op_modB (pv 1) (pv 3))) (pa_cons (pv 3) (pa_cons (pv 2) pa_nil (se rfl)) (se rfl)) (se rfl)) (se rfl)))))
      pss_nil)
    (pss_cons (ps_if (pt_cmpR op_eq (pv 4) pe_int (nomark _)) (pss_one (ps_ret (pe_tupS (pa_cons pe_str (pa_cons (pe_op op_add pe_int (pe_op op_modB (pv 1) pe_int)) (pa_cons (pv 3) (pa_cons (pv 2) pa_nil (se rfl)) (se rfl)) (se rfl)) (se rfl)))))
      pss_nil)
    (pss_cons (ps_if (pt_cmpR op_eq (pv 4) pe_int (nomark _)) (pss_one (ps_ret (pe_tupS (pa_cons pe_str (pa_cons (pe_op op_modB (pv 1) pe_int) (pa_cons (pv 2) pa_nil (se rfl)) (se rfl)) (se rfl)))))
      pss_nil)
    (pss_one (ps_ret (pe_tupS (pa_cons pe_str (pa_cons (pe_op op_modB (pv 1) pe_int) (pa_cons (pv 2) pa_nil (se rfl)) (se rfl)) (se rfl))))))))))))), ?_⟩
    have sl := sizeLine_eq
    have b0 := Int.emod_nonneg (a / 140) (show (4 : Int) ≠ 0 by decide)
    have b1 := Int.emod_lt_of_pos (a / 140) (show (0 : Int) < 4 by decide)
    have c0 := Int.emod_nonneg (a / 1000) (show (3 : Int) ≠ 0 by decide)
    have c1 := Int.emod_lt_of_pos (a / 1000) (show (0 : Int) < 3 by decide)
    have k0 := Int.emod_nonneg a (show (7 : Int) ≠ 0 by decide)
    have k1 := Int.emod_lt_of_pos a (show (0 : Int) < 7 by decide)
    change tSeq _ _ _ [some (.int a), some (.int b), none, none, none] H
    refine seq_gen (fun σ' H1 => Same H H1 ∧ ∃ sz : Nat, 1 ≤ sz ∧ sz ≤ 20 ∧ σ' = [some (.int a), some (.int b), some (.int (sz : Int)), none, none]) ?_ (fun N hN => ?_)
    case refine_2 =>
      simp_all only []
      refine ⟨CDivB.lit, by decide, fun l n1 => ⟨CDivB.lit, by decide, _, upd_same, ?_⟩⟩
      obtain ⟨t, et, t0, t1⟩ : ∃ t : Int, atI [V.int 5, V.int 8, V.int 20] (a / 1000 % 3) = some (.int t) ∧ 0 < t ∧ t ≤ 20 := by
        generalize a / 1000 % 3 = k at *
        have : k = 0 ∨ k = 1 ∨ k = 2 := by omega
        rcases this with rfl | rfl | rfl
        · exact ⟨5, rfl, by decide, by decide⟩
        · exact ⟨8, rfl, by decide, by decide⟩
        · exact ⟨20, rfl, by decide, by decide⟩
      have a0 := Int.emod_nonneg (a / 7) (show t ≠ 0 by omega)
      have a1 := Int.emod_lt_of_pos (a / 7) t0
      refine ⟨_, et, _, rfl, t0, hN _ _ ⟨same_upd n1, (1 + a / 7 % t).toNat, by omega, by omega, ?_⟩⟩
      rw [Int.toNat_of_nonneg (by omega)]
    rintro _ H1 ⟨sm1, sz, z1, z20, rfl⟩
    change tSeq _ _ _ [some (.int a), some (.int b), some (.int (sz : Int)), none, none] H1
    refine seq_gen (fun σ' H2 => H1 = H2 ∧ ∃ m : Nat, 1 ≤ m ∧ m ≤ 4 ∧ σ' = [some (.int a), some (.int b), some (.int (sz : Int)), some (.int (m : Int)), none]) ?_ (fun N hN => ?_)
    case refine_2 =>
      simp_all only []
      refine ⟨CDivB.lit, by decide, hN _ _ ⟨rfl, (1 + a / 140 % 4).toNat, by omega, by omega, ?_⟩⟩
      rw [Int.toNat_of_nonneg (by omega)]
    rintro _ _ ⟨rfl, m, m1, m4, rfl⟩
    have m6 : m ≤ 6 := by omega
    change tSeq _ _ _ [some (.int a), some (.int b), some (.int (sz : Int)), some (.int (m : Int)), none] H1
    refine seq_gen (fun σ' H2 => H1 = H2 ∧ σ' = [some (.int a), some (.int b), some (.int (sz : Int)), some (.int (m : Int)), some (.int (a % 7))]) ?_ (fun N hN => ?_)
    case refine_2 =>
      simp_all only []
      exact ⟨by decide, hN _ _ ⟨rfl, rfl⟩⟩
    rintro _ _ ⟨rfl, rfl⟩
    have d0 := Int.emod_nonneg b (show (100 : Int) ≠ 0 by decide)
    have d1 := Int.emod_lt_of_pos b (show (0 : Int) < 100 by decide)
    have e0 := Int.emod_nonneg b (show (20 : Int) ≠ 0 by decide)
    have e1 := Int.emod_lt_of_pos b (show (0 : Int) < 20 by decide)
    have f0 := Int.emod_nonneg b (show (21 : Int) ≠ 0 by decide)
    have f1 := Int.emod_lt_of_pos b (show (0 : Int) < 21 by decide)
    have g0 := Int.emod_nonneg b (show (m : Int) ≠ 0 by omega)
    have g1 := Int.emod_lt_of_pos b (show (0 : Int) < m by omega)
    have h0 := Int.emod_nonneg b (show (7 : Int) ≠ 0 by decide)
    have h1 := Int.emod_lt_of_pos b (show (0 : Int) < 7 by decide)
    generalize a % 7 = kd at *
    change tSeq _ _ _ [some (.int a), some (.int b), some (.int (sz : Int)), some (.int (m : Int)), some (.int kd)] H1
    refine seq_gen (fun σ' H2 => H1 = H2 ∧ kd ≠ 0 ∧ σ' = [some (.int a), some (.int b), some (.int (sz : Int)), some (.int (m : Int)), some (.int kd)]) ?_ (fun N hN => ?_)
    case refine_2 =>
      simp_all only []
      refine ite2 (fun c => ⟨by decide, by decide, fun q H2 s2 nq e2 => ?_⟩) (fun c => hN _ _ ⟨rfl, c, rfl⟩)
      refine kk q (.num (b % 100).toNat) H2 (sm1.trans s2) ?_ (show (b % 100).toNat ≤ 99 by omega) trivial
      rw [e2, ptV, Int.toNat_of_nonneg d0]
    rintro _ _ ⟨rfl, n0, rfl⟩
    change tSeq _ _ _ [some (.int a), some (.int b), some (.int (sz : Int)), some (.int (m : Int)), some (.int kd)] H1
    refine seq_gen (fun σ' H2 => H1 = H2 ∧ kd ≠ 1 ∧ σ' = [some (.int a), some (.int b), some (.int (sz : Int)), some (.int (m : Int)), some (.int kd)]) ?_ (fun N hN => ?_)
    case refine_2 =>
      simp_all only []
      refine ite2 (fun c => ⟨by decide, fun q H2 s2 nq e2 => ?_⟩) (fun c => hN _ _ ⟨rfl, c, rfl⟩)
      exact kk q (.dice m sz) H2 (sm1.trans s2) e2 ⟨z1, z20, m6⟩ m1
    rintro _ _ ⟨rfl, n1, rfl⟩
    change tSeq _ _ _ [some (.int a), some (.int b), some (.int (sz : Int)), some (.int (m : Int)), some (.int kd)] H1
    refine seq_gen (fun σ' H2 => H1 = H2 ∧ kd ≠ 2 ∧ kd ≠ 3 ∧ σ' = [some (.int a), some (.int b), some (.int (sz : Int)), some (.int (m : Int)), some (.int kd)]) ?_ (fun N hN => ?_)
    case refine_2 =>
      simp_all only []
      by_cases k2 : kd = 2
      · subst k2
        rw [if_pos rfl]
        refine ⟨by decide, fun l nl => ⟨_, upd_same, _, at0, by omega, by decide, fun q H2 s2 nq e2 => ?_⟩⟩
        refine kk q (.worst (1 + b % m).toNat m sz) H2 (sm1.trans ((same_upd nl).trans s2)) ?_ ⟨z1, z20, m6, by omega⟩ ⟨by omega, m1⟩
        rw [e2, ptV, Int.toNat_of_nonneg (by omega)]
      · rw [if_neg k2]
        by_cases k3 : kd = 3
        · subst k3
          rw [if_pos rfl]
          refine ⟨by decide, fun l nl => ⟨_, upd_same, _, at1, by omega, by decide, fun q H2 s2 nq e2 => ?_⟩⟩
          refine kk q (.best (1 + b % m).toNat m sz) H2 (sm1.trans ((same_upd nl).trans s2)) ?_ ⟨z1, z20, m6, by omega⟩ ⟨by omega, m1⟩
          rw [e2, ptV, Int.toNat_of_nonneg (by omega)]
        · rw [if_neg k3]
          exact hN _ _ ⟨rfl, k2, k3, rfl⟩
    rintro _ _ ⟨rfl, n2, n3, rfl⟩
    change tSeq _ _ _ [some (.int a), some (.int b), some (.int (sz : Int)), some (.int (m : Int)), some (.int kd)] H1
    refine seq_gen (fun σ' H2 => H1 = H2 ∧ kd ≠ 4 ∧ σ' = [some (.int a), some (.int b), some (.int (sz : Int)), some (.int (m : Int)), some (.int kd)]) ?_ (fun N hN => ?_)
    case refine_2 =>
      simp_all only []
      refine ite2 (fun c => ⟨by decide, by decide, fun q H2 s2 nq e2 => ?_⟩) (fun c => hN _ _ ⟨rfl, c, rfl⟩)
      refine kk q (.hits (1 + b % 20).toNat m sz) H2 (sm1.trans s2) ?_ ⟨z1, z20, m6, by omega⟩ ⟨by omega, m1⟩
      rw [e2, ptV, Int.toNat_of_nonneg (by omega)]
    rintro _ _ ⟨rfl, n4, rfl⟩
    change tSeq _ _ _ [some (.int a), some (.int b), some (.int (sz : Int)), some (.int (m : Int)), some (.int kd)] H1
    refine seq_gen (fun σ' H2 => H1 = H2 ∧ kd ≠ 5 ∧ σ' = [some (.int a), some (.int b), some (.int (sz : Int)), some (.int (m : Int)), some (.int kd)]) ?_ (fun N hN => ?_)
    case refine_2 =>
      simp_all only []
      refine ite2 (fun c => ⟨by decide, by decide, fun q H2 s2 nq e2 => ?_⟩) (fun c => hN _ _ ⟨rfl, c, rfl⟩)
      refine kk q (.again (b % 21).toNat sz) H2 (sm1.trans s2) ?_ ⟨z1, z20, by omega⟩ trivial
      rw [e2, ptV, Int.toNat_of_nonneg (by omega)]
    rintro _ _ ⟨rfl, n5, rfl⟩
    simp_all only []
    refine ⟨by decide, by decide, fun q H2 s2 nq e2 => ?_⟩
    refine kk q (.burst (b % 7).toNat sz) H2 (sm1.trans s2) ?_ ⟨z1, z20, by omega⟩ trivial
    rw [e2, ptV, Int.toNat_of_nonneg h0]
theorem sc__law_many : FnScope ["_law_part_here", "_law_sides", "_law_low"] ["_law_part_here"] (defScope (top 60)) := ⟨rfl, rfl, rfl, by decide +kernel, rfl, by decide +kernel, by decide +kernel⟩
theorem ok_lma (T : Txt K mg w.params q_NoShare q_NoTable q_TooMany q_OF_MANY q_OF_ONE) : Cal P w K mg base (CX1 P w) 2 "_law_many" ["_law_part_here"] spLMa := by
  have c__law_power : Cal P w K mg base (CX1 P w) 1 "_law_power" ["_law_base", "_law_many_here"] spLp := ok_lp T
  refine T.d__law_many.cal (fun _ _ _ _ _ _ us hl => match us, hl with | [_], _ => rfl) fun f fd F => F.okC sc__law_many (fun vs H Q E h => ?_) (fun cdv A outer s H vs Q E hr h => ?_)
  · obtain ⟨_, _, rfl, _⟩ := h; rfl
  · obtain ⟨q, p, rfl, hq, g, kk⟩ := h
    have nd := sc__law_many.nd
    refine ⟨_, (pss_cons (ps_if (pt_cmpR op_eq (pe_ix ix_tupH (pv 0) pe_int (fun _ _ => rfl)) pe_str (nomark _)) (pss_one (ps_ret (pe_lst (pa_cons pe_int (pa_cons pe_int pa_nil (se rfl)) (se rfl)))))
      pss_nil)
    (pss_cons (ps_set (i := 1) nd rfl (Or.inl rfl) (pe_ix ix_tupH (pv 0) (pe_op op_sub (pe_callB call_lenT (by rfl) T.z_len PySem.boot_len (pa_cons (pv 0) pa_nil (se rfl)) (he := se rfl) (hpl := na rfl)) pe_int) (fun _ _ => rfl)))
    (pss_cons (ps_if (pt_cmpR op_eq (pe_ix ix_tupH (pv 0) pe_int (fun _ _ => rfl)) pe_str (nomark _)) (pss_cons (ps_set (i := 2) nd rfl (Or.inl rfl) (pe_callB (call_min2 rfl) (by rfl) T.z_min rfl (pa_cons (pe_ix ix_tupH (pv 0) pe_int (fun _ _ => rfl)) (pa_cons (pv 1) pa_nil (se rfl)) (se rfl)) (he := se rfl) (hpl := na rfl)))
    (pss_one (ps_ret (pe_lst (pa_cons (pe_op op_add (pe_op op_sub (pv 1) (pv 2)) (pe_op op_mulB (pv 2) (pv 1))) (pa_cons (pe_op op_mulB (pv 1) (pe_ix ix_listH (pe_lst (pa_cons pe_int (pa_cons (pv 1) pa_nil (se rfl)) (se rfl))) (pe_callTy call_int_b (by rfl) T.z_int rfl (pa_cons (pe_cmpR op_gt (pe_ix ix_tupH (pv 0) pe_int (fun _ _ => rfl)) pe_int (nomark _)) pa_nil (se rfl)) (he := se rfl) (hpl := na rfl)) (fun _ _ => rfl))) pa_nil (se rfl)) (se rfl))))))
      pss_nil)
    (pss_cons (ps_if (pt_cmpR op_eq (pe_ix ix_tupH (pv 0) pe_int (fun _ _ => rfl)) pe_str (nomark _)) (pss_one (ps_ret (pe_lst (pa_cons (pe_op op_add (pe_op op_mulB (pe_op op_sub (pv 1) pe_int) (pe_ix ix_tupH (pv 0) pe_int (fun _ _ => rfl))) (pv 1)) (pa_cons (pe_cal c__law_power (hr.mono (by decide)) rfl strictP.pass (pa_cons (pv 1) (pa_cons (pe_op op_add (pe_ix ix_tupH (pv 0) pe_int (fun _ _ => rfl)) pe_int) pa_nil (se rfl)) (se rfl)) (he := se rfl) (hpl := na rfl)) pa_nil (se rfl)) (se rfl)))))
      pss_nil)
    (pss_one (ps_ret (pe_lst (pa_cons (pe_cal c__law_power (hr.mono (by decide)) rfl strictP.pass (pa_cons (pv 1) (pa_cons (pe_ix ix_tupH (pv 0) (pe_op op_sub (pe_callB call_lenT (by rfl) T.z_len PySem.boot_len (pa_cons (pv 0) pa_nil (se rfl)) (he := se rfl) (hpl := na rfl)) pe_int) (fun _ _ => rfl)) pa_nil (se rfl)) (se rfl)) (he := se rfl) (hpl := na rfl)) (pa_cons (pe_cal c__law_power (hr.mono (by decide)) rfl strictP.pass (pa_cons (pv 1) (pa_cons (pe_ix ix_tupH (pv 0) (pe_op op_sub (pe_callB call_lenT (by rfl) T.z_len PySem.boot_len (pa_cons (pv 0) pa_nil (se rfl)) (he := se rfl) (hpl := na rfl)) pe_int) (fun _ _ => rfl)) pa_nil (se rfl)) (se rfl)) (he := se rfl) (hpl := na rfl)) pa_nil (se rfl)) (se rfl))))))))), ?_⟩
    have sl := sizeLine_eq
    have s20 := (sd_pos g).2
    have ml := mst_le g
    by_cases hk : Four p
    · have l20 : lst p ≤ 20 := by
        cases p with
        | num n => obtain ⟨wd, f0, w1, _⟩ := hk; exact absurd (V.str.inj (Option.some.inj f0)).symm w1
        | _ => exact s20
      obtain ⟨wd, f0, w1, w2, w3, _, _, f3, f4, ec, eb, _⟩ := hk
      generalize ptV p = vs at *
      simp_all only [hq, f0, f3, f4, spLp]
      rw [if_neg w1, if_neg w2, if_neg w3]
      refine ⟨lst p, rfl, mst p, rfl, l20, by omega, lst p, rfl, mst p, rfl, l20, by omega, by decide, fun l nl => kk l _ (same_upd nl) ?_⟩
      rw [upd_same, ec, eb]
    cases p with
    | num n =>
      simp only [ptV] at hq
      simp_all only [hq]
      exact ⟨by decide, fun l nl => kk l _ (same_upd nl) upd_same⟩
    | again n s =>
      simp only [ptV] at hq
      simp_all only [hq]
      rw [if_neg (by decide +kernel)]
      refine ⟨_, rfl, ?_⟩
      have s20 : s ≤ 20 := g.2.1
      simp_all only [hq]
      have e : (if (s : Int) < (n : Int) then (s : Int) else (n : Int)) = ((min n s : Nat) : Int) := by
        by_cases c : (s : Int) < (n : Int)
        · rw [if_pos c, Nat.min_eq_right (by omega)]
        · rw [if_neg c, Nat.min_eq_left (by omega)]
      rw [e]
      have mn : min n s ≤ s := Nat.min_le_right n s
      have ec : (s : Int) - ((min n s : Nat) : Int) + ((min n s : Nat) : Int) * (s : Int) = ((cnt (.again n s) : Nat) : Int) := by
        show _ = ((min n s * s + (s - min n s) : Nat) : Int)
        rw [Int.natCast_add, Int.natCast_mul, Int.natCast_sub mn]
        omega
      rw [ec]
      refine ⟨mulOkR (by omega) (by omega), by decide, fun y ny => ⟨_, same_upd ny _ _ hq, _, at1, _, rfl, _, upd_same, ?_⟩⟩
      have eb : bot (.again n s) = s ^ (if 0 < n then 2 else 1) := rfl
      by_cases c : 0 < n
      · rw [if_pos (by omega)]
        rw [if_pos c] at eb
        refine ⟨_, rfl, _, rfl, mulOkR (by omega) (by omega), by decide, fun l nl => kk l _ ((same_upd ny).trans (same_upd nl)) ?_⟩
        rw [upd_same, eb, Nat.pow_two, Int.natCast_mul]
      · rw [if_neg (by omega)]
        rw [if_neg c] at eb
        refine ⟨_, rfl, _, rfl, mulOkR, by decide, fun l nl => kk l _ ((same_upd ny).trans (same_upd nl)) ?_⟩
        rw [upd_same, eb, Nat.pow_one, Int.mul_one]
    | burst n s =>
      simp only [ptV] at hq
      simp_all only [hq]
      rw [if_neg (by decide +kernel)]
      refine ⟨_, rfl, ?_⟩
      rw [if_neg (by decide +kernel)]
      simp_all only [hq, spLp]
      have s20 : s ≤ 20 := g.2.1
      have n6 : n ≤ 6 := g.2.2
      refine ⟨mulOkL (by omega) (by omega), s, rfl, n + 1, by omega, s20, by omega, by decide, fun l nl => kk l _ (same_upd nl) ?_⟩
      rw [upd_same]
      have e2 : ((s : Int) - 1) * (n : Int) + (s : Int) = (((n + 1) * (s - 1) + 1 : Nat) : Int) := by
        have e3 : ((s - 1 : Nat) : Int) = (s : Int) - 1 := by have := g.1; omega
        rw [Int.natCast_add, Int.natCast_mul, e3, Int.natCast_add, Int.add_mul, Int.mul_comm]
        omega
      rw [e2]
      rfl
    | dice m s => exact absurd four_dice hk
    | best n m s => exact absurd four_best hk
    | worst n m s => exact absurd four_worst hk
    | hits n m s => exact absurd four_hits hk
theorem sc__law_pool : FnScope ["_law_script", "_law_pool_here", "_law_many_here", "_law_whole", "_law_k", "_law_part_here", "_law_more"] ["_law_script"] (defScope (top 61)) := ⟨rfl, rfl, rfl, by decide +kernel, rfl, by decide +kernel, by decide +kernel⟩
theorem ok_lpo (T : Txt K mg w.params q_NoShare q_NoTable q_TooMany q_OF_MANY q_OF_ONE) : Cal P w K mg base (CX1 P w) 3 "_law_pool" ["_law_script"] (spLPo K) := by
  have c__law_at : Cal P w K mg base (CX1 P w) 1 "_law_at" ["_law_script", "_law_k"] (spAt K) := ok_at T
  have c__law_part : Cal P w K mg base (CX1 P w) 1 "_law_part" ["_law_one", "_law_two"] spLPt := ok_lpt T
  have c__law_many : Cal P w K mg base (CX1 P w) 2 "_law_many" ["_law_part_here"] spLMa := ok_lma T
  refine T.d__law_pool.cal (fun _ _ _ _ _ _ us hl => match us, hl with | [_], _ => rfl) fun f fd F => F.okC sc__law_pool (fun vs H Q E h => ?_) (fun cdv A outer s H vs Q E hr h => ?_)
  · obtain ⟨_, _, rfl, _⟩ := h; rfl
  · obtain ⟨a, ns, rfl, hS, kk⟩ := h
    have nd := sc__law_pool.nd
    refine ⟨_, (pss_cons (ps_set (i := 1) nd rfl (Or.inl rfl) (pe_lst pa_nil))
    (pss_cons (ps_set (i := 2) nd rfl (Or.inl rfl) pe_int)
    (pss_cons (ps_set (i := 3) nd rfl (Or.inl rfl) pe_int)
    (pss_cons (ps_for PassesOwn.never rfl (pi_range1 rfl T.z_range (pa_cons (pe_op op_add pe_int (pe_op op_modB (pe_cal c__law_at (hr.mono (by decide)) rfl strictP.pass (pa_cons (pv 0) (pa_cons pe_int pa_nil (se rfl)) (se rfl)) (he := se rfl) (hpl := na rfl)) pe_int)) pa_nil (se rfl))) (pg_name (i := 4) nd rfl (Or.inl rfl)) (pss_cons (ps_set (i := 5) nd rfl (Or.inl rfl) (pe_cal c__law_part (hr.mono (by decide)) rfl strictP.pass (pa_cons (pe_cal c__law_at (hr.mono (by decide)) rfl strictP.pass (pa_cons (pv 0) (pa_cons (pe_op op_add pe_int (pe_op op_mulB pe_int (pv 4))) pa_nil (se rfl)) (se rfl)) (he := se rfl) (hpl := na rfl)) (pa_cons (pe_cal c__law_at (hr.mono (by decide)) rfl strictP.pass (pa_cons (pv 0) (pa_cons (pe_op op_add pe_int (pe_op op_mulB pe_int (pv 4))) pa_nil (se rfl)) (se rfl)) (he := se rfl) (hpl := na rfl)) pa_nil (se rfl)) (se rfl)) (he := se rfl) (hpl := na rfl)))
    (pss_cons (ps_set (i := 6) nd rfl (Or.inl rfl) (pe_cal c__law_many (hr.mono (by decide)) rfl strictP.pass (pa_cons (pv 5) pa_nil (se rfl)) (he := se rfl) (hpl := na rfl)))
    (pss_one (ps_if (PW.pt (pw_and (pt_cmpR op_le (pe_op op_mulB (pv 2) (pe_ix ix_listH (pv 6) pe_int (fun _ _ => rfl))) pe_int (nomark _)) (pw_and1 (pt_cmpR op_le (pe_op op_mulB (pv 3) (pe_ix ix_listH (pv 6) pe_int (fun _ _ => rfl))) pe_int (nomark _))))) (pss_cons (ps_expr (pe_bm PySem.F.plainAttrs_list PySem.F.slot_list_append PySem.F.type_list_append mt_append.r (pv 1) (pa_cons (pv 5) pa_nil (se rfl))))
    (pss_cons (ps_set (i := 2) nd rfl (Or.inl rfl) (pe_op op_mulB (pv 2) (pe_ix ix_listH (pv 6) pe_int (fun _ _ => rfl))))
    (pss_one (ps_set (i := 3) nd rfl (Or.inl rfl) (pe_op op_mulB (pv 3) (pe_ix ix_listH (pv 6) pe_int (fun _ _ => rfl)))))))
      pss_nil)))))
    (pss_cons (ps_if (pt_cmpR op_eq (pe_callB call_lenL (by rfl) T.z_len PySem.boot_len (pa_cons (pv 1) pa_nil (se rfl)) (he := se rfl) (hpl := na rfl)) pe_int (nomark _)) (pss_one (ps_expr (pe_bm PySem.F.plainAttrs_list PySem.F.slot_list_append PySem.F.type_list_append mt_append.r (pv 1) (pa_cons (pe_tupS (pa_cons pe_str (pa_cons pe_int (pa_cons pe_int pa_nil (se rfl)) (se rfl)) (se rfl))) pa_nil (se rfl)))))
      pss_nil)
    (pss_one (ps_ret (pv 1)))))))), ?_⟩
    have sl := sizeLine_eq
    change tSeq _ _ _ [some (.ref a), none, none, none, none, none, none] H
    refine seq_gen (fun σ' H1 => Same H H1 ∧ ∃ l, H l = none ∧ H1 l = some (.lst []) ∧ σ' = [some (.ref a), some (.ref l), none, none, none, none, none]) ?_ (fun N hN => ?_)
    case refine_2 =>
      simp_all only []
      exact ⟨Nat.zero_le _, fun l nl => hN _ _ ⟨same_upd nl, l, nl, upd_same, rfl⟩⟩
    rintro _ H1 ⟨sm1, l, nl, hl, rfl⟩
    change tSeq _ _ _ [some (.ref a), some (.ref l), none, none, none, none, none] H1
    refine seq_gen (fun σ' H2 => H1 = H2 ∧ σ' = [some (.ref a), some (.ref l), some (.int 1), none, none, none, none]) ?_ (fun N hN => ?_)
    case refine_2 =>
      simp_all only []
      exact hN _ _ ⟨rfl, rfl⟩
    rintro _ _ ⟨rfl, rfl⟩
    change tSeq _ _ _ [some (.ref a), some (.ref l), some (.int 1), none, none, none, none] H1
    refine seq_gen (fun σ' H2 => H1 = H2 ∧ σ' = [some (.ref a), some (.ref l), some (.int 1), some (.int 1), none, none, none]) ?_ (fun N hN => ?_)
    case refine_2 =>
      simp_all only []
      exact hN _ _ ⟨rfl, rfl⟩
    rintro _ _ ⟨rfl, rfl⟩
    change tSeq _ _ _ [some (.ref a), some (.ref l), some (.int 1), some (.int 1), none, none, none] H1
    refine seq_gen (fun σ' H2 => Same H H2 ∧ ∃ ps, PlH H2 l ps ∧ (∀ p ∈ ps, GoodP p ∧ RdP p) ∧ prd (ps.map cnt) ≤ 200 ∧ prd (ps.map bot) ≤ 1000000 ∧ ps.length ≤ 4 ∧ ∃ z1 z3 z4 z5, σ' = [some (.ref a), some (.ref l), z1, some (.int (prd (ps.map bot) : Int)), z3, z4, z5]) ?_ (fun N hN => ?_)
    case refine_2 =>
      simp_all only [spAt]
      refine ⟨ns, sm1.seq hS, by decide, by decide, fun n => ?_⟩
      have n0 := Int.emod_nonneg n (show (4 : Int) ≠ 0 by decide)
      have n1 := Int.emod_lt_of_pos n (show (0 : Int) < 4 by decide)
      refine ⟨by decide, by omega, by omega, ?_⟩
      refine for_src (src_range (Ok := fun _ => True)) (fun i σ H2 => Same H H2 ∧ ∃ ps, PlH H2 l ps ∧ (∀ p ∈ ps, GoodP p ∧ RdP p) ∧ prd (ps.map cnt) ≤ 200 ∧ prd (ps.map bot) ≤ 1000000 ∧ ps.length ≤ i ∧ ∃ z1 z2 z3, σ = [some (.ref a), some (.ref l), some (.int (prd (ps.map cnt) : Int)), some (.int (prd (ps.map bot) : Int)), z1, z2, z3])
        ⟨sm1, [], ⟨_, hl, trivial⟩, by simp, by decide, by decide, Nat.le_refl _, _, _, _, rfl⟩ (fun _ _ _ _ _ => trivial) ?_ ?_
      · rintro i x σ H2 H3 hi ⟨sm, ps, hp, g, c4, b6, li, z1, z2, z3, rfl⟩ ⟨rfl, rfl⟩
        change tSeq _ _ _ [some (.ref a), some (.ref l), some (.int (prd (ps.map cnt) : Int)), some (.int (prd (ps.map bot) : Int)), some (.int (0 + (i : Int))), z2, z3] H3
        refine seq_gen (fun σ' H4 => Same H3 H4 ∧ ∃ q p, H4 q = some (.tup (ptV p)) ∧ (GoodP p ∧ RdP p) ∧ σ' = [some (.ref a), some (.ref l), some (.int (prd (ps.map cnt) : Int)), some (.int (prd (ps.map bot) : Int)), some (.int (0 + (i : Int))), some (.ref q), z3]) ?_ (fun N hN' => ?_)
        case refine_2 =>
          have hS3 := sm.seq hS
          simp_all only [spAt, spLPt]
          exact ⟨mulOkL, ns, hS3, by omega, by omega, fun m1 => ⟨mulOkL, ns, hS3, by omega, by omega, fun m2 q p H4 s4 hq gp rp => hN' _ _ ⟨s4, q, p, hq, ⟨gp, rp⟩, rfl⟩⟩⟩
        rintro _ H4 ⟨sm4, q, p, hq, gp, rfl⟩
        change tSeq _ _ _ [some (.ref a), some (.ref l), some (.int (prd (ps.map cnt) : Int)), some (.int (prd (ps.map bot) : Int)), some (.int (0 + (i : Int))), some (.ref q), z3] H4
        refine seq_gen (fun σ' H5 => Same H4 H5 ∧ ∃ m, H5 m = some (.lst [.int (cnt p : Int), .int (bot p : Int)]) ∧ σ' = [some (.ref a), some (.ref l), some (.int (prd (ps.map cnt) : Int)), some (.int (prd (ps.map bot) : Int)), some (.int (0 + (i : Int))), some (.ref q), some (.ref m)]) ?_ (fun N hN' => ?_)
        case refine_2 =>
          simp_all only [spLMa]
          exact ⟨p, hq, gp.1, fun m H5 s5 hm => hN' _ _ ⟨s5, m, hm, rfl⟩⟩
        rintro _ H5 ⟨sm5, m, hm, rfl⟩
        have hq := sm5 _ _ hq
        have sm35 := sm4.trans sm5
        obtain ⟨xs, hx, ax⟩ := hp.mono sm35
        have lx := ax.length
        have mc : prd ((ps ++ [p]).map cnt) = prd (ps.map cnt) * cnt p := by rw [List.map_append, List.map_cons, List.map_nil, prd_snoc]
        have mb : prd ((ps ++ [p]).map bot) = prd (ps.map bot) * bot p := by rw [List.map_append, List.map_cons, List.map_nil, prd_snoc]
        have pl' : PlH (upd H5 l (.lst (xs ++ [V.ref q]))) l (ps ++ [p]) := ⟨_, upd_same, Al.append (ax.imp fun _ _ ⟨q', e', h'⟩ => ⟨q', e', by rw [upd_ne (fun e => by rw [e, hx] at h'; cases h')]; exact h'⟩) (.one ⟨q, rfl, by rw [upd_ne (fun e => by rw [e, hx] at hq; cases hq)]; exact hq⟩)⟩
        have gd' : ∀ p' ∈ ps ++ [p], GoodP p' ∧ RdP p' := fun p' hp' => by
          rcases List.mem_append.mp hp' with h | h
          · exact g p' h
          · rw [List.mem_singleton.mp h]; exact gp
        have nml : m ≠ l := fun e => by
          rw [e, hx] at hm
          have e2 : xs = [.int (cnt p : Int), .int (bot p : Int)] := by injection hm with h1; injection h1
          rw [e2] at ax
          obtain ⟨p', _, q', e3, _⟩ := ax.get (i := 0) rfl
          cases e3
        have hm' : ∀ xs', upd H5 l (.lst xs') m = some (.lst [.int (cnt p : Int), .int (bot p : Int)]) := fun xs' => by rw [upd_ne nml]; exact hm
        simp_all only [rAppend, tBM, hm]
        have no : Same H H5 ∧ ∃ ps_1, PlH H5 l ps_1 ∧ (∀ p ∈ ps_1, GoodP p ∧ RdP p) ∧ prd (ps_1.map cnt) ≤ 200 ∧ prd (ps_1.map bot) ≤ 1000000 ∧ ps_1.length ≤ i + 1 ∧ ((prd (ps.map cnt) : Nat) : Int) = (prd (ps_1.map cnt) : Nat) ∧ ((prd (ps.map bot) : Nat) : Int) = (prd (ps_1.map bot) : Nat) ∧ ∃ x, some (V.ref m) = x :=
          ⟨sm.trans sm35, ps, ⟨xs, hx, ax⟩, g, c4, b6, by omega, rfl, rfl, _, rfl⟩
        refine ⟨mulOkL (by omega) (by omega), ite2 (fun c1 => ⟨mulOkL (by omega) (by omega), ite2 (fun c2 => ?_) (fun c2 => no)⟩) (fun c1 => ?_)⟩
        · rw [← Int.natCast_mul, ← mc] at c1
          rw [← Int.natCast_mul, ← mb] at c2
          exact ⟨.inl ⟨rfl, _, SqL.of hx⟩, _, hx, by omega, _, hm' _, _, at0, _, rfl, mulOkL (by omega) (by omega), _, hm' _, _, at1, _, rfl, mulOkL (by omega) (by omega), same_upd_of (sm.trans sm35) nl, ps ++ [p], pl', gd', by omega, by omega, by rw [List.length_append]; simp only [List.length_cons, List.length_nil]; omega, by rw [mc, Int.natCast_mul], by rw [mb, Int.natCast_mul], _, rfl⟩
        · rw [if_neg (by decide)]
          exact no
      · rintro σ H2 ⟨sm, ps, hp, g, c4, b6, li, z1, z2, z3, rfl⟩
        exact hN _ _ ⟨sm, ps, hp, g, c4, b6, by omega, _, _, _, _, rfl⟩
    rintro _ H2 ⟨sm2, ps, hp, g, c4, b6, l4, z1, z3, z4, z5, rfl⟩
    obtain ⟨xs, hx, ax⟩ := id hp
    have lx := ax.length
    simp_all only [hx, rAppend, tBM]
    refine ite2 (fun c => ?_) (fun c => kk _ ps _ sm2 hp ⟨fun p hp' => (g p hp').1, by omega, b6⟩ (fun p hp' => (g p hp').2) (fun e => c (by rw [lx, e]; rfl)) l4)
    have x0 : xs = [] := List.eq_nil_of_length_eq_zero (by omega)
    subst x0
    refine ⟨.inl ⟨rfl, _, SqL.of hx⟩, by decide, fun t H3 s3 nt e3 => ⟨_, s3 _ _ hx, by omega, ?_⟩⟩
    have hl3 := s3 _ _ hx
    have ty : upd H3 l (.lst ([] ++ [V.ref t])) t = some (.tup (ptV (.again 2 6))) := by rw [upd_ne (fun e => by rw [e, hl3] at e3; cases e3)]; exact e3
    refine kk _ [.again 2 6] _ (same_upd_of (sm2.trans s3) nl) ⟨_, upd_same, .one ⟨t, rfl, ty⟩⟩ (goodL1 ⟨by decide, by decide, by decide⟩ (by decide +kernel) (by decide +kernel)) (fun p hp' => by rw [List.mem_singleton.mp hp']; trivial) (by simp) (by decide)
theorem cut_from {xs : List V} {k : Nat} (h : k ≤ xs.length) : cutV xs (some (k : Int)) none = xs.drop k := by
  unfold cutV
  rw [HT.sIx_none, HT.sIx_nat, Nat.min_eq_left h]
  exact List.take_of_length_le (by rw [List.length_drop]; exact Nat.le_refl _)
theorem cut_to {xs : List V} {k : Nat} (h : k ≤ xs.length) : cutV xs none (some (k : Int)) = xs.take k := by
  unfold cutV
  rw [HT.sIx_none, HT.sIx_nat, Nat.min_eq_left h, List.drop_zero]
  rfl
theorem al_turn {α : Type} {R : α → V → Prop} {as : List α} {xs : List V} (h : Al R as xs) (k : Nat) : Al R (as.drop k ++ as.take k) (xs.drop k ++ xs.take k) := by
  have l := h.length
  refine Al.append (Al.of (by simp [l]) fun i v a e1 e2 => ?_) (Al.of (by simp [l]) fun i v a e1 e2 => ?_)
  · rw [List.getElem?_drop] at e1 e2
    obtain ⟨b, e3, r⟩ := h.get e1
    rw [e2] at e3
    cases e3
    exact r
  · rw [List.getElem?_take] at e1 e2
    split at e1
    · rename_i c
      rw [if_pos c] at e2
      obtain ⟨b, e3, r⟩ := h.get e1
      rw [e2] at e3
      cases e3
      exact r
    · cases e1
theorem rep_nil0 {H : Hp} {a t1 t2 : Addr} (ha : H a = some (.lst [.ref t2])) (h2 : H t2 = some (.tup [.int 0, .ref t1])) (h1 : H t1 = some (.tup [.int 1, .int 1])) : Rep H (rowsD (tabP [])) (.ref a) := by
  have et : tabP [] = [(0, 1, 1)] := by decide +kernel
  rw [et]
  refine rep_lst.mpr ⟨_, _, rfl, ha, ?_⟩
  rw [List.map_cons, List.map_nil, RepL]
  exact ⟨_, _, rfl, rep_row.mpr ⟨t2, t1, rfl, h2, h1⟩, by simp [RepL]⟩
theorem sc__law_even : FnScope ["_law_one", "_law_other"] ["_law_one", "_law_other"] (defScope (top 62)) := ⟨rfl, rfl, rfl, by decide +kernel, rfl, by decide +kernel, by decide +kernel⟩
theorem ok_ev (T : Txt K mg w.params q_NoShare q_NoTable q_TooMany q_OF_MANY q_OF_ONE) : Cal P w K mg base (CX1 P w) 1 "_law_even" ["_law_one", "_law_other"] spEv := by
  refine T.d__law_even.cal (fun _ _ _ _ _ _ us hl => match us, hl with | [_, _], _ => rfl) fun f fd F => F.okC sc__law_even (fun vs H Q E h => ?_) (fun cdv A outer s H vs Q E hr h => ?_)
  · obtain ⟨_, _, _, _, _, _, rfl, _⟩ := h; rfl
  · obtain ⟨p, q, a, b, c, d, rfl, hp, hq, m1, m2, e, kk⟩ := h
    have nd := sc__law_even.nd
    refine ⟨_, (pss_one (ps_ret (pe_cmpR op_eq (pe_op op_mulB (pe_ix ix_tupH (pv 0) pe_int (fun _ _ => rfl)) (pe_ix ix_tupH (pv 1) pe_int (fun _ _ => rfl))) (pe_op op_mulB (pe_ix ix_tupH (pv 1) pe_int (fun _ _ => rfl)) (pe_ix ix_tupH (pv 0) pe_int (fun _ _ => rfl))) (nomark _)))), ?_⟩
    simp only [Pr] at hp hq
    simp_all only [hp, hq]
    refine ⟨m1, m2, ?_⟩
    rw [decide_eq_true e]
    exact kk
theorem sc__law_parts_add_up : FnScope ["_law_pool_here", "_law_turn", "_law_at_here", "_law_total", "_law_means", "_law_part_here", "_law_own", "_law_found"] ["_law_pool_here", "_law_turn"] (defScope (top 63)) := ⟨rfl, rfl, rfl, by decide +kernel, rfl, by decide +kernel, by decide +kernel⟩
theorem ok_au (T : Txt K mg w.params q_NoShare q_NoTable q_TooMany q_OF_MANY q_OF_ONE) : Cal P w K mg base (CX1 P w) 7 "_law_parts_add_up" ["_law_pool_here", "_law_turn"] spAU := by
  have c_pool_table : Cal P w K mg base (CX1 P w) 6 "pool_table" ["pool"] spPl := ok_pl T
  have c_added : Cal P w K mg base (CX1 P w) 4 "added" ["one", "other"] spAdd := ok_add T
  have c_plus : Cal P w K mg base (CX1 P w) 3 "plus" ["one", "other"] spPlus := ok_plus T
  have c_mean : Cal P w K mg base (CX1 P w) 4 "mean" ["table"] spMean := ok_mean T
  have c__law_even : Cal P w K mg base (CX1 P w) 1 "_law_even" ["_law_one", "_law_other"] spEv := ok_ev T
  refine T.d__law_parts_add_up.cal (fun _ _ _ _ _ _ us hl => match us, hl with | [_, _], _ => rfl) fun f fd F => F.okC sc__law_parts_add_up (fun vs H Q E h => ?_) (fun cdv A outer s H vs Q E hr h => ?_)
  · obtain ⟨_, _, _, rfl, _⟩ := h; rfl
  · obtain ⟨l, t, ps, rfl, hp, gl, pn, l4, kk⟩ := h
    have nd := sc__law_parts_add_up.nd
    refine ⟨_, (pss_cons (ps_set (i := 2) nd rfl (Or.inl rfl) (pe_op op_modB (pv 1) (pe_callB call_lenL (by rfl) T.z_len PySem.boot_len (pa_cons (pv 0) pa_nil (se rfl)) (he := se rfl) (hpl := na rfl))))
    (pss_cons (ps_set (i := 3) nd rfl (Or.inl rfl) (pe_lst (pa_cons (pe_tupS (pa_cons pe_int (pa_cons (pe_tupS (pa_cons pe_int (pa_cons pe_int pa_nil (se rfl)) (se rfl))) pa_nil (se rfl)) (se rfl))) pa_nil (se rfl))))
    (pss_cons (ps_set (i := 4) nd rfl (Or.inl rfl) (pe_tupS (pa_cons pe_int (pa_cons pe_int pa_nil (se rfl)) (se rfl))))
    (pss_cons (ps_for PassesOwn.never rfl (pi_listK (K := K) (pe_op op_cat (pe_slice (sl_listK (K := K)) (pv 0) (po_some (pv 2)) po_none) (pe_slice (sl_listK (K := K)) (pv 0) po_none (po_some (pv 2))))) (pg_name (i := 5) nd rfl (Or.inl rfl)) (pss_cons (ps_set (i := 6) nd rfl (Or.inl rfl) (pe_cal c_pool_table (hr.mono (by decide)) rfl strictP.pass (pa_cons (pe_lst (pa_cons (pv 5) pa_nil (se rfl))) pa_nil (se rfl)) (he := se rfl) (hpl := na rfl)))
    (pss_cons (ps_set (i := 3) nd rfl (Or.inl rfl) (pe_cal c_added (hr.mono (by decide)) rfl strictP.pass (pa_cons (pv 3) (pa_cons (pv 6) pa_nil (se rfl)) (se rfl)) (he := se rfl) (hpl := na rfl)))
    (pss_one (ps_set (i := 4) nd rfl (Or.inl rfl) (pe_cal c_plus (hr.mono (by decide)) rfl strictP.pass (pa_cons (pv 4) (pa_cons (pe_cal c_mean (hr.mono (by decide)) rfl strictP.pass (pa_cons (pv 6) pa_nil (se rfl)) (he := se rfl) (hpl := na rfl)) pa_nil (se rfl)) (se rfl)) (he := se rfl) (hpl := na rfl)))))))
    (pss_cons (ps_set (i := 7) nd rfl (Or.inl rfl) (pe_cal c_pool_table (hr.mono (by decide)) rfl strictP.pass (pa_cons (pv 0) pa_nil (se rfl)) (he := se rfl) (hpl := na rfl)))
    (pss_one (ps_ret (pe_and (pe_cmpR (op_eqD hr.units) (pv 7) (pv 3) (nomark _)) (pe_one (pe_cal c__law_even (hr.mono (by decide)) rfl strictP.pass (pa_cons (pe_cal c_mean (hr.mono (by decide)) rfl strictP.pass (pa_cons (pv 7) pa_nil (se rfl)) (he := se rfl) (hpl := na rfl)) (pa_cons (pv 4) pa_nil (se rfl)) (se rfl)) (he := se rfl) (hpl := na rfl))))))))))), ?_⟩
    have sl := sizeLine_eq
    obtain ⟨xs, hx, ax⟩ := id hp
    have lx := ax.length
    have p0 : 0 < ps.length := List.length_pos_iff.mpr pn
    change tSeq _ _ _ [some (.ref l), some (.int t), none, none, none, none, none, none] H
    refine seq_gen (fun σ' H1 => H = H1 ∧ ∃ k : Nat, k < ps.length ∧ σ' = [some (.ref l), some (.int t), some (.int (k : Int)), none, none, none, none, none]) ?_ (fun N hN => ?_)
    case refine_2 =>
      simp_all only [hx]
      have m0 := Int.emod_nonneg t (show ((xs.length : Nat) : Int) ≠ 0 by omega)
      have m1 := Int.emod_lt_of_pos t (show (0 : Int) < ((xs.length : Nat) : Int) by omega)
      refine ⟨by omega, hN _ _ ⟨rfl, (t % (xs.length : Int)).toNat, by omega, ?_⟩⟩
      rw [Int.toNat_of_nonneg m0]
    rintro _ _ ⟨rfl, k, kl, rfl⟩
    change tSeq _ _ _ [some (.ref l), some (.int t), some (.int (k : Int)), none, none, none, none, none] H
    refine seq_gen (fun σ' H1 => Same H H1 ∧ ∃ a, Rep H1 (rowsD (tabP [])) (.ref a) ∧ σ' = [some (.ref l), some (.int t), some (.int (k : Int)), some (.ref a), none, none, none, none]) ?_ (fun N hN => ?_)
    case refine_2 =>
      simp_all only []
      refine ⟨by decide, fun t1 H1 s1 n1 e1 => ⟨by decide, fun t2 H2 s2 n2 e2 => ⟨by decide, fun a na => hN _ _ ⟨s1.trans (s2.trans (same_upd na)), a, rep_nil0 upd_same (same_upd na _ _ e2) (same_upd na _ _ (s2 _ _ e1)), rfl⟩⟩⟩⟩
    rintro _ H1 ⟨sm1, a, ra, rfl⟩
    change tSeq _ _ _ [some (.ref l), some (.int t), some (.int (k : Int)), some (.ref a), none, none, none, none] H1
    refine seq_gen (fun σ' H2 => Same H H2 ∧ Rep H2 (rowsD (tabP [])) (.ref a) ∧ ∃ m, H2 m = some (.tup (Pr (mnT []) (mnB []))) ∧ σ' = [some (.ref l), some (.int t), some (.int (k : Int)), some (.ref a), some (.ref m), none, none, none]) ?_ (fun N hN => ?_)
    case refine_2 =>
      have e1 : mnT [] = 0 := by decide +kernel
      have e2 : mnB [] = 1 := by decide +kernel
      rw [e1, e2] at hN
      simp_all only []
      exact ⟨by decide, fun m H2 s2 n2 e2 => hN _ _ ⟨sm1.trans s2, ra.mono s2, m, e2, rfl⟩⟩
    clear ra sm1
    rintro _ H2 ⟨sm2, ra, m, hm, rfl⟩
    have gt : GoodL (ps.drop k ++ ps.take k) := goodL_turn (by rw [List.take_append_drop]; exact gl)
    have lt : (ps.drop k ++ ps.take k).length = ps.length := by simp; omega
    have te : tabP (ps.drop k ++ ps.take k) = tabP ps := by
      have := tab_turn (a := ps.take k) (b := ps.drop k) (by rw [List.take_append_drop]; exact gl.1)
      rw [List.take_append_drop] at this
      exact this
    have me : mnT (ps.drop k ++ ps.take k) = mnT ps ∧ mnB (ps.drop k ++ ps.take k) = mnB ps := by
      have a1 := mom_turn (ps.take k) (ps.drop k)
      have a2 := tot_turn (ps.take k) (ps.drop k)
      rw [List.take_append_drop] at a1 a2
      unfold mnT mnB
      rw [a1, a2]
      exact ⟨rfl, rfl⟩
    have at' := al_turn ax k
    generalize eq : ps.drop k ++ ps.take k = qs at *
    change tSeq _ _ _ [some (.ref l), some (.int t), some (.int (k : Int)), some (.ref a), some (.ref m), none, none, none] H2
    refine seq_gen (fun σ' H3 => Same H H3 ∧ ∃ a m z1 z2, Rep H3 (rowsD (tabP ps)) (.ref a) ∧ H3 m = some (.tup (Pr (mnT ps) (mnB ps))) ∧ σ' = [some (.ref l), some (.int t), some (.int (k : Int)), some (.ref a), some (.ref m), z1, z2, none]) ?_ (fun N hN => ?_)
    case refine_2 =>
      have hl2 := sm2 _ _ hx
      simp_all only [rCat]
      refine ⟨_, SqL.of hl2, fun a1 n1 => ⟨_, SqL.of (same_upd n1 _ _ hl2), fun a2 n2 => ⟨_, same_upd n2 _ _ upd_same, _, upd_same, ?_, fun a3 n3 => ?_⟩⟩⟩
      · have c1 := cutV_length xs (some (k : Int)) none
        have c2 := cutV_length xs none (some (k : Int))
        omega
      rw [cut_from (by omega), cut_to (by omega)] at *
      generalize ev : xs.drop k ++ xs.take k = vs at *
      generalize eH : upd (upd (upd H2 a1 (.lst (xs.drop k))) a2 (.lst (xs.take k))) a3 (.lst vs) = H3
      have s3 : Same H2 H3 := by rw [← eH]; exact (same_upd n1).trans ((same_upd n2).trans (same_upd n3))
      have h3 : H3 a3 = some (.lst vs) := by rw [← eH]; exact upd_same
      have lv := at'.length
      refine ⟨⟨_, SqL.of h3⟩, for_src (src_list (Ok := Same H3) (fun H' s' => SqL.of (s' _ _ h3))) (fun i σ H' => Same H3 H' ∧ ∃ a m z1 z2, Rep H' (rowsD (tabP (qs.take i))) (.ref a) ∧ H' m = some (.tup (Pr (mnT (qs.take i)) (mnB (qs.take i)))) ∧ σ = [some (.ref l), some (.int t), some (.int (k : Int)), some (.ref a), some (.ref m), z1, z2, none])
        ⟨Same.refl _, a, m, _, _, by rw [List.take_zero]; exact ra.mono s3, by rw [List.take_zero]; exact s3 _ _ hm, rfl⟩ (fun _ _ _ _ h => h.1) ?_ ?_⟩
      · rintro i x σ H5 H4 hi ⟨s4, a, m, z1, z2, ra, hm, rfl⟩ ⟨rfl, ex⟩
        obtain ⟨p, ep, q, rfl, hq⟩ := at'.get ex
        have hq4 := s4 _ _ (s3 _ _ (sm2 _ _ hq))
        obtain ⟨hip, ep'⟩ := List.getElem?_eq_some_iff.mp ep
        have tk : qs.take (i + 1) = qs.take i ++ [p] := by rw [List.take_add_one, ep]; rfl
        obtain ⟨gp, c1, b1⟩ := goodL_one gt (List.mem_of_getElem? ep)
        have g1 := goodL1 gp c1 b1
        have gi := goodL_take gt i
        have gi1 := goodL_take gt (i + 1)
        rw [tk] at gi1 ⊢
        change tSeq _ _ _ [some (.ref l), some (.int t), some (.int (k : Int)), some (.ref a), some (.ref m), some (.ref q), z2, none] H4
        refine seq_gen (fun σ' H5 => Same H4 H5 ∧ ∃ o, Rep H5 (rowsD (tabP [p])) (.ref o) ∧ σ' = [some (.ref l), some (.int t), some (.int (k : Int)), some (.ref a), some (.ref m), some (.ref q), some (.ref o), none]) ?_ (fun N hN' => ?_)
        case refine_2 =>
          simp_all only [spPl]
          exact ⟨by decide, fun c nc => ⟨[p], ⟨_, upd_same, .one ⟨q, rfl, same_upd nc _ _ hq4⟩⟩, g1, by simp, fun o H5 s5 no ro => hN' _ _ ⟨(same_upd nc).trans s5, o, ro, rfl⟩⟩⟩
        rintro _ H5 ⟨s5, o, ro, rfl⟩
        change tSeq _ _ _ [some (.ref l), some (.int t), some (.int (k : Int)), some (.ref a), some (.ref m), some (.ref q), some (.ref o), none] H5
        refine seq_gen (fun σ' H6 => Same H5 H6 ∧ ∃ a, Rep H6 (rowsD (tabP (qs.take i ++ [p]))) (.ref a) ∧ σ' = [some (.ref l), some (.int t), some (.int (k : Int)), some (.ref a), some (.ref m), some (.ref q), some (.ref o), none]) ?_ (fun N hN' => ?_)
        case refine_2 =>
          simp_all only [spAdd]
          have c2 := gi1.2.1
          rw [List.map_append, prd_app] at c2
          have c3 := Nat.mul_le_mul (tab_len _ gi.1) (tab_len _ g1.1)
          refine ⟨_, ra.mono s5, _, ro, _, goodR_tab gi, _, goodR_tab g1, by omega, fun B1 B2 p' H6 s6 np b1 b2 rp => hN' _ _ ⟨s6, p', ?_, rfl⟩⟩
          rw [add_tab gi g1 b1 b2] at rp
          exact rp
        clear ra
        rintro _ H6 ⟨s6, a, ra, rfl⟩
        have b1 := mnB_bnd gi
        have b2 := mnB_bnd g1
        simp_all only [spMean, spPlus]
        refine ⟨_, ro.mono s6, _, goodR_tab g1, fun B p' H7 s7 gb hp' => ?_⟩
        obtain ⟨e1, e2⟩ := mean_tab g1 gb
        rw [e1, e2] at hp'
        have hp2 : H7 p' = some (.tup (Pr (mnT [p]) (mnB [p]))) := hp'
        refine ⟨_, _, s7 _ _ (s6 _ _ (s5 _ _ hm)), _, _, hp2, Bt.of 1000000 (by omega) (by omega), Bt.of 1000000 (by omega) (by omega), Int.mul_ne_zero (by omega) (by omega), fun r H8 s8 hr' => ?_⟩
        obtain ⟨f1, f2⟩ := mn_app gi g1
        have hr2 : H8 r = some (.tup (Pr (mnT (qs.take i ++ [p])) (mnB (qs.take i ++ [p])))) := by rw [← f1, ← f2]; exact hr'
        exact ⟨s4.trans (s5.trans (s6.trans (s7.trans s8))), a, ra.mono (s7.trans s8), r, hr2, rfl, rfl, _, rfl⟩
      · rintro σ H4 ⟨s4, a, m, z1, z2, ra, hm, rfl⟩
        rw [lv, List.take_of_length_le (Nat.le_refl _)] at ra hm
        rw [te] at ra
        rw [me.1, me.2] at hm
        exact hN _ _ ⟨sm2.trans (s3.trans s4), a, m, _, _, ra, hm, rfl⟩
    clear ra hm
    rintro _ H3 ⟨sm3, a, m, z1, z2, ra, hm, rfl⟩
    change tSeq _ _ _ [some (.ref l), some (.int t), some (.int (k : Int)), some (.ref a), some (.ref m), z1, z2, none] H3
    refine seq_gen (fun σ' H4 => Same H3 H4 ∧ ∃ o, Rep H4 (rowsD (tabP ps)) (.ref o) ∧ σ' = [some (.ref l), some (.int t), some (.int (k : Int)), some (.ref a), some (.ref m), z1, z2, some (.ref o)]) ?_ (fun N hN => ?_)
    case refine_2 =>
      simp_all only [spPl]
      exact ⟨ps, hp.mono sm3, gl, l4, fun o H4 s4 no ro => hN _ _ ⟨s4, o, ro, rfl⟩⟩
    rintro _ H4 ⟨s4, o, ro, rfl⟩
    simp_all only [rEqD, spMean, spEv]
    refine ⟨_, ro, ra.mono s4, ⟨_, rfl⟩, depth_rows _, ?_⟩
    refine ⟨_, ro, _, goodR_tab gl, fun B p' H5 s5 gb hp' => ?_⟩
    obtain ⟨e1, e2⟩ := mean_tab gl gb
    rw [e1, e2] at hp'
    have b1 := mnB_bnd gl
    refine ⟨_, _, hp', _, _, s5 _ _ (s4 _ _ hm), mulOkR (by omega) (by omega), mulOkR (by show -(2 ^ 64) < mnB ps; omega) (by show mnB ps < 2 ^ 64; omega), rfl, kk _ (sm3.trans (s4.trans s5))⟩
theorem thr_dvd {ps : List Pt} (g : ∀ p ∈ ps, GoodP p) : ∀ r ∈ thr ps, r.2.2 ∣ prd (ps.map bot) := by
  have : ∀ (ps : List Pt) (rs : List Row) (W : Nat), (∀ p ∈ ps, GoodP p) → (∀ r ∈ rs, r.2.2 ∣ W) → ∀ r ∈ ps.foldl stp rs, r.2.2 ∣ W * prd (ps.map bot) := by
    intro ps
    induction ps with
    | nil => intro rs W _ h; simpa [prd] using h
    | cons p ps ih =>
      intro rs W g h
      have gp := g p (by simp)
      rw [List.foldl_cons, List.map_cons, prd, ← Nat.mul_assoc]
      exact ih _ _ (fun q hq => g q (List.mem_cons_of_mem _ hq)) (stp_dvd gp h)
  have := this ps [([], 0, 1)] 1 g (by simp)
  rw [Nat.one_mul] at this
  exact this
theorem abv_take {W : Nat} {rs : List Row} (n : Int) {i : Nat} {r : Row} (e : rs[i]? = some r) : Nm.abv n (rowW W (rs.take (i + 1))) = Nm.abv n (rowW W (rs.take i)) + (if n ≤ r.2.1 then ((W / r.2.2 : Nat) : Int) else 0) := by
  have : rs.take (i + 1) = rs.take i ++ [r] := by rw [List.take_add_one, e]; rfl
  rw [this]
  unfold rowW Nm.abv
  rw [List.map_append, List.map_append, sumI_append]
  simp
noncomputable def KS (W A top bottom : Int) : Prop := 0 < bottom ∧ 0 ≤ top ∧ top * W = bottom * A
theorem KS.low {W A top bottom b : Int} (h : KS W A top bottom) (b2 : 2 ≤ b) (h1 : top % b = 0) (h2 : bottom % b = 0) : KS W A (top / b) (bottom / b) ∧ (bottom / b).toNat < bottom.toNat := by
  obtain ⟨h3, h4, h5⟩ := h
  have e1 := Int.ediv_mul_cancel (Int.dvd_of_emod_eq_zero h1)
  have e2 := Int.ediv_mul_cancel (Int.dvd_of_emod_eq_zero h2)
  generalize top / b = x at *
  generalize bottom / b = y at *
  subst e1 e2
  have y0 : 0 < y := Int.pos_of_mul_pos_left h3 (by omega)
  have x0 : 0 ≤ x := by
    apply Int.not_lt.mp
    intro c
    have := Int.mul_neg_of_neg_of_pos c (show (0 : Int) < b by omega)
    omega
  refine ⟨⟨y0, x0, ?_⟩, ?_⟩
  · have k : (x * W) * b = (y * A) * b := by grind
    exact Int.eq_of_mul_eq_mul_right (by omega) k
  · have : y * 2 ≤ y * b := Int.mul_le_mul_of_nonneg_left b2 (by omega)
    omega
theorem KS.add {W A top bottom c b : Int} (h : KS W A top bottom) (b0 : 0 < b) (e : c * b = W) (c0 : 0 ≤ c) : KS W (A + c) (top * b + bottom * 1) (bottom * b) := by
  obtain ⟨h1, h2, h3⟩ := h
  refine ⟨Int.mul_pos h1 b0, ?_, ?_⟩
  · have := Int.mul_nonneg h2 (show 0 ≤ b by omega)
    omega
  · subst e
    grind
theorem sc__law_from : FnScope ["_law_pool_here", "_law_number", "_law_found", "_law_top", "_law_bottom", "_law_faces", "_law_value", "_law_part_here", "_law_by"] ["_law_pool_here", "_law_number"] (defScope (top 64)) := ⟨rfl, rfl, rfl, by decide +kernel, rfl, by decide +kernel, by decide +kernel⟩
theorem ok_fr (T : Txt K mg w.params q_NoShare q_NoTable q_TooMany q_OF_MANY q_OF_ONE) : Cal P w K mg base (CX1 P w) 7 "_law_from" ["_law_pool_here", "_law_number"] spFr := by
  have c_pool_table : Cal P w K mg base (CX1 P w) 6 "pool_table" ["pool"] spPl := ok_pl T
  have c_throws : Cal P w K mg base (CX1 P w) 6 "throws" ["pool"] spTh := ok_th T
  have c_share_from : Cal P w K mg base (CX1 P w) 4 "share_from" ["table", "number"] spSF := ok_sf T
  have c__law_even : Cal P w K mg base (CX1 P w) 1 "_law_even" ["_law_one", "_law_other"] spEv := ok_ev T
  refine T.d__law_from.cal (fun _ _ _ _ _ _ us hl => match us, hl with | [_, _], _ => rfl) fun f fd F => F.okC sc__law_from (fun vs H Q E h => ?_) (fun cdv A outer s H vs Q E hr h => ?_)
  · obtain ⟨_, _, _, rfl, _⟩ := h; rfl
  · obtain ⟨l, n, ps, rfl, hp, gl, pn, l4, kk⟩ := h
    have nd := sc__law_from.nd
    refine ⟨_, (pss_cons (ps_set (i := 2) nd rfl (Or.inl rfl) (pe_cal c_share_from (hr.mono (by decide)) rfl strictP.pass (pa_cons (pe_cal c_pool_table (hr.mono (by decide)) rfl strictP.pass (pa_cons (pv 0) pa_nil (se rfl)) (he := se rfl) (hpl := na rfl)) (pa_cons (pv 1) pa_nil (se rfl)) (se rfl)) (he := se rfl) (hpl := na rfl)))
    (pss_cons (ps_set (i := 3) nd rfl (Or.inl rfl) pe_int)
    (pss_cons (ps_set (i := 4) nd rfl (Or.inl rfl) pe_int)
    (pss_cons (ps_for PassesOwn.never rfl (pi_listK (K := K) (pe_cal c_throws (hr.mono (by decide)) rfl strictP.pass (pa_cons (pv 0) pa_nil (se rfl)) (he := se rfl) (hpl := na rfl))) (pg_tupK (K := K) (n := 3) rfl (pgs_cons (pg_name (i := 5) nd rfl (Or.inl rfl)) (pgs_cons (pg_name (i := 6) nd rfl (Or.inl rfl)) (pgs_cons (pg_name (i := 7) nd rfl (Or.inl rfl)) pgs_nil)))) (pss_one (ps_if (pt_cmpR op_ge (pv 6) (pv 1) (nomark _)) (pss_cons (ps_set (i := 3) nd rfl (Or.inl rfl) (pe_op op_add (pe_op op_mulB (pv 3) (pe_ix ix_tupH (pv 7) pe_int (fun _ _ => rfl))) (pe_op op_mulB (pv 4) (pe_ix ix_tupH (pv 7) pe_int (fun _ _ => rfl)))))
    (pss_cons (ps_set (i := 4) nd rfl (Or.inl rfl) (pe_op op_mulB (pv 4) (pe_ix ix_tupH (pv 7) pe_int (fun _ _ => rfl))))
    (pss_one (ps_for PassesOwn.never rfl (pi_listK (K := K) (pe_lst (pa_cons pe_int (pa_cons pe_int (pa_cons pe_int (pa_cons pe_int (pa_cons pe_int (pa_cons pe_int (pa_cons pe_int (pa_cons pe_int pa_nil (se rfl)) (se rfl)) (se rfl)) (se rfl)) (se rfl)) (se rfl)) (se rfl)) (se rfl)))) (pg_name (i := 8) nd rfl (Or.inl rfl)) (pss_one (ps_while PassesOwn.never (PW.pt (pw_and (pt_cmpR op_eq (pe_op op_modB (pv 3) (pv 8)) pe_int (nomark _)) (pw_and1 (pt_cmpR op_eq (pe_op op_modB (pv 4) (pv 8)) pe_int (nomark _))))) (pss_cons (ps_set (i := 3) nd rfl (Or.inl rfl) (pe_op op_fdivB (pv 3) (pv 8)))
    (pss_one (ps_set (i := 4) nd rfl (Or.inl rfl) (pe_op op_fdivB (pv 4) (pv 8)))))))))))
      pss_nil)))
    (pss_one (ps_ret (pe_cal c__law_even (hr.mono (by decide)) rfl strictP.pass (pa_cons (pv 2) (pa_cons (pe_tupS (pa_cons (pv 3) (pa_cons (pv 4) pa_nil (se rfl)) (se rfl))) pa_nil (se rfl)) (se rfl)) (he := se rfl) (hpl := na rfl)))))))), ?_⟩
    have sl := sizeLine_eq
    have T0 := tot_ws (plW_pos gl.1) (plW_ne gl.1)
    have T1 := (goodR_tab gl).2.1
    have tt := plW_tot gl.1
    change tSeq _ _ _ [some (.ref l), some (.int n), none, none, none, none, none, none, none] H
    refine seq_gen (fun σ' H1 => Same H H1 ∧ ∃ p, H1 p = some (.tup (Pr (Nm.st (Nm.abv n (plW ps)) (Nm.tot (plW ps))) (Nm.sb (Nm.abv n (plW ps)) (Nm.tot (plW ps))))) ∧ σ' = [some (.ref l), some (.int n), some (.ref p), none, none, none, none, none, none]) ?_ (fun N hN => ?_)
    case refine_2 =>
      simp_all only [spPl, spSF]
      refine ⟨ps, hp, gl, l4, fun o H1 s1 no ro => ⟨_, ro, _, goodR_tab gl, fun B p H2 s2 gb hp' => ?_⟩⟩
      obtain ⟨e1, e2⟩ := from_tab gl n gb
      rw [e1, e2] at hp'
      exact hN _ _ ⟨s1.trans s2, p, hp', rfl⟩
    rintro _ H1 ⟨sm1, p, hq, rfl⟩
    change tSeq _ _ _ [some (.ref l), some (.int n), some (.ref p), none, none, none, none, none, none] H1
    refine seq_gen (fun σ' H2 => H1 = H2 ∧ σ' = [some (.ref l), some (.int n), some (.ref p), some (.int 0), none, none, none, none, none]) ?_ (fun N hN => ?_)
    case refine_2 =>
      simp_all only []
      exact hN _ _ ⟨rfl, rfl⟩
    rintro _ _ ⟨rfl, rfl⟩
    change tSeq _ _ _ [some (.ref l), some (.int n), some (.ref p), some (.int 0), none, none, none, none, none] H1
    refine seq_gen (fun σ' H2 => H1 = H2 ∧ σ' = [some (.ref l), some (.int n), some (.ref p), some (.int 0), some (.int 1), none, none, none, none]) ?_ (fun N hN => ?_)
    case refine_2 =>
      simp_all only []
      exact hN _ _ ⟨rfl, rfl⟩
    rintro _ _ ⟨rfl, rfl⟩
    generalize eW : prd (ps.map bot) = W at *
    have rw' := rowW_thr gl.1
    rw [eW] at rw'
    change tSeq _ _ _ [some (.ref l), some (.int n), some (.ref p), some (.int 0), some (.int 1), none, none, none, none] H1
    refine seq_gen (fun σ' H2 => Same H1 H2 ∧ ∃ x y z1 z2 z3 z4, KS (W : Int) (Nm.abv n (plW ps)) x y ∧ σ' = [some (.ref l), some (.int n), some (.ref p), some (.int x), some (.int y), z1, z2, z3, z4]) ?_ (fun N hN => ?_)
    case refine_2 =>
      simp_all only [spTh]
      refine ⟨ps, hp.mono sm1, gl, l4, fun a H2 xs s2 na ha al => ⟨⟨_, SqL.of ha⟩, ?_⟩⟩
      have lx := al.length
      refine for_src (src_list (Ok := Same H2) (fun H' s' => SqL.of (s' _ _ ha))) (fun i σ H' => Same H2 H' ∧ ∃ x y z1 z2 z3 z4, KS (W : Int) (Nm.abv n (rowW W ((thr ps).take i))) x y ∧ σ = [some (.ref l), some (.int n), some (.ref p), some (.int x), some (.int y), z1, z2, z3, z4])
        ⟨Same.refl _, 0, 1, _, _, _, _, ⟨by decide, by decide, by rw [List.take_zero]; simp [rowW, Nm.abv]⟩, rfl⟩ (fun _ _ _ _ h => h.1) ?_ ?_
      · rintro i v σ H4 H3 hi ⟨s3, x, y, z1, z2, z3, z4, ks, rfl⟩ ⟨rfl, ex⟩
        obtain ⟨r, er, b, q, t, rfl, hb, _, _, ht⟩ := al.get ex
        have hb := s3 _ _ (hid_sub _ _ hb)
        have ht := s3 _ _ (hid_sub _ _ ht)
        have rr := thr_row gl.1 ps.length (Nat.le_refl _) r (by rw [List.take_of_length_le (Nat.le_refl _)]; exact List.mem_of_getElem? er)
        rw [List.take_of_length_le (Nat.le_refl _), eW] at rr
        have dv : r.2.2 ∣ W := by rw [← eW]; exact thr_dvd gl.1 r (List.mem_of_getElem? er)
        have ab := abv_take (W := W) n er
        refine ⟨b, _, rfl, SqT.of hb, rfl, _, _, rfl, _, _, rfl, _, _, rfl, rfl, ?_⟩
        simp_all only []
        refine ite2 (fun c => ?_) (fun c => ?_)
        · rw [if_pos c] at ab
          rw [ab]
          have k1 := ks.add (c := ((W / r.2.2 : Nat) : Int)) (b := (r.2.2 : Int)) (by omega) (by rw [← Int.natCast_mul, Nat.div_mul_cancel dv]) (Int.natCast_nonneg _)
          simp only [ht, L2.start, Pr, tRev, tSortR, tD1, tDPop1, tSl, tNoPart, tPart, rSlL, tDIn, tDNotIn, gSub, rSetL, tLst, tDNewK, tComp, L2.stC, tFor_eq, iList, iTup, iRng1, iRng2, iZip, iEnum, iDict, iStr, tChain, tSumV, tBM, rJoin, tJoined, jNil, jLit, jInt, jStr, tRaise, tDGet, tDGet2, tDGet1, sDPut, Option.join_some, List.getElem?_nil,  tSeq, tRet, tRetN, tIfS, tTest, tB, tOp, tUn, tVar, tC, tCB, tCons, tNil, tCall, tTupS, tAsg, gName, gNil, gCons, tPar, tNext, tDrop, tAnd, tOr, tNot, tAndV, tOrV, tNotV, tIf, rI, rI0, rU, rIxTH, rIxLH, rEqT, rNeT, rInT, rEq, rNe, scal, CPow, at0, at1, at2, List.map_cons, List.map_nil, List.length_cons, List.length_nil, Nat.reduceSub, Nat.reduceAdd, Nat.zero_add, List.replicate_zero, List.reduceReplicate, List.append_nil, List.nil_append, List.cons_append, List.getElem?_cons_zero, List.getElem?_cons_succ, List.set_cons_zero, List.set_cons_succ, Option.some.injEq, exists_eq_left', exists_eq_left, V.ref.injEq, V.int.injEq, V.bl.injEq, V.str.injEq, V.ty.injEq, HO.tup.injEq, HO.lst.injEq, List.cons.injEq, and_true, true_and, and_assoc, exists_and_left, decide_eq_true_eq, Bool.not_eq_true', decide_eq_false_iff_not, ite_true, ite_false, if_true, if_false, Int.reduceToNat, eq_self_iff_true]
          refine ⟨mulOkR (by omega) (by omega), mulOkR, mulOkR (by omega) (by omega), by decide, fun d nd' => ⟨⟨_, SqL.of upd_same⟩, ?_⟩⟩
          have sd := same_upd (o := .lst [V.int 2, V.int 3, V.int 5, V.int 7, V.int 11, V.int 13, V.int 17, V.int 19]) nd'
          generalize eH : upd H3 d (.lst [V.int 2, V.int 3, V.int 5, V.int 7, V.int 11, V.int 13, V.int 17, V.int 19]) = H4 at *
          have hd : H4 d = some (.lst (List.map V.int [2, 3, 5, 7, 11, 13, 17, 19])) := by rw [← eH]; exact upd_same
          refine for_src (src_list (Ok := fun H' => H4 = H') (fun H' e => by subst e; exact SqL.of hd)) (fun j σ H' => H4 = H' ∧ ∃ x y z, KS (W : Int) (Nm.abv n (rowW W ((thr ps).take i)) + ((W / r.2.2 : Nat) : Int)) x y ∧ σ = [some (.ref l), some (.int n), some (.ref p), some (.int x), some (.int y), some (.ref q), some (.int r.2.1), some (.ref t), z]) ⟨rfl, _, _, _, k1, rfl⟩ (fun _ _ _ _ h => h.1) ?_ ?_
          · rintro j v σ H5 H6 hj ⟨rfl, x, y, z, ks, rfl⟩ ⟨rfl, ex⟩
            rw [List.getElem?_map] at ex
            obtain ⟨by', eb, rfl⟩ := Option.map_eq_some_iff.mp ex
            have hb := List.mem_of_getElem? eb
            have b2 : 2 ≤ by' ∧ by' ≤ 19 := by simp at hb; omega
            refine while_at (fun σ H' => H6 = H' ∧ ∃ x y, KS (W : Int) (Nm.abv n (rowW W ((thr ps).take i)) + ((W / r.2.2 : Nat) : Int)) x y ∧ σ = [some (.ref l), some (.int n), some (.ref p), some (.int x), some (.int y), some (.ref q), some (.int r.2.1), some (.ref t), some (.int by')]) (fun σ _ => match σ with | [_, _, _, _, some (.int y), _, _, _, _] => y.toNat | _ => 0) ⟨rfl, x, y, ks, rfl⟩ ?_
            rintro σ H5 ⟨rfl, x, y, ks, rfl⟩
            by_cases c1 : x % by' = 0 ∧ y % by' = 0
            · refine ⟨true, fun Q q => ?_, ?_⟩
              · simp_all only []
                refine ⟨by omega, ite2 (fun _ => ⟨by omega, ?_⟩) (fun z => absurd c1.1 z)⟩
                rw [decide_eq_true c1.2]
                exact q
              · rw [if_pos rfl]
                simp_all only []
                obtain ⟨k2, lt⟩ := ks.low b2.1 c1.1 c1.2
                exact ⟨CDivB.of (n := 20) (by omega) (Bt.of 19 (by omega) (by omega)), CDivB.of (n := 20) (by omega) (Bt.of 19 (by omega) (by omega)), ⟨_, _, k2, rfl, rfl⟩, lt⟩
            · refine ⟨false, fun Q q => ?_, ?_⟩
              · simp_all only []
                refine ⟨by omega, ite2 (fun z1 => ⟨by omega, ?_⟩) (fun z1 => q)⟩
                rw [decide_eq_false (fun z2 => c1 ⟨z1, z2⟩)]
                exact q
              · rw [if_neg (by decide)]
                exact ⟨rfl, x, y, _, ks, rfl⟩
          · rintro σ H5 ⟨rfl, x, y, z, ks, rfl⟩
            exact ⟨s3.trans sd, x, y, ks, _, _, _, _, rfl⟩
        · rw [if_neg c, Int.add_zero] at ab
          rw [ab]
          exact ⟨s3, _, _, ks, rfl, rfl, _, rfl⟩
      · rintro σ H3 ⟨s3, x, y, z1, z2, z3, z4, ks, rfl⟩
        rw [lx, List.take_of_length_le (Nat.le_refl _), rw'] at ks
        exact hN _ _ ⟨s2.trans s3, x, y, _, _, _, _, ks, rfl⟩
    rintro _ H2 ⟨sm2, x, y, z1, z2, z3, z4, ks, rfl⟩
    have cr := Nm.st_cross (Nm.abv n (plW ps)) (Nm.tot (plW ps))
    have sp := Nm.sb_pos (a := Nm.abv n (plW ps)) (show Nm.tot (plW ps) ≠ 0 by omega)
    have sa := Nm.sb_abs (a := Nm.abv n (plW ps)) (show Nm.tot (plW ps) ≠ 0 by omega)
    have up : Nm.abv n (plW ps) ≤ Nm.tot (plW ps) := by
      unfold Nm.abv Nm.tot
      have : ∀ A : Nm.Ws, (∀ x ∈ A, 0 < x.2) → (A.map fun p => if n ≤ p.1 then p.2 else 0).sum ≤ (A.map (·.2)).sum ∧ 0 ≤ (A.map fun p => if n ≤ p.1 then p.2 else 0).sum := by
        intro A
        induction A with
        | nil => intro _; exact ⟨Int.le_refl _, Int.le_refl _⟩
        | cons a A ih =>
          intro h
          have := ih fun x hx => h x (List.mem_cons_of_mem _ hx)
          have := h a (by simp)
          simp only [List.map_cons, List.sum_cons]
          split <;> omega
      exact (this _ (plW_pos gl.1)).1
    have nn : 0 ≤ Nm.abv n (plW ps) := by
      unfold Nm.abv
      have : ∀ A : Nm.Ws, (∀ x ∈ A, 0 < x.2) → 0 ≤ (A.map fun p => if n ≤ p.1 then p.2 else 0).sum := by
        intro A
        induction A with
        | nil => intro _; exact Int.le_refl _
        | cons a A ih =>
          intro h
          have := ih fun x hx => h x (List.mem_cons_of_mem _ hx)
          have := h a (by simp)
          simp only [List.map_cons, List.sum_cons]
          split <;> omega
      exact this _ (plW_pos gl.1)
    have st := Nm.st_abs (a := Nm.abv n (plW ps)) (show Nm.tot (plW ps) ≠ 0 by omega)
    simp_all only [spEv]
    refine ⟨by decide, fun o H3 s3 no ho => ⟨_, _, s3 _ _ (sm2 _ _ hq), _, _, ho, mulOkL (by omega) (by omega), mulOkR (by omega) (by omega), ?_, kk _ (sm1.trans (sm2.trans s3))⟩⟩
    obtain ⟨y0, x0, e⟩ := ks
    rw [← tt] at e
    generalize Nm.st (Nm.abv n (plW ps)) (Nm.tot (plW ps)) = st' at *
    generalize Nm.sb (Nm.abv n (plW ps)) (Nm.tot (plW ps)) = sb' at *
    generalize Nm.abv n (plW ps) = A at *
    generalize Nm.tot (plW ps) = T' at *
    have k : (st' * y) * T' = (x * sb') * T' := by grind
    exact Int.eq_of_mul_eq_mul_right (by omega) k
theorem sc__law_best_and_worst : FnScope ["_law_script", "_law_sides", "_law_many_here", "_law_some", "_law_high", "_law_low"] ["_law_script"] (defScope (top 65)) := ⟨rfl, rfl, rfl, by decide +kernel, rfl, by decide +kernel, by decide +kernel⟩
theorem ok_bw (T : Txt K mg w.params q_NoShare q_NoTable q_TooMany q_OF_MANY q_OF_ONE) : Cal P w K mg base (CX1 P w) 7 "_law_best_and_worst" ["_law_script"] (spBW K) := by
  have c__law_at : Cal P w K mg base (CX1 P w) 1 "_law_at" ["_law_script", "_law_k"] (spAt K) := ok_at T
  have c_pool_table : Cal P w K mg base (CX1 P w) 6 "pool_table" ["pool"] spPl := ok_pl T
  have c_plus : Cal P w K mg base (CX1 P w) 3 "plus" ["one", "other"] spPlus := ok_plus T
  have c_mean : Cal P w K mg base (CX1 P w) 4 "mean" ["table"] spMean := ok_mean T
  have c__law_even : Cal P w K mg base (CX1 P w) 1 "_law_even" ["_law_one", "_law_other"] spEv := ok_ev T
  refine T.d__law_best_and_worst.cal (fun _ _ _ _ _ _ us hl => match us, hl with | [_], _ => rfl) fun f fd F => F.okC sc__law_best_and_worst (fun vs H Q E h => ?_) (fun cdv A outer s H vs Q E hr h => ?_)
  · obtain ⟨_, _, rfl, _⟩ := h; rfl
  · obtain ⟨a, ns, rfl, hS, kk⟩ := h
    have nd := sc__law_best_and_worst.nd
    refine ⟨_, (pss_cons (ps_set (i := 1) nd rfl (Or.inl rfl) (pe_op op_add pe_int (pe_op op_modB (pe_cal c__law_at (hr.mono (by decide)) rfl strictP.pass (pa_cons (pv 0) (pa_cons pe_int pa_nil (se rfl)) (se rfl)) (he := se rfl) (hpl := na rfl)) pe_int)))
    (pss_cons (ps_set (i := 2) nd rfl (Or.inl rfl) (pe_op op_add pe_int (pe_op op_modB (pe_cal c__law_at (hr.mono (by decide)) rfl strictP.pass (pa_cons (pv 0) (pa_cons pe_int pa_nil (se rfl)) (se rfl)) (he := se rfl) (hpl := na rfl)) pe_int)))
    (pss_cons (ps_if (pt_cmpR op_eq (pv 2) pe_int (nomark _)) (pss_one (ps_set (i := 1) nd rfl (Or.inl rfl) (pe_op op_add pe_int (pe_op op_modB (pe_cal c__law_at (hr.mono (by decide)) rfl strictP.pass (pa_cons (pv 0) (pa_cons pe_int pa_nil (se rfl)) (se rfl)) (he := se rfl) (hpl := na rfl)) pe_int))))
      pss_nil)
    (pss_cons (ps_set (i := 3) nd rfl (Or.inl rfl) (pe_op op_add pe_int (pe_op op_modB (pe_cal c__law_at (hr.mono (by decide)) rfl strictP.pass (pa_cons (pv 0) (pa_cons pe_int pa_nil (se rfl)) (se rfl)) (he := se rfl) (hpl := na rfl)) (pe_op op_sub (pv 2) pe_int))))
    (pss_cons (ps_set (i := 4) nd rfl (Or.inl rfl) (pe_cal c_mean (hr.mono (by decide)) rfl strictP.pass (pa_cons (pe_cal c_pool_table (hr.mono (by decide)) rfl strictP.pass (pa_cons (pe_lst (pa_cons (pe_tupS (pa_cons pe_str (pa_cons (pv 3) (pa_cons (pv 2) (pa_cons (pv 1) pa_nil (se rfl)) (se rfl)) (se rfl)) (se rfl))) pa_nil (se rfl))) pa_nil (se rfl)) (he := se rfl) (hpl := na rfl)) pa_nil (se rfl)) (he := se rfl) (hpl := na rfl)))
    (pss_cons (ps_set (i := 5) nd rfl (Or.inl rfl) (pe_cal c_mean (hr.mono (by decide)) rfl strictP.pass (pa_cons (pe_cal c_pool_table (hr.mono (by decide)) rfl strictP.pass (pa_cons (pe_lst (pa_cons (pe_tupS (pa_cons pe_str (pa_cons (pe_op op_sub (pv 2) (pv 3)) (pa_cons (pv 2) (pa_cons (pv 1) pa_nil (se rfl)) (se rfl)) (se rfl)) (se rfl))) pa_nil (se rfl))) pa_nil (se rfl)) (he := se rfl) (hpl := na rfl)) pa_nil (se rfl)) (he := se rfl) (hpl := na rfl)))
    (pss_one (ps_ret (pe_cal c__law_even (hr.mono (by decide)) rfl strictP.pass (pa_cons (pe_cal c_plus (hr.mono (by decide)) rfl strictP.pass (pa_cons (pv 4) (pa_cons (pv 5) pa_nil (se rfl)) (se rfl)) (he := se rfl) (hpl := na rfl)) (pa_cons (pe_tupS (pa_cons (pe_op op_mulB (pv 2) (pe_op op_add (pv 1) pe_int)) (pa_cons pe_int pa_nil (se rfl)) (se rfl))) pa_nil (se rfl)) (se rfl)) (he := se rfl) (hpl := na rfl)))))))))), ?_⟩
    have sl := sizeLine_eq
    change tSeq _ _ _ [some (.ref a), none, none, none, none, none] H
    refine seq_gen (fun σ' H1 => H = H1 ∧ ∃ s : Nat, 1 ≤ s ∧ s ≤ 6 ∧ σ' = [some (.ref a), some (.int (s : Int)), none, none, none, none]) ?_ (fun N hN => ?_)
    case refine_2 =>
      simp_all only [spAt]
      refine ⟨ns, hS, by decide, by decide, fun x => ⟨by decide, ?_⟩⟩
      have k0 := Int.emod_nonneg x (show (6 : Int) ≠ 0 by decide)
      have k1 := Int.emod_lt_of_pos x (show (0 : Int) < 6 by decide)
      refine hN _ _ ⟨rfl, (1 + x % 6).toNat, by omega, by omega, ?_⟩
      rw [Int.toNat_of_nonneg (by omega)]
    rintro _ _ ⟨rfl, s', s1, s6, rfl⟩
    change tSeq _ _ _ [some (.ref a), some (.int (s' : Int)), none, none, none, none] H
    refine seq_gen (fun σ' H1 => H = H1 ∧ ∃ m : Nat, 2 ≤ m ∧ m ≤ 4 ∧ σ' = [some (.ref a), some (.int (s' : Int)), some (.int (m : Int)), none, none, none]) ?_ (fun N hN => ?_)
    case refine_2 =>
      simp_all only [spAt]
      refine ⟨ns, hS, by decide, by decide, fun x => ⟨by decide, ?_⟩⟩
      have k0 := Int.emod_nonneg x (show (3 : Int) ≠ 0 by decide)
      have k1 := Int.emod_lt_of_pos x (show (0 : Int) < 3 by decide)
      refine hN _ _ ⟨rfl, (2 + x % 3).toNat, by omega, by omega, ?_⟩
      rw [Int.toNat_of_nonneg (by omega)]
    rintro _ _ ⟨rfl, m, m2, m4, rfl⟩
    change tSeq _ _ _ [some (.ref a), some (.int (s' : Int)), some (.int (m : Int)), none, none, none] H
    refine seq_gen (fun σ' H1 => H = H1 ∧ ∃ s : Nat, 1 ≤ s ∧ (s ≤ 6 ∨ (m = 2 ∧ s ≤ 12)) ∧ σ' = [some (.ref a), some (.int (s : Int)), some (.int (m : Int)), none, none, none]) ?_ (fun N hN => ?_)
    case refine_2 =>
      simp_all only [spAt]
      refine ite2 (fun c => ⟨ns, hS, by decide, by decide, fun x => ⟨by decide, ?_⟩⟩) (fun c => hN _ _ ⟨rfl, s', s1, .inl s6, rfl⟩)
      have k0 := Int.emod_nonneg x (show (12 : Int) ≠ 0 by decide)
      have k1 := Int.emod_lt_of_pos x (show (0 : Int) < 12 by decide)
      refine hN _ _ ⟨rfl, (1 + x % 12).toNat, by omega, .inr ⟨by omega, by omega⟩, ?_⟩
      rw [Int.toNat_of_nonneg (by omega)]
    clear s1 s6 s'
    rintro _ _ ⟨rfl, s', s1, s6, rfl⟩
    have pw1 : s' ^ m ≤ 1296 := by
      rcases s6 with h | ⟨rfl, h⟩
      · exact Nat.le_trans (Nat.pow_le_pow_left h m) (Nat.le_trans (Nat.pow_le_pow_right (by decide) m4) (by decide))
      · exact Nat.le_trans (Nat.pow_le_pow_left h 2) (by decide)
    have s20 : s' ≤ 20 := by omega
    change tSeq _ _ _ [some (.ref a), some (.int (s' : Int)), some (.int (m : Int)), none, none, none] H
    refine seq_gen (fun σ' H1 => H = H1 ∧ ∃ n : Nat, 1 ≤ n ∧ n < m ∧ σ' = [some (.ref a), some (.int (s' : Int)), some (.int (m : Int)), some (.int (n : Int)), none, none]) ?_ (fun N hN => ?_)
    case refine_2 =>
      simp_all only [spAt]
      refine ⟨ns, hS, by decide, by decide, fun x => ⟨by omega, ?_⟩⟩
      have k0 := Int.emod_nonneg x (show ((m : Int) - 1) ≠ 0 by omega)
      have k1 := Int.emod_lt_of_pos x (show (0 : Int) < (m : Int) - 1 by omega)
      refine hN _ _ ⟨rfl, (1 + x % ((m : Int) - 1)).toNat, by omega, by omega, ?_⟩
      rw [Int.toNat_of_nonneg (by omega)]
    rintro _ _ ⟨rfl, n, n1, nm, rfl⟩
    have ga : GoodL [.best n m s'] := goodL1 ⟨s1, s20, by omega, by omega⟩ pw1 (Nat.le_trans pw1 (by decide))
    have gb : GoodL [.worst (m - n) m s'] := goodL1 ⟨s1, s20, by omega, by omega⟩ pw1 (Nat.le_trans pw1 (by decide))
    have ba := mnB_bnd ga
    have bb := mnB_bnd gb
    change tSeq _ _ _ [some (.ref a), some (.int (s' : Int)), some (.int (m : Int)), some (.int (n : Int)), none, none] H
    refine seq_gen (fun σ' H1 => Same H H1 ∧ ∃ h, H1 h = some (.tup (Pr (mnT [.best n m s']) (mnB [.best n m s']))) ∧ σ' = [some (.ref a), some (.int (s' : Int)), some (.int (m : Int)), some (.int (n : Int)), some (.ref h), none]) ?_ (fun N hN => ?_)
    case refine_2 =>
      simp_all only [spPl, spMean]
      refine ⟨by decide, fun q H1 sq nq eq => ⟨by decide, fun c nc => ⟨[.best n m s'], ⟨_, upd_same, .one ⟨q, rfl, same_upd nc _ _ eq⟩⟩, ga, by simp, fun o H2 s2 no ro => ⟨_, ro, _, goodR_tab ga, fun B p H3 s3 gB hp => ?_⟩⟩⟩⟩
      obtain ⟨e1, e2⟩ := mean_tab ga gB
      rw [e1, e2] at hp
      exact hN _ _ ⟨sq.trans ((same_upd nc).trans (s2.trans s3)), p, hp, rfl⟩
    rintro _ H1 ⟨sm1, h, hh, rfl⟩
    change tSeq _ _ _ [some (.ref a), some (.int (s' : Int)), some (.int (m : Int)), some (.int (n : Int)), some (.ref h), none] H1
    refine seq_gen (fun σ' H2 => Same H1 H2 ∧ ∃ g, H2 g = some (.tup (Pr (mnT [.worst (m - n) m s']) (mnB [.worst (m - n) m s']))) ∧ σ' = [some (.ref a), some (.int (s' : Int)), some (.int (m : Int)), some (.int (n : Int)), some (.ref h), some (.ref g)]) ?_ (fun N hN => ?_)
    case refine_2 =>
      simp_all only [spPl, spMean]
      refine ⟨by decide, fun q H2 sq nq eq => ⟨by decide, fun c nc => ⟨[.worst (m - n) m s'], ⟨_, upd_same, .one ⟨q, rfl, ?_⟩⟩, gb, by simp, fun o H3 s2 no ro => ⟨_, ro, _, goodR_tab gb, fun B p H4 s3 gB hp => ?_⟩⟩⟩⟩
      · rw [same_upd nc _ _ eq, ptV, Int.ofNat_sub (by omega)]
      · obtain ⟨e1, e2⟩ := mean_tab gb gB
        rw [e1, e2] at hp
        exact hN _ _ ⟨sq.trans ((same_upd nc).trans (s2.trans s3)), p, hp, rfl⟩
    rintro _ H2 ⟨sm2, g, hg, rfl⟩
    simp_all only [spPlus, spEv]
    refine ⟨_, _, sm2 _ _ hh, _, _, hg, Bt.of 1000000 (by omega) (by omega), Bt.of 1000000 (by omega) (by omega), Int.mul_ne_zero (by omega) (by omega), fun r H3 s3 hr' => ⟨mulOkL (by omega) (by omega), by decide, fun t H4 s4 nt ht => ?_⟩⟩
    refine ⟨_, _, s4 _ _ hr', _, _, ht, mulOkR, ?_, bw_even (by omega) ga gb rfl rfl, kk _ (sm1.trans (sm2.trans (s3.trans s4)))⟩
    have i2 : (m : Int) * ((s' : Int) + 1) ≤ 4 * 21 := Int.mul_le_mul (by omega) (by omega) (by omega) (by decide)
    have i1 : 0 ≤ (m : Int) * ((s' : Int) + 1) := Int.mul_nonneg (by omega) (by omega)
    exact mulOkL (by omega) (by omega)
theorem sc_law : FnScope ["_law_script", "_law_pool_here"] ["_law_script"] (defScope (top 66)) := ⟨rfl, rfl, rfl, by decide +kernel, rfl, by decide +kernel, by decide +kernel⟩
theorem ok_law (T : Txt K mg w.params q_NoShare q_NoTable q_TooMany q_OF_MANY q_OF_ONE) {f : Addr} {fd : FuncData} (F : Fun K "law" "law" (top 66) f fd) : FnOk P w K mg base (CX1 P w) 8 f fd ["_law_script"] (spLaw K) := by
  have c__law_at : Cal P w K mg base (CX1 P w) 1 "_law_at" ["_law_script", "_law_k"] (spAt K) := ok_at T
  have c__law_pool : Cal P w K mg base (CX1 P w) 3 "_law_pool" ["_law_script"] (spLPo K) := ok_lpo T
  have c__law_parts_add_up : Cal P w K mg base (CX1 P w) 7 "_law_parts_add_up" ["_law_pool_here", "_law_turn"] spAU := ok_au T
  have c__law_best_and_worst : Cal P w K mg base (CX1 P w) 7 "_law_best_and_worst" ["_law_script"] (spBW K) := ok_bw T
  have c__law_from : Cal P w K mg base (CX1 P w) 7 "_law_from" ["_law_pool_here", "_law_number"] spFr := ok_fr T
  have c_pool_table : Cal P w K mg base (CX1 P w) 6 "pool_table" ["pool"] spPl := ok_pl T
  have c_read_pool : Cal P w K mg base (CX1 P w) 7 "read_pool" ["text"] spXl := ok_xl T
  have c_show_pool : Cal P w K mg base (CX1 P w) 3 "show_pool" ["pool"] spShL := ok_shl T
  refine F.okC sc_law (fun vs H Q E h => ?_) (fun cdv A outer s H vs Q E hr h => ?_)
  · obtain ⟨_, _, rfl, _⟩ := h; rfl
  · obtain ⟨a, ns, rfl, hS, hlen, kk⟩ := h
    have nd := sc_law.nd
    refine ⟨_, (pss_cons (ps_set (i := 1) nd rfl (Or.inl rfl) (pe_cal c__law_pool (hr.mono (by decide)) rfl strictP.pass (pa_cons (pv 0) pa_nil (se rfl)) (he := se rfl) (hpl := na rfl)))
    (pss_cons (ps_if (PW.pt (pw_or (pt_not (pt_val (pe_cal c__law_parts_add_up (hr.mono (by decide)) rfl strictP.pass (pa_cons (pv 1) (pa_cons (pe_cal c__law_at (hr.mono (by decide)) rfl strictP.pass (pa_cons (pv 0) (pa_cons pe_int pa_nil (se rfl)) (se rfl)) (he := se rfl) (hpl := na rfl)) pa_nil (se rfl)) (se rfl)) (he := se rfl) (hpl := na rfl)))) (pw_or1 (pt_not (pt_val (pe_cal c__law_best_and_worst (hr.mono (by decide)) rfl strictP.pass (pa_cons (pv 0) pa_nil (se rfl)) (he := se rfl) (hpl := na rfl))))))) (pss_one (ps_ret pe_bl))
      pss_nil)
    (pss_cons (ps_if (pt_not (pt_val (pe_cal c__law_from (hr.mono (by decide)) rfl strictP.pass (pa_cons (pv 1) (pa_cons (pe_op op_modB (pe_cal c__law_at (hr.mono (by decide)) rfl strictP.pass (pa_cons (pv 0) (pa_cons pe_int pa_nil (se rfl)) (se rfl)) (he := se rfl) (hpl := na rfl)) pe_int) pa_nil (se rfl)) (se rfl)) (he := se rfl) (hpl := na rfl)))) (pss_one (ps_ret pe_bl))
      pss_nil)
    (pss_one (ps_ret (pe_cmpR (op_eqD hr.units) (pe_cal c_pool_table (hr.mono (by decide)) rfl strictP.pass (pa_cons (pe_cal c_read_pool (hr.mono (by decide)) rfl strictP.pass (pa_cons (pe_cal c_show_pool (hr.mono (by decide)) rfl strictP.pass (pa_cons (pv 1) pa_nil (se rfl)) (he := se rfl) (hpl := na rfl)) pa_nil (se rfl)) (he := se rfl) (hpl := na rfl)) pa_nil (se rfl)) (he := se rfl) (hpl := na rfl)) (pe_cal c_pool_table (hr.mono (by decide)) rfl strictP.pass (pa_cons (pv 1) pa_nil (se rfl)) (he := se rfl) (hpl := na rfl)) (nomark _))))))), ?_⟩
    have sl := sizeLine_eq
    change tSeq _ _ _ [some (.ref a), none] H
    refine seq_gen (fun σ' H1 => Same H H1 ∧ ∃ l ps, PlH H1 l ps ∧ GoodL ps ∧ (∀ p ∈ ps, RdP p) ∧ ps ≠ [] ∧ ps.length ≤ 4 ∧ σ' = [some (.ref a), some (.ref l)]) ?_ (fun N hN => ?_)
    case refine_2 =>
      simp_all only [spLPo]
      exact ⟨ns, hS, fun l ps H1 s1 hp gl rd pn l4 => hN _ _ ⟨s1, l, ps, hp, gl, rd, pn, l4, rfl⟩⟩
    rintro _ H1 ⟨sm1, l, ps, hp, gl, rd, pn, l4, rfl⟩
    change tSeq _ _ _ [some (.ref a), some (.ref l)] H1
    refine seq_gen (fun σ' H2 => Same H1 H2 ∧ σ' = [some (.ref a), some (.ref l)]) ?_ (fun N hN => ?_)
    case refine_2 =>
      simp_all only [spAt, spAU, spBW]
      refine ⟨ns, sm1.seq hS, by decide, by decide, fun t => ⟨ps, hp, gl, pn, l4, fun H2 s2 => ?_⟩⟩
      rw [if_neg (by decide)]
      refine ⟨ns, (sm1.trans s2).seq hS, fun H3 s3 => ?_⟩
      rw [if_neg (by decide)]
      exact hN _ _ ⟨s2.trans s3, rfl⟩
    rintro _ H2 ⟨sm2, rfl⟩
    change tSeq _ _ _ [some (.ref a), some (.ref l)] H2
    refine seq_gen (fun σ' H3 => Same H2 H3 ∧ σ' = [some (.ref a), some (.ref l)]) ?_ (fun N hN => ?_)
    case refine_2 =>
      simp_all only [spAt, spFr]
      refine ⟨ns, (sm1.trans sm2).seq hS, by decide, by decide, fun t => ⟨by decide, ps, hp.mono sm2, gl, pn, l4, fun H3 s3 => ?_⟩⟩
      rw [if_neg (by decide)]
      exact hN _ _ ⟨s3, rfl⟩
    rintro _ H3 ⟨sm3, rfl⟩
    have sm := sm2.trans sm3
    have xg : ∀ p ∈ ps.map toX, XGp p := fun p hp' => by
      obtain ⟨q, hq, rfl⟩ := List.mem_map.mp hp'
      exact toX_good (gl.1 q hq) (rd q hq)
    simp_all only [spShL, spXl, spPl, rEqD]
    refine ⟨_, plH_toX (hp.mono sm), by rw [List.length_map]; exact l4, xg, fun H4 s4 => ⟨ps.map toX, rfl, by simpa using pn, by rw [List.length_map]; exact l4, xg, fun m H5 s5 nm hm => ?_⟩⟩
    refine ⟨ps, plH_ofX hm, gl, l4, fun o H6 s6 no ro => ⟨ps, hp.mono (sm.trans (s4.trans (s5.trans s6))), gl, l4, fun o2 H7 s7 no2 ro2 => ?_⟩⟩
    exact ⟨_, ro.mono s7, ro2, ⟨_, rfl⟩, depth_rows _, kk _⟩
end
theorem all_mk {l : PySem.W.OpenLaw} {w : World} {K : PySem.W.Frag} {h : Heap} {mg : Str → Option Value} {fa : Addr} (X : K.In h) (G : h.Ns mainGlobals mg) (hfa : mg "law" = some (.ref fa))
    {f0 : Addr} {od0 an0 : Option Addr} {sl0 : Array (Option Value)} {oc0 kV0 dc0 pm0 cd0 ct0 : Value} {f1 : Addr} {od1 an1 : Option Addr} {sl1 : Array (Option Value)} {oc1 kV1 dc1 pm1 cd1 ct1 : Value} {f2 : Addr} {od2 an2 : Option Addr} {sl2 : Array (Option Value)} {oc2 kV2 dc2 pm2 cd2 ct2 : Value} {f3 : Addr} {od3 an3 : Option Addr} {sl3 : Array (Option Value)} {oc3 kV3 dc3 pm3 cd3 ct3 : Value} {f4 : Addr} {od4 an4 : Option Addr} {sl4 : Array (Option Value)} {oc4 kV4 dc4 pm4 cd4 ct4 : Value} {f5 : Addr} {od5 an5 : Option Addr} {sl5 : Array (Option Value)} {oc5 kV5 dc5 pm5 cd5 ct5 : Value} {f6 : Addr} {od6 an6 : Option Addr} {sl6 : Array (Option Value)} {oc6 kV6 dc6 pm6 cd6 ct6 : Value} {f7 : Addr} {od7 an7 : Option Addr} {sl7 : Array (Option Value)} {oc7 kV7 dc7 pm7 cd7 ct7 : Value} {f8 : Addr} {od8 an8 : Option Addr} {sl8 : Array (Option Value)} {oc8 kV8 dc8 pm8 cd8 ct8 : Value} {f9 : Addr} {od9 an9 : Option Addr} {sl9 : Array (Option Value)} {oc9 kV9 dc9 pm9 cd9 ct9 : Value} {f10 : Addr} {od10 an10 : Option Addr} {sl10 : Array (Option Value)} {oc10 kV10 dc10 pm10 cd10 ct10 : Value} {f11 : Addr} {od11 an11 : Option Addr} {sl11 : Array (Option Value)} {oc11 kV11 dc11 pm11 cd11 ct11 : Value} {f12 : Addr} {od12 an12 : Option Addr} {sl12 : Array (Option Value)} {oc12 kV12 dc12 pm12 cd12 ct12 : Value} {f13 : Addr} {od13 an13 : Option Addr} {sl13 : Array (Option Value)} {oc13 kV13 dc13 pm13 cd13 ct13 : Value} {f14 : Addr} {od14 an14 : Option Addr} {sl14 : Array (Option Value)} {oc14 kV14 dc14 pm14 cd14 ct14 : Value} {f15 : Addr} {od15 an15 : Option Addr} {sl15 : Array (Option Value)} {oc15 kV15 dc15 pm15 cd15 ct15 : Value} {f16 : Addr} {od16 an16 : Option Addr} {sl16 : Array (Option Value)} {oc16 kV16 dc16 pm16 cd16 ct16 : Value} {f17 : Addr} {od17 an17 : Option Addr} {sl17 : Array (Option Value)} {oc17 kV17 dc17 pm17 cd17 ct17 : Value} {f18 : Addr} {od18 an18 : Option Addr} {sl18 : Array (Option Value)} {oc18 kV18 dc18 pm18 cd18 ct18 : Value} {f19 : Addr} {od19 an19 : Option Addr} {sl19 : Array (Option Value)} {oc19 kV19 dc19 pm19 cd19 ct19 : Value} {f20 : Addr} {od20 an20 : Option Addr} {sl20 : Array (Option Value)} {oc20 kV20 dc20 pm20 cd20 ct20 : Value} {f21 : Addr} {od21 an21 : Option Addr} {sl21 : Array (Option Value)} {oc21 kV21 dc21 pm21 cd21 ct21 : Value} {f22 : Addr} {od22 an22 : Option Addr} {sl22 : Array (Option Value)} {oc22 kV22 dc22 pm22 cd22 ct22 : Value} {f23 : Addr} {od23 an23 : Option Addr} {sl23 : Array (Option Value)} {oc23 kV23 dc23 pm23 cd23 ct23 : Value} {f24 : Addr} {od24 an24 : Option Addr} {sl24 : Array (Option Value)} {oc24 kV24 dc24 pm24 cd24 ct24 : Value} {f25 : Addr} {od25 an25 : Option Addr} {sl25 : Array (Option Value)} {oc25 kV25 dc25 pm25 cd25 ct25 : Value} {f26 : Addr} {od26 an26 : Option Addr} {sl26 : Array (Option Value)} {oc26 kV26 dc26 pm26 cd26 ct26 : Value} {f27 : Addr} {od27 an27 : Option Addr} {sl27 : Array (Option Value)} {oc27 kV27 dc27 pm27 cd27 ct27 : Value} {f28 : Addr} {od28 an28 : Option Addr} {sl28 : Array (Option Value)} {oc28 kV28 dc28 pm28 cd28 ct28 : Value} {f29 : Addr} {od29 an29 : Option Addr} {sl29 : Array (Option Value)} {oc29 kV29 dc29 pm29 cd29 ct29 : Value} {f30 : Addr} {od30 an30 : Option Addr} {sl30 : Array (Option Value)} {oc30 kV30 dc30 pm30 cd30 ct30 : Value} {f31 : Addr} {od31 an31 : Option Addr} {sl31 : Array (Option Value)} {oc31 kV31 dc31 pm31 cd31 ct31 : Value} {f32 : Addr} {od32 an32 : Option Addr} {sl32 : Array (Option Value)} {oc32 kV32 dc32 pm32 cd32 ct32 : Value} {f33 : Addr} {od33 an33 : Option Addr} {sl33 : Array (Option Value)} {oc33 kV33 dc33 pm33 cd33 ct33 : Value} {f34 : Addr} {od34 an34 : Option Addr} {sl34 : Array (Option Value)} {oc34 kV34 dc34 pm34 cd34 ct34 : Value} {f35 : Addr} {od35 an35 : Option Addr} {sl35 : Array (Option Value)} {oc35 kV35 dc35 pm35 cd35 ct35 : Value} {f36 : Addr} {od36 an36 : Option Addr} {sl36 : Array (Option Value)} {oc36 kV36 dc36 pm36 cd36 ct36 : Value} {f37 : Addr} {od37 an37 : Option Addr} {sl37 : Array (Option Value)} {oc37 kV37 dc37 pm37 cd37 ct37 : Value} {f38 : Addr} {od38 an38 : Option Addr} {sl38 : Array (Option Value)} {oc38 kV38 dc38 pm38 cd38 ct38 : Value} {f39 : Addr} {od39 an39 : Option Addr} {sl39 : Array (Option Value)} {oc39 kV39 dc39 pm39 cd39 ct39 : Value} {f40 : Addr} {od40 an40 : Option Addr} {sl40 : Array (Option Value)} {oc40 kV40 dc40 pm40 cd40 ct40 : Value} {f41 : Addr} {od41 an41 : Option Addr} {sl41 : Array (Option Value)} {oc41 kV41 dc41 pm41 cd41 ct41 : Value} {f42 : Addr} {od42 an42 : Option Addr} {sl42 : Array (Option Value)} {oc42 kV42 dc42 pm42 cd42 ct42 : Value} {f43 : Addr} {od43 an43 : Option Addr} {sl43 : Array (Option Value)} {oc43 kV43 dc43 pm43 cd43 ct43 : Value} {f44 : Addr} {od44 an44 : Option Addr} {sl44 : Array (Option Value)} {oc44 kV44 dc44 pm44 cd44 ct44 : Value} {f45 : Addr} {od45 an45 : Option Addr} {sl45 : Array (Option Value)} {oc45 kV45 dc45 pm45 cd45 ct45 : Value} {vt_FIGURES : Tok} {vt_MOST_FIGURES : Tok} {vt_MOST_THROWS : Tok} {vt_MOST_BOTTOM : Tok} {vt_MOST_PARTS : Tok} {vt_MOST_NUMBER : Tok} {vt_MOST_DICE : Tok} {vt_MOST_SIDES : Tok} {q_NoShare q_NoTable q_TooMany q_OF_MANY q_OF_ONE : Addr}
    (a0 : PySem.W.nsIn K mainGlobals "common_divisor" = some (some (.ref f0))) (l0 : K.lookup f0 = some ⟨oc0, od0, .func (PySem.W.fnOf "common_divisor" "common_divisor" (defArgs (top 9)) (defBody (top 9)) (defScope (top 9)) .none kV0 dc0 pm0 an0 cd0 ct0), sl0⟩) (e0 : PySem.W.codeIn K cd0 "common_divisor" = true) (k0 : PySem.W.keepIn K (.ref f0) = true)
    (a1 : PySem.W.nsIn K mainGlobals "share" = some (some (.ref f1))) (l1 : K.lookup f1 = some ⟨oc1, od1, .func (PySem.W.fnOf "share" "share" (defArgs (top 10)) (defBody (top 10)) (defScope (top 10)) .none kV1 dc1 pm1 an1 cd1 ct1), sl1⟩) (e1 : PySem.W.codeIn K cd1 "share" = true) (k1 : PySem.W.keepIn K (.ref f1) = true)
    (a2 : PySem.W.nsIn K mainGlobals "plus" = some (some (.ref f2))) (l2 : K.lookup f2 = some ⟨oc2, od2, .func (PySem.W.fnOf "plus" "plus" (defArgs (top 11)) (defBody (top 11)) (defScope (top 11)) .none kV2 dc2 pm2 an2 cd2 ct2), sl2⟩) (e2 : PySem.W.codeIn K cd2 "plus" = true) (k2 : PySem.W.keepIn K (.ref f2) = true)
    (a3 : PySem.W.nsIn K mainGlobals "common_bottom" = some (some (.ref f3))) (l3 : K.lookup f3 = some ⟨oc3, od3, .func (PySem.W.fnOf "common_bottom" "common_bottom" (defArgs (top 12)) (defBody (top 12)) (defScope (top 12)) .none kV3 dc3 pm3 an3 cd3 ct3), sl3⟩) (e3 : PySem.W.codeIn K cd3 "common_bottom" = true) (k3 : PySem.W.keepIn K (.ref f3) = true)
    (a4 : PySem.W.nsIn K mainGlobals "is_figures" = some (some (.ref f4))) (l4 : K.lookup f4 = some ⟨oc4, od4, .func (PySem.W.fnOf "is_figures" "is_figures" (defArgs (top 13)) (defBody (top 13)) (defScope (top 13)) .none kV4 dc4 pm4 an4 cd4 ct4), sl4⟩) (e4 : PySem.W.codeIn K cd4 "is_figures" = true) (k4 : PySem.W.keepIn K (.ref f4) = true)
    (a5 : PySem.W.nsIn K mainGlobals "whole_in" = some (some (.ref f5))) (l5 : K.lookup f5 = some ⟨oc5, od5, .func (PySem.W.fnOf "whole_in" "whole_in" (defArgs (top 14)) (defBody (top 14)) (defScope (top 14)) .none kV5 dc5 pm5 an5 cd5 ct5), sl5⟩) (e5 : PySem.W.codeIn K cd5 "whole_in" = true) (k5 : PySem.W.keepIn K (.ref f5) = true)
    (a6 : PySem.W.nsIn K mainGlobals "table_by_weights" = some (some (.ref f6))) (l6 : K.lookup f6 = some ⟨oc6, od6, .func (PySem.W.fnOf "table_by_weights" "table_by_weights" (defArgs (top 16)) (defBody (top 16)) (defScope (top 16)) .none kV6 dc6 pm6 an6 cd6 ct6), sl6⟩) (e6 : PySem.W.codeIn K cd6 "table_by_weights" = true) (k6 : PySem.W.keepIn K (.ref f6) = true)
    (a7 : PySem.W.nsIn K mainGlobals "table_of" = some (some (.ref f7))) (l7 : K.lookup f7 = some ⟨oc7, od7, .func (PySem.W.fnOf "table_of" "table_of" (defArgs (top 17)) (defBody (top 17)) (defScope (top 17)) .none kV7 dc7 pm7 an7 cd7 ct7), sl7⟩) (e7 : PySem.W.codeIn K cd7 "table_of" = true) (k7 : PySem.W.keepIn K (.ref f7) = true)
    (a8 : PySem.W.nsIn K mainGlobals "bottom_of" = some (some (.ref f8))) (l8 : K.lookup f8 = some ⟨oc8, od8, .func (PySem.W.fnOf "bottom_of" "bottom_of" (defArgs (top 18)) (defBody (top 18)) (defScope (top 18)) .none kV8 dc8 pm8 an8 cd8 ct8), sl8⟩) (e8 : PySem.W.codeIn K cd8 "bottom_of" = true) (k8 : PySem.W.keepIn K (.ref f8) = true)
    (a9 : PySem.W.nsIn K mainGlobals "weighed" = some (some (.ref f9))) (l9 : K.lookup f9 = some ⟨oc9, od9, .func (PySem.W.fnOf "weighed" "weighed" (defArgs (top 19)) (defBody (top 19)) (defScope (top 19)) .none kV9 dc9 pm9 an9 cd9 ct9), sl9⟩) (e9 : PySem.W.codeIn K cd9 "weighed" = true) (k9 : PySem.W.keepIn K (.ref f9) = true)
    (a10 : PySem.W.nsIn K mainGlobals "added" = some (some (.ref f10))) (l10 : K.lookup f10 = some ⟨oc10, od10, .func (PySem.W.fnOf "added" "added" (defArgs (top 20)) (defBody (top 20)) (defScope (top 20)) .none kV10 dc10 pm10 an10 cd10 ct10), sl10⟩) (e10 : PySem.W.codeIn K cd10 "added" = true) (k10 : PySem.W.keepIn K (.ref f10) = true)
    (a11 : PySem.W.nsIn K mainGlobals "mean" = some (some (.ref f11))) (l11 : K.lookup f11 = some ⟨oc11, od11, .func (PySem.W.fnOf "mean" "mean" (defArgs (top 21)) (defBody (top 21)) (defScope (top 21)) .none kV11 dc11 pm11 an11 cd11 ct11), sl11⟩) (e11 : PySem.W.codeIn K cd11 "mean" = true) (k11 : PySem.W.keepIn K (.ref f11) = true)
    (a12 : PySem.W.nsIn K mainGlobals "share_from" = some (some (.ref f12))) (l12 : K.lookup f12 = some ⟨oc12, od12, .func (PySem.W.fnOf "share_from" "share_from" (defArgs (top 22)) (defBody (top 22)) (defScope (top 22)) .none kV12 dc12 pm12 an12 cd12 ct12), sl12⟩) (e12 : PySem.W.codeIn K cd12 "share_from" = true) (k12 : PySem.W.keepIn K (.ref f12) = true)
    (a13 : PySem.W.nsIn K mainGlobals "power" = some (some (.ref f13))) (l13 : K.lookup f13 = some ⟨oc13, od13, .func (PySem.W.fnOf "power" "power" (defArgs (top 26)) (defBody (top 26)) (defScope (top 26)) .none kV13 dc13 pm13 an13 cd13 ct13), sl13⟩) (e13 : PySem.W.codeIn K cd13 "power" = true) (k13 : PySem.W.keepIn K (.ref f13) = true)
    (a14 : PySem.W.nsIn K mainGlobals "most_faces" = some (some (.ref f14))) (l14 : K.lookup f14 = some ⟨oc14, od14, .func (PySem.W.fnOf "most_faces" "most_faces" (defArgs (top 27)) (defBody (top 27)) (defScope (top 27)) .none kV14 dc14 pm14 an14 cd14 ct14), sl14⟩) (e14 : PySem.W.codeIn K cd14 "most_faces" = true) (k14 : PySem.W.keepIn K (.ref f14) = true)
    (a15 : PySem.W.nsIn K mainGlobals "part_bottom" = some (some (.ref f15))) (l15 : K.lookup f15 = some ⟨oc15, od15, .func (PySem.W.fnOf "part_bottom" "part_bottom" (defArgs (top 28)) (defBody (top 28)) (defScope (top 28)) .none kV15 dc15 pm15 an15 cd15 ct15), sl15⟩) (e15 : PySem.W.codeIn K cd15 "part_bottom" = true) (k15 : PySem.W.keepIn K (.ref f15) = true)
    (a16 : PySem.W.nsIn K mainGlobals "part_count" = some (some (.ref f16))) (l16 : K.lookup f16 = some ⟨oc16, od16, .func (PySem.W.fnOf "part_count" "part_count" (defArgs (top 29)) (defBody (top 29)) (defScope (top 29)) .none kV16 dc16 pm16 an16 cd16 ct16), sl16⟩) (e16 : PySem.W.codeIn K cd16 "part_count" = true) (k16 : PySem.W.keepIn K (.ref f16) = true)
    (a17 : PySem.W.nsIn K mainGlobals "check_size" = some (some (.ref f17))) (l17 : K.lookup f17 = some ⟨oc17, od17, .func (PySem.W.fnOf "check_size" "check_size" (defArgs (top 30)) (defBody (top 30)) (defScope (top 30)) .none kV17 dc17 pm17 an17 cd17 ct17), sl17⟩) (e17 : PySem.W.codeIn K cd17 "check_size" = true) (k17 : PySem.W.keepIn K (.ref f17) = true)
    (a18 : PySem.W.nsIn K mainGlobals "dice_faces" = some (some (.ref f18))) (l18 : K.lookup f18 = some ⟨oc18, od18, .func (PySem.W.fnOf "dice_faces" "dice_faces" (defArgs (top 31)) (defBody (top 31)) (defScope (top 31)) .none kV18 dc18 pm18 an18 cd18 ct18), sl18⟩) (e18 : PySem.W.codeIn K cd18 "dice_faces" = true) (k18 : PySem.W.keepIn K (.ref f18) = true)
    (a19 : PySem.W.nsIn K mainGlobals "again_faces" = some (some (.ref f19))) (l19 : K.lookup f19 = some ⟨oc19, od19, .func (PySem.W.fnOf "again_faces" "again_faces" (defArgs (top 32)) (defBody (top 32)) (defScope (top 32)) .none kV19 dc19 pm19 an19 cd19 ct19), sl19⟩) (e19 : PySem.W.codeIn K cd19 "again_faces" = true) (k19 : PySem.W.keepIn K (.ref f19) = true)
    (a20 : PySem.W.nsIn K mainGlobals "burst_faces" = some (some (.ref f20))) (l20 : K.lookup f20 = some ⟨oc20, od20, .func (PySem.W.fnOf "burst_faces" "burst_faces" (defArgs (top 33)) (defBody (top 33)) (defScope (top 33)) .none kV20 dc20 pm20 an20 cd20 ct20), sl20⟩) (e20 : PySem.W.codeIn K cd20 "burst_faces" = true) (k20 : PySem.W.keepIn K (.ref f20) = true)
    (a21 : PySem.W.nsIn K mainGlobals "part_faces" = some (some (.ref f21))) (l21 : K.lookup f21 = some ⟨oc21, od21, .func (PySem.W.fnOf "part_faces" "part_faces" (defArgs (top 34)) (defBody (top 34)) (defScope (top 34)) .none kV21 dc21 pm21 an21 cd21 ct21), sl21⟩) (e21 : PySem.W.codeIn K cd21 "part_faces" = true) (k21 : PySem.W.keepIn K (.ref f21) = true)
    (a22 : PySem.W.nsIn K mainGlobals "value_of" = some (some (.ref f22))) (l22 : K.lookup f22 = some ⟨oc22, od22, .func (PySem.W.fnOf "value_of" "value_of" (defArgs (top 35)) (defBody (top 35)) (defScope (top 35)) .none kV22 dc22 pm22 an22 cd22 ct22), sl22⟩) (e22 : PySem.W.codeIn K cd22 "value_of" = true) (k22 : PySem.W.keepIn K (.ref f22) = true)
    (a23 : PySem.W.nsIn K mainGlobals "sides_product" = some (some (.ref f23))) (l23 : K.lookup f23 = some ⟨oc23, od23, .func (PySem.W.fnOf "sides_product" "sides_product" (defArgs (top 36)) (defBody (top 36)) (defScope (top 36)) .none kV23 dc23 pm23 an23 cd23 ct23), sl23⟩) (e23 : PySem.W.codeIn K cd23 "sides_product" = true) (k23 : PySem.W.keepIn K (.ref f23) = true)
    (a24 : PySem.W.nsIn K mainGlobals "part_throws" = some (some (.ref f24))) (l24 : K.lookup f24 = some ⟨oc24, od24, .func (PySem.W.fnOf "part_throws" "part_throws" (defArgs (top 37)) (defBody (top 37)) (defScope (top 37)) .none kV24 dc24 pm24 an24 cd24 ct24), sl24⟩) (e24 : PySem.W.codeIn K cd24 "part_throws" = true) (k24 : PySem.W.keepIn K (.ref f24) = true)
    (a25 : PySem.W.nsIn K mainGlobals "throws_by_bottom" = some (some (.ref f25))) (l25 : K.lookup f25 = some ⟨oc25, od25, .func (PySem.W.fnOf "throws_by_bottom" "throws_by_bottom" (defArgs (top 38)) (defBody (top 38)) (defScope (top 38)) .none kV25 dc25 pm25 an25 cd25 ct25), sl25⟩) (e25 : PySem.W.codeIn K cd25 "throws_by_bottom" = true) (k25 : PySem.W.keepIn K (.ref f25) = true)
    (a26 : PySem.W.nsIn K mainGlobals "throws" = some (some (.ref f26))) (l26 : K.lookup f26 = some ⟨oc26, od26, .func (PySem.W.fnOf "throws" "throws" (defArgs (top 39)) (defBody (top 39)) (defScope (top 39)) .none kV26 dc26 pm26 an26 cd26 ct26), sl26⟩) (e26 : PySem.W.codeIn K cd26 "throws" = true) (k26 : PySem.W.keepIn K (.ref f26) = true)
    (a27 : PySem.W.nsIn K mainGlobals "pool_table" = some (some (.ref f27))) (l27 : K.lookup f27 = some ⟨oc27, od27, .func (PySem.W.fnOf "pool_table" "pool_table" (defArgs (top 40)) (defBody (top 40)) (defScope (top 40)) .none kV27 dc27 pm27 an27 cd27 ct27), sl27⟩) (e27 : PySem.W.codeIn K cd27 "pool_table" = true) (k27 : PySem.W.keepIn K (.ref f27) = true)
    (a28 : PySem.W.nsIn K mainGlobals "show_dice" = some (some (.ref f28))) (l28 : K.lookup f28 = some ⟨oc28, od28, .func (PySem.W.fnOf "show_dice" "show_dice" (defArgs (top 48)) (defBody (top 48)) (defScope (top 48)) .none kV28 dc28 pm28 an28 cd28 ct28), sl28⟩) (e28 : PySem.W.codeIn K cd28 "show_dice" = true) (k28 : PySem.W.keepIn K (.ref f28) = true)
    (a29 : PySem.W.nsIn K mainGlobals "show_part" = some (some (.ref f29))) (l29 : K.lookup f29 = some ⟨oc29, od29, .func (PySem.W.fnOf "show_part" "show_part" (defArgs (top 49)) (defBody (top 49)) (defScope (top 49)) .none kV29 dc29 pm29 an29 cd29 ct29), sl29⟩) (e29 : PySem.W.codeIn K cd29 "show_part" = true) (k29 : PySem.W.keepIn K (.ref f29) = true)
    (a30 : PySem.W.nsIn K mainGlobals "show_pool" = some (some (.ref f30))) (l30 : K.lookup f30 = some ⟨oc30, od30, .func (PySem.W.fnOf "show_pool" "show_pool" (defArgs (top 50)) (defBody (top 50)) (defScope (top 50)) .none kV30 dc30 pm30 an30 cd30 ct30), sl30⟩) (e30 : PySem.W.codeIn K cd30 "show_pool" = true) (k30 : PySem.W.keepIn K (.ref f30) = true)
    (a31 : PySem.W.nsIn K mainGlobals "read_number" = some (some (.ref f31))) (l31 : K.lookup f31 = some ⟨oc31, od31, .func (PySem.W.fnOf "read_number" "read_number" (defArgs (top 51)) (defBody (top 51)) (defScope (top 51)) .none kV31 dc31 pm31 an31 cd31 ct31), sl31⟩) (e31 : PySem.W.codeIn K cd31 "read_number" = true) (k31 : PySem.W.keepIn K (.ref f31) = true)
    (a32 : PySem.W.nsIn K mainGlobals "read_dice" = some (some (.ref f32))) (l32 : K.lookup f32 = some ⟨oc32, od32, .func (PySem.W.fnOf "read_dice" "read_dice" (defArgs (top 52)) (defBody (top 52)) (defScope (top 52)) .none kV32 dc32 pm32 an32 cd32 ct32), sl32⟩) (e32 : PySem.W.codeIn K cd32 "read_dice" = true) (k32 : PySem.W.keepIn K (.ref f32) = true)
    (a33 : PySem.W.nsIn K mainGlobals "read_worded" = some (some (.ref f33))) (l33 : K.lookup f33 = some ⟨oc33, od33, .func (PySem.W.fnOf "read_worded" "read_worded" (defArgs (top 53)) (defBody (top 53)) (defScope (top 53)) .none kV33 dc33 pm33 an33 cd33 ct33), sl33⟩) (e33 : PySem.W.codeIn K cd33 "read_worded" = true) (k33 : PySem.W.keepIn K (.ref f33) = true)
    (a34 : PySem.W.nsIn K mainGlobals "read_part" = some (some (.ref f34))) (l34 : K.lookup f34 = some ⟨oc34, od34, .func (PySem.W.fnOf "read_part" "read_part" (defArgs (top 54)) (defBody (top 54)) (defScope (top 54)) .none kV34 dc34 pm34 an34 cd34 ct34), sl34⟩) (e34 : PySem.W.codeIn K cd34 "read_part" = true) (k34 : PySem.W.keepIn K (.ref f34) = true)
    (a35 : PySem.W.nsIn K mainGlobals "read_pool" = some (some (.ref f35))) (l35 : K.lookup f35 = some ⟨oc35, od35, .func (PySem.W.fnOf "read_pool" "read_pool" (defArgs (top 55)) (defBody (top 55)) (defScope (top 55)) .none kV35 dc35 pm35 an35 cd35 ct35), sl35⟩) (e35 : PySem.W.codeIn K cd35 "read_pool" = true) (k35 : PySem.W.keepIn K (.ref f35) = true)
    (a36 : PySem.W.nsIn K mainGlobals "_law_at" = some (some (.ref f36))) (l36 : K.lookup f36 = some ⟨oc36, od36, .func (PySem.W.fnOf "_law_at" "_law_at" (defArgs (top 57)) (defBody (top 57)) (defScope (top 57)) .none kV36 dc36 pm36 an36 cd36 ct36), sl36⟩) (e36 : PySem.W.codeIn K cd36 "_law_at" = true) (k36 : PySem.W.keepIn K (.ref f36) = true)
    (a37 : PySem.W.nsIn K mainGlobals "_law_power" = some (some (.ref f37))) (l37 : K.lookup f37 = some ⟨oc37, od37, .func (PySem.W.fnOf "_law_power" "_law_power" (defArgs (top 58)) (defBody (top 58)) (defScope (top 58)) .none kV37 dc37 pm37 an37 cd37 ct37), sl37⟩) (e37 : PySem.W.codeIn K cd37 "_law_power" = true) (k37 : PySem.W.keepIn K (.ref f37) = true)
    (a38 : PySem.W.nsIn K mainGlobals "_law_part" = some (some (.ref f38))) (l38 : K.lookup f38 = some ⟨oc38, od38, .func (PySem.W.fnOf "_law_part" "_law_part" (defArgs (top 59)) (defBody (top 59)) (defScope (top 59)) .none kV38 dc38 pm38 an38 cd38 ct38), sl38⟩) (e38 : PySem.W.codeIn K cd38 "_law_part" = true) (k38 : PySem.W.keepIn K (.ref f38) = true)
    (a39 : PySem.W.nsIn K mainGlobals "_law_many" = some (some (.ref f39))) (l39 : K.lookup f39 = some ⟨oc39, od39, .func (PySem.W.fnOf "_law_many" "_law_many" (defArgs (top 60)) (defBody (top 60)) (defScope (top 60)) .none kV39 dc39 pm39 an39 cd39 ct39), sl39⟩) (e39 : PySem.W.codeIn K cd39 "_law_many" = true) (k39 : PySem.W.keepIn K (.ref f39) = true)
    (a40 : PySem.W.nsIn K mainGlobals "_law_pool" = some (some (.ref f40))) (l40 : K.lookup f40 = some ⟨oc40, od40, .func (PySem.W.fnOf "_law_pool" "_law_pool" (defArgs (top 61)) (defBody (top 61)) (defScope (top 61)) .none kV40 dc40 pm40 an40 cd40 ct40), sl40⟩) (e40 : PySem.W.codeIn K cd40 "_law_pool" = true) (k40 : PySem.W.keepIn K (.ref f40) = true)
    (a41 : PySem.W.nsIn K mainGlobals "_law_even" = some (some (.ref f41))) (l41 : K.lookup f41 = some ⟨oc41, od41, .func (PySem.W.fnOf "_law_even" "_law_even" (defArgs (top 62)) (defBody (top 62)) (defScope (top 62)) .none kV41 dc41 pm41 an41 cd41 ct41), sl41⟩) (e41 : PySem.W.codeIn K cd41 "_law_even" = true) (k41 : PySem.W.keepIn K (.ref f41) = true)
    (a42 : PySem.W.nsIn K mainGlobals "_law_parts_add_up" = some (some (.ref f42))) (l42 : K.lookup f42 = some ⟨oc42, od42, .func (PySem.W.fnOf "_law_parts_add_up" "_law_parts_add_up" (defArgs (top 63)) (defBody (top 63)) (defScope (top 63)) .none kV42 dc42 pm42 an42 cd42 ct42), sl42⟩) (e42 : PySem.W.codeIn K cd42 "_law_parts_add_up" = true) (k42 : PySem.W.keepIn K (.ref f42) = true)
    (a43 : PySem.W.nsIn K mainGlobals "_law_from" = some (some (.ref f43))) (l43 : K.lookup f43 = some ⟨oc43, od43, .func (PySem.W.fnOf "_law_from" "_law_from" (defArgs (top 64)) (defBody (top 64)) (defScope (top 64)) .none kV43 dc43 pm43 an43 cd43 ct43), sl43⟩) (e43 : PySem.W.codeIn K cd43 "_law_from" = true) (k43 : PySem.W.keepIn K (.ref f43) = true)
    (a44 : PySem.W.nsIn K mainGlobals "_law_best_and_worst" = some (some (.ref f44))) (l44 : K.lookup f44 = some ⟨oc44, od44, .func (PySem.W.fnOf "_law_best_and_worst" "_law_best_and_worst" (defArgs (top 65)) (defBody (top 65)) (defScope (top 65)) .none kV44 dc44 pm44 an44 cd44 ct44), sl44⟩) (e44 : PySem.W.codeIn K cd44 "_law_best_and_worst" = true) (k44 : PySem.W.keepIn K (.ref f44) = true)
    (a45 : PySem.W.nsIn K mainGlobals "law" = some (some (.ref f45))) (l45 : K.lookup f45 = some ⟨oc45, od45, .func (PySem.W.fnOf "law" "law" (defArgs (top 66)) (defBody (top 66)) (defScope (top 66)) .none kV45 dc45 pm45 an45 cd45 ct45), sl45⟩) (e45 : PySem.W.codeIn K cd45 "law" = true) (k45 : PySem.W.keepIn K (.ref f45) = true)
    (z_abs : PySem.W.nsIn K mainGlobals "abs" = some none)
    (z_all : PySem.W.nsIn K mainGlobals "all" = some none)
    (z_int : PySem.W.nsIn K mainGlobals "int" = some none)
    (z_isinstance : PySem.W.nsIn K mainGlobals "isinstance" = some none)
    (z_len : PySem.W.nsIn K mainGlobals "len" = some none)
    (z_max : PySem.W.nsIn K mainGlobals "max" = some none)
    (z_min : PySem.W.nsIn K mainGlobals "min" = some none)
    (z_range : PySem.W.nsIn K mainGlobals "range" = some none)
    (z_sorted : PySem.W.nsIn K mainGlobals "sorted" = some none)
    (z_str : PySem.W.nsIn K mainGlobals "str" = some none)
    (z_sum : PySem.W.nsIn K mainGlobals "sum" = some none)
    (c_FIGURES : PySem.W.nsIn K mainGlobals "FIGURES" = some (some (.str "0123456789" vt_FIGURES)))
    (c_MOST_FIGURES : PySem.W.nsIn K mainGlobals "MOST_FIGURES" = some (some (.int 12 vt_MOST_FIGURES)))
    (c_MOST_THROWS : PySem.W.nsIn K mainGlobals "MOST_THROWS" = some (some (.int 1296 vt_MOST_THROWS)))
    (c_MOST_BOTTOM : PySem.W.nsIn K mainGlobals "MOST_BOTTOM" = some (some (.int 1000000 vt_MOST_BOTTOM)))
    (c_MOST_PARTS : PySem.W.nsIn K mainGlobals "MOST_PARTS" = some (some (.int 4 vt_MOST_PARTS)))
    (c_MOST_NUMBER : PySem.W.nsIn K mainGlobals "MOST_NUMBER" = some (some (.int 99 vt_MOST_NUMBER)))
    (c_MOST_DICE : PySem.W.nsIn K mainGlobals "MOST_DICE" = some (some (.int 6 vt_MOST_DICE)))
    (c_MOST_SIDES : PySem.W.nsIn K mainGlobals "MOST_SIDES" = some (some (.int 20 vt_MOST_SIDES)))
    (k_NoShare : PySem.W.nsIn K mainGlobals "NoShare" = some (some (.ref q_NoShare)))
    (k_NoTable : PySem.W.nsIn K mainGlobals "NoTable" = some (some (.ref q_NoTable)))
    (k_TooMany : PySem.W.nsIn K mainGlobals "TooMany" = some (some (.ref q_TooMany)))
    (x_NoShare : PySem.W.excIn K q_NoShare bmVE newVE = true)
    (x_NoTable : PySem.W.excIn K q_NoTable bmVE newVE = true)
    (x_TooMany : PySem.W.excIn K q_TooMany bmVE newVE = true)
    (g_OF_MANY : PySem.W.nsIn K mainGlobals "OF_MANY" = some (some (.ref q_OF_MANY)))
    (g_OF_ONE : PySem.W.nsIn K mainGlobals "OF_ONE" = some (some (.ref q_OF_ONE)))
    (r_OF_MANY_best : MRow K q_OF_MANY "best" 1 6)
    (r_OF_MANY_hits : MRow K q_OF_MANY "hits" 1 20)
    (r_OF_MANY_worst : MRow K q_OF_MANY "worst" 1 6)
    (r_OF_ONE_again : MRow K q_OF_ONE "again" 0 20)
    (r_OF_ONE_burst : MRow K q_OF_ONE "burst" 0 6)
    (m_OF_MANY : MDict K w.params q_OF_MANY ["best", "worst", "hits"])
    (m_OF_ONE : MDict K w.params q_OF_ONE ["again", "burst"])
    : ∃ fd : FuncData, (∀ (s : Shared) (v : Value), BindsTo s fd ⟨[v], []⟩ [("_law_script", v)]) ∧ ∀ base : Heap, K.In base → base.Ns mainGlobals mg → FnOk l.prog w K mg base (CX1 l.prog w) 30 fa fd ["_law_script"] (spLaw K) := by
  have e := hfa.symm.trans (PySem.W.mg_of X G a45)
  cases e
  have T : Txt K mg w.params q_NoShare q_NoTable q_TooMany q_OF_MANY q_OF_ONE := ⟨PySem.W.mg_none_of X G z_abs, PySem.W.mg_none_of X G z_all, PySem.W.mg_none_of X G z_int, PySem.W.mg_none_of X G z_isinstance, PySem.W.mg_none_of X G z_len, PySem.W.mg_none_of X G z_max, PySem.W.mg_none_of X G z_min, PySem.W.mg_none_of X G z_range, PySem.W.mg_none_of X G z_sorted, PySem.W.mg_none_of X G z_str, PySem.W.mg_none_of X G z_sum, ⟨_, _, fun_mk l0 e0 k0, PySem.W.mg_of X G a0⟩, ⟨_, _, fun_mk l1 e1 k1, PySem.W.mg_of X G a1⟩, ⟨_, _, fun_mk l2 e2 k2, PySem.W.mg_of X G a2⟩, ⟨_, _, fun_mk l3 e3 k3, PySem.W.mg_of X G a3⟩, ⟨_, _, fun_mk l4 e4 k4, PySem.W.mg_of X G a4⟩, ⟨_, _, fun_mk l5 e5 k5, PySem.W.mg_of X G a5⟩, ⟨_, _, fun_mk l6 e6 k6, PySem.W.mg_of X G a6⟩, ⟨_, _, fun_mk l7 e7 k7, PySem.W.mg_of X G a7⟩, ⟨_, _, fun_mk l8 e8 k8, PySem.W.mg_of X G a8⟩, ⟨_, _, fun_mk l9 e9 k9, PySem.W.mg_of X G a9⟩, ⟨_, _, fun_mk l10 e10 k10, PySem.W.mg_of X G a10⟩, ⟨_, _, fun_mk l11 e11 k11, PySem.W.mg_of X G a11⟩, ⟨_, _, fun_mk l12 e12 k12, PySem.W.mg_of X G a12⟩, ⟨_, _, fun_mk l13 e13 k13, PySem.W.mg_of X G a13⟩, ⟨_, _, fun_mk l14 e14 k14, PySem.W.mg_of X G a14⟩, ⟨_, _, fun_mk l15 e15 k15, PySem.W.mg_of X G a15⟩, ⟨_, _, fun_mk l16 e16 k16, PySem.W.mg_of X G a16⟩, ⟨_, _, fun_mk l17 e17 k17, PySem.W.mg_of X G a17⟩, ⟨_, _, fun_mk l18 e18 k18, PySem.W.mg_of X G a18⟩, ⟨_, _, fun_mk l19 e19 k19, PySem.W.mg_of X G a19⟩, ⟨_, _, fun_mk l20 e20 k20, PySem.W.mg_of X G a20⟩, ⟨_, _, fun_mk l21 e21 k21, PySem.W.mg_of X G a21⟩, ⟨_, _, fun_mk l22 e22 k22, PySem.W.mg_of X G a22⟩, ⟨_, _, fun_mk l23 e23 k23, PySem.W.mg_of X G a23⟩, ⟨_, _, fun_mk l24 e24 k24, PySem.W.mg_of X G a24⟩, ⟨_, _, fun_mk l25 e25 k25, PySem.W.mg_of X G a25⟩, ⟨_, _, fun_mk l26 e26 k26, PySem.W.mg_of X G a26⟩, ⟨_, _, fun_mk l27 e27 k27, PySem.W.mg_of X G a27⟩, ⟨_, _, fun_mk l28 e28 k28, PySem.W.mg_of X G a28⟩, ⟨_, _, fun_mk l29 e29 k29, PySem.W.mg_of X G a29⟩, ⟨_, _, fun_mk l30 e30 k30, PySem.W.mg_of X G a30⟩, ⟨_, _, fun_mk l31 e31 k31, PySem.W.mg_of X G a31⟩, ⟨_, _, fun_mk l32 e32 k32, PySem.W.mg_of X G a32⟩, ⟨_, _, fun_mk l33 e33 k33, PySem.W.mg_of X G a33⟩, ⟨_, _, fun_mk l34 e34 k34, PySem.W.mg_of X G a34⟩, ⟨_, _, fun_mk l35 e35 k35, PySem.W.mg_of X G a35⟩, ⟨_, _, fun_mk l36 e36 k36, PySem.W.mg_of X G a36⟩, ⟨_, _, fun_mk l37 e37 k37, PySem.W.mg_of X G a37⟩, ⟨_, _, fun_mk l38 e38 k38, PySem.W.mg_of X G a38⟩, ⟨_, _, fun_mk l39 e39 k39, PySem.W.mg_of X G a39⟩, ⟨_, _, fun_mk l40 e40 k40, PySem.W.mg_of X G a40⟩, ⟨_, _, fun_mk l41 e41 k41, PySem.W.mg_of X G a41⟩, ⟨_, _, fun_mk l42 e42 k42, PySem.W.mg_of X G a42⟩, ⟨_, _, fun_mk l43 e43 k43, PySem.W.mg_of X G a43⟩, ⟨_, _, fun_mk l44 e44 k44, PySem.W.mg_of X G a44⟩, ⟨_, PySem.W.mg_of X G c_FIGURES⟩, ⟨_, PySem.W.mg_of X G c_MOST_FIGURES⟩, ⟨_, PySem.W.mg_of X G c_MOST_THROWS⟩, ⟨_, PySem.W.mg_of X G c_MOST_BOTTOM⟩, ⟨_, PySem.W.mg_of X G c_MOST_PARTS⟩, ⟨_, PySem.W.mg_of X G c_MOST_NUMBER⟩, ⟨_, PySem.W.mg_of X G c_MOST_DICE⟩, ⟨_, PySem.W.mg_of X G c_MOST_SIDES⟩, PySem.W.mg_of X G k_NoShare, PySem.W.mg_of X G k_NoTable, PySem.W.mg_of X G k_TooMany, x_NoShare, x_NoTable, x_TooMany, PySem.W.mg_of X G g_OF_MANY, PySem.W.mg_of X G g_OF_ONE, r_OF_MANY_best, r_OF_MANY_hits, r_OF_MANY_worst, r_OF_ONE_again, r_OF_ONE_burst, m_OF_MANY, m_OF_ONE⟩
  exact ⟨_, fun s v => .of_eq rfl, fun base _ _ => (ok_law T (fun_mk l45 e45 k45)).mono (by decide)⟩
theorem walk {l : PySem.W.OpenLaw} {q : Program} {loose : List Str} {XP : (Str → Option Value) → Heap → Prop} {YP : World → Heap → Prop} {d : DefRec} {K : Params → PySem.W.Frag} (hn : l.most = some 63) (hdf : d.params.defaults = [])
    (hY : ∀ (w : World) (h : Heap), YP w h → (K w.params).In h)
    (F : ∀ (w : World) (mg : Str → Option Value) (fa : Addr) (h : Heap), (K w.params).In h → h.Ns mainGlobals mg → mg d.name = some (.ref fa) →
      ∃ fd : FuncData, (∀ (s : Shared) (u : Value), BindsTo s fd ⟨[u], []⟩ [("_law_script", u)]) ∧ ∀ base : Heap, (K w.params).In base → base.Ns mainGlobals mg → FnOk l.prog w (K w.params) mg base (CX1 l.prog w) 30 fa fd ["_law_script"] (spLaw (K w.params))) :
    PySem.W.WalkO q loose XP YP l.row.toRowW d [] (fun f vs => PySem.call f vs) :=
  L2.walk_of (n := 63) (k := 30) (x := "_law_script") (CX := fun w => CX1 l.prog w) (sp := fun w => spLaw (K w.params)) hn (by decide) hdf ⟨rfl, by decide, by decide⟩ hY F (fun _ _ a ns hl _ hS => ⟨a, ns, rfl, hS, hl, fun _ => rfl⟩) fun _ _ _ _ _ z => (strict1 _ _) _ _ _ _ _ z
end K18
open PySem PySem.W PyProof.Rows
local macro_rules | `(tactic| o_head $H) => `(tactic| (refine (fun (_ : PySem.W.Hook) => ?_) $H; assumption))
theorem K18.pre (h : PySem.W.OpenRow.Holds (PySem.W.OpenLaw.row PySem.Challenge.rw_pressluck_k18_whole_pools_add_up)) : PySem.W.OpenRow.Holds (PySem.W.OpenLaw.row PySem.Challenge.rw_pressluck_k18_whole_pools_add_up) := by
  k_head
noncomputable def K18.hka : List Addr := [2, 3, 15, 22, 23, 24, 25, 28, 35, 36, 37, 40, 47, 48, 49, 52, 59, 60, 61, 64, 71, 72, 73, 76, 78, 79, 81, 82, 83, 85, 86, 88, 89, 90, 92, 93, 95, 96, 97, 99, 100, 102, 103, 104, 107, 108, 109, 111, 112, 114, 115, 116, 119, 120, 121, 123, 124, 126, 127, 128, 131, 132, 133, 136, 137, 138, 140, 141, 143, 144, 145, 148, 149, 150, 153, 154, 155, 157, 158, 160, 161, 162, 164, 165, 167, 168, 169, 171, 172, 174, 175, 176, 178, 179, 181, 182, 183, 185, 186, 188, 189, 190, 193, 194, 195, 198, 199, 200, 203, 204, 205, 207, 208, 210, 211, 212, 215, 216, 217, 219, 220, 222, 223, 224, 227, 228, 229, 232, 233, 234, 237, 238, 239, 242, 243, 244, 245, 246, 247, 248, 249, 250, 251, 253, 254, 256, 257, 258, 260, 261, 263, 264, 265, 268, 269, 270, 272, 273, 275, 276, 277, 279, 280, 282, 283, 284, 286, 287, 289, 290, 291, 293, 294, 296, 297, 298, 301, 302, 303, 305, 306, 308, 309, 310, 312, 313, 315, 316, 317, 319, 320, 322, 323, 324, 326, 327, 329, 330, 331, 333, 334, 336, 337, 338, 340, 341, 343, 344, 345, 347, 348, 350, 351, 352, 354, 355, 357, 358, 359, 361, 362, 364, 365, 366, 368, 369, 371, 372]
theorem K18.hkp (P : PySem.Params) : K18.hka = (K18.pre.heap_1 P).map (·.1) := by kernel_rfl
noncomputable def K18.vw : PySem.Program := { PySem.Challenge.pw_pressluck_k18_whole_pools_add_up with main := { PySem.Challenge.pw_pressluck_k18_whole_pools_add_up.main with body := [K18.top 1, K18.top 2, K18.top 3, K18.top 4, K18.top 5, K18.top 7, K18.top 8, K18.top 9, K18.top 10, K18.top 11, K18.top 12, K18.top 13, K18.top 14, K18.top 16, K18.top 17, K18.top 18, K18.top 19, K18.top 20, K18.top 21, K18.top 22, K18.top 24, K18.top 25, K18.top 26, K18.top 27, K18.top 28, K18.top 29, K18.top 30, K18.top 31, K18.top 32, K18.top 33, K18.top 34, K18.top 35, K18.top 36, K18.top 37, K18.top 38, K18.top 39, K18.top 40, K18.top 42, K18.top 43, K18.top 44, K18.top 45, K18.top 46, K18.top 47, K18.top 48, K18.top 49, K18.top 50, K18.top 51, K18.top 52, K18.top 53, K18.top 54, K18.top 55, K18.top 57, K18.top 58, K18.top 59, K18.top 60, K18.top 61, K18.top 62, K18.top 63, K18.top 64, K18.top 65, K18.top 66] } }
theorem K18.run0 (w : World) : Hd.Runs (RowW.prog (OpenRow.toRowW (PySem.W.OpenLaw.row PySem.Challenge.rw_pressluck_k18_whole_pools_add_up))) K18.vw ["OF_MANY", "OF_ONE"] (fun s => xlAt K18.vw [] s && recOk (RowW.records (OpenRow.toRowW (PySem.W.OpenLaw.row PySem.Challenge.rw_pressluck_k18_whole_pools_add_up))) s) (Hook.obs (kHook K18.pre.heap_1 K18.hka K18.hkp)) (Hook.val (kHook K18.pre.heap_1 K18.hka K18.hkp)) 5416 true (w.withFollow "special-get-raises" false) := fun os => by kernel_rfl
theorem K18.run1 (w : World) : Hd.Runs (RowW.prog (OpenRow.toRowW (PySem.W.OpenLaw.row PySem.Challenge.rw_pressluck_k18_whole_pools_add_up))) K18.vw ["OF_MANY", "OF_ONE"] (fun s => xlAt K18.vw [] s && recOk (RowW.records (OpenRow.toRowW (PySem.W.OpenLaw.row PySem.Challenge.rw_pressluck_k18_whole_pools_add_up))) s) (Hook.obs (kHook K18.pre.heap_1 K18.hka K18.hkp)) (Hook.val (kHook K18.pre.heap_1 K18.hka K18.hkp)) 5416 true (w.withFollow "special-get-raises" true) := fun os => by kernel_rfl
theorem K18.run (w : World) : Hd.Runs (RowW.prog (OpenRow.toRowW (PySem.W.OpenLaw.row PySem.Challenge.rw_pressluck_k18_whole_pools_add_up))) K18.vw ["OF_MANY", "OF_ONE"] (fun s => xlAt K18.vw [] s && recOk (RowW.records (OpenRow.toRowW (PySem.W.OpenLaw.row PySem.Challenge.rw_pressluck_k18_whole_pools_add_up))) s) (Hook.obs (kHook K18.pre.heap_1 K18.hka K18.hkp)) (Hook.val (kHook K18.pre.heap_1 K18.hka K18.hkp)) 5416 true w := PySem.W.byRow2 "special-get-raises" K18.run0 K18.run1 w
set_option maxRecDepth 100000 in
set_option maxHeartbeats 0 in
theorem PySem.Challenge.cw_pressluck_k18_whole_pools_add_up_holds : PySem.Challenge.rw_pressluck_k18_whole_pools_add_up.Holds := by
  w_on; refine holds_law (by decide +kernel) fun said => ?_
  refine holds_open (q := K18.vw) (loose := ["OF_MANY", "OF_ONE"]) (Xt := (fun s => xlAt K18.vw [] s && recOk (RowW.records (OpenRow.toRowW (PySem.W.OpenLaw.row PySem.Challenge.rw_pressluck_k18_whole_pools_add_up))) s)) (XP := XL K18.vw []) (Yf := Hook.obs (kHook K18.pre.heap_1 K18.hka K18.hkp)) (Ya := Hook.val (kHook K18.pre.heap_1 K18.hka K18.hkp)) (YP := Hook.says (kHook K18.pre.heap_1 K18.hka K18.hkp)) (N := 5416) (Hd.left_runQ (by kernel_rfl) (by decide) (fun s => by kernel_rfl) K18.run) (Hook.of (kHook K18.pre.heap_1 K18.hka K18.hkp)) (Hook.keeps (kHook K18.pre.heap_1 K18.hka K18.hkp)) (fun s e => xl_of s (Bool.and_eq_true_iff.mp e).1) XL.keeps (by rfl) (by rfl) (by rfl) (fun s e => recFacts_of (Bool.and_eq_true_iff.mp e).2) (by rfl) (by first | assumption | decide +kernel) (by decide +kernel) ⟨rfl, rfl, rfl, rfl, rfl, by decide +kernel⟩ ?hw ?hc
  (case hw => w_witness2)
  k_fill
  refine K18.walk (l := PySem.Challenge.rw_pressluck_k18_whole_pools_add_up) rfl rfl (fun w h Y => PySem.W.kIn_of Y) ?F
  case F =>
    intro w mg fa h KX G hmg
    refine' K18.all_mk KX G hmg ?a0 ?l0 ?e0 ?k0 ?a1 ?l1 ?e1 ?k1 ?a2 ?l2 ?e2 ?k2 ?a3 ?l3 ?e3 ?k3 ?a4 ?l4 ?e4 ?k4 ?a5 ?l5 ?e5 ?k5 ?a6 ?l6 ?e6 ?k6 ?a7 ?l7 ?e7 ?k7 ?a8 ?l8 ?e8 ?k8 ?a9 ?l9 ?e9 ?k9 ?a10 ?l10 ?e10 ?k10 ?a11 ?l11 ?e11 ?k11 ?a12 ?l12 ?e12 ?k12 ?a13 ?l13 ?e13 ?k13 ?a14 ?l14 ?e14 ?k14 ?a15 ?l15 ?e15 ?k15 ?a16 ?l16 ?e16 ?k16 ?a17 ?l17 ?e17 ?k17 ?a18 ?l18 ?e18 ?k18 ?a19 ?l19 ?e19 ?k19 ?a20 ?l20 ?e20 ?k20 ?a21 ?l21 ?e21 ?k21 ?a22 ?l22 ?e22 ?k22 ?a23 ?l23 ?e23 ?k23 ?a24 ?l24 ?e24 ?k24 ?a25 ?l25 ?e25 ?k25 ?a26 ?l26 ?e26 ?k26 ?a27 ?l27 ?e27 ?k27 ?a28 ?l28 ?e28 ?k28 ?a29 ?l29 ?e29 ?k29 ?a30 ?l30 ?e30 ?k30 ?a31 ?l31 ?e31 ?k31 ?a32 ?l32 ?e32 ?k32 ?a33 ?l33 ?e33 ?k33 ?a34 ?l34 ?e34 ?k34 ?a35 ?l35 ?e35 ?k35 ?a36 ?l36 ?e36 ?k36 ?a37 ?l37 ?e37 ?k37 ?a38 ?l38 ?e38 ?k38 ?a39 ?l39 ?e39 ?k39 ?a40 ?l40 ?e40 ?k40 ?a41 ?l41 ?e41 ?k41 ?a42 ?l42 ?e42 ?k42 ?a43 ?l43 ?e43 ?k43 ?a44 ?l44 ?e44 ?k44 ?a45 ?l45 ?e45 ?k45 ?z_abs ?z_all ?z_int ?z_isinstance ?z_len ?z_max ?z_min ?z_range ?z_sorted ?z_str ?z_sum ?c_FIGURES ?c_MOST_FIGURES ?c_MOST_THROWS ?c_MOST_BOTTOM ?c_MOST_PARTS ?c_MOST_NUMBER ?c_MOST_DICE ?c_MOST_SIDES ?k_NoShare ?k_NoTable ?k_TooMany ?x_NoShare ?x_NoTable ?x_TooMany ?g_OF_MANY ?g_OF_ONE ?r_OF_MANY_best ?r_OF_MANY_hits ?r_OF_MANY_worst ?r_OF_ONE_again ?r_OF_ONE_burst ?m_OF_MANY ?m_OF_ONE
    (case a0 => k_is)
    (case l0 => k_is)
    (case e0 => k_is)
    (case k0 => k_is)
    (case a1 => k_is)
    (case l1 => k_is)
    (case e1 => k_is)
    (case k1 => k_is)
    (case a2 => k_is)
    (case l2 => k_is)
    (case e2 => k_is)
    (case k2 => k_is)
    (case a3 => k_is)
    (case l3 => k_is)
    (case e3 => k_is)
    (case k3 => k_is)
    (case a4 => k_is)
    (case l4 => k_is)
    (case e4 => k_is)
    (case k4 => k_is)
    (case a5 => k_is)
    (case l5 => k_is)
    (case e5 => k_is)
    (case k5 => k_is)
    (case a6 => k_is)
    (case l6 => k_is)
    (case e6 => k_is)
    (case k6 => k_is)
    (case a7 => k_is)
    (case l7 => k_is)
    (case e7 => k_is)
    (case k7 => k_is)
    (case a8 => k_is)
    (case l8 => k_is)
    (case e8 => k_is)
    (case k8 => k_is)
    (case a9 => k_is)
    (case l9 => k_is)
    (case e9 => k_is)
    (case k9 => k_is)
    (case a10 => k_is)
    (case l10 => k_is)
    (case e10 => k_is)
    (case k10 => k_is)
    (case a11 => k_is)
    (case l11 => k_is)
    (case e11 => k_is)
    (case k11 => k_is)
    (case a12 => k_is)
    (case l12 => k_is)
    (case e12 => k_is)
    (case k12 => k_is)
    (case a13 => k_is)
    (case l13 => k_is)
    (case e13 => k_is)
    (case k13 => k_is)
    (case a14 => k_is)
    (case l14 => k_is)
    (case e14 => k_is)
    (case k14 => k_is)
    (case a15 => k_is)
    (case l15 => k_is)
    (case e15 => k_is)
    (case k15 => k_is)
    (case a16 => k_is)
    (case l16 => k_is)
    (case e16 => k_is)
    (case k16 => k_is)
    (case a17 => k_is)
    (case l17 => k_is)
    (case e17 => k_is)
    (case k17 => k_is)
    (case a18 => k_is)
    (case l18 => k_is)
    (case e18 => k_is)
    (case k18 => k_is)
    (case a19 => k_is)
    (case l19 => k_is)
    (case e19 => k_is)
    (case k19 => k_is)
    (case a20 => k_is)
    (case l20 => k_is)
    (case e20 => k_is)
    (case k20 => k_is)
    (case a21 => k_is)
    (case l21 => k_is)
    (case e21 => k_is)
    (case k21 => k_is)
    (case a22 => k_is)
    (case l22 => k_is)
    (case e22 => k_is)
    (case k22 => k_is)
    (case a23 => k_is)
    (case l23 => k_is)
    (case e23 => k_is)
    (case k23 => k_is)
    (case a24 => k_is)
    (case l24 => k_is)
    (case e24 => k_is)
    (case k24 => k_is)
    (case a25 => k_is)
    (case l25 => k_is)
    (case e25 => k_is)
    (case k25 => k_is)
    (case a26 => k_is)
    (case l26 => k_is)
    (case e26 => k_is)
    (case k26 => k_is)
    (case a27 => k_is)
    (case l27 => k_is)
    (case e27 => k_is)
    (case k27 => k_is)
    (case a28 => k_is)
    (case l28 => k_is)
    (case e28 => k_is)
    (case k28 => k_is)
    (case a29 => k_is)
    (case l29 => k_is)
    (case e29 => k_is)
    (case k29 => k_is)
    (case a30 => k_is)
    (case l30 => k_is)
    (case e30 => k_is)
    (case k30 => k_is)
    (case a31 => k_is)
    (case l31 => k_is)
    (case e31 => k_is)
    (case k31 => k_is)
    (case a32 => k_is)
    (case l32 => k_is)
    (case e32 => k_is)
    (case k32 => k_is)
    (case a33 => k_is)
    (case l33 => k_is)
    (case e33 => k_is)
    (case k33 => k_is)
    (case a34 => k_is)
    (case l34 => k_is)
    (case e34 => k_is)
    (case k34 => k_is)
    (case a35 => k_is)
    (case l35 => k_is)
    (case e35 => k_is)
    (case k35 => k_is)
    (case a36 => k_is)
    (case l36 => k_is)
    (case e36 => k_is)
    (case k36 => k_is)
    (case a37 => k_is)
    (case l37 => k_is)
    (case e37 => k_is)
    (case k37 => k_is)
    (case a38 => k_is)
    (case l38 => k_is)
    (case e38 => k_is)
    (case k38 => k_is)
    (case a39 => k_is)
    (case l39 => k_is)
    (case e39 => k_is)
    (case k39 => k_is)
    (case a40 => k_is)
    (case l40 => k_is)
    (case e40 => k_is)
    (case k40 => k_is)
    (case a41 => k_is)
    (case l41 => k_is)
    (case e41 => k_is)
    (case k41 => k_is)
    (case a42 => k_is)
    (case l42 => k_is)
    (case e42 => k_is)
    (case k42 => k_is)
    (case a43 => k_is)
    (case l43 => k_is)
    (case e43 => k_is)
    (case k43 => k_is)
    (case a44 => k_is)
    (case l44 => k_is)
    (case e44 => k_is)
    (case k44 => k_is)
    (case a45 => k_is)
    (case l45 => k_is)
    (case e45 => k_is)
    (case k45 => k_is)
    (case z_abs => k_is)
    (case z_all => k_is)
    (case z_int => k_is)
    (case z_isinstance => k_is)
    (case z_len => k_is)
    (case z_max => k_is)
    (case z_min => k_is)
    (case z_range => k_is)
    (case z_sorted => k_is)
    (case z_str => k_is)
    (case z_sum => k_is)
    (case c_FIGURES => k_is)
    (case c_MOST_FIGURES => k_is)
    (case c_MOST_THROWS => k_is)
    (case c_MOST_BOTTOM => k_is)
    (case c_MOST_PARTS => k_is)
    (case c_MOST_NUMBER => k_is)
    (case c_MOST_DICE => k_is)
    (case c_MOST_SIDES => k_is)
    (case k_NoShare => k_is)
    (case k_NoTable => k_is)
    (case k_TooMany => k_is)
    (case x_NoShare => first | k_is | kit_is | kernel_rfl)
    (case x_NoTable => first | k_is | kit_is | kernel_rfl)
    (case x_TooMany => first | k_is | kit_is | kernel_rfl)
    (case g_OF_MANY => k_is)
    (case g_OF_ONE => k_is)
    (case r_OF_MANY_best => exact ⟨_, by k_is, _, _, _, _, _, by k_is⟩)
    (case r_OF_MANY_hits => exact ⟨_, by k_is, _, _, _, _, _, by k_is⟩)
    (case r_OF_MANY_worst => exact ⟨_, by k_is, _, _, _, _, _, by k_is⟩)
    (case r_OF_ONE_again => exact ⟨_, by k_is, _, _, _, _, _, by k_is⟩)
    (case r_OF_ONE_burst => exact ⟨_, by k_is, _, _, _, _, _, by k_is⟩)
    (case m_OF_MANY => exact ⟨_, _, by k_is, by (repeat (first | exact trivial | refine ⟨⟨_, _, rfl, rfl⟩, ?_⟩)), rfl, rfl⟩)
    (case m_OF_ONE => exact ⟨_, _, by k_is, by (repeat (first | exact trivial | refine ⟨⟨_, _, rfl, rfl⟩, ?_⟩)), rfl, rfl⟩)
