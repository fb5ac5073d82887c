import PyProof.Rows.All
import Wide.All
import OpenK.AllK
import Wide.FinOn
import Lean
import PyProof.EqAt
import PyProof.EqKinds
import PyProof.TupleCall
import PyProof.NeKinds
import PySem.Challenge.RW_pressluck_k26_parts
set_option Elab.async false
set_option linter.all false
set_option maxRecDepth 100000
local macro_rules | `(tactic| omega) => `(tactic| lia)
namespace L2
open PySem PySem.Spec PyProof.Rows
abbrev Key := Sum Int Str
noncomputable def keyIs : Key → Value → Bool
  | .inl k, v => Value.isInt k v
  | .inr x, v => Value.isStrOf x v
noncomputable def keyH (w : World) : Key → Int
  | .inl k => hashInt k
  | .inr x => hashStr w x
theorem keyIs_shape : ∀ {k : Key} {v : Value}, keyIs k v = true → (∃ i t, k = Sum.inl i ∧ v = Value.int i t) ∨ (∃ x t, k = Sum.inr x ∧ v = Value.str x t)
  | .inl i, v, h => by
    obtain ⟨t, e⟩ := Value.isInt_shape (k := i) (v := v) h
    exact .inl ⟨i, t, rfl, e⟩
  | .inr x, v, h => by
    obtain ⟨t, e⟩ := Value.isStrOf_shape (x := x) (v := v) h
    exact .inr ⟨x, t, rfl, e⟩
theorem keyIs_int (i : Int) (t : Tok) : keyIs (.inl i) (.int i t) = true := by simp [keyIs, Value.isInt]
theorem keyIs_str (x : Str) (t : Tok) : keyIs (.inr x) (.str x t) = true := by simp [keyIs, Value.isStrOf]
theorem key_ll (a b : Int) : decide ((Sum.inl a : Key) = Sum.inl b) = (a == b) := by
  by_cases e : a = b
  · subst e; simp
  · have h : ¬ (Sum.inl a : Key) = Sum.inl b := fun q => e (Sum.inl.inj q)
    rw [decide_eq_false h]
    exact (beq_eq_false_iff_ne.mpr e).symm
theorem key_rr (a b : Str) : decide ((Sum.inr a : Key) = Sum.inr b) = decide (a = b) := by
  by_cases e : a = b
  · subst e; simp
  · have h : ¬ (Sum.inr a : Key) = Sum.inr b := fun q => e (Sum.inr.inj q)
    rw [decide_eq_false h, decide_eq_false e]
theorem key_lr (a : Int) (b : Str) : decide ((Sum.inl a : Key) = Sum.inr b) = false := decide_eq_false (fun q => nomatch q)
theorem key_rl (a : Str) (b : Int) : decide ((Sum.inr a : Key) = Sum.inl b) = false := decide_eq_false (fun q => nomatch q)
noncomputable def mixKind (prog : Program) (w : World) : PySem.KeyKind prog w Key where
  is := keyIs
  hash := keyH w
  inj := fun v a b ha hb => by
    rcases keyIs_shape ha with ⟨i, t, rfl, rfl⟩ | ⟨x, t, rfl, rfl⟩
    · rcases keyIs_shape hb with ⟨j, u, rfl, e⟩ | ⟨y, u, rfl, e⟩
      · injection e with e1 _; rw [e1]
      · exact nomatch e
    · rcases keyIs_shape hb with ⟨j, u, rfl, e⟩ | ⟨y, u, rfl, e⟩
      · exact nomatch e
      · injection e with e1 _; rw [e1]
  byValue := fun k v h => by
    rcases keyIs_shape h with ⟨i, t, rfl, rfl⟩ | ⟨x, t, rfl, rfl⟩ <;> rfl
  pyHash := fun hv h => by
    rcases keyIs_shape hv with ⟨i, t, rfl, rfl⟩ | ⟨x, t, rfl, rfl⟩
    · exact wpAny_pyHash_int h
    · exact wpAny_pyHash_str h
  eqBool := fun hu hv h => by
    rcases keyIs_shape hu with ⟨i, t, rfl, rfl⟩ | ⟨x, t, rfl, rfl⟩
    · rcases keyIs_shape hv with ⟨j, u, rfl, rfl⟩ | ⟨y, u, rfl, rfl⟩
      · rw [key_ll] at h; exact wpAny_eqBool_int h
      · rw [key_lr] at h; exact SeqAt.EqAt.int_str i t y u _ _ _ _ h
    · rcases keyIs_shape hv with ⟨j, u, rfl, rfl⟩ | ⟨y, u, rfl, rfl⟩
      · rw [key_rl] at h; exact SeqAt.EqAt.str_int x t j u _ _ _ _ h
      · rw [key_rr] at h; exact wpAny_eqBool_str h
  «strs» := fun k x t v h => by
    rcases keyIs_shape h with ⟨i, u, rfl, e⟩ | ⟨y, u, rfl, e⟩
    · exact nomatch e
    · injection e with e1 _
      subst e1
      cases v <;> rfl
theorem mixKind_int (prog : Program) (w : World) (i : Int) (t : Tok) : (mixKind prog w).is (.inl i) (.int i t) = true := keyIs_int i t
theorem mixKind_str (prog : Program) (w : World) (x : Str) (t : Tok) : (mixKind prog w).is (.inr x) (.str x t) = true := keyIs_str x t
end L2
namespace L2
open PySem PySem.Spec PyProof.Rows
inductive V where
  | non | bl (b : Bool) | int (i : Int) | str (x : Str) | byt (b : Array UInt8) | flt (b : UInt64) | ref (a : Addr) | ty (n : String)
  deriving DecidableEq
noncomputable def RelV : V → Value → Prop
  | .non, u => u = Value.none
  | .bl b, u => u = Value.bool b
  | .int i, u => ∃ t, u = Value.int i t
  | .str x, u => ∃ t, u = Value.str x t
  | .byt b, u => ∃ t, u = Value.bytes b t
  | .flt b, u => ∃ t, u = Value.float b t
  | .ref a, u => u = Value.ref a
  | .ty n, u => u = Value.type n
abbrev Vals : List V → List Value → Prop := Paired RelV
theorem Vals.length {xs : List V} {us : List Value} (r : Vals xs us) : xs.length = us.length := Paired.length r
theorem Vals.get : ∀ {xs : List V} {us : List Value} {i : Nat} {x : V}, Vals xs us → xs[i]? = some x → ∃ u, us[i]? = some u ∧ RelV x u
  | _, _, _, _, .nil, e => by simp at e
  | _, _, 0, _, .cons r _, e => by simp at e; subst e; exact ⟨_, rfl, r⟩
  | _, _, i + 1, x, .cons _ t, e => by
    obtain ⟨u, h1, h2⟩ := Vals.get (i := i) (x := x) t (by simpa using e)
    exact ⟨u, by simpa using h1, h2⟩
theorem Vals.set {x : V} {u : Value} (r : RelV x u) : ∀ {xs : List V} {us : List Value} (i : Nat), Vals xs us → Vals (xs.set i x) (us.set i u)
  | _, _, _, .nil => .nil
  | _, _, 0, .cons _ t => .cons r t
  | _, _, i + 1, .cons q t => .cons q (Vals.set r i t)
theorem Vals.append : ∀ {xs ys : List V} {us ws : List Value}, Vals xs us → Vals ys ws → Vals (xs ++ ys) (us ++ ws)
  | _, _, _, _, .nil, s => s
  | _, _, _, _, .cons r t, s => .cons r (Vals.append t s)
noncomputable def RelO : Option V → Option Value → Prop
  | some v, some u => RelV v u
  | none, none => True
  | _, _ => False
noncomputable def KV {κ : Type} : List (κ × V) → List (κ × Value) → Prop := Paired fun (p : κ × V) (q : κ × Value) => p.1 = q.1 ∧ RelV p.2 q.2
noncomputable def kV : Key → V
  | .inl i => .int i
  | .inr x => .str x
inductive HO where
  | lst (xs : List V)
  | tup (xs : List V)
  | dK (kvs : List (Key × V)) | dT (kvs : List (List Key × V))
  | set (S : Int → Bool) (n : Nat)
  | ins (C dx : Addr) (fs : List (Str × V))
  | own (x : Addr)
  | xd (fs : List (Str × V))
  | met (f x : Addr)
  | rng (lo hi : Int)
  | frz (o : Obj) (u : HO)
  | tbl (ps : Array Value)
  | ext (φ : Heap → Prop)
abbrev Hp := Addr → Option HO
noncomputable def upd (H : Hp) (a : Addr) (o : HO) : Hp := fun b => if b = a then some o else H b
theorem upd_same {H : Hp} {a : Addr} {o : HO} : upd H a o a = some o := by unfold upd; rw [if_pos rfl]
theorem upd_ne {H : Hp} {a b : Addr} {o : HO} (h : b ≠ a) : upd H a o b = H b := by unfold upd; rw [if_neg h]
theorem upd_upd {H : Hp} {a : Addr} {o u : HO} : upd (upd H a o) a u = upd H a u := by
  funext b; unfold upd; split <;> rfl
theorem ne_of {H : Hp} {a b : Addr} {o u : HO} (h : H a = some o) (h' : H b = some u) (d : o ≠ u) : a ≠ b := by
  intro e; subst e; rw [h] at h'; exact d (Option.some.inj h')
theorem ne_of_none {H : Hp} {a b : Addr} {o : HO} (h : H a = some o) (h' : H b = none) : a ≠ b := by
  intro e; subst e; rw [h] at h'; cases h'
noncomputable def TabAt (H : Hp) (h : Heap) (a : Addr) (ps : Array Value) : Prop := ∃ mo : Array Value, h.get? a = some { cls := .none, data := .fields mo } ∧
  (mo = #[] ∨ ∃ (l c : Value) (c1 : Addr) (q : Str) (t : Tok), ps = #[l, c, .str q t] ∧ mo = #[l, c, .ref c1] ∧ H c1 = some (.own a) ∧ h.CodeRec (.ref c1) q)
section
variable (P : Program) (w : World)
noncomputable def ObjOk (H : Hp) (h : Heap) (a : Addr) : HO → Prop
  | .lst xs => xs.length ≤ sizeLine ∧ ∃ (its : List Value) (n : Nat), Vals xs its ∧ h.get? a = some { cls := .type "list", data := .seq its.toArray n }
  | .tup xs => xs.length ≤ sizeLine ∧ ∃ its : List Value, Vals xs its ∧ IsTup h a its.toArray
  | .dK kvs => kvs.length ≤ sizeLine ∧ (a == sysModules) = false ∧ ∃ vs, KV kvs vs ∧ h.DictOf (mixKind P w) a vs
  | .dT kvs => kvs.length ≤ sizeLine ∧ (a == sysModules) = false ∧ ∃ xs : List (List Key × Addr × Value),
      Paired (fun (p : List Key × V) (q : List Key × Addr × Value) => p.1 = q.1 ∧ H q.2.1 = some (.tup (p.1.map kV)) ∧ RelV p.2 q.2.2) kvs xs ∧
      ∃ o es ep, h.get? a = some o ∧ o.ExactDict ∧ o.data = .dict es ep ∧ es.toList = xs.map (entryOfKey (tupleKind (mixKind P w))) ∧ (xs.map (·.1)).Nodup
  | .set S n => h.SetOf (intKind P w) a S n
  | .ins C dx fs => H dx = some (.own a) ∧ fs.length ≤ 1000 ∧ dx ≠ a ∧ h.get? a = some (PySem.W.instObj C dx) ∧
      ∃ mA, h.Ns1 dx mA ∧ (∀ f, RelO (fs.lookup f) (mA f)) ∧ PySem.Within mA (fs.map (·.1))
  | .own _ => ∃ o, h.get? a = some o
  | .xd fs => ∃ mA, h.Ns1 a mA ∧ ∀ f, RelO (fs.lookup f) (mA f)
  | .rng lo hi => ∃ t u v, h.get? a = some { cls := .type "range", data := .fields #[.int lo t, .int hi u, .int 1 v] }
  | .frz o u => h.get? a = some o ∧ ObjOk H h a u
  | .tbl ps => TabAt H h a ps
  | .met f x => h.get? a = some (PySem.W.methodObj (.ref f) (.ref x))
  | .ext φ => φ h ∧ (∃ o, h.get? a = some o) ∧ ∀ h1 h2 : Heap, φ h1 → (∀ o, h1.get? a = some o → h2.get? a = some o) → φ h2
noncomputable def HOk (H : Hp) (h : Heap) : Prop := ∀ a o, H a = some o → ObjOk P w H h a o
end
section
variable {P : Program} {w : World} {H H' : Hp} {h h' : Heap} {a : Addr} {o : HO}
theorem ObjOk.lt (x : ObjOk P w H h a o) : a < h.objs.size := by
  cases o with
  | lst xs => obtain ⟨_, _, _, _, e⟩ := x; exact Heap.lt_size e
  | tup xs => obtain ⟨_, _, _, p⟩ := x; exact p.lt
  | dK kvs => obtain ⟨_, _, _, _, o, _, _, e, _⟩ := x; exact Heap.lt_size e
  | dT kvs => obtain ⟨_, _, _, _, o, _, _, e, _⟩ := x; exact Heap.lt_size e
  | set S n => obtain ⟨o, _, _, _, e, _⟩ := x; exact Heap.lt_size e
  | ins C dx fs => obtain ⟨_, _, _, e, _⟩ := x; exact Heap.lt_size e
  | own y => obtain ⟨_, e⟩ := x; exact Heap.lt_size e
  | xd fs => obtain ⟨_, ⟨_, _, _, e, _⟩, _⟩ := x; exact Heap.lt_size e
  | rng lo hi => obtain ⟨_, _, _, e⟩ := x; exact Heap.lt_size e
  | frz ob u => obtain ⟨e, _⟩ := x; exact Heap.lt_size e
  | tbl ps => obtain ⟨_, e, _⟩ := x; exact Heap.lt_size e
  | met f y => exact Heap.lt_size (show h.get? a = some _ from x)
  | ext φ => obtain ⟨_, ⟨_, e⟩, _⟩ := x; exact Heap.lt_size e
theorem Paired.mapP {α β : Type} {F G : α → β → Prop} : ∀ {l₁ : List α} {l₂ : List β}, Paired F l₁ l₂ → (∀ a b, F a b → G a b) → Paired G l₁ l₂
  | _, _, .nil, _ => .nil
  | _, _, .cons r t, f => .cons (f _ _ r) (Paired.mapP t f)
theorem ObjOk.stay (x : ObjOk P w H h a o) (k : ∀ b u, (b = a ∨ H b = some (.own a)) → h.get? b = some u → h'.get? b = some u)
    (ho : ∀ b, H b = some (.own a) → H' b = some (.own a)) (ht : ∀ b xs, H b = some (.tup xs) → H' b = some (.tup xs)) : ObjOk P w H' h' a o := by
  induction o with
  | lst xs => obtain ⟨z, its, n, r, e⟩ := x; exact ⟨z, its, n, r, k _ _ (.inl rfl) e⟩
  | tup xs => obtain ⟨z, its, r, ob, e, c⟩ := x; exact ⟨z, its, r, ob, k _ _ (.inl rfl) e, c⟩
  | dK kvs => obtain ⟨z, y, vs, r, ob, es, ep, e, c⟩ := x; exact ⟨z, y, vs, r, ob, es, ep, k _ _ (.inl rfl) e, c⟩
  | dT kvs =>
    obtain ⟨z, y, xs, r, ob, es, ep, e, c⟩ := x
    exact ⟨z, y, xs, Paired.mapP r fun p q z => ⟨z.1, ht _ _ z.2.1, z.2.2⟩, ob, es, ep, k _ _ (.inl rfl) e, c⟩
  | set S n => obtain ⟨ob, es, ep, t, e, c⟩ := x; exact ⟨ob, es, ep, t, k _ _ (.inl rfl) e, c⟩
  | ins C dx fs =>
    obtain ⟨d, z, ne, e, mA, ⟨od, es, ep, e2, c⟩, r⟩ := x
    exact ⟨ho _ d, z, ne, k _ _ (.inl rfl) e, mA, ⟨od, es, ep, k _ _ (.inr d) e2, c⟩, r⟩
  | own y => obtain ⟨ob, e⟩ := x; exact ⟨ob, k _ _ (.inl rfl) e⟩
  | xd fs => obtain ⟨mA, ⟨od, es, ep, e, c⟩, r⟩ := x; exact ⟨mA, ⟨od, es, ep, k _ _ (.inl rfl) e, c⟩, r⟩
  | rng lo hi => obtain ⟨t, u, v, e⟩ := x; exact ⟨t, u, v, k _ _ (.inl rfl) e⟩
  | frz ob u ih => obtain ⟨e, q⟩ := x; exact ⟨k _ _ (.inl rfl) e, ih q⟩
  | tbl ps =>
    obtain ⟨mo, e, q⟩ := x
    refine ⟨mo, k _ _ (.inl rfl) e, ?_⟩
    rcases q with q | ⟨l, c, c1, qn, t, e1, e2, e3, c2, o2, vs2, t2, f1, f2, f3, f4⟩
    · exact .inl q
    · cases f1
      exact .inr ⟨l, c, c1, qn, t, e1, e2, ho _ e3, c1, o2, vs2, t2, rfl, k _ _ (.inr e3) f2, f3, f4⟩
  | met f y =>
    have e : h.get? a = some (PySem.W.methodObj (.ref f) (.ref y)) := x
    show h'.get? a = some (PySem.W.methodObj (.ref f) (.ref y))
    exact k a _ (.inl rfl) e
  | ext φ => obtain ⟨p, ⟨o, e⟩, st⟩ := x; exact ⟨st _ _ p fun o q => k _ _ (.inl rfl) q, ⟨o, k _ _ (.inl rfl) e⟩, st⟩
theorem HOk.lt (x : HOk P w H h) (e : H a = some o) : a < h.objs.size := (x a o e).lt
theorem HOk.fresh (x : HOk P w H h) (e : h.objs.size ≤ a) : H a = none := by
  cases q : H a with
  | none => rfl
  | some u => exact absurd (Nat.lt_of_lt_of_le (x.lt q) e) (Nat.lt_irrefl _)
theorem HOk.kept (x : HOk P w H h) (k : ∀ b u, h.get? b = some u → h'.get? b = some u) : HOk P w H h' := fun a o e =>
  (x a o e).stay (fun b u _ q => k b u q) (fun _ q => q) fun _ _ q => q
theorem HOk.laid (x : HOk P w H h) (k : ∀ b u, h.get? b = some u → h'.get? b = some u) (hp : h.objs.size ≤ a) (new : ObjOk P w (upd H a o) h' a o) : HOk P w (upd H a o) h' := fun b u e => by
  have hn := x.fresh hp
  by_cases hb : b = a
  · subst hb; rw [upd_same] at e; cases e; exact new
  · rw [upd_ne hb] at e
    exact (x b u e).stay (fun c v _ q => k c v q) (fun c q => by rw [upd_ne (ne_of_none q hn)]; exact q) fun c xs q => by rw [upd_ne (ne_of_none q hn)]; exact q
end
noncomputable def Rd (H : Hp) (a : Addr) (u : HO) : Prop := H a = some u ∨ ∃ o, H a = some (.frz o u)
theorem Rd.ok {P : Program} {w : World} {H : Hp} {h : Heap} {a : Addr} {u : HO} (r : Rd H a u) (x : HOk P w H h) : ObjOk P w H h a u := by
  rcases r with r | ⟨o, r⟩
  · exact x a u r
  · obtain ⟨_, q⟩ := x a _ r
    exact q
noncomputable def Mut : Option HO → Prop
  | some (.lst _) => True
  | some (.dK _) => True
  | some (.dT _) => True
  | some (.set _ _) => True
  | some (.ins _ _ _) => True
  | some (.ext _) => True
  | _ => False
section
variable {P : Program} {w : World} {H : Hp} {h h' : Heap} {x e : Addr} {o' : HO}
theorem HOk.write (ok : HOk P w H h) (mu : Mut (H x)) (he : e = x ∨ H e = some (.own x)) (k : ∀ b u, b ≠ e → h.get? b = some u → h'.get? b = some u) (heo : ∃ u, h'.get? e = some u)
    (new : ObjOk P w (upd H x o') h' x o') : HOk P w (upd H x o') h' := fun b u q => by
  have nown : ∀ c y, H c = some (.own y) → c ≠ x := fun c y r z => by subst z; rw [r] at mu; exact mu
  have ntup : ∀ c xs, H c = some (.tup xs) → c ≠ x := fun c xs r z => by subst z; rw [r] at mu; exact mu
  by_cases hb : b = x
  · subst hb; rw [upd_same] at q; cases q; exact new
  · rw [upd_ne hb] at q
    by_cases hbe : b = e
    · have q' : H b = some (.own x) := by
        rcases he with z | z
        · exact absurd (hbe.trans z) hb
        · rw [hbe]; exact z
      rw [q] at q'; cases q'
      obtain ⟨v, hv⟩ := heo
      exact ⟨v, by rw [hbe]; exact hv⟩
    · refine (ok b u q).stay (fun c v hc r => k c v ?_ r) (fun c r => by rw [upd_ne (nown c b r)]; exact r) fun c xs r => by rw [upd_ne (ntup c xs r)]; exact r
      rcases hc with rfl | hc
      · exact hbe
      · rintro rfl
        rcases he with z | z
        · exact nown c b hc z
        · rw [hc] at z; cases z; exact hb rfl
end
structure Un (fs ex : List Addr) (H H' : Hp) (h h' : Heap) : Prop where
  keep : ∀ b o, h.get? b = some o → H b = none → b ∉ fs → b ∉ ex → h'.get? b = some o
  slot : ∀ b o, h.get? b = some o → H b = none → b ∈ fs → b ∉ ex → ∃ sl, h'.get? b = some { o with slots := sl }
  free : ∀ b o, h.get? b = some o → H b = none → b ∉ ex → H' b = none
  there : ∀ b o, h.get? b = some o → b ∉ ex → ∃ o', h'.get? b = some o'
  tups : ∀ b xs, H b = some (.tup xs) → H' b = some (.tup xs)
  frzs : ∀ b o u, H b = some (.frz o u) → H' b = some (.frz o u)
  tbls : ∀ b ps, H b = some (.tbl ps) → ∃ more, H' b = some (.tbl (ps ++ more))
section
variable {fs fs' ex ex' : List Addr} {H H1 H2 : Hp} {h h1 h2 h' : Heap} {a x e : Addr} {o : HO}
theorem Un.any (u : Un fs ex H H1 h h1) {b : Addr} {ob : Obj} (q : h.get? b = some ob) (n : H b = none) (hx : b ∉ ex) : ∃ sl, h1.get? b = some { ob with slots := sl } := by
  by_cases hb : b ∈ fs
  · exact u.slot b ob q n hb hx
  · exact ⟨ob.slots, u.keep b ob q n hb hx⟩
theorem Un.kept (k : ∀ b u, h.get? b = some u → h'.get? b = some u) : Un fs ex H H h h' :=
  ⟨fun b ob q _ _ _ => k b ob q, fun b ob q _ _ _ => ⟨ob.slots, k b ob q⟩, fun _ _ _ n _ => n, fun b ob q _ => ⟨ob, k b ob q⟩, fun _ _ q => q, fun _ _ _ q => q, fun _ ps q => ⟨#[], by rw [q]; simp⟩⟩
theorem Un.refl : Un fs ex H H h h := Un.kept fun _ _ q => q
theorem Un.laid (k : ∀ b u, h.get? b = some u → h'.get? b = some u) (hp : h.objs.size ≤ a) (hn : H a = none) : Un fs ex H (upd H a o) h h' where
  keep := fun b u q _ _ _ => k b u q
  slot := fun b u q _ _ _ => ⟨u.slots, k b u q⟩
  free := fun b u q n _ => by rw [upd_ne (Nat.ne_of_lt (Nat.lt_of_lt_of_le (Heap.lt_size q) hp))]; exact n
  there := fun b u q _ => ⟨u, k b u q⟩
  tups := fun b xs q => by rw [upd_ne (ne_of_none q hn)]; exact q
  frzs := fun b u xs q => by rw [upd_ne (ne_of_none q hn)]; exact q
  tbls := fun b ps q => ⟨#[], by rw [upd_ne (ne_of_none q hn), q]; simp⟩
theorem Un.write (mu : Mut (H x)) (he : e = x ∨ H e = some (.own x)) (k : ∀ b u, b ≠ e → h.get? b = some u → h'.get? b = some u) (heo : ∃ u, h'.get? e = some u) : Un fs ex H (upd H x o) h h' := by
  have hx : ∀ b, H b = none → b ≠ x := fun b n z => by subst z; rw [n] at mu; exact mu
  have hb : ∀ b, H b = none → b ≠ e := fun b n z => by
    subst z
    rcases he with r | r
    · exact hx b n r
    · rw [n] at r; cases r
  have hm : ∀ b u, H b = some u → ¬ Mut (some u) → b ≠ x := fun b u q nm z => by subst z; rw [q] at mu; exact nm mu
  refine ⟨fun b u q n _ _ => k b u (hb b n) q, fun b u q n _ _ => ⟨u.slots, k b u (hb b n) q⟩, fun b u q n _ => by rw [upd_ne (hx b n)]; exact n, fun b u q _ => ?_,
    fun b xs q => by rw [upd_ne (hm b _ q fun z => z)]; exact q, fun b u xs q => by rw [upd_ne (hm b _ q fun z => z)]; exact q, fun b ps q => ⟨#[], by rw [upd_ne (hm b _ q fun z => z), q]; simp⟩⟩
  by_cases hbe : b = e
  · subst hbe; exact heo
  · exact ⟨u, k b u hbe q⟩
end
noncomputable def trk (h : Heap) (H : Hp) : List Addr := (List.range h.objs.size).filter fun a => (H a).isSome
noncomputable def hidT (h : Heap) (H : Hp) : Heap := PySem.W.hideAll h (trk h H)
theorem hidT_size (h : Heap) (H : Hp) : (hidT h H).objs.size = h.objs.size := PySem.W.hideAll_size _ _
theorem hidT_get {h : Heap} {H : Hp} {b : Addr} {o : Obj} (e : h.get? b = some o) (n : H b = none) : (hidT h H).get? b = some o :=
  PySem.W.hideAll_get _ e fun hm => by
    have q : (H b).isSome = true := (List.mem_filter.mp hm).2
    rw [n] at q; simp at q
theorem of_hidT {h : Heap} {H : Hp} {b : Addr} {o : Obj} (e : (hidT h H).get? b = some o) : h.get? b = some o ∧ H b = none := by
  have e' : h.get? b = some o := PySem.W.of_hideAll (trk h H) e
  refine ⟨e', ?_⟩
  cases q : H b with
  | none => rfl
  | some x =>
    have hm : b ∈ trk h H := List.mem_filter.mpr ⟨List.mem_range.mpr (Heap.lt_size e'), by simp [q]⟩
    have z : (hidT h H).get? b = none := PySem.W.hideAll_none (trk h H) hm
    rw [z] at e; cases e
noncomputable def allNews (g h : Heap) (L : Addr) : List (Addr × Obj) := (List.range h.objs.size).filterMap fun a => if a = L ∨ (g.get? a).isSome = true then none else (h.get? a).map fun o => (a, o)
noncomputable def rest (g h : Heap) (L d : Addr) : List (Addr × Obj) := (allNews g h L).filter fun p => decide (p.1 ≠ d)
end L2
namespace L2
open PySem PySem.Spec PyProof.Rows
structure Mod (K : PySem.W.Frag) (mg : Str → Option Value) (base : Heap) : Prop where
  kin : K.In base
  glob : base.Ns mainGlobals mg
  blt : ∃ mb, base.Ns builtinsNs mb ∧ ∀ x : Str, x ≠ "__name__" → mb x = bootBuiltins x
  nolimit : base.NoLimit
structure Cx where
  prog : Program
  w : World
  K : PySem.W.Frag
  mg : Str → Option Value
  base : Heap
  A : Around
  N : List Str
  s₀ : Shared
  H₀ : Hp
  env : Env
  outer : List Env
  stack : List Env
  ex : List Addr
  fn : Str → Bool
  calm : Bool
  pn : List (Addr × Obj)
  xe : Value → Shared → Prop
def frs (l : List Env) : List Addr := l.filterMap (·.frame)
abbrev Cx.fs (X : Cx) : List Addr := frs X.outer
noncomputable def Vis (sc : Scope) (x : Str) : Prop := sc.names.lookup x = some .local ∨ sc.names.lookup x = some .cell ∨ sc.names.lookup x = some .free
noncomputable def Loc (sc : Scope) (x : Str) : Prop := sc.names.lookup x = some .local ∨ sc.names.lookup x = some .cell
noncomputable def Look (env : Env) (h : Heap) (m : Str → Option Value) (x : Str) (u : Value) : Prop :=
  (env.kindOf x = some .local ∧ m x = some u) ∨ ((env.kindOf x = some .cell ∨ env.kindOf x = some .free) ∧ ∃ c, env.cells.lookup x = some c ∧ h.IsCell c (some u))
structure Cx.Ok (X : Cx) : Prop where
  mod : Mod X.K X.mg X.base
  kind : X.env.scope.kind = .function
  glob : X.env.globals = mainGlobals
  blt : X.env.builtins = builtinsNs
  above : X.s₀.heap.objs.size ≤ X.env.locals
  inj : ∀ x y c, X.env.cells.lookup x = some c → X.env.cells.lookup y = some c → x = y
  has : ∀ x, (X.env.kindOf x = some .cell ∨ X.env.kindOf x = some .free) → ∃ c, X.env.cells.lookup x = some c
  cab : ∀ x c, X.fn x = true → X.env.cells.lookup x = some c → X.s₀.heap.objs.size ≤ c
  hd : X.calm = true → X.A.handled = none
  frames : X.A.frames = some X.stack
  stk : X.stack = X.outer ∨ (X.stack = X.env :: X.outer ∧ X.env.frame = some X.env.locals)
  exf : ∀ b ∈ X.ex, b ≠ X.env.locals ∧ ∀ x c, X.env.cells.lookup x = some c → c ≠ b
  bs : ∀ b o, X.base.get? b = some o → X.s₀.heap.get? b = some o ∧ X.H₀ b = none
  bsz : X.base.objs.size ≤ X.s₀.heap.objs.size
  noex : ∀ b o, X.base.get? b = some o → b ∉ X.ex
  exfs : ∀ b ∈ X.ex, b ∉ X.fs
  funs : X.s₀.heap.FunFrames X.base X.outer
  frf : ∀ b ∈ X.fs, X.H₀ b = none
structure Inv (X : Cx) (pins : List (Addr × Obj)) (σ : List (Option V)) (H : Hp) (s : Shared) : Prop where
  ok : X.Ok
  os : s.os = X.s₀.os
  bare : AllBare s.gens
  base : Un X.fs X.ex X.H₀ H X.s₀.heap s.heap
  loc : ∃ m, s.heap.Ns X.env.locals m ∧ ∀ (i : Nat) (x : Str) (v : V), X.N[i]? = some x → σ[i]? = some (some v) → Vis X.env.scope x → ∃ u, RelV v u ∧ Look X.env s.heap m x u
  cell : ∀ x c, X.env.cells.lookup x = some c → ∃ v, s.heap.IsCell c v
  free : H X.env.locals = none
  freeC : ∀ x c, X.env.cells.lookup x = some c → H c = none
  pin : ∀ p ∈ X.pn ++ pins, s.heap.get? p.1 = some p.2 ∧ H p.1 = none ∧ p.1 ≠ X.env.locals ∧ p.1 ∉ X.fs ∧ ∀ v, p.2.data ≠ .cell v
  hok : HOk X.prog X.w H s.heap
  len : σ.length = X.N.length
section
variable {X : Cx} {pins : List (Addr × Obj)} {σ : List (Option V)} {H H' : Hp} {s : Shared} {h' : Heap}
theorem Cx.Ok.nofr (ok : X.Ok) {b : Addr} {o : Obj} (e : X.base.get? b = some o) : b ∉ X.fs := fun hb => by
  have := (ok.funs.mem hb).1
  rw [e] at this; cases this
theorem Inv.bs (I : Inv X pins σ H s) : ∀ b o, X.base.get? b = some o → s.heap.get? b = some o ∧ H b = none := fun b o e =>
  ⟨I.base.keep b o (I.ok.bs b o e).1 (I.ok.bs b o e).2 (I.ok.nofr e) (I.ok.noex b o e), I.base.free b o (I.ok.bs b o e).1 (I.ok.bs b o e).2 (I.ok.noex b o e)⟩
theorem Inv.bk (I : Inv X pins σ H s) : ∀ b o, X.base.get? b = some o → s.heap.get? b = some o := fun b o e => (I.bs b o e).1
theorem Inv.mod (I : Inv X pins σ H s) : Mod X.K X.mg X.base := I.ok.mod
theorem Inv.kIn (I : Inv X pins σ H s) : X.K.In s.heap := I.ok.mod.kin.keeps I.bk
theorem Inv.lt (I : Inv X pins σ H s) : X.env.locals < s.heap.objs.size := let ⟨_, hn, _⟩ := I.loc; hn.lt
theorem Inv.sz (I : Inv X pins σ H s) : X.s₀.heap.objs.size ≤ s.heap.objs.size := Nat.le_trans I.ok.above (Nat.le_of_lt I.lt)
theorem Inv.nofs (I : Inv X pins σ H s) {a : Addr} (h : s.heap.objs.size ≤ a) : a ∉ X.fs := fun hb => by
  obtain ⟨_, o, ho, _⟩ := I.ok.funs.mem hb
  exact absurd (Nat.lt_of_lt_of_le (Heap.lt_size ho) (Nat.le_trans I.sz h)) (Nat.lt_irrefl _)
theorem Inv.cne (I : Inv X pins σ H s) : ∀ x c, X.env.cells.lookup x = some c → c ≠ X.env.locals := fun x c e z => by
  obtain ⟨v, o, ho, hd⟩ := I.cell x c e
  obtain ⟨m, ⟨o', es, ep, ho', hd', _⟩, _⟩ := I.loc
  rw [z, ho'] at ho; cases ho; rw [hd'] at hd; cases hd
theorem Inv.funs (I : Inv X pins σ H s) : s.heap.FunFrames X.base X.outer := by
  have all : ∀ (l : List Env), (∀ b ∈ frs l, b ∈ X.fs) → X.s₀.heap.FunFrames X.base l → s.heap.FunFrames X.base l := by
    intro l
    induction l with
    | nil => intro _ _; trivial
    | cons env r ih =>
      intro hs hl
      obtain ⟨hk, ⟨L, o, hf, hn, ho, hd⟩, hr⟩ := hl
      have hL : L ∈ X.fs := hs L (by unfold frs; rw [List.filterMap_cons, hf]; exact List.mem_cons_self)
      obtain ⟨sl, e⟩ := I.base.slot L o ho (I.ok.frf L hL) hL fun z => I.ok.exfs L z hL
      exact ⟨hk, ⟨L, _, hf, hn, e, hd⟩, ih (fun b hb => hs b (by unfold frs; rw [List.filterMap_cons, hf]; exact List.mem_cons_of_mem _ hb)) hr⟩
  exact all X.outer (fun _ hb => hb) I.ok.funs
theorem Inv.stack (I : Inv X pins σ H s) : s.heap.FunFrames X.base X.stack := by
  rcases I.ok.stk with e | ⟨e, hf⟩
  · rw [e]; exact I.funs
  · rw [e]
    obtain ⟨m, hn, _⟩ := I.loc
    refine .cons (by rw [I.ok.kind]; decide) hf hn ?_ I.funs
    exact Heap.get?_none_of_le (Nat.le_trans I.ok.bsz I.ok.above)
theorem Inv.stkSub (I : Inv X pins σ H s) : ∀ b ∈ frs X.stack, b ∈ X.env.locals :: X.fs := fun b hb => by
  rcases I.ok.stk with e | ⟨e, hf⟩
  · rw [e] at hb; exact List.mem_cons_of_mem _ hb
  · rw [e] at hb
    unfold frs at hb
    rw [List.filterMap_cons, hf] at hb
    exact hb
theorem Inv.stkFree (I : Inv X pins σ H s) : ∀ b ∈ frs X.stack, H b = none := fun b hb => by
  rcases List.mem_cons.mp (I.stkSub b hb) with e | hb
  · rw [e]; exact I.free
  · obtain ⟨_, o, ho, _⟩ := I.ok.funs.mem hb
    exact I.base.free b o ho (I.ok.frf b hb) fun z => I.ok.exfs b z hb
theorem Inv.step {g' : Array GenState} {t' : Nat} {d' : Drawn} {ch : List Addr} (I : Inv X pins σ H s)
    (hch : ∀ b ∈ ch, (b ∈ X.ex ∨ X.s₀.heap.objs.size ≤ b) ∧ b ≠ X.env.locals ∧ (∀ x c, X.env.cells.lookup x = some c → c ≠ b) ∧ ∀ p ∈ X.pn ++ pins, p.1 ≠ b)
    (keep : ∀ b o, b ≠ X.env.locals → b ∉ X.fs → b ∉ ch → s.heap.get? b = some o → H b = none → h'.get? b = some o)
    (slot : ∀ b o, b ≠ X.env.locals → b ∈ X.fs → b ∉ ch → s.heap.get? b = some o → H b = none → ∃ sl, h'.get? b = some { o with slots := sl }) (free : ∀ b o, b ∉ ch → s.heap.get? b = some o → H b = none → H' b = none)
    (there : ∀ b o, b ∉ ch → s.heap.get? b = some o → ∃ o', h'.get? b = some o')
    (tups : ∀ b xs, H b = some (.tup xs) → H' b = some (.tup xs)) (frzs : ∀ b o u, H b = some (.frz o u) → H' b = some (.frz o u)) (tbls : ∀ b ps, H b = some (.tbl ps) → ∃ more, H' b = some (.tbl (ps ++ more)))
    (ns : ∀ m, s.heap.Ns X.env.locals m → h'.Ns X.env.locals m) (hok : HOk X.prog X.w H' h') (hg : AllBare g') :
    Inv X pins σ H' { s with heap := h', gens := g', drawn := d', toks := t' } := by
  have neL : ∀ b o, X.s₀.heap.get? b = some o → b ≠ X.env.locals := fun b o e => Nat.ne_of_lt (Nat.lt_of_lt_of_le (Heap.lt_size e) I.ok.above)
  have neC : ∀ b o, X.s₀.heap.get? b = some o → b ∉ X.ex → b ∉ ch := fun b o e hx hb => by
    rcases (hch b hb).1 with z | z
    · exact hx z
    · exact absurd (Nat.lt_of_lt_of_le (Heap.lt_size e) z) (Nat.lt_irrefl _)
  have cellK : ∀ x c, X.env.cells.lookup x = some c → ∀ v, s.heap.IsCell c v → h'.IsCell c v := fun x c e v ⟨o, ho, hd⟩ => by
    have nch : c ∉ ch := fun z => (hch c z).2.2.1 x c e rfl
    by_cases hc : c ∈ X.fs
    · obtain ⟨sl, q⟩ := slot c o (I.cne x c e) hc nch ho (I.freeC x c e)
      exact ⟨_, q, hd⟩
    · exact ⟨o, keep c o (I.cne x c e) hc nch ho (I.freeC x c e), hd⟩
  refine ⟨I.ok, I.os, hg, ⟨fun b o e n hb hx => ?_, fun b o e n hb hx => ?_, fun b o e n hx => ?_, fun b o e hx => ?_, fun b xs e => tups b xs (I.base.tups b xs e), fun b o xs e => frzs b o xs (I.base.frzs b o xs e), fun b ps e => ?_⟩, ?_, fun x c e => ?_, ?_, fun x c e => ?_, fun p hp => ?_, hok, I.len⟩
  · exact keep b o (neL b o e) hb (neC b o e hx) (I.base.keep b o e n hb hx) (I.base.free b o e n hx)
  · obtain ⟨sl, e1⟩ := I.base.slot b o e n hb hx
    obtain ⟨sl', e2⟩ := slot b _ (neL b o e) hb (neC b o e hx) e1 (I.base.free b o e n hx)
    exact ⟨sl', e2⟩
  · obtain ⟨o', e1⟩ := I.base.there b o e hx
    exact free b o' (neC b o e hx) e1 (I.base.free b o e n hx)
  · obtain ⟨o', e1⟩ := I.base.there b o e hx
    exact there b o' (neC b o e hx) e1
  · obtain ⟨m1, e1⟩ := I.base.tbls b ps e
    obtain ⟨m2, e2⟩ := tbls b _ e1
    exact ⟨m1 ++ m2, by rw [e2, Array.append_assoc]⟩
  · obtain ⟨m, hn, hl⟩ := I.loc
    refine ⟨m, ns m hn, fun i x v e1 e2 e3 => ?_⟩
    obtain ⟨u, r, l⟩ := hl i x v e1 e2 e3
    refine ⟨u, r, ?_⟩
    rcases l with l | ⟨k, c, e, z⟩
    · exact .inl l
    · exact .inr ⟨k, c, e, cellK x c e _ z⟩
  · obtain ⟨v, z⟩ := I.cell x c e
    exact ⟨v, cellK x c e v z⟩
  · obtain ⟨m, ⟨o, _, _, ho, _⟩, _⟩ := I.loc
    exact free _ o (fun z => (hch _ z).2.1 rfl) ho I.free
  · obtain ⟨v, o, ho, hd⟩ := I.cell x c e
    exact free c o (fun z => (hch c z).2.2.1 x c e rfl) ho (I.freeC x c e)
  · obtain ⟨e, n, ne, nf, d⟩ := I.pin p hp
    have nch : p.1 ∉ ch := fun z => (hch p.1 z).2.2.2 p hp rfl
    exact ⟨keep p.1 p.2 ne nf nch e n, free p.1 p.2 nch e n, ne, nf, d⟩
theorem Inv.un {t' : Nat} (I : Inv X pins σ H s) (u : Un X.fs [] H H' s.heap h') (hok : HOk X.prog X.w H' h') : Inv X pins σ H' { s with heap := h', toks := t' } := by
  obtain ⟨m, ⟨o, es, ep, ho, r⟩, _⟩ := id I.loc
  obtain ⟨sl, hL⟩ := u.any ho I.free (by simp)
  exact I.step (g' := s.gens) (d' := s.drawn) (ch := []) (fun _ z => nomatch z) (fun b o _ hb _ e n => u.keep b o e n hb (by simp)) (fun b o _ hb _ e n => u.slot b o e n hb (by simp)) (fun b o _ e n => u.free b o e n (by simp)) (fun b o _ e => u.there b o e (by simp)) u.tups u.frzs u.tbls (fun m' hm => by
    obtain ⟨o', es', ep', ho', r'⟩ := hm
    rw [ho] at ho'; cases ho'
    exact ⟨_, es', ep', hL, r'⟩) hok I.bare
theorem Inv.call {g' : Array GenState} {t' : Nat} {d' : Drawn} {ch : List Addr} (I : Inv X pins σ H s) (u : Un (frs X.stack) ch H H' s.heap h') (hok : HOk X.prog X.w H' h') (hg : AllBare g')
    (hch : ∀ b ∈ ch, (b ∈ X.ex ∨ X.s₀.heap.objs.size ≤ b) ∧ b ≠ X.env.locals ∧ (∀ x c, X.env.cells.lookup x = some c → c ≠ b) ∧ ∀ p ∈ X.pn ++ pins, p.1 ≠ b) :
    Inv X pins σ H' { s with heap := h', gens := g', drawn := d', toks := t' } := by
  obtain ⟨m, ⟨o, es, ep, ho, r⟩, _⟩ := id I.loc
  obtain ⟨sl, hL⟩ := u.any ho I.free fun z => (hch _ z).2.1 rfl
  exact I.step (ch := ch) hch (fun b o hL hb hc e n => u.keep b o e n (fun z => (List.mem_cons.mp (I.stkSub b z)).elim hL hb) hc) (fun b o _ _ hc e n => u.any e n hc) (fun b o hc e n => u.free b o e n hc) (fun b o hc e => u.there b o e hc) u.tups u.frzs u.tbls (fun m' hm => by
    obtain ⟨o', es', ep', ho', r'⟩ := hm
    rw [ho] at ho'; cases ho'
    exact ⟨_, es', ep', hL, r'⟩) hok hg
theorem Inv.turned {t' : Nat} {it : Addr} (I : Inv X pins σ H s) (k : ∀ b o, b ≠ it → s.heap.get? b = some o → h'.get? b = some o) (hn : H it = none) (hL : it ≠ X.env.locals)
    (h1 : it ∈ X.ex ∨ X.s₀.heap.objs.size ≤ it) (h2 : ∀ x c, X.env.cells.lookup x = some c → c ≠ it) (h3 : ∀ p ∈ X.pn ++ pins, p.1 ≠ it) : Inv X pins σ H { s with heap := h', toks := t' } := by
  have nit : ∀ b u, H b = some u → b ≠ it := fun b u e z => by rw [z, hn] at e; cases e
  refine I.step (g' := s.gens) (d' := s.drawn) (ch := [it]) (fun b hb => ?_) (fun b o _ _ hc e _ => k b o (fun z => hc (by simp [z])) e) (fun b o _ _ hc e _ => ⟨o.slots, k b o (fun z => hc (by simp [z])) e⟩) (fun _ _ _ _ n => n)
    (fun b o hc e => ⟨o, k b o (fun z => hc (by simp [z])) e⟩) (fun _ _ e => e) (fun _ _ _ e => e) (fun b ps e => ⟨#[], by rw [e]; simp⟩) (fun m hm => ?_) (fun b u e => ?_) I.bare
  · have e : b = it := by simpa using hb
    subst e
    exact ⟨h1, hL, h2, h3⟩
  · obtain ⟨o, es, ep, ho, r⟩ := hm
    exact ⟨o, es, ep, k _ o (Ne.symm hL) ho, r⟩
  · refine (I.hok b u e).stay (fun c v hc q => k c v ?_ q) (fun _ q => q) fun _ _ q => q
    rcases hc with z | z
    · rw [z]; exact nit b u e
    · exact nit c _ z
theorem Inv.tok (I : Inv X pins σ H s) (t : Nat) : Inv X pins σ H { s with toks := t } := I.un (h' := s.heap) (t' := t) Un.refl I.hok
theorem Inv.kept {t' : Nat} (I : Inv X pins σ H s) (k : ∀ b u, s.heap.get? b = some u → h'.get? b = some u) : Inv X pins σ H { s with heap := h', toks := t' } := I.un (Un.kept k) (I.hok.kept k)
theorem Inv.laid {a : Addr} {o : HO} {t' : Nat} (I : Inv X pins σ H s) (k : ∀ b u, s.heap.get? b = some u → h'.get? b = some u) (hp : s.heap.objs.size ≤ a) (new : ObjOk X.prog X.w (upd H a o) h' a o) :
    Inv X pins σ (upd H a o) { s with heap := h', toks := t' } := I.un (Un.laid k hp (I.hok.fresh hp)) (I.hok.laid k hp new)
theorem Inv.write {x e : Addr} {o : HO} {t' : Nat} (I : Inv X pins σ H s) (mu : Mut (H x)) (he : e = x ∨ H e = some (.own x)) (k : ∀ b u, b ≠ e → s.heap.get? b = some u → h'.get? b = some u) (heo : ∃ u, h'.get? e = some u)
    (new : ObjOk X.prog X.w (upd H x o) h' x o) : Inv X pins σ (upd H x o) { s with heap := h', toks := t' } := I.un (Un.write mu he k heo) (I.hok.write mu he k heo new)
theorem Inv.pins_of {pins' : List (Addr × Obj)} (I : Inv X pins σ H s) (h : ∀ p ∈ pins', s.heap.get? p.1 = some p.2 ∧ H p.1 = none ∧ p.1 ≠ X.env.locals ∧ p.1 ∉ X.fs ∧ ∀ v, p.2.data ≠ .cell v) : Inv X pins' σ H s :=
  ⟨I.ok, I.os, I.bare, I.base, I.loc, I.cell, I.free, I.freeC, fun p hp => (List.mem_append.mp hp).elim (fun z => I.pin p (List.mem_append_left _ z)) (h p), I.hok, I.len⟩
theorem nodup_ix {N : List Str} (hN : N.Nodup) {i j : Nat} {x : Str} (a : N[i]? = some x) (b : N[j]? = some x) : i = j := by
  obtain ⟨h1, e1⟩ := List.getElem?_eq_some_iff.mp a
  obtain ⟨h2, e2⟩ := List.getElem?_eq_some_iff.mp b
  exact (List.getElem_inj hN).mp (e1.trans e2.symm)
theorem store_ok2 {M : Model} {A : Around} {E : Value → Shared → Prop} {i : Nat} {x : Str} {v : V} {u : Value} {Q : Unit → Shared → Prop} (I : Inv X pins σ H s) (hN : X.N.Nodup) (hi : X.N[i]? = some x) (hx : Loc X.env.scope x) (r : RelV v u)
    (h : ∀ s', Inv X pins (σ.set i (some v)) H s' → (∃ a, Heap.SameBut a s.heap s'.heap ∧ (a = X.env.locals ∨ X.env.cells.lookup x = some a)) → Q () s') (hf : X.fn x = true ∨ X.env.scope.names.lookup x = some .local := by first | exact .inl rfl | exact .inr rfl | assumption) : wpAny M A (storeName X.env x u) Q E s := by
  obtain ⟨m, hn, hl⟩ := id I.loc
  have hcls : (X.env.scope.kind == .class || (X.env.scope.kind == .module && X.env.locals != X.env.globals)) = false := by rw [I.ok.kind]; rfl
  have hiσ : i < σ.length := by rw [I.len]; exact (List.getElem?_eq_some_iff.mp hi).1
  have cne := I.cne
  have tracked : ∀ {a : Addr} {h' : Heap}, (∃ o, s.heap.get? a = some o ∧ H a = none) → Heap.SameBut a s.heap h' → HOk X.prog X.w H h' := fun {a h'} ha hs b ob e => by
    obtain ⟨_, _, hfree⟩ := ha
    refine (I.hok b ob e).stay (fun c w' hc q => (hs.2 c ?_).trans q) (fun _ q => q) fun _ _ q => q
    rintro rfl
    rcases hc with rfl | hc
    · rw [hfree] at e; cases e
    · rw [hfree] at hc; cases hc
  rcases hx with hk | hk
  · refine wpAny_storeName_local hk hn (fun h' hn' hs => ?_) hcls
    obtain ⟨oL, _, _, hoL, _⟩ := id hn
    refine h _ ⟨I.ok, I.os, I.bare, ⟨fun b o e n hb hx => ?_, fun b o e n hb hx => ?_, I.base.free, fun b o e hx => ?_, I.base.tups, I.base.frzs, I.base.tbls⟩, ⟨_, hn', fun j y v' e1 e2 e3 => ?_⟩, fun y c e => ?_, I.free, I.freeC, fun p hp => ?_, tracked ⟨oL, hoL, I.free⟩ hs, by simpa using I.len⟩ ⟨_, hs, .inl rfl⟩
    · exact (hs.2 b (Nat.ne_of_lt (Nat.lt_of_lt_of_le (Heap.lt_size e) I.ok.above))).trans (I.base.keep b o e n hb hx)
    · obtain ⟨sl, e1⟩ := I.base.slot b o e n hb hx
      exact ⟨sl, (hs.2 b (Nat.ne_of_lt (Nat.lt_of_lt_of_le (Heap.lt_size e) I.ok.above))).trans e1⟩
    · obtain ⟨o', e1⟩ := I.base.there b o e hx
      exact ⟨o', (hs.2 b (Nat.ne_of_lt (Nat.lt_of_lt_of_le (Heap.lt_size e) I.ok.above))).trans e1⟩
    · by_cases hj : j = i
      · subst hj
        rw [hi] at e1; cases e1
        rw [List.getElem?_set_self hiσ] at e2
        cases e2
        exact ⟨u, r, .inl ⟨hk, by simp⟩⟩
      · rw [List.getElem?_set_ne (Ne.symm hj)] at e2
        obtain ⟨u', r', q⟩ := hl j y v' e1 e2 e3
        refine ⟨u', r', ?_⟩
        rcases q with ⟨k, e⟩ | ⟨k, c, e, z⟩
        · refine .inl ⟨k, ?_⟩
          have : y ≠ x := fun e => hj (nodup_ix hN e1 (e ▸ hi))
          simp [this, e]
        · exact .inr ⟨k, c, e, z.sameBut hs (cne y c e)⟩
    · obtain ⟨w', z⟩ := I.cell y c e
      exact ⟨w', z.sameBut hs (cne y c e)⟩
    · obtain ⟨e, n, ne, nf, d⟩ := I.pin p hp
      exact ⟨(hs.2 p.1 ne).trans e, n, ne, nf, d⟩
  · have hfn : X.fn x = true := by
      rcases hf with z | z
      · exact z
      · rw [z] at hk; cases hk
    obtain ⟨c, hc⟩ := I.ok.has x (.inl hk)
    obtain ⟨w', z⟩ := I.cell x c hc
    refine wpAny_storeName_cell I.ok.kind hk hc z (fun h' hc' hs => ?_)
    obtain ⟨oc, hoc, hocd⟩ := id z
    refine h { s with heap := h' } ⟨I.ok, I.os, I.bare, ⟨fun b o e n hb hx => ?_, fun b o e n hb hx => ?_, I.base.free, fun b o e hx => ?_, I.base.tups, I.base.frzs, I.base.tbls⟩, ⟨m, hn.sameBut hs (Ne.symm (cne x c hc)), fun j y v' e1 e2 e3 => ?_⟩, fun y c' e => ?_, I.free, I.freeC, fun p hp => ?_, tracked ⟨oc, hoc, I.freeC x c hc⟩ hs, by simpa using I.len⟩ ⟨c, hs, .inr hc⟩
    · exact (hs.2 b (Nat.ne_of_lt (Nat.lt_of_lt_of_le (Heap.lt_size e) (I.ok.cab x c hfn hc)))).trans (I.base.keep b o e n hb hx)
    · obtain ⟨sl, e1⟩ := I.base.slot b o e n hb hx
      exact ⟨sl, (hs.2 b (Nat.ne_of_lt (Nat.lt_of_lt_of_le (Heap.lt_size e) (I.ok.cab x c hfn hc)))).trans e1⟩
    · obtain ⟨o', e1⟩ := I.base.there b o e hx
      exact ⟨o', (hs.2 b (Nat.ne_of_lt (Nat.lt_of_lt_of_le (Heap.lt_size e) (I.ok.cab x c hfn hc)))).trans e1⟩
    · by_cases hj : j = i
      · subst hj
        rw [hi] at e1; cases e1
        rw [List.getElem?_set_self hiσ] at e2
        cases e2
        exact ⟨u, r, .inr ⟨.inl hk, c, hc, hc'⟩⟩
      · rw [List.getElem?_set_ne (Ne.symm hj)] at e2
        obtain ⟨u', r', q⟩ := hl j y v' e1 e2 e3
        refine ⟨u', r', ?_⟩
        rcases q with q | ⟨k, c', e, z'⟩
        · exact .inl q
        · refine .inr ⟨k, c', e, z'.sameBut hs ?_⟩
          rintro rfl
          exact hj (nodup_ix hN e1 (I.ok.inj _ _ _ e hc ▸ hi))
    · by_cases hcc : c' = c
      · subst hcc; exact ⟨_, hc'⟩
      · obtain ⟨w2, z2⟩ := I.cell y c' e
        exact ⟨w2, z2.sameBut hs hcc⟩
    · obtain ⟨e, n, ne, nf, d⟩ := I.pin p hp
      refine ⟨(hs.2 p.1 ?_).trans e, n, ne, nf, d⟩
      intro q
      rw [q, hoc] at e
      have q' : oc = p.2 := Option.some.inj e
      exact d w' (by rw [← q']; exact hocd)
theorem store_ok {M : Model} {A : Around} {E : Value → Shared → Prop} {i : Nat} {x : Str} {v : V} {u : Value} {Q : Unit → Shared → Prop} (I : Inv X pins σ H s) (hN : X.N.Nodup) (hi : X.N[i]? = some x) (hx : Loc X.env.scope x) (r : RelV v u)
    (h : ∀ s', Inv X pins (σ.set i (some v)) H s' → Q () s') (hf : X.fn x = true ∨ X.env.scope.names.lookup x = some .local := by first | exact .inl rfl | exact .inr rfl | assumption) : wpAny M A (storeName X.env x u) Q E s :=
  store_ok2 I hN hi hx r (fun s' I' _ => h s' I') hf
theorem Inv.call' {s' : Shared} {ch : List Addr} (I : Inv X pins σ H s) (ho : s'.os = s.os) (u : Un (frs X.stack) ch H H' s.heap s'.heap) (hok : HOk X.prog X.w H' s'.heap) (hg : AllBare s'.gens)
    (hch : ∀ b ∈ ch, (b ∈ X.ex ∨ X.s₀.heap.objs.size ≤ b) ∧ b ≠ X.env.locals ∧ (∀ x c, X.env.cells.lookup x = some c → c ≠ b) ∧ ∀ p ∈ X.pn ++ pins, p.1 ≠ b) : Inv X pins σ H' s' := by
  obtain ⟨h', g', d', t', o'⟩ := s'
  have e : o' = s.os := ho
  subst e
  exact I.call (g' := g') (t' := t') (d' := d') u hok hg hch
end
abbrev XK := Value → Option Addr → Hp → Prop
abbrev St := List (Option V)
abbrev VK := V → Hp → Prop
abbrev TE := St → Hp → VK → Prop
abbrev TT := St → Hp → (Bool → Hp → Prop) → Prop
abbrev TA := St → Hp → (List V → Hp → Prop) → Prop
structure Ends where
  nx : St → Hp → Prop
  rt : VK
  bk : St → Hp → Prop := fun _ _ => False
  ct : St → Hp → Prop := fun _ _ => False
abbrev TS := Ends → St → Hp → Prop
noncomputable def EP (X : Cx) (pins : List (Addr × Obj)) (σ : St) (Q : VK) (u : Value) (s' : Shared) : Prop := ∃ v H', Inv X pins σ H' s' ∧ RelV v u ∧ Q v H'
noncomputable def TP (X : Cx) (pins : List (Addr × Obj)) (σ : St) (Q : Bool → Hp → Prop) (b : Bool) (s' : Shared) : Prop := ∃ H', Inv X pins σ H' s' ∧ Q b H'
noncomputable def AP (X : Cx) (pins : List (Addr × Obj)) (σ : St) (Q : List V → Hp → Prop) (us : List Value) (s' : Shared) : Prop := ∃ vs H', Inv X pins σ H' s' ∧ Vals vs us ∧ Q vs H'
noncomputable def SP (X : Cx) (pins : List (Addr × Obj)) (D : Ends) (f : Flow) (s' : Shared) : Prop :=
  match f with
  | .next => ∃ σ' H', Inv X pins σ' H' s' ∧ D.nx σ' H'
  | .brk => ∃ σ' H', Inv X pins σ' H' s' ∧ D.bk σ' H'
  | .cont => ∃ σ' H', Inv X pins σ' H' s' ∧ D.ct σ' H'
  | .ret u => ∃ v σ' H', Inv X pins σ' H' s' ∧ RelV v u ∧ D.rt v H'
noncomputable def PE (X : Cx) (e : Expr) (t : TE) : Prop :=
  ∀ (pins : List (Addr × Obj)) (s : Shared) (σ : St) (H : Hp) (Q : VK), Inv X pins σ H s → t σ H Q → wpAny (model X.prog X.w) X.A (eval e X.env) (EP X pins σ Q) X.xe s
noncomputable def PT (X : Cx) (e : Expr) (t : TT) : Prop :=
  ∀ (pins : List (Addr × Obj)) (s : Shared) (σ : St) (H : Hp) (Q : Bool → Hp → Prop), Inv X pins σ H s → t σ H Q → wpAny (model X.prog X.w) X.A (isTrue e X.env (eval e X.env)) (TP X pins σ Q) X.xe s
noncomputable def PW (X : Cx) (e : Expr) (t : TT) : Prop :=
  ∀ (whole : Sem Value) (pins : List (Addr × Obj)) (s : Shared) (σ : St) (H : Hp) (Q : Bool → Hp → Prop), Inv X pins σ H s → t σ H Q → wpAny (model X.prog X.w) X.A (isTrue e X.env whole) (TP X pins σ Q) X.xe s
theorem PW.pt {X : Cx} {e : Expr} {t : TT} (h : PW X e t) : PT X e t := h _
noncomputable def PA (X : Cx) (es : List Expr) (t : TA) : Prop :=
  ∀ (pos : Pos) (pins : List (Addr × Obj)) (s : Shared) (σ : St) (H : Hp) (Q : List V → Hp → Prop), Inv X pins σ H s → t σ H Q → wpAny (model X.prog X.w) X.A (spliced (backTo pos (starEach es X.env))) (AP X pins σ Q) X.xe s
noncomputable def PS (X : Cx) (st : Stmt) (t : TS) : Prop :=
  ∀ (pins : List (Addr × Obj)) (s : Shared) (σ : St) (H : Hp) (D : Ends), Inv X pins σ H s → t D σ H → wpAny (model X.prog X.w) X.A (exec st X.env) (SP X pins D) X.xe s
noncomputable def PSs (X : Cx) (st : List Stmt) (t : TS) : Prop :=
  ∀ (pins : List (Addr × Obj)) (s : Shared) (σ : St) (H : Hp) (D : Ends), Inv X pins σ H s → t D σ H → wpAny (model X.prog X.w) X.A (execs st X.env) (SP X pins D) X.xe s
theorem thn {α : Type} {t : Sem α} {Q Q' : α → Shared → Prop} {M : Model} {A : Around} {E : Value → Shared → Prop} {s : Shared} (h : wpAny M A t Q E s) (hQ : ∀ a s, Q a s → Q' a s) : wpAny M A t Q' E s := wpAny_mono h hQ fun _ _ x => x
end L2
namespace L2
open PySem PySem.Spec PyProof.Rows
section
variable {X : Cx}
theorem bin {a b : Expr} {ta tb : TE} (ha : PE X a ta) (hb : PE X b tb) {pins : List (Addr × Obj)} {s : Shared} {σ : St} {H : Hp} {R : V → V → Hp → Prop} (I : Inv X pins σ H s) (h : ta σ H fun x H1 => tb σ H1 fun y H2 => R x y H2)
    {α : Type} {Q : α → Shared → Prop} {f : Value → Value → Sem α}
    (hf : ∀ v u s2 x y H2, Inv X pins σ H2 s2 → RelV x v → RelV y u → R x y H2 → wpAny (model X.prog X.w) X.A (f v u) Q X.xe s2) :
    wpAny (model X.prog X.w) X.A (eval a X.env) (fun v s₁ => wpAny (model X.prog X.w) X.A (eval b X.env) (fun u s₂ => wpAny (model X.prog X.w) X.A (f v u) Q X.xe s₂) X.xe s₁) X.xe s := by
  refine thn (ha pins s σ H _ I h) fun v s1 ⟨x, H1, I1, r1, q1⟩ => ?_
  refine thn (hb pins s1 σ H1 _ I1 q1) fun u s2 ⟨y, H2, I2, r2, q2⟩ => ?_
  exact hf v u s2 x y H2 I2 r1 r2 q2
noncomputable def tVar (i : Nat) : TE := fun σ H Q => ∃ v, σ[i]? = some (some v) ∧ Q v H
noncomputable def tC (v : V) : TE := fun _ H Q => Q v H
theorem pe_var {i : Nat} {x : Str} {pos : Pos} (hN : X.N[i]? = some x) (hv : Vis X.env.scope x) (hd : (x == ("__debug__" : Str)) = false := by decide) (hcd : (x == ("__classdict__" : Str)) = false := by decide) : PE X (.Name x pos) (tVar i) := by
  intro pins s σ H Q I h
  obtain ⟨v, e, h⟩ := h
  obtain ⟨m, hn, hl⟩ := I.loc
  obtain ⟨u, r, l⟩ := hl i x v hN e hv
  have fin : EP X pins σ Q u s := ⟨v, H, I, r, h⟩
  rcases l with ⟨hk, hm⟩ | ⟨hk, c, hc, hcell⟩
  · exact wpAny_Name (wpAny_loadName_local I.ok.kind hk hn hm fin) hd
  · rcases hk with hk | hk
    · exact wpAny_Name (wpAny_loadName_cell I.ok.kind hk hc hcell fin) hd
    · exact wpAny_Name (wpAny_loadName_free I.ok.kind hk hc hcell fin hcd) hd
theorem pe_int {i j pos} : PE X (.Constant (.int i) j pos) (tC (.int i)) := fun _ _ _ H _ I h => wpAny_Constant_int ⟨.int i, H, I.tok _, ⟨_, rfl⟩, h⟩
theorem pe_bl {b j pos} : PE X (.Constant (.bool b) j pos) (tC (.bl b)) := fun _ _ _ H _ I h => Constant_bool ⟨.bl b, H, I, rfl, h⟩
theorem pe_non {j pos} : PE X (.Constant .none j pos) (tC .non) := fun _ _ _ H _ I h => Constant_none ⟨.non, H, I, rfl, h⟩
theorem pe_str {x j pos} : PE X (.Constant (.str x) j pos) (tC (.str x)) := fun _ _ _ H _ I h => Calls.Constant_str ⟨.str x, H, I.tok _, ⟨_, rfl⟩, h⟩
noncomputable def Gl (X : Cx) (x : Str) : Prop := X.env.kindOf x = some .globalImplicit
theorem ld_glob {E : Value → Shared → Prop} {pins : List (Addr × Obj)} {s : Shared} {σ : St} {H : Hp} {x : Str} {u : Value} {pos : Pos} {Q : Value → Shared → Prop} (I : Inv X pins σ H s) (hg : Gl X x) (hm : X.mg x = some u) (h : Q u s)
    (hd : (x == ("__debug__" : Str)) = false := by decide) : wpAny (model X.prog X.w) X.A (eval (.Name x pos) X.env) Q E s :=
  Calls.Name_function_global I.ok.kind hg (Calls.loadGlobal_global (by rw [I.ok.glob]; exact I.mod.glob.keeps I.bk) hm h) hd
theorem ld_blt {E : Value → Shared → Prop} {pins : List (Addr × Obj)} {s : Shared} {σ : St} {H : Hp} {x : Str} {u : Value} {pos : Pos} {Q : Value → Shared → Prop} (I : Inv X pins σ H s) (hg : Gl X x) (hm : X.mg x = none) (hv : bootBuiltins x = some u) (h : Q u s)
    (hn : x ≠ "__name__" := by decide) (hd : (x == ("__debug__" : Str)) = false := by decide) : wpAny (model X.prog X.w) X.A (eval (.Name x pos) X.env) Q E s := by
  obtain ⟨mb, h1, h2⟩ := I.mod.blt
  exact Calls.Name_function_global I.ok.kind hg (Calls.loadGlobal_builtin (by rw [I.ok.glob]; exact I.mod.glob.keeps I.bk) hm (by rw [I.ok.blt]; exact h1.keeps I.bk) ((h2 x hn).trans hv) h) hd
theorem pe_bltn {x : Str} {v : V} {u : Value} {pos : Pos} (hg : Gl X x) (hm : X.mg x = none) (hv : bootBuiltins x = some u) (r : RelV v u) (hn : x ≠ "__name__" := by decide) (hd : (x == ("__debug__" : Str)) = false := by decide) : PE X (.Name x pos) (tC v) :=
  fun _ _ _ H _ I h => ld_blt I hg hm hv ⟨v, H, I, r, h⟩ hn hd
noncomputable def t2I (ta tb : TE) (k : Int → Int → Hp → Prop) : St → Hp → Prop := fun σ H => ta σ H fun x H1 => tb σ H1 fun y H2 => ∃ i j, x = .int i ∧ y = .int j ∧ k i j H2
variable {a b : Expr} {ta tb : TE} {pos : Pos}
noncomputable def PC (X : Cx) (op : CmpOp) (a b : Expr) (t : TE) : Prop :=
  ∀ (pins : List (Addr × Obj)) (s : Shared) (σ : St) (H : Hp) (Q : VK), Inv X pins σ H s → t σ H Q →
    wpAny (model X.prog X.w) X.A (eval a X.env) (fun v s₁ => wpAny (model X.prog X.w) X.A (eval b X.env) (fun u s₂ => wpAny (model X.prog X.w) X.A (compareOp op v u) (EP X pins σ Q) X.xe s₂) X.xe s₁) X.xe s
theorem nobehind (b : Expr) {op : CmpOp} (h : op ≠ .In) (h2 : op ≠ .NotIn) : behindInMarks op b = false := by
  have e1 : (op == CmpOp.In) = false := by cases op <;> first | rfl | exact absurd rfl h
  have e2 : (op == CmpOp.NotIn) = false := by cases op <;> first | rfl | exact absurd rfl h2
  cases b <;> simp [behindInMarks, e1, e2]
noncomputable def tCmp (p : Int → Int → Bool) (ta tb : TE) : TE := fun σ H Q => t2I ta tb (fun i j H2 => Q (.bl (p i j)) H2) σ H
abbrev tLt : TE → TE → TE := tCmp fun i j => decide (i < j)
abbrev tLe : TE → TE → TE := tCmp fun i j => decide (i ≤ j)
abbrev tGt : TE → TE → TE := tCmp fun i j => decide (j < i)
abbrev tGe : TE → TE → TE := tCmp fun i j => decide (j ≤ i)
abbrev tEqI : TE → TE → TE := tCmp fun i j => decide (i = j)
abbrev tNeI : TE → TE → TE := tCmp fun i j => !decide (i = j)
noncomputable def tB (t : TE) : TT := fun σ H Q => t σ H fun x H1 => ∃ c, x = .bl c ∧ Q c H1
theorem pt_cmp {op : CmpOp} {t : TE} (h : PC X op a b t) (h1 : behindInMarks op b = false := by first | exact nobehind _ (by decide) (by decide) | rfl) : PT X (.Compare a [op] [b] pos) (tB t) := by
  intro pins s σ H Q I hw
  refine wpAny_isTrue_Compare1 (thn (h pins s σ H _ I hw) fun v s1 h1 => thn h1 fun u s2 h2 => thn h2 fun c s3 ⟨x, H1, I1, r1, q1⟩ => ?_) h1
  obtain ⟨d, rfl, q⟩ := q1
  cases r1
  exact wpAny_truthy_bool ⟨H1, I1, q⟩
theorem pt_val {e : Expr} {t : TE} (h : PE X e t) (he : ∀ whole, isTrue e X.env whole = (do let v ← whole; standAt e.pos; holding [v] (truthy v)) := by intro _; rfl) : PT X e (tB t) := by
  intro pins s σ H Q I hw
  refine isTrue_plain (thn (h pins s σ H _ I hw) fun v s1 ⟨x, H1, I1, r1, q1⟩ => ?_) (he _)
  obtain ⟨d, rfl, q⟩ := q1
  cases r1
  exact wpAny_truthy_bool ⟨H1, I1, q⟩
variable {tA tB' : TT} {rest : List Expr}
noncomputable def tAnd (t u : TT) : TT := fun σ H Q => t σ H fun c H1 => if c = true then u σ H1 Q else Q false H1
noncomputable def tOr (t u : TT) : TT := fun σ H Q => t σ H fun c H1 => if c = true then Q true H1 else u σ H1 Q
noncomputable def tNot (t : TT) : TT := fun σ H Q => t σ H fun c H1 => Q (!c) H1
theorem pw_and1 (ha : PT X a tA) : PW X (.BoolOp .And [a] pos) tA := by
  intro wh pins s σ H Q I h
  refine isTrue_and (thn (ha pins s σ H Q I h) fun c s1 e => ?_)
  cases c with
  | true => exact isTrue_and_nil e
  | false => exact e
theorem pw_or1 (ha : PT X a tA) : PW X (.BoolOp .Or [a] pos) tA := by
  intro wh pins s σ H Q I h
  refine isTrue_or (thn (ha pins s σ H Q I h) fun c s1 e => ?_)
  cases c with
  | false => exact isTrue_or_nil e
  | true => exact e
theorem pw_and (ha : PT X a tA) (hb : PW X (.BoolOp .And (b :: rest) pos) tB') : PW X (.BoolOp .And (a :: b :: rest) pos) (tAnd tA tB') := by
  intro wh pins s σ H Q I h
  refine isTrue_and (thn (ha pins s σ H _ I h) fun c s1 ⟨H1, I1, q1⟩ => ?_)
  cases c with
  | true => exact hb wh pins s1 σ H1 Q I1 q1
  | false => exact ⟨H1, I1, q1⟩
theorem pw_or (ha : PT X a tA) (hb : PW X (.BoolOp .Or (b :: rest) pos) tB') : PW X (.BoolOp .Or (a :: b :: rest) pos) (tOr tA tB') := by
  intro wh pins s σ H Q I h
  refine isTrue_or (thn (ha pins s σ H _ I h) fun c s1 ⟨H1, I1, q1⟩ => ?_)
  cases c with
  | true => exact ⟨H1, I1, q1⟩
  | false => exact hb wh pins s1 σ H1 Q I1 q1
theorem pt_not (ha : PT X a tA) : PT X (.UnaryOp .Not a pos) (tNot tA) := by
  intro pins s σ H Q I h
  exact isTrue_not (ha pins s σ H (fun c H1 => Q (!c) H1) I h)
noncomputable def tAndV (ta tb : TE) : TE := fun σ H Q => ta σ H fun x H1 => ∃ c, x = .bl c ∧ if c = true then tb σ H1 Q else Q (.bl false) H1
noncomputable def tOrV (ta tb : TE) : TE := fun σ H Q => ta σ H fun x H1 => ∃ c, x = .bl c ∧ if c = true then Q (.bl true) H1 else tb σ H1 Q
noncomputable def tNotV (ta : TE) : TE := fun σ H Q => ta σ H fun x H1 => ∃ c, x = .bl c ∧ Q (.bl (!c)) H1
theorem pe_one {op} {t : TE} (h : PE X a t) : PE X (.BoolOp op [a] pos) t := fun pins s σ H Q I hw => BoolOp_one (h pins s σ H Q I hw)
theorem pe_and (ha : PE X a ta) (hb : PE X (.BoolOp .And (b :: rest) pos) tb) : PE X (.BoolOp .And (a :: b :: rest) pos) (tAndV ta tb) := by
  intro pins s σ H Q I h
  refine BoolOp_and (thn (ha pins s σ H _ I h) fun v s1 ⟨x, H1, I1, r1, q1⟩ => ?_)
  obtain ⟨c, rfl, q1⟩ := q1
  cases r1
  refine wpAny_truthy_bool ?_
  cases c with
  | true => exact hb pins s1 σ H1 Q I1 q1
  | false => exact ⟨.bl false, H1, I1, rfl, q1⟩
noncomputable def tIf (t : TT) (ta tb : TE) : TE := fun σ H Q => t σ H fun c H1 => if c = true then ta σ H1 Q else tb σ H1 Q
end
end L2
namespace L2
open PySem PySem.Spec PyProof.Rows
noncomputable def SqL (K : PySem.W.Frag) (H : Hp) (a : Addr) (xs : List V) : Prop :=
  Rd H a (.lst xs) ∨
    ∃ (o : Obj) (its : Array Value) (n : Nat), K.lookup a = some o ∧ o.cls = .type "list" ∧ o.dict = none ∧ o.data = .seq its n ∧ its.size ≤ sizeLine ∧ Vals xs its.toList
noncomputable def SqT (K : PySem.W.Frag) (H : Hp) (a : Addr) (xs : List V) : Prop :=
  Rd H a (.tup xs) ∨
    ∃ (o : Obj) (its : Array Value) (n : Nat), K.lookup a = some o ∧ o.cls = .type "tuple" ∧ o.data = .seq its n ∧ its.size ≤ sizeLine ∧ Vals xs its.toList
noncomputable def absV : Value → Option V
  | .none => some .non
  | .bool b => some (.bl b)
  | .int i _ => some (.int i)
  | .str x _ => some (.str x)
  | .bytes b _ => some (.byt b)
  | .float b _ => some (.flt b)
  | .ref a => some (.ref a)
  | .type n => some (.ty n)
  | _ => none
theorem RelV.abs {x : V} {u : Value} (r : RelV x u) : absV u = some x := by
  cases x with
  | non => cases r; rfl
  | bl _ => cases r; rfl
  | int _ => obtain ⟨t, rfl⟩ := r; rfl
  | str _ => obtain ⟨t, rfl⟩ := r; rfl
  | byt _ => obtain ⟨t, rfl⟩ := r; rfl
  | flt _ => obtain ⟨t, rfl⟩ := r; rfl
  | ref _ => cases r; rfl
  | ty _ => cases r; rfl
theorem RelV.inj {x y : V} {u : Value} (r : RelV x u) (q : RelV y u) : x = y := Option.some.inj (r.abs.symm.trans q.abs)
theorem Vals.inj : ∀ {xs ys : List V} {us : List Value}, Vals xs us → Vals ys us → xs = ys
  | _, _, _, .nil, .nil => rfl
  | _, _, _, .cons r t, .cons r' t' => by rw [r.inj r', Vals.inj t t']
section
variable {X : Cx} {pins : List (Addr × Obj)} {σ : St} {H : Hp} {s : Shared} {a : Addr} {xs ys : List V}
theorem SqL.of {K : PySem.W.Frag} (h : H a = some (.lst xs)) : SqL K H a xs := .inl (.inl h)
theorem SqT.of {K : PySem.W.Frag} (h : H a = some (.tup xs)) : SqT K H a xs := .inl (.inl h)
theorem Inv.list (I : Inv X pins σ H s) (h : SqL X.K H a xs) : ∃ its : List Value, Vals xs its ∧ PlainL s.heap a its.toArray ∧ xs.length ≤ sizeLine := by
  rcases h with h | ⟨o, its, n, hk, hc, hd, hs, hz, r⟩
  · obtain ⟨z, its, n, r, e⟩ := h.ok I.hok
    exact ⟨its, r, ⟨_, n, e, rfl, rfl, rfl⟩, z⟩
  · refine ⟨its.toList, r, ⟨o, n, I.kIn a o hk, hc, hd, by simpa using hs⟩, ?_⟩
    have e := r.length
    simp only [Array.length_toList] at e
    omega
theorem Inv.tuple (I : Inv X pins σ H s) (h : SqT X.K H a xs) : ∃ its : List Value, Vals xs its ∧ IsTup s.heap a its.toArray ∧ xs.length ≤ sizeLine := by
  rcases h with h | ⟨o, its, n, hk, hc, hs, hz, r⟩
  · obtain ⟨z, its, r, p⟩ := h.ok I.hok
    exact ⟨its, r, p, z⟩
  · refine ⟨its.toList, r, ⟨o, I.kIn a o hk, hc, n, by simpa using hs⟩, ?_⟩
    have e := r.length
    simp only [Array.length_toList] at e
    omega
theorem Inv.list_inj (I : Inv X pins σ H s) (h : SqL X.K H a xs) (h' : SqL X.K H a ys) : xs = ys := by
  obtain ⟨its, r, ⟨o, n, e, _, _, d⟩, _⟩ := I.list h
  obtain ⟨its', r', ⟨o', n', e', _, _, d'⟩, _⟩ := I.list h'
  rw [e] at e'; cases e'
  rw [d] at d'
  injection d' with d1 _
  have : its = its' := by simpa using congrArg Array.toList d1
  subst this
  exact r.inj r'
end
abbrev Cx.wish (X : Cx) (E : Value → Shared → Prop) : Cx := { X with xe := E }
abbrev Cx.nox (X : Cx) : Cx := X.wish fun _ _ => False
theorem Cx.Ok.wish {X : Cx} (ok : X.Ok) (E : Value → Shared → Prop) : (X.wish E).Ok :=
  ⟨ok.mod, ok.kind, ok.glob, ok.blt, ok.above, ok.inj, ok.has, ok.cab, ok.hd, ok.frames, ok.stk, ok.exf, ok.bs, ok.bsz, ok.noex, ok.exfs, ok.funs, ok.frf⟩
theorem Cx.Ok.unwish {X : Cx} {E : Value → Shared → Prop} (ok : (X.wish E).Ok) : X.Ok :=
  ⟨ok.mod, ok.kind, ok.glob, ok.blt, ok.above, ok.inj, ok.has, ok.cab, ok.hd, ok.frames, ok.stk, ok.exf, ok.bs, ok.bsz, ok.noex, ok.exfs, ok.funs, ok.frf⟩
section
variable {X : Cx} {pins : List (Addr × Obj)} {σ : St} {H : Hp} {s : Shared} {E : Value → Shared → Prop}
theorem Inv.wish (I : Inv X pins σ H s) (E : Value → Shared → Prop) : Inv (X.wish E) pins σ H s := ⟨I.ok.wish E, I.os, I.bare, I.base, I.loc, I.cell, I.free, I.freeC, I.pin, I.hok, I.len⟩
theorem Inv.unwish (I : Inv (X.wish E) pins σ H s) : Inv X pins σ H s := ⟨I.ok.unwish, I.os, I.bare, I.base, I.loc, I.cell, I.free, I.freeC, I.pin, I.hok, I.len⟩
theorem SP.unwish {D : Ends} {f : Flow} {s' : Shared} (h : SP (X.wish E) pins D f s') : SP X pins D f s' := by
  cases f with
  | next => obtain ⟨σ', H', I, q⟩ := h; exact ⟨σ', H', I.unwish, q⟩
  | brk => obtain ⟨σ', H', I, q⟩ := h; exact ⟨σ', H', I.unwish, q⟩
  | cont => obtain ⟨σ', H', I, q⟩ := h; exact ⟨σ', H', I.unwish, q⟩
  | ret u => obtain ⟨v, σ', H', I, r, q⟩ := h; exact ⟨v, σ', H', I.unwish, r, q⟩
theorem PSs.nox {st : List Stmt} {t : TS} (h : PSs X.nox st t) : PSs X st t := fun pins s σ H D I hw =>
  wpAny_mono (h pins s σ H D (I.wish _) hw) (fun _ _ q => q.unwish) fun _ _ z => False.elim z
end
section
variable {X : Cx} {st : Stmt} {rest : List Stmt} {t u : TS} {e : Expr} {te : TE} {pos : Pos}
noncomputable def tNext : TS := fun D σ H => D.nx σ H
noncomputable def tSeq (t u : TS) : TS := fun D σ H => t { D with nx := u D } σ H
theorem pss_nil : PSs X [] tNext := fun _ _ σ H _ I h => wpAny_execs_nil ⟨σ, H, I, h⟩
theorem pss_cons (h1 : PS X st t) (h2 : PSs X rest u) : PSs X (st :: rest) (tSeq t u) := by
  intro pins s σ H D I h
  refine wpAny_execs_cons (thn (h1 pins s σ H { D with nx := u D } I h) fun f s1 q => ?_)
  cases f with
  | next =>
    obtain ⟨σ', H', I', q⟩ := q
    exact h2 pins s1 σ' H' D I' q
  | ret v => exact q
  | brk => exact q
  | cont => exact q
theorem pss_one (h1 : PS X st t) : PSs X [st] t := by
  intro pins s σ H D I h
  refine wpAny_execs_cons (thn (h1 pins s σ H D I h) fun f s1 q => ?_)
  cases f with
  | next => exact wpAny_execs_nil q
  | ret v => exact q
  | brk => exact q
  | cont => exact q
theorem Inv.quiet {pins : List (Addr × Obj)} {σ : St} {H : Hp} {s : Shared} (I : Inv X pins σ H s) : interactive X.env = false := by simp [interactive, I.ok.kind]
noncomputable def tDrop (te : TE) : TS := fun D σ H => te σ H fun _ H1 => D.nx σ H1
theorem ps_expr (he : PE X e te) (hs : swapsWith e none pos.line X.env = pure false := by rfl) : PS X (.Expr e pos) (tDrop te) := by
  intro pins s σ H D I h
  exact wpAny_Expr_any (thn (he pins s σ H _ I h) fun v s1 ⟨x, H1, I1, r1, q1⟩ => ⟨σ, H1, I1, q1⟩) I.quiet hs
noncomputable def tRet (te : TE) : TS := fun D σ H => te σ H D.rt
theorem ps_ret (he : PE X e te) : PS X (.Return (some e) pos) (tRet te) := by
  intro pins s σ H D I h
  exact wpAny_Return_some (thn (he pins s σ H _ I h) fun v s1 ⟨x, H1, I1, r1, q1⟩ => ⟨x, σ, H1, I1, r1, q1⟩)
noncomputable def tRetN : TS := fun D _ H => D.rt .non H
noncomputable def tIfS (c : TT) (t u : TS) : TS := fun D σ H => c σ H fun b H1 => if b = true then t D σ H1 else u D σ H1
theorem ps_if {c : Expr} {a b : List Stmt} {tc : TT} (hc : PT X c tc) (ha : PSs X a t) (hb : PSs X b u) : PS X (.If c a b pos) (tIfS tc t u) := by
  intro pins s σ H D I h
  refine wpAny_If (thn (hc pins s σ H _ I h) fun d s1 ⟨H1, I1, q1⟩ => ?_)
  cases d with
  | true => exact ha pins s1 σ H1 D I1 q1
  | false => exact hb pins s1 σ H1 D I1 q1
end
abbrev TG := V → St → Hp → (St → Hp → Prop) → Prop
abbrev TGs := List V → St → Hp → (St → Hp → Prop) → Prop
noncomputable def PG (X : Cx) (target : Expr) (t : TG) : Prop :=
  ∀ (pins : List (Addr × Obj)) (s : Shared) (σ : St) (H : Hp) (v : V) (u : Value) (Q : St → Hp → Prop), Inv X pins σ H s → RelV v u → t v σ H Q →
    wpAny (model X.prog X.w) X.A (assign target X.env u) (fun _ s' => ∃ σ' H', Inv X pins σ' H' s' ∧ Q σ' H') X.xe s
noncomputable def PGs (X : Cx) (ts : List Expr) (t : TGs) : Prop :=
  ∀ (pins : List (Addr × Obj)) (s : Shared) (σ : St) (H : Hp) (vs : List V) (us : List Value) (Q : St → Hp → Prop), Inv X pins σ H s → Vals vs us → t vs σ H Q →
    wpAny (model X.prog X.w) X.A (assignInOrder ((assignEach ts X.env).map (·.2)) us) (fun _ s' => ∃ σ' H', Inv X pins σ' H' s' ∧ Q σ' H') X.xe s
abbrev TSet := V → V → V → Hp → (Hp → Prop) → Prop
noncomputable def PSet (X : Cx) (t : TSet) : Prop :=
  ∀ (pins : List (Addr × Obj)) (s : Shared) (σ : St) (H : Hp) (o i v : V) (ov iv u : Value) (Q : Hp → Prop), Inv X pins σ H s → RelV o ov → RelV i iv → RelV v u → t o i v H Q →
    wpAny (model X.prog X.w) X.A (setItem ov iv u) (fun _ s' => ∃ H', Inv X pins σ H' s' ∧ Q H') X.xe s
abbrev TIp := V → V → Hp → VK → Prop
section
variable {X : Cx} {pos : Pos}
noncomputable def gName (i : Nat) : TG := fun v σ H Q => Q (σ.set i (some v)) H
theorem pg_name {i : Nat} {x : Str} (hN : X.N.Nodup) (hi : X.N[i]? = some x) (hx : Loc X.env.scope x) (hf : X.fn x = true ∨ X.env.scope.names.lookup x = some .local := by first | exact .inl rfl | exact .inr rfl | assumption) : PG X (.Name x pos) (gName i) := by
  intro pins s σ H v u Q I r h
  exact wpAny_assign_Name (store_ok I hN hi hx r (fun s' I' => ⟨_, H, I', h⟩) hf)
noncomputable def gNil : TGs := fun vs σ H Q => vs = [] ∧ Q σ H
noncomputable def gCons (t : TG) (u : TGs) : TGs := fun vs σ H Q => ∃ v r, vs = v :: r ∧ t v σ H fun σ' H' => u r σ' H' Q
theorem pgs_nil : PGs X [] gNil := by
  intro pins s σ H vs us Q I r h
  obtain ⟨e, h⟩ := h
  subst e
  cases r
  exact assignInOrder_nil ⟨σ, H, I, h⟩
theorem pgs_cons {e : Expr} {es : List Expr} {t : TG} {u : TGs} (h1 : PG X e t) (h2 : PGs X es u)
    (hs : (assignEach (e :: es) X.env).map (·.2) = assign e X.env :: (assignEach es X.env).map (·.2) := by rfl) : PGs X (e :: es) (gCons t u) := by
  intro pins s σ H vs us Q I r h
  obtain ⟨v, vr, e1, h⟩ := h
  subst e1
  cases r with
  | cons r rr =>
    rw [hs]
    refine assignInOrder_cons (thn (h1 pins s σ H _ _ _ I r h) fun _ s1 ⟨σ1, H1, I1, q1⟩ => ?_)
    exact h2 pins s1 σ1 H1 _ _ Q I1 rr q1
noncomputable def gTup (K : PySem.W.Frag) (n : Nat) (t : TGs) : TG := fun v σ H Q => ∃ a xs, v = .ref a ∧ SqT K H a xs ∧ xs.length = n ∧ t xs σ H Q
theorem pg_tup {es : List Expr} {k : Nat} {t : TGs} {n : Nat} (hc : X.calm = true) (h : PGs X es t)
    (hn : (assignEach es X.env).length = n := by rfl) (hst : (assignEach es X.env).findIdx? (·.1) = none := by rfl) : PG X (.Tuple es k pos) (gTup X.K n t) := by
  intro pins s σ H v u Q I r hw
  obtain ⟨a, xs, e1, hq, hl, hw⟩ := hw
  subst e1
  cases r
  obtain ⟨its, rv, ht, hz⟩ := I.tuple hq
  refine assign_Tuple_tuple (I.ok.hd hc) ht (by simp [hn, ← hl, rv.length]) hst fun h' hx => ?_
  have I1 : Inv X pins σ H { s with heap := h' } := I.kept (t' := s.toks) fun b o e => hx b o (Nat.ne_of_lt (Heap.lt_size e)) e
  exact h pins _ σ H xs _ Q I1 (by simpa using rv) hw
noncomputable def gSub (to ti : TE) (t : TSet) : TG := fun v σ H Q => to σ H fun o H1 => ti σ H1 fun i H2 => t o i v H2 fun H3 => Q σ H3
theorem pg_sub {o i : Expr} {to ti : TE} {t : TSet} (ho : PE X o to) (hi : PE X i ti) (hs : PSet X t)
    (ha : ∀ v, assign (.Subscript o i pos) X.env v = (do
      let ov ← holding [v] (eval o X.env)
      let iv ← holding [v, ov] (eval i X.env)
      standAt pos
      holding [v, ov, iv] (setItem ov iv v)
      release [v, ov, iv] []) := by intro _; rfl) : PG X (.Subscript o i pos) (gSub to ti t) := by
  intro pins s σ H v u Q I r h
  rw [ha]
  refine wpAny_bind (wpAny_holding (thn (ho pins s σ H _ I h) fun ov s1 ⟨x, H1, I1, r1, q1⟩ => ?_))
  refine wpAny_bind (wpAny_holding (thn (hi pins s1 σ H1 _ I1 q1) fun iv s2 ⟨y, H2, I2, r2, q2⟩ => ?_))
  refine wpAny_bind (wpAny_standAt (wpAny_bind (wpAny_holding (thn (hs pins s2 σ H2 x y v ov iv u _ I2 r1 r2 r q2) fun _ s3 ⟨H3, I3, q3⟩ => ?_))))
  exact wpAny_release ⟨σ, H3, I3, q3⟩
noncomputable def tAsg (te : TE) (g : TG) : TS := fun D σ H => te σ H fun x H1 => g x σ H1 D.nx
theorem ps_asg {tg e : Expr} {te : TE} {g : TG} (he : PE X e te) (hg : PG X tg g) (hs : swapsWithSole [tg] e pos.line X.env = pure false := by rfl) (hw : swappedStores [tg] e X.env = pure none := by rfl)
    (h1 : (assignEach [tg] X.env).map (·.2) = [assign tg X.env] := by rfl) : PS X (.Assign [tg] e pos) (tAsg te g) := by
  intro pins s σ H D I h
  refine wpAny_Assign_stores (thn (he pins s σ H _ I h) fun v s1 ⟨x, H1, I1, r1, q1⟩ => ?_) hs hw
  rw [h1]
  exact thn (hg pins s1 σ H1 x v _ I1 r1 q1) fun _ s2 q => q
theorem ps_set {i : Nat} {x : Str} {e : Expr} {te : TE} {pos' : Pos} (hN : X.N.Nodup) (hi : X.N[i]? = some x) (hx : Loc X.env.scope x) (he : PE X e te) (hs : swapsWith e (some (.Name x pos')) pos.line X.env = pure false := by rfl) (hf : X.fn x = true ∨ X.env.scope.names.lookup x = some .local := by first | exact .inl rfl | exact .inr rfl | assumption) :
    PS X (.Assign [.Name x pos'] e pos) (tAsg te (gName i)) := by
  intro pins s σ H D I h
  refine wpAny_Assign_Name (thn (he pins s σ H _ I h) fun v s1 ⟨y, H1, I1, r1, q1⟩ => ?_) hs
  exact store_ok I1 hN hi hx r1 (fun s2 I2 => ⟨_, H1, I2, q1⟩) hf
noncomputable def tPar (i j : Nat) (ta : TA) : TS := fun D σ H => ta σ H fun vs H1 => ∃ v w, vs = [v, w] ∧ D.nx ((σ.set i (some v)).set j (some w)) H1
end
section
variable {X : Cx} {pos : Pos}
noncomputable def tWhile (c : TT) (tb : TS) : TS := fun D σ H => ∃ W : Nat → St → Hp → Prop, (∃ m, W m σ H) ∧ ∀ m σ H, W m σ H →
  c σ H fun b H1 => if b = true then ∃ N : St → Hp → Prop, (∀ σ' H', N σ' H' → ∃ m', m' < m ∧ W m' σ' H') ∧ tb { D with nx := N, ct := N, bk := D.nx } σ H1 else D.nx σ H1
theorem ps_while {c : Expr} {body : List Stmt} {tc : TT} {tb : TS} (hp : PassesOwn (model X.prog X.w) X.A X.env X.xe) (hc : PT X c tc) (hb : PSs X body tb) : PS X (.While c body [] pos) (tWhile tc tb) := by
  intro pins s σ H D I h
  obtain ⟨W, ⟨m0, w0⟩, turn⟩ := h
  refine wpAny_While (codeAny_whileLoop (fun n s' => ∃ σ' H', Inv X pins σ' H' s' ∧ W n σ' H') ?_ m0 ⟨σ, H, I, w0⟩)
  rintro n s1 ⟨σ1, H1, I1, w1⟩
  refine wpAny_passesOwn hp (thn (hc pins s1 σ1 H1 _ I1 (turn n σ1 H1 w1)) fun b s2 ⟨H2, I2, q2⟩ => ?_)
  cases b with
  | true =>
    obtain ⟨N, hN, q2⟩ := q2
    rw [if_pos rfl]
    refine wpAny_passesOwn hp (thn (hb pins s2 σ1 H2 _ I2 q2) fun f s3 q3 => ?_)
    cases f with
    | next =>
      obtain ⟨σ3, H3, I3, n3⟩ := q3
      obtain ⟨m', hm, w3⟩ := hN σ3 H3 n3
      exact ⟨m', hm, σ3, H3, I3, w3⟩
    | cont =>
      obtain ⟨σ3, H3, I3, n3⟩ := q3
      obtain ⟨m', hm, w3⟩ := hN σ3 H3 n3
      exact ⟨m', hm, σ3, H3, I3, w3⟩
    | brk => exact q3
    | ret v => exact q3
  | false =>
    rw [if_neg Bool.false_ne_true]
    exact wpAny_execs_nil ⟨σ1, H2, I2, q2⟩
end
structure It where
  go : Nat → Hp → Prop
  yld : Nat → Hp → V → Hp → Prop
  stop : Nat → Hp → Prop
noncomputable def FpOk (X : Cx) (pins : List (Addr × Obj)) (H : Hp) (b : Addr) : Prop :=
  H b = none ∧ b ≠ X.env.locals ∧ b ∉ X.fs ∧ (b ∈ X.ex ∨ X.s₀.heap.objs.size ≤ b) ∧ (∀ x c, X.env.cells.lookup x = some c → c ≠ b) ∧ ∀ p ∈ X.pn ++ pins, p.1 ≠ b
theorem Inv.fpOk {X : Cx} {pins : List (Addr × Obj)} {σ : St} {H H' : Hp} {s : Shared} {b : Addr} (I : Inv X pins σ H s) (hb : s.heap.objs.size ≤ b) (hn : H' b = none) : FpOk X pins H' b := by
  refine ⟨hn, Nat.ne_of_gt (Nat.lt_of_lt_of_le I.lt hb), I.nofs hb, .inr (Nat.le_trans I.sz hb), fun x c e z => ?_, fun p hp z => ?_⟩
  · obtain ⟨v, q⟩ := I.cell x c e
    exact absurd (Nat.lt_of_lt_of_le q.lt (by rw [z]; exact hb)) (Nat.lt_irrefl _)
  · exact absurd (Nat.lt_of_lt_of_le (Heap.lt_size (I.pin p hp).1) (by rw [z]; exact hb)) (Nat.lt_irrefl _)
structure Turn (P : Program) (w : World) (K : PySem.W.Frag) (tg : Expr) (J : It) (fp : List Addr) (it : Addr) (tn : Nat → Heap → Prop) : Prop where
  mem : it ∈ fp
  obj : ∀ i h, tn i h → ∀ b ∈ fp, ∃ o, h.get? b = some o ∧ ∀ v, o.data ≠ .cell v
  keep : ∀ i h h', tn i h → (∀ b ∈ fp, ∀ o, h.get? b = some o → h'.get? b = some o) → tn i h'
  item : ∀ (X : Cx), X.prog = P → X.w = w → X.K = K → X.calm = true → ∀ (i : Nat) (pins : List (Addr × Obj)) (s : Shared) (σ : St) (H : Hp) (E : Value → Shared → Prop), Inv X pins σ H s → (∀ b ∈ fp, FpOk X pins H b) → tn i s.heap → J.go i H →
    wpAny (model P w) X.A (pyNext (.ref it)) (fun r s1 => ∃ u, r = some u ∧
      wpAny (model P w) X.A (letOwnedTupleGo tg (.ref it) u) (fun _ s2 => ∃ x H', Inv X pins σ H' s2 ∧ RelV x u ∧ J.yld i H x H' ∧ tn (i + 1) s2.heap ∧ ∀ b ∈ fp, H' b = none) E s1) E s
  done : ∀ (X : Cx), X.prog = P → X.w = w → X.K = K → X.calm = true → ∀ (i : Nat) (pins : List (Addr × Obj)) (s : Shared) (σ : St) (H : Hp) (E : Value → Shared → Prop), Inv X pins σ H s → (∀ b ∈ fp, FpOk X pins H b) → tn i s.heap → J.stop i H →
    wpAny (model P w) X.A (pyNext (.ref it)) (fun r s1 => r = none ∧ Inv X pins σ H s1) E s
  self : ∀ (A : Around) (i : Nat) (s : Shared) (Q : Value → Shared → Prop) (E : Value → Shared → Prop), tn i s.heap → Q (.ref it) s → wpAny (model P w) A (pyIter (.ref it)) Q E s
abbrev TI := St → Hp → (It → Hp → Prop) → Prop
noncomputable def PIE (X : Cx) (pins : List (Addr × Obj)) (σ : St) (tg : Expr) (R : It → Hp → Prop) (itv : Value) (s2 : Shared) : Prop :=
  ∃ (it : Addr) (fp : List Addr) (tn : Nat → Heap → Prop) (J : It) (H' : Hp), itv = .ref it ∧ Inv X pins σ H' s2 ∧ Turn X.prog X.w X.K tg J fp it tn ∧ tn 0 s2.heap ∧ (∀ b ∈ fp, FpOk X pins H' b) ∧ R J H'
noncomputable def PI (X : Cx) (tg iter : Expr) (wi : TI) : Prop :=
  ∀ (pins : List (Addr × Obj)) (s : Shared) (σ : St) (H : Hp) (R : It → Hp → Prop), Inv X pins σ H s → wi σ H R →
    wpAny (model X.prog X.w) X.A (eval iter X.env) (fun v s1 => wpAny (model X.prog X.w) X.A (pyIter v) (PIE X pins σ tg R) X.xe s1) X.xe s
theorem go_of {M : Model} {A : Around} {E : Value → Shared → Prop} {s : Shared} {tg : Expr} {it : Addr} {u : Value} {o : Obj} {n : String} {vs : Array Value} {Q : Unit → Shared → Prop} (ho : s.heap.get? it = some o) (hc : o.cls = .type n) (hd : o.data = .fields vs)
    (hn : ["enumerate", "zip", "dict_itemiterator", "dict_reverseitemiterator", "odict_iterator", "itertools.zip_longest", "itertools.pairwise"].contains n = false) (hQ : Q () s) : wpAny M A (letOwnedTupleGo tg (.ref it) u) Q E s := by
  unfold letOwnedTupleGo
  cases tg <;> first
    | exact wpAny_pure hQ
    | (cases u <;> first
        | exact wpAny_pure hQ
        | (refine wpAny_bind (wpAny_load ho ?_)
           rw [hc, hd]
           show wpAny M A (if (["enumerate", "zip", "dict_itemiterator", "dict_reverseitemiterator", "odict_iterator", "itertools.zip_longest", "itertools.pairwise"].contains n && vs[0]? == some (rawInt _)) = true then _ else _) Q E s
           rw [if_neg (by intro h; rw [hn, Bool.false_and] at h; cases h)]
           exact wpAny_pure hQ))
noncomputable def Itl (K : PySem.W.Frag) (a : Addr) : It :=
  ⟨fun i H => ∃ xs x, SqL K H a xs ∧ xs[i]? = some x, fun i H x H' => H' = H ∧ ∀ xs, SqL K H a xs → xs[i]? = some x, fun i H => ∃ xs, SqL K H a xs ∧ xs.length ≤ i⟩
noncomputable def Itt (K : PySem.W.Frag) (a : Addr) : It :=
  ⟨fun i H => ∃ xs x, SqT K H a xs ∧ xs[i]? = some x, fun i H x H' => H' = H ∧ ∀ xs, SqT K H a xs → xs[i]? = some x, fun i H => ∃ xs, SqT K H a xs ∧ xs.length ≤ i⟩
noncomputable def Itr (lo : Int) (n : Nat) : It := ⟨fun i _ => i < n, fun i H x H' => H' = H ∧ x = .int (lo + i), fun i _ => n ≤ i⟩
theorem turn_list {P : Program} {w : World} {K : PySem.W.Frag} {tg : Expr} (a it : Addr) : Turn P w K tg (Itl K a) [it] it (fun i h => h.IsListIter it a i) where
  mem := by simp
  obj := fun i h st b hb => by
    have e : b = it := by simpa using hb
    subst e
    obtain ⟨o, e, c, d⟩ := st
    exact ⟨o, e, fun v z => by rw [d] at z; cases z⟩
  keep := fun i h h' st k => st.at fun o e => k it (by simp) o e
  item := by
    intro X hP hw hK hc i pins s σ H E I hf st hg
    subst hP hw hK
    obtain ⟨xs, x, hq, hx⟩ := hg
    obtain ⟨its, rv, p, hz⟩ := I.list hq
    obtain ⟨u, hu, ru⟩ := rv.get hx
    obtain ⟨f0, f1, f2, f3, f4, f5⟩ := hf it (by simp)
    refine wpAny_pyNext_list_item st p.isList (x := u) (by simpa using hu) fun h' st' sb => ?_
    have I1 : Inv X pins σ H { s with heap := h' } := I.turned (t' := s.toks) (fun b o hb e => (sb.2 b hb).trans e) f0 f1 f3 f4 f5
    obtain ⟨o, e, c, d⟩ := id st'
    exact ⟨u, rfl, go_of (s := { s with heap := h' }) e c d (by decide) ⟨x, H, I1, ru, ⟨rfl, fun ys hy => by rw [I.list_inj hy hq]; exact hx⟩, st', fun b hb => (hf b hb).1⟩⟩
  done := by
    intro X hP hw hK hc i pins s σ H E I hf st hg
    subst hP hw hK
    obtain ⟨xs, hq, hx⟩ := hg
    obtain ⟨its, rv, p, hz⟩ := I.list hq
    obtain ⟨f0, f1, f2, f3, f4, f5⟩ := hf it (by simp)
    have hl := rv.length
    exact wpAny_pyNext_list_end (I.ok.hd hc) st p.isList (by simp; omega) fun h' eb => ⟨rfl, I.turned (t' := s.toks) (fun b o hb e => eb b o hb e) f0 f1 f3 f4 f5⟩
  self := fun _ _ _ _ _ st h => wpAny_pyIter_listiter st h
theorem turn_range {P : Program} {w : World} {K : PySem.W.Frag} {tg : Expr} (it : Addr) (lo : Int) (n : Nat) : Turn P w K tg (Itr lo n) [it] it (fun i h => IsRangeIter h it (lo + (i : Nat) * 1) ((n : Int) - (i : Nat)) 1) where
  mem := by simp
  obj := fun i h st b hb => by
    have e : b = it := by simpa using hb
    subst e
    exact ⟨_, st, fun v z => by
      have z' : Data.fields _ = Data.cell v := z
      cases z'⟩
  keep := fun i h h' st k => k it (by simp) _ st
  item := by
    intro X hP hw hK hc i pins s σ H E I hf st hg
    subst hP hw hK
    obtain ⟨f0, f1, f2, f3, f4, f5⟩ := hf it (by simp)
    have W := Walks.range (prog := X.prog) (w := X.w) (I.ok.hd hc) it lo 1 n
    refine W.item i s _ _ hg st fun v h' tk hv st' kk => ?_
    obtain ⟨t, rfl⟩ := hv
    have I1 : Inv X pins σ H { s with heap := h', toks := tk } := I.turned (fun b o hb e => kk b o (by simpa using hb) e) f0 f1 f3 f4 f5
    refine ⟨_, rfl, go_of (s := { s with heap := h', toks := tk }) (n := "range_iterator") st' rfl rfl (by decide) ⟨.int (lo + i), H, I1, ⟨t, ?_⟩, ⟨rfl, rfl⟩, st', fun b hb => (hf b hb).1⟩⟩
    rw [Int.mul_one]
  done := by
    intro X hP hw hK hc i pins s σ H E I hf st hg
    subst hP hw hK
    obtain ⟨f0, f1, f2, f3, f4, f5⟩ := hf it (by simp)
    exact wpAny_pyNext_range_end (I.ok.hd hc) st (by have : n ≤ i := hg; omega) fun h' eb => ⟨rfl, I.turned (t' := s.toks) (fun b o hb e => eb b o hb e) f0 f1 f3 f4 f5⟩
  self := fun _ _ _ _ _ st h => wpAny_pyIter_rangeiter st h
end L2
namespace L2
open PySem PySem.Spec PyProof.Rows
section
variable {X : Cx} {tg : Expr}
noncomputable def iList (K : PySem.W.Frag) (tl : TE) : TI := fun σ H R => tl σ H fun x H1 => ∃ a, x = .ref a ∧ (∃ xs, SqL K H1 a xs) ∧ R (Itl K a) H1
noncomputable def iTup (K : PySem.W.Frag) (tl : TE) : TI := fun σ H R => tl σ H fun x H1 => ∃ a, x = .ref a ∧ (∃ xs, SqT K H1 a xs) ∧ R (Itt K a) H1
theorem pi_list {l : Expr} {tl : TE} (hl : PE X l tl) : PI X tg l (iList X.K tl) := by
  intro pins s σ H R I h
  refine thn (hl pins s σ H _ I h) fun v s1 ⟨x, H1, I1, r1, q1⟩ => ?_
  obtain ⟨a, e, ⟨xs, hq⟩, q⟩ := q1
  subst e
  cases r1
  obtain ⟨its, rv, p, hz⟩ := I1.list hq
  refine wpAny_pyIter_list p.isList ?_
  refine ⟨s1.heap.objs.size, [s1.heap.objs.size], _, _, H1, rfl, I1.kept (t' := s1.toks) fun b o e => Heap.get?_push_of_some _ e, turn_list a _, ⟨_, Heap.get?_push_size _ rfl, rfl, rfl⟩, fun b hb => ?_, q⟩
  have e : b = s1.heap.objs.size := by simpa using hb
  subst e
  exact I1.fpOk (Nat.le_refl _) (I1.hok.fresh (Nat.le_refl _))
theorem range_it {pins : List (Addr × Obj)} {σ : St} {H : Hp} {s : Shared} {R : It → Hp → Prop} {E : Value → Shared → Prop} {lo hi : Int} {t u v : Tok} {tk : Nat} (I : Inv X pins σ H s) (h1 : -(2 ^ 62) ≤ lo) (h2 : lo < 2 ^ 62) (h3 : -(2 ^ 62) ≤ hi) (h4 : hi < 2 ^ 62)
    (q : R (Itr lo (hi - lo).toNat) H) : wpAny (model X.prog X.w) X.A (pyIter (.ref s.heap.objs.size)) (PIE X pins σ tg R) E { s with heap := s.heap.push { cls := .type "range", data := .fields #[.int lo t, .int hi u, .int 1 v] }, toks := tk } := by
  refine wpAny_pyIter_range (IsRange.new ..) (small_one h1 h2 h3 h4) ?_
  have I1 : Inv X pins σ H { s with heap := s.heap.push { cls := .type "range", data := .fields #[.int lo t, .int hi u, .int 1 v] }, toks := tk } := I.kept fun b o e => Heap.get?_push_of_some _ e
  refine ⟨(s.heap.push { cls := .type "range", data := .fields #[.int lo t, .int hi u, .int 1 v] }).objs.size, [(s.heap.push { cls := .type "range", data := .fields #[.int lo t, .int hi u, .int 1 v] }).objs.size], _, _, H, rfl,
    I1.kept (t' := tk) fun b o e => Heap.get?_push_of_some _ e, turn_range _ lo (hi - lo).toNat, ?_, fun b hb => ?_, q⟩
  · have e1 : lo + ((0 : Nat) : Int) * 1 = lo := by simp
    have e2 : (((hi - lo).toNat : Nat) : Int) - ((0 : Nat) : Int) = Builtin.Range.rangeSize lo hi 1 := by rw [rangeSize_one]; split <;> omega
    show IsRangeIter _ _ (lo + ((0 : Nat) : Int) * 1) ((((hi - lo).toNat : Nat) : Int) - ((0 : Nat) : Int)) 1
    rw [e1, e2]
    exact Heap.get?_push_size _ rfl
  · have e : b = (s.heap.push { cls := .type "range", data := .fields #[.int lo t, .int hi u, .int 1 v] }).objs.size := by simpa using hb
    subst e
    exact I1.fpOk (Nat.le_refl _) (I1.hok.fresh (Nat.le_refl _))
noncomputable def iRng1 (ta : TA) : TI := fun σ H R => ta σ H fun vs H1 => ∃ j : Int, vs = [.int j] ∧ -(2 ^ 62) ≤ j ∧ j < 2 ^ 62 ∧ R (Itr 0 j.toNat) H1
noncomputable def iRng2 (ta : TA) : TI := fun σ H R => ta σ H fun vs H1 => ∃ i j : Int, vs = [.int i, .int j] ∧ (-(2 ^ 62) ≤ i ∧ i < 2 ^ 62 ∧ -(2 ^ 62) ≤ j ∧ j < 2 ^ 62) ∧ R (Itr i (j - i).toNat) H1
theorem pi_range1 {a : Expr} {ta : TA} {p pos : Pos} (hg : Gl X "range") (hm : X.mg "range" = none) (ha : PA X [a] ta) (hs : starEach [a] X.env = [(false, eval a X.env)] := by rfl) : PI X tg (.Call (.Name "range" p) [a] [] pos) (iRng1 ta) := by
  intro pins s σ H R I h
  refine Call_ (ld_blt I hg hm boot_range (PyProof.Rows.callWith_type1 (thn (ha pos pins s σ H _ I h) fun us s1 ⟨vs, H1, I1, r1, q1⟩ => ?_) hs rfl))
  obtain ⟨j, e, q1, q2, q⟩ := q1
  subst e
  cases r1 with
  | cons r rr =>
    cases rr
    obtain ⟨t, rfl⟩ := r
    exact call_range_1 (range_it I1 (by omega) (by omega) q1 q2 (by simpa using q))
noncomputable def tFor (wi : TI) (g : TG) (tb : TS) : TS := fun D σ H => wi σ H fun J H1 => ∃ W : Nat → Nat → St → Hp → Prop, (∃ m, W 0 m σ H1) ∧ ∀ i m σ H, W i m σ H →
  (J.stop i H ∧ D.nx σ H) ∨ (J.go i H ∧ ∃ N : St → Hp → Prop, (∀ σ' H', N σ' H' → ∃ m', m' < m ∧ W (i + 1) m' σ' H') ∧ ∀ x H', J.yld i H x H' → g x σ H' fun σ2 H2 => tb { D with nx := N, ct := N, bk := D.nx } σ2 H2)
noncomputable def pinsAt (fp : List Addr) (h : Heap) : List (Addr × Obj) := fp.filterMap fun b => (h.get? b).map fun o => (b, o)
theorem mem_pinsAt {fp : List Addr} {h : Heap} {b : Addr} {o : Obj} (hb : b ∈ fp) (e : h.get? b = some o) : (b, o) ∈ pinsAt fp h := List.mem_filterMap.mpr ⟨b, hb, by rw [e]; rfl⟩
theorem of_pinsAt {fp : List Addr} {h : Heap} {p : Addr × Obj} (hp : p ∈ pinsAt fp h) : p.1 ∈ fp ∧ h.get? p.1 = some p.2 := by
  obtain ⟨b, hb, e⟩ := List.mem_filterMap.mp hp
  cases q : h.get? b with
  | none => rw [q] at e; cases e
  | some o =>
    rw [q] at e
    have e' : (b, o) = p := Option.some.inj e
    subst e'
    exact ⟨hb, q⟩
theorem Inv.pinned {pins : List (Addr × Obj)} {σ : St} {H : Hp} {s : Shared} {fp : List Addr} (I : Inv X pins σ H s) (hf : ∀ b ∈ fp, FpOk X pins H b) (ho : ∀ b ∈ fp, ∃ o, s.heap.get? b = some o ∧ ∀ v, o.data ≠ .cell v) : Inv X (pins ++ pinsAt fp s.heap) σ H s :=
  I.pins_of fun p hp => (List.mem_append.mp hp).elim (fun z => I.pin p (List.mem_append_right _ z)) fun z => by
    obtain ⟨hb, e⟩ := of_pinsAt z
    obtain ⟨f0, f1, f2, _⟩ := hf p.1 hb
    obtain ⟨o, e', d⟩ := ho p.1 hb
    rw [e] at e'; cases e'
    exact ⟨e, f0, f1, f2, d⟩
theorem Inv.unpinned {pins pl : List (Addr × Obj)} {σ : St} {H : Hp} {s : Shared} (I : Inv X (pins ++ pl) σ H s) : Inv X pins σ H s := I.pins_of fun p hp => I.pin p (List.mem_append_right _ (List.mem_append_left _ hp))
theorem ps_for {iter : Expr} {body : List Stmt} {wi : TI} {g : TG} {tb : TS} {pos : Pos} (hp : PassesOwn (model X.prog X.w) X.A X.env X.xe) (hc : X.calm = true) (hi : PI X tg iter wi) (hg : PG X tg g) (hb : PSs X body tb)
    (hs : ∀ x, foldedSetIterable iter X.env x = pure x := by intro _; rfl) : PS X (.For tg iter body [] pos) (tFor wi g tb) := by
  intro pins s σ H D I h
  refine wpAny_For (thn (hi pins s σ H _ I h) fun v s1 h1 => thn h1 fun itv s2 h2 => ?_) hs
  obtain ⟨it, fp, tn, J, H2, e, I2, T, st2, f2, W, ⟨m0, w0⟩, turn⟩ := h2
  subst e
  have stat : ∀ {H' : Hp}, (∀ b ∈ fp, H' b = none) → ∀ b ∈ fp, FpOk X pins H' b := fun hn b hb => ⟨hn b hb, (f2 b hb).2⟩
  refine codeAny_forLoop_any (fun n s' => ∃ i σ' H', Inv X pins σ' H' s' ∧ tn i s'.heap ∧ (∀ b ∈ fp, H' b = none) ∧ W i n σ' H') ?_ m0 ⟨0, σ, H2, I2, st2, fun b hb => (f2 b hb).1, w0⟩
  rintro n s3 ⟨i, σ3, H3, I3, st3, fr3, w3⟩
  rcases turn i n σ3 H3 w3 with ⟨stop, qn⟩ | ⟨go, N, hN, step⟩
  · refine wpAny_passesOwn hp (thn (T.done X rfl rfl rfl hc i pins s3 σ3 H3 X.xe I3 (stat fr3) st3 stop) fun r s4 ⟨hr, I4⟩ => ?_)
    subst hr
    exact wpAny_execs_nil ⟨σ3, H3, I4, qn⟩
  · refine wpAny_passesOwn hp (thn (T.item X rfl rfl rfl hc i pins s3 σ3 H3 X.xe I3 (stat fr3) st3 go) fun r s4 ⟨u, hr, h4⟩ => ?_)
    subst hr
    refine wpAny_passesOwn hp (thn h4 fun _ s5 ⟨x, H5, I5, r5, y5, st5, fr5⟩ => ?_)
    have I5' := I5.pinned (stat fr5) (T.obj _ _ st5)
    refine wpAny_passesOwn hp (thn (hg _ s5 σ3 H5 x u _ I5' r5 (step x H5 y5)) fun _ s6 ⟨σ6, H6, I6, q6⟩ => ?_)
    refine wpAny_passesOwn hp (thn (hb _ s6 σ6 H6 _ I6 q6) fun f s7 q7 => ?_)
    have again : ∀ {σ7 : St} {H7 : Hp}, Inv X (pins ++ pinsAt fp s5.heap) σ7 H7 s7 → N σ7 H7 → ∃ m, m < n ∧ ∃ i σ' H', Inv X pins σ' H' s7 ∧ tn i s7.heap ∧ (∀ b ∈ fp, H' b = none) ∧ W i m σ' H' := fun {σ7 H7} I7 n7 => by
      obtain ⟨m', hm, w7⟩ := hN σ7 H7 n7
      refine ⟨m', hm, i + 1, σ7, H7, I7.unpinned, T.keep _ _ _ st5 fun b hb o e => (I7.pin (b, o) (List.mem_append_right _ (List.mem_append_right _ (mem_pinsAt hb e)))).1, fun b hb => ?_, w7⟩
      obtain ⟨o, e, d⟩ := T.obj _ _ st5 b hb
      exact (I7.pin (b, o) (List.mem_append_right _ (List.mem_append_right _ (mem_pinsAt hb e)))).2.1
    cases f with
    | next => obtain ⟨σ7, H7, I7, n7⟩ := q7; exact again I7 n7
    | cont => obtain ⟨σ7, H7, I7, n7⟩ := q7; exact again I7 n7
    | brk => obtain ⟨σ7, H7, I7, q7⟩ := q7; exact ⟨σ7, H7, I7.unpinned, q7⟩
    | ret v => obtain ⟨x7, σ7, H7, I7, r7, q7⟩ := q7; exact ⟨x7, σ7, H7, I7.unpinned, r7, q7⟩
end
end L2
namespace L2
open PySem PySem.Spec PyProof.Rows
abbrev R2 := V → V → Hp → VK → Prop
noncomputable def OpR (X : Cx) (f : Value → Value → Sem Value) (r : R2) : Prop :=
  ∀ (pins : List (Addr × Obj)) (s : Shared) (σ : St) (H : Hp) (x y : V) (v u : Value) (Q : VK), Inv X pins σ H s → RelV x v → RelV y u → r x y H Q →
    wpAny (model X.prog X.w) X.A (f v u) (EP X pins σ Q) X.xe s
noncomputable def UnR (X : Cx) (f : Value → Sem Value) (r : V → Hp → VK → Prop) : Prop :=
  ∀ (pins : List (Addr × Obj)) (s : Shared) (σ : St) (H : Hp) (x : V) (v : Value) (Q : VK), Inv X pins σ H s → RelV x v → r x H Q →
    wpAny (model X.prog X.w) X.A (f v) (EP X pins σ Q) X.xe s
noncomputable def CallR (X : Cx) (f : Value) (r : List V → Hp → VK → Prop) : Prop :=
  ∀ (pins : List (Addr × Obj)) (s : Shared) (σ : St) (H : Hp) (xs : List V) (us : List Value) (Q : VK), Inv X pins σ H s → Vals xs us → r xs H Q →
    wpAny (model X.prog X.w) X.A (call f us) (EP X pins σ Q) X.xe s
noncomputable def tOp (r : R2) (ta tb : TE) : TE := fun σ H Q => ta σ H fun x H1 => tb σ H1 fun y H2 => r x y H2 Q
noncomputable def tUn (r : V → Hp → VK → Prop) (ta : TE) : TE := fun σ H Q => ta σ H fun x H1 => r x H1 Q
noncomputable def rI (C : Int → Int → Prop) (g : Int → Int → V) : R2 := fun x y H Q => ∃ i j, x = .int i ∧ y = .int j ∧ C i j ∧ Q (g i j) H
noncomputable def rI0 (g : Int → Int → V) : R2 := fun x y H Q => ∃ i j, x = .int i ∧ y = .int j ∧ Q (g i j) H
noncomputable def rU (g : Int → V) : V → Hp → VK → Prop := fun x H Q => ∃ i, x = .int i ∧ Q (g i) H
section
variable {X : Cx} {a b c : Expr} {ta tb tc : TE} {pos : Pos}
theorem binT (ha : PE X a ta) (hb : PE X b tb) {pins : List (Addr × Obj)} {s : Shared} {σ : St} {H : Hp} {R : V → V → Hp → Prop} (I : Inv X pins σ H s)
    (h : ta σ H fun x H1 => tb σ H1 fun y H2 => R x y H2) {Q : Value → Shared → Prop} {f : Value → Value → Sem Value}
    (hf : ∀ v u s2 x y H2, Inv X pins σ H2 s2 → RelV x v → RelV y u → R x y H2 → wpAny (model X.prog X.w) X.A (f v u) Q X.xe s2) :
    wpAny (model X.prog X.w) X.A (eval a X.env) (fun v s₁ => wpAny (model X.prog X.w) X.A (eval b X.env) (fun u s₂ => wpAny (model X.prog X.w) X.A (f v u) Q X.xe s₂) X.xe s₁) X.xe s := by
  refine thn (ha pins s σ H _ I h) fun v s1 ⟨x, H1, I1, r1, q1⟩ => ?_
  refine thn (hb pins s1 σ H1 _ I1 q1) fun u s2 ⟨y, H2, I2, r2, q2⟩ => ?_
  exact hf v u s2 x y H2 I2 r1 r2 q2
theorem pe_op {op : Operator} {r : R2} (ho : OpR X (binaryOp op) r) (ha : PE X a ta) (hb : PE X b tb) : PE X (.BinOp a op b pos) (tOp r ta tb) := by
  intro pins s σ H Q I h
  exact wpAny_BinOp (binT ha hb I h fun v u s2 x y H2 I2 rx ry q => ho pins s2 σ H2 x y v u Q I2 rx ry q)
theorem opI {f : Value → Value → Sem Value} {C : Int → Int → Prop} {g : Int → Int → Int}
    (rule : ∀ (i j : Int) (t u : Tok) (s : Shared) (Q : Value → Shared → Prop) (E : Value → Shared → Prop), C i j → Q (.int (g i j) s.toks) { s with toks := s.toks + 1 } → wpAny (model X.prog X.w) X.A (f (.int i t) (.int j u)) Q E s) :
    OpR X f (rI C fun i j => .int (g i j)) := by
  intro pins s σ H x y v u Q I rx ry h
  obtain ⟨i, j, rfl, rfl, hc, q⟩ := h
  obtain ⟨t, rfl⟩ := rx
  obtain ⟨t', rfl⟩ := ry
  exact rule i j t t' s _ _ hc ⟨.int (g i j), H, I.tok _, ⟨_, rfl⟩, q⟩
theorem opI0 {f : Value → Value → Sem Value} {g : Int → Int → Int}
    (rule : ∀ (i j : Int) (t u : Tok) (s : Shared) (Q : Value → Shared → Prop) (E : Value → Shared → Prop), Q (.int (g i j) s.toks) { s with toks := s.toks + 1 } → wpAny (model X.prog X.w) X.A (f (.int i t) (.int j u)) Q E s) :
    OpR X f (rI0 fun i j => .int (g i j)) := by
  intro pins s σ H x y v u Q I rx ry h
  obtain ⟨i, j, rfl, rfl, q⟩ := h
  obtain ⟨t, rfl⟩ := rx
  obtain ⟨t', rfl⟩ := ry
  exact rule i j t t' s _ _ ⟨.int (g i j), H, I.tok _, ⟨_, rfl⟩, q⟩
theorem opB0 {f : Value → Value → Sem Value} {g : Int → Int → Bool}
    (rule : ∀ (i j : Int) (t u : Tok) (s : Shared) (Q : Value → Shared → Prop) (E : Value → Shared → Prop), Q (.bool (g i j)) s → wpAny (model X.prog X.w) X.A (f (.int i t) (.int j u)) Q E s) :
    OpR X f (rI0 fun i j => .bl (g i j)) := by
  intro pins s σ H x y v u Q I rx ry h
  obtain ⟨i, j, rfl, rfl, q⟩ := h
  obtain ⟨t, rfl⟩ := rx
  obtain ⟨t', rfl⟩ := ry
  exact rule i j t t' s _ _ ⟨.bl (g i j), H, I, rfl, q⟩
noncomputable def CPow (i j : Int) : Prop := 0 ≤ j ∧ j ≤ 1000000 ∧ i.natAbs < 2 ^ 64
theorem op_add : OpR X (binaryOp .Add) (rI0 fun i j => .int (i + j)) := opI0 fun _ _ _ _ _ _ _ q => add_int q
theorem op_sub : OpR X (binaryOp .Sub) (rI0 fun i j => .int (i - j)) := opI0 fun _ _ _ _ _ _ _ q => sub_int q
theorem op_mod : OpR X (binaryOp .Mod) (rI (fun _ j => 0 < j) fun i j => .int (i % j)) := opI fun i j _ _ _ _ _ hc q => by
  have h1 : (0 : Int) < j := hc
  exact mod_int' (by omega) (by rw [Int.fmod_eq_emod_of_nonneg i (by omega)]; exact q)
theorem op_pow : OpR X (binaryOp .Pow) (rI CPow fun i j => .int (i ^ j.toNat)) := opI fun _ _ _ _ _ _ _ hc q => pow_int_small hc.1 hc.2.1 hc.2.2 q
end
noncomputable def scal : V → V → Bool
  | .non, .non => true | .non, .int _ => true | .int _, .non => true | .non, .bl _ => true | .bl _, .non => true | .non, .str _ => true | .str _, .non => true
  | .int _, .int _ => true | .bl _, .bl _ => true | .str _, .str _ => true | .byt _, .byt _ => true
  | .int _, .str _ => true | .str _, .int _ => true | .bl _, .str _ => true | .str _, .bl _ => true
  | _, _ => false
noncomputable def rEq : R2 := fun x y H Q => scal x y = true ∧ Q (.bl (decide (x = y))) H
noncomputable def rNe : R2 := fun x y H Q => scal x y = true ∧ Q (.bl (!decide (x = y))) H
theorem dec_int {i j : Int} : decide (V.int i = V.int j) = (i == j) := by
  rw [Bool.eq_iff_iff]
  simp
theorem dec_bl {i j : Bool} : decide (V.bl i = V.bl j) = (i == j) := by
  rw [Bool.eq_iff_iff]
  simp
theorem dec_str {i j : Str} : decide (V.str i = V.str j) = (i == j) := by
  rw [Bool.eq_iff_iff]
  simp
theorem dec_byt {i j : Array UInt8} : decide (V.byt i = V.byt j) = (i.toList == j.toList) := by
  rw [Bool.eq_iff_iff]
  cases i
  cases j
  simp
section
variable {X : Cx} {a b c : Expr} {ta tb tc : TE} {pos : Pos}
theorem fin_bl {pins : List (Addr × Obj)} {σ : St} {H : Hp} {s : Shared} {Q : VK} {k k' : Bool} (I : Inv X pins σ H s) (q : Q (.bl k) H) (e : k = k') : EP X pins σ Q (.bool k') s := by
  subst e
  exact ⟨.bl k, H, I, rfl, q⟩
theorem op_eq : OpR X (compareOp .Eq) rEq := by
  intro pins s σ H x y v u Q I rx ry h
  obtain ⟨hs, q⟩ := h
  cases x with
  | non =>
    cases rx
    cases y with
    | non => cases ry; exact PySem.EqNone.eq_none_none (fin_bl I q (by simp))
    | bl j => cases ry; exact PySem.EqNone.eq_none_bool (fin_bl I q (by simp))
    | int j => obtain ⟨t', rfl⟩ := ry; exact PySem.EqNone.eq_none_int (fin_bl I q (by simp))
    | str j => obtain ⟨t', rfl⟩ := ry; exact PySem.EqNone.eq_none_str (fin_bl I q (by simp))
    | _ => exact absurd (show false = true from hs) Bool.false_ne_true
  | bl i =>
    cases rx
    cases y with
    | non => cases ry; exact PySem.EqNone.eq_bool_none (fin_bl I q (by simp))
    | bl j => cases ry; exact eq_bool (fin_bl I q dec_bl)
    | str j => obtain ⟨t', rfl⟩ := ry; exact PySem.EqMixed.eq_bool_str (fin_bl I q (by simp))
    | _ => exact absurd (show false = true from hs) Bool.false_ne_true
  | int i =>
    obtain ⟨t, rfl⟩ := rx
    cases y with
    | non => cases ry; exact PySem.EqNone.eq_int_none (fin_bl I q (by simp))
    | int j => obtain ⟨t', rfl⟩ := ry; exact eq_int (fin_bl I q dec_int)
    | str j => obtain ⟨t', rfl⟩ := ry; exact PySem.EqMixed.eq_int_str (fin_bl I q (by simp))
    | _ => exact absurd (show false = true from hs) Bool.false_ne_true
  | str i =>
    obtain ⟨t, rfl⟩ := rx
    cases y with
    | non => cases ry; exact PySem.EqNone.eq_str_none (fin_bl I q (by simp))
    | bl j => cases ry; exact PySem.EqMixed.eq_str_bool (fin_bl I q (by simp))
    | int j => obtain ⟨t', rfl⟩ := ry; exact PySem.EqMixed.eq_str_int (fin_bl I q (by simp))
    | str j => obtain ⟨t', rfl⟩ := ry; exact eq_str (fin_bl I q dec_str)
    | _ => exact absurd (show false = true from hs) Bool.false_ne_true
  | byt i =>
    obtain ⟨t, rfl⟩ := rx
    cases y with
    | byt j => obtain ⟨t', rfl⟩ := ry; exact PySem.W.eq_bytes (fin_bl I q dec_byt)
    | _ => exact absurd (show false = true from hs) Bool.false_ne_true
  | _ => cases y <;> exact absurd (show false = true from hs) Bool.false_ne_true
theorem op_ne : OpR X (compareOp .NotEq) rNe := by
  intro pins s σ H x y v u Q I rx ry h
  obtain ⟨hs, q⟩ := h
  cases x with
  | non =>
    cases rx
    cases y with
    | non => cases ry; exact PySem.EqNone.ne_none_none (fin_bl I q (by simp))
    | bl j => cases ry; exact PySem.EqNone.ne_none_bool (fin_bl I q (by simp))
    | int j => obtain ⟨t', rfl⟩ := ry; exact PySem.EqNone.ne_none_int (fin_bl I q (by simp))
    | str j => obtain ⟨t', rfl⟩ := ry; exact PySem.EqNone.ne_none_str (fin_bl I q (by simp))
    | _ => exact absurd (show false = true from hs) Bool.false_ne_true
  | bl i =>
    cases rx
    cases y with
    | non => cases ry; exact PySem.EqNone.ne_bool_none (fin_bl I q (by simp))
    | bl j => cases ry; exact ne_bool (fin_bl I q (congrArg not dec_bl))
    | str j => obtain ⟨t', rfl⟩ := ry; exact PySem.EqMixed.ne_bool_str (fin_bl I q (by simp))
    | _ => exact absurd (show false = true from hs) Bool.false_ne_true
  | int i =>
    obtain ⟨t, rfl⟩ := rx
    cases y with
    | non => cases ry; exact PySem.EqNone.ne_int_none (fin_bl I q (by simp))
    | int j => obtain ⟨t', rfl⟩ := ry; exact ne_int (fin_bl I q (congrArg not dec_int))
    | str j => obtain ⟨t', rfl⟩ := ry; exact PySem.EqMixed.ne_int_str (fin_bl I q (by simp))
    | _ => exact absurd (show false = true from hs) Bool.false_ne_true
  | str i =>
    obtain ⟨t, rfl⟩ := rx
    cases y with
    | non => cases ry; exact PySem.EqNone.ne_str_none (fin_bl I q (by simp))
    | bl j => cases ry; exact PySem.EqMixed.ne_str_bool (fin_bl I q (by simp))
    | int j => obtain ⟨t', rfl⟩ := ry; exact PySem.EqMixed.ne_str_int (fin_bl I q (by simp))
    | str j => obtain ⟨t', rfl⟩ := ry; exact ne_str (fin_bl I q (congrArg not dec_str))
    | _ => exact absurd (show false = true from hs) Bool.false_ne_true
  | byt i =>
    obtain ⟨t, rfl⟩ := rx
    cases y with
    | byt j => obtain ⟨t', rfl⟩ := ry; exact PySem.W.ne_bytes (fin_bl I q (congrArg not dec_byt))
    | _ => exact absurd (show false = true from hs) Bool.false_ne_true
  | _ => cases y <;> exact absurd (show false = true from hs) Bool.false_ne_true
theorem op_lt : OpR X (compareOp .Lt) (rI0 fun i j => .bl (decide (i < j))) := opB0 fun _ _ _ _ _ _ _ q => lt_int q
theorem op_gt : OpR X (compareOp .Gt) (rI0 fun i j => .bl (decide (j < i))) := opB0 fun _ _ _ _ _ _ _ q => gt_int q
theorem op_ge : OpR X (compareOp .GtE) (rI0 fun i j => .bl (decide (j ≤ i))) := opB0 fun _ _ _ _ _ _ _ q => ge_int q
theorem nomark (b : Expr) {op : CmpOp} (h : op ≠ .In := by decide) (h2 : op ≠ .NotIn := by decide) : behindInMarks op b = false := by
  have e1 : (op == CmpOp.In) = false := by cases op <;> first | rfl | exact absurd rfl h
  have e2 : (op == CmpOp.NotIn) = false := by cases op <;> first | rfl | exact absurd rfl h2
  cases b <;> simp [behindInMarks, e1, e2]
theorem pe_cmpR {op : CmpOp} {r : R2} (ho : OpR X (compareOp op) r) (ha : PE X a ta) (hb : PE X b tb) (hm : behindInMarks op b = false) : PE X (.Compare a [op] [b] pos) (tOp r ta tb) := by
  intro pins s σ H Q I h
  exact wpAny_Compare1 (binT ha hb I h fun v u s2 x y H2 I2 rx ry q => ho pins s2 σ H2 x y v u Q I2 rx ry q) hm
noncomputable def tTest (t : TE) : TT := fun σ H Q => t σ H fun x H' => ∃ k, x = .bl k ∧ Q k H'
theorem pt_cmpR {op : CmpOp} {r : R2} (ho : OpR X (compareOp op) r) (ha : PE X a ta) (hb : PE X b tb) (hm : behindInMarks op b = false) : PT X (.Compare a [op] [b] pos) (tTest (tOp r ta tb)) := by
  intro pins s σ H Q I h
  refine wpAny_isTrue_Compare1 (thn (ha pins s σ H _ I h) fun v s1 ⟨x, H1, I1, r1, q1⟩ => thn (hb pins s1 σ H1 _ I1 q1) fun u s2 ⟨y, H2, I2, r2, q2⟩ =>
    thn (ho pins s2 σ H2 x y v u _ I2 r1 r2 q2) fun c s3 ⟨z, H3, I3, r3, k, e, q3⟩ => ?_) hm
  subst e
  cases r3
  exact wpAny_truthy_bool ⟨H3, I3, q3⟩
noncomputable def tChain (r r' : R2) (ta tb tc : TE) : TE := fun σ H Q => ta σ H fun x H1 => tb σ H1 fun y H2 => r x y H2 fun z H3 => ∃ k, z = .bl k ∧
  (if k = true then tc σ H3 fun w' H4 => r' y w' H4 Q else Q (.bl false) H3)
theorem line63 : (sizeLine : Nat) < 2 ^ 63 := by rw [sizeLine_eq]; decide
theorem vals1 {x : V} {us : List Value} (r : Vals [x] us) : ∃ u, us = [u] ∧ RelV x u := by
  cases r with
  | cons r1 r2 => cases r2; exact ⟨_, rfl, r1⟩
theorem vals2 {x y : V} {us : List Value} (r : Vals [x, y] us) : ∃ u w', us = [u, w'] ∧ RelV x u ∧ RelV y w' := by
  cases r with
  | cons r1 r2 =>
    cases r2 with
    | cons r3 r4 => cases r4; exact ⟨_, _, rfl, r1, r3⟩
theorem call_max2 (hc : X.calm = true) : CallR X (.builtin "max") (fun xs H Q => ∃ i j, xs = [.int i, .int j] ∧ Q (.int (if j > i then j else i)) H) := by
  intro pins s σ H xs us Q I r h
  obtain ⟨i, j, rfl, q⟩ := h
  obtain ⟨u, w', rfl, ⟨t, rfl⟩, ⟨t', rfl⟩⟩ := vals2 r
  refine max_two_ints (I.ok.hd hc) fun h' tk k => ⟨_, H, I.kept k, ?_, q⟩
  by_cases hj : j > i
  · rw [if_pos hj, if_pos hj]; exact ⟨_, rfl⟩
  · rw [if_neg hj, if_neg hj]; exact ⟨_, rfl⟩
end
end L2
namespace L2
open PySem PySem.Spec PyProof.Rows
structure ObjM (h : Heap) (x dx C : Addr) (mA : Str → Option Value) : Prop where
  obj : h.get? x = some (PySem.W.instObj C dx)
  ns : h.Ns1 dx mA
  ne : dx ≠ x
theorem lookIn_ns {h : Heap} {dx : Addr} {mA : Str → Option Value} (n : h.Ns1 dx mA) : ∃ od, h.get? dx = some od ∧ ∀ name, PySem.W.lookIn name od = some (mA name) := by
  obtain ⟨o, es, ep, ho, hd, hk, _, hm⟩ := n
  refine ⟨o, ho, fun name => ?_⟩
  have e := hm name
  unfold nsFind findBy at e
  rw [← Array.find?_toList] at e
  unfold PySem.W.lookIn
  rw [hd]
  dsimp only
  split
  · rename_i y q
    rw [q] at e
    exact congrArg some e
  · rename_i q
    rw [q] at e
    have a : es.toList.any (·.refKey) = false := by
      rw [List.any_eq_false]
      intro y hy
      obtain ⟨z, t, hkey⟩ := hk y (Array.mem_toList_iff.mp hy)
      simp [DictEntry.refKey, hkey]
    have a' : ¬ es.toList.any (·.refKey) = true := by rw [a]; exact Bool.false_ne_true
    rw [if_neg a']
    exact congrArg some e
theorem ObjM.look {h : Heap} {x dx C : Addr} {mA : Str → Option Value} (I : ObjM h x dx C mA) : ∃ od, PySem.W.InstAt h x (PySem.W.instObj C dx) C (some od) ∧ ∀ name, PySem.W.lookIn name od = some (mA name) :=
  let ⟨od, ho, hl⟩ := lookIn_ns I.ns
  ⟨od, ⟨I.obj, rfl, rfl, ho⟩, hl⟩
section
variable {prog : Program} {w : World} {A : Around} {E : Value → Shared → Prop} {s : Shared} {K : PySem.W.Frag} {x dx C f : Addr} {mA : Str → Option Value} {name : Str} {v : Value}
end
theorem RelO.some_of {v : V} {o : Option Value} (r : RelO (some v) o) : ∃ u, o = some u ∧ RelV v u := by
  cases o with
  | none => exact (show False from r).elim
  | some u => exact ⟨u, rfl, r⟩
section
variable {P : Program} {w : World} {H H' : Hp} {h h' : Heap} {a C dx : Addr} {fs fs' : List (Str × V)}
theorem ins_get (hok : HOk P w H h) (e : H a = some (.ins C dx fs)) : ∃ mA, ObjM h a dx C mA ∧ (∀ f, RelO (fs.lookup f) (mA f)) ∧ PySem.Within mA (fs.map (·.1)) ∧ fs.length ≤ 1000 ∧ H dx = some (.own a) := by
  obtain ⟨d, z, ne, ob, mA, n, r, q⟩ := (show ObjOk P w H h a (.ins C dx fs) from hok a _ e)
  exact ⟨mA, ⟨ob, n, ne⟩, r, q, z, d⟩
end
structure Cls (K : PySem.W.Frag) (C : Addr) : Prop where
  pg : PySem.W.plainGet K C Str.empty = true
  hd : PySem.W.hasDictIn K C = true
  po : PySem.W.plainOver K C = true
  sa : PySem.W.findIn K (.ref C) "__setattr__" = some (some (.builtin "object.__setattr__"))
theorem Cls.get {K : PySem.W.Frag} {C : Addr} (c : Cls K C) (f : Str) : PySem.W.plainGet K C f = true := c.pg
structure Con (K : PySem.W.Frag) (C : Addr) (f : Str) (v : V) (u : Value) : Prop where
  at_ : PySem.W.findIn K (.ref C) f = some (some u)
  rel : RelV v u
  get : PySem.W.specialIn K u "__get__" = some none
  cp : PySem.W.copiedNames.contains f = false
structure Meth (K : PySem.W.Frag) (C : Addr) (m : Str) (f : Addr) : Prop where
  at_ : PySem.W.findIn K (.ref C) m = some (some (.ref f))
  fn : PySem.W.isFn K (.ref f) = true
  kp : PySem.W.keepIn K (.ref f) = true
section
variable {X : Cx} {pins : List (Addr × Obj)} {σ : St} {H : Hp} {s : Shared} {a C dx : Addr} {fs : List (Str × V)} {f : Str} {v : V} {A : Around} {E : Value → Shared → Prop}
end
section
variable {X : Cx} {o e value : Expr} {f : Str} {pos pos' tpos : Pos} {ta tv : TE}
end
section
variable {X : Cx} {pins : List (Addr × Obj)} {σ : St} {H : Hp} {s : Shared} {A : Around} {E : Value → Shared → Prop} {Q : Value → Shared → Prop} {c : Value} {b : Bool}
inductive TyOf (K : PySem.W.Frag) (H : Hp) : V → Value → Prop where
  | non : TyOf K H .non (.type "NoneType")
  | bl (x : Bool) : TyOf K H (.bl x) (.type "bool")
  | int (i : Int) : TyOf K H (.int i) (.type "int")
  | str (x : Str) : TyOf K H (.str x) (.type "str")
  | flt (x : UInt64) : TyOf K H (.flt x) (.type "float")
  | lst {a : Addr} {xs : List V} (e : H a = some (.lst xs)) : TyOf K H (.ref a) (.type "list")
  | frz {a : Addr} {o : Obj} {xs : List V} (e : H a = some (.frz o (.lst xs))) : TyOf K H (.ref a) (.type "list")
  | tup {a : Addr} {xs : List V} (e : H a = some (.tup xs)) : TyOf K H (.ref a) (.type "tuple")
  | dK {a : Addr} {kvs : List (Key × V)} (e : H a = some (.dK kvs)) : TyOf K H (.ref a) (.type "dict")
  | dT {a : Addr} {kvs : List (List Key × V)} (e : H a = some (.dT kvs)) : TyOf K H (.ref a) (.type "dict")
  | ins {a C dx : Addr} {fs : List (Str × V)} (e : H a = some (.ins C dx fs)) (cl : Cls K C) (ha : PySem.W.findIn K (.ref C) "__class__" = some (some (.builtin "object.__class__")))
      (hn : PySem.W.specialIn K (.builtin "object.__class__") "__get__" = some (some (.builtin "getset_descriptor.__get__"))) (htk : PySem.W.takesIn K (.builtin "object.__class__") = some true)
      (hm : PySem.W.mroIn K C (.type "object") = some true) : TyOf K H (.ref a) (.ref C)
theorem isinst_ok {x : V} {u t : Value} (I : Inv X pins σ H s) (rx : RelV x u) (ty : TyOf X.K H x t) (e : PySem.W.kitOne X.K t c = some b) (h : ∀ tk, Q (.bool b) { s with toks := tk }) :
    wpAny (model X.prog X.w) A (call (.builtin "isinstance") [u, c]) Q E s := by
  cases ty with
  | non => cases (show u = Value.none from rx); exact PySem.W.kia_one PySem.W.kitx_none I.kIn True.intro e (fun z => nomatch z) h
  | bl y => cases (show u = Value.bool y from rx); exact PySem.W.kia_one PySem.W.kitx_bool I.kIn True.intro e (fun z => nomatch z) h
  | int i => obtain ⟨t, q⟩ := (show ∃ t, u = Value.int i t from rx); cases q; exact PySem.W.kia_one PySem.W.kitx_int I.kIn True.intro e (fun z => nomatch z) h
  | str y => obtain ⟨t, q⟩ := (show ∃ t, u = Value.str y t from rx); cases q; exact PySem.W.kia_one PySem.W.kitx_str I.kIn True.intro e (fun z => nomatch z) h
  | flt y => obtain ⟨t, q⟩ := (show ∃ t, u = Value.float y t from rx); cases q; exact PySem.W.kia_one PySem.W.kitx_float I.kIn True.intro e (fun z => nomatch z) h
  | @lst a xs ea =>
    cases (show u = Value.ref a from rx)
    obtain ⟨_, _, n, _, h1⟩ := (show ObjOk X.prog X.w H s.heap a (.lst xs) from I.hok a _ ea)
    exact PySem.W.kia_one PySem.W.kitx_list I.kIn ⟨_, h1, rfl⟩ e (fun z => nomatch z) h
  | @frz a ob xs ea =>
    cases (show u = Value.ref a from rx)
    obtain ⟨_, _, _, n, _, h1⟩ := (show ObjOk X.prog X.w H s.heap a (.frz ob (.lst xs)) from I.hok a _ ea)
    exact PySem.W.kia_one PySem.W.kitx_list I.kIn ⟨_, h1, rfl⟩ e (fun z => nomatch z) h
  | @tup a xs ea =>
    cases (show u = Value.ref a from rx)
    obtain ⟨_, _, _, p⟩ := (show ObjOk X.prog X.w H s.heap a (.tup xs) from I.hok a _ ea)
    obtain ⟨o, h1, h2, _⟩ := p
    exact PySem.W.kia_one PySem.W.kitx_tuple I.kIn ⟨o, h1, h2⟩ e (fun z => nomatch z) h
  | @dK a kvs ea =>
    cases (show u = Value.ref a from rx)
    obtain ⟨_, _, vs, _, p⟩ := (show ObjOk X.prog X.w H s.heap a (.dK kvs) from I.hok a _ ea)
    obtain ⟨o, es, ep, h1, h2, _⟩ := p
    exact PySem.W.kia_one PySem.W.kitx_dict I.kIn ⟨o, h1, h2.1⟩ e (fun z => nomatch z) h
  | @dT a kvs ea =>
    cases (show u = Value.ref a from rx)
    obtain ⟨_, _, xs, _, o, es, ep, h1, h2, _⟩ := (show ObjOk X.prog X.w H s.heap a (.dT kvs) from I.hok a _ ea)
    exact PySem.W.kia_one PySem.W.kitx_dict I.kIn ⟨o, h1, h2.1⟩ e (fun z => nomatch z) h
  | @ins a C dx fs ea cl ha hn htk hm =>
    cases (show u = Value.ref a from rx)
    obtain ⟨mA, O, _⟩ := ins_get I.hok ea
    obtain ⟨od, J, _⟩ := O.look
    exact PySem.W.kia_one (PySem.W.kitx_own (cl.get _) cl.hd ha hn htk hm) I.kIn J e (fun z => nomatch z) h
end
end L2
namespace L2
open PySem PySem.Spec PyProof.Rows
structure Room (k : Nat) (A : Around) : Prop where
  hd : A.handled = none
  dp : A.depth + 3 * k + 5 < recursionLimit
  un : A.units + 16 * k + 200 < cLine
theorem Room.mono {j k : Nat} {A : Around} (r : Room k A) (h : j ≤ k) : Room j A := ⟨r.hd, by have := r.dp; omega, by have := r.un; omega⟩
theorem Room.deeper {k : Nat} {A : Around} (r : Room (k + 1) A) (env : Env) : Room k (A.deeper env) :=
  ⟨r.hd, by have := r.dp; show A.depth + 1 + 3 * k + 5 < _; omega, by have := r.un; show A.units + 3 + 16 * k + 200 < _; omega⟩
theorem Room.depth {k : Nat} {A : Around} (r : Room k A) : A.depth < recursionLimit := by have := r.dp; omega
theorem Room.units {k : Nat} {A : Around} (r : Room k A) : A.units + 64 < cLine := by have := r.un; omega
noncomputable def tNil : TA := fun _ H Q => Q [] H
noncomputable def tCons (ta : TE) (tr : TA) : TA := fun σ H Q => ta σ H fun x H1 => tr σ H1 fun xs H2 => Q (x :: xs) H2
section
variable {X : Cx} {e : Expr} {es : List Expr} {te : TE} {t : TA} {pos : Pos}
theorem pa_nil : PA X [] tNil := fun _ _ _ _ H Q I h => Calls.spliced_nil ⟨[], H, I, .nil, h⟩
theorem pa_cons (ha : PE X e te) (hr : PA X es t) (hs : starEach (e :: es) X.env = (false, eval e X.env) :: starEach es X.env := by rfl) : PA X (e :: es) (tCons te t) := by
  intro pos pins s σ H Q I h
  rw [hs]
  show wpAny _ _ (spliced ((false, eval e X.env) :: backTo pos (starEach es X.env))) _ _ s
  refine Calls.spliced_cons (thn (ha pins s σ H _ I h) fun u s1 ⟨x, H1, I1, r1, q1⟩ => ?_)
  exact thn (hr pos pins s1 σ H1 _ I1 q1) fun us s2 ⟨xs, H2, I2, r2, q2⟩ => ⟨x :: xs, H2, I2, .cons r1 r2, q2⟩
noncomputable def tLst (t : TA) : TE := fun σ H Q => t σ H fun xs H1 => xs.length ≤ sizeLine ∧ ∀ p, H1 p = none → Q (.ref p) (upd H1 p (.lst xs))
theorem pe_lst (h : PA X es t) : PE X (.List es pos) (tLst t) := by
  intro pins s σ H Q I hq
  refine wpAny_List_spliced (thn (h pos pins s σ H _ I hq) fun us s1 ⟨xs, H1, I1, r, z, q⟩ => ⟨by rw [← r.length]; exact z, ?_⟩)
  have hf : H1 s1.heap.objs.size = none := I1.hok.fresh (Nat.le_refl _)
  refine ⟨.ref s1.heap.objs.size, upd H1 s1.heap.objs.size (.lst xs), I1.laid (t' := s1.toks) (fun b u e => Heap.get?_push_of_some _ e) (Nat.le_refl _) ?_, rfl, q _ hf⟩
  exact ⟨z, us, 0, r, Heap.get?_push_size _ rfl⟩
end
abbrev Sp := List V → Hp → VK → XK → Prop
abbrev CXT := List Env → Hp → Shared → XK → Value → Shared → Prop
structure Env0 (P : Program) (w : World) (K : PySem.W.Frag) (mg : Str → Option Value) (base : Heap) (A : Around) (outer : List Env) (s : Shared) (H : Hp) : Prop where
  frames : A.frames = some outer
  mod : Mod K mg base
  bs : ∀ b o, base.get? b = some o → s.heap.get? b = some o ∧ H b = none
  bsz : base.objs.size ≤ s.heap.objs.size
  funs : s.heap.FunFrames base outer
  frf : ∀ b ∈ frs outer, H b = none
  hok : HOk P w H s.heap
  bare : AllBare s.gens
noncomputable def CE (outer : List Env) (P : Program) (w : World) (H : Hp) (s : Shared) (Q : VK) (u : Value) (s' : Shared) : Prop :=
  ∃ v H', s'.os = s.os ∧ AllBare s'.gens ∧ Un (frs outer) [] H H' s.heap s'.heap ∧ HOk P w H' s'.heap ∧ RelV v u ∧ Q v H'
noncomputable def CR (CX : CXT) (outer : List Env) (P : Program) (w : World) (H : Hp) (s : Shared) (Q : VK) (E : XK) (r : Result) (s' : Shared) : Prop :=
  match r with
  | .ok (.ret u) => CE outer P w H s Q u s'
  | .ok _ => False
  | .error e => CX outer H s E e s'
structure FnOk (P : Program) (w : World) (K : PySem.W.Frag) (mg : Str → Option Value) (base : Heap) (CX : CXT) (k : Nat) (f : Addr) (fd : FuncData) (ps : List Str) (sp : Sp) : Prop where
  len : ∀ vs H Q E, sp vs H Q E → vs.length = ps.length
  run : ∀ (A : Around) (outer : List Env) (s : Shared) (H : Hp) (args : Args) (us : List Value) (vs : List V) (Q : VK) (E : XK), Room k A → Env0 P w K mg base A outer s H → BindsTo s fd args (ps.zip us) → Vals vs us → sp vs H Q E →
    codeAny (model P w) A (.call (.ref f) args) (CR CX outer P w H s Q E) s
theorem FnOk.mono {P : Program} {w : World} {K : PySem.W.Frag} {mg : Str → Option Value} {base : Heap} {CX : CXT} {j k : Nat} {f : Addr} {fd : FuncData} {ps : List Str} {sp : Sp} (F : FnOk P w K mg base CX j f fd ps sp) (h : j ≤ k) :
    FnOk P w K mg base CX k f fd ps sp := ⟨F.len, fun A outer s H args us vs Q E hr => F.run A outer s H args us vs Q E (hr.mono h)⟩
section
variable {X : Cx} {pins : List (Addr × Obj)} {σ : St} {H : Hp} {s s' : Shared}
theorem Inv.env0 (I : Inv X pins σ H s) : Env0 X.prog X.w X.K X.mg X.base X.A X.stack s H :=
  ⟨I.ok.frames, I.ok.mod, I.bs, Nat.le_trans I.ok.bsz I.sz, I.stack, I.stkFree, I.hok, I.bare⟩
theorem Inv.after {Q : VK} {u : Value} (I : Inv X pins σ H s) (h : CE X.stack X.prog X.w H s Q u s') : EP X pins σ Q u s' := by
  obtain ⟨v, H', os, bare, un, hok, r, q⟩ := h
  obtain ⟨hh, g, d, t, os'⟩ := s'
  obtain rfl : os' = s.os := os
  exact ⟨v, H', I.call (h' := hh) (g' := g) (d' := d) (t' := t) (ch := []) un hok bare (fun b z => absurd z (by simp)), r, q⟩
end
noncomputable def tCall (sp : Sp) (dvs : List V) (E : XK) (t : TA) : TE := fun σ H Q => t σ H fun vs H1 => sp (vs ++ dvs) H1 Q E
noncomputable def Binds (K : PySem.W.Frag) (fd : FuncData) (ps : List Str) (ds : List Value) : Prop :=
  ∀ (s : Shared) (us : List Value), K.In s.heap → (us ++ ds).length = ps.length → BindsTo s fd ⟨us, []⟩ (ps.zip (us ++ ds))
theorem Binds.all {K : PySem.W.Frag} {fd : FuncData} {ps : List Str} (h : ∀ us : List Value, us.length = ps.length → bindArgs fd ⟨us, []⟩ = pure (ps.zip us)) : Binds K fd ps [] := fun s us _ hl => by
  rw [List.append_nil] at hl ⊢
  exact .of_eq (h us hl)
noncomputable def Passes (CX : CXT) (X : Cx) (E : XK) : Prop := ∀ (pins : List (Addr × Obj)) (σ : St) (H : Hp) (s : Shared) (e : Value) (s' : Shared), Inv X pins σ H s → CX X.stack H s E e s' → X.xe e s'
section
variable {X : Cx} {CX : CXT} {k : Nat} {f C : Addr} {fd : FuncData} {ps : List Str} {sp : Sp} {dvs : List V} {ds : List Value} {E : XK} {x m : Str} {p pos apos : Pos} {e o : Expr} {es : List Expr} {ta : TE} {t : TA}
theorem run_fn {pins : List (Addr × Obj)} {σ : St} {H : Hp} {s : Shared} {Q : VK} {us : List Value} {vs : List V} (F : FnOk X.prog X.w X.K X.mg X.base CX k f fd ps sp) (hr : Room k X.A) (hb : Binds X.K fd ps ds) (hd : Vals dvs ds) (hx : Passes CX X E)
    (I : Inv X pins σ H s) (r : Vals vs us) (h : sp (vs ++ dvs) H Q E) : wpAny (model X.prog X.w) X.A (call (.ref f) us) (EP X pins σ Q) X.xe s := by
  have r2 : Vals (vs ++ dvs) (us ++ ds) := r.append hd
  have hl : (us ++ ds).length = ps.length := by rw [← r2.length]; exact F.len _ _ _ _ h
  refine wpAny_call (codeAny_mono (F.run X.A X.stack s H ⟨us, []⟩ (us ++ ds) (vs ++ dvs) Q E hr I.env0 (hb s us I.kIn hl) r2 h) fun r s' hq => ?_)
  cases r with
  | error e => exact hx pins σ H s e s' I hq
  | ok fl =>
    cases fl with
    | ret u => exact I.after hq
    | next => exact False.elim hq
    | brk => exact False.elim hq
    | cont => exact False.elim hq
theorem pe_call (F : FnOk X.prog X.w X.K X.mg X.base CX k f fd ps sp) (hr : Room k X.A) (hg : Gl X x) (hm : X.mg x = some (.ref f)) (hk : PySem.W.keepIn X.K (.ref f) = true) (hb : Binds X.K fd ps ds) (hd : Vals dvs ds) (hx : Passes CX X E)
    (ha : PA X (e :: es) t) (hdb : (x == ("__debug__" : Str)) = false := by decide) (he : starEach (e :: es) X.env = (false, eval e X.env) :: starEach es X.env := by rfl) (hpl : (backTo pos (starEach es X.env)).any (·.1) = false := by rfl) :
    PE X (.Call (.Name x p) (e :: es) [] pos) (tCall sp dvs E t) := by
  intro pins s σ H Q I h
  refine wpAny_Call_Name_kw (ld_glob I hg hm ?_ hdb)
  refine PySem.W.callWith_K (h₀ := X.base) I.ok.mod.kin hk (thn (ha pos pins s σ H _ I h) fun us s1 ⟨vs, H1, I1, r, q⟩ => ⟨I1.kIn, ?_⟩) he hpl
  exact run_fn F hr hb hd hx I1 r q
structure Mk (K : PySem.W.Frag) (C f : Addr) : Prop where
  makes : PySem.W.makesIn K C = true
  init : PySem.W.findIn K (.ref C) "__init__" = some (some (.ref f))
  fn : PySem.W.isFn K (.ref f) = true
  kp : PySem.W.keepIn K (.ref C) = true
end
section
variable {X : Cx} {CX : CXT} {k : Nat} {f C : Addr} {fd : FuncData} {ps ks : List Str} {sp : Sp} {E : XK} {x m : Str} {p pos apos kpos : Pos} {e o : Expr} {es : List Expr} {kws : List Keyword} {te ta : TE} {t tk : TA} {nm : Option Str}
structure KBinds (K : PySem.W.Frag) (fd : FuncData) (ps ks : List Str) (g : List Value → List Value → List Value) (gV : List V → List V → List V) : Prop where
  to : ∀ (s : Shared) (us ws : List Value), K.In s.heap → (g us ws).length = ps.length → BindsTo s fd ⟨us, ks.zip ws⟩ (ps.zip (g us ws))
  rel : ∀ {vs : List V} {us : List Value} {zs : List V} {ws : List Value}, Vals vs us → Vals zs ws → Vals (gV vs zs) (g us ws)
variable {g : List Value → List Value → List Value} {gV : List V → List V → List V}
end
structure FnScope (N P : List Str) (sc : Scope) : Prop where
  kind : sc.kind = .function
  co : sc.isCoroutine = false
  gen : sc.isGenerator = false
  nd : N.Nodup
  pre : N.take P.length = P
  par : ∀ x ∈ P, sc.names.lookup x = some .local ∨ sc.names.lookup x = some .cell
  nofree : ∀ y ∈ sc.names, y.2 ≠ .free
theorem bindL_out {kindOf : Str → Option NameKind} {x : Str} : ∀ {binds : List (Str × Value)} {m : Str → Option Value}, (∀ v, (x, v) ∉ binds) → bindL kindOf binds m x = m x
  | [], _, _ => rfl
  | (n, v) :: r, m, h => by
    unfold bindL
    rw [bindL_out fun w hw => h w (List.mem_cons_of_mem _ hw)]
    split
    · have : x ≠ n := by rintro rfl; exact h v List.mem_cons_self
      simp [this]
    · rfl
theorem bindC_out {kindOf : Str → Option NameKind} {x : Str} : ∀ {binds : List (Str × Value)} {m : Str → Option Value}, (∀ v, (x, v) ∉ binds) → bindC kindOf binds m x = m x
  | [], _, _ => rfl
  | (n, v) :: r, m, h => by
    unfold bindC
    rw [bindC_out fun w hw => h w (List.mem_cons_of_mem _ hw)]
    split
    · rfl
    · have : x ≠ n := by rintro rfl; exact h v List.mem_cons_self
      simp [this]
theorem bindL_get {kindOf : Str → Option NameKind} {x : Str} {v : Value} : ∀ {P : List Str} {vs : List Value} {i : Nat} {m : Str → Option Value}, P.Nodup → P[i]? = some x → vs[i]? = some v → kindOf x = some .local →
    bindL kindOf (P.zip vs) m x = some v
  | [], _, _, _, _, h, _, _ => by simp at h
  | _ :: _, [], _, _, _, _, h, _ => by simp at h
  | p :: P, w :: vs, 0, m, nd, h1, h2, hk => by
    simp at h1 h2; subst h1; subst h2
    show bindL kindOf ((p, w) :: P.zip vs) m p = _
    unfold bindL
    rw [bindL_out fun v hv => (List.nodup_cons.mp nd).1 (List.of_mem_zip hv).1, if_pos hk]
    simp
  | p :: P, w :: vs, i + 1, m, nd, h1, h2, hk => by
    show bindL kindOf ((p, w) :: P.zip vs) m x = _
    unfold bindL
    exact bindL_get (i := i) (List.nodup_cons.mp nd).2 (by simpa using h1) (by simpa using h2) hk
theorem bindC_get {kindOf : Str → Option NameKind} {x : Str} {v : Value} : ∀ {P : List Str} {vs : List Value} {i : Nat} {m : Str → Option Value}, P.Nodup → P[i]? = some x → vs[i]? = some v → kindOf x ≠ some .local →
    bindC kindOf (P.zip vs) m x = some v
  | [], _, _, _, _, h, _, _ => by simp at h
  | _ :: _, [], _, _, _, _, h, _ => by simp at h
  | p :: P, w :: vs, 0, m, nd, h1, h2, hk => by
    simp at h1 h2; subst h1; subst h2
    show bindC kindOf ((p, w) :: P.zip vs) m p = _
    unfold bindC
    rw [bindC_out fun v hv => (List.nodup_cons.mp nd).1 (List.of_mem_zip hv).1, if_neg hk]
    simp
  | p :: P, w :: vs, i + 1, m, nd, h1, h2, hk => by
    show bindC kindOf ((p, w) :: P.zip vs) m x = _
    unfold bindC
    exact bindC_get (i := i) (List.nodup_cons.mp nd).2 (by simpa using h1) (by simpa using h2) hk
noncomputable def start (N : List Str) (vs : List V) : St := vs.map some ++ List.replicate (N.length - vs.length) none
noncomputable def cxOf (CX : CXT) (P : Program) (w : World) (K : PySem.W.Frag) (mg : Str → Option Value) (base : Heap) (N : List Str) (qual : Str) (scope : Scope) (f : Addr) (cd : Value) (A : Around) (outer : List Env) (s : Shared) (H : Hp) (E : XK) : Cx where
  prog := P
  w := w
  K := K
  mg := mg
  base := base
  A := A.deeper (envOfC qual scope s.heap.objs.size f cd)
  N := N
  s₀ := s
  H₀ := H
  env := envOfC qual scope s.heap.objs.size f cd
  outer := outer
  stack := envOfC qual scope s.heap.objs.size f cd :: outer
  ex := []
  calm := true
  fn := fun _ => true
  pn := []
  xe := fun e s' => wpAny (model P w) (A.deeper (envOfC qual scope s.heap.objs.size f cd)) (leaving (envOfC qual scope s.heap.objs.size f cd) e) (fun _ s'' => CX outer H s E e s'') (fun e' s'' => CX outer H s E e' s'') s'
theorem cell_has {sc : Scope} {n : Nat} {x : Str} (h : sc.names.lookup x = some .cell) : ∃ c, (cellsFrom n sc.names []).lookup x = some c := by
  have q := PySem.W.cellsFrom_some sc.names n [] (.inl h)
  exact Option.isSome_iff_exists.mp q
theorem inv_start {CX : CXT} {P : Program} {w : World} {K : PySem.W.Frag} {mg : Str → Option Value} {base : Heap} {N ps : List Str} {qual : Str} {scope : Scope} {f : Addr} {cd : Value} {A : Around} {outer : List Env} {s s1 : Shared} {H : Hp} {E : XK} {us : List Value} {vs : List V}
    (S : FnScope N ps scope) (hd : A.handled = none) (e0 : Env0 P w K mg base A outer s H) (hl : vs.length = ps.length) (r : Vals vs us)
    (x : InCallC s s.heap.objs.size (bindL (envOfC qual scope s.heap.objs.size f cd).kindOf (ps.zip us) fun _ => none) (cellsFrom (s.heap.objs.size + 1) scope.names []) (bindC (envOfC qual scope s.heap.objs.size f cd).kindOf (ps.zip us) fun _ => none) s1) :
    Inv (cxOf CX P w K mg base N qual scope f cd A outer s H E) [] (start N vs) H s1 := by
  have hpl : ps.length ≤ N.length := by have := congrArg List.length S.pre; rw [List.length_take] at this; omega
  obtain ⟨h1, tk, rfl, hk⟩ := x.done
  have noA : ∀ b : Addr, b ∉ (cxOf CX P w K mg base N qual scope f cd A outer s H E).ex := fun b z => absurd (show b ∈ ([] : List Addr) from z) (by simp)
  refine ⟨⟨e0.mod, S.kind, rfl, rfl, Nat.le_refl _, fun y z c h1 h2 => ?_, fun y hy => ?_, fun y c _ h => ?_, fun _ => hd, Around.frames_deeper e0.frames, .inr ⟨rfl, rfl⟩, fun b z => absurd z (noA b), e0.bs, e0.bsz, fun b _ _ => noA b, fun b z => absurd z (noA b), e0.funs, e0.frf⟩,
    rfl, e0.bare, Un.kept hk, ⟨_, x.toInCall.ns, fun i y v h1 h2 h3 => ?_⟩, fun y c h => ⟨_, x.cell y c h⟩, e0.hok.fresh (Nat.le_refl _), fun y c h => ?_, fun p hp => absurd (show p ∈ ([] : List (Addr × Obj)) from hp) (by simp), e0.hok.kept hk, ?_⟩
  · exact name_of_addr x.apart (PySem.mem_of_lookup h1) (PySem.mem_of_lookup h2)
  · have hy : scope.names.lookup y = some .cell ∨ scope.names.lookup y = some .free := hy
    rcases hy with hy | hy
    · exact cell_has hy
    · exact absurd rfl (S.nofree _ (PySem.mem_of_lookup hy))
  · exact Nat.le_of_lt (x.above y c (PySem.mem_of_lookup h))
  · have hi : i < vs.length := by
      unfold start at h2
      by_cases hi : i < vs.length
      · exact hi
      · rw [List.getElem?_append_right (by simpa using hi)] at h2
        rw [List.getElem?_replicate] at h2
        split at h2 <;> cases h2
    have ha : vs[i]? = some v := by
      unfold start at h2
      rw [List.getElem?_append_left (by simpa using hi), List.getElem?_map] at h2
      cases e : vs[i]? with
      | none => rw [e] at h2; cases h2
      | some a => rw [e] at h2; cases h2; rfl
    obtain ⟨u, hu, rv⟩ := r.get ha
    have hp : ps[i]? = some y := by
      rw [← S.pre, List.getElem?_take_of_lt (by omega)]; exact h1
    have ndP : ps.Nodup := by rw [← S.pre]; exact S.nd.sublist (List.take_sublist _ _)
    refine ⟨u, rv, ?_⟩
    rcases S.par y (List.mem_of_getElem? hp) with k | k
    · exact .inl ⟨k, bindL_get ndP hp hu k⟩
    · obtain ⟨c, e⟩ := cell_has (n := s.heap.objs.size + 1) k
      refine .inr ⟨.inl k, c, e, ?_⟩
      have q := x.cell y c e
      rw [bindC_get ndP hp hu (by show scope.names.lookup y ≠ _; rw [k]; decide)] at q
      exact q
  · exact e0.hok.fresh (Nat.le_of_lt (x.above y c (PySem.mem_of_lookup h)))
  · unfold start
    show _ = N.length
    rw [List.length_append, List.length_map, List.length_replicate]
    omega
theorem fn_of {CX : CXT} {P : Program} {w : World} {K : PySem.W.Frag} {mg : Str → Option Value} {base : Heap} {k : Nat} {f : Addr} {name qual : Str} {params : Arguments} {body : List Stmt} {scope : Scope} {dV kV doc pm cdv ct oc : Value} {an od : Option Addr}
    {osl : Array (Option Value)} {N ps : List Str} {sp : Sp} (lk : K.lookup f = some ⟨oc, od, .func (PySem.W.fnOf name qual params body scope dV kV doc pm an cdv ct), osl⟩) (hcd : PySem.W.codeIn K cdv qual = true) (S : FnScope N ps scope)
    (len : ∀ vs H Q E, sp vs H Q E → vs.length = ps.length)
    (hbody : ∀ (A : Around) (outer : List Env) (s : Shared) (H : Hp) (vs : List V) (Q : VK) (E : XK), Room k (A.deeper (envOfC qual scope s.heap.objs.size f cdv)) → sp vs H Q E →
      ∃ t, PSs (cxOf CX P w K mg base N qual scope f cdv A outer s H E) body t ∧ t { nx := fun _ H' => Q .non H', rt := Q } (start N vs) H) :
    FnOk P w K mg base CX (k + 1) f (PySem.W.fnOf name qual params body scope dV kV doc pm an cdv ct) ps sp := by
  refine ⟨len, fun A outer s H args us vs Q E hr e0 hb r hsp => ?_⟩
  have hl := len _ _ _ _ hsp
  have KX : K.In s.heap := e0.mod.kin.keeps fun b o e => (e0.bs b o e).1
  have lim : s.heap.NoLimit := e0.mod.nolimit.keeps fun b o e => (e0.bs b o e).1
  have hkind : ∀ y ∈ ps.zip us, scope.names.lookup y.1 = some .local ∨ (scope.names.lookup y.1 = some .cell ∧ ((cellsFrom (s.heap.objs.size + 1) scope.names []).lookup y.1).isSome = true) := fun ⟨n, v⟩ hy => by
    rcases S.par n (List.of_mem_zip hy).1 with q | q
    · exact .inl q
    · exact .inr ⟨q, PySem.W.cellsFrom_some _ _ _ (.inl q)⟩
  refine codeAny_call_function hr.depth (KX _ _ lk) rfl S.co S.gen rfl (PySem.W.codeRec_of KX hcd) (hb _ _ _ _ ?_)
  refine wpAny_newFunctionEnv_cells S.kind hkind fun env he s1 x => ?_
  subst he
  refine ⟨lim.keeps x.toInCall.keep, codeAny_func ?_⟩
  obtain ⟨t, ht, hq⟩ := hbody A outer s H vs Q E (hr.deeper _) hsp
  have I : Inv (cxOf CX P w K mg base N qual scope f cdv A outer s H E) [] (start N vs) H s1 := inv_start S hr.hd e0 hl r x
  refine wpAny_mono (ht [] s1 (start N vs) H _ I hq) (fun fl s' hs => ?_) fun e s' hs => hs
  have fin : ∀ {σ' : St} {H' : Hp} {v : V} {u : Value}, Inv (cxOf CX P w K mg base N qual scope f cdv A outer s H E) [] σ' H' s' → RelV v u → Q v H' → CE outer P w H s Q u s' :=
    fun {σ' H' v u} J rv q => ⟨v, H', J.os, J.bare, J.base, J.hok, rv, q⟩
  cases fl with
  | ret u =>
    obtain ⟨v, σ', H', J, rv, q⟩ := hs
    exact fin J rv q
  | next =>
    obtain ⟨σ', H', J, q⟩ := hs
    exact fin (v := V.non) (u := Value.none) J rfl q
  | brk =>
    obtain ⟨_, _, _, q⟩ := hs
    exact False.elim q
  | cont =>
    obtain ⟨_, _, _, q⟩ := hs
    exact False.elim q
end L2
namespace L2
open PySem PySem.Spec PyProof.Rows
section
variable {X : Cx} {x : Str} {p pos : Pos} {e : Expr} {es : List Expr} {t : TA} {id T : String} {r : List V → Hp → VK → Prop}
noncomputable def tCB (r : List V → Hp → VK → Prop) (t : TA) : TE := fun σ H Q => t σ H fun vs H1 => r vs H1 Q
theorem pe_callB (hc : CallR X (.builtin id) r) (hg : Gl X x) (hm : X.mg x = none) (hv : bootBuiltins x = some (.builtin id)) (ha : PA X (e :: es) t) (hn : x ≠ "__name__" := by decide) (hdb : (x == ("__debug__" : Str)) = false := by decide)
    (he : starEach (e :: es) X.env = (false, eval e X.env) :: starEach es X.env := by rfl) (hpl : (backTo pos (starEach es X.env)).any (·.1) = false := by rfl) : PE X (.Call (.Name x p) (e :: es) [] pos) (tCB r t) := by
  intro pins s σ H Q I h
  refine wpAny_Call_Name_kw (ld_blt I hg hm hv ?_ hn hdb)
  exact PyProof.Rows.callWith_builtin1 (thn (ha pos pins s σ H _ I h) fun us s1 ⟨vs, H1, I1, r1, q1⟩ => hc pins s1 σ H1 vs us Q I1 r1 q1) he hpl
theorem pe_callTy (hc : CallR X (.type T) r) (hg : Gl X x) (hm : X.mg x = none) (hv : bootBuiltins x = some (.type T)) (ha : PA X (e :: es) t) (hn : x ≠ "__name__" := by decide) (hdb : (x == ("__debug__" : Str)) = false := by decide)
    (he : starEach (e :: es) X.env = (false, eval e X.env) :: starEach es X.env := by rfl) (hpl : (backTo pos (starEach es X.env)).any (·.1) = false := by rfl) : PE X (.Call (.Name x p) (e :: es) [] pos) (tCB r t) := by
  intro pins s σ H Q I h
  refine wpAny_Call_Name_kw (ld_blt I hg hm hv ?_ hn hdb)
  exact PyProof.Rows.callWith_type1 (thn (ha pos pins s σ H _ I h) fun us s1 ⟨vs, H1, I1, r1, q1⟩ => hc pins s1 σ H1 vs us Q I1 r1 q1) he hpl
end
end L2
namespace HT
open PySem PyProof.Rows
section
open PySem.SeqAt
open PySem.AutoSeq1 (wpAny_loadPart')
open PySem.MeetsSeq PySem.MeetsSeq2 PySem.MeetsSeq3
end
section
variable {prog : Program} {w : World} {A : Around} {E : Value → Shared → Prop} {s : Shared}
theorem cat_tup {t b : Addr} {vs ws : List Value} {Q : Value → Shared → Prop} (ht : IsTup s.heap t vs.toArray) (hb : IsTup s.heap b ws.toArray) (hv : vs ≠ [])
    (h1 : ws = [] → Q (.ref t) s) (h2 : ws ≠ [] → Q (.ref s.heap.objs.size) { s with heap := s.heap.push { cls := .type "tuple", data := .seq (vs ++ ws).toArray } })
    (hsz : vs.length + ws.length ≤ sizeLine) : wpAny (model prog w) A (binaryOp .Add (.ref t) (.ref b)) Q E s := by
  obtain ⟨⟨cls, dd, data, sl⟩, ho, hc, n, hd⟩ := id ht
  obtain ⟨⟨cls2, dd2, data2, sl2⟩, ho2, hc2, n2, hd2⟩ := id hb
  simp only at hc hd hc2 hd2
  subst hc hd hc2 hd2
  have e : vs.toArray ++ ws.toArray = (vs ++ ws).toArray := by simp
  by_cases hw : ws = []
  · exact concat_meets ⟨_, ho, rfl⟩ ⟨_, ho2, rfl⟩ noFill_tuple_add seq_tuple_add PySem.F.slot_tuple_add PySem.F.entry_tuple_add (PySem.F.args_tuple_add_2 _ _)
      (tuple_addW1 t b vs.toArray ws.toArray n n2 dd dd2 sl sl2 (by simpa using hv) (by simp [hw])) ⟨ho, ho2, h1 hw⟩
  · refine concat_meets ⟨_, ho, rfl⟩ ⟨_, ho2, rfl⟩ noFill_tuple_add seq_tuple_add PySem.F.slot_tuple_add PySem.F.entry_tuple_add (PySem.F.args_tuple_add_2 _ _)
      (tuple_addW2 t b vs.toArray ws.toArray n n2 dd dd2 sl sl2 (by simpa using hv) (by simpa using hw) (by rw [List.size_toArray, List.size_toArray]; exact hsz)) ⟨ho, ho2, ?_⟩
    rw [e]
    exact h2 hw
noncomputable def sIx (n d : Nat) : Option Int → Nat
  | none => d
  | some v => if v < 0 then (v + (n : Int)).toNat else min v.toNat n
end
end HT
namespace L2
open PySem PySem.Spec PyProof.Rows
abbrev TO := St → Hp → (Option Int → Hp → Prop) → Prop
noncomputable def PO (X : Cx) (e : Option Expr) (t : TO) : Prop :=
  ∀ (pins : List (Addr × Obj)) (s : Shared) (σ : St) (H : Hp) (Q : Option Int → Hp → Prop), Inv X pins σ H s → t σ H Q →
    wpAny (model X.prog X.w) X.A (evalPart e X.env) (fun u s' => ∃ o H', Inv X pins σ H' s' ∧ IsPart u o ∧ Q o H') X.xe s
noncomputable def tNoPart : TO := fun _ H Q => Q none H
noncomputable def tPart (t : TE) : TO := fun σ H Q => t σ H fun x H1 => ∃ i, x = .int i ∧ Q (some i) H1
theorem intsAre_of {ns : List Int} : ∀ {us : List Value}, Vals (ns.map V.int) us → IntsAre us ns := by
  induction ns with
  | nil => intro us r; rw [List.map_nil] at r; cases r; exact .nil
  | cons n ns ih =>
    intro us r
    rw [List.map_cons] at r
    cases r with
    | cons r1 r2 =>
      obtain ⟨t, e⟩ := r1
      subst e
      exact .cons n t (ih r2)
section
variable {X : Cx} {e : Expr} {te : TE} {lo hi : Option Expr} {tl th : TO} {pos p2 : Pos}
noncomputable def SlR (X : Cx) (r : V → Option Int → Option Int → Hp → VK → Prop) : Prop :=
  ∀ (pins : List (Addr × Obj)) (s : Shared) (σ : St) (H : Hp) (x : V) (v vl vu : Value) (lo hi : Option Int) (sl : Addr) (Q : VK), Inv X pins σ H s → RelV x v → s.heap.IsSliceOf sl vl vu .none → IsPart vl lo → IsPart vu hi → r x lo hi H Q →
    ∃ T id, typeLookup (.type T) "__getitem__" = pure (some (.builtin id)) ∧ s.TypeIs v T ∧ wpAny (model X.prog X.w) X.A (getItem v (.ref sl)) (EP X pins σ Q) X.xe s
noncomputable def tSl (r : V → Option Int → Option Int → Hp → VK → Prop) (te : TE) (tl th : TO) : TE := fun σ H Q => te σ H fun x H1 => tl σ H1 fun l H2 => th σ H2 fun u H3 => r x l u H3 Q
noncomputable def cutV (xs : List V) (lo hi : Option Int) : List V := (xs.drop (HT.sIx xs.length 0 lo)).take (HT.sIx xs.length xs.length hi - HT.sIx xs.length 0 lo)
noncomputable def rCatT (K : PySem.W.Frag) : R2 := fun x y H Q => ∃ a b xs ys, x = .ref a ∧ y = .ref b ∧ SqT K H a xs ∧ SqT K H b ys ∧ xs ≠ [] ∧ xs.length + ys.length ≤ sizeLine ∧
  (ys = [] → Q (.ref a) H) ∧ (ys ≠ [] → ∀ p, H p = none → Q (.ref p) (upd H p (.tup (xs ++ ys))))
theorem Vals.nil_iff {xs : List V} {us : List Value} (r : Vals xs us) : us = [] ↔ xs = [] := by
  cases r with
  | nil => simp
  | cons _ _ => simp
theorem op_catT : OpR X (binaryOp .Add) (rCatT X.K) := by
  intro pins s σ H x y v u Q I rx ry h
  obtain ⟨a, b, xs, ys, rfl, rfl, ha, hb, hx, hz, q1, q2⟩ := h
  cases rx
  cases ry
  obtain ⟨its, r1, p1, _⟩ := I.tuple ha
  obtain ⟨its2, r2, p2, _⟩ := I.tuple hb
  refine HT.cat_tup p1 p2 (fun z => hx (r1.nil_iff.mp z)) (fun z => ⟨.ref a, H, I, rfl, q1 (r2.nil_iff.mp z)⟩) (fun z => ?_) (by rw [← r1.length, ← r2.length]; exact hz)
  refine ⟨.ref s.heap.objs.size, _, I.laid (t' := s.toks) (o := .tup (xs ++ ys)) (fun b ob q => Heap.get?_push_of_some _ q) (Nat.le_refl _) ?_, rfl, q2 (fun w => z (r2.nil_iff.mpr w)) _ (I.hok.fresh (Nat.le_refl _))⟩
  exact ⟨by rw [List.length_append]; exact hz, _, r1.append r2, IsTup.new _ _⟩
end
end L2
namespace L2
open PySem PySem.Spec PyProof.Rows
noncomputable def ixN (n : Nat) (i : Int) : Option Nat := if 0 ≤ i then (if i < n then some i.toNat else none) else if -(n : Int) ≤ i then some (i + n).toNat else none
noncomputable def atI {α : Type} (xs : List α) (i : Int) : Option α := (ixN xs.length i).bind fun j => xs[j]?
theorem ixN_seq {n : Nat} {i : Int} {j : Nat} (h : ixN n i = some j) : seqIndex? i n = some j ∧ j < n ∧ -(n : Int) ≤ i ∧ i < n := by
  unfold ixN at h
  by_cases h0 : 0 ≤ i
  · rw [if_pos h0] at h
    by_cases h1 : i < n
    · rw [if_pos h1] at h
      have e : i.toNat = j := Option.some.inj h
      exact ⟨by rw [seqIndex_of h0 h1, e], by omega, by omega, h1⟩
    · rw [if_neg h1] at h; cases h
  · rw [if_neg h0] at h
    by_cases h1 : -(n : Int) ≤ i
    · rw [if_pos h1] at h
      have e : (i + n).toNat = j := Option.some.inj h
      exact ⟨by rw [seqIndex_neg (by omega) h1, e], by omega, h1, by omega⟩
    · rw [if_neg h1] at h; cases h
theorem atI_get {α : Type} {xs : List α} {i : Int} {v : α} (h : atI xs i = some v) : ∃ j, seqIndex? i xs.length = some j ∧ xs[j]? = some v ∧ j < xs.length ∧ -(xs.length : Int) ≤ i ∧ i < xs.length := by
  unfold atI at h
  cases e : ixN xs.length i with
  | none => rw [e] at h; cases h
  | some j =>
    rw [e] at h
    obtain ⟨h1, h2, h3, h4⟩ := ixN_seq e
    exact ⟨j, h1, h, h2, h3, h4⟩
theorem atI_nat {α : Type} {xs : List α} {j : Nat} {v : α} (h : xs[j]? = some v) : atI xs (j : Int) = some v := by
  have hj : j < xs.length := (List.getElem?_eq_some_iff.mp h).1
  have e : ixN xs.length (j : Int) = some j := by
    unfold ixN
    rw [if_pos (by omega), if_pos (by omega)]; simp
  unfold atI; rw [e]; exact h
noncomputable def PlainIx (b : Expr) : Prop := ∀ o i, subscripted b false o i = operate [o, i] (getItem o i)
noncomputable def IxR (X : Cx) (r : R2) : Prop :=
  ∀ (value slice : Expr) (pins : List (Addr × Obj)) (s : Shared) (σ : St) (H : Hp) (x y : V) (v u : Value) (Q : VK), Inv X pins σ H s → RelV x v → RelV y u → r x y H Q →
    subscripted slice false v u = operate [v, u] (getItem v u) → wpAny (model X.prog X.w) X.A (subscriptTail value slice v u) (EP X pins σ Q) X.xe s
noncomputable def MtR (X : Cx) (id : String) (r : V → List V → Hp → VK → Prop) : Prop :=
  ∀ (pins : List (Addr × Obj)) (s : Shared) (σ : St) (H : Hp) (x : V) (xs : List V) (v : Value) (us : List Value) (Q : VK), Inv X pins σ H s → RelV x v → Vals xs us → r x xs H Q →
    wpAny (model X.prog X.w) X.A (call (.builtin id) (v :: us)) (EP X pins σ Q) X.xe s
section
variable {X : Cx} {a b : Expr} {ta tb : TE} {pos : Pos}
theorem pe_ix {r : R2} (hr : IxR X r) (ha : PE X a ta) (hb : PE X b tb) (hs : PlainIx b) : PE X (.Subscript a b pos) (tOp r ta tb) := by
  intro pins s σ H Q I h
  exact Subscript_ (binT ha hb I h fun v u s2 x y H2 I2 rx ry q => hr a b pins s2 σ H2 x y v u Q I2 rx ry q (hs _ _))
noncomputable def rIxL (K : PySem.W.Frag) : R2 := fun x y H Q => ∃ p xs i v, x = .ref p ∧ y = .int i ∧ SqL K H p xs ∧ atI xs i = some v ∧ Q v H
noncomputable def rIxT (K : PySem.W.Frag) : R2 := fun x y H Q => ∃ p xs i v, x = .ref p ∧ y = .int i ∧ SqT K H p xs ∧ atI xs i = some v ∧ Q v H
theorem ix_list : IxR X (rIxL X.K) := by
  intro value slice pins s σ H x y v u Q I rx ry h hs
  obtain ⟨p, xs, i, z, rfl, rfl, hq, he, q⟩ := h
  cases rx
  obtain ⟨t, rfl⟩ := ry
  obtain ⟨its, r, pl, hz⟩ := I.list hq
  obtain ⟨j, h1, h2, h3, h4, h5⟩ := atI_get he
  obtain ⟨w, ew, rw'⟩ := r.get h2
  have hl := r.length
  have hn := line63
  have fin : EP X pins σ Q w s := ⟨z, H, I, rw', q⟩
  by_cases h0 : 0 ≤ i
  · have hj : i.toNat = j := by
      rw [seqIndex_of h0 h5] at h1
      exact Option.some.inj h1
    exact item_listR pl.isList h0 (by omega) (by rw [hj]; simpa using ew) fin hs
  · have hj : (i + (its.toArray.size : Int)).toNat = j := by
      rw [seqIndex_neg (by omega) h4] at h1
      rw [List.size_toArray, ← hl]
      exact Option.some.inj h1
    exact subscriptTail_builtinR (x := w) pl.isList.typeIs slot_list_getitem.lookup
      (wpAny_getItem_list_neg (Q := fun r s' => r = w ∧ EP X pins σ Q r s') pl.isList (by omega) (by rw [List.size_toArray] <;> omega) (by omega) (by rw [hj]; simpa using ew) ⟨rfl, fin⟩) hs
theorem ix_tup : IxR X (rIxT X.K) := by
  intro value slice pins s σ H x y v u Q I rx ry h hs
  obtain ⟨p, xs, i, z, rfl, rfl, hq, he, q⟩ := h
  cases rx
  obtain ⟨t, rfl⟩ := ry
  obtain ⟨its, r, pl, hz⟩ := I.tuple hq
  obtain ⟨j, h1, h2, h3, h4, h5⟩ := atI_get he
  obtain ⟨w, ew, rw'⟩ := r.get h2
  have hl := r.length
  have hn := line63
  have fin : EP X pins σ Q w s := ⟨z, H, I, rw', q⟩
  exact subscriptTail_builtinR (x := w) pl.typeIs slot_tuple_getitem.lookup
    (getItem_tuple (j := j) (Q := fun r s' => r = w ∧ EP X pins σ Q r s') pl (by omega) (by omega) (by rw [List.size_toArray, ← hl]; exact h1) (by simpa using ew) ⟨rfl, fin⟩) hs
theorem mapSeq_set (its : List Value) (n j : Nat) (u : Value) : Obj.mapSeq (·.setIfInBounds j u) { cls := .type "list", data := .seq its.toArray n } = { cls := .type "list", data := .seq (its.set j u).toArray n } := by
  simp [Obj.mapSeq]
theorem Inv.lst {pins : List (Addr × Obj)} {σ : St} {H : Hp} {s : Shared} {p : Addr} {xs : List V} (I : Inv X pins σ H s) (h : H p = some (.lst xs)) :
    ∃ (its : List Value) (n : Nat), Vals xs its ∧ s.heap.get? p = some { cls := .type "list", data := .seq its.toArray n } ∧ xs.length ≤ sizeLine := by
  obtain ⟨z, its, n, r, e⟩ := I.hok p _ h
  exact ⟨its, n, r, e, z⟩
theorem Inv.lstUpd {pins : List (Addr × Obj)} {σ : St} {H : Hp} {s : Shared} {p : Addr} {xs ys : List V} {its its' : List Value} {n n' : Nat} {f : Obj → Obj} (I : Inv X pins σ H s) (h : H p = some (.lst xs))
    (ho : s.heap.get? p = some { cls := .type "list", data := .seq its.toArray n }) (hf : f { cls := .type "list", data := .seq its.toArray n } = { cls := .type "list", data := .seq its'.toArray n' }) (r : Vals ys its') (hz : ys.length ≤ sizeLine) (t : Nat) :
    Inv X pins σ (upd H p (.lst ys)) { s with heap := s.heap.update p f, toks := t } := by
  have e : (s.heap.update p f).get? p = some { cls := .type "list", data := .seq its'.toArray n' } := by
    rw [Heap.get?_update_self f ho (by rw [hf] <;> rfl), hf]
  refine I.write (x := p) (e := p) (by rw [h]; trivial) (.inl rfl) (fun b u hb q => (Heap.get?_update_other _ _ (Ne.symm hb)).trans q) ⟨_, e⟩ ?_
  exact ⟨hz, its', n', r, e⟩
noncomputable def rSetL : V → V → V → Hp → (Hp → Prop) → Prop := fun o i v H Q => ∃ p xs k j, o = .ref p ∧ i = .int k ∧ H p = some (.lst xs) ∧ ixN xs.length k = some j ∧ Q (upd H p (.lst (xs.set j v)))
theorem set_list : PSet X rSetL := by
  intro pins s σ H o i v ov iv u Q I ro ri rv h
  obtain ⟨p, xs, k, j, rfl, rfl, hp, hj, q⟩ := h
  cases ro
  obtain ⟨t, rfl⟩ := ri
  obtain ⟨its, n, r, ho, hz⟩ := I.lst hp
  obtain ⟨h1, h2, h3, h4⟩ := ixN_seq hj
  have hl := r.length
  have hn := line63
  have I' : Inv X pins σ (upd H p (.lst (xs.set j v))) { s with heap := s.heap.update p (Obj.mapSeq (·.setIfInBounds j u)) } :=
    I.lstUpd hp ho (mapSeq_set its n j u) (r.set rv j) (by rw [List.length_set]; exact hz) s.toks
  by_cases h0 : 0 ≤ k
  · have hk : k.toNat = j := by
      rw [seqIndex_of h0 h4] at h1
      exact Option.some.inj h1
    exact PySem.W.ki_setAt ho h0 (by omega) (by rw [List.size_toArray, ← hl]; exact h4) (by rw [hk]; exact ⟨_, I', q⟩)
  · have hk : (k + (its.toArray.size : Int)).toNat = j := by
      rw [seqIndex_neg (by omega) h3] at h1
      rw [List.size_toArray, ← hl]
      exact Option.some.inj h1
    exact PySem.W.ki_setBack ho (by omega) (by rw [List.size_toArray, ← hl]; exact h3) (by omega) (by rw [hk]; exact ⟨_, I', q⟩)
noncomputable def rSlL (K : PySem.W.Frag) : V → Option Int → Option Int → Hp → VK → Prop := fun x lo hi H Q => ∃ a xs, x = .ref a ∧ SqL K H a xs ∧ ∀ p, H p = none → Q (.ref p) (upd H p (.lst (cutV xs lo hi)))
noncomputable def flatV : V → Bool
  | .non => true
  | .bl _ => true
  | .int _ => true
  | .str _ => true
  | _ => false
noncomputable def eqV : V → V → Bool
  | .non, .non => true
  | .bl a, .bl b => a == b
  | .bl a, .int b => (if a then 1 else 0) == b
  | .int a, .bl b => a == (if b then 1 else 0)
  | .int a, .int b => a == b
  | .str a, .str b => a == b
  | _, _ => false
theorem eqAt_V {A : Around} {s : Shared} {y x : V} {u v : Value} (ry : RelV y u) (rx : RelV x v) (fy : flatV y = true) (fx : flatV x = true) : SeqAt.EqAt A s u v (eqV y x) := by
  cases y with
  | non =>
    cases ry
    cases x with
    | non => cases rx; exact SeqAt.EqAt.same _
    | bl b => cases rx; exact SeqAt.EqAt.none_bool b
    | int b => obtain ⟨t, rfl⟩ := rx; exact SeqAt.EqAt.none_int b t
    | str b => obtain ⟨t, rfl⟩ := rx; exact SeqAt.EqAt.none_str b t
    | _ => exact absurd (show false = true from fx) Bool.false_ne_true
  | bl a =>
    cases ry
    cases x with
    | non => cases rx; exact SeqAt.EqAt.bool_none a
    | bl b => cases rx; exact SeqAt.EqAt.bool_bool a b
    | int b => obtain ⟨t, rfl⟩ := rx; exact SeqAt.EqAt.bool_int a b t
    | str b => obtain ⟨t, rfl⟩ := rx; exact SeqAt.EqAt.bool_str a b t
    | _ => exact absurd (show false = true from fx) Bool.false_ne_true
  | int a =>
    obtain ⟨t', rfl⟩ := ry
    cases x with
    | non => cases rx; exact SeqAt.EqAt.int_none a t'
    | bl b => cases rx; exact SeqAt.EqAt.int_bool a t' b
    | int b => obtain ⟨t, rfl⟩ := rx; exact SeqAt.EqAt.int_int a t' b t
    | str b => obtain ⟨t, rfl⟩ := rx; exact SeqAt.EqAt.int_str a t' b t
    | _ => exact absurd (show false = true from fx) Bool.false_ne_true
  | str a =>
    obtain ⟨t', rfl⟩ := ry
    cases x with
    | non => cases rx; exact SeqAt.EqAt.str_none a t'
    | bl b => cases rx; exact SeqAt.EqAt.str_bool a t' b
    | int b => obtain ⟨t, rfl⟩ := rx; exact SeqAt.EqAt.str_int a t' b t
    | str b => obtain ⟨t, rfl⟩ := rx; exact SeqAt.EqAt.str_str a t' b t
    | _ => exact absurd (show false = true from fx) Bool.false_ne_true
  | _ => exact absurd (show false = true from fy) Bool.false_ne_true
noncomputable def eqU (x : V) (u : Value) : Bool := match u with
  | .none => eqV .non x
  | .bool b => eqV (.bl b) x
  | .int i _ => eqV (.int i) x
  | .str z _ => eqV (.str z) x
  | _ => false
theorem eqU_of {x y : V} {u : Value} (r : RelV y u) (f : flatV y = true) : eqU x u = eqV y x := by
  cases y with
  | non => cases r; rfl
  | bl b => cases r; rfl
  | int i => obtain ⟨t, rfl⟩ := r; rfl
  | str z => obtain ⟨t, rfl⟩ := r; rfl
  | _ => exact absurd (show false = true from f) Bool.false_ne_true
theorem any_eqU {x : V} : ∀ {xs : List V} {us : List Value}, Vals xs us → xs.all flatV = true → us.any (eqU x) = xs.any fun y => eqV y x
  | _, _, .nil, _ => rfl
  | y :: xs, u :: us, .cons r t, f => by
    rw [List.all_cons, Bool.and_eq_true] at f
    rw [List.any_cons, List.any_cons, eqU_of r f.1, any_eqU t f.2]
theorem mem_eqAt {A : Around} {s : Shared} {x : V} {v : Value} (rx : RelV x v) (fx : flatV x = true) : ∀ {xs : List V} {us : List Value}, Vals xs us → xs.all flatV = true → ∀ u ∈ us, SeqAt.EqAt A s u v (eqU x u)
  | _, _, .nil, _ => fun u hu => by cases hu
  | y :: xs, u :: us, .cons r t, f => fun u' hu => by
    rw [List.all_cons, Bool.and_eq_true] at f
    rcases List.mem_cons.mp hu with rfl | hu
    · rw [eqU_of r f.1]; exact eqAt_V r rx f.1 fx
    · exact mem_eqAt rx fx t f.2 u' hu
noncomputable def inV (x : V) (xs : List V) : Bool := xs.any fun y => eqV y x
noncomputable def rIn (K : PySem.W.Frag) (neg : Bool) : R2 := fun x y H Q => ∃ p xs, y = .ref p ∧ (SqL K H p xs ∨ SqT K H p xs) ∧ flatV x = true ∧ xs.all flatV = true ∧ Q (.bl (if neg then !inV x xs else inV x xs)) H
theorem op_in_seq : OpR X (compareOp .In) (rIn X.K false) := by
  intro pins s σ H x y v u Q I rx ry h
  obtain ⟨p, xs, rfl, hq, fx, fs, q⟩ := h
  cases ry
  rcases hq with hq | hq
  · obtain ⟨its, r, pl, hz⟩ := I.list hq
    refine SeqAt.in_listAt (eqU x) pl.isList (fun w hw => mem_eqAt rx fx r fs w (by simpa using hw)) ⟨.bl _, H, I, rfl, ?_⟩
    rw [show its.toArray.any (eqU x) = its.any (eqU x) by simp, any_eqU r fs]
    exact q
  · obtain ⟨its, r, pl, hz⟩ := I.tuple hq
    refine SeqAt.in_tupleAt (eqU x) pl (fun w hw => mem_eqAt rx fx r fs w (by simpa using hw)) ⟨.bl _, H, I, rfl, ?_⟩
    rw [show its.toArray.any (eqU x) = its.any (eqU x) by simp, any_eqU r fs]
    exact q
theorem call_len_seq : CallR X (.builtin "len") (fun xs H Q => ∃ p ys, xs = [.ref p] ∧ (SqL X.K H p ys ∨ SqT X.K H p ys) ∧ Q (.int ys.length) H) := by
  intro pins s σ H xs us Q I r h
  obtain ⟨p, ys, rfl, hq, q⟩ := h
  obtain ⟨u, rfl, rx⟩ := vals1 r
  cases rx
  have hn := line63
  rcases hq with hq | hq
  · obtain ⟨its, r', pl, hz⟩ := I.list hq
    have hlen := r'.length
    exact Calls.call_len_list pl.isList (by simp only [List.size_toArray] <;> omega) ⟨.int ys.length, H, I.tok _, ⟨s.toks + 1, by rw [List.size_toArray, hlen]⟩, q⟩
  · obtain ⟨its, r', pl, hz⟩ := I.tuple hq
    have hlen := r'.length
    exact len_tuple pl (by simp only [List.size_toArray] <;> omega) ⟨.int ys.length, H, I.tok _, ⟨s.toks + 1, by rw [List.size_toArray, hlen]⟩, q⟩
theorem call_list_of : CallR X (.type "list") (fun xs H Q => ∃ p ys, xs = [.ref p] ∧ (SqL X.K H p ys ∨ SqT X.K H p ys) ∧ ∀ l, H l = none → Q (.ref l) (upd H l (.lst ys))) := by
  intro pins s σ H xs us Q I r h
  obtain ⟨p, ys, rfl, hq, q⟩ := h
  obtain ⟨u, rfl, rx⟩ := vals1 r
  cases rx
  have fin : ∀ (its : List Value), Vals ys its → ys.length ≤ sizeLine → ∀ (h' : Heap) (c' : Nat), (∀ b o', s.heap.get? b = some o' → h'.get? b = some o') →
      h'.get? s.heap.objs.size = some { cls := .type "list", dict := none, data := .seq its.toArray c', slots := #[] } → EP X pins σ Q (.ref s.heap.objs.size) { s with heap := h' } := fun its r' hz h' c' kp e =>
    ⟨.ref s.heap.objs.size, _, I.laid (t' := s.toks) kp (Nat.le_refl _) (show ObjOk X.prog X.w _ h' _ (.lst ys) from ⟨hz, its, c', r', e⟩), rfl, q _ (I.hok.fresh (Nat.le_refl _))⟩
  rcases hq with hq | hq
  · obtain ⟨its, r', pl, hz⟩ := I.list hq
    have hlen := r'.length
    obtain ⟨o, ho, hc, n, hd⟩ := pl.isList
    exact call_list_seq p (.inl rfl) ho hc hd (fun h' c' kp e => fin its r' hz h' c' kp e) (by simp only [List.size_toArray] <;> omega)
  · obtain ⟨its, r', pl, hz⟩ := I.tuple hq
    have hlen := r'.length
    obtain ⟨o, ho, hc, n, hd⟩ := pl
    exact call_list_seq p (.inr rfl) ho hc hd (fun h' c' kp e => fin its r' hz h' c' kp e) (by simp only [List.size_toArray] <;> omega)
theorem call_tuple_of : CallR X (.type "tuple") (fun xs H Q => ∃ p ys, xs = [.ref p] ∧ ((SqL X.K H p ys ∧ ∀ l, H l = none → Q (.ref l) (upd H l (.tup ys))) ∨ (SqT X.K H p ys ∧ Q (.ref p) H))) := by
  intro pins s σ H xs us Q I r h
  obtain ⟨p, ys, rfl, h⟩ := h
  obtain ⟨u, rfl, rx⟩ := vals1 r
  cases rx
  rcases h with ⟨hq, q⟩ | ⟨hq, q⟩
  · obtain ⟨its, r', pl, hz⟩ := I.list hq
    have hlen := r'.length
    refine call_tuple_list pl.isList (fun h' kp => ?_) (by simp only [List.size_toArray] <;> omega)
    have I1 : Inv X pins σ H { s with heap := h' } := I.kept (t' := s.toks) kp
    have I2 : Inv X pins σ (upd H h'.objs.size (.tup ys)) { s with heap := h'.push { cls := .type "tuple", data := .seq its.toArray } } :=
      I1.laid (t' := s.toks) (fun b o e => Heap.get?_push_of_some _ e) (Nat.le_refl _) (show ObjOk X.prog X.w _ _ _ (.tup ys) from ⟨hz, its, r', IsTup.new _ _⟩)
    exact ⟨.ref h'.objs.size, _, I2, rfl, q _ (I1.hok.fresh (Nat.le_refl _))⟩
  · obtain ⟨its, r', pl, hz⟩ := I.tuple hq
    exact call_tuple_same pl ⟨.ref p, H, I, rfl, q⟩
noncomputable def tyV (K : PySem.W.Frag) (T : String) (x : V) (H : Hp) : Prop := match x with
  | .str _ => T = "str"
  | .int _ => T = "int"
  | .ref p => (T = "list" ∧ ∃ xs, SqL K H p xs) ∨ (T = "tuple" ∧ ∃ o, K.lookup p = some o ∧ o.cls = .type "tuple" ∧ o.dict = none) ∨
      (T = "dict" ∧ ((∃ kvs, H p = some (.dK kvs)) ∨ ∃ kvs, H p = some (.dT kvs))) ∨ (T = "set" ∧ ∃ S n, H p = some (.set S n))
  | _ => False
theorem tyV_is {pins : List (Addr × Obj)} {σ : St} {H : Hp} {s : Shared} {T : String} {x : V} {v : Value} (I : Inv X pins σ H s) (r : RelV x v) (ty : tyV X.K T x H) :
    s.TypeIs v T ∧ ∀ a, v = .ref a → ∃ ob, s.heap.get? a = some ob ∧ ob.dict = none := by
  cases x with
  | str z =>
    obtain ⟨t, rfl⟩ := r
    cases (show T = "str" from ty)
    exact ⟨typeIs_str s z t, fun _ e => nomatch e⟩
  | int i =>
    obtain ⟨t, rfl⟩ := r
    cases (show T = "int" from ty)
    exact ⟨typeIs_int s i t, fun _ e => nomatch e⟩
  | ref p =>
    cases r
    rcases ty with ⟨rfl, xs, hq⟩ | ⟨rfl, o, hk, hc, hd⟩ | ⟨rfl, hk⟩ | ⟨rfl, S, n, hk⟩
    · obtain ⟨its, _, pl, _⟩ := I.list hq
      refine ⟨pl.isList.typeIs, fun a e => ?_⟩
      cases e
      obtain ⟨o, n, e, c, hd, _⟩ := pl
      exact ⟨o, e, hd⟩
    · refine ⟨⟨o, I.kIn p o hk, hc⟩, fun a e => ?_⟩
      cases e
      exact ⟨o, I.kIn _ o hk, hd⟩
    · have z : ∃ o, s.heap.get? p = some o ∧ o.ExactDict := by
        rcases hk with ⟨kvs, hk⟩ | ⟨kvs, hk⟩
        · obtain ⟨_, _, _, _, o, _, _, e, ex, _⟩ := I.hok p _ hk
          exact ⟨o, e, ex⟩
        · obtain ⟨_, _, _, _, o, _, _, e, ex, _⟩ := I.hok p _ hk
          exact ⟨o, e, ex⟩
      obtain ⟨o, e, ex⟩ := z
      refine ⟨⟨o, e, ex.1⟩, fun a e2 => ?_⟩
      cases e2
      exact ⟨o, e, ex.2.1⟩
    · obtain ⟨o, _, _, _, e, ex, _⟩ := I.hok p _ hk
      refine ⟨⟨o, e, ex.1⟩, fun a e2 => ?_⟩
      cases e2
      exact ⟨o, e, ex.2.1⟩
  | _ => exact False.elim ty
noncomputable def tBM0 (K : PySem.W.Frag) (T : String) (r : V → List V → Hp → VK → Prop) (to : TE) : TE := fun σ H Q => to σ H fun x H1 => tyV K T x H1 ∧ r x [] H1 Q
noncomputable def tBM (K : PySem.W.Frag) (T : String) (r : V → List V → Hp → VK → Prop) (to : TE) (t : TA) : TE := fun σ H Q => to σ H fun x H1 => tyV K T x H1 ∧ t σ H1 fun xs H2 => r x xs H2 Q
variable {o e : Expr} {es : List Expr} {to : TE} {t : TA} {name : Str} {apos cpos : Pos} {T id : String} {r : V → List V → Hp → VK → Prop}
theorem pe_bm0 (pa : PlainAttrs T) (slot : Slot T name id) (hty : typeOf (.builtin id) = pure (.type "method_descriptor")) (hm : MtR X id r) (ho : PE X o to)
    (hbase : attributeBase o name X.env (eval o X.env) = eval o X.env := by rfl) (hline : (apos.endLine == cpos.line) = true := by rfl) : PE X (.Call (.Attribute o name apos) [] [] cpos) (tBM0 X.K T r to) := by
  intro pins s σ H Q I h
  refine wpAny_Call_method0_late hbase hline (thn (ho pins s σ H _ I h) fun v s1 ⟨x, H1, I1, r1, ty, q1⟩ => ?_)
  obtain ⟨h1, h2⟩ := tyV_is I1 r1 ty
  exact ⟨T, id, pa, slot, hty, h1, h2, Calls.callWith_builtin rfl (PySem.evalArgs_none (hm pins s1 σ H1 x [] v [] Q I1 r1 .nil q1))⟩
theorem pe_bm (pa : PlainAttrs T) (slot : Slot T name id) (hty : typeOf (.builtin id) = pure (.type "method_descriptor")) (hm : MtR X id r) (ho : PE X o to) (ha : PA X (e :: es) t)
    (hbase : attributeBase o name X.env (eval o X.env) = eval o X.env := by rfl)
    (hfew : ((backTo cpos (starEach (e :: es) X.env)).all (fun x => !x.1) && (backToKw cpos (keywordEach [] X.env)).all (fun x => x.1.isSome)
      && decide ((e :: es).length + ([] : List Keyword).length + (if ([] : List Keyword).isEmpty then 0 else 1) < 30)) = true := by rfl)
    (hline : (apos.endLine == cpos.line) = true := by rfl) (hs : starEach (e :: es) X.env = (false, eval e X.env) :: starEach es X.env := by rfl) (hplain : (backTo cpos (starEach es X.env)).any (·.1) = false := by rfl) :
    PE X (.Call (.Attribute o name apos) (e :: es) [] cpos) (tBM X.K T r to t) := by
  intro pins s σ H Q I h
  refine wpAny_Call_method_late hbase hfew hline rfl (thn (ho pins s σ H _ I h) fun v s1 ⟨x, H1, I1, r1, ty, q1⟩ => ?_)
  obtain ⟨h1, h2⟩ := tyV_is I1 r1 ty
  refine ⟨T, id, pa, slot, hty, h1, h2, ?_⟩
  have hA := ha cpos pins s1 σ H1 _ I1 q1
  rw [hs] at hA ⊢
  refine Calls.callWith_builtin (by show (false || (backTo cpos (starEach es X.env)).any (·.1)) = false; rw [hplain] <;> rfl) (Calls.evalArgs_plain ?_)
  exact thn hA fun us s2 ⟨vs, H2, I2, r2, q2⟩ => hm pins s2 σ H2 x vs v us Q I2 r1 r2 q2
end
end L2
namespace L2
open PySem PySem.Spec PyProof.Rows
noncomputable def MtM (X : Cx) (id : String) (r : V → List V → Hp → VK → Prop) : Prop :=
  ∀ (pins : List (Addr × Obj)) (s : Shared) (σ : St) (H : Hp) (x : V) (xs : List V) (v : Value) (us : List Value) (Q : VK), Inv X pins σ H s → RelV x v → Vals xs us → r x xs H Q →
    wpAny (model X.prog X.w) X.A (call (.builtin id) (v :: us)) (EP X pins σ Q) X.xe s
theorem Vals.one : ∀ {x : V} {us : List Value}, Vals [x] us → ∃ u, us = [u] ∧ RelV x u
  | _, _, .cons r .nil => ⟨_, rfl, r⟩
theorem Vals.zero : ∀ {us : List Value}, Vals [] us → us = []
  | _, .nil => rfl
theorem Vals.dropLast {xs : List V} {us : List Value} (h : Vals xs us) : Vals xs.dropLast us.dropLast := by
  induction h with
  | nil => exact .nil
  | cons r t ih =>
    cases t with
    | nil => exact .nil
    | cons q t' => exact .cons r ih
theorem erase_last {α : Type} (l : List α) : l.eraseIdx (l.length - 1) = l.dropLast := by
  induction l with
  | nil => rfl
  | cons a r ih =>
    cases r with
    | nil => rfl
    | cons b r =>
      have e : (a :: b :: r).length - 1 = ((b :: r).length - 1) + 1 := by
        have h1 : (a :: b :: r).length = r.length + 2 := rfl
        have h2 : (b :: r).length = r.length + 1 := rfl
        omega
      rw [e, List.eraseIdx_cons_succ, ih]
      all_goals rfl
section
variable {X : Cx} {pins : List (Addr × Obj)} {σ : St} {H : Hp} {s : Shared} {l b : Addr} {xs ys zs : List V}
theorem Inv.lset {its its' : List Value} {n : Nat} {f : Array Value → Array Value} {t' : Nat} (I : Inv X pins σ H s) (hH : H l = some (.lst xs))
    (e : s.heap.get? l = some { cls := .type "list", data := .seq its.toArray n }) (hf : f its.toArray = its'.toArray) (hv : Vals ys its') (hz : ys.length ≤ sizeLine) :
    Inv X pins σ (upd H l (.lst ys)) { s with heap := s.heap.update l (Obj.mapSeq f), toks := t' } := by
  have q := PySem.IsL.update e f
  rw [hf] at q
  refine I.write (x := l) (e := l) (by rw [hH]; exact trivial) (.inl rfl) (fun b' u hb hu => (Heap.get?_update_other s.heap (Obj.mapSeq f) (Ne.symm hb)).trans hu) ⟨_, q⟩ ?_
  exact ⟨hz, its', _, hv, q⟩
theorem Inv.lstM (I : Inv X pins σ H s) (hH : H l = some (.lst xs)) : xs.length ≤ sizeLine ∧ ∃ (its : List Value) (n : Nat), Vals xs its ∧ xs.length = its.length ∧ s.heap.get? l = some { cls := .type "list", data := .seq its.toArray n } := by
  obtain ⟨z, its, n, r, e⟩ := I.hok l _ hH
  exact ⟨z, its, n, r, r.length, e⟩
end
section
variable {X : Cx}
noncomputable def rAppend : V → List V → Hp → VK → Prop := fun x vs H Q => ∃ l xs y, x = .ref l ∧ vs = [y] ∧ H l = some (.lst xs) ∧ xs.length < sizeLine ∧ Q .non (upd H l (.lst (xs ++ [y])))
theorem mt_append : MtM X "list.append" rAppend := by
  intro pins s σ H x vs v us Q I rx rv h
  obtain ⟨l, xs, y, rfl, rfl, hH, hz, q⟩ := h
  cases rx
  obtain ⟨u, rfl, ru⟩ := rv.one
  obtain ⟨z, its, n, r, hl, e⟩ := I.lstM hH
  refine call_meets F.slot_list_append ⟨_, e, rfl⟩ F.entry_list_append (F.args_list_append_2 _ _) (PySem.list_append l its.toArray n u (by rw [List.size_toArray]; omega)) ⟨e, ?_⟩
  refine ⟨.non, _, I.lset (its' := its ++ [u]) hH e (by simp) (r.append (.cons ru .nil)) ?_, rfl, q⟩
  rw [List.length_append, List.length_singleton]
  omega
noncomputable def rPop : V → List V → Hp → VK → Prop := fun x vs H Q => ∃ l xs y, x = .ref l ∧ vs = [] ∧ H l = some (.lst xs) ∧ xs[xs.length - 1]? = some y ∧ Q y (upd H l (.lst xs.dropLast))
theorem mt_pop : MtM X "list.pop" rPop := by
  intro pins s σ H x vs v us Q I rx rv h
  obtain ⟨l, xs, y, rfl, rfl, hH, hy, q⟩ := h
  cases rx
  have hus := rv.zero
  subst hus
  obtain ⟨z, its, n, r, hl, e⟩ := I.lstM hH
  obtain ⟨u, hu, ru⟩ := r.get hy
  have hy' : its.toArray[its.toArray.size - 1]? = some u := by
    show its.toArray[its.length - 1]? = some u
    rw [← Array.getElem?_toList, ← hl]
    exact hu
  refine call_meets F.slot_list_pop ⟨_, e, rfl⟩ F.entry_list_pop (F.args_list_pop_1 _) (MeetsSeq.list_pop_last l its.toArray n u hy' (by rw [List.size_toArray]; omega)) ⟨e, ?_⟩
  refine ⟨y, _, I.lset (its' := its.dropLast) hH e ?_ r.dropLast ?_, ru, q⟩
  · show its.toArray.eraseIdxIfInBounds (its.toArray.size - 1) = its.dropLast.toArray
    rw [List.size_toArray, List.eraseIdxIfInBounds_toArray, erase_last]
  · rw [List.length_dropLast]
    omega
end
section
variable {prog : Program} {w : World} {A : Around} {E : Value → Shared → Prop} {s : Shared}
end
section
variable {X : Cx}
end
end L2
namespace L2
open PySem PySem.Spec PyProof.Rows
section
variable {κ : Type} [DecidableEq κ]
noncomputable def valV (kvs : List (κ × V)) (k : κ) : Option V := (kvs.find? fun kv => decide (kv.1 = k)).map (·.2)
noncomputable def putK (kvs : List (κ × V)) (k : κ) (v : V) : List (κ × V) :=
  if (kvs.any fun kv => decide (kv.1 = k)) = true then kvs.map (fun kv => if kv.1 = k then (kv.1, v) else kv) else kvs ++ [(k, v)]
noncomputable def dropK (kvs : List (κ × V)) (k : κ) : List (κ × V) := kvs.filter fun kv => decide (kv.1 ≠ k)
theorem valV_pos {p : κ × V} {r : List (κ × V)} {k : κ} (e : p.1 = k) : valV (p :: r) k = some p.2 := by simp [valV, List.find?_cons, e]
theorem valV_neg {p : κ × V} {r : List (κ × V)} {k : κ} (e : ¬ p.1 = k) : valV (p :: r) k = valV r k := by simp [valV, List.find?_cons, e]
theorem valV_any (k : κ) : ∀ kvs : List (κ × V), (kvs.any fun kv => decide (kv.1 = k)) = (valV kvs k).isSome
  | [] => rfl
  | p :: r => by
    rw [List.any_cons]
    by_cases e : p.1 = k
    · simp only [valV_pos e, decide_eq_true e, Bool.true_or, Option.isSome_some]
    · rw [valV_neg e, decide_eq_false e, Bool.false_or]; exact valV_any k r
theorem length_putK (kvs : List (κ × V)) (k : κ) (v : V) : (putK kvs k v).length ≤ kvs.length + 1 := by
  unfold putK
  split
  · rw [List.length_map]; omega
  · rw [List.length_append, List.length_cons, List.length_nil]; omega
theorem putK_new {kvs : List (κ × V)} {k : κ} (v : V) (h : valV kvs k = none) : putK kvs k v = kvs ++ [(k, v)] := by
  unfold putK
  rw [valV_any, h]
  exact if_neg (by decide)
theorem RelO.isSome_eq {o : Option V} {u : Option Value} (r : RelO o u) : o.isSome = u.isSome := by
  cases o with
  | none => cases u with
    | none => rfl
    | some _ => exact (show False from r).elim
  | some _ => cases u with
    | none => exact (show False from r).elim
    | some _ => rfl
theorem KV.val {kvs : List (κ × V)} {vs : List (κ × Value)} (r : KV kvs vs) (k : κ) : RelO (valV kvs k) (valueAt vs k) := by
  unfold KV at r
  induction r with
  | nil => exact True.intro
  | @cons p q ps qs h t ih =>
    obtain ⟨h1, h2⟩ := h
    by_cases e : p.1 = k
    · have e' : q.1 = k := h1.symm.trans e
      have b : valueAt (q :: qs) k = some q.2 := by simp [valueAt, List.find?_cons, e']
      rw [valV_pos e, b]; exact h2
    · have e' : ¬ q.1 = k := fun z => e (h1.trans z)
      have b : valueAt (q :: qs) k = valueAt qs k := by simp [valueAt, List.find?_cons, e']
      rw [valV_neg e, b]; exact ih
theorem KV.any {kvs : List (κ × V)} {vs : List (κ × Value)} (r : KV kvs vs) (k : κ) : (kvs.any fun kv => decide (kv.1 = k)) = vs.any fun kv => decide (kv.1 = k) := by
  unfold KV at r
  induction r with
  | nil => rfl
  | cons h t ih => rw [List.any_cons, List.any_cons, ih, h.1]
theorem KV.repl {kvs : List (κ × V)} {vs : List (κ × Value)} (r : KV kvs vs) (k : κ) {y : V} {u : Value} (ry : RelV y u) :
    KV (kvs.map fun kv => if kv.1 = k then (kv.1, y) else kv) (vs.map fun kv => if kv.1 = k then (kv.1, u) else kv) := by
  unfold KV at r ⊢
  induction r with
  | nil => exact .nil
  | @cons p q ps qs h t ih =>
    rw [List.map_cons, List.map_cons]
    refine .cons ?_ ih
    obtain ⟨h1, h2⟩ := h
    by_cases e : p.1 = k
    · rw [if_pos e, if_pos (h1.symm.trans e)]; exact ⟨h1, ry⟩
    · rw [if_neg e, if_neg (fun z => e (h1.trans z))]; exact ⟨h1, h2⟩
theorem KV.put {kvs : List (κ × V)} {vs : List (κ × Value)} (r : KV kvs vs) (k : κ) {y : V} {u : Value} (ry : RelV y u) : KV (putK kvs k y) (stored vs k u) := by
  unfold putK stored
  rw [r.any k]
  by_cases e : (vs.any fun kv => decide (kv.1 = k)) = true
  · rw [if_pos e, if_pos e]; exact r.repl k ry
  · rw [if_neg e, if_neg e]; exact Paired.snoc r ⟨rfl, ry⟩
theorem KV.length {kvs : List (κ × V)} {vs : List (κ × Value)} (r : KV kvs vs) : kvs.length = vs.length := Paired.length r
end
theorem kV_is {P : Program} {w : World} {k : Key} {u : Value} (r : RelV (kV k) u) : (mixKind P w).is k u = true := by
  cases k with
  | inl i => obtain ⟨t, e⟩ := (show ∃ t, u = Value.int i t from r); subst e; exact mixKind_int P w i t
  | inr x => obtain ⟨t, e⟩ := (show ∃ t, u = Value.str x t from r); subst e; exact mixKind_str P w x t
theorem items_are {P : Program} {w : World} : ∀ {ks : List Key} {us : List Value}, Vals (ks.map kV) us → ItemsAre (mixKind P w) ks us
  | [], _, r => by rw [List.map_nil] at r; cases r; exact .nil
  | k :: ks, _, r => by
    rw [List.map_cons] at r
    cases r with
    | cons h t => exact .cons (kV_is h) (items_are t)
abbrev KT (H : Hp) : List (List Key × V) → List (List Key × Addr × Value) → Prop := Paired fun p q => p.1 = q.1 ∧ H q.2.1 = some (.tup (p.1.map kV)) ∧ RelV p.2 q.2.2
theorem KT.val {H : Hp} {kvs : List (List Key × V)} {xs : List (List Key × Addr × Value)} (r : KT H kvs xs) (k : List Key) : RelO (valV kvs k) ((atKey xs k).map (·.2)) := by
  induction r with
  | nil => exact True.intro
  | @cons p q ps qs h t ih =>
    obtain ⟨h1, _, h2⟩ := h
    by_cases e : p.1 = k
    · have e' : q.1 = k := h1.symm.trans e
      have b : atKey (q :: qs) k = some q.2 := by simp [atKey, List.find?_cons, e']
      rw [valV_pos e, b]; exact h2
    · have e' : ¬ q.1 = k := fun z => e (h1.trans z)
      have b : atKey (q :: qs) k = atKey qs k := by simp [atKey, List.find?_cons, e']
      rw [valV_neg e, b]; exact ih
theorem KT.repl {H : Hp} {kvs : List (List Key × V)} {xs : List (List Key × Addr × Value)} (r : KT H kvs xs) (k : List Key) {y : V} {u : Value} (ry : RelV y u) :
    KT H (kvs.map fun kv => if kv.1 = k then (kv.1, y) else kv) (xs.map (putAt k u)) := by
  induction r with
  | nil => exact .nil
  | @cons p q ps qs h t ih =>
    rw [List.map_cons, List.map_cons]
    refine .cons ?_ ih
    obtain ⟨h1, h2, h3⟩ := h
    unfold putAt
    by_cases e : p.1 = k
    · rw [if_pos e, if_pos (h1.symm.trans e)]; exact ⟨h1, h2, ry⟩
    · rw [if_neg e, if_neg (fun z => e (h1.trans z))]; exact ⟨h1, h2, h3⟩
theorem KT.put {H : Hp} {kvs : List (List Key × V)} {xs : List (List Key × Addr × Value)} (r : KT H kvs xs) (k : List Key) {b : Addr} {y : V} {u : Value} (hb : H b = some (.tup (k.map kV))) (ry : RelV y u) :
    KT H (putK kvs k y) (storedH xs k b u) := by
  have e : (kvs.any fun kv => decide (kv.1 = k)) = (atKey xs k).isSome := by
    rw [valV_any, (r.val k).isSome_eq, Option.isSome_map]
  unfold putK storedH
  rw [e]
  by_cases q : (atKey xs k).isSome = true
  · rw [if_pos q, if_pos q]; exact r.repl k ry
  · rw [if_neg q, if_neg q]; exact Paired.snoc r ⟨rfl, hb, ry⟩
theorem KT.keeps {H H' : Hp} {kvs : List (List Key × V)} {xs : List (List Key × Addr × Value)} (r : KT H kvs xs) (ht : ∀ b ys, H b = some (.tup ys) → H' b = some (.tup ys)) : KT H' kvs xs :=
  Paired.mapP r fun _ _ z => ⟨z.1, ht _ _ z.2.1, z.2.2⟩
section
variable {P : Program} {w : World} {H : Hp} {h : Heap} {a : Addr}
theorem rd_of {u : HO} (ok : HOk P w H h) (e : Rd H a u) : ObjOk P w H h a u := e.ok ok
theorem dk_rd {kvs : List (Key × V)} (ok : HOk P w H h) (e : Rd H a (.dK kvs)) : kvs.length ≤ sizeLine ∧ (a == sysModules) = false ∧ ∃ vs, KV kvs vs ∧ h.DictOf (mixKind P w) a vs :=
  show ObjOk P w H h a (.dK kvs) from rd_of ok e
theorem dk_of {kvs : List (Key × V)} (ok : HOk P w H h) (e : H a = some (.dK kvs)) : kvs.length ≤ sizeLine ∧ (a == sysModules) = false ∧ ∃ vs, KV kvs vs ∧ h.DictOf (mixKind P w) a vs := dk_rd ok (.inl e)
theorem key_of {ks : List Key} (ok : HOk P w H h) (e : H a = some (.tup (ks.map kV))) : (tupleKind (mixKind P w)).is h ks a := by
  obtain ⟨_, its, r, o, h1, h2, n, h3⟩ := (show ObjOk P w H h a (.tup (ks.map kV)) from ok a _ e)
  exact ⟨o, its.toArray, n, h1, h2, h3, by simpa using items_are r⟩
theorem dt_rd {kvs : List (List Key × V)} (ok : HOk P w H h) (e : Rd H a (.dT kvs)) : kvs.length ≤ sizeLine ∧ (a == sysModules) = false ∧
    ∃ xs, KT H kvs xs ∧ h.DictOfH (tupleKind (mixKind P w)) a xs := by
  obtain ⟨z, y, xs, r, o, es, ep, h1, h2, h3, h4, h5⟩ := (show ObjOk P w H h a (.dT kvs) from rd_of ok e)
  refine ⟨z, y, xs, r, o, es, ep, h1, h2, h3, h4, fun x hx => ?_, h5⟩
  have all : ∀ {l : List (List Key × V)} {m : List (List Key × Addr × Value)}, KT H l m → ∀ x ∈ m, (tupleKind (mixKind P w)).is h x.1 x.2.1 := by
    intro l m q
    induction q with
    | nil => intro x hx; exact nomatch hx
    | @cons p q ps qs hq t ih =>
      intro x hx
      rcases List.mem_cons.mp hx with e | hx
      · subst e
        exact key_of ok (by rw [← hq.1]; exact hq.2.1)
      · exact ih x hx
  exact all r x hx
theorem dt_of {kvs : List (List Key × V)} (ok : HOk P w H h) (e : H a = some (.dT kvs)) : kvs.length ≤ sizeLine ∧ (a == sysModules) = false ∧
    ∃ xs, KT H kvs xs ∧ h.DictOfH (tupleKind (mixKind P w)) a xs := dt_rd ok (.inl e)
end
noncomputable def DGet (H : Hp) (a : Addr) (y : V) (r : Option V) : Prop :=
  (∃ kvs k, Rd H a (.dK kvs) ∧ y = kV k ∧ r = valV kvs k) ∨ ∃ kvs k b, Rd H a (.dT kvs) ∧ y = .ref b ∧ H b = some (.tup (k.map kV)) ∧ r = valV kvs k
noncomputable def DPut (H : Hp) (a : Addr) (y v : V) (H' : Hp) : Prop :=
  (∃ kvs k, H a = some (.dK kvs) ∧ y = kV k ∧ kvs.length < sizeLine ∧ H' = upd H a (.dK (putK kvs k v))) ∨
  ∃ kvs k b, H a = some (.dT kvs) ∧ y = .ref b ∧ H b = some (.tup (k.map kV)) ∧ kvs.length < sizeLine ∧ H' = upd H a (.dT (putK kvs k v))
theorem DPut.k {H : Hp} {a : Addr} {kvs : List (Key × V)} {k : Key} {v : V} (e : H a = some (.dK kvs)) (hl : kvs.length < sizeLine) : DPut H a (kV k) v (upd H a (.dK (putK kvs k v))) := .inl ⟨kvs, k, e, rfl, hl, rfl⟩
section
variable {X : Cx} {pins : List (Addr × Obj)} {σ : St} {H : Hp} {s : Shared} {a : Addr} {y v : V} {u r : Value} {o : Option V} {A : Around} {E : Value → Shared → Prop}
theorem Inv.big (I : Inv X pins σ H s) : sysModules < s.heap.objs.size := by
  have h : mainGlobals < s.heap.objs.size := (I.mod.glob.keeps I.bk).lt
  exact Nat.lt_trans (by decide) h
theorem d_getItem {Q : Value → Shared → Prop} (hu : A.units + 1 < cLine) (I : Inv X pins σ H s) (g : DGet H a y (some v)) (ry : RelV y u) (h : ∀ w' s', Inv X pins σ H s' → RelV v w' → Q w' s') :
    wpAny (model X.prog X.w) A (getItem (.ref a) u) Q E s := by
  rcases g with ⟨kvs, k, e, ey, l⟩ | ⟨kvs, k, b, e, ey, eb, l⟩
  · subst ey
    obtain ⟨z, hd, vs, rel, dd⟩ := dk_rd I.hok e
    obtain ⟨w', hw, rw'⟩ := RelO.some_of (v := v) (o := valueAt vs k) (by rw [l]; exact rel.val k)
    exact wpAny_getItem_of (kV_is ry) dd.mapOf hw (h w' _ (I.tok _) rw')
  · subst ey
    cases (show u = Value.ref b from ry)
    obtain ⟨z, hd, xs, rel, dd⟩ := dt_rd I.hok e
    obtain ⟨w', hw, rw'⟩ := RelO.some_of (v := v) (o := (atKey xs k).map (·.2)) (by rw [l]; exact rel.val k)
    obtain ⟨p, hp, hp2⟩ := Option.map_eq_some_iff.mp hw
    refine wpAny_getItem_heap (tupleKind_room_in1 hu) (key_of I.hok eb) dd hp ?_
    rw [hp2]
    exact h w' _ (I.tok _) rw'
theorem d_in {Q : Value → Shared → Prop} (hu : A.units + 1 < cLine) (I : Inv X pins σ H s) (g : DGet H a y o) (ry : RelV y u) (h : ∀ s', Inv X pins σ H s' → Q (.bool o.isSome) s') :
    wpAny (model X.prog X.w) A (compareOp .In u (.ref a)) Q E s := by
  rcases g with ⟨kvs, k, e, ey, l⟩ | ⟨kvs, k, b, e, ey, eb, l⟩
  · subst ey
    obtain ⟨z, hd, vs, rel, dd⟩ := dk_rd I.hok e
    refine wpAny_in_of (kV_is ry) hd dd.mapOf ?_
    rw [← (rel.val k).isSome_eq, ← l]
    exact h _ (I.tok _)
  · subst ey
    cases (show u = Value.ref b from ry)
    obtain ⟨z, hd, xs, rel, dd⟩ := dt_rd I.hok e
    refine wpAny_in_heap (tupleKind_room_in1 hu) (key_of I.hok eb) hd dd ?_
    have q := (rel.val k).isSome_eq
    rw [Option.isSome_map] at q
    rw [← q, ← l]
    exact h _ (I.tok _)
theorem d_notIn {Q : Value → Shared → Prop} (hu : A.units + 1 < cLine) (I : Inv X pins σ H s) (g : DGet H a y o) (ry : RelV y u) (h : ∀ s', Inv X pins σ H s' → Q (.bool (!o.isSome)) s') :
    wpAny (model X.prog X.w) A (compareOp .NotIn u (.ref a)) Q E s := by
  rcases g with ⟨kvs, k, e, ey, l⟩ | ⟨kvs, k, b, e, ey, eb, l⟩
  · subst ey
    obtain ⟨z, hd, vs, rel, dd⟩ := dk_rd I.hok e
    refine wpAny_notIn_of (kV_is ry) hd dd.mapOf ?_
    rw [← (rel.val k).isSome_eq, ← l]
    exact h _ (I.tok _)
  · subst ey
    cases (show u = Value.ref b from ry)
    obtain ⟨z, hd, xs, rel, dd⟩ := dt_rd I.hok e
    refine wpAny_notIn_heap (tupleKind_room_in1 hu) (key_of I.hok eb) hd dd ?_
    have q := (rel.val k).isSome_eq
    rw [Option.isSome_map] at q
    rw [← q, ← l]
    exact h _ (I.tok _)
theorem d_write {h' : Heap} {t' : Nat} {ob : HO} (I : Inv X pins σ H s) (mu : Mut (H a)) (hs : Heap.SameBut a s.heap h') (he : ∃ q, h'.get? a = some q) (new : ObjOk X.prog X.w (upd H a ob) h' a ob) :
    Inv X pins σ (upd H a ob) { s with heap := h', toks := t' } :=
  I.write (x := a) (e := a) mu (.inl rfl) (fun b q hb z => (hs.2 b hb).trans z) he new
theorem dk_new {P : Program} {w : World} {H' : Hp} {h' : Heap} {kvs : List (Key × V)} {vs : List (Key × Value)} (z : kvs.length ≤ sizeLine) (hd : (a == sysModules) = false) (rel : KV kvs vs) (dd : h'.DictOf (mixKind P w) a vs) :
    ObjOk P w H' h' a (.dK kvs) := ⟨z, hd, vs, rel, dd⟩
theorem d_setItem {H' : Hp} {Q : Unit → Shared → Prop} (hu : A.units + 1 < cLine) (I : Inv X pins σ H s) (g : DPut H a y v H') (ry : RelV y u) (rv : RelV v r) (h : ∀ s', Inv X pins σ H' s' → Q () s') :
    wpAny (model X.prog X.w) A (setItem (.ref a) u r) Q E s := by
  rcases g with ⟨kvs, k, e, ey, l, eH⟩ | ⟨kvs, k, b, e, ey, eb, l, eH⟩
  · subst ey eH
    obtain ⟨z, hd, vs, rel, dd⟩ := dk_of I.hok e
    have hz : vs.length ≤ sizeLine := by rw [← rel.length]; exact z
    have hl : (putK kvs k v).length ≤ sizeLine := by have := length_putK kvs k v; omega
    refine wpAny_setItem_pairs (hsz := hz) (kV_is ry) dd fun h' dd' hs => h _ ?_
    have he : ∃ q, h'.get? a = some q := let ⟨q, _, _, hq, _⟩ := dd'; ⟨q, hq⟩
    exact d_write I (by rw [e]; exact True.intro) hs he (dk_new hl hd (rel.put k rv) dd')
  · subst ey eH
    cases (show u = Value.ref b from ry)
    obtain ⟨z, hd, xs, rel, dd⟩ := dt_of I.hok e
    have hz : xs.length ≤ sizeLine := by rw [← Paired.length rel]; exact z
    have hl : (putK kvs k v).length ≤ sizeLine := by have := length_putK kvs k v; omega
    refine wpAny_setItem_heap (hsz := hz) (tupleKind_room_in1 hu) (key_of I.hok eb) dd fun h' dd' hs => h _ ?_
    obtain ⟨q, es, ep, hq, h2, h3, h4, _, h5⟩ := dd'
    refine d_write I (by rw [e]; exact True.intro) hs ⟨q, hq⟩ ⟨hl, hd, _, (rel.put k eb rv).keeps fun c ys ec => ?_, q, es, ep, hq, h2, h3, h4, h5⟩
    rw [upd_ne (ne_of ec e (fun z => nomatch z))]
    exact ec
end
section
variable {X : Cx} {pins : List (Addr × Obj)} {σ : St} {H : Hp} {s : Shared} {a : Addr} {kvs : List (Key × V)} {k : Key} {u : Value} {A : Around} {E : Value → Shared → Prop}
theorem d_len {Q : Value → Shared → Prop} (I : Inv X pins σ H s) (e : Rd H a (.dK kvs)) (h : ∀ t s', Inv X pins σ H s' → Q (.int kvs.length t) s') : wpAny (model X.prog X.w) A (call (.builtin "len") [.ref a]) Q E s := by
  obtain ⟨z, hd, vs, rel, dd⟩ := dk_rd I.hok e
  refine call_len_dict hd dd (by rw [← rel.length]; rw [sizeLine_eq] at z; omega) ?_
  rw [← rel.length]
  exact h _ _ (I.tok _)
end
noncomputable def NoSl (i : Expr) : Prop := ∀ ov iv, subscripted i false ov iv = operate [ov, iv] (getItem ov iv)
theorem subD_of {prog : Program} {w : World} {A : Around} {E : Value → Shared → Prop} {s : Shared} {env : Env} {value slice : Expr} {pos : Pos} {T id : String} {Q : Value → Shared → Prop}
    (hl : typeLookup (.type T) "__getitem__" = pure (some (.builtin id))) (hs : NoSl slice)
    (h : wpAny (model prog w) A (eval value env) (fun o s₁ => wpAny (model prog w) A (eval slice env) (fun i s₂ => s₂.TypeIs o T ∧ wpAny (model prog w) A (getItem o i) Q E s₂) E s₁) E s) :
    wpAny (model prog w) A (eval (.Subscript value slice pos) env) Q E s := by
  refine Subscript_ (wpAny_mono h (fun o s₁ h₁ => wpAny_mono h₁ (fun i s₂ h₂ => ?_) fun _ _ x => x) fun _ _ x => x)
  obtain ⟨hT, h₂⟩ := h₂
  unfold subscriptTail
  refine wpAny_bind ?_
  rw [getitemInPython_of_ne hT.not_modules]
  refine wpAny_bind (wpAny_specialOf hT hl ?_)
  have fin : wpAny (model prog w) A (subscripted slice false o i) (fun r s₃ => wpAny (model prog w) A (letTemporaryGo value o r >>= fun _ => pure r) Q E s₃) E s₂ := by
    rw [hs o i]
    exact wpAny_operating (wpAny_mono h₂ (fun r s₃ h₃ => wpAny_bind (wpAny_letTemporaryGo (wpAny_pure h₃))) fun _ _ x => x)
  first
    | exact wpAny_pure (wpAny_bind fin)
    | exact wpAny_bind (wpAny_pure (wpAny_bind fin))
    | exact wpAny_bind fin
theorem dict_typeIs {X : Cx} {pins : List (Addr × Obj)} {σ : St} {H : Hp} {s : Shared} {a : Addr} {y : V} {o : Option V} (I : Inv X pins σ H s) (g : DGet H a y o) : s.TypeIs (.ref a) "dict" := by
  rcases g with ⟨kvs, k, e, _, _⟩ | ⟨kvs, k, b, e, _, _, _⟩
  · obtain ⟨_, _, vs, _, dd⟩ := dk_rd I.hok e
    exact dd.typeIs
  · obtain ⟨_, _, xs, _, dd⟩ := dt_rd I.hok e
    exact dd.typeIs
noncomputable def tDGet (td ty : TE) : TE := fun σ H Q => td σ H fun x H1 => ty σ H1 fun y H2 => ∃ a v, x = .ref a ∧ DGet H2 a y (some v) ∧ Q v H2
noncomputable def tDIn (ty td : TE) : TE := fun σ H Q => ty σ H fun y H1 => td σ H1 fun x H2 => ∃ a o, x = .ref a ∧ DGet H2 a y o ∧ Q (.bl o.isSome) H2
noncomputable def tDNotIn (ty td : TE) : TE := fun σ H Q => ty σ H fun y H1 => td σ H1 fun x H2 => ∃ a o, x = .ref a ∧ DGet H2 a y o ∧ Q (.bl (!o.isSome)) H2
noncomputable def sDPut (td ty tv : TE) : TS := fun D σ H => tv σ H fun v H1 => td σ H1 fun x H2 => ty σ H2 fun y H3 => ∃ a H4, x = .ref a ∧ DPut H3 a y v H4 ∧ D.nx σ H4
section
variable {X : Cx} {o i e value : Expr} {pos pos' tpos : Pos} {td ty tv : TE}
theorem pe_dget (hu : X.A.units + 1 < cLine) (ho : PE X o td) (hi : PE X i ty) (hs : NoSl i) : PE X (.Subscript o i pos) (tDGet td ty) := by
  intro pins s σ H Q I h
  refine subD_of PySem.F.slot_dict_getitem.lookup hs (thn (ho pins s σ H _ I h) fun u s1 ⟨x, H1, I1, rx, q1⟩ => thn (hi pins s1 σ H1 _ I1 q1) fun iv s2 ⟨y, H2, I2, ry, a, v, ex, g, q2⟩ => ?_)
  subst ex
  obtain rfl : u = Value.ref a := rx
  exact ⟨dict_typeIs I2 g, d_getItem hu I2 g ry fun w' s3 I3 rw' => ⟨v, H2, I3, rw', q2⟩⟩
theorem pc_din (hu : X.A.units + 1 < cLine) (hi : PE X i ty) (ho : PE X o td) : PC X .In i o (tDIn ty td) := by
  intro pins s σ H Q I h
  refine thn (hi pins s σ H _ I h) fun iv s1 ⟨y, H1, I1, ry, q1⟩ => thn (ho pins s1 σ H1 _ I1 q1) fun u s2 ⟨x, H2, I2, rx, a, ov, ex, g, q2⟩ => ?_
  subst ex
  obtain rfl : u = Value.ref a := rx
  exact d_in hu I2 g ry fun s3 I3 => ⟨.bl ov.isSome, H2, I3, rfl, q2⟩
theorem pc_dnotin (hu : X.A.units + 1 < cLine) (hi : PE X i ty) (ho : PE X o td) : PC X .NotIn i o (tDNotIn ty td) := by
  intro pins s σ H Q I h
  refine thn (hi pins s σ H _ I h) fun iv s1 ⟨y, H1, I1, ry, q1⟩ => thn (ho pins s1 σ H1 _ I1 q1) fun u s2 ⟨x, H2, I2, rx, a, ov, ex, g, q2⟩ => ?_
  subst ex
  obtain rfl : u = Value.ref a := rx
  exact d_notIn hu I2 g ry fun s3 I3 => ⟨.bl (!ov.isSome), H2, I3, rfl, q2⟩
theorem ps_dput (hu : X.A.units + 1 < cLine) (ho : PE X o td) (hi : PE X i ty) (hv : PE X value tv) (hs : swapsWith value (some (.Subscript o i pos')) pos.line X.env = pure false) :
    PS X (.Assign [.Subscript o i pos'] value pos) (sDPut td ty tv) := by
  intro pins s σ H D I h
  refine wpAny_Assign_Subscript (thn (hv pins s σ H _ I h) fun r s1 ⟨v, H1, I1, rv, q1⟩ => thn (ho pins s1 σ H1 _ I1 q1) fun u s2 ⟨x, H2, I2, rx, q2⟩ => thn (hi pins s2 σ H2 _ I2 q2) fun iv s3 ⟨y, H3, I3, ry, a, H4, ex, g, q3⟩ => ?_) hs
  subst ex
  obtain rfl : u = Value.ref a := rx
  exact d_setItem hu I3 g ry rv fun s4 I4 => ⟨σ, H4, I4, q3⟩
end
theorem dk_empty {P : Program} {w : World} {H : Hp} (h : Heap) (hb : sysModules < h.objs.size) : ObjOk P w H (h.push { cls := .type "dict", data := .dict #[] }) h.objs.size (.dK []) :=
  ⟨Nat.zero_le _, beq_eq_false_iff_ne.mpr (Ne.symm (Nat.ne_of_lt hb)), [], .nil, Heap.DictOf.new h⟩
noncomputable def tDNewK : TE := fun _ H Q => ∀ p, H p = none → Q (.ref p) (upd H p (.dK []))
section
variable {X : Cx} {pos : Pos}
theorem pe_dnewK : PE X (.Dict [] [] pos) tDNewK := fun pins s σ H Q I h =>
  wpAny_Dict_empty ⟨.ref s.heap.objs.size, _, I.laid (a := s.heap.objs.size) (o := .dK []) (t' := s.toks) (fun _ _ q => Heap.get?_push_of_some _ q) (Nat.le_refl _) (dk_empty s.heap I.big), rfl, h _ (I.hok.fresh (Nat.le_refl _))⟩
end
abbrev VV : List (V × V) → List (Value × Value) → Prop := Paired fun p q => RelV p.1 q.1 ∧ RelV p.2 q.2
structure M1 (X : Cx) (o : Expr) (m : Str) (apos : Pos) (e : Expr) (cpos : Pos) : Prop where
  base : attributeBase o m X.env (eval o X.env) = eval o X.env
  few : ((backTo cpos (starEach [e] X.env)).all (fun x => !x.1) && (backToKw cpos (keywordEach [] X.env)).all (fun x => x.1.isSome)
    && decide (([e] : List Expr).length + ([] : List Keyword).length + (if ([] : List Keyword).isEmpty then 0 else 1) < 30)) = true
  line : (apos.endLine == cpos.line) = true
  trees : backTo cpos (starEach [e] X.env) = [(false, eval e X.env)]
structure M2 (X : Cx) (o : Expr) (m : Str) (apos : Pos) (e f : Expr) (cpos : Pos) : Prop where
  base : attributeBase o m X.env (eval o X.env) = eval o X.env
  few : ((backTo cpos (starEach [e, f] X.env)).all (fun x => !x.1) && (backToKw cpos (keywordEach [] X.env)).all (fun x => x.1.isSome)
    && decide (([e, f] : List Expr).length + ([] : List Keyword).length + (if ([] : List Keyword).isEmpty then 0 else 1) < 30)) = true
  line : (apos.endLine == cpos.line) = true
  trees : backTo cpos (starEach [e, f] X.env) = [(false, eval e X.env), (false, eval f X.env)]
noncomputable def IsD (H : Hp) (a : Addr) : Prop := (∃ kvs, Rd H a (.dK kvs)) ∨ ∃ kvs, Rd H a (.dT kvs)
section
variable {X : Cx} {pins : List (Addr × Obj)} {σ : St} {H : Hp} {s : Shared} {a : Addr} {y d : V} {u r : Value} {o : Option V} {A : Around} {E : Value → Shared → Prop}
end
noncomputable def tDGet1 (td ty : TE) : TE := fun σ H Q => td σ H fun x H1 => ∃ a, x = .ref a ∧ IsD H1 a ∧ ty σ H1 fun y H2 => ∃ o, DGet H2 a y o ∧ Q (o.getD .non) H2
noncomputable def tDGet2 (td ty tx : TE) : TE := fun σ H Q => td σ H fun x H1 => ∃ a, x = .ref a ∧ IsD H1 a ∧ ty σ H1 fun y H2 => tx σ H2 fun z H3 => ∃ o, DGet H3 a y o ∧ Q (o.getD z) H3
noncomputable def tDPop1 (td ty : TE) : TE := fun σ H Q => td σ H fun x H1 => ∃ a, x = .ref a ∧ IsD H1 a ∧ ty σ H1 fun y H2 => ∃ kvs k v, H2 a = some (.dK kvs) ∧ y = kV k ∧ valV kvs k = some v ∧ Q v (upd H2 a (.dK (dropK kvs k)))
section
variable {X : Cx} {o e f : Expr} {apos cpos : Pos} {td ty tx : TE}
end
section
variable {X : Cx} {pins : List (Addr × Obj)} {σ : St} {H : Hp} {s : Shared} {a : Addr} {kvs : List (Key × V)} {A : Around} {E : Value → Shared → Prop}
end
section
variable {X : Cx} {pins : List (Addr × Obj)} {σ : St} {H : Hp} {s : Shared} {a : Addr} {y : V} {u : Value} {A : Around} {E : Value → Shared → Prop}
end
end L2
namespace Att
open PySem PySem.W PySem.Calls PyProof.Rows
theorem ints_of_wellAll {P : Params} {h : Heap} : ∀ (ns : List Int) (vs : List Value), WellAll P h vs (ns.map WData.int) → IntsAre vs ns := by
  intro ns
  induction ns with
  | nil =>
    intro vs w
    rw [List.map_nil] at w
    cases w
    exact .nil
  | cons n ns ih =>
    intro vs w
    rw [List.map_cons] at w
    cases w with
    | cons a b =>
      cases a
      exact .cons _ _ (ih _ b)
theorem script_of {l : OpenLaw} {n : Nat} (hn : l.most = some n) {P : Params} {h : Heap} {args : List WData} {vals : List Value}
    (hpre : l.row.toRowW.claim.pre args = true) (hwl : WellAll P h vals args) :
    ∃ a vs ns, vals = [Value.ref a] ∧ args = [WData.list (ns.map WData.int)] ∧ h.get? a = some { cls := .type "list", data := .seq vs.toArray } ∧ IntsAre vs ns ∧ ns.length ≤ n := by
  have hsh : WShape.hasAll [] args [.list .int] = true := (pre_splitW hpre).1
  have hc : l.pre.holds [] { args := args } = true := (pre_splitW hpre).2
  obtain ⟨d, r, rfl, h1, h2⟩ := hasAllW_cons hsh
  obtain rfl := hasAllW_nil h2
  obtain ⟨xs, rfl, h3⟩ := hasW_list h1
  obtain ⟨ns, rfl⟩ := items_int h3
  have hlen : ns.length ≤ n := by
    unfold OpenLaw.pre at hc
    have h4 : (WTm.not (.lt (.lit (.int (n : Int))) (.len (.arg 0)))).holds [] { args := [.list (ns.map .int)] } = true := by
      have h4 := (holds_andW hc).1
      rw [hn] at h4
      exact h4
    have h5 := condW_of h4 (w_not (w_lt w_lit (w_len_list (w_arg rfl))))
    rw [List.length_map] at h5
    refine Nat.le_of_not_lt fun q => ?_
    have q' : (n : Int) < ((ns.length : Nat) : Int) := by omega
    first
      | (rw [decide_eq_true q'] at h5; exact absurd h5 (by decide))
      | (simp at h5; omega)
  cases hwl with
  | cons w1 w2 =>
    cases w2
    cases w1 with
    | list ho hall => exact ⟨_, _, ns, rfl, rfl, ho, ints_of_wellAll ns _ hall, hlen⟩
theorem post_true (l : OpenLaw) (args : List WData) : l.row.toRowW.claim.post args (.bool true) args = true :=
  postW_of (r := l.row.toRowW) (X := (true == true))
    (show WShape.has [] (.bool true) .bool = true by first | rfl | decide | simp [WShape.has, WShape.arms, WShape.armsAll])
    (show (WTm.eq .res (.lit (.bool true))).value [] { args := args, res := some (.bool true), after := args } = some (.bool (true == true)) from w_eq_bool (w_res rfl) w_lit) rfl
theorem attach_call {l : OpenLaw} {n : Nat} {q : Program} {loose : List Str} {XP : (Str → Option Value) → Heap → Prop} {YP : World → Heap → Prop} {d : DefRec}
    (hn : l.most = some n) (hdf : d.params.defaults = [])
    (call : ∀ (w : World) (s₀ s₁ : Shared) (mg mb : Str → Option Value) (fa : Addr) (o : Obj) (pm cd doc : Value) (a : Addr) (vs : List Value) (ns : List Int),
      Ground q loose [] XP w s₀ mg mb s₁.heap → YP w s₁.heap →
      s₁.heap.get? fa = some o → o.data = .func (docDef d.name d.params d.body d.scope pm cd doc) → s₁.heap.CodeRec cd d.name → mg d.name = some (.ref fa) →
      s₁.heap.get? a = some { cls := .type "list", data := .seq vs.toArray } → IntsAre vs ns → ns.length ≤ n → s₁.gens = #[] →
      codeAny (model l.prog w) callerA (.call (.ref fa) ⟨[.ref a], []⟩) (fun r s' => r = .ok (.ret (.bool true)) ∧ OldK s₁.heap s'.heap ∧ s'.os = s₁.os ∧ AllBare s'.gens) s₁) :
    WalkO q loose XP YP l.row.toRowW d [] (fun f vs => PySem.call f vs) := by
  intro w s₀ s₁ mg mb G Y fa o pm cd doc dV kV ho hd hcd hD hmg hg args vals as hpre hlay hrd hwl hlo
  obtain rfl : dV = .none := Dflts.none hD hdf
  obtain rfl : kV = .none := Dflts.noKw hD
  obtain ⟨a, vs, ns, rfl, rfl, hobj, hints, hlen⟩ := script_of hn hpre hwl
  refine enter_call (codeAny_mono (call w s₀ s₁ mg mb fa o pm cd doc a vs ns G Y ho (fd_plain hd) hcd hmg hobj hints hlen hg) fun r s' hq => ?_)
  obtain ⟨rfl, h2, h3, h4⟩ := hq
  exact ⟨.inl ⟨.bool true, .bool true, [], rfl, fun _ => rfl, .bool true, post_true l _, fun _ => ⟨List.Pairwise.nil, fun _ hm => (nomatch hm)⟩⟩, h2, h3, h4⟩
section
variable {prog : Program} {w : World} {A : Around} {E : Value → Shared → Prop} {s : Shared} {K : Frag}
noncomputable def noObjs (h : Heap) : Heap := { h with objs := #[] }
theorem noObjs_get (h : Heap) (b : Addr) : (noObjs h).get? b = none := by
  cases e : (noObjs h).get? b with
  | none => rfl
  | some o => exact absurd (Heap.lt_size e) (Nat.not_lt_zero _)
noncomputable def ledger (h : Heap) (L d : Addr) : List (Addr × Obj) := (List.range h.objs.size).filterMap fun a => if a = L ∨ a = d then none else (h.get? a).map fun o => (a, o)
theorem mem_ledger {h : Heap} {L d a : Addr} {o : Obj} : (a, o) ∈ ledger h L d ↔ a ≠ L ∧ a ≠ d ∧ h.get? a = some o := by
  unfold ledger
  rw [List.mem_filterMap]
  constructor
  · rintro ⟨b, _, e⟩
    split at e
    · cases e
    · rename_i hb
      obtain ⟨o', ho, e'⟩ := Option.map_eq_some_iff.mp e
      cases e'
      exact ⟨fun q => hb (.inl q), fun q => hb (.inr q), ho⟩
  · rintro ⟨n1, n2, ho⟩
    refine ⟨a, List.mem_range.mpr (Heap.lt_size ho), ?_⟩
    rw [if_neg (show ¬ (a = L ∨ a = d) from fun q => q.elim n1 n2), ho] <;> rfl
theorem fr_all {h : Heap} {L : Addr} {m : Str → Option Value} (n : h.Ns L m) : Fr (noObjs h) L h m :=
  ⟨n, fun b o e => (by rw [noObjs_get] at e; cases e), Nat.zero_le _⟩
end
end Att
namespace L2
open PySem PySem.Spec PyProof.Rows
theorem vals_ints : ∀ {vs : List Value} {ns : List Int}, IntsAre vs ns → Vals (ns.map V.int) vs
  | _, _, .nil => .nil
  | _, _, .cons n t h => .cons ⟨t, rfl⟩ (vals_ints h)
end L2
namespace L2
open PySem PySem.Spec PyProof.Rows
abbrev KOf {K : PySem.W.Frag} {h : Heap} (_ : K.In h) : PySem.W.Frag := K
end L2
namespace L2
open PySem PySem.Spec PyProof.Rows
noncomputable def defArgs (s : Stmt) : Arguments := match s with
  | .FunctionDef _ a _ _ _ _ _ _ _ _ => a
  | _ => { posonlyargs := [], args := [], vararg := none, kwonlyargs := [], kw_defaults := [], kwarg := none, defaults := [] }
noncomputable def defBody (s : Stmt) : List Stmt := match s with
  | .FunctionDef _ _ b _ _ _ _ _ _ _ => b
  | _ => []
noncomputable def defScope (s : Stmt) : Scope := match s with
  | .FunctionDef _ _ _ _ _ _ sc _ _ _ => sc
  | _ => { kind := .function, names := [], isGenerator := false, isCoroutine := false }
abbrev CX0 : CXT := fun _ _ _ _ _ _ => False
abbrev E0 : XK := fun _ _ _ => False
structure Fun (K : PySem.W.Frag) (x qual : Str) (st : Stmt) (f : Addr) (fd : FuncData) : Prop where
  ex : ∃ (oc : Value) (od : Option Addr) (kV doc pm : Value) (an : Option Addr) (cdv ct : Value) (osl : Array (Option Value)),
    fd = PySem.W.fnOf x qual (defArgs st) (defBody st) (defScope st) .none kV doc pm an cdv ct ∧ K.lookup f = some ⟨oc, od, .func fd, osl⟩ ∧ PySem.W.codeIn K cdv qual = true
  kp : PySem.W.keepIn K (.ref f) = true
section
variable {P : Program} {w : World} {K : PySem.W.Frag} {mg : Str → Option Value} {base : Heap}
theorem Fun.binds {x qual : Str} {st : Stmt} {f : Addr} {fd : FuncData} {ps : List Str} (F : Fun K x qual st f fd)
    (h : ∀ (kV doc pm : Value) (an : Option Addr) (cdv ct : Value) (us : List Value), us.length = ps.length → bindArgs (PySem.W.fnOf x qual (defArgs st) (defBody st) (defScope st) .none kV doc pm an cdv ct) ⟨us, []⟩ = pure (ps.zip us)) : Binds K fd ps [] := by
  obtain ⟨oc, od, kV, doc, pm, an, cdv, ct, osl, rfl, lk, hcd⟩ := F.ex
  exact .all (h kV doc pm an cdv ct)
theorem fun_mk {x qual : Str} {st : Stmt} {f : Addr} {oc : Value} {od an : Option Addr} {osl : Array (Option Value)} {kV doc pm cdv ct : Value} (l : K.lookup f = some ⟨oc, od, .func (PySem.W.fnOf x qual (defArgs st) (defBody st) (defScope st) .none kV doc pm an cdv ct), osl⟩)
    (c : PySem.W.codeIn K cdv qual = true) (k : PySem.W.keepIn K (.ref f) = true) : Fun K x qual st f (PySem.W.fnOf x qual (defArgs st) (defBody st) (defScope st) .none kV doc pm an cdv ct) := ⟨⟨oc, od, kV, doc, pm, an, cdv, ct, osl, rfl, l, c⟩, k⟩
end
theorem hu_of {A : Around} {k : Nat} (hr : Room k A) : A.units + 1 < cLine := Nat.lt_of_le_of_lt (Nat.add_le_add_left (by decide : 1 ≤ 64) _) hr.units
section
variable {X : Cx}
theorem pv (i : Nat) {x : Str} {pos : Pos} (hN : X.N[i]? = some x := by rfl) (hv : Vis X.env.scope x := by first | exact Or.inl rfl | exact Or.inr (Or.inl rfl) | exact Or.inr (Or.inr rfl)) (hd : (x == ("__debug__" : Str)) = false := by decide)
    (hcd : (x == ("__classdict__" : Str)) = false := by decide) : PE X (.Name x pos) (tVar i) := pe_var hN hv hd hcd
end
theorem iteT {A B : Prop} (h : A) : if true = true then A else B := by
  rw [if_pos rfl]
  exact h
theorem ite2 {c A B : Prop} [Decidable c] (h1 : c → A) (h2 : ¬ c → B) : if c then A else B := by
  by_cases h : c
  · rw [if_pos h]
    exact h1 h
  · rw [if_neg h]
    exact h2 h
noncomputable def Same (H H' : Hp) : Prop := ∀ b o, H b = some o → H' b = some o
theorem Same.refl (H : Hp) : Same H H := fun _ _ h => h
theorem Same.trans {H H1 H2 : Hp} (a : Same H H1) (b : Same H1 H2) : Same H H2 := fun c o h => b c o (a c o h)
theorem Same.seq {K : PySem.W.Frag} {H H' : Hp} {a : Addr} {xs : List V} (e : Same H H') (h : SqL K H a xs) : SqL K H' a xs := by
  rcases h with (h | ⟨o, h⟩) | h
  · exact .inl (.inl (e _ _ h))
  · exact .inl (.inr ⟨o, e _ _ h⟩)
  · exact .inr h
end L2
namespace L2
open PySem PySem.Spec PyProof.Rows
section
variable {X : Cx}
theorem call_lenD : CallR X (.builtin "len") (fun xs H Q => ∃ a kvs, xs = [V.ref a] ∧ H a = some (.dK kvs) ∧ Q (.int kvs.length) H) := by
  intro pins s σ H xs us Q I r h
  obtain ⟨a, kvs, rfl, ha, q⟩ := h
  obtain ⟨u, rfl, ru⟩ := vals1 r
  cases ru
  exact d_len I (.inl ha) fun t s' I' => ⟨.int kvs.length, H, I', ⟨t, rfl⟩, q⟩
end
section
variable {κ : Type} [DecidableEq κ]
end
end L2
namespace L2
open PySem PySem.Spec PyProof.Rows
noncomputable def Bt (n : Nat) (i : Int) : Prop := i.natAbs < 2 ^ n
theorem Bt.of {n : Nat} {i : Int} (b : Nat) (h1 : -(b : Int) ≤ i) (h2 : i ≤ (b : Int)) (h : b < 2 ^ n := by decide +kernel) : Bt n i := by
  unfold Bt
  exact Nat.lt_of_le_of_lt (by omega) h
theorem Bt.log {n : Nat} {i : Int} (h : Bt n i) (q : n ≤ 9000 := by decide) : i.natAbs.log2 < 9000 := by
  by_cases z : i.natAbs = 0
  · rw [z]; decide
  · exact Nat.lt_of_lt_of_le ((Nat.log2_lt z).mpr h) q
theorem mulOkL {i j : Int} (h1 : -(2 ^ 64) < i := by decide) (h2 : i < 2 ^ 64 := by decide) : IntMulOk i j := .of_left (intBits_le_64 h1 h2)
theorem mulOkR {i j : Int} (h1 : -(2 ^ 64) < j := by decide) (h2 : j < 2 ^ 64 := by decide) : IntMulOk i j := .of_right (intBits_le_64 h1 h2)
section
variable {X : Cx}
theorem op_mulB : OpR X (binaryOp .Mult) (rI IntMulOk fun i j => .int (i * j)) := opI fun _ _ _ _ _ _ _ hc q => mul_int q hc
noncomputable def CDivB (_ j : Int) : Prop := 0 < j ∧ j.natAbs.log2 < 9000
theorem CDivB.of {i j : Int} {n : Nat} (h : 0 < j) (b : Bt n j) (q : n ≤ 9000 := by decide) : CDivB i j := ⟨h, b.log q⟩
theorem CDivB.lit {i j : Int} (h : 0 < j := by decide) (q : j.natAbs.log2 < 9000 := by decide) : CDivB i j := ⟨h, q⟩
theorem op_fdivB : OpR X (binaryOp .FloorDiv) (rI CDivB fun i j => .int (i / j)) := opI fun i j _ _ _ _ _ hc q => by
  have h1 : (0 : Int) < j := hc.1
  exact floordiv_int (by omega) (by rw [Int.fdiv_eq_ediv_of_nonneg i (by omega)]; exact q) (.inl (PyProof.noPylong_of_log2 hc.2))
theorem op_modB : OpR X (binaryOp .Mod) (rI (fun _ j => 0 < j) fun i j => .int (i % j)) := op_mod
noncomputable def rIxTH : R2 := fun x y H Q => ∃ p xs i v, x = .ref p ∧ y = .int i ∧ H p = some (.tup xs) ∧ atI xs i = some v ∧ Q v H
theorem ix_tupH : IxR X rIxTH := fun value slice pins s σ H x y v u Q I rx ry ⟨p, xs, i, z, e1, e2, e3, e4, q⟩ hs =>
  ix_tup value slice pins s σ H x y v u Q I rx ry ⟨p, xs, i, z, e1, e2, SqT.of e3, e4, q⟩ hs
noncomputable def rIxLH : R2 := fun x y H Q => ∃ p xs i v, x = .ref p ∧ y = .int i ∧ H p = some (.lst xs) ∧ atI xs i = some v ∧ Q v H
theorem ix_listH : IxR X rIxLH := fun value slice pins s σ H x y v u Q I rx ry ⟨p, xs, i, z, e1, e2, e3, e4, q⟩ hs =>
  ix_list value slice pins s σ H x y v u Q I rx ry ⟨p, xs, i, z, e1, e2, SqL.of e3, e4, q⟩ hs
noncomputable def tTupS (t : TA) : TE := fun σ H Q => t σ H fun xs H1 => xs.length ≤ sizeLine ∧ ∀ p H2, Same H1 H2 → H1 p = none → H2 p = some (.tup xs) → Q (.ref p) H2
theorem same_upd {H : Hp} {p : Addr} {o : HO} (h : H p = none) : Same H (upd H p o) := fun b u e => by
  rw [upd_ne (ne_of_none e h)]
  exact e
theorem pe_tupS {es : List Expr} {t : TA} {x1} {pos : Pos} (h : PA X es t) : PE X (.Tuple es x1 pos) (tTupS t) := fun pins s σ H Q I hq =>
  thn (h := wpAny_Tuple_spliced (thn (h pos pins s σ H _ I hq) fun us s1 ⟨xs, H1, I1, r, z, q⟩ => ⟨by rw [← r.length]; exact z, by
    have hf : H1 s1.heap.objs.size = none := I1.hok.fresh (Nat.le_refl _)
    refine ⟨.ref s1.heap.objs.size, upd H1 s1.heap.objs.size (.tup xs), I1.laid (t' := s1.toks) (fun b u e => Heap.get?_push_of_some _ e) (Nat.le_refl _) ?_, rfl, q _ _ (same_upd hf) hf upd_same⟩
    exact ⟨z, us, r, ⟨_, Heap.get?_push_size _ rfl, rfl, _, rfl⟩⟩⟩)) fun _ _ z => z
theorem call_lenT : CallR X (.builtin "len") (fun xs H Q => ∃ p ys, xs = [.ref p] ∧ H p = some (.tup ys) ∧ Q (.int ys.length) H) := fun pins s σ H xs us Q I r ⟨p, ys, e, h, q⟩ =>
  call_len_seq pins s σ H xs us Q I r ⟨p, ys, e, .inr (SqT.of h), q⟩
theorem call_lenL : CallR X (.builtin "len") (fun xs H Q => ∃ p ys, xs = [.ref p] ∧ H p = some (.lst ys) ∧ Q (.int ys.length) H) := fun pins s σ H xs us Q I r ⟨p, ys, e, h, q⟩ =>
  call_len_seq pins s σ H xs us Q I r ⟨p, ys, e, .inl (SqL.of h), q⟩
theorem call_lenQ : CallR X (.builtin "len") (fun xs H Q => ∃ p ns, xs = [.ref p] ∧ SqL X.K H p (List.map V.int ns) ∧ Q (.int (List.length ns : Nat)) H) := fun pins s σ H xs us Q I r ⟨p, ns, e, h, q⟩ =>
  call_len_seq pins s σ H xs us Q I r ⟨p, _, e, .inl h, by rw [List.length_map]; exact q⟩
noncomputable def rIxQ (K : PySem.W.Frag) : R2 := fun x y H Q => ∃ p ns i, x = .ref p ∧ y = .int i ∧ SqL K H p (List.map V.int ns) ∧ 0 ≤ i ∧ i < (List.length ns : Nat) ∧ Q (.int (ns.getD i.toNat 0)) H
theorem atI_ints {ns : List Int} {i : Int} (h0 : 0 ≤ i) (h1 : i < (ns.length : Nat)) : atI (ns.map V.int) i = some (.int (ns.getD i.toNat 0)) := by
  obtain ⟨j, rfl⟩ := Int.eq_ofNat_of_zero_le h0
  refine atI_nat ?_
  have hj : j < ns.length := by omega
  rw [List.getElem?_map, List.getElem?_eq_getElem hj]
  simp [List.getD_eq_getElem?_getD, List.getElem?_eq_getElem hj]
theorem ix_listS : IxR X (rIxQ X.K) := fun value slice pins s σ H x y v u Q I rx ry ⟨p, ns, i, e1, e2, e3, h0, h1, q⟩ hs =>
  ix_list value slice pins s σ H x y v u Q I rx ry ⟨p, _, i, _, e1, e2, e3, atI_ints h0 h1, q⟩ hs
structure Cal (P : Program) (w : World) (K : PySem.W.Frag) (mg : Str → Option Value) (base : Heap) (CX : CXT) (k : Nat) (x : Str) (ps : List Str) (sp : Sp) : Prop where
  ex : ∃ f fd, FnOk P w K mg base CX k f fd ps sp ∧ mg x = some (.ref f) ∧ PySem.W.keepIn K (.ref f) = true ∧ Binds K fd ps []
theorem pe_cal {CX : CXT} {k : Nat} {x : Str} {ps : List Str} {sp : Sp} {E : XK} {e : Expr} {es : List Expr} {t : TA} {p pos : Pos} (C : Cal X.prog X.w X.K X.mg X.base CX k x ps sp) (hr : Room k X.A) (hg : Gl X x) (hx : Passes CX X E) (ha : PA X (e :: es) t)
    (hdb : (x == ("__debug__" : Str)) = false := by decide) (he : starEach (e :: es) X.env = (false, eval e X.env) :: starEach es X.env := by rfl) (hpl : (backTo pos (starEach es X.env)).any (·.1) = false := by rfl) :
    PE X (.Call (.Name x p) (e :: es) [] pos) (tCall sp [] E t) := by
  obtain ⟨f, fd, F, hm, hk, hb⟩ := C.ex
  exact pe_call F hr hg hm hk hb .nil hx ha hdb he hpl
end
noncomputable def Strict (CX : CXT) : Prop := ∀ outer H s e s', ¬ CX outer H s (fun _ _ _ => False) e s'
theorem Strict.pass {CX : CXT} (h : Strict CX) {X : Cx} : Passes CX X E0 := fun _ _ H s e s' _ z => (h _ H s e s' z).elim
section
variable {P : Program} {w : World} {K : PySem.W.Frag} {mg : Str → Option Value} {base : Heap} {CX : CXT}
theorem Fun.okC {x qual : Str} {st : Stmt} {f : Addr} {fd : FuncData} {N ps : List Str} {k : Nat} {sp : Sp} (F : Fun K x qual st f fd) (S : FnScope N ps (defScope st)) (len : ∀ vs H Q E, sp vs H Q E → vs.length = ps.length)
    (hbody : ∀ (cdv : Value) (A : Around) (outer : List Env) (s : Shared) (H : Hp) (vs : List V) (Q : VK) (E : XK), Room k (A.deeper (envOfC qual (defScope st) s.heap.objs.size f cdv)) → sp vs H Q E →
      ∃ t, PSs (cxOf CX P w K mg base N qual (defScope st) f cdv A outer s H E).nox (defBody st) t ∧ t { nx := fun _ H' => Q .non H', rt := Q } (start N vs) H) : FnOk P w K mg base CX (k + 1) f fd ps sp := by
  obtain ⟨oc, od, kV, doc, pm, an, cdv, ct, osl, rfl, lk, hcd⟩ := F.ex
  refine fn_of lk hcd S len fun A outer s H vs Q E hr hsp => ?_
  obtain ⟨t, h, q⟩ := hbody cdv A outer s H vs Q E hr hsp
  exact ⟨t, h.nox, q⟩
structure Dn (K : PySem.W.Frag) (mg : Str → Option Value) (x : Str) (st : Stmt) : Prop where
  ex : ∃ f fd, Fun K x x st f fd ∧ mg x = some (.ref f)
theorem Dn.cal {x : Str} {st : Stmt} {ps : List Str} {k : Nat} {sp : Sp} (D : Dn K mg x st)
    (hb : ∀ (kV doc pm : Value) (an : Option Addr) (cdv ct : Value) (us : List Value), us.length = ps.length → bindArgs (PySem.W.fnOf x x (defArgs st) (defBody st) (defScope st) .none kV doc pm an cdv ct) ⟨us, []⟩ = pure (ps.zip us))
    (h : ∀ f fd, Fun K x x st f fd → FnOk P w K mg base CX k f fd ps sp) : Cal P w K mg base CX k x ps sp := by
  obtain ⟨f, fd, F, hm⟩ := D.ex
  exact ⟨f, fd, h f fd F, hm, F.kp, F.binds hb⟩
end
section
variable {X : Cx}
noncomputable def eqL (xs ys : List V) : Bool := (List.range (min xs.length ys.length)).all (fun j => eqV (xs.getD j .non) (ys.getD j .non)) && xs.length == ys.length
noncomputable def rEqT : R2 := fun x y H Q => ∃ p q xs ys, x = .ref p ∧ y = .ref q ∧ H p = some (.tup xs) ∧ H q = some (.tup ys) ∧ xs.all flatV = true ∧ ys.all flatV = true ∧ Q (.bl (eqL xs ys)) H
noncomputable def rInT : R2 := fun x y H Q => ∃ p xs, y = .ref p ∧ H p = some (.tup xs) ∧ flatV x = true ∧ xs.all flatV = true ∧ Q (.bl (inV x xs)) H
theorem call_isT : CallR X (.builtin "isinstance") (fun xs H Q => ∃ x c t b, xs = [x, .ty c] ∧ TyOf X.K H x t ∧ PySem.W.kitOne X.K t (.type c) = some b ∧ Q (.bl b) H) := by
  intro pins s σ H xs us Q I r h
  obtain ⟨x, c, t, b, rfl, ty, e, q⟩ := h
  obtain ⟨u, u', rfl, rx, rc⟩ := vals2 r
  cases rc
  exact isinst_ok I rx ty e fun tk => ⟨.bl b, H, I.tok tk, rfl, q⟩
end
theorem at0 {α : Type} {x : α} {l : List α} : atI (x :: l) 0 = some x := atI_nat (j := 0) rfl
theorem at1 {α : Type} {x y : α} {l : List α} : atI (x :: y :: l) 1 = some y := atI_nat (j := 1) rfl
theorem at2 {α : Type} {x y z : α} {l : List α} : atI (x :: y :: z :: l) 2 = some z := atI_nat (j := 2) rfl
noncomputable def Pr (a b : Int) : List V := [.int a, .int b]
theorem kit_ii {K : PySem.W.Frag} : PySem.W.kitOne K (.type "int") (.type "int") = some true := by unfold PySem.W.kitOne; rw [if_pos (by decide +kernel)]
theorem kit_ll {K : PySem.W.Frag} : PySem.W.kitOne K (.type "list") (.type "list") = some true := by unfold PySem.W.kitOne; rw [if_pos (by decide +kernel)]
theorem kit_off {K : PySem.W.Frag} {t c : String} {b : Bool} (h1 : (Value.type t == Value.type c) = false := by decide +kernel) (h2 : PySem.W.kitMeta c = true := by decide +kernel) (h3 : (PySem.fastBuiltinMro t).map (·.contains (Value.type c)) = some b := by decide +kernel) :
    PySem.W.kitOne K (.type t) (.type c) = some b := by
  unfold PySem.W.kitOne PySem.W.kitCls PySem.W.subIn
  rw [if_neg (by rw [h1]; decide)]
  dsimp only
  rw [if_pos h2]
  exact h3
theorem kit_ib {K : PySem.W.Frag} : PySem.W.kitOne K (.type "int") (.type "bool") = some false := kit_off
end L2
namespace Nm
noncomputable def g (a b : Int) : Int := (Int.gcd a b : Nat)
theorem back {a b c d p q x y : Int} (hq : 0 < q) (hd : 0 < d) (e : p * (b * d) = (a * d - c * b) * q) (f : x * (q * d) = (p * d + c * q) * y) : x * b = a * y := by
  have h : (x * b) * (q * d) = (a * y) * (q * d) := by grind
  exact Int.eq_of_mul_eq_mul_right (by have := Int.mul_pos hq hd; omega) h
end Nm
namespace L2
open PySem PySem.Spec PyProof.Rows PySem.W
theorem ObjOk.get {P : Program} {w : World} {H : Hp} {h : Heap} {a : Addr} : ∀ {o : HO}, ObjOk P w H h a o → ∃ ob, h.get? a = some ob
  | .lst _, x => let ⟨_, _, _, _, e⟩ := x; ⟨_, e⟩
  | .tup _, x => let ⟨_, _, _, o, e, _⟩ := x; ⟨o, e⟩
  | .dK _, x => let ⟨_, _, _, _, o, _, _, e, _⟩ := x; ⟨o, e⟩
  | .dT _, x => let ⟨_, _, _, _, o, _, _, e, _⟩ := x; ⟨o, e⟩
  | .set _ _, x => by
    obtain ⟨o, es, ep, t, e, _⟩ := x
    exact ⟨o, e⟩
  | .ins _ _ _, x => let ⟨_, _, _, e, _⟩ := x; ⟨_, e⟩
  | .own _, x => x
  | .xd _, x => by
    obtain ⟨mA, ⟨o, es, ep, e, _⟩, _⟩ := x
    exact ⟨o, e⟩
  | .rng _ _, x => let ⟨_, _, _, e⟩ := x; ⟨_, e⟩
  | .frz _ _, x => ⟨_, x.1⟩
  | .tbl _, ⟨_, x, _⟩ => ⟨_, x⟩
  | .met _ _, x => ⟨_, x⟩
  | .ext _, x => x.2.1
structure Fly (P : Program) (w : World) (l : List Env) (H : Hp) (s : Shared) (H' : Hp) (ad : Addr) (cls : Value) (s' : Shared) : Prop where
  os : s'.os = s.os
  bare : AllBare s'.gens
  un : Un (frs l) [] H H' s.heap s'.heap
  hok : HOk P w H' s'.heap
  fl : ∃ B a0, Heap.FlyingW B l ad cls a0 s'.heap ∧ (∀ b o, s.heap.get? b = some o → H b = none → b ∉ frs l → B.get? b = some o) ∧ (∀ b o, s.heap.get? b = some o → b ∉ frs l → ∃ o', B.get? b = some o') ∧
    (∀ b u o, H' b = some u → s'.heap.get? b = some o → B.get? b = some o)
noncomputable def CX1 (P : Program) (w : World) : CXT := fun l H s E e s' => ∃ ad cls H', e = .ref ad ∧ Fly P w l H s H' ad cls s' ∧ E cls none H'
theorem strict1 (P : Program) (w : World) : Strict (CX1 P w) := fun _ _ _ _ _ ⟨_, _, _, _, _, h⟩ => h
section
variable {P : Program} {w : World} {K : PySem.W.Frag} {mg : Str → Option Value} {base : Heap} {N : List Str} {qual : Str} {scope : Scope} {f : Addr} {cdv : Value} {A : Around} {outer : List Env} {s0 : Shared} {H0 : Hp} {E : XK}
end
end L2
namespace L2
open PySem PySem.Spec PyProof.Rows PySem.W
abbrev bmVE : List Value := [.type "ValueError", .type "Exception", .type "BaseException", .type "object"]
abbrev newVE : String := "ValueError.__new__"
noncomputable def tRaise (C : Addr) (E : XK) (t : TA) : TS := fun _ σ H => t σ H fun vs H1 => vs.length ≤ sizeLine ∧ E (.ref C) none H1
section
variable {P : Program} {w : World} {K : PySem.W.Frag} {mg : Str → Option Value} {base : Heap} {N : List Str} {qual : Str} {scope : Scope} {f : Addr} {cdv : Value} {A : Around} {outer : List Env} {s0 : Shared} {H0 : Hp} {E : XK}
end
section
variable {X : Cx} {pins : List (Addr × Obj)} {σ : St} {H H' : Hp} {s s' : Shared}
abbrev Cx.mark (X : Cx) (ad : Addr) : Cx := { X with A := X.A.mark (some (.ref ad)), calm := false, xe := fun _ _ => False }
end
section
variable {X : Cx} {CX : CXT} {k : Nat} {x : Str} {ps : List Str} {sp : Sp} {E : XK} {e : Expr} {es : List Expr} {t : TA} {p pos : Pos}
variable {cx n : Str} {np hpos epos tpos : Pos} {b₀ : Stmt} {suite : List Stmt} {i : Nat} {ts : TS} {C2 : Addr}
end
end L2
namespace Nm
noncomputable def st (a b : Int) : Int := if b < 0 then -(a / g a b) else a / g a b
noncomputable def sb (a b : Int) : Int := if b < 0 then -(b / g a b) else b / g a b
end Nm
namespace L2
open PySem PySem.Spec PyProof.Rows
section
variable {P : Program} {w : World} {K : PySem.W.Frag} {mg : Str → Option Value} {base : Heap} {CX : CXT}
end
noncomputable def noStar : Expr → Bool
  | .Starred _ _ => false
  | _ => true
theorem se {e : Expr} {es : List Expr} {env : Env} (h : noStar e = true) : starEach (e :: es) env = (false, eval e env) :: starEach es env := by
  cases e <;> first | rfl | exact absurd h Bool.false_ne_true
theorem na {env : Env} {pos : Pos} : ∀ {es : List Expr}, es.all noStar = true → (backTo pos (starEach es env)).any (·.1) = false
  | [], _ => rfl
  | e :: es, h => by
    rw [List.all_cons, Bool.and_eq_true] at h
    rw [se h.1]
    show (false || (backTo pos (starEach es env)).any (·.1)) = false
    rw [na h.2]
    rfl
end L2
namespace L2
open PySem PySem.Spec PyProof.Rows PySem.W
structure ExcCls (K : PySem.W.Frag) (C : Addr) : Prop where
  cls : (clsIn K C).isSome = true
  ga : findIn K (.ref C) "__getattribute__" = some (some (.builtin "BaseException.__getattribute__"))
  gt : findIn K (.ref C) "__getattr__" = some none
  cl : findIn K (.ref C) "__class__" = some (some (.builtin "object.__class__"))
  be : mroIn K C (.type "BaseException") = some true
  ob : mroIn K C (.type "object") = some true
section
variable {prog : Program} {w : World} {A : Around} {E : Value → Shared → Prop} {K : PySem.W.Frag} {h : Heap} {g : Array GenState} {d : Drawn} {t : Nat} {os : OsState} {a C : Addr} {o : Obj}
end
section
variable {X : Cx}
end
end L2
namespace L2
open PySem PySem.Spec PyProof.Rows
theorem closure_of {env : Env} : ∀ (names : List (Str × NameKind)) (cs : List (Str × Addr)), (∀ n, (n, NameKind.free) ∈ names → ∃ c, env.cells.lookup n = some c) → (∀ x c, cs.lookup x = some c → env.cells.lookup x = some c) →
    ∃ cl, (forIn names cs fun (x : Str × NameKind) (r : List (Str × Addr)) => (if (x.2 == NameKind.free) = true then do let c ← cellOf env x.1; pure (ForInStep.yield ((x.1, c) :: r)) else pure (ForInStep.yield r) : Sem (ForInStep (List (Str × Addr))))) = pure cl ∧
      (∀ x c, cl.lookup x = some c → env.cells.lookup x = some c) ∧ (∀ n, ((n, NameKind.free) ∈ names ∨ (cs.lookup n).isSome = true) → ∃ c, cl.lookup n = some c) ∧ (∀ x c, (x, c) ∈ cl → (env.cells.lookup x = some c ∧ (x, NameKind.free) ∈ names) ∨ (x, c) ∈ cs)
  | [], cs, _, h => ⟨cs, rfl, h, (fun n hn => by
      rcases hn with hn | hn
      · exact absurd hn (by simp)
      · exact Option.isSome_iff_exists.mp hn), fun x c m => .inr m⟩
  | (n, k) :: r, cs, hf, h => by
    by_cases hk : k = .free
    · subst hk
      obtain ⟨c, hc⟩ := hf n List.mem_cons_self
      obtain ⟨cl, e, h1, h2, h3⟩ := closure_of r ((n, c) :: cs) (fun m hm => hf m (List.mem_cons_of_mem _ hm)) (fun x c' hx => by
        rw [List.lookup_cons] at hx
        cases q : x == n with
        | true =>
          rw [q] at hx
          have e1 : x = n := by simpa using q
          cases hx
          rw [e1]; exact hc
        | false => rw [q] at hx; exact h x c' hx)
      refine ⟨cl, ?_, h1, fun m hm => h2 m ?_, fun x c' m => ?_⟩
      rotate_left 2
      · rcases h3 x c' m with ⟨q1, q2⟩ | m
        · exact .inl ⟨q1, List.mem_cons_of_mem _ q2⟩
        · rcases List.mem_cons.mp m with e | m
          · cases e
            exact .inl ⟨hc, List.mem_cons_self⟩
          · exact .inr m
      · rw [List.forIn_cons]
        have hco : cellOf env n = pure c := by unfold cellOf; rw [hc]
        simp only [beq_self_eq_true, if_true, hco, pure_bind]
        exact e
      · rcases hm with hm | hm
        · rcases List.mem_cons.mp hm with z | z
          · cases z
            right
            rw [List.lookup_cons]
            simp
          · exact .inl z
        · right
          rw [List.lookup_cons]
          cases q : m == n with
          | true => rfl
          | false => exact hm
    · obtain ⟨cl, e, h1, h2, h3⟩ := closure_of r cs (fun m hm => hf m (List.mem_cons_of_mem _ hm)) h
      refine ⟨cl, ?_, h1, fun m hm => h2 m ?_, fun x c' m => (h3 x c' m).imp (fun q => ⟨q.1, List.mem_cons_of_mem _ q.2⟩) id⟩
      · rw [List.forIn_cons]
        have : (k == NameKind.free) = false := by simpa using hk
        simp only [this, Bool.false_eq_true, if_false, pure_bind]
        exact e
      · rcases hm with hm | hm
        · rcases List.mem_cons.mp hm with z | z
          · cases z; exact absurd rfl hk
          · exact .inl z
        · exact .inr hm
theorem closureFor_of {env : Env} {scope : Scope} (hf : ∀ n, (n, NameKind.free) ∈ scope.names → ∃ c, env.cells.lookup n = some c) :
    ∃ cl, closureFor scope env = pure cl ∧ (∀ x c, cl.lookup x = some c → env.cells.lookup x = some c) ∧ (∀ n, (n, NameKind.free) ∈ scope.names → ∃ c, cl.lookup n = some c) ∧ (∀ x c, (x, c) ∈ cl → env.cells.lookup x = some c ∧ (x, NameKind.free) ∈ scope.names) := by
  obtain ⟨cl, e, h1, h2, h3⟩ := closure_of (env := env) scope.names [] hf (fun x c h => by simp at h)
  refine ⟨cl, ?_, h1, fun n hn => h2 n (.inl hn), fun x c m => (h3 x c m).elim id fun z => absurd z (by simp)⟩
  unfold closureFor
  simp only [bind_pure]
  exact e
structure CompScope (N : List Str) (so : Scope) (N' : List Str) (scope : Scope) (k : Nat) (fr : List Nat) : Prop where
  kind : scope.kind = .function
  cels : ∀ y ∈ scope.names, y.2 = .cell → scope.names.lookup y.1 = some .cell ∧ (y.1, NameKind.free) ∉ scope.names
  locs : ∀ y ∈ scope.names, y.2 = .local → scope.names.lookup y.1 = some .local
  outer : ∀ y ∈ scope.names, y.2 = .free → (so.names.lookup y.1 = some .cell ∨ so.names.lookup y.1 = some .free)
  len : N'.length = k + fr.length
  at_ : ∀ t, t < fr.length → (fr[t]?).bind (fun j => N[j]?) = N'[k + t]?
  fre : ∀ x ∈ N'.drop k, scope.names.lookup x = some .free
noncomputable def stC (k : Nat) (fr : List Nat) (σ : St) : St := List.replicate k none ++ fr.map fun j => (σ[j]?).join
noncomputable def cxC (X : Cx) (N : List Str) (scope : Scope) (cl : List (Str × Addr)) (C : Addr) (s : Shared) (H : Hp) (ex : List Addr) : Cx where
  prog := X.prog
  w := X.w
  K := X.K
  mg := X.mg
  base := X.base
  A := X.A
  N := N
  s₀ := s
  H₀ := H
  env := compEnvC scope cl C X.env
  outer := X.stack
  stack := X.stack
  ex := ex
  calm := X.calm
  fn := fun x => scope.names.lookup x == some .cell
  pn := []
  xe := fun _ _ => False
theorem lookup_relabel_free {env : Env} : ∀ {names : List (Str × NameKind)} {x : Str}, names.lookup x = some .free →
    (names.map fun (n, k) => if (k == NameKind.free && env.scope.kind == .function && env.kindOf n == some .cell) then (n, NameKind.cell) else (n, k)).lookup x = some .cell ∨
    (names.map fun (n, k) => if (k == NameKind.free && env.scope.kind == .function && env.kindOf n == some .cell) then (n, NameKind.cell) else (n, k)).lookup x = some .free
  | [], _, h => by simp at h
  | (n, k) :: r, x, h => by
    have ih := @lookup_relabel_free env r x
    show List.lookup x ((if (k == NameKind.free && env.scope.kind == .function && env.kindOf n == some .cell) = true then (n, NameKind.cell) else (n, k)) :: _) = _ ∨ List.lookup x ((if (k == NameKind.free && env.scope.kind == .function && env.kindOf n == some .cell) = true then (n, NameKind.cell) else (n, k)) :: _) = _
    cases hx : x == n with
    | true =>
      simp only [List.lookup_cons, hx] at h
      cases h
      by_cases hc : (NameKind.free == NameKind.free && env.scope.kind == .function && env.kindOf n == some .cell) = true
      · rw [if_pos hc]; left; simp [List.lookup_cons, hx]
      · rw [if_neg hc]; right; simp [List.lookup_cons, hx]
    | false =>
      simp only [List.lookup_cons, hx] at h
      by_cases hc : (k == NameKind.free && env.scope.kind == .function && env.kindOf n == some .cell) = true
      · rw [if_pos hc]; simp only [List.lookup_cons, hx]; exact ih h
      · rw [if_neg hc]; simp only [List.lookup_cons, hx]; exact ih h
theorem relabel_back {env : Env} : ∀ {names : List (Str × NameKind)} {x : Str},
    ((names.map fun (n, k) => if (k == NameKind.free && env.scope.kind == .function && env.kindOf n == some .cell) then (n, NameKind.cell) else (n, k)).lookup x = some .cell ∨
    (names.map fun (n, k) => if (k == NameKind.free && env.scope.kind == .function && env.kindOf n == some .cell) then (n, NameKind.cell) else (n, k)).lookup x = some .free) → (x, NameKind.free) ∈ names ∨ (x, NameKind.cell) ∈ names
  | [], _, h => by simp at h
  | (n, k) :: r, x, h => by
    have ih := @relabel_back env r x
    have up : ((x, NameKind.free) ∈ r ∨ (x, NameKind.cell) ∈ r) → ((x, NameKind.free) ∈ (n, k) :: r ∨ (x, NameKind.cell) ∈ (n, k) :: r) := fun z => z.imp (List.mem_cons_of_mem _) (List.mem_cons_of_mem _)
    have h : List.lookup x ((if (k == NameKind.free && env.scope.kind == .function && env.kindOf n == some .cell) = true then (n, NameKind.cell) else (n, k)) :: _) = _ ∨ List.lookup x ((if (k == NameKind.free && env.scope.kind == .function && env.kindOf n == some .cell) = true then (n, NameKind.cell) else (n, k)) :: _) = _ := h
    cases hx : x == n with
    | true =>
      have e1 : x = n := by simpa using hx
      subst e1
      by_cases hc : (k == NameKind.free && env.scope.kind == .function && env.kindOf x == some .cell) = true
      · have : k = .free := by
          simp only [Bool.and_eq_true] at hc
          simpa using hc.1.1
        subst this
        exact .inl List.mem_cons_self
      · rw [if_neg hc] at h
        simp only [List.lookup_cons, hx] at h
        rcases h with h | h
        · cases h; exact .inr List.mem_cons_self
        · cases h; exact .inl List.mem_cons_self
    | false =>
      by_cases hc : (k == NameKind.free && env.scope.kind == .function && env.kindOf n == some .cell) = true
      · rw [if_pos hc] at h; simp only [List.lookup_cons, hx] at h; exact up (ih h)
      · rw [if_neg hc] at h; simp only [List.lookup_cons, hx] at h; exact up (ih h)
theorem cells_own : ∀ (names : List (Str × NameKind)) (h : Heap) (acc : List (Str × Addr)) (x : Str) (c : Addr), (x, c) ∈ cellsFrom h.objs.size names acc →
    (x, c) ∈ acc ∨ (h.objs.size ≤ c ∧ (pushCells h names).IsCell c none ∧ (x, NameKind.cell) ∈ names)
  | [], h, acc, x, c, m => .inl m
  | (n, k) :: r, h, acc, x, c, m => by
    unfold cellsFrom at m
    unfold pushCells
    by_cases hk : (k == NameKind.cell) = true
    · rw [if_pos hk] at m ⊢
      have ih := cells_own r (h.push { cls := .type "cell", data := .cell none }) ((n, h.objs.size) :: acc) x c
      rw [Heap.size_push] at ih
      rcases ih m with m | ⟨q1, q2, q3⟩
      · rcases List.mem_cons.mp m with e | m
        · cases e
          have hk : k = .cell := by simpa using hk
          subst hk
          refine .inr ⟨Nat.le_refl _, ?_, List.mem_cons_self⟩
          have q : (h.push { cls := .type "cell", data := .cell none }).IsCell h.objs.size none := ⟨_, Heap.get?_push_size _ rfl, rfl⟩
          exact q.keeps fun b o e => pushCells_keeps r _ b o e
        · exact .inl m
      · exact .inr ⟨by omega, q2, List.mem_cons_of_mem _ q3⟩
    · rw [if_neg hk] at m ⊢
      rcases cells_own r h acc x c m with m | ⟨q1, q2, q3⟩
      · exact .inl m
      · exact .inr ⟨q1, q2, List.mem_cons_of_mem _ q3⟩
theorem cells_inj : ∀ (names : List (Str × NameKind)) (n lo : Nat) (acc : List (Str × Addr)), (∀ x c, (x, c) ∈ acc → c < n) → (∀ x y c, lo ≤ c → (x, c) ∈ acc → (y, c) ∈ acc → x = y) →
    ∀ x y c, lo ≤ c → (x, c) ∈ cellsFrom n names acc → (y, c) ∈ cellsFrom n names acc → x = y
  | [], n, lo, acc, h1, h2, x, y, c, hl, m1, m2 => h2 x y c hl m1 m2
  | (z, k) :: r, n, lo, acc, h1, h2, x, y, c, hl, m1, m2 => by
    unfold cellsFrom at m1 m2
    by_cases hk : (k == NameKind.cell) = true
    · rw [if_pos hk] at m1 m2
      refine cells_inj r (n + 1) lo _ (fun x c m => ?_) (fun x y c hl m1 m2 => ?_) x y c hl m1 m2
      · rcases List.mem_cons.mp m with e | m
        · cases e; exact Nat.lt_succ_self _
        · exact Nat.lt_succ_of_lt (h1 x c m)
      · rcases List.mem_cons.mp m1 with e1 | m1 <;> rcases List.mem_cons.mp m2 with e2 | m2
        · cases e1; cases e2; rfl
        · cases e1; exact absurd (h1 _ _ m2) (Nat.lt_irrefl _)
        · cases e2; exact absurd (h1 _ _ m1) (Nat.lt_irrefl _)
        · exact h2 x y c hl m1 m2
    · rw [if_neg hk] at m1 m2
      exact cells_inj r n lo acc h1 h2 x y c hl m1 m2
theorem cells_skip : ∀ (names : List (Str × NameKind)) (n : Nat) (acc : List (Str × Addr)) (x : Str), (x, NameKind.cell) ∉ names → (cellsFrom n names acc).lookup x = acc.lookup x
  | [], n, acc, x, _ => rfl
  | (z, k) :: r, n, acc, x, h => by
    have hr : (x, NameKind.cell) ∉ r := fun m => h (List.mem_cons_of_mem _ m)
    unfold cellsFrom
    by_cases hk : (k == NameKind.cell) = true
    · rw [if_pos hk, cells_skip r _ _ x hr, List.lookup_cons]
      have hk : k = .cell := by simpa using hk
      subst hk
      have : (x == z) = false := by
        cases q : x == z with
        | false => rfl
        | true =>
          have e : x = z := by simpa using q
          subst e
          exact absurd List.mem_cons_self h
      rw [this]
    · rw [if_neg hk]
      exact cells_skip r n acc x hr
theorem cells_has : ∀ (names : List (Str × NameKind)) (n : Nat) (acc : List (Str × Addr)) (x : Str), ((x, NameKind.cell) ∈ names ∨ (acc.lookup x).isSome = true) → ((cellsFrom n names acc).lookup x).isSome = true
  | [], n, acc, x, h => by
    rcases h with h | h
    · simp at h
    · exact h
  | (z, k) :: r, n, acc, x, h => by
    unfold cellsFrom
    by_cases hk : (k == NameKind.cell) = true
    · rw [if_pos hk]
      refine cells_has r _ _ x ?_
      rcases h with h | h
      · rcases List.mem_cons.mp h with e | h
        · cases e
          right
          rw [List.lookup_cons]
          simp
        · exact .inl h
      · right
        rw [List.lookup_cons]
        cases q : x == z with
        | true => rfl
        | false => exact h
    · rw [if_neg hk]
      refine cells_has r _ _ x ?_
      rcases h with h | h
      · rcases List.mem_cons.mp h with e | h
        · cases e; exact absurd rfl hk
        · exact .inl h
      · exact .inr h
section
variable {M : Model} {A : Around} {E : Value → Shared → Prop} {s : Shared}
theorem wpAny_newEnv_comp {scope : Scope} {globals : Addr} {closure : List (Str × Addr)} {qual : Str} {func : Option Addr} {code : Value} {outer : Env} {Q : Env → Shared → Prop}
    (hQ : Q (newEnv scope s.heap.objs.size globals (cellsFrom (s.heap.objs.size + 1) scope.names closure) qual func code (some outer) builtinsNs)
      { s with heap := pushCells (s.heap.push { cls := .type "dict", data := .dict #[] }) scope.names }) :
    wpAny M A (newFunctionEnv scope globals closure [] qual func code (some outer)) Q E s := by
  simp only [newFunctionEnv, Option.isSome_some, if_true]
  refine wpAny_bind (wpAny_alloc ?_)
  refine wpAny_bind (wpAny_layCells _ (fun name kind cells => by cases hkc : kind == NameKind.cell <;> simp [hkc]) _ _ _ _ ?_)
  rw [show ({ s with heap := s.heap.push { cls := .type "dict", data := .dict #[] } } : Shared).heap.objs.size = s.heap.objs.size + 1 from Heap.size_push ..]
  refine wpAny_bind ?_
  rw [List.forIn_nil]
  exact wpAny_pure (wpAny_pure hQ)
end
structure BlkC (X : Cx) (scope : Scope) (cl : List (Str × Addr)) (lo : Nat) (C : Addr) (h1 : Heap) : Prop where
  old : ∀ x c, cl.lookup x = some c → X.env.cells.lookup x = some c ∨ (lo ≤ c ∧ C < c ∧ h1.IsCell c none)
  inj : ∀ x y c, C < c → cl.lookup x = some c → cl.lookup y = some c → x = y
  has : ∀ n, (n, NameKind.free) ∈ scope.names ∨ (n, NameKind.cell) ∈ scope.names → ∃ c, cl.lookup n = some c
  fre : ∀ n, scope.names.lookup n = some .free → ∀ c, cl.lookup n = some c → X.env.cells.lookup n = some c
  own : ∀ x c, scope.names.lookup x = some .cell → cl.lookup x = some c → lo ≤ c
section
variable {X : Cx} {pins : List (Addr × Obj)} {σ : St} {H : Hp} {s : Shared} {N' : List Str} {scope : Scope} {k : Nat} {fr : List Nat} {cl : List (Str × Addr)}
theorem compOk {C : Addr} {fp : List Addr} {h1 : Heap} (I : Inv X pins σ H s) (S : CompScope X.N X.env.scope N' scope k fr) (B : BlkC X scope cl s.heap.objs.size C h1)
    (hC : s.heap.objs.size ≤ C) (f2 : ∀ b ∈ fp, FpOk X pins H b) (lt : ∀ b ∈ fp, b < s.heap.objs.size) : (cxC X N' scope cl C s H fp).Ok where
  mod := I.ok.mod
  kind := S.kind
  glob := I.ok.glob
  blt := I.ok.blt
  above := hC
  inj := fun x y c h1 h2 => by
    rcases B.old _ _ h1 with o1 | o1 <;> rcases B.old _ _ h2 with o2 | o2
    · exact I.ok.inj x y c o1 o2
    · exact B.inj x y c o2.2.1 h1 h2
    · exact B.inj x y c o1.2.1 h1 h2
    · exact B.inj x y c o1.2.1 h1 h2
  has := fun x hx => B.has x (relabel_back hx)
  cab := fun x c z e => B.own x c (by
    have z : (scope.names.lookup x == some NameKind.cell) = true := z
    simpa using z) e
  hd := I.ok.hd
  frames := I.ok.frames
  stk := .inl rfl
  exf := fun b hb => ⟨Nat.ne_of_lt (Nat.lt_of_lt_of_le (lt b hb) hC), fun x c e => (B.old _ _ e).elim (fun o => (f2 b hb).2.2.2.2.1 x c o) fun o => Nat.ne_of_gt (Nat.lt_of_lt_of_le (lt b hb) o.1)⟩
  bs := I.bs
  bsz := Nat.le_trans I.ok.bsz I.sz
  noex := fun b o e hb => by
    rcases (f2 b hb).2.2.2.1 with z | z
    · exact I.ok.noex b o e z
    · exact absurd (Nat.lt_of_lt_of_le (Heap.lt_size e) (Nat.le_trans I.ok.bsz z)) (Nat.lt_irrefl _)
  exfs := fun b hb z => by
    rcases List.mem_cons.mp (I.stkSub b z) with q | q
    · exact (f2 b hb).2.1 q
    · exact (f2 b hb).2.2.1 q
  funs := I.stack
  frf := I.stkFree
theorem compInv {C : Addr} {fp : List Addr} {h1 : Heap} {tk : Nat} {m : Str → Option Value} (I : Inv X pins σ H s) (S : CompScope X.N X.env.scope N' scope k fr) (B : BlkC X scope cl s.heap.objs.size C h1)
    (hC : s.heap.objs.size ≤ C) (f2 : ∀ b ∈ fp, FpOk X pins H b) (lt : ∀ b ∈ fp, b < s.heap.objs.size) (old : ∀ b o, s.heap.get? b = some o → h1.get? b = some o) (hn : h1.Ns C m) :
    Inv (cxC X N' scope cl C s H fp) [] (stC k fr σ) H { s with heap := h1, toks := tk } := by
  refine ⟨compOk I S B hC f2 lt, rfl, I.bare, Un.kept old, ⟨m, hn, fun i x v e1 e2 e3 => ?_⟩, fun x c e => ?_, I.hok.fresh hC, fun x c e => (B.old _ _ e).elim (fun o => I.freeC x c o) fun o => I.hok.fresh o.1, fun p hp => absurd (show p ∈ ([] : List (Addr × Obj)) from hp) (by simp), I.hok.kept old, ?_⟩
  · have e1 : N'[i]? = some x := e1
    unfold stC at e2
    by_cases hi : i < k
    · rw [List.getElem?_append_left (by simpa using hi), List.getElem?_replicate, if_pos hi] at e2
      cases e2
    · rw [List.getElem?_append_right (by simpa using hi), List.length_replicate, List.getElem?_map] at e2
      cases q : fr[i - k]? with
      | none => rw [q] at e2; cases e2
      | some j =>
        rw [q] at e2
        have e2 : (σ[j]?).join = some v := Option.some.inj e2
        have ej : σ[j]? = some (some v) := by
          cases z : σ[j]? with
          | none => rw [z] at e2; cases e2
          | some o => rw [z] at e2; exact congrArg some e2
        have hlt : i - k < fr.length := (List.getElem?_eq_some_iff.mp q).1
        have hat := S.at_ (i - k) hlt
        rw [q, show k + (i - k) = i by omega, e1] at hat
        have hat : X.N[j]? = some x := hat
        have hxm : x ∈ N'.drop k := List.mem_iff_getElem?.mpr ⟨i - k, by rw [List.getElem?_drop, show k + (i - k) = i by omega]; exact e1⟩
        have hfr := S.fre x hxm
        have hmem : (x, NameKind.free) ∈ scope.names := PySem.mem_of_lookup hfr
        have hout := S.outer _ hmem rfl
        obtain ⟨m0, hn0, hl0⟩ := I.loc
        obtain ⟨u, r, l⟩ := hl0 j x v hat ej (.inr hout)
        refine ⟨u, r, .inr ⟨lookup_relabel_free hfr, ?_⟩⟩
        rcases l with ⟨kk, _⟩ | ⟨_, c, e, z⟩
        · have kk : X.env.scope.names.lookup x = some .local := kk
          rcases hout with q1 | q1
          · rw [kk] at q1; cases q1
          · rw [kk] at q1; cases q1
        · obtain ⟨c', e'⟩ := B.has x (.inl hmem)
          have ec := B.fre x hfr _ e'
          rw [e] at ec
          cases ec
          obtain ⟨ob, ho, hd⟩ := z
          exact ⟨c, e', ob, old _ _ ho, hd⟩
  · rcases B.old _ _ e with o | o
    · obtain ⟨v, ob, ho, hd⟩ := I.cell x c o
      exact ⟨v, ob, old _ _ ho, hd⟩
    · exact ⟨none, o.2.2⟩
  · unfold stC
    rw [List.length_append, List.length_replicate, List.length_map]
    exact S.len.symm
end
section
variable {prog : Program} {w : World} {A : Around} {E : Value → Shared → Prop} {R : Result → Shared → Prop} {s : Shared}
theorem codeAny_compLoop_any {elt target iter : Expr} {ifs : List Expr} {scope : Scope} {pos : Pos} {it acc : Value} {env : Env} (I : Nat → Shared → Prop)
    (turn : ∀ n s, I n s → wpAny (model prog w) A (pyNext it) (fun r s₁ => match r with
      | none => R (.ok .next) s₁
      | some v => wpAny (model prog w) A (letOwnedTupleGo target it v) (fun _ s₁' => wpAny (model prog w) A (assign target env v) (fun _ s₂ =>
          wpAny (model prog w) A (forIn ifs true fun c r => if r = true then do let ok ← isTrue c env (eval c env); pure (ForInStep.yield ok) else pure (ForInStep.yield r)) (fun ok s₃ =>
            if ok = true then wpAny (model prog w) A (eval elt env) (fun x s₄ =>
              wpAny (model prog w) A (call (.builtin "list.append") [acc, x]) (fun _ s₅ => ∃ m, m < n ∧ I m s₅) (fun _ _ => False) s₄) (notedBy (model prog w) A env fun x s' => R (.error x) s') s₃
            else ∃ m, m < n ∧ I m s₃) (fun _ _ => False) s₂) (fun _ _ => False) s₁') (fun _ _ => False) s₁) (fun _ _ => False) s)
    (n : Nat) (h : I n s) :
    codeAny (model prog w) A (.compLoop (.ListComp elt [⟨target, iter, ifs, 0⟩] scope pos) 0 it acc env) R s := by
  refine codeAny_loop rfl I (fun n s hI => ?_) n h
  show wpAny _ A ((compTurn (.ListComp elt [⟨target, iter, ifs, 0⟩] scope pos) 0 it acc env).onRaise (fun x => do noteFrame x env; theTreesLotGoes x)) _ _ s
  refine wpAny_noted ?_
  rw [compTurn_list]
  refine wpAny_bind (wpAny_standAt (wpAny_bind (wpAny_mono (turn n s hI) (fun r s₁ h₁ => ?_) fun _ _ h' => h'.elim)))
  cases r with
  | none => exact wpAny_pure h₁
  | some v =>
    refine wpAny_bind (wpAny_mono h₁ (fun _ s₁' h₁' => ?_) fun _ _ h' => h'.elim)
    refine wpAny_bind (wpAny_mono h₁' (fun _ s₂ h₂ => wpAny_bind (wpAny_mono h₂ (fun ok s₃ h₃ => ?_) fun _ _ h' => h'.elim)) fun _ _ h' => h'.elim)
    cases ok with
    | false => exact wpAny_pure ⟨rfl, h₃⟩
    | true =>
      exact wpAny_bind (wpAny_bind (wpAny_mono h₃ (fun x s₄ h₄ => wpAny_bind (wpAny_mono h₄ (fun _ s₅ h₅ => wpAny_pure (wpAny_pure ⟨rfl, h₅⟩)) fun _ _ h' => h'.elim)) fun _ _ h' => h'))
end
noncomputable def PTs (X : Cx) (ifs : List Expr) (t : TT) : Prop :=
  ∀ (pins : List (Addr × Obj)) (s : Shared) (σ : St) (H : Hp) (Q : Bool → Hp → Prop), Inv X pins σ H s → t σ H Q →
    wpAny (model X.prog X.w) X.A (forIn ifs true fun c r => if r = true then do let ok ← isTrue c X.env (eval c X.env); pure (ForInStep.yield ok) else pure (ForInStep.yield r)) (TP X pins σ Q) X.xe s
noncomputable def tYes : TT := fun _ H Q => Q true H
theorem pts_nil {X : Cx} : PTs X [] tYes := fun _ _ _ H _ I h => wpAny_tests_nil ⟨H, I, h⟩
theorem pts_one {X : Cx} {c : Expr} {t : TT} (h : PT X c t) : PTs X [c] t := fun pins s σ H Q I hq => wpAny_tests_one (h pins s σ H Q I hq)
section
variable {X : Cx}
noncomputable def tBlock (J : It) (g : TG) (tc : TT) (te : TE) (σ0 : St) (H1 : Hp) (fin : List V → Hp → Prop) : Prop :=
  ∃ W : Nat → Nat → List V → St → Hp → Prop, (∃ m, W 0 m [] σ0 H1) ∧ ∀ i m ys σ2 H2, W i m ys σ2 H2 →
    (J.stop i H2 ∧ fin ys H2) ∨
    (J.go i H2 ∧ ∀ x H3, J.yld i H2 x H3 → g x σ2 H3 fun σ3 H4 => tc σ3 H4 fun b H5 => if b = true then te σ3 H5 fun y H6 => ys.length < sizeLine ∧ ∃ m', m' < m ∧ W (i + 1) m' (ys ++ [y]) σ3 H6 else ∃ m', m' < m ∧ W (i + 1) m' ys σ3 H5)
noncomputable def lstObj (its : List Value) (n : Nat) : Obj := { cls := .type "list", data := .seq its.toArray n }
theorem block_in {elt target iter : Expr} {ifs : List Expr} {scope : Scope} {pos : Pos} {g : TG} {tc : TT} {te : TE} {k : Nat} {fr : List Nat} {N' : List Str} {cl : List (Str × Addr)} {pins : List (Addr × Obj)} {σ : St} {H2 : Hp} {s2 : Shared}
    {it : Addr} {fp : List Addr} {tn : Nat → Heap → Prop} {J : It} {fin : List V → Hp → Prop} {R0 : Result → Shared → Prop} {XE : List (Str × Addr) → Addr → Shared → Hp → List Addr → Value → Shared → Prop}
    (hc : X.calm = true) (S : CompScope X.N X.env.scope N' scope k fr) (c1 : ∀ x c, cl.lookup x = some c → X.env.cells.lookup x = some c) (c2 : ∀ n, (n, NameKind.free) ∈ scope.names → ∃ c, cl.lookup n = some c) (cin : ∀ x c, (x, c) ∈ cl → ∃ y, X.env.cells.lookup y = some c) (cno : ∀ x, (x, NameKind.cell) ∈ scope.names → ∀ c, (x, c) ∉ cl)
    (hg : ∀ cl C s H ex, PG (cxC X N' scope cl C s H ex) target g) (ht : ∀ cl C s H ex, PTs (cxC X N' scope cl C s H ex) ifs tc) (he : ∀ cl C s H ex, PE ((cxC X N' scope cl C s H ex).wish (XE cl C s H ex)) elt te)
    (I2 : Inv X pins σ H2 s2) (T : Turn X.prog X.w X.K target J fp it tn) (st2 : tn 0 s2.heap) (f2 : ∀ b ∈ fp, FpOk X pins H2 b) (hb : tBlock J g tc te (stC k fr σ) H2 fin)
    (hR : ∀ (C : Addr), C = (s2.heap.push { cls := .type "list", dict := none, data := .seq ([] : List Value).toArray }).objs.size → ∀ (s' : Shared) (m : Str → Option Value) (ys : List V) (its : List Value) (n : Nat) (H' : Hp), s2.heap.objs.size < C → s'.heap.Ns C m → Vals ys its → ys.length ≤ sizeLine → s'.heap.get? s2.heap.objs.size = some (lstObj its n) → H' s2.heap.objs.size = none → H' C = none → fin ys H' →
      s'.os = s2.os → AllBare s'.gens → Un (frs X.stack) fp H2 H' s2.heap s'.heap → HOk X.prog X.w H' s'.heap → R0 (.ok .next) s')
    (hE : ∀ cl C x s', C = (s2.heap.push { cls := .type "list", dict := none, data := .seq ([] : List Value).toArray }).objs.size → s2.heap.objs.size < C → XE cl C s2 H2 fp x s' → notedBy (model X.prog X.w) X.A (compEnvC scope cl C X.env) (fun y s'' => R0 (.error y) s'') x s') :
    codeAny (model X.prog X.w) X.A (.compStart (.ListComp elt [⟨target, iter, ifs, 0⟩] scope pos) 0 (.ref it) (.ref s2.heap.objs.size) (compEnvC scope (cellsFrom ((s2.heap.push { cls := .type "list", dict := none, data := .seq ([] : List Value).toArray }).objs.size + 1) scope.names cl) (s2.heap.push { cls := .type "list", dict := none, data := .seq ([] : List Value).toArray }).objs.size X.env)) R0 { s2 with heap := pushCells ((s2.heap.push { cls := .type "list", dict := none, data := .seq ([] : List Value).toArray }).push { cls := .type "dict", data := .dict #[] }) scope.names } := by
  obtain ⟨W, ⟨m0, w0⟩, turn⟩ := hb
  have lt : ∀ b ∈ fp, b < s2.heap.objs.size := fun b hb => by
    obtain ⟨o, e, _⟩ := T.obj _ _ st2 b hb
    exact Heap.lt_size e
  generalize hH2 : s2.heap.push { cls := .type "list", dict := none, data := .seq ([] : List Value).toArray } = G2 at hR hE ⊢
  have hCs : G2.objs.size = s2.heap.objs.size + 1 := by rw [← hH2, Heap.size_push]
  have hDC : s2.heap.objs.size ≠ G2.objs.size := by rw [hCs]; exact Nat.ne_of_lt (Nat.lt_succ_self _)
  have hC : s2.heap.objs.size ≤ G2.objs.size := by rw [hCs]; exact Nat.le_succ _
  have old : ∀ b o, s2.heap.get? b = some o → (pushCells (G2.push { cls := .type "dict", data := .dict #[] }) scope.names).get? b = some o := fun b o e => by
    refine pushCells_keeps _ _ b o (Heap.get?_push_of_some _ ?_)
    rw [← hH2]
    exact Heap.get?_push_of_some _ e
  have hacc : (pushCells (G2.push { cls := .type "dict", data := .dict #[] }) scope.names).get? s2.heap.objs.size = some (lstObj [] 0) := by
    refine pushCells_keeps _ _ _ _ (Heap.get?_push_of_some _ ?_)
    rw [← hH2]
    exact Heap.get?_push_size _ rfl
  have hns₁ : (pushCells (G2.push { cls := .type "dict", data := .dict #[] }) scope.names).Ns G2.objs.size fun _ => none := (Heap.Ns.new G2 (.type "dict")).keeps (pushCells_keeps _ _)
  have cl0 : ∀ x c, (x, c) ∈ cl → c < G2.objs.size + 1 := fun x c m => by
    obtain ⟨y, hy⟩ := cin x c m
    obtain ⟨v, q⟩ := I2.cell y c hy
    rw [hCs]
    exact Nat.lt_succ_of_lt (Nat.lt_succ_of_lt q.lt)
  have B : BlkC X scope (cellsFrom (G2.objs.size + 1) scope.names cl) s2.heap.objs.size G2.objs.size (pushCells (G2.push { cls := .type "dict", data := .dict #[] }) scope.names) := by
    have own := cells_own scope.names (G2.push { cls := .type "dict", data := .dict #[] }) cl
    rw [Heap.size_push] at own
    refine ⟨fun x c e => ?_, fun x y c hc h1 h2 => ?_, fun n hn => ?_, fun n hn c e => ?_, fun x c hx e => ?_⟩
    · by_cases hx : (x, NameKind.cell) ∈ scope.names
      · rcases own x c (PySem.mem_of_lookup e) with m | ⟨q1, q2, _⟩
        ·
          exfalso
          exact cno x hx c m
        · exact .inr ⟨Nat.le_trans hC (Nat.le_of_succ_le q1), q1, q2⟩
      · rw [cells_skip _ _ _ _ hx] at e
        exact .inl (c1 x c e)
    · exact cells_inj scope.names (G2.objs.size + 1) (G2.objs.size + 1) cl cl0 (fun x y c hl m1 _ => absurd (cl0 x c m1) (Nat.not_lt.mpr hl)) x y c hc (PySem.mem_of_lookup h1) (PySem.mem_of_lookup h2)
    · refine Option.isSome_iff_exists.mp (cells_has _ _ _ n ?_)
      rcases hn with hn | hn
      · obtain ⟨c, e⟩ := c2 n hn
        exact .inr (by rw [e]; rfl)
      · exact .inl hn
    · have hx : (n, NameKind.cell) ∉ scope.names := fun m => by
        have := (S.cels _ m rfl).1
        rw [hn] at this
        cases this
      rw [cells_skip _ _ _ _ hx] at e
      exact c1 n c e
    · have hx := PySem.mem_of_lookup hx
      rcases own x c (PySem.mem_of_lookup e) with m | ⟨q1, q2, _⟩
      · exact absurd m (cno x hx c)
      · exact Nat.le_trans hC (Nat.le_of_succ_le q1)
  generalize pushCells (G2.push { cls := .type "dict", data := .dict #[] }) scope.names = h₁ at *
  generalize cellsFrom (G2.objs.size + 1) scope.names cl = cl2 at *
  generalize hDd : s2.heap.objs.size = D at *
  generalize hCc : G2.objs.size = C at *
  have fD : H2 D = none := by rw [← hDd]; exact I2.hok.fresh (Nat.le_refl _)
  have cells : ∀ x c, cl2.lookup x = some c → c ≠ D := fun x c e => by
    rcases B.old _ _ e with o | o
    · obtain ⟨v, q⟩ := I2.cell x c o
      rw [← hDd]
      exact Nat.ne_of_lt q.lt
    · exact Nat.ne_of_gt (Nat.lt_trans (by rw [hCs]; exact Nat.lt_succ_self _) o.2.1)
  have loop : ∀ (itv : Addr) (s3 : Shared), itv = it → (∃ tk, s3 = { s2 with heap := h₁, toks := tk }) →
      codeAny (model X.prog X.w) X.A (.compLoop (.ListComp elt [⟨target, iter, ifs, 0⟩] scope pos) 0 (.ref itv) (.ref D) (compEnvC scope cl2 C X.env)) R0 s3 := by
    rintro itv s3 rfl ⟨tk, rfl⟩
    have I3 : Inv (cxC X N' scope cl2 C s2 H2 fp) [] (stC k fr σ) H2 { s2 with heap := h₁, toks := tk } := compInv I2 S (by rw [hDd]; exact B) (by rw [hDd]; exact hC) f2 (by rw [hDd]; exact lt) old hns₁
    have stat : ∀ {H' : Hp} {o : Obj}, (∀ b ∈ fp, H' b = none) → ∀ b ∈ fp, FpOk (cxC X N' scope cl2 C s2 H2 fp) [(D, o)] H' b := fun {H' o} hn b hb =>
      ⟨hn b hb, Nat.ne_of_lt (Nat.lt_of_lt_of_le (lt b hb) hC), fun z => by
        rcases List.mem_cons.mp (I2.stkSub b z) with q | q
        · exact (f2 b hb).2.1 q
        · exact (f2 b hb).2.2.1 q, .inl hb, fun x c e => (B.old _ _ e).elim (fun o => (f2 b hb).2.2.2.2.1 x c o) (fun o => Nat.ne_of_gt (Nat.lt_of_lt_of_le (lt b hb) o.1)), fun p hp => by
        have e : p = (D, o) := by simpa [cxC] using hp
        rw [e]
        exact Nat.ne_of_gt (lt b hb)⟩
    have addD : ∀ {σ' : St} {H' : Hp} {s' : Shared} {o : Obj}, Inv (cxC X N' scope cl2 C s2 H2 fp) [] σ' H' s' → s'.heap.get? D = some o → H' D = none → (∀ v, o.data ≠ .cell v) → Inv (cxC X N' scope cl2 C s2 H2 fp) [(D, o)] σ' H' s' := fun {σ' H' s' o} I' e n hd =>
      I'.pins_of fun p hp => by
        have q : p = (D, o) := by simpa using hp
        subst q
        refine ⟨e, n, hDC, fun z => ?_, hd⟩
        obtain ⟨_, ob, ho, _⟩ := I2.stack.mem z
        exact absurd (Heap.lt_size ho) (by rw [hDd]; exact Nat.lt_irrefl _)
    have ndL : ∀ {its : List Value} {n : Nat} (v : Option Value), (lstObj its n).data ≠ .cell v := fun v z => by
      have z : Data.seq _ _ = Data.cell v := z
      cases z
    refine codeAny_compLoop_any (fun n s' => ∃ i ys σ' H' its cap, Inv (cxC X N' scope cl2 C s2 H2 fp) [] σ' H' s' ∧ tn i s'.heap ∧ (∀ b ∈ fp, H' b = none) ∧ s'.heap.get? D = some (lstObj its cap) ∧ H' D = none ∧ Vals ys its ∧ ys.length ≤ sizeLine ∧ W i n ys σ' H') ?_ m0
      ⟨0, [], _, H2, [], 0, I3, T.keep _ _ _ st2 (fun b _ o e => old b o e), fun b hb => (f2 b hb).1, hacc, fD, .nil, Nat.zero_le _, w0⟩
    rintro n s4 ⟨i, ys, σ4, H4, its, cap, I4, st4, fr4, hD4, nD4, vl4, sz4, w4⟩
    have I4' := addD I4 hD4 nD4 ndL
    rcases turn i n ys σ4 H4 w4 with ⟨stop, qf⟩ | ⟨go, step⟩
    · refine thn (T.done (cxC X N' scope cl2 C s2 H2 fp) rfl rfl rfl hc i _ s4 σ4 H4 _ I4' (stat fr4) st4 stop) fun r s5 ⟨hr, I5⟩ => ?_
      subst hr
      obtain ⟨m5, hn5, _⟩ := I5.loc
      exact hR C rfl s5 m5 ys its cap H4 (by rw [hCs]; exact Nat.lt_succ_self _) hn5 vl4 sz4 (I5.pin (D, lstObj its cap) (List.mem_append_right _ List.mem_cons_self)).1 nD4 I5.free qf I5.os I5.bare I5.base I5.hok
    · refine thn (T.item (cxC X N' scope cl2 C s2 H2 fp) rfl rfl rfl hc i _ s4 σ4 H4 _ I4' (stat fr4) st4 go) fun r s5 ⟨u, hr, h5⟩ => ?_
      subst hr
      refine thn h5 fun _ s6 ⟨x, H6, I6, r6, y6, st6, fr6⟩ => ?_
      have I6' := I6.pinned (stat fr6) (T.obj _ _ st6)
      refine thn (hg cl2 C s2 H2 fp _ s6 σ4 H6 x u _ I6' r6 (step x H6 y6)) fun _ s7 ⟨σ7, H7, I7, q7⟩ => ?_
      refine thn (ht cl2 C s2 H2 fp _ s7 σ7 H7 _ I7 q7) fun ok s8 ⟨H8, I8, q8⟩ => ?_
      have back : ∀ {σ' : St} {H' : Hp} {s' : Shared}, Inv (cxC X N' scope cl2 C s2 H2 fp) ([(D, lstObj its cap)] ++ pinsAt fp s6.heap) σ' H' s' → tn (i + 1) s'.heap ∧ (∀ b ∈ fp, H' b = none) ∧ s'.heap.get? D = some (lstObj its cap) ∧ H' D = none := fun {σ' H' s'} I' => by
        have pD := I'.pin (D, lstObj its cap) (List.mem_append_right _ (List.mem_append_left _ (by simp)))
        refine ⟨T.keep _ _ _ st6 fun b hb o e => (I'.pin (b, o) (List.mem_append_right _ (List.mem_append_right _ (mem_pinsAt hb e)))).1, fun b hb => ?_, pD.1, pD.2.1⟩
        obtain ⟨o, e, d⟩ := T.obj _ _ st6 b hb
        exact (I'.pin (b, o) (List.mem_append_right _ (List.mem_append_right _ (mem_pinsAt hb e)))).2.1
      cases ok with
      | false =>
        rw [if_neg Bool.false_ne_true]
        rw [if_neg Bool.false_ne_true] at q8
        obtain ⟨m', hm, w8⟩ := q8
        obtain ⟨b1, b2, b3, b4⟩ := back I8
        exact ⟨m', hm, i + 1, ys, σ7, H8, its, cap, I8.pins_of (fun p hp => absurd hp (by simp)), b1, b2, b3, b4, vl4, sz4, w8⟩
      | true =>
        rw [if_pos rfl]
        rw [if_pos rfl] at q8
        refine wpAny_mono (he cl2 C s2 H2 fp _ s8 σ7 H8 _ (I8.wish _) q8) (fun y s9 ⟨z, H9, I9, r9, hlt, m', hm, w9⟩ => ?_) fun x s' hx => hE cl2 C x s' rfl (by rw [hCs]; exact Nat.lt_succ_self _) hx
        have I9 := I9.unwish
        obtain ⟨b1, b2, b3, b4⟩ := back I9
        have hl := vl4.length
        refine call_meets F.slot_list_append ⟨_, b3, rfl⟩ F.entry_list_append (F.args_list_append_2 _ _) (PySem.list_append D its.toArray cap y (by rw [List.size_toArray]; omega)) ⟨b3, ?_⟩
        obtain ⟨c', q⟩ : ∃ c', (s9.heap.update D (Obj.mapSeq fun x => x.push y)).get? D = some (lstObj (its ++ [y]) c') := by
          have q := PySem.IsL.update b3 (fun x => x.push y)
          rw [show its.toArray.push y = (its ++ [y]).toArray by simp] at q
          exact ⟨_, q⟩
        have I9' : Inv (cxC X N' scope cl2 C s2 H2 fp) [] σ7 H9 s9 := I9.pins_of (fun p hp => absurd hp (by simp))
        have kp : ∀ b o, b ≠ D → s9.heap.get? b = some o → (s9.heap.update D (Obj.mapSeq fun x => x.push y)).get? b = some o := fun b o hb e => (Heap.get?_update_other s9.heap (Obj.mapSeq fun x => x.push y) (Ne.symm hb)).trans e
        have I10 := I9'.turned (t' := s9.toks) (it := D) (h' := s9.heap.update D (Obj.mapSeq fun x => x.push y)) kp b4 hDC (.inr (by show s2.heap.objs.size ≤ D; rw [hDd]; exact Nat.le_refl _)) (fun x c e => cells x c e) (fun p hp => absurd hp (by simp [cxC]))
        refine ⟨m', hm, i + 1, ys ++ [z], σ7, H9, its ++ [y], c', I10, T.keep _ _ _ b1 (fun b hb o e => kp b o (Nat.ne_of_lt (lt b hb)) e), b2, q, b4, vl4.append (.cons r9 .nil), ?_, w9⟩
        · rw [List.length_append, List.length_singleton]
          omega
  exact codeAny_compStart_list (loop it _ rfl ⟨_, rfl⟩) (T.self _ 0 _ _ _ (T.keep _ _ _ st2 (fun b _ o e => old b o e)) (loop it _ rfl ⟨_, rfl⟩))
theorem block_run {elt target iter : Expr} {ifs : List Expr} {scope : Scope} {pos : Pos} {g : TG} {tc : TT} {te : TE} {k : Nat} {fr : List Nat} {N' : List Str} {cl : List (Str × Addr)} {pins : List (Addr × Obj)} {σ : St} {H2 : Hp} {s2 : Shared}
    {it : Addr} {fp : List Addr} {tn : Nat → Heap → Prop} {J : It} {E : Value → Shared → Prop} {fin : List V → Hp → Prop} {RR : Value → Addr → Result → Shared → Prop} {XE : List (Str × Addr) → Addr → Shared → Hp → List Addr → Value → Shared → Prop}
    (hc : X.calm = true) (S : CompScope X.N X.env.scope N' scope k fr) (c1 : ∀ x c, cl.lookup x = some c → X.env.cells.lookup x = some c) (c2 : ∀ n, (n, NameKind.free) ∈ scope.names → ∃ c, cl.lookup n = some c) (cin : ∀ x c, (x, c) ∈ cl → ∃ y, X.env.cells.lookup y = some c) (cno : ∀ x, (x, NameKind.cell) ∈ scope.names → ∀ c, (x, c) ∉ cl)
    (hg : ∀ cl C s H ex, PG (cxC X N' scope cl C s H ex) target g) (ht : ∀ cl C s H ex, PTs (cxC X N' scope cl C s H ex) ifs tc) (he : ∀ cl C s H ex, PE ((cxC X N' scope cl C s H ex).wish (XE cl C s H ex)) elt te)
    (I2 : Inv X pins σ H2 s2) (T : Turn X.prog X.w X.K target J fp it tn) (st2 : tn 0 s2.heap) (f2 : ∀ b ∈ fp, FpOk X pins H2 b) (hb : tBlock J g tc te (stC k fr σ) H2 fin)
    (hR : ∀ (C : Addr) (s' : Shared) (m : Str → Option Value) (ys : List V) (its : List Value) (n : Nat) (H' : Hp), s2.heap.objs.size < C → s'.heap.Ns C m → Vals ys its → ys.length ≤ sizeLine → s'.heap.get? s2.heap.objs.size = some (lstObj its n) → H' s2.heap.objs.size = none → H' C = none → fin ys H' →
      s'.os = s2.os → AllBare s'.gens → Un (frs X.stack) fp H2 H' s2.heap s'.heap → HOk X.prog X.w H' s'.heap → RR (.ref s2.heap.objs.size) C (.ok .next) s')
    (hE : ∀ cl C x s', s2.heap.objs.size < C → XE cl C s2 H2 fp x s' → notedBy (model X.prog X.w) X.A (compEnvC scope cl C X.env) (fun y s'' => RR (.ref s2.heap.objs.size) C (.error y) s'') x s') :
    wpAny (model X.prog X.w) X.A (newList []) (fun acc s₃ => wpAny (model X.prog X.w) X.A (newFunctionEnv scope X.env.globals cl [] X.env.qual none .none (some X.env)) (fun cenv s₄ =>
      codeAny (model X.prog X.w) X.A (.compStart (.ListComp elt [⟨target, iter, ifs, 0⟩] scope pos) 0 (.ref it) acc { cenv with scope := relabel scope X.env }) (RR acc cenv.locals) s₄) E s₃) E s2 := by
  refine wpAny_newObj_type (wpAny_newEnv_comp ?_)
  exact block_in (R0 := RR _ _) hc S c1 c2 cin cno hg ht he I2 T st2 f2 hb (fun C e => by subst e; exact hR _) (fun cl C x s' e => by subst e; exact hE cl _ x s')
theorem comp_back {fp : List Addr} {pins : List (Addr × Obj)} {σ : St} {H2 H' : Hp} {s2 s' : Shared} {C : Addr} {ys : List V} {its : List Value} {n : Nat} {h' : Heap} (I2 : Inv X pins σ H2 s2) (f2 : ∀ b ∈ fp, FpOk X pins H2 b) (hC : s2.heap.objs.size < C)
    (vl : Vals ys its) (sz : ys.length ≤ sizeLine) (hD : s'.heap.get? s2.heap.objs.size = some (lstObj its n)) (nD : H' s2.heap.objs.size = none) (nC : H' C = none)
    (os : s'.os = s2.os) (bare : AllBare s'.gens) (un : Un (frs X.stack) fp H2 H' s2.heap s'.heap) (hok : HOk X.prog X.w H' s'.heap) (hs : Heap.SameBut C s'.heap h') :
    Inv X pins σ (upd H' s2.heap.objs.size (.lst ys)) { s' with heap := h' } := by
  have ltC : ∀ b o, s2.heap.get? b = some o → b ≠ C := fun b o e => Nat.ne_of_lt (Nat.lt_trans (Heap.lt_size e) hC)
  have ltD : ∀ b o, s2.heap.get? b = some o → b ≠ s2.heap.objs.size := fun b o e => Nat.ne_of_lt (Heap.lt_size e)
  have tk : ∀ b u, H' b = some u → b ≠ s2.heap.objs.size := fun b u e z => by rw [z, nD] at e; cases e
  have tC : ∀ b u, H' b = some u → b ≠ C := fun b u e z => by rw [z, nC] at e; cases e
  have fD : H2 s2.heap.objs.size = none := I2.hok.fresh (Nat.le_refl _)
  have t2 : ∀ b u, H2 b = some u → b ≠ s2.heap.objs.size := fun b u e z => by rw [z, fD] at e; cases e
  refine I2.call' (s' := { s' with heap := h' }) (ch := fp) os ⟨fun b o e m hb hx => ?_, fun b o e m hb hx => ?_, fun b o e m hx => ?_, fun b o e hx => ?_, fun b xs e => ?_, fun b o u e => ?_, fun b ps e => ?_⟩ (fun b u e => ?_) bare fun b hb => ?_
  · exact (hs.2 b (ltC b o e)).trans (un.keep b o e m hb hx)
  · obtain ⟨sl, q⟩ := un.slot b o e m hb hx
    exact ⟨sl, (hs.2 b (ltC b o e)).trans q⟩
  · rw [upd_ne (ltD b o e)]
    exact un.free b o e m hx
  · obtain ⟨o', q⟩ := un.there b o e hx
    exact ⟨o', (hs.2 b (ltC b o e)).trans q⟩
  · rw [upd_ne (t2 b _ e)]
    exact un.tups b xs e
  · rw [upd_ne (t2 b _ e)]
    exact un.frzs b o u e
  · obtain ⟨mo, q⟩ := un.tbls b ps e
    exact ⟨mo, by rw [upd_ne (t2 b _ e)]; exact q⟩
  · by_cases hb : b = s2.heap.objs.size
    · subst hb
      rw [upd_same] at e
      cases e
      exact ⟨sz, its, n, vl, (hs.2 _ (Nat.ne_of_lt hC)).trans hD⟩
    · rw [upd_ne hb] at e
      exact (hok b u e).stay (fun c v hc q => (hs.2 c (by
        rcases hc with rfl | hc
        · exact tC _ _ e
        · exact tC _ _ hc)).trans q) (fun c r => by rw [upd_ne (tk _ _ r)]; exact r) fun c xs r => by rw [upd_ne (tk _ _ r)]; exact r
  · exact ⟨(f2 b hb).2.2.2.1, (f2 b hb).2.1, (f2 b hb).2.2.2.2.1, (f2 b hb).2.2.2.2.2⟩
noncomputable def tComp (wi : TI) (g : TG) (tc : TT) (te : TE) (k : Nat) (fr : List Nat) : TE := fun σ H Q => wi σ H fun J H1 => tBlock J g tc te (stC k fr σ) H1 fun ys H2 => ∀ D, H1 D = none → H2 D = none → Q (.ref D) (upd H2 D (.lst ys))
theorem pe_comp {elt target iter : Expr} {ifs : List Expr} {scope so : Scope} {pos : Pos} {wi : TI} {g : TG} {tc : TT} {te : TE} {k : Nat} {fr : List Nat} {N N' : List Str} (hc : X.calm = true) (hN : X.N = N) (hso : X.env.scope = so) (S : CompScope N so N' scope k fr)
    (hi : PI X target iter wi) (hg : ∀ cl C s H ex, PG (cxC X N' scope cl C s H ex) target g) (ht : ∀ cl C s H ex, PTs (cxC X N' scope cl C s H ex) ifs tc) (he : ∀ cl C s H ex, PE (cxC X N' scope cl C s H ex) elt te)
    (hs : ∀ x, foldedSetIterable iter X.env x = pure x := by intro _; rfl) : PE X (.ListComp elt [⟨target, iter, ifs, 0⟩] scope pos) (tComp wi g tc te k fr) := by
  subst hN hso
  intro pins s σ H Q I h
  rw [eval_ListComp]
  obtain ⟨cl, hcl, c1, c2, c3⟩ := closureFor_of (env := X.env) (scope := scope) fun n hn => I.ok.has n (S.outer _ hn rfl)
  refine wpAny_comprehension_free (use := none) (cl := cl) rfl hs hcl S.kind S.locs ?_
  refine thn (hi pins s σ H _ I h) fun v s1 h1 => thn h1 fun itv s2 h2 => ?_
  obtain ⟨it, fp, tn, J, H2, rfl, I2, T, st2, f2, hb⟩ := h2
  refine block_run (RR := fun acc C => compPost (model X.prog X.w) X.A X.xe none (EP X pins σ Q) acc C) hc S c1 c2 (fun x c m => ⟨x, (c3 x c m).1⟩) (fun x hx c m => (S.cels _ hx rfl).2 (c3 x c m).2) (XE := fun _ _ _ _ _ _ _ => False) hg ht he I2 T st2 f2 hb ?_ (fun _ _ _ _ _ z => False.elim z)
  intro C s' m ys its n H' hC hn vl sz hD nD nC fin os bare un hok
  exact ⟨m, hn, fun h' hs' => ⟨.ref _, _, comp_back I2 f2 hC vl sz hD nD nC os bare un hok hs', rfl, fin _ (I2.hok.fresh (Nat.le_refl _)) nD⟩⟩
theorem relab_cell {env : Env} : ∀ {names : List (Str × NameKind)} {x : Str}, names.lookup x = some .cell →
    (names.map fun (n, k) => if (k == NameKind.free && env.scope.kind == .function && env.kindOf n == some .cell) then (n, NameKind.cell) else (n, k)).lookup x = some .cell
  | [], _, h => by simp at h
  | (n, k) :: r, x, h => by
    have ih := @relab_cell env r x
    show List.lookup x ((if (k == NameKind.free && env.scope.kind == .function && env.kindOf n == some .cell) = true then (n, NameKind.cell) else (n, k)) :: _) = _
    cases hx : x == n with
    | true =>
      simp only [List.lookup_cons, hx] at h
      cases h
      rw [if_neg (by simp)]
      simp [List.lookup_cons, hx]
    | false =>
      simp only [List.lookup_cons, hx] at h
      by_cases hc : (k == NameKind.free && env.scope.kind == .function && env.kindOf n == some .cell) = true
      · rw [if_pos hc]; simp only [List.lookup_cons, hx]; exact ih h
      · rw [if_neg hc]; simp only [List.lookup_cons, hx]; exact ih h
theorem CompScope.relab {N N' : List Str} {so scope : Scope} {k : Nat} {fr : List Nat} {env : Env} (S : CompScope N so N' scope k fr) : CompScope N (relabel so env) N' scope k fr :=
  ⟨S.kind, S.cels, S.locs, fun y hy e => (S.outer y hy e).elim (fun h => .inl (relab_cell h)) (fun h => lookup_relabel_free h), S.len, S.at_, S.fre⟩
theorem pe_compN {elt target iter : Expr} {ifs : List Expr} {scope so : Scope} {env0 : Env} {pos : Pos} {wi : TI} {g : TG} {tc : TT} {te : TE} {k : Nat} {fr : List Nat} {N N' : List Str} (hc : X.calm = true) (hN : X.N = N) (hso : X.env.scope = relabel so env0) (S : CompScope N so N' scope k fr)
    (hi : PI X target iter wi) (hg : ∀ cl C s H ex, PG (cxC X N' scope cl C s H ex) target g) (ht : ∀ cl C s H ex, PTs (cxC X N' scope cl C s H ex) ifs tc) (he : ∀ cl C s H ex, PE (cxC X N' scope cl C s H ex) elt te)
    (hs : ∀ x, foldedSetIterable iter X.env x = pure x := by intro _; rfl) : PE X (.ListComp elt [⟨target, iter, ifs, 0⟩] scope pos) (tComp wi g tc te k fr) := pe_comp hc hN hso S.relab hi hg ht he hs
theorem ps_setC {elt target iter : Expr} {ifs : List Expr} {scope so : Scope} {pos spos py : Pos} {wi : TI} {g : TG} {tc : TT} {te : TE} {k : Nat} {fr : List Nat} {N N' : List Str} {y : Str} {i : Nat} (hc : X.calm = true) (hN : X.N.Nodup) (hy : X.N[i]? = some y) (hl : X.env.scope.names.lookup y = some .local)
    (hNN : X.N = N) (hso : X.env.scope = so) (S : CompScope N so N' scope k fr)
    (hi : PI X target iter wi) (hg : ∀ cl C s H ex, PG (cxC X N' scope cl C s H ex) target g) (ht : ∀ cl C s H ex, PTs (cxC X N' scope cl C s H ex) ifs tc) (he : ∀ cl C s H ex, PE (cxC X N' scope cl C s H ex) elt te)
    (hsw : swapsWith (.ListComp elt [⟨target, iter, ifs, 0⟩] scope pos) (some (.Name y py)) spos.line X.env = pure true := by rfl)
    (hs : ∀ x, foldedSetIterable iter X.env x = pure x := by intro _; rfl) : PS X (.Assign [.Name y py] (.ListComp elt [⟨target, iter, ifs, 0⟩] scope pos) spos) (tAsg (tComp wi g tc te k fr) (gName i)) := by
  subst hNN hso
  intro pins s σ H D I h
  rw [exec_Assign_Name_used _ _ _ _ hsw]
  obtain ⟨cl, hcl, c1, c2, c3⟩ := closureFor_of (env := X.env) (scope := scope) fun n hn => I.ok.has n (S.outer _ hn rfl)
  refine wpAny_bind (wpAny_standAt (wpAny_bind ?_))
  show wpAny _ X.A (do let _ ← comprehension (.ListComp elt [⟨target, iter, ifs, 0⟩] scope pos) scope X.env _ (newList []) false (eval iter X.env) (some (assign (.Name y py) X.env))) _ _ s
  refine wpAny_bind (wpAny_mono (wpAny_comprehension_free (use := some (assign (.Name y py) X.env)) (Q := fun _ s' => SP X pins D .next s') (cl := cl) rfl hs hcl S.kind S.locs ?_) (fun _ s' hq => wpAny_pure (wpAny_pure hq)) fun _ _ e => e)
  refine thn (hi pins s σ H _ I h) fun v s1 h1 => thn h1 fun itv s2 h2 => ?_
  obtain ⟨it, fp, tn, J, H2, rfl, I2, T, st2, f2, hb⟩ := h2
  refine block_run (RR := fun acc C => compPost (model X.prog X.w) X.A X.xe (some (assign (.Name y py) X.env)) (fun _ s' => SP X pins D .next s') acc C) hc S c1 c2 (fun x c m => ⟨x, (c3 x c m).1⟩) (fun x hx c m => (S.cels _ hx rfl).2 (c3 x c m).2) (XE := fun _ _ _ _ _ _ _ => False) hg ht he I2 T st2 f2 hb ?_ (fun _ _ _ _ _ z => False.elim z)
  intro C s' m ys its n H' hC hn vl sz hD nD nC fin os bare un hok
  have I3 : Inv X pins σ (upd H' s2.heap.objs.size (.lst ys)) s' := comp_back (h' := s'.heap) I2 f2 hC vl sz hD nD nC os bare un hok (.refl ..)
  refine wpAny_assign_Name (store_ok2 (v := .ref s2.heap.objs.size) I3 hN hy (.inl hl) rfl (fun s4 I4 ch => ?_) (.inr hl))
  have ltL : X.env.locals < s2.heap.objs.size := I2.lt
  obtain ⟨a, hsa, ha⟩ := ch
  have aC : a ≠ C := by
    rcases ha with rfl | ha
    · exact Nat.ne_of_lt (Nat.lt_trans ltL hC)
    · obtain ⟨v, q⟩ := I2.cell _ _ ha
      exact Nat.ne_of_lt (Nat.lt_trans q.lt hC)
  refine ⟨m, hn.sameBut hsa (Ne.symm aC), fun h' hs' => ⟨_, _, ?_, fin _ (I2.hok.fresh (Nat.le_refl _)) nD⟩⟩
  have nC4 : (upd H' s2.heap.objs.size (.lst ys)) C = none := by rw [upd_ne (Nat.ne_of_gt hC)]; exact nC
  exact I4.turned (t' := s4.toks) (it := C) (h' := h') (fun b o hb e => (hs'.2 b hb).trans e) nC4 (Nat.ne_of_gt (Nat.lt_trans ltL hC)) (.inr (Nat.le_trans I2.sz (Nat.le_of_lt hC))) (fun x c e z => by
    obtain ⟨v, q⟩ := I2.cell x c e
    exact absurd (Nat.lt_trans q.lt hC) (by rw [z]; exact Nat.lt_irrefl _)) (fun p hp z => by
    have := Heap.lt_size (I2.pin p hp).1
    rw [z] at this
    exact absurd (Nat.lt_trans this hC) (Nat.lt_irrefl _))
end
structure Src (J : It) (Ok : Hp → Prop) (n : Nat) (Item : Nat → V → Hp → Hp → Prop) : Prop where
  go : ∀ i H, i < n → Ok H → J.go i H
  yld : ∀ i H x H3, i < n → Ok H → J.yld i H x H3 → Item i x H H3
  stop : ∀ H, Ok H → J.stop n H
theorem src_list {K : PySem.W.Frag} {a : Addr} {xs : List V} {Ok : Hp → Prop} (h : ∀ H, Ok H → SqL K H a xs) : Src (Itl K a) Ok xs.length (fun i x H H3 => H3 = H ∧ xs[i]? = some x) where
  go := fun i H hi ok => ⟨xs, xs[i], h H ok, by simp [hi]⟩
  yld := fun i H x H3 hi ok ⟨e, y⟩ => ⟨e, y xs (h H ok)⟩
  stop := fun H ok => ⟨xs, h H ok, Nat.le_refl _⟩
theorem src_range {lo : Int} {n : Nat} {Ok : Hp → Prop} : Src (Itr lo n) Ok n (fun i x H H3 => H3 = H ∧ x = .int (lo + i)) where
  go := fun _ _ hi _ => hi
  yld := fun _ _ _ _ _ _ y => y
  stop := fun _ _ => Nat.le_refl _
theorem block_src {J : It} {g : TG} {tc : TT} {te : TE} {σ0 : St} {H1 : Hp} {fin : List V → Hp → Prop} {n : Nat} {Item : Nat → V → Hp → Hp → Prop} (S : Src J (Same H1) n Item) (Own : St → Prop) (h0 : Own σ0) (P : Nat → List V → Hp → Prop) (p0 : P 0 [] H1) (hz : n ≤ sizeLine)
    (hs : ∀ i x σ H ys H3 (Q : St → V → Hp → Prop) (N : St → Hp → Prop), i < n → Same H1 H → P i ys H → ys.length ≤ i → Own σ → Item i x H H3 →
      (∀ σ3 y H6, Own σ3 → Same H1 H6 → P (i + 1) (ys ++ [y]) H6 → Q σ3 y H6) → (∀ σ3 H5, Own σ3 → Same H1 H5 → P (i + 1) ys H5 → N σ3 H5) →
      g x σ H3 fun σ3 H4 => tc σ3 H4 fun b H5 => if b = true then te σ3 H5 fun y H6 => Q σ3 y H6 else N σ3 H5)
    (hfin : ∀ ys H, Same H1 H → P n ys H → ys.length ≤ n → fin ys H) : tBlock J g tc te σ0 H1 fin := by
  refine ⟨fun i m ys σ H => m = n - i ∧ i ≤ n ∧ ys.length ≤ i ∧ Own σ ∧ Same H1 H ∧ P i ys H, ⟨n, by simp, Nat.zero_le _, Nat.le_refl _, h0, Same.refl _, p0⟩, ?_⟩
  rintro i m ys σ H ⟨rfl, hi, hl, ow, sm, p⟩
  by_cases hlt : i < n
  · refine .inr ⟨S.go i H hlt sm, fun x H3 y => hs i x σ H ys H3 (fun σ3 y H6 => ys.length < sizeLine ∧ ∃ m', m' < n - i ∧ m' = n - (i + 1) ∧ i + 1 ≤ n ∧ (ys ++ [y]).length ≤ i + 1 ∧ Own σ3 ∧ Same H1 H6 ∧ P (i + 1) (ys ++ [y]) H6)
      (fun σ3 H5 => ∃ m', m' < n - i ∧ m' = n - (i + 1) ∧ i + 1 ≤ n ∧ ys.length ≤ i + 1 ∧ Own σ3 ∧ Same H1 H5 ∧ P (i + 1) ys H5) hlt sm p hl ow (S.yld i H x H3 hlt sm y) (fun σ3 y H6 o s6 q => ?_) (fun σ3 H5 o s5 q => ?_)⟩
    · exact ⟨by omega, n - (i + 1), by omega, rfl, hlt, by rw [List.length_append, List.length_singleton]; omega, o, s6, q⟩
    · exact ⟨n - (i + 1), by omega, rfl, hlt, by omega, o, s5, q⟩
  · have e : i = n := by omega
    subst e
    exact .inl ⟨S.stop H sm, hfin ys H sm p hl⟩
theorem comp_map {J : It} {te : TE} {tl : St} {H1 : Hp} {fin : List V → Hp → Prop} {n : Nat} {Item : Nat → V → Hp → Hp → Prop} (S : Src J (Same H1) n Item) (sub : ∀ i x H H3, Item i x H H3 → Same H H3) (hz : n ≤ sizeLine)
    (R : Nat → V → Hp → Prop) (mono : ∀ i y H H', Same H H' → R i y H → R i y H')
    (hs : ∀ i x w H H3 (Q : VK), i < n → Same H1 H → Item i x H H3 → (∀ y H6, Same H3 H6 → R i y H6 → Q y H6) → te ((w :: tl).set 0 (some x)) H3 Q)
    (hfin : ∀ ys H, Same H1 H → ys.length = n → (∀ i y, ys[i]? = some y → R i y H) → fin ys H) : tBlock J (gName 0) tYes te (none :: tl) H1 fin := by
  refine ⟨fun i m ys σ H => m = n - i ∧ i ≤ n ∧ ys.length = i ∧ (∃ w, σ = w :: tl) ∧ Same H1 H ∧ ∀ j y, ys[j]? = some y → R j y H, ⟨n, by simp, Nat.zero_le _, rfl, ⟨_, rfl⟩, Same.refl _, fun j y e => by simp at e⟩, ?_⟩
  rintro i m ys σ H ⟨rfl, hi, hl, ⟨w, rfl⟩, sm, p⟩
  by_cases hlt : i < n
  · refine .inr ⟨S.go i H hlt sm, fun x H3 y => ?_⟩
    have it := S.yld i H x H3 hlt sm y
    have s3 := sub i x H H3 it
    unfold gName tYes
    refine iteT ?_
    refine hs i x w H H3 _ hlt sm it fun y H6 s6 r => ⟨by omega, n - (i + 1), by omega, rfl, hlt, by rw [List.length_append, List.length_singleton]; omega, ⟨_, rfl⟩, sm.trans (s3.trans s6), fun j z e => ?_⟩
    by_cases hj : j < i
    · rw [List.getElem?_append_left (by omega)] at e
      exact mono j z _ _ (s3.trans s6) (p j z e)
    · rw [List.getElem?_append_right (by omega)] at e
      have e2 : j - ys.length = 0 := by
        by_cases q : j - ys.length = 0
        · exact q
        · rw [List.getElem?_eq_none (by simp; omega)] at e; cases e
      rw [e2] at e
      simp at e
      subst e
      have : j = i := by omega
      subst this
      exact r
  · have e : i = n := by omega
    subst e
    exact .inl ⟨S.stop H sm, hfin ys H sm hl p⟩
noncomputable def tForB (J : It) (g : TG) (tb : TS) (D : Ends) (σ : St) (H : Hp) : Prop :=
  ∃ W : Nat → Nat → St → Hp → Prop, (∃ m, W 0 m σ H) ∧ ∀ i m σ H, W i m σ H →
    (J.stop i H ∧ D.nx σ H) ∨ (J.go i H ∧ ∃ N : St → Hp → Prop, (∀ σ' H', N σ' H' → ∃ m', m' < m ∧ W (i + 1) m' σ' H') ∧ ∀ x H', J.yld i H x H' → g x σ H' fun σ2 H2 => tb { D with nx := N, ct := N, bk := D.nx } σ2 H2)
theorem tFor_eq {wi : TI} {g : TG} {tb : TS} {D : Ends} {σ : St} {H : Hp} : tFor wi g tb D σ H = wi σ H fun J H1 => tForB J g tb D σ H1 := rfl
theorem for_src {J : It} {g : TG} {tb : TS} {D : Ends} {σ : St} {H : Hp} {n : Nat} {Item : Nat → V → Hp → Hp → Prop} {Ok : Hp → Prop} (S : Src J Ok n Item) (Pv : Nat → St → Hp → Prop) (h0 : Pv 0 σ H) (hok : ∀ i σ H, i ≤ n → Pv i σ H → Ok H)
    (hs : ∀ i x σ H H3, i < n → Pv i σ H → Item i x H H3 → g x σ H3 fun σ2 H2 => tb { D with nx := Pv (i + 1), ct := Pv (i + 1), bk := D.nx } σ2 H2) (hd : ∀ σ H, Pv n σ H → D.nx σ H) : tForB J g tb D σ H := by
  refine ⟨fun i m σ H => m = n - i ∧ i ≤ n ∧ Pv i σ H, ⟨n, by simp, Nat.zero_le _, h0⟩, ?_⟩
  rintro i m σ H ⟨rfl, hi, p⟩
  by_cases hlt : i < n
  · exact .inr ⟨S.go i H hlt (hok i σ H hi p), Pv (i + 1), fun σ' H' p' => ⟨n - (i + 1), by omega, rfl, hlt, p'⟩, fun x H' y => hs i x σ H H' hlt p (S.yld i H x H' hlt (hok i σ H hi p) y)⟩
  · have e : i = n := by omega
    subst e
    exact .inl ⟨S.stop H (hok i σ H hi p), hd σ H p⟩
theorem comp_map2 {K : PySem.W.Frag} {J : It} {te : TE} {tl : St} {H1 : Hp} {fin : List V → Hp → Prop} {n : Nat} {Item : Nat → V → Hp → Hp → Prop} (S : Src J (Same H1) n Item) (It2 : Nat → V → V → Hp → Prop)
    (tp : ∀ i x H H3, i < n → Same H1 H → Item i x H H3 → Same H H3 ∧ ∃ p a b, x = .ref p ∧ SqT K H3 p [a, b] ∧ It2 i a b H3) (hz : n ≤ sizeLine)
    (R : Nat → V → Hp → Prop) (mono : ∀ i y H H', Same H H' → R i y H → R i y H')
    (hs : ∀ i a b H3 (Q : VK), i < n → Same H1 H3 → It2 i a b H3 → (∀ y H6, Same H3 H6 → R i y H6 → Q y H6) → te (some a :: some b :: tl) H3 Q)
    (hfin : ∀ ys H, Same H1 H → ys.length = n → (∀ (i : Nat) y, ys[i]? = some y → R i y H) → fin ys H) : tBlock J (gTup K 2 (gCons (gName 0) (gCons (gName 1) gNil))) tYes te (none :: none :: tl) H1 fin := by
  refine ⟨fun i m ys σ H => m = n - i ∧ i ≤ n ∧ ys.length = i ∧ (∃ w w', σ = w :: w' :: tl) ∧ Same H1 H ∧ ∀ (j : Nat) y, ys[j]? = some y → R j y H, ⟨n, by simp, Nat.zero_le _, rfl, ⟨_, _, rfl⟩, Same.refl _, fun j y e => by simp at e⟩, ?_⟩
  rintro i m ys σ H ⟨rfl, hi, hl, ⟨w, w', rfl⟩, sm, p⟩
  by_cases hlt : i < n
  · refine .inr ⟨S.go i H hlt sm, fun x H3 y => ?_⟩
    obtain ⟨s3, q, a, b, rfl, sq, it⟩ := tp i x H H3 hlt sm (S.yld i H x H3 hlt sm y)
    refine ⟨q, _, rfl, sq, rfl, _, _, rfl, _, _, rfl, rfl, ?_⟩
    unfold tYes
    refine iteT ?_
    refine hs i a b H3 _ hlt (sm.trans s3) it fun y H6 s6 r => ⟨by omega, n - (i + 1), by omega, rfl, hlt, by rw [List.length_append, List.length_singleton]; omega, ⟨_, _, rfl⟩, sm.trans (s3.trans s6), fun j z e => ?_⟩
    by_cases hj : j < i
    · rw [List.getElem?_append_left (by omega)] at e
      exact mono j z _ _ (s3.trans s6) (p j z e)
    · rw [List.getElem?_append_right (by omega)] at e
      have e2 : j - ys.length = 0 := by
        by_cases q : j - ys.length = 0
        · exact q
        · rw [List.getElem?_eq_none (by simp; omega)] at e; cases e
      rw [e2] at e
      simp at e
      subst e
      have : j = i := by omega
      subst this
      exact r
  · have e : i = n := by omega
    subst e
    exact .inl ⟨S.stop H sm, hfin ys H sm hl p⟩
end L2
namespace L2
open PySem PySem.Spec PyProof.Rows
section
variable {X : Cx} {pins : List (Addr × Obj)} {σ : St} {H : Hp} {s : Shared}
theorem Inv.moved {h' : Heap} {t' : Nat} {ch : List Addr} (I : Inv X pins σ H s) (f : ∀ b ∈ ch, FpOk X pins H b) (k : ∀ b o, b ∉ ch → s.heap.get? b = some o → h'.get? b = some o) : Inv X pins σ H { s with heap := h', toks := t' } := by
  have nch : ∀ b u, H b = some u → b ∉ ch := fun b u e z => by rw [(f b z).1] at e; cases e
  refine I.step (g' := s.gens) (d' := s.drawn) (ch := ch) (fun b hb => ⟨(f b hb).2.2.2.1, (f b hb).2.1, (f b hb).2.2.2.2.1, (f b hb).2.2.2.2.2⟩) (fun b o _ _ hc e _ => k b o hc e) (fun b o _ _ hc e _ => ⟨o.slots, k b o hc e⟩) (fun _ _ _ _ n => n)
    (fun b o hc e => ⟨o, k b o hc e⟩) (fun _ _ e => e) (fun _ _ _ e => e) (fun b ps e => ⟨#[], by rw [e]; simp⟩) (fun m hm => ?_) (fun b u e => ?_) I.bare
  · obtain ⟨o, es, ep, ho, r⟩ := hm
    exact ⟨o, es, ep, k _ o (fun z => (f _ z).2.1 rfl) ho, r⟩
  · refine (I.hok b u e).stay (fun c v hc q => k c v ?_ q) (fun _ q => q) fun _ _ q => q
    rcases hc with z | z
    · rw [z]; exact nch b u e
    · exact nch c _ z
theorem Inv.take {ad : Addr} {o : HO} (I : Inv X pins σ H s) (f : FpOk X pins H ad) (new : X.s₀.heap.objs.size ≤ ad) (ok : ObjOk X.prog X.w (upd H ad o) s.heap ad o) : Inv X pins σ (upd H ad o) s := by
  obtain ⟨hn, nL, nf, _, nc, np⟩ := f
  have tk : ∀ b u, H b = some u → b ≠ ad := fun b u e z => by rw [z, hn] at e; cases e
  refine ⟨I.ok, I.os, I.bare, ⟨I.base.keep, I.base.slot, fun b ob e m hx => ?_, I.base.there, fun b xs e => ?_, fun b ob u e => ?_, fun b ps e => ?_⟩, I.loc, I.cell, ?_, fun x c e => ?_, fun p hp => ?_, fun b u e => ?_, I.len⟩
  · rw [upd_ne (Nat.ne_of_lt (Nat.lt_of_lt_of_le (Heap.lt_size e) new))]
    exact I.base.free b ob e m hx
  · have q := I.base.tups b xs e
    rw [upd_ne (tk b _ q)]; exact q
  · have q := I.base.frzs b ob u e
    rw [upd_ne (tk b _ q)]; exact q
  · obtain ⟨mo, q⟩ := I.base.tbls b ps e
    exact ⟨mo, by rw [upd_ne (tk b _ q)]; exact q⟩
  · rw [upd_ne (Ne.symm nL)]; exact I.free
  · rw [upd_ne (nc x c e)]; exact I.freeC x c e
  · obtain ⟨a, b, c⟩ := I.pin p hp
    exact ⟨a, by rw [upd_ne (np p hp)]; exact b, c⟩
  · by_cases hb : b = ad
    · subst hb
      rw [upd_same] at e
      cases e
      exact ok
    · rw [upd_ne hb] at e
      exact (I.hok b u e).stay (fun _ _ _ q => q) (fun c r => by rw [upd_ne (tk _ _ r)]; exact r) fun c xs r => by rw [upd_ne (tk _ _ r)]; exact r
end
noncomputable def Itz (K : PySem.W.Frag) (a b : Addr) : It :=
  ⟨fun i H => ∃ xs ys x y, SqL K H a xs ∧ SqL K H b ys ∧ xs[i]? = some x ∧ ys[i]? = some y,
   fun i H v H' => ∃ p, H p = none ∧ v = .ref p ∧ ∃ x y, (∀ xs, SqL K H a xs → xs[i]? = some x) ∧ (∀ ys, SqL K H b ys → ys[i]? = some y) ∧ H' = upd H p (.tup [x, y]),
   fun i H => ∃ xs ys, SqL K H a xs ∧ SqL K H b ys ∧ (i = min xs.length ys.length)⟩
noncomputable def Ite (K : PySem.W.Frag) (a : Addr) : It :=
  ⟨fun i H => ∃ xs x, SqL K H a xs ∧ xs[i]? = some x,
   fun i H v H' => ∃ p, H p = none ∧ v = .ref p ∧ ∃ x, (∀ xs, SqL K H a xs → xs[i]? = some x) ∧ H' = upd H p (.tup [.int i, x]),
   fun i H => ∃ xs, SqL K H a xs ∧ xs.length = i⟩
theorem turn_enum {P : Program} {w : World} {K : PySem.W.Frag} {elts : List Expr} {k : Nat} {pos : Pos} (e it a : Addr) (hei : e ≠ it) (hle : a ≠ e) (hli : a ≠ it) :
    Turn P w K (.Tuple elts k pos) (Ite K a) [e, it] e (fun i h => (∃ old, IsEnum h e it i old) ∧ h.IsListIter it a i) where
  mem := by simp
  obj := fun i h st c hc => by
    obtain ⟨⟨old, he⟩, ⟨o1, e1, _, d1⟩⟩ := st
    simp only [List.mem_cons, List.not_mem_nil, or_false] at hc
    rcases hc with rfl | rfl
    · exact ⟨_, he, fun v q => by cases q⟩
    · exact ⟨_, e1, fun v q => by rw [d1] at q; cases q⟩
  keep := fun i h h' st kp => by
    obtain ⟨⟨old, he⟩, h1⟩ := st
    exact ⟨⟨old, kp e (by simp) _ he⟩, h1.at fun o q => kp it (by simp) o q⟩
  item := by
    intro X hP hw hK hc i pins s σ H E I hf st hg
    subst hP hw hK
    obtain ⟨xs, x, hq1, hx⟩ := hg
    obtain ⟨its1, r1, p1, z1⟩ := I.list hq1
    obtain ⟨u, eu, ru⟩ := r1.get hx
    obtain ⟨he, h1⟩ := st
    have W := WalksT.enumerate (prog := X.prog) (w := X.w) (I.ok.hd hc) e it a hei hle hli its1.toArray
    have li : i < its1.toArray.size := by
      have a1 := (List.getElem?_eq_some_iff.mp eu).1
      simp only [List.size_toArray]
      omega
    refine W.item i s _ _ li ⟨he, h1, p1.isList⟩ fun T vals h' tk hpt hT hI hm kk => ?_
    have I1 : Inv X pins σ H { s with heap := h', toks := tk } := I.moved (ch := [e, it]) hf kk
    have fT : FpOk X pins H T := I.fpOk hT (I.hok.fresh hT)
    refine ⟨_, rfl, W.go elts k pos i T _ _ _ hm fun h2' st2 kk2 => ?_⟩
    have I2 : Inv X pins σ H { s with heap := h2', toks := tk } := I1.moved (s := { s with heap := h', toks := tk }) (t' := tk) (ch := [e, it]) hf kk2
    obtain ⟨t, x', ex, rfl⟩ := hpt
    have ex' : its1[i]? = some x' := by simpa using ex
    rw [eu] at ex'; cases ex'
    have apT := W.apart _ _ _ hm
    obtain ⟨oT, eT, cT, nT, dT⟩ := hI
    have hI2 : IsTup h2' T #[.int i t, u] := ⟨oT, kk2 _ _ apT eT, cT, nT, dT⟩
    have I3 : Inv X pins σ (upd H T (.tup [.int i, x])) { s with heap := h2', toks := tk } :=
      I2.take fT (Nat.le_trans I.sz hT) ⟨by show 2 ≤ sizeLine; decide, [.int i t, u], .cons ⟨t, rfl⟩ (.cons ru .nil), hI2⟩
    obtain ⟨b1, b2, _⟩ := st2
    refine ⟨.ref T, _, I3, rfl, ⟨T, fT.1, rfl, x, fun xs' q => ?_, rfl⟩, ⟨b1, b2⟩, fun c hc => ?_⟩
    · rw [I.list_inj q hq1]; exact hx
    · rw [upd_ne (fun q => ?_)]
      · exact (hf c hc).1
      · subst q
        obtain ⟨o, e, _⟩ : ∃ o, s.heap.get? c = some o ∧ True := by
          simp only [List.mem_cons, List.not_mem_nil, or_false] at hc
          obtain ⟨old, he⟩ := he
          obtain ⟨o1, e1, _⟩ := h1
          rcases hc with rfl | rfl
          · exact ⟨_, he, trivial⟩
          · exact ⟨_, e1, trivial⟩
        exact absurd (Heap.lt_size e) (Nat.not_lt.mpr hT)
  done := by
    intro X hP hw hK hc i pins s σ H E I hf st hg
    subst hP hw hK
    obtain ⟨xs, hq1, hi⟩ := hg
    obtain ⟨its1, r1, p1, z1⟩ := I.list hq1
    obtain ⟨he, h1⟩ := st
    have W := WalksT.enumerate (prog := X.prog) (w := X.w) (I.ok.hd hc) e it a hei hle hli its1.toArray
    have l1 := r1.length
    have e : i = its1.toArray.size := by simp only [List.size_toArray]; omega
    subst e
    exact W.done s _ _ ⟨he, h1, p1.isList⟩ fun h' tk kk => ⟨rfl, I.moved (ch := [_, it]) hf kk⟩
  self := fun _ _ _ _ _ st h => by
    obtain ⟨⟨old, he⟩, _⟩ := st
    exact wpAny_pyIter_enum he h
section
variable {X : Cx} {elts : List Expr} {kk : Nat} {tpos : Pos}
noncomputable def iZip (K : PySem.W.Frag) (ta : TA) : TI := fun σ H R => ta σ H fun vs H1 => ∃ a b, vs = [.ref a, .ref b] ∧ (∃ xs, SqL K H1 a xs) ∧ (∃ ys, SqL K H1 b ys) ∧ R (Itz K a b) H1
noncomputable def iEnum (K : PySem.W.Frag) (ta : TA) : TI := fun σ H R => ta σ H fun vs H1 => ∃ a, vs = [.ref a] ∧ (∃ xs, SqL K H1 a xs) ∧ R (Ite K a) H1
theorem pi_enumerate {a : Expr} {ta : TA} {p pos : Pos} (hg : Gl X "enumerate") (hm : X.mg "enumerate" = none) (ha : PA X [a] ta) (hs : starEach [a] X.env = [(false, eval a X.env)] := by rfl) :
    PI X (.Tuple elts kk tpos) (.Call (.Name "enumerate" p) [a] [] pos) (iEnum X.K ta) := by
  intro pins s σ H R I h
  refine Call_ (ld_blt I hg hm rfl (PyProof.Rows.callWith_type1 (thn (ha pos pins s σ H _ I h) fun us s1 ⟨vs, H1, I1, r1, q1⟩ => ?_) hs rfl))
  obtain ⟨a, e, ⟨xs, q1⟩, q⟩ := q1
  subst e
  obtain ⟨u, rfl, ra⟩ := vals1 r1
  cases ra
  obtain ⟨its1, v1, p1, z1⟩ := I1.list q1
  refine call_enumerate_list p1.isList fun h' b1 b2 b3 kp => ?_
  refine wpAny_pyIter_enum b1 ?_
  have I2 : Inv X pins σ H1 { s1 with heap := h' } := I1.kept (t' := s1.toks) kp
  have la : a < s1.heap.objs.size := by obtain ⟨o, e, _⟩ := p1.isList; exact Heap.lt_size e
  refine ⟨s1.heap.objs.size + 1, [s1.heap.objs.size + 1, s1.heap.objs.size], _, _, H1, rfl, I2,
    turn_enum (s1.heap.objs.size + 1) s1.heap.objs.size a (Nat.ne_of_gt (Nat.lt_succ_self _)) (Nat.ne_of_lt (Nat.lt_succ_of_lt la)) (Nat.ne_of_lt la), ⟨⟨_, b1⟩, b2⟩, fun c hc => ?_, q⟩
  have hge : s1.heap.objs.size ≤ c := by
    simp only [List.mem_cons, List.not_mem_nil, or_false] at hc
    rcases hc with rfl | rfl <;> omega
  exact I1.fpOk hge (I1.hok.fresh hge)
end
theorem src_enum {K : PySem.W.Frag} {a : Addr} {xs : List V} {Ok : Hp → Prop} (h1 : ∀ H, Ok H → SqL K H a xs) :
    Src (Ite K a) Ok xs.length (fun i v H H3 => ∃ p x, H p = none ∧ v = .ref p ∧ xs[i]? = some x ∧ H3 = upd H p (.tup [.int i, x])) where
  go := fun i H hi ok => ⟨xs, xs[i], h1 H ok, by simp [hi]⟩
  yld := fun i H x H3 hi ok ⟨p, n, e, u, e1, e3⟩ => ⟨p, u, n, e, e1 xs (h1 H ok), e3⟩
  stop := fun H ok => ⟨xs, h1 H ok, rfl⟩
end L2
namespace L2
open PySem PySem.Spec PyProof.Rows
inductive Dat where
  | non | bl (b : Bool) | int (i : Int) | str (x : Str) | tup (l : List Dat) | lst (l : List Dat)
mutual
noncomputable def Rep (H : Hp) : Dat → V → Prop
  | .non, v => v = .non
  | .bl b, v => v = .bl b
  | .int i, v => v = .int i
  | .str x, v => v = .str x
  | .tup ds, v => ∃ p vs, v = .ref p ∧ H p = some (.tup vs) ∧ RepL H ds vs
  | .lst ds, v => ∃ p vs, v = .ref p ∧ H p = some (.lst vs) ∧ RepL H ds vs
noncomputable def RepL (H : Hp) : List Dat → List V → Prop
  | [], vs => vs = []
  | d :: ds, vs => ∃ v r, vs = v :: r ∧ Rep H d v ∧ RepL H ds r
end
mutual
theorem Rep.mono {H H' : Hp} (s : Same H H') : ∀ {d : Dat} {v : V}, Rep H d v → Rep H' d v
  | .non, _, h => by rw [Rep] at *; exact h
  | .bl _, _, h => by rw [Rep] at *; exact h
  | .int _, _, h => by rw [Rep] at *; exact h
  | .str _, _, h => by rw [Rep] at *; exact h
  | .tup _, _, h => by
    rw [Rep] at *
    obtain ⟨p, vs, e, hp, r⟩ := h
    exact ⟨p, vs, e, s _ _ hp, RepL.mono s r⟩
  | .lst _, _, h => by
    rw [Rep] at *
    obtain ⟨p, vs, e, hp, r⟩ := h
    exact ⟨p, vs, e, s _ _ hp, RepL.mono s r⟩
theorem RepL.mono {H H' : Hp} (s : Same H H') : ∀ {ds : List Dat} {vs : List V}, RepL H ds vs → RepL H' ds vs
  | [], _, h => by rw [RepL] at *; exact h
  | _ :: _, _, h => by
    rw [RepL] at *
    obtain ⟨v, r, e, h1, h2⟩ := h
    exact ⟨v, r, e, Rep.mono s h1, RepL.mono s h2⟩
end
theorem RepL.length {H : Hp} : ∀ {ds : List Dat} {vs : List V}, RepL H ds vs → ds.length = vs.length
  | [], _, h => by rw [RepL] at h; subst h; rfl
  | _ :: _, _, h => by
    rw [RepL] at h
    obtain ⟨v, r, rfl, _, h2⟩ := h
    simp [h2.length]
theorem RepL.get {H : Hp} : ∀ {ds : List Dat} {vs : List V} {i : Nat} {v : V}, RepL H ds vs → vs[i]? = some v → ∃ d, ds[i]? = some d ∧ Rep H d v
  | [], _, i, v, h, e => by rw [RepL] at h; subst h; simp at e
  | d :: ds, _, i, v, h, e => by
    rw [RepL] at h
    obtain ⟨v', r, rfl, h1, h2⟩ := h
    cases i with
    | zero => simp at e; subst e; exact ⟨d, rfl, h1⟩
    | succ i => simp at e; obtain ⟨d', e', r'⟩ := h2.get e; exact ⟨d', by simpa using e', r'⟩
theorem RepL.at {H : Hp} : ∀ {ds : List Dat} {vs : List V} {i : Nat} {d : Dat}, RepL H ds vs → ds[i]? = some d → ∃ v, vs[i]? = some v ∧ Rep H d v
  | [], _, i, v, h, e => by simp at e
  | d :: ds, _, i, d', h, e => by
    rw [RepL] at h
    obtain ⟨v', r, rfl, h1, h2⟩ := h
    cases i with
    | zero => simp at e; subst e; exact ⟨v', rfl, h1⟩
    | succ i => simp at e; obtain ⟨v, e', r'⟩ := h2.at e; exact ⟨v, by simpa using e', r'⟩
theorem RepL.of {H : Hp} : ∀ {ds : List Dat} {vs : List V}, ds.length = vs.length → (∀ (i : Nat) d v, ds[i]? = some d → vs[i]? = some v → Rep H d v) → RepL H ds vs
  | [], [], _, _ => by rw [RepL]
  | [], _ :: _, h, _ => by simp at h
  | _ :: _, [], h, _ => by simp at h
  | d :: ds, v :: vs, h, k => by
    rw [RepL]
    exact ⟨v, vs, rfl, k 0 d v rfl rfl, RepL.of (by simpa using h) fun i d' v' e1 e2 => k (i + 1) d' v' (by simpa using e1) (by simpa using e2)⟩
noncomputable def depth : Dat → Nat
  | .tup l => 1 + dL l
  | .lst l => 1 + dL l
  | _ => 0
where dL : List Dat → Nat
  | [] => 0
  | d :: ds => max (depth d) (dL ds)
theorem depth_mem {d : Dat} : ∀ {ds : List Dat}, d ∈ ds → depth d ≤ depth.dL ds
  | e :: ds, h => by
    rw [depth.dL]
    rcases List.mem_cons.mp h with rfl | h
    · exact Nat.le_max_left _ _
    · exact Nat.le_trans (depth_mem h) (Nat.le_max_right _ _)
section
variable {X : Cx} {pins : List (Addr × Obj)} {σ : St} {H : Hp} {s : Shared}
theorem all_true (n : Nat) : ((List.range n).all fun _ => true) = true := by simp
theorem eqAt_D (I : Inv X pins σ H s) : ∀ (n : Nat) (d : Dat), depth d ≤ n → ∀ (v v' : V) (u u' : Value) (A : Around), Rep H d v → Rep H d v' → RelV v u → RelV v' u' → A.units + n < cLine → SeqAt.EqAt A s u u' true := by
  intro n
  induction n with
  | zero =>
    intro d hd v v' u u' A h h' r r' hu
    cases d with
    | non => rw [Rep] at h h'; subst h h'; cases r; cases r'; exact SeqAt.EqAt.same _
    | bl b => rw [Rep] at h h'; subst h h'; cases r; cases r'; exact SeqAt.EqAt.same _
    | int i => rw [Rep] at h h'; subst h h'; obtain ⟨t, rfl⟩ := r; obtain ⟨t', rfl⟩ := r'; have := SeqAt.EqAt.int_int (A := A) (s := s) i t i t'; simpa using this
    | str x => rw [Rep] at h h'; subst h h'; obtain ⟨t, rfl⟩ := r; obtain ⟨t', rfl⟩ := r'; have := SeqAt.EqAt.str_str (A := A) (s := s) x t x t'; simpa using this
    | tup l => rw [depth] at hd; omega
    | lst l => rw [depth] at hd; omega
  | succ n ih =>
    intro d hd v v' u u' A h h' r r' hu
    cases d with
    | non => rw [Rep] at h h'; subst h h'; cases r; cases r'; exact SeqAt.EqAt.same _
    | bl b => rw [Rep] at h h'; subst h h'; cases r; cases r'; exact SeqAt.EqAt.same _
    | int i => rw [Rep] at h h'; subst h h'; obtain ⟨t, rfl⟩ := r; obtain ⟨t', rfl⟩ := r'; have := SeqAt.EqAt.int_int (A := A) (s := s) i t i t'; simpa using this
    | str x => rw [Rep] at h h'; subst h h'; obtain ⟨t, rfl⟩ := r; obtain ⟨t', rfl⟩ := r'; have := SeqAt.EqAt.str_str (A := A) (s := s) x t x t'; simpa using this
    | tup l =>
      rw [Rep] at h h'
      obtain ⟨p, vs, rfl, hp, rl⟩ := h
      obtain ⟨p', vs', rfl, hp', rl'⟩ := h'
      cases r
      cases r'
      rw [depth] at hd
      by_cases hpp : p = p'
      · subst hpp; exact SeqAt.EqAt.same _
      obtain ⟨its, rv, pl, hz⟩ := I.tuple (SqT.of hp)
      obtain ⟨its', rv', pl', hz'⟩ := I.tuple (SqT.of hp')
      have e1 := rl.length
      have e2 := rl'.length
      have l1 := rv.length
      have l2 := rv'.length
      have R := SeqAt.RcAt.tuples (A := A) (e := fun _ => true) pl pl' (by omega) (fun j h1 h2 => ?_)
      · simp only [List.size_toArray, all_true, Bool.true_and] at R
        rw [show (its.length == its'.length) = true by simp; omega] at R
        exact .of_refs hpp R
      · rw [List.size_toArray] at h1 h2
        obtain ⟨d, ed⟩ : ∃ d, l[j]? = some d := ⟨l[j]'(by omega), by simp⟩
        obtain ⟨v1, f1, q1⟩ := rl.at ed
        obtain ⟨v2, f2, q2⟩ := rl'.at ed
        obtain ⟨u1, g1, w1⟩ := rv.get f1
        obtain ⟨u2, g2, w2⟩ := rv'.get f2
        have a1 : its.toArray[j] = u1 := by simpa [List.getElem?_eq_getElem h1] using g1
        have a2 : its'.toArray[j] = u2 := by simpa [List.getElem?_eq_getElem h2] using g2
        rw [a1, a2]
        have := depth_mem (List.mem_of_getElem? ed)
        exact ih d (by omega) v1 v2 u1 u2 A.in1 q1 q2 w1 w2 (by show A.units + 1 + n < cLine; omega)
    | lst l =>
      rw [Rep] at h h'
      obtain ⟨p, vs, rfl, hp, rl⟩ := h
      obtain ⟨p', vs', rfl, hp', rl'⟩ := h'
      cases r
      cases r'
      rw [depth] at hd
      by_cases hpp : p = p'
      · subst hpp; exact SeqAt.EqAt.same _
      obtain ⟨its, rv, pl, hz⟩ := I.list (SqL.of hp)
      obtain ⟨its', rv', pl', hz'⟩ := I.list (SqL.of hp')
      have e1 := rl.length
      have e2 := rl'.length
      have l1 := rv.length
      have l2 := rv'.length
      have R := SeqAt.RcAt.lists (A := A) (e := fun _ => true) pl.isList pl'.isList (by simp only [List.size_toArray]; omega) (by omega) (fun j h1 h2 => ?_)
      · rw [all_true] at R
        exact .of_refs hpp R
      · rw [List.size_toArray] at h1 h2
        obtain ⟨d, ed⟩ : ∃ d, l[j]? = some d := ⟨l[j]'(by omega), by simp⟩
        obtain ⟨v1, f1, q1⟩ := rl.at ed
        obtain ⟨v2, f2, q2⟩ := rl'.at ed
        obtain ⟨u1, g1, w1⟩ := rv.get f1
        obtain ⟨u2, g2, w2⟩ := rv'.get f2
        have a1 : its.toArray[j] = u1 := by simpa [List.getElem?_eq_getElem h1] using g1
        have a2 : its'.toArray[j] = u2 := by simpa [List.getElem?_eq_getElem h2] using g2
        rw [a1, a2]
        have := depth_mem (List.mem_of_getElem? ed)
        exact ih d (by omega) v1 v2 u1 u2 A.in1 q1 q2 w1 w2 (by show A.units + 1 + n < cLine; omega)
end
section
variable {X : Cx}
noncomputable def rEqD (b : Bool) : R2 := fun x y H Q => ∃ d, Rep H d x ∧ Rep H d y ∧ (∃ p, x = .ref p) ∧ depth d ≤ 40 ∧ Q (.bl b) H
theorem seqs_D {pins : List (Addr × Obj)} {σ : St} {H : Hp} {s : Shared} {d : Dat} {p p' : Addr} (I : Inv X pins σ H s) (hu : X.A.units + 64 < cLine) (h : Rep H d (.ref p)) (h' : Rep H d (.ref p')) (hd : depth d ≤ 40) :
    (∃ its its' : List Value, IsTup s.heap p its.toArray ∧ IsTup s.heap p' its'.toArray ∧ its.length = its'.length ∧ ∀ j (h1 : j < its.toArray.size) (h2 : j < its'.toArray.size), SeqAt.EqAt X.A.in1 s its.toArray[j] its'.toArray[j] true) ∨
    (∃ its its' : List Value, s.heap.IsList p its.toArray ∧ s.heap.IsList p' its'.toArray ∧ its.length = its'.length ∧ ∀ j (h1 : j < its.toArray.size) (h2 : j < its'.toArray.size), SeqAt.EqAt X.A.in1 s its.toArray[j] its'.toArray[j] true) := by
  cases d with
  | non => rw [Rep] at h; cases h
  | bl b => rw [Rep] at h; cases h
  | int i => rw [Rep] at h; cases h
  | str x => rw [Rep] at h; cases h
  | tup l =>
    left
    rw [Rep] at h h'
    obtain ⟨_, vs, e, hp, rl⟩ := h
    cases e
    obtain ⟨_, vs', e, hp', rl'⟩ := h'
    cases e
    rw [depth] at hd
    obtain ⟨its, rv, pl, hz⟩ := I.tuple (SqT.of hp)
    obtain ⟨its', rv', pl', hz'⟩ := I.tuple (SqT.of hp')
    have e1 := rl.length
    have e2 := rl'.length
    have l1 := rv.length
    have l2 := rv'.length
    refine ⟨its, its', pl, pl', by omega, fun j h1 h2 => ?_⟩
    rw [List.size_toArray] at h1 h2
    obtain ⟨d, ed⟩ : ∃ d, l[j]? = some d := ⟨l[j]'(by omega), by simp⟩
    obtain ⟨v1, f1, q1⟩ := rl.at ed
    obtain ⟨v2, f2, q2⟩ := rl'.at ed
    obtain ⟨u1, g1, w1⟩ := rv.get f1
    obtain ⟨u2, g2, w2⟩ := rv'.get f2
    have a1 : its.toArray[j] = u1 := by simpa [List.getElem?_eq_getElem h1] using g1
    have a2 : its'.toArray[j] = u2 := by simpa [List.getElem?_eq_getElem h2] using g2
    rw [a1, a2]
    have := depth_mem (List.mem_of_getElem? ed)
    exact eqAt_D I 40 d (by omega) v1 v2 u1 u2 X.A.in1 q1 q2 w1 w2 (by show X.A.units + 1 + 40 < cLine; omega)
  | lst l =>
    right
    rw [Rep] at h h'
    obtain ⟨_, vs, e, hp, rl⟩ := h
    cases e
    obtain ⟨_, vs', e, hp', rl'⟩ := h'
    cases e
    rw [depth] at hd
    obtain ⟨its, rv, pl, hz⟩ := I.list (SqL.of hp)
    obtain ⟨its', rv', pl', hz'⟩ := I.list (SqL.of hp')
    have e1 := rl.length
    have e2 := rl'.length
    have l1 := rv.length
    have l2 := rv'.length
    refine ⟨its, its', pl.isList, pl'.isList, by omega, fun j h1 h2 => ?_⟩
    rw [List.size_toArray] at h1 h2
    obtain ⟨d, ed⟩ : ∃ d, l[j]? = some d := ⟨l[j]'(by omega), by simp⟩
    obtain ⟨v1, f1, q1⟩ := rl.at ed
    obtain ⟨v2, f2, q2⟩ := rl'.at ed
    obtain ⟨u1, g1, w1⟩ := rv.get f1
    obtain ⟨u2, g2, w2⟩ := rv'.get f2
    have a1 : its.toArray[j] = u1 := by simpa [List.getElem?_eq_getElem h1] using g1
    have a2 : its'.toArray[j] = u2 := by simpa [List.getElem?_eq_getElem h2] using g2
    rw [a1, a2]
    have := depth_mem (List.mem_of_getElem? ed)
    exact eqAt_D I 40 d (by omega) v1 v2 u1 u2 X.A.in1 q1 q2 w1 w2 (by show X.A.units + 1 + 40 < cLine; omega)
theorem op_eqD (hu : X.A.units + 64 < cLine) : OpR X (compareOp .Eq) (rEqD true) := by
  intro pins s σ H x y v u Q I rx ry h
  obtain ⟨d, h1, h2, ⟨p, rfl⟩, hd, q⟩ := h
  obtain ⟨p', rfl⟩ : ∃ p', y = .ref p' := by
    cases d with
    | non => rw [Rep] at h1; cases h1
    | bl b => rw [Rep] at h1; cases h1
    | int i => rw [Rep] at h1; cases h1
    | str x => rw [Rep] at h1; cases h1
    | tup l => rw [Rep] at h2; obtain ⟨p', _, e, _⟩ := h2; exact ⟨p', e⟩
    | lst l => rw [Rep] at h2; obtain ⟨p', _, e, _⟩ := h2; exact ⟨p', e⟩
  cases rx
  cases ry
  rcases seqs_D I hu h1 h2 hd with ⟨its, its', a, b, e, k⟩ | ⟨its, its', a, b, e, k⟩
  · refine SeqAt.eq_tupleAt (e := fun _ => true) a b (by omega) k ⟨.bl true, H, I, ?_, q⟩
    show Value.bool _ = Value.bool true
    rw [all_true, List.size_toArray, List.size_toArray, e]
    simp
  · refine SeqAt.eq_listAt (e := fun _ => true) a b (by simp only [List.size_toArray]; exact e) (by omega) k ⟨.bl true, H, I, ?_, q⟩
    show Value.bool _ = Value.bool true
    rw [all_true]
theorem op_neD (hu : X.A.units + 64 < cLine) : OpR X (compareOp .NotEq) (rEqD false) := by
  intro pins s σ H x y v u Q I rx ry h
  obtain ⟨d, h1, h2, ⟨p, rfl⟩, hd, q⟩ := h
  obtain ⟨p', rfl⟩ : ∃ p', y = .ref p' := by
    cases d with
    | non => rw [Rep] at h1; cases h1
    | bl b => rw [Rep] at h1; cases h1
    | int i => rw [Rep] at h1; cases h1
    | str x => rw [Rep] at h1; cases h1
    | tup l => rw [Rep] at h2; obtain ⟨p', _, e, _⟩ := h2; exact ⟨p', e⟩
    | lst l => rw [Rep] at h2; obtain ⟨p', _, e, _⟩ := h2; exact ⟨p', e⟩
  cases rx
  cases ry
  rcases seqs_D I hu h1 h2 hd with ⟨its, its', a, b, e, k⟩ | ⟨its, its', a, b, e, k⟩
  · refine SeqAt.RcNeAt.tuples (A := X.A) (e := fun _ => true) a b (by omega) k X.prog X.w X.xe _ ⟨.bl false, H, I, ?_, q⟩
    show Value.bool _ = Value.bool false
    rw [all_true, List.size_toArray, List.size_toArray, e]
    simp
  · refine SeqAt.RcNeAt.lists (A := X.A) (e := fun _ => true) a b (by simp only [List.size_toArray]; exact e) (by omega) k X.prog X.w X.xe _ ⟨.bl false, H, I, ?_, q⟩
    show Value.bool _ = Value.bool false
    rw [all_true]
    rfl
noncomputable def rNeT : R2 := fun x y H Q => ∃ p q xs ys, x = .ref p ∧ y = .ref q ∧ H p = some (.tup xs) ∧ H q = some (.tup ys) ∧ xs.all flatV = true ∧ ys.all flatV = true ∧ Q (.bl (!eqL xs ys)) H
end
end L2
namespace Nm
noncomputable def ins (x : Int) : List Int → List Int
  | [] => [x]
  | y :: r => if x ≤ y then x :: y :: r else y :: ins x r
noncomputable def srt : List Int → List Int
  | [] => []
  | x :: r => ins x (srt r)
theorem ins_perm (x : Int) : ∀ l, (ins x l).Perm (x :: l)
  | [] => .refl _
  | y :: r => by
    unfold ins
    split
    · exact .refl _
    · exact ((ins_perm x r).cons y).trans (.swap ..)
theorem srt_perm : ∀ l, (srt l).Perm l
  | [] => .refl _
  | x :: r => (ins_perm x _).trans ((srt_perm r).cons x)
theorem ins_ord (x : Int) : ∀ l : List Int, l.Pairwise (· ≤ ·) → (ins x l).Pairwise (· ≤ ·)
  | [], _ => by unfold ins; simp
  | y :: r, h => by
    unfold ins
    rw [List.pairwise_cons] at h
    split
    · rename_i c
      rw [List.pairwise_cons, List.pairwise_cons]
      refine ⟨fun z hz => ?_, h.1, h.2⟩
      rcases List.mem_cons.mp hz with rfl | hz
      · exact c
      · have := h.1 z hz; omega
    · rename_i c
      rw [List.pairwise_cons]
      refine ⟨fun z hz => ?_, ins_ord x r h.2⟩
      rcases List.mem_cons.mp ((ins_perm x r).mem_iff.mp hz) with rfl | hz
      · omega
      · exact h.1 z hz
theorem srt_ord : ∀ l : List Int, (srt l).Pairwise (· ≤ ·)
  | [] => by unfold srt; simp
  | x :: r => ins_ord x _ (srt_ord r)
theorem srt_length (l : List Int) : (srt l).length = l.length := (srt_perm l).length_eq
theorem ord_one : ∀ {a b : List Int}, a.Perm b → a.Pairwise (· ≤ ·) → b.Pairwise (· ≤ ·) → a = b
  | [], b, p, _, _ => by simpa using p.symm.eq_nil
  | x :: a, [], p, _, _ => by simpa using p.eq_nil
  | x :: a, y :: b, p, ha, hb => by
    rw [List.pairwise_cons] at ha hb
    have e : x = y := by
      have h1 : y ∈ x :: a := p.mem_iff.mpr List.mem_cons_self
      have h2 : x ∈ y :: b := p.mem_iff.mp List.mem_cons_self
      rcases List.mem_cons.mp h1 with h1 | h1
      · exact h1.symm
      · rcases List.mem_cons.mp h2 with h2 | h2
        · exact h2
        · have := ha.1 y h1
          have := hb.1 x h2
          omega
    subst e
    rw [ord_one ((List.perm_cons x).mp p) ha.2 hb.2]
theorem srt_one {a b : List Int} (p : a.Perm b) (o : a.Pairwise (· ≤ ·)) : a = srt b := ord_one (p.trans (srt_perm b).symm) o (srt_ord b)
theorem srt_of_ord {a : List Int} (o : a.Pairwise (· ≤ ·)) : srt a = a := (srt_one (.refl _) o).symm
theorem srt_mem {a : Int} {l : List Int} : a ∈ srt l ↔ a ∈ l := (srt_perm l).mem_iff
theorem srt_lt {l : List Int} (h : l.Nodup) : (srt l).Pairwise (· < ·) := by
  have n : (srt l).Nodup := (srt_perm l).nodup_iff.mpr h
  have o := srt_ord l
  exact (List.pairwise_and_iff.mpr ⟨o, n⟩).imp fun {a b} ⟨x, y⟩ => by omega
end Nm
namespace L2
open PySem PySem.Spec PyProof.Rows PySem.W
section
variable {X : Cx}
theorem vals_ints_of {us : List Value} {ns : List Int} (h : IntsAre us ns) : Vals (ns.map V.int) us := by
  induction h with
  | nil => exact .nil
  | cons n t _ ih => exact .cons ⟨t, rfl⟩ ih
noncomputable def keysI (kvs : List (Key × V)) : List Int := kvs.map fun p => match p.1 with | .inl i => i | .inr _ => 0
noncomputable def allI (kvs : List (Key × V)) : Prop := ∀ p ∈ kvs, ∃ i, p.1 = Sum.inl i
end
section
variable {X : Cx} {pins : List (Addr × Obj)} {σ : St} {H : Hp} {s : Shared}
end
noncomputable def Itd (d : Addr) (o : Obj) (kvs : List (Key × V)) : It :=
  ⟨fun i H => H d = some (.frz o (.dK kvs)) ∧ i < kvs.length, fun i H x H' => H' = H ∧ ∃ p, kvs[i]? = some p ∧ x = kV p.1, fun i H => H d = some (.frz o (.dK kvs)) ∧ i = kvs.length⟩
section
variable {X : Cx} {x : Str} {xpos : Pos}
noncomputable def iDict (tl : TE) : TI := fun σ H R => tl σ H fun v H1 => ∃ d kvs, v = .ref d ∧ H1 d = some (.dK kvs) ∧ ∀ o, R (Itd d o kvs) (upd H1 d (.frz o (.dK kvs)))
end
end L2
namespace L2
open PySem PySem.Spec PyProof.Rows PySem.W
section
variable {X : Cx} {K : PySem.W.Frag}
theorem pi_listK {tg l : Expr} {tl : TE} (hl : PE X l tl) (hK : X.K = K := by rfl) : PI X tg l (iList K tl) := by subst hK; exact pi_list hl
theorem pi_enumerateK {elts : List Expr} {kk : Nat} {tpos : Pos} {a : Expr} {ta : TA} {p pos : Pos} (hg : Gl X "enumerate") (hm : X.mg "enumerate" = none) (ha : PA X [a] ta) (n1 : noStar a = true := by rfl) (hK : X.K = K := by rfl) :
    PI X (.Tuple elts kk tpos) (.Call (.Name "enumerate" p) [a] [] pos) (iEnum K ta) := by subst hK; exact pi_enumerate hg hm ha (by rw [se n1]; rfl)
theorem pg_tupK {es : List Expr} {k : Nat} {t : TGs} {n : Nat} {pos : Pos} (hc : X.calm = true) (h : PGs X es t) (hn : (assignEach es X.env).length = n := by rfl) (hst : (assignEach es X.env).findIdx? (·.1) = none := by rfl) (hK : X.K = K := by rfl) : PG X (.Tuple es k pos) (gTup K n t) := by
  subst hK; exact pg_tup hc h hn hst
theorem ix_listSK (hK : X.K = K := by rfl) : IxR X (rIxQ K) := by subst hK; exact ix_listS
theorem call_lenQK (hK : X.K = K := by rfl) : CallR X (.builtin "len") (fun xs H Q => ∃ p ns, xs = [.ref p] ∧ SqL K H p (List.map V.int ns) ∧ Q (.int (List.length ns : Nat)) H) := by subst hK; exact call_lenQ
theorem op_in_seqK (hK : X.K = K := by rfl) : OpR X (compareOp .In) (rIn K false) := by subst hK; exact op_in_seq
theorem call_list_ofK (hK : X.K = K := by rfl) : CallR X (.type "list") (fun xs H Q => ∃ p ys, xs = [.ref p] ∧ (SqL K H p ys ∨ SqT K H p ys) ∧ ∀ l, H l = none → Q (.ref l) (upd H l (.lst ys))) := by subst hK; exact call_list_of
theorem call_tuple_ofK (hK : X.K = K := by rfl) : CallR X (.type "tuple") (fun xs H Q => ∃ p ys, xs = [.ref p] ∧ ((SqL K H p ys ∧ ∀ l, H l = none → Q (.ref l) (upd H l (.tup ys))) ∨ (SqT K H p ys ∧ Q (.ref p) H))) := by subst hK; exact call_tuple_of
theorem call_isTK (hK : X.K = K := by rfl) : CallR X (.builtin "isinstance") (fun xs H Q => ∃ x c t b, xs = [x, .ty c] ∧ TyOf K H x t ∧ PySem.W.kitOne K t (.type c) = some b ∧ Q (.bl b) H) := by subst hK; exact call_isT
theorem MtM.r {id : String} {r : V → List V → Hp → VK → Prop} (h : MtM X id r) : MtR X id r := h
end
end L2
namespace Nm
abbrev Ws := List (Int × Int)
noncomputable def keys (ws : Ws) : List Int := ws.map (·.1)
noncomputable def look : Ws → Int → Int
  | [], _ => 0
  | p :: r, k => if p.1 = k then p.2 else look r k
noncomputable def put : Ws → Int → Int → Ws
  | [], k, v => [(k, v)]
  | p :: r, k, v => if p.1 = k then (k, v) :: r else p :: put r k v
structure Over (as ws : Ws) (B T : Int) : Prop where
  nd : (keys ws).Nodup
  perm : (keys as).Perm (keys ws)
  val : ∀ k ∈ keys ws, look as k * T = look ws k * B
end Nm
namespace L2
open PySem PySem.Spec PyProof.Rows
noncomputable def wrowD (p : Int × Int) : Dat := .tup [.int p.1, .int p.2]
theorem rep_wrow {H : Hp} {r : Int × Int} {v : V} : Rep H (wrowD r) v ↔ ∃ p, v = .ref p ∧ H p = some (.tup [.int r.1, .int r.2]) := by
  unfold wrowD
  simp only [Rep, RepL]
  constructor
  · rintro ⟨p, vs, rfl, hp, a, b, rfl, rfl, c, d, rfl, rfl, rfl⟩
    exact ⟨p, rfl, hp⟩
  · rintro ⟨p, rfl, hp⟩
    exact ⟨p, _, rfl, hp, _, _, rfl, rfl, _, _, rfl, rfl, rfl⟩
theorem rep_lst {H : Hp} {ds : List Dat} {v : V} : Rep H (.lst ds) v ↔ ∃ p vs, v = .ref p ∧ H p = some (.lst vs) ∧ RepL H ds vs := by rw [Rep]
theorem none_of {H H' : Hp} (s : Same H H') {p : Addr} (h : H' p = none) : H p = none := by
  cases e : H p with
  | none => rfl
  | some o => rw [s p o e] at h; cases h
end L2
namespace Nm
end Nm
namespace L2
open PySem PySem.Spec PyProof.Rows
theorem comp_ints {α : Type} {J : It} {tc : TT} {te : TE} {tl : St} {H1 : Hp} {fin : List V → Hp → Prop} {Item : Nat → V → Hp → Hp → Prop} (as : List α) (f : α → Option Int) (S : Src J (Same H1) as.length Item) (sub : ∀ i x H H3, Item i x H H3 → H3 = H) (hz : as.length ≤ sizeLine)
    (hs : ∀ i a x, as[i]? = some a → Item i x H1 H1 → ∀ (Y : VK) (N : Hp → Prop), (∀ z, f a = some z → Y (.int z) H1) → (f a = none → N H1) → tc (some x :: tl) H1 fun b H5 => if b = true then te (some x :: tl) H5 Y else N H5)
    (hfin : fin (List.map V.int (as.filterMap f)) H1) : tBlock J (gName 0) tc te (none :: tl) H1 fin := by
  refine block_src S (fun σ => ∃ w0, σ = w0 :: tl) ⟨_, rfl⟩ (fun i ys H => H = H1 ∧ ys = List.map V.int ((as.take i).filterMap f)) ⟨rfl, by simp⟩ hz ?_ ?_
  · rintro i x σ H ys H3 Q N hi sm ⟨rfl, rfl⟩ hl ⟨w0, rfl⟩ it kq kn
    obtain rfl := sub _ _ _ _ it
    have ea : as[i]? = some as[i] := List.getElem?_eq_getElem hi
    refine hs i _ x ea it _ _ (fun z e => kq _ _ _ ⟨_, rfl⟩ sm ⟨rfl, ?_⟩) (fun e => kn _ _ ⟨_, rfl⟩ sm ⟨rfl, ?_⟩)
    · rw [List.take_add_one, ea, List.filterMap_append, List.map_append]
      simp [e]
    · rw [List.take_add_one, ea, List.filterMap_append, List.map_append]
      simp [e]
  · rintro ys H sm ⟨rfl, rfl⟩ hl
    rw [List.take_of_length_le (Nat.le_refl _)]
    exact hfin
theorem comp_ints2 {K : PySem.W.Frag} {α : Type} {J : It} {tc : TT} {te : TE} {tl : St} {H1 : Hp} {fin : List V → Hp → Prop} {Item : Nat → V → Hp → Hp → Prop} (as : List α) (f : α → Option Int) (S : Src J (Same H1) as.length Item) (sub : ∀ i x H H3, Item i x H H3 → H3 = H) (hz : as.length ≤ sizeLine)
    (hs : ∀ i a x, as[i]? = some a → Item i x H1 H1 → ∃ p u v, x = .ref p ∧ SqT K H1 p [u, v] ∧ ∀ (Y : VK) (N : Hp → Prop), (∀ z, f a = some z → Y (.int z) H1) → (f a = none → N H1) → tc (some u :: some v :: tl) H1 fun b H5 => if b = true then te (some u :: some v :: tl) H5 Y else N H5)
    (hfin : fin (List.map V.int (as.filterMap f)) H1) : tBlock J (gTup K 2 (gCons (gName 0) (gCons (gName 1) gNil))) tc te (none :: none :: tl) H1 fin := by
  refine block_src S (fun σ => ∃ w0 w1, σ = w0 :: w1 :: tl) ⟨_, _, rfl⟩ (fun i ys H => H = H1 ∧ ys = List.map V.int ((as.take i).filterMap f)) ⟨rfl, by simp⟩ hz ?_ ?_
  · rintro i x σ H ys H3 Q N hi sm ⟨rfl, rfl⟩ hl ⟨w0, w1, rfl⟩ it kq kn
    obtain rfl := sub _ _ _ _ it
    have ea : as[i]? = some as[i] := List.getElem?_eq_getElem hi
    obtain ⟨p, u, v, rfl, sq, k⟩ := hs i _ x ea it
    refine ⟨p, _, rfl, sq, rfl, _, _, rfl, _, _, rfl, rfl, ?_⟩
    refine k _ _ (fun z e => kq _ _ _ ⟨_, _, rfl⟩ sm ⟨rfl, ?_⟩) (fun e => kn _ _ ⟨_, _, rfl⟩ sm ⟨rfl, ?_⟩)
    · rw [List.take_add_one, ea, List.filterMap_append, List.map_append]
      simp [e]
    · rw [List.take_add_one, ea, List.filterMap_append, List.map_append]
      simp [e]
  · rintro ys H sm ⟨rfl, rfl⟩ hl
    rw [List.take_of_length_le (Nat.le_refl _)]
    exact hfin
theorem fm_some {α β : Type} (f : α → β) (l : List α) : l.filterMap (fun a => some (f a)) = l.map f := by
  rw [← List.filterMap_eq_map]; rfl
end L2
namespace L2
open PySem PySem.Spec PyProof.Rows PySem.W
section
variable {X : Cx} {K : PySem.W.Frag}
noncomputable def tSumV (to : TE) : TE := fun σ H Q => to σ H fun v H1 => ∃ d kvs ns, v = .ref d ∧ H1 d = some (.dK kvs) ∧ kvs.map (·.2) = List.map V.int ns ∧ Q (.int ns.sum) H1
theorem seq_gen {a b : TS} {D : Ends} {σ : St} {H : Hp} (C : St → Hp → Prop) (hb : ∀ σ' H', C σ' H' → b D σ' H') (ha : ∀ N : St → Hp → Prop, (∀ σ' H', C σ' H' → N σ' H') → a { D with nx := N } σ H) : tSeq a b D σ H := ha _ hb
end
end L2
namespace Nm
noncomputable def pos (ps : Ws) : Ws := ps.filter fun p => decide (0 < p.2)
end Nm
namespace L2
open PySem PySem.Spec PyProof.Rows PySem.W
section
variable {X : Cx} {K : PySem.W.Frag}
noncomputable def rJoin (K : PySem.W.Frag) : V → List V → Hp → VK → Prop := fun x xs H Q => ∃ sep p ts, x = .str sep ∧ xs = [.ref p] ∧ SqL K H p (List.map V.str ts) ∧ JoinOk sep ts = true ∧ Q (.str (Txt.join sep ts)) H
abbrev TJ := Str → TE
noncomputable def jNil : TJ := fun acc _ H Q => Q (.str acc) H
noncomputable def jLit (x : Str) (t : TJ) : TJ := fun acc σ H Q => (acc ++ x).length ≤ sizeLine ∧ t (acc ++ x) σ H Q
noncomputable def jInt (te : TE) (t : TJ) : TJ := fun acc σ H Q => te σ H fun v H1 => ∃ i, v = .int i ∧ i.natAbs.log2 < 1920 ∧ (acc ++ toString i).length ≤ sizeLine ∧ t (acc ++ toString i) σ H1 Q
noncomputable def jStr (te : TE) (t : TJ) : TJ := fun acc σ H Q => te σ H fun v H1 => ∃ z, v = .str z ∧ z.length ≤ sizeLine ∧ (acc ++ z).length ≤ sizeLine ∧ t (acc ++ z) σ H1 Q
noncomputable def tJoined (t : TJ) : TE := fun σ H Q => t Str.empty σ H Q
end
end L2
namespace L2
open PySem PySem.Spec PyProof.Rows PySem.W
inductive Pl where
  | fin (w : Int × Int) | thr (w : Int × Int) (ws : List (Int × Int)) | pck (who : Int) (to : List Int)
noncomputable def plD : Pl → Dat
  | .fin w => .tup [.str (Str.ofString "end"), wrowD w]
  | .thr w ws => .tup [.str (Str.ofString "throw"), wrowD w, .lst (ws.map wrowD)]
  | .pck who to => .tup [.str (Str.ofString "pick"), .int who, .lst (to.map .int)]
noncomputable def brD (b : List Pl) : Dat := .lst (b.map plD)
theorem repL_ints {H : Hp} : ∀ {ns : List Int} {vs : List V}, RepL H (ns.map Dat.int) vs ↔ vs = ns.map V.int
  | [], vs => by simp only [List.map_nil, RepL]
  | n :: ns, vs => by
    simp only [List.map_cons, RepL, Rep]
    constructor
    · rintro ⟨v, r, rfl, rfl, h⟩
      rw [repL_ints.mp h]
    · rintro rfl
      exact ⟨_, _, rfl, rfl, repL_ints.mpr rfl⟩
theorem rep_fin {H : Hp} {w : Int × Int} {v : V} : Rep H (plD (.fin w)) v ↔ ∃ p q, v = .ref p ∧ H p = some (.tup [.str (Str.ofString "end"), .ref q]) ∧ H q = some (.tup [.int w.1, .int w.2]) := by
  show Rep H (.tup [.str (Str.ofString "end"), wrowD w]) v ↔ _
  rw [Rep]
  simp only [RepL, rep_wrow]
  constructor
  · rintro ⟨p, vs, rfl, hp, _, _, rfl, e, _, _, rfl, ⟨q, rfl, hq⟩, rfl⟩
    rw [Rep] at e
    subst e
    exact ⟨p, q, rfl, hp, hq⟩
  · rintro ⟨p, q, rfl, hp, hq⟩
    exact ⟨p, _, rfl, hp, _, _, rfl, by rw [Rep], _, _, rfl, ⟨q, rfl, hq⟩, rfl⟩
theorem rep_thr {H : Hp} {w : Int × Int} {ws : List (Int × Int)} {v : V} : Rep H (plD (.thr w ws)) v ↔ ∃ p q l xs, v = .ref p ∧ H p = some (.tup [.str (Str.ofString "throw"), .ref q, .ref l]) ∧ H q = some (.tup [.int w.1, .int w.2]) ∧ H l = some (.lst xs) ∧ RepL H (ws.map wrowD) xs := by
  show Rep H (.tup [.str (Str.ofString "throw"), wrowD w, .lst (ws.map wrowD)]) v ↔ _
  rw [Rep]
  simp only [RepL, rep_wrow]
  constructor
  · rintro ⟨p, vs, rfl, hp, _, _, rfl, e, _, _, rfl, ⟨q, rfl, hq⟩, _, _, rfl, k, rfl⟩
    rw [Rep] at e
    subst e
    obtain ⟨l, xs, rfl, hl, r⟩ := rep_lst.mp k
    exact ⟨p, q, l, xs, rfl, hp, hq, hl, r⟩
  · rintro ⟨p, q, l, xs, rfl, hp, hq, hl, r⟩
    exact ⟨p, _, rfl, hp, _, _, rfl, by rw [Rep], _, _, rfl, ⟨q, rfl, hq⟩, _, _, rfl, rep_lst.mpr ⟨l, xs, rfl, hl, r⟩, rfl⟩
theorem rep_pck {H : Hp} {who : Int} {to : List Int} {v : V} : Rep H (plD (.pck who to)) v ↔ ∃ p l, v = .ref p ∧ H p = some (.tup [.str (Str.ofString "pick"), .int who, .ref l]) ∧ H l = some (.lst (to.map V.int)) := by
  show Rep H (.tup [.str (Str.ofString "pick"), .int who, .lst (to.map .int)]) v ↔ _
  rw [Rep]
  simp only [RepL]
  constructor
  · rintro ⟨p, vs, rfl, hp, _, _, rfl, e, _, _, rfl, e2, _, _, rfl, k, rfl⟩
    rw [Rep] at e
    rw [Rep] at e2
    subst e e2
    obtain ⟨l, xs, rfl, hl, r⟩ := rep_lst.mp k
    rw [repL_ints] at r
    subst r
    exact ⟨p, l, rfl, hp, hl⟩
  · rintro ⟨p, l, rfl, hp, hl⟩
    exact ⟨p, _, rfl, hp, _, _, rfl, by rw [Rep], _, _, rfl, by rw [Rep], _, _, rfl, rep_lst.mpr ⟨l, _, rfl, hl, repL_ints.mpr rfl⟩, rfl⟩
theorem depth_flat {ds : List Dat} {n : Nat} (h : ∀ d ∈ ds, depth d ≤ n) : depth.dL ds ≤ n := by
  induction ds with
  | nil => rw [depth.dL]; omega
  | cons d ds ih =>
    rw [depth.dL]
    have := h d List.mem_cons_self
    have := ih fun e he => h e (List.mem_cons_of_mem _ he)
    omega
theorem depth_wrow (p : Int × Int) : depth (wrowD p) = 1 := by simp [wrowD, depth, depth.dL]
theorem depth_pl (q : Pl) : depth (plD q) ≤ 3 := by
  cases q with
  | fin w => simp [plD, depth, depth.dL, depth_wrow]
  | thr w ws =>
    have := depth_flat (ds := ws.map wrowD) (n := 1) fun d hd => by obtain ⟨p, _, rfl⟩ := List.mem_map.mp hd; rw [depth_wrow]; exact Nat.le_refl _
    simp only [plD, depth, depth.dL, depth_wrow]
    omega
  | pck who to =>
    have := depth_flat (ds := to.map Dat.int) (n := 0) fun d hd => by obtain ⟨p, _, rfl⟩ := List.mem_map.mp hd; simp [depth]
    simp only [plD, depth, depth.dL]
    omega
theorem depth_br (b : List Pl) : depth (brD b) ≤ 40 := by
  have := depth_flat (ds := b.map plD) (n := 3) fun d hd => by obtain ⟨p, _, rfl⟩ := List.mem_map.mp hd; exact depth_pl p
  unfold brD
  rw [depth]
  omega
theorem rep_br_get {H : Hp} {b : List Pl} {xs : List V} {i : Nat} {x : V} (h : RepL H (b.map plD) xs) (e : xs[i]? = some x) : ∃ q, b[i]? = some q ∧ Rep H (plD q) x := by
  obtain ⟨d, ed, rd⟩ := h.get e
  rw [List.getElem?_map] at ed
  obtain ⟨q, eq, rfl⟩ := Option.map_eq_some_iff.mp ed
  exact ⟨q, eq, rd⟩
theorem rep_br_at {H : Hp} {b : List Pl} {xs : List V} {i : Nat} {q : Pl} (h : RepL H (b.map plD) xs) (e : b[i]? = some q) : ∃ x, xs[i]? = some x ∧ Rep H (plD q) x :=
  h.at (by rw [List.getElem?_map, e]; rfl)
theorem repL_map {α : Type} {H : Hp} {f : α → Dat} {as : List α} {ys : List V} (hl : ys.length = as.length) (h : ∀ (i : Nat) y, ys[i]? = some y → ∀ a, as[i]? = some a → Rep H (f a) y) : RepL H (as.map f) ys :=
  RepL.of (by rw [List.length_map, hl]) fun i d v e1 e2 => by
    rw [List.getElem?_map] at e1
    obtain ⟨a, ea, rfl⟩ := Option.map_eq_some_iff.mp e1
    exact h i v e2 a ea
noncomputable def hid (H : Hp) (p : Addr) : Hp := fun a => if a = p then none else H a
theorem hid_ne {H : Hp} {p a : Addr} (h : a ≠ p) : hid H p a = H a := if_neg h
theorem hid_upd {H : Hp} {p : Addr} {o : HO} : Same (hid H p) (upd H p o) := fun a u e => by
  unfold hid at e
  by_cases h : a = p
  · rw [if_pos h] at e; cases e
  · rw [if_neg h] at e; rw [upd_ne h]; exact e
theorem same_hid {H0 H : Hp} {p : Addr} (s : Same H0 H) (n : H0 p = none) : Same H0 (hid H p) := fun a u e => by
  rw [hid_ne (fun z => by rw [z, n] at e; cases e)]
  exact s _ _ e
theorem same_upd_of {H0 H : Hp} {p : Addr} {o : HO} (s : Same H0 H) (n : H0 p = none) : Same H0 (upd H p o) := (same_hid s n).trans hid_upd
theorem atI_pl {α β : Type} {f : α → β} {as : List α} {i : Nat} {a : α} (h : as[i]? = some a) : atI (as.map f) (i : Int) = some (f a) := atI_nat (by rw [List.getElem?_map, h]; rfl)
theorem while_at {c : TT} {tb : TS} {D : Ends} {σ : St} {H : Hp} (W : Nat → St → Hp → Prop) {m : Nat} (h0 : W m σ H)
    (hs : ∀ m σ H, W m σ H → c σ H fun b H1 => if b = true then tb { D with nx := fun σ' H' => ∃ m', m' < m ∧ W m' σ' H', ct := fun σ' H' => ∃ m', m' < m ∧ W m' σ' H', bk := D.nx } σ H1 else D.nx σ H1)
    (mono : ∀ σ H Q Q', (∀ b H1, Q b H1 → Q' b H1) → c σ H Q → c σ H Q') : tWhile c tb D σ H := by
  refine ⟨W, ⟨m, h0⟩, fun m σ H w => mono σ H _ _ (fun b H1 q => ?_) (hs m σ H w)⟩
  cases b with
  | true => exact ⟨_, fun _ _ h => h, q⟩
  | false => exact q
section
variable {X : Cx} {K : PySem.W.Frag}
theorem op_catTK (hK : X.K = K := by rfl) : OpR X (binaryOp .Add) (rCatT K) := by subst hK; exact op_catT
end
end L2
namespace Lv
open L2
abbrev Fs := List (Option Int)
noncomputable def gls : Pl → List Int
  | .fin _ => []
  | .thr _ ws => ws.map (·.2)
  | .pck _ to => to
noncomputable def lk (fs : Fs) (g : Int) : Option Int := fs.getD g.toNat none
noncomputable def rdy (fs : Fs) (q : Pl) : Bool :=
  match q with
  | .thr _ ws => (ws.map (·.2)).any fun g => (lk fs g).isSome
  | .fin _ => true
  | .pck _ to => to.all fun g => (lk fs g).isSome
noncomputable def isRdy (b : List Pl) (fs : Fs) (i : Nat) : Bool := (fs.getD i none).isNone && (match b[i]? with | some q => rdy fs q | none => false)
noncomputable def fresh (b : List Pl) (fs : Fs) : List Nat := (List.range b.length).filter (isRdy b fs)
noncomputable def setAll (fs : Fs) (is : List Nat) (L : Int) : Fs := is.foldl (fun acc i => acc.set i (some L)) fs
noncomputable def run (b : List Pl) : Nat → Fs → Int → Fs
  | 0, fs, _ => fs
  | m + 1, fs, L => if fresh b fs = [] then fs else run b m (setAll fs (fresh b fs) L) (L + 1)
noncomputable def lv0 : Pl → Option Int
  | .fin _ => some 0
  | _ => none
noncomputable def fs0 (b : List Pl) : Fs := b.map lv0
noncomputable def lvs (b : List Pl) : Fs := run b b.length (fs0 b) 1
noncomputable def nones (fs : Fs) : Nat := fs.countP (·.isNone)
theorem set_len (fs : Fs) : ∀ (is : List Nat) (L : Int), (setAll fs is L).length = fs.length
  | is, L => by
    induction is generalizing fs with
    | nil => rfl
    | cons i is ih =>
      show (setAll (fs.set i (some L)) is L).length = _
      rw [ih, List.length_set]
theorem set_get (L : Int) : ∀ (is : List Nat) (fs : Fs) (k : Nat), (setAll fs is L)[k]? = if k ∈ is ∧ k < fs.length then some (some L) else fs[k]?
  | [], fs, k => by simp [setAll]
  | i :: is, fs, k => by
    show (setAll (fs.set i (some L)) is L)[k]? = _
    rw [set_get L is, List.length_set]
    by_cases h : k < fs.length
    · by_cases h1 : k ∈ is
      · rw [if_pos ⟨h1, h⟩, if_pos ⟨List.mem_cons_of_mem _ h1, h⟩]
      · rw [if_neg (fun z => h1 z.1)]
        by_cases h2 : k = i
        · subst h2
          rw [if_pos ⟨List.mem_cons_self, h⟩, List.getElem?_set_self h]
        · rw [if_neg (fun z => (List.mem_cons.mp z.1).elim h2 h1), List.getElem?_set_ne (Ne.symm h2)]
    · rw [if_neg (fun z => h z.2), if_neg (fun z => h z.2), List.getElem?_eq_none (by rw [List.length_set]; omega), List.getElem?_eq_none (by omega)]
theorem fresh_mem {b : List Pl} {fs : Fs} {i : Nat} : i ∈ fresh b fs ↔ i < b.length ∧ isRdy b fs i = true := by
  unfold fresh
  rw [List.mem_filter, List.mem_range]
theorem fresh_none {b : List Pl} {fs : Fs} (hl : fs.length = b.length) {i : Nat} (h : i ∈ fresh b fs) : fs[i]? = some none := by
  obtain ⟨h1, h2⟩ := fresh_mem.mp h
  unfold isRdy at h2
  rw [Bool.and_eq_true] at h2
  have e : fs[i]? = some fs[i] := List.getElem?_eq_getElem (by omega)
  rw [List.getD_eq_getElem?_getD, e] at h2
  rw [e]
  cases h : fs[i] with
  | none => rfl
  | some v => rw [h] at h2; simp at h2
noncomputable def At (fs : Fs) (L : Int) (i : Nat) : Pl → Prop
  | .fin _ => fs[i]? = some (some 0)
  | .thr _ ws => (fs[i]? = some none ∧ ∀ g ∈ ws.map (·.2), ∀ u, lk fs g = some u → u = L - 1) ∨
      ∃ v, fs[i]? = some (some v) ∧ 1 ≤ v ∧ (∃ g ∈ ws.map (·.2), lk fs g = some (v - 1)) ∧ ∀ g ∈ ws.map (·.2), ∀ u, lk fs g = some u → v - 1 ≤ u
  | .pck _ to => (fs[i]? = some none ∧ ((∀ g ∈ to, (lk fs g).isSome = true) → ∃ g ∈ to, lk fs g = some (L - 1))) ∨
      ∃ v, fs[i]? = some (some v) ∧ 1 ≤ v ∧ (∀ g ∈ to, ∃ u, lk fs g = some u ∧ u ≤ v - 1) ∧ ∃ g ∈ to, lk fs g = some (v - 1)
structure Good (b : List Pl) : Prop where
  rng : ∀ q ∈ b, ∀ g ∈ gls q, 0 ≤ g ∧ g < b.length
  pck : ∀ q ∈ b, ∀ w to, q = .pck w to → to ≠ []
structure Inv (b : List Pl) (fs : Fs) (L : Int) : Prop where
  len : fs.length = b.length
  lt : ∀ (i : Nat) (v : Int), fs[i]? = some (some v) → 0 ≤ v ∧ v < L
  at_ : ∀ (i : Nat) q, b[i]? = some q → At fs L i q
theorem inv0 {b : List Pl} (g : Good b) : Inv b (fs0 b) 1 := by
  have h0 : ∀ (i : Nat) (v : Int), (fs0 b)[i]? = some (some v) → v = 0 := fun i v e => by
    unfold fs0 at e
    rw [List.getElem?_map] at e
    obtain ⟨q, _, e⟩ := Option.map_eq_some_iff.mp e
    cases q <;> simp [lv0] at e
    exact e.symm
  have hk : ∀ (g u : Int), lk (fs0 b) g = some u → u = 0 := fun g u e => by
    unfold lk at e
    rw [List.getD_eq_getElem?_getD] at e
    cases h : (fs0 b)[g.toNat]? with
    | none => rw [h] at e; simp at e
    | some o => rw [h] at e; simp at e; subst e; exact h0 _ _ h
  refine ⟨by simp [fs0], fun i v e => by have := h0 i v e; omega, fun i q e => ?_⟩
  have e2 : (fs0 b)[i]? = some (lv0 q) := by unfold fs0; rw [List.getElem?_map, e]; rfl
  cases q with
  | fin w => exact e2
  | thr w ws => exact .inl ⟨e2, fun g _ u h => hk g u h⟩
  | pck w to =>
    refine .inl ⟨e2, fun h => ?_⟩
    cases to with
    | nil => exact absurd rfl (g.pck _ (List.mem_of_getElem? e) _ _ rfl)
    | cons x r =>
      refine ⟨x, List.mem_cons_self, ?_⟩
      have := h x List.mem_cons_self
      obtain ⟨u, hu⟩ := Option.isSome_iff_exists.mp this
      have := hk x u hu
      rw [hu, this]
      rfl
theorem lk_of {fs : Fs} {g : Int} {u : Int} : lk fs g = some u ↔ fs[g.toNat]? = some (some u) := by
  unfold lk
  rw [List.getD_eq_getElem?_getD]
  cases h : fs[g.toNat]? with
  | none => simp
  | some o => simp
theorem step {b : List Pl} (gb : Good b) {fs : Fs} {L : Int} (I : Inv b fs L) (L1 : 1 ≤ L) : Inv b (setAll fs (fresh b fs) L) (L + 1) := by
  have hl := I.len
  have get : ∀ (k : Nat), (setAll fs (fresh b fs) L)[k]? = if k ∈ fresh b fs ∧ k < fs.length then some (some L) else fs[k]? := set_get L _ _
  have old : ∀ (k : Nat) (v : Int), fs[k]? = some (some v) → (setAll fs (fresh b fs) L)[k]? = some (some v) := fun k v e => by
    rw [get, if_neg, e]
    intro z
    rw [fresh_none hl z.1] at e
    cases e
  have lold : ∀ (g u : Int), lk fs g = some u → lk (setAll fs (fresh b fs) L) g = some u := fun g u h => lk_of.mpr (old _ _ (lk_of.mp h))
  have lnew : ∀ (g u : Int), lk (setAll fs (fresh b fs) L) g = some u → lk fs g = some u ∨ u = L := fun g u h => by
    have h := lk_of.mp h
    rw [get] at h
    split at h
    · right; simpa using h.symm
    · exact .inl (lk_of.mpr h)
  refine ⟨by rw [set_len]; exact hl, fun i v e => ?_, fun i q e => ?_⟩
  · rw [get] at e
    split at e
    · simp at e; omega
    · have := I.lt i v e; omega
  · have hi : i < b.length := (List.getElem?_eq_some_iff.mp e).1
    have A := I.at_ i q e
    have rd : ∀ (q : Pl), b[i]? = some q → fs[i]? = some none → (i ∈ fresh b fs ↔ rdy fs q = true) := fun q e e2 => by
      rw [fresh_mem]
      unfold isRdy
      rw [List.getD_eq_getElem?_getD, e2, e]
      simp [hi]
    cases q with
    | fin w => exact old _ _ A
    | thr w ws =>
      rcases A with ⟨a1, a2⟩ | ⟨v, a1, a2, ⟨x, hx, a3⟩, a4⟩
      · by_cases c : i ∈ fresh b fs
        · right
          refine ⟨L, by rw [get, if_pos ⟨c, by omega⟩], L1, ?_, fun g hg u h => ?_⟩
          · have := (rd _ e a1).mp c
            have : (ws.map (·.2)).any (fun g => (lk fs g).isSome) = true := this
            obtain ⟨x, hx, h⟩ := List.any_eq_true.mp this
            obtain ⟨u, hu⟩ := Option.isSome_iff_exists.mp h
            have := a2 x hx u hu
            subst this
            exact ⟨x, hx, lold _ _ hu⟩
          · rcases lnew _ _ h with h | h
            · have := a2 g hg u h; omega
            · omega
        · left
          refine ⟨by rw [get, if_neg (fun z => c z.1)]; exact a1, fun g hg u h => ?_⟩
          rcases lnew _ _ h with h | h
          · exfalso
            refine c ((rd _ e a1).mpr ?_)
            show (ws.map (·.2)).any (fun g => (lk fs g).isSome) = true
            exact List.any_eq_true.mpr ⟨g, hg, by rw [h]; rfl⟩
          · omega
      · right
        refine ⟨v, old _ _ a1, a2, ⟨x, hx, lold _ _ a3⟩, fun g hg u h => ?_⟩
        rcases lnew _ _ h with h | h
        · exact a4 g hg u h
        · have := I.lt i v a1; omega
    | pck w to =>
      rcases A with ⟨a1, a2⟩ | ⟨v, a1, a2, a3, x, hx, a4⟩
      · by_cases c : i ∈ fresh b fs
        · right
          have r := (rd _ e a1).mp c
          have r : to.all (fun g => (lk fs g).isSome) = true := r
          have r := List.all_eq_true.mp r
          obtain ⟨x, hx, h⟩ := a2 r
          refine ⟨L, by rw [get, if_pos ⟨c, by omega⟩], L1, fun g hg => ?_, x, hx, lold _ _ h⟩
          obtain ⟨u, hu⟩ := Option.isSome_iff_exists.mp (r g hg)
          exact ⟨u, lold _ _ hu, by have := I.lt _ _ (lk_of.mp hu); omega⟩
        · left
          refine ⟨by rw [get, if_neg (fun z => c z.1)]; exact a1, fun h => ?_⟩
          have : ¬ ∀ g ∈ to, (lk fs g).isSome = true := fun z => c ((rd _ e a1).mpr (show to.all (fun g => (lk fs g).isSome) = true from List.all_eq_true.mpr z))
          have : ∃ g ∈ to, lk fs g = none := by
            apply Classical.byContradiction
            intro n
            apply this
            intro g hg
            cases h : lk fs g with
            | none => exact absurd ⟨g, hg, h⟩ n
            | some u => rfl
          obtain ⟨g, hg, hn⟩ := this
          obtain ⟨u, hu⟩ := Option.isSome_iff_exists.mp (h g hg)
          refine ⟨g, hg, ?_⟩
          rcases lnew _ _ hu with h | h
          · rw [hn] at h; cases h
          · rw [hu, h]; congr 1; omega
      · right
        refine ⟨v, old _ _ a1, a2, fun g hg => ?_, x, hx, lold _ _ a4⟩
        obtain ⟨u, h1, h2⟩ := a3 g hg
        exact ⟨u, lold _ _ h1, h2⟩
noncomputable def Ends (fs : Fs) (i : Nat) : Pl → Prop
  | .fin _ => fs[i]? = some (some 0)
  | .thr _ ws => (fs[i]? = some none ∧ ∀ g ∈ ws.map (·.2), lk fs g = none) ∨
      ∃ v, fs[i]? = some (some v) ∧ 1 ≤ v ∧ (∃ g ∈ ws.map (·.2), lk fs g = some (v - 1)) ∧ ∀ g ∈ ws.map (·.2), ∀ u, lk fs g = some u → v - 1 ≤ u
  | .pck _ to => (fs[i]? = some none ∧ ∃ g ∈ to, lk fs g = none) ∨
      ∃ v, fs[i]? = some (some v) ∧ 1 ≤ v ∧ (∀ g ∈ to, ∃ u, lk fs g = some u ∧ u ≤ v - 1) ∧ ∃ g ∈ to, lk fs g = some (v - 1)
end Lv
namespace Bf
open L2 Lv
abbrev En := Int × Option (Int × Nat) × List Nat
noncomputable def keys (es : List En) : List Int := es.map (·.1)
noncomputable def gAt (b : List Pl) (k : Int) : List Int := match b[k.toNat]? with | some q => gls q | none => []
noncomputable def addG (here : Int) (path : List Nat) : Nat → List Int → List En → List En
  | _, [], es => es
  | w, g :: gs, es => addG here path (w + 1) gs (if g ∈ keys es then es else es ++ [(g, some (here, w), path ++ [w])])
noncomputable def bfs (b : List Pl) : Nat → Nat → List En → List En
  | 0, _, es => es
  | m + 1, t, es => match es[t]? with | none => es | some e => bfs b m (t + 1) (addG e.1 e.2.2 0 (gAt b e.1) es)
noncomputable def steps (b : List Pl) (start : Int) : List En := bfs b (b.length + 1) 0 [(start, none, [])]
structure Core (b : List Pl) (start : Int) (es : List En) : Prop where
  nd : (keys es).Nodup
  rng : ∀ e ∈ es, 0 ≤ e.1 ∧ e.1 < b.length
  hd : es[0]? = some (start, none, [])
  par : ∀ (i : Nat) e, es[i]? = some e → 0 < i → ∃ (j : Nat) (ej : En) (w : Nat), j < i ∧ es[j]? = some ej ∧ e.2.1 = some (ej.1, w) ∧ (gAt b ej.1)[w]? = some e.1 ∧ e.2.2 = ej.2.2 ++ [w]
  mono : ∀ (i j : Nat) ei ej, i ≤ j → es[i]? = some ei → es[j]? = some ej → ei.2.2.length ≤ ej.2.2.length
structure Mid (b : List Pl) (start : Int) (t : Nat) (e : En) (k : Nat) (es : List En) : Prop extends Core b start es where
  at_ : es[t]? = some e
  top : ∀ (i : Nat) ei, es[i]? = some ei → ei.2.2.length ≤ e.2.2.length + 1
  old : ∀ (j : Nat) ej, j < t → es[j]? = some ej → ∀ g ∈ gAt b ej.1, ∃ (i : Nat) (ei : En), es[i]? = some ei ∧ ei.1 = g ∧ ei.2.2.length ≤ ej.2.2.length + 1
  now : ∀ g ∈ (gAt b e.1).take k, ∃ (i : Nat) (ei : En), es[i]? = some ei ∧ ei.1 = g ∧ ei.2.2.length ≤ e.2.2.length + 1
structure Inv (b : List Pl) (start : Int) (t : Nat) (es : List En) : Prop extends Core b start es where
  top : ∀ (i : Nat) ei et, es[i]? = some ei → es[t]? = some et → ei.2.2.length ≤ et.2.2.length + 1
  old : ∀ (j : Nat) ej, j < t → es[j]? = some ej → ∀ g ∈ gAt b ej.1, ∃ (i : Nat) (ei : En), es[i]? = some ei ∧ ei.1 = g ∧ ei.2.2.length ≤ ej.2.2.length + 1
theorem get_snoc {α : Type} {l : List α} {x y : α} {i : Nat} (h : (l ++ [x])[i]? = some y) : l[i]? = some y ∨ (i = l.length ∧ y = x) := by
  by_cases c : i < l.length
  · rw [List.getElem?_append_left c] at h
    exact .inl h
  · rw [List.getElem?_append_right (by omega)] at h
    have : i - l.length = 0 := by
      by_cases q : i - l.length = 0
      · exact q
      · rw [List.getElem?_eq_none (by simp; omega)] at h; cases h
    rw [this] at h
    simp at h
    exact .inr ⟨by omega, h.symm⟩
theorem up {α : Type} {l : List α} {x y : α} {i : Nat} (h : l[i]? = some y) : (l ++ [x])[i]? = some y := by
  rw [List.getElem?_append_left (List.getElem?_eq_some_iff.mp h).1]
  exact h
theorem one {b : List Pl} (gb : Good b) {start : Int} {t : Nat} {e : En} {k : Nat} {es : List En} {g : Int} (M : Mid b start t e k es) (hg : (gAt b e.1)[k]? = some g) :
    Mid b start t e (k + 1) (if g ∈ keys es then es else es ++ [(g, some (e.1, k), e.2.2 ++ [k])]) := by
  have tk : (gAt b e.1).take (k + 1) = (gAt b e.1).take k ++ [g] := by rw [List.take_add_one, hg]; rfl
  by_cases c : g ∈ keys es
  · rw [if_pos c]
    refine { M with now := fun x hx => ?_ }
    rw [tk] at hx
    rcases List.mem_append.mp hx with hx | hx
    · exact M.now x hx
    · have : x = g := by simpa using hx
      subst this
      obtain ⟨ei, hei, rfl⟩ := List.mem_map.mp c
      obtain ⟨i, hi⟩ := List.getElem?_of_mem hei
      exact ⟨i, ei, hi, rfl, M.top i ei hi⟩
  · rw [if_neg c]
    have rg : 0 ≤ g ∧ g < b.length := by
      unfold gAt at hg
      cases hb : b[e.1.toNat]? with
      | none => rw [hb] at hg; simp at hg
      | some q =>
        rw [hb] at hg
        exact gb.rng q (List.mem_of_getElem? hb) g (List.mem_of_getElem? hg)
    have tl : t < es.length := (List.getElem?_eq_some_iff.mp M.at_).1
    refine ⟨⟨?_, fun x hx => ?_, up M.hd, fun i x hx i0 => ?_, fun i j ei ej hij hi hj => ?_⟩, up M.at_, fun i ei hi => ?_, fun j ej hj hej x hx => ?_, fun x hx => ?_⟩
    · unfold keys at *
      rw [List.map_append]
      refine List.nodup_append.mpr ⟨M.nd, by simp, fun a ha b' hb' => ?_⟩
      have : b' = g := by simpa using hb'
      subst this
      intro z
      exact c (z ▸ ha)
    · rcases List.mem_append.mp hx with hx | hx
      · exact M.rng x hx
      · have : x = (g, some (e.1, k), e.2.2 ++ [k]) := by simpa using hx
        subst this
        exact rg
    · rcases get_snoc hx with hx | ⟨rfl, rfl⟩
      · obtain ⟨j, ej, w, a1, a2, a3⟩ := M.par i x hx i0
        exact ⟨j, ej, w, a1, up a2, a3⟩
      · exact ⟨t, e, k, tl, up M.at_, rfl, hg, rfl⟩
    · rcases get_snoc hi with hi | ⟨rfl, rfl⟩
      · rcases get_snoc hj with hj | ⟨rfl, rfl⟩
        · exact M.mono i j ei ej hij hi hj
        · have := M.top i ei hi
          simpa using this
      · rcases get_snoc hj with hj | ⟨rfl, rfl⟩
        · have := (List.getElem?_eq_some_iff.mp hj).1
          omega
        · exact Nat.le_refl _
    · rcases get_snoc hi with hi | ⟨rfl, rfl⟩
      · exact M.top i ei hi
      · simp
    · rcases get_snoc hej with hej | ⟨rfl, rfl⟩
      · obtain ⟨i, ei, a1, a2⟩ := M.old j ej hj hej x hx
        exact ⟨i, ei, up a1, a2⟩
      · omega
    · rw [tk] at hx
      rcases List.mem_append.mp hx with hx | hx
      · obtain ⟨i, ei, a1, a2⟩ := M.now x hx
        exact ⟨i, ei, up a1, a2⟩
      · have : x = g := by simpa using hx
        subst this
        exact ⟨es.length, (x, some (e.1, k), e.2.2 ++ [k]), by rw [List.getElem?_append_right (Nat.le_refl _)]; simp, rfl, by simp⟩
theorem addG_mid {b : List Pl} (gb : Good b) {start : Int} {t : Nat} {e : En} : ∀ (gs : List Int) (k : Nat) (es : List En), Mid b start t e k es → (∀ (i : Nat) g, gs[i]? = some g → (gAt b e.1)[k + i]? = some g) → Mid b start t e (k + gs.length) (addG e.1 e.2.2 k gs es)
  | [], k, es, M, _ => M
  | g :: gs, k, es, M, h => by
    have := addG_mid gb gs (k + 1) _ (one gb M (h 0 g rfl)) fun i x hx => by
      have := h (i + 1) x (by simpa using hx)
      rwa [show k + 1 + i = k + (i + 1) by omega]
    rw [List.length_cons, show k + (gs.length + 1) = k + 1 + gs.length by omega]
    exact this
theorem mid_of {b : List Pl} {start : Int} {t : Nat} {e : En} {es : List En} (I : Inv b start t es) (h : es[t]? = some e) : Mid b start t e 0 es :=
  { I with at_ := h, top := fun i ei hi => I.top i ei e hi h, now := fun g hg => by simp at hg }
theorem inv_of {b : List Pl} {start : Int} {t : Nat} {e : En} {es : List En} (M : Mid b start t e (gAt b e.1).length es) : Inv b start (t + 1) es := by
  refine { M with top := fun i ei et hi ht => ?_, old := fun j ej hj hej g hg => ?_ }
  · have h1 := M.top i ei hi
    have h2 := M.mono t (t + 1) e et (by omega) M.at_ ht
    omega
  · by_cases c : j < t
    · exact M.old j ej c hej g hg
    · have : j = t := by omega
      subst this
      rw [M.at_] at hej
      cases hej
      exact M.now g (by rw [List.take_of_length_le (Nat.le_refl _)]; exact hg)
theorem turn {b : List Pl} (gb : Good b) {start : Int} {t : Nat} {e : En} {es : List En} (I : Inv b start t es) (h : es[t]? = some e) : Inv b start (t + 1) (addG e.1 e.2.2 0 (gAt b e.1) es) := by
  have := addG_mid gb (gAt b e.1) 0 es (mid_of I h) fun i g hg => by rw [Nat.zero_add]; exact hg
  rw [Nat.zero_add] at this
  exact inv_of this
theorem inv0 {b : List Pl} {start : Int} (h0 : 0 ≤ start) (h1 : start < b.length) : Inv b start 0 [(start, none, [])] := by
  refine ⟨⟨by simp [keys], fun e he => ?_, rfl, fun i e he hi => ?_, fun i j ei ej _ hi hj => ?_⟩, fun i ei et hi ht => ?_, fun j ej hj => by omega⟩
  · have : e = (start, none, []) := by simpa using he
    subst this
    exact ⟨h0, h1⟩
  · rw [List.getElem?_eq_none (by simp; omega)] at he
    cases he
  · cases i with
    | zero => simp at hi; subst hi; simp
    | succ i => rw [List.getElem?_eq_none (by simp)] at hi; cases hi
  · cases i with
    | zero => simp at hi; subst hi; simp
    | succ i => rw [List.getElem?_eq_none (by simp)] at hi; cases hi
theorem few_nat : ∀ (n : Nat) (l : List Nat), l.Nodup → (∀ x ∈ l, x < n) → l.length ≤ n
  | 0, l, _, h => by
    cases l with
    | nil => exact Nat.le_refl _
    | cons x r => have := h x List.mem_cons_self; omega
  | n + 1, l, nd, h => by
    have := few_nat n (l.erase n) (nd.erase n) fun x hx => by
      have h1 := (nd.mem_erase_iff).mp hx
      have := h x h1.2
      have := h1.1
      omega
    have := List.length_erase (a := n) (l := l)
    split at this <;> omega
theorem few_of {n : Nat} {l : List Int} (nd : l.Nodup) (h : ∀ x ∈ l, 0 ≤ x ∧ x < (n : Int)) : l.length ≤ n := by
  have := few_nat n (l.map Int.toNat) (by
    unfold List.Nodup at *
    rw [List.pairwise_map]
    refine nd.imp_of_mem ?_
    intro a b ha hb hab z
    have := h a ha
    have := h b hb
    omega) fun x hx => by
      obtain ⟨y, hy, rfl⟩ := List.mem_map.mp hx
      have := h y hy
      omega
  rwa [List.length_map] at this
theorem Core.few {b : List Pl} {start : Int} {es : List En} (C : Core b start es) : es.length ≤ b.length := by
  have := few_of (n := b.length) C.nd fun x hx => by
    obtain ⟨e, he, rfl⟩ := List.mem_map.mp hx
    exact C.rng e he
  unfold keys at this
  rwa [List.length_map] at this
theorem bfs_inv {b : List Pl} (gb : Good b) {start : Int} : ∀ (m t : Nat) (es : List En), Inv b start t es → b.length < m + t → ∃ t', es.length ≤ (bfs b m t es).length ∧ (bfs b m t es).length ≤ t' ∧ Inv b start t' (bfs b m t es)
  | 0, t, es, I, h => ⟨t, Nat.le_refl _, by have := I.toCore.few; show es.length ≤ t; omega, I⟩
  | m + 1, t, es, I, h => by
    unfold bfs
    cases ht : es[t]? with
    | none => exact ⟨t, Nat.le_refl _, List.getElem?_eq_none_iff.mp ht, I⟩
    | some e =>
      obtain ⟨t', a1, a2, a3⟩ := bfs_inv gb m (t + 1) _ (turn gb I ht) (by omega)
      refine ⟨t', Nat.le_trans ?_ a1, a2, a3⟩
      have : ∀ (gs : List Int) (k : Nat) (es : List En), es.length ≤ (addG e.1 e.2.2 k gs es).length := by
        intro gs
        induction gs with
        | nil => intro k es; exact Nat.le_refl _
        | cons g gs ih =>
          intro k es
          unfold addG
          refine Nat.le_trans ?_ (ih (k + 1) _)
          split
          · exact Nat.le_refl _
          · simp
      exact this _ _ _
theorem steps_ok {b : List Pl} (gb : Good b) {start : Int} (h0 : 0 ≤ start) (h1 : start < b.length) : Core b start (steps b start) ∧
    ∀ (j : Nat) ej, (steps b start)[j]? = some ej → ∀ g ∈ gAt b ej.1, ∃ (i : Nat) (ei : En), (steps b start)[i]? = some ei ∧ ei.1 = g ∧ ei.2.2.length ≤ ej.2.2.length + 1 := by
  obtain ⟨t, _, a2, I⟩ := bfs_inv gb (b.length + 1) 0 _ (inv0 (b := b) h0 h1) (by omega)
  refine ⟨I.toCore, fun j ej hj => I.old j ej ?_ hj⟩
  have := (List.getElem?_eq_some_iff.mp hj).1
  show j < t
  unfold steps at *
  omega
noncomputable def go (b : List Pl) : Int → List Nat → Option Int
  | k, [] => some k
  | k, w :: ws => match (gAt b k)[w]? with | some g => go b g ws | none => none
theorem go_snoc {b : List Pl} : ∀ {ws : List Nat} {k g : Int} {w : Nat}, go b k (ws ++ [w]) = (match go b k ws with | some x => (gAt b x)[w]? | none => none)
  | [], k, g, w => by
    show (match (gAt b k)[w]? with | some g => go b g [] | none => none) = (gAt b k)[w]?
    cases (gAt b k)[w]? <;> rfl
  | v :: ws, k, g, w => by
    show (match (gAt b k)[v]? with | some g => go b g (ws ++ [w]) | none => none) = (match (match (gAt b k)[v]? with | some g => go b g ws | none => none) with | some x => (gAt b x)[w]? | none => none)
    cases (gAt b k)[v]? with
    | none => rfl
    | some x => exact go_snoc (g := g)
theorem path_ok {b : List Pl} {start : Int} {es : List En} (C : Core b start es) : ∀ (i : Nat) (e : En), es[i]? = some e → go b start e.2.2 = some e.1 := by
  intro i
  induction i using Nat.strongRecOn with
  | ind i ih =>
    intro e he
    by_cases c : i = 0
    · subst c
      rw [C.hd] at he
      cases he
      rfl
    · obtain ⟨j, ej, w, a1, a2, a3, a4, a5⟩ := C.par i e he (by omega)
      rw [a5, go_snoc (g := e.1), ih j a1 ej a2]
      exact a4
end Bf
namespace PySem
section
variable {prog : Program} {w : World} {A : Around} {E : Value → Shared → Prop} {s : Shared}
end
end PySem
namespace L2
open PySem PySem.Spec PyProof.Rows PySem.W
section
variable {X : Cx} {K : PySem.W.Frag}
noncomputable def tRev (K : PySem.W.Frag) (te : TE) : TE := fun σ H Q => te σ H fun v H1 => ∃ p xs, v = .ref p ∧ SqL K H1 p xs ∧ ∀ l, H1 l = none → Q (.ref l) (upd H1 l (.lst xs.reverse))
noncomputable def tD1 (tk tv : TE) : TE := fun σ H Q => ∀ d, H d = none → tk σ (upd H d (.dK [])) fun x H1 => tv σ H1 fun v H2 => ∃ k, x = kV k ∧ H2 d = some (.dK []) ∧ Q (.ref d) (upd H2 d (.dK [(k, v)]))
theorem pe_d1 {ke ve : Expr} {tk tv : TE} {pos : Pos} (hk : PE X ke tk) (hv : PE X ve tv) : PE X (.Dict [some ke] [ve] pos) (tD1 tk tv) := by
  intro pins s σ H Q I h
  refine wpAny_Dict_pairs (knd := mixKind X.prog X.w) (pairs := [(eval ke X.env, do let x ← eval ve X.env; standAt pos; pure x)]) rfl (by simp) (by simp) ?_
  have fr := I.hok.fresh (a := s.heap.objs.size) (Nat.le_refl _)
  have I1 : Inv X pins σ (upd H s.heap.objs.size (.dK [])) { s with heap := s.heap.push { cls := .type "dict", data := .dict #[] } } := I.laid (t' := s.toks) (fun _ _ q => Heap.get?_push_of_some _ q) (Nat.le_refl _) (dk_empty s.heap I.big)
  unfold evalPairs
  refine wpAny_bind (thn (hk pins _ σ _ _ I1 (h _ fr)) fun ku s1 ⟨x, H1, I2, rx, q1⟩ => ?_)
  refine wpAny_bind (wpAny_holding (wpAny_bind (thn (hv pins _ σ _ _ I2 q1) fun vu s2 ⟨v, H2, I3, rv, k, ex, hd, q⟩ => wpAny_bind (wpAny_standAt (wpAny_pure ?_)))))
  subst ex
  obtain ⟨z, lo, vs, kv, dd⟩ := dk_of I3.hok hd
  cases kv
  unfold evalPairs
  refine wpAny_bind (wpAny_holding (wpAny_pure (wpAny_pure ⟨[(k, vu)], ⟨kV_is rx, rfl, trivial⟩, dd, fun h' dd' hs => ?_⟩)))
  have dd' : h'.DictOf (mixKind X.prog X.w) s.heap.objs.size [(k, vu)] := dd'
  have he : ∃ q, h'.get? s.heap.objs.size = some q := let ⟨q, _, _, hq, _⟩ := dd'; ⟨q, hq⟩
  exact ⟨.ref s.heap.objs.size, _, d_write I3 (by rw [hd]; exact True.intro) hs he (dk_new (kvs := [(k, v)]) (by rw [sizeLine_eq]; simp) lo (.cons ⟨rfl, rv⟩ .nil) dd'), rfl, q⟩
end
end L2
namespace PySem
section
variable {prog : Program} {w : World} {A : Around} {E : Value → Shared → Prop} {s : Shared}
variable {κ : Type} [DecidableEq κ] {knd : KeyKind prog w κ}
end
end PySem
namespace L2
open PySem PySem.Spec PyProof.Rows PySem.W
section
variable {X : Cx}
end
end L2
namespace PySem
section
variable {prog : Program} {w : World} {A : Around} {R : Result → Shared → Prop} {I : Addr} {fp wr : List Addr} {n : Nat} {P : Nat → Value → Prop} {St : Nat → Heap → Prop} {kw : List (Str × Value)}
end
section
variable {prog : Program} {w : World} {A : Around} {E : Value → Shared → Prop} {s : Shared}
end
end PySem
namespace L2
open PySem PySem.Spec PyProof.Rows PySem.W
section
variable {X : Cx} {K : PySem.W.Frag}
noncomputable def tMaxD (K : PySem.W.Frag) (te td : TE) : TE := fun σ H Q => te σ H fun v H1 => td σ H1 fun dv H2 => ∃ p ns, v = .ref p ∧ SqL K H2 p (List.map V.int ns) ∧ (ns = [] → Q dv H2) ∧ ∀ M, M ∈ ns → (∀ a ∈ ns, a ≤ M) → Q (.int M) H2
noncomputable def tLR (te : TE) : TE := fun σ H Q => te σ H fun v H1 => ∃ n : Nat, v = .int (n : Int) ∧ n ≤ 1000000 ∧ ∀ l, H1 l = none → Q (.ref l) (upd H1 l (.lst ((List.range n).map fun i : Nat => V.int (i : Int))))
end
end L2
namespace KS
open PySem PySem.W PyProof.Rows
noncomputable def Bd {α : Type} (lt : Nat → Nat → Bool) (n : Nat) (post : α → Prop) : KasT α → Prop
  | .ret a => post a
  | .ask i j k => i < n ∧ j < n ∧ Bd lt n post (k (lt i j))
theorem Bd.bind {α β : Type} {lt : Nat → Nat → Bool} {n : Nat} {post : β → Prop} {f : α → KasT β} : ∀ {t : KasT α}, Bd lt n (fun a => Bd lt n post (f a)) t → Bd lt n post (t.bind f)
  | .ret _, h => h
  | .ask _ _ _, ⟨h1, h2, h3⟩ => ⟨h1, h2, Bd.bind h3⟩
theorem Bd.mono {α : Type} {lt : Nat → Nat → Bool} {n : Nat} {p q : α → Prop} (hpq : ∀ a, p a → q a) : ∀ {t : KasT α}, Bd lt n p t → Bd lt n q t
  | .ret _, h => hpq _ h
  | .ask _ _ _, ⟨h1, h2, h3⟩ => ⟨h1, h2, Bd.mono hpq h3⟩
theorem Bd.wp {α : Type} {lt : Nat → Nat → Bool} {n : Nat} {post : α → Prop} {cmp : Nat → Nat → (Bool → Shared → Prop) → Shared → Prop} {Q : α → Shared → Prop} {s : Shared}
    (hc : ∀ i j C, i < n → j < n → C (lt i j) s → cmp i j C s) (hq : ∀ a, post a → Q a s) : ∀ {t : KasT α}, Bd lt n post t → t.kasWp cmp Q s
  | .ret _, h => hq _ h
  | .ask i j k, ⟨h1, h2, h3⟩ => hc i j _ h1 h2 (Bd.wp hc hq h3)
noncomputable def Pm (n : Nat) (p : Array Nat) : Prop := p.Perm (List.range n).toArray
theorem Pm.lt {n : Nat} {p : Array Nat} (h : Pm n p) (hn : 0 < n) (i : Nat) : p.getD i 0 < n := by
  by_cases hi : i < p.size
  · have : p.getD i 0 = p[i] := by simp [Array.getD, hi]
    rw [this]
    have hm : p[i] ∈ p := Array.getElem_mem hi
    have := (Array.Perm.mem_iff h).mp hm
    simpa using this
  · have : p.getD i 0 = 0 := by simp [Array.getD, hi]
    omega
theorem Pm.rev {n : Nat} {p : Array Nat} (h : Pm n p) (i j : Nat) : Pm n (kas_rev p i j) := (mirror_perm _ _ _ _).trans h
theorem Pm.bub {n : Nat} {p : Array Nat} (h : Pm n p) (i j : Nat) : Pm n (bubble p i j) := (bubble_perm _ _ _).trans h
variable {lt : Nat → Nat → Bool} {n : Nat}
section
variable {prog : Program} {w : World} {A : Around} {E : Value → Shared → Prop} {s : Shared} {vs : List Value} {κ : SortKind}
theorem list_sort_asksR {R : List Nat → Prop} {a : Addr} {m : Nat} {P : PySem.Fin → Shared → Prop} (ho : s.heap.get? a = some (seqObj "list" vs.toArray m)) (h64 : vs.length < 64)
    (hkind : 2 ≤ vs.length → ∀ h' Q', (∀ b o, b ≠ a → s.heap.get? b = some o → h'.get? b = some o) → Q' κ { s with heap := h' } → wpAny (model prog w) A (keyKind' vs.toArray) Q' (fun _ _ => False) { s with heap := h' })
    (hcmp : ∀ i j h' C, i < vs.length → j < vs.length → (∀ b o, b ≠ a → s.heap.get? b = some o → h'.get? b = some o) → C (lt i j) { s with heap := h' } → kas_ask prog w A κ vs i j C { s with heap := h' })
    (hbd : 2 ≤ vs.length → Bd lt vs.length (fun p => Pm vs.length p ∧ R p.toList) (kas_sort vs.length)) (h0 : vs.length < 2 → R (List.range vs.length))
    (h : ∀ p : List Nat, p.Perm (List.range vs.length) → R p → P (.done (.ret .none)) { s with heap := sortedHeap s.heap a vs (p.map fun i => vs.getD i Value.none).toArray }) :
    wpAny (model prog w) A (Builtin.«list.sort» ⟨[.ref a], []⟩) P E s := by
  rw [list_sort_plain]
  have ha : a < s.heap.objs.size := Heap.lt_size ho
  refine wpAny_bind (listItems_at ho rfl ?_)
  refine wpAny_bind (listUpdate_at ho rfl ?_ (by rw [List.size_toArray, sizeLine_eq]; omega) (Nat.zero_le _))
  obtain ⟨e1, ho1⟩ : ∃ e1, (s.heap.update a (Obj.mapSeq fun _ => #[])).get? a = some (seqObj "list" #[] e1) := ⟨_, get?_update_seq ho (fun _ => #[])⟩
  refine wpAny_bind (seqEpoch_at ho1 rfl ?_)
  refine wpAny_bind (wpAny_newTuple ?_ (by show vs.length ≤ _; rw [sizeLine_eq]; omega))
  refine wpAny_bind (wpAny_newList ?_ (Nat.zero_le _))
  refine wpAny_holding ?_
  have ho6 : (((s.heap.update a (Obj.mapSeq fun _ => #[])).push (seqObj "tuple" vs.toArray 0)).push (seqObj "list" #[] 0)).get? a = some (seqObj "list" #[] e1) := by
    rw [Heap.get?_push_ne _ _ _ (by rw [size_push', Heap.size_update]; exact Nat.ne_of_lt (Nat.lt_succ_of_lt ha)), Heap.get?_push_ne _ _ _ (by rw [Heap.size_update]; exact Nat.ne_of_lt ha)]
    exact ho1
  have keep : ∀ b o, b ≠ a → s.heap.get? b = some o → (((s.heap.update a (Obj.mapSeq fun _ => #[])).push (seqObj "tuple" vs.toArray 0)).push (seqObj "list" #[] 0)).get? b = some o := fun b o hb q =>
    Heap.get?_push_of_some _ (Heap.get?_push_of_some _ ((Heap.get?_update_other _ _ (Ne.symm hb)).trans q))
  show wpAny (model prog w) A _ P E { s with heap := ((s.heap.update a (Obj.mapSeq fun _ => #[])).push (seqObj "tuple" vs.toArray 0)).push (seqObj "list" #[] 0) }
  dsimp only
  have hsz : vs.toArray.size = vs.length := by simp
  have gd : ∀ (l : List Value), (List.range l.length).map (fun i => l.getD i Value.none) = l := fun l => by
    apply List.ext_getElem?
    intro i
    rw [List.getElem?_map]
    by_cases hi : i < l.length
    · rw [List.getElem?_range hi, List.getElem?_eq_getElem hi]
      simp [hi]
    · rw [List.getElem?_eq_none (by rw [List.length_range]; omega), List.getElem?_eq_none (by omega)]
      rfl
  by_cases h2 : vs.toArray.size < 2
  · rw [if_pos h2, if_pos h2]
    refine wpAny_bind (wpAny_pure ?_)
    rw [StateT.run_pure]
    refine wpAny_bind (wpAny_pure ?_)
    dsimp only
    refine wpAny_bind (seqEpoch_at ho6 rfl ?_)
    refine wpAny_bind (listUpdate_at ho6 rfl ?_ (hsz2 := by rw [Array.size_map]; show (pairsOf vs).size ≤ _; rw [pairsOf_size, sizeLine_eq]; omega))
    simp only [bne_self_eq_false, Bool.false_eq_true, if_false]
    have e : (vs.toArray.zip vs.toArray).map (fun (x : Keyed) => x.2) = ((List.range vs.length).map fun i => vs.getD i Value.none).toArray := by
      rw [gd]
      apply Array.toList_inj.mp
      rw [Array.toList_map]
      simp [List.map_snd_zip]
    refine wpAny_pure ?_
    have := h (List.range vs.length) (List.Perm.refl _) (h0 (by omega))
    rw [← e] at this
    exact this
  · have h2' : 2 ≤ vs.length := by omega
    rw [if_neg h2, if_neg h2]
    refine wpAny_bind (wpAny_mono (hkind h2' _ (fun κ' s' => κ' = κ ∧ s' = { s with heap := ((s.heap.update a (Obj.mapSeq fun _ => #[])).push (seqObj "tuple" vs.toArray 0)).push (seqObj "list" #[] 0) }) keep ⟨rfl, rfl⟩) ?_ fun _ _ x => x.elim)
    rintro κ' s' ⟨rfl, rfl⟩
    refine wpAny_bind (wpAny_mono (kat_run (ks := vs) (vs := vs) (Q := fun st' s' => s' = { s with heap := ((s.heap.update a (Obj.mapSeq fun _ => #[])).push (seqObj "tuple" vs.toArray 0)).push (seqObj "list" #[] 0) } ∧ ∃ p : Array Nat, p.size = vs.length ∧ arrOf st' = p.map (kas_item (vs.toArray.zip vs.toArray)) ∧ failedOf st' = none ∧ Pm vs.length p ∧ R p.toList)
      (G := fun p s' => s' = { s with heap := ((s.heap.update a (Obj.mapSeq fun _ => #[])).push (seqObj "tuple" vs.toArray 0)).push (seqObj "list" #[] 0) } ∧ Pm vs.length p ∧ R p.toList) rfl h2' h64 (fun p st' s' a1 a2 a3 a4 => ⟨a4.1, p, a1, a2, a3, a4.2⟩) ?_) ?_ fun _ _ e => e)
    · exact Bd.wp (lt := lt) (n := vs.length) (fun i j C hi hj hC => hcmp i j _ C hi hj keep hC) (fun p hp => ⟨rfl, hp⟩) (hbd h2')
    rintro ⟨⟨⟩, st'⟩ s' ⟨rfl, p, hp, har, hf, pm, hR⟩
    dsimp only
    have hout := kat_snds (ks := vs) (vs := vs) rfl har
    rw [hout]
    refine wpAny_bind (seqEpoch_at ho6 rfl ?_)
    refine wpAny_bind (listUpdate_at ho6 rfl ?_ (Nat.zero_le _) (by rw [List.size_toArray, List.length_map, Array.length_toList, hp, sizeLine_eq]; omega))
    rw [hf]
    simp only [bne_self_eq_false, Bool.false_eq_true, if_false]
    exact wpAny_pure (h p.toList (by have := pm.toList; simpa using this) hR)
theorem sorted_asksR {R : List Nat → Prop} {l : Addr} {Q : Value → Shared → Prop} (hl : s.heap.IsList l vs.toArray) (h64 : vs.length < 64)
    (hkind : 2 ≤ vs.length → ∀ h' Q', (∀ b o, s.heap.get? b = some o → h'.get? b = some o) → Q' κ { s with heap := h' } → wpAny (model prog w) A.in1.in1 (keyKind' vs.toArray) Q' (fun _ _ => False) { s with heap := h' })
    (hcmp : ∀ i j h' C, i < vs.length → j < vs.length → (∀ b o, s.heap.get? b = some o → h'.get? b = some o) → C (lt i j) { s with heap := h' } → kas_ask prog w A.in1.in1 κ vs i j C { s with heap := h' })
    (hbd : 2 ≤ vs.length → Bd lt vs.length (fun p => Pm vs.length p ∧ R p.toList) (kas_sort vs.length)) (h0 : vs.length < 2 → R (List.range vs.length))
    (h : ∀ p : List Nat, p.Perm (List.range vs.length) → R p → Q (.ref (s.heap.objs.size + 1)) { s with heap := sortedAll s.heap vs (p.map fun i => vs.getD i Value.none).toArray }) :
    wpAny (model prog w) A (call (.builtin "sorted") [.ref l]) Q E s := by
  refine Calls.call_function_entry kind_sorted plain_sorted entry_sorted (args_sorted1 _) ?_
  unfold Builtin.«sorted»
  refine wpAny_bind (m := checkCount "sorted" 1 1 _) (wpAny_pure ?_)
  refine wpAny_bind (collect_list hl ?_ (by rw [sizeLine_eq]; omega))
  refine wpAny_bind (wpAny_newList ?_ (by rw [sizeLine_eq]; omega))
  have hsz : ((s.heap.push (seqObj "list" #[] 0)).update s.heap.objs.size (Obj.mapSeq (· ++ vs.toArray))).objs.size = s.heap.objs.size + 1 := by
    rw [Heap.size_update, size_push']
  have hoL : (((s.heap.push (seqObj "list" #[] 0)).update s.heap.objs.size (Obj.mapSeq (· ++ vs.toArray))).push (seqObj "list" vs.toArray 0)).get? (s.heap.objs.size + 1) = some (seqObj "list" vs.toArray 0) := by
    rw [← hsz]; exact Heap.get?_push_size _ rfl
  have keep : ∀ b o, s.heap.get? b = some o → b ≠ s.heap.objs.size + 1 ∧ (((s.heap.push (seqObj "list" #[] 0)).update s.heap.objs.size (Obj.mapSeq (· ++ vs.toArray))).push (seqObj "list" vs.toArray 0)).get? b = some o := fun b o q => by
    have hlt : b < s.heap.objs.size := Heap.lt_size q
    refine ⟨Nat.ne_of_lt (Nat.lt_succ_of_lt hlt), ?_⟩
    rw [Heap.get?_push_ne _ _ _ (by rw [hsz]; exact Nat.ne_of_lt (Nat.lt_succ_of_lt hlt)), Heap.get?_update_ne _ _ _ _ (Nat.ne_of_lt hlt), Heap.get?_push_ne _ _ _ (Nat.ne_of_lt hlt)]
    exact q
  show wpAny _ _ _ _ _ { s with heap := ((s.heap.push (seqObj "list" #[] 0)).update s.heap.objs.size (Obj.mapSeq (· ++ vs.toArray))).push (seqObj "list" vs.toArray 0) }
  rw [hsz]
  refine wpAny_bind (wpAny_holding (wpAny_call_entry slot_list_sort ⟨_, hoL, rfl⟩ entry_list_sort (list_sort_asksR (lt := lt) (κ := κ) hoL h64 (fun h2 h' Q' hk hq => hkind h2 h' Q' (fun b o q => hk b o (keep b o q).1 (keep b o q).2) hq)
    (fun i j h' C hi hj hk hC => hcmp i j h' C hi hj (fun b o q => hk b o (keep b o q).1 (keep b o q).2) hC) hbd h0 fun p hp hR => ⟨_, rfl, ?_⟩) (args_list_sort _)))
  exact wpAny_pure ⟨_, rfl, h p hp hR⟩
end
end KS
namespace L2
open PySem PySem.Spec PyProof.Rows PySem.W
section
variable {X : Cx} {K : PySem.W.Frag}
end
end L2
namespace Lv
open L2
noncomputable def nm (s : List Nat) (g : Int) : Int := ((s.getD g.toNat 0 : Nat) : Int)
noncomputable def ren (s : List Nat) : Pl → Pl
  | .fin w => .fin w
  | .thr w ws => .thr w (ws.map fun p => (p.1, nm s p.2))
  | .pck w to => .pck w (to.map (nm s))
noncomputable def turn (s : List Nat) (b : List Pl) : List Pl := (List.range b.length).map fun j => ren s (b.getD (s.idxOf j) (.fin (0, 1)))
section
variable {s : List Nat} {n : Nat} (p : s.Perm (List.range n))
include p
end
end Lv
namespace PySem
open Builtin Builtin.Str
section
variable {prog : Program} {w : World} {A : Around} {E : Value → Shared → Prop} {s : Shared} {x y : Str} {t u : Tok} {Q : Value → Shared → Prop}
end
end PySem
namespace L2
open PySem PySem.Spec PyProof.Rows PySem.W
section
variable {X : Cx} {K : PySem.W.Frag}
noncomputable def Its (z : Str) : It := ⟨fun i _ => i < z.cps.size, fun i H x H' => H' = H ∧ ∃ c, z.cps[i]? = some c ∧ x = .str ⟨#[c]⟩, fun i _ => z.cps.size ≤ i⟩
noncomputable def iStr (tl : TE) : TI := fun σ H R => tl σ H fun x H1 => ∃ z, x = .str z ∧ z.cps.all (· < 128) = true ∧ R (Its z) H1
end
end L2
namespace PySem
end PySem
namespace PySem
open Builtin Builtin.Str StrLaws
abbrev PLUS : Str := ⟨#[32, 43, 32]⟩
end PySem
namespace L2
open PySem PySem.Spec PyProof.Rows PySem.W
section
variable {X : Cx} {K : PySem.W.Frag}
end
end L2
namespace PySem
section
variable {M : Model} {A : Around} {E : Value → Shared → Prop} {s : Shared} {env : Env}
end
end PySem
namespace L2
open PySem PySem.Spec PyProof.Rows PySem.W
section
variable {M : Model} {A : Around} {E : Value → Shared → Prop} {s : Shared} {B : Heap} {l : List Env} {ad L : Addr} {cls a0 : Value}
end
section
variable {P : Program} {w : World} {K : PySem.W.Frag} {mg : Str → Option Value} {base : Heap} {N : List Str} {qual : Str} {scope : Scope} {f : Addr} {cdv : Value} {A : Around} {outer : List Env} {s0 : Shared} {H0 : Hp} {E : XK}
end
end L2
namespace L2
open PySem PySem.Spec PyProof.Rows PySem.W
section
variable {X : Cx}
end
end L2
namespace L2
open PySem PySem.Spec PyProof.Rows PySem.W
abbrev IsTri (h : Heap) (T : Addr) (a b c : Value) : Prop := h.get? T = some { cls := .type "tuple", data := .seq #[a, b, c] }
structure Ap3 (z TI TO i1 i2 i3 a b c : Addr) : Prop where
  TIz : TI ≠ z
  TOz : TO ≠ z
  i1z : i1 ≠ z
  i2z : i2 ≠ z
  i3z : i3 ≠ z
  TITO : TI ≠ TO
  TI1 : TI ≠ i1
  TI2 : TI ≠ i2
  TI3 : TI ≠ i3
  TO1 : TO ≠ i1
  TO2 : TO ≠ i2
  TO3 : TO ≠ i3
  i12 : i1 ≠ i2
  i13 : i1 ≠ i3
  i23 : i2 ≠ i3
  az : a ≠ z
  bz : b ≠ z
  cz : c ≠ z
  bTO : b ≠ TO
  cTO : c ≠ TO
  b1 : b ≠ i1
  c1 : c ≠ i1
  c2 : c ≠ i2
section
variable {prog : Program} {w : World} {A : Around} {E : Value → Shared → Prop} {s : Shared}
end
abbrev z3a (h : Heap) (la : Addr) : Heap := h.push { cls := .type "list_iterator", data := .fields #[.ref la, .int 0 0] }
abbrev z3b (h : Heap) (la lb : Addr) : Heap := (z3a h la).push { cls := .type "list_iterator", data := .fields #[.ref lb, .int 0 0] }
abbrev z3c (h : Heap) (la lb lc : Addr) : Heap := (z3b h la lb).push { cls := .type "list_iterator", data := .fields #[.ref lc, .int 0 0] }
abbrev z3d (h : Heap) (la lb lc : Addr) : Heap := (z3c h la lb lc).push { cls := .type "tuple", data := .seq #[.ref h.objs.size, .ref (z3a h la).objs.size, .ref (z3b h la lb).objs.size] }
abbrev z3e (h : Heap) (la lb lc : Addr) : Heap := (z3d h la lb lc).push { cls := .type "tuple", data := .seq #[.none, .none, .none] }
abbrev z3f (h : Heap) (la lb lc : Addr) : Heap := (z3e h la lb lc).push { cls := .type "zip", data := .fields #[.none, .bool false, .bool false, .ref (z3c h la lb lc).objs.size, .ref (z3d h la lb lc).objs.size] }
section
variable {prog : Program} {w : World} {A : Around} {E : Value → Shared → Prop} {s : Shared}
end
section
variable {X : Cx} {elts : List Expr} {kk : Nat} {tpos : Pos} {K : PySem.W.Frag}
end
end L2
namespace L2
open PySem PySem.Spec PyProof.Rows PySem.W
structure FnOkM (P : Program) (w : World) (K : PySem.W.Frag) (mg : Str → Option Value) (base : Heap) (CX : CXT) (k : Nat) (f : Addr) (fd : FuncData) (ps : List Str) (sp : Sp) : Prop where
  len : ∀ vs H Q E, sp vs H Q E → vs.length = ps.length
  run : ∀ (A : Around) (ad : Addr) (outer : List Env) (s : Shared) (H : Hp) (args : Args) (us : List Value) (vs : List V) (Q : VK) (E : XK), Room k A → Env0 P w K mg base A outer s H → BindsTo s fd args (ps.zip us) → Vals vs us → sp vs H Q E →
    codeAny (model P w) (A.mark (some (.ref ad))) (.call (.ref f) args) (CR CX outer P w H s Q E) s
structure CalM (P : Program) (w : World) (K : PySem.W.Frag) (mg : Str → Option Value) (base : Heap) (CX : CXT) (k : Nat) (x : Str) (ps : List Str) (sp : Sp) : Prop where
  ex : ∃ f fd, FnOkM P w K mg base CX k f fd ps sp ∧ mg x = some (.ref f) ∧ PySem.W.keepIn K (.ref f) = true ∧ Binds K fd ps []
section
variable {P : Program} {w : World} {K : PySem.W.Frag} {mg : Str → Option Value} {base : Heap} {CX : CXT}
end
section
variable {X : Cx} {K : PySem.W.Frag}
end
end L2
namespace PySem
open Builtin Builtin.Str StrLaws
end PySem
namespace L2
open PySem PySem.Spec PyProof.Rows PySem.W
section
variable {X : Cx} {K : PySem.W.Frag}
end
end L2
namespace L2
open PySem PySem.Spec PyProof.Rows PySem.W
section
variable {X : Cx} {K : PySem.W.Frag}
noncomputable def tSortR (K : PySem.W.Frag) (te : TE) : TE := fun σ H Q => te σ H fun v H1 => ∃ p ns, v = .ref p ∧ SqL K H1 p (List.map V.int ns) ∧ ns.length < 64 ∧ ∀ l, H1 l = none → Q (.ref l) (upd H1 l (.lst (List.map V.int (Nm.srt ns).reverse)))
end
end L2
namespace PySem.SeqAt
open AutoSeq1 (wpAny_loadPart')
open MeetsSeq MeetsSeq2 MeetsSeq3
noncomputable def geFrom (e g : Nat → Bool) (fin : Bool) : Nat → Nat → Bool
  | 0, _ => fin
  | k + 1, i => if e i = true then geFrom e g fin k (i + 1) else g i
end PySem.SeqAt
namespace L2
open PySem PySem.Spec PyProof.Rows PySem.W
section
variable {X : Cx} {K : PySem.W.Frag}
theorem int_at {ns : List Int} {us : List Value} (r : Vals (List.map V.int ns) us) {j : Nat} (h : j < us.toArray.size) : ∃ t, us.toArray[j] = .int (ns.getD j 0) t := by
  have hl := r.length
  rw [List.length_map] at hl
  rw [List.size_toArray] at h
  have e : (List.map V.int ns)[j]? = some (V.int (ns.getD j 0)) := by
    rw [List.getElem?_map, List.getElem?_eq_getElem (show j < ns.length by omega)]
    simp [List.getD, List.getElem?_eq_getElem (show j < ns.length by omega)]
  obtain ⟨u, g, t, w⟩ := r.get e
  refine ⟨t, ?_⟩
  have : us.toArray[j] = u := by simpa [List.getElem?_eq_getElem h] using g
  rw [this, w]
end
end L2
namespace PySem.UL
section
variable {prog : Program} {w : World} {A : Around} {E : Value → Shared → Prop} {s : Shared}
end
end PySem.UL
namespace L2
open PySem PySem.Spec PyProof.Rows PySem.W
section
variable {X : Cx} {K : PySem.W.Frag}
end
end L2
namespace PySem.Tim
open PySem PyProof.Rows
noncomputable def IsI (x : Keyed) : Prop := ∃ n t, x.1 = .int n t
abbrev kn (x : Keyed) : Int := numOf x.1
noncomputable def gallop' : Bool → Keyed → Array Keyed → Nat → Nat → Nat → StateT SortSt Sem (Option Nat) := sortPriv% PySem.Builtin.gallop
noncomputable def byd (left : Bool) (key : Keyed) (arr : Array Keyed) (base i : Nat) : StateT SortSt Sem (Option Bool) := do
  let x ← elem' arr (base + i)
  if left then lt' x key else return (← lt' key x).map (!·)
noncomputable def gbin (left : Bool) (key : Keyed) (arr : Array Keyed) (base n lo0 hi0 : Nat) : StateT SortSt Sem (Option Nat) := do
  let mut lo := lo0
  let mut hi := hi0
  for _ in [0:n] do
    if lo ≥ hi then break
    let m := lo + (hi - lo) / 2
    let some more ← byd left key arr base m | return none
    if more then lo := m + 1 else hi := m
  return some hi
theorem gallop'_eq (left : Bool) (key : Keyed) (arr : Array Keyed) (base n hint : Nat) : gallop' left key arr base n hint = (do
  let some right ← byd left key arr base hint | return none
  if right then
    let mut lastofs := 0
    let mut ofs := 1
    for _ in [0:n] do
      if ofs ≥ n - hint then break
      let some more ← byd left key arr base (hint + ofs) | return none
      if !more then break
      lastofs := ofs
      ofs := 2 * ofs + 1
    gbin left key arr base n (hint + lastofs + 1) (hint + min ofs (n - hint))
  else
    let mut lastofs := 0
    let mut ofs := 1
    for _ in [0:n] do
      if ofs ≥ hint + 1 then break
      let some found ← byd left key arr base (hint - ofs) | return none
      if found then break
      lastofs := ofs
      ofs := 2 * ofs + 1
    gbin left key arr base n (hint + 1 - min ofs (hint + 1)) (hint - lastofs)) := rfl
section
variable {prog : Program} {w : World} {A : Around} {E : Value → Shared → Prop} {s : Shared}
theorem wpS_lt {st : SortSt} {x y : Keyed} {Q : Option Bool → SortSt → Prop} (hk : kindOf st = oneType') (hx : IsI x) (hy : IsI y) (h : Q (some (decide (kn x < kn y))) st) : wpS (model prog w) A E s (lt' x y) Q st := by
  obtain ⟨a, t, ea⟩ := hx
  obtain ⟨b, u, eb⟩ := hy
  unfold kn at h
  rw [ea, eb] at h
  rw [lt'_eq]
  refine wpS_bind (wpS_get ?_)
  rw [hk, keyLt'_oneType, ea, eb]
  refine wpS_bind (wpS_lift (wpAny_attempt (oneLt_int ⟨rfl, ?_⟩)))
  exact wpS_pure h
theorem wpS_elem {st : SortSt} {arr : Array Keyed} {i : Nat} {p : Keyed} {Q : Keyed → SortSt → Prop} (hp : arr[i]? = some p) (h : Q p st) : wpS (model prog w) A E s (elem' arr i) Q st := by
  rw [elem'_eq, hp]
  exact wpS_pure h
noncomputable def B (left : Bool) (key : Keyed) (arr : Array Keyed) (base i : Nat) : Bool := if left then decide (K arr (base + i) < kn key) else decide (K arr (base + i) ≤ kn key)
theorem wpS_byd {st : SortSt} {left : Bool} {key : Keyed} {arr : Array Keyed} {base i : Nat} {p : Keyed} {Q : Option Bool → SortSt → Prop} (hk : kindOf st = oneType') (hy : IsI key) (hp : arr[base + i]? = some p) (ip : IsI p)
    (h : Q (some (B left key arr base i)) st) : wpS (model prog w) A E s (byd left key arr base i) Q st := by
  have e : K arr (base + i) = kn p := by unfold K; rw [hp]
  unfold byd
  refine wpS_bind (wpS_elem hp ?_)
  unfold B at h
  rw [e] at h
  cases left with
  | true => exact wpS_lt hk ip hy h
  | false =>
    refine wpS_bind (wpS_lt hk hy ip (wpS_pure ?_))
    have e2 : (Option.map (fun x => !x) (some (decide (kn key < kn p)))) = some (decide (kn p ≤ kn key)) := by
      by_cases c : kn key < kn p
      · simp [c]
      · simp [c]; omega
    rw [e2]
    exact h
theorem wpS_gallop {st : SortSt} {left : Bool} {key : Keyed} {arr : Array Keyed} {base n hint : Nat} {Q : Option Nat → SortSt → Prop} (hk : kindOf st = oneType') (hy : IsI key) (hp : ∀ i, i < n → ∃ p, arr[base + i]? = some p ∧ IsI p)
    (hh : hint < n) (mono : ∀ i j, i ≤ j → j < n → K arr (base + i) ≤ K arr (base + j))
    (h : ∀ k, k ≤ n → (∀ i, i < k → B left key arr base i = true) → (∀ i, k ≤ i → i < n → B left key arr base i = false) → Q (some k) st) : wpS (model prog w) A E s (gallop' left key arr base n hint) Q st := by
  have dn : ∀ {i j}, i ≤ j → j < n → B left key arr base j = true → B left key arr base i = true := fun {i j} hij hj hb => by
    have := mono i j hij hj
    unfold B at *
    cases left with
    | true => simp at *; omega
    | false => simp at *; omega
  have ask : ∀ {i : Nat} {Q' : Option Bool → SortSt → Prop}, i < n → Q' (some (B left key arr base i)) st → wpS (model prog w) A E s (byd left key arr base i) Q' st := fun {i Q'} hi hq => by
    obtain ⟨p, e, ip⟩ := hp i hi
    exact wpS_byd hk hy e ip hq
  have bin : ∀ lo hi, lo ≤ hi → hi ≤ n → (∀ i, i < lo → B left key arr base i = true) → (∀ i, hi ≤ i → i < n → B left key arr base i = false) → wpS (model prog w) A E s (gbin left key arr base n lo hi) Q st := by
    intro lo hi l1 l2 b1 b2
    unfold gbin
    refine wpS_bind (wpS_mono (wpS_forRange (I := fun x c st' => st' = st ∧ ∃ lo hi, c = (none, lo, hi) ∧ lo ≤ hi ∧ hi ≤ n ∧ hi - lo ≤ n - x ∧ (∀ i, i < lo → B left key arr base i = true) ∧ (∀ i, hi ≤ i → i < n → B left key arr base i = false))
      (Q := fun c st' => st' = st ∧ ∃ hi, c = (none, hi, hi) ∧ hi ≤ n ∧ (∀ i, i < hi → B left key arr base i = true) ∧ (∀ i, hi ≤ i → i < n → B left key arr base i = false)) ?step ?fin ⟨rfl, lo, hi, rfl, l1, l2, by omega, b1, b2⟩) ?post)
    case fin =>
      rintro c st' ⟨rfl, lo, hi, rfl, l1, l2, l3, b1, b2⟩
      have : lo = hi := by omega
      subst this
      exact ⟨rfl, lo, rfl, l2, b1, b2⟩
    case step =>
      rintro x c st' _ hx ⟨rfl, lo, hi, rfl, l1, l2, l3, b1, b2⟩
      dsimp only
      by_cases c : lo ≥ hi
      · rw [if_pos c]
        have : lo = hi := by omega
        subst this
        exact wpS_pure ⟨rfl, lo, rfl, l2, b1, b2⟩
      · rw [if_neg c]
        have hm : lo + (hi - lo) / 2 < n := by omega
        refine wpS_bind (ask hm ?_)
        cases hb : B left key arr base (lo + (hi - lo) / 2) with
        | true =>
          dsimp only
          rw [if_pos rfl]
          refine wpS_pure ⟨rfl, _, _, rfl, by omega, l2, by omega, fun i hi' => dn (show i ≤ lo + (hi - lo) / 2 by omega) hm hb, b2⟩
        | false =>
          dsimp only
          rw [if_neg (by simp)]
          refine wpS_pure ⟨rfl, _, _, rfl, by omega, by omega, by omega, b1, fun i h1 h2 => ?_⟩
          cases hc : B left key arr base i with
          | false => rfl
          | true => rw [dn h1 h2 hc] at hb; cases hb
    case post =>
      rintro c st' ⟨rfl, hi, rfl, l2, b1, b2⟩
      exact wpS_pure (h hi l2 b1 b2)
  rw [gallop'_eq]
  refine wpS_bind (ask hh ?_)
  cases hr : B left key arr base hint with
  | true =>
    dsimp only
    rw [if_pos rfl]
    refine wpS_bind (wpS_mono (wpS_forRange (I := fun x c st' => st' = st ∧ ∃ lst ofs, c = (none, lst, ofs) ∧ lst < ofs ∧ x + 1 ≤ ofs ∧ hint + lst < n ∧ B left key arr base (hint + lst) = true)
      (Q := fun c st' => st' = st ∧ ∃ lst ofs, c = (none, lst, ofs) ∧ lst < ofs ∧ hint + lst < n ∧ B left key arr base (hint + lst) = true ∧ (ofs ≥ n - hint ∨ B left key arr base (hint + ofs) = false)) ?step ?fin ⟨rfl, 0, 1, rfl, by omega, by omega, by omega, hr⟩) ?post)
    case fin =>
      rintro c st' ⟨rfl, lst, ofs, rfl, l1, l2, l3, b1⟩
      exact ⟨rfl, lst, ofs, rfl, l1, l3, b1, .inl (by omega)⟩
    case step =>
      rintro x c st' _ hx ⟨rfl, lst, ofs, rfl, l1, l2, l3, b1⟩
      dsimp only
      by_cases c : ofs ≥ n - hint
      · rw [if_pos c]
        exact wpS_pure ⟨rfl, lst, ofs, rfl, l1, l3, b1, .inl c⟩
      · rw [if_neg c]
        refine wpS_bind (ask (by omega) ?_)
        cases hb : B left key arr base (hint + ofs) with
        | true =>
          dsimp only
          rw [if_neg (by simp)]
          exact wpS_pure ⟨rfl, ofs, 2 * ofs + 1, rfl, by omega, by omega, by omega, hb⟩
        | false =>
          dsimp only
          rw [if_pos (by simp)]
          exact wpS_pure ⟨rfl, lst, ofs, rfl, l1, l3, b1, .inr hb⟩
    case post =>
      rintro c st' ⟨rfl, lst, ofs, rfl, l1, l3, b1, b2⟩
      dsimp only
      refine bin _ _ (by omega) (by omega) (fun i hi => dn (show i ≤ hint + lst by omega) l3 b1) fun i h1 h2 => ?_
      rcases b2 with c | c
      · omega
      · cases hc : B left key arr base i with
        | false => rfl
        | true => rw [dn (show hint + ofs ≤ i by omega) h2 hc] at c; cases c
  | false =>
    dsimp only
    rw [if_neg (by simp)]
    refine wpS_bind (wpS_mono (wpS_forRange (I := fun x c st' => st' = st ∧ ∃ lst ofs, c = (none, lst, ofs) ∧ lst < ofs ∧ x + 1 ≤ ofs ∧ lst ≤ hint ∧ B left key arr base (hint - lst) = false)
      (Q := fun c st' => st' = st ∧ ∃ lst ofs, c = (none, lst, ofs) ∧ lst < ofs ∧ lst ≤ hint ∧ B left key arr base (hint - lst) = false ∧ (ofs ≥ hint + 1 ∨ B left key arr base (hint - ofs) = true)) ?step2 ?fin2 ⟨rfl, 0, 1, rfl, by omega, by omega, by omega, hr⟩) ?post2)
    case fin2 =>
      rintro c st' ⟨rfl, lst, ofs, rfl, l1, l2, l3, b1⟩
      exact ⟨rfl, lst, ofs, rfl, l1, l3, b1, .inl (by omega)⟩
    case step2 =>
      rintro x c st' _ hx ⟨rfl, lst, ofs, rfl, l1, l2, l3, b1⟩
      dsimp only
      by_cases c : ofs ≥ hint + 1
      · rw [if_pos c]
        exact wpS_pure ⟨rfl, lst, ofs, rfl, l1, l3, b1, .inl c⟩
      · rw [if_neg c]
        refine wpS_bind (ask (by omega) ?_)
        cases hb : B left key arr base (hint - ofs) with
        | false =>
          dsimp only
          rw [if_neg (by simp)]
          exact wpS_pure ⟨rfl, ofs, 2 * ofs + 1, rfl, by omega, by omega, by omega, hb⟩
        | true =>
          dsimp only
          rw [if_pos rfl]
          exact wpS_pure ⟨rfl, lst, ofs, rfl, l1, l3, b1, .inr hb⟩
    case post2 =>
      rintro c st' ⟨rfl, lst, ofs, rfl, l1, l3, b1, b2⟩
      dsimp only
      refine bin _ _ (by omega) (by omega) (fun i hi => ?_) fun i h1 h2 => ?_
      · rcases b2 with c | c
        · omega
        · exact dn (show i ≤ hint - ofs by omega) (by omega) c
      · cases hc : B left key arr base i with
        | false => rfl
        | true => rw [dn h1 h2 hc] at b1; cases b1
noncomputable def setG' (g : Nat) : StateT SortSt Sem Unit := (sortPriv% PySem.Builtin.setMinGallop) g
theorem setG'_eq (g : Nat) : setG' g = modify fun s => SortSt.mk' (kindOf s) (arrOf s) (pendingOf s) g (failedOf s) := rfl
noncomputable def mergeLo' : Array Keyed → Array Keyed → StateT SortSt Sem (Array Keyed) := sortPriv% PySem.Builtin.mergeLo
noncomputable def dn (a b out : Array Keyed) (ia ib : Nat) : Array Keyed := out ++ a.extract ia a.size ++ b.extract ib b.size
noncomputable def lA (a b out : Array Keyed) (ia ib : Nat) : Array Keyed := out ++ b.extract ib b.size ++ a.extract ia a.size
theorem mergeLo'_eq (a b : Array Keyed) : mergeLo' a b = (do
  rule "list.sort.merge-lo"
  let mut out : Array Keyed := #[← elem' b 0]
  let mut ia := 0
  let mut ib := 1
  if ib == b.size then return dn a b out ia ib
  if ia + 1 == a.size then return lA a b out ia ib
  let mut minGallop := gallopOf (← get)
  for _ in [0:a.size + b.size] do
    let mut acount := 0
    let mut bcount := 0
    for _ in [0:a.size + b.size] do
      let some bWins ← lt' (← elem' b ib) (← elem' a ia) | return dn a b out ia ib
      if bWins then
        out := out.push (← elem' b ib); ib := ib + 1; bcount := bcount + 1; acount := 0
        if ib == b.size then return dn a b out ia ib
        if bcount ≥ minGallop then break
      else
        out := out.push (← elem' a ia); ia := ia + 1; acount := acount + 1; bcount := 0
        if ia + 1 == a.size then return lA a b out ia ib
        if acount ≥ minGallop then break
    rule "list.sort.gallop"
    minGallop := minGallop + 1
    for _ in [0:a.size + b.size] do
      if minGallop > 1 then minGallop := minGallop - 1
      setG' minGallop
      let some k ← gallop' false (← elem' b ib) a ia (a.size - ia) 0 | return dn a b out ia ib
      acount := k
      if k > 0 then
        out := out ++ a.extract ia (ia + k); ia := ia + k
        if ia + 1 == a.size then return lA a b out ia ib
        if ia == a.size then return dn a b out ia ib
      out := out.push (← elem' b ib); ib := ib + 1
      if ib == b.size then return dn a b out ia ib
      let some k ← gallop' true (← elem' a ia) b ib (b.size - ib) 0 | return dn a b out ia ib
      bcount := k
      if k > 0 then
        out := out ++ b.extract ib (ib + k); ib := ib + k
        if ib == b.size then return dn a b out ia ib
      out := out.push (← elem' a ia); ia := ia + 1
      if ia + 1 == a.size then return lA a b out ia ib
      if acount < 7 && bcount < 7 then break
    minGallop := minGallop + 1
    setG' minGallop
  unsupported "internal:list.sort.merge-bound") := rfl
noncomputable def Le (x y : Keyed) : Prop := kn x ≤ kn y
structure MI (a b out : List Keyed) (ia ib : Nat) : Prop where
  perm : out.Perm (a.take ia ++ b.take ib)
  srt : out.Pairwise Le
  le : ∀ x ∈ out, ∀ y, (y ∈ a.drop ia ∨ y ∈ b.drop ib) → kn x ≤ kn y
theorem take_one {l : List Keyed} {i : Nat} {x : Keyed} (e : l[i]? = some x) : l.take (i + 1) = l.take i ++ [x] := by rw [List.take_add_one, e]; rfl
theorem drop_one {l : List Keyed} {i : Nat} {x : Keyed} (e : l[i]? = some x) : l.drop i = x :: l.drop (i + 1) := by
  obtain ⟨h, rfl⟩ := List.getElem?_eq_some_iff.mp e
  exact List.drop_eq_getElem_cons h
theorem srt_drop {l : List Keyed} {i : Nat} {x : Keyed} (h : l.Pairwise Le) (e : l[i]? = some x) : ∀ y ∈ l.drop i, kn x ≤ kn y := by
  have := List.Pairwise.drop (i := i) h
  rw [drop_one e] at this ⊢
  intro y hy
  rcases List.mem_cons.mp hy with rfl | hy
  · exact Int.le_refl _
  · exact (List.pairwise_cons.mp this).1 y hy
theorem MI.pushB {a b out : List Keyed} {ia ib : Nat} {x : Keyed} (m : MI a b out ia ib) (hb : b.Pairwise Le) (e : b[ib]? = some x) (h : ∀ y ∈ a.drop ia, kn x ≤ kn y) : MI a b (out ++ [x]) ia (ib + 1) := by
  have xb : x ∈ b.drop ib := by rw [drop_one e]; simp
  have sub : ∀ y ∈ b.drop (ib + 1), y ∈ b.drop ib := fun y hy => by rw [drop_one e]; exact List.mem_cons_of_mem _ hy
  refine ⟨?_, ?_, ?_⟩
  · rw [take_one e, ← List.append_assoc]
    exact m.perm.append_right _
  · rw [List.pairwise_append]
    exact ⟨m.srt, by simp, fun u hu v hv => by rw [List.mem_singleton.mp hv]; exact m.le u hu x (.inr xb)⟩
  · intro u hu y hy
    rcases List.mem_append.mp hu with hu | hu
    · rcases hy with hy | hy
      · exact m.le u hu y (.inl hy)
      · exact m.le u hu y (.inr (sub y hy))
    · rw [List.mem_singleton.mp hu]
      rcases hy with hy | hy
      · exact h y hy
      · exact srt_drop hb e y (sub y hy)
theorem MI.pushA {a b out : List Keyed} {ia ib : Nat} {x : Keyed} (m : MI a b out ia ib) (ha : a.Pairwise Le) (e : a[ia]? = some x) (h : ∀ y ∈ b.drop ib, kn x ≤ kn y) : MI a b (out ++ [x]) (ia + 1) ib := by
  have xb : x ∈ a.drop ia := by rw [drop_one e]; simp
  have sub : ∀ y ∈ a.drop (ia + 1), y ∈ a.drop ia := fun y hy => by rw [drop_one e]; exact List.mem_cons_of_mem _ hy
  refine ⟨?_, ?_, ?_⟩
  · rw [take_one e, List.append_assoc]
    refine (m.perm.append_right [x]).trans ?_
    rw [List.append_assoc]
    exact List.perm_append_comm.append_left _
  · rw [List.pairwise_append]
    exact ⟨m.srt, by simp, fun u hu v hv => by rw [List.mem_singleton.mp hv]; exact m.le u hu x (.inl xb)⟩
  · intro u hu y hy
    rcases List.mem_append.mp hu with hu | hu
    · rcases hy with hy | hy
      · exact m.le u hu y (.inl (sub y hy))
      · exact m.le u hu y (.inr hy)
    · rw [List.mem_singleton.mp hu]
      rcases hy with hy | hy
      · exact srt_drop ha e y (sub y hy)
      · exact h y hy
theorem MI.appA {a b out : List Keyed} {ia ib : Nat} (m : MI a b out ia ib) (ha : a.Pairwise Le) : ∀ k, ia + k ≤ a.length → (∀ i x, i < k → a[ia + i]? = some x → ∀ y ∈ b.drop ib, kn x ≤ kn y) → MI a b (out ++ (a.drop ia).take k) (ia + k) ib
  | 0, _, _ => by simpa using m
  | k + 1, hk, h => by
    have e : a[ia + k]? = some (a[ia + k]'(by omega)) := List.getElem?_eq_getElem (by omega)
    have m1 := (m.appA ha k (by omega) fun i x hi => h i x (by omega)).pushA ha e (h k _ (by omega) e)
    have e2 : (a.drop ia).take (k + 1) = (a.drop ia).take k ++ [a[ia + k]'(by omega)] := take_one (by rw [List.getElem?_drop]; exact e)
    rw [e2, ← List.append_assoc]
    exact m1
theorem MI.appB {a b out : List Keyed} {ia ib : Nat} (m : MI a b out ia ib) (hb : b.Pairwise Le) : ∀ k, ib + k ≤ b.length → (∀ i x, i < k → b[ib + i]? = some x → ∀ y ∈ a.drop ia, kn x ≤ kn y) → MI a b (out ++ (b.drop ib).take k) ia (ib + k)
  | 0, _, _ => by simpa using m
  | k + 1, hk, h => by
    have e : b[ib + k]? = some (b[ib + k]'(by omega)) := List.getElem?_eq_getElem (by omega)
    have m1 := (m.appB hb k (by omega) fun i x hi => h i x (by omega)).pushB hb e (h k _ (by omega) e)
    have e2 : (b.drop ib).take (k + 1) = (b.drop ib).take k ++ [b[ib + k]'(by omega)] := take_one (by rw [List.getElem?_drop]; exact e)
    rw [e2, ← List.append_assoc]
    exact m1
noncomputable def Res (a b r : List Keyed) : Prop := r.Perm (a ++ b) ∧ r.Pairwise Le
theorem MI.doneB {a b out : List Keyed} {ia ib : Nat} (m : MI a b out ia ib) (ha : a.Pairwise Le) (h : b.length ≤ ib) : Res a b (out ++ a.drop ia ++ b.drop ib) := by
  have e : b.drop ib = [] := List.drop_of_length_le h
  have e2 : b.take ib = b := List.take_of_length_le h
  rw [e, List.append_nil]
  refine ⟨?_, ?_⟩
  · have := m.perm.append_right (a.drop ia)
    rw [e2, List.append_assoc] at this
    refine this.trans ((List.perm_append_comm (l₁ := b) (l₂ := a.drop ia)).append_left (a.take ia) |>.trans ?_)
    rw [← List.append_assoc, List.take_append_drop]
  · rw [List.pairwise_append]
    exact ⟨m.srt, ha.drop, fun u hu v hv => m.le u hu v (.inl hv)⟩
theorem MI.doneA {a b out : List Keyed} {ia ib : Nat} (m : MI a b out ia ib) (hb : b.Pairwise Le) (h : a.length ≤ ia) : Res a b (out ++ a.drop ia ++ b.drop ib) := by
  have e : a.drop ia = [] := List.drop_of_length_le h
  have e2 : a.take ia = a := List.take_of_length_le h
  rw [e, List.append_nil]
  refine ⟨?_, ?_⟩
  · have := m.perm.append_right (b.drop ib)
    rw [e2, List.append_assoc, List.take_append_drop] at this
    exact this
  · rw [List.pairwise_append]
    exact ⟨m.srt, hb.drop, fun u hu v hv => m.le u hu v (.inr hv)⟩
theorem MI.lastA {a b out : List Keyed} {ia ib : Nat} (m : MI a b out ia ib) (ha : a.Pairwise Le) (hb : b.Pairwise Le) (h : ia + 1 = a.length) (hl : ∀ x, a[ia]? = some x → ∀ y ∈ b, kn y ≤ kn x) : Res a b (out ++ b.drop ib ++ a.drop ia) := by
  have e : a[ia]? = some (a[ia]'(by omega)) := List.getElem?_eq_getElem (by omega)
  have e2 : a.drop ia = [a[ia]'(by omega)] := by rw [drop_one e, List.drop_of_length_le (by omega)]
  refine ⟨?_, ?_⟩
  · have h1 := (m.perm.append_right (b.drop ib)).append_right (a.drop ia)
    rw [List.append_assoc (a.take ia), List.take_append_drop] at h1
    refine h1.trans ?_
    rw [List.append_assoc]
    refine ((List.perm_append_comm (l₁ := b) (l₂ := a.drop ia)).append_left (a.take ia)).trans ?_
    rw [← List.append_assoc, List.take_append_drop]
  · rw [List.pairwise_append, List.pairwise_append]
    refine ⟨⟨m.srt, hb.drop, fun u hu v hv => m.le u hu v (.inr hv)⟩, ha.drop, fun u hu v hv => ?_⟩
    rcases List.mem_append.mp hu with hu | hu
    · exact m.le u hu v (.inl hv)
    · rw [e2] at hv
      rw [List.mem_singleton.mp hv]
      exact hl _ e u (List.mem_of_mem_drop hu)
theorem dn_list (a b out : Array Keyed) (ia ib : Nat) : (dn a b out ia ib).toList = out.toList ++ a.toList.drop ia ++ b.toList.drop ib := by
  unfold dn
  simp only [Array.toList_append, Array.toList_extract]
  simp
  rw [List.take_of_length_le (by simp), List.take_of_length_le (by simp)]
theorem lA_list (a b out : Array Keyed) (ia ib : Nat) : (lA a b out ia ib).toList = out.toList ++ b.toList.drop ib ++ a.toList.drop ia := by
  unfold lA
  simp only [Array.toList_append, Array.toList_extract]
  simp
  rw [List.take_of_length_le (by simp), List.take_of_length_le (by simp)]
noncomputable def SG (st st' : SortSt) : Prop := kindOf st' = kindOf st ∧ arrOf st' = arrOf st ∧ pendingOf st' = pendingOf st ∧ failedOf st' = failedOf st
theorem SG.refl (st : SortSt) : SG st st := ⟨rfl, rfl, rfl, rfl⟩
theorem wpS_setG {st st' : SortSt} {g : Nat} {Q : Unit → SortSt → Prop} (hs : SG st st') (h : ∀ st'', SG st st'' → Q () st'') : wpS (model prog w) A E s (setG' g) Q st' := by
  rw [setG'_eq]
  exact wpS_modify (h _ ⟨hs.1, hs.2.1, hs.2.2.1, hs.2.2.2⟩)
theorem K_get {a : Array Keyed} {i : Nat} {x : Keyed} (e : a.toList[i]? = some x) : K a i = kn x := by
  unfold K
  rw [← Array.getElem?_toList, e]
theorem ex_list (a : Array Keyed) (i k : Nat) : (a.extract i (i + k)).toList = (a.toList.drop i).take k := by
  rw [Array.toList_extract]
  simp
theorem arr_get {a : Array Keyed} {i : Nat} (h : i < a.size) : ∃ x, a.toList[i]? = some x ∧ a[i]? = some x := ⟨a[i], by rw [List.getElem?_eq_getElem (by simpa using h)]; rfl, by simp [h]⟩
abbrev LoT := Option (Array Keyed) × Array Keyed × Nat × Nat × Nat × Nat × Nat
noncomputable def loC (a b out : Array Keyed) (ia ib mg ac bc : Nat) : StateT SortSt Sem (ForInStep LoT) := do
  let v ← elem' a ia
  if ia + 1 + 1 == a.size then pure (.done (some (lA a b (out.push v) (ia + 1) ib), out.push v, ia + 1, ib, mg, ac, bc))
  else if ac < 7 && bc < 7 then pure (.done (none, out.push v, ia + 1, ib, mg, ac, bc)) else pure (.yield (none, out.push v, ia + 1, ib, mg, ac, bc))
noncomputable def loB (a b out : Array Keyed) (ia ib mg ac bc : Nat) : StateT SortSt Sem (ForInStep LoT) := do
  let u ← elem' b ib
  if ib + 1 == b.size then pure (.done (some (dn a b (out.push u) ia (ib + 1)), out.push u, ia, ib + 1, mg, ac, bc))
  else
    let v ← elem' a ia
    let x ← gallop' true v b (ib + 1) (b.size - (ib + 1)) 0
    match x with
    | some k =>
      if k > 0 then
        if ib + 1 + k == b.size then pure (.done (some (dn a b (out.push u ++ b.extract (ib + 1) (ib + 1 + k)) ia (ib + 1 + k)), out.push u ++ b.extract (ib + 1) (ib + 1 + k), ia, ib + 1 + k, mg, ac, k))
        else loC a b (out.push u ++ b.extract (ib + 1) (ib + 1 + k)) ia (ib + 1 + k) mg ac k
      else loC a b (out.push u) ia (ib + 1) mg ac k
    | _ => pure (.done (some (dn a b (out.push u) ia (ib + 1)), out.push u, ia, ib + 1, mg, ac, bc))
theorem K_mono {a : Array Keyed} (sA : a.toList.Pairwise Le) {i j : Nat} (h : i ≤ j) (hj : j < a.size) : K a i ≤ K a j := by
  obtain ⟨x, ex, _⟩ := arr_get (a := a) (i := i) (by omega)
  obtain ⟨y, ey, _⟩ := arr_get (a := a) hj
  rw [K_get ex, K_get ey]
  refine srt_drop sA ex y ?_
  have : (a.toList.drop i)[j - i]? = some y := by rw [List.getElem?_drop, show i + (j - i) = j by omega]; exact ey
  exact List.mem_of_getElem? this
structure MC (st : SortSt) (a b : Array Keyed) : Prop where
  hk : kindOf st = oneType'
  iA : ∀ x ∈ a.toList, IsI x
  iB : ∀ x ∈ b.toList, IsI x
  sA : a.toList.Pairwise Le
  sB : b.toList.Pairwise Le
  hl : ∀ x, a.toList[a.size - 1]? = some x → ∀ y ∈ b.toList, kn y ≤ kn x
theorem MC.rB {st : SortSt} {a b out : Array Keyed} {ia ib : Nat} (c : MC st a b) (m : MI a.toList b.toList out.toList ia ib) (e : ib = b.size) : Res a.toList b.toList (dn a b out ia ib).toList := by rw [dn_list]; exact m.doneB c.sA (by simp; omega)
theorem MC.rL {st : SortSt} {a b out : Array Keyed} {ia ib : Nat} (c : MC st a b) (m : MI a.toList b.toList out.toList ia ib) (e : ia + 1 = a.size) : Res a.toList b.toList (lA a b out ia ib).toList := by
  rw [lA_list]
  exact m.lastA c.sA c.sB (by simp; omega) fun x hx => c.hl x (by rw [show a.size - 1 = ia by omega]; exact hx)
theorem wpS_loC {st st' : SortSt} {a b out : Array Keyed} {ia ib mg ac bc : Nat} {v : Keyed} {P : ForInStep LoT → SortSt → Prop} (c : MC st a b) (sg : SG st st') (m : MI a.toList b.toList out.toList ia ib) (l1 : ia + 1 < a.size) (l2 : ib < b.size)
    (ev : a.toList[ia]? = some v) (hv : ∀ y ∈ b.toList.drop ib, kn v ≤ kn y) (hr : ∀ r z, Res a.toList b.toList r.toList → P (.done (some r, z)) st')
    (hn : ∀ out' ia' ib' ac' bc', MI a.toList b.toList out'.toList ia' ib' → ia' + 1 < a.size → ib' < b.size → ia + ib ≤ ia' + ib' → P (.done (none, out', ia', ib', mg, ac', bc')) st' ∧ P (.yield (none, out', ia', ib', mg, ac', bc')) st') :
    wpS (model prog w) A E s (loC a b out ia ib mg ac bc) P st' := by
  unfold loC
  have ev' : a[ia]? = some v := by rw [← Array.getElem?_toList]; exact ev
  have m2 := m.pushA c.sA ev hv
  rw [← Array.toList_push] at m2
  refine wpS_bind (wpS_elem ev' ?_)
  by_cases d : ia + 1 + 1 = a.size
  · rw [if_pos (by simpa using d)]
    exact wpS_pure (hr _ _ (c.rL m2 d))
  · rw [if_neg (by simpa using d)]
    obtain ⟨h1, h2⟩ := hn _ _ _ ac bc m2 (by omega) l2 (by omega)
    split
    · exact wpS_pure h1
    · exact wpS_pure h2
theorem wpS_loB {st st' : SortSt} {a b out : Array Keyed} {ia ib mg ac bc : Nat} {u : Keyed} {P : ForInStep LoT → SortSt → Prop} (c : MC st a b) (sg : SG st st') (m : MI a.toList b.toList out.toList ia ib) (l1 : ia + 1 < a.size) (l2 : ib < b.size)
    (eu : b.toList[ib]? = some u) (hu : ∀ y ∈ a.toList.drop ia, kn u ≤ kn y) (hr : ∀ r z, Res a.toList b.toList r.toList → P (.done (some r, z)) st')
    (hn : ∀ out' ia' ib' ac' bc', MI a.toList b.toList out'.toList ia' ib' → ia' + 1 < a.size → ib' < b.size → ia + ib ≤ ia' + ib' → P (.done (none, out', ia', ib', mg, ac', bc')) st' ∧ P (.yield (none, out', ia', ib', mg, ac', bc')) st') :
    wpS (model prog w) A E s (loB a b out ia ib mg ac bc) P st' := by
  unfold loB
  have eu' : b[ib]? = some u := by rw [← Array.getElem?_toList]; exact eu
  have m2 := m.pushB c.sB eu hu
  rw [← Array.toList_push] at m2
  refine wpS_bind (wpS_elem eu' ?_)
  by_cases d : ib + 1 = b.size
  · rw [if_pos (by simpa using d)]
    exact wpS_pure (hr _ _ (c.rB m2 d))
  rw [if_neg (by simpa using d)]
  obtain ⟨v, ev, ev'⟩ := arr_get (a := a) (i := ia) (by omega)
  refine wpS_bind (wpS_elem ev' (wpS_bind (wpS_gallop (sg.1.trans c.hk) (c.iA _ (List.mem_of_getElem? ev)) (fun i hi => ?_) (by omega) (fun i j hij hj => K_mono c.sB (by omega) (by omega)) fun k hk b1 b2 => ?_)))
  · obtain ⟨x, ex, ex'⟩ := arr_get (a := b) (i := ib + 1 + i) (by omega)
    exact ⟨x, ex', c.iB _ (List.mem_of_getElem? ex)⟩
  · dsimp only
    have lb : b.toList.length = b.size := by simp
    have up : ∀ i x, i < k → b.toList[ib + 1 + i]? = some x → ∀ y ∈ a.toList.drop ia, kn x ≤ kn y := fun i x hi ex y hy => by
      have h1 := b1 i hi
      unfold B at h1
      rw [K_get ex] at h1
      have h2 := srt_drop c.sA ev y hy
      simp at h1
      omega
    have dwn : ∀ y ∈ b.toList.drop (ib + 1 + k), kn v ≤ kn y := fun y hy => by
      obtain ⟨i, ei⟩ := List.getElem?_of_mem hy
      rw [List.getElem?_drop] at ei
      have hlt : ib + 1 + k + i < b.size := by have := (List.getElem?_eq_some_iff.mp ei).1; omega
      have h1 := b2 (k + i) (by omega) (by omega)
      unfold B at h1
      rw [K_get (by rw [show ib + 1 + (k + i) = ib + 1 + k + i by omega]; exact ei)] at h1
      simp at h1
      exact h1
    have m3 := m2.appB c.sB k (by omega) up
    rw [← ex_list, ← Array.toList_append] at m3
    by_cases k0 : k > 0
    · rw [if_pos k0]
      by_cases d2 : ib + 1 + k = b.size
      · rw [if_pos (by simpa using d2)]
        exact wpS_pure (hr _ _ (c.rB m3 d2))
      · rw [if_neg (by simpa using d2)]
        exact wpS_loC c sg m3 l1 (by omega) ev dwn hr fun o i j x y mm q1 q2 q3 => hn o i j x y mm q1 q2 (by omega)
    · rw [if_neg k0]
      have k00 : k = 0 := by omega
      subst k00
      exact wpS_loC c sg m2 l1 (by omega) ev (by simpa using dwn) hr fun o i j x y mm q1 q2 q3 => hn o i j x y mm q1 q2 (by omega)
theorem wpS_mergeLo {st : SortSt} {a b : Array Keyed} {Q : Array Keyed → SortSt → Prop} (hk : kindOf st = oneType') (iA : ∀ x ∈ a.toList, IsI x) (iB : ∀ x ∈ b.toList, IsI x) (sA : a.toList.Pairwise Le) (sB : b.toList.Pairwise Le) (a1 : 1 ≤ a.size) (b1 : 1 ≤ b.size)
    (hf : ∀ x y, b.toList[0]? = some x → a.toList[0]? = some y → kn x ≤ kn y) (hl : ∀ x, a.toList[a.size - 1]? = some x → ∀ y ∈ b.toList, kn y ≤ kn x)
    (h : ∀ r st', SG st st' → Res a.toList b.toList r.toList → Q r st') : wpS (model prog w) A E s (mergeLo' a b) Q st := by
  have la : a.toList.length = a.size := by simp
  have lb : b.toList.length = b.size := by simp
  have rB : ∀ {out : Array Keyed} {ia ib : Nat}, MI a.toList b.toList out.toList ia ib → ib = b.size → Res a.toList b.toList (dn a b out ia ib).toList := fun m e => by rw [dn_list]; exact m.doneB sA (by omega)
  have rA : ∀ {out : Array Keyed} {ia ib : Nat}, MI a.toList b.toList out.toList ia ib → ia = a.size → Res a.toList b.toList (dn a b out ia ib).toList := fun m e => by rw [dn_list]; exact m.doneA sB (by omega)
  have rL : ∀ {out : Array Keyed} {ia ib : Nat}, MI a.toList b.toList out.toList ia ib → ia + 1 = a.size → Res a.toList b.toList (lA a b out ia ib).toList := fun {out ia ib} m e => by
    rw [lA_list]
    exact m.lastA sA sB (by omega) fun x hx => hl x (by rw [show a.size - 1 = ia by omega]; exact hx)
  have mA : ∀ {i : Nat} {x : Keyed}, a.toList[i]? = some x → IsI x := fun e => iA _ (List.mem_of_getElem? e)
  have mB : ∀ {i : Nat} {x : Keyed}, b.toList[i]? = some x → IsI x := fun e => iB _ (List.mem_of_getElem? e)
  rw [mergeLo'_eq]
  refine wpS_bind (wpS_lift (wpAny_rule ⟨rfl, ?_⟩))
  obtain ⟨x0, ex0, ex0'⟩ := arr_get (a := b) (i := 0) (by omega)
  refine wpS_bind (wpS_elem ex0' ?_)
  obtain ⟨y0, ey0, ey0'⟩ := arr_get (a := a) (i := 0) (by omega)
  have m0 : MI a.toList b.toList (#[x0] : Array Keyed).toList 0 1 := by
    have : MI a.toList b.toList [] 0 0 := ⟨by simp, by simp, by simp⟩
    have := this.pushB sB ex0 fun y hy => by
      rw [List.drop_zero] at hy
      have h1 := hf _ _ ex0 ey0
      have h2 := srt_drop sA ey0 y (by rw [List.drop_zero]; exact hy)
      omega
    simpa using this
  dsimp only
  by_cases c1 : 1 = b.size
  · rw [if_pos (by simpa using c1)]
    exact wpS_pure (h _ _ (SG.refl _) (rB m0 c1))
  rw [if_neg (by simpa using c1)]
  by_cases c2 : 0 + 1 = a.size
  · rw [if_pos (by simpa using c2)]
    exact wpS_pure (h _ _ (SG.refl _) (rL m0 c2))
  rw [if_neg (by simpa using c2)]
  refine wpS_bind (wpS_get ?_)
  refine wpS_bind (wpS_mono (wpS_forRange
    (I := fun x c st' => SG st st' ∧ ∃ out ia ib mg, c = (none, out, ia, ib, mg) ∧ MI a.toList b.toList out.toList ia ib ∧ ia + 1 < a.size ∧ ib < b.size ∧ x + 1 ≤ ia + ib)
    (Q := fun c st' => SG st st' ∧ ∃ r z, c = (some r, z) ∧ Res a.toList b.toList r.toList) ?step ?fin ⟨SG.refl _, _, 0, 1, _, rfl, m0, by omega, by omega, by omega⟩) ?post)
  case fin =>
    rintro c st' ⟨sg, out, ia, ib, mg, rfl, m, l1, l2, l3⟩
    omega
  case post =>
    rintro c st' ⟨sg, r, z, rfl, rs⟩
    exact wpS_pure (h r st' sg rs)
  case step =>
    rintro x c st1 _ hx ⟨sg1, out, ia, ib, mg, rfl, m, l1, l2, l3⟩
    dsimp only
    refine wpS_bind (wpS_mono (wpS_forRange
      (I := fun y c st' => SG st st' ∧ ∃ out' ia' ib' ac bc, c = (none, out', ia', ib', ac, bc) ∧ MI a.toList b.toList out'.toList ia' ib' ∧ ia' + 1 < a.size ∧ ib' < b.size ∧ ia + ib + y ≤ ia' + ib')
      (Q := fun c st' => SG st st' ∧ ((∃ r z, c = (some r, z) ∧ Res a.toList b.toList r.toList) ∨ ∃ out' ia' ib' ac bc, c = (none, out', ia', ib', ac, bc) ∧ MI a.toList b.toList out'.toList ia' ib' ∧ ia' + 1 < a.size ∧ ib' < b.size ∧ ia + ib + 1 ≤ ia' + ib')) ?step1 ?fin1 ⟨sg1, out, ia, ib, 0, 0, rfl, m, l1, l2, by omega⟩) ?post1)
    case fin1 =>
      rintro c st' ⟨sg, out', ia', ib', ac, bc, rfl, m', k1, k2, k3⟩
      exact ⟨sg, .inr ⟨out', ia', ib', ac, bc, rfl, m', k1, k2, by omega⟩⟩
    case step1 =>
      rintro y c st2 _ hy ⟨sg, out', ia', ib', ac, bc, rfl, m', k1, k2, k3⟩
      dsimp only
      obtain ⟨u, eu, eu'⟩ := arr_get (a := b) k2
      obtain ⟨v, ev, ev'⟩ := arr_get (a := a) (i := ia') (by omega)
      refine wpS_bind (wpS_elem eu' (wpS_bind (wpS_elem ev' (wpS_bind (wpS_lt (sg.1.trans hk) (mB eu) (mA ev) ?_)))))
      by_cases c : kn u < kn v
      · simp only [c, decide_true, if_true]
        have m2 := m'.pushB sB eu fun z hz => by have := srt_drop sA ev z hz; omega
        rw [← Array.toList_push] at m2
        refine wpS_bind (wpS_elem eu' ?_)
        by_cases d : ib' + 1 = b.size
        · rw [if_pos (by simpa using d)]
          exact wpS_pure ⟨sg, .inl ⟨_, _, rfl, rB m2 d⟩⟩
        · rw [if_neg (by simpa using d)]
          split
          · exact wpS_pure ⟨sg, .inr ⟨_, _, _, _, _, rfl, m2, k1, by omega, by omega⟩⟩
          · exact wpS_pure ⟨sg, _, _, _, _, _, rfl, m2, k1, by omega, by omega⟩
      · simp only [c, decide_false, Bool.false_eq_true, if_false]
        have m2 := m'.pushA sA ev fun z hz => by have := srt_drop sB eu z hz; omega
        rw [← Array.toList_push] at m2
        refine wpS_bind (wpS_elem ev' ?_)
        by_cases d : ia' + 1 + 1 = a.size
        · rw [if_pos (by simpa using d)]
          exact wpS_pure ⟨sg, .inl ⟨_, _, rfl, rL m2 d⟩⟩
        · rw [if_neg (by simpa using d)]
          split
          · exact wpS_pure ⟨sg, .inr ⟨_, _, _, _, _, rfl, m2, by omega, k2, by omega⟩⟩
          · exact wpS_pure ⟨sg, _, _, _, _, _, rfl, m2, by omega, k2, by omega⟩
    case post1 =>
      rintro c st2 ⟨sg2, hc⟩
      rcases hc with ⟨r, z, rfl, rs⟩ | ⟨out', ia', ib', ac, bc, rfl, m', k1, k2, k3⟩
      · exact wpS_pure ⟨sg2, _, _, rfl, rs⟩
      dsimp only
      refine wpS_bind (wpS_lift (wpAny_rule ⟨rfl, ?_⟩))
      refine wpS_bind (wpS_mono (wpS_forRange
        (I := fun y c st' => SG st st' ∧ ∃ out'' ia'' ib'' mg ac bc, c = (none, out'', ia'', ib'', mg, ac, bc) ∧ MI a.toList b.toList out''.toList ia'' ib'' ∧ ia'' + 1 < a.size ∧ ib'' < b.size ∧ ia + ib + 1 ≤ ia'' + ib'')
        (Q := fun c st' => SG st st' ∧ ((∃ r z, c = (some r, z) ∧ Res a.toList b.toList r.toList) ∨ ∃ out'' ia'' ib'' mg ac bc, c = (none, out'', ia'', ib'', mg, ac, bc) ∧ MI a.toList b.toList out''.toList ia'' ib'' ∧ ia'' + 1 < a.size ∧ ib'' < b.size ∧ ia + ib + 1 ≤ ia'' + ib'')) ?step2 ?fin2 ⟨sg2, out', ia', ib', _, ac, bc, rfl, m', k1, k2, by omega⟩) ?post2)
      case fin2 =>
        rintro c st' ⟨sg, hc⟩
        exact ⟨sg, .inr hc⟩
      case post2 =>
        rintro c st3 ⟨sg3, hc⟩
        rcases hc with ⟨r, z, rfl, rs⟩ | ⟨o3, ia3, ib3, mg3, ac3, bc3, rfl, m3, q1, q2, q3⟩
        · exact wpS_pure ⟨sg3, _, _, rfl, rs⟩
        dsimp only
        refine wpS_bind (wpS_setG sg3 fun st4 sg4 => wpS_pure ⟨sg4, o3, ia3, ib3, _, rfl, m3, q1, q2, by omega⟩)
      case step2 =>
        rintro y c st3 _ hy ⟨sg3, o3, ia3, ib3, mg3, ac3, bc3, rfl, m3, q1, q2, q3⟩
        dsimp only
        have C : MC st a b := ⟨hk, iA, iB, sA, sB, hl⟩
        obtain ⟨u, eu, eu'⟩ := arr_get (a := b) q2
        have body : ∀ g : Nat, wpS (model prog w) A E s (do
            setG' g
            let u ← elem' b ib3
            let x ← gallop' false u a ia3 (a.size - ia3) 0
            match x with
            | some k =>
              if k > 0 then
                if ia3 + k + 1 == a.size then pure (ForInStep.done (some (lA a b (o3 ++ a.extract ia3 (ia3 + k)) (ia3 + k) ib3), o3 ++ a.extract ia3 (ia3 + k), ia3 + k, ib3, g, k, bc3))
                else if ia3 + k == a.size then pure (ForInStep.done (some (dn a b (o3 ++ a.extract ia3 (ia3 + k)) (ia3 + k) ib3), o3 ++ a.extract ia3 (ia3 + k), ia3 + k, ib3, g, k, bc3))
                else loB a b (o3 ++ a.extract ia3 (ia3 + k)) (ia3 + k) ib3 g k bc3
              else loB a b o3 ia3 ib3 g k bc3
            | _ => pure (ForInStep.done (some (dn a b o3 ia3 ib3), o3, ia3, ib3, g, ac3, bc3)))
          (fun r st' => match r with
            | .done c' => SG st st' ∧ ((∃ r z, c' = (some r, z) ∧ Res a.toList b.toList r.toList) ∨ ∃ out'' ia'' ib'' mg ac bc, c' = (none, out'', ia'', ib'', mg, ac, bc) ∧ MI a.toList b.toList out''.toList ia'' ib'' ∧ ia'' + 1 < a.size ∧ ib'' < b.size ∧ ia + ib + 1 ≤ ia'' + ib'')
            | .yield c' => SG st st' ∧ ∃ out'' ia'' ib'' mg ac bc, c' = (none, out'', ia'', ib'', mg, ac, bc) ∧ MI a.toList b.toList out''.toList ia'' ib'' ∧ ia'' + 1 < a.size ∧ ib'' < b.size ∧ ia + ib + 1 ≤ ia'' + ib'') st3 := by
          intro g
          refine wpS_bind (wpS_setG sg3 fun st4 sg4 => ?_)
          refine wpS_bind (wpS_elem eu' (wpS_bind (wpS_gallop (sg4.1.trans hk) (mB eu) (fun i hi => ?_) (by omega) (fun i j hij hj => K_mono sA (by omega) (by omega)) fun k hk b1 b2 => ?_)))
          · obtain ⟨x, ex, ex'⟩ := arr_get (a := a) (i := ia3 + i) (by omega)
            exact ⟨x, ex', mA ex⟩
          · dsimp only
            have up : ∀ i x, i < k → a.toList[ia3 + i]? = some x → ∀ y ∈ b.toList.drop ib3, kn x ≤ kn y := fun i x hi ex y hy => by
              have h1 := b1 i hi
              unfold B at h1
              rw [K_get ex] at h1
              have h2 := srt_drop sB eu y hy
              simp at h1
              omega
            have dwn : ∀ y ∈ a.toList.drop (ia3 + k), kn u ≤ kn y := fun y hy => by
              obtain ⟨i, ei⟩ := List.getElem?_of_mem hy
              rw [List.getElem?_drop] at ei
              have hlt : ia3 + k + i < a.size := by have := (List.getElem?_eq_some_iff.mp ei).1; omega
              have h1 := b2 (k + i) (by omega) (by omega)
              unfold B at h1
              rw [K_get (by rw [show ia3 + (k + i) = ia3 + k + i by omega]; exact ei)] at h1
              simp at h1
              omega
            have m4 := m3.appA sA k (by omega) up
            rw [← ex_list, ← Array.toList_append] at m4
            by_cases k0 : k > 0
            · rw [if_pos k0]
              by_cases d1 : ia3 + k + 1 = a.size
              · rw [if_pos (by simpa using d1)]
                exact wpS_pure ⟨sg4, .inl ⟨_, _, rfl, rL m4 d1⟩⟩
              rw [if_neg (by simpa using d1)]
              by_cases d2 : ia3 + k = a.size
              · rw [if_pos (by simpa using d2)]
                exact wpS_pure ⟨sg4, .inl ⟨_, _, rfl, rA m4 d2⟩⟩
              rw [if_neg (by simpa using d2)]
              exact wpS_loB C sg4 m4 (by omega) q2 eu dwn (fun r z rs => ⟨sg4, .inl ⟨_, _, rfl, rs⟩⟩) fun o i j x y mm p1 p2 p3 => ⟨⟨sg4, .inr ⟨o, i, j, _, x, y, rfl, mm, p1, p2, by omega⟩⟩, ⟨sg4, o, i, j, _, x, y, rfl, mm, p1, p2, by omega⟩⟩
            · rw [if_neg k0]
              have k00 : k = 0 := by omega
              subst k00
              exact wpS_loB C sg4 m3 q1 q2 eu (by simpa using dwn) (fun r z rs => ⟨sg4, .inl ⟨_, _, rfl, rs⟩⟩) fun o i j x y mm p1 p2 p3 => ⟨⟨sg4, .inr ⟨o, i, j, _, x, y, rfl, mm, p1, p2, by omega⟩⟩, ⟨sg4, o, i, j, _, x, y, rfl, mm, p1, p2, by omega⟩⟩
        by_cases c : mg3 > 1
        · rw [if_pos c]
          exact wpS_mono (body _) fun r st' hh => by cases r <;> exact hh
        · rw [if_neg c]
          exact wpS_mono (body _) fun r st' hh => by cases r <;> exact hh
structure HI (a b o : List Keyed) (na nb : Nat) : Prop where
  perm : o.Perm (a.drop na ++ b.drop nb)
  srt : o.Pairwise Le
  le : ∀ x ∈ o, ∀ y, (y ∈ a.take na ∨ y ∈ b.take nb) → kn y ≤ kn x
theorem srt_take {l : List Keyed} {i : Nat} {x : Keyed} (h : l.Pairwise Le) (e : l[i]? = some x) : ∀ y ∈ l.take (i + 1), kn y ≤ kn x := by
  intro y hy
  have := List.Pairwise.take (i := i + 1) h
  rw [take_one e] at this hy
  rcases List.mem_append.mp hy with hy | hy
  · exact (List.pairwise_append.mp this).2.2 y hy x (by simp)
  · rw [List.mem_singleton.mp hy]; exact Int.le_refl _
theorem HI.pushA {a b o : List Keyed} {na nb : Nat} {x : Keyed} (m : HI a b o (na + 1) nb) (ha : a.Pairwise Le) (e : a[na]? = some x) (h : ∀ y ∈ b.take nb, kn y ≤ kn x) : HI a b (x :: o) na nb := by
  have xa : x ∈ a.take (na + 1) := by rw [take_one e]; simp
  have sub : ∀ y ∈ a.take na, y ∈ a.take (na + 1) := fun y hy => by rw [take_one e]; exact List.mem_append_left _ hy
  refine ⟨?_, ?_, ?_⟩
  · rw [drop_one e]
    exact m.perm.cons x
  · exact List.pairwise_cons.mpr ⟨fun u hu => m.le u hu x (.inl xa), m.srt⟩
  · intro u hu y hy
    rcases List.mem_cons.mp hu with rfl | hu
    · rcases hy with hy | hy
      · exact srt_take ha e y (sub y hy)
      · exact h y hy
    · rcases hy with hy | hy
      · exact m.le u hu y (.inl (sub y hy))
      · exact m.le u hu y (.inr hy)
theorem HI.pushB {a b o : List Keyed} {na nb : Nat} {x : Keyed} (m : HI a b o na (nb + 1)) (hb : b.Pairwise Le) (e : b[nb]? = some x) (h : ∀ y ∈ a.take na, kn y ≤ kn x) : HI a b (x :: o) na nb := by
  have xb : x ∈ b.take (nb + 1) := by rw [take_one e]; simp
  have sub : ∀ y ∈ b.take nb, y ∈ b.take (nb + 1) := fun y hy => by rw [take_one e]; exact List.mem_append_left _ hy
  refine ⟨?_, ?_, ?_⟩
  · rw [drop_one e]
    exact (m.perm.cons x).trans List.perm_middle.symm
  · exact List.pairwise_cons.mpr ⟨fun u hu => m.le u hu x (.inr xb), m.srt⟩
  · intro u hu y hy
    rcases List.mem_cons.mp hu with rfl | hu
    · rcases hy with hy | hy
      · exact h y hy
      · exact srt_take hb e y (sub y hy)
    · rcases hy with hy | hy
      · exact m.le u hu y (.inl hy)
      · exact m.le u hu y (.inr (sub y hy))
theorem HI.appA {a b o : List Keyed} {na nb : Nat} (m : HI a b o na nb) (ha : a.Pairwise Le) (hn : na ≤ a.length) : ∀ k, k ≤ na → (∀ i x, na - k ≤ i → i < na → a[i]? = some x → ∀ y ∈ b.take nb, kn y ≤ kn x) → HI a b ((a.drop (na - k)).take k ++ o) (na - k) nb
  | 0, _, _ => by simpa using m
  | k + 1, hk, h => by
    have e : a[na - (k + 1)]? = some (a[na - (k + 1)]'(by omega)) := List.getElem?_eq_getElem (by omega)
    have m0 := m.appA ha hn k (by omega) fun i x h1 h2 => h i x (by omega) h2
    rw [show na - k = na - (k + 1) + 1 by omega] at m0
    have m1 := m0.pushA ha e (h _ _ (Nat.le_refl _) (by omega) e)
    rw [drop_one e, List.take_succ_cons]
    exact m1
theorem HI.appB {a b o : List Keyed} {na nb : Nat} (m : HI a b o na nb) (hb : b.Pairwise Le) (hn : nb ≤ b.length) : ∀ k, k ≤ nb → (∀ i x, nb - k ≤ i → i < nb → b[i]? = some x → ∀ y ∈ a.take na, kn y ≤ kn x) → HI a b ((b.drop (nb - k)).take k ++ o) na (nb - k)
  | 0, _, _ => by simpa using m
  | k + 1, hk, h => by
    have e : b[nb - (k + 1)]? = some (b[nb - (k + 1)]'(by omega)) := List.getElem?_eq_getElem (by omega)
    have m0 := m.appB hb hn k (by omega) fun i x h1 h2 => h i x (by omega) h2
    rw [show nb - k = nb - (k + 1) + 1 by omega] at m0
    have m1 := m0.pushB hb e (h _ _ (Nat.le_refl _) (by omega) e)
    rw [drop_one e, List.take_succ_cons]
    exact m1
theorem HI.doneA {a b o : List Keyed} {nb : Nat} (m : HI a b o 0 nb) (hb : b.Pairwise Le) : Res a b (a.take 0 ++ b.take nb ++ o) := by
  rw [List.take_zero, List.nil_append]
  refine ⟨?_, ?_⟩
  · have := m.perm.append_left (b.take nb)
    rw [List.drop_zero, ← List.append_assoc] at this
    refine this.trans ((List.perm_append_comm (l₁ := b.take nb) (l₂ := a)).append_right (b.drop nb) |>.trans ?_)
    rw [List.append_assoc, List.take_append_drop]
  · rw [List.pairwise_append]
    exact ⟨hb.take, m.srt, fun u hu v hv => m.le v hv u (.inr hu)⟩
theorem HI.doneB {a b o : List Keyed} {na : Nat} (m : HI a b o na 0) (ha : a.Pairwise Le) : Res a b (a.take na ++ b.take 0 ++ o) := by
  rw [List.take_zero, List.append_nil]
  refine ⟨?_, ?_⟩
  · have := m.perm.append_left (a.take na)
    rw [List.drop_zero, ← List.append_assoc, List.take_append_drop] at this
    exact this
  · rw [List.pairwise_append]
    exact ⟨ha.take, m.srt, fun u hu v hv => m.le v hv u (.inl hu)⟩
theorem HI.firstB {a b o : List Keyed} {na : Nat} (m : HI a b o na 1) (ha : a.Pairwise Le) (hb : b.Pairwise Le) (hf : ∀ x, b[0]? = some x → ∀ y ∈ a, kn x ≤ kn y) : Res a b (b.take 1 ++ a.take na ++ o) := by
  refine ⟨?_, ?_⟩
  · have h1 := m.perm.append_left (b.take 1 ++ a.take na)
    refine h1.trans ?_
    have h2 := ((List.perm_append_comm (l₁ := b.take 1) (l₂ := a.take na)).append_right (a.drop na ++ b.drop 1))
    refine h2.trans ?_
    rw [List.append_assoc]
    refine (List.Perm.append_left (a.take na) (List.perm_append_comm_assoc (b.take 1) (a.drop na) (b.drop 1))).trans ?_
    rw [List.take_append_drop, ← List.append_assoc, List.take_append_drop]
  · rw [List.pairwise_append, List.pairwise_append]
    refine ⟨⟨hb.take, ha.take, fun u hu v hv => ?_⟩, m.srt, fun u hu v hv => ?_⟩
    · cases b with
      | nil => simp at hu
      | cons b0 br =>
        rw [List.take_succ_cons, List.take_zero, List.mem_singleton] at hu
        rw [hu]
        exact hf b0 rfl v (List.mem_of_mem_take hv)
    · rcases List.mem_append.mp hu with hu | hu
      · exact m.le v hv u (.inr hu)
      · exact m.le v hv u (.inl hu)
noncomputable def mergeHi' : Array Keyed → Array Keyed → StateT SortSt Sem (Array Keyed) := sortPriv% PySem.Builtin.mergeHi
noncomputable def dh (a b out : Array Keyed) (na nb : Nat) : Array Keyed := a.extract 0 na ++ b.extract 0 nb ++ out.reverse
noncomputable def fB (a b out : Array Keyed) (na nb : Nat) : Array Keyed := b.extract 0 nb ++ a.extract 0 na ++ out.reverse
theorem dh_list (a b out : Array Keyed) (na nb : Nat) : (dh a b out na nb).toList = a.toList.take na ++ b.toList.take nb ++ out.toList.reverse := by
  unfold dh
  simp [Array.toList_extract]
theorem fB_list (a b out : Array Keyed) (na nb : Nat) : (fB a b out na nb).toList = b.toList.take nb ++ a.toList.take na ++ out.toList.reverse := by
  unfold fB
  simp [Array.toList_extract]
theorem exr_list (a out : Array Keyed) (i n : Nat) : (out ++ (a.extract i n).reverse).toList.reverse = (a.toList.drop i).take (n - i) ++ out.toList.reverse := by
  simp [Array.toList_extract]
theorem mergeHi'_eq (a b : Array Keyed) : mergeHi' a b = (do
  rule "list.sort.merge-hi"
  let mut na := a.size - 1
  let mut nb := b.size
  let mut out : Array Keyed := #[← elem' a na]
  if na == 0 then return dh a b out na nb
  if nb == 1 then return fB a b out na nb
  let mut minGallop := gallopOf (← get)
  for _ in [0:a.size + b.size] do
    let mut acount := 0
    let mut bcount := 0
    for _ in [0:a.size + b.size] do
      let some aWins ← lt' (← elem' b (nb - 1)) (← elem' a (na - 1)) | return dh a b out na nb
      if aWins then
        na := na - 1; out := out.push (← elem' a na); acount := acount + 1; bcount := 0
        if na == 0 then return dh a b out na nb
        if acount ≥ minGallop then break
      else
        nb := nb - 1; out := out.push (← elem' b nb); bcount := bcount + 1; acount := 0
        if nb == 1 then return fB a b out na nb
        if bcount ≥ minGallop then break
    rule "list.sort.gallop"
    minGallop := minGallop + 1
    for _ in [0:a.size + b.size] do
      if minGallop > 1 then minGallop := minGallop - 1
      setG' minGallop
      let some at_ ← gallop' false (← elem' b (nb - 1)) a 0 na (na - 1) | return dh a b out na nb
      let k := na - at_
      acount := k
      if k > 0 then
        out := out ++ (a.extract at_ na).reverse; na := at_
        if na == 0 then return dh a b out na nb
      nb := nb - 1; out := out.push (← elem' b nb)
      if nb == 1 then return fB a b out na nb
      let some at_ ← gallop' true (← elem' a (na - 1)) b 0 nb (nb - 1) | return dh a b out na nb
      let k := nb - at_
      bcount := k
      if k > 0 then
        out := out ++ (b.extract at_ nb).reverse; nb := at_
        if nb == 1 then return fB a b out na nb
        if nb == 0 then return dh a b out na nb
      na := na - 1; out := out.push (← elem' a na)
      if na == 0 then return dh a b out na nb
      if acount < 7 && bcount < 7 then break
    minGallop := minGallop + 1
    setG' minGallop
  unsupported "internal:list.sort.merge-bound") := rfl
theorem push_rev (out : Array Keyed) (x : Keyed) : (out.push x).toList.reverse = x :: out.toList.reverse := by simp
abbrev HiT := Option (Array Keyed) × Nat × Nat × Array Keyed × Nat × Nat × Nat
noncomputable def hiC (a b : Array Keyed) (na nb : Nat) (out : Array Keyed) (mg ac bc : Nat) : StateT SortSt Sem (ForInStep HiT) := do
  let v ← elem' a (na - 1)
  if na - 1 == 0 then pure (.done (some (dh a b (out.push v) (na - 1) nb), na - 1, nb, out.push v, mg, ac, bc))
  else if ac < 7 && bc < 7 then pure (.done (none, na - 1, nb, out.push v, mg, ac, bc)) else pure (.yield (none, na - 1, nb, out.push v, mg, ac, bc))
noncomputable def hiB (a b : Array Keyed) (na nb : Nat) (out : Array Keyed) (mg ac bc : Nat) : StateT SortSt Sem (ForInStep HiT) := do
  let u ← elem' b (nb - 1)
  if nb - 1 == 1 then pure (.done (some (fB a b (out.push u) na (nb - 1)), na, nb - 1, out.push u, mg, ac, bc))
  else
    let v ← elem' a (na - 1)
    let x ← gallop' true v b 0 (nb - 1) (nb - 1 - 1)
    match x with
    | some at_ =>
      if nb - 1 - at_ > 0 then
        if at_ == 1 then pure (.done (some (fB a b (out.push u ++ (b.extract at_ (nb - 1)).reverse) na at_), na, at_, out.push u ++ (b.extract at_ (nb - 1)).reverse, mg, ac, nb - 1 - at_))
        else if at_ == 0 then pure (.done (some (dh a b (out.push u ++ (b.extract at_ (nb - 1)).reverse) na at_), na, at_, out.push u ++ (b.extract at_ (nb - 1)).reverse, mg, ac, nb - 1 - at_))
        else hiC a b na at_ (out.push u ++ (b.extract at_ (nb - 1)).reverse) mg ac (nb - 1 - at_)
      else hiC a b na (nb - 1) (out.push u) mg ac (nb - 1 - at_)
    | _ => pure (.done (some (dh a b (out.push u) na (nb - 1)), na, nb - 1, out.push u, mg, ac, bc))
structure HC (st : SortSt) (a b : Array Keyed) : Prop where
  hk : kindOf st = oneType'
  iA : ∀ x ∈ a.toList, IsI x
  iB : ∀ x ∈ b.toList, IsI x
  sA : a.toList.Pairwise Le
  sB : b.toList.Pairwise Le
  hf : ∀ x, b.toList[0]? = some x → ∀ y ∈ a.toList, kn x ≤ kn y
theorem HC.rA {st : SortSt} {a b out : Array Keyed} {na nb : Nat} (c : HC st a b) (m : HI a.toList b.toList out.toList.reverse na nb) (e : na = 0) : Res a.toList b.toList (dh a b out na nb).toList := by subst e; rw [dh_list]; exact m.doneA c.sB
theorem HC.rB {st : SortSt} {a b out : Array Keyed} {na nb : Nat} (c : HC st a b) (m : HI a.toList b.toList out.toList.reverse na nb) (e : nb = 0) : Res a.toList b.toList (dh a b out na nb).toList := by subst e; rw [dh_list]; exact m.doneB c.sA
theorem HC.rF {st : SortSt} {a b out : Array Keyed} {na nb : Nat} (c : HC st a b) (m : HI a.toList b.toList out.toList.reverse na nb) (e : nb = 1) : Res a.toList b.toList (fB a b out na nb).toList := by subst e; rw [fB_list]; exact m.firstB c.sA c.sB c.hf
theorem wpS_hiC {st st' : SortSt} {a b out : Array Keyed} {na nb mg ac bc : Nat} {v : Keyed} {P : ForInStep HiT → SortSt → Prop} (c : HC st a b) (sg : SG st st') (m : HI a.toList b.toList out.toList.reverse na nb) (l1 : 1 ≤ na) (l2 : 2 ≤ nb)
    (ev : a.toList[na - 1]? = some v) (hv : ∀ y ∈ b.toList.take nb, kn y ≤ kn v) (hr : ∀ r z, Res a.toList b.toList r.toList → P (.done (some r, z)) st')
    (hn : ∀ na' nb' out' ac' bc', HI a.toList b.toList out'.toList.reverse na' nb' → 1 ≤ na' → 2 ≤ nb' → na' ≤ na → nb' ≤ nb → P (.done (none, na', nb', out', mg, ac', bc')) st' ∧ P (.yield (none, na', nb', out', mg, ac', bc')) st') :
    wpS (model prog w) A E s (hiC a b na nb out mg ac bc) P st' := by
  unfold hiC
  have ev' : a[na - 1]? = some v := by rw [← Array.getElem?_toList]; exact ev
  rw [show na = na - 1 + 1 by omega] at m
  have m2 := m.pushA c.sA ev hv
  rw [← push_rev] at m2
  refine wpS_bind (wpS_elem ev' ?_)
  by_cases d : na - 1 = 0
  · rw [if_pos (by simpa using d)]
    exact wpS_pure (hr _ _ (c.rA m2 d))
  · rw [if_neg (by simpa using d)]
    obtain ⟨h1, h2⟩ := hn _ _ _ ac bc m2 (by omega) l2 (by omega) (Nat.le_refl _)
    split
    · exact wpS_pure h1
    · exact wpS_pure h2
theorem wpS_hiB {st st' : SortSt} {a b out : Array Keyed} {na nb mg ac bc : Nat} {u : Keyed} {P : ForInStep HiT → SortSt → Prop} (c : HC st a b) (sg : SG st st') (m : HI a.toList b.toList out.toList.reverse na nb) (l1 : 1 ≤ na) (na1 : na ≤ a.size) (l2 : 2 ≤ nb) (nb1 : nb ≤ b.size)
    (eu : b.toList[nb - 1]? = some u) (hu : ∀ y ∈ a.toList.take na, kn y ≤ kn u) (hr : ∀ r z, Res a.toList b.toList r.toList → P (.done (some r, z)) st')
    (hn : ∀ na' nb' out' ac' bc', HI a.toList b.toList out'.toList.reverse na' nb' → 1 ≤ na' → 2 ≤ nb' → na' ≤ na → nb' ≤ nb → P (.done (none, na', nb', out', mg, ac', bc')) st' ∧ P (.yield (none, na', nb', out', mg, ac', bc')) st') :
    wpS (model prog w) A E s (hiB a b na nb out mg ac bc) P st' := by
  unfold hiB
  have la : a.toList.length = a.size := by simp
  have lb : b.toList.length = b.size := by simp
  have eu' : b[nb - 1]? = some u := by rw [← Array.getElem?_toList]; exact eu
  rw [show nb = nb - 1 + 1 by omega] at m
  have m2 := m.pushB c.sB eu hu
  rw [← push_rev] at m2
  refine wpS_bind (wpS_elem eu' ?_)
  by_cases d : nb - 1 = 1
  · rw [if_pos (by simpa using d)]
    exact wpS_pure (hr _ _ (c.rF m2 d))
  rw [if_neg (by simpa using d)]
  obtain ⟨v, ev, ev'⟩ := arr_get (a := a) (i := na - 1) (by omega)
  refine wpS_bind (wpS_elem ev' (wpS_bind (wpS_gallop (sg.1.trans c.hk) (c.iA _ (List.mem_of_getElem? ev)) (fun i hi => ?_) (by omega) (fun i j hij hj => K_mono c.sB (by omega) (by omega)) fun k hk b1 b2 => ?_)))
  · obtain ⟨x, ex, ex'⟩ := arr_get (a := b) (i := 0 + i) (by omega)
    exact ⟨x, ex', c.iB _ (List.mem_of_getElem? ex)⟩
  · dsimp only
    have up : ∀ i x, k ≤ i → i < nb - 1 → b.toList[i]? = some x → ∀ y ∈ a.toList.take na, kn y ≤ kn x := fun i x h1 h2 ex y hy => by
      have q := b2 i h1 h2
      unfold B at q
      rw [Nat.zero_add, K_get ex] at q
      have q2 := srt_take c.sA ev y (by rw [show na - 1 + 1 = na by omega]; exact hy)
      simp at q
      omega
    have dwn : ∀ y ∈ b.toList.take k, kn y ≤ kn v := fun y hy => by
      obtain ⟨i, ei⟩ := List.getElem?_of_mem hy
      have hik : i < k := by have := (List.getElem?_eq_some_iff.mp ei).1; rw [List.length_take] at this; omega
      rw [List.getElem?_take, if_pos hik] at ei
      have q := b1 i hik
      unfold B at q
      rw [Nat.zero_add, K_get ei] at q
      simp at q
      omega
    by_cases k0 : nb - 1 - k > 0
    · rw [if_pos k0]
      have m3 := m2.appB c.sB (by omega) (nb - 1 - k) (by omega) fun i x h1 h2 => up i x (by omega) h2
      rw [show nb - 1 - (nb - 1 - k) = k by omega, ← exr_list] at m3
      by_cases d1 : k = 1
      · rw [if_pos (by simpa using d1)]
        exact wpS_pure (hr _ _ (c.rF m3 d1))
      rw [if_neg (by simpa using d1)]
      by_cases d2 : k = 0
      · rw [if_pos (by simpa using d2)]
        exact wpS_pure (hr _ _ (c.rB m3 d2))
      rw [if_neg (by simpa using d2)]
      exact wpS_hiC c sg m3 l1 (by omega) ev dwn hr fun x y o p q mm q1 q2 q3 q4 => hn x y o p q mm q1 q2 q3 (by omega)
    · rw [if_neg k0]
      have kk : k = nb - 1 := by omega
      rw [kk] at dwn
      exact wpS_hiC c sg m2 l1 (by omega) ev dwn hr fun x y o p q mm q1 q2 q3 q4 => hn x y o p q mm q1 q2 q3 (by omega)
theorem wpS_mergeHi {st : SortSt} {a b : Array Keyed} {Q : Array Keyed → SortSt → Prop} (hk : kindOf st = oneType') (iA : ∀ x ∈ a.toList, IsI x) (iB : ∀ x ∈ b.toList, IsI x) (sA : a.toList.Pairwise Le) (sB : b.toList.Pairwise Le) (a1 : 1 ≤ a.size) (b1 : 1 ≤ b.size)
    (hf : ∀ x, b.toList[0]? = some x → ∀ y ∈ a.toList, kn x ≤ kn y) (hl : ∀ x, a.toList[a.size - 1]? = some x → ∀ y ∈ b.toList, kn y ≤ kn x)
    (h : ∀ r st', SG st st' → Res a.toList b.toList r.toList → Q r st') : wpS (model prog w) A E s (mergeHi' a b) Q st := by
  have la : a.toList.length = a.size := by simp
  have lb : b.toList.length = b.size := by simp
  have C : HC st a b := ⟨hk, iA, iB, sA, sB, hf⟩
  have mA : ∀ {i : Nat} {x : Keyed}, a.toList[i]? = some x → IsI x := fun e => iA _ (List.mem_of_getElem? e)
  have mB : ∀ {i : Nat} {x : Keyed}, b.toList[i]? = some x → IsI x := fun e => iB _ (List.mem_of_getElem? e)
  rw [mergeHi'_eq]
  refine wpS_bind (wpS_lift (wpAny_rule ⟨rfl, ?_⟩))
  obtain ⟨x0, ex0, ex0'⟩ := arr_get (a := a) (i := a.size - 1) (by omega)
  refine wpS_bind (wpS_elem ex0' ?_)
  have m0 : HI a.toList b.toList (#[x0] : Array Keyed).toList.reverse (a.size - 1) b.size := by
    have : HI a.toList b.toList [] (a.size - 1 + 1) b.size := ⟨by rw [List.drop_of_length_le (by omega), List.drop_of_length_le (by omega)]; simp, by simp, by simp⟩
    have := this.pushA sA ex0 fun y hy => hl x0 ex0 y (List.mem_of_mem_take hy)
    simpa using this
  dsimp only
  by_cases c1 : a.size - 1 = 0
  · rw [if_pos (by simpa using c1)]
    exact wpS_pure (h _ _ (SG.refl _) (C.rA m0 c1))
  rw [if_neg (by simpa using c1)]
  by_cases c2 : b.size = 1
  · rw [if_pos (by simpa using c2)]
    exact wpS_pure (h _ _ (SG.refl _) (C.rF m0 c2))
  rw [if_neg (by simpa using c2)]
  refine wpS_bind (wpS_get ?_)
  refine wpS_bind (wpS_mono (wpS_forRange
    (I := fun x c st' => SG st st' ∧ ∃ na nb out mg, c = (none, na, nb, out, mg) ∧ HI a.toList b.toList out.toList.reverse na nb ∧ 1 ≤ na ∧ na ≤ a.size ∧ 2 ≤ nb ∧ nb ≤ b.size ∧ x + na + nb + 1 ≤ a.size + b.size)
    (Q := fun c st' => SG st st' ∧ ∃ r z, c = (some r, z) ∧ Res a.toList b.toList r.toList) ?step ?fin ⟨SG.refl _, _, _, _, _, rfl, m0, by omega, by omega, by omega, by omega, by omega⟩) ?post)
  case fin =>
    rintro c st' ⟨sg, na, nb, out, mg, rfl, m, l1, l2, l3, l4, l5⟩
    omega
  case post =>
    rintro c st' ⟨sg, r, z, rfl, rs⟩
    exact wpS_pure (h r st' sg rs)
  case step =>
    rintro x c st1 _ hx ⟨sg1, na, nb, out, mg, rfl, m, l1, l2, l3, l4, l5⟩
    dsimp only
    refine wpS_bind (wpS_mono (wpS_forRange
      (I := fun y c st' => SG st st' ∧ ∃ na' nb' out' ac bc, c = (none, na', nb', out', ac, bc) ∧ HI a.toList b.toList out'.toList.reverse na' nb' ∧ 1 ≤ na' ∧ na' ≤ a.size ∧ 2 ≤ nb' ∧ nb' ≤ b.size ∧ na' + nb' + y ≤ na + nb)
      (Q := fun c st' => SG st st' ∧ ((∃ r z, c = (some r, z) ∧ Res a.toList b.toList r.toList) ∨ ∃ na' nb' out' ac bc, c = (none, na', nb', out', ac, bc) ∧ HI a.toList b.toList out'.toList.reverse na' nb' ∧ 1 ≤ na' ∧ na' ≤ a.size ∧ 2 ≤ nb' ∧ nb' ≤ b.size ∧ na' + nb' + 1 ≤ na + nb)) ?step1 ?fin1 ⟨sg1, na, nb, out, 0, 0, rfl, m, l1, l2, l3, l4, by omega⟩) ?post1)
    case fin1 =>
      rintro c st' ⟨sg, na', nb', out', ac, bc, rfl, m', k1, k2, k3, k4, k5⟩
      exact ⟨sg, .inr ⟨na', nb', out', ac, bc, rfl, m', k1, k2, k3, k4, by omega⟩⟩
    case step1 =>
      rintro y c st2 _ hy ⟨sg, na', nb', out', ac, bc, rfl, m', k1, k2, k3, k4, k5⟩
      dsimp only
      obtain ⟨u, eu, eu'⟩ := arr_get (a := b) (i := nb' - 1) (by omega)
      obtain ⟨v, ev, ev'⟩ := arr_get (a := a) (i := na' - 1) (by omega)
      refine wpS_bind (wpS_elem eu' (wpS_bind (wpS_elem ev' (wpS_bind (wpS_lt (sg.1.trans hk) (mB eu) (mA ev) ?_)))))
      by_cases c : kn u < kn v
      · simp only [c, decide_true, if_true]
        rw [show na' = na' - 1 + 1 by omega] at m'
        have m2 := m'.pushA sA ev fun z hz => by have := srt_take sB eu z (by rw [show nb' - 1 + 1 = nb' by omega]; exact hz); omega
        rw [← push_rev] at m2
        refine wpS_bind (wpS_elem ev' ?_)
        by_cases d : na' - 1 = 0
        · rw [if_pos (by simpa using d)]
          exact wpS_pure ⟨sg, .inl ⟨_, _, rfl, C.rA m2 d⟩⟩
        · rw [if_neg (by simpa using d)]
          split
          · exact wpS_pure ⟨sg, .inr ⟨_, _, _, _, _, rfl, m2, by omega, by omega, k3, k4, by omega⟩⟩
          · exact wpS_pure ⟨sg, _, _, _, _, _, rfl, m2, by omega, by omega, k3, k4, by omega⟩
      · simp only [c, decide_false, Bool.false_eq_true, if_false]
        rw [show nb' = nb' - 1 + 1 by omega] at m'
        have m2 := m'.pushB sB eu fun z hz => by have := srt_take sA ev z (by rw [show na' - 1 + 1 = na' by omega]; exact hz); omega
        rw [← push_rev] at m2
        refine wpS_bind (wpS_elem eu' ?_)
        by_cases d : nb' - 1 = 1
        · rw [if_pos (by simpa using d)]
          exact wpS_pure ⟨sg, .inl ⟨_, _, rfl, C.rF m2 d⟩⟩
        · rw [if_neg (by simpa using d)]
          split
          · exact wpS_pure ⟨sg, .inr ⟨_, _, _, _, _, rfl, m2, k1, k2, by omega, by omega, by omega⟩⟩
          · exact wpS_pure ⟨sg, _, _, _, _, _, rfl, m2, k1, k2, by omega, by omega, by omega⟩
    case post1 =>
      rintro c st2 ⟨sg2, hc⟩
      rcases hc with ⟨r, z, rfl, rs⟩ | ⟨na', nb', out', ac, bc, rfl, m', k1, k2, k3, k4, k5⟩
      · exact wpS_pure ⟨sg2, _, _, rfl, rs⟩
      dsimp only
      refine wpS_bind (wpS_lift (wpAny_rule ⟨rfl, ?_⟩))
      refine wpS_bind (wpS_mono (wpS_forRange
        (I := fun y c st' => SG st st' ∧ ∃ na'' nb'' out'' mg ac bc, c = (none, na'', nb'', out'', mg, ac, bc) ∧ HI a.toList b.toList out''.toList.reverse na'' nb'' ∧ 1 ≤ na'' ∧ na'' ≤ na' ∧ 2 ≤ nb'' ∧ nb'' ≤ nb')
        (Q := fun c st' => SG st st' ∧ ((∃ r z, c = (some r, z) ∧ Res a.toList b.toList r.toList) ∨ ∃ na'' nb'' out'' mg ac bc, c = (none, na'', nb'', out'', mg, ac, bc) ∧ HI a.toList b.toList out''.toList.reverse na'' nb'' ∧ 1 ≤ na'' ∧ na'' ≤ na' ∧ 2 ≤ nb'' ∧ nb'' ≤ nb')) ?step2 ?fin2 ⟨sg2, na', nb', out', _, ac, bc, rfl, m', k1, Nat.le_refl _, k3, Nat.le_refl _⟩) ?post2)
      case fin2 =>
        rintro c st' ⟨sg, hc⟩
        exact ⟨sg, .inr hc⟩
      case post2 =>
        rintro c st3 ⟨sg3, hc⟩
        rcases hc with ⟨r, z, rfl, rs⟩ | ⟨na3, nb3, o3, mg3, ac3, bc3, rfl, m3, q1, q2, q3, q4⟩
        · exact wpS_pure ⟨sg3, _, _, rfl, rs⟩
        dsimp only
        refine wpS_bind (wpS_setG sg3 fun st4 sg4 => wpS_pure ⟨sg4, na3, nb3, o3, _, rfl, m3, q1, by omega, q3, by omega, by omega⟩)
      case step2 =>
        rintro y c st3 _ hy ⟨sg3, na3, nb3, o3, mg3, ac3, bc3, rfl, m3, q1, q2, q3, q4⟩
        dsimp only
        obtain ⟨u, eu, eu'⟩ := arr_get (a := b) (i := nb3 - 1) (by omega)
        have body : ∀ g : Nat, wpS (model prog w) A E s (do
            setG' g
            let u ← elem' b (nb3 - 1)
            let x ← gallop' false u a 0 na3 (na3 - 1)
            match x with
            | some at_ =>
              if na3 - at_ > 0 then
                if at_ == 0 then pure (ForInStep.done (some (dh a b (o3 ++ (a.extract at_ na3).reverse) at_ nb3), at_, nb3, o3 ++ (a.extract at_ na3).reverse, g, na3 - at_, bc3))
                else hiB a b at_ nb3 (o3 ++ (a.extract at_ na3).reverse) g (na3 - at_) bc3
              else hiB a b na3 nb3 o3 g (na3 - at_) bc3
            | _ => pure (ForInStep.done (some (dh a b o3 na3 nb3), na3, nb3, o3, g, ac3, bc3)))
          (fun r st' => match r with
            | .done c' => SG st st' ∧ ((∃ r z, c' = (some r, z) ∧ Res a.toList b.toList r.toList) ∨ ∃ na'' nb'' out'' mg ac bc, c' = (none, na'', nb'', out'', mg, ac, bc) ∧ HI a.toList b.toList out''.toList.reverse na'' nb'' ∧ 1 ≤ na'' ∧ na'' ≤ na' ∧ 2 ≤ nb'' ∧ nb'' ≤ nb')
            | .yield c' => SG st st' ∧ ∃ na'' nb'' out'' mg ac bc, c' = (none, na'', nb'', out'', mg, ac, bc) ∧ HI a.toList b.toList out''.toList.reverse na'' nb'' ∧ 1 ≤ na'' ∧ na'' ≤ na' ∧ 2 ≤ nb'' ∧ nb'' ≤ nb') st3 := by
          intro g
          refine wpS_bind (wpS_setG sg3 fun st4 sg4 => ?_)
          refine wpS_bind (wpS_elem eu' (wpS_bind (wpS_gallop (sg4.1.trans hk) (mB eu) (fun i hi => ?_) (by omega) (fun i j hij hj => K_mono sA (by omega) (by omega)) fun k hk b1 b2 => ?_)))
          · obtain ⟨x, ex, ex'⟩ := arr_get (a := a) (i := 0 + i) (by omega)
            exact ⟨x, ex', mA ex⟩
          · dsimp only
            have up : ∀ i x, k ≤ i → i < na3 → a.toList[i]? = some x → ∀ y ∈ b.toList.take nb3, kn y ≤ kn x := fun i x h1 h2 ex y hy => by
              have q := b2 i h1 h2
              unfold B at q
              rw [Nat.zero_add, K_get ex] at q
              have q2 := srt_take sB eu y (by rw [show nb3 - 1 + 1 = nb3 by omega]; exact hy)
              simp at q
              omega
            have dwn : ∀ y ∈ a.toList.take k, kn y ≤ kn u := fun y hy => by
              obtain ⟨i, ei⟩ := List.getElem?_of_mem hy
              have hik : i < k := by have := (List.getElem?_eq_some_iff.mp ei).1; rw [List.length_take] at this; omega
              rw [List.getElem?_take, if_pos hik] at ei
              have q := b1 i hik
              unfold B at q
              rw [Nat.zero_add, K_get ei] at q
              simp at q
              omega
            by_cases k0 : na3 - k > 0
            · rw [if_pos k0]
              have m4 := m3.appA sA (by omega) (na3 - k) (by omega) fun i x h1 h2 => up i x (by omega) h2
              rw [show na3 - (na3 - k) = k by omega, ← exr_list] at m4
              by_cases d1 : k = 0
              · rw [if_pos (by simpa using d1)]
                exact wpS_pure ⟨sg4, .inl ⟨_, _, rfl, C.rA m4 d1⟩⟩
              rw [if_neg (by simpa using d1)]
              exact wpS_hiB C sg4 m4 (by omega) (by omega) q3 (by omega) eu dwn (fun r z rs => ⟨sg4, .inl ⟨_, _, rfl, rs⟩⟩) fun i j o x y mm p1 p2 p3 p4 => ⟨⟨sg4, .inr ⟨i, j, o, _, x, y, rfl, mm, p1, by omega, p2, by omega⟩⟩, ⟨sg4, i, j, o, _, x, y, rfl, mm, p1, by omega, p2, by omega⟩⟩
            · rw [if_neg k0]
              have kk : k = na3 := by omega
              rw [kk] at dwn
              exact wpS_hiB C sg4 m3 q1 (by omega) q3 (by omega) eu dwn (fun r z rs => ⟨sg4, .inl ⟨_, _, rfl, rs⟩⟩) fun i j o x y mm p1 p2 p3 p4 => ⟨⟨sg4, .inr ⟨i, j, o, _, x, y, rfl, mm, p1, by omega, p2, by omega⟩⟩, ⟨sg4, i, j, o, _, x, y, rfl, mm, p1, by omega, p2, by omega⟩⟩
        by_cases c : mg3 > 1
        · rw [if_pos c]
          exact wpS_mono (body _) fun r st' hh => by cases r <;> exact hh
        · rw [if_neg c]
          exact wpS_mono (body _) fun r st' hh => by cases r <;> exact hh
noncomputable def wr (sa : Nat) (arr : Array Keyed) (l : List (Keyed × Nat)) : Array Keyed := l.foldl (fun a p => a.setIfInBounds (sa + p.2) p.1) arr
theorem wr_get (sa : Nat) : ∀ (l : List Keyed) (s : Nat) (arr : Array Keyed) (t : Nat), sa + s + l.length ≤ arr.size → (wr sa arr (l.zipIdx s))[t]? = if sa + s ≤ t ∧ t < sa + s + l.length then l[t - (sa + s)]? else arr[t]?
  | [], s, arr, t, _ => by
    rw [if_neg (by simp)]
    rfl
  | x :: l, s, arr, t, h => by
    rw [List.length_cons] at h
    rw [List.zipIdx_cons]
    show (wr sa (arr.setIfInBounds (sa + s) x) (l.zipIdx (s + 1)))[t]? = _
    rw [wr_get sa l (s + 1) _ t (by rw [Array.size_setIfInBounds]; omega), List.length_cons]
    by_cases c : sa + (s + 1) ≤ t ∧ t < sa + (s + 1) + l.length
    · rw [if_pos c, if_pos (by omega), show t - (sa + s) = t - (sa + (s + 1)) + 1 by omega, List.getElem?_cons_succ]
    · rw [if_neg c]
      by_cases d : t = sa + s
      · rw [if_pos (by omega), d, Nat.sub_self, List.getElem?_cons_zero, Array.getElem?_setIfInBounds_self_of_lt (by omega)]
      · rw [if_neg (by omega), Array.getElem?_setIfInBounds_ne (by omega)]
theorem wpS_set {st st1 : SortSt} {Q : PUnit → SortSt → Prop} (h : Q ⟨⟩ st1) : wpS (model prog w) A E s (set st1 : StateT SortSt Sem PUnit) Q st := by
  unfold wpS; rw [StateT.run_set]; exact wpAny_pure ⟨rfl, h⟩
noncomputable def SegS (arr : Array Keyed) (lo n : Nat) : Prop := ∀ i j, lo ≤ i → i ≤ j → j < lo + n → K arr i ≤ K arr j
theorem seg_list {arr : Array Keyed} {lo n : Nat} (h : SegS arr lo n) (hn : lo + n ≤ arr.size) : (arr.extract lo (lo + n)).toList.Pairwise Le := by
  rw [ex_list, List.pairwise_iff_getElem]
  intro i j hi hj hij
  have l : ((arr.toList.drop lo).take n).length ≤ n := by rw [List.length_take]; omega
  have e : ∀ (k : Nat) (hk : k < ((arr.toList.drop lo).take n).length), K arr (lo + k) = kn (((arr.toList.drop lo).take n)[k]) := fun k hk => by
    refine K_get ?_
    have : ((arr.toList.drop lo).take n)[k]? = some (((arr.toList.drop lo).take n)[k]) := List.getElem?_eq_getElem hk
    rw [List.getElem?_take, if_pos (by omega), List.getElem?_drop] at this
    exact this
  have := h (lo + i) (lo + j) (by omega) (by omega) (by omega)
  rw [e i hi, e j hj] at this
  exact this
theorem ex_mem {arr : Array Keyed} {lo n : Nat} {x : Keyed} (h : x ∈ (arr.extract lo (lo + n)).toList) : ∃ t, lo ≤ t ∧ t < lo + n ∧ arr.toList[t]? = some x := by
  rw [ex_list] at h
  obtain ⟨i, ei⟩ := List.getElem?_of_mem h
  have hi : i < n := by have := (List.getElem?_eq_some_iff.mp ei).1; rw [List.length_take] at this; omega
  rw [List.getElem?_take, if_pos hi, List.getElem?_drop] at ei
  exact ⟨lo + i, by omega, by omega, ei⟩
theorem ex_get {arr : Array Keyed} {lo n i : Nat} (hi : i < n) : (arr.extract lo (lo + n)).toList[i]? = arr.toList[lo + i]? := by
  rw [ex_list, List.getElem?_take, if_pos hi, List.getElem?_drop]
noncomputable def AllI (arr : Array Keyed) : Prop := ∀ x ∈ arr.toList, IsI x
theorem mergeAt'_eq (i : Nat) : mergeAt' i = (do
  let s ← get
  let (some (sa, na, power), some (sb, nb, _)) := ((pendingOf s)[i]?, (pendingOf s)[i + 1]?) | unsupported "internal:list.sort.pending"
  set (setPending s (((pendingOf s).setIfInBounds i (sa, na + nb, power)).eraseIdxIfInBounds (i + 1)))
  let some k ← gallop' false (← elem' (arrOf s) sb) (arrOf s) sa na 0 | return false
  let (sa, na) := (sa + k, na - k)
  if na == 0 then return true
  let some nb ← gallop' true (← elem' (arrOf s) (sa + na - 1)) (arrOf s) sb nb (nb - 1) | return false
  if nb == 0 then return true
  let x := (arrOf s).extract sa sb
  let y := (arrOf s).extract sb (sb + nb)
  let merged ← if na ≤ nb then mergeLo' x y else mergeHi' x y
  modify fun s => setArr s (merged.toList.zipIdx.foldl (fun a (p, j) => a.setIfInBounds (sa + j) p) (arrOf s))
  return (failedOf (← get)).isNone) := rfl
theorem wpS_mergeAt {st : SortSt} {i sa na pw nb pw2 : Nat} {Q : Bool → SortSt → Prop} (hk : kindOf st = oneType') (hfl : failedOf st = none) (ai : AllI (arrOf st)) (p1 : (pendingOf st)[i]? = some (sa, na, pw)) (p2 : (pendingOf st)[i + 1]? = some (sa + na, nb, pw2))
    (a1 : 1 ≤ na) (b1 : 1 ≤ nb) (hz : sa + na + nb ≤ (arrOf st).size) (s1 : SegS (arrOf st) sa na) (s2 : SegS (arrOf st) (sa + na) nb)
    (h : ∀ st', kindOf st' = oneType' → failedOf st' = none → pendingOf st' = ((pendingOf st).setIfInBounds i (sa, na + nb, pw)).eraseIdxIfInBounds (i + 1) → (arrOf st').Perm (arrOf st) → SegS (arrOf st') sa (na + nb) →
      (∀ t, t < sa ∨ sa + na + nb ≤ t → (arrOf st')[t]? = (arrOf st)[t]?) → Q true st') : wpS (model prog w) A E s (mergeAt' i) Q st := by
  rw [mergeAt'_eq]
  refine wpS_bind (wpS_get ?_)
  rw [p1, p2]
  dsimp only
  refine wpS_bind (wpS_set ?_)
  generalize hst : setPending st (((pendingOf st).setIfInBounds i (sa, na + nb, pw)).eraseIdxIfInBounds (i + 1)) = st1
  have k1 : kindOf st1 = oneType' := by rw [← hst]; exact hk
  have f1 : failedOf st1 = none := by rw [← hst]; exact hfl
  have ar1 : arrOf st1 = arrOf st := by rw [← hst]
  have pn1 : pendingOf st1 = ((pendingOf st).setIfInBounds i (sa, na + nb, pw)).eraseIdxIfInBounds (i + 1) := by rw [← hst]
  generalize arrOf st = arr at *
  have gt : ∀ {t}, t < arr.size → ∃ p, arr.toList[t]? = some p ∧ arr[t]? = some p ∧ IsI p := fun ht => by
    obtain ⟨p, e1, e2⟩ := arr_get ht
    exact ⟨p, e1, e2, ai _ (List.mem_of_getElem? e1)⟩
  obtain ⟨u, eu, eu', iu⟩ := gt (t := sa + na) (by omega)
  refine wpS_bind (wpS_elem eu' (wpS_bind (wpS_gallop k1 iu (fun j hj => ?_) (by omega) (fun x y hxy hy => s1 _ _ (by omega) (by omega) (by omega)) fun k hkn b1' b2' => ?_)))
  · obtain ⟨p, e1, e2, e3⟩ := gt (t := sa + j) (by omega)
    exact ⟨p, e2, e3⟩
  dsimp only
  have F1 : ∀ t, sa ≤ t → t < sa + k → K arr t ≤ K arr (sa + na) := fun t h1 h2 => by
    have q := b1' (t - sa) (by omega)
    unfold B at q
    rw [show sa + (t - sa) = t by omega] at q
    rw [K_get eu]
    simpa using q
  have F2 : ∀ t, sa + k ≤ t → t < sa + na → K arr (sa + na) < K arr t := fun t h1 h2 => by
    have q := b2' (t - sa) (by omega) (by omega)
    unfold B at q
    rw [show sa + (t - sa) = t by omega] at q
    rw [K_get eu]
    simp at q
    omega
  by_cases c1 : na - k = 0
  · rw [if_pos (by simpa using c1)]
    refine wpS_pure (h st1 k1 f1 pn1 (by rw [ar1]) ?_ fun t _ => by rw [ar1])
    rw [ar1]
    intro x y h1 h2 h3
    by_cases cy : y < sa + na
    · exact s1 _ _ h1 h2 cy
    · by_cases cx : x < sa + na
      · have q1 := F1 x h1 (by omega)
        have q2 := s2 (sa + na) y (Nat.le_refl _) (by omega) (by omega)
        omega
      · exact s2 _ _ (by omega) h2 (by omega)
  rw [if_neg (by simpa using c1)]
  obtain ⟨v, ev, ev', iv⟩ := gt (t := sa + k + (na - k) - 1) (by omega)
  refine wpS_bind (wpS_elem ev' (wpS_bind (wpS_gallop k1 iv (fun j hj => ?_) (by omega) (fun x y hxy hy => s2 _ _ (by omega) (by omega) (by omega)) fun m hmn d1 d2 => ?_)))
  · obtain ⟨p, e1, e2, e3⟩ := gt (t := sa + na + j) (by omega)
    exact ⟨p, e2, e3⟩
  dsimp only
  rw [show sa + k + (na - k) - 1 = sa + na - 1 by omega] at ev
  have F3 : ∀ t, sa + na ≤ t → t < sa + na + m → K arr t < K arr (sa + na - 1) := fun t h1 h2 => by
    have q := d1 (t - (sa + na)) (by omega)
    unfold B at q
    rw [show sa + na + (t - (sa + na)) = t by omega] at q
    rw [K_get ev]
    simpa using q
  have F4 : ∀ t, sa + na + m ≤ t → t < sa + na + nb → K arr (sa + na - 1) ≤ K arr t := fun t h1 h2 => by
    have q := d2 (t - (sa + na)) (by omega) (by omega)
    unfold B at q
    rw [show sa + na + (t - (sa + na)) = t by omega] at q
    rw [K_get ev]
    simp at q
    omega
  by_cases c2 : m = 0
  · rw [if_pos (by simpa using c2)]
    refine wpS_pure (h st1 k1 f1 pn1 (by rw [ar1]) ?_ fun t _ => by rw [ar1])
    rw [ar1]
    intro x y h1 h2 h3
    by_cases cy : y < sa + na
    · exact s1 _ _ h1 h2 cy
    · by_cases cx : x < sa + na
      · have q1 := s1 x (sa + na - 1) h1 (by omega) (by omega)
        have q2 := F4 y (by omega) (by omega)
        omega
      · exact s2 _ _ (by omega) h2 (by omega)
  rw [if_neg (by simpa using c2)]
  have ex1 : arr.extract (sa + k) (sa + na) = arr.extract (sa + k) (sa + k + (na - k)) := by congr 1; omega
  rw [ex1]
  generalize hx : arr.extract (sa + k) (sa + k + (na - k)) = X
  generalize hy : arr.extract (sa + na) (sa + na + m) = Y
  have lX : X.size = na - k := by rw [← hx, Array.size_extract]; omega
  have lY : Y.size = m := by rw [← hy, Array.size_extract]; omega
  have mX : ∀ e ∈ X.toList, ∃ t, sa + k ≤ t ∧ t < sa + na ∧ arr.toList[t]? = some e := fun e he => by
    rw [← hx] at he
    obtain ⟨t, h1, h2, h3⟩ := ex_mem he
    exact ⟨t, h1, by omega, h3⟩
  have mY : ∀ e ∈ Y.toList, ∃ t, sa + na ≤ t ∧ t < sa + na + m ∧ arr.toList[t]? = some e := fun e he => by
    rw [← hy] at he
    exact ex_mem he
  have iX : ∀ e ∈ X.toList, IsI e := fun e he => by obtain ⟨t, _, _, h3⟩ := mX e he; exact ai _ (List.mem_of_getElem? h3)
  have iY : ∀ e ∈ Y.toList, IsI e := fun e he => by obtain ⟨t, _, _, h3⟩ := mY e he; exact ai _ (List.mem_of_getElem? h3)
  have sX : X.toList.Pairwise Le := by rw [← hx]; exact seg_list (fun i j h1 h2 h3 => s1 i j (by omega) h2 (by omega)) (by omega)
  have sY : Y.toList.Pairwise Le := by rw [← hy]; exact seg_list (fun i j h1 h2 h3 => s2 i j h1 h2 (by omega)) (by omega)
  have hf : ∀ x, Y.toList[0]? = some x → ∀ y ∈ X.toList, kn x ≤ kn y := fun x ex y hy' => by
    rw [← hy, ex_get (by omega), Nat.add_zero] at ex
    obtain ⟨t, h1, h2, h3⟩ := mX y hy'
    have q := F2 t h1 h2
    rw [K_get ex, K_get h3] at q
    omega
  have hl : ∀ x, X.toList[X.size - 1]? = some x → ∀ y ∈ Y.toList, kn y ≤ kn x := fun x ex y hy' => by
    rw [lX, ← hx, ex_get (by omega), show sa + k + (na - k - 1) = sa + na - 1 by omega] at ex
    obtain ⟨t, h1, h2, h3⟩ := mY y hy'
    have q := F3 t h1 h2
    rw [K_get ex, K_get h3] at q
    omega
  have fin : ∀ (r : Array Keyed) (st2 : SortSt), SG st1 st2 → Res X.toList Y.toList r.toList → wpS (model prog w) A E s (do
      modify fun s => setArr s (List.foldl (fun a (x : Keyed × Nat) => a.setIfInBounds (sa + k + x.snd) x.fst) (arrOf s) r.toList.zipIdx)
      let z ← get
      pure (failedOf z).isNone) Q st2 := by
    intro r st2 sg rs
    refine wpS_bind (wpS_modify (wpS_bind (wpS_get ?_)))
    have lrs : r.toList.length = r.size := by simp
    have lr : r.toList.length = na - k + m := by rw [rs.1.length_eq, List.length_append]; simp [lX, lY]
    have er : (failedOf (setArr st2 (List.foldl (fun a x => a.setIfInBounds (sa + k + x.snd) x.fst) (arrOf st2) r.toList.zipIdx))).isNone = true := by
      show (failedOf st2).isNone = true
      rw [sg.2.2.2, f1]
      rfl
    rw [er]
    have g : ∀ t, (wr (sa + k) arr (r.toList.zipIdx 0))[t]? = if sa + k ≤ t ∧ t < sa + na + m then r.toList[t - (sa + k)]? else arr[t]? := fun t => by
      rw [wr_get (sa + k) r.toList 0 arr t (by omega)]
      by_cases c : sa + k ≤ t ∧ t < sa + na + m
      · rw [if_pos c, if_pos (by omega), Nat.add_zero]
      · rw [if_neg c, if_neg (by omega)]
    have ea : arrOf (setArr st2 (List.foldl (fun a x => a.setIfInBounds (sa + k + x.snd) x.fst) (arrOf st2) r.toList.zipIdx)) = wr (sa + k) arr (r.toList.zipIdx 0) := by
      show List.foldl (fun a x => a.setIfInBounds (sa + k + x.snd) x.fst) (arrOf st2) r.toList.zipIdx = _
      rw [sg.2.1, ar1]
      rfl
    refine wpS_pure (h _ (sg.1.trans k1) (sg.2.2.2.trans f1) (sg.2.2.1.trans pn1) ?_ ?_ ?_)
    · rw [ea, Array.perm_iff_toList_perm]
      have e1 : (wr (sa + k) arr (r.toList.zipIdx 0)).toList = arr.toList.take (sa + k) ++ (r.toList ++ arr.toList.drop (sa + na + m)) := by
        apply List.ext_getElem?
        intro t
        rw [Array.getElem?_toList, g]
        have lt : (arr.toList.take (sa + k)).length = sa + k := by rw [List.length_take]; simp; omega
        by_cases c : t < sa + k
        · rw [if_neg (by omega), List.getElem?_append_left (by omega), List.getElem?_take, if_pos c, Array.getElem?_toList]
        · rw [List.getElem?_append_right (by omega), lt]
          by_cases c' : t < sa + na + m
          · rw [if_pos (by omega), List.getElem?_append_left (by omega)]
          · rw [if_neg (by omega), List.getElem?_append_right (by omega), List.getElem?_drop, lr, show sa + na + m + (t - (sa + k) - (na - k + m)) = t by omega, Array.getElem?_toList]
      have e2 : arr.toList = arr.toList.take (sa + k) ++ ((X.toList ++ Y.toList) ++ arr.toList.drop (sa + na + m)) := by
        rw [← hx, ← hy, ex_list, ex_list, List.append_assoc]
        have a1 : List.take m (List.drop (sa + na) arr.toList) ++ List.drop (sa + na + m) arr.toList = List.drop (sa + na) arr.toList := by
          have q := List.take_append_drop m (List.drop (sa + na) arr.toList)
          rw [List.drop_drop] at q
          exact q
        have a2 : List.take (na - k) (List.drop (sa + k) arr.toList) ++ List.drop (sa + na) arr.toList = List.drop (sa + k) arr.toList := by
          have q := List.take_append_drop (na - k) (List.drop (sa + k) arr.toList)
          rw [List.drop_drop, show sa + k + (na - k) = sa + na by omega] at q
          exact q
        rw [a1, a2, List.take_append_drop]
      rw [e1]
      conv => rhs; rw [e2]
      exact (rs.1.append_right _).append_left _
    · rw [ea]
      have Ko : ∀ t, ¬ (sa + k ≤ t ∧ t < sa + na + m) → K (wr (sa + k) arr (r.toList.zipIdx 0)) t = K arr t := fun t ht => K_congr (by rw [g, if_neg ht])
      have Ki : ∀ t, sa + k ≤ t → t < sa + na + m → K (wr (sa + k) arr (r.toList.zipIdx 0)) t = K r (t - (sa + k)) := fun t h1 h2 => K_congr (by rw [g, if_pos ⟨h1, h2⟩, Array.getElem?_toList])
      have Kb : ∀ t, sa + k ≤ t → t < sa + na + m → K arr (sa + na) ≤ K r (t - (sa + k)) ∧ K r (t - (sa + k)) ≤ K arr (sa + na - 1) := fun t h1 h2 => by
        obtain ⟨e, ee, _⟩ := arr_get (a := r) (i := t - (sa + k)) (by omega)
        rw [K_get ee]
        have hm := rs.1.mem_iff.mp (List.mem_of_getElem? ee)
        rcases List.mem_append.mp hm with hm | hm
        · obtain ⟨t', q1, q2, q3⟩ := mX e hm
          have w1 := F2 t' q1 q2
          have w2 := s1 t' (sa + na - 1) (by omega) (by omega) (by omega)
          rw [K_get q3] at w1 w2
          omega
        · obtain ⟨t', q1, q2, q3⟩ := mY e hm
          have w1 := F3 t' q1 q2
          have w2 := s2 (sa + na) t' (Nat.le_refl _) q1 (by omega)
          rw [K_get q3] at w1 w2
          omega
      intro x y h1 h2 h3
      by_cases cx : x < sa + k
      · rw [Ko x (by omega)]
        by_cases cy : y < sa + k
        · rw [Ko y (by omega)]
          exact s1 _ _ h1 h2 (by omega)
        · have w1 := F1 x h1 cx
          by_cases cy2 : y < sa + na + m
          · rw [Ki y (by omega) cy2]
            have := (Kb y (by omega) cy2).1
            omega
          · rw [Ko y (by omega)]
            have := s2 (sa + na) y (Nat.le_refl _) (by omega) (by omega)
            omega
      · by_cases cx2 : x < sa + na + m
        · rw [Ki x (by omega) cx2]
          by_cases cy2 : y < sa + na + m
          · rw [Ki y (by omega) cy2]
            exact K_mono rs.2 (by omega) (by omega)
          · rw [Ko y (by omega)]
            have w1 := (Kb x (by omega) cx2).2
            have w2 := F4 y (by omega) (by omega)
            omega
        · rw [Ko x (by omega), Ko y (by omega)]
          exact s2 _ _ (by omega) h2 (by omega)
    · intro t ht
      rw [ea, g, if_neg (by omega)]
  by_cases c3 : na - k ≤ m
  · rw [if_pos c3]
    exact wpS_bind (wpS_mergeLo k1 iX iY sX sY (by omega) (by omega) (fun x y ex ey => hf x ex y (List.mem_of_getElem? ey)) hl fin)
  · rw [if_neg c3]
    exact wpS_bind (wpS_mergeHi k1 iX iY sX sY (by omega) (by omega) hf hl fin)
end
end PySem.Tim
namespace PySem.Tim
open PySem PyProof.Rows
section
variable {prog : Program} {w : World} {A : Around} {E : Value → Shared → Prop} {s : Shared}
structure TB (a₀ : Array Keyed) (st : SortSt) : Prop where
  perm : (arrOf st).Perm a₀
  kind : kindOf st = oneType'
  failed : failedOf st = none
theorem TB.size {a₀ : Array Keyed} {st : SortSt} (h : TB a₀ st) : (arrOf st).size = a₀.size := h.perm.size_eq
theorem TB.all {a₀ : Array Keyed} {st : SortSt} (h : TB a₀ st) (h0 : AllI a₀) : AllI (arrOf st) := fun x hx => h0 x ((Array.perm_iff_toList_perm.mp h.perm).mem_iff.mp hx)
noncomputable def Dst (a₀ : Array Keyed) : Prop := (a₀.toList.map kn).Nodup
theorem TB.ne {a₀ : Array Keyed} {st : SortSt} (h : TB a₀ st) (hd : Dst a₀) {i j : Nat} (hij : i < j) (hj : j < a₀.size) : K (arrOf st) i ≠ K (arrOf st) j := by
  have hz := h.size
  obtain ⟨x, ex, _⟩ := arr_get (a := arrOf st) (i := i) (by omega)
  obtain ⟨y, ey, _⟩ := arr_get (a := arrOf st) (i := j) (by omega)
  have nd : ((arrOf st).toList.map kn).Nodup := (((Array.perm_iff_toList_perm.mp h.perm).map kn).nodup_iff).mpr hd
  rw [K_get ex, K_get ey]
  intro e
  rw [List.nodup_iff_pairwise_ne, List.pairwise_map] at nd
  obtain ⟨hx, rfl⟩ := List.getElem?_eq_some_iff.mp ex
  obtain ⟨hy, rfl⟩ := List.getElem?_eq_some_iff.mp ey
  exact List.pairwise_iff_getElem.mp nd i j hx hy hij e
theorem wpS_ltT {a₀ : Array Keyed} {st : SortSt} {i j : Nat} {Q : Option Bool → SortSt → Prop} (hB : TB a₀ st) (h0 : AllI a₀) (hi : i < a₀.size) (hj : j < a₀.size) (h : Q (some (decide (K (arrOf st) i < K (arrOf st) j))) st) : wpS (model prog w) A E s (ltAt' i j) Q st := by
  have hz := hB.size
  obtain ⟨x, ex, ex'⟩ := arr_get (a := arrOf st) (i := i) (by omega)
  obtain ⟨y, ey, ey'⟩ := arr_get (a := arrOf st) (i := j) (by omega)
  rw [K_get ex, K_get ey] at h
  rw [ltAt'_eq]
  refine wpS_bind (wpS_get ?_)
  exact wpS_bind (wpS_elem ex' (wpS_bind (wpS_elem ey' (wpS_lt hB.kind (hB.all h0 _ (List.mem_of_getElem? ex)) (hB.all h0 _ (List.mem_of_getElem? ey)) h))))
theorem seg_one (arr : Array Keyed) (lo : Nat) : SegS arr lo 1 := fun i j h1 h2 h3 => by
  have : i = j := by omega
  subst this
  exact Int.le_refl _
noncomputable def From (lo : Nat) (st st' : SortSt) : Prop := pendingOf st' = pendingOf st ∧ ∀ t, t < lo → (arrOf st')[t]? = (arrOf st)[t]?
theorem From.refl (lo : Nat) (st : SortSt) : From lo st st := ⟨rfl, fun _ _ => rfl⟩
theorem From.trans {lo : Nat} {a b c : SortSt} (h : From lo a b) (k : From lo b c) : From lo a c := ⟨k.1.trans h.1, fun t ht => (k.2 t ht).trans (h.2 t ht)⟩
theorem TB.setArr {a₀ : Array Keyed} {st : SortSt} (h : TB a₀ st) {xs : Array Keyed} (hp : xs.Perm (arrOf st)) : TB a₀ (setArr st xs) := ⟨hp.trans h.perm, h.kind, h.failed⟩
theorem wpS_binT {a₀ : Array Keyed} {st : SortSt} {lo n ok : Nat} {Q : Bool → SortSt → Prop} (h0 : AllI a₀) (hn : lo + n ≤ a₀.size) (hok : ok ≤ n) (hB : TB a₀ st) (hs : SegS (arrOf st) lo ok)
    (h : ∀ st', TB a₀ st' → From lo st st' → SegS (arrOf st') lo n → Q true st') : wpS (model prog w) A E s (binarySort' lo n ok) Q st := by
  rw [binarySort'_eq]
  refine wpS_bind (wpS_mono (wpS_forRange (I := fun k c st' => c = (none, ()) ∧ TB a₀ st' ∧ From lo st st' ∧ SegS (arrOf st') lo (min k n))
    (Q := fun c st' => c = (none, ()) ∧ TB a₀ st' ∧ From lo st st' ∧ SegS (arrOf st') lo n) ?step ?fin ?init) ?post)
  case post =>
    rintro c st' ⟨rfl, hB', fr, hs'⟩
    exact wpS_pure (h st' hB' fr hs')
  case init =>
    refine ⟨rfl, hB, From.refl _ _, fun i j h1 hij hj => ?_⟩
    by_cases h1 : ok = 0
    · have : i = j := by omega
      subst this; exact Int.le_refl _
    · exact hs i j (by omega) hij (by omega)
  case fin =>
    rintro c st' ⟨hc, hB', fr, hs'⟩
    refine ⟨hc, hB', fr, ?_⟩
    rwa [show min (max (max ok 1) n) n = n by omega] at hs'
  case step =>
    rintro k c st' hak hkn ⟨rfl, hB', fr, hs'⟩
    rw [show min k n = k by omega] at hs'
    have hk : lo + k < a₀.size := by omega
    refine wpS_bind (wpS_mono (wpS_forRange (I := fun x c st'' => st'' = st' ∧ ∃ l r, c = (none, l, r) ∧ l ≤ r ∧ r ≤ k ∧ r - l ≤ k - x ∧
        (∀ i, lo ≤ i → i < lo + l → K (arrOf st') i ≤ K (arrOf st') (lo + k)) ∧ (∀ i, lo + r ≤ i → i < lo + k → K (arrOf st') (lo + k) < K (arrOf st') i))
      (Q := fun c st'' => st'' = st' ∧ ∃ l r, c = (none, l, r) ∧ l ≤ k ∧
        (∀ i, lo ≤ i → i < lo + l → K (arrOf st') i ≤ K (arrOf st') (lo + k)) ∧ (∀ i, lo + l ≤ i → i < lo + k → K (arrOf st') (lo + k) < K (arrOf st') i)) ?istep ?ifin ?iinit) ?ipost)
    case iinit => exact ⟨rfl, 0, k, rfl, by omega, by omega, by omega, fun i hi h2 => by omega, fun i h1 h2 => by omega⟩
    case ifin =>
      rintro c st'' ⟨rfl, l, r, rfl, hlr, hrk, hm, hlo, hhi⟩
      have : l = r := by omega
      subst this
      exact ⟨rfl, l, l, rfl, hrk, hlo, hhi⟩
    case istep =>
      rintro x c st'' _ hxk ⟨rfl, l, r, rfl, hlr, hrk, hm, hlo, hhi⟩
      dsimp only
      by_cases hge : l ≥ r
      · rw [if_pos hge]
        have : l = r := by omega
        subst this
        exact wpS_pure ⟨rfl, l, l, rfl, hrk, hlo, hhi⟩
      · rw [if_neg hge]
        refine wpS_bind (wpS_ltT hB' h0 hk (by omega) ?_)
        by_cases hless : K (arrOf st'') (lo + k) < K (arrOf st'') (lo + (l + r) / 2)
        · simp only [hless, decide_true, if_true]
          refine wpS_pure ⟨rfl, l, (l + r) / 2, rfl, by omega, by omega, by omega, hlo, fun i h1 h2 => ?_⟩
          exact Int.lt_of_lt_of_le hless (hs' _ _ (by omega) h1 h2)
        · simp only [hless, decide_false, Bool.false_eq_true, if_false]
          refine wpS_pure ⟨rfl, (l + r) / 2 + 1, r, rfl, by omega, by omega, by omega, fun i h0' h1 => ?_, hhi⟩
          exact Int.le_trans (hs' i (lo + (l + r) / 2) h0' (by omega) (by omega)) (Int.not_lt.mp hless)
    case ipost =>
      rintro c st'' ⟨rfl, l, r, rfl, hlk, hlo, hhi⟩
      show wpS _ _ _ _ (do moveDown' (lo + k) (lo + l); pure (ForInStep.yield (none, ()))) _ _
      rw [moveDown'_eq]
      have hks : lo + k < (arrOf st'').size := by rw [hB'.size]; exact hk
      refine wpS_bind (wpS_modify (wpS_pure ⟨rfl, hB'.setArr (bubble_perm _ _ _), fr.trans ⟨rfl, fun t ht => ?_⟩, ?_⟩))
      · show (bubble (arrOf st'') (lo + k) (lo + k - (lo + l)))[t]? = _
        rw [getElem?_bubble hks _ (by omega), if_neg (by omega), if_neg (by omega)]
      rw [show min (k + 1) n = k + 1 by omega]
      intro i j h1 hij hj
      show K (bubble (arrOf st'') (lo + k) (lo + k - (lo + l))) i ≤ K (bubble (arrOf st'') (lo + k) (lo + k - (lo + l))) j
      rw [K_bubble hks (by omega), K_bubble hks (by omega), show lo + k - (lo + k - (lo + l)) = lo + l by omega]
      repeat' split
      all_goals first
        | (exfalso; omega)
        | exact Int.le_refl _
        | exact hlo _ (by omega) (by omega)
        | exact Int.le_of_lt (hhi _ (by omega) (by omega))
        | exact hs' _ _ (by omega) (by omega) (by omega)
theorem wpS_runT {a₀ : Array Keyed} {st : SortSt} {lo nrem : Nat} {Q : Option Nat → SortSt → Prop} (h0 : AllI a₀) (hd : Dst a₀) (hn : lo + nrem ≤ a₀.size) (h1 : 1 ≤ nrem) (hB : TB a₀ st)
    (h : ∀ m st', TB a₀ st' → From lo st st' → 1 ≤ m → m ≤ nrem → SegS (arrOf st') lo m → Q (some m) st') : wpS (model prog w) A E s (countRun' lo nrem) Q st := by
  rw [countRun'_eq]
  refine wpS_bind (wpS_mono (wpS_forRange (I := fun x c st' => st' = st ∧ c = (none, x) ∧ SegS (arrOf st) lo x)
    (Q := fun c st' => st' = st ∧ ∃ n, c = (none, n) ∧ 1 ≤ n ∧ n ≤ nrem ∧ SegS (arrOf st) lo n ∧ (n = nrem ∨ K (arrOf st) (lo + n) < K (arrOf st) (lo + n - 1))) ?step ?fin ⟨rfl, rfl, seg_one _ _⟩) ?post)
  case fin =>
    rintro c st' ⟨rfl, rfl, hs'⟩
    rw [show max 1 nrem = nrem by omega] at hs' ⊢
    exact ⟨rfl, nrem, rfl, h1, Nat.le_refl _, hs', .inl rfl⟩
  case step =>
    rintro x c st' hax hxn ⟨rfl, rfl, hs'⟩
    dsimp only
    refine wpS_bind (wpS_ltT hB h0 (by omega) (by omega) ?_)
    by_cases hless : K (arrOf st') (lo + x) < K (arrOf st') (lo + x - 1)
    · simp only [hless, decide_true, if_true]
      exact wpS_pure ⟨rfl, x, rfl, hax, by omega, hs', .inr hless⟩
    · simp only [hless, decide_false, Bool.false_eq_true, if_false]
      refine wpS_pure ⟨rfl, rfl, fun i j q1 hij hj => ?_⟩
      by_cases hjx : j < lo + x
      · exact hs' i j q1 hij hjx
      · have hj' : j = lo + x := by omega
        subst hj'
        by_cases hi' : i = lo + x
        · subst hi'; exact Int.le_refl _
        · exact Int.le_trans (hs' i (lo + x - 1) q1 (by omega) (by omega)) (Int.not_lt.mp hless)
  case post =>
    rintro c st' ⟨rfl, n, rfl, n1, n2, hs, hor⟩
    dsimp only
    by_cases nn : n = nrem
    · rw [if_pos (by simpa using nn)]
      exact wpS_pure (h n st' hB (From.refl _ _) n1 n2 hs)
    rw [if_neg (by simpa using nn)]
    have hlt := hor.resolve_left nn
    by_cases g1 : n > 1
    · rw [if_pos g1]
      refine wpS_bind (wpS_ltT hB h0 (by omega) (by omega) ?_)
      have q1 := hs lo (lo + n - 1) (Nat.le_refl _) (by omega) (by omega)
      have q2 := hB.ne hd (i := lo) (j := lo + n - 1) (by omega) (by omega)
      have q3 : K (arrOf st') lo < K (arrOf st') (lo + n - 1) := by omega
      simp only [q3, decide_true, if_true]
      exact wpS_pure (h n st' hB (From.refl _ _) n1 n2 hs)
    rw [if_neg g1]
    have e1 : n = 1 := by omega
    subst e1
    have ni : ∀ i j, lo ≤ i → i ≤ j → j < lo + (1 + 1) → K (arrOf st') j ≤ K (arrOf st') i := fun i j q1 q2 q3 => by
      by_cases ij : i = j
      · subst ij; exact Int.le_refl _
      · have e1 : i = lo := by omega
        have e2 : j = lo + 1 := by omega
        rw [e1, e2]
        rw [show lo + 1 - 1 = lo by omega] at hlt
        omega
    refine wpS_bind (wpS_lift (wpAny_rule ⟨rfl, ?_⟩))
    refine wpS_bind (wpS_mono (wpS_forRange (I := fun x c st2 => st2 = st' ∧ c = (none, x, 0) ∧ ∀ i j, lo ≤ i → i ≤ j → j < lo + x → K (arrOf st') j ≤ K (arrOf st') i)
      (Q := fun c st2 => st2 = st' ∧ ∃ m, c = (none, m, 0) ∧ 2 ≤ m ∧ m ≤ nrem ∧ ∀ i j, lo ≤ i → i ≤ j → j < lo + m → K (arrOf st') j ≤ K (arrOf st') i) ?step2 ?fin2 ⟨rfl, rfl, ni⟩) ?post2)
    case fin2 =>
      rintro c st2 ⟨rfl, rfl, hs'⟩
      rw [show max (1 + 1) nrem = nrem by omega] at hs' ⊢
      exact ⟨rfl, nrem, rfl, by omega, Nat.le_refl _, hs'⟩
    case step2 =>
      rintro x c st2 hax hxn ⟨rfl, rfl, hs'⟩
      dsimp only
      refine wpS_bind (wpS_ltT hB h0 (by omega) (by omega) ?_)
      by_cases hless : K (arrOf st2) (lo + x) < K (arrOf st2) (lo + x - 1)
      · simp only [hless, decide_true, if_true]
        rw [if_neg (by omega)]
        refine wpS_pure ⟨rfl, rfl, fun i j q1 q2 q3 => ?_⟩
        by_cases hjx : j < lo + x
        · exact hs' i j q1 q2 hjx
        · have hj' : j = lo + x := by omega
          subst hj'
          by_cases hi' : i = lo + x
          · subst hi'; exact Int.le_refl _
          · exact Int.le_trans (Int.le_of_lt hless) (hs' i (lo + x - 1) q1 (by omega) (by omega))
      · simp only [hless, decide_false, Bool.false_eq_true, if_false]
        refine wpS_bind (wpS_ltT hB h0 (by omega) (by omega) ?_)
        have q2 := hB.ne hd (i := lo + x - 1) (j := lo + x) (by omega) (by omega)
        have q3 : K (arrOf st2) (lo + x - 1) < K (arrOf st2) (lo + x) := by omega
        simp only [q3, decide_true, if_true]
        exact wpS_pure ⟨rfl, x, rfl, by omega, by omega, hs'⟩
    case post2 =>
      rintro c st2 ⟨rfl, m, rfl, m2, m3, hs'⟩
      dsimp only
      rw [if_neg (by omega)]
      have hz := hB.size
      refine wpS_bind (wpS_reverse ?_)
      have em : ∀ t, (mirror (arrOf st2) lo (lo + m) ((lo + m - lo) / 2))[t]? = if lo ≤ t ∧ t < lo + m then (arrOf st2)[lo + (lo + m) - 1 - t]? else (arrOf st2)[t]? := fun t => getElem?_mirror_all (by omega) t
      generalize hst : setArr st2 (mirror (arrOf st2) lo (lo + m) ((lo + m - lo) / 2)) = st3
      have B3 : TB a₀ st3 := by rw [← hst]; exact hB.setArr (mirror_perm _ _ _ _)
      have fr3 : From lo st2 st3 := by
        rw [← hst]
        refine ⟨rfl, fun t ht => ?_⟩
        show (mirror (arrOf st2) lo (lo + m) ((lo + m - lo) / 2))[t]? = _
        rw [em, if_neg (by omega)]
      have s3 : SegS (arrOf st3) lo m := by
        rw [← hst]
        intro i j q1 q2 q3
        show K (mirror (arrOf st2) lo (lo + m) ((lo + m - lo) / 2)) i ≤ K (mirror (arrOf st2) lo (lo + m) ((lo + m - lo) / 2)) j
        have w1 : K (mirror (arrOf st2) lo (lo + m) ((lo + m - lo) / 2)) i = K (arrOf st2) (lo + (lo + m) - 1 - i) := K_congr (by rw [em, if_pos (by omega)])
        have w2 : K (mirror (arrOf st2) lo (lo + m) ((lo + m - lo) / 2)) j = K (arrOf st2) (lo + (lo + m) - 1 - j) := K_congr (by rw [em, if_pos (by omega)])
        rw [w1, w2]
        exact hs' _ _ (by omega) (by omega) (by omega)
      clear hst em
      refine wpS_bind (wpS_mono (wpS_forRange (I := fun x c st4 => st4 = st3 ∧ c = (none, x) ∧ SegS (arrOf st3) lo x)
        (Q := fun c st4 => st4 = st3 ∧ ∃ k, c = (none, k) ∧ 1 ≤ k ∧ k ≤ nrem ∧ SegS (arrOf st3) lo k) ?step3 ?fin3 ⟨rfl, rfl, s3⟩) ?post3)
      case fin3 =>
        rintro c st4 ⟨rfl, rfl, hs4⟩
        rw [show max m nrem = nrem by omega] at hs4 ⊢
        exact ⟨rfl, nrem, rfl, h1, Nat.le_refl _, hs4⟩
      case step3 =>
        rintro x c st4 hax hxn ⟨rfl, rfl, hs4⟩
        dsimp only
        refine wpS_bind (wpS_ltT B3 h0 (by omega) (by omega) ?_)
        by_cases hless : K (arrOf st4) (lo + x) < K (arrOf st4) (lo + x - 1)
        · simp only [hless, decide_true, if_true]
          exact wpS_pure ⟨rfl, x, rfl, by omega, by omega, hs4⟩
        · simp only [hless, decide_false, Bool.false_eq_true, if_false]
          refine wpS_pure ⟨rfl, rfl, fun i j q1 hij hj => ?_⟩
          by_cases hjx : j < lo + x
          · exact hs4 i j q1 hij hjx
          · have hj' : j = lo + x := by omega
            subst hj'
            by_cases hi' : i = lo + x
            · subst hi'; exact Int.le_refl _
            · exact Int.le_trans (hs4 i (lo + x - 1) q1 (by omega) (by omega)) (Int.not_lt.mp hless)
      case post3 =>
        rintro c st4 ⟨rfl, k, rfl, k1, k2, hs4⟩
        exact wpS_pure (h k st4 B3 fr3 k1 k2 hs4)
noncomputable def Runs (arr : Array Keyed) : Nat → List (Nat × Nat × Nat) → Nat → Prop
  | s, [], e => s = e
  | s, (a, n, _) :: r, e => a = s ∧ 1 ≤ n ∧ SegS arr s n ∧ Runs arr (s + n) r e
theorem seg_congr {arr arr' : Array Keyed} {lo n : Nat} (h : ∀ t, lo ≤ t → t < lo + n → arr'[t]? = arr[t]?) (k : SegS arr lo n) : SegS arr' lo n := fun i j h1 h2 h3 => by
  rw [K_congr (h i h1 (by omega)), K_congr (h j (by omega) h3)]
  exact k i j h1 h2 h3
theorem Runs.le {arr : Array Keyed} : ∀ {P : List (Nat × Nat × Nat)} {s e : Nat}, Runs arr s P e → s + P.length ≤ e
  | [], s, e, h => by have : s = e := h; simp; omega
  | (a, n, p) :: r, s, e, h => by
    have := Runs.le h.2.2.2
    have := h.2.1
    simp
    omega
theorem Runs.congr {arr arr' : Array Keyed} : ∀ {P : List (Nat × Nat × Nat)} {s e : Nat}, (∀ t, s ≤ t → t < e → arr'[t]? = arr[t]?) → Runs arr s P e → Runs arr' s P e
  | [], s, e, _, h => h
  | (a, n, p) :: r, s, e, k, h => by
    have := Runs.le h.2.2.2
    exact ⟨h.1, h.2.1, seg_congr (fun t h1 h2 => k t h1 (by omega)) h.2.2.1, Runs.congr (fun t h1 h2 => k t (by omega) h2) h.2.2.2⟩
theorem Runs.push {arr : Array Keyed} {n : Nat} (n1 : 1 ≤ n) : ∀ {P : List (Nat × Nat × Nat)} {s e : Nat}, Runs arr s P e → SegS arr e n → Runs arr s (P ++ [(e, n, 0)]) (e + n)
  | [], s, e, h, k => by
    have : s = e := h
    subst this
    exact ⟨rfl, n1, k, rfl⟩
  | (a, m, p) :: r, s, e, h, k => ⟨h.1, h.2.1, h.2.2.1, Runs.push n1 h.2.2.2 k⟩
theorem Runs.at {arr : Array Keyed} : ∀ {P : List (Nat × Nat × Nat)} {s e i sa na pw sb nb pw2 : Nat}, Runs arr s P e → P[i]? = some (sa, na, pw) → P[i + 1]? = some (sb, nb, pw2) →
    s ≤ sa ∧ sb = sa + na ∧ 1 ≤ na ∧ 1 ≤ nb ∧ SegS arr sa na ∧ SegS arr sb nb ∧ sa + na + nb ≤ e ∧
      ∀ arr', (∀ t, t < sa ∨ sa + na + nb ≤ t → arr'[t]? = arr[t]?) → SegS arr' sa (na + nb) → Runs arr' s ((P.set i (sa, na + nb, pw)).eraseIdx (i + 1)) e
  | [], s, e, i, sa, na, pw, sb, nb, pw2, h, e1, e2 => by simp at e1
  | (a, n, p) :: r, s, e, 0, sa, na, pw, sb, nb, pw2, h, e1, e2 => by
    simp at e1
    obtain ⟨rfl, rfl, rfl⟩ := e1
    cases r with
    | nil => simp at e2
    | cons q r =>
      obtain ⟨b, m, p'⟩ := q
      simp at e2
      obtain ⟨rfl, rfl, rfl⟩ := e2
      obtain ⟨rfl, n1, s1, rfl, m1, s2, rest⟩ := h
      have := Runs.le rest
      refine ⟨Nat.le_refl _, rfl, n1, m1, s1, s2, by omega, fun arr' k sg => ?_⟩
      exact ⟨rfl, by omega, sg, by rw [← Nat.add_assoc]; exact Runs.congr (fun t h1 h2 => k t (.inr (by omega))) rest⟩
  | (a, n, p) :: r, s, e, i + 1, sa, na, pw, sb, nb, pw2, h, e1, e2 => by
    simp at e1 e2
    obtain ⟨rfl, n1, s1, rest⟩ := h
    obtain ⟨q1, q2, q3, q4, q5, q6, q7, q8⟩ := Runs.at rest e1 e2
    refine ⟨by omega, q2, q3, q4, q5, q6, q7, fun arr' k sg => ?_⟩
    exact ⟨rfl, n1, seg_congr (fun t h1 h2 => k t (.inl (by omega))) s1, q8 arr' k sg⟩
theorem Runs.power {arr : Array Keyed} {pw : Nat} : ∀ {P : List (Nat × Nat × Nat)} {s e : Nat}, Runs arr s P e → ∀ i, Runs arr s (P.modify i fun x => (x.1, x.2.1, pw)) e
  | [], s, e, h, i => by simpa using h
  | (a, n, p) :: r, s, e, h, 0 => by
    rw [List.modify_zero_cons]
    exact ⟨h.1, h.2.1, h.2.2.1, h.2.2.2⟩
  | (a, n, p) :: r, s, e, h, i + 1 => by
    rw [List.modify_succ_cons]
    exact ⟨h.1, h.2.1, h.2.2.1, Runs.power h.2.2.2 i⟩
theorem wpS_mergeT {a₀ : Array Keyed} {st : SortSt} {i e : Nat} {Q : Bool → SortSt → Prop} (h0 : AllI a₀) (hB : TB a₀ st) (r : Runs (arrOf st) 0 (pendingOf st).toList e) (he : e ≤ a₀.size) (hi : i + 1 < (pendingOf st).size)
    (h : ∀ st', TB a₀ st' → Runs (arrOf st') 0 (pendingOf st').toList e → (pendingOf st').size + 1 = (pendingOf st).size → (∀ t, e ≤ t → (arrOf st')[t]? = (arrOf st)[t]?) → Q true st') : wpS (model prog w) A E s (mergeAt' i) Q st := by
  have l : (pendingOf st).toList.length = (pendingOf st).size := by simp
  obtain ⟨⟨sa, na, pw⟩, e1⟩ : ∃ x, (pendingOf st).toList[i]? = some x := ⟨_, List.getElem?_eq_getElem (by omega)⟩
  obtain ⟨⟨sb, nb, pw2⟩, e2⟩ : ∃ x, (pendingOf st).toList[i + 1]? = some x := ⟨_, List.getElem?_eq_getElem (by omega)⟩
  obtain ⟨q1, q2, q3, q4, q5, q6, q7, q8⟩ := r.at e1 e2
  subst q2
  refine wpS_mergeAt hB.kind hB.failed (hB.all h0) (by rw [← Array.getElem?_toList]; exact e1) (by rw [← Array.getElem?_toList]; exact e2) q3 q4 (by rw [hB.size]; omega) q5 q6 fun st' k f pn pm sg out => ?_
  have tl : (pendingOf st').toList = ((pendingOf st).toList.set i (sa, na + nb, pw)).eraseIdx (i + 1) := by rw [pn]; simp
  refine h st' ⟨pm.trans hB.perm, k, f⟩ ?_ ?_ fun t ht => out t (.inr (by omega))
  · rw [tl]
    exact q8 _ out sg
  · have l' : (pendingOf st').toList.length = (pendingOf st').size := by simp
    rw [← l', tl, List.length_eraseIdx, List.length_set]
    rw [if_pos (by omega)]
    omega
theorem wpS_sortT {a₀ : Array Keyed} {st : SortSt} {Q : Unit → SortSt → Prop} (h0 : AllI a₀) (hd : Dst a₀) (hB : TB a₀ st) (hp : pendingOf st = #[]) (h2 : 1 ≤ a₀.size)
    (h : ∀ st', (arrOf st').Perm a₀ → failedOf st' = none → SortedTo (arrOf st') a₀.size → Q () st') : wpS (model prog w) A E s sortRuns' Q st := by
  rw [sortRuns'_eq]
  refine wpS_bind (wpS_get ?_)
  dsimp only
  simp only [hB.size]
  generalize minRun' a₀.size a₀.size 0 = mr
  refine wpS_bind (wpS_mono (wpS_forRange
    (I := fun x c st' => ∃ lo, c = (none, lo) ∧ TB a₀ st' ∧ Runs (arrOf st') 0 (pendingOf st').toList lo ∧ lo ≤ a₀.size ∧ (x ≤ lo ∨ lo = a₀.size))
    (Q := fun c st' => c = (none, a₀.size) ∧ TB a₀ st' ∧ Runs (arrOf st') 0 (pendingOf st').toList a₀.size) ?step ?fin ⟨0, rfl, hB, by rw [hp]; rfl, by omega, .inl (Nat.le_refl _)⟩) ?post)
  case fin =>
    rintro c st' ⟨lo, rfl, B, r, l1, l2⟩
    have : lo = a₀.size := by omega
    subst this
    exact ⟨rfl, B, r⟩
  case step =>
    rintro x c st1 _ hx ⟨lo, rfl, B1, r1, l1, l2⟩
    dsimp only
    by_cases c : lo ≥ a₀.size
    · rw [if_pos c]
      have : lo = a₀.size := by omega
      subst this
      exact wpS_pure ⟨rfl, B1, r1⟩
    rw [if_neg c]
    refine wpS_bind (wpS_runT h0 hd (by omega) (by omega) B1 fun m st2 B2 fr2 m1 m2 s2 => ?_)
    dsimp only
    have r2 : Runs (arrOf st2) 0 (pendingOf st2).toList lo := by
      rw [fr2.1]
      exact Runs.congr (fun t _ ht => fr2.2 t ht) r1
    have last : ∀ (n : Nat) (st2 : SortSt), 1 ≤ n → lo + n ≤ a₀.size → TB a₀ st2 → Runs (arrOf st2) 0 (pendingOf st2).toList lo → SegS (arrOf st2) lo n → wpS (model prog w) A E s (do
        modify fun s => setPending s ((pendingOf s).push (lo, n, 0))
        pure (ForInStep.yield ((none, lo + n) : Option Unit × Nat)))
        (fun r st' => match r with
          | .done c' => c' = (none, a₀.size) ∧ TB a₀ st' ∧ Runs (arrOf st') 0 (pendingOf st').toList a₀.size
          | .yield c' => ∃ lo, c' = (none, lo) ∧ TB a₀ st' ∧ Runs (arrOf st') 0 (pendingOf st').toList lo ∧ lo ≤ a₀.size ∧ (x + 1 ≤ lo ∨ lo = a₀.size)) st2 := fun n st2 n1 hn B2 r2 s2 => by
      refine wpS_bind (wpS_modify (wpS_pure ⟨lo + n, rfl, ⟨B2.perm, B2.kind, B2.failed⟩, ?_, hn, by omega⟩))
      show Runs (arrOf st2) 0 ((pendingOf st2).push (lo, n, 0)).toList (lo + n)
      rw [Array.toList_push]
      exact r2.push n1 s2
    by_cases c3 : m < mr
    · rw [if_pos c3]
      refine wpS_bind (wpS_lift (wpAny_rule ⟨rfl, ?_⟩))
      refine wpS_bind (wpS_binT h0 (by omega) (by omega) B2 s2 fun st3 B3 fr3 s3 => ?_)
      rw [if_neg (by simp)]
      have r3 : Runs (arrOf st3) 0 (pendingOf st3).toList lo := by
        rw [fr3.1]
        exact Runs.congr (fun t _ ht => fr3.2 t ht) r2
      refine wpS_bind (wpS_get ?_)
      cases hb : (pendingOf st3).back? with
      | none => exact wpS_mono (last (min (a₀.size - lo) mr) st3 (by omega) (by omega) B3 r3 s3) fun r st' hh => by cases r <;> exact hh
      | some y =>
        obtain ⟨s1, k1, p1⟩ := y
        dsimp only
        refine wpS_bind (wpS_mono (wpS_forRange (I := fun x c st2 => c = (none, ()) ∧ TB a₀ st2 ∧ Runs (arrOf st2) 0 (pendingOf st2).toList lo ∧ SegS (arrOf st2) lo (min (a₀.size - lo) mr))
          (Q := fun c st2 => c = (none, ()) ∧ TB a₀ st2 ∧ Runs (arrOf st2) 0 (pendingOf st2).toList lo ∧ SegS (arrOf st2) lo (min (a₀.size - lo) mr)) ?stepA ?finA ⟨rfl, B3, r3, s3⟩) ?postA)
        case finA => exact fun _ _ hh => hh
        case stepA =>
          rintro x' c' st4 _ hx' ⟨rfl, B4, r4, sg4⟩
          refine wpS_bind (wpS_get ?_)
          by_cases c1 : (pendingOf st4).size > 1
          · rw [if_pos c1]
            obtain ⟨⟨f1, f2, older⟩, e1⟩ : ∃ x, (pendingOf st4)[(pendingOf st4).size - 2]? = some x := ⟨_, getElem?_pos _ _ (by omega)⟩
            rw [e1]
            dsimp only
            by_cases c2 : older ≤ power' a₀.size (2 * s1 + k1) (2 * s1 + k1 + k1 + (min (a₀.size - lo) mr)) a₀.size
            · rw [if_pos c2]
              exact wpS_pure ⟨rfl, B4, r4, sg4⟩
            · rw [if_neg c2]
              refine wpS_bind (wpS_mergeT h0 B4 r4 (by omega) (by omega) fun st5 B5 r5 _ out => ?_)
              rw [if_neg (by simp)]
              exact wpS_pure ⟨rfl, B5, r5, seg_congr (fun t h1 _ => out t h1) sg4⟩
          · rw [if_neg c1]
            exact wpS_pure ⟨rfl, B4, r4, sg4⟩
        case postA =>
          rintro c' st4 ⟨rfl, B4, r4, sg4⟩
          dsimp only
          refine wpS_bind (wpS_modify ?_)
          refine wpS_mono (last (min (a₀.size - lo) mr) (setPending st4 ((pendingOf st4).modify ((pendingOf st4).size - 1) fun x => (x.fst, x.2.fst, power' a₀.size (2 * s1 + k1) (2 * s1 + k1 + k1 + (min (a₀.size - lo) mr)) a₀.size))) (by omega) (by omega) ⟨B4.perm, B4.kind, B4.failed⟩ ?_ sg4) fun r st' hh => by cases r <;> exact hh
          show Runs (arrOf st4) 0 ((pendingOf st4).modify ((pendingOf st4).size - 1) fun x => (x.fst, x.2.fst, power' a₀.size (2 * s1 + k1) (2 * s1 + k1 + k1 + (min (a₀.size - lo) mr)) a₀.size)).toList lo
          rw [Array.toList_modify]
          exact r4.power _
    · rw [if_neg c3]
      refine wpS_bind (wpS_get ?_)
      cases hb : (pendingOf st2).back? with
      | none => exact wpS_mono (last m st2 (by omega) (by omega) B2 r2 s2) fun r st' hh => by cases r <;> exact hh
      | some y =>
        obtain ⟨s1, k1, p1⟩ := y
        dsimp only
        refine wpS_bind (wpS_mono (wpS_forRange (I := fun x c st2 => c = (none, ()) ∧ TB a₀ st2 ∧ Runs (arrOf st2) 0 (pendingOf st2).toList lo ∧ SegS (arrOf st2) lo m)
          (Q := fun c st2 => c = (none, ()) ∧ TB a₀ st2 ∧ Runs (arrOf st2) 0 (pendingOf st2).toList lo ∧ SegS (arrOf st2) lo m) ?stepB ?finB ⟨rfl, B2, r2, s2⟩) ?postB)
        case finB => exact fun _ _ hh => hh
        case stepB =>
          rintro x' c' st4 _ hx' ⟨rfl, B4, r4, sg4⟩
          refine wpS_bind (wpS_get ?_)
          by_cases c1 : (pendingOf st4).size > 1
          · rw [if_pos c1]
            obtain ⟨⟨f1, f2, older⟩, e1⟩ : ∃ x, (pendingOf st4)[(pendingOf st4).size - 2]? = some x := ⟨_, getElem?_pos _ _ (by omega)⟩
            rw [e1]
            dsimp only
            by_cases c2 : older ≤ power' a₀.size (2 * s1 + k1) (2 * s1 + k1 + k1 + m) a₀.size
            · rw [if_pos c2]
              exact wpS_pure ⟨rfl, B4, r4, sg4⟩
            · rw [if_neg c2]
              refine wpS_bind (wpS_mergeT h0 B4 r4 (by omega) (by omega) fun st5 B5 r5 _ out => ?_)
              rw [if_neg (by simp)]
              exact wpS_pure ⟨rfl, B5, r5, seg_congr (fun t h1 _ => out t h1) sg4⟩
          · rw [if_neg c1]
            exact wpS_pure ⟨rfl, B4, r4, sg4⟩
        case postB =>
          rintro c' st4 ⟨rfl, B4, r4, sg4⟩
          dsimp only
          refine wpS_bind (wpS_modify ?_)
          refine wpS_mono (last m (setPending st4 ((pendingOf st4).modify ((pendingOf st4).size - 1) fun x => (x.fst, x.2.fst, power' a₀.size (2 * s1 + k1) (2 * s1 + k1 + k1 + m) a₀.size))) (by omega) (by omega) ⟨B4.perm, B4.kind, B4.failed⟩ ?_ sg4) fun r st' hh => by cases r <;> exact hh
          show Runs (arrOf st4) 0 ((pendingOf st4).modify ((pendingOf st4).size - 1) fun x => (x.fst, x.2.fst, power' a₀.size (2 * s1 + k1) (2 * s1 + k1 + k1 + m) a₀.size)).toList lo
          rw [Array.toList_modify]
          exact r4.power _
  case post =>
    rintro c st1 ⟨rfl, B1, r1⟩
    dsimp only
    have l1 : (pendingOf st1).toList.length = (pendingOf st1).size := by simp
    have ll := r1.le
    refine wpS_bind (wpS_mono (wpS_forRange (I := fun x c st2 => c = (none, ()) ∧ TB a₀ st2 ∧ Runs (arrOf st2) 0 (pendingOf st2).toList a₀.size ∧ (pendingOf st2).size + x ≤ a₀.size + 1)
      (Q := fun c st2 => c = (none, ()) ∧ TB a₀ st2 ∧ Runs (arrOf st2) 0 (pendingOf st2).toList a₀.size ∧ (pendingOf st2).size ≤ 1) ?step4 ?fin4 ⟨rfl, B1, r1, by omega⟩) ?post4)
    case fin4 =>
      rintro c st2 ⟨rfl, B2, r2, l2⟩
      exact ⟨rfl, B2, r2, by omega⟩
    case step4 =>
      rintro x c st2 _ hx ⟨rfl, B2, r2, l2⟩
      refine wpS_bind (wpS_get ?_)
      by_cases c1 : (pendingOf st2).size ≤ 1
      · rw [if_pos c1]
        exact wpS_pure ⟨rfl, B2, r2, c1⟩
      rw [if_neg c1]
      refine wpS_bind (wpS_mergeT h0 B2 r2 (Nat.le_refl _) ?_ fun st3 B3 r3 l3 _ => ?_)
      · have key : ∀ b : Bool, (if b = true then (pendingOf st2).size - 2 - 1 else (pendingOf st2).size - 2) + 1 < (pendingOf st2).size := fun b => by cases b <;> simp <;> omega
        exact key _
      · rw [if_neg (by simp)]
        exact wpS_pure ⟨rfl, B3, r3, by omega⟩
    case post4 =>
      rintro c st2 ⟨rfl, B2, r2, l2⟩
      refine wpS_pure (h _ B2.perm B2.failed ?_)
      have l3 : (pendingOf st2).toList.length = (pendingOf st2).size := by simp
      generalize (pendingOf st2).toList = P at *
      cases P with
      | nil =>
        have : 0 = a₀.size := r2
        omega
      | cons p P =>
        cases P with
        | nil =>
          obtain ⟨a, n, pw⟩ := p
          obtain ⟨_, _, sg, e⟩ := r2
          have e : 0 + n = a₀.size := e
          exact fun i j h1 h2 => sg i j (by omega) h1 (by omega)
        | cons q P => simp at l3; omega
end
end PySem.Tim
namespace PySem.Tim
open PySem PyProof.Rows
section
variable {prog : Program} {w : World} {A : Around} {E : Value → Shared → Prop} {s : Shared}
theorem ints_nums : ∀ {vs : List Value} {ns : List Int}, IntsAre vs ns → vs.map numOf = ns
  | _, _, .nil => rfl
  | _, _, .cons n t h => by rw [List.map_cons, ints_nums h]; rfl
theorem pairs_kn (vs : List Value) : (pairsOf vs).toList.map kn = vs.map numOf := by
  rw [pairsOf_toList]
  induction vs with
  | nil => rfl
  | cons v r ih => rw [List.zip_cons_cons, List.map_cons, ih, List.map_cons]
theorem sort_many {a : Addr} {vs : List Value} {ns : List Int} {n : Nat} {P : PySem.Fin → Shared → Prop} (ho : s.heap.get? a = some (seqObj "list" vs.toArray n)) (hI : IntsAre vs ns) (nd : ns.Nodup) (h2 : 2 ≤ vs.length) (hz : vs.length ≤ sizeLine)
    (h : ∀ (out : Array Value) (ns' : List Int), IntsAre out.toList ns' → ns'.Perm ns → ns'.Pairwise (· ≤ ·) → P (.done (.ret .none)) { s with heap := sortedHeap s.heap a vs out }) :
    wpAny (model prog w) A (Builtin.«list.sort» ⟨[.ref a], []⟩) P E s := by
  rw [list_sort_plain]
  have ha : a < s.heap.objs.size := Heap.lt_size ho
  have hv : vs.toArray.size = vs.length := by simp
  refine wpAny_bind (listItems_at ho rfl (wpAny_bind (listUpdate_at ho rfl ?_ (hsz := by rw [hv]; exact hz) (hsz2 := Nat.zero_le _))))
  obtain ⟨e1, ho1⟩ : ∃ e1, (s.heap.update a (Obj.mapSeq fun _ => #[])).get? a = some (seqObj "list" #[] e1) := ⟨_, get?_update_seq ho (fun _ => #[])⟩
  refine wpAny_bind (seqEpoch_at ho1 rfl (wpAny_bind (wpAny_newTuple (wpAny_bind (wpAny_newList (wpAny_holding ?_))) (by rw [List.toList_toArray]; exact hz))))
  show wpAny (model prog w) A _ P E { s with heap := ((s.heap.update a (Obj.mapSeq fun _ => #[])).push (seqObj "tuple" vs.toArray 0)).push (seqObj "list" #[] 0) }
  generalize hh : (((s.heap.update a (Obj.mapSeq fun _ => #[])).push (seqObj "tuple" vs.toArray 0)).push (seqObj "list" #[] 0)) = h6
  have ho6 : h6.get? a = some (seqObj "list" #[] e1) := by
    rw [← hh, Heap.get?_push_ne _ _ _ (by rw [size_push', Heap.size_update]; exact Nat.ne_of_lt (Nat.lt_succ_of_lt ha)), Heap.get?_push_ne _ _ _ (by rw [Heap.size_update]; exact Nat.ne_of_lt ha)]
    exact ho1
  dsimp only
  rw [if_neg (by omega), if_neg (by omega)]
  obtain ⟨v₁, v₂, rest, rfl⟩ : ∃ v₁ v₂ rest, vs = v₁ :: v₂ :: rest := by
    match vs, h2 with
    | [], h2 => simp at h2
    | [_], h2 => simp at h2
    | v₁ :: v₂ :: rest, _ => exact ⟨v₁, v₂, rest, rfl⟩
  rw [keyKind_ints hI]
  refine wpAny_bind (wpAny_pure ?_)
  have ds : Dst (pairsOf (v₁ :: v₂ :: rest)) := by unfold Dst; rw [pairs_kn, ints_nums hI]; exact nd
  have sr := wpS_sortT (prog := prog) (w := w) (A := A) (E := E) (s := { s with heap := h6 }) (a₀ := pairsOf (v₁ :: v₂ :: rest)) (st := SortSt.mk' oneType' ((v₁ :: v₂ :: rest).toArray.zip (v₁ :: v₂ :: rest).toArray) #[] 7 none)
    (Q := fun _ st' => (arrOf st').Perm (pairsOf (v₁ :: v₂ :: rest)) ∧ failedOf st' = none ∧ SortedTo (arrOf st') (pairsOf (v₁ :: v₂ :: rest)).size)
    hI.intKeys ds ⟨Array.Perm.refl _, rfl, rfl⟩ rfl (by rw [pairsOf_size]; simp) fun st' a1 a2 a3 => ⟨a1, a2, a3⟩
  refine wpAny_bind (wpAny_mono sr ?_ fun _ _ e => e)
  rintro ⟨⟨⟩, st'⟩ s' ⟨rfl, hp, hf, hs⟩
  dsimp only
  obtain ⟨ns', q1, q2, q3⟩ := sorted_out hI hp hs
  refine wpAny_bind (seqEpoch_at ho6 rfl (wpAny_bind (listUpdate_at ho6 rfl ?_ (hsz := Nat.zero_le _) (hsz2 := by
    refine Nat.le_trans (Nat.le_of_eq ((Array.size_map ..).trans (hp.size_eq.trans (pairsOf_size _)))) ?_
    omega))))
  rw [hf]
  simp only [bne_self_eq_false, Bool.false_eq_true, if_false]
  have fin := h ((arrOf st').map (·.2)) ns' q1 q2 q3
  unfold sortedHeap at fin
  rw [hh] at fin
  exact wpAny_pure fin
theorem sort_all {a : Addr} {vs : List Value} {ns : List Int} {n : Nat} {P : PySem.Fin → Shared → Prop} (ho : s.heap.get? a = some (seqObj "list" vs.toArray n)) (hI : IntsAre vs ns) (nd : ns.Nodup) (hz : vs.length ≤ sizeLine)
    (h : ∀ (out : Array Value) (ns' : List Int), IntsAre out.toList ns' → ns'.Perm ns → ns'.Pairwise (· ≤ ·) → P (.done (.ret .none)) { s with heap := sortedHeap s.heap a vs out }) :
    wpAny (model prog w) A (Builtin.«list.sort» ⟨[.ref a], []⟩) P E s := by
  by_cases c : vs.length < 64
  · exact list_sort_tree ho hI c h
  · exact sort_many ho hI nd (by omega) hz h
end
end PySem.Tim
namespace L2
open PySem PySem.Spec PyProof.Rows PySem.W
section
variable {X : Cx} {K : PySem.W.Frag}
theorem call_sorted_dN (hc : X.calm = true) : CallR X (.builtin "sorted") (fun xs H Q => ∃ d kvs, xs = [.ref d] ∧ Rd H d (.dK kvs) ∧ allI kvs ∧ (keysI kvs).Nodup ∧ kvs.length ≤ 10000 ∧ ∀ l, H l = none → Q (.ref l) (upd H l (.lst (List.map V.int (Nm.srt (keysI kvs)))))) := by
  intro pins s σ H xs us Q I r h
  obtain ⟨d, kvs, rfl, hd, hall, hnd, hn, q⟩ := h
  obtain ⟨u, rfl, rx⟩ := vals1 r
  cases rx
  obtain ⟨hz, lo, vs, kv, dd⟩ := dk_rd I.hok hd
  have hlen : kvs.length = vs.length := Paired.length kv
  obtain ⟨ep, hat⟩ := dd.dictAt
  refine Calls.call_function_entry kind_sorted plain_sorted entry_sorted (args_sorted1 _) ?_
  unfold Builtin.«sorted»
  refine wpAny_bind (m := checkCount "sorted" 1 1 _) (wpAny_pure ?_)
  refine wpAny_bind (kdu_collect (A := X.A.in1) (kdl_dict (kvs := vs) (ep := ep) lo) (I.ok.hd hc) hat (by rw [← hlen, sizeLine_eq]; omega) fun h' tk acc hk hacc => ?_)
  have hl : acc.toList.length = vs.length := by rw [Array.length_toList]; exact hacc.1
  have hI : IntsAre acc.toList (keysI kvs) := by
    have all : ∀ (j : Nat) v, acc.toList[j]? = some v → ∃ i t, v = Value.int i t ∧ (keysI kvs)[j]? = some i := fun j v e => by
      obtain ⟨k, x, hx, hk⟩ := hacc.2 j v (by rw [← Array.getElem?_toList]; exact e)
      obtain ⟨p, e1, e2⟩ : ∃ p, kvs[j]? = some p ∧ p.1 = k := by
        have : ∀ {as : List (Key × V)} {bs : List (Key × Value)} (j : Nat) {b}, KV as bs → bs[j]? = some b → ∃ a, as[j]? = some a ∧ a.1 = b.1 := by
          intro as bs j b r
          induction r generalizing j with
          | nil => intro e; simp at e
          | cons r1 r2 ih =>
            intro e
            cases j with
            | zero => simp at e; subst e; exact ⟨_, rfl, r1.1⟩
            | succ j => simp at e; obtain ⟨a, e1, e2⟩ := ih j e; exact ⟨a, by simpa using e1, e2⟩
        obtain ⟨a, e1, e2⟩ := this j kv hx
        exact ⟨a, e1, e2⟩
      obtain ⟨i, hi⟩ := hall p (List.mem_of_getElem? e1)
      rw [← e2, hi] at hk
      have hk : keyIs (.inl i) v = true := hk
      rcases keyIs_shape hk with ⟨i', t, e3, e4⟩ | ⟨x', t, e3, _⟩
      · cases e3
        refine ⟨i, t, e4, ?_⟩
        unfold keysI
        rw [List.getElem?_map, e1]
        simp [hi]
      · cases e3
    have go : ∀ (us : List Value) (ns : List Int), us.length = ns.length → (∀ (j : Nat) v, us[j]? = some v → ∃ i t, v = Value.int i t ∧ ns[j]? = some i) → IntsAre us ns := by
      intro us
      induction us with
      | nil => intro ns hl _; cases ns with | nil => exact .nil | cons _ _ => simp at hl
      | cons u us ih =>
        intro ns hl k
        cases ns with
        | nil => simp at hl
        | cons n ns =>
          obtain ⟨i, t, rfl, e⟩ := k 0 u rfl
          simp at e
          subst e
          exact .cons n t (ih ns (by simpa using hl) fun j v e => by
            obtain ⟨i, t, e1, e2⟩ := k (j + 1) v (by simpa using e)
            exact ⟨i, t, e1, by simpa using e2⟩)
    refine go _ _ ?_ all
    unfold keysI
    rw [List.length_map, hl, hlen]
  refine wpAny_bind (wpAny_newList ?_ (by rw [hl, ← hlen, sizeLine_eq]; omega))
  have hoL : (h'.push (seqObj "list" acc.toList.toArray 0)).get? h'.objs.size = some (seqObj "list" acc.toList.toArray 0) := Heap.get?_push_size _ rfl
  have I1 : Inv X pins σ H { s with heap := h', toks := tk } := I.kept (t' := tk) hk
  refine wpAny_bind (wpAny_holding (wpAny_call_entry slot_list_sort ⟨_, hoL, rfl⟩ entry_list_sort (PySem.Tim.sort_all hoL hI hnd (by rw [hl, ← hlen, sizeLine_eq]; omega) fun out ns' a1 a2 a3 => ⟨_, rfl, ?_⟩) (args_list_sort _)))
  obtain rfl := Nm.srt_one a2 a3
  obtain ⟨e, he⟩ := sortedHeap_at (out := out) hoL
  have fr := I1.hok.fresh (a := h'.objs.size) (Nat.le_refl _)
  refine wpAny_pure ⟨_, rfl, .ref h'.objs.size, _, I1.laid (t' := tk) (fun b o eb => ?_) (Nat.le_refl _) (o := .lst (List.map V.int (Nm.srt (keysI kvs)))) ⟨?_, out.toList, e, vals_ints_of a1, ?_⟩, rfl, q _ fr⟩
  · rw [sortedHeap_old (Nat.ne_of_lt (Heap.lt_size eb)) (by rw [Heap.size_push]; exact Nat.lt_succ_of_lt (Heap.lt_size eb))]
    exact Heap.get?_push_of_some _ eb
  · rw [List.length_map, Nm.srt_length, sizeLine_eq]
    unfold keysI
    rw [List.length_map]
    omega
  · exact he
theorem call_sorted_dNK (hc : X.calm = true := by rfl) : CallR X (.builtin "sorted") (fun xs H Q => ∃ d kvs, xs = [.ref d] ∧ Rd H d (.dK kvs) ∧ allI kvs ∧ (keysI kvs).Nodup ∧ kvs.length ≤ 10000 ∧ ∀ l, H l = none → Q (.ref l) (upd H l (.lst (List.map V.int (Nm.srt (keysI kvs)))))) := call_sorted_dN hc
end
end L2
namespace L2
open PySem PySem.Spec PyProof.Rows
section
variable {X : Cx} {k k2 : Nat} {x x2 : Str} {ps ps2 : List Str} {sp sp2 : Sp} {e e2 : Expr} {es es2 : List Expr} {t t2 : TA} {p pos p2 pos2 : Pos} {cx n : Str} {np hpos epos epos2 tpos ipos : Pos} {b₀ : Stmt} {suite : List Stmt} {i : Nat} {ts : TS} {C2 : Addr} {c : Expr} {tc : TT}
end
end L2
namespace L2
open PySem PySem.Spec PyProof.Rows
structure MkCal (P : Program) (w : World) (K : PySem.W.Frag) (mg : Str → Option Value) (base : Heap) (CX : CXT) (k : Nat) (x : Str) (C : Addr) (ps : List Str) (sp : Sp) : Prop where
  ex : ∃ f fd, Mk K C f ∧ FnOk P w K mg base CX k f fd ps sp ∧ mg x = some (.ref C) ∧ Binds K fd ps []
section
variable {X : Cx}
end
structure DnI (K : PySem.W.Frag) (mg : Str → Option Value) (x qual : Str) (st : Stmt) (C : Addr) : Prop where
  ex : ∃ f fd, Fun K "__init__" qual st f fd ∧ Mk K C f ∧ mg x = some (.ref C)
end L2
namespace L2
open PySem PySem.Spec PyProof.Rows
noncomputable instance decPyData : DecidableEq PyData := fun _ _ => Classical.propDecidable _
mutual
noncomputable def hsh : PyData → Bool
  | .int _ => true
  | .str x => PyData.canLay0 (.str x)
  | .tuple xs => hshL xs
  | _ => false
noncomputable def hshL : List PyData → Bool
  | [] => true
  | x :: xs => hsh x && hshL xs
end
mutual
noncomputable def hashP (w : World) : PyData → Int
  | .int i => keyH w (.inl i)
  | .str x => keyH w (.inr x)
  | .tuple xs => reduceHash (Builtin.Tuple.tupleHashOf (hashL w xs))
  | _ => 0
noncomputable def hashL (w : World) : List PyData → List Int
  | [] => []
  | x :: xs => hashP w x :: hashL w xs
end
mutual
noncomputable def drw : PyData → Nat
  | .tuple xs => drwL xs + 1
  | _ => 1
noncomputable def drwL : List PyData → Nat
  | [] => 0
  | x :: xs => drw x + drwL xs
end
section
variable {prog : Program} {w : World}
noncomputable def PH (prog : Program) (w : World) (m : Nat) (h : Heap) (d : PyData) (v : Value) : Prop := ∀ (A : Around) (E : Value → Shared → Prop) (s : Shared) (Q : Int → Shared → Prop), s.heap = h → A.units + m < cLine →
  Q (hashP w d) { s with toks := s.toks + drw d } → wpAny (model prog w) A (pyHash v) Q E s
inductive PHs (prog : Program) (w : World) (m : Nat) (h : Heap) : List PyData → List Value → Prop
  | nil : PHs prog w m h [] []
  | cons {d v ds vs} : PH prog w m h d v → PHs prog w m h ds vs → PHs prog w m h (d :: ds) (v :: vs)
end
end L2
namespace PySem.Sts
open PySem PyProof.Rows
noncomputable def Rise (xs : Array Nat) : Prop := xs.toList.Pairwise (· < ·)
theorem Rise.lt {xs : Array Nat} (r : Rise xs) {i k x y : Nat} (h : i < k) (ex : xs[i]? = some x) (ey : xs[k]? = some y) : x < y := by
  rw [← Array.getElem?_toList] at ex ey
  obtain ⟨h1, rfl⟩ := List.getElem?_eq_some_iff.mp ex
  obtain ⟨h2, rfl⟩ := List.getElem?_eq_some_iff.mp ey
  exact List.pairwise_iff_getElem.mp r i k h1 h2 h
theorem go_spec {xs : Array Nat} (r : Rise xs) (j : Nat) : ∀ (f lo hi : Nat), hi - lo ≤ f → lo ≤ hi → hi ≤ xs.size → (∀ i x, xs[i]? = some x → i < lo → x < j) → (∀ i x, xs[i]? = some x → hi ≤ i → j ≤ x) →
    SetTable.below.go xs j f lo hi ≤ xs.size ∧ (∀ i x, xs[i]? = some x → i < SetTable.below.go xs j f lo hi → x < j) ∧ (∀ i x, xs[i]? = some x → SetTable.below.go xs j f lo hi ≤ i → j ≤ x)
  | 0, lo, hi, h1, h2, h3, h4, h5 => by
    have e : lo = hi := by omega
    subst e
    rw [SetTable.below.go]
    exact ⟨h3, h4, h5⟩
  | f + 1, lo, hi, h1, h2, h3, h4, h5 => by
    rw [SetTable.below.go]
    by_cases c : lo < hi
    · rw [if_pos c]
      have hm : (lo + hi) / 2 < xs.size := by omega
      have em : xs[(lo + hi) / 2]? = some xs[(lo + hi) / 2] := Array.getElem?_eq_getElem hm
      have eg : xs.getD ((lo + hi) / 2) j = xs[(lo + hi) / 2] := by rw [Array.getD_eq_getD_getElem?, em]; rfl
      dsimp only
      rw [eg]
      by_cases d : xs[(lo + hi) / 2] < j
      · rw [if_pos d]
        refine go_spec r j f _ _ (by omega) (by omega) h3 (fun i x ex hi' => ?_) h5
        by_cases q : i = (lo + hi) / 2
        · subst q
          rw [em] at ex
          cases ex
          exact d
        · exact Nat.lt_trans (r.lt (by omega) ex em) d
      · rw [if_neg d]
        refine go_spec r j f _ _ (by omega) (by omega) (by omega) h4 (fun i x ex hi' => ?_)
        by_cases q : i = (lo + hi) / 2
        · subst q
          rw [em] at ex
          cases ex
          omega
        · have := r.lt (show (lo + hi) / 2 < i by omega) em ex
          omega
    · rw [if_neg c]
      have e : lo = hi := by omega
      subst e
      exact ⟨h3, h4, h5⟩
theorem below_spec {xs : Array Nat} (r : Rise xs) (j : Nat) : SetTable.below xs j ≤ xs.size ∧ (∀ i x, xs[i]? = some x → i < SetTable.below xs j → x < j) ∧ (∀ i x, xs[i]? = some x → SetTable.below xs j ≤ i → j ≤ x) := by
  unfold SetTable.below
  exact go_spec r j _ _ _ (by omega) (by omega) (Nat.le_refl _) (fun _ _ _ h => absurd h (Nat.not_lt_zero _)) (fun i x ex hi => by
    have := (Array.getElem?_eq_some_iff.mp ex).1
    omega)
theorem below_at {xs : Array Nat} (r : Rise xs) {i j : Nat} (h : xs[i]? = some j) : SetTable.below xs j = i := by
  obtain ⟨h1, h2, h3⟩ := below_spec r j
  have hi := (Array.getElem?_eq_some_iff.mp h).1
  by_cases c : i < SetTable.below xs j
  · exact absurd (h2 _ _ h c) (Nat.lt_irrefl _)
  · by_cases d : SetTable.below xs j = i
    · exact d
    · have e : xs[SetTable.below xs j]? = some xs[SetTable.below xs j] := Array.getElem?_eq_getElem (by omega)
      have := r.lt (show SetTable.below xs j < i by omega) e h
      have := h3 _ _ e (Nat.le_refl _)
      omega
theorem below_next {xs : Array Nat} (r : Rise xs) {i j : Nat} (h : xs[i]? = some j) : SetTable.below xs (j + 1) = i + 1 := by
  obtain ⟨h1, h2, h3⟩ := below_spec r (j + 1)
  have hi := (Array.getElem?_eq_some_iff.mp h).1
  by_cases c : i < SetTable.below xs (j + 1)
  · by_cases d : SetTable.below xs (j + 1) = i + 1
    · exact d
    · have e : xs[i + 1]? = some xs[i + 1] := Array.getElem?_eq_getElem (by omega)
      have := h2 _ _ e (by omega)
      have := r.lt (Nat.lt_succ_self i) h e
      omega
  · have := h3 _ _ h (by omega)
    omega
theorem below_zero (xs : Array Nat) (r : Rise xs) : SetTable.below xs 0 = 0 := by
  obtain ⟨h1, h2, h3⟩ := below_spec r 0
  by_cases c : SetTable.below xs 0 = 0
  · exact c
  · have e : xs[0]? = some xs[0] := Array.getElem?_eq_getElem (by omega)
    have := h2 0 _ e (by omega)
    omega
theorem insert_rise {xs : Array Nat} (r : Rise xs) {j : Nat} (h : ∀ i : Nat, xs[i]? ≠ some j) : Rise (SetTable.insertAt xs (SetTable.below xs j) j) := by
  obtain ⟨h1, h2, h3⟩ := below_spec r j
  unfold Rise SetTable.insertAt
  generalize SetTable.below xs j = p at *
  have e1 : (xs.extract 0 p).toList = xs.toList.take p := by simp
  have e2 : (xs.extract p xs.size).toList = xs.toList.drop p := by
    simp only [Array.toList_extract, List.extract_eq_take_drop]
    exact List.take_of_length_le (by simp)
  rw [Array.toList_append, Array.toList_push, e1, e2, List.append_assoc]
  have at1 : ∀ x ∈ xs.toList.take p, x < j := fun x hx => by
    obtain ⟨i, hi⟩ := List.getElem?_of_mem hx
    rw [List.getElem?_take] at hi
    split at hi
    · exact h2 i x (by rw [← Array.getElem?_toList]; exact hi) (by assumption)
    · cases hi
  have at2 : ∀ x ∈ xs.toList.drop p, j < x := fun x hx => by
    obtain ⟨i, hi⟩ := List.getElem?_of_mem hx
    rw [List.getElem?_drop] at hi
    rw [Array.getElem?_toList] at hi
    have := h3 _ x hi (Nat.le_add_right _ _)
    have := h (p + i)
    have : x ≠ j := fun e => by subst e; exact this hi
    omega
  refine List.pairwise_append.mpr ⟨List.Pairwise.take r, List.pairwise_append.mpr ⟨List.pairwise_singleton _ _, List.Pairwise.drop r, fun x hx y hy => ?_⟩, fun x hx y hy => ?_⟩
  · rw [List.mem_singleton.mp hx]
    exact at2 y hy
  · rcases List.mem_append.mp hy with hy | hy
    · rw [List.mem_singleton.mp hy]
      exact at1 x hx
    · exact Nat.lt_trans (at1 x hx) (at2 y hy)
noncomputable def TP (L : Bool) (t : SetTable) : Prop := Rise t.place ∧ t.led = L
theorem standIn_ok {L : Bool} {t : SetTable} (h : TP L t) (n : Nat) : TP L (t.standIn n) := by
  refine ⟨?_, h.2⟩
  unfold Rise SetTable.standIn
  dsimp only
  rw [Array.toList_range]
  exact List.pairwise_lt_range
theorem notlive {t : SetTable} (r : Rise t.place) {j : Nat} (h : ∀ i, t.slot j ≠ .live i) (i : Nat) : t.place[i]? ≠ some j := fun e => by
  have b := below_at r e
  refine h i ?_
  unfold SetTable.slot
  dsimp only
  rw [b, e]
  simp
theorem probe_ok {t : SetTable} {f : Nat → Int} {h : Int} : ∀ {n : Nat} {p : SetTable.Probe} {j : Nat} {d : Option Nat}, (∀ x, p.dummy = some x → t.slot x = .dummy) → SetTable.probe.go t f h n p = some (.empty j d) → t.slot j = .empty ∧ ∀ x, d = some x → t.slot x = .dummy
  | 0, p, j, d, _, e => by rw [SetTable.probe.go] at e; cases e
  | n + 1, p, j, d, hd, e => by
    rw [SetTable.probe.go] at e
    have adv : ∀ q : SetTable.Probe, (t.advance q).dummy = q.dummy := fun q => by
      unfold SetTable.advance
      split <;> rfl
    cases c : t.slot p.j with
    | empty =>
      rw [c] at e
      cases e
      exact ⟨c, hd⟩
    | dummy =>
      rw [c] at e
      exact probe_ok (fun x hx => by rw [adv] at hx; cases hx; exact c) e
    | live i =>
      rw [c] at e
      dsimp only at e
      split at e
      · cases e
      · exact probe_ok (fun x hx => hd x (by rw [adv] at hx; exact hx)) e
theorem layNew_ok {L : Bool} {t : SetTable} (h : TP L t) (es : Array (Int × Value)) (k : Int) (x : Value) : TP L (layNew t es k x).2.1 := by
  unfold layNew
  cases c : t.freeSlot k with
  | none => exact standIn_ok h _
  | some p =>
    obtain ⟨slot, wd⟩ := p
    have nl : ∀ i, t.slot slot ≠ .live i := by
      unfold SetTable.freeSlot at c
      cases q : t.probe (fun _ => k + 1) k (t.probeStart k) with
      | none => rw [q] at c; cases c
      | some m =>
        rw [q] at c
        cases m with
        | candidate a b d => cases c
        | empty j d =>
          have z := probe_ok (t := t) (p := t.probeStart k) (fun x hx => by cases hx) (show SetTable.probe.go t _ k _ _ = _ from q)
          dsimp only at c
          cases d with
          | none => cases c; intro i; rw [show t.slot (Option.getD none j) = .empty from z.1]; exact fun e => by cases e
          | some y => cases c; intro i; rw [show t.slot (Option.getD (some y) j) = .dummy from z.2 y rfl]; exact fun e => by cases e
    have hp : TP L (t.put slot).1 := ⟨insert_rise h.1 (notlive h.1 nl), h.2⟩
    show TP L ((t.put slot).1.orStandIn _)
    unfold SetTable.orStandIn
    split
    · exact hp
    · exact standIn_ok hp _
theorem relay_ok {L : Bool} {t : SetTable} (h : TP L t) (es : Array (Int × Value)) (n : Nat) : TP L (relayAll t es n).2.1 := by
  unfold relayAll
  cases c : t.relaid (es.map (·.1)) n with
  | none => exact standIn_ok h _
  | some p =>
    obtain ⟨t', order⟩ := p
    dsimp only
    split
    · unfold SetTable.relaid SetTable.laid at c
      cases q : SetTable.layClean (SetTable.sizeAbove n - 1) (es.map (·.1)) with
      | none => rw [q] at c; cases c
      | some owner =>
        rw [q] at c
        cases c
        refine ⟨?_, h.2⟩
        show List.Pairwise _ (List.map _ _)
        rw [List.pairwise_map]
        refine List.Pairwise.filterMap _ (fun a a' ha b hb b' hb' => ?_) List.pairwise_lt_range
        obtain ⟨_, _, rfl⟩ := Option.map_eq_some_iff.mp hb
        obtain ⟨_, _, rfl⟩ := Option.map_eq_some_iff.mp hb'
        exact ha
    · exact standIn_ok h _
theorem fresh_ok (L : Bool) : TP L (.fresh 0 0 L) := ⟨by unfold Rise SetTable.fresh; exact List.Pairwise.nil, rfl⟩
end PySem.Sts
namespace PySem.Sts
open PySem PyProof.Rows
noncomputable def Tb (L : Bool) (h : Heap) (a : Addr) : Prop := ∃ o es ep t, h.get? a = some o ∧ o.data = .set es ep t ∧ TP L t
theorem Tb.keep {L : Bool} {h h' : Heap} {a : Addr} (x : Tb L h a) (k : ∀ o, h.get? a = some o → h'.get? a = some o) : Tb L h' a := by
  obtain ⟨o, es, ep, t, e, r⟩ := x
  exact ⟨o, es, ep, t, k _ e, r⟩
section
variable {prog : Program} {w : World} {K : Type} [DecidableEq K] {knd : KeyKind prog w K} {A : Around} {E : Value → Shared → Prop} {s : Shared} {L : Bool}
theorem store_tb {h : Heap} {a : Addr} {o : Obj} {es : Array (Int × Value)} {ep : Nat} {t : SetTable} (ho : h.get? a = some o) (hd : o.data = .set es ep t) {es' : Array (Int × Value)} {t' : SetTable} (tp : TP L t') : Tb L (h.update a (Obj.putSet es' t')) a := by
  have := Heap.get?_update_self (Obj.putSet es' t') ho (by rw [putSet_of es' t' hd]; rfl)
  rw [putSet_of es' t' hd] at this
  exact ⟨_, es', ep + 1, t', this, rfl, tp⟩
theorem add_tail {g : Bool → Sem Unit} (hg : ∀ (b : Bool) (s₁ : Shared) (Q' : Unit → Shared → Prop), Q' () s₁ → wpAny (model prog w) A (g b) Q' E s₁)
    {a : Addr} {o : Obj} {es : Array (Int × Value)} {ep : Nat} {t : SetTable} (ho : s.heap.get? a = some o) (hex : o.ExactSet) (hd : o.data = .set es ep t)
    {es1 : Array (Int × Value)} {t2 : SetTable} {S' : K → Bool} (hel1 : ElemsOf knd es1.toList) (hmem1 : ∀ k', S' k' = true ↔ ∃ e ∈ es1.toList, knd.is k' e.2 = true)
    (hb1 : es1.size < scanBound) (hf2 : t2.fits es1.size = true) (tp2 : TP L t2) {wasDummy : Bool} {R : Option Bool → Shared → Prop}
    (h : ∀ h', Heap.SameBut a s.heap h' → h'.SetOf knd a S' es1.size → Tb L h' a → R (some true) { s with heap := h' }) :
    wpAny (model prog w) A (do
        storeSet a es1 t2
        if (!wasDummy && t2.tooFull) = true then do
            g (relayAll t2 es1 (SetTable.grown es1.size)).2.2
            storeSet a (relayAll t2 es1 (SetTable.grown es1.size)).1 (relayAll t2 es1 (SetTable.grown es1.size)).2.1
            pure (some true)
          else pure (some true)) R E s := by
  obtain ⟨ho1, hS1⟩ := SetOf_store (knd := knd) ho hex hd hel1 hmem1 hb1 hf2
  have hsb1 := Heap.SameBut.update s.heap a (Obj.putSet es1 t2)
  refine wpAny_bind (wpAny_storeSet_of ho hd ?_ (fits_of_scanBound hb1))
  split
  · have tp3 := relay_ok tp2 es1 (SetTable.grown es1.size)
    have hp := relayAll_perm t2 es1 (SetTable.grown es1.size)
    have hfr := relayAll_fits t2 es1 (SetTable.grown es1.size)
    generalize relayAll t2 es1 (SetTable.grown es1.size) = Rl at hp hfr tp3 ⊢
    obtain ⟨es2, t3, gave2⟩ := Rl
    dsimp only at hp hfr tp3 ⊢
    have hsz : es2.size = es1.size := by rw [← Array.length_toList, hp.length_eq, Array.length_toList]
    obtain ⟨_, hS2⟩ := SetOf_store (knd := knd) (S' := S') ho1 hex rfl (hel1.perm hp) (fun k' => (hmem1 k').trans ⟨fun ⟨e, he, q⟩ => ⟨e, hp.mem_iff.mpr he, q⟩, fun ⟨e, he, q⟩ => ⟨e, hp.mem_iff.mp he, q⟩⟩) (by rw [hsz]; exact hb1) hfr
    rw [hsz] at hS2
    exact wpAny_bind (hg _ _ _ (wpAny_bind (wpAny_storeSet_of ho1 rfl (wpAny_pure (h _ (hsb1.trans (Heap.SameBut.update _ a _)) hS2 (store_tb ho1 rfl tp3))) (fits_of_scanBound (by rw [hsz]; exact hb1)))))
  · exact wpAny_pure (h _ hsb1 hS1 (store_tb ho hd tp2))
theorem add_hashed {a : Addr} {S : K → Bool} {n : Nat} {k : K} {x : Value} {Q : Bool → Shared → Prop} (hkey : knd.is k x = true) (hsc : x.scannable = true) (hS : s.heap.SetOf knd a S n) (tb : Tb L s.heap a) (hroom : n + 1 < scanBound)
    (h : ∀ h', Heap.SameBut a s.heap h' → h'.SetOf knd a (fun k' => S k' || decide (k' = k)) (if S k then n else n + 1) → Tb L h' a → Q (!S k) { s with heap := h' }) :
    wpAny (model prog w) A (setAddHashed a x (knd.hash k)) Q E s := by
  obtain ⟨o, es, ep, t, ho, hex, hd, hel, hmem, hb, hf, hn⟩ := hS
  have tp : TP L t := by
    obtain ⟨o', es', ep', t', e1, e2, e3⟩ := tb
    rw [ho] at e1
    cases e1
    rw [hd] at e2
    cases e2
    exact e3
  unfold setAddHashed setAddHashedIn
  refine wpAny_holding (wpAny_bind (wpAny_setState_of ho hd hf ?_))
  dsimp only
  rw [byScan_of hsc hb hel]
  simp only [↓reduceIte]
  unfold setAddByScan
  refine wpAny_bind (wpAny_bind (wpAny_rule (wpAny_bind (wpAny_setScan_of hkey ho hd hf hel ?_))))
  cases hr : List.findIdx? (fun e => knd.is k e.2) es.toList with
  | some j =>
    dsimp only
    obtain ⟨hj, hpj, _⟩ := List.findIdx?_eq_some_iff_getElem.mp hr
    have hSk : S k = true := (hmem k).mpr ⟨es.toList[j], List.getElem_mem hj, hpj⟩
    have this := h s.heap (Heap.SameBut.refl a s.heap) ⟨o, es, ep, t, ho, hex, hd, hel, fun k' => by
      rw [Bool.or_eq_true, decide_eq_true_eq, ← hmem k']
      exact ⟨fun hk => hk.elim id (fun e => e ▸ hSk), .inl⟩, hb, hf, by rw [hSk]; exact hn⟩ tb
    rw [hSk] at this
    have e : s = { s with heap := s.heap } := by cases s; rfl
    rw [e]
    exact wpAny_pure (wpAny_pure this)
  | none =>
    dsimp only
    have hSk : S k = false := by
      cases hk : S k with
      | false => rfl
      | true =>
        obtain ⟨e, he, hp⟩ := (hmem k).mp hk
        have := List.findIdx?_eq_none_iff.mp hr e he
        rw [hp] at this
        cases this
    have hgw : ∀ (b : Bool) {s₁ : Shared} {Q' : Unit → Shared → Prop}, Q' () s₁ → wpAny (model prog w) A (match b with | true => rule "set.scan.the-table-gave-way" | false => pure ()) Q' E s₁ :=
      fun b s₁ Q' hq => by cases b <;> first | exact wpAny_pure hq | exact wpAny_rule hq
    have tp1 := layNew_ok tp es (knd.hash k) x
    have hperm := layNew_perm t es (knd.hash k) x
    have hfits := layNew_fits t es (knd.hash k) x
    generalize layNew t es (knd.hash k) x = W at hperm hfits tp1 ⊢
    obtain ⟨es1, t1, wasDummy, gave⟩ := W
    dsimp only at hperm hfits tp1 ⊢
    rw [Array.toList_push] at hperm
    have hsz1 : es1.size = n + 1 := by rw [← Array.length_toList, hperm.length_eq, List.length_append, Array.length_toList, hn]; rfl
    have hend : ∀ h', Heap.SameBut a s.heap h' → h'.SetOf knd a (fun k' => S k' || decide (k' = k)) es1.size → Tb L h' a → Q true { s with heap := h' } := fun h' hsb hS' tb' => by
      have := h h' hsb
      rw [hSk] at this
      rw [hsz1] at hS'
      exact this hS' tb'
    have hel1 := (hel.push hkey hsc).perm hperm
    have hmem1 := mem_push_iff hkey hmem hperm
    have hb1 : es1.size < scanBound := by rw [hsz1]; exact hroom
    refine wpAny_bind (hgw _ ?_)
    split
    · refine wpAny_bind ?_
      rw [hashByValue_scannable 8 hsc]
      refine wpAny_pure (add_tail (L := L) ?_ ho hex hd hel1 hmem1 hb1 ?_ ?_ ?_)
      · intro b s₁ Q' hq; cases b <;> first | exact wpAny_pure hq | exact wpAny_rule hq
      · split
        · exact hfits
        · exact SetTable.fits_plain_off hfits
      · split
        · exact tp1
        · exact ⟨tp1.1, tp1.2⟩
      · intro h' hsb hS' tb'; dsimp only; exact wpAny_pure (hend h' hsb hS' tb')
    · refine wpAny_bind (wpAny_pure ?_)
      simp only [↓reduceIte]
      refine add_tail (L := L) ?_ ho hex hd hel1 hmem1 hb1 hfits tp1 ?_
      · intro b s₁ Q' hq; cases b <;> first | exact wpAny_pure hq | exact wpAny_rule hq
      · intro h' hsb hS' tb'; dsimp only; exact wpAny_pure (hend h' hsb hS' tb')
end
end PySem.Sts
namespace PySem.Sts
open PySem PyProof.Rows
section
variable {prog : Program} {w : World} {A : Around} {R : Result → Shared → Prop} {I : Addr} {fp wr : List Addr} {G : Array GenState → Array GenState → Prop} {n : Nat} {P : Nat → Value → Prop} {St : Nat → Shared → Prop} {L : Bool}
theorem upd_loop (W : WalksS prog w A.in1 I fp wr G n P St) (S : Addr) (hSf : S ∉ fp) (val : Nat → Int) (hval : ∀ i v, P i v → ∃ t, v = .int (val i) t) (hb : n + 1 < scanBound) :
    ∀ (k i : Nat) (s : Shared), n - i = k → i ≤ n → St i s → s.heap.SetOf (intKind prog w) S (fun k' => (firstMet val i).any (· == k')) (firstMet val i).length → Tb L s.heap S →
      (∀ s', Moved (S :: wr) G s s' → s'.heap.SetOf (intKind prog w) S (fun k' => (firstMet val n).any (· == k')) (firstMet val n).length → Tb L s'.heap S → R (.ok (.ret .none)) s') →
      codeAny (model prog w) A (.builtin "set.update.loop" ⟨[.ref S, .ref I], []⟩) R s := by
  have hSw : S ∉ wr := fun h => hSf (W.sub _ h)
  intro k
  induction k with
  | zero =>
    intro i s hk hi hst hS tb hR
    obtain rfl : i = n := by omega
    refine codeAny_builtin PyProof.Rows.F.entry_set_update_loop ?_
    rw [Around.under_plainId PyProof.Rows.F.plain_set_update_loop _]
    show wpAny _ A.in1 (pyNext (.ref I) >>= _) _ _ s
    refine wpAny_bind (W.done s _ _ hst fun s' hm => wpAny_pure (hR s' (hm.mono fun b hb => List.mem_cons_of_mem _ hb) ?_ (tb.keep fun o e => hm.heap S _ hSw e)))
    obtain ⟨o, es, ep, t, ho, rest⟩ := hS
    exact ⟨o, es, ep, t, hm.heap S _ hSw ho, rest⟩
  | succ k ih =>
    intro i s hk hi hst hS tb hR
    have hlt : i < n := by omega
    refine codeAny_builtin PyProof.Rows.F.entry_set_update_loop ?_
    rw [Around.under_plainId PyProof.Rows.F.plain_set_update_loop _]
    show wpAny _ A.in1 (pyNext (.ref I) >>= _) _ _ s
    refine wpAny_bind (W.item i s _ _ hlt hst fun v s' hP hst' hm => ?_)
    obtain ⟨t, rfl⟩ := hval i v hP
    have hS' : s'.heap.SetOf (intKind prog w) S (fun k' => (firstMet val i).any (· == k')) (firstMet val i).length := by
      obtain ⟨o, es, ep, tb, ho, rest⟩ := hS
      exact ⟨o, es, ep, tb, hm.heap S _ hSw ho, rest⟩
    have tb' := tb.keep fun o e => hm.heap S _ hSw e
    show wpAny _ A.in1 (holding [Value.int (val i) t] (setAdd S (.int (val i) t)) >>= _) _ _ s'
    refine wpAny_bind (wpAny_holding ?_)
    unfold setAdd
    refine wpAny_holding (wpAny_bind ((intKind prog w).pyHash (k := val i) (intKind_is _ _ _ _) ?_))
    have hroom : (firstMet val i).length + 1 < scanBound := by have := firstMet_length_le val i; omega
    refine add_hashed (knd := intKind prog w) (s := { s' with toks := s'.toks + 1 }) (L := L) (intKind_is _ _ _ _) rfl hS' tb' hroom fun h' hsb hS2 tb2 => ?_
    have hSi : h'.SetOf (intKind prog w) S (fun k' => (firstMet val (i + 1)).any (· == k')) (firstMet val (i + 1)).length :=
      SetOf_congr hS2 (fun k' => by rw [firstMet_succ, step_any]) (by rw [firstMet_succ, step_length])
    refine wpAny_pure ⟨plainId_quiet PyProof.Rows.F.plain_set_update_loop _, ih (i + 1) _ (by omega) hlt (W.frame _ s' _ _ hst' (Nat.le_succ _) fun b hb o e => ?_) hSi tb2 fun s'' hm'' hS'' tb'' => ?_⟩
    · rw [hsb.2 b (fun h : b = S => hSf (by rw [← h]; exact hb))]; exact e
    · refine hR s'' (Moved.trans W.gtrans ((hm.mono fun b hb => List.mem_cons_of_mem _ hb).then_heap (Nat.le_succ _) fun b o hb e => ?_) hm'') hS'' tb''
      rw [hsb.2 b (fun h : b = S => hb (by rw [h]; exact List.mem_cons_self))]; exact e
end
section
variable {prog : Program} {w : World} {A : Around} {E : Value → Shared → Prop} {s : Shared}
noncomputable def ledBy (w : World) : Bool := !(w.params.followText "set-order")
noncomputable def set0 (w : World) : Obj := { cls := .type "set", dict := none, data := .set #[] 0 (.fresh 0 0 (ledBy w)) }
theorem new_led (a : Value) {Q₁ : Value → Shared → Prop} (h : Q₁ (.ref s.heap.objs.size) { s with heap := s.heap.push (set0 w) }) :
    codeAny (model prog w) A (.call (.builtin "set.__new__") ⟨[.type "set", a], []⟩) (wants Q₁ E) s := by
  refine codeAny_of_tree ?_
  show wpAny _ A.in1 (do checkBuiltinCall "set.__new__" ⟨[.type "set", a], []⟩; again (.builtin "set.__new__" ⟨[.type "set", a], []⟩)) _ _ s
  refine wpAny_bind (wpAny_of_eq (PySem.F.newCall_set_1 a) (wpAny_pure ⟨plainId_quiet PySem.F.plain_set_new _, codeAny_builtin PySem.F.entry_set_new ?_⟩))
  rw [Around.under_plainId PySem.F.plain_set_new _]
  unfold Builtin.«set.__new__» Builtin.Frozenset.newClass
  have hsub := sub_set_self
  obtain ⟨hp, g, d, tk, os⟩ := s
  dsimp only
  wp_walk
  refine wpAny_askSetting (wpAny_pure ?_)
  dsimp only
  simp only [newObj]
  refine wpAny_bind (wpAny_alloc (wpAny_pure ?_))
  exact wpAny_pure h
end
end PySem.Sts
namespace PySem.Sts
open PySem PyProof.Rows
section
variable {prog : Program} {w : World} {A : Around} {E : Value → Shared → Prop} {s : Shared}
set_option maxHeartbeats 3200000 in
theorem call_set {l : Addr} {items : Array Value} {ns : List Int} {Q : Value → Shared → Prop} (hh : A.handled = none) (hl : s.heap.IsList l items) (hi : IntsAre items.toList ns) (hb : items.size + 1 < scanBound)
    (h : ∀ (h' : Heap) (tk : Nat), h'.SetOf (intKind prog w) s.heap.objs.size (fun k' => (firstMet (fun i => ns.getD i 0) items.size).any (· == k')) (firstMet (fun i => ns.getD i 0) items.size).length → Tb (ledBy w) h' s.heap.objs.size →
      (∀ b o, b < s.heap.objs.size → s.heap.get? b = some o → h'.get? b = some o) → Q (.ref s.heap.objs.size) { s with heap := h', toks := tk }) :
    wpAny (model prog w) A (call (.type "set") [.ref l]) Q E s := by
  obtain ⟨c, tl, hmro⟩ := PySem.F.called_set.mro
  have hmade := PySem.F.called_set.made
  have hsub := PySem.F.called_set.sub
  refine wpAny_call (codeAny_of_tree ?_)
  show wpAny _ _ (callAny (.type "set") _) _ _ _
  refine wpAny_pure ⟨Code.quiet_builtin _ (by decide +kernel), codeAny_builtin PySem.F.entry_type_call ?_⟩
  rw [Around.under_plain (weight_type_call_type "set" [.ref l] []) rfl]
  have h1 := PySem.F.called_set.notType
  have h2 := PySem.F.called_set.canCreate
  have hct := PySem.F.typeCall_set_1 (.ref l)
  repeat (any_goals (first | assumption | wp_step))
  refine codeAny_mono (new_led (.ref l) (E := E) (Q₁ := fun obj s₁ => obj = .ref s.heap.objs.size ∧ s₁ = { s with heap := s.heap.push (set0 w) }) ⟨rfl, rfl⟩) fun r s₁ hr => ?_
  cases r with
  | error e => exact hr
  | ok fl =>
    cases fl with
    | ret obj =>
      obtain ⟨rfl, rfl⟩ := hr
      have hS : (s.heap.push (set0 w)).get? s.heap.objs.size = some (set0 w) := Heap.get?_push_size _ rfl
      have hT : Shared.TypeIs { s with heap := s.heap.push (set0 w) } (.ref s.heap.objs.size) "set" := ⟨_, hS, rfl⟩
      have hli := PySem.F.called_set.init.lookup
      have hbi := PySem.F.called_set.init.bind (.ref s.heap.objs.size)
      repeat (any_goals (first | assumption | wp_step))
      refine codeAny_mono (codeAny_call_builtin (R := wants (fun r s₂ => r = .none ∧ ∃ h' tk, s₂ = { s with heap := h', toks := tk } ∧
          h'.SetOf (intKind prog w) s.heap.objs.size (fun k' => (firstMet (fun i => ns.getD i 0) items.size).any (· == k')) (firstMet (fun i => ns.getD i 0) items.size).length ∧ Tb (ledBy w) h' s.heap.objs.size ∧
          (∀ b o, b < s.heap.objs.size → s.heap.get? b = some o → h'.get? b = some o)) E) PySem.F.called_set.init.plain PySem.F.entry_set_init (check_set_init_1 hT ?_)) fun r₂ s₂ hr₂ => ?_
      · obtain ⟨ol, hol, hcl, nl, hdl⟩ := hl
        obtain ⟨ocls, odict, odata, oslots⟩ := ol
        simp only at hcl hdl
        subst hcl
        subst hdl
        unfold set0 at *
        have hol' : (s.heap.push { cls := .type "set", dict := none, data := .set #[] 0 (.fresh 0 0 (ledBy w)) }).get? l = some { cls := .type "list", dict := odict, data := .seq items nl, slots := oslots } := Heap.get?_push_of_some _ hol
        have hsls := PySem.F.sub_list_set
        have hslf := PySem.F.sub_list_frozenset
        have hne : (Value.type "list" == Value.type "dict") = false := by decide
        have hl1 : (s.heap.push { cls := .type "set", dict := none, data := .set #[] 0 (.fresh 0 0 (ledBy w)) }).IsList l items := ⟨_, hol', rfl, nl, rfl⟩
        unfold Builtin.«set.__init__» noKeywords Builtin.Frozenset.updateFrom
        generalize hPI : pyIter = PI
        wp_walk
        subst hPI
        refine wpAny_pyIter_list hl1 (wpAny_bind (wpAny_runValue ?_))
        have hlS : l < s.heap.objs.size := Heap.lt_size hol
        have hh3 : A.in1.in1.in1.handled = none := by simp [hh]
        have hneI : l ≠ (s.heap.push { cls := .type "set", dict := none, data := .set #[] 0 (.fresh 0 0 (ledBy w)) }).objs.size := by
          rw [Heap.size_push]; exact Nat.ne_of_lt (Nat.lt_succ_of_lt hlS)
        have hSf : s.heap.objs.size ∉ [(s.heap.push { cls := .type "set", dict := none, data := .set #[] 0 (.fresh 0 0 (ledBy w)) }).objs.size, l] := by
          rw [Heap.size_push]
          simp only [List.mem_cons, List.mem_singleton, List.not_mem_nil, or_false, not_or]
          exact ⟨Nat.ne_of_lt (Nat.lt_succ_self _), Nat.ne_of_gt hlS⟩
        have hget : ((s.heap.push { cls := .type "set", dict := none, data := .set #[] 0 (.fresh 0 0 (ledBy w)) }).push { cls := .type "list_iterator", data := .fields #[.ref l, .int 0 0] }).get? s.heap.objs.size
            = some { cls := .type "set", dict := none, data := .set #[] 0 (.fresh 0 0 (ledBy w)) } := Heap.get?_push_of_some _ hS
        refine upd_loop (L := ledBy w) ((Walks.list hh3 _ l hneI items).toS) s.heap.objs.size hSf (fun i => ns.getD i 0) (fun i v hv => IntsAre.int_at hi i v (by rw [Array.getElem?_toList]; exact hv)) hb (items.size - 0) 0 _ (by omega) (Nat.zero_le _)
          ⟨⟨_, Heap.get?_push_size _ rfl, rfl, rfl⟩, (hl1.push _)⟩ (SetOf_congr ((setObjOf_fresh (knd := intKind prog w) (ledBy w)).setOf hget (by unfold scanBound; omega)) (fun _ => rfl) rfl) ⟨_, _, _, _, hget, rfl, fresh_ok _⟩ fun s' hm hS' tb' => ?_
        obtain ⟨h', g', d', tk', os'⟩ := s'
        have eg : g' = s.gens := hm.gens
        have ed : d' = s.drawn := hm.drawn
        have eo : os' = s.os := hm.os
        subst eg
        subst ed
        subst eo
        show wpAny _ _ _ _ _ _
        refine wpAny_pure ?_
        show wpAny _ _ (ret Value.none) _ _ _
        refine wpAny_pure ⟨rfl, h', tk', rfl, hS', tb', fun b o hb e => ?_⟩
        have hb2 : b ≠ (s.heap.push { cls := .type "set", dict := none, data := .set #[] 0 (.fresh 0 0 (ledBy w)) }).objs.size := by
          rw [Heap.size_push]; exact Nat.ne_of_lt (Nat.lt_succ_of_lt hb)
        exact hm.heap b o (by simp only [List.mem_cons, List.mem_singleton, List.not_mem_nil, or_false, not_or]; exact ⟨Nat.ne_of_lt hb, hb2⟩) (Heap.get?_push_of_some _ (Heap.get?_push_of_some _ e))
      · cases r₂ with
        | error e => exact hr₂
        | ok fl₂ =>
          cases fl₂ with
          | ret r =>
            obtain ⟨rfl, h', tk, rfl, hS', tb', hk'⟩ := hr₂
            repeat (any_goals (first | assumption | wp_step))
            exact h _ _ hS' tb' hk'
          | _ => exact hr₂.elim
    | _ => exact hr.elim
end
end PySem.Sts
namespace PySem.Sts
open PySem PyProof.Rows
theorem slot_next : Slot "set_iterator" "__next__" "set_iterator.__next__" :=
  .of (owner := "set_iterator") (n := "__next__") (by rw [typeLookup_type, builtinLookup_eq_fast]; kernel_rfl) (by decide +kernel) (by decide +kernel) (by decide +kernel)
    (by first | exact .inl (by decide +kernel) | exact .inr (by decide +kernel)) (by rw [isSubtype_type]; kernel_rfl)
theorem entry_next : entryFor table "set_iterator.__next__" = some Builtin.«set_iterator.__next__» := entryFor_of_tree (by kernel_rfl)
theorem owner_it : Manifest.owners.lookup (String.ofList ['r', 'o', 't', 'a', 'r', 'e', 't', 'i', '_', 't', 'e', 's'].reverse) = some Manifest.sig_set_iterator := by kernel_rfl
theorem args_next (a : Value) : argsOk "set_iterator.__next__" ⟨[a], []⟩ := by
  unfold argsOk; rw [signature?_of (id := "set_iterator.__next__") (n := ['_', '_', 't', 'x', 'e', 'n', '_', '_']) (o := ['r', 'o', 't', 'a', 'r', 'e', 't', 'i', '_', 't', 'e', 's']) (by kernel_rfl) owner_it]; kernel_rfl
theorem entry_iter : entryFor table "set.__iter__" = some Builtin.«frozenset.__iter__» :=
  entryFor_alias (id' := "frozenset.__iter__") (by kernel_rfl) rfl (by decide +kernel) (by kernel_rfl)
theorem perm_erase {α : Type} : ∀ (xs : List α) (i : Nat) (h : i < xs.length), (xs[i] :: xs.eraseIdx i).Perm xs
  | x :: xs, 0, _ => by simp
  | x :: xs, i + 1, h => by
    have := perm_erase xs i (by simpa using h)
    simp only [List.getElem_cons_succ, List.eraseIdx_cons_succ]
    exact (List.Perm.swap _ _ _).trans (this.cons x)
theorem pick_go {α : Type} (next : Nat → Nat) : ∀ (f k : Nat) (left : List α) (out : Array α), left.length = f → (pickOrder.go next f k left out).toList.Perm (out.toList ++ left)
  | 0, k, left, out, h => by
    rw [pickOrder.go]
    have : left = [] := List.length_eq_zero_iff.mp h
    subst this
    simp
  | f + 1, k, left, out, h => by
    rw [pickOrder.go]
    have hi : next k % left.length < left.length := Nat.mod_lt _ (by omega)
    rw [List.getElem?_eq_getElem hi]
    dsimp only
    have ih := pick_go next f (k + 1) (left.eraseIdx (next k % left.length)) (out.push left[next k % left.length]) (by rw [List.length_eraseIdx]; split <;> omega)
    refine ih.trans ?_
    rw [Array.toList_push, List.append_assoc]
    exact (perm_erase left _ hi).append_left _
theorem pick_perm {α : Type} (next : Nat → Nat) (xs : Array α) : (pickOrder next xs).toList.Perm xs.toList := by
  unfold pickOrder
  simpa using pick_go next xs.size 0 xs.toList #[] (by simp)
section
variable {prog : Program} {w : World} {A : Around} {E : Value → Shared → Prop} {s : Shared}
theorem wp_choose {src : Source} {n : Nat} {Q : Nat → Shared → Prop} (hn : n ≠ 0) (h : Q (w.draws src (s.drawn.get src) % n) { s with drawn := s.drawn.bump src }) : wpAny (model prog w) A (choose src n) Q E s := fun _ _ _ => ⟨hn, h⟩
theorem draw_order {α : Type} : ∀ (xs : List α) (s : Shared) (Q : List α → Shared → Prop), (∀ ys d, ys.Perm xs → Q ys { s with drawn := d }) → wpAny (model prog w) A (drawOrder xs.length xs) Q E s := by
  have key : ∀ (n : Nat) (xs : List α) (s : Shared) (Q : List α → Shared → Prop), xs.length = n → (∀ ys d, ys.Perm xs → Q ys { s with drawn := d }) → wpAny (model prog w) A (drawOrder n xs) Q E s := by
    intro n
    induction n with
    | zero =>
      intro xs s Q hl h
      have : xs = [] := List.length_eq_zero_iff.mp hl
      subst this
      rw [drawOrder]
      exact wpAny_pure (h [] s.drawn (List.Perm.refl _))
    | succ n ih =>
      intro xs s Q hl h
      cases xs with
      | nil => simp at hl
      | cons x xs =>
        rw [drawOrder]
        · refine wpAny_bind (wp_choose (by simp) ?_)
          have hi : w.draws .order (s.drawn.get .order) % (x :: xs).length < (x :: xs).length := Nat.mod_lt _ (by simp)
          rw [List.getElem?_eq_getElem hi]
          dsimp only
          refine wpAny_bind (ih _ _ _ (by rw [List.length_eraseIdx, if_pos hi]; omega) fun ys d p => wpAny_pure (h _ d ?_))
          exact (p.cons _).trans (perm_erase _ _ hi)
        · intro e
          cases e
  intro xs s Q h
  exact key _ xs s Q rfl h
noncomputable def IsIt (h : Heap) (it : Addr) (first : Value) (i : Nat) (a : Addr) (n ep : Nat) : Prop := ∃ o, h.get? it = some o ∧ o.cls = .type "set_iterator" ∧ o.data = .fields #[first, .int i 0, .ref a, .int n 0, .int ep 0]
theorem IsIt.typeIs {it a : Addr} {first : Value} {i n ep : Nat} (x : IsIt s.heap it first i a n ep) : s.TypeIs (.ref it) "set_iterator" := let ⟨o, ho, hc, _⟩ := x; ⟨o, ho, hc⟩
noncomputable def SetAt (h : Heap) (a : Addr) (es : Array (Int × Value)) (ep : Nat) (t : SetTable) : Prop := ∃ o, h.get? a = some o ∧ o.ExactSet ∧ o.data = .set es ep t
theorem SetAt.keep {h h' : Heap} {a : Addr} {es : Array (Int × Value)} {ep : Nat} {t : SetTable} (x : SetAt h a es ep t) (k : ∀ o, h.get? a = some o → h'.get? a = some o) : SetAt h' a es ep t := let ⟨o, e, r⟩ := x; ⟨o, k _ e, r⟩
theorem next_item {it a : Addr} {es : Array (Int × Value)} {ep : Nat} {t : SetTable} {i slot nx : Nat} {x : Value} {Q : Option Value → Shared → Prop} (hit : IsIt s.heap it (.int slot 0) i a es.size ep) (hS : SetAt s.heap a es ep t) (hf : t.fits es.size = true)
    (hn : ∀ (A : Around) (E : Value → Shared → Prop) (Q' : Option (Value × Nat) → Shared → Prop), Q' (some (x, nx)) s → wpAny (model prog w) A (setNext a slot i ep) Q' E s)
    (hQ : ∀ h', IsIt h' it (.int nx 0) (i + 1) a es.size ep → Heap.SameBut it s.heap h' → Q (some x) { s with heap := h' }) : wpAny (model prog w) A (pyNext (.ref it)) Q E s := by
  obtain ⟨o, ho, hc, hd⟩ := id hit
  obtain ⟨oS, hoS, _, hdS⟩ := id hS
  unfold pyNext
  refine wpAny_bind (wpAny_attempt (wpAny_callSpecial?_slot (name := Str.ofString "__next__") hit.typeIs slot_next (wpAny_call_entry slot_next hit.typeIs entry_next ?_ (args_next _))))
  unfold Builtin.«set_iterator.__next__»
  refine wpAny_bind (wpAny_pure ?_)
  refine wpAny_bind (wpAny_fieldsOf ho hd ?_)
  dsimp only
  refine wpAny_bind (wpAny_setEntries_of hoS hdS hf ?_)
  rw [if_neg (by simp)]
  simp only [Int.toNat_natCast]
  refine wpAny_bind (hn _ _ _ ?_)
  dsimp only
  refine wpAny_bind (wpAny_setField ho hd (by simp) ?_)
  have ho1 := Heap.get?_update_self (Obj.mapFields (·.setIfInBounds 0 (rawInt (nx : Int)))) ho (Obj.isFreed_of_fields (Obj.data_mapFields hd _))
  have hd1 := Obj.data_mapFields hd (·.setIfInBounds 0 (rawInt (nx : Int)))
  refine wpAny_bind (wpAny_setField ho1 hd1 (by simp) (wpAny_pure ⟨_, rfl, wpAny_pure (hQ _ ⟨_, Heap.get?_update_self _ ho1 (Obj.isFreed_of_fields (Obj.data_mapFields hd1 _)), ?_, ?_⟩ ((Heap.SameBut.update ..).trans (Heap.SameBut.update ..)))⟩))
  · exact (Obj.cls_mapFields ..).trans ((Obj.cls_mapFields ..).trans hc)
  · rw [Obj.data_mapFields hd1]
    simp [rawInt]
theorem stop_end {it : Addr} {o : Obj} {vs : Array Value} {Q : Option Value → Shared → Prop} {Q2 : Fin → Shared → Prop} (hh : A.handled = none) (ho : s.heap.get? it = some o) (hd : o.data = .fields vs) (hv : 2 < vs.size)
    (hQ : ∀ h', Heap.ExtBut it s.heap h' → Q none { s with heap := h' }) :
    wpAny (model prog w) A.in1 (do setField (.ref it) 2 .none; raiseNew (← newExc (.type "StopIteration") [])) Q2 (fun e s' => wpAny (model prog w) A (do let b ← isInstance e (.type "StopIteration"); if b = true then pure none else throw e) Q E s') s := by
  refine wpAny_bind (wpAny_setField ho hd hv ?_)
  show wpAny _ _ (newExc (.type "StopIteration") [] >>= _) _ _ _
  refine wpAny_bind ?_
  simp only [newExc, newTuple]
  refine wpAny_bind (wpAny_newObj_type ?_ (by size_fits))
  refine wpAny_bind (m := firstArgMember _ _) (wpAny_of_eq (a := Value.none) (by first | rfl | (simp only [firstArgMember]; rfl)) ?_)
  refine wpAny_newObj_type ?_ (by size_fits)
  simp only [raiseNew]
  refine wpAny_bind (wpAny_handled ?_)
  rw [show A.in1.handled = none from hh]
  refine wpAny_bind (wpAny_pure (wpAny_throw ?_))
  refine wpAny_bind (wpAny_isInstance (T := "StopIteration") (b := true) ⟨_, Heap.get?_push_size _ rfl, rfl⟩ isSubtype_stop ?_)
  exact wpAny_pure (hQ _ (((Heap.SameBut.update ..).extBut.push _).push _))
theorem next_end {it a : Addr} {es : Array (Int × Value)} {ep : Nat} {t : SetTable} {i slot : Nat} {Q : Option Value → Shared → Prop} (hh : A.handled = none) (hit : IsIt s.heap it (.int slot 0) i a es.size ep) (hS : SetAt s.heap a es ep t) (hf : t.fits es.size = true)
    (hn : ∀ (A : Around) (E : Value → Shared → Prop) (Q' : Option (Value × Nat) → Shared → Prop), Q' none s → wpAny (model prog w) A (setNext a slot i ep) Q' E s)
    (hQ : ∀ h', Heap.ExtBut it s.heap h' → Q none { s with heap := h' }) : wpAny (model prog w) A (pyNext (.ref it)) Q E s := by
  obtain ⟨o, ho, hc, hd⟩ := id hit
  obtain ⟨oS, hoS, _, hdS⟩ := id hS
  unfold pyNext
  refine wpAny_bind (wpAny_attempt (wpAny_callSpecial?_slot (name := Str.ofString "__next__") hit.typeIs slot_next (wpAny_call_entry slot_next hit.typeIs entry_next ?_ (args_next _))))
  unfold Builtin.«set_iterator.__next__»
  refine wpAny_bind (wpAny_pure ?_)
  refine wpAny_bind (wpAny_fieldsOf ho hd ?_)
  dsimp only
  refine wpAny_bind (wpAny_setEntries_of hoS hdS hf ?_)
  rw [if_neg (by simp)]
  simp only [Int.toNat_natCast]
  refine wpAny_bind (hn _ _ _ ?_)
  dsimp only
  exact stop_end hh ho hd (by simp) hQ
noncomputable def Pls (h : Heap) (T : Addr) (ps : List Nat) : Prop := ∃ o n, h.get? T = some o ∧ o.data = .seq (ps.map fun i : Nat => rawInt (i : Int)).toArray n
theorem wpAny_seqItemsQ {a : Addr} {o : Obj} {xs : Array Value} {n : Nat} {Q : Option (Array Value) → Shared → Prop} (ho : s.heap.get? a = some o) (hd : o.data = .seq xs n) (h : Q (some xs) s) : wpAny (model prog w) A (seqItems? (.ref a)) Q E s := by
  unfold seqItems?
  refine wpAny_bind (wpAny_load ho ?_)
  rw [hd]
  exact wpAny_pure h
theorem nextD_item {it a T : Addr} {es : Array (Int × Value)} {ep : Nat} {t : SetTable} {i : Nat} {ps : List Nat} {p : Nat} {x : Int × Value} {Q : Option Value → Shared → Prop} (hit : IsIt s.heap it (.ref T) i a es.size ep) (hT : Pls s.heap T ps) (hS : SetAt s.heap a es ep t) (hf : t.fits es.size = true)
    (hp : ps[i]? = some p) (hx : es[p]? = some x)
    (hQ : ∀ h', IsIt h' it (.ref T) (i + 1) a es.size ep → Heap.SameBut it s.heap h' → Q (some x.2) { s with heap := h' }) : wpAny (model prog w) A (pyNext (.ref it)) Q E s := by
  obtain ⟨o, ho, hc, hd⟩ := id hit
  obtain ⟨oS, hoS, _, hdS⟩ := id hS
  obtain ⟨oT, nT, hoT, hdT⟩ := id hT
  unfold pyNext
  refine wpAny_bind (wpAny_attempt (wpAny_callSpecial?_slot (name := Str.ofString "__next__") hit.typeIs slot_next (wpAny_call_entry slot_next hit.typeIs entry_next ?_ (args_next _))))
  unfold Builtin.«set_iterator.__next__»
  refine wpAny_bind (wpAny_pure ?_)
  refine wpAny_bind (wpAny_fieldsOf ho hd ?_)
  dsimp only
  refine wpAny_bind (wpAny_setEntries_of hoS hdS hf ?_)
  rw [if_neg (by simp)]
  try dsimp only
  simp only [Int.toNat_natCast]
  refine wpAny_bind (wpAny_seqItemsQ hoT hdT ?_)
  dsimp only
  rw [show ((ps.map fun i : Nat => rawInt (i : Int)).toArray)[i]? = some (Value.int (p : Int) 0) by rw [List.getElem?_toArray, List.getElem?_map, hp]; rfl]
  dsimp only
  simp only [Int.toNat_natCast]
  unfold setNextDrawn
  refine wpAny_bind (wpAny_bind (wpAny_setState_of hoS hdS hf ?_))
  dsimp only
  rw [if_neg (by simp), hx]
  refine wpAny_pure (wpAny_bind (wpAny_setField ho hd (by simp) (wpAny_pure ⟨_, rfl, wpAny_pure (hQ _ ⟨_, Heap.get?_update_self _ ho (Obj.isFreed_of_fields (Obj.data_mapFields hd _)), (Obj.cls_mapFields ..).trans hc, ?_⟩ (Heap.SameBut.update ..))⟩)))
  rw [Obj.data_mapFields hd]
  simp [rawInt]
theorem nextD_end {it a T : Addr} {es : Array (Int × Value)} {ep : Nat} {t : SetTable} {i : Nat} {ps : List Nat} {Q : Option Value → Shared → Prop} (hh : A.handled = none) (hit : IsIt s.heap it (.ref T) i a es.size ep) (hT : Pls s.heap T ps) (hS : SetAt s.heap a es ep t) (hf : t.fits es.size = true)
    (hp : ps[i]? = none) (hQ : ∀ h', Heap.ExtBut it s.heap h' → Q none { s with heap := h' }) : wpAny (model prog w) A (pyNext (.ref it)) Q E s := by
  obtain ⟨o, ho, hc, hd⟩ := id hit
  obtain ⟨oS, hoS, _, hdS⟩ := id hS
  obtain ⟨oT, nT, hoT, hdT⟩ := id hT
  unfold pyNext
  refine wpAny_bind (wpAny_attempt (wpAny_callSpecial?_slot (name := Str.ofString "__next__") hit.typeIs slot_next (wpAny_call_entry slot_next hit.typeIs entry_next ?_ (args_next _))))
  unfold Builtin.«set_iterator.__next__»
  refine wpAny_bind (wpAny_pure ?_)
  refine wpAny_bind (wpAny_fieldsOf ho hd ?_)
  dsimp only
  refine wpAny_bind (wpAny_setEntries_of hoS hdS hf ?_)
  rw [if_neg (by simp)]
  try dsimp only
  simp only [Int.toNat_natCast]
  refine wpAny_bind (wpAny_seqItemsQ hoT hdT ?_)
  dsimp only
  rw [show ((ps.map fun i : Nat => rawInt (i : Int)).toArray)[i]? = none by rw [List.getElem?_toArray, List.getElem?_map, hp]; rfl]
  dsimp only
  refine wpAny_bind (wpAny_setField ho hd (by simp) ?_)
  have ho1 := Heap.get?_update_self (Obj.mapFields (·.setIfInBounds 0 (rawInt 0))) ho (Obj.isFreed_of_fields (Obj.data_mapFields hd _))
  have hd1 := Obj.data_mapFields hd (·.setIfInBounds 0 (rawInt 0))
  exact stop_end (s := { s with heap := s.heap.update it (Obj.mapFields (·.setIfInBounds 0 (rawInt 0))) }) hh ho1 hd1 (by simp) fun h' e => hQ h' fun b o hb eb => e b o hb ((Heap.SameBut.update ..).extBut b o hb eb)
end
section
variable {prog : Program} {w : World} {A : Around} {E : Value → Shared → Prop} {s : Shared}
theorem next_text {a : Addr} {es : Array (Int × Value)} {ep : Nat} {t : SetTable} {slot i : Nat} {Q : Option (Value × Nat) → Shared → Prop} (hb : w.params.followText "set-order" = true) (hS : SetAt s.heap a es ep t) (hf : t.fits es.size = true)
    (h : Q (((pickOrder (w.params.setOrder a ep) es)[i]?).map fun e => (e.2, slot)) s) : wpAny (model prog w) A (setNext a slot i ep) Q E s := by
  obtain ⟨oS, hoS, _, hdS⟩ := hS
  unfold setNext setsByText
  refine wpAny_bind (wpAny_setState_of hoS hdS hf ?_)
  dsimp only
  refine wpAny_bind (wpAny_bind (wpAny_askSetting (wpAny_pure ?_)))
  rw [if_pos (show ((Setting.mk (model prog w).prog (model prog w).w.params).params.followText "set-order") = true from hb)]
  rw [if_neg (by simp)]
  unfold setWalk setsByText
  refine wpAny_bind (wpAny_bind (wpAny_setState_of hoS hdS hf ?_))
  dsimp only
  refine wpAny_bind (wpAny_bind (wpAny_askSetting (wpAny_pure ?_)))
  rw [if_pos (show ((Setting.mk (model prog w).prog (model prog w).w.params).params.followText "set-order") = true from hb)]
  refine wpAny_bind (wpAny_askSetting (wpAny_pure (wpAny_pure h)))
theorem next_led {a : Addr} {es : Array (Int × Value)} {ep : Nat} {t : SetTable} {slot i : Nat} {Q : Option (Value × Nat) → Shared → Prop} (hb : w.params.followText "set-order" = false) (hl : t.led = true) (hd : t.plain = true ∨ es.size ≤ 1) (hS : SetAt s.heap a es ep t) (hf : t.fits es.size = true)
    (hi : SetTable.below t.place slot = i) (h : Q (match es[i]?, t.place[i]? with | some (_, x), some j => some (x, j + 1) | _, _ => none) s) : wpAny (model prog w) A (setNext a slot i ep) Q E s := by
  obtain ⟨oS, hoS, _, hdS⟩ := hS
  unfold setNext setsByText
  refine wpAny_bind (wpAny_setState_of hoS hdS hf ?_)
  dsimp only
  refine wpAny_bind (wpAny_bind (wpAny_askSetting (wpAny_pure ?_)))
  rw [if_neg (show ¬ ((Setting.mk (model prog w).prog (model prog w).w.params).params.followText "set-order") = true from by rw [show ((Setting.mk (model prog w).prog (model prog w).w.params).params.followText "set-order") = false from hb]; decide)]
  refine wpAny_ite_split (fun c => ?_) (fun _ => ?_)
  · have c : (!t.plain && decide (es.size > 1)) = true := c
    rcases hd with hd | hd
    · rw [hd] at c
      cases c
    · rw [decide_eq_false (by omega), Bool.and_false] at c
      cases c
  · refine wpAny_bind ?_
    show wpAny _ _ (if (!t.led && !es.isEmpty) = true then unsupported "set:maker-not-led" else pure ()) _ _ _
    rw [hl]
    rw [if_neg (by simp)]
    refine wpAny_pure (wpAny_pure ?_)
    rw [hi]
    exact h
end
end PySem.Sts
namespace PySem.Sts
open PySem PyProof.Rows
theorem slot_self : Slot "set_iterator" "__iter__" "set_iterator.__iter__" :=
  .of (owner := "set_iterator") (n := "__iter__") (by rw [typeLookup_type, builtinLookup_eq_fast]; kernel_rfl) (by decide +kernel) (by decide +kernel) (by decide +kernel)
    (by first | exact .inl (by decide +kernel) | exact .inr (by decide +kernel)) (by rw [isSubtype_type]; kernel_rfl)
theorem entry_self : entryFor table "set_iterator.__iter__" = some Builtin.«dict_keyiterator.__iter__» :=
  entryFor_alias (id' := "dict_keyiterator.__iter__") (by kernel_rfl) rfl (by decide +kernel) (by kernel_rfl)
theorem args_self (a : Value) : argsOk "set_iterator.__iter__" ⟨[a], []⟩ := by
  unfold argsOk; rw [signature?_of (id := "set_iterator.__iter__") (n := ['_', '_', 'r', 'e', 't', 'i', '_', '_']) (o := ['r', 'o', 't', 'a', 'r', 'e', 't', 'i', '_', 't', 'e', 's']) (by kernel_rfl) owner_it]; kernel_rfl
section
variable {prog : Program} {w : World} {A : Around} {E : Value → Shared → Prop} {s : Shared}
theorem iter_self {it a : Addr} {first : Value} {i n ep : Nat} {Q : Value → Shared → Prop} (hit : IsIt s.heap it first i a n ep) (h : Q (.ref it) s) : wpAny (model prog w) A (pyIter (.ref it)) Q E s := by
  refine wpAny_pyIter_slot hit.typeIs slot_self (wpAny_call_entry slot_self hit.typeIs entry_self ?_ (args_self _))
  show wpAny _ _ (ret (.ref it)) _ _ s
  exact wpAny_pure ⟨_, rfl, "set_iterator", _, hit.typeIs, slot_next.lookup, h⟩
theorem IsIt.keep {h h' : Heap} {it a : Addr} {first : Value} {i n ep : Nat} (x : IsIt h it first i a n ep) (k : ∀ o, h.get? it = some o → h'.get? it = some o) : IsIt h' it first i a n ep := let ⟨o, e, r⟩ := x; ⟨o, k _ e, r⟩
theorem Pls.keep {h h' : Heap} {T : Addr} {ps : List Nat} (x : Pls h T ps) (k : ∀ o, h.get? T = some o → h'.get? T = some o) : Pls h' T ps := let ⟨o, n, e, r⟩ := x; ⟨o, n, k _ e, r⟩
noncomputable def slotAt (t : SetTable) (i : Nat) : Nat := if i = 0 then 0 else t.place.getD (i - 1) 0 + 1
theorem below_slot {t : SetTable} (r : Rise t.place) {i : Nat} (h : i ≤ t.place.size) : SetTable.below t.place (slotAt t i) = i := by
  unfold slotAt
  by_cases c : i = 0
  · rw [if_pos c, below_zero _ r, c]
  · rw [if_neg c]
    have e : t.place[i - 1]? = some t.place[i - 1] := Array.getElem?_eq_getElem (by omega)
    rw [Array.getD_eq_getD_getElem?, e]
    have := below_next r e
    rw [show (some t.place[i - 1]).getD 0 = t.place[i - 1] from rfl, this]
    omega
theorem fits_size {t : SetTable} {n : Nat} (h : t.fits n = true) : t.place.size = n := by
  unfold SetTable.fits at h
  simp at h
  exact h.1
theorem walk_led {I a : Addr} {es : Array (Int × Value)} {ep : Nat} {t : SetTable} (hh : A.handled = none) (hb : w.params.followText "set-order" = false) (hl : t.led = true) (hd : t.plain = true ∨ es.size ≤ 1) (hf : t.fits es.size = true) (r : Rise t.place) (hne : a ≠ I) :
    Walks prog w A I [I, a] [I] es.size (fun i v => ∃ e, es.toList[i]? = some e ∧ v = e.2) (fun i h => i ≤ es.size ∧ IsIt h I (.int (slotAt t i) 0) i a es.size ep ∧ SetAt h a es ep t) where
  sub := fun b hb => by simp at hb; simp [hb]
  frame := fun _ _ _ st hk => ⟨st.1, st.2.1.keep fun o e => hk I (by simp) o e, st.2.2.keep fun o e => hk a (by simp) o e⟩
  item := fun i s Q E hi st hQ => by
    have hp := fits_size hf
    have e1 : es[i]? = some es[i] := Array.getElem?_eq_getElem hi
    have e2 : t.place[i]? = some (t.place[i]'(by omega)) := Array.getElem?_eq_getElem (by omega)
    refine next_item (t := t) (x := es[i].2) (nx := slotAt t (i + 1)) st.2.1 st.2.2 hf (fun A E Q' hq => next_led hb hl hd st.2.2 hf (below_slot r (by omega)) ?_) fun h' hit' hs' => ?_
    · rw [e1, e2]
      have : slotAt t (i + 1) = t.place[i] + 1 := by
        unfold slotAt
        rw [if_neg (by omega), Nat.add_sub_cancel, Array.getD_eq_getD_getElem?, e2]
        rfl
      rw [this] at hq
      exact hq
    · exact hQ _ h' s.toks ⟨_, by rw [Array.getElem?_toList]; exact e1, rfl⟩ ⟨hi, hit', st.2.2.keep fun o e => hs'.extBut a o hne e⟩ fun b o hb e => hs'.extBut b o (fun h => hb (by simp [h])) e
  done := fun s Q E st hQ => by
    refine next_end (t := t) hh st.2.1 st.2.2 hf (fun A E Q' hq => next_led hb hl hd st.2.2 hf (below_slot r (by rw [fits_size hf]; exact Nat.le_refl _)) ?_) fun h' he' => hQ h' s.toks fun b o hb e => he' b o (fun h => hb (by simp [h])) e
    rw [Array.getElem?_eq_none (Nat.le_refl _)]
    exact hq
  self := fun _ _ _ _ st hQ => iter_self st.2.1 hQ
theorem walk_text {I a : Addr} {es : Array (Int × Value)} {ep : Nat} {t : SetTable} (hh : A.handled = none) (hb : w.params.followText "set-order" = true) (hf : t.fits es.size = true) (hne : a ≠ I) :
    Walks prog w A I [I, a] [I] es.size (fun i v => ∃ e, (pickOrder (w.params.setOrder a ep) es).toList[i]? = some e ∧ v = e.2) (fun i h => IsIt h I (.int (0 : Nat) 0) i a es.size ep ∧ SetAt h a es ep t) where
  sub := fun b hb => by simp at hb; simp [hb]
  frame := fun _ _ _ st hk => ⟨st.1.keep fun o e => hk I (by simp) o e, st.2.keep fun o e => hk a (by simp) o e⟩
  item := fun i s Q E hi st hQ => by
    have hz : (pickOrder (w.params.setOrder a ep) es).size = es.size := by
      have := (pick_perm (w.params.setOrder a ep) es).length_eq
      simpa using this
    have e1 : (pickOrder (w.params.setOrder a ep) es)[i]? = some ((pickOrder (w.params.setOrder a ep) es)[i]'(by omega)) := Array.getElem?_eq_getElem (by omega)
    refine next_item (t := t) (nx := 0) st.1 st.2 hf (fun A E Q' hq => next_text hb st.2 hf (by rw [e1]; exact hq)) fun h' hit' hs' => ?_
    exact hQ _ h' s.toks ⟨_, by rw [Array.getElem?_toList]; exact e1, rfl⟩ ⟨hit', st.2.keep fun o e => hs'.extBut a o hne e⟩ fun b o hb e => hs'.extBut b o (fun h => hb (by simp [h])) e
  done := fun s Q E st hQ => by
    have hz : (pickOrder (w.params.setOrder a ep) es).size = es.size := by
      have := (pick_perm (w.params.setOrder a ep) es).length_eq
      simpa using this
    exact next_end (t := t) hh st.1 st.2 hf (fun A E Q' hq => next_text hb st.2 hf (by rw [Array.getElem?_eq_none (by omega)]; exact hq)) fun h' he' => hQ h' s.toks fun b o hb e => he' b o (fun h => hb (by simp [h])) e
  self := fun _ _ _ _ st hQ => iter_self st.1 hQ
theorem walk_drawn {I a T : Addr} {es : Array (Int × Value)} {ep : Nat} {t : SetTable} {ps : List Nat} (hh : A.handled = none) (hp : ps.Perm (List.range es.size)) (hf : t.fits es.size = true) (hne : a ≠ I) (hnT : T ≠ I) :
    Walks prog w A I [I, a, T] [I] es.size (fun i v => ∃ e, (ps.filterMap (es[·]?))[i]? = some e ∧ v = e.2) (fun i h => IsIt h I (.ref T) i a es.size ep ∧ SetAt h a es ep t ∧ Pls h T ps) where
  sub := fun b hb => by simp at hb; simp [hb]
  frame := fun _ _ _ st hk => ⟨st.1.keep fun o e => hk I (by simp) o e, st.2.1.keep fun o e => hk a (by simp) o e, st.2.2.keep fun o e => hk T (by simp) o e⟩
  item := fun i s Q E hi st hQ => by
    have hl : ps.length = es.size := by simpa using hp.length_eq
    have e1 : ps[i]? = some (ps[i]'(by omega)) := List.getElem?_eq_getElem (by omega)
    have all : ∀ p ∈ ps, p < es.size := fun p h => by simpa using hp.mem_iff.mp h
    have e2 : es[ps[i]'(by omega)]? = some (es[ps[i]'(by omega)]'(all _ (List.getElem_mem _))) := Array.getElem?_eq_getElem (all _ (List.getElem_mem _))
    have e3 : (ps.filterMap (es[·]?))[i]? = es[ps[i]'(by omega)]? := by
      have : ∀ (ps : List Nat), (∀ p ∈ ps, p < es.size) → ∀ i (h : i < ps.length), (ps.filterMap (es[·]?))[i]? = es[ps[i]]? := by
        intro ps
        induction ps with
        | nil => intro _ i h; simp at h
        | cons p ps ih =>
          intro al i h
          have ep : es[p]? = some (es[p]'(al p List.mem_cons_self)) := Array.getElem?_eq_getElem (al p List.mem_cons_self)
          rw [List.filterMap_cons, ep]
          cases i with
          | zero => simp
          | succ i => simpa using ih (fun q hq => al q (List.mem_cons_of_mem _ hq)) i (by simpa using h)
      exact this ps all i (by omega)
    refine nextD_item (t := t) (ps := ps) st.1 st.2.2 st.2.1 hf e1 e2 fun h' hit' hs' => ?_
    exact hQ _ h' s.toks ⟨_, e3.trans e2, rfl⟩ ⟨hit', st.2.1.keep fun o e => hs'.extBut a o hne e, st.2.2.keep fun o e => hs'.extBut T o hnT e⟩ fun b o hb e => hs'.extBut b o (fun h => hb (by simp [h])) e
  done := fun s Q E st hQ => by
    have hl : ps.length = es.size := by simpa using hp.length_eq
    exact nextD_end (t := t) (ps := ps) hh st.1 st.2.2 st.2.1 hf (List.getElem?_eq_none (by omega)) fun h' he' => hQ h' s.toks fun b o hb e => he' b o (fun h => hb (by simp [h])) e
  self := fun _ _ _ _ st hQ => iter_self st.1 hQ
theorem range_pick {α : Type} (es : Array α) : ((List.range es.size).filterMap (es[·]?)) = es.toList := by
  refine List.ext_getElem? fun i => ?_
  have : ∀ (n : Nat), n ≤ es.size → ((List.range n).filterMap (es[·]?)) = es.toList.take n := by
    intro n
    induction n with
    | zero => intro _; simp
    | succ n ih =>
      intro h
      rw [List.range_succ, List.filterMap_append, ih (by omega), List.take_add_one]
      have e : es[n]? = some es[n] := Array.getElem?_eq_getElem (by omega)
      rw [Array.getElem?_toList, e]
      simp [e]
  rw [this _ (Nat.le_refl _), List.take_of_length_le (by simp)]
theorem set_iter {a : Addr} {es : Array (Int × Value)} {ep : Nat} {t : SetTable} {Q : Value → Shared → Prop} (hS : SetAt s.heap a es ep t) (hf : t.fits es.size = true) (tp : TP (ledBy w) t) (hz : es.size ≤ sizeLine)
    (h : ∀ (I : Addr) (h' : Heap) (d : Drawn) (fp : List Addr) (es' : List (Int × Value)) (St : Nat → Heap → Prop), es'.Perm es.toList → (∀ A' : Around, A'.handled = none → Walks prog w A' I fp [I] es.size (fun i v => ∃ e, es'[i]? = some e ∧ v = e.2) St) → St 0 h' →
      (∀ b o, s.heap.get? b = some o → h'.get? b = some o) → s.heap.objs.size ≤ I → (∀ b ∈ fp, b = a ∨ s.heap.objs.size ≤ b) → Q (.ref I) { s with heap := h', drawn := d }) : wpAny (model prog w) A (pyIter (.ref a)) Q E s := by
  obtain ⟨o, ho, hex, hd⟩ := id hS
  have hT : s.TypeIs (.ref a) "set" := ⟨o, ho, hex.1⟩
  have hlt : a < s.heap.objs.size := Heap.lt_size ho
  refine wpAny_pyIter_slot hT F.slot_set_iter (wpAny_call_entry F.slot_set_iter hT entry_iter ?_ (F.args_set_iter_1 _))
  unfold Builtin.«frozenset.__iter__» Builtin.Frozenset.slot0 Builtin.Frozenset.addrOf Builtin.Frozenset.sizeOf
  refine wpAny_bind (wpAny_bind (wpAny_pure (wpAny_pure ?_)))
  refine wpAny_bind (wpAny_bind (wpAny_setEntries_of ho hd hf (wpAny_pure ?_)))
  unfold setDrawn setsByText
  refine wpAny_bind (wpAny_bind (wpAny_setState_of ho hd hf ?_))
  dsimp only
  refine wpAny_bind (wpAny_bind (wpAny_askSetting (wpAny_pure (wpAny_pure ?_))))
  have big : ∀ {h : Heap} {x : Obj} {b : Addr} {y : Obj}, h.get? b = some y → (h.push x).get? b = some y := fun e => Heap.get?_push_of_some _ e
  refine wpAny_ite_split (fun c => ?_) (fun c => ?_)
  · refine wpAny_bind ?_
    have dr := draw_order (prog := prog) (w := w) (A := A.in1) (E := E) (List.range es.size) s
    rw [List.length_range] at dr
    refine dr _ fun ps d pp => ?_
    have lp : ps.length = es.size := by simpa using pp.length_eq
    refine wpAny_bind (wpAny_newObj_type ?_ (by
      show ((ps.map fun i : Nat => rawInt (i : Int)).toArray).size ≤ _
      simp only [List.size_toArray, List.length_map]
      omega))
    refine wpAny_bind (wpAny_setEpoch_of (s := { s with heap := s.heap.push _, drawn := d }) (big ho) hd hf ?_)
    refine wpAny_bind (wpAny_newObj_type ?_ (by size_fits))
    have hT2 : ∀ x : Obj, Shared.TypeIs { s with heap := (s.heap.push x).push { cls := .type "set_iterator", data := .fields [Value.ref s.heap.objs.size, rawInt 0, Value.ref a, rawInt (es.size : Int), rawInt (ep : Int)].toArray }, drawn := d } (.ref (s.heap.push x).objs.size) "set_iterator" := fun x => ⟨_, Heap.get?_push_size _ rfl, rfl⟩
    refine wpAny_pure ⟨_, rfl, "set_iterator", _, hT2 _, slot_next.lookup, ?_⟩
    refine h _ _ d [(s.heap.push { cls := .type "tuple", dict := none, data := .seq (ps.map fun i : Nat => rawInt (i : Int)).toArray }).objs.size, a, s.heap.objs.size] (ps.filterMap (es[·]?)) (fun i h => IsIt h (s.heap.push { cls := .type "tuple", dict := none, data := .seq (ps.map fun i : Nat => rawInt (i : Int)).toArray }).objs.size (.ref s.heap.objs.size) i a es.size ep ∧ SetAt h a es ep t ∧ Pls h s.heap.objs.size ps) ?_ (fun A' hA => walk_drawn hA pp hf ?_ ?_) ⟨⟨_, Heap.get?_push_size _ rfl, rfl, ?_⟩, hS.keep fun o e => big (big e), ⟨_, _, big (Heap.get?_push_size _ rfl), rfl⟩⟩ (fun b o e => big (big e)) ?_ ?_
    · rw [← range_pick es]
      exact pp.filterMap _
    · rw [Heap.size_push]
      exact Nat.ne_of_lt (Nat.lt_succ_of_lt hlt)
    · rw [Heap.size_push]
      exact Nat.ne_of_lt (Nat.lt_succ_self _)
    · rfl
    · rw [Heap.size_push]
      exact Nat.le_succ _
    · intro b hb
      simp only [List.mem_cons, List.not_mem_nil, or_false] at hb
      rcases hb with rfl | rfl | rfl
      · right
        rw [Heap.size_push]
        exact Nat.le_succ _
      · exact .inl rfl
      · exact .inr (Nat.le_refl _)
  · refine wpAny_bind (wpAny_pure (wpAny_bind (wpAny_setEpoch_of ho hd hf ?_)))
    refine wpAny_bind (wpAny_newObj_type ?_ (by size_fits))
    have hT2 : Shared.TypeIs { s with heap := s.heap.push { cls := .type "set_iterator", data := .fields [rawInt 0, rawInt 0, Value.ref a, rawInt (es.size : Int), rawInt (ep : Int)].toArray } } (.ref s.heap.objs.size) "set_iterator" := ⟨_, Heap.get?_push_size _ rfl, rfl⟩
    refine wpAny_pure ⟨_, rfl, "set_iterator", _, hT2, slot_next.lookup, ?_⟩
    have hfp : ∀ b ∈ [s.heap.objs.size, a], b = a ∨ s.heap.objs.size ≤ b := fun b hb => by
      simp only [List.mem_cons, List.not_mem_nil, or_false] at hb
      rcases hb with rfl | rfl
      · exact .inr (Nat.le_refl _)
      · exact .inl rfl
    by_cases hb : w.params.followText "set-order" = true
    · exact h _ _ s.drawn [s.heap.objs.size, a] (pickOrder (w.params.setOrder a ep) es).toList _ (pick_perm _ es) (fun A' hA => walk_text hA hb hf (Nat.ne_of_lt hlt)) ⟨⟨_, Heap.get?_push_size _ rfl, rfl, rfl⟩, hS.keep fun o e => big e⟩ (fun b o e => big e) (Nat.le_refl _) hfp
    · have hb' : w.params.followText "set-order" = false := by simpa using hb
      have hl : t.led = true := by
        rw [tp.2]
        unfold ledBy
        rw [hb']
        rfl
      have hdr : t.plain = true ∨ es.size ≤ 1 := by
        have c : ¬ (!(w.params.followText "set-order") && (!t.plain && decide (es.size > 1))) = true := c
        rw [hb'] at c
        cases hp : t.plain with
        | true => exact .inl rfl
        | false =>
          rw [hp] at c
          right
          simp at c
          exact c
      exact h _ _ s.drawn [s.heap.objs.size, a] es.toList _ (List.Perm.refl _) (fun A' hA => walk_led (t := t) hA hb' hl hdr hf tp.1 (Nat.ne_of_lt hlt)) ⟨Nat.zero_le _, ⟨_, Heap.get?_push_size _ rfl, rfl, rfl⟩, hS.keep fun o e => big e⟩ (fun b o e => big e) (Nat.le_refl _) hfp
end
end PySem.Sts
namespace PySem.Sts
open PySem PyProof.Rows
section
variable {prog : Program} {w : World} {A : Around} {E : Value → Shared → Prop} {s : Shared}
theorem hint_set {r : Addr} {Q : Bool → Shared → Prop} (hT : s.TypeIs (.ref r) "set") (h : Q false s) : wpAny (model prog w) A (Builtin.List.listLengthHint (.ref r)) Q E s := by
  unfold Builtin.List.listLengthHint
  refine wpAny_bind (wpAny_specialOf hT PySem.F.slot_set_len.lookup ?_)
  generalize hid : ("set.__len__" : String) = id0
  wp_delta
  rw [show splitId id0 = some ("set", "__len__") from by subst hid; decide +kernel]
  subst hid
  refine wpAny_bind (wpAny_isInstance (T := "set") (b := true) hT (by rw [isSubtype_type]; kernel_rfl) ?_)
  refine wpAny_ite_split (fun hab => absurd hab (by decide)) (fun _ => ?_)
  refine wpAny_ite_split (fun _ => ?_) (fun hab => absurd (by decide +kernel) hab)
  refine wpAny_bind (wpAny_typeOf hT ?_)
  exact wpAny_pure h
theorem SetAt.typeIs {a : Addr} {es : Array (Int × Value)} {ep : Nat} {t : SetTable} (x : SetAt s.heap a es ep t) : s.TypeIs (.ref a) "set" := let ⟨o, e, c, _⟩ := x; ⟨o, e, c.1⟩
theorem set_extend {R : Result → Shared → Prop} {a : Addr} {es : Array (Int × Value)} {ep : Nat} {t : SetTable} (hh : A.handled = none) (hS : SetAt s.heap a es ep t) (hf : t.fits es.size = true) (tp : TP (ledBy w) t) (hz : es.size ≤ sizeLine)
    (S : Addr) (hSa : S ≠ a) (res : Value) (c₀ : Nat) (hL : s.heap.get? S = some { cls := .type "list", data := .seq #[] c₀ })
    (hR : ∀ (h' : Heap) (tk : Nat) (d : Drawn) (acc' : Array Value) (c' : Nat) (es' : List (Int × Value)), es'.Perm es.toList → (∀ b o, b ≠ S → s.heap.get? b = some o → h'.get? b = some o) → h'.get? S = some { cls := .type "list", dict := none, data := .seq acc' c', slots := #[] } → ItemsOf (fun i v => ∃ e : Int × Value, es'[i]? = some e ∧ v = e.2) acc' es.size → R (.ok (.ret res)) { s with heap := h', toks := tk, drawn := d }) :
    wpAny (model prog w) A.in1 (Builtin.List.listExtendWith (.ref S) (.ref a) res)
      (fun fin s' => match fin with | .done f => R (.ok f) s' | .again c' => c'.quiet = true ∧ codeAny (model prog w) A c' R s') (fun e s' => R (.error e) s') s := by
  unfold Builtin.List.listExtendWith
  refine wpAny_bind (wpAny_typeOf (T := "set") hS.typeIs ?_)
  have h1 : Builtin.List.listSameRef (.ref S) (.ref a) = false := by simp [Builtin.List.listSameRef, hSa]
  have h2 : (Value.type "set" == Value.type "list") = false := by decide
  have h3 : (Value.type "set" == Value.type "tuple") = false := by decide
  simp only [h1, h2, h3, Bool.or_false, Bool.false_eq_true, if_false]
  refine wpAny_bind (set_iter hS hf tp hz fun I h1 d fp es' St pe W st hk hI hfp => ?_)
  have hSz : S < s.heap.objs.size := Heap.lt_size hL
  have hSI : S ≠ I := Nat.ne_of_lt (Nat.lt_of_lt_of_le hSz hI)
  have hSf : S ∉ fp := fun m => by
    rcases hfp S m with e | e
    · exact hSa e
    · exact absurd hSz (Nat.not_lt.mpr e)
  have key : ∀ (h : Heap) (c₁ tk : Nat), St 0 h → (∀ b o, b ≠ S → s.heap.get? b = some o → h.get? b = some o) →
      h.get? S = some { cls := .type "list", data := .seq #[] c₁ } → codeAny (model prog w) A (.builtin "list.extend.loop" ⟨[.ref S, .ref I, res], []⟩) R { s with heap := h, toks := tk, drawn := d } := by
    intro h c₁ tk hst hk1 hS₁
    refine codeAny_extend_loopS (W A.in1 hh).toS hz S hSf res es.size 0 _ #[] c₁ rfl (Nat.zero_le _) hst hS₁ (ItemsOf.nil _) fun s' acc' c' hm hS' hacc => ?_
    obtain ⟨h', g', d', tk', os'⟩ := s'
    have eg : g' = s.gens := hm.gens
    have ed : d' = d := hm.drawn
    have eo : os' = s.os := hm.os
    subst eg
    subst ed
    subst eo
    refine hR h' tk' d' acc' c' es' pe (fun b o hb e => hm.heap b o (fun hmem => ?_) (hk1 b o hb e)) hS' hacc
    rcases List.mem_cons.mp hmem with e' | hmem
    · exact hb e'
    · rw [List.mem_singleton.mp hmem] at e
      exact absurd (Heap.lt_size e) (Nat.not_lt.mpr hI)
  have hS₁ := hk _ _ hL
  have hS1 : SetAt h1 a es ep t := hS.keep fun o e => hk a o e
  refine wpAny_bind (wpAny_holding (hint_set (s := { s with heap := h1, drawn := d }) hS1.typeIs ?_))
  refine wpAny_ite_split (fun _ => ?_) (fun _ => wpAny_pure ⟨plainId_quiet PySem.F.plain_extend_loop _, key _ c₀ _ st (fun b o _ e => hk b o e) hS₁⟩)
  refine wpAny_bind (wpAny_rule ?_)
  refine wpAny_bind ?_
  show wpAny _ _ (updateSeq S (·.push .none) >>= fun _ => updateSeq S (·.pop)) _ _ _
  refine wpAny_bind (wpAny_updateSeq hS₁ rfl ?_)
  have hS₂ := Heap.get?_update_self (Obj.mapSeq (·.push Value.none)) hS₁ rfl
  refine wpAny_updateSeq (hz := by seq_fits) hS₂ rfl ?_
  have hS₃ := Heap.get?_update_self (Obj.mapSeq (·.pop)) hS₂ rfl
  refine wpAny_pure ⟨plainId_quiet PySem.F.plain_extend_loop _, key _ _ _ ?_ (fun b o hb e => ?_) hS₃⟩
  · refine (W A.in1 hh).frame 0 _ _ st fun b hb o e => ?_
    have hbS : b ≠ S := fun h => hSf (h ▸ hb)
    exact (Heap.get?_update_other _ _ (Ne.symm hbS)).trans ((Heap.get?_update_other _ _ (Ne.symm hbS)).trans e)
  · exact (Heap.get?_update_other _ _ (Ne.symm hb)).trans ((Heap.get?_update_other _ _ (Ne.symm hb)).trans (hk b o e))
theorem items_map {es' : List (Int × Value)} {acc : Array Value} {n : Nat} (h : ItemsOf (fun i v => ∃ e : Int × Value, es'[i]? = some e ∧ v = e.2) acc n) (hl : es'.length = n) : acc.toList = es'.map (·.2) := by
  refine List.ext_getElem? fun i => ?_
  rw [List.getElem?_map]
  by_cases c : i < n
  · have hz : i < acc.size := by rw [h.1]; exact c
    have e1 : acc.toList[i]? = some (acc[i]'hz) := by rw [Array.getElem?_toList]; exact Array.getElem?_eq_getElem hz
    obtain ⟨e, ee, ev⟩ := h.2 i _ (Array.getElem?_eq_getElem hz)
    rw [e1, ee, ev]
    rfl
  · rw [List.getElem?_eq_none (by rw [Array.length_toList, h.1]; omega), List.getElem?_eq_none (by omega)]
    rfl
theorem set_collect {R : List Value → Shared → Prop} {a : Addr} {es : Array (Int × Value)} {ep : Nat} {t : SetTable} (hh : A.handled = none) (hS : SetAt s.heap a es ep t) (hf : t.fits es.size = true) (tp : TP (ledBy w) t) (hz : es.size ≤ sizeLine)
    (h : ∀ (h' : Heap) (tk : Nat) (d : Drawn) (es' : List (Int × Value)), es'.Perm es.toList → (∀ b o, s.heap.get? b = some o → h'.get? b = some o) → R (es'.map (·.2)) { s with heap := h', toks := tk, drawn := d }) :
    wpAny (model prog w) A (collect (.ref a)) R E s := by
  have hlt : a < s.heap.objs.size := let ⟨_, e, _⟩ := hS; Heap.lt_size e
  unfold collect
  refine wpAny_bind (wpAny_runValue (codeAny_builtin PySem.F.entry_proto_collect ?_))
  rw [Around.under_plainId PySem.F.plain_proto_collect _]
  show wpAny _ A.in1 (newList [] >>= fun l => again (.builtin "list.__iadd__" ⟨[l, .ref a], []⟩)) _ _ s
  refine wpAny_bind (wpAny_newObj_type ?_)
  refine wpAny_pure ⟨plainId_quiet PySem.F.plain_list_iadd _, codeAny_builtin PySem.F.entry_list_iadd ?_⟩
  rw [Around.under_plainId PySem.F.plain_list_iadd _]
  have hS₁ : (s.heap.push { cls := .type "list", data := .seq ([] : List Value).toArray }).get? s.heap.objs.size = some { cls := .type "list", data := .seq #[] } := Heap.get?_push_size _ rfl
  show wpAny _ A.in1 (Builtin.List.listExtendWith (.ref s.heap.objs.size) (.ref a) (.ref s.heap.objs.size)) _ _ _
  have key := set_extend (A := A) (w := w) (prog := prog) (s := { s with heap := s.heap.push { cls := .type "list", data := .seq ([] : List Value).toArray } }) (es := es) (ep := ep) (t := t)
    (R := fun (q : Result) (s' : Shared) => ∃ (h' : Heap) (tk : Nat) (d : Drawn) (acc' : Array Value) (c' : Nat) (es' : List (Int × Value)), q = .ok (.ret (.ref s.heap.objs.size)) ∧ s' = { s with heap := h', toks := tk, drawn := d } ∧
      (∀ b o, s.heap.get? b = some o → h'.get? b = some o) ∧ h'.get? s.heap.objs.size = some { cls := .type "list", dict := none, data := .seq acc' c', slots := #[] } ∧ es'.Perm es.toList ∧ acc'.toList = es'.map (·.2))
    hh (hS.keep fun o e => Heap.get?_push_of_some _ e) hf tp hz s.heap.objs.size (Nat.ne_of_gt hlt) (.ref s.heap.objs.size) 0 hS₁
    (fun h' tk d acc' c' es' pe hk hS' hacc => ⟨h', tk, d, acc', c', es', rfl, rfl, fun b o e => hk b o (Nat.ne_of_lt (Heap.lt_size e)) (Heap.get?_push_of_some _ e), hS', pe, items_map hacc (by simpa using pe.length_eq)⟩)
  refine wpAny_mono key (fun fin s' x => ?_) fun e s' x => ?_
  · cases fin with
    | done f =>
      obtain ⟨h', tk, d, acc', c', es', e, rfl, hk, hS', pe, hacc⟩ := x
      cases e
      show wpAny _ A (load s.heap.objs.size >>= _) _ _ _
      refine wpAny_bind (wpAny_load hS' ?_)
      have := h h' tk d es' pe hk
      rw [← hacc] at this
      exact wpAny_pure this
    | again c₁ =>
      refine ⟨x.1, codeAny_mono x.2 fun q s₂ y => ?_⟩
      obtain ⟨h', tk, d, acc', c', es', rfl, rfl, hk, hS', pe, hacc⟩ := y
      show wpAny _ A (load s.heap.objs.size >>= _) _ _ _
      refine wpAny_bind (wpAny_load hS' ?_)
      have := h h' tk d es' pe hk
      rw [← hacc] at this
      exact wpAny_pure this
  · obtain ⟨_, _, _, _, _, _, e', _⟩ := x
    cases e'
end
end PySem.Sts
namespace L2
open PySem PySem.Spec PyProof.Rows PySem.W PySem.Sts
noncomputable def ded (ns : List Int) : List Int := firstMet (fun i => ns.getD i 0) ns.length
theorem ded_eq (ns : List Int) : ded ns = ns.foldl step_dedup [] := by
  unfold ded firstMet
  congr 1
  refine List.ext_getElem? fun i => ?_
  rw [List.getElem?_map]
  by_cases c : i < ns.length
  · rw [List.getElem?_range c, List.getElem?_eq_getElem c]
    simp [List.getD_eq_getElem?_getD, List.getElem?_eq_getElem c]
  · rw [List.getElem?_eq_none (by simp; omega), List.getElem?_eq_none (by omega)]
    rfl
theorem ded_mem {ns : List Int} {x : Int} : x ∈ ded ns ↔ x ∈ ns := by
  have key : ∀ (ns a : List Int), x ∈ ns.foldl step_dedup a ↔ x ∈ a ∨ x ∈ ns := by
    intro ns
    induction ns with
    | nil => simp
    | cons n ns ih =>
      intro a
      rw [List.foldl_cons, ih]
      unfold step_dedup
      split
      · rename_i h
        obtain ⟨y, hy, e⟩ := List.any_eq_true.mp h
        have e : y = n := by simpa using e
        subst e
        constructor
        · rintro (q | q)
          · exact .inl q
          · exact .inr (List.mem_cons_of_mem _ q)
        · rintro (q | q)
          · exact .inl q
          · rcases List.mem_cons.mp q with rfl | q
            · exact .inl hy
            · exact .inr q
      · simp only [List.mem_append, List.mem_singleton, List.mem_cons, List.not_mem_nil, or_false]
        constructor
        · rintro ((q | q) | q)
          · exact .inl q
          · exact .inr (.inl q)
          · exact .inr (.inr q)
        · rintro (q | q | q)
          · exact .inl (.inl q)
          · exact .inl (.inr q)
          · exact .inr q
  rw [ded_eq, key]
  simp
theorem ded_nodup (ns : List Int) : (ded ns).Nodup := by
  have key : ∀ (ns a : List Int), a.Nodup → (ns.foldl step_dedup a).Nodup := by
    intro ns
    induction ns with
    | nil => intro a h; exact h
    | cons n ns ih =>
      intro a h
      rw [List.foldl_cons]
      refine ih _ ?_
      unfold step_dedup
      split
      · exact h
      · rename_i q
        refine List.nodup_append.mpr ⟨h, by simp, ?_⟩
        intro x hx y hy e
        rw [List.mem_singleton.mp hy] at e
        subst e
        exact q (List.any_eq_true.mpr ⟨x, hx, by simp⟩)
  rw [ded_eq]
  exact key ns [] List.nodup_nil
theorem nodup_sub : ∀ {l m : List Int}, l.Nodup → (∀ x ∈ l, x ∈ m) → ∃ r, m.Perm (l ++ r)
  | [], m, _, _ => ⟨m, List.Perm.refl _⟩
  | x :: l, m, nd, h => by
    obtain ⟨hx, nd'⟩ := List.nodup_cons.mp nd
    have mx := h x List.mem_cons_self
    obtain ⟨r, p⟩ := nodup_sub (m := m.erase x) nd' fun y hy => (List.mem_erase_of_ne (fun e => by subst e; exact hx hy)).mpr (h y (List.mem_cons_of_mem _ hy))
    exact ⟨r, (List.perm_cons_erase mx).trans (p.cons x)⟩
theorem int_shape {P : Program} {w : World} {k : Int} {v : Value} (h : (intKind P w).is k v = true) : ∃ t, v = .int k t := by
  cases v with
  | int j t =>
    have : j = k := by simpa [intKind, Value.isInt] using h
    subst this
    exact ⟨t, rfl⟩
  | _ => simp [intKind, Value.isInt] at h
noncomputable def stO (P : Program) (w : World) (a : Addr) (ns : List Int) : HO := .ext fun h => h.SetOf (intKind P w) a (fun k => (ded ns).any (· == k)) (ded ns).length ∧ Tb (ledBy w) h a
section
variable {X : Cx} {P : Program} {w : World} {K : PySem.W.Frag}
theorem Inv.drew {X : Cx} {pins : List (Addr × Obj)} {σ : St} {H : Hp} {s : Shared} (I : Inv X pins σ H s) (d : Drawn) : Inv X pins σ H { s with drawn := d } := ⟨I.ok, I.os, I.bare, I.base, I.loc, I.cell, I.free, I.freeC, I.pin, I.hok, I.len⟩
theorem stO_ok {H : Hp} {h : Heap} {a : Addr} {ns : List Int} (hS : h.SetOf (intKind P w) a (fun k => (ded ns).any (· == k)) (ded ns).length) (tb : Tb (ledBy w) h a) : ObjOk P w H h a (stO P w a ns) := by
  refine ⟨⟨hS, tb⟩, ?_, fun h1 h2 ⟨q, tb1⟩ k => ⟨?_, tb1.keep k⟩⟩
  · obtain ⟨o, _, _, _, e, _⟩ := hS
    exact ⟨o, e⟩
  · obtain ⟨o, es, ep, t, e, r⟩ := q
    exact ⟨o, es, ep, t, k _ e, r⟩
theorem call_set_l (hc : X.calm = true) : CallR X (.type "set") (fun xs H Q => ∃ p ns, xs = [.ref p] ∧ SqL X.K H p (List.map V.int ns) ∧ ns.length ≤ 4000 ∧ ∀ l, H l = none → Q (.ref l) (upd H l (stO X.prog X.w l ns))) := by
  intro pins s σ H xs us Q I r h
  obtain ⟨p, ns, rfl, hq, hn, q⟩ := h
  obtain ⟨u, rfl, rx⟩ := vals1 r
  cases rx
  obtain ⟨its, rv, pl, hz⟩ := I.list hq
  have hl := rv.length
  rw [List.length_map] at hl
  have fr := I.hok.fresh (a := s.heap.objs.size) (Nat.le_refl _)
  refine call_set (I.ok.hd hc) pl.isList (intsAre_of (by simpa using rv)) (by simp only [List.size_toArray]; unfold scanBound; omega) fun h' tk hS tb hk => ?_
  have e : (its.toArray).size = ns.length := by simp [hl]
  rw [e] at hS
  exact ⟨.ref s.heap.objs.size, _, I.laid (t' := tk) (fun b o eb => hk b o (Heap.lt_size eb) eb) (Nat.le_refl _) (o := stO X.prog X.w s.heap.objs.size ns) (stO_ok hS tb), rfl, q _ fr⟩
theorem st_of {pins : List (Addr × Obj)} {σ : St} {H : Hp} {s : Shared} {a : Addr} {ns : List Int} (I : Inv X pins σ H s) (e : H a = some (stO X.prog X.w a ns)) : s.heap.SetOf (intKind X.prog X.w) a (fun k => (ded ns).any (· == k)) (ded ns).length ∧ Tb (ledBy X.w) s.heap a :=
  (show ObjOk X.prog X.w H s.heap a (stO X.prog X.w a ns) from I.hok a _ e).1
theorem st_ints {h : Heap} {a : Addr} {ns : List Int} {o : Obj} {es : Array (Int × Value)} {ep : Nat} {t : SetTable} {es' : List (Int × Value)} (hS : h.SetOf (intKind P w) a (fun k => (ded ns).any (· == k)) (ded ns).length) (ho : h.get? a = some o) (hd : o.data = .set es ep t) (pe : es'.Perm es.toList) :
    ∃ ks : List Int, IntsAre (es'.map (·.2)) ks ∧ ks.Perm (ded ns) := by
  obtain ⟨o2, es2, ep2, t2, ho2, _, hd2, hel, hmem, _, _, hn⟩ := hS
  rw [ho] at ho2
  cases ho2
  rw [hd] at hd2
  cases hd2
  have all : ∀ e ∈ es', ∃ k t, e.2 = Value.int k t := fun e he => by
    obtain ⟨k, hk⟩ := ElemsOf.keys hel e (pe.mem_iff.mp he)
    obtain ⟨t, ht⟩ := int_shape hk
    exact ⟨k, t, ht⟩
  have mk : ∀ (l : List (Int × Value)), (∀ e ∈ l, ∃ k t, e.2 = Value.int k t) → ∃ ks : List Int, IntsAre (l.map (·.2)) ks ∧ ks.length = l.length ∧ ∀ k, k ∈ ks ↔ ∃ e ∈ l, ∃ t, e.2 = Value.int k t := by
    intro l
    induction l with
    | nil => intro _; exact ⟨[], .nil, rfl, by simp⟩
    | cons e l ih =>
      intro al
      obtain ⟨ks, h1, h2, h3⟩ := ih fun x hx => al x (List.mem_cons_of_mem _ hx)
      obtain ⟨k, t, et⟩ := al e List.mem_cons_self
      refine ⟨k :: ks, by rw [List.map_cons, et]; exact .cons k t h1, by simp [h2], fun j => ?_⟩
      rw [List.mem_cons, h3]
      constructor
      · rintro (rfl | ⟨x, hx, q⟩)
        · exact ⟨e, List.mem_cons_self, t, et⟩
        · exact ⟨x, List.mem_cons_of_mem _ hx, q⟩
      · rintro ⟨x, hx, t', q⟩
        rcases List.mem_cons.mp hx with rfl | hx
        · rw [et] at q
          cases q
          exact .inl rfl
        · exact .inr ⟨x, hx, t', q⟩
  obtain ⟨ks, h1, h2, h3⟩ := mk es' all
  have m : ∀ k, k ∈ ks ↔ k ∈ ded ns := fun k => by
    rw [h3]
    have : ((ded ns).any (· == k)) = true ↔ k ∈ ded ns := by simp
    rw [← this, hmem k]
    constructor
    · rintro ⟨e, he, t, et⟩
      exact ⟨e, pe.mem_iff.mp he, by rw [et]; exact intKind_is _ _ _ _⟩
    · rintro ⟨e, he, hk⟩
      obtain ⟨t, ht⟩ := int_shape hk
      exact ⟨e, pe.mem_iff.mpr he, t, ht⟩
  have ln : ks.length = (ded ns).length := by rw [h2, pe.length_eq, ← hn]; simp
  obtain ⟨r, p⟩ := nodup_sub (ded_nodup ns) fun x hx => (m x).mpr hx
  have : r = [] := by
    have := p.length_eq
    rw [List.length_append] at this
    exact List.length_eq_zero_iff.mp (by omega)
  subst this
  rw [List.append_nil] at p
  exact ⟨ks, h1, p⟩
theorem call_sorted_st (hc : X.calm = true) : CallR X (.builtin "sorted") (fun xs H Q => ∃ a ns, xs = [.ref a] ∧ H a = some (stO X.prog X.w a ns) ∧ ∀ l, H l = none → Q (.ref l) (upd H l (.lst (List.map V.int (Nm.srt (ded ns)))))) := by
  intro pins s σ H xs us Q I r h
  obtain ⟨a, ns, rfl, ha, q⟩ := h
  obtain ⟨u, rfl, rx⟩ := vals1 r
  cases rx
  obtain ⟨hS, tb⟩ := st_of I ha
  obtain ⟨o, es, ep, t, ho, hex, hd, _, _, hb, hf, hn⟩ := id hS
  have tp : PySem.Sts.TP (ledBy X.w) t := by
    obtain ⟨o', es', ep', t', e1, e2, e3⟩ := tb
    rw [ho] at e1
    cases e1
    rw [hd] at e2
    cases e2
    exact e3
  have hz : es.size ≤ sizeLine := fits_of_scanBound hb
  refine Calls.call_function_entry kind_sorted plain_sorted entry_sorted (args_sorted1 _) ?_
  unfold Builtin.«sorted»
  refine wpAny_bind (m := checkCount "sorted" 1 1 _) (wpAny_pure ?_)
  refine wpAny_bind (set_collect (A := X.A.in1) (I.ok.hd hc) ⟨o, ho, hex, hd⟩ hf tp hz fun h' tk d es' pe hk => ?_)
  obtain ⟨ks, hI, pk⟩ := st_ints hS ho hd pe
  have hl : (es'.map (·.2)).length = es.size := by rw [List.length_map, pe.length_eq]; simp
  have nd : ks.Nodup := pk.nodup_iff.mpr (ded_nodup ns)
  refine wpAny_bind (wpAny_newList ?_ (by rw [hl]; exact hz))
  have hoL : (h'.push (seqObj "list" (es'.map (·.2)).toArray 0)).get? h'.objs.size = some (seqObj "list" (es'.map (·.2)).toArray 0) := Heap.get?_push_size _ rfl
  have I1 : Inv X pins σ H { s with heap := h', toks := tk, drawn := d } := (I.kept (t' := tk) hk).drew d
  refine wpAny_bind (wpAny_holding (wpAny_call_entry slot_list_sort ⟨_, hoL, rfl⟩ entry_list_sort (PySem.Tim.sort_all hoL hI nd (by rw [hl]; exact hz) fun out ns' a1 a2 a3 => ⟨_, rfl, ?_⟩) (args_list_sort _)))
  obtain rfl := Nm.srt_one (a2.trans pk) a3
  obtain ⟨e, he⟩ := sortedHeap_at (out := out) hoL
  have fr := I1.hok.fresh (a := h'.objs.size) (Nat.le_refl _)
  refine wpAny_pure ⟨_, rfl, .ref h'.objs.size, _, I1.laid (t' := tk) (fun b o eb => ?_) (Nat.le_refl _) (o := .lst (List.map V.int (Nm.srt (ded ns)))) ⟨?_, out.toList, e, vals_ints_of a1, ?_⟩, rfl, q _ fr⟩
  · rw [sortedHeap_old (Nat.ne_of_lt (Heap.lt_size eb)) (by rw [Heap.size_push]; exact Nat.lt_succ_of_lt (Heap.lt_size eb))]
    exact Heap.get?_push_of_some _ eb
  · rw [List.length_map, Nm.srt_length, ← hn]
    exact hz
  · exact he
theorem call_setK (hc : X.calm = true := by rfl) (hK : X.K = K := by rfl) (hP : X.prog = P := by rfl) (hw : X.w = w := by rfl) : CallR X (.type "set") (fun xs H Q => ∃ p ns, xs = [.ref p] ∧ SqL K H p (List.map V.int ns) ∧ ns.length ≤ 4000 ∧ ∀ l, H l = none → Q (.ref l) (upd H l (stO P w l ns))) := by subst hK hP hw; exact call_set_l hc
theorem call_sorted_stK (hc : X.calm = true := by rfl) (hP : X.prog = P := by rfl) (hw : X.w = w := by rfl) : CallR X (.builtin "sorted") (fun xs H Q => ∃ a ns, xs = [.ref a] ∧ H a = some (stO P w a ns) ∧ ∀ l, H l = none → Q (.ref l) (upd H l (.lst (List.map V.int (Nm.srt (ded ns)))))) := by subst hP hw; exact call_sorted_st hc
end
end L2
namespace L2
open PySem PySem.Spec PyProof.Rows
mutual
noncomputable def toP : Dat → PyData
  | .non => .none
  | .bl b => .bool b
  | .int i => .int i
  | .str x => .str x
  | .tup l => .tuple (toPL l)
  | .lst l => .list (toPL l)
noncomputable def toPL : List Dat → List PyData
  | [] => []
  | d :: ds => toP d :: toPL ds
end
section
variable {P : Program} {w : World} {H : Hp} {h : Heap}
end
abbrev Rows := List (Dat × Addr × Int)
abbrev RwN : Rows → List (PyData × Addr × Value) → Prop := Paired fun p q => toP p.1 = q.1 ∧ p.2.1 = q.2.1 ∧ ∃ t, q.2.2 = Value.int p.2.2 t
section
variable {P : Program} {w : World} {H : Hp} {h : Heap} {a : Addr}
end
section
variable {X : Cx} {P : Program} {w : World} {o i e value : Expr} {pos pos' tpos : Pos} {td ty tv : TE}
end
end L2
namespace L2
open PySem PySem.Spec PyProof.Rows PySem.W
section
variable {X : Cx} {x : Str} {xpos : Pos}
end
section
variable {prog : Program} {w : World} {A : Around} {E : Value → Shared → Prop} {s : Shared}
end
section
variable {X : Cx} {K : PySem.W.Frag}
end
end L2
namespace L2
open PySem PySem.Spec PyProof.Rows PySem.W
section
variable {X : Cx}
end
end L2
namespace KS
open PySem PySem.W PyProof.Rows
section
variable {prog : Program} {w : World} {A : Around} {E : Value → Shared → Prop} {s : Shared}
end
end KS
namespace L2
open PySem PySem.Spec PyProof.Rows PySem.W
section
variable {X : Cx} {K : PySem.W.Frag}
end
end L2
namespace L2
open PySem PySem.Spec PyProof.Rows PySem.W
section
variable {X : Cx} {K : PySem.W.Frag}
end
end L2
namespace L2
open PySem PySem.Spec PyProof.Rows PySem.W
section
variable {X : Cx} {K : PySem.W.Frag}
end
end L2
namespace L2
open PySem PySem.Spec PyProof.Rows
structure LamB (base : Heap) (mg : Str → Option Value) (tc tp : Addr) : Prop where
  blt : base.BuiltinsAt mg tp
  code : PySem.W.CodeHd base tc tp
theorem law_callT {P : Program} {tp tc : Addr} {dsc : Array Value} {w : World} {K : PySem.W.Frag} {mg mb : Str → Option Value} {CX : CXT} {k : Nat} {fa a : Addr} {fd : FuncData} {x : Str} {sp : Sp} {s₁ : Shared} {vs : List Value} {ns : List Int}
    (KX : K.In s₁.heap) (hns : s₁.heap.Ns mainGlobals mg) (hb : s₁.heap.Ns builtinsNs mb) (hbb : ∀ x : Str, x ≠ "__name__" → mb x = bootBuiltins x) (hlim : s₁.heap.NoLimit) (hg : s₁.gens = #[])
    (ha : s₁.heap.get? a = some { cls := .type "list", data := .seq vs.toArray }) (hi : IntsAre vs ns) (hl : ns.length ≤ sizeLine) (hr : Room k callerA)
    (htp : s₁.heap.get? tp = some (PySem.W.tabObj #[])) (hct : PySem.W.CodeHd s₁.heap tc tp) (hpk : K.lookup tp = none) (hbm : s₁.heap.BuiltinsAt mg tp)
    (F : ∀ base : Heap, K.In base → base.Ns mainGlobals mg → LamB base mg tc tp → FnOk P w K mg base CX k fa fd [x] sp) (hbind : ∀ (s : Shared) (u : Value), BindsTo s fd ⟨[u], []⟩ [(x, u)])
    (hsp : ∀ H : Hp, H tp = some (.tbl dsc) → SqL K H a (ns.map V.int) → sp [.ref a] H (fun v _ => v = .bl true) fun _ _ _ => False)
    (hCX : ∀ H e s', CX [] H s₁ (fun _ _ _ => False) e s' → False) :
    codeAny (model P w) callerA (.call (.ref fa) ⟨[.ref a], []⟩) (fun r s' => r = .ok (.ret (.bool true)) ∧ OldK s₁.heap s'.heap ∧ s'.os = s₁.os ∧ AllBare s'.gens) s₁ := by
  have rv := vals_ints hi
  have lenV := hi.length
  have hpa : tp ≠ a := fun z => by rw [z, ha] at htp; cases htp
  have core : ∀ H : Hp, (∀ b, b ≠ tp → H b = none ∨ ∃ o xs, H b = some (.frz o (.lst xs))) → H tp = some (.tbl dsc) → SqL K H a (ns.map V.int) → HOk P w H s₁.heap → (∀ b, H b ≠ none → b = a ∨ b = tp) → (H a ≠ none → K.lookup a = none) →
      codeAny (model P w) callerA (.call (.ref fa) ⟨[.ref a], []⟩) (fun r s' => r = .ok (.ret (.bool true)) ∧ OldK s₁.heap s'.heap ∧ s'.os = s₁.os ∧ AllBare s'.gens) s₁ := by
    intro H hO hT hS hok hA hK
    have base_of : ∀ {b : Addr} {o : Obj}, s₁.heap.get? b = some o → H b = none → (hidT s₁.heap H).get? b = some o := fun e n => hidT_get e n
    have noA : ∀ {b : Addr} {o : Obj} {es : Array DictEntry} {ep : Nat}, s₁.heap.get? b = some o → o.data = .dict es ep → H b = none := fun {b o es ep} e d => by
      cases q : H b with
      | none => rfl
      | some u =>
        rcases hA b (by rw [q]; simp) with e' | e'
        · subst e'
          rw [ha] at e; cases e
          have d' : Data.seq vs.toArray _ = Data.dict es ep := d
          cases d'
        · subst e'
          rw [htp] at e; cases e
          cases d
    have nsK : ∀ {b : Addr} {m : Str → Option Value}, s₁.heap.Ns b m → (hidT s₁.heap H).Ns b m := fun {b m} ⟨o, es, ep, e, d, r⟩ => ⟨o, es, ep, base_of e (noA e d), d, r⟩
    have hKb : K.In (hidT s₁.heap H) := fun b o e => base_of (KX b o e) (by
      cases q : H b with
      | none => rfl
      | some u =>
        rcases hA b (by rw [q]; simp) with e' | e'
        · subst e'
          rw [hK (by rw [q]; simp)] at e; cases e
        · subst e'
          rw [hpk] at e; cases e)
    have hM : Mod K mg (hidT s₁.heap H) := ⟨hKb, nsK hns, ⟨mb, nsK hb, hbb⟩, let ⟨mc, h1, h2⟩ := hlim; ⟨mc, nsK h1, h2⟩⟩
    have e0 : Env0 P w K mg (hidT s₁.heap H) callerA [] s₁ H := ⟨rfl, hM, fun b o e => of_hidT e, Nat.le_of_eq (hidT_size _ _), trivial, fun b hb => absurd (show b ∈ ([] : List Addr) from hb) (by simp), hok, .of_eq hg⟩
    have hLB : LamB (hidT s₁.heap H) mg tc tp := by
      have look : ∀ {b : Addr} {o : Obj}, s₁.heap.get? b = some o → b ≠ tp → o.cls ≠ .type "list" → (hidT s₁.heap H).get? b = some o := fun {b o} e n c => base_of e (by
        cases q : H b with
        | none => rfl
        | some u =>
          rcases hA b (by rw [q]; simp) with e' | e'
          · subst e'
            rw [ha] at e; cases e
            exact absurd rfl c
          · exact absurd e' n)
      obtain ⟨bm, o, b1, b2, b3, b4, b5, b6, b7⟩ := hbm
      obtain ⟨o', vs', file, tf, flags, tg, inF, text, tt, c1, c2, c3⟩ := hct
      exact ⟨⟨bm, o, b1, b2, b3, b4, look b5 b4 (fun z => by rw [b6] at z; injection z with z; exact absurd z (by decide)), b6, b7⟩, ⟨o', vs', file, tf, flags, tg, inF, text, tt, look c1 c3.2.2.2.2.2.2.2 (fun z => by rw [c2] at z; injection z with z; exact absurd z (by decide)), c2, c3⟩⟩
    refine codeAny_mono ((F _ hKb (nsK hns) hLB).run callerA [] s₁ H ⟨[.ref a], []⟩ [.ref a] [.ref a] _ _ hr e0 (hbind s₁ (.ref a)) (.cons rfl .nil) (hsp H hT hS)) fun r s' h => ?_
    cases r with
    | error e => exact (hCX H e s' h).elim
    | ok fl =>
      cases fl with
      | next => exact False.elim h
      | brk => exact False.elim h
      | cont => exact False.elim h
      | ret u =>
        obtain ⟨v, H', os, bare, un, hok', r', q⟩ := h
        have q' : v = .bl true := q
        subst q'
        obtain rfl : u = Value.bool true := r'
        have fin : ∀ b o, b ≠ tp → s₁.heap.get? b = some o → s'.heap.get? b = some o := fun b o hb e => by
          cases q : H b with
          | none => exact un.keep b o e q (by intro z; exact absurd (show b ∈ ([] : List Addr) from z) (by simp)) (by simp)
          | some u =>
            rcases hO b hb with z | ⟨ob, xs, z⟩
            · rw [q] at z; cases z
            · have z2 := un.frzs b ob _ z
              obtain ⟨e1, _⟩ := hok b _ z
              obtain ⟨e2, _⟩ := hok' b _ z2
              rw [e] at e1; cases e1
              exact e2
        obtain ⟨more, hm⟩ := un.tbls tp _ hT
        obtain ⟨mo, e7, _⟩ := hok' tp _ hm
        have htp' : s'.heap.get? tp = some { cls := .none, data := .fields (#[] ++ mo) } := by rw [Array.empty_append]; exact e7
        refine ⟨rfl, ⟨fun b o e => ?_, fun b o e => ?_⟩, os, bare⟩
        · by_cases hb : b = tp
          · subst hb
            rw [htp] at e
            cases e
            exact .inr (.inl ⟨(hct.tab htp).isCodeTable, rfl, _, mo, rfl, htp'⟩)
          · exact .inl (fin b o hb e)
        · by_cases hb : b = tp
          · subst hb
            exact ⟨_, htp'⟩
          · exact ⟨o, fin b o hb e⟩
  cases hk : K.lookup a with
  | some o =>
    have e := KX a o hk
    rw [ha] at e
    cases e
    refine core (fun b => if b = tp then some (.tbl dsc) else none) (fun b hb => .inl (if_neg hb)) (if_pos rfl) (.inr ⟨_, vs.toArray, _, hk, rfl, rfl, rfl, by rw [List.size_toArray, lenV]; exact hl, by simpa using rv⟩) (fun b u z => ?_) (fun b z => ?_) fun z => absurd (if_neg (Ne.symm hpa)) z
    · by_cases hb : b = tp
      · have z' := (if_pos hb).symm.trans z
        cases z'
        subst hb
        exact ⟨#[], htp, .inl rfl⟩
      · have z' := (if_neg hb).symm.trans z
        cases z'
    · by_cases hb : b = tp
      · exact .inr hb
      · exact absurd (if_neg hb) z
  | none =>
    refine core (fun b => if b = tp then some (.tbl dsc) else if b = a then some (.frz { cls := .type "list", data := .seq vs.toArray } (.lst (ns.map V.int))) else none) (fun b hb => ?_) (if_pos rfl) (.inl (.inr ⟨{ cls := .type "list", data := .seq vs.toArray }, (if_neg (Ne.symm hpa)).trans (if_pos rfl)⟩)) (fun b u z => ?_) (fun b z => ?_) fun _ => hk
    · by_cases ha' : b = a
      · exact .inr ⟨_, _, (if_neg hb).trans (if_pos ha')⟩
      · exact .inl ((if_neg hb).trans (if_neg ha'))
    · by_cases hb : b = tp
      · have z' := (if_pos hb).symm.trans z
        cases z'
        subst hb
        exact ⟨#[], htp, .inl rfl⟩
      · by_cases ha' : b = a
        · have z' := ((if_neg hb).trans (if_pos ha')).symm.trans z
          cases z'
          subst ha'
          exact ⟨ha, by rw [List.length_map]; exact hl, vs, _, rv, ha⟩
        · have z' := ((if_neg hb).trans (if_neg ha')).symm.trans z
          cases z'
    · by_cases hb : b = tp
      · exact .inr hb
      · by_cases ha' : b = a
        · exact .inl ha'
        · exact absurd ((if_neg hb).trans (if_neg ha')) z
theorem walk_ofT {tp tc : Addr} {dsc : Array Value} {l : PySem.W.OpenLaw} {n k : Nat} {q : Program} {loose : List Str} {XP : (Str → Option Value) → Heap → Prop} {YP : World → Heap → Prop} {d : DefRec} {K : Params → PySem.W.Frag} {CX : World → CXT} {sp : World → Sp} {x : Str}
    (hn : l.most = some n) (hn2 : n ≤ sizeLine) (hdf : d.params.defaults = []) (hr : Room k callerA)
    (hY : ∀ (w : World) (h : Heap), YP w h → (K w.params).In h)
    (hTp : ∀ (w : World) (h : Heap), YP w h → h.get? tp = some (PySem.W.tabObj #[]) ∧ PySem.W.CodeHd h tc tp ∧ (K w.params).lookup tp = none)
    (F : ∀ (w : World) (mg : Str → Option Value) (fa : Addr) (h : Heap), (K w.params).In h → h.Ns mainGlobals mg → mg d.name = some (.ref fa) →
      ∃ fd : FuncData, (∀ (s : Shared) (u : Value), BindsTo s fd ⟨[u], []⟩ [(x, u)]) ∧
        ∀ base : Heap, (K w.params).In base → base.Ns mainGlobals mg → LamB base mg tc tp → FnOk l.prog w (K w.params) mg base (CX w) k fa fd [x] (sp w))
    (hsp : ∀ (w : World) (H : Hp) (a : Addr) (ns : List Int), ns.length ≤ n → H tp = some (.tbl dsc) → SqL (K w.params) H a (ns.map V.int) → sp w [.ref a] H (fun v _ => v = .bl true) fun _ _ _ => False)
    (hCX : ∀ (w : World) (H : Hp) (s : Shared) (e : Value) (s' : Shared), CX w [] H s (fun _ _ _ => False) e s' → False) :
    PySem.W.WalkO q loose XP YP l.row.toRowW d [] (fun f vs => PySem.call f vs) := by
  refine Att.attach_call hn hdf fun w s₀ s₁ mg mb fa o pm cd doc a vs ns G Y ho hd hcd hmg hobj hints hlen hg => ?_
  have KX := hY w _ Y
  obtain ⟨fd, hb, hF⟩ := F w mg fa _ KX G.T.g hmg
  obtain ⟨t1, t2, t3⟩ := hTp w _ Y
  have hbm : s₁.heap.BuiltinsAt mg tp := by
    obtain ⟨bm, ob, b1, b2, b3, b4, b5, b6⟩ := G.T.bmain
    refine ⟨bm, ob, b1, b2, fun q => ?_, fun q => ?_, b3, b4, b5, b6⟩
    · obtain ⟨o, es, ep, e, hd, _⟩ := G.T.g
      rw [q, e] at b3; cases b3; rw [hd] at b6; cases b6
    · rw [q, t1] at b3; cases b3; cases b4
  exact law_callT KX G.T.g G.T.b G.T.builtins G.T.nolimit hg hobj hints (Nat.le_trans hlen hn2) hr t1 t2 t3 hbm hF hb (fun H hO hS => hsp w H a ns hlen hO hS) fun H e s' => hCX w H s₁ e s'
end L2
namespace L2
open PySem PySem.Spec PyProof.Rows
structure MtCal (P : Program) (w : World) (K : PySem.W.Frag) (mg : Str → Option Value) (base : Heap) (CX : CXT) (k : Nat) (C : Addr) (m : Str) (ps : List Str) (sp : Sp) : Prop where
  ex : ∃ f fd, Meth K C m f ∧ FnOk P w K mg base CX k f fd ps sp ∧ Binds K fd ps []
section
variable {X : Cx} {CX : CXT} {k : Nat} {C : Addr} {m : Str} {ps : List Str} {sp : Sp} {E : XK} {e o : Expr} {es : List Expr} {ta : TE} {t : TA} {pos apos : Pos} {pl : Sem Bool}
end
structure DnM (K : PySem.W.Frag) (C : Addr) (m qual : Str) (st : Stmt) : Prop where
  ex : ∃ f fd, Fun K m qual st f fd ∧ Meth K C m f
end L2
namespace Hd
open PySem PySem.W PyProof.Rows
noncomputable def runBy (ok : Thread → Bool) (st : SharedT → Thread → Option (SharedT × Thread)) (n : Nat) : SharedT → Thread → Option SharedT :=
  @Nat.rec (fun _ => SharedT → Thread → Option SharedT) (fun _ _ => none)
    (fun _ ih s t => @Bool.rec (fun _ => Option SharedT) (@Bool.rec (fun _ => Option SharedT) none (@Option.rec (SharedT × Thread) (fun _ => Option SharedT) none (fun r => @Prod.rec _ _ (fun _ => Option SharedT) (fun a b => ih a b) r) (st s t)) (ok t)) (some s) (through t)) n
theorem runBy_spec {tb : String → Option Builtin} {p : Program} {w : World} {n₀ : Nat} {ann : Option Value} : ∀ (n : Nat) (s : SharedT) (t : Thread) (s' : SharedT), runBy (stepOk n₀ ann) (stepT (denote tb) p w) n s t = some s' → topRun tb p w n₀ ann n s.abs t = some s'.abs
  | 0, _, _, _, h => by cases h
  | n + 1, s, t, s', h => by
    unfold topRun
    replace h : @Bool.rec (fun _ => Option SharedT) (@Bool.rec (fun _ => Option SharedT) none (@Option.rec (SharedT × Thread) (fun _ => Option SharedT) none (fun r => @Prod.rec _ _ (fun _ => Option SharedT) (fun a b => runBy (stepOk n₀ ann) (stepT (denote tb) p w) n a b) r) (stepT (denote tb) p w s t)) (stepOk n₀ ann t)) (some s) (through t) = some s' := h
    cases ht : through t with
    | true => rw [ht] at h; cases h; rfl
    | false =>
      rw [ht] at h
      cases hk : stepOk n₀ ann t with
      | false => rw [hk] at h; cases h
      | true =>
        rw [hk] at h
        cases hs : stepT (denote tb) p w s t with
        | none => rw [hs] at h; cases h
        | some r => obtain ⟨s₂, t₂⟩ := r; rw [hs] at h; rw [stepT_spec hs]; exact runBy_spec n s₂ t₂ s' h
noncomputable def bt (P : Params) : BT := ((boot_heap P).objs.toList.foldl (fun (x : BT × Nat) o => (x.1.ins x.2 o, x.2 + 1)) (.nil, 0)).1
noncomputable def bootT (w : World) (os : OsState) : SharedT := ⟨bt w.params, 11, {}, Array.mk [], boot_drawn, boot_toks, os⟩
theorem bootT_abs (w : World) (os : OsState) : (bootT w os).abs = ⟨boot_heap w.params, Array.mk [], boot_drawn, boot_toks, os⟩ := by kernel_rfl
theorem bootT_size (w : World) : ((boot_heap w.params).isNs mainGlobals && (Array.mk [] : Array GenState).size == 0, (boot_heap w.params).objs.size, (boot_heap w.params).nsMap mainGlobals "__annotations__") = (true, 11, some (.ref 6)) := by kernel_rfl
theorem left_run {p q : Program} {loose : List Str} {Xt : Shared → Bool} {α : Type} {Yf : Shared → α} {Ya : World → α} {N : Nat} {g0 : Bool}
    (open_ : ∀ w : World, (fencedOpening treeTable p w N).map (fun s => (s.heap, s.gens, s.drawn, s.toks)) = some (boot_heap w.params, Array.mk [], boot_drawn, boot_toks))
    (run : ∀ (w : World) (os : OsState), (runBy (stepOk 11 (some (.ref 6))) (stepT (denote treeTable) p w) N (bootT w os) (topStub p)).map (fun s => ((staticsOk (importedModules p.main.body) (boot_heap w.params) s.abs.heap && namesBound p s.abs.heap && gensDone s.abs && laidKept (boot_heap w.params) s.abs.heap), openSeen q loose (importedModules p.main.body) Xt g0 s.abs, Yf s.abs)) = some (true, openGood q loose, Ya w)) :
    LeftO p q loose Xt Yf Ya N g0 := fun w => by
  obtain ⟨⟨h, gs, d, k, os⟩, e, e'⟩ := Option.map_eq_some_iff.mp (open_ w)
  obtain ⟨rfl, rfl, rfl, rfl⟩ : h = boot_heap w.params ∧ gs = Array.mk [] ∧ d = boot_drawn ∧ k = boot_toks := by simpa using e'
  obtain ⟨z1, z2, z3⟩ : _ ∧ _ ∧ _ := by simpa only [Prod.mk.injEq] using bootT_size w
  obtain ⟨s, r, l⟩ := Option.map_eq_some_iff.mp (run w os)
  obtain ⟨l1, l2, l3⟩ : _ ∧ _ ∧ _ := by simpa only [Prod.mk.injEq] using l
  have r := runBy_spec _ _ _ _ r
  rw [bootT_abs] at r
  have t : topFrom treeTable p w N ⟨boot_heap w.params, Array.mk [], boot_drawn, boot_toks, os⟩ = some s.abs := by
    unfold topFrom
    dsimp only
    rw [z1, z2, z3, r]
    show (match staticsOk (importedModules p.main.body) (boot_heap w.params) s.abs.heap && namesBound p s.abs.heap && gensDone s.abs && laidKept (boot_heap w.params) s.abs.heap with | true => _ | false => _) = _
    rw [l1]
  unfold openEnds
  rw [e]
  show ((topFrom treeTable p w N ⟨boot_heap w.params, Array.mk [], boot_drawn, boot_toks, os⟩)).map _ = _
  rw [t]
  show some (_, _) = _
  rw [l2, l3]
noncomputable def Runs (p q : Program) (loose : List Str) (Xt : Shared → Bool) {α : Type} (Yf : Shared → α) (Ya : World → α) (N : Nat) (g0 : Bool) (w : World) : Prop :=
  ∀ os : OsState, (runBy (PySem.W.Fast.tw6613529449190102663 11 (some (.ref 6))) (PySem.W.Fast.tw10156331382660048174 (PySem.W.Fast.tw11892475500146522536 PySem.W.Fast.tw14364793385576792824) p w) N (bootT w os) (topStub p)).map (fun s => ((staticsOk (importedModules p.main.body) (boot_heap w.params) s.abs.heap && namesBound p s.abs.heap && gensDone s.abs && laidKept (boot_heap w.params) s.abs.heap), PySem.W.Fast.tw4187177175401517315 q loose (importedModules p.main.body) Xt g0 s.abs, Yf s.abs)) = some (true, openGood q loose, Ya w)
theorem left_runQ {p q : Program} {loose : List Str} {Xt : Shared → Bool} {α : Type} {Yf : Shared → α} {Ya : World → α} {N : Nat} {g0 : Bool}
    (e : opening p = plainProg p.main.scope.names) (hN : Nat.ble 600 N = true) (f : ∀ s, fenceModules? p s = some s)
    (run : ∀ w : World, Runs p q loose Xt Yf Ya N g0 w) :
    LeftO p q loose Xt Yf Ya N g0 := by
  refine left_run (boot_open e hN f) ?_
  unfold Runs at run
  rw [PySem.W.Fast.te6613529449190102663, PySem.W.Fast.te10156331382660048174, PySem.W.Fast.te11892475500146522536, PySem.W.Fast.te14364793385576792824, PySem.W.Fast.te4187177175401517315]
  exact run
end Hd
namespace L2
open PySem PySem.Spec PyProof.Rows PySem.W
abbrev lamArgs (mp : Pos) : Arguments := { posonlyargs := [], args := [{ arg := "members", annotation := none, pos := mp }], vararg := none, kwonlyargs := [], kw_defaults := [], kwarg := none, defaults := [] }
abbrev lamBody (p2 p3 p4 p5 p6 p7 p8 : Pos) : Expr := .Call (.Name "len" p2) [.Subscript (.Name "reach" p3) (.Subscript (.Name "members" p4) (.Constant (.int 0) 0 p5) p6) p7] [] p8
abbrev lamScope : Scope := { kind := .function, names := [(Str.ofString "members", .local), (Str.ofString "reach", .free), (Str.ofString "len", .globalImplicit)], isGenerator := false, isCoroutine := false, more := [] }
section
variable {prog : Program} {w : World} {A : Around} {s : Shared}
theorem lam_call {mg mb : Str → Option Value} {qual : Str} {mp p2 p3 p4 p5 p6 p7 p8 : Pos} {clos : List (Str × Addr)} {pm ctv : Value} {f c1 cell ra b d : Addr} {rs ms : Array Value} {i : Int} {t0 : Tok} {kvs : List (Key × Value)} {Q : Value → Shared → Prop} {E : Value → Shared → Prop}
    (hf : s.heap.get? f = some (kla_obj "<lambda>" qual (lamArgs mp) (lamBody p2 p3 p4 p5 p6 p7 p8) lamScope clos pm c1 ctv)) (hcd : s.heap.CodeRec (.ref c1) qual) (hroom : A.depth < recursionLimit) (hlim : s.heap.NoLimit)
    (hg : s.heap.Ns mainGlobals mg) (hlen : mg "len" = none) (hb : s.heap.Ns builtinsNs mb) (hbb : ∀ x : Str, x ≠ "__name__" → mb x = bootBuiltins x)
    (hcl : clos.lookup (Str.ofString "reach") = some cell) (hcell : s.heap.IsCell cell (some (.ref ra))) (hra : s.heap.IsList ra rs) (hms : s.heap.IsList b ms) (h0 : ms[0]? = some (.int i t0)) (hi0 : 0 ≤ i) (hi : i < 2 ^ 63)
    (hri : rs[i.toNat]? = some (.ref d)) (hd : (d == sysModules) = false) (dd : s.heap.DictOf (mixKind prog w) d kvs) (hfit : (kvs.length : Int) < 2 ^ 63)
    (h : ∀ h' tk t, (∀ x o, s.heap.get? x = some o → h'.get? x = some o) → Q (.int kvs.length t) { s with heap := h', toks := tk }) :
    wpAny (model prog w) A (call (.ref f) [.ref b]) Q E s := by
  refine wpAny_call (kla_callFunE hroom hf rfl rfl rfl rfl hcd ?_)
  have hbind : bindArgs (kla_fn "<lambda>" qual (lamArgs mp) (lamBody p2 p3 p4 p5 p6 p7 p8) lamScope clos pm (.ref c1) ctv) ⟨[.ref b], []⟩ = pure [(Str.ofString "members", .ref b)] := rfl
  rw [hbind]
  have hc0 : ∀ x ∈ lamScope.names, x.2 ≠ NameKind.cell := by decide +kernel
  have hl0 : ∀ x ∈ [(Str.ofString "members", Value.ref b)], lamScope.names.lookup x.1 = some NameKind.local := fun x hx => by rw [List.mem_singleton.mp hx]; rfl
  refine wpAny_pure (wpAny_newFunctionEnv hc0 hl0 (fun h₁ hns hsb => ⟨hlim.fresh _ hsb, ?_⟩) rfl)
  have hk : ∀ x o, s.heap.get? x = some o → h₁.get? x = some o := fun x o e => hsb.extBut x o (Nat.ne_of_lt (Heap.lt_size e)) (Heap.get?_push_of_some _ e)
  show codeAny _ _ (.expr (lamBody p2 p3 p4 p5 p6 p7 p8) (envX qual lamScope s.heap.objs.size f (.ref c1) clos)) _ _
  refine kla_codeExpr ?_
  refine wpAny_Call_Name_kw (Calls.Name_function_global rfl rfl (Calls.loadGlobal_builtin (hg.keeps hk) hlen (hb.keeps hk) ((hbb _ (by decide)).trans (show bootBuiltins "len" = some (.builtin "len") from rfl)) ?_) (by decide))
  refine PyProof.Rows.callWith_builtin1 ?_
  refine Calls.spliced_cons (Subscript_ (wpAny_Name (wpAny_loadName_free rfl rfl hcl (hcell.keeps hk) ?_)))
  refine Subscript_ (wpAny_Name (wpAny_loadName_local rfl rfl hns (v := .ref b) rfl (wpAny_Constant_int ?_)))
  obtain ⟨om, m1, m2, m3⟩ := hms
  obtain ⟨orr, r1, r2, r3⟩ := hra
  refine item_listR (s := { s with heap := h₁, toks := _ }) (l := b) (items := ms) ⟨om, hk _ _ m1, m2, m3⟩ (by decide) (by decide) (x := .int i t0) h0 ?_
  refine item_listR (s := { s with heap := h₁, toks := _ }) (l := ra) (items := rs) ⟨orr, hk _ _ r1, r2, r3⟩ hi0 hi (x := .ref d) hri (Calls.spliced_nil ?_)
  obtain ⟨o, es, ep, e1, e2⟩ := dd
  exact call_len_dict hd (show (Shared.mk _ _ _ _ _).heap.DictOf (mixKind prog w) d kvs from ⟨o, es, ep, hk _ _ e1, e2⟩) hfit (h _ _ _ hk)
end
noncomputable def tSortL (tp : Addr) (dsc : Array Value) (i : Nat) (te : TE) : TE := fun σ H Q => te σ H fun v H1 => ∃ (a : Addr) (bs : List Addr) (key : Addr → Int) (ra : Addr) (rs : List V), v = .ref a ∧ H1 a = some (.lst (List.map V.ref bs)) ∧ bs.length < 64 ∧ σ[i]? = some (some (.ref ra)) ∧ H1 ra = some (.lst rs) ∧ H1 tp = some (.tbl dsc) ∧
  (∀ b ∈ bs, ∃ j xs d kvs, H1 b = some (.lst (.int j :: xs)) ∧ 0 ≤ j ∧ j < 1000000 ∧ rs[j.toNat]? = some (.ref d) ∧ H1 d = some (.dK kvs) ∧ key b = (kvs.length : Int)) ∧
  ∀ p cs H2, Same H1 H2 → H1 p = none → H2 p = some (.lst (List.map V.ref cs)) → cs.Perm bs → cs.Pairwise (fun b c => key b ≤ key c) → Q (.ref p) H2
noncomputable def adO : Value → Addr
  | .ref a => a
  | _ => 0
theorem vals_refs : ∀ {bs : List Addr} {its : List Value}, Vals (bs.map V.ref) its → its = bs.map Value.ref
  | [], _, .nil => rfl
  | _ :: bs, _, .cons r t => by rw [vals_refs (bs := bs) t, show _ = Value.ref _ from r]; rfl
section
variable {X : Cx}
theorem pe_sortL {i k : Nat} {tc tp : Addr} {dsc : Array Value} {t0 : Tok} {e : Expr} {te : TE} {p1 pos kp lp mp p2 p3 p4 p5 p6 p7 p8 : Pos} (hg : Gl X "sorted") (hm : X.mg "sorted" = none) (hl : X.mg "len" = none) (hB : LamB X.base X.mg tc tp)
    (hcode : X.env.code = .ref tc) (hr : Room k X.A) (hdsc : dsc = #[rawInt lp.line, rawInt lp.col, .str (X.env.qual ++ "<lambda>") t0]) (he : PE X e te) (hN : X.N[i]? = some "reach" := by rfl) (hv : X.env.kindOf "reach" = some .cell := by rfl) (n1 : noStar e = true := by rfl) :
    PE X (.Call (.Name "sorted" p1) [e] [⟨some "key", .Lambda (lamArgs mp) (lamBody p2 p3 p4 p5 p6 p7 p8) lamScope lp, kp⟩] pos) (tSortL tp dsc i te) := by
  intro pins s σ H Q I h
  refine wpAny_Call_Name_kw (ld_blt I hg hm (u := .builtin "sorted") rfl ?_ (by decide) (by decide))
  refine PyProof.Rows.callWith_kw (e := e) (rest := []) ?_ (by rw [se n1]; rfl) (by rw [se n1]; rfl) rfl rfl
  rw [se n1]
  show wpAny _ _ (spliced [(false, eval e X.env)]) _ _ s
  refine Calls.spliced_cons (thn (he pins s σ H _ I h) fun u s1 ⟨x, H1, I1, r1, q1⟩ => Calls.spliced_nil ?_)
  obtain ⟨a, bs, key, ra, rs, rfl, ha, h64, eσ, hra, htp, hks, q⟩ := q1
  cases r1
  obtain ⟨cell, ec⟩ := I1.ok.has "reach" (.inl hv)
  obtain ⟨cl, ecl, c1, c2, c3⟩ := closureFor_of (env := X.env) (scope := lamScope) (fun n hn => by
    have : n = "reach" := by
      simp only [List.mem_cons, Prod.mk.injEq, List.not_mem_nil, or_false] at hn
      rcases hn with ⟨_, z⟩ | ⟨z, _⟩ | ⟨_, z⟩
      · cases z
      · exact z
      · cases z
    rw [this]
    exact ⟨cell, ec⟩)
  have hcl : cl.lookup (Str.ofString "reach") = some cell := by
    obtain ⟨c, ee⟩ := c2 "reach" (.tail _ (.head _))
    have := c1 _ _ ee
    rw [ec] at this
    cases this
    exact ee
  have mk : ∀ R : Value → Shared → Prop, (∀ f c1 pm ctv H2 s2, Inv X pins σ H2 s2 → Same H1 H2 → s2.heap.get? f = some (kla_obj "<lambda>" (X.env.qual ++ "<lambda>") (lamArgs mp) (lamBody p2 p3 p4 p5 p6 p7 p8) lamScope cl pm c1 ctv) → s2.heap.CodeRec (.ref c1) (X.env.qual ++ "<lambda>") → R (.ref f) s2) →
      wpAny (model X.prog X.w) X.A (makeFunction "<lambda>" (X.env.qual ++ "<lambda>") (lamArgs mp) (.expr (lamBody p2 p3 p4 p5 p6 p7 p8)) lamScope X.env [] [] [] lp lp.line) R X.xe s1 := by
    intro R hR
    obtain ⟨mo, e1, e2⟩ := I1.hok tp _ htp
    have hgs := I1.mod.glob.keeps I1.bk
    have hC := hB.code.keeps I1.bk
    have hBl := hB.blt.keeps I1.bk
    rcases e2 with rfl | ⟨l, c, c', qn, t, f1, rfl, f3, f4⟩
    · refine kla_makeFunction (mg := X.mg) (c := tc) (P := tp) ecl I1.ok.glob hgs hcode hC e1 trivial rfl (fun z => ?_) hBl fun c' ctv h' tk hx hge hlt hrec htb => ?_
      · obtain ⟨o, es, ep, ee, hd, _⟩ := hgs
        rw [z, e1] at ee; cases ee; cases hd
      have htb : h'.get? tp = some (tabObj #[rawInt lp.line, rawInt lp.col, .ref c']) := htb
      have nc : H1 c' = none := I1.hok.fresh hge
      have ntc : tp ≠ c' := fun z => by rw [z, nc] at htp; cases htp
      have kk : ∀ b o, b ≠ tp → s1.heap.get? b = some o → (h'.push (kla_obj "<lambda>" (X.env.qual ++ "<lambda>") (lamArgs mp) (lamBody p2 p3 p4 p5 p6 p7 p8) lamScope cl ((X.mg "__name__").getD .none) c' ctv)).get? b = some o := fun b o hb ee => Heap.get?_push_of_some _ (hx b o hb ee)
      obtain ⟨c2', oc, vs, t2, g1, g2, g3, g4⟩ := hrec
      cases g1
      refine hR _ c' _ _ (upd H1 c' (.own tp)) _ (I1.un (t' := tk) ⟨fun b o ee n _ _ => kk b o (fun z => by rw [z, htp] at n; cases n) ee, fun b o ee n _ _ => ⟨o.slots, kk b o (fun z => by rw [z, htp] at n; cases n) ee⟩, fun b o ee n _ => ?_, fun b o ee _ => ?_, fun b xs ee => ?_, fun b o u ee => ?_, fun b ps ee => ⟨#[], ?_⟩⟩ fun b o ee => ?_) (fun b o ee => ?_) (Heap.get?_push_size _ rfl) ⟨c', oc, vs, t2, rfl, Heap.get?_push_of_some _ g2, g3, g4⟩
      · rw [upd_ne (Nat.ne_of_lt (Nat.lt_of_lt_of_le (Heap.lt_size ee) hge))]; exact n
      · by_cases hb : b = tp
        · subst hb; exact ⟨_, Heap.get?_push_of_some _ htb⟩
        · exact ⟨o, kk b o hb ee⟩
      · rw [upd_ne (ne_of_none ee nc)]; exact ee
      · rw [upd_ne (ne_of_none ee nc)]; exact ee
      · rw [upd_ne (ne_of_none ee nc), ee, Array.append_empty]
      · by_cases hb : b = c'
        · subst hb
          rw [upd_same] at ee
          cases ee
          exact ⟨oc, Heap.get?_push_of_some _ g2⟩
        · rw [upd_ne hb] at ee
          by_cases hb2 : b = tp
          · subst hb2
            rw [htp] at ee
            cases ee
            exact ⟨_, Heap.get?_push_of_some _ htb, .inr ⟨_, _, c', _, _, hdsc, rfl, upd_same, c', oc, vs, t2, rfl, Heap.get?_push_of_some _ g2, g3, g4⟩⟩
          · refine (I1.hok b o ee).stay (fun x u hx' e3 => kk x u (fun z => ?_) e3) (fun x e3 => by rw [upd_ne (ne_of_none e3 nc)]; exact e3) fun x xs e3 => by rw [upd_ne (ne_of_none e3 nc)]; exact e3
            rcases hx' with hx' | hx'
            · exact hb2 (hx'.symm.trans z)
            · rw [z, htp] at hx'; cases hx'
      · rw [upd_ne (ne_of_none ee nc)]; exact ee
    · rw [hdsc] at f1
      have f1 := congrArg Array.toList f1
      simp only [List.cons.injEq, and_true] at f1
      obtain ⟨f1, f2, f5⟩ := f1
      injection f5 with f5 _
      subst f1 f2 f5
      have ht : TriplesOk [rawInt lp.line, rawInt lp.col, Value.ref c'] := by simp [TriplesOk, rawInt]
      have hf : codeAmong lp [rawInt lp.line, rawInt lp.col, Value.ref c'] = some (.ref c') := by simp [codeAmong, rawInt]
      refine kla_makeFunctionHit (mg := X.mg) (c := tc) (P := tp) ecl I1.ok.glob hgs hcode hC e1 ht hf hBl fun ctv h' tk hk hsz => ?_
      obtain ⟨c2', oc, vs, t2, g1, g2, g3, g4⟩ := f4
      cases g1
      exact hR _ c' _ _ H1 _ (I1.kept (t' := tk) fun b o ee => Heap.get?_push_of_some _ (hk b o ee)) (Same.refl _) (Heap.get?_push_size _ rfl) ⟨c', oc, vs, t2, rfl, Heap.get?_push_of_some _ (hk _ _ g2), g3, g4⟩
  refine PyProof.Rows.kws_cons (kla_eval rfl (mk _ fun f c' pm ctv H2 s2 I2 sm hf hcd => PyProof.Rows.kws_nil ?_))
  show wpAny _ _ (call (.builtin "sorted") [.ref a] [(Str.ofString "key", .ref f)]) _ _ _
  obtain ⟨m2, hns2, hl2⟩ := I2.loc
  obtain ⟨its, n, rv, eo, hz⟩ := I2.lst (sm _ _ ha)
  have eits := vals_refs rv
  subst eits
  have hcell : s2.heap.IsCell cell (some (.ref ra)) := by
    obtain ⟨u, ru, lu⟩ := hl2 i "reach" (.ref ra) hN eσ (.inr (.inl hv))
    cases ru
    rcases lu with ⟨hk, _⟩ | ⟨_, c, e1, e2⟩
    · rw [hv] at hk; cases hk
    · rw [ec] at e1; cases e1; exact e2
  have nL : ∀ {b : Addr} {u : HO}, H2 b = some u → b ≠ X.env.locals := fun e z => by rw [z, I2.free] at e; cases e
  have dL : ∀ {b : Addr} {o : Obj}, s2.heap.get? b = some o → (∀ es ep, o.data ≠ .dict es ep) → b ≠ X.env.locals := fun e hd z => by
    obtain ⟨o', es, ep, e', hd', _⟩ := hns2
    rw [z, e'] at e; cases e; exact hd es ep hd'
  refine ksk_sorted (h₀ := Att.noObjs s2.heap) (L := X.env.locals) (m := m2) (news := Att.ledger s2.heap X.env.locals X.env.locals) (kz := bs.map key) (vs := bs.map Value.ref) (f := .ref f) (b := false) (Att.fr_all hns2)
    (fun p hp => by obtain ⟨x, o⟩ := p; obtain ⟨n1, _, ee⟩ := Att.mem_ledger.mp hp; exact ⟨ee, n1, Att.noObjs_get _ _⟩) ⟨_, eo, rfl, _, rfl⟩ (by rw [List.length_map, List.length_map]) (by rw [List.length_map]; exact h64) (ksk_s1 _ _) (fun x => ksk_l1 _ _) (fun x => ksk_t1 _ _) ?turn ?done
  case turn =>
    intro j v k0 ev ek h3 tk own F3 N3
    rw [List.getElem?_map] at ev ek
    obtain ⟨b, eb, rfl⟩ := Option.map_eq_some_iff.mp ev
    rw [eb] at ek
    cases ek
    have kp : ∀ x o, x ≠ X.env.locals → s2.heap.get? x = some o → h3.get? x = some o := fun x o hx ee => (N3 (x, o) (List.mem_append_left _ (Att.mem_ledger.mpr ⟨hx, hx, ee⟩))).1
    have kb : ∀ x o, X.base.get? x = some o → h3.get? x = some o := fun x o ee => kp x o (fun z => by
      have l1 : x < X.base.objs.size := Heap.lt_size ee
      have l2 := I2.ok.bsz
      have l3 := I2.ok.above
      rw [z] at l1
      exact absurd (Nat.lt_of_lt_of_le l1 (Nat.le_trans l2 l3)) (Nat.lt_irrefl _)) (I2.bk x o ee)
    obtain ⟨j0, xs, d, kvs, hb, g0, g1, gd, hd, ekey⟩ := hks b (List.mem_of_getElem? eb)
    obtain ⟨itb, nb, rvb, eob, _⟩ := I2.lst (sm _ _ hb)
    obtain ⟨itr, nr, rvr, eor, _⟩ := I2.lst (sm _ _ hra)
    obtain ⟨mb, hmb, hmb2⟩ := I2.mod.blt
    obtain ⟨ui, eui, t1, rfl⟩ := rvb.get (i := 0) (x := .int j0) rfl
    obtain ⟨ud, eud, rud⟩ := rvr.get gd
    obtain rfl : ud = Value.ref d := rud
    obtain ⟨z1, hsd, vs, rel, o, es, ep, ed, ed2⟩ := I2.hok d _ (sm _ _ hd)
    obtain ⟨c2', oc, vs2, t2, w1, w2, w3, w4⟩ := hcd
    cases w1
    obtain ⟨oe, he1, he2⟩ := hcell
    have sl := sizeLine_eq
    have rl := rel.length
    refine lam_call (s := { s2 with heap := h3, toks := tk }) (kvs := vs) (kp _ _ (dL hf fun _ _ z => by cases z) hf) ⟨c', oc, vs2, t2, rfl, kp _ _ (dL w2 fun _ _ z => by rw [w3] at z; cases z) w2, w3, w4⟩ hr.depth (I2.mod.nolimit.keeps kb) (I2.mod.glob.keeps kb) hl (hmb.keeps kb) hmb2 hcl
      ⟨oe, kp _ _ (dL he1 fun _ _ z => by rw [he2] at z; cases z) he1, he2⟩ ⟨_, kp _ _ (nL (sm _ _ hra)) eor, rfl, _, rfl⟩ ⟨_, kp _ _ (nL (sm _ _ hb)) eob, rfl, _, rfl⟩ (by simpa using eui) g0 (by omega) (by simpa using eud) hsd ⟨o, es, ep, kp _ _ (nL (sm _ _ hd)) ed, ed2⟩ (by omega) fun h4 tk4 t4 k4 => ?_
    rw [ekey, show ((kvs.length : Nat) : Int) = ((vs.length : Nat) : Int) by rw [rl]]
    exact ⟨h4, tk4, t4, rfl, rfl, F3.kept k4, N3.grown k4⟩
  case done =>
    intro D h3 tk out c F3 N3 lt ko
    obtain ⟨ps, hp, ho, hs⟩ := ko
    have ez : (bs.map key).zip (bs.map Value.ref) = bs.map fun b => (key b, Value.ref b) := by
      rw [List.zip_map', ]
    rw [ez] at hp
    have mem : ∀ p ∈ ps, p = (key (adO p.2), Value.ref (adO p.2)) := fun p hp' => by
      obtain ⟨b, _, rfl⟩ := List.mem_map.mp (hp.mem_iff.mp hp')
      rfl
    have nd : (D : Addr) ≠ X.env.locals := (N3 _ (.head _)).2.1
    have dn : s2.heap.get? D = none := by
      cases ee : s2.heap.get? D with
      | none => rfl
      | some o => exact absurd (lt (D, o) (Att.mem_ledger.mpr ⟨nd, nd, ee⟩)) (Nat.lt_irrefl _)
    have hD : H2 D = none := by
      cases ee : H2 D with
      | none => rfl
      | some o =>
        obtain ⟨ob, e'⟩ := ObjOk.get (I2.hok D o ee)
        rw [dn] at e'; cases e'
    have kp : ∀ x o, x ≠ X.env.locals → s2.heap.get? x = some o → h3.get? x = some o := fun x o hx ee => (N3 (x, o) (List.mem_cons_of_mem _ (Att.mem_ledger.mpr ⟨hx, hx, ee⟩))).1
    have eout : out = ((ps.map fun p => adO p.2).map Value.ref).toArray := by
      have : out.toList = (ps.map fun p => adO p.2).map Value.ref := by
        rw [ho, List.map_map]
        exact List.map_congr_left fun p hp' => congrArg Prod.snd (mem p hp')
      rw [← this, Array.toArray_toList]
    have pm : (ps.map fun p => adO p.2).Perm bs := by
      have := hp.map fun p => adO p.2
      rw [List.map_map] at this
      exact this.trans (List.Perm.of_eq (by rw [show ((fun p : Int × Value => adO p.2) ∘ fun b => (key b, Value.ref b)) = id from rfl, List.map_id]))
    have pl := pm.length_eq
    have obD := (N3 _ (.head _)).1
    have sl := sizeLine_eq
    refine ⟨.ref D, upd H2 D (.lst ((ps.map fun p => adO p.2).map V.ref)), I2.step (ch := []) (g' := s2.gens) (d' := s2.drawn) (t' := tk) (fun _ z => nomatch z) (fun b o h1 _ _ ee _ => kp b o h1 ee) (fun b o h1 _ _ ee _ => ⟨o.slots, kp b o h1 ee⟩) (fun b o _ ee n => ?_) (fun b o _ ee => ?_) (fun b xs ee => ?_) (fun b o u ee => ?_) (fun b qs ee => ⟨#[], ?_⟩) (fun m hn => ?_) (fun b o ee => ?_) I2.bare, rfl, ?_⟩
    · rw [upd_ne (fun z => by rw [z, dn] at ee; cases ee)]; exact n
    · by_cases hb : b = X.env.locals
      · obtain ⟨o', _, _, e', _⟩ := F3.ns
        exact ⟨o', by rw [hb]; exact e'⟩
      · exact ⟨o, kp b o hb ee⟩
    · rw [upd_ne (ne_of_none ee hD)]; exact ee
    · rw [upd_ne (ne_of_none ee hD)]; exact ee
    · rw [upd_ne (ne_of_none ee hD), ee, Array.append_empty]
    · have e1 := hn.eq_nsMap
      have e2 := hns2.eq_nsMap
      rw [e1, ← e2]
      exact F3.ns
    · by_cases hb : b = D
      · subst hb
        rw [upd_same] at ee
        cases ee
        refine ⟨by rw [List.length_map, pl]; omega, (ps.map fun p => adO p.2).map Value.ref, c, ?_, by rw [eout] at obD; exact obD⟩
        generalize (ps.map fun p => adO p.2) = cs
        induction cs with
        | nil => exact .nil
        | cons x cs ih => exact .cons rfl ih
      · rw [upd_ne hb] at ee
        refine (I2.hok b o ee).stay (fun x u hx' e3 => kp x u (fun z => ?_) e3) (fun x e3 => by rw [upd_ne (ne_of_none e3 hD)]; exact e3) fun x xs e3 => by rw [upd_ne (ne_of_none e3 hD)]; exact e3
        rcases hx' with hx' | hx'
        · subst hx'; exact nL ee z
        · exact nL hx' z
    · refine q D _ _ (sm.trans fun b o ee => by rw [upd_ne (ne_of_none ee hD)]; exact ee) ?_ upd_same pm ?_
      · cases ee : H1 D with
        | none => rfl
        | some o => rw [sm _ _ ee] at hD; cases hD
      · rw [List.pairwise_map]
        refine hs.imp_of_mem fun {x y} hx hy hle => ?_
        have hle : x.1 ≤ y.1 := hle
        rw [mem x hx, mem y hy] at hle
        exact hle
end
noncomputable def LamD (K : PySem.W.Frag) (mg : Str → Option Value) (x : Str) (tc : Addr) : Prop := ∃ f oc od fd osl, mg x = some (.ref f) ∧ K.lookup f = some ⟨oc, od, .func fd, osl⟩ ∧ fd.code = .ref tc
section
variable {P : Program} {w : World} {K : PySem.W.Frag} {mg : Str → Option Value} {base : Heap} {CX : CXT}
theorem Fun.okL {x qual : Str} {st : Stmt} {f tc : Addr} {fd : FuncData} {N ps : List Str} {k : Nat} {sp : Sp} (F : Fun K x qual st f fd) (hc : fd.code = .ref tc) (S : FnScope N ps (defScope st)) (len : ∀ vs H Q E, sp vs H Q E → vs.length = ps.length)
    (hbody : ∀ (A : Around) (outer : List Env) (s : Shared) (H : Hp) (vs : List V) (Q : VK) (E : XK), Room k (A.deeper (envOfC qual (defScope st) s.heap.objs.size f (.ref tc))) → sp vs H Q E →
      ∃ t, PSs (cxOf CX P w K mg base N qual (defScope st) f (.ref tc) A outer s H E).nox (defBody st) t ∧ t { nx := fun _ H' => Q .non H', rt := Q } (start N vs) H) : FnOk P w K mg base CX (k + 1) f fd ps sp := by
  obtain ⟨oc, od, kV, doc, pm, an, cdv, ct, osl, rfl, lk, hcd⟩ := F.ex
  have hc : cdv = .ref tc := hc
  subst hc
  refine fn_of lk hcd S len fun A outer s H vs Q E hr hsp => ?_
  obtain ⟨t, h, q⟩ := hbody A outer s H vs Q E hr hsp
  exact ⟨t, h.nox, q⟩
theorem Dn.calL {x : Str} {st : Stmt} {ps : List Str} {k : Nat} {sp : Sp} {tc : Addr} (D : Dn K mg x st) (L : LamD K mg x tc)
    (hb : ∀ (kV doc pm : Value) (an : Option Addr) (cdv ct : Value) (us : List Value), us.length = ps.length → bindArgs (PySem.W.fnOf x x (defArgs st) (defBody st) (defScope st) .none kV doc pm an cdv ct) ⟨us, []⟩ = pure (ps.zip us))
    (h : ∀ f fd, Fun K x x st f fd → fd.code = .ref tc → FnOk P w K mg base CX k f fd ps sp) : Cal P w K mg base CX k x ps sp := by
  obtain ⟨f, fd, F, hm⟩ := D.ex
  obtain ⟨f', oc, od, fd', osl, h1, h2, h3⟩ := L
  rw [hm] at h1
  cases h1
  obtain ⟨oc', od', _, _, _, _, _, _, osl', _, lk, _⟩ := F.ex
  rw [lk] at h2
  cases h2
  exact ⟨f, fd, h f fd F h3, hm, F.kp, F.binds hb⟩
end
end L2
namespace KS
open PySem PySem.W PyProof.Rows
noncomputable def SrtP (f : Nat → Int) (p : Array Nat) (k : Nat) : Prop := ∀ i j, i ≤ j → j < k → f (p.getD i 0) ≤ f (p.getD j 0)
noncomputable def DscP (f : Nat → Int) (p : Array Nat) (k : Nat) : Prop := ∀ i j, i < j → j < k → f (p.getD j 0) < f (p.getD i 0)
theorem getD_at (p : Array Nat) (i : Nat) : p.getD i 0 = (p[i]?).getD 0 := by
  by_cases h : i < p.size
  · simp [Array.getD, h]
  · simp [Array.getD, h]
theorem Pm.size {n : Nat} {p : Array Nat} (h : Pm n p) : p.size = n := by
  have := h.size_eq
  simpa using this
theorem Pm.inj {n : Nat} {p : Array Nat} (h : Pm n p) {i j : Nat} (hi : i < n) (hj : j < n) (e : p.getD i 0 = p.getD j 0) : i = j := by
  have sz := h.size
  have nd : p.toList.Nodup := (Array.perm_iff_toList_perm.mp h).nodup_iff.mpr (by simpa using List.nodup_range)
  have e1 : p.toList[i]'(by simpa [sz] using hi) = p.toList[j]'(by simpa [sz] using hj) := by
    have a1 : p.getD i 0 = p.toList[i]'(by simpa [sz] using hi) := by simp [Array.getD, sz, hi]
    have a2 : p.getD j 0 = p.toList[j]'(by simpa [sz] using hj) := by simp [Array.getD, sz, hj]
    rw [← a1, ← a2, e]
  exact (List.getElem_inj nd).mp e1
section
variable {f : Nat → Int} {n : Nat}
theorem asc_srt {p : Array Nat} (hp : Pm n p) (hn : 0 < n) : ∀ fu k, 1 ≤ k → SrtP f p k → Bd (fun i j => decide (f i < f j)) n (fun m => k ≤ m ∧ m ≤ k + fu ∧ SrtP f p m ∧ (m < k + fu → f (p.getD m 0) < f (p.getD (m - 1) 0))) (kas_asc p fu k)
  | 0, k, _, hs => ⟨Nat.le_refl _, Nat.le_refl _, hs, fun h => absurd h (Nat.lt_irrefl _)⟩
  | fu + 1, k, h1, hs => by
    refine ⟨hp.lt hn _, hp.lt hn _, ?_⟩
    by_cases c : f (p.getD k 0) < f (p.getD (k - 1) 0)
    · simp only [c, decide_true, if_true]
      exact ⟨Nat.le_refl _, by omega, hs, fun _ => c⟩
    · simp only [c, decide_false, Bool.false_eq_true, if_false]
      refine (asc_srt hp hn fu (k + 1) (by omega) fun i j hij hj => ?_).mono fun m ⟨a1, a2, a3, a4⟩ => ⟨by omega, by omega, a3, fun h => a4 (by omega)⟩
      by_cases e : j = k
      · subst e
        by_cases e2 : i = j
        · rw [e2]; exact Int.le_refl _
        · exact Int.le_trans (hs i (j - 1) (by omega) (by omega)) (Int.not_lt.mp c)
      · exact hs i j hij (by omega)
theorem desc_srt (hinj : ∀ i j, i < n → j < n → f i = f j → i = j) {p : Array Nat} (hp : Pm n p) (hn : 0 < n) : ∀ fu k, 1 ≤ k → k + fu ≤ n → DscP f p k →
    Bd (fun i j => decide (f i < f j)) n (fun r => r.1 = p ∧ r.2.2 = 0 ∧ k ≤ r.2.1 ∧ r.2.1 ≤ k + fu ∧ DscP f p r.2.1) (kas_desc fu p k 0)
  | 0, k, _, _, hs => ⟨rfl, rfl, Nat.le_refl _, Nat.le_refl _, hs⟩
  | fu + 1, k, h1, hk, hs => by
    refine ⟨hp.lt hn _, hp.lt hn _, ?_⟩
    by_cases c : f (p.getD k 0) < f (p.getD (k - 1) 0)
    · simp only [c, decide_true, if_true, Nat.lt_irrefl, gt_iff_lt, if_false]
      refine (desc_srt hinj hp hn fu (k + 1) (by omega) (by omega) fun i j hij hj => ?_).mono fun m ⟨a1, a2, a3, a4, a5⟩ => ⟨a1, a2, by omega, by omega, a5⟩
      by_cases e : j = k
      · subst e
        by_cases e2 : i = j - 1
        · rw [e2]; exact c
        · exact Int.lt_trans c (hs i (j - 1) (by omega) (by omega))
      · exact hs i j hij (by omega)
    · simp only [c, decide_false, Bool.false_eq_true, if_false]
      refine ⟨hp.lt hn _, hp.lt hn _, ?_⟩
      by_cases d : f (p.getD (k - 1) 0) < f (p.getD k 0)
      · simp only [d, decide_true, if_true]
        exact ⟨rfl, rfl, Nat.le_refl _, Nat.le_add_right _ _, hs⟩
      · exfalso
        have e : f (p.getD k 0) = f (p.getD (k - 1) 0) := by omega
        have := hp.inj (i := k) (j := k - 1) (by omega) (by omega) (hinj _ _ (hp.lt hn _) (hp.lt hn _) e)
        omega
theorem rev_srt {p : Array Nat} {m : Nat} (hm : m ≤ p.size) (hs : DscP f p m) : SrtP f (kas_rev p 0 m) m := fun i j hij hj => by
  have g : ∀ k, k < m → (kas_rev p 0 m).getD k 0 = p.getD (m - 1 - k) 0 := fun k hk => by
    rw [getD_at, getD_at]
    unfold kas_rev
    rw [getElem?_mirror_all hm, if_pos ⟨Nat.zero_le _, hk⟩, Nat.zero_add]
  rw [g i (by omega), g j hj]
  by_cases e : i = j
  · rw [e]; exact Int.le_refl _
  · exact Int.le_of_lt (hs _ _ (by omega) (by omega))
theorem tail3_srt (hn : 0 < n) {p : Array Nat} (hp : Pm n p) {m : Nat} (h1 : 1 ≤ m) (hm : m ≤ n) (hs : DscP f p m) : Bd (fun i j => decide (f i < f j)) n (fun r => Pm n r.2 ∧ SrtP f r.2 r.1 ∧ 1 ≤ r.1 ∧ r.1 ≤ n) (kas_tail3 m n p) :=
  Bd.bind ((asc_srt (hp.rev 0 m) hn (n - m) m h1 (rev_srt (by rw [hp.size]; exact hm) hs)).mono fun k ⟨a1, a2, a3, _⟩ => ⟨hp.rev 0 m, a3, by omega, by omega⟩)
theorem count_srt (hinj : ∀ i j, i < n → j < n → f i = f j → i = j) (hn : 0 < n) {p : Array Nat} (hp : Pm n p) : Bd (fun i j => decide (f i < f j)) n (fun r => Pm n r.2 ∧ SrtP f r.2 r.1 ∧ 1 ≤ r.1 ∧ r.1 ≤ n) (kas_count n p) := by
  refine Bd.bind ((asc_srt hp hn (n - 1) 1 (Nat.le_refl _) fun i j hij hj => ?_).mono fun m ⟨a1, a2, a3, a4⟩ => ?_)
  · have : i = j := by omega
    rw [this]; exact Int.le_refl _
  by_cases e : m = n
  · subst e
    simp only [beq_self_eq_true, if_true]
    exact ⟨hp, a3, a1, by omega⟩
  · have e' : (m == n) = false := by simpa using e
    simp only [e', Bool.false_eq_true, if_false]
    have lt := a4 (by omega)
    by_cases g : m > 1
    · simp only [g, if_true]
      refine ⟨hp.lt hn _, hp.lt hn _, ?_⟩
      by_cases c : f (p.getD 0 0) < f (p.getD (m - 1) 0)
      · simp only [c, decide_true, if_true]
        exact ⟨hp, a3, a1, by omega⟩
      · exfalso
        have le := a3 0 (m - 1) (Nat.zero_le _) (by omega)
        have := hp.inj (i := 0) (j := m - 1) (by omega) (by omega) (hinj _ _ (hp.lt hn _) (hp.lt hn _) (by omega))
        omega
    · have e1 : m = 1 := by omega
      subst e1
      simp only [Nat.lt_irrefl, gt_iff_lt, if_false]
      refine Bd.bind ((desc_srt hinj hp hn (n - (1 + 1)) (1 + 1) (by omega) (by omega) fun i j hij hj => ?_).mono fun r ⟨b1, b2, b3, b4, b5⟩ => ?_)
      · have e1 : i = 0 := by omega
        have e2 : j = 1 := by omega
        rw [e1, e2]
        exact lt
      · obtain ⟨q, m, z⟩ := r
        simp only at b1 b2 b3 b4 b5
        subst b1 b2
        simp only [Nat.lt_irrefl, gt_iff_lt, if_false]
        exact tail3_srt hn hp (by omega) (by omega) b5
theorem place_srt (hn : 0 < n) {p : Array Nat} (hp : Pm n p) {k : Nat} (hs : SrtP f p k) : ∀ fu l r, l ≤ r → r ≤ k → r - l ≤ fu → (∀ i, i < l → f (p.getD i 0) ≤ f (p.getD k 0)) → (∀ i, r ≤ i → i < k → f (p.getD k 0) < f (p.getD i 0)) →
    Bd (fun i j => decide (f i < f j)) n (fun l => l ≤ k ∧ (∀ i, i < l → f (p.getD i 0) ≤ f (p.getD k 0)) ∧ ∀ i, l ≤ i → i < k → f (p.getD k 0) < f (p.getD i 0)) (kas_place p k fu l r)
  | 0, l, r, h1, h2, h3, hlo, hhi => by
    have : l = r := by omega
    subst this
    exact ⟨h2, hlo, hhi⟩
  | fu + 1, l, r, h1, h2, h3, hlo, hhi => by
    unfold kas_place
    by_cases g : l ≥ r
    · have : l = r := by omega
      subst this
      rw [if_pos g]
      exact ⟨h2, hlo, hhi⟩
    · rw [if_neg g]
      refine ⟨hp.lt hn _, hp.lt hn _, ?_⟩
      by_cases c : f (p.getD k 0) < f (p.getD ((l + r) / 2) 0)
      · simp only [c, decide_true, if_true]
        exact place_srt hn hp hs fu l ((l + r) / 2) (by omega) (by omega) (by omega) hlo fun i a b => Int.lt_of_lt_of_le c (hs _ _ a b)
      · simp only [c, decide_false, Bool.false_eq_true, if_false]
        exact place_srt hn hp hs fu ((l + r) / 2 + 1) r (by omega) h2 (by omega) (fun i a => Int.le_trans (hs i ((l + r) / 2) (by omega) (by omega)) (Int.not_lt.mp c)) hhi
theorem bin_srt (hn : 0 < n) : ∀ fu (p : Array Nat) k, Pm n p → SrtP f p k → k + fu = n → Bd (fun i j => decide (f i < f j)) n (fun p => Pm n p ∧ SrtP f p n) (kas_bin fu p k)
  | 0, p, k, hp, hs, e => ⟨hp, by rw [← e]; exact hs⟩
  | fu + 1, p, k, hp, hs, e => by
    refine Bd.bind ((place_srt hn hp hs k 0 k (Nat.zero_le _) (Nat.le_refl _) (by omega) (fun i h => by omega) fun i a b => by omega).mono fun l ⟨hl, hlo, hhi⟩ => ?_)
    refine bin_srt hn fu _ (k + 1) (hp.bub _ _) (fun i j hij hj => ?_) (by omega)
    have sz := hp.size
    have g : ∀ x, (bubble p k (k - l)).getD x 0 = if x = l then p.getD k 0 else if l < x ∧ x ≤ k then p.getD (x - 1) 0 else p.getD x 0 := fun x => by
      rw [getD_at, getElem?_bubble (by omega) _ (by omega), show k - (k - l) = l by omega]
      split
      · rw [getD_at]
      · split
        · rw [getD_at]
        · rw [getD_at]
    rw [g i, g j]
    repeat' split
    all_goals first
      | (exfalso; omega)
      | exact Int.le_refl _
      | exact hlo _ (by omega)
      | exact Int.le_of_lt (hhi _ (by omega) (by omega))
      | exact hs _ _ (by omega) (by omega)
theorem sort_srt (hinj : ∀ i j, i < n → j < n → f i = f j → i = j) (hn : 0 < n) : Bd (fun i j => decide (f i < f j)) n (fun p => Pm n p ∧ SrtP f p n) (kas_sort n) := by
  refine Bd.bind ((count_srt hinj hn (Array.Perm.refl _)).mono fun r ⟨a1, a2, a3, a4⟩ => ?_)
  split
  · rw [show max r.1 1 = r.1 by omega]
    exact bin_srt hn _ _ _ a1 a2 (by omega)
  · rw [show r.1 = n by omega] at a2
    exact ⟨a1, a2⟩
theorem srt_pair {p : Array Nat} (hs : SrtP f p p.size) : p.toList.Pairwise fun i j => f i ≤ f j := by
  rw [List.pairwise_iff_getElem]
  intro i j hi hj hij
  have h1 : i < p.size := by simpa using hi
  have h2 : j < p.size := by simpa using hj
  have := hs i j (Nat.le_of_lt hij) h2
  simpa [Array.getD, h1, h2] using this
end
end KS
namespace PySem.SeqAt
open AutoSeq1 (wpAny_loadPart')
open MeetsSeq MeetsSeq2 MeetsSeq3
noncomputable def RcLtAt (A : Around) (s : Shared) (y x : Value) (b : Bool) : Prop :=
  ∀ (prog : Program) (w : World) (E : Value → Shared → Prop) (Q : Value → Shared → Prop), Q (.bool b) s → wpAny (model prog w) A (richCompare .Lt y x) Q E s
set_option maxHeartbeats 4000000 in
theorem lt_loopAt (l b : Addr) (items items2 : Array Value) (n n2 : Nat) (dd dd2 : Option Addr) (sl sl2 : Array (Option Value)) (e g : Nat → Bool) (k : Nat) :
    ∀ i : Nat, i ≤ items.size → i ≤ items2.size → min items.size items2.size - i = k → Meets (Builtin.«list.__eq__.loop» ⟨[.ref l, .ref b, rawInt i, rawInt 0], []⟩)
      (fun A R s => s.heap.get? l = some { cls := .type "list", dict := dd, data := .seq items n, slots := sl } ∧ s.heap.get? b = some { cls := .type "list", dict := dd2, data := .seq items2 n2, slots := sl2 } ∧
        (∀ j (h1 : j < items.size) (h2 : j < items2.size), EqAt A.in1 s items[j] items2[j] (e j)) ∧ (∀ j (h1 : j < items.size) (h2 : j < items2.size), RcLtAt A.in1 s items[j] items2[j] (g j)) ∧
        R (.ok (.ret (.bool (geFrom e g (decide (items.size < items2.size)) k i)))) s) := by
  induction k with
  | zero =>
    intro i hi hi' hk prog w A R s h
    obtain ⟨hp, g, d, tk, os⟩ := s; obtain ⟨hl, hb, he, hg, h⟩ := h
    wp_walk using wpAny_loadPart' hl, wpAny_loadPart' hb
    by_cases c : items.size ≤ i
    · have hi1 : items[((i : Nat) : Int).toNat]? = none := by simp; omega
      rw [hi1]
      wp_walk using wpAny_loadPart' hl, wpAny_loadPart' hb
      exact h
    · have hi1 : items[((i : Nat) : Int).toNat]? = some (items[i]'(by omega)) := by simp
      have hi2 : items2[((i : Nat) : Int).toNat]? = none := by simp; omega
      rw [hi1, hi2]
      wp_walk using wpAny_loadPart' hl, wpAny_loadPart' hb
      exact h
  | succ k ih =>
    intro i hi hi' hk prog w A R s h
    obtain ⟨hp, gg, d, tk, os⟩ := s; obtain ⟨hl, hb, he, hg, h⟩ := h
    wp_walk using wpAny_loadPart' hl, wpAny_loadPart' hb
    have hlt : i < items.size := by omega
    have hlt2 : i < items2.size := by omega
    have hi1 : items[((i : Nat) : Int).toNat]? = some items[i] := by simp [hlt]
    have hi2 : items2[((i : Nat) : Int).toNat]? = some items2[i] := by simp [hlt2]
    have hc : ((i : Int) + 1) = ((i + 1 : Nat) : Int) := by push_cast; rfl
    rw [geFrom] at h
    rw [hi1, hi2]
    refine wpAny_bind (he i hlt hlt2 prog w _ _ ?_)
    cases hb' : e i with
    | true =>
      rw [hb', if_pos rfl] at h
      wp_walk
      rw [hc]
      exact ⟨plainId_quiet plain_eq_loop _, codeAny_builtin entry_eq_loop (by
        rw [Around.under_plainId plain_eq_loop _]
        exact ih (i + 1) (by omega) (by omega) (by omega) prog w A R _ ⟨hl, hb, he, hg, h⟩)⟩
    | false =>
      rw [hb', if_neg (by decide)] at h
      wp_walk using wpAny_loadPart' hl, wpAny_loadPart' hb
      rw [hi1, hi2]
      refine wpAny_bind (hg i hlt hlt2 prog w _ _ ?_)
      wp_walk
      exact h
set_option maxHeartbeats 4000000 in
theorem list_ltAt (l b : Addr) (items items2 : Array Value) (n n2 : Nat) (dd dd2 : Option Addr) (sl sl2 : Array (Option Value)) (e g : Nat → Bool) :
    Meets (Builtin.«list.__lt__» ⟨[.ref l, .ref b], []⟩)
      (fun A R s => s.heap.get? l = some { cls := .type "list", dict := dd, data := .seq items n, slots := sl } ∧ s.heap.get? b = some { cls := .type "list", dict := dd2, data := .seq items2 n2, slots := sl2 } ∧
        (∀ j (h1 : j < items.size) (h2 : j < items2.size), EqAt A.in1 s items[j] items2[j] (e j)) ∧ (∀ j (h1 : j < items.size) (h2 : j < items2.size), RcLtAt A.in1 s items[j] items2[j] (g j)) ∧
        R (.ok (.ret (.bool (geFrom e g (decide (items.size < items2.size)) (min items.size items2.size) 0)))) s) := by
  intro prog w A R s h
  obtain ⟨hp, gg, d, tk, os⟩ := s; obtain ⟨hl, hb, he, hg, h⟩ := h
  have f3 := AutoSeq1.sub_list_list
  wp_walk using wpAny_loadPart' hl, wpAny_loadPart' hb
  exact ⟨plainId_quiet plain_eq_loop _, codeAny_builtin entry_eq_loop (by
    rw [Around.under_plainId plain_eq_loop _]
    exact lt_loopAt l b items items2 n n2 dd dd2 sl sl2 e g _ 0 (Nat.zero_le _) (Nat.zero_le _) rfl prog w A R _ ⟨hl, hb, he, hg, by simpa using h⟩)⟩
end PySem.SeqAt
namespace L2
open PySem PySem.Spec PyProof.Rows PySem.W
noncomputable def lexLs : List Int → List Int → Bool
  | [], [] => false
  | [], _ :: _ => true
  | _ :: _, [] => false
  | a :: r, b :: q => if a = b then lexLs r q else decide (a < b)
theorem ltFrom_lex (as bs : List Int) : ∀ (ns ms : List Int) (i : Nat), as.drop i = ns → bs.drop i = ms → i ≤ as.length → i ≤ bs.length →
    SeqAt.geFrom (fun j => as.getD j 0 == bs.getD j 0) (fun j => decide (as.getD j 0 < bs.getD j 0)) (decide (as.length < bs.length)) (min ns.length ms.length) i = lexLs ns ms
  | [], ms, i, h1, h2, l1, l2 => by
    have e1 := congrArg List.length h1
    have e2 := congrArg List.length h2
    rw [List.length_drop] at e1 e2
    simp only [List.length_nil, Nat.zero_min] at e1 ⊢
    rw [SeqAt.geFrom]
    cases ms with
    | nil => simp only [List.length_nil] at e2; simp [lexLs]; omega
    | cons b q => simp only [List.length_cons] at e2; simp [lexLs]; omega
  | a :: r, [], i, h1, h2, l1, l2 => by
    have e1 := congrArg List.length h1
    have e2 := congrArg List.length h2
    rw [List.length_drop] at e1 e2
    simp only [List.length_nil, Nat.min_zero, List.length_cons] at e1 e2 ⊢
    rw [SeqAt.geFrom]
    simp [lexLs]
    omega
  | a :: r, b :: q, i, h1, h2, l1, l2 => by
    have e1 := congrArg List.length h1
    have e2 := congrArg List.length h2
    rw [List.length_drop, List.length_cons] at e1 e2
    have g1 : as.getD i 0 = a := by
      have : (as.drop i)[0]? = some a := by rw [h1]; rfl
      rw [List.getElem?_drop] at this
      simpa [List.getD] using congrArg (·.getD 0) this
    have g2 : bs.getD i 0 = b := by
      have : (bs.drop i)[0]? = some b := by rw [h2]; rfl
      rw [List.getElem?_drop] at this
      simpa [List.getD] using congrArg (·.getD 0) this
    have d1 : as.drop (i + 1) = r := by rw [← List.drop_drop, h1]; rfl
    have d2 : bs.drop (i + 1) = q := by rw [← List.drop_drop, h2]; rfl
    rw [show min (a :: r).length (b :: q).length = min r.length q.length + 1 by simp only [List.length_cons]; omega, SeqAt.geFrom, ltFrom_lex as bs r q (i + 1) d1 d2 (by omega) (by omega)]
    simp only [g1, g2, lexLs, beq_iff_eq]
theorem lexLs_self : ∀ ns : List Int, lexLs ns ns = false
  | [] => rfl
  | a :: r => by rw [lexLs, if_pos rfl]; exact lexLs_self r
theorem lex_head {ns ms : List Int} (h1 : ns ≠ []) (h2 : ms ≠ []) (h : ns.headD 0 = ms.headD 0 → ns = ms) : lexLs ns ms = decide (ns.headD 0 < ms.headD 0) := by
  cases ns with
  | nil => exact absurd rfl h1
  | cons a r =>
    cases ms with
    | nil => exact absurd rfl h2
    | cons b q =>
      show lexLs (a :: r) (b :: q) = decide (a < b)
      rw [lexLs]
      by_cases e : a = b
      · have := h e
        injection this with _ e2
        subst e e2
        rw [if_pos rfl, lexLs_self]
        simp
      · rw [if_neg e]
section
variable {prog : Program} {w : World} {A : Around} {E : Value → Shared → Prop} {s : Shared}
theorem lists_lt {x y : Addr} {its its' : List Value} {ns ms : List Int} {n n2 : Nat} {C : Bool → Shared → Prop} (hu : A.units < cLine) (hx : s.heap.get? x = some { cls := .type "list", data := .seq its.toArray n }) (hy : s.heap.get? y = some { cls := .type "list", data := .seq its'.toArray n2 })
    (rv : Vals (List.map V.int ns) its) (rv' : Vals (List.map V.int ms) its') (h : C (lexLs ns ms) s) : wpAny (model prog w) A (keyLt' oneType' (.ref x) (.ref y)) C E s := by
  have l1 := rv.length
  have l2 := rv'.length
  rw [List.length_map] at l1 l2
  rw [keyLt'_oneType, oneLt'_eq]
  simp only [if_true]
  refine wpAny_bind (wpAny_cRoomFor hu ?_)
  have e := ltFrom_lex ns ms ns ms 0 rfl rfl (Nat.zero_le _) (Nat.zero_le _)
  refine wpAny_bind (wpAny_callSpecialIfBound?_slot (T := "list") ⟨_, hx, rfl⟩ F.slot_list_lt (call_meets F.slot_list_lt ⟨_, hx, rfl⟩ F.entry_list_lt (F.args_list_lt_2 _ _) (SeqAt.list_ltAt x y its.toArray its'.toArray n n2 none none #[] #[] (fun j => ns.getD j 0 == ms.getD j 0) (fun j => decide (ns.getD j 0 < ms.getD j 0)))
    ⟨hx, hy, fun j h1 h2 => ?_, fun j h1 h2 => ?_, ?_⟩))
  · obtain ⟨t, e1⟩ := int_at rv h1
    obtain ⟨t2, e2⟩ := int_at rv' h2
    rw [e1, e2]
    exact fun prog w E Q h => wpAny_eqBool_int h
  · obtain ⟨t, e1⟩ := int_at rv h1
    obtain ⟨t2, e2⟩ := int_at rv' h2
    rw [e1, e2]
    exact fun prog w E Q h => PyProof.Rows.lt_int h
  · rw [List.size_toArray, List.size_toArray, ← l1, ← l2, e]
    exact wpAny_truthy_bool h
end
theorem hu2 {A : Around} {k : Nat} (hr : Room k A) : A.units + 2 < cLine := Nat.lt_of_le_of_lt (Nat.add_le_add_left (by decide : 2 ≤ 64) _) hr.units
section
variable {X : Cx} {K : PySem.W.Frag}
theorem call_sorted_ll (hu : X.A.units + 2 < cLine) : CallR X (.builtin "sorted") (fun xs H Q => ∃ (p : Addr) (as : List Addr) (L : Addr → List Int), xs = [.ref p] ∧ SqL X.K H p (List.map V.ref as) ∧ as.length < 64 ∧ (∀ a ∈ as, H a = some (.lst (List.map V.int (L a))) ∧ L a ≠ []) ∧
    (as.map fun a => (L a).headD 0).Nodup ∧ ∀ l zs, H l = none → zs.Perm as → zs.Pairwise (fun a b => (L a).headD 0 ≤ (L b).headD 0) → Q (.ref l) (upd H l (.lst (List.map V.ref zs)))) := by
  intro pins s σ H xs us Q I r h
  obtain ⟨p, as, L, rfl, hq, hn, hL, hnd, q⟩ := h
  obtain ⟨u, rfl, rx⟩ := vals1 r
  cases rx
  obtain ⟨its, rv, pl, hz⟩ := I.list hq
  have eits := vals_refs rv
  subst eits
  have look : ∀ a ∈ as, ∃ it n, Vals (List.map V.int (L a)) it ∧ s.heap.get? a = some { cls := .type "list", data := .seq it.toArray n } := fun a ha => by
    obtain ⟨it, n, h1, h2, _⟩ := I.lst (hL a ha).1
    exact ⟨it, n, h1, h2⟩
  have at_ : ∀ i (hi : i < as.length), (as.map Value.ref).getD i Value.none = Value.ref as[i] := fun i hi => by
    rw [List.getD_eq_getElem?_getD, List.getElem?_map, List.getElem?_eq_getElem hi]
    rfl
  have fAt : ∀ i (hi : i < as.length), (L (as.getD i 0)).headD 0 = (L as[i]).headD 0 := fun i hi => by
    rw [List.getD_eq_getElem?_getD, List.getElem?_eq_getElem hi]
    rfl
  have inj : ∀ i j, i < as.length → j < as.length → (L (as.getD i 0)).headD 0 = (L (as.getD j 0)).headD 0 → i = j := fun i j hi hj e => by
    rw [fAt i hi, fAt j hj] at e
    have := (List.getElem_inj hnd (i := i) (j := j) (h₀ := by rw [List.length_map]; exact hi) (h₁ := by rw [List.length_map]; exact hj)).mp (by simpa using e)
    exact this
  refine KS.sorted_asksR (lt := fun i j => decide ((L (as.getD i 0)).headD 0 < (L (as.getD j 0)).headD 0)) (κ := oneType') (R := fun p => p.Pairwise fun i j => (L (as.getD i 0)).headD 0 ≤ (L (as.getD j 0)).headD 0) pl.isList (by rw [List.length_map]; exact hn) (fun h2 h' Q' hk hq => ?_) (fun i j h' C hi hj hk hC => ?_) (fun h2 => ?_) (fun h2 => ?_) fun p hp hR => ?_
  · refine kas_kind (T := .type "list") (s := { s with heap := h' }) h2 (fun v hv => ?_) (by decide) (by decide) hq
    obtain ⟨a, ha, rfl⟩ := List.mem_map.mp hv
    obtain ⟨it, n, _, e⟩ := look a ha
    exact (PySem.W.Looks.ld (hk _ _ e)).andThen .now
  · rw [List.length_map] at hi hj
    obtain ⟨it, n, r1, e1⟩ := look as[i] (List.getElem_mem hi)
    obtain ⟨it2, n2, r2, e2⟩ := look as[j] (List.getElem_mem hj)
    unfold kas_ask
    rw [at_ i hi, at_ j hj]
    refine lists_lt (s := { s with heap := h' }) hu (hk _ _ e1) (hk _ _ e2) r1 r2 ?_
    rw [lex_head (hL _ (List.getElem_mem hi)).2 (hL _ (List.getElem_mem hj)).2, ← fAt i hi, ← fAt j hj]
    · exact hC
    · intro e
      have := inj i j hi hj (by rw [fAt i hi, fAt j hj]; exact e)
      subst this
      rfl
  · rw [List.length_map] at h2 ⊢
    refine (KS.sort_srt (f := fun i => (L (as.getD i 0)).headD 0) inj (by omega)).mono fun p ⟨p1, p2⟩ => ⟨p1, KS.srt_pair (by rw [p1.size]; exact p2)⟩
  · rw [List.length_map] at h2 ⊢
    match as.length, h2 with
    | 0, _ => exact .nil
    | 1, _ => exact List.pairwise_singleton _ _
  · rw [List.length_map] at hp
    have hb : ∀ i ∈ p, i < as.length := fun i hi => List.mem_range.mp (hp.mem_iff.mp hi)
    have ev : (p.map fun i => (as.map Value.ref).getD i Value.none) = (p.map fun i => as.getD i 0).map Value.ref := by
      rw [List.map_map]
      exact List.map_congr_left fun i hi => by rw [at_ i (hb i hi)]; show _ = Value.ref (as.getD i 0); rw [List.getD_eq_getElem?_getD, List.getElem?_eq_getElem (hb i hi)]; rfl
    have pz : (p.map fun i => as.getD i 0).Perm as := by
      refine (hp.map _).trans (List.Perm.of_eq ?_)
      apply List.ext_getElem?
      intro i
      rw [List.getElem?_map]
      by_cases hi : i < as.length
      · rw [List.getElem?_range hi, List.getElem?_eq_getElem hi]
        simp [hi]
      · rw [List.getElem?_eq_none (by rw [List.length_range]; omega), List.getElem?_eq_none (by omega)]
        rfl
    have pw : (p.map fun i => as.getD i 0).Pairwise (fun a b => (L a).headD 0 ≤ (L b).headD 0) := by
      rw [List.pairwise_map]
      exact hR
    rw [ev]
    generalize (p.map fun i => as.getD i 0) = zs at pz pw
    obtain ⟨e, he⟩ := sortedAll_at s.heap (as.map Value.ref) (zs.map Value.ref).toArray
    have fr := I.hok.fresh (a := s.heap.objs.size + 1) (Nat.le_succ _)
    refine ⟨.ref (s.heap.objs.size + 1), _, I.laid (t' := s.toks) (fun _ _ => sortedAll_old) (Nat.le_succ _) (o := .lst (zs.map V.ref)) ⟨?_, zs.map Value.ref, e, ?_, ?_⟩, rfl, q _ _ fr pz pw⟩
    · rw [List.length_map, pz.length_eq, sizeLine_eq]; omega
    · clear pz pw he e ev
      induction zs with
      | nil => exact .nil
      | cons x zs ih => exact .cons rfl ih
    · exact he
theorem call_sorted_llK (hu : X.A.units + 2 < cLine) (hK : X.K = K := by rfl) : CallR X (.builtin "sorted") (fun xs H Q => ∃ (p : Addr) (as : List Addr) (L : Addr → List Int), xs = [.ref p] ∧ SqL K H p (List.map V.ref as) ∧ as.length < 64 ∧ (∀ a ∈ as, H a = some (.lst (List.map V.int (L a))) ∧ L a ≠ []) ∧
    (as.map fun a => (L a).headD 0).Nodup ∧ ∀ l zs, H l = none → zs.Perm as → zs.Pairwise (fun a b => (L a).headD 0 ≤ (L b).headD 0) → Q (.ref l) (upd H l (.lst (List.map V.ref zs)))) := by subst hK; exact call_sorted_ll hu
end
end L2
namespace K26
open PySem PySem.Spec PyProof.Rows L2
set_option maxHeartbeats 4000000
local macro_rules | `(tactic| simp_all only [$ls,*]) => `(tactic| simp only [L2.start, Pr, tRev, tLR, tMaxD, tSortR, tD1, tDPop1, tSl, tNoPart, tPart, rSlL, tDIn, tDNotIn, gSub, rSetL, tLst, tDNewK, tComp, L2.stC, tFor_eq, iList, iTup, iRng1, iRng2, iZip, iEnum, iDict, iStr, tChain, tSumV, tBM, rJoin, tJoined, jNil, jLit, jInt, jStr, tRaise, tDGet, tDGet2, tDGet1, sDPut, Option.join_some, List.getElem?_nil,  tSeq, tRet, tRetN, tIfS, tTest, tB, tOp, tUn, tVar, tC, tCB, tCons, tNil, tCall, tTupS, tAsg, gName, gNil, gCons, tPar, tNext, tDrop, tAnd, tOr, tNot, tAndV, tOrV, tNotV, tIf, rI, rI0, rU, rIxTH, rIxLH, rEqT, rNeT, rInT, rEq, rNe, scal, CPow, at0, at1, at2, List.map_cons, List.map_nil, List.length_cons, List.length_nil, Nat.reduceSub, Nat.reduceAdd, Nat.zero_add, List.replicate_zero, List.reduceReplicate, List.append_nil, List.nil_append, List.cons_append, List.getElem?_cons_zero, List.getElem?_cons_succ, List.set_cons_zero, List.set_cons_succ, Option.some.injEq, exists_eq_left', exists_eq_left, V.ref.injEq, V.int.injEq, V.bl.injEq, V.str.injEq, V.ty.injEq, HO.tup.injEq, HO.lst.injEq, List.cons.injEq, and_true, true_and, and_assoc, exists_and_left, decide_eq_true_eq, Bool.not_eq_true', decide_eq_false_iff_not, ite_true, ite_false, if_true, if_false, Int.reduceToNat, eq_self_iff_true, $ls,*])
seal L2.PE L2.PT L2.PW L2.PA L2.PS L2.PSs L2.PG L2.PGs L2.PI L2.PTs L2.PO L2.OpR L2.UnR L2.CallR L2.IxR L2.SlR L2.MtR L2.MtM
theorem strictP {P : Program} {w : World} : Strict (CX1 P w) := strict1 P w
noncomputable def top (i : Nat) : Stmt := PySem.Challenge.pw_pressluck_k26_parts.main.body.getD i (.Pass ⟨0, 0, 0, 0⟩)
structure Txt (K : PySem.W.Frag) (mg : Str → Option Value) (tc : Addr) : Prop where
  z_bool : mg "bool" = none
  z_enumerate : mg "enumerate" = none
  z_int : mg "int" = none
  z_isinstance : mg "isinstance" = none
  z_len : mg "len" = none
  z_list : mg "list" = none
  z_max : mg "max" = none
  z_range : mg "range" = none
  z_set : mg "set" = none
  z_sorted : mg "sorted" = none
  z_tuple : mg "tuple" = none
  d_goals : Dn K mg "goals" (top 1)
  d_steps_from : Dn K mg "steps_from" (top 3)
  d_parts : Dn K mg "parts" (top 4)
  d__law_cell : Dn K mg "_law_cell" (top 6)
  d__law_mixed : Dn K mg "_law_mixed" (top 7)
  d__law_goal : Dn K mg "_law_goal" (top 8)
  d__law_place : Dn K mg "_law_place" (top 9)
  d__law_board : Dn K mg "_law_board" (top 10)
  d__law_copy : Dn K mg "_law_copy" (top 11)
  d__law_goals : Dn K mg "_law_goals" (top 12)
  d__law_rising : Dn K mg "_law_rising" (top 13)
  d__law_come : Dn K mg "_law_come" (top 14)
  d__law_told : Dn K mg "_law_told" (top 15)
  l_parts : LamD K mg "parts" tc
abbrev dsc : Array Value := #[rawInt 28, rawInt 29, .str ((Str.ofString "parts" ++ ".<locals>.") ++ "<lambda>") 0]
noncomputable def GPl (n : Int) : Pl → Prop
  | .fin _ => True
  | .thr _ ws => 0 < ws.length ∧ ws.length ≤ 100 ∧ ∀ p ∈ ws, 0 < p.1 ∧ p.1 ≤ 10000 ∧ 0 ≤ p.2 ∧ p.2 < n
  | .pck w to => 0 < to.length ∧ to.length ≤ 4 ∧ (w = 1 ∨ w = 2) ∧ ∀ g ∈ to, 0 ≤ g ∧ g < n
noncomputable def GB (b : List Pl) (m : Nat) : Prop := 0 < b.length ∧ b.length ≤ m ∧ ∀ q ∈ b, GPl b.length q
theorem GB.good {b : List Pl} {m : Nat} (h : GB b m) : Lv.Good b := by
  refine ⟨fun q hq g hg => ?_, fun q hq w to e => ?_⟩
  · have := h.2.2 q hq
    cases q with
    | fin w => simp [Lv.gls] at hg
    | thr w ws =>
      obtain ⟨p, hp, rfl⟩ := List.mem_map.mp hg
      have := this.2.2 p hp
      exact ⟨this.2.2.1, this.2.2.2⟩
    | pck w to => exact this.2.2.2 g hg
  · subst e
    have := (h.2.2 _ hq).1
    intro z
    rw [z] at this
    simp at this
theorem GB.len {b : List Pl} {m : Nat} (h : GB b m) {q : Pl} (hq : q ∈ b) : (Lv.gls q).length ≤ 100 := by
  have := h.2.2 q hq
  cases q with
  | fin w => simp [Lv.gls]
  | thr w ws => simp only [Lv.gls, List.length_map]; have := this.2.1; omega
  | pck w to => simp only [Lv.gls]; have := this.2.1; omega
noncomputable def spC (K : PySem.W.Frag) : Sp := fun vs H Q _ => ∃ a ns k, vs = [.ref a, .int k] ∧ SqL K H a (List.map V.int ns) ∧ 0 ≤ k ∧ k < 1000 ∧ ∀ n, Q (.int n) H
noncomputable def spMix : Sp := fun vs H Q _ => ∃ c m, vs = [.int c, .int m] ∧ 0 < m ∧ ∀ r, 0 ≤ r → r < m → Q (.int r) H
noncomputable def spGoal : Sp := fun vs H Q _ => ∃ c k n o, vs = [.int c, .int k, .int n, .int o] ∧ 0 ≤ k ∧ k < n ∧ (o = 1 → k < n - 1) ∧ ∀ r, 0 ≤ r → r < n → Q (.int r) H
noncomputable def spPl (K : PySem.W.Frag) : Sp := fun vs H Q _ => ∃ a ns k n o, vs = [.ref a, .int k, .int n, .int o] ∧ SqL K H a (List.map V.int ns) ∧ 0 ≤ k ∧ k < n ∧ n ≤ 200 ∧ ∀ v H' q, Same H H' → Rep H' (plD q) v → GPl n q → Q v H'
noncomputable def spBd (K : PySem.W.Frag) : Sp := fun vs H Q _ => ∃ a ns, vs = [.ref a] ∧ SqL K H a (List.map V.int ns) ∧ ∀ p H' b, Same H H' → Rep H' (brD b) (.ref p) → GB b 40 → Q (.ref p) H'
noncomputable def spLgs : Sp := fun vs H Q _ => ∃ v q, vs = [v] ∧ Rep H (plD q) v ∧ (Lv.gls q).length ≤ 100 ∧ ∀ l H', Same H H' → H' l = some (.lst (List.map V.int (Lv.gls q))) → Q (.ref l) H'
noncomputable def pkV : Option Int → V
  | none => .non
  | some i => .int i
noncomputable def spGls : Sp := fun vs H Q _ => ∃ v q, vs = [v] ∧ Rep H (plD q) v ∧ (Lv.gls q).length ≤ 100 ∧ ∀ l H', Same H H' → H l = none → H' l = some (.lst (List.map V.int (Lv.gls q))) → Q (.ref l) H'
noncomputable def natV (i : Nat) : V := .int i
structure LvW (H : Hp) (b : List Pl) (a ff : Addr) (m : Nat) (σ : L2.St) (H' : Hp) : Prop where
  ex : ∃ fs L fr z, σ = [some (V.ref a), some (V.ref ff), some (V.int L), some (V.ref fr), z] ∧ H' ff = some (.lst (List.map pkV fs)) ∧ H' fr = some (.lst (List.map natV (Lv.fresh b fs))) ∧ fr ≠ ff ∧ Same H H' ∧ fs.length = b.length ∧ Lv.nones fs ≤ m ∧ Lv.run b m fs L = Lv.lvs b
noncomputable def ParV (H : Hp) : Option (Int × Nat) → V → Prop
  | none, v => v = .non
  | some (h, w), v => ∃ p, v = .ref p ∧ H p = some (.tup [.int h, .int (w : Int)])
theorem ParV.mono {H H' : Hp} (s : Same H H') {o : Option (Int × Nat)} {v : V} (h : ParV H o v) : ParV H' o v := by
  cases o with
  | none => exact h
  | some x => obtain ⟨p, e, hp⟩ := h; exact ⟨p, e, s _ _ hp⟩
theorem ParV.upd {H : Hp} {a : Addr} {o : HO} {par : Option (Int × Nat)} {v : V} (n : ∀ xs, H a ≠ some (.tup xs)) (h : ParV H par v) : ParV (upd H a o) par v := by
  cases par with
  | none => exact h
  | some x => obtain ⟨p, e, hp⟩ := h; exact ⟨p, e, by rw [upd_ne (fun z => n _ (z ▸ hp))]; exact hp⟩
structure DRep (H : Hp) (d : Addr) (es : List Bf.En) : Prop where
  ex : ∃ kvs, H d = some (.dK kvs) ∧ kvs.map (·.1) = (Bf.keys es).map Sum.inl ∧ ∀ (i : Nat) e, es[i]? = some e → ∃ v, kvs[i]? = some (Sum.inl e.1, v) ∧ ParV H e.2.1 v
theorem DRep.mono {H H' : Hp} (s : Same H H') {d : Addr} {es : List Bf.En} (h : DRep H d es) : DRep H' d es := by
  obtain ⟨kvs, hd, hk, hv⟩ := h
  exact ⟨kvs, s _ _ hd, hk, fun i e he => by obtain ⟨v, e1, e2⟩ := hv i e he; exact ⟨v, e1, e2.mono s⟩⟩
theorem val_at {κ : Type} [DecidableEq κ] : ∀ {kvs : List (κ × V)} {i : Nat} {k : κ} {v : V}, (kvs.map (·.1)).Nodup → kvs[i]? = some (k, v) → valV kvs k = some v
  | [], i, k, v, _, h => by simp at h
  | p :: r, 0, k, v, _, h => by simp at h; subst h; exact valV_pos rfl
  | p :: r, i + 1, k, v, nd, h => by
    simp at h
    rw [List.map_cons, List.nodup_cons] at nd
    rw [valV_neg (fun z => nd.1 (by rw [z]; exact List.mem_map.mpr ⟨(k, v), List.mem_of_getElem? h, rfl⟩))]
    exact val_at nd.2 h
theorem val_out {κ : Type} [DecidableEq κ] : ∀ {kvs : List (κ × V)} {k : κ}, k ∉ kvs.map (·.1) → valV kvs k = none
  | [], k, _ => rfl
  | p :: r, k, h => by
    rw [List.map_cons] at h
    rw [valV_neg (fun z => h (by rw [z]; exact List.mem_cons_self))]
    exact val_out fun z => h (List.mem_cons_of_mem _ z)
theorem nd_inl {l : List Int} (h : l.Nodup) : (l.map (Sum.inl : Int → Key)).Nodup := by
  unfold List.Nodup at *
  rw [List.pairwise_map]
  exact h.imp fun {a b} hab z => hab (by cases z; rfl)
theorem mem_inl {l : List Int} {k : Int} : (Sum.inl k : Key) ∈ l.map Sum.inl ↔ k ∈ l := by
  rw [List.mem_map]
  constructor
  · rintro ⟨x, hx, e⟩; cases e; exact hx
  · intro h; exact ⟨k, h, rfl⟩
theorem DRep.get {H : Hp} {d : Addr} {es : List Bf.En} (h : DRep H d es) (nd : (Bf.keys es).Nodup) {i : Nat} {e : Bf.En} (he : es[i]? = some e) : ∃ v, DGet H d (.int e.1) (some v) ∧ ParV H e.2.1 v := by
  obtain ⟨kvs, hd, hk, hv⟩ := h
  obtain ⟨v, e1, e2⟩ := hv i e he
  exact ⟨v, .inl ⟨kvs, Sum.inl e.1, .inl hd, rfl, (val_at (by rw [hk]; exact nd_inl nd) e1).symm⟩, e2⟩
theorem DRep.out {H : Hp} {d : Addr} {es : List Bf.En} (h : DRep H d es) {k : Int} (hk : k ∉ Bf.keys es) : DGet H d (.int k) none := by
  obtain ⟨kvs, hd, hkk, _⟩ := h
  exact .inl ⟨kvs, Sum.inl k, .inl hd, rfl, (val_out (by rw [hkk]; exact fun z => hk (mem_inl.mp z))).symm⟩
theorem DRep.has {H : Hp} {d : Addr} {es : List Bf.En} (h : DRep H d es) (nd : (Bf.keys es).Nodup) (k : Int) : ∃ o, DGet H d (.int k) o ∧ o.isSome = decide (k ∈ Bf.keys es) := by
  by_cases c : k ∈ Bf.keys es
  · obtain ⟨e, he, rfl⟩ := List.mem_map.mp c
    obtain ⟨i, hi⟩ := List.getElem?_of_mem he
    obtain ⟨v, g, _⟩ := h.get nd hi
    exact ⟨_, g, by simp [c]⟩
  · exact ⟨_, h.out c, by simp [c]⟩
theorem DRep.put {H : Hp} {d : Addr} {es : List Bf.En} (h : DRep H d es) {k : Int} {par : Option (Int × Nat)} {path : List Nat} {v : V} (hk : k ∉ Bf.keys es) (pv : ParV H par v) (hl : es.length < sizeLine) :
    ∃ o, DPut H d (.int k) v (upd H d o) ∧ DRep (upd H d o) d (es ++ [(k, par, path)]) := by
  obtain ⟨kvs, hd, hkk, hv⟩ := h
  have len : kvs.length = es.length := by
    have := congrArg List.length hkk
    unfold Bf.keys at this
    simpa using this
  have vn : valV kvs (Sum.inl k) = none := val_out (by rw [hkk]; exact fun z => hk (mem_inl.mp z))
  have nt : ∀ xs, H d ≠ some (.tup xs) := fun xs z => by rw [hd] at z; cases z
  refine ⟨.dK (kvs ++ [(Sum.inl k, v)]), ?_, ⟨kvs ++ [(Sum.inl k, v)], upd_same, ?_, fun i e he => ?_⟩⟩
  · have := DPut.k (k := Sum.inl k) (v := v) hd (by omega)
    rw [putK_new v vn] at this
    exact this
  · unfold Bf.keys at *
    rw [List.map_append, List.map_append, List.map_append, hkk]
    rfl
  · rcases Bf.get_snoc he with he | ⟨rfl, rfl⟩
    · obtain ⟨v', e1, e2⟩ := hv i e he
      exact ⟨v', Bf.up e1, e2.upd nt⟩
    · refine ⟨v, ?_, pv.upd nt⟩
      rw [List.getElem?_append_right (by omega), len, Nat.sub_self]
      rfl
theorem addG_snoc {here : Int} {path : List Nat} : ∀ (gs : List Int) (w : Nat) (es : List Bf.En) (g : Int), Bf.addG here path w (gs ++ [g]) es = (if g ∈ Bf.keys (Bf.addG here path w gs es) then Bf.addG here path w gs es else Bf.addG here path w gs es ++ [(g, some (here, w + gs.length), path ++ [w + gs.length])])
  | [], w, es, g => rfl
  | x :: gs, w, es, g => by
    show Bf.addG here path (w + 1) (gs ++ [g]) _ = _
    rw [addG_snoc gs (w + 1)]
    show (if g ∈ Bf.keys (Bf.addG here path (w + 1) gs _) then Bf.addG here path (w + 1) gs _ else Bf.addG here path (w + 1) gs _ ++ [(g, some (here, w + 1 + gs.length), path ++ [w + 1 + gs.length])]) = _
    rw [List.length_cons, show w + 1 + gs.length = w + (gs.length + 1) by omega]
    rfl
structure BfW (H : Hp) (b : List Pl) (a d f : Addr) (st : Int) (m : Nat) (σ : L2.St) (H' : Hp) : Prop where
  ex : ∃ (t : Nat) (es : List Bf.En), ∃ z5 z6 z7, σ = [some (V.ref a), some (V.int st), some (V.ref d), some (V.ref f), some (V.int (t : Int)), z5, z6, z7] ∧ DRep H' d es ∧ H' f = some (.lst (List.map V.int (Bf.keys es))) ∧ Same H H' ∧ Bf.Inv b st t es ∧ Bf.bfs b m t es = Bf.steps b st ∧ b.length < m + t
noncomputable def spStp : Sp := fun vs H Q _ => ∃ a b st, vs = [.ref a, .int st] ∧ Rep H (brD b) (.ref a) ∧ b.length ≤ 1000 ∧ (∀ q ∈ b, (Lv.gls q).length ≤ 100) ∧ Lv.Good b ∧ 0 ≤ st ∧ st < b.length ∧ ∀ d H', Same H H' → H d = none → DRep H' d (Bf.steps b st) → Q (.ref d) H'
structure BkW (H : Hp) (es : List Bf.En) (a d bk : Addr) (st g : Int) (path : List Nat) (m : Nat) (σ : L2.St) (H' : Hp) : Prop where
  ex : ∃ (e : Bf.En) (bs : List Nat) (v : V), es[m]? = some e ∧ ParV H' e.2.1 v ∧ H' bk = some (.lst (List.map natV bs)) ∧ path = e.2.2 ++ bs.reverse ∧ DRep H' d es ∧ Same H H' ∧ σ = [some (V.ref a), some (V.int st), some (V.int g), some (V.ref d), some (V.ref bk), some v]
structure BfI (H : Hp) (a d f l : Addr) (st : Int) (t : Nat) (e : Bf.En) (gs : List Int) (es : List Bf.En) (k : Nat) (σ : L2.St) (H' : Hp) : Prop where
  ex : ∃ z6 z7, σ = [some (V.ref a), some (V.int st), some (V.ref d), some (V.ref f), some (V.int (t : Int)), some (V.int e.1), z6, z7]
  dr : DRep H' d (Bf.addG e.1 e.2.2 0 (gs.take k) es)
  hf : H' f = some (.lst (List.map V.int (Bf.keys (Bf.addG e.1 e.2.2 0 (gs.take k) es))))
  hl : H' l = some (.lst (List.map V.int gs))
  sm : Same H H'
noncomputable def spCopy2 : Sp := fun vs H Q _ => ∃ a b, vs = [.ref a] ∧ Rep H (brD b) (.ref a) ∧ b.length ≤ 1000 ∧ ∀ l H' ys, Same H H' → H' l = none → RepL H' (b.map plD) ys → Q (.ref l) (upd H' l (.lst ys))
noncomputable def Al {α : Type} (R : α → V → Prop) : List α → List V → Prop
  | [], [] => True
  | a :: as, v :: vs => R a v ∧ Al R as vs
  | _, _ => False
theorem Al.length {α : Type} {R : α → V → Prop} : ∀ {as : List α} {vs : List V}, Al R as vs → vs.length = as.length
  | [], [], _ => rfl
  | a :: as, v :: vs, h => by simp [Al.length h.2]
theorem Al.imp {α : Type} {R S : α → V → Prop} (f : ∀ a v, R a v → S a v) : ∀ {as : List α} {vs : List V}, Al R as vs → Al S as vs
  | [], [], _ => trivial
  | a :: as, v :: vs, h => ⟨f _ _ h.1, Al.imp f h.2⟩
theorem Al.append {α : Type} {R : α → V → Prop} : ∀ {as bs : List α} {us vs : List V}, Al R as us → Al R bs vs → Al R (as ++ bs) (us ++ vs)
  | [], _, [], _, _, k => k
  | a :: as, _, v :: vs, _, h, k => ⟨h.1, Al.append h.2 k⟩
theorem Al.one {α : Type} {R : α → V → Prop} {a : α} {v : V} (h : R a v) : Al R [a] [v] := ⟨h, trivial⟩
theorem Al.get {α : Type} {R : α → V → Prop} : ∀ {as : List α} {vs : List V} {i : Nat} {v : V}, Al R as vs → vs[i]? = some v → ∃ a, as[i]? = some a ∧ R a v
  | [], [], i, v, _, e => by simp at e
  | a :: as, u :: vs, i, v, h, e => by
    cases i with
    | zero => simp at e; subst e; exact ⟨a, rfl, h.1⟩
    | succ i => simp at e; obtain ⟨b, e1, e2⟩ := Al.get h.2 e; exact ⟨b, by simpa using e1, e2⟩
theorem Al.at {α : Type} {R : α → V → Prop} : ∀ {as : List α} {vs : List V} {i : Nat} {a : α}, Al R as vs → as[i]? = some a → ∃ v, vs[i]? = some v ∧ R a v
  | [], [], i, v, _, e => by simp at e
  | a :: as, u :: vs, i, v, h, e => by
    cases i with
    | zero => simp at e; subst e; exact ⟨u, rfl, h.1⟩
    | succ i => simp at e; obtain ⟨b, e1, e2⟩ := Al.at h.2 e; exact ⟨b, by simpa using e1, e2⟩
theorem Al.of {α : Type} {R : α → V → Prop} : ∀ {as : List α} {vs : List V}, vs.length = as.length → (∀ (i : Nat) v a, vs[i]? = some v → as[i]? = some a → R a v) → Al R as vs
  | [], [], _, _ => trivial
  | [], _ :: _, l, _ => by simp at l
  | _ :: _, [], l, _ => by simp at l
  | a :: as, u :: vs, l, h => ⟨h 0 u a rfl rfl, Al.of (by simpa using l) fun i v b e1 e2 => h (i + 1) v b (by simpa using e1) (by simpa using e2)⟩
namespace Pr
open Bf Lv
noncomputable def kb (b : List Pl) (p : Int) : List Int := keys (steps b p)
noncomputable def In (b : List Pl) (p : Int) : Prop := 0 ≤ p ∧ p < b.length
section Q1
variable {b : List Pl} (gb : Good b)
include gb
theorem kb_nd {p : Int} (h : In b p) : (kb b p).Nodup := (steps_ok gb h.1 h.2).1.nd
theorem kb_in {p q : Int} (h : In b p) (hq : q ∈ kb b p) : In b q := by
  obtain ⟨e, he, rfl⟩ := List.mem_map.mp hq
  exact (steps_ok gb h.1 h.2).1.rng e he
theorem kb_self {p : Int} (h : In b p) : p ∈ kb b p := List.mem_map.mpr ⟨_, List.mem_of_getElem? (steps_ok gb h.1 h.2).1.hd, rfl⟩
theorem kb_goal {p q g : Int} (h : In b p) (hq : q ∈ kb b p) (hg : g ∈ gAt b q) : g ∈ kb b p := by
  obtain ⟨e, he, rfl⟩ := List.mem_map.mp hq
  obtain ⟨j, hj⟩ := List.getElem?_of_mem he
  obtain ⟨i, ei, h1, h2, _⟩ := (steps_ok gb h.1 h.2).2 j e hj g hg
  exact List.mem_map.mpr ⟨ei, List.mem_of_getElem? h1, h2⟩
theorem kb_go {p : Int} (h : In b p) : ∀ (ws : List Nat) (q r : Int), q ∈ kb b p → go b q ws = some r → r ∈ kb b p
  | [], q, r, hq, e => by cases e; exact hq
  | w :: ws, q, r, hq, e => by
    have e : (match (gAt b q)[w]? with | some g => go b g ws | none => none) = some r := e
    cases c : (gAt b q)[w]? with
    | none => rw [c] at e; cases e
    | some g => rw [c] at e; exact kb_go h ws g r (kb_goal gb h hq (List.mem_of_getElem? c)) e
theorem kb_iff {p q : Int} (h : In b p) : q ∈ kb b p ↔ ∃ ws, go b p ws = some q := by
  constructor
  · intro hq
    obtain ⟨e, he, rfl⟩ := List.mem_map.mp hq
    obtain ⟨j, hj⟩ := List.getElem?_of_mem he
    exact ⟨_, path_ok (steps_ok gb h.1 h.2).1 j e hj⟩
  · rintro ⟨ws, e⟩
    exact kb_go gb h ws p q (kb_self gb h) e
theorem kb_trans {p q r : Int} (h : In b p) (hq : q ∈ kb b p) (hr : r ∈ kb b q) : r ∈ kb b p := by
  obtain ⟨ws, e⟩ := (kb_iff gb (kb_in gb h hq)).mp hr
  exact kb_go gb h ws q r hq e
theorem kb_len {p : Int} (h : In b p) : (kb b p).length ≤ b.length := by
  have := (steps_ok gb h.1 h.2).1.few
  unfold kb keys
  rw [List.length_map]
  exact this
end Q1
theorem sub_perm : ∀ {l m : List Int}, l.Nodup → (∀ x ∈ l, x ∈ m) → ∃ r, m.Perm (l ++ r)
  | [], m, _, _ => ⟨m, .refl _⟩
  | x :: l, m, nd, h => by
    obtain ⟨n1, n2⟩ := List.nodup_cons.mp nd
    obtain ⟨r, p⟩ := sub_perm (m := m.erase x) n2 fun y hy => (List.mem_erase_of_ne (a := y) (b := x) fun z => n1 (by rw [← z]; exact hy)).mpr (h y (List.mem_cons_of_mem _ hy))
    exact ⟨r, (List.perm_cons_erase (h x List.mem_cons_self)).trans (p.cons x)⟩
theorem sub_len {l m : List Int} (hl : l.Nodup) (h : ∀ x ∈ l, x ∈ m) : l.length ≤ m.length := by
  obtain ⟨r, p⟩ := sub_perm hl h
  rw [p.length_eq, List.length_append]
  omega
theorem sub_eq {l m : List Int} (hl : l.Nodup) (hm : m.Nodup) (h : ∀ x ∈ l, x ∈ m) (e : m.length ≤ l.length) : ∀ x ∈ m, x ∈ l := fun x hx => by
  obtain ⟨r, p⟩ := sub_perm hl h
  have := p.length_eq
  rw [List.length_append] at this
  have : r = [] := List.length_eq_zero_iff.mp (by omega)
  subst this
  rw [List.append_nil] at p
  exact p.mem_iff.mp hx
noncomputable def prt (b : List Pl) (p : Int) : List Int := (Nm.srt (kb b p)).filter fun o => decide (p ∈ kb b o)
noncomputable def rep (b : List Pl) (p : Int) : Int := (prt b p).headD (-1)
noncomputable def hds (b : List Pl) (n : Nat) : List Int := ((List.range n).map fun (i : Nat) => (i : Int)).filter fun p => decide (rep b p = p)
section Q2
variable {b : List Pl} (gb : Good b)
include gb
omit gb in
theorem prt_mem {p o : Int} : o ∈ prt b p ↔ o ∈ kb b p ∧ p ∈ kb b o := by
  unfold prt
  rw [List.mem_filter, Nm.srt_mem, decide_eq_true_eq]
theorem prt_lt {p : Int} (h : In b p) : (prt b p).Pairwise (· < ·) := List.Pairwise.filter _ (Nm.srt_lt (kb_nd gb h))
theorem prt_self {p : Int} (h : In b p) : p ∈ prt b p := prt_mem.mpr ⟨kb_self gb h, kb_self gb h⟩
theorem prt_in {p o : Int} (h : In b p) (ho : o ∈ prt b p) : In b o := kb_in gb h (prt_mem.mp ho).1
theorem prt_ne {p : Int} (h : In b p) : prt b p ≠ [] := List.ne_nil_of_mem (prt_self gb h)
theorem prt_sym {p o : Int} (ho : o ∈ prt b p) : p ∈ prt b o := prt_mem.mpr (prt_mem.mp ho).symm
theorem kb_same {p o : Int} (h : In b p) (ho : o ∈ prt b p) : ∀ x, x ∈ kb b p ↔ x ∈ kb b o := fun x => by
  obtain ⟨h1, h2⟩ := prt_mem.mp ho
  exact ⟨fun hx => kb_trans gb (kb_in gb h h1) h2 hx, fun hx => kb_trans gb h h1 hx⟩
theorem kb_size {p o : Int} (h : In b p) (ho : o ∈ prt b p) : (kb b p).length = (kb b o).length := by
  have hi := prt_in gb h ho
  exact Nat.le_antisymm (sub_len (kb_nd gb h) fun x hx => (kb_same gb h ho x).mp hx) (sub_len (kb_nd gb hi) fun x hx => (kb_same gb h ho x).mpr hx)
theorem prt_trans {p o r : Int} (h : In b p) (ho : o ∈ prt b p) (hr : r ∈ prt b o) : r ∈ prt b p := by
  have hi := prt_in gb h ho
  have hri := prt_in gb hi hr
  obtain ⟨h1, h2⟩ := prt_mem.mp ho
  obtain ⟨h3, h4⟩ := prt_mem.mp hr
  exact prt_mem.mpr ⟨kb_trans gb h h1 h3, kb_trans gb hri h4 h2⟩
omit gb in
theorem lt_ext {l m : List Int} (hl : l.Pairwise (· < ·)) (hm : m.Pairwise (· < ·)) (h : ∀ x, x ∈ l ↔ x ∈ m) : l = m := by
  have p : l.Perm m := (List.perm_ext_iff_of_nodup (hl.imp fun h z => by omega) (hm.imp fun h z => by omega)).mpr h
  have o1 : l.Pairwise (· ≤ ·) := hl.imp fun h => Int.le_of_lt h
  have o2 : m.Pairwise (· ≤ ·) := hm.imp fun h => Int.le_of_lt h
  rw [Nm.srt_one p o1, Nm.srt_of_ord o2]
theorem prt_eq {p o : Int} (h : In b p) (ho : o ∈ prt b p) : prt b o = prt b p := by
  have hi := prt_in gb h ho
  refine lt_ext (prt_lt gb hi) (prt_lt gb h) fun x => ⟨fun hx => prt_trans gb h ho hx, fun hx => prt_trans gb hi (prt_sym gb ho) hx⟩
theorem rep_mem {p : Int} (h : In b p) : rep b p ∈ prt b p := by
  unfold rep
  cases e : prt b p with
  | nil => exact absurd e (prt_ne gb h)
  | cons x r => exact List.mem_cons_self
theorem rep_in {p : Int} (h : In b p) : In b (rep b p) := prt_in gb h (rep_mem gb h)
theorem prt_rep {p : Int} (h : In b p) : prt b (rep b p) = prt b p := prt_eq gb h (rep_mem gb h)
theorem rep_rep {p : Int} (h : In b p) : rep b (rep b p) = rep b p := by
  show (prt b (rep b p)).headD (-1) = _
  rw [prt_rep gb h]
  rfl
theorem rep_eq {p o : Int} (h : In b p) (ho : o ∈ prt b p) : rep b o = rep b p := by
  show (prt b o).headD (-1) = _
  rw [prt_eq gb h ho]
  rfl
omit gb in
theorem hds_mem {n : Nat} {p : Int} : p ∈ hds b n ↔ (0 ≤ p ∧ p < n) ∧ rep b p = p := by
  unfold hds
  rw [List.mem_filter, List.mem_map, decide_eq_true_eq]
  constructor
  · rintro ⟨⟨i, hi, rfl⟩, h⟩
    have := List.mem_range.mp hi
    exact ⟨⟨by omega, by omega⟩, h⟩
  · rintro ⟨⟨h1, h2⟩, h⟩
    exact ⟨⟨p.toNat, List.mem_range.mpr (by omega), by omega⟩, h⟩
omit gb in
theorem hds_nd {n : Nat} : (hds b n).Nodup := by
  refine List.Pairwise.filter _ ?_
  rw [List.pairwise_map]
  exact List.nodup_range.imp fun h z => h (by omega)
omit gb in
theorem hds_len {n : Nat} : (hds b n).length ≤ n := by
  unfold hds
  refine Nat.le_trans (List.length_filter_le _ _) ?_
  rw [List.length_map, List.length_range]
  exact Nat.le_refl _
omit gb in
theorem hds_succ {n : Nat} : hds b (n + 1) = if rep b (n : Int) = (n : Int) then hds b n ++ [(n : Int)] else hds b n := by
  unfold hds
  rw [List.range_succ, List.map_append, List.filter_append]
  by_cases c : rep b (n : Int) = (n : Int)
  · rw [if_pos c]
    simp [c]
  · rw [if_neg c]
    simp [c]
theorem rep_hds {p : Int} (h : In b p) : rep b p ∈ hds b b.length := hds_mem.mpr ⟨rep_in gb h, rep_rep gb h⟩
end Q2
structure Told (b : List Pl) (ps : List Int) : Prop where
  pm : ps.Perm (hds b b.length)
  od : ps.Pairwise fun p q => (kb b p).length ≤ (kb b q).length
section Q3
variable {b : List Pl} (gb : Good b) {ps : List Int} (T : Told b ps)
include gb T
omit gb in
theorem Told.nd : ps.Nodup := T.pm.nodup_iff.mpr hds_nd
omit gb in
theorem Told.inB {p : Int} (h : p ∈ ps) : In b p := (hds_mem.mp (T.pm.mem_iff.mp h)).1
omit gb in
theorem Told.rp {p : Int} (h : p ∈ ps) : rep b p = p := (hds_mem.mp (T.pm.mem_iff.mp h)).2
theorem Told.has {p : Int} (h : In b p) : rep b p ∈ ps := T.pm.mem_iff.mpr (rep_hds gb h)
theorem Told.idx_le {p q : Int} (h : In b p) (hq : q ∈ kb b p) : ps.idxOf (rep b q) ≤ ps.idxOf (rep b p) := by
  have hi := kb_in gb h hq
  have sub : ∀ x ∈ kb b q, x ∈ kb b p := fun x hx => kb_trans gb h hq hx
  have le := sub_len (kb_nd gb hi) sub
  by_cases c : (kb b p).length ≤ (kb b q).length
  · have : p ∈ kb b q := sub_eq (kb_nd gb hi) (kb_nd gb h) sub c p (kb_self gb h)
    rw [rep_eq gb h (prt_mem.mpr ⟨hq, this⟩)]
    exact Nat.le_refl _
  · have l1 := List.idxOf_lt_length_of_mem (T.has gb hi)
    have l2 := List.idxOf_lt_length_of_mem (T.has gb h)
    rcases Nat.lt_or_ge (ps.idxOf (rep b p)) (ps.idxOf (rep b q)) with g | g
    · have od := List.pairwise_iff_getElem.mp T.od _ _ l2 l1 g
      rw [List.getElem_idxOf l2, List.getElem_idxOf l1, ← kb_size gb h (rep_mem gb h), ← kb_size gb hi (rep_mem gb hi)] at od
      omega
    · exact g
end Q3
noncomputable def numK (b : List Pl) : List Int → Nat → List (Int × Int)
  | [], _ => []
  | p :: ps, i => (prt b p).map (fun x => (x, (i : Int))) ++ numK b ps (i + 1)
theorem numK_append (b : List Pl) : ∀ (l m : List Int) (i : Nat), numK b (l ++ m) i = numK b l i ++ numK b m (i + l.length)
  | [], m, i => rfl
  | p :: l, m, i => by
    rw [List.cons_append, numK, numK, numK_append b l m (i + 1), List.append_assoc, List.length_cons, show i + 1 + l.length = i + (l.length + 1) by omega]
theorem numK_mem {b : List Pl} {x j : Int} : ∀ {ps : List Int} {i : Nat}, (x, j) ∈ numK b ps i ↔ ∃ t p, ps[t]? = some p ∧ x ∈ prt b p ∧ j = ((i + t : Nat) : Int)
  | [], i => by
    constructor
    · intro h; cases h
    · rintro ⟨t, p, h, _⟩; simp at h
  | q :: ps, i => by
    rw [numK, List.mem_append, List.mem_map, numK_mem (ps := ps)]
    constructor
    · rintro (⟨y, hy, e⟩ | ⟨t, p, h1, h2, h3⟩)
      · injection e with e1 e2
        subst e1 e2
        exact ⟨0, q, rfl, hy, rfl⟩
      · exact ⟨t + 1, p, by simpa using h1, h2, by rw [h3]; congr 1; omega⟩
    · rintro ⟨t, p, h1, h2, h3⟩
      cases t with
      | zero => simp at h1; subst h1; exact .inl ⟨x, h2, by rw [h3]; rfl⟩
      | succ t => exact .inr ⟨t, p, by simpa using h1, h2, by rw [h3]; congr 1; omega⟩
theorem numK_nd {b : List Pl} (gb : Good b) : ∀ {ps : List Int} {i : Nat}, ps.Nodup → (∀ p ∈ ps, In b p ∧ rep b p = p) → ((numK b ps i).map (·.1)).Nodup
  | [], i, _, _ => List.nodup_nil
  | p :: ps, i, nd, h => by
    obtain ⟨n1, n2⟩ := List.nodup_cons.mp nd
    have hp := h p List.mem_cons_self
    rw [numK, List.map_append, List.nodup_append]
    refine ⟨?_, numK_nd gb n2 fun q hq => h q (List.mem_cons_of_mem _ hq), fun x hx y hy e => ?_⟩
    · rw [List.map_map, show ((fun x : Int × Int => x.1) ∘ fun x => (x, (i : Int))) = id from rfl, List.map_id]
      exact (prt_lt gb hp.1).imp fun h z => by omega
    · rw [List.map_map, show ((fun x : Int × Int => x.1) ∘ fun x => (x, (i : Int))) = id from rfl, List.map_id] at hx
      subst e
      obtain ⟨⟨x', j⟩, hm, rfl⟩ := List.mem_map.mp hy
      obtain ⟨t, q, h1, h2, _⟩ := numK_mem.mp hm
      have hq := h q (List.mem_cons_of_mem _ (List.mem_of_getElem? h1))
      have e1 := rep_eq gb hp.1 hx
      have e2 := rep_eq gb hq.1 h2
      rw [hp.2] at e1
      rw [hq.2] at e2
      have : p = q := e1.symm.trans e2
      exact n1 (this ▸ List.mem_of_getElem? h1)
section Q9
variable {b : List Pl} (gb : Good b) {ps : List Int} (T : Told b ps)
include gb T
theorem Told.num_nd : ((numK b ps 0).map (·.1)).Nodup := numK_nd gb T.nd fun p hp => ⟨T.inB hp, T.rp hp⟩
theorem Told.num_mem {x : Int} (h : In b x) : (x, ((ps.idxOf (rep b x) : Nat) : Int)) ∈ numK b ps 0 := by
  have hm := T.has gb h
  refine numK_mem.mpr ⟨ps.idxOf (rep b x), rep b x, ?_, ?_, by rw [Nat.zero_add]⟩
  · have l := List.idxOf_lt_length_of_mem hm
    rw [List.getElem?_eq_getElem l, List.getElem_idxOf l]
  · rw [prt_rep gb h]; exact prt_self gb h
theorem Told.num_in {x j : Int} (h : (x, j) ∈ numK b ps 0) : In b x := by
  obtain ⟨t, p, h1, h2, _⟩ := numK_mem.mp h
  exact prt_in gb (T.inB (List.mem_of_getElem? h1)) h2
theorem Told.num_keys : Nm.srt ((numK b ps 0).map (·.1)) = (List.range b.length).map fun (i : Nat) => (i : Int) := by
  refine (Nm.srt_one ((List.perm_ext_iff_of_nodup ?_ (T.num_nd gb)).mpr fun x => ?_) ?_).symm
  · rw [List.nodup_iff_pairwise_ne, List.pairwise_map]
    exact List.nodup_range.imp fun h z => h (by omega)
  · rw [List.mem_map, List.mem_map]
    constructor
    · rintro ⟨i, hi, rfl⟩
      have := List.mem_range.mp hi
      exact ⟨_, T.num_mem gb (x := (i : Int)) ⟨by omega, by omega⟩, rfl⟩
    · rintro ⟨⟨y, j⟩, hy, rfl⟩
      obtain ⟨h0, h1⟩ := T.num_in gb hy
      exact ⟨y.toNat, List.mem_range.mpr (by omega), by show ((y.toNat : Nat) : Int) = y; omega⟩
  · rw [List.pairwise_map]
    exact List.pairwise_lt_range.imp fun h => by omega
end Q9
noncomputable def off (b : List Pl) (ps : List Int) (i : Nat) : Nat := (numK b (ps.take i) 0).length
theorem off_succ {b : List Pl} {ps : List Int} {i : Nat} {p : Int} (e : ps[i]? = some p) : off b ps (i + 1) = off b ps i + (prt b p).length := by
  unfold off
  rw [List.take_add_one, e, Option.toList_some, numK_append, List.length_append, numK, numK, List.append_nil, List.length_map]
theorem num_at {b : List Pl} {ps : List Int} {i j : Nat} {p x : Int} (e : ps[i]? = some p) (ex : (prt b p)[j]? = some x) : (numK b ps 0)[off b ps i + j]? = some (x, (i : Int)) := by
  have hi := (List.getElem?_eq_some_iff.mp e).1
  have hj := (List.getElem?_eq_some_iff.mp ex).1
  have e1 : ps = ps.take i ++ p :: ps.drop (i + 1) := by
    have : p = ps[i] := by rw [List.getElem?_eq_getElem hi] at e; injection e with e; exact e.symm
    rw [this, ← List.drop_eq_getElem_cons hi, List.take_append_drop]
  have e2 : numK b ps 0 = numK b (ps.take i) 0 ++ ((prt b p).map (fun x => (x, (i : Int))) ++ numK b (ps.drop (i + 1)) (i + 1)) := by
    conv => lhs; rw [e1]
    rw [numK_append, List.length_take, Nat.min_eq_left (Nat.le_of_lt hi), Nat.zero_add, numK]
  rw [e2]
  unfold off
  rw [List.getElem?_append_right (by omega), Nat.add_sub_cancel_left, List.getElem?_append_left (by rw [List.length_map]; exact hj), List.getElem?_map, ex]
  rfl
theorem off_all {b : List Pl} {ps : List Int} : off b ps ps.length = (numK b ps 0).length := by unfold off; rw [List.take_of_length_le (Nat.le_refl _)]
theorem nodup_at {α : Type} {l : List α} (h : l.Nodup) {i : Nat} {x : α} (e : l[i]? = some x) : x ∉ l.take i := by
  intro m
  obtain ⟨j, hj, ej⟩ := List.getElem_of_mem m
  rw [List.length_take] at hj
  rw [List.getElem_take] at ej
  obtain ⟨hi, ei⟩ := List.getElem?_eq_some_iff.mp e
  have := (List.getElem_inj h).mp (ej.trans ei.symm)
  omega
end Pr
namespace Pr
open Bf Lv
noncomputable def leadTo (b : List Pl) (g x : Int) : Prop := In b x ∧ g ∈ gAt b x
section Q21
variable {b : List Pl} (gb : Good b)
include gb
theorem go_cons {c y : Int} {w : Nat} {ws : List Nat} (e : go b c (w :: ws) = some y) : ∃ g, g ∈ gAt b c ∧ go b g ws = some y := by
  have e : (match (gAt b c)[w]? with | some g => go b g ws | none => none) = some y := e
  cases h : (gAt b c)[w]? with
  | none => rw [h] at e; cases e
  | some g => rw [h] at e; exact ⟨g, List.mem_of_getElem? h, e⟩
theorem mid_in {p c g y : Int} (h : In b p) (hc : c ∈ prt b p) (hg : g ∈ gAt b c) (hy : y ∈ prt b p) (hr : ∃ ws, go b g ws = some y) : g ∈ prt b p := by
  have ic := prt_in gb h hc
  have g1 : g ∈ kb b p := kb_goal gb h (prt_mem.mp hc).1 hg
  have ig := kb_in gb h g1
  exact prt_mem.mpr ⟨g1, kb_trans gb ig ((kb_iff gb ig).mpr hr) (prt_mem.mp hy).2⟩
theorem all_ahead {p : Int} (h : In b p) (S : Int → Prop) {x0 : Int} (h0 : x0 ∈ prt b p) (s0 : S x0) (cl : ∀ x ∈ prt b p, S x → ∀ g ∈ gAt b x, g ∈ prt b p → S g) : ∀ y ∈ prt b p, S y := by
  have go' : ∀ (ws : List Nat) (c y : Int), c ∈ prt b p → S c → y ∈ prt b p → go b c ws = some y → S y := by
    intro ws
    induction ws with
    | nil => intro c y hc sc hy e; cases e; exact sc
    | cons w ws ih =>
      intro c y hc sc hy e
      obtain ⟨g, hg, e'⟩ := go_cons gb e
      have hgp := mid_in gb h hc hg hy ⟨ws, e'⟩
      exact ih g y hgp (cl c hc sc g hg hgp) hy e'
  intro y hy
  have i0 := prt_in gb h h0
  have : y ∈ kb b x0 := by
    have := prt_trans gb i0 (prt_sym gb h0) hy
    exact (prt_mem.mp this).1
  obtain ⟨ws, e⟩ := (kb_iff gb i0).mp this
  exact go' ws x0 y h0 s0 hy e
theorem all_back {p : Int} (h : In b p) (S : Int → Prop) {x0 : Int} (h0 : x0 ∈ prt b p) (s0 : S x0) (cl : ∀ x ∈ prt b p, S x → ∀ g, leadTo b x g → g ∈ prt b p → S g) : ∀ y ∈ prt b p, S y := by
  have go' : ∀ (ws : List Nat) (c : Int), c ∈ prt b p → go b c ws = some x0 → S c := by
    intro ws
    induction ws with
    | nil => intro c hc e; cases e; exact s0
    | cons w ws ih =>
      intro c hc e
      obtain ⟨g, hg, e'⟩ := go_cons gb e
      have hgp := mid_in gb h hc hg h0 ⟨ws, e'⟩
      exact cl g hgp (ih g hgp e') c ⟨prt_in gb h hc, hg⟩ hc
  intro y hy
  have iy := prt_in gb h hy
  have : x0 ∈ kb b y := (prt_mem.mp (prt_trans gb iy (prt_sym gb hy) h0)).1
  obtain ⟨ws, e⟩ := (kb_iff gb iy).mp this
  exact go' ws y hy e
end Q21
structure Wk (lds : Int → Int → Prop) (sm : List Int) (st : Int) (sn row : List Int) : Prop where
  nd : sn.Nodup
  sub : ∀ x ∈ sn, x ∈ sm
  st : st ∈ sn
  rw_ : ∀ x ∈ row, x ∈ sn
  cl : ∀ x ∈ sn, x ∉ row → ∀ g, lds x g → g ∈ sm → g ∈ sn
structure Wm (lds : Int → Int → Prop) (sm : List Int) (st here : Int) (gs : List Int) (sn row : List Int) : Prop where
  nd : sn.Nodup
  sub : ∀ x ∈ sn, x ∈ sm
  st : st ∈ sn
  hr : here ∈ sn
  rw_ : ∀ x ∈ row, x ∈ sn
  cl : ∀ x ∈ sn, x ∉ row → x ≠ here → ∀ g, lds x g → g ∈ sm → g ∈ sn
  hd : ∀ g ∈ gs, g ∈ sm → g ∈ sn
theorem Wk.pop {lds : Int → Int → Prop} {sm : List Int} {st : Int} {sn row : List Int} {here : Int} (W : Wk lds sm st sn (row ++ [here])) : Wm lds sm st here [] sn row where
  nd := W.nd
  sub := W.sub
  st := W.st
  hr := W.rw_ here (List.mem_append_right _ List.mem_cons_self)
  rw_ := fun x hx => W.rw_ x (List.mem_append_left _ hx)
  cl := fun x hx hr hh => W.cl x hx fun z => by
    rcases List.mem_append.mp z with z | z
    · exact hr z
    · exact hh (List.mem_singleton.mp z)
  hd := fun g hg => nomatch hg
theorem Wm.skip {lds : Int → Int → Prop} {sm : List Int} {st here : Int} {gs sn row : List Int} {g : Int} (W : Wm lds sm st here gs sn row) (h : g ∈ sm → g ∈ sn) : Wm lds sm st here (gs ++ [g]) sn row :=
  ⟨W.nd, W.sub, W.st, W.hr, W.rw_, W.cl, fun x hx => (List.mem_append.mp hx).elim (W.hd x) fun hx => by rw [List.mem_singleton.mp hx]; exact h⟩
theorem Wm.add {lds : Int → Int → Prop} {sm : List Int} {st here : Int} {gs sn row : List Int} {g : Int} (W : Wm lds sm st here gs sn row) (h : g ∈ sm) (n : g ∉ sn) : Wm lds sm st here (gs ++ [g]) (sn ++ [g]) (row ++ [g]) where
  nd := by
    rw [List.nodup_append]
    refine ⟨W.nd, by simp, fun x hx y hy e => ?_⟩
    rw [List.mem_singleton.mp hy] at e
    exact n (e ▸ hx)
  sub := fun x hx => by
    rcases List.mem_append.mp hx with hx | hx
    · exact W.sub x hx
    · rw [List.mem_singleton.mp hx]; exact h
  st := List.mem_append_left _ W.st
  hr := List.mem_append_left _ W.hr
  rw_ := fun x hx => by
    rcases List.mem_append.mp hx with hx | hx
    · exact List.mem_append_left _ (W.rw_ x hx)
    · exact List.mem_append_right _ hx
  cl := fun x hx hr hh y hy hys => by
    rcases List.mem_append.mp hx with hx | hx
    · exact List.mem_append_left _ (W.cl x hx (fun z => hr (List.mem_append_left _ z)) hh y hy hys)
    · exact absurd (List.mem_append_right _ hx) hr
  hd := fun x hx hxs => by
    rcases List.mem_append.mp hx with hx | hx
    · exact List.mem_append_left _ (W.hd x hx hxs)
    · exact List.mem_append_right _ hx
theorem Wm.done {lds : Int → Int → Prop} {sm : List Int} {st here : Int} {gs sn row : List Int} (W : Wm lds sm st here gs sn row) (h : ∀ g, lds here g → g ∈ gs) : Wk lds sm st sn row where
  nd := W.nd
  sub := W.sub
  st := W.st
  rw_ := W.rw_
  cl := fun x hx hr g hg hgs => by
    by_cases e : x = here
    · subst e; exact W.hd g (h g hg) hgs
    · exact W.cl x hx hr e g hg hgs
theorem Wk.all {lds : Int → Int → Prop} {sm : List Int} {st : Int} {sn : List Int} (W : Wk lds sm st sn []) (nd : sm.Nodup) (con : ∀ S : Int → Prop, S st → (∀ x ∈ sm, S x → ∀ g, lds x g → g ∈ sm → S g) → ∀ y ∈ sm, S y) : sn.length = sm.length := by
  refine Nat.le_antisymm (sub_len W.nd W.sub) (sub_len nd (con (· ∈ sn) W.st fun x _ hx g hg hgs => W.cl x hx (by simp) g hg hgs))
end Pr
namespace Pr
open Bf Lv
section Q11
variable {b : List Pl} (gb : Good b) {s : List Nat} (pm : s.Perm (List.range b.length))
include gb pm
end Q11
theorem heads_one {A B : List (List Int)} (p : A.Perm B) (oa : A.Pairwise fun x y => x.headD 0 ≤ y.headD 0) (ob : B.Pairwise fun x y => x.headD 0 ≤ y.headD 0) (nd : (A.map fun x => x.headD 0).Nodup) : A = B := by
  have e : A.map (fun x => x.headD 0) = B.map fun x => x.headD 0 := Nm.ord_one (p.map _) (by rw [List.pairwise_map]; exact oa) (by rw [List.pairwise_map]; exact ob)
  have l := p.length_eq
  apply List.ext_getElem l
  intro i h1 h2
  have m : B[i] ∈ A := p.mem_iff.mpr (List.getElem_mem h2)
  obtain ⟨j, hj, ej⟩ := List.getElem_of_mem m
  have e1 : (A.map fun x => x.headD 0)[i]'(by rw [List.length_map]; exact h1) = (B.map fun x => x.headD 0)[i]'(by rw [List.length_map]; exact h2) := by simp only [e]
  rw [List.getElem_map, List.getElem_map, ← ej] at e1
  have := (List.getElem_inj nd (i := i) (j := j) (h₀ := by rw [List.length_map]; exact h1) (h₁ := by rw [List.length_map]; exact hj)).mp (by rw [List.getElem_map, List.getElem_map]; exact e1)
  subst this
  exact ej
theorem told_heads {b : List Pl} (gb : Good b) {ps : List Int} (T : Told b ps) : ((ps.map (prt b)).map fun x => x.headD 0).Nodup := by
  have : (ps.map (prt b)).map (fun x => x.headD 0) = ps := by
    rw [List.map_map]
    conv => rhs; rw [← List.map_id ps]
    refine List.map_congr_left fun p hp => ?_
    have e := T.rp hp
    unfold rep at e
    show (prt b p).headD 0 = p
    cases c : prt b p with
    | nil => exact absurd c (prt_ne gb (T.inB hp))
    | cons x r => rw [c] at e; exact e
  rw [this]
  exact T.nd
end Pr
theorem in_int {rs : List Int} {x : Int} : inV (.int x) (List.map V.int rs) = decide (x ∈ rs) := by
  unfold inV
  rw [List.any_map, Bool.eq_iff_iff, List.any_eq_true]
  simp only [Function.comp, eqV, beq_iff_eq, decide_eq_true_eq]
  constructor
  · rintro ⟨i, hi, rfl⟩; exact hi
  · intro h; exact ⟨x, h, rfl⟩
theorem flat_int (ns : List Int) : (List.map V.int ns).all flatV = true := by
  rw [List.all_eq_true]
  intro v hv
  obtain ⟨i, _, rfl⟩ := List.mem_map.mp hv
  rfl
theorem rep_ints {H : Hp} {ns : List Int} {l : Addr} (h : H l = some (.lst (List.map V.int ns))) : Rep H (.lst (ns.map Dat.int)) (.ref l) := rep_lst.mpr ⟨l, _, rfl, h, repL_ints.mpr rfl⟩
theorem depth_ints (ns : List Int) : depth (.lst (ns.map Dat.int)) ≤ 40 := by
  have := depth_flat (ds := ns.map Dat.int) (n := 0) fun d hd => by obtain ⟨o, _, rfl⟩ := List.mem_map.mp hd; simp [depth]
  rw [depth]
  omega
theorem depth_lists (as : List (List Int)) : depth (.lst (as.map fun ns => Dat.lst (ns.map Dat.int))) ≤ 40 := by
  have := depth_flat (ds := as.map fun ns => Dat.lst (ns.map Dat.int)) (n := 1) fun d hd => by
    obtain ⟨o, _, rfl⟩ := List.mem_map.mp hd
    have := depth_flat (ds := o.map Dat.int) (n := 0) fun d hd => by obtain ⟨o, _, rfl⟩ := List.mem_map.mp hd; simp [depth]
    rw [depth]
    omega
  rw [depth]
  omega
theorem rep_lists {H : Hp} {L : Addr → List Int} {l : Addr} {zs : List Addr} (h : H l = some (.lst (List.map V.ref zs))) (k : ∀ a ∈ zs, H a = some (.lst (List.map V.int (L a)))) : Rep H (.lst ((zs.map L).map fun ns => Dat.lst (ns.map Dat.int))) (.ref l) := by
  refine rep_lst.mpr ⟨l, _, rfl, h, repL_map (by rw [List.length_map, List.length_map]) fun i y ey ns en => ?_⟩
  rw [List.getElem?_map] at ey en
  obtain ⟨a, ea, rfl⟩ := Option.map_eq_some_iff.mp ey
  rw [ea] at en
  cases en
  exact rep_ints (k a (List.mem_of_getElem? ea))
noncomputable def numD (xs : List (Int × Int)) : List (Key × V) := xs.map fun x => (Sum.inl x.1, V.int x.2)
noncomputable def lstI (H : Hp) (x : Addr) : List Int := match H x with
  | some (.lst vs) => vs.map fun v => match v with | .int i => i | _ => 0
  | _ => []
theorem lstI_of {H : Hp} {x : Addr} {ns : List Int} (h : H x = some (.lst (List.map V.int ns))) : lstI H x = ns := by
  unfold lstI
  rw [h]
  show (List.map V.int ns).map _ = ns
  rw [List.map_map]
  exact List.map_id ns
theorem al_lstI {H : Hp} {f : Int → List Int} {ps : List Int} {as : List Addr} (al : Al (fun p v => ∃ x, v = .ref x ∧ H x = some (.lst (List.map V.int (f p)))) ps (as.map V.ref)) :
    as.map (lstI H) = ps.map f ∧ ∀ a ∈ as, H a = some (.lst (List.map V.int (lstI H a))) ∧ ∃ p ∈ ps, lstI H a = f p := by
  have l := al.length
  rw [List.length_map] at l
  refine ⟨?_, fun a ha => ?_⟩
  · apply List.ext_getElem?
    intro i
    rw [List.getElem?_map, List.getElem?_map]
    cases e : as[i]? with
    | none =>
      have := List.getElem?_eq_none_iff.mp e
      rw [List.getElem?_eq_none (by omega)]
      rfl
    | some a =>
      obtain ⟨p, ep, x, e1, h1⟩ := al.get (show (as.map V.ref)[i]? = some (.ref a) by rw [List.getElem?_map, e]; rfl)
      cases e1
      rw [ep]
      exact congrArg some (lstI_of h1)
  · obtain ⟨i, e⟩ := List.getElem?_of_mem ha
    obtain ⟨p, ep, x, e1, h1⟩ := al.get (show (as.map V.ref)[i]? = some (.ref a) by rw [List.getElem?_map, e]; rfl)
    cases e1
    rw [lstI_of h1]
    exact ⟨h1, p, List.mem_of_getElem? ep, rfl⟩
theorem numD_val {xs : List (Int × Int)} (nd : (xs.map (·.1)).Nodup) {x j : Int} (h : (x, j) ∈ xs) : valV (numD xs) (Sum.inl x) = some (.int j) := by
  obtain ⟨i, hi⟩ := List.getElem?_of_mem h
  refine val_at (i := i) ?_ (by unfold numD; rw [List.getElem?_map, hi]; rfl)
  unfold numD
  rw [List.map_map, List.nodup_iff_pairwise_ne, List.pairwise_map]
  rw [List.nodup_iff_pairwise_ne, List.pairwise_map] at nd
  exact nd.imp fun h z => h (by injection z)
theorem while_m {c : TT} {tb : TS} {D : Ends} {σ : L2.St} {H : Hp} (Pv : Nat → L2.St → Hp → Prop) {m : Nat} (h0 : Pv m σ H)
    (hs : ∀ m σ H, Pv m σ H → ∃ b : Bool, (∀ Q : Bool → Hp → Prop, Q b H → c σ H Q) ∧ if b = true then tb { D with nx := fun σ' H' => ∃ m', m' < m ∧ Pv m' σ' H', ct := fun σ' H' => ∃ m', m' < m ∧ Pv m' σ' H', bk := D.nx } σ H else D.nx σ H) : tWhile c tb D σ H := by
  refine ⟨Pv, ⟨m, h0⟩, ?_⟩
  intro m σ H p
  obtain ⟨b, k, q⟩ := hs m σ H p
  refine k _ ?_
  cases b with
  | true => exact ⟨_, fun σ' H' h => h, q⟩
  | false => exact q
theorem seen_val {sn : List Int} (nd : sn.Nodup) (g : Int) : valV (sn.map fun x => ((Sum.inl x : Key), V.bl true)) (Sum.inl g) = if g ∈ sn then some (.bl true) else none := by
  have ek : (sn.map fun x => ((Sum.inl x : Key), V.bl true)).map (·.1) = sn.map Sum.inl := by rw [List.map_map]; rfl
  by_cases c : g ∈ sn
  · rw [if_pos c]
    obtain ⟨i, hi⟩ := List.getElem?_of_mem c
    exact val_at (i := i) (by rw [ek]; exact nd_inl nd) (by rw [List.getElem?_map, hi]; rfl)
  · rw [if_neg c]
    exact val_out (by rw [ek]; exact fun z => c (mem_inl.mp z))
noncomputable def spRis : Sp := fun vs H Q _ => ∃ a ns, vs = [.ref a] ∧ H a = some (.lst (List.map V.int ns)) ∧ ns.Pairwise (· < ·) ∧ ns ≠ [] ∧ ns.length ≤ 1000 ∧ ∀ H', Same H H' → Q (.bl true) H'
structure LdH (H : Hp) (a : Addr) (n mx : Nat) (lds : Int → Int → Prop) : Prop where
  ex : ∃ ks : List Addr, H a = some (.lst (List.map V.ref ks)) ∧ ks.length = n ∧ ∀ (i : Nat) k, ks[i]? = some k → ∃ gs, H k = some (.lst (List.map V.int gs)) ∧ (∀ g, g ∈ gs ↔ lds (i : Int) g) ∧ gs.length ≤ mx
theorem repL_cons {H : Hp} {d : Dat} {ds : List Dat} {vs : List V} : RepL H (d :: ds) vs ↔ ∃ v r, vs = v :: r ∧ Rep H d v ∧ RepL H ds r := by rw [RepL]
theorem repL_nil {H : Hp} {vs : List V} : RepL H [] vs ↔ vs = [] := by rw [RepL]
theorem LdH.mono {H H' : Hp} (s : Same H H') {a : Addr} {n mx : Nat} {lds : Int → Int → Prop} (h : LdH H a n mx lds) : LdH H' a n mx lds := by
  obtain ⟨ks, h1, h2, h3⟩ := h.ex
  exact ⟨ks, s _ _ h1, h2, fun i k e => by obtain ⟨gs, g1, g2⟩ := h3 i k e; exact ⟨gs, s _ _ g1, g2⟩⟩
theorem refs_of {ws : List V} (h : ∀ v ∈ ws, ∃ x, v = .ref x) : ∃ us : List Addr, ws = us.map V.ref := by
  refine ⟨ws.map fun v => match v with | .ref x => x | _ => 0, ?_⟩
  rw [List.map_map]
  conv => lhs; rw [← List.map_id ws]
  refine List.map_congr_left fun v hv => ?_
  obtain ⟨x, rfl⟩ := h v hv
  rfl
theorem gAt_at {b : List Pl} {i : Nat} {q : Pl} (e : b[i]? = some q) : Bf.gAt b (i : Int) = Lv.gls q := by
  unfold Bf.gAt
  rw [Int.toNat_natCast, e]
noncomputable def BkI (b : List Pl) (ba : Addr) (ks : List Addr) (i : Nat) (gs : List Int) (H : Hp) : Prop := H ba = some (.lst (List.map V.ref ks)) ∧ ∀ (g : Nat) k, ks[g]? = some k → ∃ l, H k = some (.lst (List.map V.int l)) ∧ l.length ≤ 100 * i + gs.length ∧ ∀ x, x ∈ l ↔ (0 ≤ x ∧ x < (i : Int) ∧ (g : Int) ∈ Bf.gAt b x) ∨ (x = (i : Int) ∧ (g : Int) ∈ gs)
noncomputable def spCom : Sp := fun vs H Q _ => ∃ a s st n mx lds sm, vs = [.ref a, .ref s, .int st] ∧ LdH H a n mx lds ∧ mx ≤ 10000 ∧ H s = some (.lst (List.map V.int sm)) ∧ sm.Nodup ∧ (∀ x ∈ sm, 0 ≤ x ∧ x < (n : Nat)) ∧ st ∈ sm ∧ sm.length ≤ 1000 ∧
  (∀ S : Int → Prop, S st → (∀ x ∈ sm, S x → ∀ g, lds x g → g ∈ sm → S g) → ∀ y ∈ sm, S y) ∧ ∀ H', Same H H' → Q (.int (sm.length : Int)) H'
noncomputable def spTld : Sp := fun vs H Q _ => ∃ a f b ps as, vs = [.ref a, .ref f] ∧ Rep H (brD b) (.ref a) ∧ GB b 40 ∧ Pr.Told b ps ∧ H f = some (.lst (List.map V.ref as)) ∧ Al (fun p v => ∃ x, v = .ref x ∧ H x = some (.lst (List.map V.int (Pr.prt b p)))) ps (as.map V.ref) ∧ ∀ H', Same H H' → Q (.bl true) H'
noncomputable def b3 : List Pl := [.pck 2 [1], .pck 1 [0, 2], .fin (0, 1)]
theorem b3_good : Lv.Good b3 := ⟨by decide, fun q hq w to e => by subst e; unfold b3 at hq; simp at hq; rcases hq with ⟨_, rfl⟩ | ⟨_, rfl⟩ <;> simp⟩
theorem b3_hds : Pr.hds b3 b3.length = [0, 2] := by decide +kernel
theorem b3_p2 : Pr.prt b3 2 = [2] := by decide +kernel
theorem b3_p0 : Pr.prt b3 0 = [0, 1] := by decide +kernel
theorem b3_told {ps : List Int} (T : Pr.Told b3 ps) : ps = [2, 0] := by
  have pm := T.pm
  rw [b3_hds] at pm
  have od := T.od
  have l := pm.length_eq
  match ps, l with
  | [x, y], _ =>
    have hx : x ∈ [(0 : Int), 2] := pm.mem_iff.mp List.mem_cons_self
    have hy : y ∈ [(0 : Int), 2] := pm.mem_iff.mp (List.mem_cons_of_mem _ List.mem_cons_self)
    have nd := pm.nodup_iff.mpr (by decide)
    have ne : x ≠ y := by simpa using nd
    have le := (List.pairwise_cons.mp od).1 y List.mem_cons_self
    have k0 : (Pr.kb b3 0).length = 3 := by decide +kernel
    have k2 : (Pr.kb b3 2).length = 1 := by decide +kernel
    simp only [List.mem_cons, List.not_mem_nil, or_false] at hx hy
    rcases hx with rfl | rfl <;> rcases hy with rfl | rfl
    · exact absurd rfl ne
    · rw [k0, k2] at le; omega
    · rfl
    · exact absurd rfl ne
noncomputable def spLaw (K : PySem.W.Frag) (tp : Addr) : Sp := fun vs H Q _ => ∃ (a : Addr) (ns : List Int), vs = [.ref a] ∧ H tp = some (.tbl dsc) ∧ SqL K H a (ns.map V.int) ∧ ns.length ≤ 63 ∧ ∀ H', Q (.bl true) H'
section
variable {P : Program} {w : World} {K : PySem.W.Frag} {mg : Str → Option Value} {base : Heap}
variable {tc tp : Addr}
theorem sc__law_cell : FnScope ["_law_script", "_law_k", "_law_number"] ["_law_script", "_law_k"] (defScope (top 6)) := ⟨rfl, rfl, rfl, by decide +kernel, rfl, by decide +kernel, by decide +kernel⟩
theorem ok_cell (T : Txt K mg tc) : Cal P w K mg base (CX1 P w) 1 "_law_cell" ["_law_script", "_law_k"] (spC K) := by
  refine T.d__law_cell.cal (fun _ _ _ _ _ _ us hl => match us, hl with | [_, _], _ => rfl) fun f fd F => F.okC sc__law_cell (fun vs H Q E h => ?_) (fun cdv A outer s H vs Q E hr h => ?_)
  · obtain ⟨_, _, _, rfl, _⟩ := h; rfl
  · obtain ⟨a, ns, k, rfl, hS, k0, k1, kk⟩ := h
    have nd := sc__law_cell.nd
    refine ⟨_, (pss_cons (ps_if (pt_cmpR op_lt (pv 1) (pe_callB (call_lenQK (K := K)) (by rfl) T.z_len PySem.boot_len (pa_cons (pv 0) pa_nil (se rfl)) (he := se rfl) (hpl := na rfl)) (nomark _)) (pss_one (ps_ret (pe_ix (ix_listSK (K := K)) (pv 0) (pv 1) (fun _ _ => rfl))))
      pss_nil)
    (pss_cons (ps_set (i := 2) nd rfl (Or.inl rfl) (pe_op op_add (pe_op op_mulB (pv 1) pe_int) pe_int))
    (pss_cons (ps_if (pt_cmpR op_gt (pe_callB (call_lenQK (K := K)) (by rfl) T.z_len PySem.boot_len (pa_cons (pv 0) pa_nil (se rfl)) (he := se rfl) (hpl := na rfl)) pe_int (nomark _)) (pss_one (ps_set (i := 2) nd rfl (Or.inl rfl) (pe_op op_add (pe_op op_mulB (pe_op op_modB (pe_ix (ix_listSK (K := K)) (pv 0) (pe_op op_modB (pe_op op_mulB (pv 1) pe_int) (pe_callB (call_lenQK (K := K)) (by rfl) T.z_len PySem.boot_len (pa_cons (pv 0) pa_nil (se rfl)) (he := se rfl) (hpl := na rfl))) (fun _ _ => rfl)) pe_int) pe_int) (pe_op op_mulB (pv 1) pe_int))))
      pss_nil)
    (pss_one (ps_ret (pe_op op_modB (pe_op op_mulB (pv 2) (pv 2)) pe_int)))))), ?_⟩
    simp_all only [rIxQ]
    refine ⟨ns, hS, ite2 (fun c => ⟨ns, hS, k0, c, kk _⟩) (fun c => ⟨mulOkL (by omega) (by omega), ns, hS, ite2 (fun z => ?_) (fun z => ?_)⟩)⟩
    · have m1 := Int.emod_nonneg (ns.getD (k * 7 % (ns.length : Int)).toNat 0) (show (2147483647 : Int) ≠ 0 by decide)
      have m2 := Int.emod_lt_of_pos (ns.getD (k * 7 % (ns.length : Int)).toNat 0) (show (0 : Int) < 2147483647 by decide)
      exact ⟨mulOkL (by omega) (by omega), ns, hS, z, ns, hS, Int.emod_nonneg _ (by omega), Int.emod_lt_of_pos _ z, by decide, mulOkR, mulOkL (by omega) (by omega), mulOkL (by omega) (by omega), by decide, kk _⟩
    · exact ⟨mulOkL (by omega) (by omega), by decide, kk _⟩
theorem sc__law_mixed : FnScope ["_law_cell_here", "_law_many"] ["_law_cell_here", "_law_many"] (defScope (top 7)) := ⟨rfl, rfl, rfl, by decide +kernel, rfl, by decide +kernel, by decide +kernel⟩
theorem ok_mix (T : Txt K mg tc) : Cal P w K mg base (CX1 P w) 1 "_law_mixed" ["_law_cell_here", "_law_many"] spMix := by
  refine T.d__law_mixed.cal (fun _ _ _ _ _ _ us hl => match us, hl with | [_, _], _ => rfl) fun f fd F => F.okC sc__law_mixed (fun vs H Q E h => ?_) (fun cdv A outer s H vs Q E hr h => ?_)
  · obtain ⟨_, _, rfl, _⟩ := h; rfl
  · obtain ⟨c, m, rfl, m0, kk⟩ := h
    have nd := sc__law_mixed.nd
    refine ⟨_, (pss_one (ps_ret (pe_op op_modB (pe_op op_fdivB (pe_op op_modB (pe_op op_mulB (pe_op op_modB (pv 0) (pe_op op_pow pe_int pe_int)) pe_int) (pe_op op_pow pe_int pe_int)) (pe_op op_pow pe_int pe_int)) (pv 1)))), ?_⟩
    simp_all only []
    have h1 := Int.emod_nonneg c (show ((2 : Int) ^ 64) ≠ 0 by decide)
    have h2 := Int.emod_lt_of_pos c (show (0 : Int) < 2 ^ 64 by decide)
    exact ⟨by decide, by decide, by decide, by decide, mulOkL (by omega) (by omega), by decide, by decide, by decide, by decide, by decide, by decide, by decide, CDivB.lit, m0, kk _ (Int.emod_nonneg _ (by omega)) (Int.emod_lt_of_pos _ m0)⟩
theorem sc__law_goal : FnScope ["_law_bits", "_law_k", "_law_n", "_law_mode"] ["_law_bits", "_law_k", "_law_n", "_law_mode"] (defScope (top 8)) := ⟨rfl, rfl, rfl, by decide +kernel, rfl, by decide +kernel, by decide +kernel⟩
theorem ok_goal (T : Txt K mg tc) : Cal P w K mg base (CX1 P w) 1 "_law_goal" ["_law_bits", "_law_k", "_law_n", "_law_mode"] spGoal := by
  refine T.d__law_goal.cal (fun _ _ _ _ _ _ us hl => match us, hl with | [_, _, _, _], _ => rfl) fun f fd F => F.okC sc__law_goal (fun vs H Q E h => ?_) (fun cdv A outer s H vs Q E hr h => ?_)
  · obtain ⟨_, _, _, _, rfl, _⟩ := h; rfl
  · obtain ⟨c, k, n, o, rfl, k0, k1, ko, kk⟩ := h
    have nd := sc__law_goal.nd
    refine ⟨_, (pss_cons (ps_if (pt_cmpR op_eq (pv 3) pe_int (nomark _)) (pss_one (ps_ret (pe_op op_add (pe_op op_add (pv 1) pe_int) (pe_op op_modB (pv 0) (pe_op op_sub (pe_op op_sub (pv 2) pe_int) (pv 1))))))
      pss_nil)
    (pss_cons (ps_if (pt_cmpR op_eq (pv 3) pe_int (nomark _)) (pss_one (ps_ret (pe_op op_modB (pe_op op_add (pe_op op_sub (pe_op op_add (pv 1) (pv 2)) pe_int) (pe_op op_modB (pv 0) pe_int)) (pv 2))))
      pss_nil)
    (pss_cons (ps_if (pt_cmpR op_eq (pv 3) pe_int (nomark _)) (pss_one (ps_ret (pe_callB (call_max2 rfl) (by rfl) T.z_max rfl (pa_cons (pe_op op_modB (pv 0) (pv 2)) (pa_cons (pe_op op_modB (pe_op op_fdivB (pv 0) pe_int) (pv 2)) pa_nil (se rfl)) (se rfl)) (he := se rfl) (hpl := na rfl))))
      pss_nil)
    (pss_one (ps_ret (pe_op op_modB (pv 0) (pv 2))))))), ?_⟩
    simp_all only []
    refine ite2 (fun o1 => ?_) (fun _ => ite2 (fun _ => ?_) (fun _ => ite2 (fun _ => ?_) (fun _ => ?_)))
    · have := ko o1
      have h1 := Int.emod_nonneg c (show (n - 1 - k) ≠ 0 by omega)
      have h2 := Int.emod_lt_of_pos c (show 0 < n - 1 - k by omega)
      exact ⟨by omega, kk _ (by omega) (by omega)⟩
    · exact ⟨by decide, by omega, kk _ (Int.emod_nonneg _ (by omega)) (Int.emod_lt_of_pos _ (by omega))⟩
    · have h1 := Int.emod_nonneg c (show n ≠ 0 by omega)
      have h2 := Int.emod_lt_of_pos c (show 0 < n by omega)
      have h3 := Int.emod_nonneg (c / 256) (show n ≠ 0 by omega)
      have h4 := Int.emod_lt_of_pos (c / 256) (show 0 < n by omega)
      exact ⟨by omega, CDivB.lit, by omega, kk _ (by split <;> omega) (by split <;> omega)⟩
    · exact ⟨by omega, kk _ (Int.emod_nonneg _ (by omega)) (Int.emod_lt_of_pos _ (by omega))⟩
theorem sc__law_place : FnScope ["_law_script", "_law_k", "_law_n", "_law_mode", "_law_cell_here", "_law_bits", "_law_many", "_law_goals_here"] ["_law_script", "_law_k", "_law_n", "_law_mode"] (defScope (top 9)) := ⟨rfl, rfl, rfl, by decide +kernel, rfl, by decide +kernel, by decide +kernel⟩
theorem ok_place (T : Txt K mg tc) : Cal P w K mg base (CX1 P w) 2 "_law_place" ["_law_script", "_law_k", "_law_n", "_law_mode"] (spPl K) := by
  have c__law_cell : Cal P w K mg base (CX1 P w) 1 "_law_cell" ["_law_script", "_law_k"] (spC K) := ok_cell T
  have c__law_mixed : Cal P w K mg base (CX1 P w) 1 "_law_mixed" ["_law_cell_here", "_law_many"] spMix := ok_mix T
  have c__law_goal : Cal P w K mg base (CX1 P w) 1 "_law_goal" ["_law_bits", "_law_k", "_law_n", "_law_mode"] spGoal := ok_goal T
  refine T.d__law_place.cal (fun _ _ _ _ _ _ us hl => match us, hl with | [_, _, _, _], _ => rfl) fun f fd F => F.okC sc__law_place (fun vs H Q E h => ?_) (fun cdv A outer s H vs Q E hr h => ?_)
  · obtain ⟨_, _, _, _, _, rfl, _⟩ := h; rfl
  · obtain ⟨a, ns, k, n, o, rfl, hS, k0, k1, n1, kk⟩ := h
    have nd := sc__law_place.nd
    refine ⟨_, (pss_cons (ps_set (i := 4) nd rfl (Or.inr rfl) (pe_op op_add (pe_op op_mulB (pe_cal c__law_cell (hr.mono (by decide)) rfl strictP.pass (pa_cons (pv 0) (pa_cons (pe_op op_add pe_int (pv 1)) pa_nil (se rfl)) (se rfl)) (he := se rfl) (hpl := na rfl)) (pe_op op_add (pe_op op_mulB (pv 1) (pv 1)) pe_int)) (pv 1)))
    (pss_cons (ps_set (i := 5) nd rfl (Or.inr rfl) (pe_cal c__law_mixed (hr.mono (by decide)) rfl strictP.pass (pa_cons (pv 4) (pa_cons (pe_op op_pow pe_int pe_int) pa_nil (se rfl)) (se rfl)) (he := se rfl) (hpl := na rfl)))
    (pss_cons (ps_if (PW.pt (pw_or (pt_cmpR op_eq (pe_op op_modB (pv 5) pe_int) pe_int (nomark _)) (pw_or1 (PW.pt (pw_and (pt_cmpR op_eq (pv 3) pe_int (nomark _)) (pw_and1 (pt_cmpR op_eq (pv 1) (pe_op op_sub (pv 2) pe_int) (nomark _)))))))) (pss_one (ps_ret (pe_tupS (pa_cons pe_str (pa_cons (pe_tupS (pa_cons (pe_op op_sub (pe_op op_modB (pe_op op_fdivB (pv 5) pe_int) pe_int) pe_int) (pa_cons pe_int pa_nil (se rfl)) (se rfl))) pa_nil (se rfl)) (se rfl)))))
      pss_nil)
    (pss_cons (ps_set (i := 6) nd rfl (Or.inl rfl) (pe_op op_add pe_int (pe_op op_modB (pe_op op_fdivB (pv 5) pe_int) pe_int)))
    (pss_cons (ps_if (pt_cmpR op_lt (pe_op op_modB (pv 5) pe_int) pe_int (nomark _)) (pss_cons (ps_set (i := 6) nd rfl (Or.inl rfl) (pe_op op_add pe_int (pe_op op_modB (pe_op op_fdivB (pv 5) pe_int) pe_int)))
    (pss_one (ps_if (pt_cmpR op_eq (pe_op op_modB (pe_op op_fdivB (pv 5) pe_int) pe_int) pe_int (nomark _)) (pss_one (ps_set (i := 6) nd rfl (Or.inl rfl) (pe_op op_add pe_int (pe_op op_modB (pe_op op_fdivB (pv 5) pe_int) pe_int))))
      pss_nil)))
      pss_nil)
    (pss_cons (ps_setC (i := 7) rfl nd rfl rfl (N := ["_law_script", "_law_k", "_law_n", "_law_mode", "_law_cell_here", "_law_bits", "_law_many", "_law_goals_here"]) (so := defScope (top 9)) (N' := ["_law_j", "_law_k", "_law_n", "_law_mode", "_law_cell_here"]) (k := 1) (fr := [1, 2, 3, 4]) rfl rfl ⟨rfl, by decide +kernel, by decide +kernel, by decide +kernel, rfl, by decide +kernel, by decide +kernel⟩ (pi_range1 rfl T.z_range (pa_cons (pv 6) pa_nil (se rfl))) (fun _ _ _ _ _ => (pg_name (i := 0) (show (["_law_j", "_law_k", "_law_n", "_law_mode", "_law_cell_here"] : List Str).Nodup by decide +kernel) rfl (Or.inl rfl))) (fun _ _ _ _ _ => pts_nil)
      (fun _ _ _ _ _ => (pe_cal c__law_goal (hr.mono (by decide)) rfl strictP.pass (pa_cons (pe_cal c__law_mixed (hr.mono (by decide)) rfl strictP.pass (pa_cons (pe_op op_add (pe_op op_mulB (pv 4) (pe_op op_add (pe_op op_mulB (pv 0) (pv 0)) pe_int)) (pv 0)) (pa_cons (pe_op op_pow pe_int pe_int) pa_nil (se rfl)) (se rfl)) (he := se rfl) (hpl := na rfl)) (pa_cons (pv 1) (pa_cons (pv 2) (pa_cons (pv 3) pa_nil (se rfl)) (se rfl)) (se rfl)) (se rfl)) (he := se rfl) (hpl := na rfl))))
    (pss_cons (ps_if (pt_cmpR op_gt (pe_op op_modB (pv 5) pe_int) pe_int (nomark _)) (pss_one (ps_ret (pe_tupS (pa_cons pe_str (pa_cons (pe_op op_add pe_int (pe_op op_modB (pe_op op_fdivB (pv 5) pe_int) pe_int)) (pa_cons (pv 7) pa_nil (se rfl)) (se rfl)) (se rfl)))))
      pss_nil)
    (pss_one (ps_ret (pe_tupS (pa_cons pe_str (pa_cons (pe_tupS (pa_cons (pe_op op_modB (pe_op op_fdivB (pv 5) pe_int) pe_int) (pa_cons pe_int pa_nil (se rfl)) (se rfl))) (pa_cons (pe_comp rfl (N := ["_law_script", "_law_k", "_law_n", "_law_mode", "_law_cell_here", "_law_bits", "_law_many", "_law_goals_here"]) (so := defScope (top 9)) (N' := ["_law_j", "_law_goal_here", "_law_bits"]) (k := 2) (fr := [5]) rfl rfl ⟨rfl, by decide +kernel, by decide +kernel, by decide +kernel, rfl, by decide +kernel, by decide +kernel⟩ (pi_enumerateK (K := K) rfl T.z_enumerate (pa_cons (pv 7) pa_nil (se rfl))) (fun _ _ _ _ _ => (pg_tupK (K := K) (n := 2) rfl (pgs_cons (pg_name (i := 0) (show (["_law_j", "_law_goal_here", "_law_bits"] : List Str).Nodup by decide +kernel) rfl (Or.inl rfl)) (pgs_cons (pg_name (i := 1) (show (["_law_j", "_law_goal_here", "_law_bits"] : List Str).Nodup by decide +kernel) rfl (Or.inl rfl)) pgs_nil)))) (fun _ _ _ _ _ => pts_nil)
      (fun _ _ _ _ _ => (pe_tupS (pa_cons (pe_op op_add pe_int (pe_op op_modB (pe_op op_fdivB (pv 2) (pe_op op_add pe_int (pv 0))) pe_int)) (pa_cons (pv 1) pa_nil (se rfl)) (se rfl))))) pa_nil (se rfl)) (se rfl)) (se rfl)))))))))))), ?_⟩
    change tSeq _ _ _ [some (.ref a), some (.int k), some (.int n), some (.int o), none, none, none, none] H
    refine seq_gen (fun σ' H1 => H = H1 ∧ ∃ c, σ' = [some (.ref a), some (.int k), some (.int n), some (.int o), some (.int c), none, none, none]) ?_ (fun N hN => ?_)
    case refine_2 =>
      simp_all only [spC]
      have kq : IntMulOk k k := mulOkL (by omega) (by omega)
      have k2 : k * k ≤ 40000 := Int.le_trans (Int.mul_le_mul (show k ≤ 200 by omega) (show k ≤ 200 by omega) k0 (by decide)) (by decide)
      have k3 : 0 ≤ k * k := Int.mul_nonneg k0 k0
      exact ⟨ns, hS, by omega, by omega, fun c => ⟨kq, mulOkR (by omega) (by omega), hN _ _ ⟨rfl, _, rfl⟩⟩⟩
    rintro _ _ ⟨rfl, c, rfl⟩
    refine seq_gen (fun σ' H1 => H = H1 ∧ ∃ d, 0 ≤ d ∧ d < 2 ^ 50 ∧ σ' = [some (.ref a), some (.int k), some (.int n), some (.int o), some (.int c), some (.int d), none, none]) ?_ (fun N hN => ?_)
    case refine_2 =>
      simp_all only [spMix]
      exact ⟨by decide, by decide, by decide, by decide, fun r r0 r1 => hN _ _ ⟨rfl, _, r0, r1, rfl⟩⟩
    rintro _ _ ⟨rfl, d, d0, d1, rfl⟩
    refine seq_gen (fun σ' H1 => H = H1 ∧ (o = 1 → k < n - 1) ∧ σ' = [some (.ref a), some (.int k), some (.int n), some (.int o), some (.int c), some (.int d), none, none]) ?_ (fun N hN => ?_)
    case refine_2 =>
      simp_all only []
      have fin : ∀ p H2 q H3, Same H H2 → H2 p = some (.tup [.int (d / 8 % 19 - 9), .int 1]) → Same H2 H3 → H3 q = some (.tup [.str (Str.ofString "end"), .ref p]) → Q (.ref q) H3 := fun p H2 q H3 s2 e2 s3 e3 =>
        kk _ _ (.fin (d / 8 % 19 - 9, 1)) (s2.trans s3) (rep_fin.mpr ⟨q, p, rfl, e3, s3 _ _ e2⟩) trivial
      refine ⟨by decide, ite2 (fun _ => ?_) (fun _ => ite2 (fun o1 => ite2 (fun e => ?_) (fun e => ?_)) (fun o1 => ?_))⟩
      · exact ⟨CDivB.lit, by decide, by decide, fun p H2 s2 np e2 => ⟨by decide, fun q H3 s3 nq e3 => fin p H2 q H3 s2 e2 s3 e3⟩⟩
      · exact ⟨CDivB.lit, by decide, by decide, fun p H2 s2 np e2 => ⟨by decide, fun q H3 s3 nq e3 => fin p H2 q H3 s2 e2 s3 e3⟩⟩
      · exact hN _ _ ⟨rfl, fun _ => by omega, rfl⟩
      · exact hN _ _ ⟨rfl, fun z => absurd z o1, rfl⟩
    rintro _ _ ⟨rfl, ok1, rfl⟩
    refine seq_gen (fun σ' H1 => H = H1 ∧ ∃ m, 1 ≤ m ∧ m ≤ 4 ∧ σ' = [some (.ref a), some (.int k), some (.int n), some (.int o), some (.int c), some (.int d), some (.int m), none]) ?_ (fun N hN => ?_)
    case refine_2 =>
      simp_all only []
      exact ⟨CDivB.lit, by decide, hN _ _ ⟨rfl, _, by omega, by omega, rfl⟩⟩
    rintro _ _ ⟨rfl, m, m0, m1, rfl⟩
    refine seq_gen (fun σ' H1 => H = H1 ∧ ∃ m, 1 ≤ m ∧ m ≤ 100 ∧ (4 < d % 8 → m ≤ 4) ∧ σ' = [some (.ref a), some (.int k), some (.int n), some (.int o), some (.int c), some (.int d), some (.int m), none]) ?_ (fun N hN => ?_)
    case refine_2 =>
      simp_all only []
      refine ⟨by decide, ite2 (fun l5 => ⟨CDivB.lit, by decide, CDivB.lit, by decide, ite2 (fun _ => ⟨CDivB.lit, by decide, ?_⟩) (fun _ => ?_)⟩) (fun _ => ?_)⟩
      · exact hN _ _ ⟨rfl, _, by omega, by omega, by omega, rfl⟩
      · exact hN _ _ ⟨rfl, _, by omega, by omega, by omega, rfl⟩
      · exact hN _ _ ⟨rfl, _, by omega, by omega, by omega, rfl⟩
    rintro _ _ ⟨rfl, m, m0, m1, m4, rfl⟩
    refine seq_gen (fun σ' H1 => Same H H1 ∧ ∃ l gs, H1 l = some (.lst (List.map V.int gs)) ∧ gs.length = m.toNat ∧ (∀ g ∈ gs, 0 ≤ g ∧ g < n) ∧ σ' = [some (.ref a), some (.int k), some (.int n), some (.int o), some (.int c), some (.int d), some (.int m), some (.ref l)]) ?_ (fun N hN => ?_)
    case refine_2 =>
      simp_all only []
      refine ⟨by omega, by omega, ?_⟩
      refine comp_map src_range (fun _ _ _ _ h => by rw [h.1]; exact Same.refl _) (by rw [sizeLine_eq]; omega) (fun i y H4 => ∃ g, y = .int g ∧ 0 ≤ g ∧ g < n) (fun i y H4 H5 s5 h => h) ?_ ?_
      · rintro i x w0 H4 H5 Q2 hi s4 ⟨rfl, rfl⟩ kq
        simp_all only [spGoal, spMix]
        have j0 : (0 : Int) ≤ 0 + (i : Int) := by omega
        have j1 : (0 : Int) + (i : Int) < 200 := by omega
        generalize (0 : Int) + (i : Int) = j at *
        have jq : IntMulOk j j := mulOkL (by omega) (by omega)
        have j2 : j * j ≤ 40000 := Int.le_trans (Int.mul_le_mul (show j ≤ 200 by omega) (show j ≤ 200 by omega) j0 (by decide)) (by decide)
        have j3 : 0 ≤ j * j := Int.mul_nonneg j0 j0
        exact ⟨jq, mulOkR (by omega) (by omega), by decide, by decide, by decide, by decide, fun r r0 r1 => ⟨k0, k1, ok1, fun g g0 g1 => kq _ _ (Same.refl _) ⟨g, rfl, g0, g1⟩⟩⟩
      · intro ys H4 s4 ly hy D n1 n2
        have : ∃ gs : List Int, ys = List.map V.int gs ∧ ∀ g ∈ gs, 0 ≤ g ∧ g < n := by
          clear ly n1 n2
          induction ys with
          | nil => exact ⟨[], rfl, by simp⟩
          | cons y ys ih =>
            obtain ⟨gs, e, h⟩ := ih fun i y e => hy (i + 1) y (by simpa using e)
            obtain ⟨g, rfl, g0, g1⟩ := hy 0 y rfl
            refine ⟨g :: gs, by rw [e]; rfl, fun x hx => ?_⟩
            rcases List.mem_cons.mp hx with rfl | hx
            · exact ⟨g0, g1⟩
            · exact h x hx
        obtain ⟨gs, rfl, hg⟩ := this
        rw [List.length_map] at ly
        exact hN _ _ ⟨s4.trans (same_upd n2), D, gs, upd_same, by omega, hg, rfl⟩
    rintro _ H1 ⟨s1, l, gs, hl, lg, hg, rfl⟩
    have lgp : 0 < gs.length := by omega
    simp_all only []
    refine ⟨by decide, ite2 (fun g4 => ?_) (fun _ => ?_)⟩
    · have := m4 g4
      exact ⟨CDivB.lit, by decide, by decide, fun p H2 s2 np e2 => kk _ _ (.pck (1 + d / 64 % 2) gs) (s1.trans s2) (rep_pck.mpr ⟨p, l, rfl, e2, s2 _ _ hl⟩) ⟨lgp, by omega, by omega, hg⟩⟩
    · refine ⟨CDivB.lit, by decide, by decide, fun p H2 s2 np e2 => ⟨⟨_, SqL.of (s2 _ _ hl)⟩, ?_⟩⟩
      refine comp_map2 (src_enum (fun H' s' => SqL.of (s' _ _ (s2 _ _ hl)))) (fun i x y _ => x = .int i ∧ ∃ g, gs[i]? = some g ∧ y = .int g) ?_ (by rw [List.length_map, sizeLine_eq]; omega)
        (fun i y H' => ∃ w g, gs[i]? = some g ∧ 0 < w ∧ w ≤ 10000 ∧ Rep H' (wrowD (w, g)) y) (fun i y H2 H3 s3 ⟨w, g, e, w0, w1, r⟩ => ⟨w, g, e, w0, w1, r.mono s3⟩) ?_ ?_
      · rintro i v H3 H4 hi s3 ⟨t, x, nt, rfl, ex, rfl⟩
        rw [List.getElem?_map] at ex
        obtain ⟨g, eg, rfl⟩ := Option.map_eq_some_iff.mp ex
        exact ⟨same_upd nt, t, _, _, rfl, SqT.of upd_same, rfl, g, eg, rfl⟩
      · rintro i x y H3 Q2 hi s3 ⟨rfl, g, eg, rfl⟩ kq
        rw [List.length_map] at hi
        simp_all only []
        have b7 : CDivB d (7 + (i : Int)) := CDivB.of (n := 20) (by omega) (Bt.of 300 (by omega) (by omega))
        refine ⟨b7, by decide, by decide, fun q H4 s4 nq e4 => kq _ _ s4 ⟨_, g, eg, ?_, ?_, rep_wrow.mpr ⟨q, rfl, e4⟩⟩⟩ <;> omega
      · intro ys H4 s4 ly hy D n1 n2
        rw [List.length_map] at ly
        have : ∃ ws : List (Int × Int), ws.map (·.2) = gs ∧ (∀ p ∈ ws, 0 < p.1 ∧ p.1 ≤ 10000) ∧ RepL (upd H4 D (.lst ys)) (ws.map wrowD) ys := by
          have s5 := same_upd (o := .lst ys) n2
          generalize upd H4 D (.lst ys) = H5 at *
          have hy2 : ∀ (i : Nat) y, ys[i]? = some y → ∃ w g, gs[i]? = some g ∧ 0 < w ∧ w ≤ 10000 ∧ Rep H5 (wrowD (w, g)) y := fun i y e => by
            obtain ⟨w, g, e1, e2, e3, r⟩ := hy i y e
            exact ⟨w, g, e1, e2, e3, r.mono s5⟩
          clear hy lgp lg hg hl e2 s4 s5 n1 n2 kk m4
          induction ys generalizing gs with
          | nil =>
            cases gs with
            | nil => exact ⟨[], rfl, by simp, by simp [RepL]⟩
            | cons _ _ => simp at ly
          | cons y ys ih =>
            cases gs with
            | nil => simp at ly
            | cons g gs =>
              obtain ⟨ws, e, h, r⟩ := ih gs (by simpa using ly) fun i y e => by
                have := hy2 (i + 1) y (by simpa using e)
                simpa using this
              obtain ⟨w, g', eg, w0, w1, rw'⟩ := hy2 0 y rfl
              simp at eg
              subst eg
              refine ⟨(w, g) :: ws, by rw [List.map_cons, e], fun p hp => ?_, ?_⟩
              · rcases List.mem_cons.mp hp with rfl | hp
                · exact ⟨w0, w1⟩
                · exact h p hp
              · rw [List.map_cons, RepL]
                exact ⟨_, _, rfl, rw', r⟩
        obtain ⟨ws, e, h, r⟩ := this
        refine ⟨by decide, fun q H5 s5 nq e5 => ?_⟩
        have lw : ws.length = gs.length := by rw [← e, List.length_map]
        refine kk _ _ (.thr (d / 16 % 5, 1) ws) (s1.trans (s2.trans (s4.trans ((same_upd n2).trans s5)))) (rep_thr.mpr ⟨q, p, D, ys, rfl, e5, s5 _ _ (same_upd n2 _ _ (s4 _ _ e2)), s5 _ _ upd_same, r.mono s5⟩) ⟨by omega, by omega, fun x hx => ?_⟩
        have h1 := h x hx
        have h2 := hg x.2 (by rw [← e]; exact List.mem_map.mpr ⟨x, hx, rfl⟩)
        exact ⟨h1.1, h1.2, h2.1, h2.2⟩
theorem sc__law_board : FnScope ["_law_script", "_law_n"] ["_law_script"] (defScope (top 10)) := ⟨rfl, rfl, rfl, by decide +kernel, rfl, by decide +kernel, by decide +kernel⟩
theorem ok_board (T : Txt K mg tc) : Cal P w K mg base (CX1 P w) 4 "_law_board" ["_law_script"] (spBd K) := by
  have c__law_cell : Cal P w K mg base (CX1 P w) 1 "_law_cell" ["_law_script", "_law_k"] (spC K) := ok_cell T
  have c__law_place : Cal P w K mg base (CX1 P w) 2 "_law_place" ["_law_script", "_law_k", "_law_n", "_law_mode"] (spPl K) := ok_place T
  refine T.d__law_board.cal (fun _ _ _ _ _ _ us hl => match us, hl with | [_], _ => rfl) fun f fd F => F.okC sc__law_board (fun vs H Q E h => ?_) (fun cdv A outer s H vs Q E hr h => ?_)
  · obtain ⟨_, _, rfl, _⟩ := h; rfl
  · obtain ⟨a, ns, rfl, hS, kk⟩ := h
    have nd := sc__law_board.nd
    refine ⟨_, (pss_cons (ps_set (i := 1) nd rfl (Or.inr rfl) (pe_op op_add pe_int (pe_op op_modB (pe_cal c__law_cell (hr.mono (by decide)) rfl strictP.pass (pa_cons (pv 0) (pa_cons pe_int pa_nil (se rfl)) (se rfl)) (he := se rfl) (hpl := na rfl)) pe_int)))
    (pss_cons (ps_if (pt_cmpR op_eq (pe_op op_modB (pe_op op_fdivB (pe_cal c__law_cell (hr.mono (by decide)) rfl strictP.pass (pa_cons (pv 0) (pa_cons pe_int pa_nil (se rfl)) (se rfl)) (he := se rfl) (hpl := na rfl)) pe_int) pe_int) pe_int (nomark _)) (pss_one (ps_set (i := 1) nd rfl (Or.inr rfl) (pe_op op_add pe_int (pe_op op_modB (pe_op op_fdivB (pe_cal c__law_cell (hr.mono (by decide)) rfl strictP.pass (pa_cons (pv 0) (pa_cons pe_int pa_nil (se rfl)) (se rfl)) (he := se rfl) (hpl := na rfl)) pe_int) pe_int))))
      pss_nil)
    (pss_one (ps_ret (pe_comp rfl (N := ["_law_script", "_law_n"]) (so := defScope (top 10)) (N' := ["_law_k", "_law_script", "_law_n"]) (k := 1) (fr := [0, 1]) rfl rfl ⟨rfl, by decide +kernel, by decide +kernel, by decide +kernel, rfl, by decide +kernel, by decide +kernel⟩ (pi_range1 rfl T.z_range (pa_cons (pv 1) pa_nil (se rfl))) (fun _ _ _ _ _ => (pg_name (i := 0) (show (["_law_k", "_law_script", "_law_n"] : List Str).Nodup by decide +kernel) rfl (Or.inl rfl))) (fun _ _ _ _ _ => pts_nil)
      (fun _ _ _ _ _ => (pe_cal c__law_place (hr.mono (by decide)) rfl strictP.pass (pa_cons (pv 1) (pa_cons (pv 0) (pa_cons (pv 2) (pa_cons (pe_op op_modB (pe_cal c__law_cell (hr.mono (by decide)) rfl strictP.pass (pa_cons (pv 1) (pa_cons pe_int pa_nil (se rfl)) (se rfl)) (he := se rfl) (hpl := na rfl)) pe_int) pa_nil (se rfl)) (se rfl)) (se rfl)) (se rfl)) (he := se rfl) (hpl := na rfl)))))))), ?_⟩
    change tSeq _ _ _ [some (.ref a), none] H
    refine seq_gen (fun σ' H1 => H = H1 ∧ ∃ n, 1 ≤ n ∧ n ≤ 40 ∧ σ' = [some (.ref a), some (.int n)]) ?_ (fun N hN => ?_)
    case refine_2 =>
      simp_all only [spC]
      exact ⟨ns, hS, by decide, by decide, fun c => ⟨by decide, hN _ _ ⟨rfl, _, by omega, by omega, rfl⟩⟩⟩
    rintro _ _ ⟨rfl, n, n0, n1, rfl⟩
    refine seq_gen (fun σ' H1 => H = H1 ∧ ∃ n, 1 ≤ n ∧ n ≤ 40 ∧ σ' = [some (.ref a), some (.int n)]) ?_ (fun N hN => ?_)
    case refine_2 =>
      simp_all only [spC]
      exact ⟨ns, hS, by decide, by decide, fun c => ⟨CDivB.lit, by decide, ite2 (fun _ => ⟨ns, hS, by decide, by decide, fun c => ⟨CDivB.lit, by decide, hN _ _ ⟨rfl, _, by omega, by omega, rfl⟩⟩⟩) (fun _ => hN _ _ ⟨rfl, _, n0, n1, rfl⟩)⟩⟩
    rintro _ _ ⟨rfl, n, n0, n1, rfl⟩
    simp_all only []
    refine ⟨by omega, by omega, ?_⟩
    refine comp_map src_range (fun _ _ _ _ h => by rw [h.1]; exact Same.refl _) (by rw [sizeLine_eq]; omega) (fun i y H4 => ∃ q, Rep H4 (plD q) y ∧ GPl n q) (fun i y H4 H5 s5 ⟨q, r, g⟩ => ⟨q, r.mono s5, g⟩) ?_ ?_
    · rintro i x w0 H4 H5 Q2 hi s4 ⟨rfl, rfl⟩ kq
      simp_all only [spPl, spC]
      exact ⟨ns, s4.seq hS, by decide, by decide, fun c => ⟨by decide, ns, s4.seq hS, by omega, by omega, by omega, fun v H6 q s6 r6 g6 => kq _ _ s6 ⟨q, r6, g6⟩⟩⟩
    · intro ys H4 s4 ly hy D n2 n3
      have : ∃ b : List Pl, (∀ q ∈ b, GPl n q) ∧ RepL (upd H4 D (.lst ys)) (b.map plD) ys := by
        have s5 := same_upd (o := .lst ys) n3
        generalize upd H4 D (.lst ys) = H5 at *
        have hy2 : ∀ (i : Nat) y, ys[i]? = some y → ∃ q, Rep H5 (plD q) y ∧ GPl n q := fun i y e => by
          obtain ⟨q, r, g⟩ := hy i y e
          exact ⟨q, r.mono s5, g⟩
        clear hy ly n2 n3 s5 s4 kk
        induction ys with
        | nil => exact ⟨[], by simp, by simp [RepL]⟩
        | cons y ys ih =>
          obtain ⟨b, g, r⟩ := ih fun i y e => hy2 (i + 1) y (by simpa using e)
          obtain ⟨q, rq, gq⟩ := hy2 0 y rfl
          refine ⟨q :: b, fun x hx => ?_, ?_⟩
          · rcases List.mem_cons.mp hx with rfl | hx
            · exact gq
            · exact g x hx
          · rw [List.map_cons, RepL]
            exact ⟨_, _, rfl, rq, r⟩
      obtain ⟨b, g, r⟩ := this
      have lb := r.length
      rw [List.length_map] at lb
      have eb : (b.length : Int) = n := by omega
      refine kk D _ b (s4.trans (same_upd n3)) (rep_lst.mpr ⟨D, ys, rfl, upd_same, r⟩) ⟨by omega, by omega, ?_⟩
      rw [eb]
      exact g
theorem sc__law_copy : FnScope ["_law_board_here"] ["_law_board_here"] (defScope (top 11)) := ⟨rfl, rfl, rfl, by decide +kernel, rfl, by decide +kernel, by decide +kernel⟩
theorem ok_copy (T : Txt K mg tc) : Cal P w K mg base (CX1 P w) 1 "_law_copy" ["_law_board_here"] spCopy2 := by
  refine T.d__law_copy.cal (fun _ _ _ _ _ _ us hl => match us, hl with | [_], _ => rfl) fun f fd F => F.okC sc__law_copy (fun vs H Q E h => ?_) (fun cdv A outer s H vs Q E hr h => ?_)
  · obtain ⟨_, _, rfl, _⟩ := h; rfl
  · obtain ⟨a, b, rfl, rb, lb, kk⟩ := h
    have nd := sc__law_copy.nd
    refine ⟨_, (pss_one (ps_ret (pe_comp rfl (N := ["_law_board_here"]) (so := defScope (top 11)) (N' := ["_law_place_here"]) (k := 1) (fr := []) rfl rfl ⟨rfl, by decide +kernel, by decide +kernel, by decide +kernel, rfl, by decide +kernel, by decide +kernel⟩ (pi_listK (K := K) (pv 0)) (fun _ _ _ _ _ => (pg_name (i := 0) (show (["_law_place_here"] : List Str).Nodup by decide +kernel) rfl (Or.inr rfl))) (fun _ _ _ _ _ => pts_nil)
      (fun _ _ _ _ _ => (pe_op (op_catTK (K := K)) (pe_tupS (pa_cons (pe_ix ix_tupH (pv 0) pe_int (fun _ _ => rfl)) (pa_cons (pe_ix ix_tupH (pv 0) pe_int (fun _ _ => rfl)) pa_nil (se rfl)) (se rfl))) (pe_callTy (call_tuple_ofK (K := K)) (by rfl) T.z_tuple rfl (pa_cons (pe_compN rfl (N := ["_law_place_here"]) (N' := ["_law_k", "_law_place_here"]) (k := 1) (fr := [0]) rfl rfl ⟨rfl, by decide +kernel, by decide +kernel, by decide +kernel, rfl, by decide +kernel, by decide +kernel⟩ (pi_range1 rfl T.z_range (pa_cons (pe_op op_sub (pe_callB call_lenT (by rfl) T.z_len PySem.boot_len (pa_cons (pv 0) pa_nil (se rfl)) (he := se rfl) (hpl := na rfl)) pe_int) pa_nil (se rfl))) (fun _ _ _ _ _ => (pg_name (i := 0) (show (["_law_k", "_law_place_here"] : List Str).Nodup by decide +kernel) rfl (Or.inl rfl))) (fun _ _ _ _ _ => pts_nil)
      (fun _ _ _ _ _ => (pe_callTy (call_list_ofK (K := K)) (by rfl) T.z_list rfl (pa_cons (pe_ix ix_tupH (pv 1) pe_int (fun _ _ => rfl)) pa_nil (se rfl)) (he := se rfl) (hpl := na rfl)))) pa_nil (se rfl)) (he := se rfl) (hpl := na rfl))))))), ?_⟩
    obtain ⟨_, xs, e, ha, rl⟩ := rep_lst.mp rb
    cases e
    have lx := rl.length
    rw [List.length_map] at lx
    simp_all only []
    refine ⟨⟨_, SqL.of ha⟩, ?_⟩
    refine comp_map (src_list (fun H2 s2 => SqL.of (s2 _ _ ha))) (fun _ _ _ _ h => by rw [h.1]; exact Same.refl _) (by rw [sizeLine_eq]; omega) (fun i y H2 => ∀ q, b[i]? = some q → Rep H2 (plD q) y) (fun i y H2 H3 s3 h q e => (h q e).mono s3) ?_ ?_
    · rintro i x w0 H2 H3 Q2 hi s2 ⟨rfl, hx⟩ kq
      obtain ⟨q, eq, rq⟩ := rep_br_get rl hx
      have rq := rq.mono s2
      have fin : ∀ y H6, Same H3 H6 → Rep H6 (plD q) y → Q2 y H6 := fun y H6 s6 r6 => kq y H6 s6 fun q' eq' => by
        rw [eq] at eq'
        cases eq'
        exact r6
      cases q with
      | fin w1 =>
        obtain ⟨p, r, rfl, hp, hr'⟩ := rep_fin.mp rq
        simp_all only [hp]
        refine ⟨by decide, fun t H4 s4 nt et => ⟨_, s4 _ _ hp, by simp, by simp, ?_⟩⟩
        refine comp_map src_range (fun _ _ _ _ h => by rw [h.1]; exact Same.refl _) (by simp [sizeLine_eq]) (fun _ _ _ => True) (fun _ _ _ _ _ h => h) ?_ ?_
        · rintro i x w0 H5 H6 Q3 hi
          simp at hi
        · intro ys H5 s5 ly _ D n1 n2
          have : ys = [] := by
            have ly : ys.length = 0 := by simpa using ly
            exact List.length_eq_zero_iff.mp ly
          subst this
          refine ⟨_, .inl ⟨SqL.of upd_same, fun l2 nl2 => ?_⟩⟩
          have sD := same_upd (o := .lst []) n2
          have sl := same_upd (o := .tup []) nl2
          have s46 := s5.trans (sD.trans sl)
          exact ⟨t, l2, _, _, rfl, rfl, SqT.of (s46 _ _ et), SqT.of upd_same, by simp, by rw [sizeLine_eq]; simp, fun _ => fin _ _ (s4.trans s46) (rep_fin.mpr ⟨t, r, rfl, s46 _ _ et, (s4.trans s46) _ _ hr'⟩), fun z => absurd rfl z⟩
      | thr w1 ws =>
        obtain ⟨p, r, l, zs, rfl, hp, hr', hl, rz⟩ := rep_thr.mp rq
        simp_all only [hp]
        refine ⟨by decide, fun t H4 s4 nt et => ⟨_, s4 _ _ hp, by simp, by simp, ?_⟩⟩
        have hl4 := s4 _ _ hl
        have hp4 := s4 _ _ hp
        refine comp_map src_range (fun _ _ _ _ h => by rw [h.1]; exact Same.refl _) (by simp [sizeLine_eq]) (fun i y H5 => ∃ m, y = .ref m ∧ H5 m = some (.lst zs)) (fun i y H5 H6 s6 ⟨m, e, hm⟩ => ⟨m, e, s6 _ _ hm⟩) ?_ ?_
        · rintro i x w0 H5 H6 Q3 hi s5 ⟨rfl, rfl⟩ kq
          have hp5 := s5 _ _ hp4
          have hl5 := s5 _ _ hl4
          simp_all only [hp5]
          exact ⟨_, .inl (SqL.of hl5), fun m nm => kq _ _ (same_upd nm) ⟨m, rfl, upd_same⟩⟩
        · intro ys H5 s5 ly hy D n1 n2
          have : ∃ y, ys = [y] := by
            have ly : ys.length = 1 := by simpa using ly
            match ys, ly with
            | [y], _ => exact ⟨y, rfl⟩
          obtain ⟨y, rfl⟩ := this
          obtain ⟨m, rfl, hm⟩ := hy 0 y rfl
          have sD := same_upd (o := .lst [V.ref m]) n2
          refine ⟨_, .inl ⟨SqL.of upd_same, fun l2 nl2 => ?_⟩⟩
          have sl := same_upd (o := .tup [V.ref m]) nl2
          have s46 := s5.trans (sD.trans sl)
          refine ⟨t, l2, _, _, rfl, rfl, SqT.of (s46 _ _ et), SqT.of upd_same, by simp, by rw [sizeLine_eq]; simp, fun z => by simp at z, fun _ p2 np2 => ?_⟩
          have s7 := s4.trans (s46.trans (same_upd (o := .tup ([V.str (Str.ofString "throw"), V.ref r] ++ [V.ref m])) np2))
          have hm7 := same_upd (o := .tup ([V.str (Str.ofString "throw"), V.ref r] ++ [V.ref m])) np2 _ _ (sl _ _ (sD _ _ hm))
          exact fin _ _ s7 (rep_thr.mpr ⟨p2, r, m, zs, rfl, upd_same, s7 _ _ hr', hm7, rz.mono s7⟩)
      | pck w1 to =>
        obtain ⟨p, l, rfl, hp, hl⟩ := rep_pck.mp rq
        simp_all only [hp]
        refine ⟨by decide, fun t H4 s4 nt et => ⟨_, s4 _ _ hp, by simp, by simp, ?_⟩⟩
        have hl4 := s4 _ _ hl
        have hp4 := s4 _ _ hp
        refine comp_map src_range (fun _ _ _ _ h => by rw [h.1]; exact Same.refl _) (by simp [sizeLine_eq]) (fun i y H5 => ∃ m, y = .ref m ∧ H5 m = some (.lst (List.map V.int to))) (fun i y H5 H6 s6 ⟨m, e, hm⟩ => ⟨m, e, s6 _ _ hm⟩) ?_ ?_
        · rintro i x w0 H5 H6 Q3 hi s5 ⟨rfl, rfl⟩ kq
          have hp5 := s5 _ _ hp4
          have hl5 := s5 _ _ hl4
          simp_all only [hp5]
          exact ⟨_, .inl (SqL.of hl5), fun m nm => kq _ _ (same_upd nm) ⟨m, rfl, upd_same⟩⟩
        · intro ys H5 s5 ly hy D n1 n2
          have : ∃ y, ys = [y] := by
            have ly : ys.length = 1 := by simpa using ly
            match ys, ly with
            | [y], _ => exact ⟨y, rfl⟩
          obtain ⟨y, rfl⟩ := this
          obtain ⟨m, rfl, hm⟩ := hy 0 y rfl
          have sD := same_upd (o := .lst [V.ref m]) n2
          refine ⟨_, .inl ⟨SqL.of upd_same, fun l2 nl2 => ?_⟩⟩
          have sl := same_upd (o := .tup [V.ref m]) nl2
          have s46 := s5.trans (sD.trans sl)
          refine ⟨t, l2, _, _, rfl, rfl, SqT.of (s46 _ _ et), SqT.of upd_same, by simp, by rw [sizeLine_eq]; simp, fun z => by simp at z, fun _ p2 np2 => ?_⟩
          have s7 := s4.trans (s46.trans (same_upd (o := .tup ([V.str (Str.ofString "pick"), V.int w1] ++ [V.ref m])) np2))
          have hm7 := same_upd (o := .tup ([V.str (Str.ofString "pick"), V.int w1] ++ [V.ref m])) np2 _ _ (sl _ _ (sD _ _ hm))
          exact fin _ _ s7 (rep_pck.mpr ⟨p2, m, rfl, upd_same, hm7⟩)
    · intro ys H2 s2 ly hy D n1 n2
      exact kk D _ ys s2 n2 (repL_map (by omega) fun i y ey q eq => hy i y ey q eq)
theorem pair_snd {H : Hp} {ws : List (Int × Int)} {xs : List V} (rl : RepL H (ws.map wrowD) xs) {i : Nat} {x : V} (ex : xs[i]? = some x) : ∃ p t, ws[i]? = some p ∧ x = .ref t ∧ H t = some (.tup [.int p.1, .int p.2]) := by
  obtain ⟨d, ed, rd⟩ := rl.get ex
  rw [List.getElem?_map] at ed
  obtain ⟨p, ep, rfl⟩ := Option.map_eq_some_iff.mp ed
  obtain ⟨t, rfl, ht⟩ := rep_wrow.mp rd
  exact ⟨p, t, ep, rfl, ht⟩
theorem sc__law_goals : FnScope ["_law_place_here"] ["_law_place_here"] (defScope (top 12)) := ⟨rfl, rfl, rfl, by decide +kernel, rfl, by decide +kernel, by decide +kernel⟩
theorem ok_lgs (T : Txt K mg tc) : Cal P w K mg base (CX1 P w) 1 "_law_goals" ["_law_place_here"] spLgs := by
  refine T.d__law_goals.cal (fun _ _ _ _ _ _ us hl => match us, hl with | [_], _ => rfl) fun f fd F => F.okC sc__law_goals (fun vs H Q E h => ?_) (fun cdv A outer s H vs Q E hr h => ?_)
  · obtain ⟨_, _, rfl, _⟩ := h; rfl
  · obtain ⟨v, q, rfl, rq, lq, kk⟩ := h
    have nd := sc__law_goals.nd
    refine ⟨_, (pss_cons (ps_if (pt_cmpR op_eq (pe_ix ix_tupH (pv 0) pe_int (fun _ _ => rfl)) pe_str (nomark _)) (pss_one (ps_ret (pe_lst pa_nil)))
      pss_nil)
    (pss_cons (ps_if (pt_cmpR op_eq (pe_ix ix_tupH (pv 0) pe_int (fun _ _ => rfl)) pe_str (nomark _)) (pss_one (ps_ret (pe_ix ix_tupH (pv 0) pe_int (fun _ _ => rfl))))
      pss_nil)
    (pss_one (ps_ret (pe_comp rfl (N := ["_law_place_here"]) (so := defScope (top 12)) (N' := ["_law_pair"]) (k := 1) (fr := []) rfl rfl ⟨rfl, by decide +kernel, by decide +kernel, by decide +kernel, rfl, by decide +kernel, by decide +kernel⟩ (pi_listK (K := K) (pe_ix ix_tupH (pv 0) pe_int (fun _ _ => rfl))) (fun _ _ _ _ _ => (pg_name (i := 0) (show (["_law_pair"] : List Str).Nodup by decide +kernel) rfl (Or.inl rfl))) (fun _ _ _ _ _ => pts_nil)
      (fun _ _ _ _ _ => (pe_ix ix_tupH (pv 0) pe_int (fun _ _ => rfl)))))))), ?_⟩
    cases q with
    | fin w =>
      obtain ⟨p, r, rfl, hp, _⟩ := rep_fin.mp rq
      simp_all only [hp]
      exact ⟨Nat.zero_le _, fun l nl => kk _ _ (same_upd nl) upd_same⟩
    | thr w ws =>
      obtain ⟨p, r, l, xs, rfl, hp, _, hl, rl⟩ := rep_thr.mp rq
      simp_all only [hp]
      rw [if_neg (by decide +kernel), if_neg (by decide +kernel)]
      refine ⟨⟨_, SqL.of hl⟩, ?_⟩
      have lx := rl.length
      rw [List.length_map] at lx
      have S : Src (Itl K l) (Same H) ws.length (fun i x H H3 => H3 = H ∧ xs[i]? = some x) := by rw [lx]; exact src_list (fun H' s' => SqL.of (s' _ _ hl))
      refine comp_ints ws (fun p => some p.2) S (fun _ _ _ _ h => h.1) (by rw [sizeLine_eq]; have : ws.length ≤ 100 := (by simpa [Lv.gls] using lq); omega) ?_ ?_
      · rintro i p x ep ⟨_, ex⟩ Y N y1 _
        obtain ⟨p', t, ep', rfl, ht⟩ := pair_snd rl ex
        rw [ep] at ep'
        cases ep'
        simp_all only [tYes, ht]
        exact y1 _ rfl
      · intro D n1 n2
        rw [fm_some]
        exact kk _ _ (same_upd n2) upd_same
    | pck w to =>
      obtain ⟨p, l, rfl, hp, hl⟩ := rep_pck.mp rq
      simp_all only [hp]
      rw [if_neg (by decide +kernel)]
      exact kk _ _ (Same.refl _) hl
theorem sc_goals : FnScope ["place"] ["place"] (defScope (top 1)) := ⟨rfl, rfl, rfl, by decide +kernel, rfl, by decide +kernel, by decide +kernel⟩
theorem ok_gls (T : Txt K mg tc) : Cal P w K mg base (CX1 P w) 1 "goals" ["place"] spGls := by
  refine T.d_goals.cal (fun _ _ _ _ _ _ us hl => match us, hl with | [_], _ => rfl) fun f fd F => F.okC sc_goals (fun vs H Q E h => ?_) (fun cdv A outer s H vs Q E hr h => ?_)
  · obtain ⟨_, _, rfl, _⟩ := h; rfl
  · obtain ⟨v, q, rfl, rq, lq, kk⟩ := h
    have nd := sc_goals.nd
    refine ⟨_, (pss_cons (ps_if (pt_cmpR op_eq (pe_ix ix_tupH (pv 0) pe_int (fun _ _ => rfl)) pe_str (nomark _)) (pss_one (ps_ret (pe_comp rfl (N := ["place"]) (so := defScope (top 1)) (N' := ["weight", "to"]) (k := 2) (fr := []) rfl rfl ⟨rfl, by decide +kernel, by decide +kernel, by decide +kernel, rfl, by decide +kernel, by decide +kernel⟩ (pi_listK (K := K) (pe_ix ix_tupH (pv 0) pe_int (fun _ _ => rfl))) (fun _ _ _ _ _ => (pg_tupK (K := K) (n := 2) rfl (pgs_cons (pg_name (i := 0) (show (["weight", "to"] : List Str).Nodup by decide +kernel) rfl (Or.inl rfl)) (pgs_cons (pg_name (i := 1) (show (["weight", "to"] : List Str).Nodup by decide +kernel) rfl (Or.inl rfl)) pgs_nil)))) (fun _ _ _ _ _ => pts_nil)
      (fun _ _ _ _ _ => (pv 1)))))
      pss_nil)
    (pss_cons (ps_if (pt_cmpR op_eq (pe_ix ix_tupH (pv 0) pe_int (fun _ _ => rfl)) pe_str (nomark _)) (pss_one (ps_ret (pe_callTy (call_list_ofK (K := K)) (by rfl) T.z_list rfl (pa_cons (pe_ix ix_tupH (pv 0) pe_int (fun _ _ => rfl)) pa_nil (se rfl)) (he := se rfl) (hpl := na rfl))))
      pss_nil)
    (pss_one (ps_ret (pe_lst pa_nil))))), ?_⟩
    cases q with
    | fin w =>
      obtain ⟨p, r, rfl, hp, _⟩ := rep_fin.mp rq
      simp_all only [hp]
      rw [if_neg (by decide +kernel), if_neg (by decide +kernel)]
      exact ⟨Nat.zero_le _, fun l nl => kk _ _ (same_upd nl) nl upd_same⟩
    | thr w ws =>
      obtain ⟨p, r, l, xs, rfl, hp, _, hl, rl⟩ := rep_thr.mp rq
      simp_all only [hp]
      refine ⟨⟨_, SqL.of hl⟩, ?_⟩
      have lx := rl.length
      rw [List.length_map] at lx
      have S : Src (Itl K l) (Same H) ws.length (fun i x H H3 => H3 = H ∧ xs[i]? = some x) := by rw [lx]; exact src_list (fun H' s' => SqL.of (s' _ _ hl))
      refine comp_ints2 ws (fun p => some p.2) S (fun _ _ _ _ h => h.1) (by rw [sizeLine_eq]; have : ws.length ≤ 100 := (by simpa [Lv.gls] using lq); omega) ?_ ?_
      · rintro i p x ep ⟨_, ex⟩
        obtain ⟨p', t, ep', rfl, ht⟩ := pair_snd rl ex
        rw [ep] at ep'
        cases ep'
        refine ⟨t, _, _, rfl, SqT.of ht, fun Y N y1 _ => ?_⟩
        simp_all only [tYes]
        exact y1 _ rfl
      · intro D n1 n2
        rw [fm_some]
        exact kk _ _ (same_upd n2) n2 upd_same
    | pck w to =>
      obtain ⟨p, l, rfl, hp, hl⟩ := rep_pck.mp rq
      simp_all only [hp]
      rw [if_neg (by decide +kernel)]
      exact ⟨_, .inl (SqL.of hl), fun m nm => kk _ _ (same_upd nm) nm upd_same⟩
theorem sc_steps_from : FnScope ["board", "start", "steps", "found", "turn", "here", "way", "to"] ["board", "start"] (defScope (top 3)) := ⟨rfl, rfl, rfl, by decide +kernel, rfl, by decide +kernel, by decide +kernel⟩
theorem ok_stp (T : Txt K mg tc) : Cal P w K mg base (CX1 P w) 2 "steps_from" ["board", "start"] spStp := by
  have c_goals : Cal P w K mg base (CX1 P w) 1 "goals" ["place"] spGls := ok_gls T
  refine T.d_steps_from.cal (fun _ _ _ _ _ _ us hl => match us, hl with | [_, _], _ => rfl) fun f fd F => F.okC sc_steps_from (fun vs H Q E h => ?_) (fun cdv A outer s H vs Q E hr h => ?_)
  · obtain ⟨_, _, _, rfl, _⟩ := h; rfl
  · obtain ⟨a, b, st, rfl, rb, lb, few, gb, h0, h1, kk⟩ := h
    have nd := sc_steps_from.nd
    refine ⟨_, (pss_cons (ps_set (i := 2) nd rfl (Or.inl rfl) (pe_d1 (pv 1) pe_non))
    (pss_cons (ps_set (i := 3) nd rfl (Or.inl rfl) (pe_lst (pa_cons (pv 1) pa_nil (se rfl))))
    (pss_cons (ps_set (i := 4) nd rfl (Or.inl rfl) pe_int)
    (pss_cons (ps_while PassesOwn.never (pt_cmpR op_lt (pv 4) (pe_callB call_lenL (by rfl) T.z_len PySem.boot_len (pa_cons (pv 3) pa_nil (se rfl)) (he := se rfl) (hpl := na rfl)) (nomark _)) (pss_cons (ps_set (i := 5) nd rfl (Or.inl rfl) (pe_ix ix_listH (pv 3) (pv 4) (fun _ _ => rfl)))
    (pss_cons (ps_for PassesOwn.never rfl (pi_enumerateK (K := K) rfl T.z_enumerate (pa_cons (pe_cal c_goals (hr.mono (by decide)) rfl strictP.pass (pa_cons (pe_ix ix_listH (pv 0) (pv 5) (fun _ _ => rfl)) pa_nil (se rfl)) (he := se rfl) (hpl := na rfl)) pa_nil (se rfl))) (pg_tupK (K := K) (n := 2) rfl (pgs_cons (pg_name (i := 6) nd rfl (Or.inl rfl)) (pgs_cons (pg_name (i := 7) nd rfl (Or.inl rfl)) pgs_nil))) (pss_one (ps_if (pt_cmp (pc_dnotin (hu_of hr) (pv 7) (pv 2))) (pss_cons (ps_dput (hu_of hr) (pv 2) (pv 7) (pe_tupS (pa_cons (pv 5) (pa_cons (pv 6) pa_nil (se rfl)) (se rfl))) rfl)
    (pss_one (ps_expr (pe_bm PySem.F.plainAttrs_list PySem.F.slot_list_append PySem.F.type_list_append mt_append.r (pv 3) (pa_cons (pv 7) pa_nil (se rfl))))))
      pss_nil)))
    (pss_one (ps_set (i := 4) nd rfl (Or.inl rfl) (pe_op op_add (pv 4) pe_int))))))
    (pss_one (ps_ret (pv 2))))))), ?_⟩
    obtain ⟨_, xs, e, ha, rl⟩ := rep_lst.mp rb
    cases e
    have lx := rl.length
    rw [List.length_map] at lx
    simp_all only []
    intro d nd1
    refine ⟨Sum.inl st, rfl, upd_same, by decide, fun f1 nf => ?_⟩
    have hdd : upd (upd H d (.dK [])) d (.dK [(Sum.inl st, V.non)]) = upd H d (.dK [(Sum.inl st, V.non)]) := upd_upd
    rw [hdd] at nf ⊢
    have sd := same_upd (o := .dK [(Sum.inl st, V.non)]) nd1
    have sf := same_upd (o := .lst [V.int st]) nf
    have nfd : f1 ≠ d := fun z => by rw [z, upd_same] at nf; cases nf
    have nfH : H f1 = none := none_of sd nf
    have D0 : DRep (upd (upd H d (.dK [(Sum.inl st, V.non)])) f1 (.lst [V.int st])) d [(st, none, [])] := by
      refine ⟨_, sf _ _ upd_same, rfl, fun i e he => ?_⟩
      match i, he with
      | 0, he => cases he; exact ⟨_, rfl, rfl⟩
    have hf1 : (upd (upd H d (.dK [(Sum.inl st, V.non)])) f1 (.lst [V.int st])) f1 = some (.lst [V.int st]) := upd_same
    have sH := sd.trans sf
    generalize upd (upd H d (.dK [(Sum.inl st, V.non)])) f1 (.lst [V.int st]) = H1 at *
    refine while_at (BfW H b a d f1 st) (m := b.length + 1) ⟨0, [(st, none, [])], _, _, _, rfl, D0, hf1, sH, Bf.inv0 h0 h1, rfl, by omega⟩ ?_ ?_
    · rintro m σ H2 ⟨t, es, z5, z6, z7, rfl, dr, hf, s2, I, eb, lt⟩
      have lk : (Bf.keys es).length = es.length := by unfold Bf.keys; rw [List.length_map]
      have fw := I.toCore.few
      simp_all only []
      refine ⟨_, hf, ?_⟩
      rw [List.length_map, lk]
      by_cases c : t < es.length
      · rw [if_pos (by omega)]
        have et : es[t]? = some es[t] := List.getElem?_eq_getElem c
        generalize es[t] = e at et
        have rg := I.rng e (List.mem_of_getElem? et)
        have ee : ((e.1.toNat : Nat) : Int) = e.1 := Int.toNat_of_nonneg rg.1
        have hb : e.1.toNat < b.length := by omega
        have ebq : b[e.1.toNat]? = some b[e.1.toNat] := List.getElem?_eq_getElem hb
        obtain ⟨v, ev, rv⟩ := rep_br_at rl ebq
        have hq := List.getElem_mem hb
        generalize b[e.1.toNat] = q at *
        have ga : Bf.gAt b e.1 = Lv.gls q := by unfold Bf.gAt; rw [ebq]
        have av : atI xs e.1 = some v := by rw [← ee]; exact atI_nat ev
        have ak : atI (List.map V.int (Bf.keys es)) (t : Int) = some (V.int e.1) := atI_pl (by unfold Bf.keys; rw [List.getElem?_map, et]; rfl)
        simp only [hf, ak, s2 _ _ ha, av, Option.some.injEq, HO.lst.injEq, exists_eq_left', V.int.injEq, V.ref.injEq, spGls]
        refine ⟨v, q, rfl, rv.mono s2, few q hq, fun l H3 s3 nl hl => ⟨⟨_, SqL.of hl⟩, ?_⟩⟩
        have dr3 := dr.mono s3
        have hf3 := s3 _ _ hf
        have nld : l ≠ d := fun z => by
          obtain ⟨kvs, hd, _⟩ := dr.ex
          rw [z, hd] at nl; cases nl
        have nlf : l ≠ f1 := fun z => by rw [z, hf] at nl; cases nl
        refine for_src (src_enum (Ok := fun H' => H' l = some (.lst (List.map V.int (Lv.gls q)))) (fun H' e => SqL.of e)) (BfI H a d f1 l st t e (Lv.gls q) es) ⟨⟨_, _, rfl⟩, dr3, hf3, hl, s2.trans s3⟩ (fun _ _ _ _ h => h.hl) ?_ ?_
        · rintro i x σ H4 H5 hi ⟨⟨z6, z7, rfl⟩, dr4, hf4, hl4, s4⟩ ⟨p, y, np, rfl, ey, rfl⟩
          rw [List.length_map] at hi
          rw [List.getElem?_map] at ey
          obtain ⟨g, eg, rfl⟩ := Option.map_eq_some_iff.mp ey
          have s5 := same_upd (o := .tup [.int i, .int g]) np
          refine ⟨p, _, rfl, SqT.of upd_same, rfl, ?_⟩
          have dr5 := dr4.mono s5
          have hf5 := s5 _ _ hf4
          have hl5 := s5 _ _ hl4
          have s45 := s4.trans s5
          generalize upd H4 p (.tup [.int i, .int g]) = H5 at *
          have M := Bf.addG_mid gb ((Lv.gls q).take i) 0 es (Bf.mid_of I et) fun j x hx => by
            rw [Nat.zero_add, ga]
            have hj := (List.getElem?_eq_some_iff.mp hx).1
            rw [List.length_take] at hj
            rwa [List.getElem?_take_of_lt (by omega)] at hx
          have tk : (Lv.gls q).take (i + 1) = (Lv.gls q).take i ++ [g] := by rw [List.take_add_one, eg]; rfl
          have lti : ((Lv.gls q).take i).length = i := by rw [List.length_take]; omega
          have nx := addG_snoc (here := e.1) (path := e.2.2) ((Lv.gls q).take i) 0 es g
          rw [← tk, lti, Nat.zero_add] at nx
          have few4 := M.toCore.few
          generalize Bf.addG e.1 e.2.2 0 ((Lv.gls q).take i) es = ei at *
          obtain ⟨o, go, ho⟩ := dr5.has M.nd g
          simp_all only []
          refine ⟨o, go, ?_⟩
          rw [ho]
          by_cases cg : g ∈ Bf.keys ei
          · rw [if_neg (by simpa using cg)]
            rw [if_pos cg] at nx
            exact ⟨⟨_, _, rfl⟩, by rw [nx]; exact dr5, by rw [nx]; exact hf5, hl5, s45⟩
          · rw [if_pos (by simpa using cg)]
            rw [if_neg cg] at nx
            refine ⟨by decide, fun p6 H6 s6 np6 e6 => ?_⟩
            obtain ⟨o7, pt, dr7⟩ := (dr5.mono s6).put (par := some (e.1, i)) (path := e.2.2 ++ [i]) cg ⟨p6, rfl, e6⟩ (by rw [sizeLine_eq]; omega)
            have hf6 := s6 _ _ hf5
            have hl6 := s6 _ _ hl5
            have hf7 : upd H6 d o7 f1 = some (.lst (List.map V.int (Bf.keys ei))) := by rw [upd_ne nfd]; exact hf6
            have lke : (Bf.keys ei).length = ei.length := by unfold Bf.keys; rw [List.length_map]
            refine ⟨_, pt, .inl ⟨rfl, _, SqL.of hf7⟩, f1, _, _, rfl, rfl, hf7, by rw [List.length_map, sizeLine_eq]; omega, ?_⟩
            have sF : Same H (upd (upd H6 d o7) f1 (.lst (List.map V.int (Bf.keys ei) ++ [V.int g]))) := same_upd_of (same_upd_of (s45.trans s6) nd1) nfH
            refine ⟨⟨_, _, rfl⟩, ?_, ?_, ?_, sF⟩
            · rw [nx]
              obtain ⟨kvs, k1, k2, k3⟩ := dr7.ex
              refine ⟨kvs, by rw [upd_ne (Ne.symm nfd)]; exact k1, k2, fun j x hx => ?_⟩
              obtain ⟨v, v1, v2⟩ := k3 j x hx
              exact ⟨v, v1, v2.upd fun ys z => by rw [hf7] at z; cases z⟩
            · rw [nx, upd_same]
              unfold Bf.keys
              rw [List.map_append, List.map_append]
              rfl
            · rw [upd_ne nlf, upd_ne nld]
              exact hl6
        · rintro σ H4 ⟨⟨z6, z7, rfl⟩, dr4, hf4, hl4, s4⟩
          rw [List.length_map, List.take_of_length_le (Nat.le_refl _), ← ga] at dr4 hf4
          simp_all only []
          cases m with
          | zero => omega
          | succ m =>
            refine ⟨m, Nat.lt_succ_self _, ⟨t + 1, _, _, _, _, rfl, dr4, hf4, s4, Bf.turn gb I et, ?_, by omega⟩⟩
            rw [← eb]
            show _ = (match es[t]? with | none => es | some e => Bf.bfs b m (t + 1) (Bf.addG e.1 e.2.2 0 (Bf.gAt b e.1) es))
            rw [et]
      · rw [if_neg (by omega)]
        have : Bf.bfs b m t es = es := by
          cases m with
          | zero => rfl
          | succ m =>
            show (match es[t]? with | none => es | some e => Bf.bfs b m (t + 1) (Bf.addG e.1 e.2.2 0 (Bf.gAt b e.1) es)) = es
            rw [List.getElem?_eq_none (by omega)]
        rw [this] at eb
        subst eb
        exact kk _ _ s2 nd1 dr
    · intro σ H1 Q1 Q2 hq hc
      simp only [L2.start, Pr, tRev, tLR, tMaxD, tSortR, tD1, tDPop1, tSl, tNoPart, tPart, rSlL, tDIn, tDNotIn, gSub, rSetL, tLst, tDNewK, tComp, L2.stC, tFor_eq, iList, iTup, iRng1, iRng2, iZip, iEnum, iDict, iStr, tChain, tSumV, tBM, rJoin, tJoined, jNil, jLit, jInt, jStr, tRaise, tDGet, tDGet2, tDGet1, sDPut, Option.join_some, List.getElem?_nil,  tSeq, tRet, tRetN, tIfS, tTest, tB, tOp, tUn, tVar, tC, tCB, tCons, tNil, tCall, tTupS, tAsg, gName, gNil, gCons, tPar, tNext, tDrop, tAnd, tOr, tNot, tAndV, tOrV, tNotV, tIf, rI, rI0, rU, rIxTH, rIxLH, rEqT, rNeT, rInT, rEq, rNe, scal, CPow, at0, at1, at2, List.map_cons, List.map_nil, List.length_cons, List.length_nil, Nat.reduceSub, Nat.reduceAdd, Nat.zero_add, List.replicate_zero, List.reduceReplicate, List.append_nil, List.nil_append, List.cons_append, List.getElem?_cons_zero, List.getElem?_cons_succ, List.set_cons_zero, List.set_cons_succ, Option.some.injEq, exists_eq_left', exists_eq_left, V.ref.injEq, V.int.injEq, V.bl.injEq, V.str.injEq, V.ty.injEq, HO.tup.injEq, HO.lst.injEq, List.cons.injEq, and_true, true_and, and_assoc, exists_and_left, decide_eq_true_eq, Bool.not_eq_true', decide_eq_false_iff_not, ite_true, ite_false, if_true, if_false, Int.reduceToNat, eq_self_iff_true] at hc ⊢
      obtain ⟨v, e1, v1, e2, p, e3, x, e4, i, e5, q⟩ := hc
      exact ⟨v, e1, v1, e2, p, e3, x, e4, i, e5, hq _ _ q⟩
theorem fm_ints (p : Int → Bool) : ∀ l : List Int, l.filterMap (fun o => if p o = true then some o else none) = l.filter p
  | [] => rfl
  | x :: l => by
    rw [List.filterMap_cons, List.filter_cons, fm_ints p l]
    by_cases c : p x = true
    · simp [c]
    · simp [c]
noncomputable def hdAt (H : Hp) (x : Addr) : Int := match H x with
  | some (.lst (.int j :: _)) => j
  | _ => 0
noncomputable def spPrt (tp : Addr) : Sp := fun vs H Q _ => ∃ a b, vs = [.ref a] ∧ Rep H (brD b) (.ref a) ∧ b.length ≤ 63 ∧ (∀ q ∈ b, (Lv.gls q).length ≤ 100) ∧ Lv.Good b ∧ H tp = some (.tbl dsc) ∧
  ∀ l ps as H', Pr.Told b ps → Same H H' → H l = none → H' l = some (.lst (List.map V.ref as)) → Al (fun p v => ∃ x, v = .ref x ∧ H' x = some (.lst (List.map V.int (Pr.prt b p))) ∧ H x = none) ps (as.map V.ref) → Q (.ref l) H'
theorem sc_parts : FnScope ["board", "reach", "found", "place", "part"] ["board"] (defScope (top 4)) := ⟨rfl, rfl, rfl, by decide +kernel, rfl, by decide +kernel, by decide +kernel⟩
theorem ok_prt (T : Txt K mg tc) (LB : LamB base mg tc tp) : Cal P w K mg base (CX1 P w) 3 "parts" ["board"] (spPrt tp) := by
  have c_steps_from : Cal P w K mg base (CX1 P w) 2 "steps_from" ["board", "start"] spStp := ok_stp T
  refine T.d_parts.calL T.l_parts (fun _ _ _ _ _ _ us hl => match us, hl with | [_], _ => rfl) fun f fd F hc => F.okL hc sc_parts (fun vs H Q E h => ?_) (fun A outer s H vs Q E hr h => ?_)
  · obtain ⟨_, _, rfl, _⟩ := h; rfl
  · obtain ⟨a, b, rfl, rb, lb, few, gb, htp, kk⟩ := h
    have nd := sc_parts.nd
    refine ⟨_, (pss_cons (ps_set (i := 1) nd rfl (Or.inr rfl) (pe_comp rfl (N := ["board", "reach", "found", "place", "part"]) (so := defScope (top 4)) (N' := ["start", "board"]) (k := 1) (fr := [0]) rfl rfl ⟨rfl, by decide +kernel, by decide +kernel, by decide +kernel, rfl, by decide +kernel, by decide +kernel⟩ (pi_range1 rfl T.z_range (pa_cons (pe_callB call_lenL (by rfl) T.z_len PySem.boot_len (pa_cons (pv 0) pa_nil (se rfl)) (he := se rfl) (hpl := na rfl)) pa_nil (se rfl))) (fun _ _ _ _ _ => (pg_name (i := 0) (show (["start", "board"] : List Str).Nodup by decide +kernel) rfl (Or.inl rfl))) (fun _ _ _ _ _ => pts_nil)
      (fun _ _ _ _ _ => (pe_cal c_steps_from (hr.mono (by decide)) rfl strictP.pass (pa_cons (pv 1) (pa_cons (pv 0) pa_nil (se rfl)) (se rfl)) (he := se rfl) (hpl := na rfl)))))
    (pss_cons (ps_set (i := 2) nd rfl (Or.inl rfl) (pe_lst pa_nil))
    (pss_cons (ps_for PassesOwn.never rfl (pi_range1 rfl T.z_range (pa_cons (pe_callB call_lenL (by rfl) T.z_len PySem.boot_len (pa_cons (pv 0) pa_nil (se rfl)) (he := se rfl) (hpl := na rfl)) pa_nil (se rfl))) (pg_name (i := 3) nd rfl (Or.inr rfl)) (pss_cons (ps_setC (i := 4) rfl nd rfl rfl (N := ["board", "reach", "found", "place", "part"]) (so := defScope (top 4)) (N' := ["other", "reach", "place"]) (k := 1) (fr := [1, 3]) rfl rfl ⟨rfl, by decide +kernel, by decide +kernel, by decide +kernel, rfl, by decide +kernel, by decide +kernel⟩ (pi_listK (K := K) (pe_callB call_sorted_dNK (by rfl) T.z_sorted rfl (pa_cons (pe_ix ix_listH (pv 1) (pv 3) (fun _ _ => rfl)) pa_nil (se rfl)) (he := se rfl) (hpl := na rfl))) (fun _ _ _ _ _ => (pg_name (i := 0) (show (["other", "reach", "place"] : List Str).Nodup by decide +kernel) rfl (Or.inl rfl))) (fun _ _ _ _ _ => (pts_one (pt_cmp (pc_din (hu_of hr) (pv 2) (pe_ix ix_listH (pv 1) (pv 0) (fun _ _ => rfl))))))
      (fun _ _ _ _ _ => (pv 0)))
    (pss_one (ps_if (pt_cmpR op_eq (pe_ix ix_listH (pv 4) pe_int (fun _ _ => rfl)) (pv 3) (nomark _)) (pss_one (ps_expr (pe_bm PySem.F.plainAttrs_list PySem.F.slot_list_append PySem.F.type_list_append mt_append.r (pv 2) (pa_cons (pv 4) pa_nil (se rfl)))))
      pss_nil))))
    (pss_one (ps_ret (pe_sortL (i := 1) (dsc := dsc) (t0 := 0) rfl T.z_sorted T.z_len LB rfl hr rfl (pv 2))))))), ?_⟩
    have sl := sizeLine_eq
    obtain ⟨_, xs, e, ha, rl⟩ := rep_lst.mp rb
    cases e
    have lx := rl.length
    rw [List.length_map] at lx
    change tSeq _ _ _ [some (.ref a), none, none, none, none] H
    refine seq_gen (fun σ' H1 => Same H H1 ∧ ∃ r ys, H1 r = some (.lst ys) ∧ ys.length = b.length ∧ (∀ (i : Nat) y, ys[i]? = some y → ∃ d, y = .ref d ∧ DRep H1 d (Bf.steps b (i : Int))) ∧ σ' = [some (.ref a), some (.ref r), none, none, none]) ?_ (fun N hN => ?_)
    case refine_2 =>
      simp_all only [spStp]
      refine ⟨_, ha, by omega, by omega, ?_⟩
      refine comp_map src_range (fun _ _ _ _ h => by rw [h.1]; exact Same.refl _) (by omega) (fun i y H4 => ∃ d, y = .ref d ∧ DRep H4 d (Bf.steps b (i : Int))) (fun i y H4 H5 s5 ⟨d, e, h⟩ => ⟨d, e, h.mono s5⟩) ?_ ?_
      · rintro i x w0 H4 H5 Q2 hi s4 ⟨rfl, rfl⟩ kq
        simp_all only [spStp, Int.zero_add]
        exact ⟨b, rb.mono s4, by omega, few, gb, by omega, by omega, fun d H6 s6 n6 dr => kq _ _ s6 ⟨d, rfl, dr⟩⟩
      · intro ys H5 s5 ly hy D n1 n2
        refine hN _ _ ⟨s5.trans (same_upd n2), D, ys, upd_same, by omega, fun i y e => ?_, rfl⟩
        obtain ⟨d, e1, h1⟩ := hy i y e
        exact ⟨d, e1, h1.mono (same_upd n2)⟩
    rintro _ H1 ⟨s1, r, ys, hr1, ly, hy, rfl⟩
    change tSeq _ _ _ [some (.ref a), some (.ref r), none, none, none] H1
    refine seq_gen (fun σ' H2 => ∃ fa, H1 fa = none ∧ Same H1 H2 ∧ H2 fa = some (.lst []) ∧ σ' = [some (.ref a), some (.ref r), some (.ref fa), none, none]) ?_ (fun N hN => ?_)
    case refine_2 =>
      simp_all only []
      exact ⟨Nat.zero_le _, fun fa nf => hN _ _ ⟨fa, nf, same_upd nf, upd_same, rfl⟩⟩
    rintro _ H2 ⟨fa, nf, s2, hf2, rfl⟩
    have hyat : ∀ i : Nat, i < b.length → ∃ d kvs, ys[i]? = some (.ref d) ∧ DRep H1 d (Bf.steps b (i : Int)) ∧ H1 d = some (.dK kvs) ∧ keysI kvs = Pr.kb b (i : Int) ∧ (∀ p ∈ kvs, ∃ k, p.1 = Sum.inl k) ∧ kvs.length = (Pr.kb b (i : Int)).length := fun i hi => by
      obtain ⟨d, e, dr⟩ := hy i _ (List.getElem?_eq_getElem (by omega))
      obtain ⟨kvs, hd, hk, _⟩ := dr.ex
      refine ⟨d, kvs, by rw [List.getElem?_eq_getElem (by omega), e], dr, hd, ?_, fun p hp => ?_, ?_⟩
      · have : keysI kvs = (kvs.map (·.1)).map (fun k : Key => match k with | .inl i => i | .inr _ => (0 : Int)) := by
          unfold keysI
          rw [List.map_map]
          rfl
        rw [this, hk, List.map_map]
        unfold Pr.kb
        simp [Function.comp_def]
      · have : p.1 ∈ (Bf.keys (Bf.steps b (i : Int))).map Sum.inl := by rw [← hk]; exact List.mem_map.mpr ⟨p, hp, rfl⟩
        obtain ⟨k, _, e⟩ := List.mem_map.mp this
        exact ⟨k, e.symm⟩
      · have := congrArg List.length hk
        rw [List.length_map, List.length_map] at this
        exact this
    change tSeq _ _ _ [some (.ref a), some (.ref r), some (.ref fa), none, none] H2
    refine seq_gen (fun σ' H3 => Same H1 H3 ∧ ∃ as, H3 fa = some (.lst (List.map V.ref as)) ∧ Al (fun p v => ∃ x, v = .ref x ∧ H3 x = some (.lst (List.map V.int (Pr.prt b p))) ∧ H1 x = none) (Pr.hds b b.length) (as.map V.ref) ∧ ∃ z3 z4, σ' = [some (.ref a), some (.ref r), some (.ref fa), z3, z4]) ?_ (fun N hN => ?_)
    case refine_2 =>
      simp_all only []
      refine ⟨_, s2 _ _ (s1 _ _ ha), by omega, by omega, ?_⟩
      refine for_src (src_range (Ok := fun _ => True)) (fun i σ H3 => Same H1 H3 ∧ ∃ as, H3 fa = some (.lst (List.map V.ref as)) ∧ Al (fun p v => ∃ x, v = .ref x ∧ H3 x = some (.lst (List.map V.int (Pr.prt b p))) ∧ H1 x = none ∧ x ≠ fa) (Pr.hds b i) (as.map V.ref) ∧ ∃ z3 z4, σ = [some (.ref a), some (.ref r), some (.ref fa), z3, z4]) ⟨s2, [], hf2, trivial, _, _, rfl⟩ (fun _ _ _ _ _ => trivial) ?_ ?_
      · rintro i x σ H3 H4 hi ⟨s3, as, hf3, al, z3, z4, rfl⟩ ⟨rfl, rfl⟩
        simp_all only [Int.zero_add]
        have hib : i < b.length := by omega
        have inb : Pr.In b (i : Int) := ⟨by omega, by omega⟩
        obtain ⟨d, kvs, ed, dr, hd, ek, ka, kl⟩ := hyat i hib
        have kbl := Pr.kb_len gb inb
        refine ⟨ys, s3 _ _ hr1, .ref d, atI_nat ed, d, rfl, kvs, .inl (s3 _ _ hd), ka, by rw [ek]; exact Pr.kb_nd gb inb, by omega, fun l nl => ?_⟩
        rw [ek]
        have sL := same_upd (o := .lst (List.map V.int (Nm.srt (Pr.kb b (i : Int))))) nl
        have hl5 : (upd H4 l (.lst (List.map V.int (Nm.srt (Pr.kb b (i : Int)))))) l = some (.lst (List.map V.int (Nm.srt (Pr.kb b (i : Int))))) := upd_same
        generalize upd H4 l (.lst (List.map V.int (Nm.srt (Pr.kb b (i : Int))))) = H5 at *
        refine ⟨⟨_, SqL.of hl5⟩, ?_⟩
        have S : Src (Itl K l) (Same H5) (Nm.srt (Pr.kb b (i : Int))).length (fun j x H H3 => H3 = H ∧ (List.map V.int (Nm.srt (Pr.kb b (i : Int))))[j]? = some x) := by
          have := src_list (K := K) (a := l) (xs := List.map V.int (Nm.srt (Pr.kb b (i : Int)))) (Ok := Same H5) (fun H' s' => SqL.of (s' _ _ hl5))
          rw [List.length_map] at this
          exact this
        refine comp_ints (Nm.srt (Pr.kb b (i : Int))) (fun o => if decide ((i : Int) ∈ Pr.kb b o) = true then some o else none) S (fun _ _ _ _ h => h.1) (by rw [Nm.srt_length]; omega) ?_ ?_
        · rintro j o x eo ⟨_, ex⟩ Y N1 y1 n1
          rw [List.getElem?_map, eo] at ex
          cases ex
          have ho := Nm.srt_mem.mp (List.mem_of_getElem? eo)
          obtain ⟨io0, io1⟩ := Pr.kb_in gb inb ho
          obtain ⟨o, rfl⟩ := Int.eq_ofNat_of_zero_le io0
          obtain ⟨d2, kvs2, ed2, dr2, hd2, ek2, ka2, kl2⟩ := hyat o (by omega)
          obtain ⟨oo, g1, g2⟩ := (dr2.mono (s3.trans sL)).has (Pr.kb_nd gb ⟨io0, io1⟩) (i : Int)
          simp_all only [s3.trans sL _ _ hr1, show atI ys (o : Int) = some (.ref d2) from atI_nat ed2]
          refine ⟨oo, g1, ?_⟩
          rw [g2]
          exact ite2 (fun c => y1 _ (if_pos c)) (fun c => n1 (if_neg c))
        · intro D n1 n2
          rw [fm_ints]
          have ep : (Nm.srt (Pr.kb b (i : Int))).filter (fun o => decide ((i : Int) ∈ Pr.kb b o)) = Pr.prt b (i : Int) := rfl
          rw [ep]
          have ne := Pr.prt_ne gb inb
          have sD := same_upd (o := .lst (List.map V.int (Pr.prt b (i : Int)))) n2
          have hD : (upd H5 D (.lst (List.map V.int (Pr.prt b (i : Int))))) D = some (.lst (List.map V.int (Pr.prt b (i : Int)))) := upd_same
          generalize upd H5 D (.lst (List.map V.int (Pr.prt b (i : Int)))) = H6 at *
          have s36 : Same H1 H6 := s3.trans (sL.trans sD)
          have hf6 : H6 fa = some (.lst (List.map V.ref as)) := sD _ _ (sL _ _ hf3)
          have nD : H1 D = none := none_of (s3.trans sL) n2
          have Df : D ≠ fa := fun z => by rw [z, sL _ _ hf3] at n2; cases n2
          have al6 : Al (fun p v => ∃ x, v = V.ref x ∧ H6 x = some (.lst (List.map V.int (Pr.prt b p))) ∧ H1 x = none ∧ x ≠ fa) (Pr.hds b i) (as.map V.ref) := al.imp fun p v ⟨x, e, h1, h2, h3⟩ => ⟨x, e, sD _ _ (sL _ _ h1), h2, h3⟩
          have al_len := al.length
          rw [List.length_map] at al_len
          have hl' := Pr.hds_len (b := b) (n := i)
          cases ec : Pr.prt b (i : Int) with
          | nil => exact absurd ec ne
          | cons x0 rest =>
            have erep : Pr.rep b (i : Int) = x0 := by unfold Pr.rep; rw [ec]; rfl
            refine ⟨_, hD, .int x0, by rw [ec, List.map_cons]; exact at0, rfl, ?_⟩
            by_cases c : x0 = (i : Int)
            · rw [if_pos (by rw [c])]
              refine ⟨.inl ⟨rfl, _, SqL.of hf6⟩, fa, List.map V.ref as, .ref D, rfl, rfl, hf6, by rw [List.length_map]; omega, same_upd_of s36 nf, as ++ [D], by rw [upd_same, List.map_append]; rfl, ?_, _, rfl⟩
              rw [Pr.hds_succ, if_pos (by rw [erep, c]), List.map_append]
              exact (al6.imp fun p v ⟨x, e, h1, h2, h3⟩ => ⟨x, e, by rw [upd_ne h3]; exact h1, h2, h3⟩).append (.one ⟨D, rfl, by rw [upd_ne Df]; exact hD, nD, Df⟩)
            · rw [if_neg (by intro z; exact c (by injection z))]
              refine ⟨s36, as, hf6, ?_, _, rfl⟩
              rw [Pr.hds_succ, if_neg (by rw [erep]; exact c)]
              exact al6
      · rintro σ H3 ⟨s3, as, hf3, al, z3, z4, rfl⟩
        rw [Int.toNat_natCast, ← lx] at al
        exact hN _ _ ⟨s3, as, hf3, al.imp fun p v ⟨x, e, h1, h2, _⟩ => ⟨x, e, h1, h2⟩, _, _, rfl⟩
    rintro _ H3 ⟨s3, as, hf3, al, z3, z4, rfl⟩
    simp_all only [tSortL]
    have each : ∀ x ∈ as, ∃ p, p ∈ Pr.hds b b.length ∧ H3 x = some (.lst (List.map V.int (Pr.prt b p))) ∧ H1 x = none ∧ hdAt H3 x = p ∧ Pr.In b p := fun x hx => by
      obtain ⟨i, ei⟩ := List.getElem?_of_mem hx
      obtain ⟨p, ep, x', e, h1, h2⟩ := al.get (show (as.map V.ref)[i]? = some (.ref x) by rw [List.getElem?_map, ei]; rfl)
      cases e
      have mp := List.mem_of_getElem? ep
      obtain ⟨inb, er⟩ := Pr.hds_mem.mp mp
      refine ⟨p, mp, h1, h2, ?_, inb⟩
      unfold hdAt
      rw [h1]
      unfold Pr.rep at er
      cases ec : Pr.prt b p with
      | nil => exact absurd ec (Pr.prt_ne gb inb)
      | cons x0 r0 => rw [ec] at er; exact er
    have emap : as.map (hdAt H3) = Pr.hds b b.length := by
      apply List.ext_getElem?
      intro i
      rw [List.getElem?_map]
      cases ei : as[i]? with
      | none =>
        have l1 := al.length
        rw [List.length_map] at l1
        have l2 := List.getElem?_eq_none_iff.mp ei
        rw [List.getElem?_eq_none (by omega)]
        rfl
      | some x =>
        obtain ⟨p, ep, x', e, h1, h2⟩ := al.get (show (as.map V.ref)[i]? = some (.ref x) by rw [List.getElem?_map, ei]; rfl)
        cases e
        obtain ⟨inb, er⟩ := Pr.hds_mem.mp (List.mem_of_getElem? ep)
        rw [ep]
        show some (hdAt H3 x) = some p
        unfold hdAt
        rw [h1]
        unfold Pr.rep at er
        cases ec : Pr.prt b p with
        | nil => exact absurd ec (Pr.prt_ne gb inb)
        | cons x0 r0 => rw [ec] at er; exact congrArg some er
    have al_len := al.length
    rw [List.length_map] at al_len
    have hl' := Pr.hds_len (b := b) (n := b.length)
    refine ⟨as, hf3, by omega, fun x => ((Pr.kb b (hdAt H3 x)).length : Int), ys, s3 _ _ hr1, s3 _ _ (s1 _ _ htp), fun x hx => ?_, fun p cs H4 s4 np hp pm pw => ?_⟩
    · obtain ⟨p, mp, h1, h2, h3, inb⟩ := each x hx
      obtain ⟨i, rfl⟩ := Int.eq_ofNat_of_zero_le inb.1
      have i1 := inb.2
      obtain ⟨d, kvs, ed, dr, hd, ek, ka, kl⟩ := hyat i (by omega)
      show ∃ j xs, H3 x = some (HO.lst (V.int j :: xs)) ∧ 0 ≤ j ∧ j < 1000000 ∧ ∃ x_1, ys[j.toNat]? = some (V.ref x_1) ∧ ∃ x_2, H3 x_1 = some (HO.dK x_2) ∧ ((Pr.kb b (hdAt H3 x)).length : Int) = ((x_2.length : Nat) : Int)
      rw [h3]
      have er := (Pr.hds_mem.mp mp).2
      unfold Pr.rep at er
      cases ec : Pr.prt b (i : Int) with
      | nil => exact absurd ec (Pr.prt_ne gb inb)
      | cons x0 r0 =>
        rw [ec] at er h1
        have er : x0 = (i : Int) := er
        subst er
        exact ⟨(i : Int), _, h1, by omega, by omega, d, by rw [Int.toNat_natCast]; exact ed, kvs, s3 _ _ hd, by rw [kl]⟩
    · have pm2 : (cs.map (hdAt H3)).Perm (Pr.hds b b.length) := by rw [← emap]; exact pm.map _
      refine kk p (cs.map (hdAt H3)) cs H4 ⟨pm2, ?_⟩ ((s1.trans s3).trans s4) (none_of (s1.trans s3) np) hp ?_
      · rw [List.pairwise_map]
        exact pw.imp fun {x y} (h : ((Pr.kb b (hdAt H3 x)).length : Int) ≤ ((Pr.kb b (hdAt H3 y)).length : Int)) => by omega
      · refine Al.of (by rw [List.length_map, List.length_map]) fun i v q e1 e2 => ?_
        rw [List.getElem?_map] at e1 e2
        obtain ⟨x, ex, rfl⟩ := Option.map_eq_some_iff.mp e1
        rw [ex] at e2
        cases e2
        obtain ⟨q, mq, h1, h2, h3, inb⟩ := each x (pm.mem_iff.mp (List.mem_of_getElem? ex))
        rw [h3]
        exact ⟨x, rfl, s4 _ _ h1, none_of s1 h2⟩
theorem sc__law_rising : FnScope ["_law_some", "_law_place_here"] ["_law_some"] (defScope (top 13)) := ⟨rfl, rfl, rfl, by decide +kernel, rfl, by decide +kernel, by decide +kernel⟩
theorem ok_ris (T : Txt K mg tc) : Cal P w K mg base (CX1 P w) 1 "_law_rising" ["_law_some"] spRis := by
  refine T.d__law_rising.cal (fun _ _ _ _ _ _ us hl => match us, hl with | [_], _ => rfl) fun f fd F => F.okC sc__law_rising (fun vs H Q E h => ?_) (fun cdv A outer s H vs Q E hr h => ?_)
  · obtain ⟨_, _, rfl, _⟩ := h; rfl
  · obtain ⟨a, ns, rfl, ha, pw, ne, lt, kk⟩ := h
    have nd := sc__law_rising.nd
    refine ⟨_, (pss_cons (ps_if (PW.pt (pw_or (pt_not (pt_val (pe_callB (call_isTK (K := K)) (by rfl) T.z_isinstance rfl (pa_cons (pv 0) (pa_cons (pe_bltn (v := V.ty "list") rfl T.z_list rfl rfl) pa_nil (se rfl)) (se rfl)) (he := se rfl) (hpl := na rfl)))) (pw_or1 (pt_cmpR op_eq (pe_callB call_lenL (by rfl) T.z_len PySem.boot_len (pa_cons (pv 0) pa_nil (se rfl)) (he := se rfl) (hpl := na rfl)) pe_int (nomark _))))) (pss_one (ps_ret pe_bl))
      pss_nil)
    (pss_cons (ps_for PassesOwn.never rfl (pi_listK (K := K) (pv 0)) (pg_name (i := 1) nd rfl (Or.inl rfl)) (pss_one (ps_if (PW.pt (pw_or (pt_not (pt_val (pe_callB (call_isTK (K := K)) (by rfl) T.z_isinstance rfl (pa_cons (pv 1) (pa_cons (pe_bltn (v := V.ty "int") rfl T.z_int rfl rfl) pa_nil (se rfl)) (se rfl)) (he := se rfl) (hpl := na rfl)))) (pw_or1 (pt_val (pe_callB (call_isTK (K := K)) (by rfl) T.z_isinstance rfl (pa_cons (pv 1) (pa_cons (pe_bltn (v := V.ty "bool") rfl T.z_bool rfl rfl) pa_nil (se rfl)) (se rfl)) (he := se rfl) (hpl := na rfl)))))) (pss_one (ps_ret pe_bl))
      pss_nil)))
    (pss_one (ps_ret (pe_cmpR (op_eqD hr.units) (pv 0) (pe_callB (call_sorted_stK (P := P) (w := w)) (by rfl) T.z_sorted rfl (pa_cons (pe_callTy (call_setK (K := K) (P := P) (w := w)) (by rfl) T.z_set rfl (pa_cons (pv 0) pa_nil (se rfl)) (he := se rfl) (hpl := na rfl)) pa_nil (se rfl)) (he := se rfl) (hpl := na rfl)) (nomark _)))))), ?_⟩
    have sl := sizeLine_eq
    simp_all only []
    refine ⟨_, TyOf.lst ha, _, kit_ll, ?_⟩
    rw [if_neg (by decide)]
    refine ⟨_, ha, ?_⟩
    have l0 : ns.length ≠ 0 := fun z => ne (List.length_eq_zero_iff.mp z)
    rw [if_neg (by rw [List.length_map]; omega)]
    have ndn : ns.Nodup := pw.imp fun h z => by omega
    have esd : Nm.srt (ded ns) = ns := (Nm.srt_one ((List.perm_ext_iff_of_nodup ndn (ded_nodup ns)).mpr fun x => ded_mem.symm) (pw.imp fun h => Int.le_of_lt h)).symm
    refine ⟨⟨_, SqL.of ha⟩, for_src (src_list (Ok := fun H' => H' = H) (fun H' e => by rw [e]; exact SqL.of ha)) (fun i σ H' => H' = H ∧ ∃ (z : Option V), σ = [some (V.ref a), z]) ⟨rfl, _, rfl⟩ (fun _ _ _ _ h => h.1) ?_ ?_⟩
    · rintro j x σ H1 H2 hj ⟨rfl, z, rfl⟩ ⟨rfl, hx⟩
      rw [List.getElem?_map] at hx
      obtain ⟨n, en, rfl⟩ := Option.map_eq_some_iff.mp hx
      simp_all only []
      refine ⟨_, TyOf.int n, _, kit_ii, ?_⟩
      rw [if_neg (by decide)]
      refine ⟨_, TyOf.int n, _, kit_ib, ?_⟩
      rw [if_neg (by decide)]
      exact ⟨_, rfl⟩
    · rintro σ H1 ⟨rfl, z, rfl⟩
      simp_all only []
      refine ⟨ns, SqL.of ha, by omega, fun l nl => ⟨_, upd_same, fun l2 nl2 => ?_⟩⟩
      rw [esd]
      have s2 := (same_upd (o := stO P w l ns) nl).trans (same_upd (o := .lst (List.map V.int ns)) nl2)
      exact ⟨_, rep_ints (s2 _ _ ha), rep_ints upd_same, ⟨_, rfl⟩, depth_ints _, kk _ s2⟩
theorem sc__law_come : FnScope ["_law_leads", "_law_some", "_law_start", "_law_seen", "_law_row", "_law_here", "_law_goal_here"] ["_law_leads", "_law_some", "_law_start"] (defScope (top 14)) := ⟨rfl, rfl, rfl, by decide +kernel, rfl, by decide +kernel, by decide +kernel⟩
theorem ok_com (T : Txt K mg tc) : Cal P w K mg base (CX1 P w) 1 "_law_come" ["_law_leads", "_law_some", "_law_start"] spCom := by
  refine T.d__law_come.cal (fun _ _ _ _ _ _ us hl => match us, hl with | [_, _, _], _ => rfl) fun f fd F => F.okC sc__law_come (fun vs H Q E h => ?_) (fun cdv A outer s H vs Q E hr h => ?_)
  · obtain ⟨_, _, _, _, _, _, _, rfl, _⟩ := h; rfl
  · obtain ⟨a, sa, st, n, mx, lds, sm, rfl, ld, lmx, hsm, ndm, rng, stm, lsm, con, kk⟩ := h
    have nd := sc__law_come.nd
    refine ⟨_, (pss_cons (ps_set (i := 3) nd rfl (Or.inl rfl) (pe_d1 (pv 2) pe_bl))
    (pss_cons (ps_set (i := 4) nd rfl (Or.inl rfl) (pe_lst (pa_cons (pv 2) pa_nil (se rfl))))
    (pss_cons (ps_while PassesOwn.never (pt_cmpR op_gt (pe_callB call_lenL (by rfl) T.z_len PySem.boot_len (pa_cons (pv 4) pa_nil (se rfl)) (he := se rfl) (hpl := na rfl)) pe_int (nomark _)) (pss_cons (ps_set (i := 5) nd rfl (Or.inl rfl) (pe_bm0 PySem.F.plainAttrs_list PySem.F.slot_list_pop PySem.F.type_list_pop mt_pop.r (pv 4)))
    (pss_one (ps_for PassesOwn.never rfl (pi_listK (K := K) (pe_ix ix_listH (pv 0) (pv 5) (fun _ _ => rfl))) (pg_name (i := 6) nd rfl (Or.inl rfl)) (pss_one (ps_if (PW.pt (pw_and (pt_cmpR (op_in_seqK (K := K)) (pv 6) (pv 1) rfl) (pw_and1 (pt_cmp (pc_dnotin (hu_of hr) (pv 6) (pv 3)))))) (pss_cons (ps_dput (hu_of hr) (pv 3) (pv 6) pe_bl rfl)
    (pss_one (ps_expr (pe_bm PySem.F.plainAttrs_list PySem.F.slot_list_append PySem.F.type_list_append mt_append.r (pv 4) (pa_cons (pv 6) pa_nil (se rfl))))))
      pss_nil))))))
    (pss_one (ps_ret (pe_callB call_lenD (by rfl) T.z_len PySem.boot_len (pa_cons (pv 3) pa_nil (se rfl)) (he := se rfl) (hpl := na rfl))))))), ?_⟩
    have sl := sizeLine_eq
    simp_all only []
    intro d nd1
    refine ⟨Sum.inl st, rfl, upd_same, by omega, fun p np => ?_⟩
    rw [upd_upd] at np ⊢
    obtain ⟨ks, hks, lks, hk⟩ := ld.ex
    have sd := same_upd (o := .dK [(Sum.inl st, V.bl true)]) nd1
    have pd : p ≠ d := fun z => by rw [z, upd_same] at np; cases np
    have np' : H p = none := none_of sd np
    have s0 : Same H (upd (upd H d (.dK [(Sum.inl st, V.bl true)])) p (.lst [V.int st])) := sd.trans (same_upd np)
    refine while_m (fun m σ H' => Same H H' ∧ ∃ sn row z5 z6, Pr.Wk lds sm st sn row ∧ m = 2 * (sm.length - sn.length) + row.length ∧ m ≤ 2 * sm.length ∧ H' d = some (.dK (sn.map fun x => (Sum.inl x, V.bl true))) ∧ H' p = some (.lst (List.map V.int row)) ∧ σ = [some (V.ref a), some (V.ref sa), some (V.int st), some (V.ref d), some (V.ref p), z5, z6])
      (m := 2 * (sm.length - 1) + 1) ⟨s0, [st], [st], _, _, ⟨by simp, fun x hx => by rw [List.mem_singleton.mp hx]; exact stm, List.mem_cons_self, fun x hx => hx, fun x hx hn => absurd hx hn⟩, rfl, by have := List.length_pos_of_mem stm; omega, by rw [upd_ne (Ne.symm pd), upd_same]; rfl, upd_same, rfl⟩ ?_
    rintro m σ H1 ⟨s1, sn, row, z5, z6, W, rfl, mle, hd1, hp1, rfl⟩
    refine ⟨decide (0 < (row.length : Int)), fun Q2 q2 => ?_, ?_⟩
    · simp_all only [hp1]
      rw [List.length_map]
      exact q2
    by_cases c : row.length = 0
    · rw [if_neg (by simp [c])]
      have : row = [] := List.length_eq_zero_iff.mp c
      subst this
      simp_all only []
      refine ⟨_, hd1, ?_⟩
      rw [List.length_map, W.all ndm con]
      exact kk _ s1
    · rw [if_pos (by simp; omega)]
      obtain ⟨row', here, rfl⟩ : ∃ r x, row = r ++ [x] := ⟨row.dropLast, row.getLast (fun z => c (by rw [z]; rfl)), (List.dropLast_concat_getLast _).symm⟩
      have Wp := W.pop
      have hsn := Wp.sub here Wp.hr
      obtain ⟨r0, r1⟩ := rng here hsn
      obtain ⟨hn, rfl⟩ := Int.eq_ofNat_of_zero_le r0
      obtain ⟨k, ek⟩ : ∃ k, ks[hn]? = some k := ⟨_, List.getElem?_eq_getElem (by omega)⟩
      obtain ⟨gs, hgs, mgs, lgs⟩ := hk hn k ek
      simp_all only [tBM0, rPop]
      have s2 : Same H (upd H1 p (.lst (List.map V.int (row' ++ [(hn : Int)])).dropLast)) := same_upd_of s1 np'
      have edl : (List.map V.int (row' ++ [(hn : Int)])).dropLast = List.map V.int row' := by rw [List.map_append]; exact List.dropLast_concat
      refine ⟨.inl ⟨rfl, _, SqL.of hp1⟩, _, hp1, .int (hn : Int), by simp, _, _, rfl, s2 _ _ hks, .ref k, atI_pl ek, k, rfl, ⟨_, SqL.of (s2 _ _ hgs)⟩, ?_⟩
      rw [edl] at s2 ⊢
      have hp2 : (upd H1 p (.lst (List.map V.int row'))) p = some (.lst (List.map V.int row')) := upd_same
      have hd2 : (upd H1 p (.lst (List.map V.int row'))) d = some (.dK (sn.map fun x => (Sum.inl x, V.bl true))) := by rw [upd_ne (Ne.symm pd)]; exact hd1
      generalize upd H1 p (.lst (List.map V.int row')) = H2 at *
      refine for_src (src_list (Ok := Same H) (fun H' s' => SqL.of (s' _ _ hgs))) (fun j σ H3 => Same H H3 ∧ ∃ sn2 row2 z6, Pr.Wm lds sm st (hn : Int) (gs.take j) sn2 row2 ∧ 2 * (sm.length - sn2.length) + row2.length ≤ 2 * (sm.length - sn.length) + row'.length ∧ row2.length ≤ row'.length + j ∧ H3 d = some (.dK (sn2.map fun x => (Sum.inl x, V.bl true))) ∧ H3 p = some (.lst (List.map V.int row2)) ∧ σ = [some (V.ref a), some (V.ref sa), some (V.int st), some (V.ref d), some (V.ref p), some (V.int (hn : Int)), z6])
        ⟨s2, sn, row', _, by rw [List.take_zero]; exact Wp, Nat.le_refl _, Nat.le_refl _, hd2, hp2, rfl⟩ (fun _ _ _ _ h => h.1) ?_ ?_
      · rintro j x σ H3 H4 hj ⟨s3, sn2, row2, z6, Wm, ms, lr, hd3, hp3, rfl⟩ ⟨rfl, ex⟩
        rw [List.getElem?_map] at ex
        obtain ⟨g, eg, rfl⟩ := Option.map_eq_some_iff.mp ex
        have tk : gs.take (j + 1) = gs.take j ++ [g] := by rw [List.take_add_one, eg]; rfl
        simp_all only [rIn]
        refine ⟨_, .inl (SqL.of (s3 _ _ hsm)), rfl, flat_int _, ?_⟩
        simp only [Bool.false_eq_true, if_false, in_int, decide_eq_true_eq]
        by_cases c1 : g ∈ sm
        · rw [if_pos c1]
          refine ⟨_, .inl ⟨_, Sum.inl g, .inl hd3, rfl, rfl⟩, ?_⟩
          rw [seen_val Wm.nd]
          by_cases c2 : g ∈ sn2
          · rw [if_pos c2, if_neg (by simp)]
            exact ⟨s3, sn2, row2, by rw [tk]; exact Wm.skip fun _ => c2, ms, by omega, hd3, hp3, _, rfl⟩
          · rw [if_neg c2, if_pos (by rfl)]
            have W2 := Wm.add c1 c2
            have l2 := Pr.sub_len W2.nd W2.sub
            rw [List.length_append, List.length_singleton] at l2
            have l3 := Pr.sub_len Wm.nd Wm.sub
            have pt := DPut.k (k := Sum.inl g) (v := .bl true) hd3 (by rw [List.length_map]; omega)
            rw [putK_new _ (by rw [seen_val Wm.nd, if_neg c2])] at pt
            have hp4 : (upd H4 d (.dK ((sn2.map fun x => (Sum.inl x, V.bl true)) ++ [(Sum.inl g, V.bl true)]))) p = some (.lst (List.map V.int row2)) := by rw [upd_ne pd]; exact hp3
            have hjl : j < gs.length := by rw [List.length_map] at hj; exact hj
            have lrow : row2.length ≤ 30000 := by
              simp only [List.length_append, List.length_singleton] at mle
              omega
            refine ⟨_, pt, .inl ⟨rfl, _, SqL.of hp4⟩, p, _, .int g, rfl, rfl, hp4, by rw [List.length_map]; omega, same_upd_of (same_upd_of s3 nd1) np', sn2 ++ [g], row2 ++ [g], by rw [tk]; exact W2, ?_, ?_, ?_, ?_, _, rfl⟩
            · simp only [List.length_append, List.length_singleton]
              omega
            · rw [List.length_append, List.length_singleton]
              omega
            · rw [upd_ne (Ne.symm pd), upd_same, List.map_append]
              rfl
            · rw [upd_same, List.map_append]
              rfl
        · rw [if_neg c1]
          exact ⟨s3, sn2, row2, by rw [tk]; exact Wm.skip fun z => absurd z c1, ms, by omega, hd3, hp3, _, rfl⟩
      · rintro σ H3 ⟨s3, sn2, row2, z6, Wm, ms, lr, hd3, hp3, rfl⟩
        rw [List.length_map, List.take_of_length_le (Nat.le_refl _)] at Wm
        exact ⟨_, by rw [List.length_append, List.length_singleton]; omega, s3, sn2, row2, Wm.done fun g hg => (mgs g).mpr hg, rfl, by simp only [List.length_append, List.length_singleton] at mle; omega, hd3, hp3, _, _, rfl⟩
theorem sc__law_told : FnScope ["_law_board_here", "_law_found", "_law_number", "_law_k", "_law_place_here", "_law_ahead", "_law_back", "_law_at", "_law_goal_here", "_law_some"] ["_law_board_here", "_law_found"] (defScope (top 15)) := ⟨rfl, rfl, rfl, by decide +kernel, rfl, by decide +kernel, by decide +kernel⟩
theorem ok_tld (T : Txt K mg tc) : Cal P w K mg base (CX1 P w) 3 "_law_told" ["_law_board_here", "_law_found"] spTld := by
  have c__law_rising : Cal P w K mg base (CX1 P w) 1 "_law_rising" ["_law_some"] spRis := ok_ris T
  have c__law_come : Cal P w K mg base (CX1 P w) 1 "_law_come" ["_law_leads", "_law_some", "_law_start"] spCom := ok_com T
  have c__law_goals : Cal P w K mg base (CX1 P w) 1 "_law_goals" ["_law_place_here"] spLgs := ok_lgs T
  refine T.d__law_told.cal (fun _ _ _ _ _ _ us hl => match us, hl with | [_, _], _ => rfl) fun f fd F => F.okC sc__law_told (fun vs H Q E h => ?_) (fun cdv A outer s H vs Q E hr h => ?_)
  · obtain ⟨_, _, _, _, _, rfl, _⟩ := h; rfl
  · obtain ⟨a, fo, b, ps, as, rfl, rb, gb, td, hfo, al, kk⟩ := h
    have nd := sc__law_told.nd
    refine ⟨_, (pss_cons (ps_if (pt_not (pt_val (pe_callB (call_isTK (K := K)) (by rfl) T.z_isinstance rfl (pa_cons (pv 1) (pa_cons (pe_bltn (v := V.ty "list") rfl T.z_list rfl rfl) pa_nil (se rfl)) (se rfl)) (he := se rfl) (hpl := na rfl)))) (pss_one (ps_ret pe_bl))
      pss_nil)
    (pss_cons (ps_set (i := 2) nd rfl (Or.inl rfl) pe_dnewK)
    (pss_cons (ps_for PassesOwn.never rfl (pi_range1 rfl T.z_range (pa_cons (pe_callB call_lenL (by rfl) T.z_len PySem.boot_len (pa_cons (pv 1) pa_nil (se rfl)) (he := se rfl) (hpl := na rfl)) pa_nil (se rfl))) (pg_name (i := 3) nd rfl (Or.inl rfl)) (pss_cons (ps_if (pt_not (pt_val (pe_cal c__law_rising (hr.mono (by decide)) rfl strictP.pass (pa_cons (pe_ix ix_listH (pv 1) (pv 3) (fun _ _ => rfl)) pa_nil (se rfl)) (he := se rfl) (hpl := na rfl)))) (pss_one (ps_ret pe_bl))
      pss_nil)
    (pss_one (ps_for PassesOwn.never rfl (pi_listK (K := K) (pe_ix ix_listH (pv 1) (pv 3) (fun _ _ => rfl))) (pg_name (i := 4) nd rfl (Or.inl rfl)) (pss_cons (ps_if (PW.pt (pw_or (pt_cmp (pc_din (hu_of hr) (pv 4) (pv 2))) (pw_or (pt_cmpR op_lt (pv 4) pe_int (nomark _)) (pw_or1 (pt_cmpR op_ge (pv 4) (pe_callB call_lenL (by rfl) T.z_len PySem.boot_len (pa_cons (pv 0) pa_nil (se rfl)) (he := se rfl) (hpl := na rfl)) (nomark _)))))) (pss_one (ps_ret pe_bl))
      pss_nil)
    (pss_one (ps_dput (hu_of hr) (pv 2) (pv 4) (pv 3) rfl)))))))
    (pss_cons (ps_if (pt_cmpR op_ne (pe_callB call_lenD (by rfl) T.z_len PySem.boot_len (pa_cons (pv 2) pa_nil (se rfl)) (he := se rfl) (hpl := na rfl)) (pe_callB call_lenL (by rfl) T.z_len PySem.boot_len (pa_cons (pv 0) pa_nil (se rfl)) (he := se rfl) (hpl := na rfl)) (nomark _)) (pss_one (ps_ret pe_bl))
      pss_nil)
    (pss_cons (ps_setC (i := 5) rfl nd rfl rfl (N := ["_law_board_here", "_law_found", "_law_number", "_law_k", "_law_place_here", "_law_ahead", "_law_back", "_law_at", "_law_goal_here", "_law_some"]) (so := defScope (top 15)) (N' := ["_law_place_here"]) (k := 1) (fr := []) rfl rfl ⟨rfl, by decide +kernel, by decide +kernel, by decide +kernel, rfl, by decide +kernel, by decide +kernel⟩ (pi_listK (K := K) (pv 0)) (fun _ _ _ _ _ => (pg_name (i := 0) (show (["_law_place_here"] : List Str).Nodup by decide +kernel) rfl (Or.inl rfl))) (fun _ _ _ _ _ => pts_nil)
      (fun _ _ _ _ _ => (pe_cal c__law_goals (hr.mono (by decide)) rfl strictP.pass (pa_cons (pv 0) pa_nil (se rfl)) (he := se rfl) (hpl := na rfl))))
    (pss_cons (ps_setC (i := 6) rfl nd rfl rfl (N := ["_law_board_here", "_law_found", "_law_number", "_law_k", "_law_place_here", "_law_ahead", "_law_back", "_law_at", "_law_goal_here", "_law_some"]) (so := defScope (top 15)) (N' := ["_law_place_here"]) (k := 1) (fr := []) rfl rfl ⟨rfl, by decide +kernel, by decide +kernel, by decide +kernel, rfl, by decide +kernel, by decide +kernel⟩ (pi_listK (K := K) (pv 0)) (fun _ _ _ _ _ => (pg_name (i := 0) (show (["_law_place_here"] : List Str).Nodup by decide +kernel) rfl (Or.inl rfl))) (fun _ _ _ _ _ => pts_nil)
      (fun _ _ _ _ _ => (pe_lst pa_nil)))
    (pss_cons (ps_for PassesOwn.never rfl (pi_range1 rfl T.z_range (pa_cons (pe_callB call_lenL (by rfl) T.z_len PySem.boot_len (pa_cons (pv 0) pa_nil (se rfl)) (he := se rfl) (hpl := na rfl)) pa_nil (se rfl))) (pg_name (i := 7) nd rfl (Or.inl rfl)) (pss_one (ps_for PassesOwn.never rfl (pi_listK (K := K) (pe_ix ix_listH (pv 5) (pv 7) (fun _ _ => rfl))) (pg_name (i := 8) nd rfl (Or.inl rfl)) (pss_cons (ps_expr (pe_bm PySem.F.plainAttrs_list PySem.F.slot_list_append PySem.F.type_list_append mt_append.r (pe_ix ix_listH (pv 6) (pv 8) (fun _ _ => rfl)) (pa_cons (pv 7) pa_nil (se rfl))))
    (pss_one (ps_if (pt_cmpR op_gt (pe_dget (hu_of hr) (pv 2) (pv 8) (fun _ _ => rfl)) (pe_dget (hu_of hr) (pv 2) (pv 7) (fun _ _ => rfl)) (nomark _)) (pss_one (ps_ret pe_bl))
      pss_nil))))))
    (pss_cons (ps_for PassesOwn.never rfl (pi_listK (K := K) (pv 1)) (pg_name (i := 9) nd rfl (Or.inl rfl)) (pss_one (ps_if (PW.pt (pw_or (pt_cmpR op_ne (pe_cal c__law_come (hr.mono (by decide)) rfl strictP.pass (pa_cons (pv 5) (pa_cons (pv 9) (pa_cons (pe_ix ix_listH (pv 9) pe_int (fun _ _ => rfl)) pa_nil (se rfl)) (se rfl)) (se rfl)) (he := se rfl) (hpl := na rfl)) (pe_callB call_lenL (by rfl) T.z_len PySem.boot_len (pa_cons (pv 9) pa_nil (se rfl)) (he := se rfl) (hpl := na rfl)) (nomark _)) (pw_or1 (pt_cmpR op_ne (pe_cal c__law_come (hr.mono (by decide)) rfl strictP.pass (pa_cons (pv 6) (pa_cons (pv 9) (pa_cons (pe_ix ix_listH (pv 9) pe_int (fun _ _ => rfl)) pa_nil (se rfl)) (se rfl)) (se rfl)) (he := se rfl) (hpl := na rfl)) (pe_callB call_lenL (by rfl) T.z_len PySem.boot_len (pa_cons (pv 9) pa_nil (se rfl)) (he := se rfl) (hpl := na rfl)) (nomark _))))) (pss_one (ps_ret pe_bl))
      pss_nil)))
    (pss_one (ps_ret pe_bl)))))))))), ?_⟩
    have sl := sizeLine_eq
    have G := gb.good
    have bl := gb.2.1
    have b0 := gb.1
    obtain ⟨_, xs, e, ha, rl⟩ := rep_lst.mp rb
    cases e
    have lx := rl.length
    rw [List.length_map] at lx
    have al_len := al.length
    rw [List.length_map] at al_len
    have pl := td.pm.length_eq
    have hl' := Pr.hds_len (b := b) (n := b.length)
    have nlen : (Pr.numK b ps 0).length = b.length := by
      have := congrArg List.length (td.num_keys G)
      rw [Nm.srt_length, List.length_map, List.length_map, List.length_range] at this
      exact this
    have prl : ∀ p ∈ ps, (Pr.prt b p).length ≤ 40 := fun p hp => by
      have l1 := List.length_filter_le (fun o => decide (p ∈ Pr.kb b o)) (Nm.srt (Pr.kb b p))
      have l2 := Pr.kb_len G (td.inB hp)
      rw [Nm.srt_length] at l1
      unfold Pr.prt
      omega
    change tSeq _ _ _ [some (.ref a), some (.ref fo), none, none, none, none, none, none, none, none] H
    refine seq_gen (fun σ' H1 => H = H1 ∧ σ' = [some (.ref a), some (.ref fo), none, none, none, none, none, none, none, none]) ?_ (fun N hN => ?_)
    case refine_2 =>
      simp_all only []
      refine ⟨_, TyOf.lst hfo, _, kit_ll, ?_⟩
      rw [if_neg (by decide)]
      exact hN _ _ ⟨rfl, rfl⟩
    rintro _ _ ⟨rfl, rfl⟩
    change tSeq _ _ _ [some (.ref a), some (.ref fo), none, none, none, none, none, none, none, none] H
    refine seq_gen (fun σ' H1 => ∃ nu, Same H H1 ∧ H nu = none ∧ H1 nu = some (.dK []) ∧ σ' = [some (.ref a), some (.ref fo), some (.ref nu), none, none, none, none, none, none, none]) ?_ (fun N hN => ?_)
    case refine_2 =>
      simp_all only []
      exact fun nu nn => hN _ _ ⟨nu, same_upd nn, nn, upd_same, rfl⟩
    rintro _ H1 ⟨nu, s1, nn, hnu, rfl⟩
    change tSeq _ _ _ [some (.ref a), some (.ref fo), some (.ref nu), none, none, none, none, none, none, none] H1
    refine seq_gen (fun σ' H2 => Same H H2 ∧ H2 nu = some (.dK (numD (Pr.numK b ps 0))) ∧ ∃ z3 z4, σ' = [some (.ref a), some (.ref fo), some (.ref nu), z3, z4, none, none, none, none, none]) ?_ (fun N hN => ?_)
    case refine_2 =>
      simp_all only []
      refine ⟨_, s1 _ _ hfo, by rw [List.length_map]; omega, by rw [List.length_map]; omega, ?_⟩
      refine for_src (src_range (Ok := fun _ => True)) (fun i σ H5 => Same H H5 ∧ H5 nu = some (.dK (numD ((Pr.numK b ps 0).take (Pr.off b ps i)))) ∧ ∃ z3 z4, σ = [some (.ref a), some (.ref fo), some (.ref nu), z3, z4, none, none, none, none, none]) ⟨s1, by unfold Pr.off; rw [List.take_zero]; exact hnu, _, _, rfl⟩ (fun _ _ _ _ _ => trivial) ?_ ?_
      · rintro i x σ H5 H6 hi ⟨s5, hn5, z6, z7, rfl⟩ ⟨rfl, rfl⟩
        rw [List.length_map] at hi
        obtain ⟨q, eq⟩ : ∃ q, ps[i]? = some q := ⟨_, List.getElem?_eq_getElem (by omega)⟩
        have mq := List.mem_of_getElem? eq
        have inq := td.inB mq
        obtain ⟨v, ev, xa, rfl, hxa⟩ := al.at eq
        have av : atI (List.map V.ref as) (i : Int) = some (.ref xa) := atI_nat ev
        simp only [gName, List.set_cons_zero, List.set_cons_succ, Int.zero_add]
        change tSeq _ _ _ [some (.ref a), some (.ref fo), some (.ref nu), some (.int (i : Int)), z7, none, none, none, none, none] H6
        refine seq_gen (fun σ' H7 => Same H6 H7 ∧ H7 nu = H6 nu ∧ σ' = [some (.ref a), some (.ref fo), some (.ref nu), some (.int (i : Int)), z7, none, none, none, none, none]) ?_ (fun N hN => ?_)
        case refine_2 =>
          simp_all only [spRis, s5 _ _ hfo, av]
          refine ⟨_, s5 _ _ hxa, Pr.prt_lt G inq, Pr.prt_ne G inq, by have := prl q mq; omega, fun H7 s7 => ?_⟩
          rw [if_neg (by decide)]
          exact hN _ _ ⟨s7, by rw [hn5]; exact s7 _ _ hn5, rfl⟩
        rintro _ H7 ⟨s7, en7, rfl⟩
        rw [hn5] at en7
        have s57 := s5.trans s7
        simp_all only [s57 _ _ hfo, av]
        refine ⟨⟨_, SqL.of (s57 _ _ hxa)⟩, ?_⟩
        refine for_src (src_list (Ok := Same H) (fun H' s' => SqL.of (s' _ _ hxa))) (fun j σ H7 => Same H H7 ∧ H7 nu = some (.dK (numD ((Pr.numK b ps 0).take (Pr.off b ps i + j)))) ∧ ∃ z7, σ = [some (.ref a), some (.ref fo), some (.ref nu), some (.int (i : Int)), z7, none, none, none, none, none]) ⟨s57, en7, _, rfl⟩ (fun _ _ _ _ h => h.1) ?_ ?_
        · rintro j x σ H8 H9 hj ⟨s8, hn7, z7, rfl⟩ ⟨rfl, ex⟩
          rw [List.getElem?_map] at ex
          obtain ⟨o, eo, rfl⟩ := Option.map_eq_some_iff.mp ex
          obtain ⟨io0, io1⟩ := Pr.prt_in G inq (List.mem_of_getElem? eo)
          have at1 := Pr.num_at eq eo
          have tl := (List.getElem?_eq_some_iff.mp at1).1
          have nd' := Pr.nodup_at (td.num_nd G) (show ((Pr.numK b ps 0).map (·.1))[Pr.off b ps i + j]? = some o by rw [List.getElem?_map, at1]; rfl)
          have vn : valV (numD ((Pr.numK b ps 0).take (Pr.off b ps i + j))) (Sum.inl o) = none := val_out (by
            intro z
            apply nd'
            obtain ⟨kv, h1, h2⟩ := List.mem_map.mp z
            obtain ⟨y, h3, rfl⟩ := List.mem_map.mp h1
            rw [← List.map_take]
            exact List.mem_map.mpr ⟨y, h3, by injection h2⟩)
          have pt := DPut.k (k := Sum.inl o) (v := .int (i : Int)) hn7 (by unfold numD; rw [List.length_map, List.length_take]; omega)
          rw [putK_new _ vn] at pt
          simp_all only []
          refine ⟨_, .inl ⟨_, Sum.inl o, .inl hn7, rfl, rfl⟩, ?_⟩
          rw [vn, if_neg (by decide), if_neg (by omega)]
          refine ⟨_, s8 _ _ ha, ?_⟩
          rw [if_neg (by omega)]
          refine ⟨_, pt, same_upd_of s8 nn, ?_, _, rfl⟩
          rw [upd_same, ← Nat.add_assoc, List.take_add_one, at1]
          unfold numD
          rw [List.map_append]
          rfl
        · rintro σ H7 ⟨s7, hn7, z7, rfl⟩
          rw [List.length_map] at hn7
          exact ⟨s7, by rw [Pr.off_succ eq]; exact hn7, _, _, rfl⟩
      · rintro σ H5 ⟨s5, hn5, z6, z7, rfl⟩
        rw [List.length_map, Int.toNat_natCast, al_len, Pr.off_all, List.take_of_length_le (Nat.le_refl _)] at hn5
        exact hN _ _ ⟨s5, hn5, _, _, rfl⟩
    rintro _ H2 ⟨s2, hnu2, z3, z4, rfl⟩
    have numG : ∀ {H' : Hp}, H' nu = H2 nu → ∀ x, Pr.In b x → DGet H' nu (.int x) (some (.int ((ps.idxOf (Pr.rep b x) : Nat) : Int))) := fun e x hx => .inl ⟨_, Sum.inl x, .inl (e.trans hnu2), rfl, (numD_val (td.num_nd G) (td.num_mem G hx)).symm⟩
    change tSeq _ _ _ [some (.ref a), some (.ref fo), some (.ref nu), z3, z4, none, none, none, none, none] H2
    refine seq_gen (fun σ' H3 => H2 = H3 ∧ σ' = [some (.ref a), some (.ref fo), some (.ref nu), z3, z4, none, none, none, none, none]) ?_ (fun N hN => ?_)
    case refine_2 =>
      simp_all only []
      refine ⟨_, hnu2, _, s2 _ _ ha, ?_⟩
      rw [if_neg (by unfold numD; rw [List.length_map, nlen, lx]; simp)]
      exact hN _ _ ⟨rfl, rfl⟩
    rintro _ _ ⟨rfl, rfl⟩
    change tSeq _ _ _ [some (.ref a), some (.ref fo), some (.ref nu), z3, z4, none, none, none, none, none] H2
    refine seq_gen (fun σ' H3 => Same H2 H3 ∧ ∃ aa, LdH H3 aa b.length 100 (fun x g => g ∈ Bf.gAt b x) ∧ σ' = [some (.ref a), some (.ref fo), some (.ref nu), z3, z4, some (.ref aa), none, none, none, none]) ?_ (fun N hN => ?_)
    case refine_2 =>
      simp_all only [spLgs]
      refine ⟨⟨_, SqL.of (s2 _ _ ha)⟩, ?_⟩
      refine comp_map (src_list (K := K) (fun H' s' => SqL.of (s' _ _ (s2 _ _ ha)))) (fun _ _ _ _ h => by rw [h.1]; exact Same.refl _) (by omega) (fun i y H4 => ∃ x, y = .ref x ∧ ∀ q, b[i]? = some q → H4 x = some (.lst (List.map V.int (Lv.gls q)))) (fun i y H4 H5 s5 ⟨x, e, h⟩ => ⟨x, e, fun q eq => s5 _ _ (h q eq)⟩) ?_ ?_
      · rintro i x w0 H4 H5 Q2 hi s4 ⟨rfl, ex⟩ kq
        obtain ⟨q, eq, rq⟩ := rep_br_get rl ex
        simp_all only [spLgs]
        refine ⟨q, rq.mono (s2.trans s4), gb.len (List.mem_of_getElem? eq), fun l H6 s6 h6 => kq _ _ s6 ⟨l, rfl, fun q' eq' => ?_⟩⟩
        rw [eq] at eq'
        cases eq'
        exact h6
      · intro ys H5 s5 ly hy D n1 n2
        obtain ⟨us, rfl⟩ := refs_of (ws := ys) fun v hv => by
          obtain ⟨i, ei⟩ := List.getElem?_of_mem hv
          obtain ⟨x, e, _⟩ := hy i v ei
          exact ⟨x, e⟩
        rw [List.length_map] at ly
        refine hN _ _ ⟨s5.trans (same_upd n2), D, ⟨us, upd_same, by omega, fun i k ek => ?_⟩, rfl⟩
        have hib : i < b.length := by have := (List.getElem?_eq_some_iff.mp ek).1; omega
        obtain ⟨x, e, h⟩ := hy i (.ref k) (by rw [List.getElem?_map, ek]; rfl)
        cases e
        have eb := List.getElem?_eq_getElem hib
        exact ⟨_, same_upd n2 _ _ (h _ eb), fun g => by rw [gAt_at eb], gb.len (List.getElem_mem hib)⟩
    rintro _ H3 ⟨s3, aa, ldA, rfl⟩
    change tSeq _ _ _ [some (.ref a), some (.ref fo), some (.ref nu), z3, z4, some (.ref aa), none, none, none, none] H3
    refine seq_gen (fun σ' H4 => Same H3 H4 ∧ ∃ ba ks, H3 ba = none ∧ H4 ba = some (.lst (List.map V.ref ks)) ∧ ks.length = b.length ∧ ks.Nodup ∧ (∀ k ∈ ks, H3 k = none ∧ H4 k = some (.lst []) ∧ k ≠ ba) ∧ σ' = [some (.ref a), some (.ref fo), some (.ref nu), z3, z4, some (.ref aa), some (.ref ba), none, none, none]) ?_ (fun N hN => ?_)
    case refine_2 =>
      simp_all only []
      have ha3 := s3 _ _ (s2 _ _ ha)
      refine ⟨⟨_, SqL.of ha3⟩, ?_⟩
      refine block_src (src_list (K := K) (fun H' s' => SqL.of (s' _ _ ha3))) (fun σ => ∃ w0, σ = [w0]) ⟨_, rfl⟩ (fun i ys H' => ∃ ks : List Addr, ys = ks.map V.ref ∧ ks.length = i ∧ ks.Nodup ∧ ∀ k ∈ ks, H3 k = none ∧ H' k = some (.lst [])) ⟨[], rfl, rfl, List.nodup_nil, fun k hk => nomatch hk⟩ (by omega) ?_ ?_
      · rintro i x σ H4 zs0 H5 Q2 N2 hi s4 ⟨ks, rfl, lk, ndk, hk⟩ lz ⟨w0, rfl⟩ ⟨rfl, ex⟩ kq kn
        simp_all only [tYes]
        refine ⟨Nat.zero_le _, fun p np => kq _ _ _ ⟨_, rfl⟩ (s4.trans (same_upd np)) ⟨ks ++ [p], by rw [List.map_append]; rfl, by rw [List.length_append, List.length_singleton]; omega, ?_, fun k hk' => ?_⟩⟩
        · rw [List.nodup_append]
          refine ⟨ndk, by simp, fun x hx y hy e => ?_⟩
          rw [List.mem_singleton.mp hy] at e
          have := (hk x hx).2
          rw [e, np] at this
          cases this
        · rcases List.mem_append.mp hk' with hk' | hk'
          · exact ⟨(hk k hk').1, same_upd np _ _ (hk k hk').2⟩
          · rw [List.mem_singleton.mp hk']
            exact ⟨none_of s4 np, upd_same⟩
      · rintro zs0 H4 s4 ⟨ks, rfl, lk, ndk, hk⟩ lz D n1 n2
        refine hN _ _ ⟨s4.trans (same_upd n2), D, ks, n1, upd_same, by omega, ndk, fun k hk' => ⟨(hk k hk').1, same_upd n2 _ _ (hk k hk').2, fun z => ?_⟩, rfl⟩
        have := (hk k hk').2
        rw [z, n2] at this
        cases this
    rintro _ H4 ⟨s4, ba, ks, nba, hba, lks, ndk, hks, rfl⟩
    change tSeq _ _ _ [some (.ref a), some (.ref fo), some (.ref nu), z3, z4, some (.ref aa), some (.ref ba), none, none, none] H4
    refine seq_gen (fun σ' H5 => Same H3 H5 ∧ LdH H5 ba b.length 4000 (fun g x => Pr.leadTo b g x) ∧ ∃ z7 z8, σ' = [some (.ref a), some (.ref fo), some (.ref nu), z3, z4, some (.ref aa), some (.ref ba), z7, z8, none]) ?_ (fun N hN => ?_)
    case refine_2 =>
      simp_all only []
      obtain ⟨ka, hka, lka, hk⟩ := ldA.ex
      refine ⟨_, s4 _ _ (s3 _ _ (s2 _ _ ha)), by omega, by omega, ?_⟩
      have hnu3 := s3 _ _ hnu2
      refine for_src (src_range (Ok := fun _ => True)) (fun i σ H5 => Same H3 H5 ∧ BkI b ba ks i [] H5 ∧ ∃ z7 z8, σ = [some (.ref a), some (.ref fo), some (.ref nu), z3, z4, some (.ref aa), some (.ref ba), z7, z8, none]) ⟨s4, ⟨hba, fun g k ek => ⟨[], (hks k (List.mem_of_getElem? ek)).2.1, Nat.zero_le _, fun x => ⟨fun h => (nomatch h), fun h => by rcases h with ⟨h1, h2, _⟩ | ⟨_, h2⟩; omega; cases h2⟩⟩⟩, _, _, rfl⟩ (fun _ _ _ _ _ => trivial) ?_ ?_
      · rintro i x σ H5 H6 hi ⟨s6, bk, z7, z8, rfl⟩ ⟨rfl, rfl⟩
        have hib : i < b.length := by omega
        have inb : Pr.In b (i : Int) := ⟨by omega, by omega⟩
        obtain ⟨kc, ekc⟩ : ∃ k, ka[i]? = some k := ⟨_, List.getElem?_eq_getElem (by omega)⟩
        obtain ⟨gs, hgs, mgs, lgs⟩ := hk i kc ekc
        simp_all only [Int.zero_add, s6 _ _ hka, show atI (List.map V.ref ka) (i : Int) = some (.ref kc) from atI_pl ekc]
        refine ⟨⟨_, SqL.of (s6 _ _ hgs)⟩, ?_⟩
        refine for_src (src_list (Ok := Same H3) (fun H' s' => SqL.of (s' _ _ hgs))) (fun j σ H7 => Same H3 H7 ∧ BkI b ba ks i (gs.take j) H7 ∧ ∃ z8, σ = [some (.ref a), some (.ref fo), some (.ref nu), z3, z4, some (.ref aa), some (.ref ba), some (.int (i : Int)), z8, none]) ⟨s6, by rw [List.take_zero]; exact bk, _, rfl⟩ (fun _ _ _ _ h => h.1) ?_ ?_
        · rintro j x σ H7 H8 hj ⟨s8, ⟨hb8, bk8⟩, z8, rfl⟩ ⟨rfl, ex⟩
          rw [List.getElem?_map] at ex
          obtain ⟨g, eg, rfl⟩ := Option.map_eq_some_iff.mp ex
          rw [List.length_map] at hj
          have mg := (mgs g).mp (List.mem_of_getElem? eg)
          have ing : Pr.In b g := Pr.kb_in G inb (Pr.kb_goal G inb (Pr.kb_self G inb) mg)
          have le := td.idx_le G inb (Pr.kb_goal G inb (Pr.kb_self G inb) mg)
          obtain ⟨i0, i1⟩ := id ing
          obtain ⟨g, rfl⟩ := Int.eq_ofNat_of_zero_le i0
          have tk : gs.take (j + 1) = gs.take j ++ [(g : Int)] := by rw [List.take_add_one, eg]; rfl
          obtain ⟨k, ek⟩ : ∃ k, ks[g]? = some k := ⟨_, List.getElem?_eq_getElem (by omega)⟩
          obtain ⟨nk3, _, kba⟩ := hks k (List.mem_of_getElem? ek)
          obtain ⟨l, hl, ll, ml⟩ := bk8 g k ek
          simp_all only [hb8, show atI (List.map V.ref ks) (g : Int) = some (.ref k) from atI_pl ek]
          rw [List.length_take] at ll
          have s9 : Same H3 (upd H8 k (.lst (List.map V.int l ++ [V.int (i : Int)]))) := same_upd_of s8 nk3
          refine ⟨.inl ⟨rfl, _, SqL.of hl⟩, k, _, .int (i : Int), rfl, rfl, hl, by rw [List.length_map]; omega, _, numG ((s9 _ _ hnu3).trans hnu2.symm) _ ing, _, numG ((s9 _ _ hnu3).trans hnu2.symm) _ inb, _, rfl, _, rfl, ?_⟩
          rw [if_neg (by omega)]
          refine ⟨s9, ⟨by rw [upd_ne (Ne.symm kba)]; exact hb8, fun g' k' ek' => ?_⟩, _, rfl⟩
          rw [tk]
          by_cases c : g' = g
          · subst c
            rw [ek] at ek'
            cases ek'
            refine ⟨l ++ [(i : Int)], by rw [upd_same, List.map_append]; rfl, by rw [List.length_append, List.length_append, List.length_singleton, List.length_singleton, List.length_take]; omega, fun x => ?_⟩
            rw [List.mem_append, List.mem_singleton, ml x]
            constructor
            · rintro ((h | ⟨h1, h2⟩) | rfl)
              · exact .inl h
              · exact .inr ⟨h1, List.mem_append_left _ h2⟩
              · exact .inr ⟨rfl, List.mem_append_right _ List.mem_cons_self⟩
            · rintro (h | ⟨h1, h2⟩)
              · exact .inl (.inl h)
              · exact .inr h1
          · have kk' : k' ≠ k := fun z => c (by
              have e1 := (List.getElem?_eq_some_iff.mp ek').1
              rw [z] at ek'
              exact (List.getElem?_inj e1 ndk).mp (ek'.trans ek.symm))
            obtain ⟨l', hl'', ll', ml'⟩ := bk8 g' k' ek'
            refine ⟨l', by rw [upd_ne kk']; exact hl'', by rw [List.length_append]; omega, fun x => ?_⟩
            rw [ml' x]
            constructor
            · rintro (h | ⟨h1, h2⟩)
              · exact .inl h
              · exact .inr ⟨h1, List.mem_append_left _ h2⟩
            · rintro (h | ⟨h1, h2⟩)
              · exact .inl h
              · rcases List.mem_append.mp h2 with h2 | h2
                · exact .inr ⟨h1, h2⟩
                · exact absurd (List.mem_singleton.mp h2) (by omega)
        · rintro σ H7 ⟨s7, ⟨hb7, bk7⟩, z8, rfl⟩
          rw [List.length_map, List.take_of_length_le (Nat.le_refl _)] at bk7
          refine ⟨s7, ⟨hb7, fun g k ek => ?_⟩, _, _, rfl⟩
          obtain ⟨l, hl, ll, ml⟩ := bk7 g k ek
          refine ⟨l, hl, by rw [List.length_nil]; omega, fun x => ?_⟩
          rw [ml x]
          constructor
          · rintro (⟨h1, h2, h3⟩ | ⟨h1, h2⟩)
            · exact .inl ⟨h1, by omega, h3⟩
            · exact .inl ⟨by omega, by omega, by rw [h1]; exact (mgs _).mp h2⟩
          · rintro (⟨h1, h2, h3⟩ | ⟨h1, h2⟩)
            · by_cases c : x = (i : Int)
              · exact .inr ⟨c, (mgs _).mpr (by rw [← c]; exact h3)⟩
              · exact .inl ⟨h1, by omega, h3⟩
            · cases h2
      · rintro σ H5 ⟨s5, ⟨hb5, bk5⟩, z7, z8, rfl⟩
        refine hN _ _ ⟨s5, ⟨ks, hb5, lks, fun i k ek => ?_⟩, _, _, rfl⟩
        obtain ⟨l, hl, ll, ml⟩ := bk5 i k ek
        rw [Int.toNat_natCast] at ml ll
        refine ⟨l, hl, fun x => ?_, by rw [List.length_nil] at ll; omega⟩
        rw [ml x]
        constructor
        · rintro (⟨h1, h2, h3⟩ | ⟨h1, h2⟩)
          · exact ⟨⟨h1, by omega⟩, h3⟩
          · cases h2
        · rintro ⟨⟨h1, h2⟩, h3⟩
          exact .inl ⟨h1, by omega, h3⟩
    rintro _ H5 ⟨s5, ldB, z7, z8, rfl⟩
    have s05 := s2.trans (s3.trans s5)
    simp_all only []
    refine ⟨⟨_, SqL.of (s05 _ _ hfo)⟩, ?_⟩
    refine for_src (src_list (Ok := Same H) (fun H' s' => SqL.of (s' _ _ hfo))) (fun i σ H6 => Same H H6 ∧ Same H5 H6 ∧ ∃ z9, σ = [some (.ref a), some (.ref fo), some (.ref nu), z3, z4, some (.ref aa), some (.ref ba), z7, z8, z9]) ⟨s05, Same.refl _, _, rfl⟩ (fun _ _ _ _ h => h.1) ?_ ?_
    · rintro i x σ H6 H7 hi ⟨s7, s57, z9, rfl⟩ ⟨rfl, ex⟩
      obtain ⟨q, eq, xa, rfl, hxa⟩ := al.get ex
      have mq := List.mem_of_getElem? eq
      have inq := td.inB mq
      have rm := Pr.rep_mem G inq
      have a0 : atI (List.map V.int (Pr.prt b q)) 0 = some (.int (Pr.rep b q)) := by
        unfold Pr.rep
        cases ec : Pr.prt b q with
        | nil => exact absurd ec (Pr.prt_ne G inq)
        | cons x0 r0 => rw [List.map_cons]; exact at0
      have ndp : (Pr.prt b q).Nodup := (Pr.prt_lt G inq).imp fun h z => by omega
      have pq := prl q mq
      simp_all only [spCom, s7 _ _ hxa, a0]
      refine ⟨b.length, 100, (fun x g => g ∈ Bf.gAt b x), ldA.mono (s5.trans s57), by decide, Pr.prt b q, rfl, ndp, fun x hx => Pr.prt_in G inq hx, rm, by omega, fun S h0 hc => Pr.all_ahead G inq S rm h0 hc, fun H8 s8 => ?_⟩
      refine ⟨_, s8 _ _ (s7 _ _ hxa), ?_⟩
      rw [if_neg (by rw [List.length_map]; simp)]
      refine ⟨_, s8 _ _ (s7 _ _ hxa), _, a0, _, rfl, b.length, 4000, (fun g x => Pr.leadTo b g x), ldB.mono (s57.trans s8), by decide, Pr.prt b q, s8 _ _ (s7 _ _ hxa), ndp, fun x hx => Pr.prt_in G inq hx, rm, by omega, fun S h0 hc => Pr.all_back G inq S rm h0 hc, fun H9 s9 => ?_⟩
      refine ⟨_, s9 _ _ (s8 _ _ (s7 _ _ hxa)), ?_⟩
      rw [if_neg (by rw [List.length_map]; simp)]
      exact ⟨s7.trans (s8.trans s9), s57.trans (s8.trans s9), _, rfl⟩
    · rintro σ H6 ⟨s6, s56, z9, rfl⟩
      simp_all only []
      exact kk _ s6
theorem sc_law : FnScope ["_law_script", "_law_board_here", "_law_handed", "_law_found", "_law_kept", "_law_other", "_law_some", "_law_again"] ["_law_script"] (defScope (top 16)) := ⟨rfl, rfl, rfl, by decide +kernel, rfl, by decide +kernel, by decide +kernel⟩
theorem ok_law (T : Txt K mg tc) (LB : LamB base mg tc tp) {f : Addr} {fd : FuncData} (F : Fun K "law" "law" (top 16) f fd) : FnOk P w K mg base (CX1 P w) 8 f fd ["_law_script"] (spLaw K tp) := by
  have c__law_copy : Cal P w K mg base (CX1 P w) 1 "_law_copy" ["_law_board_here"] spCopy2 := ok_copy T
  have c__law_board : Cal P w K mg base (CX1 P w) 4 "_law_board" ["_law_script"] (spBd K) := ok_board T
  have c_parts : Cal P w K mg base (CX1 P w) 3 "parts" ["board"] (spPrt tp) := ok_prt T LB
  have c__law_told : Cal P w K mg base (CX1 P w) 3 "_law_told" ["_law_board_here", "_law_found"] spTld := ok_tld T
  refine F.okC sc_law (fun vs H Q E h => ?_) (fun cdv A outer s H vs Q E hr h => ?_)
  · obtain ⟨_, _, rfl, _⟩ := h; rfl
  · obtain ⟨sa, ns, rfl, htp, hS, hlen, kk⟩ := h
    have nd := sc_law.nd
    refine ⟨_, (pss_cons (ps_set (i := 1) nd rfl (Or.inl rfl) (pe_cal c__law_board (hr.mono (by decide)) rfl strictP.pass (pa_cons (pv 0) pa_nil (se rfl)) (he := se rfl) (hpl := na rfl)))
    (pss_cons (ps_set (i := 2) nd rfl (Or.inl rfl) (pe_cal c__law_copy (hr.mono (by decide)) rfl strictP.pass (pa_cons (pv 1) pa_nil (se rfl)) (he := se rfl) (hpl := na rfl)))
    (pss_cons (ps_set (i := 3) nd rfl (Or.inl rfl) (pe_cal c_parts (hr.mono (by decide)) rfl strictP.pass (pa_cons (pv 2) pa_nil (se rfl)) (he := se rfl) (hpl := na rfl)))
    (pss_cons (ps_if (PW.pt (pw_or (pt_cmpR (op_neD hr.units) (pv 2) (pv 1) (nomark _)) (pw_or1 (pt_not (pt_val (pe_cal c__law_told (hr.mono (by decide)) rfl strictP.pass (pa_cons (pv 1) (pa_cons (pv 3) pa_nil (se rfl)) (se rfl)) (he := se rfl) (hpl := na rfl))))))) (pss_one (ps_ret pe_bl))
      pss_nil)
    (pss_cons (ps_setC (i := 4) rfl nd rfl rfl (N := ["_law_script", "_law_board_here", "_law_handed", "_law_found", "_law_kept", "_law_other", "_law_some", "_law_again"]) (so := defScope (top 16)) (N' := ["_law_some"]) (k := 1) (fr := []) rfl rfl ⟨rfl, by decide +kernel, by decide +kernel, by decide +kernel, rfl, by decide +kernel, by decide +kernel⟩ (pi_listK (K := K) (pv 3)) (fun _ _ _ _ _ => (pg_name (i := 0) (show (["_law_some"] : List Str).Nodup by decide +kernel) rfl (Or.inl rfl))) (fun _ _ _ _ _ => pts_nil)
      (fun _ _ _ _ _ => (pe_callTy (call_list_ofK (K := K)) (by rfl) T.z_list rfl (pa_cons (pv 0) pa_nil (se rfl)) (he := se rfl) (hpl := na rfl))))
    (pss_cons (ps_asg (pe_tupS (pa_cons pe_str (pa_cons (pe_tupS (pa_cons pe_int (pa_cons pe_int pa_nil (se rfl)) (se rfl))) pa_nil (se rfl)) (se rfl))) (pg_sub (pv 2) pe_int set_list))
    (pss_cons (ps_set (i := 5) nd rfl (Or.inl rfl) (pe_cal c_parts (hr.mono (by decide)) rfl strictP.pass (pa_cons (pe_lst (pa_cons (pe_tupS (pa_cons pe_str (pa_cons pe_int (pa_cons (pe_lst (pa_cons pe_int pa_nil (se rfl))) pa_nil (se rfl)) (se rfl)) (se rfl))) (pa_cons (pe_tupS (pa_cons pe_str (pa_cons pe_int (pa_cons (pe_lst (pa_cons pe_int (pa_cons pe_int pa_nil (se rfl)) (se rfl))) pa_nil (se rfl)) (se rfl)) (se rfl))) (pa_cons (pe_tupS (pa_cons pe_str (pa_cons (pe_tupS (pa_cons pe_int (pa_cons pe_int pa_nil (se rfl)) (se rfl))) pa_nil (se rfl)) (se rfl))) pa_nil (se rfl)) (se rfl)) (se rfl))) pa_nil (se rfl)) (he := se rfl) (hpl := na rfl)))
    (pss_cons (ps_if (PW.pt (pw_or (pt_cmpR (op_neD hr.units) (pv 5) (pe_lst (pa_cons (pe_lst (pa_cons pe_int pa_nil (se rfl))) (pa_cons (pe_lst (pa_cons pe_int (pa_cons pe_int pa_nil (se rfl)) (se rfl))) pa_nil (se rfl)) (se rfl))) (nomark _)) (pw_or1 (pt_cmpR (op_neD hr.units) (pv 3) (pv 4) (nomark _))))) (pss_one (ps_ret pe_bl))
      pss_nil)
    (pss_cons (ps_for PassesOwn.never rfl (pi_listK (K := K) (pv 3)) (pg_name (i := 6) nd rfl (Or.inl rfl)) (pss_one (ps_expr (pe_bm PySem.F.plainAttrs_list PySem.F.slot_list_append PySem.F.type_list_append mt_append.r (pv 6) (pa_cons pe_int pa_nil (se rfl))))))
    (pss_cons (ps_set (i := 7) nd rfl (Or.inl rfl) (pe_cal c_parts (hr.mono (by decide)) rfl strictP.pass (pa_cons (pe_cal c__law_copy (hr.mono (by decide)) rfl strictP.pass (pa_cons (pv 1) pa_nil (se rfl)) (he := se rfl) (hpl := na rfl)) pa_nil (se rfl)) (he := se rfl) (hpl := na rfl)))
    (pss_one (ps_ret (pe_and (pe_cal c__law_told (hr.mono (by decide)) rfl strictP.pass (pa_cons (pv 1) (pa_cons (pv 7) pa_nil (se rfl)) (se rfl)) (he := se rfl) (hpl := na rfl)) (pe_one (pe_cmpR (op_eqD hr.units) (pe_callB (call_sorted_llK (K := K) (hu2 hr)) (by rfl) T.z_sorted rfl (pa_cons (pv 7) pa_nil (se rfl)) (he := se rfl) (hpl := na rfl)) (pe_callB (call_sorted_llK (K := K) (hu2 hr)) (by rfl) T.z_sorted rfl (pa_cons (pv 4) pa_nil (se rfl)) (he := se rfl) (hpl := na rfl)) (nomark _)))))))))))))))), ?_⟩
    have sl := sizeLine_eq
    change tSeq _ _ _ [some (.ref sa), none, none, none, none, none, none, none] H
    refine seq_gen (fun σ' H1 => ∃ p b, Same H H1 ∧ Rep H1 (brD b) (.ref p) ∧ GB b 40 ∧ σ' = [some (.ref sa), some (.ref p), none, none, none, none, none, none]) ?_ (fun N hN => ?_)
    case refine_2 =>
      simp_all only [spBd]
      exact ⟨ns, hS, fun p H1 b s1 rb gb => hN _ _ ⟨p, b, s1, rb, gb, rfl⟩⟩
    rintro _ H1 ⟨p, b, s1, rb, gb, rfl⟩
    have G := gb.good
    have bl := gb.2.1
    have b0 := gb.1
    have htp1 := s1 _ _ htp
    obtain ⟨_, xs, e, hp, rl⟩ := rep_lst.mp rb
    cases e
    have lx := rl.length
    rw [List.length_map] at lx
    change tSeq _ _ _ [some (.ref sa), some (.ref p), none, none, none, none, none, none] H1
    refine seq_gen (fun σ' H2 => ∃ hd ys, Same H1 H2 ∧ H1 hd = none ∧ H2 hd = some (.lst ys) ∧ ys.length = b.length ∧ Rep H2 (brD b) (.ref hd) ∧ σ' = [some (.ref sa), some (.ref p), some (.ref hd), none, none, none, none, none]) ?_ (fun N hN => ?_)
    case refine_2 =>
      simp_all only [spCopy2]
      refine ⟨b, rb, by omega, fun l H2 ys s2 n2 rl2 => hN _ _ ⟨l, ys, s2.trans (same_upd n2), none_of s2 n2, upd_same, ?_, rep_lst.mpr ⟨l, ys, rfl, upd_same, rl2.mono (same_upd n2)⟩, rfl⟩⟩
      have := rl2.length
      rw [List.length_map] at this
      omega
    rintro _ H2 ⟨hd, ys, s2, nhd, hhd, lys, rhd, rfl⟩
    change tSeq _ _ _ [some (.ref sa), some (.ref p), some (.ref hd), none, none, none, none, none] H2
    refine seq_gen (fun σ' H3 => ∃ fo ps as, Pr.Told b ps ∧ Same H2 H3 ∧ H2 fo = none ∧ H3 fo = some (.lst (List.map V.ref as)) ∧ Al (fun p v => ∃ x, v = .ref x ∧ H3 x = some (.lst (List.map V.int (Pr.prt b p))) ∧ H2 x = none) ps (as.map V.ref) ∧ σ' = [some (.ref sa), some (.ref p), some (.ref hd), some (.ref fo), none, none, none, none]) ?_ (fun N hN => ?_)
    case refine_2 =>
      simp_all only [spPrt]
      exact ⟨b, rhd, by omega, fun q hq => gb.len hq, G, s2 _ _ htp1, fun l ps as H' td s' nl hl al => hN _ _ ⟨l, ps, as, td, s', nl, hl, al, rfl⟩⟩
    rintro _ H3 ⟨fo, ps, as, td, s3, nfo, hfo, al, rfl⟩
    have al' : Al (fun p v => ∃ x, v = .ref x ∧ H3 x = some (.lst (List.map V.int (Pr.prt b p)))) ps (as.map V.ref) := al.imp fun p v ⟨x, e, h, _⟩ => ⟨x, e, h⟩
    obtain ⟨m1, l1⟩ := al_lstI al'
    have al_len := al.length
    rw [List.length_map] at al_len
    have pl := td.pm.length_eq
    have hl' := Pr.hds_len (b := b) (n := b.length)
    have fresh : ∀ x ∈ as, H2 x = none := fun x hx => by
      obtain ⟨i, ei⟩ := List.getElem?_of_mem hx
      obtain ⟨q, eq, x', e, _, h⟩ := al.get (show (as.map V.ref)[i]? = some (.ref x) by rw [List.getElem?_map, ei]; rfl)
      cases e
      exact h
    change tSeq _ _ _ [some (.ref sa), some (.ref p), some (.ref hd), some (.ref fo), none, none, none, none] H3
    refine seq_gen (fun σ' H4 => Same H3 H4 ∧ σ' = [some (.ref sa), some (.ref p), some (.ref hd), some (.ref fo), none, none, none, none]) ?_ (fun N hN => ?_)
    case refine_2 =>
      simp_all only [spTld]
      refine ⟨_, rhd.mono s3, rb.mono (s2.trans s3), ⟨_, rfl⟩, depth_br _, _, rfl, ?_⟩
      rw [if_neg (by decide)]
      refine ⟨b, rb.mono (s2.trans s3), gb, ps, td, as, hfo, al', fun H4 s4 => ?_⟩
      rw [if_neg (by decide)]
      exact hN _ _ ⟨s4, rfl⟩
    rintro _ H4 ⟨s4, rfl⟩
    change tSeq _ _ _ [some (.ref sa), some (.ref p), some (.ref hd), some (.ref fo), none, none, none, none] H4
    refine seq_gen (fun σ' H5 => ∃ kp us, Same H4 H5 ∧ H4 kp = none ∧ H5 kp = some (.lst (List.map V.ref us)) ∧ Al (fun p v => ∃ x, v = .ref x ∧ H5 x = some (.lst (List.map V.int (Pr.prt b p))) ∧ H4 x = none) ps (us.map V.ref) ∧ σ' = [some (.ref sa), some (.ref p), some (.ref hd), some (.ref fo), some (.ref kp), none, none, none]) ?_ (fun N hN => ?_)
    case refine_2 =>
      simp_all only []
      have hfo4 := s4 _ _ hfo
      refine ⟨⟨_, SqL.of hfo4⟩, ?_⟩
      refine comp_map (src_list (K := K) (fun H' s' => SqL.of (s' _ _ hfo4))) (fun _ _ _ _ h => by rw [h.1]; exact Same.refl _) (by rw [List.length_map]; omega) (fun i y H' => ∃ x, y = .ref x ∧ H4 x = none ∧ ∀ q, ps[i]? = some q → H' x = some (.lst (List.map V.int (Pr.prt b q)))) (fun i y H' H'' s5 ⟨x, e, n, h⟩ => ⟨x, e, n, fun q eq => s5 _ _ (h q eq)⟩) ?_ ?_
      · rintro i x w0 H5 H6 Q2 hi s5 ⟨rfl, ex⟩ kq
        obtain ⟨q, eq, xa, rfl, hxa⟩ := al'.get ex
        simp_all only []
        refine ⟨_, .inl (SqL.of (s5 _ _ (s4 _ _ hxa))), fun m nm => kq _ _ (same_upd nm) ⟨m, rfl, none_of s5 nm, fun q' eq' => ?_⟩⟩
        rw [eq] at eq'
        cases eq'
        exact upd_same
      · intro ws H5 s5 lw hw D n1 n2
        obtain ⟨us, rfl⟩ := refs_of (ws := ws) fun v hv => by
          obtain ⟨i, ei⟩ := List.getElem?_of_mem hv
          obtain ⟨x, e, _⟩ := hw i v ei
          exact ⟨x, e⟩
        rw [List.length_map, List.length_map] at lw
        refine hN _ _ ⟨D, us, s5.trans (same_upd n2), n1, upd_same, Al.of (by rw [List.length_map]; omega) fun i v q e1 e2 => ?_, rfl⟩
        obtain ⟨x, e, n, h⟩ := hw i v e1
        exact ⟨x, e, same_upd n2 _ _ (h q e2), n⟩
    rintro _ H5 ⟨kp, us, s5, nkp, hkp, alk, rfl⟩
    have alk_len := alk.length
    rw [List.length_map] at alk_len
    have fo_hd : fo ≠ hd := fun z => by rw [z, hhd] at nfo; cases nfo
    have as_hd : ∀ x ∈ as, x ≠ hd := fun x hx z => by have := fresh x hx; rw [z, hhd] at this; cases this
    have kp_hd : kp ≠ hd := fun z => by rw [z, s4 _ _ (s3 _ _ hhd)] at nkp; cases nkp
    have us_fresh : ∀ x ∈ us, H4 x = none := fun x hx => by
      obtain ⟨i, ei⟩ := List.getElem?_of_mem hx
      obtain ⟨q, eq, x', e, _, h⟩ := alk.get (show (us.map V.ref)[i]? = some (.ref x) by rw [List.getElem?_map, ei]; rfl)
      cases e
      exact h
    have us_hd : ∀ x ∈ us, x ≠ hd := fun x hx z => by have := us_fresh x hx; rw [z, s4 _ _ (s3 _ _ hhd)] at this; cases this
    have alk' : Al (fun p v => ∃ x, v = .ref x ∧ H5 x = some (.lst (List.map V.int (Pr.prt b p)))) ps (us.map V.ref) := alk.imp fun p v ⟨x, e, h, _⟩ => ⟨x, e, h⟩
    obtain ⟨m2, l2⟩ := al_lstI alk'
    change tSeq _ _ _ [some (.ref sa), some (.ref p), some (.ref hd), some (.ref fo), some (.ref kp), none, none, none] H5
    refine seq_gen (fun σ' H6 => Same H1 H6 ∧ H6 fo = some (.lst (List.map V.ref as)) ∧ (∀ x ∈ as, H6 x = some (.lst (List.map V.int (lstI H3 x)))) ∧ H6 kp = some (.lst (List.map V.ref us)) ∧ (∀ x ∈ us, H6 x = some (.lst (List.map V.int (lstI H5 x)))) ∧ σ' = [some (.ref sa), some (.ref p), some (.ref hd), some (.ref fo), some (.ref kp), none, none, none]) ?_ (fun N hN => ?_)
    case refine_2 =>
      simp_all only []
      refine ⟨by omega, fun p1 Ha sA n1 e1 => ⟨by omega, fun p2 Hb sB n2 e2 => ⟨ys, sB _ _ (sA _ _ (s5 _ _ (s4 _ _ (s3 _ _ hhd)))), 0, ?_, hN _ _ ⟨same_upd_of (s2.trans (s3.trans (s4.trans (s5.trans (sA.trans sB))))) nhd, ?_, fun x hx => ?_, ?_, fun x hx => ?_, rfl⟩⟩⟩⟩
      · unfold ixN
        rw [if_pos (by omega), if_pos (by omega)]
        rfl
      · rw [upd_ne fo_hd]; exact sB _ _ (sA _ _ (s5 _ _ (s4 _ _ hfo)))
      · rw [upd_ne (as_hd x hx)]; exact sB _ _ (sA _ _ (s5 _ _ (s4 _ _ (l1 x hx).1)))
      · rw [upd_ne kp_hd]; exact sB _ _ (sA _ _ hkp)
      · rw [upd_ne (us_hd x hx)]; exact sB _ _ (sA _ _ (l2 x hx).1)
    rintro _ H6 ⟨s6, hfo6, hal6, hkp6, hus6, rfl⟩
    change tSeq _ _ _ [some (.ref sa), some (.ref p), some (.ref hd), some (.ref fo), some (.ref kp), none, none, none] H6
    refine seq_gen (fun σ' H7 => Same H6 H7 ∧ ∃ ot l2' l0', H7 ot = some (.lst [.ref l2', .ref l0']) ∧ H7 l2' = some (.lst [.int 2]) ∧ H7 l0' = some (.lst [.int 0, .int 1]) ∧ σ' = [some (.ref sa), some (.ref p), some (.ref hd), some (.ref fo), some (.ref kp), some (.ref ot), none, none]) ?_ (fun N hN => ?_)
    case refine_2 =>
      simp_all only [spPrt]
      refine ⟨by omega, fun q1 n1 => ⟨by omega, fun q2 Ha sA n2 e2 => ⟨by omega, fun q3 n3 => ⟨by omega, fun q4 Hb sB n4 e4 => ⟨by omega, fun q5 Hc sC n5 e5 => ⟨by omega, fun q6 Hd sD n6 e6 => ⟨by omega, fun q7 n7 => ?_⟩⟩⟩⟩⟩⟩⟩
      have t1 := same_upd (o := .lst [V.int 1]) n1
      have t3 := same_upd (o := .lst [V.int 0, V.int 2]) n3
      have t7 := same_upd (o := .lst [V.ref q2, V.ref q4, V.ref q6]) n7
      have u6 := sD.trans t7
      have u4 := sC.trans u6
      have u2 := t3.trans (sB.trans u4)
      have u0 := t1.trans (sA.trans u2)
      refine ⟨b3, rep_lst.mpr ⟨q7, _, rfl, upd_same, ?_⟩, by decide, by decide, b3_good, u0 _ _ (s6 _ _ htp1), fun l ps3 as3 H' td3 s' nl hl al3 => ?_⟩
      · show RepL _ [plD (.pck 2 [1]), plD (.pck 1 [0, 2]), plD (.fin (0, 1))] _
        refine repL_cons.mpr ⟨_, _, rfl, rep_pck.mpr ⟨q2, q1, rfl, u2 _ _ e2, (sA.trans u2) _ _ upd_same⟩, repL_cons.mpr ⟨_, _, rfl, rep_pck.mpr ⟨q4, q3, rfl, u4 _ _ e4, (sB.trans u4) _ _ upd_same⟩, repL_cons.mpr ⟨_, _, rfl, rep_fin.mpr ⟨q6, q5, rfl, t7 _ _ e6, u6 _ _ e5⟩, repL_nil.mpr rfl⟩⟩⟩
      · have eps := b3_told td3
        subst eps
        match as3, al3.length with
        | [x, y], _ =>
          obtain ⟨⟨x', ex, hx, _⟩, ⟨y', ey, hy, _⟩, _⟩ := al3
          cases ex
          cases ey
          rw [b3_p2] at hx
          rw [b3_p0] at hy
          exact hN _ _ ⟨u0.trans s', l, x, y, hl, hx, hy, rfl⟩
    rintro _ H7 ⟨s7, ot, l2', l0', hot, hl2, hl0, rfl⟩
    change tSeq _ _ _ [some (.ref sa), some (.ref p), some (.ref hd), some (.ref fo), some (.ref kp), some (.ref ot), none, none] H7
    refine seq_gen (fun σ' H8 => Same H7 H8 ∧ σ' = [some (.ref sa), some (.ref p), some (.ref hd), some (.ref fo), some (.ref kp), some (.ref ot), none, none]) ?_ (fun N hN => ?_)
    case refine_2 =>
      simp_all only []
      refine ⟨by omega, fun q1 n1 => ⟨by omega, fun q2 n2 => ⟨by omega, fun q3 n3 => ?_⟩⟩⟩
      have t1 := same_upd (o := .lst [V.int 2]) n1
      have t2 := same_upd (o := .lst [V.int 0, V.int 1]) n2
      have t3 := same_upd (o := .lst [V.ref q1, V.ref q2]) n3
      have u0 := t1.trans (t2.trans t3)
      have two : ∀ {H' : Hp} {l x y : Addr}, H' l = some (.lst [.ref x, .ref y]) → H' x = some (.lst [.int 2]) → H' y = some (.lst [.int 0, .int 1]) → Rep H' (.lst [.lst [.int 2], .lst [.int 0, .int 1]]) (.ref l) := fun h1 h2 h3 =>
        rep_lst.mpr ⟨_, _, rfl, h1, repL_cons.mpr ⟨_, _, rfl, rep_ints (ns := [2]) h2, repL_cons.mpr ⟨_, _, rfl, rep_ints (ns := [0, 1]) h3, repL_nil.mpr rfl⟩⟩⟩
      refine ⟨_, two (u0 _ _ hot) (u0 _ _ hl2) (u0 _ _ hl0), two upd_same (t3 _ _ (t2 _ _ upd_same)) (t3 _ _ upd_same), ⟨_, rfl⟩, by decide, _, rfl, ?_⟩
      rw [if_neg (by decide)]
      have r1 := rep_lists (H := upd (upd (upd H7 q1 (HO.lst [V.int 2])) q2 (HO.lst [V.int 0, V.int 1])) q3 (HO.lst [V.ref q1, V.ref q2])) (L := lstI H3) (u0 _ _ (s7 _ _ hfo6)) fun x hx => u0 _ _ (s7 _ _ (hal6 x hx))
      have r2 := rep_lists (H := upd (upd (upd H7 q1 (HO.lst [V.int 2])) q2 (HO.lst [V.int 0, V.int 1])) q3 (HO.lst [V.ref q1, V.ref q2])) (L := lstI H5) (u0 _ _ (s7 _ _ hkp6)) fun x hx => u0 _ _ (s7 _ _ (hus6 x hx))
      rw [m1, ← m2] at r1
      refine ⟨_, r1, r2, ⟨_, rfl⟩, depth_lists _, _, rfl, ?_⟩
      rw [if_neg (by decide)]
      exact hN _ _ ⟨u0, rfl⟩
    rintro _ H8 ⟨s8, rfl⟩
    have s68 := s7.trans s8
    change tSeq _ _ _ [some (.ref sa), some (.ref p), some (.ref hd), some (.ref fo), some (.ref kp), some (.ref ot), none, none] H8
    refine seq_gen (fun σ' H9 => Same H1 H9 ∧ H9 kp = some (.lst (List.map V.ref us)) ∧ (∀ x ∈ us, H9 x = some (.lst (List.map V.int (lstI H5 x)))) ∧ ∃ z, σ' = [some (.ref sa), some (.ref p), some (.ref hd), some (.ref fo), some (.ref kp), some (.ref ot), z, none]) ?_ (fun N hN => ?_)
    case refine_2 =>
      simp_all only []
      have hfo8 := s68 _ _ hfo6
      refine ⟨⟨_, SqL.of hfo8⟩, ?_⟩
      have as_fo : ∀ x ∈ as, x ≠ fo := fun x hx z => by
        have h := (l1 x hx).1
        rw [z, hfo] at h
        injection h with h
        injection h with h
        cases as with
        | nil => cases hx
        | cons y r =>
          rw [List.map_cons] at h
          cases e : lstI H3 fo with
          | nil => rw [e] at h; cases h
          | cons y' r' => rw [e, List.map_cons] at h; cases h
      have as_kp : ∀ x ∈ as, x ≠ kp := fun x hx z => by have := s4 _ _ (l1 x hx).1; rw [z, nkp] at this; cases this
      have as_us : ∀ x ∈ as, ∀ y ∈ us, y ≠ x := fun x hx y hy z => by have := s4 _ _ (l1 x hx).1; rw [← z, us_fresh y hy] at this; cases this
      have as_1 : ∀ x ∈ as, H1 x = none := fun x hx => none_of s2 (fresh x hx)
      refine for_src (src_list (Ok := fun H' => H' fo = some (.lst (List.map V.ref as))) (fun H' h' => SqL.of h')) (fun i σ H9 => Same H1 H9 ∧ H9 fo = some (.lst (List.map V.ref as)) ∧ H9 kp = some (.lst (List.map V.ref us)) ∧ (∀ x ∈ us, H9 x = some (.lst (List.map V.int (lstI H5 x)))) ∧ (∀ x ∈ as, ∃ l, H9 x = some (.lst l) ∧ l.length ≤ 1000 + i) ∧ ∃ z, σ = [some (.ref sa), some (.ref p), some (.ref hd), some (.ref fo), some (.ref kp), some (.ref ot), z, none])
        ⟨s6.trans s68, hfo8, s68 _ _ hkp6, fun x hx => s68 _ _ (hus6 x hx), fun x hx => ⟨_, s68 _ _ (hal6 x hx), ?_⟩, _, rfl⟩ (fun _ _ _ _ h => h.2.1) ?_ ?_
      · obtain ⟨q, hq, e⟩ := (l1 x hx).2
        have q1 := List.length_filter_le (fun o => decide (q ∈ Pr.kb b o)) (Nm.srt (Pr.kb b q))
        have q2 := Pr.kb_len G (td.inB hq)
        rw [Nm.srt_length] at q1
        rw [List.length_map, e]
        unfold Pr.prt
        omega
      · rintro i x σ H9 H10 hi ⟨t9, f9, k9, u9, a9, z, rfl⟩ ⟨rfl, ex⟩
        rw [List.getElem?_map] at ex
        obtain ⟨x, exa, rfl⟩ := Option.map_eq_some_iff.mp ex
        have hx := List.mem_of_getElem? exa
        rw [List.length_map] at hi
        obtain ⟨l, hl, ll⟩ := a9 x hx
        simp_all only []
        refine ⟨.inl ⟨rfl, _, SqL.of hl⟩, x, l, .int 0, rfl, rfl, hl, by omega, same_upd_of t9 (as_1 x hx), by rw [upd_ne (Ne.symm (as_fo x hx))]; exact f9, by rw [upd_ne (Ne.symm (as_kp x hx))]; exact k9, fun y hy => by rw [upd_ne (as_us x hx y hy)]; exact u9 y hy, fun y hy => ?_, _, rfl⟩
        by_cases c : y = x
        · subst c
          exact ⟨_, upd_same, by rw [List.length_append, List.length_singleton]; omega⟩
        · obtain ⟨l', hl', ll'⟩ := a9 y hy
          exact ⟨l', by rw [upd_ne c]; exact hl', by omega⟩
      · rintro σ H9 ⟨t9, f9, k9, u9, a9, z, rfl⟩
        exact hN _ _ ⟨t9, k9, u9, _, rfl⟩
    rintro _ H9 ⟨s9, hkp9, hus9, z6, rfl⟩
    change tSeq _ _ _ [some (.ref sa), some (.ref p), some (.ref hd), some (.ref fo), some (.ref kp), some (.ref ot), z6, none] H9
    refine seq_gen (fun σ' H10 => ∃ ag ps2 as2, Pr.Told b ps2 ∧ Same H9 H10 ∧ H10 ag = some (.lst (List.map V.ref as2)) ∧ Al (fun p v => ∃ x, v = .ref x ∧ H10 x = some (.lst (List.map V.int (Pr.prt b p)))) ps2 (as2.map V.ref) ∧ σ' = [some (.ref sa), some (.ref p), some (.ref hd), some (.ref fo), some (.ref kp), some (.ref ot), z6, some (.ref ag)]) ?_ (fun N hN => ?_)
    case refine_2 =>
      simp_all only [spPrt, spCopy2]
      refine ⟨b, rb.mono s9, by omega, fun l H10 ys2 s10 n10 rl2 => ⟨b, rep_lst.mpr ⟨l, ys2, rfl, upd_same, rl2.mono (same_upd n10)⟩, by omega, fun q hq => gb.len hq, G, same_upd n10 _ _ (s10 _ _ (s9 _ _ htp1)), fun l' ps2 as2 H' td2 s' nl hl al2 => hN _ _ ⟨l', ps2, as2, td2, s10.trans ((same_upd n10).trans s'), hl, al2.imp fun p v ⟨x, e, h, _⟩ => ⟨x, e, h⟩, rfl⟩⟩⟩
    rintro _ H10 ⟨ag, ps2, as2, td2, s10, hag, al2, rfl⟩
    obtain ⟨m3, l3⟩ := al_lstI al2
    simp_all only [spTld]
    refine ⟨b, rb.mono (s9.trans s10), gb, ps2, td2, as2, hag, al2, fun H11 s11 => ?_⟩
    have al2_len := al2.length
    rw [List.length_map] at al2_len
    have pl2 := td2.pm.length_eq
    have nd1 : (as2.map fun a => (lstI H10 a).headD 0).Nodup := by
      have := Pr.told_heads G td2
      rw [← m3, List.map_map] at this
      exact this
    have nd2 : (us.map fun a => (lstI H5 a).headD 0).Nodup := by
      have := Pr.told_heads G td
      rw [← m2, List.map_map] at this
      exact this
    refine ⟨as2, SqL.of (s11 _ _ hag), by omega, lstI H10, fun x hx => ⟨s11 _ _ (l3 x hx).1, ?_⟩, nd1, fun l4 zs1 n4 pz1 pw1 => ?_⟩
    · obtain ⟨q, hq, e⟩ := (l3 x hx).2
      rw [e]
      exact Pr.prt_ne G (td2.inB hq)
    have s12 := same_upd (o := .lst (List.map V.ref zs1)) n4
    have h12 : (upd H11 l4 (.lst (List.map V.ref zs1))) l4 = some (.lst (List.map V.ref zs1)) := upd_same
    generalize upd H11 l4 (.lst (List.map V.ref zs1)) = H12 at *
    have s912 := s10.trans (s11.trans s12)
    refine ⟨us, SqL.of (s912 _ _ hkp9), by omega, lstI H5, fun x hx => ⟨s912 _ _ (hus9 x hx), ?_⟩, nd2, fun l5 zs2 n5 pz2 pw2 => ?_⟩
    · obtain ⟨q, hq, e⟩ := (l2 x hx).2
      rw [e]
      exact Pr.prt_ne G (td.inB hq)
    have s13 := same_upd (o := .lst (List.map V.ref zs2)) n5
    have h13 : (upd H12 l5 (.lst (List.map V.ref zs2))) l5 = some (.lst (List.map V.ref zs2)) := upd_same
    generalize upd H12 l5 (.lst (List.map V.ref zs2)) = H13 at *
    have pT : (as2.map (lstI H10)).Perm (us.map (lstI H5)) := by
      rw [m3, m2]
      exact (td2.pm.trans td.pm.symm).map _
    have eqL : zs1.map (lstI H10) = zs2.map (lstI H5) := by
      refine Pr.heads_one ((pz1.map _).trans (pT.trans (pz2.map _).symm)) (by rw [List.pairwise_map]; exact pw1) (by rw [List.pairwise_map]; exact pw2) ?_
      exact ((pz1.map (lstI H10)).map fun x : List Int => x.headD 0).nodup_iff.mpr (by rw [List.map_map]; exact nd1)
    have r1 := rep_lists (H := H13) (L := lstI H10) (s13 _ _ h12) fun a ha => s13 _ _ (s12 _ _ (s11 _ _ (l3 a (pz1.mem_iff.mp ha)).1))
    have r2 := rep_lists (H := H13) (L := lstI H5) h13 fun a ha => s13 _ _ (s912 _ _ (hus9 a (pz2.mem_iff.mp ha)))
    rw [eqL] at r1
    exact ⟨_, r1, r2, ⟨_, rfl⟩, depth_lists _, kk _⟩
end
theorem all_mk {l : PySem.W.OpenLaw} {w : World} {K : PySem.W.Frag} {h : Heap} {mg : Str → Option Value} {fa : Addr} (X : K.In h) (G : h.Ns mainGlobals mg) (hfa : mg "law" = some (.ref fa))
    {f0 : Addr} {od0 an0 : Option Addr} {sl0 : Array (Option Value)} {oc0 kV0 dc0 pm0 cd0 ct0 : Value} {f1 : Addr} {od1 an1 : Option Addr} {sl1 : Array (Option Value)} {oc1 kV1 dc1 pm1 cd1 ct1 : Value} {f2 : Addr} {od2 an2 : Option Addr} {sl2 : Array (Option Value)} {oc2 kV2 dc2 pm2 ct2 : Value} {f3 : Addr} {od3 an3 : Option Addr} {sl3 : Array (Option Value)} {oc3 kV3 dc3 pm3 cd3 ct3 : Value} {f4 : Addr} {od4 an4 : Option Addr} {sl4 : Array (Option Value)} {oc4 kV4 dc4 pm4 cd4 ct4 : Value} {f5 : Addr} {od5 an5 : Option Addr} {sl5 : Array (Option Value)} {oc5 kV5 dc5 pm5 cd5 ct5 : Value} {f6 : Addr} {od6 an6 : Option Addr} {sl6 : Array (Option Value)} {oc6 kV6 dc6 pm6 cd6 ct6 : Value} {f7 : Addr} {od7 an7 : Option Addr} {sl7 : Array (Option Value)} {oc7 kV7 dc7 pm7 cd7 ct7 : Value} {f8 : Addr} {od8 an8 : Option Addr} {sl8 : Array (Option Value)} {oc8 kV8 dc8 pm8 cd8 ct8 : Value} {f9 : Addr} {od9 an9 : Option Addr} {sl9 : Array (Option Value)} {oc9 kV9 dc9 pm9 cd9 ct9 : Value} {f10 : Addr} {od10 an10 : Option Addr} {sl10 : Array (Option Value)} {oc10 kV10 dc10 pm10 cd10 ct10 : Value} {f11 : Addr} {od11 an11 : Option Addr} {sl11 : Array (Option Value)} {oc11 kV11 dc11 pm11 cd11 ct11 : Value} {f12 : Addr} {od12 an12 : Option Addr} {sl12 : Array (Option Value)} {oc12 kV12 dc12 pm12 cd12 ct12 : Value} {f13 : Addr} {od13 an13 : Option Addr} {sl13 : Array (Option Value)} {oc13 kV13 dc13 pm13 cd13 ct13 : Value} {tc tp : Addr}
    (a0 : PySem.W.nsIn K mainGlobals "goals" = some (some (.ref f0))) (l0 : K.lookup f0 = some ⟨oc0, od0, .func (PySem.W.fnOf "goals" "goals" (defArgs (top 1)) (defBody (top 1)) (defScope (top 1)) .none kV0 dc0 pm0 an0 cd0 ct0), sl0⟩) (e0 : PySem.W.codeIn K cd0 "goals" = true) (k0 : PySem.W.keepIn K (.ref f0) = true)
    (a1 : PySem.W.nsIn K mainGlobals "steps_from" = some (some (.ref f1))) (l1 : K.lookup f1 = some ⟨oc1, od1, .func (PySem.W.fnOf "steps_from" "steps_from" (defArgs (top 3)) (defBody (top 3)) (defScope (top 3)) .none kV1 dc1 pm1 an1 cd1 ct1), sl1⟩) (e1 : PySem.W.codeIn K cd1 "steps_from" = true) (k1 : PySem.W.keepIn K (.ref f1) = true)
    (a2 : PySem.W.nsIn K mainGlobals "parts" = some (some (.ref f2))) (l2 : K.lookup f2 = some ⟨oc2, od2, .func (PySem.W.fnOf "parts" "parts" (defArgs (top 4)) (defBody (top 4)) (defScope (top 4)) .none kV2 dc2 pm2 an2 (Value.ref tc) ct2), sl2⟩) (e2 : PySem.W.codeIn K (Value.ref tc) "parts" = true) (k2 : PySem.W.keepIn K (.ref f2) = true)
    (a3 : PySem.W.nsIn K mainGlobals "_law_cell" = some (some (.ref f3))) (l3 : K.lookup f3 = some ⟨oc3, od3, .func (PySem.W.fnOf "_law_cell" "_law_cell" (defArgs (top 6)) (defBody (top 6)) (defScope (top 6)) .none kV3 dc3 pm3 an3 cd3 ct3), sl3⟩) (e3 : PySem.W.codeIn K cd3 "_law_cell" = true) (k3 : PySem.W.keepIn K (.ref f3) = true)
    (a4 : PySem.W.nsIn K mainGlobals "_law_mixed" = some (some (.ref f4))) (l4 : K.lookup f4 = some ⟨oc4, od4, .func (PySem.W.fnOf "_law_mixed" "_law_mixed" (defArgs (top 7)) (defBody (top 7)) (defScope (top 7)) .none kV4 dc4 pm4 an4 cd4 ct4), sl4⟩) (e4 : PySem.W.codeIn K cd4 "_law_mixed" = true) (k4 : PySem.W.keepIn K (.ref f4) = true)
    (a5 : PySem.W.nsIn K mainGlobals "_law_goal" = some (some (.ref f5))) (l5 : K.lookup f5 = some ⟨oc5, od5, .func (PySem.W.fnOf "_law_goal" "_law_goal" (defArgs (top 8)) (defBody (top 8)) (defScope (top 8)) .none kV5 dc5 pm5 an5 cd5 ct5), sl5⟩) (e5 : PySem.W.codeIn K cd5 "_law_goal" = true) (k5 : PySem.W.keepIn K (.ref f5) = true)
    (a6 : PySem.W.nsIn K mainGlobals "_law_place" = some (some (.ref f6))) (l6 : K.lookup f6 = some ⟨oc6, od6, .func (PySem.W.fnOf "_law_place" "_law_place" (defArgs (top 9)) (defBody (top 9)) (defScope (top 9)) .none kV6 dc6 pm6 an6 cd6 ct6), sl6⟩) (e6 : PySem.W.codeIn K cd6 "_law_place" = true) (k6 : PySem.W.keepIn K (.ref f6) = true)
    (a7 : PySem.W.nsIn K mainGlobals "_law_board" = some (some (.ref f7))) (l7 : K.lookup f7 = some ⟨oc7, od7, .func (PySem.W.fnOf "_law_board" "_law_board" (defArgs (top 10)) (defBody (top 10)) (defScope (top 10)) .none kV7 dc7 pm7 an7 cd7 ct7), sl7⟩) (e7 : PySem.W.codeIn K cd7 "_law_board" = true) (k7 : PySem.W.keepIn K (.ref f7) = true)
    (a8 : PySem.W.nsIn K mainGlobals "_law_copy" = some (some (.ref f8))) (l8 : K.lookup f8 = some ⟨oc8, od8, .func (PySem.W.fnOf "_law_copy" "_law_copy" (defArgs (top 11)) (defBody (top 11)) (defScope (top 11)) .none kV8 dc8 pm8 an8 cd8 ct8), sl8⟩) (e8 : PySem.W.codeIn K cd8 "_law_copy" = true) (k8 : PySem.W.keepIn K (.ref f8) = true)
    (a9 : PySem.W.nsIn K mainGlobals "_law_goals" = some (some (.ref f9))) (l9 : K.lookup f9 = some ⟨oc9, od9, .func (PySem.W.fnOf "_law_goals" "_law_goals" (defArgs (top 12)) (defBody (top 12)) (defScope (top 12)) .none kV9 dc9 pm9 an9 cd9 ct9), sl9⟩) (e9 : PySem.W.codeIn K cd9 "_law_goals" = true) (k9 : PySem.W.keepIn K (.ref f9) = true)
    (a10 : PySem.W.nsIn K mainGlobals "_law_rising" = some (some (.ref f10))) (l10 : K.lookup f10 = some ⟨oc10, od10, .func (PySem.W.fnOf "_law_rising" "_law_rising" (defArgs (top 13)) (defBody (top 13)) (defScope (top 13)) .none kV10 dc10 pm10 an10 cd10 ct10), sl10⟩) (e10 : PySem.W.codeIn K cd10 "_law_rising" = true) (k10 : PySem.W.keepIn K (.ref f10) = true)
    (a11 : PySem.W.nsIn K mainGlobals "_law_come" = some (some (.ref f11))) (l11 : K.lookup f11 = some ⟨oc11, od11, .func (PySem.W.fnOf "_law_come" "_law_come" (defArgs (top 14)) (defBody (top 14)) (defScope (top 14)) .none kV11 dc11 pm11 an11 cd11 ct11), sl11⟩) (e11 : PySem.W.codeIn K cd11 "_law_come" = true) (k11 : PySem.W.keepIn K (.ref f11) = true)
    (a12 : PySem.W.nsIn K mainGlobals "_law_told" = some (some (.ref f12))) (l12 : K.lookup f12 = some ⟨oc12, od12, .func (PySem.W.fnOf "_law_told" "_law_told" (defArgs (top 15)) (defBody (top 15)) (defScope (top 15)) .none kV12 dc12 pm12 an12 cd12 ct12), sl12⟩) (e12 : PySem.W.codeIn K cd12 "_law_told" = true) (k12 : PySem.W.keepIn K (.ref f12) = true)
    (a13 : PySem.W.nsIn K mainGlobals "law" = some (some (.ref f13))) (l13 : K.lookup f13 = some ⟨oc13, od13, .func (PySem.W.fnOf "law" "law" (defArgs (top 16)) (defBody (top 16)) (defScope (top 16)) .none kV13 dc13 pm13 an13 cd13 ct13), sl13⟩) (e13 : PySem.W.codeIn K cd13 "law" = true) (k13 : PySem.W.keepIn K (.ref f13) = true)
    (z_bool : PySem.W.nsIn K mainGlobals "bool" = some none)
    (z_enumerate : PySem.W.nsIn K mainGlobals "enumerate" = some none)
    (z_int : PySem.W.nsIn K mainGlobals "int" = some none)
    (z_isinstance : PySem.W.nsIn K mainGlobals "isinstance" = some none)
    (z_len : PySem.W.nsIn K mainGlobals "len" = some none)
    (z_list : PySem.W.nsIn K mainGlobals "list" = some none)
    (z_max : PySem.W.nsIn K mainGlobals "max" = some none)
    (z_range : PySem.W.nsIn K mainGlobals "range" = some none)
    (z_set : PySem.W.nsIn K mainGlobals "set" = some none)
    (z_sorted : PySem.W.nsIn K mainGlobals "sorted" = some none)
    (z_tuple : PySem.W.nsIn K mainGlobals "tuple" = some none)
    : ∃ fd : FuncData, (∀ (s : Shared) (v : Value), BindsTo s fd ⟨[v], []⟩ [("_law_script", v)]) ∧ ∀ base : Heap, K.In base → base.Ns mainGlobals mg → LamB base mg tc tp → FnOk l.prog w K mg base (CX1 l.prog w) 30 fa fd ["_law_script"] (spLaw K tp) := by
  have e := hfa.symm.trans (PySem.W.mg_of X G a13)
  cases e
  have T : Txt K mg tc := ⟨PySem.W.mg_none_of X G z_bool, PySem.W.mg_none_of X G z_enumerate, PySem.W.mg_none_of X G z_int, PySem.W.mg_none_of X G z_isinstance, PySem.W.mg_none_of X G z_len, PySem.W.mg_none_of X G z_list, PySem.W.mg_none_of X G z_max, PySem.W.mg_none_of X G z_range, PySem.W.mg_none_of X G z_set, PySem.W.mg_none_of X G z_sorted, PySem.W.mg_none_of X G z_tuple, ⟨_, _, fun_mk l0 e0 k0, PySem.W.mg_of X G a0⟩, ⟨_, _, fun_mk l1 e1 k1, PySem.W.mg_of X G a1⟩, ⟨_, _, fun_mk l2 e2 k2, PySem.W.mg_of X G a2⟩, ⟨_, _, fun_mk l3 e3 k3, PySem.W.mg_of X G a3⟩, ⟨_, _, fun_mk l4 e4 k4, PySem.W.mg_of X G a4⟩, ⟨_, _, fun_mk l5 e5 k5, PySem.W.mg_of X G a5⟩, ⟨_, _, fun_mk l6 e6 k6, PySem.W.mg_of X G a6⟩, ⟨_, _, fun_mk l7 e7 k7, PySem.W.mg_of X G a7⟩, ⟨_, _, fun_mk l8 e8 k8, PySem.W.mg_of X G a8⟩, ⟨_, _, fun_mk l9 e9 k9, PySem.W.mg_of X G a9⟩, ⟨_, _, fun_mk l10 e10 k10, PySem.W.mg_of X G a10⟩, ⟨_, _, fun_mk l11 e11 k11, PySem.W.mg_of X G a11⟩, ⟨_, _, fun_mk l12 e12 k12, PySem.W.mg_of X G a12⟩, ⟨_, _, _, _, _, PySem.W.mg_of X G a2, l2, rfl⟩⟩
  exact ⟨_, fun s v => .of_eq rfl, fun base _ _ LB => (ok_law T LB (fun_mk l13 e13 k13)).mono (by decide)⟩
theorem walk {tc tp : Addr} {l : PySem.W.OpenLaw} {q : Program} {loose : List Str} {XP : (Str → Option Value) → Heap → Prop} {YP : World → Heap → Prop} {d : DefRec} {K : Params → PySem.W.Frag} (hn : l.most = some 63) (hdf : d.params.defaults = [])
    (hY : ∀ (w : World) (h : Heap), YP w h → (K w.params).In h) (hTp : ∀ (w : World) (h : Heap), YP w h → h.get? tp = some (PySem.W.tabObj #[]) ∧ PySem.W.CodeHd h tc tp ∧ (K w.params).lookup tp = none)
    (F : ∀ (w : World) (mg : Str → Option Value) (fa : Addr) (h : Heap), (K w.params).In h → h.Ns mainGlobals mg → mg d.name = some (.ref fa) →
      ∃ fd : FuncData, (∀ (s : Shared) (u : Value), BindsTo s fd ⟨[u], []⟩ [("_law_script", u)]) ∧ ∀ base : Heap, (K w.params).In base → base.Ns mainGlobals mg → LamB base mg tc tp → FnOk l.prog w (K w.params) mg base (CX1 l.prog w) 30 fa fd ["_law_script"] (spLaw (K w.params) tp)) :
    PySem.W.WalkO q loose XP YP l.row.toRowW d [] (fun f vs => PySem.call f vs) :=
  L2.walk_ofT (tc := tc) (tp := tp) (dsc := dsc) (n := 63) (k := 30) (x := "_law_script") (CX := fun w => CX1 l.prog w) (sp := fun w => spLaw (K w.params) tp) hn (by decide) hdf ⟨rfl, by decide, by decide⟩ hY hTp F (fun _ _ a ns hl hT hS => ⟨a, ns, rfl, hT, hS, hl, fun _ => rfl⟩) fun _ _ _ _ _ z => (strict1 _ _) _ _ _ _ _ z
end K26
open PySem PySem.W PyProof.Rows
local macro_rules | `(tactic| o_head $H) => `(tactic| (refine (fun (_ : PySem.W.Hook) => ?_) $H; assumption))
theorem K26.pre (h : PySem.W.OpenRow.Holds (PySem.W.OpenLaw.row PySem.Challenge.rw_pressluck_k26_parts)) : PySem.W.OpenRow.Holds (PySem.W.OpenLaw.row PySem.Challenge.rw_pressluck_k26_parts) := by
  k_head
noncomputable def K26.hka : List Addr := [2, 3, 6, 15, 18, 19, 20, 22, 23, 25, 26, 27, 30, 31, 32, 34, 35, 37, 38, 39, 41, 42, 44, 45, 46, 48, 49, 51, 52, 53, 56, 57, 58, 61, 62, 63, 66, 67, 68, 71, 72, 73, 75, 76, 78, 79, 80, 82, 83, 85, 86, 87, 90, 91, 92, 95, 96]
theorem K26.hkp (P : PySem.Params) : K26.hka = (K26.pre.heap_1 P).map (·.1) := by kernel_rfl
noncomputable def K26.vw : PySem.Program := { PySem.Challenge.pw_pressluck_k26_parts with main := { PySem.Challenge.pw_pressluck_k26_parts.main with body := [K26.top 1, K26.top 3, K26.top 4, K26.top 6, K26.top 7, K26.top 8, K26.top 9, K26.top 10, K26.top 11, K26.top 12, K26.top 13, K26.top 14, K26.top 15, K26.top 16] } }
theorem K26.run (w : World) : Hd.Runs (RowW.prog (OpenRow.toRowW (PySem.W.OpenLaw.row PySem.Challenge.rw_pressluck_k26_parts))) K26.vw [] (fun s => xlAt K26.vw [] s && recOk (RowW.records (OpenRow.toRowW (PySem.W.OpenLaw.row PySem.Challenge.rw_pressluck_k26_parts))) s) (Hook.obs (PySem.W.kmHook K26.pre.heap_1 K26.hka K26.hkp [28])) (Hook.val (PySem.W.kmHook K26.pre.heap_1 K26.hka K26.hkp [28])) 984 true w := fun os => by kernel_rfl
set_option maxRecDepth 100000 in
set_option maxHeartbeats 0 in
theorem PySem.Challenge.cw_pressluck_k26_parts_holds : PySem.Challenge.rw_pressluck_k26_parts.Holds := by
  w_on; refine holds_law (by decide +kernel) fun said => ?_
  refine holds_open (q := K26.vw) (loose := []) (Xt := (fun s => xlAt K26.vw [] s && recOk (RowW.records (OpenRow.toRowW (PySem.W.OpenLaw.row PySem.Challenge.rw_pressluck_k26_parts))) s)) (XP := XL K26.vw []) (Yf := Hook.obs (PySem.W.kmHook K26.pre.heap_1 K26.hka K26.hkp [28])) (Ya := Hook.val (PySem.W.kmHook K26.pre.heap_1 K26.hka K26.hkp [28])) (YP := Hook.says (PySem.W.kmHook K26.pre.heap_1 K26.hka K26.hkp [28])) (N := 984) (Hd.left_runQ (by kernel_rfl) (by decide) (fun s => by kernel_rfl) K26.run) (Hook.of (PySem.W.kmHook K26.pre.heap_1 K26.hka K26.hkp [28])) (Hook.keeps (PySem.W.kmHook K26.pre.heap_1 K26.hka K26.hkp [28])) (fun s e => xl_of s (Bool.and_eq_true_iff.mp e).1) XL.keeps (by rfl) (by rfl) (by rfl) (fun s e => recFacts_of (Bool.and_eq_true_iff.mp e).2) (by rfl) (by first | assumption | decide +kernel) (by decide +kernel) ⟨rfl, rfl, rfl, rfl, rfl, by decide +kernel⟩ ?hw ?hc
  (case hw => w_witness2)
  k_fill
  refine K26.walk (tc := 30) (tp := 28) (l := PySem.Challenge.rw_pressluck_k26_parts) rfl rfl (fun w h Y => PySem.W.km_in_of Y) (fun w h Y => ⟨PySem.W.km_tabs_of Y _ (.head _), PySem.W.codeHd_of_K (PySem.W.km_in_of Y) (by kernel_rfl), by kernel_rfl⟩) ?F
  case F =>
    intro w mg fa h KX G hmg
    refine' K26.all_mk (tc := 30) (tp := 28) KX G hmg ?a0 ?l0 ?e0 ?k0 ?a1 ?l1 ?e1 ?k1 ?a2 ?l2 ?e2 ?k2 ?a3 ?l3 ?e3 ?k3 ?a4 ?l4 ?e4 ?k4 ?a5 ?l5 ?e5 ?k5 ?a6 ?l6 ?e6 ?k6 ?a7 ?l7 ?e7 ?k7 ?a8 ?l8 ?e8 ?k8 ?a9 ?l9 ?e9 ?k9 ?a10 ?l10 ?e10 ?k10 ?a11 ?l11 ?e11 ?k11 ?a12 ?l12 ?e12 ?k12 ?a13 ?l13 ?e13 ?k13 ?z_bool ?z_enumerate ?z_int ?z_isinstance ?z_len ?z_list ?z_max ?z_range ?z_set ?z_sorted ?z_tuple
    (case a0 => k_is)
    (case l0 => k_is)
    (case e0 => k_is)
    (case k0 => k_is)
    (case a1 => k_is)
    (case l1 => k_is)
    (case e1 => k_is)
    (case k1 => k_is)
    (case a2 => k_is)
    (case l2 => k_is)
    (case e2 => k_is)
    (case k2 => k_is)
    (case a3 => k_is)
    (case l3 => k_is)
    (case e3 => k_is)
    (case k3 => k_is)
    (case a4 => k_is)
    (case l4 => k_is)
    (case e4 => k_is)
    (case k4 => k_is)
    (case a5 => k_is)
    (case l5 => k_is)
    (case e5 => k_is)
    (case k5 => k_is)
    (case a6 => k_is)
    (case l6 => k_is)
    (case e6 => k_is)
    (case k6 => k_is)
    (case a7 => k_is)
    (case l7 => k_is)
    (case e7 => k_is)
    (case k7 => k_is)
    (case a8 => k_is)
    (case l8 => k_is)
    (case e8 => k_is)
    (case k8 => k_is)
    (case a9 => k_is)
    (case l9 => k_is)
    (case e9 => k_is)
    (case k9 => k_is)
    (case a10 => k_is)
    (case l10 => k_is)
    (case e10 => k_is)
    (case k10 => k_is)
    (case a11 => k_is)
    (case l11 => k_is)
    (case e11 => k_is)
    (case k11 => k_is)
    (case a12 => k_is)
    (case l12 => k_is)
    (case e12 => k_is)
    (case k12 => k_is)
    (case a13 => k_is)
    (case l13 => k_is)
    (case e13 => k_is)
    (case k13 => k_is)
    (case z_bool => k_is)
    (case z_enumerate => k_is)
    (case z_int => k_is)
    (case z_isinstance => k_is)
    (case z_len => k_is)
    (case z_list => k_is)
    (case z_max => k_is)
    (case z_range => k_is)
    (case z_set => k_is)
    (case z_sorted => k_is)
    (case z_tuple => k_is)
