import PyProof.Rows.All
import Wide.All
import OpenK.AllK
import Wide.FinOn
import Lean
import PyProof.EqAt
import PyProof.EqKinds
import PyProof.TupleCall
import PyProof.NeKinds
import PySem.Challenge.RW_pressluck_k56_open_ways
set_option Elab.async false
set_option linter.all false
set_option maxRecDepth 100000
local macro_rules | `(tactic| omega) => `(tactic| lia)
namespace Hd
open PySem PySem.W PyProof.Rows
noncomputable def runBy (ok : Thread → Bool) (st : SharedT → Thread → Option (SharedT × Thread)) (n : Nat) : SharedT → Thread → Option SharedT :=
  @Nat.rec (fun _ => SharedT → Thread → Option SharedT) (fun _ _ => none)
    (fun _ ih s t => @Bool.rec (fun _ => Option SharedT) (@Bool.rec (fun _ => Option SharedT) none (@Option.rec (SharedT × Thread) (fun _ => Option SharedT) none (fun r => @Prod.rec _ _ (fun _ => Option SharedT) (fun a b => ih a b) r) (st s t)) (ok t)) (some s) (through t)) n
theorem runBy_spec {tb : String → Option Builtin} {p : Program} {w : World} {n₀ : Nat} {ann : Option Value} : ∀ (n : Nat) (s : SharedT) (t : Thread) (s' : SharedT), runBy (stepOk n₀ ann) (stepT (denote tb) p w) n s t = some s' → topRun tb p w n₀ ann n s.abs t = some s'.abs
  | 0, _, _, _, h => by cases h
  | n + 1, s, t, s', h => by
    unfold topRun
    replace h : @Bool.rec (fun _ => Option SharedT) (@Bool.rec (fun _ => Option SharedT) none (@Option.rec (SharedT × Thread) (fun _ => Option SharedT) none (fun r => @Prod.rec _ _ (fun _ => Option SharedT) (fun a b => runBy (stepOk n₀ ann) (stepT (denote tb) p w) n a b) r) (stepT (denote tb) p w s t)) (stepOk n₀ ann t)) (some s) (through t) = some s' := h
    cases ht : through t with
    | true => rw [ht] at h; cases h; rfl
    | false =>
      rw [ht] at h
      cases hk : stepOk n₀ ann t with
      | false => rw [hk] at h; cases h
      | true =>
        rw [hk] at h
        cases hs : stepT (denote tb) p w s t with
        | none => rw [hs] at h; cases h
        | some r => obtain ⟨s₂, t₂⟩ := r; rw [hs] at h; rw [stepT_spec hs]; exact runBy_spec n s₂ t₂ s' h
noncomputable def bt (P : Params) : BT := ((boot_heap P).objs.toList.foldl (fun (x : BT × Nat) o => (x.1.ins x.2 o, x.2 + 1)) (.nil, 0)).1
noncomputable def bootT (w : World) (os : OsState) : SharedT := ⟨bt w.params, 11, {}, Array.mk [], boot_drawn, boot_toks, os⟩
theorem bootT_abs (w : World) (os : OsState) : (bootT w os).abs = ⟨boot_heap w.params, Array.mk [], boot_drawn, boot_toks, os⟩ := by kernel_rfl
theorem bootT_size (w : World) : ((boot_heap w.params).isNs mainGlobals && (Array.mk [] : Array GenState).size == 0, (boot_heap w.params).objs.size, (boot_heap w.params).nsMap mainGlobals "__annotations__") = (true, 11, some (.ref 6)) := by kernel_rfl
theorem left_run {p q : Program} {loose : List Str} {Xt : Shared → Bool} {α : Type} {Yf : Shared → α} {Ya : World → α} {N : Nat} {g0 : Bool}
    (open_ : ∀ w : World, (fencedOpening treeTable p w N).map (fun s => (s.heap, s.gens, s.drawn, s.toks)) = some (boot_heap w.params, Array.mk [], boot_drawn, boot_toks))
    (run : ∀ (w : World) (os : OsState), (runBy (stepOk 11 (some (.ref 6))) (stepT (denote treeTable) p w) N (bootT w os) (topStub p)).map (fun s => ((staticsOk (importedModules p.main.body) (boot_heap w.params) s.abs.heap && namesBound p s.abs.heap && gensDone s.abs && laidKept (boot_heap w.params) s.abs.heap), openSeen q loose (importedModules p.main.body) Xt g0 s.abs, Yf s.abs)) = some (true, openGood q loose, Ya w)) :
    LeftO p q loose Xt Yf Ya N g0 := fun w => by
  obtain ⟨⟨h, gs, d, k, os⟩, e, e'⟩ := Option.map_eq_some_iff.mp (open_ w)
  obtain ⟨rfl, rfl, rfl, rfl⟩ : h = boot_heap w.params ∧ gs = Array.mk [] ∧ d = boot_drawn ∧ k = boot_toks := by simpa using e'
  obtain ⟨z1, z2, z3⟩ : _ ∧ _ ∧ _ := by simpa only [Prod.mk.injEq] using bootT_size w
  obtain ⟨s, r, l⟩ := Option.map_eq_some_iff.mp (run w os)
  obtain ⟨l1, l2, l3⟩ : _ ∧ _ ∧ _ := by simpa only [Prod.mk.injEq] using l
  have r := runBy_spec _ _ _ _ r
  rw [bootT_abs] at r
  have t : topFrom treeTable p w N ⟨boot_heap w.params, Array.mk [], boot_drawn, boot_toks, os⟩ = some s.abs := by
    unfold topFrom
    dsimp only
    rw [z1, z2, z3, r]
    show (match staticsOk (importedModules p.main.body) (boot_heap w.params) s.abs.heap && namesBound p s.abs.heap && gensDone s.abs && laidKept (boot_heap w.params) s.abs.heap with | true => _ | false => _) = _
    rw [l1]
  unfold openEnds
  rw [e]
  show ((topFrom treeTable p w N ⟨boot_heap w.params, Array.mk [], boot_drawn, boot_toks, os⟩)).map _ = _
  rw [t]
  show some (_, _) = _
  rw [l2, l3]
/-- the run of a top, looked at when it is through: what is asked of it, in one world -/
noncomputable def Runs (p q : Program) (loose : List Str) (Xt : Shared → Bool) {α : Type} (Yf : Shared → α) (Ya : World → α) (N : Nat) (g0 : Bool) (w : World) : Prop :=
  ∀ os : OsState, (runBy (PySem.W.Fast.tw6613529449190102663 11 (some (.ref 6))) (PySem.W.Fast.tw10156331382660048174 (PySem.W.Fast.tw11892475500146522536 PySem.W.Fast.tw14364793385576792824) p w) N (bootT w os) (topStub p)).map (fun s => ((staticsOk (importedModules p.main.body) (boot_heap w.params) s.abs.heap && namesBound p s.abs.heap && gensDone s.abs && laidKept (boot_heap w.params) s.abs.heap), PySem.W.Fast.tw4187177175401517315 q loose (importedModules p.main.body) Xt g0 s.abs, Yf s.abs)) = some (true, openGood q loose, Ya w)
theorem left_runQ {p q : Program} {loose : List Str} {Xt : Shared → Bool} {α : Type} {Yf : Shared → α} {Ya : World → α} {N : Nat} {g0 : Bool}
    (e : opening p = plainProg p.main.scope.names) (hN : Nat.ble 600 N = true) (f : ∀ s, fenceModules? p s = some s)
    (run : ∀ w : World, Runs p q loose Xt Yf Ya N g0 w) :
    LeftO p q loose Xt Yf Ya N g0 := by
  refine left_run (boot_open e hN f) ?_
  unfold Runs at run
  rw [PySem.W.Fast.te6613529449190102663, PySem.W.Fast.te10156331382660048174, PySem.W.Fast.te11892475500146522536, PySem.W.Fast.te14364793385576792824, PySem.W.Fast.te4187177175401517315]
  exact run
end Hd
namespace K56
open PySem PySem.Spec PyProof.Rows
noncomputable def top (i : Nat) : Stmt := PySem.Challenge.pw_pressluck_k56_open_ways.main.body.getD i (.Pass ⟨0, 0, 0, 0⟩)
end K56
section Frnt
open PySem PySem.W PyProof.Rows
local macro_rules | `(tactic| o_head $H) => `(tactic| (refine (fun (_ : PySem.W.Hook) => ?_) $H; assumption))
theorem K56.pre (h : PySem.W.OpenRow.Holds (PySem.W.OpenLaw.row PySem.Challenge.rw_pressluck_k56_open_ways)) : PySem.W.OpenRow.Holds (PySem.W.OpenLaw.row PySem.Challenge.rw_pressluck_k56_open_ways) := by
  k_head
noncomputable def K56.hka : List Addr := [2, 3, 15, 22, 23, 24, 25, 28, 35, 36, 37, 40, 47, 48, 49, 52, 59, 60, 61, 64, 71, 73, 74, 76, 77, 78, 79, 80, 83, 90, 91, 92, 95, 102, 103, 104, 107, 114, 115, 116, 119, 126, 127, 128, 131, 138, 139, 140, 143, 150, 151, 152, 155, 162, 163, 164, 167, 169, 170, 172, 173, 174, 176, 177, 179, 180, 181, 183, 184, 186, 187, 188, 191, 192, 193, 195, 196, 198, 199, 200, 203, 204, 205, 208, 209, 210, 212, 213, 215, 216, 217, 219, 220, 222, 223, 224, 226, 227, 229, 230, 231, 233, 234, 236, 237, 238, 240, 241, 243, 244, 245, 248, 249, 250, 253, 254, 255, 258, 259, 260, 262, 263, 265, 266, 267, 270, 271, 272, 274, 275, 277, 278, 279, 282, 283, 284, 287, 288, 289, 292, 293, 294, 297, 298, 299, 301, 302, 304, 305, 313, 315, 316, 318, 319, 320, 322, 323, 325, 326, 327, 329, 330, 332, 333, 334, 336, 337, 339, 340, 341, 343, 344, 346, 347, 348, 350, 351, 353, 354, 355, 357, 358, 360, 361, 362, 365, 366, 367, 369, 370, 372, 373, 374, 376, 377, 379, 380, 381, 384, 385, 386, 389, 390, 391, 393, 394, 396, 397, 398, 399, 400, 401, 402, 412, 414, 415, 417, 418, 419, 421, 422, 424, 425, 426, 427, 428, 429, 430, 433, 435, 436, 438, 439, 440, 443, 444, 445, 447, 448, 450, 451, 452, 455, 456, 457, 459, 460, 462, 463, 464, 466, 467, 469, 470, 471, 474, 475, 476, 478, 479, 481, 482, 483, 485, 486, 488, 489, 490, 493, 494, 495, 498, 499, 500, 502, 503, 505, 506, 507, 509, 510, 512, 513, 514, 516, 517, 519, 520]
theorem K56.hkp (P : PySem.Params) : K56.hka = (K56.pre.heap_1 P).map (·.1) := by kernel_rfl
noncomputable def K56.vw : PySem.Program := { PySem.Challenge.pw_pressluck_k56_open_ways with main := { PySem.Challenge.pw_pressluck_k56_open_ways.main with body := [K56.top 1, K56.top 2, K56.top 3, K56.top 4, K56.top 5, K56.top 6, K56.top 7, K56.top 8, K56.top 9, K56.top 10, K56.top 11, K56.top 12, K56.top 14, K56.top 15, K56.top 16, K56.top 18, K56.top 19, K56.top 20, K56.top 21, K56.top 23, K56.top 24, K56.top 25, K56.top 26, K56.top 27, K56.top 28, K56.top 29, K56.top 30, K56.top 31, K56.top 32, K56.top 33, K56.top 34, K56.top 35, K56.top 36, K56.top 37, K56.top 38, K56.top 40, K56.top 41, K56.top 42, K56.top 43, K56.top 44, K56.top 45, K56.top 46, K56.top 47, K56.top 48, K56.top 50, K56.top 51, K56.top 52, K56.top 53, K56.top 54, K56.top 55, K56.top 56, K56.top 57, K56.top 58, K56.top 59] } }
theorem K56.run (w : World) : Hd.Runs (RowW.prog (OpenRow.toRowW (PySem.W.OpenLaw.row PySem.Challenge.rw_pressluck_k56_open_ways))) K56.vw [] (fun s => xlAt K56.vw [] s && recOk (RowW.records (OpenRow.toRowW (PySem.W.OpenLaw.row PySem.Challenge.rw_pressluck_k56_open_ways))) s) (Hook.obs (kHook K56.pre.heap_1 K56.hka K56.hkp)) (Hook.val (kHook K56.pre.heap_1 K56.hka K56.hkp)) 9314 true w := fun os => by kernel_rfl
end Frnt
/-! THE HAND LAYER, for ints, bools, texts, own classes, LISTS and tuples (index, slices, in, append, pop ..), calls, loops. Paste it whole ahead of your own text; what your proof does not reach may be deleted. -/
namespace L2
open PySem PySem.Spec PyProof.Rows

/-- a key: an int or a str -/
abbrev Key := Sum Int Str
noncomputable def keyIs : Key → Value → Bool
  | .inl k, v => Value.isInt k v
  | .inr x, v => Value.isStrOf x v
noncomputable def keyH (w : World) : Key → Int
  | .inl k => hashInt k
  | .inr x => hashStr w x
theorem keyIs_shape : ∀ {k : Key} {v : Value}, keyIs k v = true → (∃ i t, k = Sum.inl i ∧ v = Value.int i t) ∨ (∃ x t, k = Sum.inr x ∧ v = Value.str x t)
  | .inl i, v, h => by
    obtain ⟨t, e⟩ := Value.isInt_shape (k := i) (v := v) h
    exact .inl ⟨i, t, rfl, e⟩
  | .inr x, v, h => by
    obtain ⟨t, e⟩ := Value.isStrOf_shape (x := x) (v := v) h
    exact .inr ⟨x, t, rfl, e⟩
theorem keyIs_int (i : Int) (t : Tok) : keyIs (.inl i) (.int i t) = true := by simp [keyIs, Value.isInt]
theorem keyIs_str (x : Str) (t : Tok) : keyIs (.inr x) (.str x t) = true := by simp [keyIs, Value.isStrOf]
theorem key_ll (a b : Int) : decide ((Sum.inl a : Key) = Sum.inl b) = (a == b) := by
  by_cases e : a = b
  · subst e; simp
  · have h : ¬ (Sum.inl a : Key) = Sum.inl b := fun q => e (Sum.inl.inj q)
    rw [decide_eq_false h]
    exact (beq_eq_false_iff_ne.mpr e).symm
theorem key_rr (a b : Str) : decide ((Sum.inr a : Key) = Sum.inr b) = decide (a = b) := by
  by_cases e : a = b
  · subst e; simp
  · have h : ¬ (Sum.inr a : Key) = Sum.inr b := fun q => e (Sum.inr.inj q)
    rw [decide_eq_false h, decide_eq_false e]
theorem key_lr (a : Int) (b : Str) : decide ((Sum.inl a : Key) = Sum.inr b) = false := decide_eq_false (fun q => nomatch q)
theorem key_rl (a : Str) (b : Int) : decide ((Sum.inr a : Key) = Sum.inl b) = false := decide_eq_false (fun q => nomatch q)

noncomputable def mixKind (prog : Program) (w : World) : PySem.KeyKind prog w Key where
  is := keyIs
  hash := keyH w
  inj := fun v a b ha hb => by
    rcases keyIs_shape ha with ⟨i, t, rfl, rfl⟩ | ⟨x, t, rfl, rfl⟩
    · rcases keyIs_shape hb with ⟨j, u, rfl, e⟩ | ⟨y, u, rfl, e⟩
      · injection e with e1 _; rw [e1]
      · exact nomatch e
    · rcases keyIs_shape hb with ⟨j, u, rfl, e⟩ | ⟨y, u, rfl, e⟩
      · exact nomatch e
      · injection e with e1 _; rw [e1]
  byValue := fun k v h => by
    rcases keyIs_shape h with ⟨i, t, rfl, rfl⟩ | ⟨x, t, rfl, rfl⟩ <;> rfl
  pyHash := fun hv h => by
    rcases keyIs_shape hv with ⟨i, t, rfl, rfl⟩ | ⟨x, t, rfl, rfl⟩
    · exact wpAny_pyHash_int h
    · exact wpAny_pyHash_str h
  eqBool := fun hu hv h => by
    rcases keyIs_shape hu with ⟨i, t, rfl, rfl⟩ | ⟨x, t, rfl, rfl⟩
    · rcases keyIs_shape hv with ⟨j, u, rfl, rfl⟩ | ⟨y, u, rfl, rfl⟩
      · rw [key_ll] at h; exact wpAny_eqBool_int h
      · rw [key_lr] at h; exact SeqAt.EqAt.int_str i t y u _ _ _ _ h
    · rcases keyIs_shape hv with ⟨j, u, rfl, rfl⟩ | ⟨y, u, rfl, rfl⟩
      · rw [key_rl] at h; exact SeqAt.EqAt.str_int x t j u _ _ _ _ h
      · rw [key_rr] at h; exact wpAny_eqBool_str h
  «strs» := fun k x t v h => by
    rcases keyIs_shape h with ⟨i, u, rfl, e⟩ | ⟨y, u, rfl, e⟩
    · exact nomatch e
    · injection e with e1 _
      subst e1
      cases v <;> rfl

theorem mixKind_int (prog : Program) (w : World) (i : Int) (t : Tok) : (mixKind prog w).is (.inl i) (.int i t) = true := keyIs_int i t
theorem mixKind_str (prog : Program) (w : World) (x : Str) (t : Tok) : (mixKind prog w).is (.inr x) (.str x t) = true := keyIs_str x t
end L2

namespace L2
open PySem PySem.Spec PyProof.Rows

/-- a value, without the heap -/
inductive V where
  | non | bl (b : Bool) | int (i : Int) | str (x : Str) | byt (b : Array UInt8) | flt (b : UInt64) | ref (a : Addr) | ty (n : String)
  deriving DecidableEq

noncomputable def RelV : V → Value → Prop
  | .non, u => u = Value.none
  | .bl b, u => u = Value.bool b
  | .int i, u => ∃ t, u = Value.int i t
  | .str x, u => ∃ t, u = Value.str x t
  | .byt b, u => ∃ t, u = Value.bytes b t
  | .flt b, u => ∃ t, u = Value.float b t
  | .ref a, u => u = Value.ref a
  | .ty n, u => u = Value.type n

abbrev Vals : List V → List Value → Prop := Paired RelV
theorem Vals.length {xs : List V} {us : List Value} (r : Vals xs us) : xs.length = us.length := Paired.length r
theorem Vals.get : ∀ {xs : List V} {us : List Value} {i : Nat} {x : V}, Vals xs us → xs[i]? = some x → ∃ u, us[i]? = some u ∧ RelV x u
  | _, _, _, _, .nil, e => by simp at e
  | _, _, 0, _, .cons r _, e => by simp at e; subst e; exact ⟨_, rfl, r⟩
  | _, _, i + 1, x, .cons _ t, e => by
    obtain ⟨u, h1, h2⟩ := Vals.get (i := i) (x := x) t (by simpa using e)
    exact ⟨u, by simpa using h1, h2⟩
theorem Vals.set {x : V} {u : Value} (r : RelV x u) : ∀ {xs : List V} {us : List Value} (i : Nat), Vals xs us → Vals (xs.set i x) (us.set i u)
  | _, _, _, .nil => .nil
  | _, _, 0, .cons _ t => .cons r t
  | _, _, i + 1, .cons q t => .cons q (Vals.set r i t)
theorem Vals.append : ∀ {xs ys : List V} {us ws : List Value}, Vals xs us → Vals ys ws → Vals (xs ++ ys) (us ++ ws)
  | _, _, _, _, .nil, s => s
  | _, _, _, _, .cons r t, s => .cons r (Vals.append t s)
theorem Vals.take : ∀ {xs : List V} {us : List Value} (n : Nat), Vals xs us → Vals (xs.take n) (us.take n)
  | _, _, 0, _ => .nil
  | _, _, _ + 1, .nil => .nil
  | _, _, n + 1, .cons r t => .cons r (Vals.take n t)
theorem Vals.drop : ∀ {xs : List V} {us : List Value} (n : Nat), Vals xs us → Vals (xs.drop n) (us.drop n)
  | _, _, 0, r => r
  | _, _, _ + 1, .nil => .nil
  | _, _, n + 1, .cons _ t => Vals.drop n t
theorem Vals.none_of : ∀ {xs : List V} {us : List Value} {i : Nat}, Vals xs us → xs[i]? = none → us[i]? = none := fun {xs us i} r e => by
  have h1 := r.length
  have h2 : xs.length ≤ i := List.getElem?_eq_none_iff.mp e
  exact List.getElem?_eq_none_iff.mpr (by omega)

noncomputable def RelO : Option V → Option Value → Prop
  | some v, some u => RelV v u
  | none, none => True
  | _, _ => False
noncomputable def KV {κ : Type} : List (κ × V) → List (κ × Value) → Prop := Paired fun (p : κ × V) (q : κ × Value) => p.1 = q.1 ∧ RelV p.2 q.2

/-- a key of a dict (00_mix): an int or a text -/
noncomputable def kV : Key → V
  | .inl i => .int i
  | .inr x => .str x

/-- what stands at a tracked address -/
inductive HO where
  /-- a list -/
  | lst (xs : List V)
  /-- a tuple (never changes) -/
  | tup (xs : List V)
  /-- a dict whose keys are ints and texts; one whose keys are tuples of ints and texts (the empty one is both) -/
  | dK (kvs : List (Key × V)) | dT (kvs : List (List Key × V))
  /-- a set of ints: its members, its size -/
  | set (S : Int → Bool) (n : Nat)
  /-- an instance of the class at C, its dict at dx, its attributes -/
  | ins (C dx : Addr) (fs : List (Str × V))
  /-- the dict of the instance at x -/
  | own (x : Addr)
  /-- the dict of an exception -/
  | xd (fs : List (Str × V))
  /-- a bound method, f of x -/
  | met (f x : Addr)
  /-- a range object lo, lo + 1, .. below hi -/
  | rng (lo hi : Int)
  /-- a thing that is known to the object (the script; a dict while a loop walks it): read, never written while it is so -/
  | frz (o : Obj) (u : HO)
  /-- a code object's table -/
  | tbl (ps : Array Value)
  /-- any other thing, by what is true of its one object (a def of one's own: SetO a S n := HO.ext fun h => ..) -/
  | ext (φ : Heap → Prop)

abbrev Hp := Addr → Option HO
noncomputable def upd (H : Hp) (a : Addr) (o : HO) : Hp := fun b => if b = a then some o else H b
theorem upd_same {H : Hp} {a : Addr} {o : HO} : upd H a o a = some o := by unfold upd; rw [if_pos rfl]
theorem upd_ne {H : Hp} {a b : Addr} {o : HO} (h : b ≠ a) : upd H a o b = H b := by unfold upd; rw [if_neg h]
theorem upd_upd {H : Hp} {a : Addr} {o u : HO} : upd (upd H a o) a u = upd H a u := by
  funext b; unfold upd; split <;> rfl
/-- two objects of different content stand apart -/
theorem ne_of {H : Hp} {a b : Addr} {o u : HO} (h : H a = some o) (h' : H b = some u) (d : o ≠ u) : a ≠ b := by
  intro e; subst e; rw [h] at h'; exact d (Option.some.inj h')
theorem ne_of_none {H : Hp} {a b : Addr} {o : HO} (h : H a = some o) (h' : H b = none) : a ≠ b := by
  intro e; subst e; rw [h] at h'; cases h'

/-- a code object's table: empty, or with the one code that ps tells of (line, column, name) -/
noncomputable def TabAt (H : Hp) (h : Heap) (a : Addr) (ps : Array Value) : Prop := ∃ mo : Array Value, h.get? a = some { cls := .none, data := .fields mo } ∧
  (mo = #[] ∨ ∃ (l c : Value) (c1 : Addr) (q : Str) (t : Tok), ps = #[l, c, .str q t] ∧ mo = #[l, c, .ref c1] ∧ H c1 = some (.own a) ∧ h.CodeRec (.ref c1) q)
section
variable (P : Program) (w : World)
noncomputable def ObjOk (H : Hp) (h : Heap) (a : Addr) : HO → Prop
  | .lst xs => xs.length ≤ sizeLine ∧ ∃ (its : List Value) (n : Nat), Vals xs its ∧ h.get? a = some { cls := .type "list", data := .seq its.toArray n }
  | .tup xs => xs.length ≤ sizeLine ∧ ∃ its : List Value, Vals xs its ∧ IsTup h a its.toArray
  | .dK kvs => kvs.length ≤ sizeLine ∧ (a == sysModules) = false ∧ ∃ vs, KV kvs vs ∧ h.DictOf (mixKind P w) a vs
  | .dT kvs => kvs.length ≤ sizeLine ∧ (a == sysModules) = false ∧ ∃ xs : List (List Key × Addr × Value),
      Paired (fun (p : List Key × V) (q : List Key × Addr × Value) => p.1 = q.1 ∧ H q.2.1 = some (.tup (p.1.map kV)) ∧ RelV p.2 q.2.2) kvs xs ∧
      ∃ o es ep, h.get? a = some o ∧ o.ExactDict ∧ o.data = .dict es ep ∧ es.toList = xs.map (entryOfKey (tupleKind (mixKind P w))) ∧ (xs.map (·.1)).Nodup
  | .set S n => h.SetOf (intKind P w) a S n
  | .ins C dx fs => H dx = some (.own a) ∧ fs.length ≤ 1000 ∧ dx ≠ a ∧ h.get? a = some (PySem.W.instObj C dx) ∧
      ∃ mA, h.Ns1 dx mA ∧ (∀ f, RelO (fs.lookup f) (mA f)) ∧ PySem.Within mA (fs.map (·.1))
  | .own _ => ∃ o, h.get? a = some o
  | .xd fs => ∃ mA, h.Ns1 a mA ∧ ∀ f, RelO (fs.lookup f) (mA f)
  | .rng lo hi => ∃ t u v, h.get? a = some { cls := .type "range", data := .fields #[.int lo t, .int hi u, .int 1 v] }
  | .frz o u => h.get? a = some o ∧ ObjOk H h a u
  | .tbl ps => TabAt H h a ps
  | .met f x => h.get? a = some (PySem.W.methodObj (.ref f) (.ref x))
  | .ext φ => φ h ∧ (∃ o, h.get? a = some o) ∧ ∀ h1 h2 : Heap, φ h1 → (∀ o, h1.get? a = some o → h2.get? a = some o) → φ h2
/-- the abstract heap is held -/
noncomputable def HOk (H : Hp) (h : Heap) : Prop := ∀ a o, H a = some o → ObjOk P w H h a o
end

section
variable {P : Program} {w : World} {H H' : Hp} {h h' : Heap} {a : Addr} {o : HO}
theorem ObjOk.lt (x : ObjOk P w H h a o) : a < h.objs.size := by
  cases o with
  | lst xs => obtain ⟨_, _, _, _, e⟩ := x; exact Heap.lt_size e
  | tup xs => obtain ⟨_, _, _, p⟩ := x; exact p.lt
  | dK kvs => obtain ⟨_, _, _, _, o, _, _, e, _⟩ := x; exact Heap.lt_size e
  | dT kvs => obtain ⟨_, _, _, _, o, _, _, e, _⟩ := x; exact Heap.lt_size e
  | set S n => obtain ⟨o, _, _, _, e, _⟩ := x; exact Heap.lt_size e
  | ins C dx fs => obtain ⟨_, _, _, e, _⟩ := x; exact Heap.lt_size e
  | own y => obtain ⟨_, e⟩ := x; exact Heap.lt_size e
  | xd fs => obtain ⟨_, ⟨_, _, _, e, _⟩, _⟩ := x; exact Heap.lt_size e
  | rng lo hi => obtain ⟨_, _, _, e⟩ := x; exact Heap.lt_size e
  | frz ob u => obtain ⟨e, _⟩ := x; exact Heap.lt_size e
  | tbl ps => obtain ⟨_, e, _⟩ := x; exact Heap.lt_size e
  | met f y => exact Heap.lt_size (show h.get? a = some _ from x)
  | ext φ => obtain ⟨_, ⟨_, e⟩, _⟩ := x; exact Heap.lt_size e
theorem Paired.mapP {α β : Type} {F G : α → β → Prop} : ∀ {l₁ : List α} {l₂ : List β}, Paired F l₁ l₂ → (∀ a b, F a b → G a b) → Paired G l₁ l₂
  | _, _, .nil, _ => .nil
  | _, _, .cons r t, f => .cons (f _ _ r) (Paired.mapP t f)
/-- what an object's description leans on: its own object, its own dict, the tuples -/
theorem ObjOk.stay (x : ObjOk P w H h a o) (k : ∀ b u, (b = a ∨ H b = some (.own a)) → h.get? b = some u → h'.get? b = some u)
    (ho : ∀ b, H b = some (.own a) → H' b = some (.own a)) (ht : ∀ b xs, H b = some (.tup xs) → H' b = some (.tup xs)) : ObjOk P w H' h' a o := by
  induction o with
  | lst xs => obtain ⟨z, its, n, r, e⟩ := x; exact ⟨z, its, n, r, k _ _ (.inl rfl) e⟩
  | tup xs => obtain ⟨z, its, r, ob, e, c⟩ := x; exact ⟨z, its, r, ob, k _ _ (.inl rfl) e, c⟩
  | dK kvs => obtain ⟨z, y, vs, r, ob, es, ep, e, c⟩ := x; exact ⟨z, y, vs, r, ob, es, ep, k _ _ (.inl rfl) e, c⟩
  | dT kvs =>
    obtain ⟨z, y, xs, r, ob, es, ep, e, c⟩ := x
    exact ⟨z, y, xs, Paired.mapP r fun p q z => ⟨z.1, ht _ _ z.2.1, z.2.2⟩, ob, es, ep, k _ _ (.inl rfl) e, c⟩
  | set S n => obtain ⟨ob, es, ep, t, e, c⟩ := x; exact ⟨ob, es, ep, t, k _ _ (.inl rfl) e, c⟩
  | ins C dx fs =>
    obtain ⟨d, z, ne, e, mA, ⟨od, es, ep, e2, c⟩, r⟩ := x
    exact ⟨ho _ d, z, ne, k _ _ (.inl rfl) e, mA, ⟨od, es, ep, k _ _ (.inr d) e2, c⟩, r⟩
  | own y => obtain ⟨ob, e⟩ := x; exact ⟨ob, k _ _ (.inl rfl) e⟩
  | xd fs => obtain ⟨mA, ⟨od, es, ep, e, c⟩, r⟩ := x; exact ⟨mA, ⟨od, es, ep, k _ _ (.inl rfl) e, c⟩, r⟩
  | rng lo hi => obtain ⟨t, u, v, e⟩ := x; exact ⟨t, u, v, k _ _ (.inl rfl) e⟩
  | frz ob u ih => obtain ⟨e, q⟩ := x; exact ⟨k _ _ (.inl rfl) e, ih q⟩
  | tbl ps =>
    obtain ⟨mo, e, q⟩ := x
    refine ⟨mo, k _ _ (.inl rfl) e, ?_⟩
    rcases q with q | ⟨l, c, c1, qn, t, e1, e2, e3, c2, o2, vs2, t2, f1, f2, f3, f4⟩
    · exact .inl q
    · cases f1
      exact .inr ⟨l, c, c1, qn, t, e1, e2, ho _ e3, c1, o2, vs2, t2, rfl, k _ _ (.inr e3) f2, f3, f4⟩
  | met f y =>
    have e : h.get? a = some (PySem.W.methodObj (.ref f) (.ref y)) := x
    show h'.get? a = some (PySem.W.methodObj (.ref f) (.ref y))
    exact k a _ (.inl rfl) e
  | ext φ => obtain ⟨p, ⟨o, e⟩, st⟩ := x; exact ⟨st _ _ p fun o q => k _ _ (.inl rfl) q, ⟨o, k _ _ (.inl rfl) e⟩, st⟩
theorem HOk.lt (x : HOk P w H h) (e : H a = some o) : a < h.objs.size := (x a o e).lt
theorem HOk.fresh (x : HOk P w H h) (e : h.objs.size ≤ a) : H a = none := by
  cases q : H a with
  | none => rfl
  | some u => exact absurd (Nat.lt_of_lt_of_le (x.lt q) e) (Nat.lt_irrefl _)
/-- every object of the heap is kept -/
theorem HOk.kept (x : HOk P w H h) (k : ∀ b u, h.get? b = some u → h'.get? b = some u) : HOk P w H h' := fun a o e =>
  (x a o e).stay (fun b u _ q => k b u q) (fun _ q => q) fun _ _ q => q
/-- a new object is laid and tracked -/
theorem HOk.laid (x : HOk P w H h) (k : ∀ b u, h.get? b = some u → h'.get? b = some u) (hp : h.objs.size ≤ a) (new : ObjOk P w (upd H a o) h' a o) : HOk P w (upd H a o) h' := fun b u e => by
  have hn := x.fresh hp
  by_cases hb : b = a
  · subst hb; rw [upd_same] at e; cases e; exact new
  · rw [upd_ne hb] at e
    exact (x b u e).stay (fun c v _ q => k c v q) (fun c q => by rw [upd_ne (ne_of_none q hn)]; exact q) fun c xs q => by rw [upd_ne (ne_of_none q hn)]; exact q
end

/-- what may be read as u: it is u, or a known u -/
noncomputable def Rd (H : Hp) (a : Addr) (u : HO) : Prop := H a = some u ∨ ∃ o, H a = some (.frz o u)
theorem Rd.of {H : Hp} {a : Addr} {u : HO} (h : H a = some u) : Rd H a u := .inl h
theorem Rd.ok {P : Program} {w : World} {H : Hp} {h : Heap} {a : Addr} {u : HO} (r : Rd H a u) (x : HOk P w H h) : ObjOk P w H h a u := by
  rcases r with r | ⟨o, r⟩
  · exact x a u r
  · obtain ⟨_, q⟩ := x a _ r
    exact q
/-- what may be written -/
noncomputable def Mut : Option HO → Prop
  | some (.lst _) => True
  | some (.dK _) => True
  | some (.dT _) => True
  | some (.set _ _) => True
  | some (.ins _ _ _) => True
  | some (.ext _) => True
  | _ => False
section
variable {P : Program} {w : World} {H : Hp} {h h' : Heap} {x e : Addr} {o' : HO}
/-- the object at e is changed: x itself, or the dict of the instance x -/
theorem HOk.write (ok : HOk P w H h) (mu : Mut (H x)) (he : e = x ∨ H e = some (.own x)) (k : ∀ b u, b ≠ e → h.get? b = some u → h'.get? b = some u) (heo : ∃ u, h'.get? e = some u)
    (new : ObjOk P w (upd H x o') h' x o') : HOk P w (upd H x o') h' := fun b u q => by
  have nown : ∀ c y, H c = some (.own y) → c ≠ x := fun c y r z => by subst z; rw [r] at mu; exact mu
  have ntup : ∀ c xs, H c = some (.tup xs) → c ≠ x := fun c xs r z => by subst z; rw [r] at mu; exact mu
  by_cases hb : b = x
  · subst hb; rw [upd_same] at q; cases q; exact new
  · rw [upd_ne hb] at q
    by_cases hbe : b = e
    · have q' : H b = some (.own x) := by
        rcases he with z | z
        · exact absurd (hbe.trans z) hb
        · rw [hbe]; exact z
      rw [q] at q'; cases q'
      obtain ⟨v, hv⟩ := heo
      exact ⟨v, by rw [hbe]; exact hv⟩
    · refine (ok b u q).stay (fun c v hc r => k c v ?_ r) (fun c r => by rw [upd_ne (nown c b r)]; exact r) fun c xs r => by rw [upd_ne (ntup c xs r)]; exact r
      rcases hc with rfl | hc
      · exact hbe
      · rintro rfl
        rcases he with z | z
        · exact nown c b hc z
        · rw [hc] at z; cases z; exact hb rfl
end

/-! ### kept unless tracked; of the frames at fs (the callers') the slots may change (an exception that passes writes there); of the records at ex (iterators) nothing is said -/
structure Un (fs ex : List Addr) (H H' : Hp) (h h' : Heap) : Prop where
  keep : ∀ b o, h.get? b = some o → H b = none → b ∉ fs → b ∉ ex → h'.get? b = some o
  slot : ∀ b o, h.get? b = some o → H b = none → b ∈ fs → b ∉ ex → ∃ sl, h'.get? b = some { o with slots := sl }
  free : ∀ b o, h.get? b = some o → H b = none → b ∉ ex → H' b = none
  there : ∀ b o, h.get? b = some o → b ∉ ex → ∃ o', h'.get? b = some o'
  tups : ∀ b xs, H b = some (.tup xs) → H' b = some (.tup xs)
  frzs : ∀ b o u, H b = some (.frz o u) → H' b = some (.frz o u)
  tbls : ∀ b ps, H b = some (.tbl ps) → ∃ more, H' b = some (.tbl (ps ++ more))
section
variable {fs fs' ex ex' : List Addr} {H H1 H2 : Hp} {h h1 h2 h' : Heap} {a x e : Addr} {o : HO}
theorem Un.any (u : Un fs ex H H1 h h1) {b : Addr} {ob : Obj} (q : h.get? b = some ob) (n : H b = none) (hx : b ∉ ex) : ∃ sl, h1.get? b = some { ob with slots := sl } := by
  by_cases hb : b ∈ fs
  · exact u.slot b ob q n hb hx
  · exact ⟨ob.slots, u.keep b ob q n hb hx⟩
theorem Un.trans (a : Un fs ex H H1 h h1) (b : Un fs ex H1 H2 h1 h2) : Un fs ex H H2 h h2 where
  keep := fun c ob q n hc hx => b.keep c ob (a.keep c ob q n hc hx) (a.free c ob q n hx) hc hx
  slot := fun c ob q n hc hx => by
    obtain ⟨sl, e1⟩ := a.slot c ob q n hc hx
    obtain ⟨sl', e2⟩ := b.slot c _ e1 (a.free c ob q n hx) hc hx
    exact ⟨sl', e2⟩
  free := fun c ob q n hx => by
    obtain ⟨o', e1⟩ := a.there c ob q hx
    exact b.free c o' e1 (a.free c ob q n hx) hx
  there := fun c ob q hx => by
    obtain ⟨o', e1⟩ := a.there c ob q hx
    exact b.there c o' e1 hx
  tups := fun c xs q => b.tups c xs (a.tups c xs q)
  frzs := fun c ob xs q => b.frzs c ob xs (a.frzs c ob xs q)
  tbls := fun c ps q => by
    obtain ⟨m1, e1⟩ := a.tbls c ps q
    obtain ⟨m2, e2⟩ := b.tbls c _ e1
    exact ⟨m1 ++ m2, by rw [e2, Array.append_assoc]⟩
theorem Un.kept (k : ∀ b u, h.get? b = some u → h'.get? b = some u) : Un fs ex H H h h' :=
  ⟨fun b ob q _ _ _ => k b ob q, fun b ob q _ _ _ => ⟨ob.slots, k b ob q⟩, fun _ _ _ n _ => n, fun b ob q _ => ⟨ob, k b ob q⟩, fun _ _ q => q, fun _ _ _ q => q, fun _ ps q => ⟨#[], by rw [q]; simp⟩⟩
theorem Un.refl : Un fs ex H H h h := Un.kept fun _ _ q => q
theorem Un.laid (k : ∀ b u, h.get? b = some u → h'.get? b = some u) (hp : h.objs.size ≤ a) (hn : H a = none) : Un fs ex H (upd H a o) h h' where
  keep := fun b u q _ _ _ => k b u q
  slot := fun b u q _ _ _ => ⟨u.slots, k b u q⟩
  free := fun b u q n _ => by rw [upd_ne (Nat.ne_of_lt (Nat.lt_of_lt_of_le (Heap.lt_size q) hp))]; exact n
  there := fun b u q _ => ⟨u, k b u q⟩
  tups := fun b xs q => by rw [upd_ne (ne_of_none q hn)]; exact q
  frzs := fun b u xs q => by rw [upd_ne (ne_of_none q hn)]; exact q
  tbls := fun b ps q => ⟨#[], by rw [upd_ne (ne_of_none q hn), q]; simp⟩
theorem Un.write (mu : Mut (H x)) (he : e = x ∨ H e = some (.own x)) (k : ∀ b u, b ≠ e → h.get? b = some u → h'.get? b = some u) (heo : ∃ u, h'.get? e = some u) : Un fs ex H (upd H x o) h h' := by
  have hx : ∀ b, H b = none → b ≠ x := fun b n z => by subst z; rw [n] at mu; exact mu
  have hb : ∀ b, H b = none → b ≠ e := fun b n z => by
    subst z
    rcases he with r | r
    · exact hx b n r
    · rw [n] at r; cases r
  have hm : ∀ b u, H b = some u → ¬ Mut (some u) → b ≠ x := fun b u q nm z => by subst z; rw [q] at mu; exact nm mu
  refine ⟨fun b u q n _ _ => k b u (hb b n) q, fun b u q n _ _ => ⟨u.slots, k b u (hb b n) q⟩, fun b u q n _ => by rw [upd_ne (hx b n)]; exact n, fun b u q _ => ?_,
    fun b xs q => by rw [upd_ne (hm b _ q fun z => z)]; exact q, fun b u xs q => by rw [upd_ne (hm b _ q fun z => z)]; exact q, fun b ps q => ⟨#[], by rw [upd_ne (hm b _ q fun z => z), q]; simp⟩⟩
  by_cases hbe : b = e
  · subst hbe; exact heo
  · exact ⟨u, k b u hbe q⟩
theorem Un.mono (u : Un fs ex H H1 h h1) (hs : ∀ b ∈ fs, b ∈ fs') (hx : ∀ b ∈ ex, b ∈ ex') : Un fs' ex' H H1 h h1 :=
  ⟨fun b ob q n hb he => u.keep b ob q n (fun z => hb (hs b z)) fun z => he (hx b z), fun _ _ q n _ he => u.any q n fun z => he (hx _ z), fun b ob q n he => u.free b ob q n fun z => he (hx b z), fun b ob q he => u.there b ob q fun z => he (hx b z), u.tups, u.frzs, u.tbls⟩
end

/-! ### the heap without what is tracked -/
noncomputable def trk (h : Heap) (H : Hp) : List Addr := (List.range h.objs.size).filter fun a => (H a).isSome
noncomputable def hidT (h : Heap) (H : Hp) : Heap := PySem.W.hideAll h (trk h H)
theorem hidT_size (h : Heap) (H : Hp) : (hidT h H).objs.size = h.objs.size := PySem.W.hideAll_size _ _
theorem hidT_get {h : Heap} {H : Hp} {b : Addr} {o : Obj} (e : h.get? b = some o) (n : H b = none) : (hidT h H).get? b = some o :=
  PySem.W.hideAll_get _ e fun hm => by
    have q : (H b).isSome = true := (List.mem_filter.mp hm).2
    rw [n] at q; simp at q
theorem of_hidT {h : Heap} {H : Hp} {b : Addr} {o : Obj} (e : (hidT h H).get? b = some o) : h.get? b = some o ∧ H b = none := by
  have e' : h.get? b = some o := PySem.W.of_hideAll (trk h H) e
  refine ⟨e', ?_⟩
  cases q : H b with
  | none => rfl
  | some x =>
    have hm : b ∈ trk h H := List.mem_filter.mpr ⟨List.mem_range.mpr (Heap.lt_size e'), by simp [q]⟩
    have z : (hidT h H).get? b = none := PySem.W.hideAll_none (trk h H) hm
    rw [z] at e; cases e

/-! ### OpenK's ledger, filled with every new object but one -/
noncomputable def allNews (g h : Heap) (L : Addr) : List (Addr × Obj) := (List.range h.objs.size).filterMap fun a => if a = L ∨ (g.get? a).isSome = true then none else (h.get? a).map fun o => (a, o)
noncomputable def rest (g h : Heap) (L d : Addr) : List (Addr × Obj) := (allNews g h L).filter fun p => decide (p.1 ≠ d)
end L2

namespace L2
open PySem PySem.Spec PyProof.Rows

/-- the module's facts, over the base: the heap at the law's entry without what is tracked there -/
structure Mod (K : PySem.W.Frag) (mg : Str → Option Value) (base : Heap) : Prop where
  kin : K.In base
  glob : base.Ns mainGlobals mg
  blt : ∃ mb, base.Ns builtinsNs mb ∧ ∀ x : Str, x ≠ "__name__" → mb x = bootBuiltins x
  nolimit : base.NoLimit

/-- the context: a def's body (or a comprehension's block) running. base: fixed through the whole law; s₀, H₀: the entry; outer: the frames whose slots others may change (a def's callers); stack: all frames that run;
   ex: iterators that were made ahead of the entry and are walked here (a comprehension's); fn: the names whose cells were made at the entry (a def: all; a comprehension's block: its own); calm: not within an except suite; pn: pins that every state bears; xe: what is wanted of an exception that leaves the code -/
structure Cx where
  prog : Program
  w : World
  K : PySem.W.Frag
  mg : Str → Option Value
  base : Heap
  A : Around
  N : List Str
  s₀ : Shared
  H₀ : Hp
  env : Env
  outer : List Env
  stack : List Env
  ex : List Addr
  fn : Str → Bool
  calm : Bool
  pn : List (Addr × Obj)
  xe : Value → Shared → Prop
/-- the callers' frames -/
def frs (l : List Env) : List Addr := l.filterMap (·.frame)
abbrev Cx.fs (X : Cx) : List Addr := frs X.outer

noncomputable def Vis (sc : Scope) (x : Str) : Prop := sc.names.lookup x = some .local ∨ sc.names.lookup x = some .cell ∨ sc.names.lookup x = some .free
noncomputable def Loc (sc : Scope) (x : Str) : Prop := sc.names.lookup x = some .local ∨ sc.names.lookup x = some .cell
noncomputable def Look (env : Env) (h : Heap) (m : Str → Option Value) (x : Str) (u : Value) : Prop :=
  (env.kindOf x = some .local ∧ m x = some u) ∨ ((env.kindOf x = some .cell ∨ env.kindOf x = some .free) ∧ ∃ c, env.cells.lookup x = some c ∧ h.IsCell c (some u))

structure Cx.Ok (X : Cx) : Prop where
  mod : Mod X.K X.mg X.base
  kind : X.env.scope.kind = .function
  glob : X.env.globals = mainGlobals
  blt : X.env.builtins = builtinsNs
  above : X.s₀.heap.objs.size ≤ X.env.locals
  inj : ∀ x y c, X.env.cells.lookup x = some c → X.env.cells.lookup y = some c → x = y
  has : ∀ x, (X.env.kindOf x = some .cell ∨ X.env.kindOf x = some .free) → ∃ c, X.env.cells.lookup x = some c
  cab : ∀ x c, X.fn x = true → X.env.cells.lookup x = some c → X.s₀.heap.objs.size ≤ c
  hd : X.calm = true → X.A.handled = none
  frames : X.A.frames = some X.stack
  stk : X.stack = X.outer ∨ (X.stack = X.env :: X.outer ∧ X.env.frame = some X.env.locals)
  exf : ∀ b ∈ X.ex, b ≠ X.env.locals ∧ ∀ x c, X.env.cells.lookup x = some c → c ≠ b
  bs : ∀ b o, X.base.get? b = some o → X.s₀.heap.get? b = some o ∧ X.H₀ b = none
  bsz : X.base.objs.size ≤ X.s₀.heap.objs.size
  noex : ∀ b o, X.base.get? b = some o → b ∉ X.ex
  exfs : ∀ b ∈ X.ex, b ∉ X.fs
  funs : X.s₀.heap.FunFrames X.base X.outer
  frf : ∀ b ∈ X.fs, X.H₀ b = none

structure Inv (X : Cx) (pins : List (Addr × Obj)) (σ : List (Option V)) (H : Hp) (s : Shared) : Prop where
  ok : X.Ok
  os : s.os = X.s₀.os
  bare : AllBare s.gens
  base : Un X.fs X.ex X.H₀ H X.s₀.heap s.heap
  loc : ∃ m, s.heap.Ns X.env.locals m ∧ ∀ (i : Nat) (x : Str) (v : V), X.N[i]? = some x → σ[i]? = some (some v) → Vis X.env.scope x → ∃ u, RelV v u ∧ Look X.env s.heap m x u
  cell : ∀ x c, X.env.cells.lookup x = some c → ∃ v, s.heap.IsCell c v
  free : H X.env.locals = none
  freeC : ∀ x c, X.env.cells.lookup x = some c → H c = none
  pin : ∀ p ∈ X.pn ++ pins, s.heap.get? p.1 = some p.2 ∧ H p.1 = none ∧ p.1 ≠ X.env.locals ∧ p.1 ∉ X.fs ∧ ∀ v, p.2.data ≠ .cell v
  hok : HOk X.prog X.w H s.heap
  len : σ.length = X.N.length

section
variable {X : Cx} {pins : List (Addr × Obj)} {σ : List (Option V)} {H H' : Hp} {s : Shared} {h' : Heap}

theorem Cx.Ok.nofr (ok : X.Ok) {b : Addr} {o : Obj} (e : X.base.get? b = some o) : b ∉ X.fs := fun hb => by
  have := (ok.funs.mem hb).1
  rw [e] at this; cases this
theorem Inv.bs (I : Inv X pins σ H s) : ∀ b o, X.base.get? b = some o → s.heap.get? b = some o ∧ H b = none := fun b o e =>
  ⟨I.base.keep b o (I.ok.bs b o e).1 (I.ok.bs b o e).2 (I.ok.nofr e) (I.ok.noex b o e), I.base.free b o (I.ok.bs b o e).1 (I.ok.bs b o e).2 (I.ok.noex b o e)⟩
theorem Inv.bk (I : Inv X pins σ H s) : ∀ b o, X.base.get? b = some o → s.heap.get? b = some o := fun b o e => (I.bs b o e).1
theorem Inv.mod (I : Inv X pins σ H s) : Mod X.K X.mg X.base := I.ok.mod
theorem Inv.kIn (I : Inv X pins σ H s) : X.K.In s.heap := I.ok.mod.kin.keeps I.bk
theorem Inv.nolimit (I : Inv X pins σ H s) : s.heap.NoLimit := I.ok.mod.nolimit.keeps I.bk
/-- the frame over the base: for OpenK's rules (K.In X.base is I.mod.kin) -/
theorem Inv.fr (I : Inv X pins σ H s) : ∃ m, Fr X.base X.env.locals s.heap m :=
  let ⟨m, hn, _⟩ := I.loc
  ⟨m, hn, I.bk, Nat.le_trans I.ok.bsz I.ok.above⟩
theorem Inv.lt (I : Inv X pins σ H s) : X.env.locals < s.heap.objs.size := let ⟨_, hn, _⟩ := I.loc; hn.lt
theorem Inv.sz (I : Inv X pins σ H s) : X.s₀.heap.objs.size ≤ s.heap.objs.size := Nat.le_trans I.ok.above (Nat.le_of_lt I.lt)
theorem Inv.nofs (I : Inv X pins σ H s) {a : Addr} (h : s.heap.objs.size ≤ a) : a ∉ X.fs := fun hb => by
  obtain ⟨_, o, ho, _⟩ := I.ok.funs.mem hb
  exact absurd (Nat.lt_of_lt_of_le (Heap.lt_size ho) (Nat.le_trans I.sz h)) (Nat.lt_irrefl _)
theorem Inv.cne (I : Inv X pins σ H s) : ∀ x c, X.env.cells.lookup x = some c → c ≠ X.env.locals := fun x c e z => by
  obtain ⟨v, o, ho, hd⟩ := I.cell x c e
  obtain ⟨m, ⟨o', es, ep, ho', hd', _⟩, _⟩ := I.loc
  rw [z, ho'] at ho; cases ho; rw [hd'] at hd; cases hd
theorem Inv.funs (I : Inv X pins σ H s) : s.heap.FunFrames X.base X.outer := by
  have all : ∀ (l : List Env), (∀ b ∈ frs l, b ∈ X.fs) → X.s₀.heap.FunFrames X.base l → s.heap.FunFrames X.base l := by
    intro l
    induction l with
    | nil => intro _ _; trivial
    | cons env r ih =>
      intro hs hl
      obtain ⟨hk, ⟨L, o, hf, hn, ho, hd⟩, hr⟩ := hl
      have hL : L ∈ X.fs := hs L (by unfold frs; rw [List.filterMap_cons, hf]; exact List.mem_cons_self)
      obtain ⟨sl, e⟩ := I.base.slot L o ho (I.ok.frf L hL) hL fun z => I.ok.exfs L z hL
      exact ⟨hk, ⟨L, _, hf, hn, e, hd⟩, ih (fun b hb => hs b (by unfold frs; rw [List.filterMap_cons, hf]; exact List.mem_cons_of_mem _ hb)) hr⟩
  exact all X.outer (fun _ hb => hb) I.ok.funs

/-- the frames that run, for a call -/
theorem Inv.stack (I : Inv X pins σ H s) : s.heap.FunFrames X.base X.stack := by
  rcases I.ok.stk with e | ⟨e, hf⟩
  · rw [e]; exact I.funs
  · rw [e]
    obtain ⟨m, hn, _⟩ := I.loc
    refine .cons (by rw [I.ok.kind]; decide) hf hn ?_ I.funs
    exact Heap.get?_none_of_le (Nat.le_trans I.ok.bsz I.ok.above)
theorem Inv.stkSub (I : Inv X pins σ H s) : ∀ b ∈ frs X.stack, b ∈ X.env.locals :: X.fs := fun b hb => by
  rcases I.ok.stk with e | ⟨e, hf⟩
  · rw [e] at hb; exact List.mem_cons_of_mem _ hb
  · rw [e] at hb
    unfold frs at hb
    rw [List.filterMap_cons, hf] at hb
    exact hb
theorem Inv.stkFree (I : Inv X pins σ H s) : ∀ b ∈ frs X.stack, H b = none := fun b hb => by
  rcases List.mem_cons.mp (I.stkSub b hb) with e | hb
  · rw [e]; exact I.free
  · obtain ⟨_, o, ho, _⟩ := I.ok.funs.mem hb
    exact I.base.free b o ho (I.ok.frf b hb) fun z => I.ok.exfs b z hb

/-- THE STEP: the untracked objects but the frame and the records at ch are kept (the callers' frames up to slots), the frame's map is kept, the new abstract heap is held -/
theorem Inv.step {g' : Array GenState} {t' : Nat} {d' : Drawn} {ch : List Addr} (I : Inv X pins σ H s)
    (hch : ∀ b ∈ ch, (b ∈ X.ex ∨ X.s₀.heap.objs.size ≤ b) ∧ b ≠ X.env.locals ∧ (∀ x c, X.env.cells.lookup x = some c → c ≠ b) ∧ ∀ p ∈ X.pn ++ pins, p.1 ≠ b)
    (keep : ∀ b o, b ≠ X.env.locals → b ∉ X.fs → b ∉ ch → s.heap.get? b = some o → H b = none → h'.get? b = some o)
    (slot : ∀ b o, b ≠ X.env.locals → b ∈ X.fs → b ∉ ch → s.heap.get? b = some o → H b = none → ∃ sl, h'.get? b = some { o with slots := sl }) (free : ∀ b o, b ∉ ch → s.heap.get? b = some o → H b = none → H' b = none)
    (there : ∀ b o, b ∉ ch → s.heap.get? b = some o → ∃ o', h'.get? b = some o')
    (tups : ∀ b xs, H b = some (.tup xs) → H' b = some (.tup xs)) (frzs : ∀ b o u, H b = some (.frz o u) → H' b = some (.frz o u)) (tbls : ∀ b ps, H b = some (.tbl ps) → ∃ more, H' b = some (.tbl (ps ++ more)))
    (ns : ∀ m, s.heap.Ns X.env.locals m → h'.Ns X.env.locals m) (hok : HOk X.prog X.w H' h') (hg : AllBare g') :
    Inv X pins σ H' { s with heap := h', gens := g', drawn := d', toks := t' } := by
  have neL : ∀ b o, X.s₀.heap.get? b = some o → b ≠ X.env.locals := fun b o e => Nat.ne_of_lt (Nat.lt_of_lt_of_le (Heap.lt_size e) I.ok.above)
  have neC : ∀ b o, X.s₀.heap.get? b = some o → b ∉ X.ex → b ∉ ch := fun b o e hx hb => by
    rcases (hch b hb).1 with z | z
    · exact hx z
    · exact absurd (Nat.lt_of_lt_of_le (Heap.lt_size e) z) (Nat.lt_irrefl _)
  have cellK : ∀ x c, X.env.cells.lookup x = some c → ∀ v, s.heap.IsCell c v → h'.IsCell c v := fun x c e v ⟨o, ho, hd⟩ => by
    have nch : c ∉ ch := fun z => (hch c z).2.2.1 x c e rfl
    by_cases hc : c ∈ X.fs
    · obtain ⟨sl, q⟩ := slot c o (I.cne x c e) hc nch ho (I.freeC x c e)
      exact ⟨_, q, hd⟩
    · exact ⟨o, keep c o (I.cne x c e) hc nch ho (I.freeC x c e), hd⟩
  refine ⟨I.ok, I.os, hg, ⟨fun b o e n hb hx => ?_, fun b o e n hb hx => ?_, fun b o e n hx => ?_, fun b o e hx => ?_, fun b xs e => tups b xs (I.base.tups b xs e), fun b o xs e => frzs b o xs (I.base.frzs b o xs e), fun b ps e => ?_⟩, ?_, fun x c e => ?_, ?_, fun x c e => ?_, fun p hp => ?_, hok, I.len⟩
  · exact keep b o (neL b o e) hb (neC b o e hx) (I.base.keep b o e n hb hx) (I.base.free b o e n hx)
  · obtain ⟨sl, e1⟩ := I.base.slot b o e n hb hx
    obtain ⟨sl', e2⟩ := slot b _ (neL b o e) hb (neC b o e hx) e1 (I.base.free b o e n hx)
    exact ⟨sl', e2⟩
  · obtain ⟨o', e1⟩ := I.base.there b o e hx
    exact free b o' (neC b o e hx) e1 (I.base.free b o e n hx)
  · obtain ⟨o', e1⟩ := I.base.there b o e hx
    exact there b o' (neC b o e hx) e1
  · obtain ⟨m1, e1⟩ := I.base.tbls b ps e
    obtain ⟨m2, e2⟩ := tbls b _ e1
    exact ⟨m1 ++ m2, by rw [e2, Array.append_assoc]⟩
  · obtain ⟨m, hn, hl⟩ := I.loc
    refine ⟨m, ns m hn, fun i x v e1 e2 e3 => ?_⟩
    obtain ⟨u, r, l⟩ := hl i x v e1 e2 e3
    refine ⟨u, r, ?_⟩
    rcases l with l | ⟨k, c, e, z⟩
    · exact .inl l
    · exact .inr ⟨k, c, e, cellK x c e _ z⟩
  · obtain ⟨v, z⟩ := I.cell x c e
    exact ⟨v, cellK x c e v z⟩
  · obtain ⟨m, ⟨o, _, _, ho, _⟩, _⟩ := I.loc
    exact free _ o (fun z => (hch _ z).2.1 rfl) ho I.free
  · obtain ⟨v, o, ho, hd⟩ := I.cell x c e
    exact free c o (fun z => (hch c z).2.2.1 x c e rfl) ho (I.freeC x c e)
  · obtain ⟨e, n, ne, nf, d⟩ := I.pin p hp
    have nch : p.1 ∉ ch := fun z => (hch p.1 z).2.2.2 p hp rfl
    exact ⟨keep p.1 p.2 ne nf nch e n, free p.1 p.2 nch e n, ne, nf, d⟩
/-- .. where the frame's own object is kept too -/
theorem Inv.un {t' : Nat} (I : Inv X pins σ H s) (u : Un X.fs [] H H' s.heap h') (hok : HOk X.prog X.w H' h') : Inv X pins σ H' { s with heap := h', toks := t' } := by
  obtain ⟨m, ⟨o, es, ep, ho, r⟩, _⟩ := id I.loc
  obtain ⟨sl, hL⟩ := u.any ho I.free (by simp)
  exact I.step (g' := s.gens) (d' := s.drawn) (ch := []) (fun _ z => nomatch z) (fun b o _ hb _ e n => u.keep b o e n hb (by simp)) (fun b o _ hb _ e n => u.slot b o e n hb (by simp)) (fun b o _ e n => u.free b o e n (by simp)) (fun b o _ e => u.there b o e (by simp)) u.tups u.frzs u.tbls (fun m' hm => by
    obtain ⟨o', es', ep', ho', r'⟩ := hm
    rw [ho] at ho'; cases ho'
    exact ⟨_, es', ep', hL, r'⟩) hok I.bare
/-- behind a call (or a comprehension's block): the slots of this frame may have changed too, the records at ch may have turned -/
theorem Inv.call {g' : Array GenState} {t' : Nat} {d' : Drawn} {ch : List Addr} (I : Inv X pins σ H s) (u : Un (frs X.stack) ch H H' s.heap h') (hok : HOk X.prog X.w H' h') (hg : AllBare g')
    (hch : ∀ b ∈ ch, (b ∈ X.ex ∨ X.s₀.heap.objs.size ≤ b) ∧ b ≠ X.env.locals ∧ (∀ x c, X.env.cells.lookup x = some c → c ≠ b) ∧ ∀ p ∈ X.pn ++ pins, p.1 ≠ b) :
    Inv X pins σ H' { s with heap := h', gens := g', drawn := d', toks := t' } := by
  obtain ⟨m, ⟨o, es, ep, ho, r⟩, _⟩ := id I.loc
  obtain ⟨sl, hL⟩ := u.any ho I.free fun z => (hch _ z).2.1 rfl
  exact I.step (ch := ch) hch (fun b o hL hb hc e n => u.keep b o e n (fun z => (List.mem_cons.mp (I.stkSub b z)).elim hL hb) hc) (fun b o _ _ hc e n => u.any e n hc) (fun b o hc e n => u.free b o e n hc) (fun b o hc e => u.there b o e hc) u.tups u.frzs u.tbls (fun m' hm => by
    obtain ⟨o', es', ep', ho', r'⟩ := hm
    rw [ho] at ho'; cases ho'
    exact ⟨_, es', ep', hL, r'⟩) hok hg
/-- an untracked record of ours (an iterator) has turned -/
theorem Inv.turned {t' : Nat} {it : Addr} (I : Inv X pins σ H s) (k : ∀ b o, b ≠ it → s.heap.get? b = some o → h'.get? b = some o) (hn : H it = none) (hL : it ≠ X.env.locals)
    (h1 : it ∈ X.ex ∨ X.s₀.heap.objs.size ≤ it) (h2 : ∀ x c, X.env.cells.lookup x = some c → c ≠ it) (h3 : ∀ p ∈ X.pn ++ pins, p.1 ≠ it) : Inv X pins σ H { s with heap := h', toks := t' } := by
  have nit : ∀ b u, H b = some u → b ≠ it := fun b u e z => by rw [z, hn] at e; cases e
  refine I.step (g' := s.gens) (d' := s.drawn) (ch := [it]) (fun b hb => ?_) (fun b o _ _ hc e _ => k b o (fun z => hc (by simp [z])) e) (fun b o _ _ hc e _ => ⟨o.slots, k b o (fun z => hc (by simp [z])) e⟩) (fun _ _ _ _ n => n)
    (fun b o hc e => ⟨o, k b o (fun z => hc (by simp [z])) e⟩) (fun _ _ e => e) (fun _ _ _ e => e) (fun b ps e => ⟨#[], by rw [e]; simp⟩) (fun m hm => ?_) (fun b u e => ?_) I.bare
  · have e : b = it := by simpa using hb
    subst e
    exact ⟨h1, hL, h2, h3⟩
  · obtain ⟨o, es, ep, ho, r⟩ := hm
    exact ⟨o, es, ep, k _ o (Ne.symm hL) ho, r⟩
  · refine (I.hok b u e).stay (fun c v hc q => k c v ?_ q) (fun _ q => q) fun _ _ q => q
    rcases hc with z | z
    · rw [z]; exact nit b u e
    · exact nit c _ z
theorem Inv.tok (I : Inv X pins σ H s) (t : Nat) : Inv X pins σ H { s with toks := t } := I.un (h' := s.heap) (t' := t) Un.refl I.hok
/-- all objects kept -/
theorem Inv.kept {t' : Nat} (I : Inv X pins σ H s) (k : ∀ b u, s.heap.get? b = some u → h'.get? b = some u) : Inv X pins σ H { s with heap := h', toks := t' } := I.un (Un.kept k) (I.hok.kept k)
/-- a new object laid and tracked -/
theorem Inv.laid {a : Addr} {o : HO} {t' : Nat} (I : Inv X pins σ H s) (k : ∀ b u, s.heap.get? b = some u → h'.get? b = some u) (hp : s.heap.objs.size ≤ a) (new : ObjOk X.prog X.w (upd H a o) h' a o) :
    Inv X pins σ (upd H a o) { s with heap := h', toks := t' } := I.un (Un.laid k hp (I.hok.fresh hp)) (I.hok.laid k hp new)
/-- an object written -/
theorem Inv.write {x e : Addr} {o : HO} {t' : Nat} (I : Inv X pins σ H s) (mu : Mut (H x)) (he : e = x ∨ H e = some (.own x)) (k : ∀ b u, b ≠ e → s.heap.get? b = some u → h'.get? b = some u) (heo : ∃ u, h'.get? e = some u)
    (new : ObjOk X.prog X.w (upd H x o) h' x o) : Inv X pins σ (upd H x o) { s with heap := h', toks := t' } := I.un (Un.write mu he k heo) (I.hok.write mu he k heo new)
theorem Inv.pins_of {pins' : List (Addr × Obj)} (I : Inv X pins σ H s) (h : ∀ p ∈ pins', s.heap.get? p.1 = some p.2 ∧ H p.1 = none ∧ p.1 ≠ X.env.locals ∧ p.1 ∉ X.fs ∧ ∀ v, p.2.data ≠ .cell v) : Inv X pins' σ H s :=
  ⟨I.ok, I.os, I.bare, I.base, I.loc, I.cell, I.free, I.freeC, fun p hp => (List.mem_append.mp hp).elim (fun z => I.pin p (List.mem_append_left _ z)) (h p), I.hok, I.len⟩

theorem nodup_ix {N : List Str} (hN : N.Nodup) {i j : Nat} {x : Str} (a : N[i]? = some x) (b : N[j]? = some x) : i = j := by
  obtain ⟨h1, e1⟩ := List.getElem?_eq_some_iff.mp a
  obtain ⟨h2, e2⟩ := List.getElem?_eq_some_iff.mp b
  exact (List.getElem_inj hN).mp (e1.trans e2.symm)

/-- a name is stored; what changed -/
theorem store_ok2 {M : Model} {A : Around} {E : Value → Shared → Prop} {i : Nat} {x : Str} {v : V} {u : Value} {Q : Unit → Shared → Prop} (I : Inv X pins σ H s) (hN : X.N.Nodup) (hi : X.N[i]? = some x) (hx : Loc X.env.scope x) (r : RelV v u)
    (h : ∀ s', Inv X pins (σ.set i (some v)) H s' → (∃ a, Heap.SameBut a s.heap s'.heap ∧ (a = X.env.locals ∨ X.env.cells.lookup x = some a)) → Q () s') (hf : X.fn x = true ∨ X.env.scope.names.lookup x = some .local := by first | exact .inl rfl | exact .inr rfl | assumption) : wpAny M A (storeName X.env x u) Q E s := by
  obtain ⟨m, hn, hl⟩ := id I.loc
  have hcls : (X.env.scope.kind == .class || (X.env.scope.kind == .module && X.env.locals != X.env.globals)) = false := by rw [I.ok.kind]; rfl
  have hiσ : i < σ.length := by rw [I.len]; exact (List.getElem?_eq_some_iff.mp hi).1
  have cne := I.cne
  have tracked : ∀ {a : Addr} {h' : Heap}, (∃ o, s.heap.get? a = some o ∧ H a = none) → Heap.SameBut a s.heap h' → HOk X.prog X.w H h' := fun {a h'} ha hs b ob e => by
    obtain ⟨_, _, hfree⟩ := ha
    refine (I.hok b ob e).stay (fun c w' hc q => (hs.2 c ?_).trans q) (fun _ q => q) fun _ _ q => q
    rintro rfl
    rcases hc with rfl | hc
    · rw [hfree] at e; cases e
    · rw [hfree] at hc; cases hc
  rcases hx with hk | hk
  · refine wpAny_storeName_local hk hn (fun h' hn' hs => ?_) hcls
    obtain ⟨oL, _, _, hoL, _⟩ := id hn
    refine h _ ⟨I.ok, I.os, I.bare, ⟨fun b o e n hb hx => ?_, fun b o e n hb hx => ?_, I.base.free, fun b o e hx => ?_, I.base.tups, I.base.frzs, I.base.tbls⟩, ⟨_, hn', fun j y v' e1 e2 e3 => ?_⟩, fun y c e => ?_, I.free, I.freeC, fun p hp => ?_, tracked ⟨oL, hoL, I.free⟩ hs, by simpa using I.len⟩ ⟨_, hs, .inl rfl⟩
    · exact (hs.2 b (Nat.ne_of_lt (Nat.lt_of_lt_of_le (Heap.lt_size e) I.ok.above))).trans (I.base.keep b o e n hb hx)
    · obtain ⟨sl, e1⟩ := I.base.slot b o e n hb hx
      exact ⟨sl, (hs.2 b (Nat.ne_of_lt (Nat.lt_of_lt_of_le (Heap.lt_size e) I.ok.above))).trans e1⟩
    · obtain ⟨o', e1⟩ := I.base.there b o e hx
      exact ⟨o', (hs.2 b (Nat.ne_of_lt (Nat.lt_of_lt_of_le (Heap.lt_size e) I.ok.above))).trans e1⟩
    · by_cases hj : j = i
      · subst hj
        rw [hi] at e1; cases e1
        rw [List.getElem?_set_self hiσ] at e2
        cases e2
        exact ⟨u, r, .inl ⟨hk, by simp⟩⟩
      · rw [List.getElem?_set_ne (Ne.symm hj)] at e2
        obtain ⟨u', r', q⟩ := hl j y v' e1 e2 e3
        refine ⟨u', r', ?_⟩
        rcases q with ⟨k, e⟩ | ⟨k, c, e, z⟩
        · refine .inl ⟨k, ?_⟩
          have : y ≠ x := fun e => hj (nodup_ix hN e1 (e ▸ hi))
          simp [this, e]
        · exact .inr ⟨k, c, e, z.sameBut hs (cne y c e)⟩
    · obtain ⟨w', z⟩ := I.cell y c e
      exact ⟨w', z.sameBut hs (cne y c e)⟩
    · obtain ⟨e, n, ne, nf, d⟩ := I.pin p hp
      exact ⟨(hs.2 p.1 ne).trans e, n, ne, nf, d⟩
  · have hfn : X.fn x = true := by
      rcases hf with z | z
      · exact z
      · rw [z] at hk; cases hk
    obtain ⟨c, hc⟩ := I.ok.has x (.inl hk)
    obtain ⟨w', z⟩ := I.cell x c hc
    refine wpAny_storeName_cell I.ok.kind hk hc z (fun h' hc' hs => ?_)
    obtain ⟨oc, hoc, hocd⟩ := id z
    refine h { s with heap := h' } ⟨I.ok, I.os, I.bare, ⟨fun b o e n hb hx => ?_, fun b o e n hb hx => ?_, I.base.free, fun b o e hx => ?_, I.base.tups, I.base.frzs, I.base.tbls⟩, ⟨m, hn.sameBut hs (Ne.symm (cne x c hc)), fun j y v' e1 e2 e3 => ?_⟩, fun y c' e => ?_, I.free, I.freeC, fun p hp => ?_, tracked ⟨oc, hoc, I.freeC x c hc⟩ hs, by simpa using I.len⟩ ⟨c, hs, .inr hc⟩
    · exact (hs.2 b (Nat.ne_of_lt (Nat.lt_of_lt_of_le (Heap.lt_size e) (I.ok.cab x c hfn hc)))).trans (I.base.keep b o e n hb hx)
    · obtain ⟨sl, e1⟩ := I.base.slot b o e n hb hx
      exact ⟨sl, (hs.2 b (Nat.ne_of_lt (Nat.lt_of_lt_of_le (Heap.lt_size e) (I.ok.cab x c hfn hc)))).trans e1⟩
    · obtain ⟨o', e1⟩ := I.base.there b o e hx
      exact ⟨o', (hs.2 b (Nat.ne_of_lt (Nat.lt_of_lt_of_le (Heap.lt_size e) (I.ok.cab x c hfn hc)))).trans e1⟩
    · by_cases hj : j = i
      · subst hj
        rw [hi] at e1; cases e1
        rw [List.getElem?_set_self hiσ] at e2
        cases e2
        exact ⟨u, r, .inr ⟨.inl hk, c, hc, hc'⟩⟩
      · rw [List.getElem?_set_ne (Ne.symm hj)] at e2
        obtain ⟨u', r', q⟩ := hl j y v' e1 e2 e3
        refine ⟨u', r', ?_⟩
        rcases q with q | ⟨k, c', e, z'⟩
        · exact .inl q
        · refine .inr ⟨k, c', e, z'.sameBut hs ?_⟩
          rintro rfl
          exact hj (nodup_ix hN e1 (I.ok.inj _ _ _ e hc ▸ hi))
    · by_cases hcc : c' = c
      · subst hcc; exact ⟨_, hc'⟩
      · obtain ⟨w2, z2⟩ := I.cell y c' e
        exact ⟨w2, z2.sameBut hs hcc⟩
    · obtain ⟨e, n, ne, nf, d⟩ := I.pin p hp
      refine ⟨(hs.2 p.1 ?_).trans e, n, ne, nf, d⟩
      intro q
      rw [q, hoc] at e
      have q' : oc = p.2 := Option.some.inj e
      exact d w' (by rw [← q']; exact hocd)
theorem store_ok {M : Model} {A : Around} {E : Value → Shared → Prop} {i : Nat} {x : Str} {v : V} {u : Value} {Q : Unit → Shared → Prop} (I : Inv X pins σ H s) (hN : X.N.Nodup) (hi : X.N[i]? = some x) (hx : Loc X.env.scope x) (r : RelV v u)
    (h : ∀ s', Inv X pins (σ.set i (some v)) H s' → Q () s') (hf : X.fn x = true ∨ X.env.scope.names.lookup x = some .local := by first | exact .inl rfl | exact .inr rfl | assumption) : wpAny M A (storeName X.env x u) Q E s :=
  store_ok2 I hN hi hx r (fun s' I' _ => h s' I') hf
/-- behind a call or a block, the state as it is -/
theorem Inv.call' {s' : Shared} {ch : List Addr} (I : Inv X pins σ H s) (ho : s'.os = s.os) (u : Un (frs X.stack) ch H H' s.heap s'.heap) (hok : HOk X.prog X.w H' s'.heap) (hg : AllBare s'.gens)
    (hch : ∀ b ∈ ch, (b ∈ X.ex ∨ X.s₀.heap.objs.size ≤ b) ∧ b ≠ X.env.locals ∧ (∀ x c, X.env.cells.lookup x = some c → c ≠ b) ∧ ∀ p ∈ X.pn ++ pins, p.1 ≠ b) : Inv X pins σ H' s' := by
  obtain ⟨h', g', d', t', o'⟩ := s'
  have e : o' = s.os := ho
  subst e
  exact I.call (g' := g') (t' := t') (d' := d') u hok hg hch
end

/-! ### the judgements -/
/-- an exception: its class, its own dict's address (where it has one), the abstract heap behind it -/
abbrev XK := Value → Option Addr → Hp → Prop
abbrev St := List (Option V)
abbrev VK := V → Hp → Prop
/-- an expression's reading; a test's; an argument list's -/
abbrev TE := St → Hp → VK → Prop
abbrev TT := St → Hp → (Bool → Hp → Prop) → Prop
abbrev TA := St → Hp → (List V → Hp → Prop) → Prop
/-- what is wanted behind a statement -/
structure Ends where
  nx : St → Hp → Prop
  rt : VK
  bk : St → Hp → Prop := fun _ _ => False
  ct : St → Hp → Prop := fun _ _ => False
abbrev TS := Ends → St → Hp → Prop

noncomputable def EP (X : Cx) (pins : List (Addr × Obj)) (σ : St) (Q : VK) (u : Value) (s' : Shared) : Prop := ∃ v H', Inv X pins σ H' s' ∧ RelV v u ∧ Q v H'
noncomputable def TP (X : Cx) (pins : List (Addr × Obj)) (σ : St) (Q : Bool → Hp → Prop) (b : Bool) (s' : Shared) : Prop := ∃ H', Inv X pins σ H' s' ∧ Q b H'
noncomputable def AP (X : Cx) (pins : List (Addr × Obj)) (σ : St) (Q : List V → Hp → Prop) (us : List Value) (s' : Shared) : Prop := ∃ vs H', Inv X pins σ H' s' ∧ Vals vs us ∧ Q vs H'
noncomputable def SP (X : Cx) (pins : List (Addr × Obj)) (D : Ends) (f : Flow) (s' : Shared) : Prop :=
  match f with
  | .next => ∃ σ' H', Inv X pins σ' H' s' ∧ D.nx σ' H'
  | .brk => ∃ σ' H', Inv X pins σ' H' s' ∧ D.bk σ' H'
  | .cont => ∃ σ' H', Inv X pins σ' H' s' ∧ D.ct σ' H'
  | .ret u => ∃ v σ' H', Inv X pins σ' H' s' ∧ RelV v u ∧ D.rt v H'

noncomputable def PE (X : Cx) (e : Expr) (t : TE) : Prop :=
  ∀ (pins : List (Addr × Obj)) (s : Shared) (σ : St) (H : Hp) (Q : VK), Inv X pins σ H s → t σ H Q → wpAny (model X.prog X.w) X.A (eval e X.env) (EP X pins σ Q) X.xe s
noncomputable def PT (X : Cx) (e : Expr) (t : TT) : Prop :=
  ∀ (pins : List (Addr × Obj)) (s : Shared) (σ : St) (H : Hp) (Q : Bool → Hp → Prop), Inv X pins σ H s → t σ H Q → wpAny (model X.prog X.w) X.A (isTrue e X.env (eval e X.env)) (TP X pins σ Q) X.xe s
/-- a test whatever its 'whole' is (and, or) -/
noncomputable def PW (X : Cx) (e : Expr) (t : TT) : Prop :=
  ∀ (whole : Sem Value) (pins : List (Addr × Obj)) (s : Shared) (σ : St) (H : Hp) (Q : Bool → Hp → Prop), Inv X pins σ H s → t σ H Q → wpAny (model X.prog X.w) X.A (isTrue e X.env whole) (TP X pins σ Q) X.xe s
/-- an argument list (no star), from the left -/
noncomputable def PA (X : Cx) (es : List Expr) (t : TA) : Prop :=
  ∀ (pos : Pos) (pins : List (Addr × Obj)) (s : Shared) (σ : St) (H : Hp) (Q : List V → Hp → Prop), Inv X pins σ H s → t σ H Q → wpAny (model X.prog X.w) X.A (spliced (backTo pos (starEach es X.env))) (AP X pins σ Q) X.xe s
noncomputable def PS (X : Cx) (st : Stmt) (t : TS) : Prop :=
  ∀ (pins : List (Addr × Obj)) (s : Shared) (σ : St) (H : Hp) (D : Ends), Inv X pins σ H s → t D σ H → wpAny (model X.prog X.w) X.A (exec st X.env) (SP X pins D) X.xe s
noncomputable def PSs (X : Cx) (st : List Stmt) (t : TS) : Prop :=
  ∀ (pins : List (Addr × Obj)) (s : Shared) (σ : St) (H : Hp) (D : Ends), Inv X pins σ H s → t D σ H → wpAny (model X.prog X.w) X.A (execs st X.env) (SP X pins D) X.xe s
/-- weaken the end -/
theorem thn {α : Type} {t : Sem α} {Q Q' : α → Shared → Prop} {M : Model} {A : Around} {E : Value → Shared → Prop} {s : Shared} (h : wpAny M A t Q E s) (hQ : ∀ a s, Q a s → Q' a s) : wpAny M A t Q' E s := wpAny_mono h hQ fun _ _ x => x
end L2

namespace L2
open PySem PySem.Spec PyProof.Rows
section
variable {X : Cx}

/-! ### names and constants -/
noncomputable def tVar (i : Nat) : TE := fun σ H Q => ∃ v, σ[i]? = some (some v) ∧ Q v H
noncomputable def tC (v : V) : TE := fun _ H Q => Q v H
theorem pe_var {i : Nat} {x : Str} {pos : Pos} (hN : X.N[i]? = some x) (hv : Vis X.env.scope x) (hd : (x == ("__debug__" : Str)) = false := by decide) (hcd : (x == ("__classdict__" : Str)) = false := by decide) : PE X (.Name x pos) (tVar i) := by
  intro pins s σ H Q I h
  obtain ⟨v, e, h⟩ := h
  obtain ⟨m, hn, hl⟩ := I.loc
  obtain ⟨u, r, l⟩ := hl i x v hN e hv
  have fin : EP X pins σ Q u s := ⟨v, H, I, r, h⟩
  rcases l with ⟨hk, hm⟩ | ⟨hk, c, hc, hcell⟩
  · exact wpAny_Name (wpAny_loadName_local I.ok.kind hk hn hm fin) hd
  · rcases hk with hk | hk
    · exact wpAny_Name (wpAny_loadName_cell I.ok.kind hk hc hcell fin) hd
    · exact wpAny_Name (wpAny_loadName_free I.ok.kind hk hc hcell fin hcd) hd
theorem pe_int {i j pos} : PE X (.Constant (.int i) j pos) (tC (.int i)) := fun _ _ _ H _ I h => wpAny_Constant_int ⟨.int i, H, I.tok _, ⟨_, rfl⟩, h⟩
theorem pe_bl {b j pos} : PE X (.Constant (.bool b) j pos) (tC (.bl b)) := fun _ _ _ H _ I h => Constant_bool ⟨.bl b, H, I, rfl, h⟩
theorem pe_non {j pos} : PE X (.Constant .none j pos) (tC .non) := fun _ _ _ H _ I h => Constant_none ⟨.non, H, I, rfl, h⟩
theorem pe_str {x j pos} : PE X (.Constant (.str x) j pos) (tC (.str x)) := fun _ _ _ H _ I h => Calls.Constant_str ⟨.str x, H, I.tok _, ⟨_, rfl⟩, h⟩

/-- a global name of the def -/
noncomputable def Gl (X : Cx) (x : Str) : Prop := X.env.kindOf x = some .globalImplicit
theorem ld_glob {E : Value → Shared → Prop} {pins : List (Addr × Obj)} {s : Shared} {σ : St} {H : Hp} {x : Str} {u : Value} {pos : Pos} {Q : Value → Shared → Prop} (I : Inv X pins σ H s) (hg : Gl X x) (hm : X.mg x = some u) (h : Q u s)
    (hd : (x == ("__debug__" : Str)) = false := by decide) : wpAny (model X.prog X.w) X.A (eval (.Name x pos) X.env) Q E s :=
  Calls.Name_function_global I.ok.kind hg (Calls.loadGlobal_global (by rw [I.ok.glob]; exact I.mod.glob.keeps I.bk) hm h) hd
theorem ld_blt {E : Value → Shared → Prop} {pins : List (Addr × Obj)} {s : Shared} {σ : St} {H : Hp} {x : Str} {u : Value} {pos : Pos} {Q : Value → Shared → Prop} (I : Inv X pins σ H s) (hg : Gl X x) (hm : X.mg x = none) (hv : bootBuiltins x = some u) (h : Q u s)
    (hn : x ≠ "__name__" := by decide) (hd : (x == ("__debug__" : Str)) = false := by decide) : wpAny (model X.prog X.w) X.A (eval (.Name x pos) X.env) Q E s := by
  obtain ⟨mb, h1, h2⟩ := I.mod.blt
  exact Calls.Name_function_global I.ok.kind hg (Calls.loadGlobal_builtin (by rw [I.ok.glob]; exact I.mod.glob.keeps I.bk) hm (by rw [I.ok.blt]; exact h1.keeps I.bk) ((h2 x hn).trans hv) h) hd
/-- a module's constant, a class, a function, as a value -/
theorem pe_glob {x : Str} {v : V} {u : Value} {pos : Pos} (hg : Gl X x) (hm : X.mg x = some u) (r : RelV v u) (hd : (x == ("__debug__" : Str)) = false := by decide) : PE X (.Name x pos) (tC v) :=
  fun _ _ _ H _ I h => ld_glob I hg hm ⟨v, H, I, r, h⟩ hd
theorem pe_bltn {x : Str} {v : V} {u : Value} {pos : Pos} (hg : Gl X x) (hm : X.mg x = none) (hv : bootBuiltins x = some u) (r : RelV v u) (hn : x ≠ "__name__" := by decide) (hd : (x == ("__debug__" : Str)) = false := by decide) : PE X (.Name x pos) (tC v) :=
  fun _ _ _ H _ I h => ld_blt I hg hm hv ⟨v, H, I, r, h⟩ hn hd

/-! ### arithmetic -/
/-- two ints -/
noncomputable def t2I (ta tb : TE) (k : Int → Int → Hp → Prop) : St → Hp → Prop := fun σ H => ta σ H fun x H1 => tb σ H1 fun y H2 => ∃ i j, x = .int i ∧ y = .int j ∧ k i j H2
noncomputable def tAdd (ta tb : TE) : TE := fun σ H Q => t2I ta tb (fun i j H2 => Q (.int (i + j)) H2) σ H
noncomputable def tSub (ta tb : TE) : TE := fun σ H Q => t2I ta tb (fun i j H2 => Q (.int (i - j)) H2) σ H
/-- the left factor below 2^64 -/
noncomputable def tMul (ta tb : TE) : TE := fun σ H Q => t2I ta tb (fun i j H2 => (-(2 ^ 64) < i ∧ i < 2 ^ 64) ∧ Q (.int (i * j)) H2) σ H
variable {a b : Expr} {ta tb : TE} {pos : Pos}
/-! ### comparisons -/
noncomputable def PC (X : Cx) (op : CmpOp) (a b : Expr) (t : TE) : Prop :=
  ∀ (pins : List (Addr × Obj)) (s : Shared) (σ : St) (H : Hp) (Q : VK), Inv X pins σ H s → t σ H Q →
    wpAny (model X.prog X.w) X.A (eval a X.env) (fun v s₁ => wpAny (model X.prog X.w) X.A (eval b X.env) (fun u s₂ => wpAny (model X.prog X.w) X.A (compareOp op v u) (EP X pins σ Q) X.xe s₂) X.xe s₁) X.xe s
theorem nobehind (b : Expr) {op : CmpOp} (h : op ≠ .In) (h2 : op ≠ .NotIn) : behindInMarks op b = false := by
  have e1 : (op == CmpOp.In) = false := by cases op <;> first | rfl | exact absurd rfl h
  have e2 : (op == CmpOp.NotIn) = false := by cases op <;> first | rfl | exact absurd rfl h2
  cases b <;> simp [behindInMarks, e1, e2]
noncomputable def tCmp (p : Int → Int → Bool) (ta tb : TE) : TE := fun σ H Q => t2I ta tb (fun i j H2 => Q (.bl (p i j)) H2) σ H
abbrev tLt : TE → TE → TE := tCmp fun i j => decide (i < j)
abbrev tLe : TE → TE → TE := tCmp fun i j => decide (i ≤ j)
abbrev tGt : TE → TE → TE := tCmp fun i j => decide (j < i)
abbrev tGe : TE → TE → TE := tCmp fun i j => decide (j ≤ i)
abbrev tEqI : TE → TE → TE := tCmp fun i j => decide (i = j)
abbrev tNeI : TE → TE → TE := tCmp fun i j => !decide (i = j)
/-- is None -/
noncomputable def tIsN (ta : TE) : TE := fun σ H Q => ta σ H fun x H1 => Q (.bl (decide (x = .non))) H1
noncomputable def tNotN (ta : TE) : TE := fun σ H Q => ta σ H fun x H1 => Q (.bl (!decide (x = .non))) H1
/-- a comparison as a value, as a test -/
noncomputable def tB (t : TE) : TT := fun σ H Q => t σ H fun x H1 => ∃ c, x = .bl c ∧ Q c H1
theorem pt_cmp {op : CmpOp} {t : TE} (h : PC X op a b t) (h1 : behindInMarks op b = false := by first | exact nobehind _ (by decide) (by decide) | rfl) : PT X (.Compare a [op] [b] pos) (tB t) := by
  intro pins s σ H Q I hw
  refine wpAny_isTrue_Compare1 (thn (h pins s σ H _ I hw) fun v s1 h1 => thn h1 fun u s2 h2 => thn h2 fun c s3 ⟨x, H1, I1, r1, q1⟩ => ?_) h1
  obtain ⟨d, rfl, q⟩ := q1
  cases r1
  exact wpAny_truthy_bool ⟨H1, I1, q⟩
/-- an expression whose value is a bool, as a test -/
theorem pt_val {e : Expr} {t : TE} (h : PE X e t) (he : ∀ whole, isTrue e X.env whole = (do let v ← whole; standAt e.pos; holding [v] (truthy v)) := by intro _; rfl) : PT X e (tB t) := by
  intro pins s σ H Q I hw
  refine isTrue_plain (thn (h pins s σ H _ I hw) fun v s1 ⟨x, H1, I1, r1, q1⟩ => ?_) (he _)
  obtain ⟨d, rfl, q⟩ := q1
  cases r1
  exact wpAny_truthy_bool ⟨H1, I1, q⟩

/-! ### and, or, not -/
variable {tA tB' : TT} {rest : List Expr}
noncomputable def tAnd (t u : TT) : TT := fun σ H Q => t σ H fun c H1 => if c = true then u σ H1 Q else Q false H1
noncomputable def tOr (t u : TT) : TT := fun σ H Q => t σ H fun c H1 => if c = true then Q true H1 else u σ H1 Q
noncomputable def tNot (t : TT) : TT := fun σ H Q => t σ H fun c H1 => Q (!c) H1
theorem pt_not (ha : PT X a tA) : PT X (.UnaryOp .Not a pos) (tNot tA) := by
  intro pins s σ H Q I h
  exact isTrue_not (ha pins s σ H (fun c H1 => Q (!c) H1) I h)
/-- .. as values (bools) -/
noncomputable def tAndV (ta tb : TE) : TE := fun σ H Q => ta σ H fun x H1 => ∃ c, x = .bl c ∧ if c = true then tb σ H1 Q else Q (.bl false) H1
noncomputable def tOrV (ta tb : TE) : TE := fun σ H Q => ta σ H fun x H1 => ∃ c, x = .bl c ∧ if c = true then Q (.bl true) H1 else tb σ H1 Q
noncomputable def tNotV (ta : TE) : TE := fun σ H Q => ta σ H fun x H1 => ∃ c, x = .bl c ∧ Q (.bl (!c)) H1
theorem pe_one {op} {t : TE} (h : PE X a t) : PE X (.BoolOp op [a] pos) t := fun pins s σ H Q I hw => BoolOp_one (h pins s σ H Q I hw)
theorem pe_and (ha : PE X a ta) (hb : PE X (.BoolOp .And (b :: rest) pos) tb) : PE X (.BoolOp .And (a :: b :: rest) pos) (tAndV ta tb) := by
  intro pins s σ H Q I h
  refine BoolOp_and (thn (ha pins s σ H _ I h) fun v s1 ⟨x, H1, I1, r1, q1⟩ => ?_)
  obtain ⟨c, rfl, q1⟩ := q1
  cases r1
  refine wpAny_truthy_bool ?_
  cases c with
  | true => exact hb pins s1 σ H1 Q I1 q1
  | false => exact ⟨.bl false, H1, I1, rfl, q1⟩
theorem pe_not (ha : PE X a ta) : PE X (.UnaryOp .Not a pos) (tNotV ta) := by
  intro pins s σ H Q I h
  refine UnaryOp_ (thn (ha pins s σ H _ I h) fun v s1 ⟨x, H1, I1, r1, q1⟩ => ?_)
  obtain ⟨c, rfl, q1⟩ := q1
  cases r1
  exact not_of (wpAny_truthy_bool ⟨.bl (!c), H1, I1, rfl, q1⟩)
/-- a if t else b -/
noncomputable def tIf (t : TT) (ta tb : TE) : TE := fun σ H Q => t σ H fun c H1 => if c = true then ta σ H1 Q else tb σ H1 Q
theorem pe_ifExp {c : Expr} (hc : PT X c tA) (ha : PE X a ta) (hb : PE X b tb) : PE X (.IfExp c a b pos) (tIf tA ta tb) := by
  intro pins s σ H Q I h
  refine wpAny_IfExp (thn (hc pins s σ H _ I h) fun d s1 ⟨H1, I1, q1⟩ => ?_)
  cases d with
  | true => exact ha pins s1 σ H1 Q I1 q1
  | false => exact hb pins s1 σ H1 Q I1 q1
end
end L2

namespace L2
open PySem PySem.Spec PyProof.Rows

/-! ### a list, a tuple that is read: tracked, frozen, or an object of the module -/
noncomputable def SqL (K : PySem.W.Frag) (H : Hp) (a : Addr) (xs : List V) : Prop :=
  Rd H a (.lst xs) ∨
    ∃ (o : Obj) (its : Array Value) (n : Nat), K.lookup a = some o ∧ o.cls = .type "list" ∧ o.dict = none ∧ o.data = .seq its n ∧ its.size ≤ sizeLine ∧ Vals xs its.toList
noncomputable def SqT (K : PySem.W.Frag) (H : Hp) (a : Addr) (xs : List V) : Prop :=
  Rd H a (.tup xs) ∨
    ∃ (o : Obj) (its : Array Value) (n : Nat), K.lookup a = some o ∧ o.cls = .type "tuple" ∧ o.data = .seq its n ∧ its.size ≤ sizeLine ∧ Vals xs its.toList
noncomputable def absV : Value → Option V
  | .none => some .non
  | .bool b => some (.bl b)
  | .int i _ => some (.int i)
  | .str x _ => some (.str x)
  | .bytes b _ => some (.byt b)
  | .float b _ => some (.flt b)
  | .ref a => some (.ref a)
  | .type n => some (.ty n)
  | _ => none
theorem RelV.abs {x : V} {u : Value} (r : RelV x u) : absV u = some x := by
  cases x with
  | non => cases r; rfl
  | bl _ => cases r; rfl
  | int _ => obtain ⟨t, rfl⟩ := r; rfl
  | str _ => obtain ⟨t, rfl⟩ := r; rfl
  | byt _ => obtain ⟨t, rfl⟩ := r; rfl
  | flt _ => obtain ⟨t, rfl⟩ := r; rfl
  | ref _ => cases r; rfl
  | ty _ => cases r; rfl
theorem RelV.inj {x y : V} {u : Value} (r : RelV x u) (q : RelV y u) : x = y := Option.some.inj (r.abs.symm.trans q.abs)
theorem Vals.inj : ∀ {xs ys : List V} {us : List Value}, Vals xs us → Vals ys us → xs = ys
  | _, _, _, .nil, .nil => rfl
  | _, _, _, .cons r t, .cons r' t' => by rw [r.inj r', Vals.inj t t']
section
variable {X : Cx} {pins : List (Addr × Obj)} {σ : St} {H : Hp} {s : Shared} {a : Addr} {xs ys : List V}
theorem SqL.of {K : PySem.W.Frag} (h : H a = some (.lst xs)) : SqL K H a xs := .inl (.inl h)
theorem SqT.of {K : PySem.W.Frag} (h : H a = some (.tup xs)) : SqT K H a xs := .inl (.inl h)
theorem Inv.list (I : Inv X pins σ H s) (h : SqL X.K H a xs) : ∃ its : List Value, Vals xs its ∧ PlainL s.heap a its.toArray ∧ xs.length ≤ sizeLine := by
  rcases h with h | ⟨o, its, n, hk, hc, hd, hs, hz, r⟩
  · obtain ⟨z, its, n, r, e⟩ := h.ok I.hok
    exact ⟨its, r, ⟨_, n, e, rfl, rfl, rfl⟩, z⟩
  · refine ⟨its.toList, r, ⟨o, n, I.kIn a o hk, hc, hd, by simpa using hs⟩, ?_⟩
    have e := r.length
    simp only [Array.length_toList] at e
    omega
theorem Inv.tuple (I : Inv X pins σ H s) (h : SqT X.K H a xs) : ∃ its : List Value, Vals xs its ∧ IsTup s.heap a its.toArray ∧ xs.length ≤ sizeLine := by
  rcases h with h | ⟨o, its, n, hk, hc, hs, hz, r⟩
  · obtain ⟨z, its, r, p⟩ := h.ok I.hok
    exact ⟨its, r, p, z⟩
  · refine ⟨its.toList, r, ⟨o, I.kIn a o hk, hc, n, by simpa using hs⟩, ?_⟩
    have e := r.length
    simp only [Array.length_toList] at e
    omega
theorem Inv.list_inj (I : Inv X pins σ H s) (h : SqL X.K H a xs) (h' : SqL X.K H a ys) : xs = ys := by
  obtain ⟨its, r, ⟨o, n, e, _, _, d⟩, _⟩ := I.list h
  obtain ⟨its', r', ⟨o', n', e', _, _, d'⟩, _⟩ := I.list h'
  rw [e] at e'; cases e'
  rw [d] at d'
  injection d' with d1 _
  have : its = its' := by simpa using congrArg Array.toList d1
  subst this
  exact r.inj r'
end

/-! ### another wish about exceptions -/
abbrev Cx.wish (X : Cx) (E : Value → Shared → Prop) : Cx := { X with xe := E }
/-- no exception leaves -/
abbrev Cx.nox (X : Cx) : Cx := X.wish fun _ _ => False
theorem Cx.Ok.wish {X : Cx} (ok : X.Ok) (E : Value → Shared → Prop) : (X.wish E).Ok :=
  ⟨ok.mod, ok.kind, ok.glob, ok.blt, ok.above, ok.inj, ok.has, ok.cab, ok.hd, ok.frames, ok.stk, ok.exf, ok.bs, ok.bsz, ok.noex, ok.exfs, ok.funs, ok.frf⟩
theorem Cx.Ok.unwish {X : Cx} {E : Value → Shared → Prop} (ok : (X.wish E).Ok) : X.Ok :=
  ⟨ok.mod, ok.kind, ok.glob, ok.blt, ok.above, ok.inj, ok.has, ok.cab, ok.hd, ok.frames, ok.stk, ok.exf, ok.bs, ok.bsz, ok.noex, ok.exfs, ok.funs, ok.frf⟩
section
variable {X : Cx} {pins : List (Addr × Obj)} {σ : St} {H : Hp} {s : Shared} {E : Value → Shared → Prop}
theorem Inv.wish (I : Inv X pins σ H s) (E : Value → Shared → Prop) : Inv (X.wish E) pins σ H s := ⟨I.ok.wish E, I.os, I.bare, I.base, I.loc, I.cell, I.free, I.freeC, I.pin, I.hok, I.len⟩
theorem Inv.unwish (I : Inv (X.wish E) pins σ H s) : Inv X pins σ H s := ⟨I.ok.unwish, I.os, I.bare, I.base, I.loc, I.cell, I.free, I.freeC, I.pin, I.hok, I.len⟩
theorem SP.unwish {D : Ends} {f : Flow} {s' : Shared} (h : SP (X.wish E) pins D f s') : SP X pins D f s' := by
  cases f with
  | next => obtain ⟨σ', H', I, q⟩ := h; exact ⟨σ', H', I.unwish, q⟩
  | brk => obtain ⟨σ', H', I, q⟩ := h; exact ⟨σ', H', I.unwish, q⟩
  | cont => obtain ⟨σ', H', I, q⟩ := h; exact ⟨σ', H', I.unwish, q⟩
  | ret u => obtain ⟨v, σ', H', I, r, q⟩ := h; exact ⟨v, σ', H', I.unwish, r, q⟩
theorem PE.nox {e : Expr} {t : TE} (h : PE X.nox e t) : PE X e t := fun pins s σ H Q I hw =>
  wpAny_mono (h pins s σ H Q (I.wish _) hw) (fun _ _ ⟨v, H', I', r, q⟩ => ⟨v, H', I'.unwish, r, q⟩) fun _ _ z => False.elim z
theorem PT.nox {e : Expr} {t : TT} (h : PT X.nox e t) : PT X e t := fun pins s σ H Q I hw =>
  wpAny_mono (h pins s σ H Q (I.wish _) hw) (fun _ _ ⟨H', I', q⟩ => ⟨H', I'.unwish, q⟩) fun _ _ z => False.elim z
theorem PSs.nox {st : List Stmt} {t : TS} (h : PSs X.nox st t) : PSs X st t := fun pins s σ H D I hw =>
  wpAny_mono (h pins s σ H D (I.wish _) hw) (fun _ _ q => q.unwish) fun _ _ z => False.elim z
end

/-! ### blocks and small statements -/
section
variable {X : Cx} {st : Stmt} {rest : List Stmt} {t u : TS} {e : Expr} {te : TE} {pos : Pos}
noncomputable def tNext : TS := fun D σ H => D.nx σ H
noncomputable def tSeq (t u : TS) : TS := fun D σ H => t { D with nx := u D } σ H
theorem pss_nil : PSs X [] tNext := fun _ _ σ H _ I h => wpAny_execs_nil ⟨σ, H, I, h⟩
theorem pss_cons (h1 : PS X st t) (h2 : PSs X rest u) : PSs X (st :: rest) (tSeq t u) := by
  intro pins s σ H D I h
  refine wpAny_execs_cons (thn (h1 pins s σ H { D with nx := u D } I h) fun f s1 q => ?_)
  cases f with
  | next =>
    obtain ⟨σ', H', I', q⟩ := q
    exact h2 pins s1 σ' H' D I' q
  | ret v => exact q
  | brk => exact q
  | cont => exact q
theorem pss_one (h1 : PS X st t) : PSs X [st] t := by
  intro pins s σ H D I h
  refine wpAny_execs_cons (thn (h1 pins s σ H D I h) fun f s1 q => ?_)
  cases f with
  | next => exact wpAny_execs_nil q
  | ret v => exact q
  | brk => exact q
  | cont => exact q
noncomputable def tBreak : TS := fun D σ H => D.bk σ H
noncomputable def tCont : TS := fun D σ H => D.ct σ H
/-- in a def's body nothing is shown -/
theorem Inv.quiet {pins : List (Addr × Obj)} {σ : St} {H : Hp} {s : Shared} (I : Inv X pins σ H s) : interactive X.env = false := by simp [interactive, I.ok.kind]
/-- an expression whose value is dropped -/
noncomputable def tDrop (te : TE) : TS := fun D σ H => te σ H fun _ H1 => D.nx σ H1
theorem ps_expr (he : PE X e te) (hs : swapsWith e none pos.line X.env = pure false := by rfl) : PS X (.Expr e pos) (tDrop te) := by
  intro pins s σ H D I h
  exact wpAny_Expr_any (thn (he pins s σ H _ I h) fun v s1 ⟨x, H1, I1, r1, q1⟩ => ⟨σ, H1, I1, q1⟩) I.quiet hs
noncomputable def tRet (te : TE) : TS := fun D σ H => te σ H D.rt
theorem ps_ret (he : PE X e te) : PS X (.Return (some e) pos) (tRet te) := by
  intro pins s σ H D I h
  exact wpAny_Return_some (thn (he pins s σ H _ I h) fun v s1 ⟨x, H1, I1, r1, q1⟩ => ⟨x, σ, H1, I1, r1, q1⟩)
noncomputable def tRetN : TS := fun D _ H => D.rt .non H
noncomputable def tIfS (c : TT) (t u : TS) : TS := fun D σ H => c σ H fun b H1 => if b = true then t D σ H1 else u D σ H1
theorem ps_if {c : Expr} {a b : List Stmt} {tc : TT} (hc : PT X c tc) (ha : PSs X a t) (hb : PSs X b u) : PS X (.If c a b pos) (tIfS tc t u) := by
  intro pins s σ H D I h
  refine wpAny_If (thn (hc pins s σ H _ I h) fun d s1 ⟨H1, I1, q1⟩ => ?_)
  cases d with
  | true => exact ha pins s1 σ H1 D I1 q1
  | false => exact hb pins s1 σ H1 D I1 q1
/-- code that the proof never comes to -/
noncomputable def tNever : TS := fun _ _ _ => False
theorem ps_never : PS X st tNever := fun _ _ _ _ _ _ h => h.elim
end

/-! ### targets -/
abbrev TG := V → St → Hp → (St → Hp → Prop) → Prop
abbrev TGs := List V → St → Hp → (St → Hp → Prop) → Prop
noncomputable def PG (X : Cx) (target : Expr) (t : TG) : Prop :=
  ∀ (pins : List (Addr × Obj)) (s : Shared) (σ : St) (H : Hp) (v : V) (u : Value) (Q : St → Hp → Prop), Inv X pins σ H s → RelV v u → t v σ H Q →
    wpAny (model X.prog X.w) X.A (assign target X.env u) (fun _ s' => ∃ σ' H', Inv X pins σ' H' s' ∧ Q σ' H') X.xe s
/-- several targets, one after another -/
noncomputable def PGs (X : Cx) (ts : List Expr) (t : TGs) : Prop :=
  ∀ (pins : List (Addr × Obj)) (s : Shared) (σ : St) (H : Hp) (vs : List V) (us : List Value) (Q : St → Hp → Prop), Inv X pins σ H s → Vals vs us → t vs σ H Q →
    wpAny (model X.prog X.w) X.A (assignInOrder ((assignEach ts X.env).map (·.2)) us) (fun _ s' => ∃ σ' H', Inv X pins σ' H' s' ∧ Q σ' H') X.xe s
/-- o[i] = v, by values -/
abbrev TSet := V → V → V → Hp → (Hp → Prop) → Prop
noncomputable def PSet (X : Cx) (t : TSet) : Prop :=
  ∀ (pins : List (Addr × Obj)) (s : Shared) (σ : St) (H : Hp) (o i v : V) (ov iv u : Value) (Q : Hp → Prop), Inv X pins σ H s → RelV o ov → RelV i iv → RelV v u → t o i v H Q →
    wpAny (model X.prog X.w) X.A (setItem ov iv u) (fun _ s' => ∃ H', Inv X pins σ H' s' ∧ Q H') X.xe s
/-- a op= b, by values -/
abbrev TIp := V → V → Hp → VK → Prop
noncomputable def PIp (X : Cx) (op : Operator) (t : TIp) : Prop :=
  ∀ (pins : List (Addr × Obj)) (s : Shared) (σ : St) (H : Hp) (x y : V) (v u : Value) (Q : VK), Inv X pins σ H s → RelV x v → RelV y u → t x y H Q →
    wpAny (model X.prog X.w) X.A (inplaceOp op v u) (EP X pins σ Q) X.xe s
section
variable {X : Cx} {pos : Pos}
noncomputable def gName (i : Nat) : TG := fun v σ H Q => Q (σ.set i (some v)) H
theorem pg_name {i : Nat} {x : Str} (hN : X.N.Nodup) (hi : X.N[i]? = some x) (hx : Loc X.env.scope x) (hf : X.fn x = true ∨ X.env.scope.names.lookup x = some .local := by first | exact .inl rfl | exact .inr rfl | assumption) : PG X (.Name x pos) (gName i) := by
  intro pins s σ H v u Q I r h
  exact wpAny_assign_Name (store_ok I hN hi hx r (fun s' I' => ⟨_, H, I', h⟩) hf)
noncomputable def gNil : TGs := fun vs σ H Q => vs = [] ∧ Q σ H
noncomputable def gCons (t : TG) (u : TGs) : TGs := fun vs σ H Q => ∃ v r, vs = v :: r ∧ t v σ H fun σ' H' => u r σ' H' Q
theorem pgs_nil : PGs X [] gNil := by
  intro pins s σ H vs us Q I r h
  obtain ⟨e, h⟩ := h
  subst e
  cases r
  exact assignInOrder_nil ⟨σ, H, I, h⟩
theorem pgs_cons {e : Expr} {es : List Expr} {t : TG} {u : TGs} (h1 : PG X e t) (h2 : PGs X es u)
    (hs : (assignEach (e :: es) X.env).map (·.2) = assign e X.env :: (assignEach es X.env).map (·.2) := by rfl) : PGs X (e :: es) (gCons t u) := by
  intro pins s σ H vs us Q I r h
  obtain ⟨v, vr, e1, h⟩ := h
  subst e1
  cases r with
  | cons r rr =>
    rw [hs]
    refine assignInOrder_cons (thn (h1 pins s σ H _ _ _ I r h) fun _ s1 ⟨σ1, H1, I1, q1⟩ => ?_)
    exact h2 pins s1 σ1 H1 _ _ Q I1 rr q1
/-- (a, b, ..) = a tuple of that length -/
noncomputable def gTup (K : PySem.W.Frag) (n : Nat) (t : TGs) : TG := fun v σ H Q => ∃ a xs, v = .ref a ∧ SqT K H a xs ∧ xs.length = n ∧ t xs σ H Q
theorem pg_tup {es : List Expr} {k : Nat} {t : TGs} {n : Nat} (hc : X.calm = true) (h : PGs X es t)
    (hn : (assignEach es X.env).length = n := by rfl) (hst : (assignEach es X.env).findIdx? (·.1) = none := by rfl) : PG X (.Tuple es k pos) (gTup X.K n t) := by
  intro pins s σ H v u Q I r hw
  obtain ⟨a, xs, e1, hq, hl, hw⟩ := hw
  subst e1
  cases r
  obtain ⟨its, rv, ht, hz⟩ := I.tuple hq
  refine assign_Tuple_tuple (I.ok.hd hc) ht (by simp [hn, ← hl, rv.length]) hst fun h' hx => ?_
  have I1 : Inv X pins σ H { s with heap := h' } := I.kept (t' := s.toks) fun b o e => hx b o (Nat.ne_of_lt (Heap.lt_size e)) e
  exact h pins _ σ H xs _ Q I1 (by simpa using rv) hw
/-- o[i] = .. -/
noncomputable def gSub (to ti : TE) (t : TSet) : TG := fun v σ H Q => to σ H fun o H1 => ti σ H1 fun i H2 => t o i v H2 fun H3 => Q σ H3
theorem pg_sub {o i : Expr} {to ti : TE} {t : TSet} (ho : PE X o to) (hi : PE X i ti) (hs : PSet X t)
    (ha : ∀ v, assign (.Subscript o i pos) X.env v = (do
      let ov ← holding [v] (eval o X.env)
      let iv ← holding [v, ov] (eval i X.env)
      standAt pos
      holding [v, ov, iv] (setItem ov iv v)
      release [v, ov, iv] []) := by intro _; rfl) : PG X (.Subscript o i pos) (gSub to ti t) := by
  intro pins s σ H v u Q I r h
  rw [ha]
  refine wpAny_bind (wpAny_holding (thn (ho pins s σ H _ I h) fun ov s1 ⟨x, H1, I1, r1, q1⟩ => ?_))
  refine wpAny_bind (wpAny_holding (thn (hi pins s1 σ H1 _ I1 q1) fun iv s2 ⟨y, H2, I2, r2, q2⟩ => ?_))
  refine wpAny_bind (wpAny_standAt (wpAny_bind (wpAny_holding (thn (hs pins s2 σ H2 x y v ov iv u _ I2 r1 r2 r q2) fun _ s3 ⟨H3, I3, q3⟩ => ?_))))
  exact wpAny_release ⟨σ, H3, I3, q3⟩
/-- target = value -/
noncomputable def tAsg (te : TE) (g : TG) : TS := fun D σ H => te σ H fun x H1 => g x σ H1 D.nx
theorem ps_asg {tg e : Expr} {te : TE} {g : TG} (he : PE X e te) (hg : PG X tg g) (hs : swapsWithSole [tg] e pos.line X.env = pure false := by rfl) (hw : swappedStores [tg] e X.env = pure none := by rfl)
    (h1 : (assignEach [tg] X.env).map (·.2) = [assign tg X.env] := by rfl) : PS X (.Assign [tg] e pos) (tAsg te g) := by
  intro pins s σ H D I h
  refine wpAny_Assign_stores (thn (he pins s σ H _ I h) fun v s1 ⟨x, H1, I1, r1, q1⟩ => ?_) hs hw
  rw [h1]
  exact thn (hg pins s1 σ H1 x v _ I1 r1 q1) fun _ s2 q => q
/-- name = value -/
theorem ps_set {i : Nat} {x : Str} {e : Expr} {te : TE} {pos' : Pos} (hN : X.N.Nodup) (hi : X.N[i]? = some x) (hx : Loc X.env.scope x) (he : PE X e te) (hs : swapsWith e (some (.Name x pos')) pos.line X.env = pure false := by rfl) (hf : X.fn x = true ∨ X.env.scope.names.lookup x = some .local := by first | exact .inl rfl | exact .inr rfl | assumption) :
    PS X (.Assign [.Name x pos'] e pos) (tAsg te (gName i)) := by
  intro pins s σ H D I h
  refine wpAny_Assign_Name (thn (he pins s σ H _ I h) fun v s1 ⟨y, H1, I1, r1, q1⟩ => ?_) hs
  exact store_ok I1 hN hi hx r1 (fun s2 I2 => ⟨_, H1, I2, q1⟩) hf
/-- a, b = x, y with plain local names: stored from the right; the pair itself is not tracked (the opening rows as in PyProof/Rows/TupAssign.lean:23) -/
noncomputable def tPar (i j : Nat) (ta : TA) : TS := fun D σ H => ta σ H fun vs H1 => ∃ v w, vs = [v, w] ∧ D.nx ((σ.set i (some v)).set j (some w)) H1
/-- name op= e -/
noncomputable def tAug (i : Nat) (te : TE) (ti : TIp) : TS := fun D σ H => ∃ x, σ[i]? = some (some x) ∧ te σ H fun y H1 => ti x y H1 fun z H2 => D.nx (σ.set i (some z)) H2
/-- o[i] op= e -/
noncomputable def tAugS (to ti te : TE) (tget : V → V → Hp → VK → Prop) (tip : TIp) (tset : TSet) : TS := fun D σ H => to σ H fun o H1 => ti σ H1 fun i H2 => tget o i H2 fun x H3 => te σ H3 fun y H4 => tip x y H4 fun z H5 => tset o i z H5 fun H6 => D.nx σ H6
/-- o[i], by values -/
noncomputable def PGet (X : Cx) (t : V → V → Hp → VK → Prop) : Prop :=
  ∀ (pins : List (Addr × Obj)) (s : Shared) (σ : St) (H : Hp) (o i : V) (ov iv : Value) (Q : VK), Inv X pins σ H s → RelV o ov → RelV i iv → t o i H Q →
    wpAny (model X.prog X.w) X.A (getItem ov iv) (EP X pins σ Q) X.xe s
/-- ints -/
noncomputable def ipI (f : Int → Int → Int) : TIp := fun x y H Q => ∃ i j, x = .int i ∧ y = .int j ∧ Q (.int (f i j)) H
end

/-! ### while -/
section
variable {X : Cx} {pos : Pos}
/-- the invariant W with its measure -/
noncomputable def tWhile (c : TT) (tb : TS) : TS := fun D σ H => ∃ W : Nat → St → Hp → Prop, (∃ m, W m σ H) ∧ ∀ m σ H, W m σ H →
  c σ H fun b H1 => if b = true then ∃ N : St → Hp → Prop, (∀ σ' H', N σ' H' → ∃ m', m' < m ∧ W m' σ' H') ∧ tb { D with nx := N, ct := N, bk := D.nx } σ H1 else D.nx σ H1
theorem ps_while {c : Expr} {body : List Stmt} {tc : TT} {tb : TS} (hp : PassesOwn (model X.prog X.w) X.A X.env X.xe) (hc : PT X c tc) (hb : PSs X body tb) : PS X (.While c body [] pos) (tWhile tc tb) := by
  intro pins s σ H D I h
  obtain ⟨W, ⟨m0, w0⟩, turn⟩ := h
  refine wpAny_While (codeAny_whileLoop (fun n s' => ∃ σ' H', Inv X pins σ' H' s' ∧ W n σ' H') ?_ m0 ⟨σ, H, I, w0⟩)
  rintro n s1 ⟨σ1, H1, I1, w1⟩
  refine wpAny_passesOwn hp (thn (hc pins s1 σ1 H1 _ I1 (turn n σ1 H1 w1)) fun b s2 ⟨H2, I2, q2⟩ => ?_)
  cases b with
  | true =>
    obtain ⟨N, hN, q2⟩ := q2
    rw [if_pos rfl]
    refine wpAny_passesOwn hp (thn (hb pins s2 σ1 H2 _ I2 q2) fun f s3 q3 => ?_)
    cases f with
    | next =>
      obtain ⟨σ3, H3, I3, n3⟩ := q3
      obtain ⟨m', hm, w3⟩ := hN σ3 H3 n3
      exact ⟨m', hm, σ3, H3, I3, w3⟩
    | cont =>
      obtain ⟨σ3, H3, I3, n3⟩ := q3
      obtain ⟨m', hm, w3⟩ := hN σ3 H3 n3
      exact ⟨m', hm, σ3, H3, I3, w3⟩
    | brk => exact q3
    | ret v => exact q3
  | false =>
    rw [if_neg Bool.false_ne_true]
    exact wpAny_execs_nil ⟨σ1, H2, I2, q2⟩
end

/-! ### what a loop or a comprehension walks -/
/-- at turn i: it yields x (the heap may grow), or it stops -/
structure It where
  go : Nat → Hp → Prop
  yld : Nat → Hp → V → Hp → Prop
  stop : Nat → Hp → Prop
/-- the iterator's own objects may turn: they are not the frame's, not pinned, younger than the entry (or a comprehension's own) -/
noncomputable def FpOk (X : Cx) (pins : List (Addr × Obj)) (H : Hp) (b : Addr) : Prop :=
  H b = none ∧ b ≠ X.env.locals ∧ b ∉ X.fs ∧ (b ∈ X.ex ∨ X.s₀.heap.objs.size ≤ b) ∧ (∀ x c, X.env.cells.lookup x = some c → c ≠ b) ∧ ∀ p ∈ X.pn ++ pins, p.1 ≠ b
theorem Inv.fpOk {X : Cx} {pins : List (Addr × Obj)} {σ : St} {H H' : Hp} {s : Shared} {b : Addr} (I : Inv X pins σ H s) (hb : s.heap.objs.size ≤ b) (hn : H' b = none) : FpOk X pins H' b := by
  refine ⟨hn, Nat.ne_of_gt (Nat.lt_of_lt_of_le I.lt hb), I.nofs hb, .inr (Nat.le_trans I.sz hb), fun x c e z => ?_, fun p hp z => ?_⟩
  · obtain ⟨v, q⟩ := I.cell x c e
    exact absurd (Nat.lt_of_lt_of_le q.lt (by rw [z]; exact hb)) (Nat.lt_irrefl _)
  · exact absurd (Nat.lt_of_lt_of_le (Heap.lt_size (I.pin p hp).1) (by rw [z]; exact hb)) (Nat.lt_irrefl _)
structure Turn (P : Program) (w : World) (K : PySem.W.Frag) (tg : Expr) (J : It) (fp : List Addr) (it : Addr) (tn : Nat → Heap → Prop) : Prop where
  mem : it ∈ fp
  obj : ∀ i h, tn i h → ∀ b ∈ fp, ∃ o, h.get? b = some o ∧ ∀ v, o.data ≠ .cell v
  keep : ∀ i h h', tn i h → (∀ b ∈ fp, ∀ o, h.get? b = some o → h'.get? b = some o) → tn i h'
  item : ∀ (X : Cx), X.prog = P → X.w = w → X.K = K → X.calm = true → ∀ (i : Nat) (pins : List (Addr × Obj)) (s : Shared) (σ : St) (H : Hp) (E : Value → Shared → Prop), Inv X pins σ H s → (∀ b ∈ fp, FpOk X pins H b) → tn i s.heap → J.go i H →
    wpAny (model P w) X.A (pyNext (.ref it)) (fun r s1 => ∃ u, r = some u ∧
      wpAny (model P w) X.A (letOwnedTupleGo tg (.ref it) u) (fun _ s2 => ∃ x H', Inv X pins σ H' s2 ∧ RelV x u ∧ J.yld i H x H' ∧ tn (i + 1) s2.heap ∧ ∀ b ∈ fp, H' b = none) E s1) E s
  done : ∀ (X : Cx), X.prog = P → X.w = w → X.K = K → X.calm = true → ∀ (i : Nat) (pins : List (Addr × Obj)) (s : Shared) (σ : St) (H : Hp) (E : Value → Shared → Prop), Inv X pins σ H s → (∀ b ∈ fp, FpOk X pins H b) → tn i s.heap → J.stop i H →
    wpAny (model P w) X.A (pyNext (.ref it)) (fun r s1 => r = none ∧ Inv X pins σ H s1) E s
  self : ∀ (A : Around) (i : Nat) (s : Shared) (Q : Value → Shared → Prop) (E : Value → Shared → Prop), tn i s.heap → Q (.ref it) s → wpAny (model P w) A (pyIter (.ref it)) Q E s
abbrev TI := St → Hp → (It → Hp → Prop) → Prop
/-- an iterator has come -/
noncomputable def PIE (X : Cx) (pins : List (Addr × Obj)) (σ : St) (tg : Expr) (R : It → Hp → Prop) (itv : Value) (s2 : Shared) : Prop :=
  ∃ (it : Addr) (fp : List Addr) (tn : Nat → Heap → Prop) (J : It) (H' : Hp), itv = .ref it ∧ Inv X pins σ H' s2 ∧ Turn X.prog X.w X.K tg J fp it tn ∧ tn 0 s2.heap ∧ (∀ b ∈ fp, FpOk X pins H' b) ∧ R J H'
noncomputable def PI (X : Cx) (tg iter : Expr) (wi : TI) : Prop :=
  ∀ (pins : List (Addr × Obj)) (s : Shared) (σ : St) (H : Hp) (R : It → Hp → Prop), Inv X pins σ H s → wi σ H R →
    wpAny (model X.prog X.w) X.A (eval iter X.env) (fun v s1 => wpAny (model X.prog X.w) X.A (pyIter v) (PIE X pins σ tg R) X.xe s1) X.xe s

/-- the step ahead of the store is nothing for an iterator that keeps no tuple -/
theorem go_of {M : Model} {A : Around} {E : Value → Shared → Prop} {s : Shared} {tg : Expr} {it : Addr} {u : Value} {o : Obj} {n : String} {vs : Array Value} {Q : Unit → Shared → Prop} (ho : s.heap.get? it = some o) (hc : o.cls = .type n) (hd : o.data = .fields vs)
    (hn : ["enumerate", "zip", "dict_itemiterator", "dict_reverseitemiterator", "odict_iterator", "itertools.zip_longest", "itertools.pairwise"].contains n = false) (hQ : Q () s) : wpAny M A (letOwnedTupleGo tg (.ref it) u) Q E s := by
  unfold letOwnedTupleGo
  cases tg <;> first
    | exact wpAny_pure hQ
    | (cases u <;> first
        | exact wpAny_pure hQ
        | (refine wpAny_bind (wpAny_load ho ?_)
           rw [hc, hd]
           show wpAny M A (if (["enumerate", "zip", "dict_itemiterator", "dict_reverseitemiterator", "odict_iterator", "itertools.zip_longest", "itertools.pairwise"].contains n && vs[0]? == some (rawInt _)) = true then _ else _) Q E s
           rw [if_neg (by intro h; rw [hn, Bool.false_and] at h; cases h)]
           exact wpAny_pure hQ))

/-- the list at a, as it stands at each turn (a loop may append to it) -/
noncomputable def Itl (K : PySem.W.Frag) (a : Addr) : It :=
  ⟨fun i H => ∃ xs x, SqL K H a xs ∧ xs[i]? = some x, fun i H x H' => H' = H ∧ ∀ xs, SqL K H a xs → xs[i]? = some x, fun i H => ∃ xs, SqL K H a xs ∧ xs.length ≤ i⟩
noncomputable def Itt (K : PySem.W.Frag) (a : Addr) : It :=
  ⟨fun i H => ∃ xs x, SqT K H a xs ∧ xs[i]? = some x, fun i H x H' => H' = H ∧ ∀ xs, SqT K H a xs → xs[i]? = some x, fun i H => ∃ xs, SqT K H a xs ∧ xs.length ≤ i⟩
/-- lo, lo + 1, .. (n of them) -/
noncomputable def Itr (lo : Int) (n : Nat) : It := ⟨fun i _ => i < n, fun i H x H' => H' = H ∧ x = .int (lo + i), fun i _ => n ≤ i⟩
theorem turn_list {P : Program} {w : World} {K : PySem.W.Frag} {tg : Expr} (a it : Addr) : Turn P w K tg (Itl K a) [it] it (fun i h => h.IsListIter it a i) where
  mem := by simp
  obj := fun i h st b hb => by
    have e : b = it := by simpa using hb
    subst e
    obtain ⟨o, e, c, d⟩ := st
    exact ⟨o, e, fun v z => by rw [d] at z; cases z⟩
  keep := fun i h h' st k => st.at fun o e => k it (by simp) o e
  item := by
    intro X hP hw hK hc i pins s σ H E I hf st hg
    subst hP hw hK
    obtain ⟨xs, x, hq, hx⟩ := hg
    obtain ⟨its, rv, p, hz⟩ := I.list hq
    obtain ⟨u, hu, ru⟩ := rv.get hx
    obtain ⟨f0, f1, f2, f3, f4, f5⟩ := hf it (by simp)
    refine wpAny_pyNext_list_item st p.isList (x := u) (by simpa using hu) fun h' st' sb => ?_
    have I1 : Inv X pins σ H { s with heap := h' } := I.turned (t' := s.toks) (fun b o hb e => (sb.2 b hb).trans e) f0 f1 f3 f4 f5
    obtain ⟨o, e, c, d⟩ := id st'
    exact ⟨u, rfl, go_of (s := { s with heap := h' }) e c d (by decide) ⟨x, H, I1, ru, ⟨rfl, fun ys hy => by rw [I.list_inj hy hq]; exact hx⟩, st', fun b hb => (hf b hb).1⟩⟩
  done := by
    intro X hP hw hK hc i pins s σ H E I hf st hg
    subst hP hw hK
    obtain ⟨xs, hq, hx⟩ := hg
    obtain ⟨its, rv, p, hz⟩ := I.list hq
    obtain ⟨f0, f1, f2, f3, f4, f5⟩ := hf it (by simp)
    have hl := rv.length
    exact wpAny_pyNext_list_end (I.ok.hd hc) st p.isList (by simp; omega) fun h' eb => ⟨rfl, I.turned (t' := s.toks) (fun b o hb e => eb b o hb e) f0 f1 f3 f4 f5⟩
  self := fun _ _ _ _ _ st h => wpAny_pyIter_listiter st h
theorem turn_range {P : Program} {w : World} {K : PySem.W.Frag} {tg : Expr} (it : Addr) (lo : Int) (n : Nat) : Turn P w K tg (Itr lo n) [it] it (fun i h => IsRangeIter h it (lo + (i : Nat) * 1) ((n : Int) - (i : Nat)) 1) where
  mem := by simp
  obj := fun i h st b hb => by
    have e : b = it := by simpa using hb
    subst e
    exact ⟨_, st, fun v z => by
      have z' : Data.fields _ = Data.cell v := z
      cases z'⟩
  keep := fun i h h' st k => k it (by simp) _ st
  item := by
    intro X hP hw hK hc i pins s σ H E I hf st hg
    subst hP hw hK
    obtain ⟨f0, f1, f2, f3, f4, f5⟩ := hf it (by simp)
    have W := Walks.range (prog := X.prog) (w := X.w) (I.ok.hd hc) it lo 1 n
    refine W.item i s _ _ hg st fun v h' tk hv st' kk => ?_
    obtain ⟨t, rfl⟩ := hv
    have I1 : Inv X pins σ H { s with heap := h', toks := tk } := I.turned (fun b o hb e => kk b o (by simpa using hb) e) f0 f1 f3 f4 f5
    refine ⟨_, rfl, go_of (s := { s with heap := h', toks := tk }) (n := "range_iterator") st' rfl rfl (by decide) ⟨.int (lo + i), H, I1, ⟨t, ?_⟩, ⟨rfl, rfl⟩, st', fun b hb => (hf b hb).1⟩⟩
    rw [Int.mul_one]
  done := by
    intro X hP hw hK hc i pins s σ H E I hf st hg
    subst hP hw hK
    obtain ⟨f0, f1, f2, f3, f4, f5⟩ := hf it (by simp)
    exact wpAny_pyNext_range_end (I.ok.hd hc) st (by have : n ≤ i := hg; omega) fun h' eb => ⟨rfl, I.turned (t' := s.toks) (fun b o hb e => eb b o hb e) f0 f1 f3 f4 f5⟩
  self := fun _ _ _ _ _ st h => wpAny_pyIter_rangeiter st h
end L2

namespace L2
open PySem PySem.Spec PyProof.Rows
section
variable {X : Cx} {tg : Expr}
noncomputable def iList (K : PySem.W.Frag) (tl : TE) : TI := fun σ H R => tl σ H fun x H1 => ∃ a, x = .ref a ∧ (∃ xs, SqL K H1 a xs) ∧ R (Itl K a) H1
noncomputable def iTup (K : PySem.W.Frag) (tl : TE) : TI := fun σ H R => tl σ H fun x H1 => ∃ a, x = .ref a ∧ (∃ xs, SqT K H1 a xs) ∧ R (Itt K a) H1
theorem pi_list {l : Expr} {tl : TE} (hl : PE X l tl) : PI X tg l (iList X.K tl) := by
  intro pins s σ H R I h
  refine thn (hl pins s σ H _ I h) fun v s1 ⟨x, H1, I1, r1, q1⟩ => ?_
  obtain ⟨a, e, ⟨xs, hq⟩, q⟩ := q1
  subst e
  cases r1
  obtain ⟨its, rv, p, hz⟩ := I1.list hq
  refine wpAny_pyIter_list p.isList ?_
  refine ⟨s1.heap.objs.size, [s1.heap.objs.size], _, _, H1, rfl, I1.kept (t' := s1.toks) fun b o e => Heap.get?_push_of_some _ e, turn_list a _, ⟨_, Heap.get?_push_size _ rfl, rfl, rfl⟩, fun b hb => ?_, q⟩
  have e : b = s1.heap.objs.size := by simpa using hb
  subst e
  exact I1.fpOk (Nat.le_refl _) (I1.hok.fresh (Nat.le_refl _))
/-- a range object just made, walked -/
theorem range_it {pins : List (Addr × Obj)} {σ : St} {H : Hp} {s : Shared} {R : It → Hp → Prop} {E : Value → Shared → Prop} {lo hi : Int} {t u v : Tok} {tk : Nat} (I : Inv X pins σ H s) (h1 : -(2 ^ 62) ≤ lo) (h2 : lo < 2 ^ 62) (h3 : -(2 ^ 62) ≤ hi) (h4 : hi < 2 ^ 62)
    (q : R (Itr lo (hi - lo).toNat) H) : wpAny (model X.prog X.w) X.A (pyIter (.ref s.heap.objs.size)) (PIE X pins σ tg R) E { s with heap := s.heap.push { cls := .type "range", data := .fields #[.int lo t, .int hi u, .int 1 v] }, toks := tk } := by
  refine wpAny_pyIter_range (IsRange.new ..) (small_one h1 h2 h3 h4) ?_
  have I1 : Inv X pins σ H { s with heap := s.heap.push { cls := .type "range", data := .fields #[.int lo t, .int hi u, .int 1 v] }, toks := tk } := I.kept fun b o e => Heap.get?_push_of_some _ e
  refine ⟨(s.heap.push { cls := .type "range", data := .fields #[.int lo t, .int hi u, .int 1 v] }).objs.size, [(s.heap.push { cls := .type "range", data := .fields #[.int lo t, .int hi u, .int 1 v] }).objs.size], _, _, H, rfl,
    I1.kept (t' := tk) fun b o e => Heap.get?_push_of_some _ e, turn_range _ lo (hi - lo).toNat, ?_, fun b hb => ?_, q⟩
  · have e1 : lo + ((0 : Nat) : Int) * 1 = lo := by simp
    have e2 : (((hi - lo).toNat : Nat) : Int) - ((0 : Nat) : Int) = Builtin.Range.rangeSize lo hi 1 := by rw [rangeSize_one]; split <;> omega
    show IsRangeIter _ _ (lo + ((0 : Nat) : Int) * 1) ((((hi - lo).toNat : Nat) : Int) - ((0 : Nat) : Int)) 1
    rw [e1, e2]
    exact Heap.get?_push_size _ rfl
  · have e : b = (s.heap.push { cls := .type "range", data := .fields #[.int lo t, .int hi u, .int 1 v] }).objs.size := by simpa using hb
    subst e
    exact I1.fpOk (Nat.le_refl _) (I1.hok.fresh (Nat.le_refl _))
noncomputable def iRng1 (ta : TA) : TI := fun σ H R => ta σ H fun vs H1 => ∃ j : Int, vs = [.int j] ∧ -(2 ^ 62) ≤ j ∧ j < 2 ^ 62 ∧ R (Itr 0 j.toNat) H1
noncomputable def iRng2 (ta : TA) : TI := fun σ H R => ta σ H fun vs H1 => ∃ i j : Int, vs = [.int i, .int j] ∧ (-(2 ^ 62) ≤ i ∧ i < 2 ^ 62 ∧ -(2 ^ 62) ≤ j ∧ j < 2 ^ 62) ∧ R (Itr i (j - i).toNat) H1
theorem pi_range1 {a : Expr} {ta : TA} {p pos : Pos} (hg : Gl X "range") (hm : X.mg "range" = none) (ha : PA X [a] ta) (hs : starEach [a] X.env = [(false, eval a X.env)] := by rfl) : PI X tg (.Call (.Name "range" p) [a] [] pos) (iRng1 ta) := by
  intro pins s σ H R I h
  refine Call_ (ld_blt I hg hm boot_range (PyProof.Rows.callWith_type1 (thn (ha pos pins s σ H _ I h) fun us s1 ⟨vs, H1, I1, r1, q1⟩ => ?_) hs rfl))
  obtain ⟨j, e, q1, q2, q⟩ := q1
  subst e
  cases r1 with
  | cons r rr =>
    cases rr
    obtain ⟨t, rfl⟩ := r
    exact call_range_1 (range_it I1 (by omega) (by omega) q1 q2 (by simpa using q))
/-! ### for -/
/-- W: the invariant by the turn and a measure; N: what the body is to reach -/
noncomputable def tFor (wi : TI) (g : TG) (tb : TS) : TS := fun D σ H => wi σ H fun J H1 => ∃ W : Nat → Nat → St → Hp → Prop, (∃ m, W 0 m σ H1) ∧ ∀ i m σ H, W i m σ H →
  (J.stop i H ∧ D.nx σ H) ∨ (J.go i H ∧ ∃ N : St → Hp → Prop, (∀ σ' H', N σ' H' → ∃ m', m' < m ∧ W (i + 1) m' σ' H') ∧ ∀ x H', J.yld i H x H' → g x σ H' fun σ2 H2 => tb { D with nx := N, ct := N, bk := D.nx } σ2 H2)
/-- the records at fp as they stand -/
noncomputable def pinsAt (fp : List Addr) (h : Heap) : List (Addr × Obj) := fp.filterMap fun b => (h.get? b).map fun o => (b, o)
theorem mem_pinsAt {fp : List Addr} {h : Heap} {b : Addr} {o : Obj} (hb : b ∈ fp) (e : h.get? b = some o) : (b, o) ∈ pinsAt fp h := List.mem_filterMap.mpr ⟨b, hb, by rw [e]; rfl⟩
theorem of_pinsAt {fp : List Addr} {h : Heap} {p : Addr × Obj} (hp : p ∈ pinsAt fp h) : p.1 ∈ fp ∧ h.get? p.1 = some p.2 := by
  obtain ⟨b, hb, e⟩ := List.mem_filterMap.mp hp
  cases q : h.get? b with
  | none => rw [q] at e; cases e
  | some o =>
    rw [q] at e
    have e' : (b, o) = p := Option.some.inj e
    subst e'
    exact ⟨hb, q⟩
theorem Inv.pinned {pins : List (Addr × Obj)} {σ : St} {H : Hp} {s : Shared} {fp : List Addr} (I : Inv X pins σ H s) (hf : ∀ b ∈ fp, FpOk X pins H b) (ho : ∀ b ∈ fp, ∃ o, s.heap.get? b = some o ∧ ∀ v, o.data ≠ .cell v) : Inv X (pins ++ pinsAt fp s.heap) σ H s :=
  I.pins_of fun p hp => (List.mem_append.mp hp).elim (fun z => I.pin p (List.mem_append_right _ z)) fun z => by
    obtain ⟨hb, e⟩ := of_pinsAt z
    obtain ⟨f0, f1, f2, _⟩ := hf p.1 hb
    obtain ⟨o, e', d⟩ := ho p.1 hb
    rw [e] at e'; cases e'
    exact ⟨e, f0, f1, f2, d⟩
theorem Inv.unpinned {pins pl : List (Addr × Obj)} {σ : St} {H : Hp} {s : Shared} (I : Inv X (pins ++ pl) σ H s) : Inv X pins σ H s := I.pins_of fun p hp => I.pin p (List.mem_append_right _ (List.mem_append_left _ hp))
theorem ps_for {iter : Expr} {body : List Stmt} {wi : TI} {g : TG} {tb : TS} {pos : Pos} (hp : PassesOwn (model X.prog X.w) X.A X.env X.xe) (hc : X.calm = true) (hi : PI X tg iter wi) (hg : PG X tg g) (hb : PSs X body tb)
    (hs : ∀ x, foldedSetIterable iter X.env x = pure x := by intro _; rfl) : PS X (.For tg iter body [] pos) (tFor wi g tb) := by
  intro pins s σ H D I h
  refine wpAny_For (thn (hi pins s σ H _ I h) fun v s1 h1 => thn h1 fun itv s2 h2 => ?_) hs
  obtain ⟨it, fp, tn, J, H2, e, I2, T, st2, f2, W, ⟨m0, w0⟩, turn⟩ := h2
  subst e
  -- what stays true of the iterator's objects through the loop
  have stat : ∀ {H' : Hp}, (∀ b ∈ fp, H' b = none) → ∀ b ∈ fp, FpOk X pins H' b := fun hn b hb => ⟨hn b hb, (f2 b hb).2⟩
  refine codeAny_forLoop_any (fun n s' => ∃ i σ' H', Inv X pins σ' H' s' ∧ tn i s'.heap ∧ (∀ b ∈ fp, H' b = none) ∧ W i n σ' H') ?_ m0 ⟨0, σ, H2, I2, st2, fun b hb => (f2 b hb).1, w0⟩
  rintro n s3 ⟨i, σ3, H3, I3, st3, fr3, w3⟩
  rcases turn i n σ3 H3 w3 with ⟨stop, qn⟩ | ⟨go, N, hN, step⟩
  · refine wpAny_passesOwn hp (thn (T.done X rfl rfl rfl hc i pins s3 σ3 H3 X.xe I3 (stat fr3) st3 stop) fun r s4 ⟨hr, I4⟩ => ?_)
    subst hr
    exact wpAny_execs_nil ⟨σ3, H3, I4, qn⟩
  · refine wpAny_passesOwn hp (thn (T.item X rfl rfl rfl hc i pins s3 σ3 H3 X.xe I3 (stat fr3) st3 go) fun r s4 ⟨u, hr, h4⟩ => ?_)
    subst hr
    refine wpAny_passesOwn hp (thn h4 fun _ s5 ⟨x, H5, I5, r5, y5, st5, fr5⟩ => ?_)
    have I5' := I5.pinned (stat fr5) (T.obj _ _ st5)
    refine wpAny_passesOwn hp (thn (hg _ s5 σ3 H5 x u _ I5' r5 (step x H5 y5)) fun _ s6 ⟨σ6, H6, I6, q6⟩ => ?_)
    refine wpAny_passesOwn hp (thn (hb _ s6 σ6 H6 _ I6 q6) fun f s7 q7 => ?_)
    have again : ∀ {σ7 : St} {H7 : Hp}, Inv X (pins ++ pinsAt fp s5.heap) σ7 H7 s7 → N σ7 H7 → ∃ m, m < n ∧ ∃ i σ' H', Inv X pins σ' H' s7 ∧ tn i s7.heap ∧ (∀ b ∈ fp, H' b = none) ∧ W i m σ' H' := fun {σ7 H7} I7 n7 => by
      obtain ⟨m', hm, w7⟩ := hN σ7 H7 n7
      refine ⟨m', hm, i + 1, σ7, H7, I7.unpinned, T.keep _ _ _ st5 fun b hb o e => (I7.pin (b, o) (List.mem_append_right _ (List.mem_append_right _ (mem_pinsAt hb e)))).1, fun b hb => ?_, w7⟩
      obtain ⟨o, e, d⟩ := T.obj _ _ st5 b hb
      exact (I7.pin (b, o) (List.mem_append_right _ (List.mem_append_right _ (mem_pinsAt hb e)))).2.1
    cases f with
    | next => obtain ⟨σ7, H7, I7, n7⟩ := q7; exact again I7 n7
    | cont => obtain ⟨σ7, H7, I7, n7⟩ := q7; exact again I7 n7
    | brk => obtain ⟨σ7, H7, I7, q7⟩ := q7; exact ⟨σ7, H7, I7.unpinned, q7⟩
    | ret v => obtain ⟨x7, σ7, H7, I7, r7, q7⟩ := q7; exact ⟨x7, σ7, H7, I7.unpinned, r7, q7⟩
end

/-! ### the forms one uses -/
end L2

namespace L2
open PySem PySem.Spec PyProof.Rows

abbrev R2 := V → V → Hp → VK → Prop
/-- a two-place operation on values: f is binaryOp op, inplaceOp op or compareOp op -/
noncomputable def OpR (X : Cx) (f : Value → Value → Sem Value) (r : R2) : Prop :=
  ∀ (pins : List (Addr × Obj)) (s : Shared) (σ : St) (H : Hp) (x y : V) (v u : Value) (Q : VK), Inv X pins σ H s → RelV x v → RelV y u → r x y H Q →
    wpAny (model X.prog X.w) X.A (f v u) (EP X pins σ Q) X.xe s
/-- a one-place operation -/
noncomputable def UnR (X : Cx) (f : Value → Sem Value) (r : V → Hp → VK → Prop) : Prop :=
  ∀ (pins : List (Addr × Obj)) (s : Shared) (σ : St) (H : Hp) (x : V) (v : Value) (Q : VK), Inv X pins σ H s → RelV x v → r x H Q →
    wpAny (model X.prog X.w) X.A (f v) (EP X pins σ Q) X.xe s
/-- a call of a value that is known (a builtin, a type) with values -/
noncomputable def CallR (X : Cx) (f : Value) (r : List V → Hp → VK → Prop) : Prop :=
  ∀ (pins : List (Addr × Obj)) (s : Shared) (σ : St) (H : Hp) (xs : List V) (us : List Value) (Q : VK), Inv X pins σ H s → Vals xs us → r xs H Q →
    wpAny (model X.prog X.w) X.A (call f us) (EP X pins σ Q) X.xe s
/-- a value's truth -/
noncomputable def TruR (X : Cx) (r : V → Hp → (Bool → Hp → Prop) → Prop) : Prop :=
  ∀ (pins : List (Addr × Obj)) (s : Shared) (σ : St) (H : Hp) (x : V) (v : Value) (Q : Bool → Hp → Prop), Inv X pins σ H s → RelV x v → r x H Q →
    wpAny (model X.prog X.w) X.A (truthy v) (TP X pins σ Q) X.xe s

noncomputable def tOp (r : R2) (ta tb : TE) : TE := fun σ H Q => ta σ H fun x H1 => tb σ H1 fun y H2 => r x y H2 Q
noncomputable def tUn (r : V → Hp → VK → Prop) (ta : TE) : TE := fun σ H Q => ta σ H fun x H1 => r x H1 Q
/-- ints in, under C, and a value out -/
noncomputable def rI (C : Int → Int → Prop) (g : Int → Int → V) : R2 := fun x y H Q => ∃ i j, x = .int i ∧ y = .int j ∧ C i j ∧ Q (g i j) H
noncomputable def rI0 (g : Int → Int → V) : R2 := fun x y H Q => ∃ i j, x = .int i ∧ y = .int j ∧ Q (g i j) H
noncomputable def rU (g : Int → V) : V → Hp → VK → Prop := fun x H Q => ∃ i, x = .int i ∧ Q (g i) H

section
variable {X : Cx} {a b c : Expr} {ta tb tc : TE} {pos : Pos}

theorem binT (ha : PE X a ta) (hb : PE X b tb) {pins : List (Addr × Obj)} {s : Shared} {σ : St} {H : Hp} {R : V → V → Hp → Prop} (I : Inv X pins σ H s)
    (h : ta σ H fun x H1 => tb σ H1 fun y H2 => R x y H2) {Q : Value → Shared → Prop} {f : Value → Value → Sem Value}
    (hf : ∀ v u s2 x y H2, Inv X pins σ H2 s2 → RelV x v → RelV y u → R x y H2 → wpAny (model X.prog X.w) X.A (f v u) Q X.xe s2) :
    wpAny (model X.prog X.w) X.A (eval a X.env) (fun v s₁ => wpAny (model X.prog X.w) X.A (eval b X.env) (fun u s₂ => wpAny (model X.prog X.w) X.A (f v u) Q X.xe s₂) X.xe s₁) X.xe s := by
  refine thn (ha pins s σ H _ I h) fun v s1 ⟨x, H1, I1, r1, q1⟩ => ?_
  refine thn (hb pins s1 σ H1 _ I1 q1) fun u s2 ⟨y, H2, I2, r2, q2⟩ => ?_
  exact hf v u s2 x y H2 I2 r1 r2 q2

theorem pe_op {op : Operator} {r : R2} (ho : OpR X (binaryOp op) r) (ha : PE X a ta) (hb : PE X b tb) : PE X (.BinOp a op b pos) (tOp r ta tb) := by
  intro pins s σ H Q I h
  exact wpAny_BinOp (binT ha hb I h fun v u s2 x y H2 I2 rx ry q => ho pins s2 σ H2 x y v u Q I2 rx ry q)
/-! ### ints -/
theorem opI {f : Value → Value → Sem Value} {C : Int → Int → Prop} {g : Int → Int → Int}
    (rule : ∀ (i j : Int) (t u : Tok) (s : Shared) (Q : Value → Shared → Prop) (E : Value → Shared → Prop), C i j → Q (.int (g i j) s.toks) { s with toks := s.toks + 1 } → wpAny (model X.prog X.w) X.A (f (.int i t) (.int j u)) Q E s) :
    OpR X f (rI C fun i j => .int (g i j)) := by
  intro pins s σ H x y v u Q I rx ry h
  obtain ⟨i, j, rfl, rfl, hc, q⟩ := h
  obtain ⟨t, rfl⟩ := rx
  obtain ⟨t', rfl⟩ := ry
  exact rule i j t t' s _ _ hc ⟨.int (g i j), H, I.tok _, ⟨_, rfl⟩, q⟩
theorem opI0 {f : Value → Value → Sem Value} {g : Int → Int → Int}
    (rule : ∀ (i j : Int) (t u : Tok) (s : Shared) (Q : Value → Shared → Prop) (E : Value → Shared → Prop), Q (.int (g i j) s.toks) { s with toks := s.toks + 1 } → wpAny (model X.prog X.w) X.A (f (.int i t) (.int j u)) Q E s) :
    OpR X f (rI0 fun i j => .int (g i j)) := by
  intro pins s σ H x y v u Q I rx ry h
  obtain ⟨i, j, rfl, rfl, q⟩ := h
  obtain ⟨t, rfl⟩ := rx
  obtain ⟨t', rfl⟩ := ry
  exact rule i j t t' s _ _ ⟨.int (g i j), H, I.tok _, ⟨_, rfl⟩, q⟩
theorem opB0 {f : Value → Value → Sem Value} {g : Int → Int → Bool}
    (rule : ∀ (i j : Int) (t u : Tok) (s : Shared) (Q : Value → Shared → Prop) (E : Value → Shared → Prop), Q (.bool (g i j)) s → wpAny (model X.prog X.w) X.A (f (.int i t) (.int j u)) Q E s) :
    OpR X f (rI0 fun i j => .bl (g i j)) := by
  intro pins s σ H x y v u Q I rx ry h
  obtain ⟨i, j, rfl, rfl, q⟩ := h
  obtain ⟨t, rfl⟩ := rx
  obtain ⟨t', rfl⟩ := ry
  exact rule i j t t' s _ _ ⟨.bl (g i j), H, I, rfl, q⟩

noncomputable def CDiv (i j : Int) : Prop := 0 < j ∧ j < 1073741824
noncomputable def CDivN (i j : Int) : Prop := j ≠ 0 ∧ j.natAbs < 1073741824
noncomputable def CPow (i j : Int) : Prop := 0 ≤ j ∧ j ≤ 1000000 ∧ i.natAbs < 2 ^ 64
noncomputable def CMul (i j : Int) : Prop := (-(2 ^ 64) < i ∧ i < 2 ^ 64) ∨ (-(2 ^ 64) < j ∧ j < 2 ^ 64)
theorem CMul.ok {i j : Int} (h : CMul i j) : IntMulOk i j := by
  rcases h with ⟨h1, h2⟩ | ⟨h1, h2⟩
  · exact .of_left (intBits_le_64 h1 h2)
  · exact .of_right (intBits_le_64 h1 h2)
theorem op_add : OpR X (binaryOp .Add) (rI0 fun i j => .int (i + j)) := opI0 fun _ _ _ _ _ _ _ q => add_int q
theorem op_sub : OpR X (binaryOp .Sub) (rI0 fun i j => .int (i - j)) := opI0 fun _ _ _ _ _ _ _ q => sub_int q
/-- % by a positive divisor of any size -/
theorem op_mod : OpR X (binaryOp .Mod) (rI (fun _ j => 0 < j) fun i j => .int (i % j)) := opI fun i j _ _ _ _ _ hc q => by
  have h1 : (0 : Int) < j := hc
  exact mod_int' (by omega) (by rw [Int.fmod_eq_emod_of_nonneg i (by omega)]; exact q)
/-! ### bools among ints: n += (a < b) -/
end

/-! ### comparisons -/
/-- the scalars that == tells apart as data does -/
noncomputable def scal : V → V → Bool
  | .non, .non => true | .non, .int _ => true | .int _, .non => true | .non, .bl _ => true | .bl _, .non => true | .non, .str _ => true | .str _, .non => true
  | .int _, .int _ => true | .bl _, .bl _ => true | .str _, .str _ => true | .byt _, .byt _ => true
  | .int _, .str _ => true | .str _, .int _ => true | .bl _, .str _ => true | .str _, .bl _ => true
  | _, _ => false
noncomputable def rEq : R2 := fun x y H Q => scal x y = true ∧ Q (.bl (decide (x = y))) H
noncomputable def rNe : R2 := fun x y H Q => scal x y = true ∧ Q (.bl (!decide (x = y))) H

theorem dec_int {i j : Int} : decide (V.int i = V.int j) = (i == j) := by
  rw [Bool.eq_iff_iff]
  simp
theorem dec_bl {i j : Bool} : decide (V.bl i = V.bl j) = (i == j) := by
  rw [Bool.eq_iff_iff]
  simp
theorem dec_str {i j : Str} : decide (V.str i = V.str j) = (i == j) := by
  rw [Bool.eq_iff_iff]
  simp
theorem dec_byt {i j : Array UInt8} : decide (V.byt i = V.byt j) = (i.toList == j.toList) := by
  rw [Bool.eq_iff_iff]
  cases i
  cases j
  simp

section
variable {X : Cx} {a b c : Expr} {ta tb tc : TE} {pos : Pos}
theorem fin_bl {pins : List (Addr × Obj)} {σ : St} {H : Hp} {s : Shared} {Q : VK} {k k' : Bool} (I : Inv X pins σ H s) (q : Q (.bl k) H) (e : k = k') : EP X pins σ Q (.bool k') s := by
  subst e
  exact ⟨.bl k, H, I, rfl, q⟩
theorem op_eq : OpR X (compareOp .Eq) rEq := by
  intro pins s σ H x y v u Q I rx ry h
  obtain ⟨hs, q⟩ := h
  cases x with
  | non =>
    cases rx
    cases y with
    | non => cases ry; exact PySem.EqNone.eq_none_none (fin_bl I q (by simp))
    | bl j => cases ry; exact PySem.EqNone.eq_none_bool (fin_bl I q (by simp))
    | int j => obtain ⟨t', rfl⟩ := ry; exact PySem.EqNone.eq_none_int (fin_bl I q (by simp))
    | str j => obtain ⟨t', rfl⟩ := ry; exact PySem.EqNone.eq_none_str (fin_bl I q (by simp))
    | _ => exact absurd (show false = true from hs) Bool.false_ne_true
  | bl i =>
    cases rx
    cases y with
    | non => cases ry; exact PySem.EqNone.eq_bool_none (fin_bl I q (by simp))
    | bl j => cases ry; exact eq_bool (fin_bl I q dec_bl)
    | str j => obtain ⟨t', rfl⟩ := ry; exact PySem.EqMixed.eq_bool_str (fin_bl I q (by simp))
    | _ => exact absurd (show false = true from hs) Bool.false_ne_true
  | int i =>
    obtain ⟨t, rfl⟩ := rx
    cases y with
    | non => cases ry; exact PySem.EqNone.eq_int_none (fin_bl I q (by simp))
    | int j => obtain ⟨t', rfl⟩ := ry; exact eq_int (fin_bl I q dec_int)
    | str j => obtain ⟨t', rfl⟩ := ry; exact PySem.EqMixed.eq_int_str (fin_bl I q (by simp))
    | _ => exact absurd (show false = true from hs) Bool.false_ne_true
  | str i =>
    obtain ⟨t, rfl⟩ := rx
    cases y with
    | non => cases ry; exact PySem.EqNone.eq_str_none (fin_bl I q (by simp))
    | bl j => cases ry; exact PySem.EqMixed.eq_str_bool (fin_bl I q (by simp))
    | int j => obtain ⟨t', rfl⟩ := ry; exact PySem.EqMixed.eq_str_int (fin_bl I q (by simp))
    | str j => obtain ⟨t', rfl⟩ := ry; exact eq_str (fin_bl I q dec_str)
    | _ => exact absurd (show false = true from hs) Bool.false_ne_true
  | byt i =>
    obtain ⟨t, rfl⟩ := rx
    cases y with
    | byt j => obtain ⟨t', rfl⟩ := ry; exact PySem.W.eq_bytes (fin_bl I q dec_byt)
    | _ => exact absurd (show false = true from hs) Bool.false_ne_true
  | _ => cases y <;> exact absurd (show false = true from hs) Bool.false_ne_true
theorem op_ne : OpR X (compareOp .NotEq) rNe := by
  intro pins s σ H x y v u Q I rx ry h
  obtain ⟨hs, q⟩ := h
  cases x with
  | non =>
    cases rx
    cases y with
    | non => cases ry; exact PySem.EqNone.ne_none_none (fin_bl I q (by simp))
    | bl j => cases ry; exact PySem.EqNone.ne_none_bool (fin_bl I q (by simp))
    | int j => obtain ⟨t', rfl⟩ := ry; exact PySem.EqNone.ne_none_int (fin_bl I q (by simp))
    | str j => obtain ⟨t', rfl⟩ := ry; exact PySem.EqNone.ne_none_str (fin_bl I q (by simp))
    | _ => exact absurd (show false = true from hs) Bool.false_ne_true
  | bl i =>
    cases rx
    cases y with
    | non => cases ry; exact PySem.EqNone.ne_bool_none (fin_bl I q (by simp))
    | bl j => cases ry; exact ne_bool (fin_bl I q (congrArg not dec_bl))
    | str j => obtain ⟨t', rfl⟩ := ry; exact PySem.EqMixed.ne_bool_str (fin_bl I q (by simp))
    | _ => exact absurd (show false = true from hs) Bool.false_ne_true
  | int i =>
    obtain ⟨t, rfl⟩ := rx
    cases y with
    | non => cases ry; exact PySem.EqNone.ne_int_none (fin_bl I q (by simp))
    | int j => obtain ⟨t', rfl⟩ := ry; exact ne_int (fin_bl I q (congrArg not dec_int))
    | str j => obtain ⟨t', rfl⟩ := ry; exact PySem.EqMixed.ne_int_str (fin_bl I q (by simp))
    | _ => exact absurd (show false = true from hs) Bool.false_ne_true
  | str i =>
    obtain ⟨t, rfl⟩ := rx
    cases y with
    | non => cases ry; exact PySem.EqNone.ne_str_none (fin_bl I q (by simp))
    | bl j => cases ry; exact PySem.EqMixed.ne_str_bool (fin_bl I q (by simp))
    | int j => obtain ⟨t', rfl⟩ := ry; exact PySem.EqMixed.ne_str_int (fin_bl I q (by simp))
    | str j => obtain ⟨t', rfl⟩ := ry; exact ne_str (fin_bl I q (congrArg not dec_str))
    | _ => exact absurd (show false = true from hs) Bool.false_ne_true
  | byt i =>
    obtain ⟨t, rfl⟩ := rx
    cases y with
    | byt j => obtain ⟨t', rfl⟩ := ry; exact PySem.W.ne_bytes (fin_bl I q (congrArg not dec_byt))
    | _ => exact absurd (show false = true from hs) Bool.false_ne_true
  | _ => cases y <;> exact absurd (show false = true from hs) Bool.false_ne_true

theorem op_lt : OpR X (compareOp .Lt) (rI0 fun i j => .bl (decide (i < j))) := opB0 fun _ _ _ _ _ _ _ q => lt_int q
theorem op_gt : OpR X (compareOp .Gt) (rI0 fun i j => .bl (decide (j < i))) := opB0 fun _ _ _ _ _ _ _ q => gt_int q
theorem op_ge : OpR X (compareOp .GtE) (rI0 fun i j => .bl (decide (j ≤ i))) := opB0 fun _ _ _ _ _ _ _ q => ge_int q
/-- is None, is not None: the right side a value none -/
theorem op_isN : OpR X (compareOp .Is) (fun x y H Q => y = .non ∧ Q (.bl (decide (x = .non))) H) := by
  intro pins s σ H x y v u Q I rx ry h
  obtain ⟨rfl, q⟩ := h
  cases ry
  refine is_none_gen (fin_bl I q ?_)
  cases x <;> first
    | (cases rx; rfl)
    | (obtain ⟨t, rfl⟩ := rx; rfl)
/-- is, is not of two objects that are tracked lists or instances -/
noncomputable def isObj : HO → Bool
  | .lst _ => true
  | .ins _ _ _ => true
  | _ => false
/-- two rules for one operation: by cases -/
theorem OpR.or {f : Value → Value → Sem Value} {r r' : R2} (h : OpR X f r) (h' : OpR X f r') : OpR X f (fun x y H Q => r x y H Q ∨ r' x y H Q) := by
  intro pins s σ H x y v u Q I rx ry q
  rcases q with q | q
  · exact h pins s σ H x y v u Q I rx ry q
  · exact h' pins s σ H x y v u Q I rx ry q

theorem nomark (b : Expr) {op : CmpOp} (h : op ≠ .In := by decide) (h2 : op ≠ .NotIn := by decide) : behindInMarks op b = false := by
  have e1 : (op == CmpOp.In) = false := by cases op <;> first | rfl | exact absurd rfl h
  have e2 : (op == CmpOp.NotIn) = false := by cases op <;> first | rfl | exact absurd rfl h2
  cases b <;> simp [behindInMarks, e1, e2]
/-- a comparison as a value; hm: nomark b, or (for in, not in) by with_unfolding_all rfl -/
theorem pe_cmpR {op : CmpOp} {r : R2} (ho : OpR X (compareOp op) r) (ha : PE X a ta) (hb : PE X b tb) (hm : behindInMarks op b = false) : PE X (.Compare a [op] [b] pos) (tOp r ta tb) := by
  intro pins s σ H Q I h
  exact wpAny_Compare1 (binT ha hb I h fun v u s2 x y H2 I2 rx ry q => ho pins s2 σ H2 x y v u Q I2 rx ry q) hm
/-- a reading of a value as a test -/
noncomputable def tTest (t : TE) : TT := fun σ H Q => t σ H fun x H' => ∃ k, x = .bl k ∧ Q k H'
theorem pt_cmpR {op : CmpOp} {r : R2} (ho : OpR X (compareOp op) r) (ha : PE X a ta) (hb : PE X b tb) (hm : behindInMarks op b = false) : PT X (.Compare a [op] [b] pos) (tTest (tOp r ta tb)) := by
  intro pins s σ H Q I h
  refine wpAny_isTrue_Compare1 (thn (ha pins s σ H _ I h) fun v s1 ⟨x, H1, I1, r1, q1⟩ => thn (hb pins s1 σ H1 _ I1 q1) fun u s2 ⟨y, H2, I2, r2, q2⟩ =>
    thn (ho pins s2 σ H2 x y v u _ I2 r1 r2 q2) fun c s3 ⟨z, H3, I3, r3, k, e, q3⟩ => ?_) hm
  subst e
  cases r3
  exact wpAny_truthy_bool ⟨H3, I3, q3⟩
/-- a op1 b op2 c -/
noncomputable def tChain (r r' : R2) (ta tb tc : TE) : TE := fun σ H Q => ta σ H fun x H1 => tb σ H1 fun y H2 => r x y H2 fun z H3 => ∃ k, z = .bl k ∧
  (if k = true then tc σ H3 fun w' H4 => r' y w' H4 Q else Q (.bl false) H3)
/-! ### truth -/
/-- a value's truth by the abstract heap -/
noncomputable def TruV (K : PySem.W.Frag) (x : V) (H : Hp) (k : Bool) : Prop :=
  match x with
  | .non => k = false
  | .bl b => k = b
  | .int i => k = (i != 0)
  | .str y => y.length ≤ sizeLine ∧ k = ((y.length : Int) != 0)
  | .byt y => y.size ≤ sizeLine ∧ k = ((y.size : Int) != 0)
  | .ref p => (∃ xs, SqL K H p xs ∧ k = !xs.isEmpty) ∨ (∃ xs, SqT K H p xs ∧ k = !xs.isEmpty) ∨ ∃ kvs, H p = some (.dK kvs) ∧ k = !kvs.isEmpty
  | _ => False
theorem line63 : (sizeLine : Nat) < 2 ^ 63 := by rw [sizeLine_eq]; decide
/-! ### strs and bytes -/
noncomputable def PlainIxT (b : Expr) : Prop := ∀ o i, subscripted b false o i = operate [o, i] (getItem o i)
/-! ### scalar builtins, by CallR -/
theorem vals1 {x : V} {us : List Value} (r : Vals [x] us) : ∃ u, us = [u] ∧ RelV x u := by
  cases r with
  | cons r1 r2 => cases r2; exact ⟨_, rfl, r1⟩
theorem vals2 {x y : V} {us : List Value} (r : Vals [x, y] us) : ∃ u w', us = [u, w'] ∧ RelV x u ∧ RelV y w' := by
  cases r with
  | cons r1 r2 =>
    cases r2 with
    | cons r3 r4 => cases r4; exact ⟨_, _, rfl, r1, r3⟩
theorem call_max2 (hc : X.calm = true) : CallR X (.builtin "max") (fun xs H Q => ∃ i j, xs = [.int i, .int j] ∧ Q (.int (if j > i then j else i)) H) := by
  intro pins s σ H xs us Q I r h
  obtain ⟨i, j, rfl, q⟩ := h
  obtain ⟨u, w', rfl, ⟨t, rfl⟩, ⟨t', rfl⟩⟩ := vals2 r
  refine max_two_ints (I.ok.hd hc) fun h' tk k => ⟨_, H, I.kept k, ?_, q⟩
  by_cases hj : j > i
  · rw [if_pos hj, if_pos hj]; exact ⟨_, rfl⟩
  · rw [if_neg hj, if_neg hj]; exact ⟨_, rfl⟩
theorem call_min2 (hc : X.calm = true) : CallR X (.builtin "min") (fun xs H Q => ∃ i j, xs = [.int i, .int j] ∧ Q (.int (if j < i then j else i)) H) := by
  intro pins s σ H xs us Q I r h
  obtain ⟨i, j, rfl, q⟩ := h
  obtain ⟨u, w', rfl, ⟨t, rfl⟩, ⟨t', rfl⟩⟩ := vals2 r
  refine min_two_ints (I.ok.hd hc) fun h' tk k => ⟨_, H, I.kept k, ?_, q⟩
  by_cases hj : j < i
  · rw [if_pos hj, if_pos hj]; exact ⟨_, rfl⟩
  · rw [if_neg hj, if_neg hj]; exact ⟨_, rfl⟩
theorem call_int1 : CallR X (.type "int") (fun xs H Q => (∃ i, xs = [.int i] ∧ Q (.int i) H) ∨ ∃ k, xs = [.bl k] ∧ Q (.int (if k then 1 else 0)) H) := by
  intro pins s σ H xs us Q I r h
  rcases h with ⟨i, rfl, q⟩ | ⟨k, rfl, q⟩
  · obtain ⟨u, rfl, t, rfl⟩ := vals1 r
    exact call_int_int ⟨.int i, H, I, ⟨_, rfl⟩, q⟩
  · obtain ⟨u, rfl, r1⟩ := vals1 r
    cases r1
    exact call_int_bool ⟨.int (if k then 1 else 0), H, I.tok _, ⟨_, rfl⟩, q⟩
/-- len of a str, a bytes, a list, a tuple -/
noncomputable def LenV (K : PySem.W.Frag) (x : V) (H : Hp) (n : Nat) : Prop :=
  match x with
  | .str y => y.length ≤ sizeLine ∧ n = y.length
  | .byt y => y.size ≤ sizeLine ∧ n = y.size
  | .ref p => (∃ xs, SqL K H p xs ∧ n = xs.length) ∨ ∃ xs, SqT K H p xs ∧ n = xs.length
  | _ => False
end
end L2

namespace L2
open PySem PySem.Spec PyProof.Rows

/-! ### an instance, its attributes a map -/
structure ObjM (h : Heap) (x dx C : Addr) (mA : Str → Option Value) : Prop where
  obj : h.get? x = some (PySem.W.instObj C dx)
  ns : h.Ns1 dx mA
  ne : dx ≠ x

theorem lookIn_ns {h : Heap} {dx : Addr} {mA : Str → Option Value} (n : h.Ns1 dx mA) : ∃ od, h.get? dx = some od ∧ ∀ name, PySem.W.lookIn name od = some (mA name) := by
  obtain ⟨o, es, ep, ho, hd, hk, _, hm⟩ := n
  refine ⟨o, ho, fun name => ?_⟩
  have e := hm name
  unfold nsFind findBy at e
  rw [← Array.find?_toList] at e
  unfold PySem.W.lookIn
  rw [hd]
  dsimp only
  split
  · rename_i y q
    rw [q] at e
    exact congrArg some e
  · rename_i q
    rw [q] at e
    have a : es.toList.any (·.refKey) = false := by
      rw [List.any_eq_false]
      intro y hy
      obtain ⟨z, t, hkey⟩ := hk y (Array.mem_toList_iff.mp hy)
      simp [DictEntry.refKey, hkey]
    have a' : ¬ es.toList.any (·.refKey) = true := by rw [a]; exact Bool.false_ne_true
    rw [if_neg a']
    exact congrArg some e

theorem ObjM.look {h : Heap} {x dx C : Addr} {mA : Str → Option Value} (I : ObjM h x dx C mA) : ∃ od, PySem.W.InstAt h x (PySem.W.instObj C dx) C (some od) ∧ ∀ name, PySem.W.lookIn name od = some (mA name) :=
  let ⟨od, ho, hl⟩ := lookIn_ns I.ns
  ⟨od, ⟨I.obj, rfl, rfl, ho⟩, hl⟩

section
variable {prog : Program} {w : World} {A : Around} {E : Value → Shared → Prop} {s : Shared} {K : PySem.W.Frag} {x dx C f : Addr} {mA : Str → Option Value} {name : Str} {v : Value}

theorem get_map {expr : Bool} {Q : Value → Shared → Prop} (X : K.In s.heap) (I : ObjM s.heap x dx C mA) (hg : PySem.W.plainGet K C name = true) (hh : PySem.W.hasDictIn K C = true)
    (ha : PySem.W.findIn K (.ref C) name = some none) (hv : mA name = some v) (hv' : PySem.W.handedIn v = true) (h : Q v { s with toks := s.toks + 1 }) :
    wpAny (model prog w) A (getAttr (.ref x) name expr) Q E s := by
  obtain ⟨od, J, hl⟩ := I.look
  exact PySem.W.get_value X J (PySem.W.plainGet_of hg).1 (PySem.W.findObj_own hh ha rfl (by rw [hl, hv])) hv' h

theorem get_meth {pl : Sem Bool} {Q : Value × List Value → Shared → Prop} (X : K.In s.heap) (I : ObjM s.heap x dx C mA) (hg : PySem.W.plainGet K C name = true)
    (hf : PySem.W.findIn K (.ref C) name = some (some (.ref f))) (ht : PySem.W.isFn K (.ref f) = true) (hv : mA name = none) (h : Q (.ref f, [.ref x]) s) :
    wpAny (model prog w) A (getMethod (.ref x) name pl) Q E s := by
  obtain ⟨od, J, hl⟩ := I.look
  exact PySem.W.method_fn X J (PySem.W.plainGet_of hg).1 (PySem.W.plainGet_of hg).2 hf (beq_iff_eq.mp ht) (by show (PySem.W.lookIn name od).map (·.isSome) = some false; rw [hl, hv]; rfl) h

theorem set_map {ns : List Str} {Q : Unit → Shared → Prop} (X : K.In s.heap) (I : ObjM s.heap x dx C mA)
    (hs : PySem.W.findIn K (.ref C) "__setattr__" = some (some (.builtin "object.__setattr__"))) (hp : PySem.W.plainOver K C = true) (ht : PySem.W.takerIn K C name = some none) (hh : PySem.W.hasDictIn K C = true)
    (hw : PySem.Within mA ns) (hsz : ns.length ≤ sizeLine)
    (h : ∀ h', ObjM h' x dx C (fun y => if y = name then some v else mA y) → Heap.SameBut dx s.heap h' → Q () { s with heap := h', toks := s.toks + 2 }) :
    wpAny (model prog w) A (setAttr (.ref x) name v) Q E s := by
  obtain ⟨od, J, hl⟩ := I.look
  refine PySem.W.set_plain X J hs (PySem.W.osa_open (s := { s with toks := s.toks + 1 }) (r := none) X J hp ht fun b => ?_)
  obtain ⟨cd, hc, hd'⟩ := PySem.W.any_some hh
  have hx : s.heap.get? x = some ⟨.ref C, some dx, .plain, #[]⟩ := I.obj
  refine wpAny_bind (wpAny_pure (wpAny_bind (wpAny_bind (wpAny_loadPart hx (wpAny_bind (PySem.W.Looks.here (s := { s with toks := s.toks + 1 }) (PySem.W.looks_clsIn X hc) ?_))))))
  rw [hd']
  refine wpAny_pure (a := some dx) (wpAny_bind (wpAny_pure (wpAny_bind ?_)))
  refine wpAny_nsSet1 (s := { s with toks := s.toks + 1 }) I.ns fun h' hn2 hs2 => ?_
  obtain ⟨oD, esD, epD, hoD, hdD, hcD⟩ := hn2.count (PySem.Within.cons name v hw)
  refine wpAny_bind (wpAny_lookBehind hoD (by rw [hdD]; exact pastItsLine_dict (Nat.le_trans hcD (by rw [List.length_cons]; omega))) ?_)
  exact wpAny_pure (h _ ⟨(hs2.2 _ (Ne.symm I.ne)).trans I.obj, hn2, I.ne⟩ hs2)

/-- C(..): the dict at the heap's end, the instance behind it; then its __init__ -/
theorem make_map {R : Result → Shared → Prop} {vs : List Value} {kw : List (Str × Value)} (X : K.In s.heap) (hm : PySem.W.makesIn K C = true)
    (hi : PySem.W.findIn K (.ref C) "__init__" = some (some (.ref f))) (hf : PySem.W.typeIn K (.ref f) = some (.type "function"))
    (h : codeAny (model prog w) (A.under (.builtin "type.__call__" ⟨.ref C :: vs, kw⟩)) (.call (.ref f) ⟨.ref (s.heap.objs.size + 1) :: vs, kw⟩) (PySem.W.InitBack (s.heap.objs.size + 1) R)
      { s with heap := (s.heap.push PySem.W.emptyDict).push (PySem.W.instObj C s.heap.objs.size) }) :
    codeAny (model prog w) A (.call (.ref C) ⟨vs, kw⟩) R s := by
  obtain ⟨hh, g, d, t, os⟩ := s
  exact PySem.W.make_core (PySem.W.makes_of X hm) (PySem.W.looks_findIn X hi) (fun self => PySem.W.bind_fn X self hf) (.inl rfl) h
end

/-! ### the attributes as a list of pairs -/
noncomputable def putF (f : Str) (v : V) : List (Str × V) → List (Str × V)
  | [] => [(f, v)]
  | (g, x) :: r => if g = f then (g, v) :: r else (g, x) :: putF f v r
theorem lookup_putF (f g : Str) (v : V) : ∀ fs : List (Str × V), (putF f v fs).lookup g = if g = f then some v else fs.lookup g
  | [] => by
    show List.lookup g [(f, v)] = _
    by_cases h : g = f
    · have hb : (g == f) = true := beq_iff_eq.mpr h
      simp only [List.lookup, hb, if_pos h]
    · have hb : (g == f) = false := beq_eq_false_iff_ne.mpr h
      simp only [List.lookup, hb, if_neg h]
  | (k, x) :: r => by
    have ih := lookup_putF f g v r
    rw [show putF f v ((k, x) :: r) = (if k = f then (k, v) :: r else (k, x) :: putF f v r) from rfl]
    by_cases hk : k = f
    · rw [if_pos hk]
      by_cases h : g = k
      · have hb : (g == k) = true := beq_iff_eq.mpr h
        simp only [List.lookup, hb, if_pos (h.trans hk)]
      · have hb : (g == k) = false := beq_eq_false_iff_ne.mpr h
        simp only [List.lookup, hb, if_neg (fun e : g = f => h (e.trans hk.symm))]
    · rw [if_neg hk]
      by_cases h : g = k
      · have hb : (g == k) = true := beq_iff_eq.mpr h
        simp only [List.lookup, hb, if_neg (fun e : g = f => hk (h.symm.trans e))]
      · have hb : (g == k) = false := beq_eq_false_iff_ne.mpr h
        simp only [List.lookup, hb]
        exact ih
theorem keys_putF (f : Str) (v : V) : ∀ fs : List (Str × V), f ∈ (putF f v fs).map (·.1) ∧ ∀ g, g ∈ fs.map (·.1) → g ∈ (putF f v fs).map (·.1)
  | [] => ⟨by simp [putF], fun g h => by simp at h⟩
  | (k, x) :: r => by
    obtain ⟨i1, i2⟩ := keys_putF f v r
    rw [show putF f v ((k, x) :: r) = (if k = f then (k, v) :: r else (k, x) :: putF f v r) from rfl]
    by_cases hk : k = f
    · rw [if_pos hk]
      subst hk
      exact ⟨by simp, fun g h => by simpa using h⟩
    · rw [if_neg hk]
      refine ⟨?_, fun g h => ?_⟩
      · rw [List.map_cons]
        exact List.mem_cons_of_mem _ i1
      · rw [List.map_cons] at h ⊢
        rcases List.mem_cons.mp h with e | e
        · exact List.mem_cons.mpr (.inl e)
        · exact List.mem_cons_of_mem _ (i2 g e)
theorem length_putF (f : Str) (v : V) : ∀ fs : List (Str × V), (putF f v fs).length ≤ fs.length + 1
  | [] => by simp [putF]
  | (k, x) :: r => by
    have ih := length_putF f v r
    rw [show putF f v ((k, x) :: r) = (if k = f then (k, v) :: r else (k, x) :: putF f v r) from rfl]
    by_cases hk : k = f
    · rw [if_pos hk, List.length_cons, List.length_cons]; omega
    · rw [if_neg hk, List.length_cons, List.length_cons]; omega

theorem RelO.some_of {v : V} {o : Option Value} (r : RelO (some v) o) : ∃ u, o = some u ∧ RelV v u := by
  cases o with
  | none => exact (show False from r).elim
  | some u => exact ⟨u, rfl, r⟩
theorem RelO.none_of {o : Option Value} (r : RelO none o) : o = none := by
  cases o with
  | none => rfl
  | some u => exact (show False from r).elim
theorem handed_of {v : V} {u : Value} (r : RelV v u) : PySem.W.handedIn u = true := by
  cases v with
  | non => cases (show u = Value.none from r); rfl
  | bl b => cases (show u = Value.bool b from r); rfl
  | int i => obtain ⟨t, e⟩ := (show ∃ t, u = Value.int i t from r); cases e; rfl
  | str x => obtain ⟨t, e⟩ := (show ∃ t, u = Value.str x t from r); cases e; rfl
  | byt b => obtain ⟨t, e⟩ := (show ∃ t, u = Value.bytes b t from r); cases e; rfl
  | flt b => obtain ⟨t, e⟩ := (show ∃ t, u = Value.float b t from r); cases e; rfl
  | ref a => cases (show u = Value.ref a from r); rfl
  | ty n => cases (show u = Value.type n from r); rfl

section
variable {P : Program} {w : World} {H H' : Hp} {h h' : Heap} {a C dx : Addr} {fs fs' : List (Str × V)}
theorem ins_get (hok : HOk P w H h) (e : H a = some (.ins C dx fs)) : ∃ mA, ObjM h a dx C mA ∧ (∀ f, RelO (fs.lookup f) (mA f)) ∧ PySem.Within mA (fs.map (·.1)) ∧ fs.length ≤ 1000 ∧ H dx = some (.own a) := by
  obtain ⟨d, z, ne, ob, mA, n, r, q⟩ := (show ObjOk P w H h a (.ins C dx fs) from hok a _ e)
  exact ⟨mA, ⟨ob, n, ne⟩, r, q, z, d⟩
end

/-! ### what of the text a class must have -/
structure Cls (K : PySem.W.Frag) (C : Addr) : Prop where
  pg : PySem.W.plainGet K C Str.empty = true
  hd : PySem.W.hasDictIn K C = true
  po : PySem.W.plainOver K C = true
  sa : PySem.W.findIn K (.ref C) "__setattr__" = some (some (.builtin "object.__setattr__"))
theorem Cls.get {K : PySem.W.Frag} {C : Addr} (c : Cls K C) (f : Str) : PySem.W.plainGet K C f = true := c.pg
/-- no class of it has the name -/
noncomputable def NoAttr (K : PySem.W.Frag) (C : Addr) (f : Str) : Prop := PySem.W.findIn K (.ref C) f = some none
theorem NoAttr.taker {K : PySem.W.Frag} {C : Addr} {f : Str} (n : NoAttr K C f) : PySem.W.takerIn K C f = some none := by
  unfold PySem.W.takerIn
  rw [show PySem.W.findIn K (.ref C) f = some none from n]
  rfl
/-- a constant of the class -/
structure Con (K : PySem.W.Frag) (C : Addr) (f : Str) (v : V) (u : Value) : Prop where
  at_ : PySem.W.findIn K (.ref C) f = some (some u)
  rel : RelV v u
  get : PySem.W.specialIn K u "__get__" = some none
  cp : PySem.W.copiedNames.contains f = false
/-- a method: a plain def of the class or of one above it -/
structure Meth (K : PySem.W.Frag) (C : Addr) (m : Str) (f : Addr) : Prop where
  at_ : PySem.W.findIn K (.ref C) m = some (some (.ref f))
  fn : PySem.W.isFn K (.ref f) = true
  kp : PySem.W.keepIn K (.ref f) = true

section
variable {X : Cx} {pins : List (Addr × Obj)} {σ : St} {H : Hp} {s : Shared} {a C dx : Addr} {fs : List (Str × V)} {f : Str} {v : V} {A : Around} {E : Value → Shared → Prop}

theorem getattr_ok {b : Bool} {Q : Value → Shared → Prop} (I : Inv X pins σ H s) (e : H a = some (.ins C dx fs)) (c : Cls X.K C) (n : NoAttr X.K C f) (l : fs.lookup f = some v)
    (h : ∀ u s', Inv X pins σ H s' → RelV v u → Q u s') : wpAny (model X.prog X.w) A (getAttr (.ref a) f b) Q E s := by
  obtain ⟨mA, O, r, _, _, _⟩ := ins_get I.hok e
  obtain ⟨u, hu, ru⟩ := RelO.some_of (v := v) (o := mA f) (by rw [← l]; exact r f)
  exact get_map I.kIn O (c.get f) c.hd n hu (handed_of ru) (h u _ (I.tok _) ru)

theorem getmeth_ok {m : Str} {g : Addr} {pl : Sem Bool} {Q : Value × List Value → Shared → Prop} (I : Inv X pins σ H s) (e : H a = some (.ins C dx fs)) (c : Cls X.K C) (k : Meth X.K C m g) (l : fs.lookup m = none)
    (h : Q (.ref g, [.ref a]) s) : wpAny (model X.prog X.w) A (getMethod (.ref a) m pl) Q E s := by
  obtain ⟨mA, O, r, _, _, _⟩ := ins_get I.hok e
  have hn : mA m = none := RelO.none_of (by rw [← l]; exact r m)
  exact get_meth I.kIn O (c.get m) k.at_ k.fn hn h

theorem setattr_ok {y : V} {u : Value} {Q : Unit → Shared → Prop} (I : Inv X pins σ H s) (e : H a = some (.ins C dx fs)) (c : Cls X.K C) (n : NoAttr X.K C f) (hl : fs.length < 1000) (ry : RelV y u)
    (h : ∀ s', Inv X pins σ (upd H a (.ins C dx (putF f y fs))) s' → Q () s') : wpAny (model X.prog X.w) A (setAttr (.ref a) f u) Q E s := by
  obtain ⟨mA, O, r, wi, _, ho⟩ := ins_get I.hok e
  have hz : (fs.map (·.1)).length ≤ sizeLine := by rw [List.length_map, sizeLine_eq]; omega
  refine set_map I.kIn O c.sa c.po n.taker c.hd wi hz fun h' O' sb => h _ ?_
  have hd : ∃ o, h'.get? dx = some o := let ⟨o, _, _, e', _⟩ := O'.ns; ⟨o, e'⟩
  refine I.write (x := a) (e := dx) (by rw [e]; exact True.intro) (.inr ho) (fun b q hb z => (sb.2 b hb).trans z) hd ?_
  refine ⟨by rw [upd_ne O.ne]; exact ho, ?_, O.ne, O'.obj, _, O'.ns, fun g => ?_, fun g hg => ?_⟩
  · have := length_putF f y fs; omega
  · show RelO ((putF f y fs).lookup g) (if g = f then some u else mA g)
    rw [lookup_putF]
    by_cases q : g = f
    · rw [if_pos q, if_pos q]; exact ry
    · rw [if_neg q, if_neg q]; exact r g
  · by_cases q : g = f
    · rw [q]; exact (keys_putF f y fs).1
    · refine (keys_putF f y fs).2 g (wi g fun z => hg ?_)
      show (if g = f then some u else mA g) = none
      rw [if_neg q]; exact z

/-- a new instance, tracked, without attributes -/
theorem Inv.made (I : Inv X pins σ H s) : Inv X pins σ (upd (upd H s.heap.objs.size (.own (s.heap.objs.size + 1))) (s.heap.objs.size + 1) (.ins C s.heap.objs.size []))
    { s with heap := (s.heap.push PySem.W.emptyDict).push (PySem.W.instObj C s.heap.objs.size) } := by
  have e1 : (s.heap.push PySem.W.emptyDict).get? s.heap.objs.size = some PySem.W.emptyDict := Heap.get?_push_size s.heap rfl
  have e2 : ((s.heap.push PySem.W.emptyDict).push (PySem.W.instObj C s.heap.objs.size)).get? (s.heap.objs.size + 1) = some (PySem.W.instObj C s.heap.objs.size) := by
    have := Heap.get?_push_size (s.heap.push PySem.W.emptyDict) (o := PySem.W.instObj C s.heap.objs.size) rfl
    rwa [Heap.size_push] at this
  have e3 : (s.heap.push PySem.W.emptyDict).Ns s.heap.objs.size (fun _ => none) := ⟨PySem.W.emptyDict, #[], _, e1, rfl, (fun e he => absurd he (by simp)), fun _ => rfl⟩
  have I1 := I.laid (a := s.heap.objs.size) (o := .own (s.heap.objs.size + 1)) (h' := s.heap.push PySem.W.emptyDict) (t' := s.toks) (fun b u q => Heap.get?_push_of_some _ q) (Nat.le_refl _) ⟨_, e1⟩
  refine I1.laid (a := s.heap.objs.size + 1) (o := .ins C s.heap.objs.size []) (t' := s.toks) (fun b u q => Heap.get?_push_of_some _ q) (Nat.le_of_eq (Heap.size_push _ _)) ?_
  have ne : s.heap.objs.size ≠ s.heap.objs.size + 1 := Nat.ne_of_lt (Nat.lt_succ_self _)
  refine ⟨by rw [upd_ne ne, upd_same], Nat.zero_le _, ne, e2, fun _ => none, (Heap.Ns1.of_empty e3).at fun o q => Heap.get?_push_of_some _ q, fun _ => True.intro, fun y hy => absurd rfl hy⟩

/-- e.f where nothing but the object is asked: through attributeBase (super) and the last hold -/
theorem attr_of {prog : Program} {w : World} {env : Env} {e : Expr} {f : Str} {pos : Pos} {s : Shared} {Q : Value → Shared → Prop} (hb : attributeBase e f env (eval e env) = eval e env)
    (h : wpAny (model prog w) A (eval e env) (fun o s₁ => wpAny (model prog w) A (getAttr o f true) Q E s₁) E s) : wpAny (model prog w) A (eval (.Attribute e f pos) env) Q E s :=
  Attribute_any_ h (by rw [arm_eval_Attribute, hb])
end

/-! ### readings and rules -/
/-- e.f, an attribute of the instance -/
noncomputable def tFld (K : PySem.W.Frag) (ta : TE) (f : Str) : TE := fun σ H Q => ta σ H fun x H1 => ∃ a C dx fs v, x = .ref a ∧ H1 a = some (.ins C dx fs) ∧ Cls K C ∧ NoAttr K C f ∧ fs.lookup f = some v ∧ Q v H1
/-- e.f, a constant of the class -/
noncomputable def tCon (K : PySem.W.Frag) (ta : TE) (f : Str) : TE := fun σ H Q => ta σ H fun x H1 => ∃ a C dx fs v u, x = .ref a ∧ H1 a = some (.ins C dx fs) ∧ Cls K C ∧ Con K C f v u ∧ fs.lookup f = none ∧ Q v H1
/-- e.f = value -/
noncomputable def sFld (K : PySem.W.Frag) (ta tv : TE) (f : Str) : TS := fun D σ H => tv σ H fun y H1 => ta σ H1 fun x H2 => ∃ a C dx fs, x = .ref a ∧ H2 a = some (.ins C dx fs) ∧ Cls K C ∧ NoAttr K C f ∧ fs.length < 1000 ∧
  D.nx σ (upd H2 a (.ins C dx (putF f y fs)))
/-- an augmented operator on two values -/
noncomputable def InOp (X : Cx) (op : Operator) (rd : V → V → Hp → VK → Prop) : Prop :=
  ∀ (pins : List (Addr × Obj)) (s : Shared) (σ : St) (H : Hp) (x y : V) (u v : Value) (Q : VK), Inv X pins σ H s → RelV x u → RelV y v → rd x y H Q → wpAny (model X.prog X.w) X.A (inplaceOp op u v) (EP X pins σ Q) X.xe s
/-- e.f op= value -/
noncomputable def sFldAug (K : PySem.W.Frag) (ta tv : TE) (rd : V → V → Hp → VK → Prop) (f : Str) : TS := fun D σ H => ta σ H fun x H1 => ∃ a C dx fs v, x = .ref a ∧ H1 a = some (.ins C dx fs) ∧ Cls K C ∧ NoAttr K C f ∧ fs.lookup f = some v ∧
  tv σ H1 fun y H2 => rd v y H2 fun z H3 => ∃ dx' fs', H3 a = some (.ins C dx' fs') ∧ fs'.length < 1000 ∧ D.nx σ (upd H3 a (.ins C dx' (putF f z fs')))

section
variable {X : Cx} {o e value : Expr} {f : Str} {pos pos' tpos : Pos} {ta tv : TE}
theorem pe_fld (he : PE X e ta) (hb : attributeBase e f X.env (eval e X.env) = eval e X.env) : PE X (.Attribute e f pos) (tFld X.K ta f) := by
  intro pins s σ H Q I h
  refine attr_of hb (thn (he pins s σ H _ I h) fun u s1 ⟨x, H1, I1, rx, a, C, dx, fs, v, ex, ea, c, n, l, q⟩ => ?_)
  subst ex
  obtain rfl : u = Value.ref a := rx
  exact getattr_ok I1 ea c n l fun u' s2 I2 ru => ⟨v, H1, I2, ru, q⟩
theorem ps_fld (ha : PE X o ta) (hv : PE X value tv) (hs : swapsWith value (some (.Attribute o f pos')) pos.line X.env = pure false) : PS X (.Assign [.Attribute o f pos'] value pos) (sFld X.K ta tv f) := by
  intro pins s σ H D I h
  refine plainObj_wpAny_Assign_Attribute (thn (hv pins s σ H _ I h) fun u s1 ⟨y, H1, I1, ry, q⟩ => thn (ha pins s1 σ H1 _ I1 q) fun ov s2 ⟨x, H2, I2, rx, a, C, dx, fs, ex, ea, c, n, l, q2⟩ => ?_) hs
  subst ex
  obtain rfl : ov = Value.ref a := rx
  exact setattr_ok I2 ea c n l ry fun s3 I3 => ⟨σ, _, I3, q2⟩
noncomputable def rAdd : V → V → Hp → VK → Prop := fun x y H Q => ∃ i j, x = .int i ∧ y = .int j ∧ Q (.int (i + j)) H
noncomputable def rSub : V → V → Hp → VK → Prop := fun x y H Q => ∃ i j, x = .int i ∧ y = .int j ∧ Q (.int (i - j)) H
end

/-! ### isinstance -/
section
variable {X : Cx} {pins : List (Addr × Obj)} {σ : St} {H : Hp} {s : Shared} {A : Around} {E : Value → Shared → Prop} {Q : Value → Shared → Prop} {c : Value} {b : Bool}
/-- the type of a value, as the fragment's deciders take it; for an instance its class -/
inductive TyOf (K : PySem.W.Frag) (H : Hp) : V → Value → Prop where
  | non : TyOf K H .non (.type "NoneType")
  | bl (x : Bool) : TyOf K H (.bl x) (.type "bool")
  | int (i : Int) : TyOf K H (.int i) (.type "int")
  | str (x : Str) : TyOf K H (.str x) (.type "str")
  | flt (x : UInt64) : TyOf K H (.flt x) (.type "float")
  | lst {a : Addr} {xs : List V} (e : H a = some (.lst xs)) : TyOf K H (.ref a) (.type "list")
  | frz {a : Addr} {o : Obj} {xs : List V} (e : H a = some (.frz o (.lst xs))) : TyOf K H (.ref a) (.type "list")
  | tup {a : Addr} {xs : List V} (e : H a = some (.tup xs)) : TyOf K H (.ref a) (.type "tuple")
  | dK {a : Addr} {kvs : List (Key × V)} (e : H a = some (.dK kvs)) : TyOf K H (.ref a) (.type "dict")
  | dT {a : Addr} {kvs : List (List Key × V)} (e : H a = some (.dT kvs)) : TyOf K H (.ref a) (.type "dict")
  | ins {a C dx : Addr} {fs : List (Str × V)} (e : H a = some (.ins C dx fs)) (cl : Cls K C) (ha : PySem.W.findIn K (.ref C) "__class__" = some (some (.builtin "object.__class__")))
      (hn : PySem.W.specialIn K (.builtin "object.__class__") "__get__" = some (some (.builtin "getset_descriptor.__get__"))) (htk : PySem.W.takesIn K (.builtin "object.__class__") = some true)
      (hm : PySem.W.mroIn K C (.type "object") = some true) : TyOf K H (.ref a) (.ref C)
/-- isinstance(x, c) for one class c, a built-in or an own one: kitOne's answer -/
theorem isinst_ok {x : V} {u t : Value} (I : Inv X pins σ H s) (rx : RelV x u) (ty : TyOf X.K H x t) (e : PySem.W.kitOne X.K t c = some b) (h : ∀ tk, Q (.bool b) { s with toks := tk }) :
    wpAny (model X.prog X.w) A (call (.builtin "isinstance") [u, c]) Q E s := by
  cases ty with
  | non => cases (show u = Value.none from rx); exact PySem.W.kia_one PySem.W.kitx_none I.kIn True.intro e (fun z => nomatch z) h
  | bl y => cases (show u = Value.bool y from rx); exact PySem.W.kia_one PySem.W.kitx_bool I.kIn True.intro e (fun z => nomatch z) h
  | int i => obtain ⟨t, q⟩ := (show ∃ t, u = Value.int i t from rx); cases q; exact PySem.W.kia_one PySem.W.kitx_int I.kIn True.intro e (fun z => nomatch z) h
  | str y => obtain ⟨t, q⟩ := (show ∃ t, u = Value.str y t from rx); cases q; exact PySem.W.kia_one PySem.W.kitx_str I.kIn True.intro e (fun z => nomatch z) h
  | flt y => obtain ⟨t, q⟩ := (show ∃ t, u = Value.float y t from rx); cases q; exact PySem.W.kia_one PySem.W.kitx_float I.kIn True.intro e (fun z => nomatch z) h
  | @lst a xs ea =>
    cases (show u = Value.ref a from rx)
    obtain ⟨_, _, n, _, h1⟩ := (show ObjOk X.prog X.w H s.heap a (.lst xs) from I.hok a _ ea)
    exact PySem.W.kia_one PySem.W.kitx_list I.kIn ⟨_, h1, rfl⟩ e (fun z => nomatch z) h
  | @frz a ob xs ea =>
    cases (show u = Value.ref a from rx)
    obtain ⟨_, _, _, n, _, h1⟩ := (show ObjOk X.prog X.w H s.heap a (.frz ob (.lst xs)) from I.hok a _ ea)
    exact PySem.W.kia_one PySem.W.kitx_list I.kIn ⟨_, h1, rfl⟩ e (fun z => nomatch z) h
  | @tup a xs ea =>
    cases (show u = Value.ref a from rx)
    obtain ⟨_, _, _, p⟩ := (show ObjOk X.prog X.w H s.heap a (.tup xs) from I.hok a _ ea)
    obtain ⟨o, h1, h2, _⟩ := p
    exact PySem.W.kia_one PySem.W.kitx_tuple I.kIn ⟨o, h1, h2⟩ e (fun z => nomatch z) h
  | @dK a kvs ea =>
    cases (show u = Value.ref a from rx)
    obtain ⟨_, _, vs, _, p⟩ := (show ObjOk X.prog X.w H s.heap a (.dK kvs) from I.hok a _ ea)
    obtain ⟨o, es, ep, h1, h2, _⟩ := p
    exact PySem.W.kia_one PySem.W.kitx_dict I.kIn ⟨o, h1, h2.1⟩ e (fun z => nomatch z) h
  | @dT a kvs ea =>
    cases (show u = Value.ref a from rx)
    obtain ⟨_, _, xs, _, o, es, ep, h1, h2, _⟩ := (show ObjOk X.prog X.w H s.heap a (.dT kvs) from I.hok a _ ea)
    exact PySem.W.kia_one PySem.W.kitx_dict I.kIn ⟨o, h1, h2.1⟩ e (fun z => nomatch z) h
  | @ins a C dx fs ea cl ha hn htk hm =>
    cases (show u = Value.ref a from rx)
    obtain ⟨mA, O, _⟩ := ins_get I.hok ea
    obtain ⟨od, J, _⟩ := O.look
    exact PySem.W.kia_one (PySem.W.kitx_own (cl.get _) cl.hd ha hn htk hm) I.kIn J e (fun z => nomatch z) h
end
end L2

namespace L2
open PySem PySem.Spec PyProof.Rows

/-! ### room -/
structure Room (k : Nat) (A : Around) : Prop where
  hd : A.handled = none
  dp : A.depth + 3 * k + 5 < recursionLimit
  un : A.units + 16 * k + 200 < cLine
theorem Room.mono {j k : Nat} {A : Around} (r : Room k A) (h : j ≤ k) : Room j A := ⟨r.hd, by have := r.dp; omega, by have := r.un; omega⟩
theorem Room.deeper {k : Nat} {A : Around} (r : Room (k + 1) A) (env : Env) : Room k (A.deeper env) :=
  ⟨r.hd, by have := r.dp; show A.depth + 1 + 3 * k + 5 < _; omega, by have := r.un; show A.units + 3 + 16 * k + 200 < _; omega⟩
theorem Room.in1 {k : Nat} {A : Around} (r : Room (k + 1) A) : Room k A.in1 :=
  ⟨r.hd, by have := r.dp; show A.depth + 3 * k + 5 < _; omega, by have := r.un; show A.units + 1 + 16 * k + 200 < _; omega⟩
theorem make_depth {A : Around} {C : Addr} {us : List Value} {kw : List (Str × Value)} : (A.under (.builtin "type.__call__" ⟨.ref C :: us, kw⟩)).depth = A.depth + 1 := by
  first | rfl | simp [Around.under, Code.weight, Code.isCreation, Code.isGuard, Code.isCaller, Code.frames, Code.isFrame, guardIds]
theorem make_units {A : Around} {C : Addr} {us : List Value} {kw : List (Str × Value)} : (A.under (.builtin "type.__call__" ⟨.ref C :: us, kw⟩)).units = A.units + 1 := by
  first | rfl | simp [Around.under, Code.cUnits, Code.frames, Code.isFrame]
theorem Room.make {k : Nat} {A : Around} (r : Room (k + 1) A) (C : Addr) (us : List Value) (kw : List (Str × Value)) : Room k (A.under (.builtin "type.__call__" ⟨.ref C :: us, kw⟩)) :=
  ⟨r.hd, by have := r.dp; rw [make_depth]; omega, by have := r.un; rw [make_units]; omega⟩
theorem Room.depth {k : Nat} {A : Around} (r : Room k A) : A.depth < recursionLimit := by have := r.dp; omega
theorem Room.units {k : Nat} {A : Around} (r : Room k A) : A.units + 64 < cLine := by have := r.un; omega
theorem Room.units0 {k : Nat} {A : Around} (r : Room k A) : A.units < cLine := by have := r.un; omega

/-! ### argument lists and displays -/
noncomputable def tNil : TA := fun _ H Q => Q [] H
noncomputable def tCons (ta : TE) (tr : TA) : TA := fun σ H Q => ta σ H fun x H1 => tr σ H1 fun xs H2 => Q (x :: xs) H2
section
variable {X : Cx} {e : Expr} {es : List Expr} {te : TE} {t : TA} {pos : Pos}
theorem pa_nil : PA X [] tNil := fun _ _ _ _ H Q I h => Calls.spliced_nil ⟨[], H, I, .nil, h⟩
theorem pa_cons (ha : PE X e te) (hr : PA X es t) (hs : starEach (e :: es) X.env = (false, eval e X.env) :: starEach es X.env := by rfl) : PA X (e :: es) (tCons te t) := by
  intro pos pins s σ H Q I h
  rw [hs]
  show wpAny _ _ (spliced ((false, eval e X.env) :: backTo pos (starEach es X.env))) _ _ s
  refine Calls.spliced_cons (thn (ha pins s σ H _ I h) fun u s1 ⟨x, H1, I1, r1, q1⟩ => ?_)
  exact thn (hr pos pins s1 σ H1 _ I1 q1) fun us s2 ⟨xs, H2, I2, r2, q2⟩ => ⟨x :: xs, H2, I2, .cons r1 r2, q2⟩

/-- a tuple, a list of written items -/
noncomputable def tTup (t : TA) : TE := fun σ H Q => t σ H fun xs H1 => xs.length ≤ sizeLine ∧ ∀ p, H1 p = none → Q (.ref p) (upd H1 p (.tup xs))
noncomputable def tLst (t : TA) : TE := fun σ H Q => t σ H fun xs H1 => xs.length ≤ sizeLine ∧ ∀ p, H1 p = none → Q (.ref p) (upd H1 p (.lst xs))
theorem pe_lst (h : PA X es t) : PE X (.List es pos) (tLst t) := by
  intro pins s σ H Q I hq
  refine wpAny_List_spliced (thn (h pos pins s σ H _ I hq) fun us s1 ⟨xs, H1, I1, r, z, q⟩ => ⟨by rw [← r.length]; exact z, ?_⟩)
  have hf : H1 s1.heap.objs.size = none := I1.hok.fresh (Nat.le_refl _)
  refine ⟨.ref s1.heap.objs.size, upd H1 s1.heap.objs.size (.lst xs), I1.laid (t' := s1.toks) (fun b u e => Heap.get?_push_of_some _ e) (Nat.le_refl _) ?_, rfl, q _ hf⟩
  exact ⟨z, us, 0, r, Heap.get?_push_size _ rfl⟩
end

/-! ### what a def promises -/
/-- a def's promise: the bound arguments in the parameters' order, the heap, the wanted end, the wanted exception -/
abbrev Sp := List V → Hp → VK → XK → Prop
/-- how an exception lies behind a call (file 08 gives it): the callers' frames, abstract heap and state ahead of the call, the wish, the exception, the state -/
abbrev CXT := List Env → Hp → Shared → XK → Value → Shared → Prop

/-- the state at a call -/
structure Env0 (P : Program) (w : World) (K : PySem.W.Frag) (mg : Str → Option Value) (base : Heap) (A : Around) (outer : List Env) (s : Shared) (H : Hp) : Prop where
  frames : A.frames = some outer
  mod : Mod K mg base
  bs : ∀ b o, base.get? b = some o → s.heap.get? b = some o ∧ H b = none
  bsz : base.objs.size ≤ s.heap.objs.size
  funs : s.heap.FunFrames base outer
  frf : ∀ b ∈ frs outer, H b = none
  hok : HOk P w H s.heap
  bare : AllBare s.gens
/-- a call's end -/
noncomputable def CE (outer : List Env) (P : Program) (w : World) (H : Hp) (s : Shared) (Q : VK) (u : Value) (s' : Shared) : Prop :=
  ∃ v H', s'.os = s.os ∧ AllBare s'.gens ∧ Un (frs outer) [] H H' s.heap s'.heap ∧ HOk P w H' s'.heap ∧ RelV v u ∧ Q v H'
noncomputable def CR (CX : CXT) (outer : List Env) (P : Program) (w : World) (H : Hp) (s : Shared) (Q : VK) (E : XK) (r : Result) (s' : Shared) : Prop :=
  match r with
  | .ok (.ret u) => CE outer P w H s Q u s'
  | .ok _ => False
  | .error e => CX outer H s E e s'
structure FnOk (P : Program) (w : World) (K : PySem.W.Frag) (mg : Str → Option Value) (base : Heap) (CX : CXT) (k : Nat) (f : Addr) (fd : FuncData) (ps : List Str) (sp : Sp) : Prop where
  len : ∀ vs H Q E, sp vs H Q E → vs.length = ps.length
  run : ∀ (A : Around) (outer : List Env) (s : Shared) (H : Hp) (args : Args) (us : List Value) (vs : List V) (Q : VK) (E : XK), Room k A → Env0 P w K mg base A outer s H → BindsTo s fd args (ps.zip us) → Vals vs us → sp vs H Q E →
    codeAny (model P w) A (.call (.ref f) args) (CR CX outer P w H s Q E) s
theorem FnOk.mono {P : Program} {w : World} {K : PySem.W.Frag} {mg : Str → Option Value} {base : Heap} {CX : CXT} {j k : Nat} {f : Addr} {fd : FuncData} {ps : List Str} {sp : Sp} (F : FnOk P w K mg base CX j f fd ps sp) (h : j ≤ k) :
    FnOk P w K mg base CX k f fd ps sp := ⟨F.len, fun A outer s H args us vs Q E hr => F.run A outer s H args us vs Q E (hr.mono h)⟩
/-- a weaker promise -/
theorem FnOk.imp {P : Program} {w : World} {K : PySem.W.Frag} {mg : Str → Option Value} {base : Heap} {CX : CXT} {k : Nat} {f : Addr} {fd : FuncData} {ps : List Str} {sp sp' : Sp} (F : FnOk P w K mg base CX k f fd ps sp)
    (h : ∀ vs H Q E, sp' vs H Q E → sp vs H Q E) : FnOk P w K mg base CX k f fd ps sp' :=
  ⟨fun vs H Q E q => F.len vs H Q E (h _ _ _ _ q), fun A outer s H args us vs Q E hr he hb hv hs => F.run A outer s H args us vs Q E hr he hb hv (h _ _ _ _ hs)⟩

theorem Env0.make {P : Program} {w : World} {K : PySem.W.Frag} {mg : Str → Option Value} {base : Heap} {A : Around} {outer : List Env} {s : Shared} {H : Hp} (e : Env0 P w K mg base A outer s H) (C : Addr) (us : List Value) (kw : List (Str × Value)) :
    Env0 P w K mg base (A.under (.builtin "type.__call__" ⟨.ref C :: us, kw⟩)) outer s H := ⟨by first | exact e.frames | (simpa [Around.under, Code.envs, Code.isFrame, pushEnvs] using e.frames), e.mod, e.bs, e.bsz, e.funs, e.frf, e.hok, e.bare⟩
theorem Env0.in1 {P : Program} {w : World} {K : PySem.W.Frag} {mg : Str → Option Value} {base : Heap} {A : Around} {outer : List Env} {s : Shared} {H : Hp} (e : Env0 P w K mg base A outer s H) :
    Env0 P w K mg base A.in1 outer s H := ⟨e.frames, e.mod, e.bs, e.bsz, e.funs, e.frf, e.hok, e.bare⟩

section
variable {X : Cx} {pins : List (Addr × Obj)} {σ : St} {H : Hp} {s s' : Shared}
/-- from a body: what a callee wants -/
theorem Inv.env0 (I : Inv X pins σ H s) : Env0 X.prog X.w X.K X.mg X.base X.A X.stack s H :=
  ⟨I.ok.frames, I.ok.mod, I.bs, Nat.le_trans I.ok.bsz I.sz, I.stack, I.stkFree, I.hok, I.bare⟩
/-- behind a call -/
theorem Inv.after {Q : VK} {u : Value} (I : Inv X pins σ H s) (h : CE X.stack X.prog X.w H s Q u s') : EP X pins σ Q u s' := by
  obtain ⟨v, H', os, bare, un, hok, r, q⟩ := h
  obtain ⟨hh, g, d, t, os'⟩ := s'
  obtain rfl : os' = s.os := os
  exact ⟨v, H', I.call (h' := hh) (g' := g) (d' := d) (t' := t) (ch := []) un hok bare (fun b z => absurd z (by simp)), r, q⟩
end

/-! ### calls -/
/-- f(..): the written arguments, then the defaults dvs; E: what is wanted of an exception -/
noncomputable def tCall (sp : Sp) (dvs : List V) (E : XK) (t : TA) : TE := fun σ H Q => t σ H fun vs H1 => sp (vs ++ dvs) H1 Q E
/-- o.m(..) of an instance of the class at C -/
noncomputable def tMeth (C : Addr) (m : Str) (sp : Sp) (dvs : List V) (E : XK) (ta : TE) (t : TA) : TE := fun σ H Q => ta σ H fun x H1 => ∃ a dx fs, x = .ref a ∧ H1 a = some (.ins C dx fs) ∧ fs.lookup m = none ∧
  t σ H1 fun vs H2 => sp (x :: (vs ++ dvs)) H2 Q E
/-- C(..): a new instance and its dict, then __init__ -/
noncomputable def tMake (C : Addr) (sp : Sp) (dvs : List V) (E : XK) (t : TA) : TE := fun σ H Q => t σ H fun vs H1 => ∀ x dx, H1 x = none → H1 dx = none → dx ≠ x →
  sp (.ref x :: (vs ++ dvs)) (upd (upd H1 dx (.own x)) x (.ins C dx [])) (fun v H2 => v = .non ∧ Q (.ref x) H2) E

/-- how the parameters are bound: us the positional arguments, kw the keywords' values by name, ds the defaults that fill up -/
noncomputable def Binds (K : PySem.W.Frag) (fd : FuncData) (ps : List Str) (ds : List Value) : Prop :=
  ∀ (s : Shared) (us : List Value), K.In s.heap → (us ++ ds).length = ps.length → BindsTo s fd ⟨us, []⟩ (ps.zip (us ++ ds))
/-- every parameter is given -/
theorem Binds.all {K : PySem.W.Frag} {fd : FuncData} {ps : List Str} (h : ∀ us : List Value, us.length = ps.length → bindArgs fd ⟨us, []⟩ = pure (ps.zip us)) : Binds K fd ps [] := fun s us _ hl => by
  rw [List.append_nil] at hl ⊢
  exact .of_eq (h us hl)

/-- an exception of a callee reaches what this body wants of exceptions -/
noncomputable def Passes (CX : CXT) (X : Cx) (E : XK) : Prop := ∀ (pins : List (Addr × Obj)) (σ : St) (H : Hp) (s : Shared) (e : Value) (s' : Shared), Inv X pins σ H s → CX X.stack H s E e s' → X.xe e s'

section
variable {X : Cx} {CX : CXT} {k : Nat} {f C : Addr} {fd : FuncData} {ps : List Str} {sp : Sp} {dvs : List V} {ds : List Value} {E : XK} {x m : Str} {p pos apos : Pos} {e o : Expr} {es : List Expr} {ta : TE} {t : TA}

/-- the callee runs -/
theorem run_fn {pins : List (Addr × Obj)} {σ : St} {H : Hp} {s : Shared} {Q : VK} {us : List Value} {vs : List V} (F : FnOk X.prog X.w X.K X.mg X.base CX k f fd ps sp) (hr : Room k X.A) (hb : Binds X.K fd ps ds) (hd : Vals dvs ds) (hx : Passes CX X E)
    (I : Inv X pins σ H s) (r : Vals vs us) (h : sp (vs ++ dvs) H Q E) : wpAny (model X.prog X.w) X.A (call (.ref f) us) (EP X pins σ Q) X.xe s := by
  have r2 : Vals (vs ++ dvs) (us ++ ds) := r.append hd
  have hl : (us ++ ds).length = ps.length := by rw [← r2.length]; exact F.len _ _ _ _ h
  refine wpAny_call (codeAny_mono (F.run X.A X.stack s H ⟨us, []⟩ (us ++ ds) (vs ++ dvs) Q E hr I.env0 (hb s us I.kIn hl) r2 h) fun r s' hq => ?_)
  cases r with
  | error e => exact hx pins σ H s e s' I hq
  | ok fl =>
    cases fl with
    | ret u => exact I.after hq
    | next => exact False.elim hq
    | brk => exact False.elim hq
    | cont => exact False.elim hq

theorem pe_call (F : FnOk X.prog X.w X.K X.mg X.base CX k f fd ps sp) (hr : Room k X.A) (hg : Gl X x) (hm : X.mg x = some (.ref f)) (hk : PySem.W.keepIn X.K (.ref f) = true) (hb : Binds X.K fd ps ds) (hd : Vals dvs ds) (hx : Passes CX X E)
    (ha : PA X (e :: es) t) (hdb : (x == ("__debug__" : Str)) = false := by decide) (he : starEach (e :: es) X.env = (false, eval e X.env) :: starEach es X.env := by rfl) (hpl : (backTo pos (starEach es X.env)).any (·.1) = false := by rfl) :
    PE X (.Call (.Name x p) (e :: es) [] pos) (tCall sp dvs E t) := by
  intro pins s σ H Q I h
  refine wpAny_Call_Name_kw (ld_glob I hg hm ?_ hdb)
  refine PySem.W.callWith_K (h₀ := X.base) I.ok.mod.kin hk (thn (ha pos pins s σ H _ I h) fun us s1 ⟨vs, H1, I1, r, q⟩ => ⟨I1.kIn, ?_⟩) he hpl
  exact run_fn F hr hb hd hx I1 r q
/-- o.m(e, ..) -/
theorem pe_meth {pl : Sem Bool} (he : PE X o ta) (c : Cls X.K C) (hm : Meth X.K C m f) (F : FnOk X.prog X.w X.K X.mg X.base CX k f fd ps sp) (hr : Room k X.A) (hb : Binds X.K fd ps ds) (hd : Vals dvs ds) (hx : Passes CX X E) (ha : PA X (e :: es) t)
    (hst : starEach (e :: es) X.env = (false, eval e X.env) :: starEach es X.env := by rfl) (hpl : (backTo pos (starEach es X.env)).any (·.1) = false := by rfl)
    (ht : eval (.Call (.Attribute o m apos) (e :: es) [] pos) X.env = (do
      let ov ← eval o X.env
      standAt apos.atName
      let (f, first) ← holding [ov] (getMethod ov m pl)
      callWith pos f first (backTo pos (starEach (e :: es) X.env)) (backToKw pos (keywordEach [] X.env))) := by rfl) :
    PE X (.Call (.Attribute o m apos) (e :: es) [] pos) (tMeth C m sp dvs E ta t) := by
  intro pins s σ H Q I h
  refine PySem.W.methodCall_KW (pl := pl) (thn (he pins s σ H _ I h) fun u s1 ⟨x, H1, I1, rx, a, dx, fs, ex, ea, l, q⟩ => ?_) ht
  subst ex
  obtain rfl : u = Value.ref a := rx
  refine getmeth_ok I1 ea c hm l ?_
  refine PySem.W.callWith_K (first := [.ref a]) (h₀ := X.base) I.ok.mod.kin hm.kp (thn (ha pos pins s1 σ H1 _ I1 q) fun us s2 ⟨vs, H2, I2, r, q2⟩ => ⟨I2.kIn, ?_⟩) hst hpl
  exact run_fn (us := .ref a :: us) (vs := .ref a :: vs) F hr hb hd hx I2 (.cons rfl r) q2
/-- o.m() -/
theorem pe_meth0 {pl : Sem Bool} (he : PE X o ta) (c : Cls X.K C) (hm : Meth X.K C m f) (F : FnOk X.prog X.w X.K X.mg X.base CX k f fd ps sp) (hr : Room k X.A) (hb : Binds X.K fd ps ds) (hd : Vals dvs ds) (hx : Passes CX X E)
    (ht : eval (.Call (.Attribute o m apos) [] [] pos) X.env = (do
      let ov ← eval o X.env
      standAt apos.atName
      let (f, first) ← holding [ov] (getMethod ov m pl)
      callWith pos f first (backTo pos (starEach [] X.env)) (backToKw pos (keywordEach [] X.env))) := by rfl) :
    PE X (.Call (.Attribute o m apos) [] [] pos) (tMeth C m sp dvs E ta tNil) := by
  intro pins s σ H Q I h
  refine PySem.W.methodCall_KW (pl := pl) (thn (he pins s σ H _ I h) fun u s1 ⟨x, H1, I1, rx, a, dx, fs, ex, ea, l, q⟩ => ?_) ht
  subst ex
  obtain rfl : u = Value.ref a := rx
  refine getmeth_ok I1 ea c hm l ?_
  exact PySem.W.callWith_K0 (first := [.ref a]) I1.kIn hm.kp (run_fn (us := [.ref a]) (vs := [.ref a]) F hr hb hd hx I1 (.cons rfl .nil) q)

/-- what a class must have to be made -/
structure Mk (K : PySem.W.Frag) (C f : Addr) : Prop where
  makes : PySem.W.makesIn K C = true
  init : PySem.W.findIn K (.ref C) "__init__" = some (some (.ref f))
  fn : PySem.W.isFn K (.ref f) = true
  kp : PySem.W.keepIn K (.ref C) = true

theorem run_make {pins : List (Addr × Obj)} {σ : St} {H : Hp} {s : Shared} {Q : VK} {us : List Value} {vs : List V} (M : Mk X.K C f) (F : FnOk X.prog X.w X.K X.mg X.base CX k f fd ps sp) (hr : Room (k + 1) X.A) (hb : Binds X.K fd ps ds) (hd : Vals dvs ds)
    (hx : Passes CX X E) (I : Inv X pins σ H s) (r : Vals vs us)
    (h : ∀ x dx, H x = none → H dx = none → dx ≠ x → sp (.ref x :: (vs ++ dvs)) (upd (upd H dx (.own x)) x (.ins C dx [])) (fun v H2 => v = .non ∧ Q (.ref x) H2) E) :
    wpAny (model X.prog X.w) X.A (call (.ref C) us) (EP X pins σ Q) X.xe s := by
  have hq := h (s.heap.objs.size + 1) s.heap.objs.size (I.hok.fresh (Nat.le_succ _)) (I.hok.fresh (Nat.le_refl _)) (Nat.ne_of_lt (Nat.lt_succ_self _))
  have I2 := Inv.made (C := C) I
  have r2 : Vals (V.ref (s.heap.objs.size + 1) :: (vs ++ dvs)) (Value.ref (s.heap.objs.size + 1) :: (us ++ ds)) := .cons rfl (r.append hd)
  have hl : (Value.ref (s.heap.objs.size + 1) :: us ++ ds).length = ps.length := by
    have e := r2.length
    rw [F.len _ _ _ _ hq] at e
    exact e.symm
  refine wpAny_call (make_map (f := f) I.kIn M.makes M.init (beq_iff_eq.mp M.fn) (codeAny_mono (F.run _ X.stack _ _ ⟨Value.ref (s.heap.objs.size + 1) :: us, []⟩ (Value.ref (s.heap.objs.size + 1) :: (us ++ ds)) _ _ E (hr.make C us [])
    (I2.env0.make C us []) (hb _ (Value.ref (s.heap.objs.size + 1) :: us) I2.kIn hl) r2 hq) fun r s' hq' => ?_))
  cases r with
  | error e => exact hx pins σ _ _ e s' I2 hq'
  | ok fl =>
    cases fl with
    | ret u =>
      obtain ⟨v, H', I3, rv, ev, q3⟩ := I2.after hq'
      subst ev
      exact ⟨rv, ⟨V.ref (s.heap.objs.size + 1), H', I3, rfl, q3⟩⟩
    | next => exact False.elim hq'
    | brk => exact False.elim hq'
    | cont => exact False.elim hq'
theorem pe_make (M : Mk X.K C f) (F : FnOk X.prog X.w X.K X.mg X.base CX k f fd ps sp) (hr : Room (k + 1) X.A) (hg : Gl X x) (hm : X.mg x = some (.ref C)) (hb : Binds X.K fd ps ds) (hd : Vals dvs ds) (hx : Passes CX X E)
    (ha : PA X (e :: es) t) (hdb : (x == ("__debug__" : Str)) = false := by decide) (he : starEach (e :: es) X.env = (false, eval e X.env) :: starEach es X.env := by rfl) (hpl : (backTo pos (starEach es X.env)).any (·.1) = false := by rfl) :
    PE X (.Call (.Name x p) (e :: es) [] pos) (tMake C sp dvs E t) := by
  intro pins s σ H Q I h
  refine wpAny_Call_Name_kw (ld_glob I hg hm ?_ hdb)
  refine PySem.W.callWith_K (h₀ := X.base) I.ok.mod.kin M.kp (thn (ha pos pins s σ H _ I h) fun us s1 ⟨vs, H1, I1, r, q⟩ => ⟨I1.kIn, ?_⟩) he hpl
  exact run_make M F hr hb hd hx I1 r q
theorem pe_make0 (M : Mk X.K C f) (F : FnOk X.prog X.w X.K X.mg X.base CX k f fd ps sp) (hr : Room (k + 1) X.A) (hg : Gl X x) (hm : X.mg x = some (.ref C)) (hb : Binds X.K fd ps ds) (hd : Vals dvs ds) (hx : Passes CX X E)
    (hdb : (x == ("__debug__" : Str)) = false := by decide) : PE X (.Call (.Name x p) [] [] pos) (tMake C sp dvs E tNil) := by
  intro pins s σ H Q I h
  refine wpAny_Call_Name_kw (ld_glob I hg hm ?_ hdb)
  exact PySem.W.callWith_K0 I.kIn M.kp (run_make (us := []) M F hr hb hd hx I .nil h)
end

/-! ### keywords -/
/-- the values of the keywords, from the left -/
noncomputable def PK (X : Cx) (kws : List Keyword) (t : TA) : Prop :=
  ∀ (pos : Pos) (pins : List (Addr × Obj)) (s : Shared) (σ : St) (H : Hp) (Q : List V → Hp → Prop), Inv X pins σ H s → t σ H Q → wpAny (model X.prog X.w) X.A (evalAll ((backToKw pos (keywordEach kws X.env)).map (·.2))) (AP X pins σ Q) X.xe s
section
variable {X : Cx} {CX : CXT} {k : Nat} {f C : Addr} {fd : FuncData} {ps ks : List Str} {sp : Sp} {E : XK} {x m : Str} {p pos apos kpos : Pos} {e o : Expr} {es : List Expr} {kws : List Keyword} {te ta : TE} {t tk : TA} {nm : Option Str}
/-- how a call with keywords binds: g puts the positional values us and the keywords' values ws (names ks) in the parameters' order, defaults among them -/
structure KBinds (K : PySem.W.Frag) (fd : FuncData) (ps ks : List Str) (g : List Value → List Value → List Value) (gV : List V → List V → List V) : Prop where
  to : ∀ (s : Shared) (us ws : List Value), K.In s.heap → (g us ws).length = ps.length → BindsTo s fd ⟨us, ks.zip ws⟩ (ps.zip (g us ws))
  rel : ∀ {vs : List V} {us : List Value} {zs : List V} {ws : List Value}, Vals vs us → Vals zs ws → Vals (gV vs zs) (g us ws)
noncomputable def tCallK (sp : Sp) (gV : List V → List V → List V) (E : XK) (t tk : TA) : TE := fun σ H Q => t σ H fun vs H1 => tk σ H1 fun zs H2 => sp (gV vs zs) H2 Q E
variable {g : List Value → List Value → List Value} {gV : List V → List V → List V}
end

/-! ### a def's body keeps its promise -/
/-- names: the parameters first -/
structure FnScope (N P : List Str) (sc : Scope) : Prop where
  kind : sc.kind = .function
  co : sc.isCoroutine = false
  gen : sc.isGenerator = false
  nd : N.Nodup
  pre : N.take P.length = P
  par : ∀ x ∈ P, sc.names.lookup x = some .local ∨ sc.names.lookup x = some .cell
  nofree : ∀ y ∈ sc.names, y.2 ≠ .free

theorem bindL_out {kindOf : Str → Option NameKind} {x : Str} : ∀ {binds : List (Str × Value)} {m : Str → Option Value}, (∀ v, (x, v) ∉ binds) → bindL kindOf binds m x = m x
  | [], _, _ => rfl
  | (n, v) :: r, m, h => by
    unfold bindL
    rw [bindL_out fun w hw => h w (List.mem_cons_of_mem _ hw)]
    split
    · have : x ≠ n := by rintro rfl; exact h v List.mem_cons_self
      simp [this]
    · rfl
theorem bindC_out {kindOf : Str → Option NameKind} {x : Str} : ∀ {binds : List (Str × Value)} {m : Str → Option Value}, (∀ v, (x, v) ∉ binds) → bindC kindOf binds m x = m x
  | [], _, _ => rfl
  | (n, v) :: r, m, h => by
    unfold bindC
    rw [bindC_out fun w hw => h w (List.mem_cons_of_mem _ hw)]
    split
    · rfl
    · have : x ≠ n := by rintro rfl; exact h v List.mem_cons_self
      simp [this]
theorem bindL_get {kindOf : Str → Option NameKind} {x : Str} {v : Value} : ∀ {P : List Str} {vs : List Value} {i : Nat} {m : Str → Option Value}, P.Nodup → P[i]? = some x → vs[i]? = some v → kindOf x = some .local →
    bindL kindOf (P.zip vs) m x = some v
  | [], _, _, _, _, h, _, _ => by simp at h
  | _ :: _, [], _, _, _, _, h, _ => by simp at h
  | p :: P, w :: vs, 0, m, nd, h1, h2, hk => by
    simp at h1 h2; subst h1; subst h2
    show bindL kindOf ((p, w) :: P.zip vs) m p = _
    unfold bindL
    rw [bindL_out fun v hv => (List.nodup_cons.mp nd).1 (List.of_mem_zip hv).1, if_pos hk]
    simp
  | p :: P, w :: vs, i + 1, m, nd, h1, h2, hk => by
    show bindL kindOf ((p, w) :: P.zip vs) m x = _
    unfold bindL
    exact bindL_get (i := i) (List.nodup_cons.mp nd).2 (by simpa using h1) (by simpa using h2) hk
theorem bindC_get {kindOf : Str → Option NameKind} {x : Str} {v : Value} : ∀ {P : List Str} {vs : List Value} {i : Nat} {m : Str → Option Value}, P.Nodup → P[i]? = some x → vs[i]? = some v → kindOf x ≠ some .local →
    bindC kindOf (P.zip vs) m x = some v
  | [], _, _, _, _, h, _, _ => by simp at h
  | _ :: _, [], _, _, _, _, h, _ => by simp at h
  | p :: P, w :: vs, 0, m, nd, h1, h2, hk => by
    simp at h1 h2; subst h1; subst h2
    show bindC kindOf ((p, w) :: P.zip vs) m p = _
    unfold bindC
    rw [bindC_out fun v hv => (List.nodup_cons.mp nd).1 (List.of_mem_zip hv).1, if_neg hk]
    simp
  | p :: P, w :: vs, i + 1, m, nd, h1, h2, hk => by
    show bindC kindOf ((p, w) :: P.zip vs) m x = _
    unfold bindC
    exact bindC_get (i := i) (List.nodup_cons.mp nd).2 (by simpa using h1) (by simpa using h2) hk

/-- the names' values at the entry -/
noncomputable def start (N : List Str) (vs : List V) : St := vs.map some ++ List.replicate (N.length - vs.length) none

/-- the context of a def's body, at its entry; an exception leaves the frame, then lies as CX says -/
noncomputable def cxOf (CX : CXT) (P : Program) (w : World) (K : PySem.W.Frag) (mg : Str → Option Value) (base : Heap) (N : List Str) (qual : Str) (scope : Scope) (f : Addr) (cd : Value) (A : Around) (outer : List Env) (s : Shared) (H : Hp) (E : XK) : Cx where
  prog := P
  w := w
  K := K
  mg := mg
  base := base
  A := A.deeper (envOfC qual scope s.heap.objs.size f cd)
  N := N
  s₀ := s
  H₀ := H
  env := envOfC qual scope s.heap.objs.size f cd
  outer := outer
  stack := envOfC qual scope s.heap.objs.size f cd :: outer
  ex := []
  calm := true
  fn := fun _ => true
  pn := []
  xe := fun e s' => wpAny (model P w) (A.deeper (envOfC qual scope s.heap.objs.size f cd)) (leaving (envOfC qual scope s.heap.objs.size f cd) e) (fun _ s'' => CX outer H s E e s'') (fun e' s'' => CX outer H s E e' s'') s'

theorem cell_has {sc : Scope} {n : Nat} {x : Str} (h : sc.names.lookup x = some .cell) : ∃ c, (cellsFrom n sc.names []).lookup x = some c := by
  have q := PySem.W.cellsFrom_some sc.names n [] (.inl h)
  exact Option.isSome_iff_exists.mp q

theorem inv_start {CX : CXT} {P : Program} {w : World} {K : PySem.W.Frag} {mg : Str → Option Value} {base : Heap} {N ps : List Str} {qual : Str} {scope : Scope} {f : Addr} {cd : Value} {A : Around} {outer : List Env} {s s1 : Shared} {H : Hp} {E : XK} {us : List Value} {vs : List V}
    (S : FnScope N ps scope) (hd : A.handled = none) (e0 : Env0 P w K mg base A outer s H) (hl : vs.length = ps.length) (r : Vals vs us)
    (x : InCallC s s.heap.objs.size (bindL (envOfC qual scope s.heap.objs.size f cd).kindOf (ps.zip us) fun _ => none) (cellsFrom (s.heap.objs.size + 1) scope.names []) (bindC (envOfC qual scope s.heap.objs.size f cd).kindOf (ps.zip us) fun _ => none) s1) :
    Inv (cxOf CX P w K mg base N qual scope f cd A outer s H E) [] (start N vs) H s1 := by
  have hpl : ps.length ≤ N.length := by have := congrArg List.length S.pre; rw [List.length_take] at this; omega
  obtain ⟨h1, tk, rfl, hk⟩ := x.done
  have noA : ∀ b : Addr, b ∉ (cxOf CX P w K mg base N qual scope f cd A outer s H E).ex := fun b z => absurd (show b ∈ ([] : List Addr) from z) (by simp)
  refine ⟨⟨e0.mod, S.kind, rfl, rfl, Nat.le_refl _, fun y z c h1 h2 => ?_, fun y hy => ?_, fun y c _ h => ?_, fun _ => hd, Around.frames_deeper e0.frames, .inr ⟨rfl, rfl⟩, fun b z => absurd z (noA b), e0.bs, e0.bsz, fun b _ _ => noA b, fun b z => absurd z (noA b), e0.funs, e0.frf⟩,
    rfl, e0.bare, Un.kept hk, ⟨_, x.toInCall.ns, fun i y v h1 h2 h3 => ?_⟩, fun y c h => ⟨_, x.cell y c h⟩, e0.hok.fresh (Nat.le_refl _), fun y c h => ?_, fun p hp => absurd (show p ∈ ([] : List (Addr × Obj)) from hp) (by simp), e0.hok.kept hk, ?_⟩
  · exact name_of_addr x.apart (PySem.mem_of_lookup h1) (PySem.mem_of_lookup h2)
  · have hy : scope.names.lookup y = some .cell ∨ scope.names.lookup y = some .free := hy
    rcases hy with hy | hy
    · exact cell_has hy
    · exact absurd rfl (S.nofree _ (PySem.mem_of_lookup hy))
  · exact Nat.le_of_lt (x.above y c (PySem.mem_of_lookup h))
  · have hi : i < vs.length := by
      unfold start at h2
      by_cases hi : i < vs.length
      · exact hi
      · rw [List.getElem?_append_right (by simpa using hi)] at h2
        rw [List.getElem?_replicate] at h2
        split at h2 <;> cases h2
    have ha : vs[i]? = some v := by
      unfold start at h2
      rw [List.getElem?_append_left (by simpa using hi), List.getElem?_map] at h2
      cases e : vs[i]? with
      | none => rw [e] at h2; cases h2
      | some a => rw [e] at h2; cases h2; rfl
    obtain ⟨u, hu, rv⟩ := r.get ha
    have hp : ps[i]? = some y := by
      rw [← S.pre, List.getElem?_take_of_lt (by omega)]; exact h1
    have ndP : ps.Nodup := by rw [← S.pre]; exact S.nd.sublist (List.take_sublist _ _)
    refine ⟨u, rv, ?_⟩
    rcases S.par y (List.mem_of_getElem? hp) with k | k
    · exact .inl ⟨k, bindL_get ndP hp hu k⟩
    · obtain ⟨c, e⟩ := cell_has (n := s.heap.objs.size + 1) k
      refine .inr ⟨.inl k, c, e, ?_⟩
      have q := x.cell y c e
      rw [bindC_get ndP hp hu (by show scope.names.lookup y ≠ _; rw [k]; decide)] at q
      exact q
  · exact e0.hok.fresh (Nat.le_of_lt (x.above y c (PySem.mem_of_lookup h)))
  · unfold start
    show _ = N.length
    rw [List.length_append, List.length_map, List.length_replicate]
    omega

/-- THE RULE: a def (or a method) of the text, by its body. The body's reading t is chosen for each entry; it is run at the parameters' values -/
theorem fn_of {CX : CXT} {P : Program} {w : World} {K : PySem.W.Frag} {mg : Str → Option Value} {base : Heap} {k : Nat} {f : Addr} {name qual : Str} {params : Arguments} {body : List Stmt} {scope : Scope} {dV kV doc pm cdv ct oc : Value} {an od : Option Addr}
    {osl : Array (Option Value)} {N ps : List Str} {sp : Sp} (lk : K.lookup f = some ⟨oc, od, .func (PySem.W.fnOf name qual params body scope dV kV doc pm an cdv ct), osl⟩) (hcd : PySem.W.codeIn K cdv qual = true) (S : FnScope N ps scope)
    (len : ∀ vs H Q E, sp vs H Q E → vs.length = ps.length)
    (hbody : ∀ (A : Around) (outer : List Env) (s : Shared) (H : Hp) (vs : List V) (Q : VK) (E : XK), Room k (A.deeper (envOfC qual scope s.heap.objs.size f cdv)) → sp vs H Q E →
      ∃ t, PSs (cxOf CX P w K mg base N qual scope f cdv A outer s H E) body t ∧ t { nx := fun _ H' => Q .non H', rt := Q } (start N vs) H) :
    FnOk P w K mg base CX (k + 1) f (PySem.W.fnOf name qual params body scope dV kV doc pm an cdv ct) ps sp := by
  refine ⟨len, fun A outer s H args us vs Q E hr e0 hb r hsp => ?_⟩
  have hl := len _ _ _ _ hsp
  have KX : K.In s.heap := e0.mod.kin.keeps fun b o e => (e0.bs b o e).1
  have lim : s.heap.NoLimit := e0.mod.nolimit.keeps fun b o e => (e0.bs b o e).1
  have hkind : ∀ y ∈ ps.zip us, scope.names.lookup y.1 = some .local ∨ (scope.names.lookup y.1 = some .cell ∧ ((cellsFrom (s.heap.objs.size + 1) scope.names []).lookup y.1).isSome = true) := fun ⟨n, v⟩ hy => by
    rcases S.par n (List.of_mem_zip hy).1 with q | q
    · exact .inl q
    · exact .inr ⟨q, PySem.W.cellsFrom_some _ _ _ (.inl q)⟩
  refine codeAny_call_function hr.depth (KX _ _ lk) rfl S.co S.gen rfl (PySem.W.codeRec_of KX hcd) (hb _ _ _ _ ?_)
  refine wpAny_newFunctionEnv_cells S.kind hkind fun env he s1 x => ?_
  subst he
  refine ⟨lim.keeps x.toInCall.keep, codeAny_func ?_⟩
  obtain ⟨t, ht, hq⟩ := hbody A outer s H vs Q E (hr.deeper _) hsp
  have I : Inv (cxOf CX P w K mg base N qual scope f cdv A outer s H E) [] (start N vs) H s1 := inv_start S hr.hd e0 hl r x
  refine wpAny_mono (ht [] s1 (start N vs) H _ I hq) (fun fl s' hs => ?_) fun e s' hs => hs
  have fin : ∀ {σ' : St} {H' : Hp} {v : V} {u : Value}, Inv (cxOf CX P w K mg base N qual scope f cdv A outer s H E) [] σ' H' s' → RelV v u → Q v H' → CE outer P w H s Q u s' :=
    fun {σ' H' v u} J rv q => ⟨v, H', J.os, J.bare, J.base, J.hok, rv, q⟩
  cases fl with
  | ret u =>
    obtain ⟨v, σ', H', J, rv, q⟩ := hs
    exact fin J rv q
  | next =>
    obtain ⟨σ', H', J, q⟩ := hs
    exact fin (v := V.non) (u := Value.none) J rfl q
  | brk =>
    obtain ⟨_, _, _, q⟩ := hs
    exact False.elim q
  | cont =>
    obtain ⟨_, _, _, q⟩ := hs
    exact False.elim q
end L2

namespace L2
open PySem PySem.Spec PyProof.Rows
section
variable {X : Cx} {x : Str} {p pos : Pos} {e : Expr} {es : List Expr} {t : TA} {id T : String} {r : List V → Hp → VK → Prop}

noncomputable def tCB (r : List V → Hp → VK → Prop) (t : TA) : TE := fun σ H Q => t σ H fun vs H1 => r vs H1 Q
/-- f(e, ..), f a built-in function -/
theorem pe_callB (hc : CallR X (.builtin id) r) (hg : Gl X x) (hm : X.mg x = none) (hv : bootBuiltins x = some (.builtin id)) (ha : PA X (e :: es) t) (hn : x ≠ "__name__" := by decide) (hdb : (x == ("__debug__" : Str)) = false := by decide)
    (he : starEach (e :: es) X.env = (false, eval e X.env) :: starEach es X.env := by rfl) (hpl : (backTo pos (starEach es X.env)).any (·.1) = false := by rfl) : PE X (.Call (.Name x p) (e :: es) [] pos) (tCB r t) := by
  intro pins s σ H Q I h
  refine wpAny_Call_Name_kw (ld_blt I hg hm hv ?_ hn hdb)
  exact PyProof.Rows.callWith_builtin1 (thn (ha pos pins s σ H _ I h) fun us s1 ⟨vs, H1, I1, r1, q1⟩ => hc pins s1 σ H1 vs us Q I1 r1 q1) he hpl
/-- T(e, ..), T a built-in type -/
theorem pe_callTy (hc : CallR X (.type T) r) (hg : Gl X x) (hm : X.mg x = none) (hv : bootBuiltins x = some (.type T)) (ha : PA X (e :: es) t) (hn : x ≠ "__name__" := by decide) (hdb : (x == ("__debug__" : Str)) = false := by decide)
    (he : starEach (e :: es) X.env = (false, eval e X.env) :: starEach es X.env := by rfl) (hpl : (backTo pos (starEach es X.env)).any (·.1) = false := by rfl) : PE X (.Call (.Name x p) (e :: es) [] pos) (tCB r t) := by
  intro pins s σ H Q I h
  refine wpAny_Call_Name_kw (ld_blt I hg hm hv ?_ hn hdb)
  exact PyProof.Rows.callWith_type1 (thn (ha pos pins s σ H _ I h) fun us s1 ⟨vs, H1, I1, r1, q1⟩ => hc pins s1 σ H1 vs us Q I1 r1 q1) he hpl
end
end L2

namespace HT
open PySem PyProof.Rows

/-- t < u of tuples of ints -/
noncomputable def lexLt : List Int → List Int → Bool
  | [], [] => false
  | [], _ :: _ => true
  | _ :: _, [] => false
  | x :: xs, y :: ys => if x = y then lexLt xs ys else decide (x < y)
section
open PySem.SeqAt
open PySem.AutoSeq1 (wpAny_loadPart')
open PySem.MeetsSeq PySem.MeetsSeq2 PySem.MeetsSeq3

end

section
variable {prog : Program} {w : World} {A : Around} {E : Value → Shared → Prop} {s : Shared}

/-! ### t[a:b], not the whole -/
/-- a slice's bound as a place among n (d where it is left out) -/
noncomputable def sIx (n d : Nat) : Option Int → Nat
  | none => d
  | some v => if v < 0 then (v + (n : Int)).toNat else min v.toNat n
theorem sIx_none (n d : Nat) : sIx n d none = d := rfl
theorem sIx_nat (n d k : Nat) : sIx n d (some (k : Int)) = min k n := by
  show (if (k : Int) < 0 then ((k : Int) + (n : Int)).toNat else min (k : Int).toNat n) = min k n
  rw [if_neg (by omega), Int.toNat_natCast]
end
end HT

namespace L2
open PySem PySem.Spec PyProof.Rows

/-! ### the parts of a slice -/
abbrev TO := St → Hp → (Option Int → Hp → Prop) → Prop
/-- a slice's part (left out, or an int) -/
noncomputable def PO (X : Cx) (e : Option Expr) (t : TO) : Prop :=
  ∀ (pins : List (Addr × Obj)) (s : Shared) (σ : St) (H : Hp) (Q : Option Int → Hp → Prop), Inv X pins σ H s → t σ H Q →
    wpAny (model X.prog X.w) X.A (evalPart e X.env) (fun u s' => ∃ o H', Inv X pins σ H' s' ∧ IsPart u o ∧ Q o H') X.xe s
noncomputable def tNoPart : TO := fun _ H Q => Q none H
noncomputable def tPart (t : TE) : TO := fun σ H Q => t σ H fun x H1 => ∃ i, x = .int i ∧ Q (some i) H1

section
variable {X : Cx} {e : Expr} {te : TE} {lo hi : Option Expr} {tl th : TO} {pos p2 : Pos}

theorem po_none : PO X none tNoPart := by
  intro pins s σ H Q I h
  rw [evalPart_none]
  exact wpAny_pure ⟨none, H, I, .none, h⟩
theorem po_some (h : PE X e te) : PO X (some e) (tPart te) := by
  intro pins s σ H Q I hw
  rw [evalPart_some]
  refine thn (h pins s σ H _ I hw) fun u s1 ⟨x, H1, I1, r1, q1⟩ => ?_
  obtain ⟨i, rfl, q⟩ := q1
  obtain ⟨t, rfl⟩ := r1
  exact ⟨some i, H1, I1, .int i t, q⟩

/-- what a slice of a value is, by values: the slice object stands at sl -/
noncomputable def SlR (X : Cx) (r : V → Option Int → Option Int → Hp → VK → Prop) : Prop :=
  ∀ (pins : List (Addr × Obj)) (s : Shared) (σ : St) (H : Hp) (x : V) (v vl vu : Value) (lo hi : Option Int) (sl : Addr) (Q : VK), Inv X pins σ H s → RelV x v → s.heap.IsSliceOf sl vl vu .none → IsPart vl lo → IsPart vu hi → r x lo hi H Q →
    ∃ T id, typeLookup (.type T) "__getitem__" = pure (some (.builtin id)) ∧ s.TypeIs v T ∧ wpAny (model X.prog X.w) X.A (getItem v (.ref sl)) (EP X pins σ Q) X.xe s
theorem SlR.or {r r' : V → Option Int → Option Int → Hp → VK → Prop} (h : SlR X r) (h' : SlR X r') : SlR X (fun x lo hi H Q => r x lo hi H Q ∨ r' x lo hi H Q) := by
  intro pins s σ H x v vl vu lo hi sl Q I rx hs pl pu q
  rcases q with q | q
  · exact h pins s σ H x v vl vu lo hi sl Q I rx hs pl pu q
  · exact h' pins s σ H x v vl vu lo hi sl Q I rx hs pl pu q
noncomputable def tSl (r : V → Option Int → Option Int → Hp → VK → Prop) (te : TE) (tl th : TO) : TE := fun σ H Q => te σ H fun x H1 => tl σ H1 fun l H2 => th σ H2 fun u H3 => r x l u H3 Q
/-- a[lo:hi], any a -/
theorem pe_slice {r : V → Option Int → Option Int → Hp → VK → Prop} (hr : SlR X r) (he : PE X e te) (hl : PO X lo tl) (hu : PO X hi th) : PE X (.Subscript e (.Slice lo hi none p2) pos) (tSl r te tl th) := by
  intro pins s σ H Q I h
  refine Subscript_ (thn (he pins s σ H _ I h) fun v s1 ⟨x, H1, I1, r1, q1⟩ => ?_)
  refine wpAny_Slice (thn (hl pins s1 σ H1 _ I1 q1) fun vl s2 ⟨l, H2, I2, pl, q2⟩ => thn (hu pins s2 σ H2 _ I2 q2) fun vu s3 ⟨u, H3, I3, pu, q3⟩ => ?_)
  rw [evalPart_none]
  refine wpAny_pure ?_
  have I4 : Inv X pins σ H3 { s3 with heap := s3.heap.push { cls := .type "slice", data := .fields #[vl, vu, .none] } } := I3.kept (t' := s3.toks) fun b ob q => Heap.get?_push_of_some _ q
  obtain ⟨T, id, hT, ht, hg⟩ := hr pins { s3 with heap := s3.heap.push { cls := .type "slice", data := .fields #[vl, vu, .none] } } σ H3 x v vl vu l u s3.heap.objs.size Q I4 r1 (Heap.IsSliceOf.new ..) pl pu q3
  show wpAny (model X.prog X.w) X.A (subscriptTail e (.Slice lo hi none p2) v (.ref s3.heap.objs.size)) (EP X pins σ Q) X.xe { s3 with heap := s3.heap.push { cls := .type "slice", data := .fields #[vl, vu, .none] } }
  exact tail_any (ops := [.ref s3.heap.objs.size, v]) ht hT hg (by with_unfolding_all rfl)

/-- the items of xs[lo:hi] -/
noncomputable def cutV (xs : List V) (lo hi : Option Int) : List V := (xs.drop (HT.sIx xs.length 0 lo)).take (HT.sIx xs.length xs.length hi - HT.sIx xs.length 0 lo)
theorem cutV_length (xs : List V) (lo hi : Option Int) : (cutV xs lo hi).length ≤ xs.length := by
  unfold cutV
  rw [List.length_take, List.length_drop]
  omega
/-- t[lo:hi], not the whole of it (the whole would be t itself) -/
noncomputable def rSlT (K : PySem.W.Frag) : V → Option Int → Option Int → Hp → VK → Prop := fun x lo hi H Q => ∃ a xs, x = .ref a ∧ SqT K H a xs ∧
  ¬ (HT.sIx xs.length 0 lo = 0 ∧ HT.sIx xs.length xs.length hi = xs.length) ∧ ∀ p, H p = none → Q (.ref p) (upd H p (.tup (cutV xs lo hi)))
/-! ### t < u, t + u -/
noncomputable def rLtT (K : PySem.W.Frag) : R2 := fun x y H Q => ∃ a b ns ms, x = .ref a ∧ y = .ref b ∧ SqT K H a (ns.map V.int) ∧ SqT K H b (ms.map V.int) ∧ Q (.bl (HT.lexLt ns ms)) H
/-- t + u, t not empty: u empty gives t itself -/
noncomputable def rCatT (K : PySem.W.Frag) : R2 := fun x y H Q => ∃ a b xs ys, x = .ref a ∧ y = .ref b ∧ SqT K H a xs ∧ SqT K H b ys ∧ xs ≠ [] ∧ xs.length + ys.length ≤ sizeLine ∧
  (ys = [] → Q (.ref a) H) ∧ (ys ≠ [] → ∀ p, H p = none → Q (.ref p) (upd H p (.tup (xs ++ ys))))
end
end L2

namespace L2
open PySem PySem.Spec PyProof.Rows

/-! ### places -/
/-- the place that an index of any sign means -/
noncomputable def ixN (n : Nat) (i : Int) : Option Nat := if 0 ≤ i then (if i < n then some i.toNat else none) else if -(n : Int) ≤ i then some (i + n).toNat else none
noncomputable def atI {α : Type} (xs : List α) (i : Int) : Option α := (ixN xs.length i).bind fun j => xs[j]?
theorem ixN_seq {n : Nat} {i : Int} {j : Nat} (h : ixN n i = some j) : seqIndex? i n = some j ∧ j < n ∧ -(n : Int) ≤ i ∧ i < n := by
  unfold ixN at h
  by_cases h0 : 0 ≤ i
  · rw [if_pos h0] at h
    by_cases h1 : i < n
    · rw [if_pos h1] at h
      have e : i.toNat = j := Option.some.inj h
      exact ⟨by rw [seqIndex_of h0 h1, e], by omega, by omega, h1⟩
    · rw [if_neg h1] at h; cases h
  · rw [if_neg h0] at h
    by_cases h1 : -(n : Int) ≤ i
    · rw [if_pos h1] at h
      have e : (i + n).toNat = j := Option.some.inj h
      exact ⟨by rw [seqIndex_neg (by omega) h1, e], by omega, h1, by omega⟩
    · rw [if_neg h1] at h; cases h
theorem atI_get {α : Type} {xs : List α} {i : Int} {v : α} (h : atI xs i = some v) : ∃ j, seqIndex? i xs.length = some j ∧ xs[j]? = some v ∧ j < xs.length ∧ -(xs.length : Int) ≤ i ∧ i < xs.length := by
  unfold atI at h
  cases e : ixN xs.length i with
  | none => rw [e] at h; cases h
  | some j =>
    rw [e] at h
    obtain ⟨h1, h2, h3, h4⟩ := ixN_seq e
    exact ⟨j, h1, h, h2, h3, h4⟩
theorem atI_nat {α : Type} {xs : List α} {j : Nat} {v : α} (h : xs[j]? = some v) : atI xs (j : Int) = some v := by
  have hj : j < xs.length := (List.getElem?_eq_some_iff.mp h).1
  have e : ixN xs.length (j : Int) = some j := by
    unfold ixN
    rw [if_pos (by omega), if_pos (by omega)]; simp
  unfold atI; rw [e]; exact h
/-! ### what may be subscripted -/
/-- what stands as an index of a plain subscript -/
noncomputable def PlainIx (b : Expr) : Prop := ∀ o i, subscripted b false o i = operate [o, i] (getItem o i)
/-- a subscript by values -/
noncomputable def IxR (X : Cx) (r : R2) : Prop :=
  ∀ (value slice : Expr) (pins : List (Addr × Obj)) (s : Shared) (σ : St) (H : Hp) (x y : V) (v u : Value) (Q : VK), Inv X pins σ H s → RelV x v → RelV y u → r x y H Q →
    subscripted slice false v u = operate [v, u] (getItem v u) → wpAny (model X.prog X.w) X.A (subscriptTail value slice v u) (EP X pins σ Q) X.xe s
/-- a call of a builtin's method by values: the receiver, the arguments -/
noncomputable def MtR (X : Cx) (id : String) (r : V → List V → Hp → VK → Prop) : Prop :=
  ∀ (pins : List (Addr × Obj)) (s : Shared) (σ : St) (H : Hp) (x : V) (xs : List V) (v : Value) (us : List Value) (Q : VK), Inv X pins σ H s → RelV x v → Vals xs us → r x xs H Q →
    wpAny (model X.prog X.w) X.A (call (.builtin id) (v :: us)) (EP X pins σ Q) X.xe s
section
variable {X : Cx} {a b : Expr} {ta tb : TE} {pos : Pos}
theorem IxR.or {r r' : R2} (h : IxR X r) (h' : IxR X r') : IxR X (fun x y H Q => r x y H Q ∨ r' x y H Q) := by
  intro value slice pins s σ H x y v u Q I rx ry q hs
  rcases q with q | q
  · exact h value slice pins s σ H x y v u Q I rx ry q hs
  · exact h' value slice pins s σ H x y v u Q I rx ry q hs
theorem MtR.or {id : String} {r r' : V → List V → Hp → VK → Prop} (h : MtR X id r) (h' : MtR X id r') : MtR X id (fun x xs H Q => r x xs H Q ∨ r' x xs H Q) := by
  intro pins s σ H x xs v us Q I rx rs q
  rcases q with q | q
  · exact h pins s σ H x xs v us Q I rx rs q
  · exact h' pins s σ H x xs v us Q I rx rs q
/-- a[b] -/
theorem pe_ix {r : R2} (hr : IxR X r) (ha : PE X a ta) (hb : PE X b tb) (hs : PlainIx b) : PE X (.Subscript a b pos) (tOp r ta tb) := by
  intro pins s σ H Q I h
  exact Subscript_ (binT ha hb I h fun v u s2 x y H2 I2 rx ry q => hr a b pins s2 σ H2 x y v u Q I2 rx ry q (hs _ _))

noncomputable def rIxL (K : PySem.W.Frag) : R2 := fun x y H Q => ∃ p xs i v, x = .ref p ∧ y = .int i ∧ SqL K H p xs ∧ atI xs i = some v ∧ Q v H
noncomputable def rIxT (K : PySem.W.Frag) : R2 := fun x y H Q => ∃ p xs i v, x = .ref p ∧ y = .int i ∧ SqT K H p xs ∧ atI xs i = some v ∧ Q v H
noncomputable def rIxS : R2 := fun x y H Q => ∃ z i c, x = .str z ∧ y = .int i ∧ z.length ≤ sizeLine ∧ atI z.cps.toList i = some c ∧ Q (.str ⟨#[c]⟩) H
theorem ix_list : IxR X (rIxL X.K) := by
  intro value slice pins s σ H x y v u Q I rx ry h hs
  obtain ⟨p, xs, i, z, rfl, rfl, hq, he, q⟩ := h
  cases rx
  obtain ⟨t, rfl⟩ := ry
  obtain ⟨its, r, pl, hz⟩ := I.list hq
  obtain ⟨j, h1, h2, h3, h4, h5⟩ := atI_get he
  obtain ⟨w, ew, rw'⟩ := r.get h2
  have hl := r.length
  have hn := line63
  have fin : EP X pins σ Q w s := ⟨z, H, I, rw', q⟩
  by_cases h0 : 0 ≤ i
  · have hj : i.toNat = j := by
      rw [seqIndex_of h0 h5] at h1
      exact Option.some.inj h1
    exact item_listR pl.isList h0 (by omega) (by rw [hj]; simpa using ew) fin hs
  · have hj : (i + (its.toArray.size : Int)).toNat = j := by
      rw [seqIndex_neg (by omega) h4] at h1
      rw [List.size_toArray, ← hl]
      exact Option.some.inj h1
    exact subscriptTail_builtinR (x := w) pl.isList.typeIs slot_list_getitem.lookup
      (wpAny_getItem_list_neg (Q := fun r s' => r = w ∧ EP X pins σ Q r s') pl.isList (by omega) (by rw [List.size_toArray] <;> omega) (by omega) (by rw [hj]; simpa using ew) ⟨rfl, fin⟩) hs
theorem ix_tup : IxR X (rIxT X.K) := by
  intro value slice pins s σ H x y v u Q I rx ry h hs
  obtain ⟨p, xs, i, z, rfl, rfl, hq, he, q⟩ := h
  cases rx
  obtain ⟨t, rfl⟩ := ry
  obtain ⟨its, r, pl, hz⟩ := I.tuple hq
  obtain ⟨j, h1, h2, h3, h4, h5⟩ := atI_get he
  obtain ⟨w, ew, rw'⟩ := r.get h2
  have hl := r.length
  have hn := line63
  have fin : EP X pins σ Q w s := ⟨z, H, I, rw', q⟩
  exact subscriptTail_builtinR (x := w) pl.typeIs slot_tuple_getitem.lookup
    (getItem_tuple (j := j) (Q := fun r s' => r = w ∧ EP X pins σ Q r s') pl (by omega) (by omega) (by rw [List.size_toArray, ← hl]; exact h1) (by simpa using ew) ⟨rfl, fin⟩) hs
/-- list, tuple or str -/
noncomputable def rIx (K : PySem.W.Frag) : R2 := fun x y H Q => rIxL K x y H Q ∨ rIxT K x y H Q ∨ rIxS x y H Q
/-! ### xs[i] = v, any sign -/
/-- the list's object behind a store -/
theorem mapSeq_set (its : List Value) (n j : Nat) (u : Value) : Obj.mapSeq (·.setIfInBounds j u) { cls := .type "list", data := .seq its.toArray n } = { cls := .type "list", data := .seq (its.set j u).toArray n } := by
  simp [Obj.mapSeq]
theorem Inv.lst {pins : List (Addr × Obj)} {σ : St} {H : Hp} {s : Shared} {p : Addr} {xs : List V} (I : Inv X pins σ H s) (h : H p = some (.lst xs)) :
    ∃ (its : List Value) (n : Nat), Vals xs its ∧ s.heap.get? p = some { cls := .type "list", data := .seq its.toArray n } ∧ xs.length ≤ sizeLine := by
  obtain ⟨z, its, n, r, e⟩ := I.hok p _ h
  exact ⟨its, n, r, e, z⟩
/-- the list at p is written by an update of its object -/
theorem Inv.lstUpd {pins : List (Addr × Obj)} {σ : St} {H : Hp} {s : Shared} {p : Addr} {xs ys : List V} {its its' : List Value} {n n' : Nat} {f : Obj → Obj} (I : Inv X pins σ H s) (h : H p = some (.lst xs))
    (ho : s.heap.get? p = some { cls := .type "list", data := .seq its.toArray n }) (hf : f { cls := .type "list", data := .seq its.toArray n } = { cls := .type "list", data := .seq its'.toArray n' }) (r : Vals ys its') (hz : ys.length ≤ sizeLine) (t : Nat) :
    Inv X pins σ (upd H p (.lst ys)) { s with heap := s.heap.update p f, toks := t } := by
  have e : (s.heap.update p f).get? p = some { cls := .type "list", data := .seq its'.toArray n' } := by
    rw [Heap.get?_update_self f ho (by rw [hf] <;> rfl), hf]
  refine I.write (x := p) (e := p) (by rw [h]; trivial) (.inl rfl) (fun b u hb q => (Heap.get?_update_other _ _ (Ne.symm hb)).trans q) ⟨_, e⟩ ?_
  exact ⟨hz, its', n', r, e⟩
noncomputable def rSetL : V → V → V → Hp → (Hp → Prop) → Prop := fun o i v H Q => ∃ p xs k j, o = .ref p ∧ i = .int k ∧ H p = some (.lst xs) ∧ ixN xs.length k = some j ∧ Q (upd H p (.lst (xs.set j v)))
theorem set_list : PSet X rSetL := by
  intro pins s σ H o i v ov iv u Q I ro ri rv h
  obtain ⟨p, xs, k, j, rfl, rfl, hp, hj, q⟩ := h
  cases ro
  obtain ⟨t, rfl⟩ := ri
  obtain ⟨its, n, r, ho, hz⟩ := I.lst hp
  obtain ⟨h1, h2, h3, h4⟩ := ixN_seq hj
  have hl := r.length
  have hn := line63
  have I' : Inv X pins σ (upd H p (.lst (xs.set j v))) { s with heap := s.heap.update p (Obj.mapSeq (·.setIfInBounds j u)) } :=
    I.lstUpd hp ho (mapSeq_set its n j u) (r.set rv j) (by rw [List.length_set]; exact hz) s.toks
  by_cases h0 : 0 ≤ k
  · have hk : k.toNat = j := by
      rw [seqIndex_of h0 h4] at h1
      exact Option.some.inj h1
    exact PySem.W.ki_setAt ho h0 (by omega) (by rw [List.size_toArray, ← hl]; exact h4) (by rw [hk]; exact ⟨_, I', q⟩)
  · have hk : (k + (its.toArray.size : Int)).toNat = j := by
      rw [seqIndex_neg (by omega) h3] at h1
      rw [List.size_toArray, ← hl]
      exact Option.some.inj h1
    exact PySem.W.ki_setBack ho (by omega) (by rw [List.size_toArray, ← hl]; exact h3) (by omega) (by rw [hk]; exact ⟨_, I', q⟩)

/-! ### slices -/
theorem slice_bounds (lo hi : Option Int) (n : Nat) : (sliceBounds lo hi none n).1 = ((HT.sIx n 0 lo : Nat) : Int) ∧ (sliceBounds lo hi none n).2.1 = ((HT.sIx n n hi : Nat) : Int) ∧ (sliceBounds lo hi none n).2.2 = 1 := by
  refine ⟨?_, ?_, rfl⟩
  · cases lo with
    | none => simp [sliceBounds, HT.sIx]
    | some i =>
      simp only [sliceBounds, HT.sIx, Option.getD_none, show (1 : Int) > 0 by decide, if_true]
      by_cases h : i < 0
      · simp only [h, if_true] <;> omega
      · simp only [h, if_false] <;> omega
  · cases hi with
    | none => simp [sliceBounds, HT.sIx]
    | some i =>
      simp only [sliceBounds, HT.sIx, Option.getD_none, show (1 : Int) > 0 by decide, if_true]
      by_cases h : i < 0
      · simp only [h, if_true] <;> omega
      · simp only [h, if_false] <;> omega
theorem slicePick_cut (its : List Value) (lo hi : Option Int) : slicePick its.toArray lo hi none = ((its.drop (HT.sIx its.length 0 lo)).take (HT.sIx its.length its.length hi - HT.sIx its.length 0 lo)).toArray := by
  obtain ⟨h1, h2, h3⟩ := slice_bounds lo hi its.toArray.size
  unfold slicePick
  rw [h1, h2, h3]
  simp only [sliceRange_one, pick_run, List.size_toArray] <;> rfl
/-- xs[lo:hi] of a list: a new list -/
noncomputable def rSlL (K : PySem.W.Frag) : V → Option Int → Option Int → Hp → VK → Prop := fun x lo hi H Q => ∃ a xs, x = .ref a ∧ SqL K H a xs ∧ ∀ p, H p = none → Q (.ref p) (upd H p (.lst (cutV xs lo hi)))
theorem sl_list : SlR X (rSlL X.K) := by
  intro pins s σ H x v vl vu lo hi sl Q I rx hs pl pu h
  obtain ⟨a, xs, rfl, hx, q⟩ := h
  cases rx
  obtain ⟨its, r, ht, hz⟩ := I.list hx
  have hlen := r.length
  refine ⟨"list", _, slot_list_getitem.lookup, ht.isList.typeIs, ?_⟩
  refine wpAny_getItem_list_slice ht.isList hs pl pu .none (by simp) ?_ (by rw [List.size_toArray] <;> omega)
  rw [slicePick_cut, ← hlen]
  refine ⟨.ref s.heap.objs.size, _, I.laid (t' := s.toks) (o := .lst (cutV xs lo hi)) (fun b ob q => Heap.get?_push_of_some _ q) (Nat.le_refl _) ?_, rfl, q _ (I.hok.fresh (Nat.le_refl _))⟩
  exact ⟨Nat.le_trans (cutV_length xs lo hi) hz, _, 0, (r.drop (HT.sIx xs.length 0 lo)).take (HT.sIx xs.length xs.length hi - HT.sIx xs.length 0 lo), Heap.get?_push_size _ rfl⟩

/-! ### in, not in: flat items -/
noncomputable def flatV : V → Bool
  | .non => true
  | .bl _ => true
  | .int _ => true
  | .str _ => true
  | _ => false
/-- == of flat values -/
noncomputable def eqV : V → V → Bool
  | .non, .non => true
  | .bl a, .bl b => a == b
  | .bl a, .int b => (if a then 1 else 0) == b
  | .int a, .bl b => a == (if b then 1 else 0)
  | .int a, .int b => a == b
  | .str a, .str b => a == b
  | _, _ => false
theorem eqAt_V {A : Around} {s : Shared} {y x : V} {u v : Value} (ry : RelV y u) (rx : RelV x v) (fy : flatV y = true) (fx : flatV x = true) : SeqAt.EqAt A s u v (eqV y x) := by
  cases y with
  | non =>
    cases ry
    cases x with
    | non => cases rx; exact SeqAt.EqAt.same _
    | bl b => cases rx; exact SeqAt.EqAt.none_bool b
    | int b => obtain ⟨t, rfl⟩ := rx; exact SeqAt.EqAt.none_int b t
    | str b => obtain ⟨t, rfl⟩ := rx; exact SeqAt.EqAt.none_str b t
    | _ => exact absurd (show false = true from fx) Bool.false_ne_true
  | bl a =>
    cases ry
    cases x with
    | non => cases rx; exact SeqAt.EqAt.bool_none a
    | bl b => cases rx; exact SeqAt.EqAt.bool_bool a b
    | int b => obtain ⟨t, rfl⟩ := rx; exact SeqAt.EqAt.bool_int a b t
    | str b => obtain ⟨t, rfl⟩ := rx; exact SeqAt.EqAt.bool_str a b t
    | _ => exact absurd (show false = true from fx) Bool.false_ne_true
  | int a =>
    obtain ⟨t', rfl⟩ := ry
    cases x with
    | non => cases rx; exact SeqAt.EqAt.int_none a t'
    | bl b => cases rx; exact SeqAt.EqAt.int_bool a t' b
    | int b => obtain ⟨t, rfl⟩ := rx; exact SeqAt.EqAt.int_int a t' b t
    | str b => obtain ⟨t, rfl⟩ := rx; exact SeqAt.EqAt.int_str a t' b t
    | _ => exact absurd (show false = true from fx) Bool.false_ne_true
  | str a =>
    obtain ⟨t', rfl⟩ := ry
    cases x with
    | non => cases rx; exact SeqAt.EqAt.str_none a t'
    | bl b => cases rx; exact SeqAt.EqAt.str_bool a t' b
    | int b => obtain ⟨t, rfl⟩ := rx; exact SeqAt.EqAt.str_int a t' b t
    | str b => obtain ⟨t, rfl⟩ := rx; exact SeqAt.EqAt.str_str a t' b t
    | _ => exact absurd (show false = true from fx) Bool.false_ne_true
  | _ => exact absurd (show false = true from fy) Bool.false_ne_true
/-- the items' answers, read off the values (a value's own answer does not lean on its token) -/
noncomputable def eqU (x : V) (u : Value) : Bool := match u with
  | .none => eqV .non x
  | .bool b => eqV (.bl b) x
  | .int i _ => eqV (.int i) x
  | .str z _ => eqV (.str z) x
  | _ => false
theorem eqU_of {x y : V} {u : Value} (r : RelV y u) (f : flatV y = true) : eqU x u = eqV y x := by
  cases y with
  | non => cases r; rfl
  | bl b => cases r; rfl
  | int i => obtain ⟨t, rfl⟩ := r; rfl
  | str z => obtain ⟨t, rfl⟩ := r; rfl
  | _ => exact absurd (show false = true from f) Bool.false_ne_true
theorem any_eqU {x : V} : ∀ {xs : List V} {us : List Value}, Vals xs us → xs.all flatV = true → us.any (eqU x) = xs.any fun y => eqV y x
  | _, _, .nil, _ => rfl
  | y :: xs, u :: us, .cons r t, f => by
    rw [List.all_cons, Bool.and_eq_true] at f
    rw [List.any_cons, List.any_cons, eqU_of r f.1, any_eqU t f.2]
theorem mem_eqAt {A : Around} {s : Shared} {x : V} {v : Value} (rx : RelV x v) (fx : flatV x = true) : ∀ {xs : List V} {us : List Value}, Vals xs us → xs.all flatV = true → ∀ u ∈ us, SeqAt.EqAt A s u v (eqU x u)
  | _, _, .nil, _ => fun u hu => by cases hu
  | y :: xs, u :: us, .cons r t, f => fun u' hu => by
    rw [List.all_cons, Bool.and_eq_true] at f
    rcases List.mem_cons.mp hu with rfl | hu
    · rw [eqU_of r f.1]; exact eqAt_V r rx f.1 fx
    · exact mem_eqAt rx fx t f.2 u' hu
noncomputable def inV (x : V) (xs : List V) : Bool := xs.any fun y => eqV y x
/-- x in a list or tuple of flat items -/
noncomputable def rIn (K : PySem.W.Frag) (neg : Bool) : R2 := fun x y H Q => ∃ p xs, y = .ref p ∧ (SqL K H p xs ∨ SqT K H p xs) ∧ flatV x = true ∧ xs.all flatV = true ∧ Q (.bl (if neg then !inV x xs else inV x xs)) H
theorem op_notIn_seq : OpR X (compareOp .NotIn) (rIn X.K true) := by
  intro pins s σ H x y v u Q I rx ry h
  obtain ⟨p, xs, rfl, hq, fx, fs, q⟩ := h
  cases ry
  rcases hq with hq | hq
  · obtain ⟨its, r, pl, hz⟩ := I.list hq
    refine SeqAt.notIn_listAt (eqU x) pl.isList (fun w hw => mem_eqAt rx fx r fs w (by simpa using hw)) ⟨.bl _, H, I, rfl, ?_⟩
    rw [show its.toArray.any (eqU x) = its.any (eqU x) by simp, any_eqU r fs]
    exact q
  · obtain ⟨its, r, pl, hz⟩ := I.tuple hq
    refine SeqAt.notIn_tupleAt (eqU x) pl (fun w hw => mem_eqAt rx fx r fs w (by simpa using hw)) ⟨.bl _, H, I, rfl, ?_⟩
    rw [show its.toArray.any (eqU x) = its.any (eqU x) by simp, any_eqU r fs]
    exact q
/-! ### len, list(x), tuple(x) of any list or tuple that is read -/
theorem call_len_seq : CallR X (.builtin "len") (fun xs H Q => ∃ p ys, xs = [.ref p] ∧ (SqL X.K H p ys ∨ SqT X.K H p ys) ∧ Q (.int ys.length) H) := by
  intro pins s σ H xs us Q I r h
  obtain ⟨p, ys, rfl, hq, q⟩ := h
  obtain ⟨u, rfl, rx⟩ := vals1 r
  cases rx
  have hn := line63
  rcases hq with hq | hq
  · obtain ⟨its, r', pl, hz⟩ := I.list hq
    have hlen := r'.length
    exact Calls.call_len_list pl.isList (by simp only [List.size_toArray] <;> omega) ⟨.int ys.length, H, I.tok _, ⟨s.toks + 1, by rw [List.size_toArray, hlen]⟩, q⟩
  · obtain ⟨its, r', pl, hz⟩ := I.tuple hq
    have hlen := r'.length
    exact len_tuple pl (by simp only [List.size_toArray] <;> omega) ⟨.int ys.length, H, I.tok _, ⟨s.toks + 1, by rw [List.size_toArray, hlen]⟩, q⟩
theorem CallR.or {f : Value} {r r' : List V → Hp → VK → Prop} (h : CallR X f r) (h' : CallR X f r') : CallR X f (fun xs H Q => r xs H Q ∨ r' xs H Q) := by
  intro pins s σ H xs us Q I rs q
  rcases q with q | q
  · exact h pins s σ H xs us Q I rs q
  · exact h' pins s σ H xs us Q I rs q
theorem call_list_of : CallR X (.type "list") (fun xs H Q => ∃ p ys, xs = [.ref p] ∧ (SqL X.K H p ys ∨ SqT X.K H p ys) ∧ ∀ l, H l = none → Q (.ref l) (upd H l (.lst ys))) := by
  intro pins s σ H xs us Q I r h
  obtain ⟨p, ys, rfl, hq, q⟩ := h
  obtain ⟨u, rfl, rx⟩ := vals1 r
  cases rx
  have fin : ∀ (its : List Value), Vals ys its → ys.length ≤ sizeLine → ∀ (h' : Heap) (c' : Nat), (∀ b o', s.heap.get? b = some o' → h'.get? b = some o') →
      h'.get? s.heap.objs.size = some { cls := .type "list", dict := none, data := .seq its.toArray c', slots := #[] } → EP X pins σ Q (.ref s.heap.objs.size) { s with heap := h' } := fun its r' hz h' c' kp e =>
    ⟨.ref s.heap.objs.size, _, I.laid (t' := s.toks) kp (Nat.le_refl _) (show ObjOk X.prog X.w _ h' _ (.lst ys) from ⟨hz, its, c', r', e⟩), rfl, q _ (I.hok.fresh (Nat.le_refl _))⟩
  rcases hq with hq | hq
  · obtain ⟨its, r', pl, hz⟩ := I.list hq
    have hlen := r'.length
    obtain ⟨o, ho, hc, n, hd⟩ := pl.isList
    exact call_list_seq p (.inl rfl) ho hc hd (fun h' c' kp e => fin its r' hz h' c' kp e) (by simp only [List.size_toArray] <;> omega)
  · obtain ⟨its, r', pl, hz⟩ := I.tuple hq
    have hlen := r'.length
    obtain ⟨o, ho, hc, n, hd⟩ := pl
    exact call_list_seq p (.inr rfl) ho hc hd (fun h' c' kp e => fin its r' hz h' c' kp e) (by simp only [List.size_toArray] <;> omega)
theorem call_tuple_of : CallR X (.type "tuple") (fun xs H Q => ∃ p ys, xs = [.ref p] ∧ ((SqL X.K H p ys ∧ ∀ l, H l = none → Q (.ref l) (upd H l (.tup ys))) ∨ (SqT X.K H p ys ∧ Q (.ref p) H))) := by
  intro pins s σ H xs us Q I r h
  obtain ⟨p, ys, rfl, h⟩ := h
  obtain ⟨u, rfl, rx⟩ := vals1 r
  cases rx
  rcases h with ⟨hq, q⟩ | ⟨hq, q⟩
  · obtain ⟨its, r', pl, hz⟩ := I.list hq
    have hlen := r'.length
    refine call_tuple_list pl.isList (fun h' kp => ?_) (by simp only [List.size_toArray] <;> omega)
    have I1 : Inv X pins σ H { s with heap := h' } := I.kept (t' := s.toks) kp
    have I2 : Inv X pins σ (upd H h'.objs.size (.tup ys)) { s with heap := h'.push { cls := .type "tuple", data := .seq its.toArray } } :=
      I1.laid (t' := s.toks) (fun b o e => Heap.get?_push_of_some _ e) (Nat.le_refl _) (show ObjOk X.prog X.w _ _ _ (.tup ys) from ⟨hz, its, r', IsTup.new _ _⟩)
    exact ⟨.ref h'.objs.size, _, I2, rfl, q _ (I1.hok.fresh (Nat.le_refl _))⟩
  · obtain ⟨its, r', pl, hz⟩ := I.tuple hq
    exact call_tuple_same pl ⟨.ref p, H, I, rfl, q⟩

/-! ### the call of a builtin's method: o.m(..) -/
/-- the value is of that builtin type -/
noncomputable def tyV (K : PySem.W.Frag) (T : String) (x : V) (H : Hp) : Prop := match x with
  | .str _ => T = "str"
  | .int _ => T = "int"
  | .ref p => (T = "list" ∧ ∃ xs, SqL K H p xs) ∨ (T = "tuple" ∧ ∃ o, K.lookup p = some o ∧ o.cls = .type "tuple" ∧ o.dict = none) ∨
      (T = "dict" ∧ ((∃ kvs, H p = some (.dK kvs)) ∨ ∃ kvs, H p = some (.dT kvs))) ∨ (T = "set" ∧ ∃ S n, H p = some (.set S n))
  | _ => False
theorem tyV_is {pins : List (Addr × Obj)} {σ : St} {H : Hp} {s : Shared} {T : String} {x : V} {v : Value} (I : Inv X pins σ H s) (r : RelV x v) (ty : tyV X.K T x H) :
    s.TypeIs v T ∧ ∀ a, v = .ref a → ∃ ob, s.heap.get? a = some ob ∧ ob.dict = none := by
  cases x with
  | str z =>
    obtain ⟨t, rfl⟩ := r
    cases (show T = "str" from ty)
    exact ⟨typeIs_str s z t, fun _ e => nomatch e⟩
  | int i =>
    obtain ⟨t, rfl⟩ := r
    cases (show T = "int" from ty)
    exact ⟨typeIs_int s i t, fun _ e => nomatch e⟩
  | ref p =>
    cases r
    rcases ty with ⟨rfl, xs, hq⟩ | ⟨rfl, o, hk, hc, hd⟩ | ⟨rfl, hk⟩ | ⟨rfl, S, n, hk⟩
    · obtain ⟨its, _, pl, _⟩ := I.list hq
      refine ⟨pl.isList.typeIs, fun a e => ?_⟩
      cases e
      obtain ⟨o, n, e, c, hd, _⟩ := pl
      exact ⟨o, e, hd⟩
    · refine ⟨⟨o, I.kIn p o hk, hc⟩, fun a e => ?_⟩
      cases e
      exact ⟨o, I.kIn _ o hk, hd⟩
    · have z : ∃ o, s.heap.get? p = some o ∧ o.ExactDict := by
        rcases hk with ⟨kvs, hk⟩ | ⟨kvs, hk⟩
        · obtain ⟨_, _, _, _, o, _, _, e, ex, _⟩ := I.hok p _ hk
          exact ⟨o, e, ex⟩
        · obtain ⟨_, _, _, _, o, _, _, e, ex, _⟩ := I.hok p _ hk
          exact ⟨o, e, ex⟩
      obtain ⟨o, e, ex⟩ := z
      refine ⟨⟨o, e, ex.1⟩, fun a e2 => ?_⟩
      cases e2
      exact ⟨o, e, ex.2.1⟩
    · obtain ⟨o, _, _, _, e, ex, _⟩ := I.hok p _ hk
      refine ⟨⟨o, e, ex.1⟩, fun a e2 => ?_⟩
      cases e2
      exact ⟨o, e, ex.2.1⟩
  | _ => exact False.elim ty
noncomputable def tBM0 (K : PySem.W.Frag) (T : String) (r : V → List V → Hp → VK → Prop) (to : TE) : TE := fun σ H Q => to σ H fun x H1 => tyV K T x H1 ∧ r x [] H1 Q
noncomputable def tBM (K : PySem.W.Frag) (T : String) (r : V → List V → Hp → VK → Prop) (to : TE) (t : TA) : TE := fun σ H Q => to σ H fun x H1 => tyV K T x H1 ∧ t σ H1 fun xs H2 => r x xs H2 Q
variable {o e : Expr} {es : List Expr} {to : TE} {t : TA} {name : Str} {apos cpos : Pos} {T id : String} {r : V → List V → Hp → VK → Prop}
theorem pe_bm (pa : PlainAttrs T) (slot : Slot T name id) (hty : typeOf (.builtin id) = pure (.type "method_descriptor")) (hm : MtR X id r) (ho : PE X o to) (ha : PA X (e :: es) t)
    (hbase : attributeBase o name X.env (eval o X.env) = eval o X.env := by rfl)
    (hfew : ((backTo cpos (starEach (e :: es) X.env)).all (fun x => !x.1) && (backToKw cpos (keywordEach [] X.env)).all (fun x => x.1.isSome)
      && decide ((e :: es).length + ([] : List Keyword).length + (if ([] : List Keyword).isEmpty then 0 else 1) < 30)) = true := by rfl)
    (hline : (apos.endLine == cpos.line) = true := by rfl) (hs : starEach (e :: es) X.env = (false, eval e X.env) :: starEach es X.env := by rfl) (hplain : (backTo cpos (starEach es X.env)).any (·.1) = false := by rfl) :
    PE X (.Call (.Attribute o name apos) (e :: es) [] cpos) (tBM X.K T r to t) := by
  intro pins s σ H Q I h
  refine wpAny_Call_method_late hbase hfew hline rfl (thn (ho pins s σ H _ I h) fun v s1 ⟨x, H1, I1, r1, ty, q1⟩ => ?_)
  obtain ⟨h1, h2⟩ := tyV_is I1 r1 ty
  refine ⟨T, id, pa, slot, hty, h1, h2, ?_⟩
  have hA := ha cpos pins s1 σ H1 _ I1 q1
  rw [hs] at hA ⊢
  refine Calls.callWith_builtin (by show (false || (backTo cpos (starEach es X.env)).any (·.1)) = false; rw [hplain] <;> rfl) (Calls.evalArgs_plain ?_)
  exact thn hA fun us s2 ⟨vs, H2, I2, r2, q2⟩ => hm pins s2 σ H2 x vs v us Q I2 r1 r2 q2
/- xs.append(e), list.index on a module's tuple .. are MtR facts of 06m -/
end
end L2

namespace L2
open PySem PySem.Spec PyProof.Rows

noncomputable def MtM (X : Cx) (id : String) (r : V → List V → Hp → VK → Prop) : Prop :=
  ∀ (pins : List (Addr × Obj)) (s : Shared) (σ : St) (H : Hp) (x : V) (xs : List V) (v : Value) (us : List Value) (Q : VK), Inv X pins σ H s → RelV x v → Vals xs us → r x xs H Q →
    wpAny (model X.prog X.w) X.A (call (.builtin id) (v :: us)) (EP X pins σ Q) X.xe s

/-! ### lists of values -/
theorem Vals.one : ∀ {x : V} {us : List Value}, Vals [x] us → ∃ u, us = [u] ∧ RelV x u
  | _, _, .cons r .nil => ⟨_, rfl, r⟩
theorem Vals.two : ∀ {x y : V} {us : List Value}, Vals [x, y] us → ∃ u v, us = [u, v] ∧ RelV x u ∧ RelV y v
  | _, _, _, .cons r (.cons q .nil) => ⟨_, _, rfl, r, q⟩
theorem Vals.zero : ∀ {us : List Value}, Vals [] us → us = []
  | _, .nil => rfl
theorem Vals.dropLast {xs : List V} {us : List Value} (h : Vals xs us) : Vals xs.dropLast us.dropLast := by
  induction h with
  | nil => exact .nil
  | cons r t ih =>
    cases t with
    | nil => exact .nil
    | cons q t' => exact .cons r ih
theorem Vals.eraseIdx : ∀ {xs : List V} {us : List Value} (i : Nat), Vals xs us → Vals (xs.eraseIdx i) (us.eraseIdx i)
  | _, _, _, .nil => .nil
  | _, _, 0, .cons _ t => t
  | _, _, i + 1, .cons r t => .cons r (Vals.eraseIdx i t)
theorem Vals.reverse {xs : List V} {us : List Value} (h : Vals xs us) : Vals xs.reverse us.reverse := by
  induction h with
  | nil => exact .nil
  | cons r t ih => rw [List.reverse_cons, List.reverse_cons]; exact Vals.append ih (.cons r .nil)
theorem Vals.rep {xs : List V} {us : List Value} (h : Vals xs us) : ∀ k : Nat, Vals (List.replicate k xs).flatten (List.replicate k us).flatten
  | 0 => .nil
  | k + 1 => by
    rw [List.replicate_succ, List.replicate_succ, List.flatten_cons, List.flatten_cons]
    exact Vals.append h (Vals.rep h k)
theorem foldl_rep (its : List Value) : ∀ (k : Nat) (acc : List Value),
    List.foldl (fun x1 x2 => x1 ++ x2) acc.toArray (List.replicate k its.toArray) = (acc ++ (List.replicate k its).flatten).toArray
  | 0, acc => by simp
  | k + 1, acc => by
    have e : acc.toArray ++ its.toArray = (acc ++ its).toArray := by simp
    have e2 : (acc ++ its) ++ (List.replicate k its).flatten = acc ++ (List.replicate (k + 1) its).flatten := by
      rw [List.replicate_succ, List.flatten_cons, List.append_assoc]
    rw [← e2, ← foldl_rep its k (acc ++ its), ← e, List.replicate_succ, List.foldl_cons]

section
variable {X : Cx} {pins : List (Addr × Obj)} {σ : St} {H : Hp} {s : Shared} {l b : Addr} {xs ys zs : List V}

/-! ### the two steps: a tracked list is rewritten, a new list is laid -/
theorem Inv.lset {its its' : List Value} {n : Nat} {f : Array Value → Array Value} {t' : Nat} (I : Inv X pins σ H s) (hH : H l = some (.lst xs))
    (e : s.heap.get? l = some { cls := .type "list", data := .seq its.toArray n }) (hf : f its.toArray = its'.toArray) (hv : Vals ys its') (hz : ys.length ≤ sizeLine) :
    Inv X pins σ (upd H l (.lst ys)) { s with heap := s.heap.update l (Obj.mapSeq f), toks := t' } := by
  have q := PySem.IsL.update e f
  rw [hf] at q
  refine I.write (x := l) (e := l) (by rw [hH]; exact trivial) (.inl rfl) (fun b' u hb hu => (Heap.get?_update_other s.heap (Obj.mapSeq f) (Ne.symm hb)).trans hu) ⟨_, q⟩ ?_
  exact ⟨hz, its', _, hv, q⟩
theorem Inv.lnew {its : List Value} {t' : Nat} (I : Inv X pins σ H s) (hv : Vals ys its) (hz : ys.length ≤ sizeLine) :
    Inv X pins σ (upd H s.heap.objs.size (.lst ys)) { s with heap := s.heap.push { cls := .type "list", data := .seq its.toArray }, toks := t' } :=
  I.laid (fun _ _ q => Heap.get?_push_of_some _ q) (Nat.le_refl _) ⟨hz, its, 0, hv, Heap.get?_push_size _ rfl⟩
theorem Inv.fresh (I : Inv X pins σ H s) : H s.heap.objs.size = none := I.hok.fresh (Nat.le_refl _)
theorem Inv.lstM (I : Inv X pins σ H s) (hH : H l = some (.lst xs)) : xs.length ≤ sizeLine ∧ ∃ (its : List Value) (n : Nat), Vals xs its ∧ xs.length = its.length ∧ s.heap.get? l = some { cls := .type "list", data := .seq its.toArray n } := by
  obtain ⟨z, its, n, r, e⟩ := I.hok l _ hH
  exact ⟨z, its, n, r, r.length, e⟩

theorem notLongL {n : Nat} (h : n ≤ sizeLine) : Builtin.List.listTooLong n = false := by
  unfold Builtin.List.listTooLong
  exact decide_eq_false (by omega)
end

section
variable {X : Cx}

/-! ### methods -/
noncomputable def rAppend : V → List V → Hp → VK → Prop := fun x vs H Q => ∃ l xs y, x = .ref l ∧ vs = [y] ∧ H l = some (.lst xs) ∧ xs.length < sizeLine ∧ Q .non (upd H l (.lst (xs ++ [y])))
theorem mt_append : MtM X "list.append" rAppend := by
  intro pins s σ H x vs v us Q I rx rv h
  obtain ⟨l, xs, y, rfl, rfl, hH, hz, q⟩ := h
  cases rx
  obtain ⟨u, rfl, ru⟩ := rv.one
  obtain ⟨z, its, n, r, hl, e⟩ := I.lstM hH
  refine call_meets F.slot_list_append ⟨_, e, rfl⟩ F.entry_list_append (F.args_list_append_2 _ _) (PySem.list_append l its.toArray n u (by rw [List.size_toArray]; omega)) ⟨e, ?_⟩
  refine ⟨.non, _, I.lset (its' := its ++ [u]) hH e (by simp) (r.append (.cons ru .nil)) ?_, rfl, q⟩
  rw [List.length_append, List.length_singleton]
  omega

noncomputable def rExtend : V → List V → Hp → VK → Prop := fun x vs H Q => ∃ l b xs zs, x = .ref l ∧ vs = [.ref b] ∧ H l = some (.lst xs) ∧ H b = some (.lst zs) ∧ xs.length + zs.length ≤ sizeLine ∧ Q .non (upd H l (.lst (xs ++ zs)))
noncomputable def rPop : V → List V → Hp → VK → Prop := fun x vs H Q => ∃ l xs y, x = .ref l ∧ vs = [] ∧ H l = some (.lst xs) ∧ xs[xs.length - 1]? = some y ∧ Q y (upd H l (.lst xs.dropLast))
noncomputable def rPopAt : V → List V → Hp → VK → Prop := fun x vs H Q => ∃ l xs i k y, x = .ref l ∧ vs = [.int i] ∧ H l = some (.lst xs) ∧ -(2 ^ 63) ≤ i ∧ i < 2 ^ 63 ∧ seqIndex? i xs.length = some k ∧ xs[k]? = some y ∧ Q y (upd H l (.lst (xs.eraseIdx k)))
noncomputable def rReverse : V → List V → Hp → VK → Prop := fun x vs H Q => ∃ l xs, x = .ref l ∧ vs = [] ∧ H l = some (.lst xs) ∧ Q .non (upd H l (.lst xs.reverse))
noncomputable def rClear : V → List V → Hp → VK → Prop := fun x vs H Q => ∃ l xs, x = .ref l ∧ vs = [] ∧ H l = some (.lst xs) ∧ Q .non (upd H l (.lst []))
/-! ### list + list, list += list, list * int -/
noncomputable def rCat : R2 := fun x y H Q => ∃ l b xs zs, x = .ref l ∧ y = .ref b ∧ H l = some (.lst xs) ∧ H b = some (.lst zs) ∧ xs.length + zs.length ≤ sizeLine ∧ ∀ p, H p = none → Q (.ref p) (upd H p (.lst (xs ++ zs)))
theorem op_cat : OpR X (binaryOp .Add) rCat := by
  intro pins s σ H x y v u Q I rx ry h
  obtain ⟨l, b, xs, zs, rfl, rfl, hH, hB, hz, q⟩ := h
  cases rx
  cases ry
  obtain ⟨z, its, n, r, hl, e⟩ := I.lstM hH
  obtain ⟨z2, its2, n2, r2, hl2, e2⟩ := I.lstM hB
  refine PySem.P.add_list e e2 ?_ (by rw [List.size_toArray, List.size_toArray]; omega)
  have ea : its.toArray ++ its2.toArray = (its ++ its2).toArray := by simp
  rw [ea]
  exact ⟨.ref _, _, I.lnew (t' := s.toks) (r.append r2) (by rw [List.length_append]; omega), rfl, q _ I.fresh⟩
/-- a list times an int (a negative one is nothing) -/
noncomputable def rRep : R2 := fun x y H Q => ∃ l k xs, x = .ref l ∧ y = .int k ∧ H l = some (.lst xs) ∧ -(2 ^ 63) ≤ k ∧ k < 2 ^ 63 ∧ xs.length * k.toNat ≤ sizeLine ∧
  ∀ p, H p = none → Q (.ref p) (upd H p (.lst (List.replicate k.toNat xs).flatten))
theorem len_rep {α : Type} (xs : List α) (k : Nat) : (List.replicate k xs).flatten.length = k * xs.length := by
  induction k with
  | zero => simp
  | succ k ih => rw [List.replicate_succ, List.flatten_cons, List.length_append, ih, Nat.succ_mul, Nat.add_comm]
theorem op_rep : OpR X (binaryOp .Mult) rRep := by
  intro pins s σ H x y v u Q I rx ry h
  obtain ⟨l, k, xs, rfl, rfl, hH, h1, h2, hz, q⟩ := h
  cases rx
  obtain ⟨t, rfl⟩ := ry
  obtain ⟨z, its, n, r, hl, e⟩ := I.lstM hH
  have hlen : its.toArray.size * k.toNat ≤ sizeLine := by rw [List.size_toArray, ← hl]; exact hz
  have hcap : ¬ its.toArray.size * k.toNat > (2 ^ 63 - 1) / 8 := by
    have : (sizeLine : Nat) ≤ (2 ^ 63 - 1) / 8 := by decide
    omega
  have hfit : ¬ (!Builtin.List.listFitsIndex k) = true := by
    rw [fitsIndex_both h1 h2]
    exact Bool.false_ne_true
  have hlong : ¬ Builtin.List.listTooLong (its.toArray.size * k.toNat) = true := by
    rw [notLongL hlen]
    exact Bool.false_ne_true
  have hnew : List.foldl (fun x1 x2 => x1 ++ x2) #[] (List.replicate (if its.toArray.isEmpty = true then 0 else k.toNat) its.toArray) = (List.replicate k.toNat its).flatten.toArray := by
    have f0 : ∀ m : Nat, List.foldl (fun x1 x2 => x1 ++ x2) #[] (List.replicate m its.toArray) = (List.replicate m its).flatten.toArray := fun m => by
      have := foldl_rep its m []
      rw [List.nil_append] at this
      exact this
    rw [f0]
    cases its with
    | nil => simp
    | cons a r' => rw [if_neg (by simp)]
  refine wpAny_binaryOp_repeat_ref (T := "list") (U := "int") (by decide) ⟨_, e, rfl⟩ (fun s' => typeIs_int s' k t) noFill_list_mul F.fills_int_mul F.slot_int_rmul repeat_list F.slot_int_index.lookup
    (call_meets F.slot_int_rmul (typeIs_int s k t) F.entry_int_rmul (F.args_int_rmul_2 _ _) (int___rmul___int_list k t l its.toArray n)
      ⟨e, rfl, ⟨_, e, rfl⟩, call_meets F.slot_list_mul ⟨_, e, rfl⟩ F.entry_list_mul (F.args_list_mul_2 _ _) (AutoListH.list___mul___list_int_3 l its.toArray n k t hfit hcap hlong) ⟨e, ?_⟩⟩)
  rw [hnew]
  exact ⟨.ref _, _, I.lnew (t' := s.toks) (r.rep k.toNat) (by rw [len_rep, Nat.mul_comm]; exact hz), rfl, q _ I.fresh⟩

/-! ### del xs[i] -/
end

/-! ### xs[a:b] = ys -/
section
variable {prog : Program} {w : World} {A : Around} {E : Value → Shared → Prop} {s : Shared}
end

section
variable {X : Cx}
end
end L2

namespace L2
open PySem PySem.Spec PyProof.Rows

/-! ### lists of pairs as tables -/
section
variable {κ : Type} [DecidableEq κ]
noncomputable def valV (kvs : List (κ × V)) (k : κ) : Option V := (kvs.find? fun kv => decide (kv.1 = k)).map (·.2)
/-- in its place, or at the end -/
noncomputable def putK (kvs : List (κ × V)) (k : κ) (v : V) : List (κ × V) :=
  if (kvs.any fun kv => decide (kv.1 = k)) = true then kvs.map (fun kv => if kv.1 = k then (kv.1, v) else kv) else kvs ++ [(k, v)]
noncomputable def dropK (kvs : List (κ × V)) (k : κ) : List (κ × V) := kvs.filter fun kv => decide (kv.1 ≠ k)

theorem valV_pos {p : κ × V} {r : List (κ × V)} {k : κ} (e : p.1 = k) : valV (p :: r) k = some p.2 := by simp [valV, List.find?_cons, e]
theorem valV_neg {p : κ × V} {r : List (κ × V)} {k : κ} (e : ¬ p.1 = k) : valV (p :: r) k = valV r k := by simp [valV, List.find?_cons, e]
theorem valV_any (k : κ) : ∀ kvs : List (κ × V), (kvs.any fun kv => decide (kv.1 = k)) = (valV kvs k).isSome
  | [] => rfl
  | p :: r => by
    rw [List.any_cons]
    by_cases e : p.1 = k
    · simp only [valV_pos e, decide_eq_true e, Bool.true_or, Option.isSome_some]
    · rw [valV_neg e, decide_eq_false e, Bool.false_or]; exact valV_any k r
theorem length_putK (kvs : List (κ × V)) (k : κ) (v : V) : (putK kvs k v).length ≤ kvs.length + 1 := by
  unfold putK
  split
  · rw [List.length_map]; omega
  · rw [List.length_append, List.length_cons, List.length_nil]; omega
theorem RelO.isSome_eq {o : Option V} {u : Option Value} (r : RelO o u) : o.isSome = u.isSome := by
  cases o with
  | none => cases u with
    | none => rfl
    | some _ => exact (show False from r).elim
  | some _ => cases u with
    | none => exact (show False from r).elim
    | some _ => rfl
theorem RelO.getD {o : Option V} {u : Option Value} {d : V} {d' : Value} (r : RelO o u) (rd : RelV d d') : RelV (o.getD d) (u.getD d') := by
  cases o with
  | none => cases u with
    | none => exact rd
    | some _ => exact (show False from r).elim
  | some _ => cases u with
    | none => exact (show False from r).elim
    | some _ => exact r

/-- raw tables of the same keys -/
theorem KV.val {kvs : List (κ × V)} {vs : List (κ × Value)} (r : KV kvs vs) (k : κ) : RelO (valV kvs k) (valueAt vs k) := by
  unfold KV at r
  induction r with
  | nil => exact True.intro
  | @cons p q ps qs h t ih =>
    obtain ⟨h1, h2⟩ := h
    by_cases e : p.1 = k
    · have e' : q.1 = k := h1.symm.trans e
      have b : valueAt (q :: qs) k = some q.2 := by simp [valueAt, List.find?_cons, e']
      rw [valV_pos e, b]; exact h2
    · have e' : ¬ q.1 = k := fun z => e (h1.trans z)
      have b : valueAt (q :: qs) k = valueAt qs k := by simp [valueAt, List.find?_cons, e']
      rw [valV_neg e, b]; exact ih
theorem KV.any {kvs : List (κ × V)} {vs : List (κ × Value)} (r : KV kvs vs) (k : κ) : (kvs.any fun kv => decide (kv.1 = k)) = vs.any fun kv => decide (kv.1 = k) := by
  unfold KV at r
  induction r with
  | nil => rfl
  | cons h t ih => rw [List.any_cons, List.any_cons, ih, h.1]
theorem KV.repl {kvs : List (κ × V)} {vs : List (κ × Value)} (r : KV kvs vs) (k : κ) {y : V} {u : Value} (ry : RelV y u) :
    KV (kvs.map fun kv => if kv.1 = k then (kv.1, y) else kv) (vs.map fun kv => if kv.1 = k then (kv.1, u) else kv) := by
  unfold KV at r ⊢
  induction r with
  | nil => exact .nil
  | @cons p q ps qs h t ih =>
    rw [List.map_cons, List.map_cons]
    refine .cons ?_ ih
    obtain ⟨h1, h2⟩ := h
    by_cases e : p.1 = k
    · rw [if_pos e, if_pos (h1.symm.trans e)]; exact ⟨h1, ry⟩
    · rw [if_neg e, if_neg (fun z => e (h1.trans z))]; exact ⟨h1, h2⟩
theorem KV.put {kvs : List (κ × V)} {vs : List (κ × Value)} (r : KV kvs vs) (k : κ) {y : V} {u : Value} (ry : RelV y u) : KV (putK kvs k y) (stored vs k u) := by
  unfold putK stored
  rw [r.any k]
  by_cases e : (vs.any fun kv => decide (kv.1 = k)) = true
  · rw [if_pos e, if_pos e]; exact r.repl k ry
  · rw [if_neg e, if_neg e]; exact Paired.snoc r ⟨rfl, ry⟩
theorem KV.drop {kvs : List (κ × V)} {vs : List (κ × Value)} (r : KV kvs vs) (k : κ) : KV (dropK kvs k) (without vs k) := by
  unfold KV at r ⊢
  unfold dropK without
  induction r with
  | nil => exact .nil
  | @cons p q ps qs h t ih =>
    obtain ⟨h1, h2⟩ := h
    rw [List.filter_cons, List.filter_cons]
    by_cases e : p.1 = k
    · have a : ¬ decide (p.1 ≠ k) = true := by simp [e]
      have b : ¬ decide (q.1 ≠ k) = true := by simp [h1.symm.trans e]
      rw [if_neg a, if_neg b]; exact ih
    · have e' : ¬ q.1 = k := fun z => e (h1.trans z)
      have a : decide (p.1 ≠ k) = true := by simp [e]
      have b : decide (q.1 ≠ k) = true := by simp [e']
      rw [if_pos a, if_pos b]; exact .cons ⟨h1, h2⟩ ih
theorem KV.keys {kvs : List (κ × V)} {vs : List (κ × Value)} (r : KV kvs vs) : kvs.map (·.1) = vs.map (·.1) := by
  unfold KV at r
  induction r with
  | nil => rfl
  | cons h t ih => rw [List.map_cons, List.map_cons, ih, h.1]
theorem KV.length {kvs : List (κ × V)} {vs : List (κ × Value)} (r : KV kvs vs) : kvs.length = vs.length := Paired.length r
end


/-! ### a tracked dict, its keys ints and texts or tuples of these -/
theorem kV_is {P : Program} {w : World} {k : Key} {u : Value} (r : RelV (kV k) u) : (mixKind P w).is k u = true := by
  cases k with
  | inl i => obtain ⟨t, e⟩ := (show ∃ t, u = Value.int i t from r); subst e; exact mixKind_int P w i t
  | inr x => obtain ⟨t, e⟩ := (show ∃ t, u = Value.str x t from r); subst e; exact mixKind_str P w x t
theorem items_are {P : Program} {w : World} : ∀ {ks : List Key} {us : List Value}, Vals (ks.map kV) us → ItemsAre (mixKind P w) ks us
  | [], _, r => by rw [List.map_nil] at r; cases r; exact .nil
  | k :: ks, _, r => by
    rw [List.map_cons] at r
    cases r with
    | cons h t => exact .cons (kV_is h) (items_are t)

/-- raw entries of a dict with tuple keys -/
abbrev KT (H : Hp) : List (List Key × V) → List (List Key × Addr × Value) → Prop := Paired fun p q => p.1 = q.1 ∧ H q.2.1 = some (.tup (p.1.map kV)) ∧ RelV p.2 q.2.2
theorem KT.val {H : Hp} {kvs : List (List Key × V)} {xs : List (List Key × Addr × Value)} (r : KT H kvs xs) (k : List Key) : RelO (valV kvs k) ((atKey xs k).map (·.2)) := by
  induction r with
  | nil => exact True.intro
  | @cons p q ps qs h t ih =>
    obtain ⟨h1, _, h2⟩ := h
    by_cases e : p.1 = k
    · have e' : q.1 = k := h1.symm.trans e
      have b : atKey (q :: qs) k = some q.2 := by simp [atKey, List.find?_cons, e']
      rw [valV_pos e, b]; exact h2
    · have e' : ¬ q.1 = k := fun z => e (h1.trans z)
      have b : atKey (q :: qs) k = atKey qs k := by simp [atKey, List.find?_cons, e']
      rw [valV_neg e, b]; exact ih
theorem KT.repl {H : Hp} {kvs : List (List Key × V)} {xs : List (List Key × Addr × Value)} (r : KT H kvs xs) (k : List Key) {y : V} {u : Value} (ry : RelV y u) :
    KT H (kvs.map fun kv => if kv.1 = k then (kv.1, y) else kv) (xs.map (putAt k u)) := by
  induction r with
  | nil => exact .nil
  | @cons p q ps qs h t ih =>
    rw [List.map_cons, List.map_cons]
    refine .cons ?_ ih
    obtain ⟨h1, h2, h3⟩ := h
    unfold putAt
    by_cases e : p.1 = k
    · rw [if_pos e, if_pos (h1.symm.trans e)]; exact ⟨h1, h2, ry⟩
    · rw [if_neg e, if_neg (fun z => e (h1.trans z))]; exact ⟨h1, h2, h3⟩
theorem KT.put {H : Hp} {kvs : List (List Key × V)} {xs : List (List Key × Addr × Value)} (r : KT H kvs xs) (k : List Key) {b : Addr} {y : V} {u : Value} (hb : H b = some (.tup (k.map kV))) (ry : RelV y u) :
    KT H (putK kvs k y) (storedH xs k b u) := by
  have e : (kvs.any fun kv => decide (kv.1 = k)) = (atKey xs k).isSome := by
    rw [valV_any, (r.val k).isSome_eq, Option.isSome_map]
  unfold putK storedH
  rw [e]
  by_cases q : (atKey xs k).isSome = true
  · rw [if_pos q, if_pos q]; exact r.repl k ry
  · rw [if_neg q, if_neg q]; exact Paired.snoc r ⟨rfl, hb, ry⟩
theorem KT.keeps {H H' : Hp} {kvs : List (List Key × V)} {xs : List (List Key × Addr × Value)} (r : KT H kvs xs) (ht : ∀ b ys, H b = some (.tup ys) → H' b = some (.tup ys)) : KT H' kvs xs :=
  Paired.mapP r fun _ _ z => ⟨z.1, ht _ _ z.2.1, z.2.2⟩

section
variable {P : Program} {w : World} {H : Hp} {h : Heap} {a : Addr}
theorem rd_of {u : HO} (ok : HOk P w H h) (e : Rd H a u) : ObjOk P w H h a u := e.ok ok
theorem dk_rd {kvs : List (Key × V)} (ok : HOk P w H h) (e : Rd H a (.dK kvs)) : kvs.length ≤ sizeLine ∧ (a == sysModules) = false ∧ ∃ vs, KV kvs vs ∧ h.DictOf (mixKind P w) a vs :=
  show ObjOk P w H h a (.dK kvs) from rd_of ok e
theorem dk_of {kvs : List (Key × V)} (ok : HOk P w H h) (e : H a = some (.dK kvs)) : kvs.length ≤ sizeLine ∧ (a == sysModules) = false ∧ ∃ vs, KV kvs vs ∧ h.DictOf (mixKind P w) a vs := dk_rd ok (.inl e)
/-- a tracked tuple of ints and texts is a key -/
theorem key_of {ks : List Key} (ok : HOk P w H h) (e : H a = some (.tup (ks.map kV))) : (tupleKind (mixKind P w)).is h ks a := by
  obtain ⟨_, its, r, o, h1, h2, n, h3⟩ := (show ObjOk P w H h a (.tup (ks.map kV)) from ok a _ e)
  exact ⟨o, its.toArray, n, h1, h2, h3, by simpa using items_are r⟩
theorem dt_rd {kvs : List (List Key × V)} (ok : HOk P w H h) (e : Rd H a (.dT kvs)) : kvs.length ≤ sizeLine ∧ (a == sysModules) = false ∧
    ∃ xs, KT H kvs xs ∧ h.DictOfH (tupleKind (mixKind P w)) a xs := by
  obtain ⟨z, y, xs, r, o, es, ep, h1, h2, h3, h4, h5⟩ := (show ObjOk P w H h a (.dT kvs) from rd_of ok e)
  refine ⟨z, y, xs, r, o, es, ep, h1, h2, h3, h4, fun x hx => ?_, h5⟩
  have all : ∀ {l : List (List Key × V)} {m : List (List Key × Addr × Value)}, KT H l m → ∀ x ∈ m, (tupleKind (mixKind P w)).is h x.1 x.2.1 := by
    intro l m q
    induction q with
    | nil => intro x hx; exact nomatch hx
    | @cons p q ps qs hq t ih =>
      intro x hx
      rcases List.mem_cons.mp hx with e | hx
      · subst e
        exact key_of ok (by rw [← hq.1]; exact hq.2.1)
      · exact ih x hx
  exact all r x hx
theorem dt_of {kvs : List (List Key × V)} (ok : HOk P w H h) (e : H a = some (.dT kvs)) : kvs.length ≤ sizeLine ∧ (a == sysModules) = false ∧
    ∃ xs, KT H kvs xs ∧ h.DictOfH (tupleKind (mixKind P w)) a xs := dt_rd ok (.inl e)
end

/-- what the dict at a holds at the key y -/
noncomputable def DGet (H : Hp) (a : Addr) (y : V) (r : Option V) : Prop :=
  (∃ kvs k, Rd H a (.dK kvs) ∧ y = kV k ∧ r = valV kvs k) ∨ ∃ kvs k b, Rd H a (.dT kvs) ∧ y = .ref b ∧ H b = some (.tup (k.map kV)) ∧ r = valV kvs k
/-- the heap behind a[y] = v -/
noncomputable def DPut (H : Hp) (a : Addr) (y v : V) (H' : Hp) : Prop :=
  (∃ kvs k, H a = some (.dK kvs) ∧ y = kV k ∧ kvs.length < sizeLine ∧ H' = upd H a (.dK (putK kvs k v))) ∨
  ∃ kvs k b, H a = some (.dT kvs) ∧ y = .ref b ∧ H b = some (.tup (k.map kV)) ∧ kvs.length < sizeLine ∧ H' = upd H a (.dT (putK kvs k v))
theorem DGet.k {H : Hp} {a : Addr} {kvs : List (Key × V)} {k : Key} (e : H a = some (.dK kvs)) : DGet H a (kV k) (valV kvs k) := .inl ⟨kvs, k, .inl e, rfl, rfl⟩
theorem DGet.t {H : Hp} {a b : Addr} {kvs : List (List Key × V)} {k : List Key} (e : H a = some (.dT kvs)) (eb : H b = some (.tup (k.map kV))) : DGet H a (.ref b) (valV kvs k) := .inr ⟨kvs, k, b, .inl e, rfl, eb, rfl⟩
theorem DPut.k {H : Hp} {a : Addr} {kvs : List (Key × V)} {k : Key} {v : V} (e : H a = some (.dK kvs)) (hl : kvs.length < sizeLine) : DPut H a (kV k) v (upd H a (.dK (putK kvs k v))) := .inl ⟨kvs, k, e, rfl, hl, rfl⟩
theorem DPut.t {H : Hp} {a b : Addr} {kvs : List (List Key × V)} {k : List Key} {v : V} (e : H a = some (.dT kvs)) (eb : H b = some (.tup (k.map kV))) (hl : kvs.length < sizeLine) :
    DPut H a (.ref b) v (upd H a (.dT (putK kvs k v))) := .inr ⟨kvs, k, b, e, rfl, eb, hl, rfl⟩


section
variable {X : Cx} {pins : List (Addr × Obj)} {σ : St} {H : Hp} {s : Shared} {a : Addr} {y v : V} {u r : Value} {o : Option V} {A : Around} {E : Value → Shared → Prop}

theorem Inv.big (I : Inv X pins σ H s) : sysModules < s.heap.objs.size := by
  have h : mainGlobals < s.heap.objs.size := (I.mod.glob.keeps I.bk).lt
  exact Nat.lt_trans (by decide) h

/-- d[y], there -/
theorem d_getItem {Q : Value → Shared → Prop} (hu : A.units + 1 < cLine) (I : Inv X pins σ H s) (g : DGet H a y (some v)) (ry : RelV y u) (h : ∀ w' s', Inv X pins σ H s' → RelV v w' → Q w' s') :
    wpAny (model X.prog X.w) A (getItem (.ref a) u) Q E s := by
  rcases g with ⟨kvs, k, e, ey, l⟩ | ⟨kvs, k, b, e, ey, eb, l⟩
  · subst ey
    obtain ⟨z, hd, vs, rel, dd⟩ := dk_rd I.hok e
    obtain ⟨w', hw, rw'⟩ := RelO.some_of (v := v) (o := valueAt vs k) (by rw [l]; exact rel.val k)
    exact wpAny_getItem_of (kV_is ry) dd.mapOf hw (h w' _ (I.tok _) rw')
  · subst ey
    cases (show u = Value.ref b from ry)
    obtain ⟨z, hd, xs, rel, dd⟩ := dt_rd I.hok e
    obtain ⟨w', hw, rw'⟩ := RelO.some_of (v := v) (o := (atKey xs k).map (·.2)) (by rw [l]; exact rel.val k)
    obtain ⟨p, hp, hp2⟩ := Option.map_eq_some_iff.mp hw
    refine wpAny_getItem_heap (tupleKind_room_in1 hu) (key_of I.hok eb) dd hp ?_
    rw [hp2]
    exact h w' _ (I.tok _) rw'
theorem d_notIn {Q : Value → Shared → Prop} (hu : A.units + 1 < cLine) (I : Inv X pins σ H s) (g : DGet H a y o) (ry : RelV y u) (h : ∀ s', Inv X pins σ H s' → Q (.bool (!o.isSome)) s') :
    wpAny (model X.prog X.w) A (compareOp .NotIn u (.ref a)) Q E s := by
  rcases g with ⟨kvs, k, e, ey, l⟩ | ⟨kvs, k, b, e, ey, eb, l⟩
  · subst ey
    obtain ⟨z, hd, vs, rel, dd⟩ := dk_rd I.hok e
    refine wpAny_notIn_of (kV_is ry) hd dd.mapOf ?_
    rw [← (rel.val k).isSome_eq, ← l]
    exact h _ (I.tok _)
  · subst ey
    cases (show u = Value.ref b from ry)
    obtain ⟨z, hd, xs, rel, dd⟩ := dt_rd I.hok e
    refine wpAny_notIn_heap (tupleKind_room_in1 hu) (key_of I.hok eb) hd dd ?_
    have q := (rel.val k).isSome_eq
    rw [Option.isSome_map] at q
    rw [← q, ← l]
    exact h _ (I.tok _)
/-- a dict's object is replaced -/
theorem d_write {h' : Heap} {t' : Nat} {ob : HO} (I : Inv X pins σ H s) (mu : Mut (H a)) (hs : Heap.SameBut a s.heap h') (he : ∃ q, h'.get? a = some q) (new : ObjOk X.prog X.w (upd H a ob) h' a ob) :
    Inv X pins σ (upd H a ob) { s with heap := h', toks := t' } :=
  I.write (x := a) (e := a) mu (.inl rfl) (fun b q hb z => (hs.2 b hb).trans z) he new
theorem dk_new {P : Program} {w : World} {H' : Hp} {h' : Heap} {kvs : List (Key × V)} {vs : List (Key × Value)} (z : kvs.length ≤ sizeLine) (hd : (a == sysModules) = false) (rel : KV kvs vs) (dd : h'.DictOf (mixKind P w) a vs) :
    ObjOk P w H' h' a (.dK kvs) := ⟨z, hd, vs, rel, dd⟩
/-- d[y] = v -/
theorem d_setItem {H' : Hp} {Q : Unit → Shared → Prop} (hu : A.units + 1 < cLine) (I : Inv X pins σ H s) (g : DPut H a y v H') (ry : RelV y u) (rv : RelV v r) (h : ∀ s', Inv X pins σ H' s' → Q () s') :
    wpAny (model X.prog X.w) A (setItem (.ref a) u r) Q E s := by
  rcases g with ⟨kvs, k, e, ey, l, eH⟩ | ⟨kvs, k, b, e, ey, eb, l, eH⟩
  · subst ey eH
    obtain ⟨z, hd, vs, rel, dd⟩ := dk_of I.hok e
    have hz : vs.length ≤ sizeLine := by rw [← rel.length]; exact z
    have hl : (putK kvs k v).length ≤ sizeLine := by have := length_putK kvs k v; omega
    refine wpAny_setItem_pairs (hsz := hz) (kV_is ry) dd fun h' dd' hs => h _ ?_
    have he : ∃ q, h'.get? a = some q := let ⟨q, _, _, hq, _⟩ := dd'; ⟨q, hq⟩
    exact d_write I (by rw [e]; exact True.intro) hs he (dk_new hl hd (rel.put k rv) dd')
  · subst ey eH
    cases (show u = Value.ref b from ry)
    obtain ⟨z, hd, xs, rel, dd⟩ := dt_of I.hok e
    have hz : xs.length ≤ sizeLine := by rw [← Paired.length rel]; exact z
    have hl : (putK kvs k v).length ≤ sizeLine := by have := length_putK kvs k v; omega
    refine wpAny_setItem_heap (hsz := hz) (tupleKind_room_in1 hu) (key_of I.hok eb) dd fun h' dd' hs => h _ ?_
    obtain ⟨q, es, ep, hq, h2, h3, h4, _, h5⟩ := dd'
    refine d_write I (by rw [e]; exact True.intro) hs ⟨q, hq⟩ ⟨hl, hd, _, (rel.put k eb rv).keeps fun c ys ec => ?_, q, es, ep, hq, h2, h3, h4, h5⟩
    rw [upd_ne (ne_of ec e (fun z => nomatch z))]
    exact ec
end

section
variable {X : Cx} {pins : List (Addr × Obj)} {σ : St} {H : Hp} {s : Shared} {a : Addr} {kvs : List (Key × V)} {k : Key} {u : Value} {A : Around} {E : Value → Shared → Prop}
end


/-! ### readings and rules -/
/-- the element of a subscription, not a slice -/
noncomputable def NoSl (i : Expr) : Prop := ∀ ov iv, subscripted i false ov iv = operate [ov, iv] (getItem ov iv)
theorem subD_of {prog : Program} {w : World} {A : Around} {E : Value → Shared → Prop} {s : Shared} {env : Env} {value slice : Expr} {pos : Pos} {T id : String} {Q : Value → Shared → Prop}
    (hl : typeLookup (.type T) "__getitem__" = pure (some (.builtin id))) (hs : NoSl slice)
    (h : wpAny (model prog w) A (eval value env) (fun o s₁ => wpAny (model prog w) A (eval slice env) (fun i s₂ => s₂.TypeIs o T ∧ wpAny (model prog w) A (getItem o i) Q E s₂) E s₁) E s) :
    wpAny (model prog w) A (eval (.Subscript value slice pos) env) Q E s := by
  refine Subscript_ (wpAny_mono h (fun o s₁ h₁ => wpAny_mono h₁ (fun i s₂ h₂ => ?_) fun _ _ x => x) fun _ _ x => x)
  obtain ⟨hT, h₂⟩ := h₂
  unfold subscriptTail
  refine wpAny_bind ?_
  rw [getitemInPython_of_ne hT.not_modules]
  refine wpAny_bind (wpAny_specialOf hT hl ?_)
  have fin : wpAny (model prog w) A (subscripted slice false o i) (fun r s₃ => wpAny (model prog w) A (letTemporaryGo value o r >>= fun _ => pure r) Q E s₃) E s₂ := by
    rw [hs o i]
    exact wpAny_operating (wpAny_mono h₂ (fun r s₃ h₃ => wpAny_bind (wpAny_letTemporaryGo (wpAny_pure h₃))) fun _ _ x => x)
  first
    | exact wpAny_pure (wpAny_bind fin)
    | exact wpAny_bind (wpAny_pure (wpAny_bind fin))
    | exact wpAny_bind fin

theorem dict_typeIs {X : Cx} {pins : List (Addr × Obj)} {σ : St} {H : Hp} {s : Shared} {a : Addr} {y : V} {o : Option V} (I : Inv X pins σ H s) (g : DGet H a y o) : s.TypeIs (.ref a) "dict" := by
  rcases g with ⟨kvs, k, e, _, _⟩ | ⟨kvs, k, b, e, _, _, _⟩
  · obtain ⟨_, _, vs, _, dd⟩ := dk_rd I.hok e
    exact dd.typeIs
  · obtain ⟨_, _, xs, _, dd⟩ := dt_rd I.hok e
    exact dd.typeIs
/-- d[y] -/
noncomputable def tDGet (td ty : TE) : TE := fun σ H Q => td σ H fun x H1 => ty σ H1 fun y H2 => ∃ a v, x = .ref a ∧ DGet H2 a y (some v) ∧ Q v H2
/-- y in d, y not in d -/
noncomputable def tDIn (ty td : TE) : TE := fun σ H Q => ty σ H fun y H1 => td σ H1 fun x H2 => ∃ a o, x = .ref a ∧ DGet H2 a y o ∧ Q (.bl o.isSome) H2
noncomputable def tDNotIn (ty td : TE) : TE := fun σ H Q => ty σ H fun y H1 => td σ H1 fun x H2 => ∃ a o, x = .ref a ∧ DGet H2 a y o ∧ Q (.bl (!o.isSome)) H2
/-- d[y] = v -/
noncomputable def sDPut (td ty tv : TE) : TS := fun D σ H => tv σ H fun v H1 => td σ H1 fun x H2 => ty σ H2 fun y H3 => ∃ a H4, x = .ref a ∧ DPut H3 a y v H4 ∧ D.nx σ H4
/-- d[y] op= v -/
noncomputable def sDAug (td ty tv : TE) (rd : V → V → Hp → VK → Prop) : TS := fun D σ H => td σ H fun x H1 => ty σ H1 fun y H2 => ∃ a v, x = .ref a ∧ DGet H2 a y (some v) ∧
  tv σ H2 fun y2 H3 => rd v y2 H3 fun z H4 => ∃ H5, DPut H4 a y z H5 ∧ D.nx σ H5
/-- del d[y] -/
noncomputable def sDDel (td ty : TE) : TS := fun D σ H => td σ H fun x H1 => ty σ H1 fun y H2 => ∃ a kvs k, x = .ref a ∧ H2 a = some (.dK kvs) ∧ y = kV k ∧ (valV kvs k).isSome = true ∧ D.nx σ (upd H2 a (.dK (dropK kvs k)))

section
variable {X : Cx} {o i e value : Expr} {pos pos' tpos : Pos} {td ty tv : TE}
theorem pe_dget (hu : X.A.units + 1 < cLine) (ho : PE X o td) (hi : PE X i ty) (hs : NoSl i) : PE X (.Subscript o i pos) (tDGet td ty) := by
  intro pins s σ H Q I h
  refine subD_of PySem.F.slot_dict_getitem.lookup hs (thn (ho pins s σ H _ I h) fun u s1 ⟨x, H1, I1, rx, q1⟩ => thn (hi pins s1 σ H1 _ I1 q1) fun iv s2 ⟨y, H2, I2, ry, a, v, ex, g, q2⟩ => ?_)
  subst ex
  obtain rfl : u = Value.ref a := rx
  exact ⟨dict_typeIs I2 g, d_getItem hu I2 g ry fun w' s3 I3 rw' => ⟨v, H2, I3, rw', q2⟩⟩
theorem pc_dnotin (hu : X.A.units + 1 < cLine) (hi : PE X i ty) (ho : PE X o td) : PC X .NotIn i o (tDNotIn ty td) := by
  intro pins s σ H Q I h
  refine thn (hi pins s σ H _ I h) fun iv s1 ⟨y, H1, I1, ry, q1⟩ => thn (ho pins s1 σ H1 _ I1 q1) fun u s2 ⟨x, H2, I2, rx, a, ov, ex, g, q2⟩ => ?_
  subst ex
  obtain rfl : u = Value.ref a := rx
  exact d_notIn hu I2 g ry fun s3 I3 => ⟨.bl (!ov.isSome), H2, I3, rfl, q2⟩
theorem ps_dput (hu : X.A.units + 1 < cLine) (ho : PE X o td) (hi : PE X i ty) (hv : PE X value tv) (hs : swapsWith value (some (.Subscript o i pos')) pos.line X.env = pure false) :
    PS X (.Assign [.Subscript o i pos'] value pos) (sDPut td ty tv) := by
  intro pins s σ H D I h
  refine wpAny_Assign_Subscript (thn (hv pins s σ H _ I h) fun r s1 ⟨v, H1, I1, rv, q1⟩ => thn (ho pins s1 σ H1 _ I1 q1) fun u s2 ⟨x, H2, I2, rx, q2⟩ => thn (hi pins s2 σ H2 _ I2 q2) fun iv s3 ⟨y, H3, I3, ry, a, H4, ex, g, q3⟩ => ?_) hs
  subst ex
  obtain rfl : u = Value.ref a := rx
  exact d_setItem hu I3 g ry rv fun s4 I4 => ⟨σ, H4, I4, q3⟩
end


/-! ### displays -/
theorem dk_empty {P : Program} {w : World} {H : Hp} (h : Heap) (hb : sysModules < h.objs.size) : ObjOk P w H (h.push { cls := .type "dict", data := .dict #[] }) h.objs.size (.dK []) :=
  ⟨Nat.zero_le _, beq_eq_false_iff_ne.mpr (Ne.symm (Nat.ne_of_lt hb)), [], .nil, Heap.DictOf.new h⟩
/-- {}, to be a dict of the kind that is wanted -/
noncomputable def tDNewK : TE := fun _ H Q => ∀ p, H p = none → Q (.ref p) (upd H p (.dK []))
noncomputable def tDNewT : TE := fun _ H Q => ∀ p, H p = none → Q (.ref p) (upd H p (.dT []))
section
variable {X : Cx} {pos : Pos}
theorem pe_dnewK : PE X (.Dict [] [] pos) tDNewK := fun pins s σ H Q I h =>
  wpAny_Dict_empty ⟨.ref s.heap.objs.size, _, I.laid (a := s.heap.objs.size) (o := .dK []) (t' := s.toks) (fun _ _ q => Heap.get?_push_of_some _ q) (Nat.le_refl _) (dk_empty s.heap I.big), rfl, h _ (I.hok.fresh (Nat.le_refl _))⟩
end

/-- the pairs of a display, from the left -/
noncomputable def tPairs : List (TE × TE) → St → Hp → (List (V × V) → Hp → Prop) → Prop
  | [], _, H, Q => Q [] H
  | (tk, tv) :: r, σ, H, Q => tk σ H fun x H1 => tv σ H1 fun y H2 => tPairs r σ H2 fun ps H3 => Q ((x, y) :: ps) H3
abbrev VV : List (V × V) → List (Value × Value) → Prop := Paired fun p q => RelV p.1 q.1 ∧ RelV p.2 q.2
noncomputable def PPs (X : Cx) (pos : Pos) (keys : List (Option Expr)) (values : List Expr) (trs : List (TE × TE)) : Prop :=
  ∀ (pins : List (Addr × Obj)) (s : Shared) (σ : St) (H : Hp) (Q : List (V × V) → Hp → Prop), Inv X pins σ H s → tPairs trs σ H Q →
    wpAny (model X.prog X.w) X.A (evalPairs (pairTrees keys values X.env pos)) (fun vs s' => ∃ ps H', Inv X pins σ H' s' ∧ VV ps vs ∧ Q ps H') X.xe s
noncomputable def mergeK (kvs more : List (Key × V)) : List (Key × V) := more.foldl (fun acc kv => putK acc kv.1 kv.2) kvs
theorem KV.merge : ∀ {more : List (Key × V)} {rs : List (Key × Value)} {kvs : List (Key × V)} {vs : List (Key × Value)}, KV more rs → KV kvs vs → KV (mergeK kvs more) (merged vs rs) := by
  intro more rs kvs vs r
  unfold KV at r
  induction r generalizing kvs vs with
  | nil => intro q; exact q
  | @cons p q ps qs h t ih =>
    intro r0
    have e : KV (putK kvs p.1 p.2) (stored vs q.1 q.2) := by
      have := r0.put p.1 h.2
      rw [← h.1]; exact this
    exact ih e
/-- {k: v, ..} with keys ints and texts; the new dict stands empty while the pairs are made -/
noncomputable def tDisp (trs : List (TE × TE)) : TE := fun σ H Q => ∀ p, H p = none → tPairs trs σ (upd H p (.dK [])) fun ps H2 => H2 p = some (.dK []) ∧ ∃ kvs : List (Key × V), ps = kvs.map (fun kv => (kV kv.1, kv.2)) ∧ kvs.length ≤ 15 ∧ Q (.ref p) (upd H2 p (.dK (mergeK [] kvs)))
/-! ### methods -/
/-- a method call o.m(e) of a built-in, with one argument: what must be seen of the text -/
structure M1 (X : Cx) (o : Expr) (m : Str) (apos : Pos) (e : Expr) (cpos : Pos) : Prop where
  base : attributeBase o m X.env (eval o X.env) = eval o X.env
  few : ((backTo cpos (starEach [e] X.env)).all (fun x => !x.1) && (backToKw cpos (keywordEach [] X.env)).all (fun x => x.1.isSome)
    && decide (([e] : List Expr).length + ([] : List Keyword).length + (if ([] : List Keyword).isEmpty then 0 else 1) < 30)) = true
  line : (apos.endLine == cpos.line) = true
  trees : backTo cpos (starEach [e] X.env) = [(false, eval e X.env)]
structure M2 (X : Cx) (o : Expr) (m : Str) (apos : Pos) (e f : Expr) (cpos : Pos) : Prop where
  base : attributeBase o m X.env (eval o X.env) = eval o X.env
  few : ((backTo cpos (starEach [e, f] X.env)).all (fun x => !x.1) && (backToKw cpos (keywordEach [] X.env)).all (fun x => x.1.isSome)
    && decide (([e, f] : List Expr).length + ([] : List Keyword).length + (if ([] : List Keyword).isEmpty then 0 else 1) < 30)) = true
  line : (apos.endLine == cpos.line) = true
  trees : backTo cpos (starEach [e, f] X.env) = [(false, eval e X.env), (false, eval f X.env)]

/-- a is a dict, whatever its keys -/
noncomputable def IsD (H : Hp) (a : Addr) : Prop := (∃ kvs, Rd H a (.dK kvs)) ∨ ∃ kvs, Rd H a (.dT kvs)
section
variable {X : Cx} {pins : List (Addr × Obj)} {σ : St} {H : Hp} {s : Shared} {a : Addr} {y d : V} {u r : Value} {o : Option V} {A : Around} {E : Value → Shared → Prop}
end

noncomputable def tDGet1 (td ty : TE) : TE := fun σ H Q => td σ H fun x H1 => ∃ a, x = .ref a ∧ IsD H1 a ∧ ty σ H1 fun y H2 => ∃ o, DGet H2 a y o ∧ Q (o.getD .non) H2
noncomputable def tDGet2 (td ty tx : TE) : TE := fun σ H Q => td σ H fun x H1 => ∃ a, x = .ref a ∧ IsD H1 a ∧ ty σ H1 fun y H2 => tx σ H2 fun z H3 => ∃ o, DGet H3 a y o ∧ Q (o.getD z) H3
/-- d.pop(k): there; d.pop(k, x): there or not -/
noncomputable def tDPop1 (td ty : TE) : TE := fun σ H Q => td σ H fun x H1 => ∃ a, x = .ref a ∧ IsD H1 a ∧ ty σ H1 fun y H2 => ∃ kvs k v, H2 a = some (.dK kvs) ∧ y = kV k ∧ valV kvs k = some v ∧ Q v (upd H2 a (.dK (dropK kvs k)))
noncomputable def tDPop2 (td ty tx : TE) : TE := fun σ H Q => td σ H fun x H1 => ∃ a, x = .ref a ∧ IsD H1 a ∧ ty σ H1 fun y H2 => tx σ H2 fun z H3 => ∃ kvs k, H3 a = some (.dK kvs) ∧ y = kV k ∧
  (∀ v, valV kvs k = some v → Q v (upd H3 a (.dK (dropK kvs k)))) ∧ (valV kvs k = none → Q z H3)
section
variable {X : Cx} {o e f : Expr} {apos cpos : Pos} {td ty tx : TE}
end

/-! ### dict(d): a copy -/
section
variable {X : Cx} {pins : List (Addr × Obj)} {σ : St} {H : Hp} {s : Shared} {a : Addr} {kvs : List (Key × V)} {A : Around} {E : Value → Shared → Prop}
end


section
variable {X : Cx} {pins : List (Addr × Obj)} {σ : St} {H : Hp} {s : Shared} {a : Addr} {y : V} {u : Value} {A : Around} {E : Value → Shared → Prop}
end
end L2

namespace Att
open PySem PySem.W PySem.Calls PyProof.Rows

/-! ### the script -/
theorem ints_of_wellAll {P : Params} {h : Heap} : ∀ (ns : List Int) (vs : List Value), WellAll P h vs (ns.map WData.int) → IntsAre vs ns := by
  intro ns
  induction ns with
  | nil =>
    intro vs w
    rw [List.map_nil] at w
    cases w
    exact .nil
  | cons n ns ih =>
    intro vs w
    rw [List.map_cons] at w
    cases w with
    | cons a b =>
      cases a
      exact .cons _ _ (ih _ b)

theorem script_of {l : OpenLaw} {n : Nat} (hn : l.most = some n) {P : Params} {h : Heap} {args : List WData} {vals : List Value}
    (hpre : l.row.toRowW.claim.pre args = true) (hwl : WellAll P h vals args) :
    ∃ a vs ns, vals = [Value.ref a] ∧ args = [WData.list (ns.map WData.int)] ∧ h.get? a = some { cls := .type "list", data := .seq vs.toArray } ∧ IntsAre vs ns ∧ ns.length ≤ n := by
  have hsh : WShape.hasAll [] args [.list .int] = true := (pre_splitW hpre).1
  have hc : l.pre.holds [] { args := args } = true := (pre_splitW hpre).2
  obtain ⟨d, r, rfl, h1, h2⟩ := hasAllW_cons hsh
  obtain rfl := hasAllW_nil h2
  obtain ⟨xs, rfl, h3⟩ := hasW_list h1
  obtain ⟨ns, rfl⟩ := items_int h3
  have hlen : ns.length ≤ n := by
    unfold OpenLaw.pre at hc
    have h4 : (WTm.not (.lt (.lit (.int (n : Int))) (.len (.arg 0)))).holds [] { args := [.list (ns.map .int)] } = true := by
      have h4 := (holds_andW hc).1
      rw [hn] at h4
      exact h4
    have h5 := condW_of h4 (w_not (w_lt w_lit (w_len_list (w_arg rfl))))
    rw [List.length_map] at h5
    refine Nat.le_of_not_lt fun q => ?_
    have q' : (n : Int) < ((ns.length : Nat) : Int) := by omega
    first
      | (rw [decide_eq_true q'] at h5; exact absurd h5 (by decide))
      | (simp at h5; omega)
  cases hwl with
  | cons w1 w2 =>
    cases w2
    cases w1 with
    | list ho hall => exact ⟨_, _, ns, rfl, rfl, ho, ints_of_wellAll ns _ hall, hlen⟩

theorem post_true (l : OpenLaw) (args : List WData) : l.row.toRowW.claim.post args (.bool true) args = true :=
  postW_of (r := l.row.toRowW) (X := (true == true))
    (show WShape.has [] (.bool true) .bool = true by first | rfl | decide | simp [WShape.has, WShape.arms, WShape.armsAll])
    (show (WTm.eq .res (.lit (.bool true))).value [] { args := args, res := some (.bool true), after := args } = some (.bool (true == true)) from w_eq_bool (w_res rfl) w_lit) rfl

/-! ### the attachment: holds_open's last premise (the goal 'hc' behind k_head) from a wpAny of the law's body -/
/-- the same from a codeAny of the CALL (for a layer whose function contracts speak of calls) -/
theorem attach_call {l : OpenLaw} {n : Nat} {q : Program} {loose : List Str} {XP : (Str → Option Value) → Heap → Prop} {YP : World → Heap → Prop} {d : DefRec}
    (hn : l.most = some n) (hdf : d.params.defaults = [])
    (call : ∀ (w : World) (s₀ s₁ : Shared) (mg mb : Str → Option Value) (fa : Addr) (o : Obj) (pm cd doc : Value) (a : Addr) (vs : List Value) (ns : List Int),
      Ground q loose [] XP w s₀ mg mb s₁.heap → YP w s₁.heap →
      s₁.heap.get? fa = some o → o.data = .func (docDef d.name d.params d.body d.scope pm cd doc) → s₁.heap.CodeRec cd d.name → mg d.name = some (.ref fa) →
      s₁.heap.get? a = some { cls := .type "list", data := .seq vs.toArray } → IntsAre vs ns → ns.length ≤ n → s₁.gens = #[] →
      codeAny (model l.prog w) callerA (.call (.ref fa) ⟨[.ref a], []⟩) (fun r s' => r = .ok (.ret (.bool true)) ∧ OldK s₁.heap s'.heap ∧ s'.os = s₁.os ∧ AllBare s'.gens) s₁) :
    WalkO q loose XP YP l.row.toRowW d [] (fun f vs => PySem.call f vs) := by
  intro w s₀ s₁ mg mb G Y fa o pm cd doc dV kV ho hd hcd hD hmg hg args vals as hpre hlay hrd hwl hlo
  obtain rfl : dV = .none := Dflts.none hD hdf
  obtain rfl : kV = .none := Dflts.noKw hD
  obtain ⟨a, vs, ns, rfl, rfl, hobj, hints, hlen⟩ := script_of hn hpre hwl
  refine enter_call (codeAny_mono (call w s₀ s₁ mg mb fa o pm cd doc a vs ns G Y ho (fd_plain hd) hcd hmg hobj hints hlen hg) fun r s' hq => ?_)
  obtain ⟨rfl, h2, h3, h4⟩ := hq
  exact ⟨.inl ⟨.bool true, .bool true, [], rfl, fun _ => rfl, .bool true, post_true l _, fun _ => ⟨List.Pairwise.nil, fun _ hm => (nomatch hm)⟩⟩, h2, h3, h4⟩

/-! ### rules over ANY heap (no ledger) from facts about the written part K: the library's own take a ledger (News) for what they write -/
section
variable {prog : Program} {w : World} {A : Around} {E : Value → Shared → Prop} {s : Shared} {K : Frag}

/-! the whole heap as the ledger: makes every rule that writes through a ledger a rule over any heap -/
noncomputable def noObjs (h : Heap) : Heap := { h with objs := #[] }
noncomputable def ledger (h : Heap) (L d : Addr) : List (Addr × Obj) := (List.range h.objs.size).filterMap fun a => if a = L ∨ a = d then none else (h.get? a).map fun o => (a, o)
end
end Att

namespace L2
open PySem PySem.Spec PyProof.Rows

theorem vals_ints : ∀ {vs : List Value} {ns : List Int}, IntsAre vs ns → Vals (ns.map V.int) vs
  | _, _, .nil => .nil
  | _, _, .cons n t h => .cons ⟨t, rfl⟩ (vals_ints h)

/-- nothing is tracked but the script, known to the object (or it is an object of the module) -/
noncomputable def Only (H : Hp) : Prop := ∀ b, H b = none ∨ ∃ o xs, H b = some (.frz o (.lst xs))

/-- THE HEAD: the law's promise, at the heap behind the top. F, the promise of the law's def, may use that base is part of the heap (so K.In base, base.Ns mainGlobals mg stand in Mod) -/
theorem law_call {P : Program} {w : World} {K : PySem.W.Frag} {mg mb : Str → Option Value} {CX : CXT} {k : Nat} {fa a : Addr} {fd : FuncData} {x : Str} {sp : Sp} {s₁ : Shared} {vs : List Value} {ns : List Int}
    (KX : K.In s₁.heap) (hns : s₁.heap.Ns mainGlobals mg) (hb : s₁.heap.Ns builtinsNs mb) (hbb : ∀ x : Str, x ≠ "__name__" → mb x = bootBuiltins x) (hlim : s₁.heap.NoLimit) (hg : s₁.gens = #[])
    (ha : s₁.heap.get? a = some { cls := .type "list", data := .seq vs.toArray }) (hi : IntsAre vs ns) (hl : ns.length ≤ sizeLine) (hr : Room k callerA)
    (F : ∀ base : Heap, K.In base → base.Ns mainGlobals mg → FnOk P w K mg base CX k fa fd [x] sp) (hbind : ∀ (s : Shared) (u : Value), BindsTo s fd ⟨[u], []⟩ [(x, u)])
    (hsp : ∀ H : Hp, Only H → SqL K H a (ns.map V.int) → sp [.ref a] H (fun v _ => v = .bl true) fun _ _ _ => False)
    (hCX : ∀ H e s', CX [] H s₁ (fun _ _ _ => False) e s' → False) :
    codeAny (model P w) callerA (.call (.ref fa) ⟨[.ref a], []⟩) (fun r s' => r = .ok (.ret (.bool true)) ∧ OldK s₁.heap s'.heap ∧ s'.os = s₁.os ∧ AllBare s'.gens) s₁ := by
  have rv := vals_ints hi
  have lenV := hi.length
  -- from an abstract heap in which nothing but the script may be tracked
  have core : ∀ H : Hp, Only H → SqL K H a (ns.map V.int) → HOk P w H s₁.heap → (∀ b, H b ≠ none → b = a) → (H a ≠ none → K.lookup a = none) →
      codeAny (model P w) callerA (.call (.ref fa) ⟨[.ref a], []⟩) (fun r s' => r = .ok (.ret (.bool true)) ∧ OldK s₁.heap s'.heap ∧ s'.os = s₁.os ∧ AllBare s'.gens) s₁ := by
    intro H hO hS hok hA hK
    have base_of : ∀ {b : Addr} {o : Obj}, s₁.heap.get? b = some o → H b = none → (hidT s₁.heap H).get? b = some o := fun e n => hidT_get e n
    have noA : ∀ {b : Addr} {o : Obj} {es : Array DictEntry} {ep : Nat}, s₁.heap.get? b = some o → o.data = .dict es ep → H b = none := fun {b o es ep} e d => by
      cases q : H b with
      | none => rfl
      | some u =>
        have e' : b = a := hA b (by rw [q]; simp)
        subst e'
        rw [ha] at e; cases e
        have d' : Data.seq vs.toArray _ = Data.dict es ep := d
        cases d'
    have nsK : ∀ {b : Addr} {m : Str → Option Value}, s₁.heap.Ns b m → (hidT s₁.heap H).Ns b m := fun {b m} ⟨o, es, ep, e, d, r⟩ => ⟨o, es, ep, base_of e (noA e d), d, r⟩
    have hKb : K.In (hidT s₁.heap H) := fun b o e => base_of (KX b o e) (by
      cases q : H b with
      | none => rfl
      | some u =>
        have e' : b = a := hA b (by rw [q]; simp)
        subst e'
        rw [hK (by rw [q]; simp)] at e; cases e)
    have hM : Mod K mg (hidT s₁.heap H) := ⟨hKb, nsK hns, ⟨mb, nsK hb, hbb⟩, let ⟨mc, h1, h2⟩ := hlim; ⟨mc, nsK h1, h2⟩⟩
    have e0 : Env0 P w K mg (hidT s₁.heap H) callerA [] s₁ H := ⟨rfl, hM, fun b o e => of_hidT e, Nat.le_of_eq (hidT_size _ _), trivial, fun b hb => absurd (show b ∈ ([] : List Addr) from hb) (by simp), hok, .of_eq hg⟩
    refine codeAny_mono ((F _ hKb (nsK hns)).run callerA [] s₁ H ⟨[.ref a], []⟩ [.ref a] [.ref a] _ _ hr e0 (hbind s₁ (.ref a)) (.cons rfl .nil) (hsp H hO hS)) fun r s' h => ?_
    cases r with
    | error e => exact (hCX H e s' h).elim
    | ok fl =>
      cases fl with
      | next => exact False.elim h
      | brk => exact False.elim h
      | cont => exact False.elim h
      | ret u =>
        obtain ⟨v, H', os, bare, un, hok', r', q⟩ := h
        have q' : v = .bl true := q
        subst q'
        obtain rfl : u = Value.bool true := r'
        refine ⟨rfl, OldK.of_keep fun b o e => ?_, os, bare⟩
        cases q : H b with
        | none => exact un.keep b o e q (by intro z; exact absurd (show b ∈ ([] : List Addr) from z) (by simp)) (by simp)
        | some u =>
          rcases hO b with z | ⟨ob, xs, z⟩
          · rw [q] at z; cases z
          · have z2 := un.frzs b ob _ z
            obtain ⟨e1, _⟩ := hok b _ z
            obtain ⟨e2, _⟩ := hok' b _ z2
            rw [e] at e1; cases e1
            exact e2
  cases hk : K.lookup a with
  | some o =>
    -- the script is one of the module's own objects
    have e := KX a o hk
    rw [ha] at e
    cases e
    refine core (fun _ => none) (fun _ => .inl rfl) (.inr ⟨_, vs.toArray, _, hk, rfl, rfl, rfl, by rw [List.size_toArray, lenV]; exact hl, by simpa using rv⟩) (fun b u z => by have z' : (none : Option HO) = some u := z; cases z') (fun b z => absurd rfl z) fun z => absurd rfl z
  | none =>
    refine core (fun b => if b = a then some (.frz { cls := .type "list", data := .seq vs.toArray } (.lst (ns.map V.int))) else none) (fun b => ?_) (.inl (.inr ⟨{ cls := .type "list", data := .seq vs.toArray }, if_pos rfl⟩)) (fun b u z => ?_) (fun b z => ?_) fun _ => hk
    · by_cases hb : b = a
      · exact .inr ⟨_, _, if_pos hb⟩
      · exact .inl (if_neg hb)
    · by_cases hb : b = a
      · have z' := (if_pos hb).symm.trans z
        cases z'
        subst hb
        exact ⟨ha, by rw [List.length_map]; exact hl, vs, _, rv, ha⟩
      · have z' := (if_neg hb).symm.trans z
        cases z'
    · by_cases hb : b = a
      · exact hb
      · exact absurd (if_neg hb) z
end L2

namespace L2
open PySem PySem.Spec PyProof.Rows

abbrev KOf {K : PySem.W.Frag} {h : Heap} (_ : K.In h) : PySem.W.Frag := K

/-- the goal that k_head leaves (case hc), from the law's promise. F gives the function object fd (K's own) once, then the promise over every base -/
theorem walk_of {l : PySem.W.OpenLaw} {n k : Nat} {q : Program} {loose : List Str} {XP : (Str → Option Value) → Heap → Prop} {YP : World → Heap → Prop} {d : DefRec} {K : Params → PySem.W.Frag} {CX : World → CXT} {sp : World → Sp} {x : Str}
    (hn : l.most = some n) (hn2 : n ≤ sizeLine) (hdf : d.params.defaults = []) (hr : Room k callerA)
    (hY : ∀ (w : World) (h : Heap), YP w h → (K w.params).In h)
    (F : ∀ (w : World) (mg : Str → Option Value) (fa : Addr) (h : Heap), (K w.params).In h → h.Ns mainGlobals mg → mg d.name = some (.ref fa) →
      ∃ fd : FuncData, (∀ (s : Shared) (u : Value), BindsTo s fd ⟨[u], []⟩ [(x, u)]) ∧
        ∀ base : Heap, (K w.params).In base → base.Ns mainGlobals mg → FnOk l.prog w (K w.params) mg base (CX w) k fa fd [x] (sp w))
    (hsp : ∀ (w : World) (H : Hp) (a : Addr) (ns : List Int), ns.length ≤ n → Only H → SqL (K w.params) H a (ns.map V.int) → sp w [.ref a] H (fun v _ => v = .bl true) fun _ _ _ => False)
    (hCX : ∀ (w : World) (H : Hp) (s : Shared) (e : Value) (s' : Shared), CX w [] H s (fun _ _ _ => False) e s' → False) :
    PySem.W.WalkO q loose XP YP l.row.toRowW d [] (fun f vs => PySem.call f vs) := by
  refine Att.attach_call hn hdf fun w s₀ s₁ mg mb fa o pm cd doc a vs ns G Y ho hd hcd hmg hobj hints hlen hg => ?_
  have KX := hY w _ Y
  obtain ⟨fd, hb, hF⟩ := F w mg fa _ KX G.T.g hmg
  exact law_call KX G.T.g G.T.b G.T.builtins G.T.nolimit hg hobj hints (Nat.le_trans hlen hn2) hr hF hb (fun H hO hS => hsp w H a ns hlen hO hS) fun H e s' => hCX w H s₁ e s'
end L2

/- THE LAST THEOREM (shape; LID, My.* are yours):
   My.Adr: a structure of the addresses that your layer names (classes, functions); My.Txt K t: a structure (Prop) of the equations over K;
   My.txt_mk : {K} {implicit addresses ..} (e1 : nsIn K mainGlobals "law" = some (some (.ref f))) (e2 : K.lookup f = some ⟨oc, od, .func (fnOf "law" "law" params body scope dV kV doc pm an cdv ct), sl⟩) (e3 : codeIn K cdv "law" = true) .. : ∃ t, My.Txt K t

set_option maxRecDepth 100000 in
set_option maxHeartbeats 0 in
theorem PySem.Challenge.cw_LID_holds : PySem.Challenge.rw_LID.Holds := by
  w_on; o_law; k_head; (case hw => w_witness2)
  k_fill
  refine L2.walk_of (l := PySem.Challenge.rw_LID) (n := 63) (k := 40) (x := "script") (CX := fun w => ..) (sp := fun _ => My.sp_law) rfl (by decide) rfl ⟨rfl, by decide, by decide⟩ (fun w h Y => PySem.W.kIn_of Y) ?F ?S ?C
  case F =>
    intro w mg fa h KX G hmg
    have T : ∃ t, My.Txt (L2.KOf KX) t := by
      dsimp only [L2.KOf]                          -- K must stand as «<heap const> w.params» for k_is
      refine' My.txt_mk ?e1 ?e2 ?e3 ..
      (case e1 => PySem.W.k_is)                    -- in the order: a name -> its address -> its object -> its parts
      (case e2 => PySem.W.k_is)
      ..
    obtain ⟨t, T⟩ := T
    have e0 := hmg.symm.trans (PySem.W.mg_of KX G T.law)
    cases e0                                       -- fa is the law's own address
    exact ⟨_, fun s u => .of_eq rfl, fun base kb nb => My.law_fn T kb nb⟩     -- if «.of_eq rfl» comes too early: refine' ⟨_, ?b, fun base kb nb => My.law_fn T kb nb⟩; exact fun s u => .of_eq rfl
  case S => exact fun w H a ns hl hO hS => ..
  case C => exact ..
(the tactic k_is has no namespace: write k_is) -/

/-! SHORT WORDS over the layer: a def of the text, its body, what a loop and a test want. -/
namespace L2
open PySem PySem.Spec PyProof.Rows

/-! ### the text by places -/
/-- the j-th statement of a class's body -/
noncomputable def inClass (s : Stmt) (j : Nat) : Stmt := match s with
  | .ClassDef _ _ _ body _ _ _ _ _ _ _ => body.getD j (.Pass ⟨0, 0, 0, 0⟩)
  | _ => .Pass ⟨0, 0, 0, 0⟩
noncomputable def defArgs (s : Stmt) : Arguments := match s with
  | .FunctionDef _ a _ _ _ _ _ _ _ _ => a
  | _ => { posonlyargs := [], args := [], vararg := none, kwonlyargs := [], kw_defaults := [], kwarg := none, defaults := [] }
noncomputable def defBody (s : Stmt) : List Stmt := match s with
  | .FunctionDef _ _ b _ _ _ _ _ _ _ => b
  | _ => []
noncomputable def defScope (s : Stmt) : Scope := match s with
  | .FunctionDef _ _ _ _ _ _ sc _ _ _ => sc
  | _ => { kind := .function, names := [], isGenerator := false, isCoroutine := false }

/-! ### no exception leaves a def -/
abbrev CX0 : CXT := fun _ _ _ _ _ _ => False
abbrev E0 : XK := fun _ _ _ => False
/-! ### a def (or method) of the text as it stands behind the top -/
structure Fun (K : PySem.W.Frag) (x qual : Str) (st : Stmt) (f : Addr) (fd : FuncData) : Prop where
  ex : ∃ (oc : Value) (od : Option Addr) (kV doc pm : Value) (an : Option Addr) (cdv ct : Value) (osl : Array (Option Value)),
    fd = PySem.W.fnOf x qual (defArgs st) (defBody st) (defScope st) .none kV doc pm an cdv ct ∧ K.lookup f = some ⟨oc, od, .func fd, osl⟩ ∧ PySem.W.codeIn K cdv qual = true
  kp : PySem.W.keepIn K (.ref f) = true
section
variable {P : Program} {w : World} {K : PySem.W.Frag} {mg : Str → Option Value} {base : Heap}
/-- THE RULE for a def: its body as a term of rules, and the reading of that term -/
theorem Fun.ok {x qual : Str} {st : Stmt} {f : Addr} {fd : FuncData} {N ps : List Str} {k : Nat} {sp : Sp} (F : Fun K x qual st f fd) (S : FnScope N ps (defScope st)) (len : ∀ vs H Q E, sp vs H Q E → vs.length = ps.length)
    (hbody : ∀ (cdv : Value) (A : Around) (outer : List Env) (s : Shared) (H : Hp) (vs : List V) (Q : VK) (E : XK), Room k (A.deeper (envOfC qual (defScope st) s.heap.objs.size f cdv)) → sp vs H Q E →
      ∃ t, PSs (cxOf CX0 P w K mg base N qual (defScope st) f cdv A outer s H E).nox (defBody st) t ∧ t { nx := fun _ H' => Q .non H', rt := Q } (start N vs) H) : FnOk P w K mg base CX0 (k + 1) f fd ps sp := by
  obtain ⟨oc, od, kV, doc, pm, an, cdv, ct, osl, rfl, lk, hcd⟩ := F.ex
  refine fn_of lk hcd S len fun A outer s H vs Q E hr hsp => ?_
  obtain ⟨t, h, q⟩ := hbody cdv A outer s H vs Q E hr hsp
  exact ⟨t, h.nox, q⟩
/-- how its arguments bind (no defaults): h is «fun _ _ _ _ _ _ us hl => match us, hl with | [_, _], _ => rfl», one _ a parameter -/
theorem Fun.binds {x qual : Str} {st : Stmt} {f : Addr} {fd : FuncData} {ps : List Str} (F : Fun K x qual st f fd)
    (h : ∀ (kV doc pm : Value) (an : Option Addr) (cdv ct : Value) (us : List Value), us.length = ps.length → bindArgs (PySem.W.fnOf x qual (defArgs st) (defBody st) (defScope st) .none kV doc pm an cdv ct) ⟨us, []⟩ = pure (ps.zip us)) : Binds K fd ps [] := by
  obtain ⟨oc, od, kV, doc, pm, an, cdv, ct, osl, rfl, lk, hcd⟩ := F.ex
  exact .all (h kV doc pm an cdv ct)
theorem fun_mk {x qual : Str} {st : Stmt} {f : Addr} {oc : Value} {od an : Option Addr} {osl : Array (Option Value)} {kV doc pm cdv ct : Value} (l : K.lookup f = some ⟨oc, od, .func (PySem.W.fnOf x qual (defArgs st) (defBody st) (defScope st) .none kV doc pm an cdv ct), osl⟩)
    (c : PySem.W.codeIn K cdv qual = true) (k : PySem.W.keepIn K (.ref f) = true) : Fun K x qual st f (PySem.W.fnOf x qual (defArgs st) (defBody st) (defScope st) .none kV doc pm an cdv ct) := ⟨⟨oc, od, kV, doc, pm, an, cdv, ct, osl, rfl, l, c⟩, k⟩
end
theorem hu_of {A : Around} {k : Nat} (hr : Room k A) : A.units + 1 < cLine := Nat.lt_of_le_of_lt (Nat.add_le_add_left (by decide : 1 ≤ 64) _) hr.units
/-! ### expressions in short: the name that stands in the i-th slot -/
section
variable {X : Cx}
theorem pv (i : Nat) {x : Str} {pos : Pos} (hN : X.N[i]? = some x := by rfl) (hv : Vis X.env.scope x := by first | exact Or.inl rfl | exact Or.inr (Or.inl rfl) | exact Or.inr (Or.inr rfl)) (hd : (x == ("__debug__" : Str)) = false := by decide)
    (hcd : (x == ("__classdict__" : Str)) = false := by decide) : PE X (.Name x pos) (tVar i) := pe_var hN hv hd hcd
end

/-! ### tests -/
theorem iteT {A B : Prop} (h : A) : if true = true then A else B := by
  rw [if_pos rfl]
  exact h
theorem ite2 {c A B : Prop} [Decidable c] (h1 : c → A) (h2 : ¬ c → B) : if c then A else B := by
  by_cases h : c
  · rw [if_pos h]
    exact h1 h
  · rw [if_neg h]
    exact h2 h
/-! ### heaps -/
/-- all that was tracked is as it was -/
noncomputable def Same (H H' : Hp) : Prop := ∀ b o, H b = some o → H' b = some o
theorem Same.refl (H : Hp) : Same H H := fun _ _ h => h
theorem Same.trans {H H1 H2 : Hp} (a : Same H H1) (b : Same H1 H2) : Same H H2 := fun c o h => b c o (a c o h)
theorem Same.free {H H' : Hp} (e : Same H H') {l : Addr} (h : H' l = Option.none) : H l = Option.none := by
  cases q : H l with
  | none => rfl
  | some o =>
    rw [e l o q] at h
    cases h
theorem Same.seq {K : PySem.W.Frag} {H H' : Hp} {a : Addr} {xs : List V} (e : Same H H') (h : SqL K H a xs) : SqL K H' a xs := by
  rcases h with (h | ⟨o, h⟩) | h
  · exact .inl (.inl (e _ _ h))
  · exact .inl (.inr ⟨o, e _ _ h⟩)
  · exact .inr h

end L2

namespace L2
open PySem PySem.Spec PyProof.Rows
section
variable {X : Cx}
end
/-! ### a dict's pairs: keys that differ -/
section
variable {κ : Type} [DecidableEq κ]
end
end L2

/-! OWN RULES over the layer. -/
namespace L2
open PySem PySem.Spec PyProof.Rows

/-! ### sizes of ints -/
noncomputable def Bt (n : Nat) (i : Int) : Prop := i.natAbs < 2 ^ n
theorem Bt.mono {m n : Nat} {i : Int} (h : Bt m i) (q : m ≤ n) : Bt n i := Nat.lt_of_lt_of_le h (Nat.pow_le_pow_right (by decide) q)
theorem Bt.add {n : Nat} {i j : Int} (h1 : Bt n i) (h2 : Bt n j) : Bt (n + 1) (i + j) := by
  unfold Bt at *
  rw [Nat.pow_succ]
  generalize 2 ^ n = p at *
  omega
theorem Bt.neg {n : Nat} {i : Int} (h1 : Bt n i) : Bt n (-i) := by
  unfold Bt at *
  omega
theorem Bt.sub {n : Nat} {i j : Int} (h1 : Bt n i) (h2 : Bt n j) : Bt (n + 1) (i - j) := by
  have h := Bt.add h1 h2.neg
  rw [← Int.sub_eq_add_neg] at h
  exact h
theorem Bt.le {n : Nat} {i j : Int} (h : Bt n j) (q : i.natAbs ≤ j.natAbs) : Bt n i := Nat.lt_of_le_of_lt q h
theorem Bt.of {n : Nat} {i : Int} (b : Nat) (h1 : -(b : Int) ≤ i) (h2 : i ≤ (b : Int)) (h : b < 2 ^ n := by decide +kernel) : Bt n i := by
  unfold Bt
  exact Nat.lt_of_le_of_lt (by omega) h
theorem Bt.log {n : Nat} {i : Int} (h : Bt n i) (q : n ≤ 9000 := by decide) : i.natAbs.log2 < 9000 := by
  by_cases z : i.natAbs = 0
  · rw [z]; decide
  · exact Nat.lt_of_lt_of_le ((Nat.log2_lt z).mpr h) q
theorem mulOkL {i j : Int} (h1 : -(2 ^ 64) < i := by decide) (h2 : i < 2 ^ 64 := by decide) : IntMulOk i j := .of_left (intBits_le_64 h1 h2)
theorem mulOkR {i j : Int} (h1 : -(2 ^ 64) < j := by decide) (h2 : j < 2 ^ 64 := by decide) : IntMulOk i j := .of_right (intBits_le_64 h1 h2)

section
variable {X : Cx}
theorem op_mulB : OpR X (binaryOp .Mult) (rI IntMulOk fun i j => .int (i * j)) := opI fun _ _ _ _ _ _ _ hc q => mul_int q hc
noncomputable def CDivB (_ j : Int) : Prop := 0 < j ∧ j.natAbs.log2 < 9000
theorem CDivB.of {i j : Int} {n : Nat} (h : 0 < j) (b : Bt n j) (q : n ≤ 9000 := by decide) : CDivB i j := ⟨h, b.log q⟩
theorem CDivB.lit {i j : Int} (h : 0 < j := by decide) (q : j.natAbs.log2 < 9000 := by decide) : CDivB i j := ⟨h, q⟩
theorem op_fdivB : OpR X (binaryOp .FloorDiv) (rI CDivB fun i j => .int (i / j)) := opI fun i j _ _ _ _ _ hc q => by
  have h1 : (0 : Int) < j := hc.1
  exact floordiv_int (by omega) (by rw [Int.fdiv_eq_ediv_of_nonneg i (by omega)]; exact q) (.inl (PyProof.noPylong_of_log2 hc.2))
noncomputable def CDivS (_ j : Int) : Prop := j ≠ 0 ∧ j.natAbs.log2 < 9000
theorem CDivS.of {i j : Int} {n : Nat} (h : j ≠ 0) (b : Bt n j) (q : n ≤ 9000 := by decide) : CDivS i j := ⟨h, b.log q⟩
theorem op_modB : OpR X (binaryOp .Mod) (rI (fun _ j => 0 < j) fun i j => .int (i % j)) := op_mod

/-! ### tuples: tracked ones; a new one among others -/
noncomputable def rIxTH : R2 := fun x y H Q => ∃ p xs i v, x = .ref p ∧ y = .int i ∧ H p = some (.tup xs) ∧ atI xs i = some v ∧ Q v H
theorem ix_tupH : IxR X rIxTH := fun value slice pins s σ H x y v u Q I rx ry ⟨p, xs, i, z, e1, e2, e3, e4, q⟩ hs =>
  ix_tup value slice pins s σ H x y v u Q I rx ry ⟨p, xs, i, z, e1, e2, SqT.of e3, e4, q⟩ hs
noncomputable def rIxLH : R2 := fun x y H Q => ∃ p xs i v, x = .ref p ∧ y = .int i ∧ H p = some (.lst xs) ∧ atI xs i = some v ∧ Q v H
theorem ix_listH : IxR X rIxLH := fun value slice pins s σ H x y v u Q I rx ry ⟨p, xs, i, z, e1, e2, e3, e4, q⟩ hs =>
  ix_list value slice pins s σ H x y v u Q I rx ry ⟨p, xs, i, z, e1, e2, SqL.of e3, e4, q⟩ hs
noncomputable def tTupS (t : TA) : TE := fun σ H Q => t σ H fun xs H1 => xs.length ≤ sizeLine ∧ ∀ p H2, Same H1 H2 → H1 p = none → H2 p = some (.tup xs) → Q (.ref p) H2
theorem same_upd {H : Hp} {p : Addr} {o : HO} (h : H p = none) : Same H (upd H p o) := fun b u e => by
  rw [upd_ne (ne_of_none e h)]
  exact e
theorem pe_tupS {es : List Expr} {t : TA} {x1} {pos : Pos} (h : PA X es t) : PE X (.Tuple es x1 pos) (tTupS t) := fun pins s σ H Q I hq =>
  thn (h := wpAny_Tuple_spliced (thn (h pos pins s σ H _ I hq) fun us s1 ⟨xs, H1, I1, r, z, q⟩ => ⟨by rw [← r.length]; exact z, by
    have hf : H1 s1.heap.objs.size = none := I1.hok.fresh (Nat.le_refl _)
    refine ⟨.ref s1.heap.objs.size, upd H1 s1.heap.objs.size (.tup xs), I1.laid (t' := s1.toks) (fun b u e => Heap.get?_push_of_some _ e) (Nat.le_refl _) ?_, rfl, q _ _ (same_upd hf) hf upd_same⟩
    exact ⟨z, us, r, ⟨_, Heap.get?_push_size _ rfl, rfl, _, rfl⟩⟩⟩)) fun _ _ z => z
theorem call_lenL : CallR X (.builtin "len") (fun xs H Q => ∃ p ys, xs = [.ref p] ∧ H p = some (.lst ys) ∧ Q (.int ys.length) H) := fun pins s σ H xs us Q I r ⟨p, ys, e, h, q⟩ =>
  call_len_seq pins s σ H xs us Q I r ⟨p, ys, e, .inl (SqL.of h), q⟩
/-- the script: len, an item -/
theorem call_lenQ : CallR X (.builtin "len") (fun xs H Q => ∃ p ns, xs = [.ref p] ∧ SqL X.K H p (List.map V.int ns) ∧ Q (.int (List.length ns : Nat)) H) := fun pins s σ H xs us Q I r ⟨p, ns, e, h, q⟩ =>
  call_len_seq pins s σ H xs us Q I r ⟨p, _, e, .inl h, by rw [List.length_map]; exact q⟩
noncomputable def rIxQ (K : PySem.W.Frag) : R2 := fun x y H Q => ∃ p ns i, x = .ref p ∧ y = .int i ∧ SqL K H p (List.map V.int ns) ∧ 0 ≤ i ∧ i < (List.length ns : Nat) ∧ Q (.int (ns.getD i.toNat 0)) H
theorem atI_ints {ns : List Int} {i : Int} (h0 : 0 ≤ i) (h1 : i < (ns.length : Nat)) : atI (ns.map V.int) i = some (.int (ns.getD i.toNat 0)) := by
  obtain ⟨j, rfl⟩ := Int.eq_ofNat_of_zero_le h0
  refine atI_nat ?_
  have hj : j < ns.length := by omega
  rw [List.getElem?_map, List.getElem?_eq_getElem hj]
  simp [List.getD_eq_getElem?_getD, List.getElem?_eq_getElem hj]
theorem ix_listS : IxR X (rIxQ X.K) := fun value slice pins s σ H x y v u Q I rx ry ⟨p, ns, i, e1, e2, e3, h0, h1, q⟩ hs =>
  ix_list value slice pins s σ H x y v u Q I rx ry ⟨p, _, i, _, e1, e2, e3, atI_ints h0 h1, q⟩ hs

/-! ### calls of the text's defs -/
structure Cal (P : Program) (w : World) (K : PySem.W.Frag) (mg : Str → Option Value) (base : Heap) (CX : CXT) (k : Nat) (x : Str) (ps : List Str) (sp : Sp) : Prop where
  ex : ∃ f fd, FnOk P w K mg base CX k f fd ps sp ∧ mg x = some (.ref f) ∧ PySem.W.keepIn K (.ref f) = true ∧ Binds K fd ps []
theorem pe_cal {CX : CXT} {k : Nat} {x : Str} {ps : List Str} {sp : Sp} {E : XK} {e : Expr} {es : List Expr} {t : TA} {p pos : Pos} (C : Cal X.prog X.w X.K X.mg X.base CX k x ps sp) (hr : Room k X.A) (hg : Gl X x) (hx : Passes CX X E) (ha : PA X (e :: es) t)
    (hdb : (x == ("__debug__" : Str)) = false := by decide) (he : starEach (e :: es) X.env = (false, eval e X.env) :: starEach es X.env := by rfl) (hpl : (backTo pos (starEach es X.env)).any (·.1) = false := by rfl) :
    PE X (.Call (.Name x p) (e :: es) [] pos) (tCall sp [] E t) := by
  obtain ⟨f, fd, F, hm, hk, hb⟩ := C.ex
  exact pe_call F hr hg hm hk hb .nil hx ha hdb he hpl
end

/-- no exception is wished: none comes -/
noncomputable def Strict (CX : CXT) : Prop := ∀ outer H s e s', ¬ CX outer H s (fun _ _ _ => False) e s'
theorem Strict.pass {CX : CXT} (h : Strict CX) {X : Cx} : Passes CX X E0 := fun _ _ H s e s' _ z => (h _ H s e s' z).elim

section
variable {P : Program} {w : World} {K : PySem.W.Frag} {mg : Str → Option Value} {base : Heap} {CX : CXT}
theorem Fun.okC {x qual : Str} {st : Stmt} {f : Addr} {fd : FuncData} {N ps : List Str} {k : Nat} {sp : Sp} (F : Fun K x qual st f fd) (S : FnScope N ps (defScope st)) (len : ∀ vs H Q E, sp vs H Q E → vs.length = ps.length)
    (hbody : ∀ (cdv : Value) (A : Around) (outer : List Env) (s : Shared) (H : Hp) (vs : List V) (Q : VK) (E : XK), Room k (A.deeper (envOfC qual (defScope st) s.heap.objs.size f cdv)) → sp vs H Q E →
      ∃ t, PSs (cxOf CX P w K mg base N qual (defScope st) f cdv A outer s H E).nox (defBody st) t ∧ t { nx := fun _ H' => Q .non H', rt := Q } (start N vs) H) : FnOk P w K mg base CX (k + 1) f fd ps sp := by
  obtain ⟨oc, od, kV, doc, pm, an, cdv, ct, osl, rfl, lk, hcd⟩ := F.ex
  refine fn_of lk hcd S len fun A outer s H vs Q E hr hsp => ?_
  obtain ⟨t, h, q⟩ := hbody cdv A outer s H vs Q E hr hsp
  exact ⟨t, h.nox, q⟩
/-- a def of the text, at its name -/
structure Dn (K : PySem.W.Frag) (mg : Str → Option Value) (x : Str) (st : Stmt) : Prop where
  ex : ∃ f fd, Fun K x x st f fd ∧ mg x = some (.ref f)
theorem Dn.cal {x : Str} {st : Stmt} {ps : List Str} {k : Nat} {sp : Sp} (D : Dn K mg x st)
    (hb : ∀ (kV doc pm : Value) (an : Option Addr) (cdv ct : Value) (us : List Value), us.length = ps.length → bindArgs (PySem.W.fnOf x x (defArgs st) (defBody st) (defScope st) .none kV doc pm an cdv ct) ⟨us, []⟩ = pure (ps.zip us))
    (h : ∀ f fd, Fun K x x st f fd → FnOk P w K mg base CX k f fd ps sp) : Cal P w K mg base CX k x ps sp := by
  obtain ⟨f, fd, F, hm⟩ := D.ex
  exact ⟨f, fd, h f fd F, hm, F.kp, F.binds hb⟩
end

/-! ### == of tuples of flat values; in a written tuple; isinstance of a built-in type -/
section
variable {X : Cx}
noncomputable def eqL (xs ys : List V) : Bool := (List.range (min xs.length ys.length)).all (fun j => eqV (xs.getD j .non) (ys.getD j .non)) && xs.length == ys.length
theorem flat_at {xs : List V} (h : xs.all flatV = true) {j : Nat} (hj : j < xs.length) : flatV (xs.getD j .non) = true := by
  rw [List.getD_eq_getElem?_getD, List.getElem?_eq_getElem hj]
  exact List.all_eq_true.mp h _ (List.getElem_mem hj)
theorem rel_at {xs : List V} {us : List Value} (r : Vals xs us) {j : Nat} (hj : j < us.length) : RelV (xs.getD j .non) us[j] := by
  have hl := r.length
  have hx : j < xs.length := by omega
  obtain ⟨u, e1, e2⟩ := r.get (List.getElem?_eq_getElem hx)
  rw [List.getElem?_eq_getElem hj] at e1
  cases e1
  rw [List.getD_eq_getElem?_getD, List.getElem?_eq_getElem hx]
  exact e2
noncomputable def rEqT : R2 := fun x y H Q => ∃ p q xs ys, x = .ref p ∧ y = .ref q ∧ H p = some (.tup xs) ∧ H q = some (.tup ys) ∧ xs.all flatV = true ∧ ys.all flatV = true ∧ Q (.bl (eqL xs ys)) H
noncomputable def rInT : R2 := fun x y H Q => ∃ p xs, y = .ref p ∧ H p = some (.tup xs) ∧ flatV x = true ∧ xs.all flatV = true ∧ Q (.bl (inV x xs)) H
theorem call_isT : CallR X (.builtin "isinstance") (fun xs H Q => ∃ x c t b, xs = [x, .ty c] ∧ TyOf X.K H x t ∧ PySem.W.kitOne X.K t (.type c) = some b ∧ Q (.bl b) H) := by
  intro pins s σ H xs us Q I r h
  obtain ⟨x, c, t, b, rfl, ty, e, q⟩ := h
  obtain ⟨u, u', rfl, rx, rc⟩ := vals2 r
  cases rc
  exact isinst_ok I rx ty e fun tk => ⟨.bl b, H, I.tok tk, rfl, q⟩
end
theorem at0 {α : Type} {x : α} {l : List α} : atI (x :: l) 0 = some x := atI_nat (j := 0) rfl
theorem at1 {α : Type} {x y : α} {l : List α} : atI (x :: y :: l) 1 = some y := atI_nat (j := 1) rfl
theorem at2 {α : Type} {x y z : α} {l : List α} : atI (x :: y :: z :: l) 2 = some z := atI_nat (j := 2) rfl
noncomputable def Pr (a b : Int) : List V := [.int a, .int b]
theorem kit_tt {K : PySem.W.Frag} : PySem.W.kitOne K (.type "tuple") (.type "tuple") = some true := by unfold PySem.W.kitOne; rw [if_pos (by decide +kernel)]
end L2
/-! Numbers: the greatest common divisor, lowest terms. -/
namespace Nm
noncomputable def g (a b : Int) : Int := (Int.gcd a b : Nat)
theorem back {a b c d p q x y : Int} (hq : 0 < q) (hd : 0 < d) (e : p * (b * d) = (a * d - c * b) * q) (f : x * (q * d) = (p * d + c * q) * y) : x * b = a * y := by
  have h : (x * b) * (q * d) = (a * y) * (q * d) := by grind
  exact Int.eq_of_mul_eq_mul_right (by have := Int.mul_pos hq hd; omega) h
end Nm
/-! EXCEPTIONS of own classes: raised, passed on, caught by name. -/
namespace L2
open PySem PySem.Spec PyProof.Rows PySem.W

theorem ObjOk.get {P : Program} {w : World} {H : Hp} {h : Heap} {a : Addr} : ∀ {o : HO}, ObjOk P w H h a o → ∃ ob, h.get? a = some ob
  | .lst _, x => let ⟨_, _, _, _, e⟩ := x; ⟨_, e⟩
  | .tup _, x => let ⟨_, _, _, o, e, _⟩ := x; ⟨o, e⟩
  | .dK _, x => let ⟨_, _, _, _, o, _, _, e, _⟩ := x; ⟨o, e⟩
  | .dT _, x => let ⟨_, _, _, _, o, _, _, e, _⟩ := x; ⟨o, e⟩
  | .set _ _, x => by
    obtain ⟨o, es, ep, t, e, _⟩ := x
    exact ⟨o, e⟩
  | .ins _ _ _, x => let ⟨_, _, _, e, _⟩ := x; ⟨_, e⟩
  | .own _, x => x
  | .xd _, x => by
    obtain ⟨mA, ⟨o, es, ep, e, _⟩, _⟩ := x
    exact ⟨o, e⟩
  | .rng _ _, x => let ⟨_, _, _, e⟩ := x; ⟨_, e⟩
  | .frz _ _, x => ⟨_, x.1⟩
  | .tbl _, ⟨_, x, _⟩ => ⟨_, x⟩
  | .met _ _, x => ⟨_, x⟩
  | .ext _, x => x.2.1
theorem HOk.inB {P : Program} {w : World} {H : Hp} {h h' B : Heap} (ok : HOk P w H h) (hB : ∀ b u o, H b = some u → h.get? b = some o → B.get? b = some o) (st : B.StaysIn h') : HOk P w H h' := fun a o e =>
  (ok a o e).stay (fun b u hb q => st b u (by
    rcases hb with rfl | hb
    · exact hB _ _ _ e q
    · exact hB _ _ _ hb q)) (fun _ r => r) fun _ _ r => r

/-- an exception flies: the frames l it will come to, the abstract heap and the state ahead of the call, the abstract heap behind it -/
structure Fly (P : Program) (w : World) (l : List Env) (H : Hp) (s : Shared) (H' : Hp) (ad : Addr) (cls : Value) (s' : Shared) : Prop where
  os : s'.os = s.os
  bare : AllBare s'.gens
  un : Un (frs l) [] H H' s.heap s'.heap
  hok : HOk P w H' s'.heap
  fl : ∃ B a0, Heap.FlyingW B l ad cls a0 s'.heap ∧ (∀ b o, s.heap.get? b = some o → H b = none → b ∉ frs l → B.get? b = some o) ∧ (∀ b o, s.heap.get? b = some o → b ∉ frs l → ∃ o', B.get? b = some o') ∧
    (∀ b u o, H' b = some u → s'.heap.get? b = some o → B.get? b = some o)
noncomputable def CX1 (P : Program) (w : World) : CXT := fun l H s E e s' => ∃ ad cls H', e = .ref ad ∧ Fly P w l H s H' ad cls s' ∧ E cls none H'
theorem strict1 (P : Program) (w : World) : Strict (CX1 P w) := fun _ _ _ _ _ ⟨_, _, _, _, _, h⟩ => h

section
variable {P : Program} {w : World} {K : PySem.W.Frag} {mg : Str → Option Value} {base : Heap} {N : List Str} {qual : Str} {scope : Scope} {f : Addr} {cdv : Value} {A : Around} {outer : List Env} {s0 : Shared} {H0 : Hp} {E : XK}
theorem xe_raise {pins : List (Addr × Obj)} {σ : St} {H : Hp} {s : Shared} {h' : Heap} {ad : Addr} {cls : Value} {vs : List Value}
    (I : Inv (cxOf (CX1 P w) P w K mg base N qual scope f cdv A outer s0 H0 E) pins σ H s) (mx : Heap.MadeExcOf s.heap h' ad cls vs) (e : E cls none H) :
    (cxOf (CX1 P w) P w K mg base N qual scope f cdv A outer s0 H0 E).xe (.ref ad) { s with heap := h' } := by
  let env : Env := envOfC qual scope s0.heap.objs.size f cdv
  have nin : ∀ b o, s0.heap.get? b = some o → b ∉ frs outer → b ∉ frs (env :: outer) := fun b o q hb z => by
    rcases List.mem_cons.mp (show b ∈ s0.heap.objs.size :: frs outer from z) with z | z
    · rw [z] at q
      exact absurd (Heap.lt_size q) (Nat.lt_irrefl _)
    · exact hb z
  have hin : ∀ b, b ∈ frs outer → b ∈ frs (env :: outer) := fun b hb => List.mem_cons.mpr (.inr hb)
  have ST : s.heap.FunFrames base (env :: outer) := I.stack
  have SF : ∀ b ∈ frs (env :: outer), H b = none := I.stkFree
  have BS : Un (frs outer) [] H0 H s0.heap s.heap := I.base
  show wpAny (model P w) (A.deeper env) (leaving env (.ref ad)) (fun _ s'' => CX1 P w outer H0 s0 E (.ref ad) s'') (fun e' s'' => CX1 P w outer H0 s0 E e' s'') { s with heap := h' }
  refine wpAny_leaves_madeW (base := hideAll s.heap (frs (env :: outer))) (h := s.heap) (L := s0.heap.objs.size) I.ok.frames rfl (fun b o q => of_hideAll _ q)
    (funFrames_hide ST fun en he a ha => List.mem_filterMap.mpr ⟨en, he, ha⟩) mx fun h2 t x1 _ _ x4 => ?_
  have x4 : Heap.UpToSlots h' h2 := x4
  have fr : ∀ b ∈ frs (env :: outer), ∀ o, s.heap.get? b = some o → ∃ sl, h2.get? b = some { o with slots := sl } := fun b hb o q => by
    obtain ⟨_, o1, q1, nf⟩ := ST.mem hb
    rw [q] at q1
    cases q1
    exact x4 b o (mx.keeps b o q) nf
  refine ⟨ad, cls, H, rfl, ⟨I.os, I.bare, ⟨fun b o q n hb hx => ?_, fun b o q n hb hx => ?_, BS.free, fun b o q hx => ?_, BS.tups, BS.frzs, BS.tbls⟩, ?_, ⟨_, _, x1, fun b o q n hb => ?_, fun b o q hb => ?_, fun b u o e1 q => ?_⟩⟩, e⟩
  · exact x1.1 b o (hideAll_get _ (BS.keep b o q n hb hx) (nin b o q hb))
  · obtain ⟨sl, q1⟩ := BS.slot b o q n hb hx
    obtain ⟨sl2, q2⟩ := fr b (hin b hb) _ q1
    exact ⟨sl2, q2⟩
  · obtain ⟨o1, q1⟩ := BS.there b o q hx
    by_cases hb : b ∈ frs (env :: outer)
    · obtain ⟨sl2, q2⟩ := fr b hb _ q1
      exact ⟨_, q2⟩
    · exact ⟨o1, x1.1 b o1 (hideAll_get _ q1 hb)⟩
  · exact HOk.inB I.hok (fun b u o e1 q => hideAll_get _ q fun z => by
      have := SF b z
      rw [e1] at this
      cases this) x1.1
  · exact hideAll_get _ (BS.keep b o q n hb (by simp)) (nin b o q hb)
  · obtain ⟨o1, q1⟩ := BS.there b o q (by simp)
    exact ⟨o1, hideAll_get _ q1 (nin b o q hb)⟩
  · obtain ⟨o1, q1⟩ := (I.hok b u e1).get
    have q2 := hideAll_get (frs (env :: outer)) q1 fun z => by
      have := SF b z
      rw [e1] at this
      cases this
    have q3 := x1.1 b o1 q2
    rw [q] at q3
    cases q3
    exact q2
/-- through a frame -/
theorem xe_pass : Passes (CX1 P w) (cxOf (CX1 P w) P w K mg base N qual scope f cdv A outer s0 H0 E) E := by
  intro pins σ H s e s' I c
  let env : Env := envOfC qual scope s0.heap.objs.size f cdv
  obtain ⟨ad, cls, H', rfl, F, he⟩ := c
  have nin : ∀ b o, s0.heap.get? b = some o → b ∉ frs outer → b ∉ frs (env :: outer) := fun b o q hb z => by
    rcases List.mem_cons.mp (show b ∈ s0.heap.objs.size :: frs outer from z) with z | z
    · rw [z] at q
      exact absurd (Heap.lt_size q) (Nat.lt_irrefl _)
    · exact hb z
  have hin : ∀ b, b ∈ frs outer → b ∈ frs (env :: outer) := fun b hb => List.mem_cons.mpr (.inr hb)
  have ST : s.heap.FunFrames base (env :: outer) := I.stack
  have BS : Un (frs outer) [] H0 H s0.heap s.heap := I.base
  have FU : Un (frs (env :: outer)) [] H H' s.heap s'.heap := F.un
  obtain ⟨B, a0, fl, c0, c2, c1⟩ := F.fl
  have fl : Heap.FlyingW B (env :: outer) ad cls a0 s'.heap := fl
  have c0 : ∀ b o, s.heap.get? b = some o → H b = none → b ∉ frs (env :: outer) → B.get? b = some o := c0
  have c2 : ∀ b o, s.heap.get? b = some o → b ∉ frs (env :: outer) → ∃ o', B.get? b = some o' := c2
  show wpAny (model P w) (A.deeper env) (leaving env (.ref ad)) (fun _ s'' => CX1 P w outer H0 s0 E (.ref ad) s'') (fun e' s'' => CX1 P w outer H0 s0 E e' s'') s'
  refine wpAny_leaves_onW (L := s0.heap.objs.size) I.ok.frames rfl fl fun h2 x1 x2 => ?_
  have fr : ∀ b ∈ frs (env :: outer), ∀ o, s'.heap.get? b = some o → ∃ sl, h2.get? b = some { o with slots := sl } := fun b hb o q => by
    obtain ⟨_, o1, q1, nf⟩ := fl.2.2.1.mem hb
    rw [q] at q1
    cases q1
    exact x2 b o q nf
  refine ⟨ad, cls, H', rfl, ⟨F.os.trans I.os, F.bare, ⟨fun b o q n hb hx => ?_, fun b o q n hb hx => ?_, fun b o q n hx => ?_, fun b o q hx => ?_, fun b xs q => FU.tups b xs (BS.tups b xs q), fun b o u q => FU.frzs b o u (BS.frzs b o u q), fun b ps q => ?_⟩, F.hok.inB c1 x1.1,
    ⟨B, a0, x1, fun b o q n hb => ?_, fun b o q hb => ?_, fun b u o e1 q => ?_⟩⟩, he⟩
  · exact x1.1 b o (c0 b o (BS.keep b o q n hb hx) (BS.free b o q n hx) (nin b o q hb))
  · obtain ⟨sl, q1⟩ := BS.slot b o q n hb hx
    obtain ⟨sl1, q2⟩ := FU.slot b _ q1 (BS.free b o q n hx) (hin b hb) hx
    obtain ⟨sl2, q3⟩ := fr b (hin b hb) _ q2
    exact ⟨sl2, q3⟩
  · obtain ⟨o1, q1⟩ := BS.there b o q hx
    exact FU.free b o1 q1 (BS.free b o q n hx) hx
  · obtain ⟨o1, q1⟩ := BS.there b o q hx
    by_cases hb : b ∈ frs (env :: outer)
    · obtain ⟨o2, q2⟩ := FU.there b o1 q1 hx
      obtain ⟨sl2, q3⟩ := fr b hb _ q2
      exact ⟨_, q3⟩
    · obtain ⟨o2, q2⟩ := c2 b o1 q1 hb
      exact ⟨o2, x1.1 b o2 q2⟩
  · obtain ⟨m1, e1⟩ := BS.tbls b ps q
    obtain ⟨m2, e2⟩ := FU.tbls b _ e1
    exact ⟨m1 ++ m2, by rw [e2, Array.append_assoc]⟩
  · exact c0 b o (BS.keep b o q n hb (by simp)) (BS.free b o q n (by simp)) (nin b o q hb)
  · obtain ⟨o1, q1⟩ := BS.there b o q (by simp)
    exact c2 b o1 q1 (nin b o q hb)
  · obtain ⟨o1, q1⟩ := (F.hok b u e1).get
    have q2 := c1 b u o1 e1 q1
    have q3 := x1.1 b o1 q2
    rw [q] at q3
    cases q3
    exact q2
end
end L2
/-! raise of an own class; try with one call in it. -/
namespace L2
open PySem PySem.Spec PyProof.Rows PySem.W

/-- an own exception class of the text, by what stands written -/
theorem exc_obj {K : Frag} {h : Heap} {C : Addr} {bmB : List Value} {newId : String} (X : K.In h) (q : excIn K C bmB newId = true) :
    ∃ tl N nm qn bs hdct sn sub ab col dd k0 k1 k2 k3 k5 mN, h.get? C = some (excClassObj nm qn C N bs tl hdct sn sub ab col dd k0 k1 k2 k3 k5 newId) ∧ h.Ns N mN ∧ mN "__init__" = none ∧ OwnTail h bmB tl := by
  unfold excIn at q
  split at q
  · rename_i dd cd sl ho
    split at q
    · rename_i C' bm k0 k1 k2 k3 n k5 hm hs
      simp only [Bool.and_eq_true, beq_iff_eq, Bool.not_eq_true'] at q
      obtain ⟨⟨⟨⟨⟨rfl, rfl⟩, hdel⟩, ht⟩, hok⟩, hni⟩ := q
      obtain ⟨nm, bs, mro, ns, qn, hd, sn, sub, ab, col, del⟩ := cd
      dsimp only at hm hdel hok hni
      subst hm hdel
      have hsl : sl = #[k0, k1, k2, k3, some (.builtin n), k5] := by
        obtain ⟨l⟩ := sl
        simp only at hs
        rw [hs]
      subst hsl
      exact ⟨bm, ns, nm, qn, bs, hd, sn, sub, ab, col, dd, k0, k1, k2, k3, k5, _, X _ _ ho, .of_isNs (isNs_of_in X hok), nsMap_none_of_in X hok hni, tail_of_in X ht⟩
    · cases q
  · cases q
abbrev bmVE : List Value := [.type "ValueError", .type "Exception", .type "BaseException", .type "object"]
abbrev newVE : String := "ValueError.__new__"
noncomputable def tRaise (C : Addr) (E : XK) (t : TA) : TS := fun _ σ H => t σ H fun vs H1 => vs.length ≤ sizeLine ∧ E (.ref C) none H1
section
variable {P : Program} {w : World} {K : PySem.W.Frag} {mg : Str → Option Value} {base : Heap} {N : List Str} {qual : Str} {scope : Scope} {f : Addr} {cdv : Value} {A : Around} {outer : List Env} {s0 : Shared} {H0 : Hp} {E : XK}
theorem ps_raise {x : Str} {C : Addr} {np cpos pos : Pos} {e : Expr} {es : List Expr} {t : TA} (hg : Gl (cxOf (CX1 P w) P w K mg base N qual scope f cdv A outer s0 H0 E) x) (hm : mg x = some (.ref C)) (q : excIn K C bmVE newVE = true)
    (hh : A.handled = none) (ha : PA (cxOf (CX1 P w) P w K mg base N qual scope f cdv A outer s0 H0 E) (e :: es) t) (hdb : (x == ("__debug__" : Str)) = false := by decide)
    (he : starEach (e :: es) (cxOf (CX1 P w) P w K mg base N qual scope f cdv A outer s0 H0 E).env = (false, eval e (cxOf (CX1 P w) P w K mg base N qual scope f cdv A outer s0 H0 E).env) :: starEach es (cxOf (CX1 P w) P w K mg base N qual scope f cdv A outer s0 H0 E).env := by rfl)
    (hpl : (backTo cpos (starEach es (cxOf (CX1 P w) P w K mg base N qual scope f cdv A outer s0 H0 E).env)).any (·.1) = false := by rfl) :
    PS (cxOf (CX1 P w) P w K mg base N qual scope f cdv A outer s0 H0 E) (.Raise (some (.Call (.Name x np) (e :: es) [] cpos)) none pos) (tRaise C E t) := by
  intro pins s σ H D I h
  have FB := PySem.F.excBase_ValueError
  obtain ⟨tl, Nn, nm, qn, bs, hdct, sn, sub, ab, col, dd, k0, k1, k2, k3, k5, mN, hC, hN, hni, T⟩ := exc_obj I.ok.mod.kin q
  refine wpAny_Raise_call_subT (C := C) (nm := nm) (q := qn) (N := Nn) (bs := bs) (bm := tl) (hdct := hdct) (sn := sn) (sub := sub) (ab := ab) (col := col) (dd := dd) (k0 := k0) (k1 := k1) (k2 := k2) (k3 := k3) (k5 := k5)
    FB (mN := mN) (T.hasType FB.hasBase) hh (by rw [he]; show (false || (backTo cpos (starEach es _)).any (·.1)) = false; rw [hpl]; rfl) hni (ld_glob I hg hm ⟨rfl, ?_⟩ hdb)
  rw [he]
  have ha' := ha cpos pins s σ H _ I h
  rw [he] at ha'
  refine Calls.evalArgs_plain (thn ha' fun us s1 ⟨vs, H1, I1, r, z, k⟩ => ⟨rfl, by rw [← r.length]; exact z, I1.bk _ _ hC, hN.keeps I1.bk, T.keeps I1.bk, fun h' ad mx => ?_⟩)
  exact xe_raise I1 mx k
end

/-! ### catching -/
section
variable {X : Cx} {pins : List (Addr × Obj)} {σ : St} {H H' : Hp} {s s' : Shared}
/-- within an except suite -/
abbrev Cx.mark (X : Cx) (ad : Addr) : Cx := { X with A := X.A.mark (some (.ref ad)), calm := false, xe := fun _ _ => False }
theorem Inv.mark (I : Inv X pins σ H s) (ad : Addr) : Inv (X.mark ad) pins σ H s :=
  ⟨⟨I.ok.mod, I.ok.kind, I.ok.glob, I.ok.blt, I.ok.above, I.ok.inj, I.ok.has, I.ok.cab, fun z => (Bool.false_ne_true z).elim, I.ok.frames, I.ok.stk, I.ok.exf, I.ok.bs, I.ok.bsz, I.ok.noex, I.ok.exfs, I.ok.funs, I.ok.frf⟩,
    I.os, I.bare, I.base, I.loc, I.cell, I.free, I.freeC, I.pin, I.hok, I.len⟩
theorem Inv.unmark {ad : Addr} (ok : X.Ok) (I : Inv (X.mark ad) pins σ H s) : Inv X pins σ H s := ⟨ok, I.os, I.bare, I.base, I.loc, I.cell, I.free, I.freeC, I.pin, I.hok, I.len⟩
theorem name_goes {M : Model} {A : Around} {E : Value → Shared → Prop} {i : Nat} {n : Str} {pos : Pos} {Q : Unit → Shared → Prop} (I : Inv X pins σ H s) (hN : X.N.Nodup) (hi : X.N[i]? = some n) (hl : X.env.scope.names.lookup n = some .local)
    (h : ∀ s', Inv X pins (σ.set i none) H s' → Q () s') : wpAny M A (do bindName X.env n .none; unbindBehindTheSuite X.env n pos) Q E s := by
  have hiσ : i < σ.length := by rw [I.len]; exact (List.getElem?_eq_some_iff.mp hi).1
  refine wpAny_bind (wpAny_bindName (store_ok (v := .non) I hN hi (.inl hl) rfl (fun s1 I1 => ?_) (.inr hl)))
  obtain ⟨m, hn, hlk⟩ := id I1.loc
  have hmn : ∃ u, m n = some u := by
    obtain ⟨u, _, z⟩ := hlk i n .non hi (by rw [List.getElem?_set_self hiσ]) (.inl hl)
    rcases z with ⟨_, z⟩ | ⟨z, _⟩
    · exact ⟨u, z⟩
    · have hk : X.env.kindOf n = some .local := hl
      rw [hk] at z
      rcases z with z | z <;> cases z
  obtain ⟨u0, hu0⟩ := hmn
  unfold unbindBehindTheSuite
  refine wpAny_onRaise ?_
  unfold unbindName
  refine wpAny_bind (wpAny_point (wpAny_bind ?_))
  unfold deleteName
  have hk : X.env.kindOf n = some .local := hl
  have hcls : (X.env.scope.kind == .class || (X.env.scope.kind == .module && X.env.locals != X.env.globals)) = false := by rw [I.ok.kind]; rfl
  simp only [hk, hcls]
  rw [if_neg (by decide)]
  refine wpAny_bind (wpAny_nsDel_keeps hn fun h₂ v hn₂ hs₂ => ?_)
  rw [hu0]
  simp only [if_true, Option.isSome_some, Bool.not_true, Bool.false_eq_true, if_false]
  refine wpAny_pure (wpAny_point (h _ ?_))
  have hs : Heap.SameBut X.env.locals s1.heap h₂ := hs₂
  refine ⟨I1.ok, I1.os, I1.bare, ⟨fun b o e nn hb hx => ?_, fun b o e nn hb hx => ?_, I1.base.free, fun b o e hx => ?_, I1.base.tups, I1.base.frzs, I1.base.tbls⟩, ⟨_, hn₂, fun j y v' e1 e2 e3 => ?_⟩, fun y c e => ?_, I1.free, I1.freeC, fun p hp => ?_, fun b ob e => ?_, ?_⟩
  · exact (hs.2 b (Nat.ne_of_lt (Nat.lt_of_lt_of_le (Heap.lt_size e) I1.ok.above))).trans (I1.base.keep b o e nn hb hx)
  · obtain ⟨sl, e1⟩ := I1.base.slot b o e nn hb hx
    exact ⟨sl, (hs.2 b (Nat.ne_of_lt (Nat.lt_of_lt_of_le (Heap.lt_size e) I1.ok.above))).trans e1⟩
  · obtain ⟨o', e1⟩ := I1.base.there b o e hx
    exact ⟨o', (hs.2 b (Nat.ne_of_lt (Nat.lt_of_lt_of_le (Heap.lt_size e) I1.ok.above))).trans e1⟩
  · by_cases hj : j = i
    · subst hj
      rw [List.getElem?_set_self hiσ] at e2
      cases e2
    · rw [List.getElem?_set_ne (Ne.symm hj)] at e2
      obtain ⟨u', r', q⟩ := hlk j y v' e1 (by rw [List.getElem?_set_ne (Ne.symm hj)]; exact e2) e3
      refine ⟨u', r', ?_⟩
      rcases q with ⟨k, e⟩ | ⟨k, c, e, z⟩
      · refine .inl ⟨k, ?_⟩
        have : y ≠ n := fun e => hj (nodup_ix hN e1 (e ▸ hi))
        simp [this, e]
      · exact .inr ⟨k, c, e, z.sameBut hs (I1.cne y c e)⟩
  · obtain ⟨w', z⟩ := I1.cell y c e
    exact ⟨w', z.sameBut hs (I1.cne y c e)⟩
  · obtain ⟨e, nn, ne, nf, d⟩ := I1.pin p hp
    exact ⟨(hs.2 p.1 ne).trans e, nn, ne, nf, d⟩
  · refine (I1.hok b ob e).stay (fun c w' hc q => (hs.2 c ?_).trans q) (fun _ q => q) fun _ _ q => q
    rintro rfl
    have fr := I1.free
    rcases hc with rfl | hc
    · rw [fr] at e; cases e
    · rw [fr] at hc; cases hc
  · rw [List.length_set]
    exact I.len
/-- the caught exception's object -/
noncomputable def ExO (ad : Addr) (cls : Value) : HO := .ext fun h => ∃ o vs, h.get? ad = some o ∧ o.cls = cls ∧ o.data = .fields vs
theorem Fly.new {P : Program} {w : World} {l : List Env} {ad : Addr} {cls : Value} (F : Fly P w l H s H' ad cls s') : s.heap.get? ad = none := by
  obtain ⟨B, a0, fl, c0, c2, c1⟩ := F.fl
  cases q : s.heap.get? ad with
  | none => rfl
  | some o =>
    by_cases hb : ad ∈ frs l
    · obtain ⟨_, o1, q1, nf⟩ := fl.2.2.1.mem hb
      obtain ⟨oe, vs, he, _, hd, _⟩ := fl.first
      rw [q1] at he
      cases he
      exact absurd hd (nf _)
    · obtain ⟨o', q'⟩ := c2 ad o q hb
      rw [fl.2.1] at q'
      cases q'
theorem Fly.tracked {P : Program} {w : World} {l : List Env} {ad : Addr} {cls : Value} (F : Fly P w l H s H' ad cls s') : H' ad = none := by
  obtain ⟨B, a0, fl, c0, c2, c1⟩ := F.fl
  cases q : H' ad with
  | none => rfl
  | some u =>
    obtain ⟨o, e⟩ := (F.hok ad u q).get
    have := c1 ad u o q e
    rw [fl.2.1] at this
    cases this
/-- the exception has landed here -/
theorem Fly.inv {ad : Addr} {cls : Value} (F : Fly X.prog X.w X.stack H s H' ad cls s') (I : Inv X pins σ H s) {B h6 : Heap} {a0 : Value} (fl : Heap.FlyingW B X.stack ad cls a0 s'.heap)
    (c0 : ∀ b o, s.heap.get? b = some o → H b = none → b ∉ frs X.stack → B.get? b = some o) (c2 : ∀ b o, s.heap.get? b = some o → b ∉ frs X.stack → ∃ o', B.get? b = some o')
    (c1 : ∀ b u o, H' b = some u → s'.heap.get? b = some o → B.get? b = some o) (st : B.StaysIn h6) (up : s'.heap.UpToSlots h6) : Inv X pins σ H' { s' with heap := h6 } := by
  have fr : ∀ b ∈ frs X.stack, ∀ o, s'.heap.get? b = some o → ∃ sl, h6.get? b = some { o with slots := sl } := fun b hb o q => by
    obtain ⟨_, o1, q1, nf⟩ := fl.2.2.1.mem hb
    rw [q] at q1
    cases q1
    exact up b o q nf
  refine I.call' (s' := { s' with heap := h6 }) (ch := []) F.os ⟨fun b o q n hb _ => st b o (c0 b o q n hb), fun b o q n hb hx => ?_, F.un.free, fun b o q hx => ?_, F.un.tups, F.un.frzs, F.un.tbls⟩ (F.hok.inB c1 st) F.bare (fun b hb => absurd hb (by simp))
  · obtain ⟨sl, q1⟩ := F.un.slot b o q n hb hx
    obtain ⟨sl2, q2⟩ := fr b hb _ q1
    exact ⟨sl2, q2⟩
  · by_cases hb : b ∈ frs X.stack
    · obtain ⟨o2, q2⟩ := F.un.there b o q hx
      obtain ⟨sl2, q3⟩ := fr b hb _ q2
      exact ⟨_, q3⟩
    · obtain ⟨o2, q2⟩ := c2 b o q hb
      exact ⟨o2, st b o2 q2⟩
theorem Inv.adopt {ad : Addr} {φ : Heap → Prop} (I : Inv X pins σ H' s') (I0 : Inv X pins σ H s) (new : s.heap.get? ad = none) (hn : H' ad = none) (ho : ∃ o, s'.heap.get? ad = some o) (p : φ s'.heap)
    (hst : ∀ h1 h2 : Heap, φ h1 → (∀ o, h1.get? ad = some o → h2.get? ad = some o) → φ h2) : Inv X pins σ (upd H' ad (.ext φ)) s' := by
  have ne : ∀ b o, s.heap.get? b = some o → b ≠ ad := fun b o e z => by rw [z, new] at e; cases e
  have tk : ∀ b u, H' b = some u → b ≠ ad := fun b u e z => by rw [z, hn] at e; cases e
  have ne0 : ∀ b o, b ∉ X.ex → X.s₀.heap.get? b = some o → b ≠ ad := fun b o hx e => by
    obtain ⟨o', e'⟩ := I0.base.there b o e hx
    exact ne b o' e'
  refine ⟨I.ok, I.os, I.bare, ⟨I.base.keep, I.base.slot, fun b o e n hx => ?_, I.base.there, fun b xs e => ?_, fun b o u e => ?_, fun b ps e => ?_⟩, I.loc, I.cell, ?_, fun y c e => ?_, fun q hq => ?_, fun b u e => ?_, I.len⟩
  · rw [upd_ne (ne0 b o hx e)]
    exact I.base.free b o e n hx
  · rw [upd_ne (tk _ _ (I.base.tups b xs e))]
    exact I.base.tups b xs e
  · rw [upd_ne (tk _ _ (I.base.frzs b o u e))]
    exact I.base.frzs b o u e
  · obtain ⟨m, e1⟩ := I.base.tbls b ps e
    exact ⟨m, by rw [upd_ne (tk _ _ e1)]; exact e1⟩
  · obtain ⟨m, ⟨o, es, ep, hl, _⟩, _⟩ := I0.loc
    rw [upd_ne (ne _ _ hl)]
    exact I.free
  · obtain ⟨v, o, hc, _⟩ := I0.cell y c e
    rw [upd_ne (ne _ _ hc)]
    exact I.freeC y c e
  · obtain ⟨e, n, r⟩ := I.pin q hq
    refine ⟨e, ?_, r⟩
    rw [upd_ne (ne _ _ (I0.pin q hq).1)]
    exact n
  · by_cases hb : b = ad
    · subst hb
      rw [upd_same] at e
      cases e
      exact ⟨p, ho, hst⟩
    · rw [upd_ne hb] at e
      exact (I.hok b u e).stay (fun _ _ _ q => q) (fun c r => by rw [upd_ne (tk _ _ r)]; exact r) fun c xs r => by rw [upd_ne (tk _ _ r)]; exact r
theorem caught {ad : Addr} {cls : Value} {cx n : Str} {np hpos : Pos} {b₀ : Stmt} {suite : List Stmt} {i : Nat} {ts : TS} {C2 : Addr} {D : Ends} (I : Inv X pins σ H s) (F : Fly X.prog X.w X.stack H s H' ad cls s')
    (hst : X.stack = X.env :: X.outer) (hf : X.env.frame = some X.env.locals) (hg : Gl X cx) (hm : X.mg cx = some (.ref C2)) (hx : exmOne X.K cls (.ref C2) = some true) (hN : X.N.Nodup) (hi : X.N[i]? = some n)
    (hl : X.env.scope.names.lookup n = some .local) (hs : PSs (X.mark ad) (b₀ :: suite) ts)
    (h : ts { nx := fun σ' H2 => D.nx (σ'.set i none) H2, rt := D.rt, bk := fun σ' H2 => D.bk (σ'.set i none) H2, ct := fun σ' H2 => D.ct (σ'.set i none) H2 } (σ.set i (some (.ref ad))) (upd H' ad (ExO ad cls)))
    (hdb : (cx == ("__debug__" : Str)) = false := by decide) :
    wpAny (model X.prog X.w) X.A (noteFrame (.ref ad) X.env) (fun _ s₂ => wpAny (model X.prog X.w) X.A (setFlight (.ref ad) none)
      (fun _ s₃ => wpAny (model X.prog X.w) X.A (handleBy (.ref ad) X.env [.ExceptHandler (some (.Name cx np)) (some n) (b₀ :: suite) hpos]) (SP X pins D) X.xe s₃) X.xe s₂) X.xe s' := by
  obtain ⟨B, a0, fl, c0, c2, c1⟩ := F.fl
  have fl' := fl
  rw [hst] at fl'
  refine wpAny_looks_onW (I.ok.frames.trans (by rw [hst])) hf fl' fun h4 held4 up4 => ?_
  refine wpAny_landsW held4 fun h5 fl5 up5 => ?_
  have U5 : s'.heap.UpToSlots h5 := up4.trans up5
  have I5 : Inv X pins σ H' { s' with heap := h5 } := F.inv I fl c0 c2 c1 fl5.1 U5
  obtain ⟨ob, hob, hobc⟩ := fl5.there
  refine wpAny_handleBy_cons (codeAny_handlers_test (ld_glob (X := X.mark ad) (I5.mark ad) hg hm ?_ hdb)) (by intro q; cases q)
  have LT : Looks (model X.prog X.w) h5 (typeOf (.ref ad)) cls := by
    subst hobc
    exact (Looks.ld hob).andThen .now
  refine (exm_one I5.kIn LT hx).here ?_
  refine codeAny_handlers_suite_as ?_
  refine lands_againW fl5 fun h6 fl6 up6 => ?_
  have I6 : Inv X pins σ H' { s' with heap := h6 } := F.inv I fl c0 c2 c1 fl6.1 (U5.trans up6)
  obtain ⟨oe, vs, he, hec, hed, _⟩ := fl6.first
  have I7 : Inv X pins σ (upd H' ad (ExO ad cls)) { s' with heap := h6 } := I6.adopt I F.new F.tracked ⟨oe, he⟩ ⟨oe, vs, he, hec, hed⟩ fun h1 h2 ⟨o, ws, e1, e2, e3⟩ k => ⟨o, ws, k o e1, e2, e3⟩
  refine store_ok (X := X.mark ad) (I7.mark ad) hN hi (.inl hl) (v := .ref ad) rfl (fun s7 I8 => ?_) (.inr hl)
  refine wpAny_mono (hs pins s7 _ _ _ I8 h) (fun fw s8 hq => ?_) fun _ _ z => z.elim
  cases fw with
  | next =>
    obtain ⟨σ8, H8, I9, q8⟩ := hq
    exact name_goes (I9.unmark I.ok) hN hi hl fun s9 I10 => ⟨_, _, I10, q8⟩
  | brk =>
    obtain ⟨σ8, H8, I9, q8⟩ := hq
    exact name_goes (I9.unmark I.ok) hN hi hl fun s9 I10 => ⟨_, _, I10, q8⟩
  | cont =>
    obtain ⟨σ8, H8, I9, q8⟩ := hq
    exact name_goes (I9.unmark I.ok) hN hi hl fun s9 I10 => ⟨_, _, I10, q8⟩
  | ret u =>
    obtain ⟨v8, σ8, H8, I9, r8, q8⟩ := hq
    exact name_goes (I9.unmark I.ok) hN hi hl fun s9 I10 => ⟨v8, _, _, I10, r8, q8⟩
end

/-! ### one call within try -/
section
variable {X : Cx} {CX : CXT} {k : Nat} {x : Str} {ps : List Str} {sp : Sp} {E : XK} {e : Expr} {es : List Expr} {t : TA} {p pos : Pos}
theorem cal_run {pins : List (Addr × Obj)} {σ : St} {H : Hp} {s : Shared} {Q : VK} {Ex : Value → Shared → Prop} (C : Cal X.prog X.w X.K X.mg X.base CX k x ps sp) (hr : Room k X.A) (hg : Gl X x) (ha : PA X.nox (e :: es) t) (I : Inv X pins σ H s)
    (h : t σ H fun vs H1 => sp vs H1 Q E) (hx : ∀ H1 s1 e s', Inv X pins σ H1 s1 → CX X.stack H1 s1 E e s' → Ex e s')
    (hdb : (x == ("__debug__" : Str)) = false := by decide) (he : starEach (e :: es) X.env = (false, eval e X.env) :: starEach es X.env := by rfl) (hpl : (backTo pos (starEach es X.env)).any (·.1) = false := by rfl) :
    wpAny (model X.prog X.w) X.A (eval (.Call (.Name x p) (e :: es) [] pos) X.env) (EP X pins σ Q) Ex s := by
  obtain ⟨f, fd, F, hm, hk, hb⟩ := C.ex
  refine wpAny_Call_Name_kw (ld_glob I hg hm ?_ hdb)
  refine PySem.W.callWith_K (h₀ := X.base) I.ok.mod.kin hk (wpAny_mono (ha pos pins s σ H _ (I.wish _) h) (fun us s1 ⟨vs, H1, I1, r, q⟩ => ⟨I1.unwish.kIn, ?_⟩) fun _ _ z => z.elim) he hpl
  have I1 := I1.unwish
  have hl : us.length = ps.length := by rw [← r.length]; exact F.len _ _ _ _ q
  have hb' := hb s1 us I1.kIn (by rw [List.append_nil]; exact hl)
  rw [List.append_nil] at hb'
  refine wpAny_call (codeAny_mono (F.run X.A X.stack s1 H1 ⟨us, []⟩ us vs Q E hr I1.env0 hb' r q) fun r s' hq => ?_)
  cases r with
  | error e => exact hx H1 s1 e s' I1 hq
  | ok fl =>
    cases fl with
    | ret u => exact I1.after hq
    | next => exact False.elim hq
    | brk => exact False.elim hq
    | cont => exact False.elim hq
/-- what is wanted of the exception: its class is caught, and the suite's reading -/
noncomputable def xTry (K : PySem.W.Frag) (C2 : Addr) (i : Nat) (ts : TS) (D : Ends) (σ : St) : XK := fun cls _ H2 => exmOne K cls (.ref C2) = some true ∧ ∀ ad, H2 ad = none →
  ts { nx := fun σ' H3 => D.nx (σ'.set i none) H3, rt := D.rt, bk := fun σ' H3 => D.bk (σ'.set i none) H3, ct := fun σ' H3 => D.ct (σ'.set i none) H3 } (σ.set i (some (.ref ad))) (upd H2 ad (ExO ad cls))
noncomputable def tTryE (K : PySem.W.Frag) (sp : Sp) (t : TA) (C2 : Addr) (i : Nat) (ts : TS) : TS := fun D σ H => t σ H fun vs H1 => sp vs H1 (fun _ H2 => D.nx σ H2) (xTry K C2 i ts D σ)
noncomputable def tTryA (K : PySem.W.Frag) (sp : Sp) (t : TA) (j : Nat) (C2 : Addr) (i : Nat) (ts : TS) : TS := fun D σ H => t σ H fun vs H1 => sp vs H1 (fun v H2 => D.nx (σ.set j (some v)) H2) (xTry K C2 i ts D σ)
variable {cx n : Str} {np hpos epos tpos : Pos} {b₀ : Stmt} {suite : List Stmt} {i : Nat} {ts : TS} {C2 : Addr}
theorem ps_tryA {y : Str} {j : Nat} {ypos : Pos} (C : Cal X.prog X.w X.K X.mg X.base (CX1 X.prog X.w) k x ps sp) (hr : Room k X.A) (hg : Gl X x) (ha : PA X.nox (e :: es) t) (hst : X.stack = X.env :: X.outer) (hf : X.env.frame = some X.env.locals)
    (hgc : Gl X cx) (hm : X.mg cx = some (.ref C2)) (hN : X.N.Nodup) (hj : X.N[j]? = some y) (hy : X.env.scope.names.lookup y = some .local) (hi : X.N[i]? = some n) (hl : X.env.scope.names.lookup n = some .local) (hs : ∀ ad, PSs (X.mark ad) (b₀ :: suite) ts)
    (hsw : swapsWith (.Call (.Name x p) (e :: es) [] pos) (some (.Name y ypos)) epos.line X.env = pure false := by rfl) (hdb : (x == ("__debug__" : Str)) = false := by decide) (hdc : (cx == ("__debug__" : Str)) = false := by decide)
    (he : starEach (e :: es) X.env = (false, eval e X.env) :: starEach es X.env := by rfl) (hpl : (backTo pos (starEach es X.env)).any (·.1) = false := by rfl) :
    PS X (.Try [.Assign [.Name y ypos] (.Call (.Name x p) (e :: es) [] pos) epos] [.ExceptHandler (some (.Name cx np)) (some n) (b₀ :: suite) hpos] [] [] tpos) (tTryA X.K sp t j C2 i ts) := by
  intro pins s σ H D I h
  refine wpAny_Try_except (wpAny_execs_cons (wpAny_Assign_Name (thn (cal_run C hr hg ha I h (fun H1 s1 e1 s' I1 ⟨ad, cls, H', ee, F, hx, q⟩ => ?_) hdb he hpl) fun v s1 ⟨z, H1, I1, r1, q1⟩ => ?_) hsw))
  · subst ee
    exact caught I1 F hst hf hgc hm hx hN hi hl (hs ad) (q ad F.tracked) hdc
  · exact store_ok I1 hN hj (.inl hy) r1 (fun s2 I2 => wpAny_execs_nil (wpAny_execs_nil ⟨_, H1, I2, q1⟩)) (.inr hy)
end
end L2
/-! Numbers, further: a share of any bottom. -/
namespace Nm
noncomputable def st (a b : Int) : Int := if b < 0 then -(a / g a b) else a / g a b
noncomputable def sb (a b : Int) : Int := if b < 0 then -(b / g a b) else b / g a b
end Nm
/-! a def that may raise. -/
namespace L2
open PySem PySem.Spec PyProof.Rows
section
variable {P : Program} {w : World} {K : PySem.W.Frag} {mg : Str → Option Value} {base : Heap} {CX : CXT}
theorem Fun.okX {x qual : Str} {st : Stmt} {f : Addr} {fd : FuncData} {N ps : List Str} {k : Nat} {sp : Sp} (F : Fun K x qual st f fd) (S : FnScope N ps (defScope st)) (len : ∀ vs H Q E, sp vs H Q E → vs.length = ps.length)
    (hbody : ∀ (cdv : Value) (A : Around) (outer : List Env) (s : Shared) (H : Hp) (vs : List V) (Q : VK) (E : XK), Room k (A.deeper (envOfC qual (defScope st) s.heap.objs.size f cdv)) → sp vs H Q E →
      ∃ t, PSs (cxOf CX P w K mg base N qual (defScope st) f cdv A outer s H E) (defBody st) t ∧ t { nx := fun _ H' => Q .non H', rt := Q } (start N vs) H) : FnOk P w K mg base CX (k + 1) f fd ps sp := by
  obtain ⟨oc, od, kV, doc, pm, an, cdv, ct, osl, rfl, lk, hcd⟩ := F.ex
  exact fn_of lk hcd S len fun A outer s H vs Q E hr hsp => hbody cdv A outer s H vs Q E hr hsp
end
/-! ### argument lists without stars, by one lemma -/
noncomputable def noStar : Expr → Bool
  | .Starred _ _ => false
  | _ => true
theorem se {e : Expr} {es : List Expr} {env : Env} (h : noStar e = true) : starEach (e :: es) env = (false, eval e env) :: starEach es env := by
  cases e <;> first | rfl | exact absurd h Bool.false_ne_true
theorem na {env : Env} {pos : Pos} : ∀ {es : List Expr}, es.all noStar = true → (backTo pos (starEach es env)).any (·.1) = false
  | [], _ => rfl
  | e :: es, h => by
    rw [List.all_cons, Bool.and_eq_true] at h
    rw [se h.1]
    show (false || (backTo pos (starEach es env)).any (·.1)) = false
    rw [na h.2]
    rfl
end L2
/-! isinstance of a caught exception of an own class. -/
namespace L2
open PySem PySem.Spec PyProof.Rows PySem.W

/-- an own exception class, as isinstance asks it -/
structure ExcCls (K : PySem.W.Frag) (C : Addr) : Prop where
  cls : (clsIn K C).isSome = true
  ga : findIn K (.ref C) "__getattribute__" = some (some (.builtin "BaseException.__getattribute__"))
  gt : findIn K (.ref C) "__getattr__" = some none
  cl : findIn K (.ref C) "__class__" = some (some (.builtin "object.__class__"))
  be : mroIn K C (.type "BaseException") = some true
  ob : mroIn K C (.type "object") = some true

section
variable {prog : Program} {w : World} {A : Around} {E : Value → Shared → Prop} {K : PySem.W.Frag} {h : Heap} {g : Array GenState} {d : Drawn} {t : Nat} {os : OsState} {a C : Addr} {o : Obj}
theorem xis_get {R : Result → Shared → Prop} {tp : Value} (X : K.In h) (EC : ExcCls K C) (hx : h.get? a = some o) (hc : o.cls = .ref C) (hq : R (.ok (.ret (.ref C))) ⟨h, g, d, t, os⟩) :
    codeAny (model prog w) A (.call (.builtin "getset_descriptor.__get__") ⟨[.builtin "object.__class__", .ref a, tp], []⟩) R ⟨h, g, d, t, os⟩ := by
  have T0 : Looks (model prog w) h (typeOf (.ref a)) (.ref C) := hc ▸ (Looks.ld hx).andThen .now
  have T1 := looks_mroIn (M := model prog w) X EC.ob
  refine codeAny_call_builtin (KF.slot_gs.plain) (KF.entry_gs) (KF.slot_gs.check _ _ _ _ _ _ _ _ KF.type_class (KF.args_gs _ _ _) ?_)
  unfold Builtin.«getset_descriptor.__get__» Builtin.Getset_descriptor.descrGet
  rw [dga_obj]
  refine wpAny_bind (m := pure _) (wpAny_pure ?_)
  unfold Builtin.Getset_descriptor.descrGetter Builtin.Getset_descriptor.descrCheckInstance Builtin.Getset_descriptor.descrNameAndClass isInstance
  simp only [KF.owner_class]
  repeat lk
  refine And.intro (Code.quiet_builtin _ (by decide +kernel)) (codeAny_builtin KF.entry_class ?_)
  unfold Builtin.«object.__class__» shownTypeOf
  repeat lk
  exact hq
theorem xis_entry {tk : Tok} {Q : Fin → Shared → Prop} (X : K.In h) (EC : ExcCls K C) (hx : h.get? a = some o) (hc : o.cls = .ref C) (hq : Q (.done (.ret (.ref C))) ⟨h, g, d, t, os⟩) :
    wpAny (model prog w) A (Builtin.«object.__getattribute__» ⟨[.ref a, .str "__class__" tk], []⟩) Q E ⟨h, g, d, t, os⟩ := by
  have T0 : Looks (model prog w) h (typeOf (.ref a)) (.ref C) := hc ▸ (Looks.ld hx).andThen .now
  have T1 := looks_findIn (M := model prog w) X EC.cl
  have hT5 : (⟨h, g, d, t, os⟩ : Shared).TypeIs (.builtin "object.__class__") "getset_descriptor" := F.typeOf_object_class
  have f5 := F.typeOf_object_class
  have f6 := F.slot_gs_get.lookup
  have f7 := F.slot_gs_set.lookup
  repeat (any_goals (first | assumption | with_reducible refine Looks.at T0 ?_ | with_reducible refine Looks.at T1 ?_ | wp_step))
  refine xis_get X EC hx hc ?_
  repeat (any_goals (first | assumption | wp_step))
theorem xis_check {nameV : Value} {Q : Unit → Shared → Prop} {M : Model} (X : K.In h) (EC : ExcCls K C) (hx : h.get? a = some o) (hc : o.cls = .ref C) (hq : Q () ⟨h, g, d, t, os⟩) :
    wpAny M A (checkBuiltinCall "BaseException.__getattribute__" ⟨[.ref a, nameV], []⟩) Q E ⟨h, g, d, t, os⟩ := by
  have T0 : Looks M h (typeOf (.ref a)) (.ref C) := hc ▸ (Looks.ld hx).andThen .now
  have T1 := looks_mroIn (M := M) X EC.be
  have hk : builtinKind "BaseException.__getattribute__" = some .slot := by decide +kernel
  have hsp : splitId "BaseException.__getattribute__" = some ("BaseException", "__getattribute__") := by decide +kernel
  have ha := F.args_bexc_ga (.ref a) nameV
  simp only [checkBuiltinCall, hk, hsp]
  refine wpAny_bind ?_
  unfold isInstance
  repeat (first | with_reducible refine Looks.at T0 ?_ | with_reducible refine Looks.at T1 ?_ | wp_step)
  exact hq
theorem xis_call {tk : Tok} {R : Result → Shared → Prop} (X : K.In h) (EC : ExcCls K C) (hx : h.get? a = some o) (hc : o.cls = .ref C) (hq : R (.ok (.ret (.ref C))) ⟨h, g, d, t, os⟩) :
    codeAny (model prog w) A (.call (.builtin "BaseException.__getattribute__") ⟨[.ref a, .str "__class__" tk], []⟩) R ⟨h, g, d, t, os⟩ :=
  codeAny_call_builtin (F.excAttr_ValueError.ga.plain) F.entry_bexc_ga (xis_check X EC hx hc (xis_entry X EC hx hc hq))
theorem xis_by {tk : Tok} {fill expr : Bool} {Q : Value → Shared → Prop} (X : K.In h) (EC : ExcCls K C) (hx : h.get? a = some o) (hc : o.cls = .ref C) (hq : Q (.ref C) ⟨h, g, d, t, os⟩) :
    wpAny (model prog w) A (getAttrBy (.ref a) (.str "__class__" tk) fill expr) Q E ⟨h, g, d, t, os⟩ := by
  have T0 : Looks (model prog w) h (typeOf (.ref a)) (.ref C) := hc ▸ (Looks.ld hx).andThen .now
  have T1 := looks_findIn (M := model prog w) X EC.ga
  have T2 := looks_findIn (M := model prog w) X EC.gt
  have f3 := F.excAttr_ValueError.ga.bind (.ref a)
  have y0 : (expr && onTheHeap (Value.builtin "BaseException.__getattribute__")) = false := by cases expr <;> rfl
  have y2 : (Value.builtin "BaseException.__getattribute__" == Value.builtin "object.__getattribute__") = false := by decide +kernel
  have y1 : (onTheHeap (Value.ref C) && Value.builtin "BaseException.__getattribute__" == Value.builtin "object.__getattribute__") = false := by rw [y2]; rfl
  repeat (any_goals (first | assumption | with_reducible refine Looks.at T0 ?_ | with_reducible refine Looks.at T1 ?_ | with_reducible refine Looks.at T2 ?_ | wp_step))
  refine xis_call X EC hx hc ?_
  repeat (any_goals (first | assumption | wp_step))
theorem xis_attr {Q : Option Value → Shared → Prop} (X : K.In h) (EC : ExcCls K C) (hx : h.get? a = some o) (hc : o.cls = .ref C) (hq : Q (some (.ref C)) ⟨h, g, d, t + 1, os⟩) :
    wpAny (model prog w) A (getAttr? (.ref a) "__class__") Q E ⟨h, g, d, t, os⟩ := by
  unfold getAttr? getAttrBy?
  repeat (any_goals (first | assumption | with_reducible apply xis_by X EC hx hc | wp_step))
end
noncomputable def ExcAt (a C : Addr) (h : Heap) : Prop := ∃ o, h.get? a = some o ∧ o.cls = .ref C
theorem kitx_exc {K : PySem.W.Frag} {a C : Addr} (EC : ExcCls K C) : KitX K (.ref a) (.ref C) (ExcAt a C) where
  ty := fun _ _ _ ⟨_, e, c⟩ => c ▸ (Looks.ld e).andThen .now
  it := fun _ _ X _ => by
    obtain ⟨cd, hcd⟩ := Option.isSome_iff_exists.mp EC.cls
    unfold clsIn at hcd
    split at hcd
    · rename_i ho
      intro A' Q' E' s' k q
      unfold isType loadHead
      exact wpAny_bind (wpAny_loadPart (k _ _ (X _ _ ho)) (wpAny_pure q))
    · cases hcd
  ne := fun h tp dd its n sl X htp => by
    obtain ⟨cd, hcd⟩ := Option.isSome_iff_exists.mp EC.cls
    refine Bool.eq_false_iff.mpr fun q => ?_
    have e : C = tp := Value.ref.inj (beq_iff_eq.mp q)
    subst e
    unfold clsIn at hcd
    split at hcd
    · rename_i ho
      have z := (X _ _ ho).symm.trans htp
      cases z
    · cases hcd
  ca := fun {_ _ _ _ _ s} X p k => by
    obtain ⟨h, g, d, t, os⟩ := s
    obtain ⟨o, e, c⟩ := p
    exact xis_attr X EC e c k

section
variable {X : Cx}
/-- a class as a value -/
noncomputable def clV : V → Option Value
  | .ref C => some (.ref C)
  | .ty T => some (.type T)
  | _ => none
theorem clV_rel {c : V} {v u : Value} (h : clV c = some v) (r : RelV c u) : u = v := by
  cases c with
  | ref C => cases h; exact r
  | ty T => cases h; exact r
  | _ => cases h
/-- isinstance(error, C) -/
theorem call_isE : CallR X (.builtin "isinstance") (fun xs H Q => ∃ ad C c v b, xs = [.ref ad, c] ∧ H ad = some (ExO ad (.ref C)) ∧ ExcCls X.K C ∧ clV c = some v ∧ kitOne X.K (.ref C) v = some b ∧ Q (.bl b) H) := by
  intro pins s σ H xs us Q I r h
  obtain ⟨ad, C, c, v, b, rfl, hH, EC, hv, e, q⟩ := h
  obtain ⟨u, u', rfl, rx, rc⟩ := vals2 r
  cases rx
  obtain rfl := clV_rel hv rc
  obtain ⟨⟨o, vs, e1, e2, e3⟩, _, _⟩ := (show ObjOk X.prog X.w H s.heap ad (ExO ad (.ref C)) from I.hok ad _ hH)
  exact kia_one (kitx_exc EC) I.kIn ⟨o, e1, e2⟩ e (fun z => nomatch z) fun tk => ⟨.bl b, H, I.tok tk, rfl, q⟩
end
end L2
/-! LIST COMPREHENSIONS (own text, over the layer's contexts). -/
namespace L2
open PySem PySem.Spec PyProof.Rows

/-! ### the closure -/
theorem closure_of {env : Env} : ∀ (names : List (Str × NameKind)) (cs : List (Str × Addr)), (∀ n, (n, NameKind.free) ∈ names → ∃ c, env.cells.lookup n = some c) → (∀ x c, cs.lookup x = some c → env.cells.lookup x = some c) →
    ∃ cl, (forIn names cs fun (x : Str × NameKind) (r : List (Str × Addr)) => (if (x.2 == NameKind.free) = true then do let c ← cellOf env x.1; pure (ForInStep.yield ((x.1, c) :: r)) else pure (ForInStep.yield r) : Sem (ForInStep (List (Str × Addr))))) = pure cl ∧
      (∀ x c, cl.lookup x = some c → env.cells.lookup x = some c) ∧ (∀ n, ((n, NameKind.free) ∈ names ∨ (cs.lookup n).isSome = true) → ∃ c, cl.lookup n = some c) ∧ (∀ x c, (x, c) ∈ cl → (env.cells.lookup x = some c ∧ (x, NameKind.free) ∈ names) ∨ (x, c) ∈ cs)
  | [], cs, _, h => ⟨cs, rfl, h, (fun n hn => by
      rcases hn with hn | hn
      · exact absurd hn (by simp)
      · exact Option.isSome_iff_exists.mp hn), fun x c m => .inr m⟩
  | (n, k) :: r, cs, hf, h => by
    by_cases hk : k = .free
    · subst hk
      obtain ⟨c, hc⟩ := hf n List.mem_cons_self
      obtain ⟨cl, e, h1, h2, h3⟩ := closure_of r ((n, c) :: cs) (fun m hm => hf m (List.mem_cons_of_mem _ hm)) (fun x c' hx => by
        rw [List.lookup_cons] at hx
        cases q : x == n with
        | true =>
          rw [q] at hx
          have e1 : x = n := by simpa using q
          cases hx
          rw [e1]; exact hc
        | false => rw [q] at hx; exact h x c' hx)
      refine ⟨cl, ?_, h1, fun m hm => h2 m ?_, fun x c' m => ?_⟩
      rotate_left 2
      · rcases h3 x c' m with ⟨q1, q2⟩ | m
        · exact .inl ⟨q1, List.mem_cons_of_mem _ q2⟩
        · rcases List.mem_cons.mp m with e | m
          · cases e
            exact .inl ⟨hc, List.mem_cons_self⟩
          · exact .inr m
      · rw [List.forIn_cons]
        have hco : cellOf env n = pure c := by unfold cellOf; rw [hc]
        simp only [beq_self_eq_true, if_true, hco, pure_bind]
        exact e
      · rcases hm with hm | hm
        · rcases List.mem_cons.mp hm with z | z
          · cases z
            right
            rw [List.lookup_cons]
            simp
          · exact .inl z
        · right
          rw [List.lookup_cons]
          cases q : m == n with
          | true => rfl
          | false => exact hm
    · obtain ⟨cl, e, h1, h2, h3⟩ := closure_of r cs (fun m hm => hf m (List.mem_cons_of_mem _ hm)) h
      refine ⟨cl, ?_, h1, fun m hm => h2 m ?_, fun x c' m => (h3 x c' m).imp (fun q => ⟨q.1, List.mem_cons_of_mem _ q.2⟩) id⟩
      · rw [List.forIn_cons]
        have : (k == NameKind.free) = false := by simpa using hk
        simp only [this, Bool.false_eq_true, if_false, pure_bind]
        exact e
      · rcases hm with hm | hm
        · rcases List.mem_cons.mp hm with z | z
          · cases z; exact absurd rfl hk
          · exact .inl z
        · exact .inr hm
theorem closureFor_of {env : Env} {scope : Scope} (hf : ∀ n, (n, NameKind.free) ∈ scope.names → ∃ c, env.cells.lookup n = some c) :
    ∃ cl, closureFor scope env = pure cl ∧ (∀ x c, cl.lookup x = some c → env.cells.lookup x = some c) ∧ (∀ n, (n, NameKind.free) ∈ scope.names → ∃ c, cl.lookup n = some c) ∧ (∀ x c, (x, c) ∈ cl → env.cells.lookup x = some c ∧ (x, NameKind.free) ∈ scope.names) := by
  obtain ⟨cl, e, h1, h2, h3⟩ := closure_of (env := env) scope.names [] hf (fun x c h => by simp at h)
  refine ⟨cl, ?_, h1, fun n hn => h2 n (.inl hn), fun x c m => (h3 x c m).elim id fun z => absurd z (by simp)⟩
  unfold closureFor
  simp only [bind_pure]
  exact e

/-! ### the names -/
/-- the outer names N with their scope; the block's names N' (k own ones first, then those from around at the places fr) with its scope -/
structure CompScope (N : List Str) (so : Scope) (N' : List Str) (scope : Scope) (k : Nat) (fr : List Nat) : Prop where
  kind : scope.kind = .function
  cels : ∀ y ∈ scope.names, y.2 = .cell → scope.names.lookup y.1 = some .cell ∧ (y.1, NameKind.free) ∉ scope.names
  locs : ∀ y ∈ scope.names, y.2 = .local → scope.names.lookup y.1 = some .local
  outer : ∀ y ∈ scope.names, y.2 = .free → (so.names.lookup y.1 = some .cell ∨ so.names.lookup y.1 = some .free)
  len : N'.length = k + fr.length
  at_ : ∀ t, t < fr.length → (fr[t]?).bind (fun j => N[j]?) = N'[k + t]?
  fre : ∀ x ∈ N'.drop k, scope.names.lookup x = some .free
noncomputable def stC (k : Nat) (fr : List Nat) (σ : St) : St := List.replicate k none ++ fr.map fun j => (σ[j]?).join

/-- the block's context -/
noncomputable def cxC (X : Cx) (N : List Str) (scope : Scope) (cl : List (Str × Addr)) (C : Addr) (s : Shared) (H : Hp) (ex : List Addr) : Cx where
  prog := X.prog
  w := X.w
  K := X.K
  mg := X.mg
  base := X.base
  A := X.A
  N := N
  s₀ := s
  H₀ := H
  env := compEnvC scope cl C X.env
  outer := X.stack
  stack := X.stack
  ex := ex
  calm := X.calm
  fn := fun x => scope.names.lookup x == some .cell
  pn := []
  xe := fun _ _ => False

theorem lookup_relabel_free {env : Env} : ∀ {names : List (Str × NameKind)} {x : Str}, names.lookup x = some .free →
    (names.map fun (n, k) => if (k == NameKind.free && env.scope.kind == .function && env.kindOf n == some .cell) then (n, NameKind.cell) else (n, k)).lookup x = some .cell ∨
    (names.map fun (n, k) => if (k == NameKind.free && env.scope.kind == .function && env.kindOf n == some .cell) then (n, NameKind.cell) else (n, k)).lookup x = some .free
  | [], _, h => by simp at h
  | (n, k) :: r, x, h => by
    have ih := @lookup_relabel_free env r x
    show List.lookup x ((if (k == NameKind.free && env.scope.kind == .function && env.kindOf n == some .cell) = true then (n, NameKind.cell) else (n, k)) :: _) = _ ∨ List.lookup x ((if (k == NameKind.free && env.scope.kind == .function && env.kindOf n == some .cell) = true then (n, NameKind.cell) else (n, k)) :: _) = _
    cases hx : x == n with
    | true =>
      simp only [List.lookup_cons, hx] at h
      cases h
      by_cases hc : (NameKind.free == NameKind.free && env.scope.kind == .function && env.kindOf n == some .cell) = true
      · rw [if_pos hc]; left; simp [List.lookup_cons, hx]
      · rw [if_neg hc]; right; simp [List.lookup_cons, hx]
    | false =>
      simp only [List.lookup_cons, hx] at h
      by_cases hc : (k == NameKind.free && env.scope.kind == .function && env.kindOf n == some .cell) = true
      · rw [if_pos hc]; simp only [List.lookup_cons, hx]; exact ih h
      · rw [if_neg hc]; simp only [List.lookup_cons, hx]; exact ih h
theorem relabel_back {env : Env} : ∀ {names : List (Str × NameKind)} {x : Str},
    ((names.map fun (n, k) => if (k == NameKind.free && env.scope.kind == .function && env.kindOf n == some .cell) then (n, NameKind.cell) else (n, k)).lookup x = some .cell ∨
    (names.map fun (n, k) => if (k == NameKind.free && env.scope.kind == .function && env.kindOf n == some .cell) then (n, NameKind.cell) else (n, k)).lookup x = some .free) → (x, NameKind.free) ∈ names ∨ (x, NameKind.cell) ∈ names
  | [], _, h => by simp at h
  | (n, k) :: r, x, h => by
    have ih := @relabel_back env r x
    have up : ((x, NameKind.free) ∈ r ∨ (x, NameKind.cell) ∈ r) → ((x, NameKind.free) ∈ (n, k) :: r ∨ (x, NameKind.cell) ∈ (n, k) :: r) := fun z => z.imp (List.mem_cons_of_mem _) (List.mem_cons_of_mem _)
    have h : List.lookup x ((if (k == NameKind.free && env.scope.kind == .function && env.kindOf n == some .cell) = true then (n, NameKind.cell) else (n, k)) :: _) = _ ∨ List.lookup x ((if (k == NameKind.free && env.scope.kind == .function && env.kindOf n == some .cell) = true then (n, NameKind.cell) else (n, k)) :: _) = _ := h
    cases hx : x == n with
    | true =>
      have e1 : x = n := by simpa using hx
      subst e1
      by_cases hc : (k == NameKind.free && env.scope.kind == .function && env.kindOf x == some .cell) = true
      · have : k = .free := by
          simp only [Bool.and_eq_true] at hc
          simpa using hc.1.1
        subst this
        exact .inl List.mem_cons_self
      · rw [if_neg hc] at h
        simp only [List.lookup_cons, hx] at h
        rcases h with h | h
        · cases h; exact .inr List.mem_cons_self
        · cases h; exact .inl List.mem_cons_self
    | false =>
      by_cases hc : (k == NameKind.free && env.scope.kind == .function && env.kindOf n == some .cell) = true
      · rw [if_pos hc] at h; simp only [List.lookup_cons, hx] at h; exact up (ih h)
      · rw [if_neg hc] at h; simp only [List.lookup_cons, hx] at h; exact up (ih h)
/-! ### cells of a block's own names -/
theorem cells_own : ∀ (names : List (Str × NameKind)) (h : Heap) (acc : List (Str × Addr)) (x : Str) (c : Addr), (x, c) ∈ cellsFrom h.objs.size names acc →
    (x, c) ∈ acc ∨ (h.objs.size ≤ c ∧ (pushCells h names).IsCell c none ∧ (x, NameKind.cell) ∈ names)
  | [], h, acc, x, c, m => .inl m
  | (n, k) :: r, h, acc, x, c, m => by
    unfold cellsFrom at m
    unfold pushCells
    by_cases hk : (k == NameKind.cell) = true
    · rw [if_pos hk] at m ⊢
      have ih := cells_own r (h.push { cls := .type "cell", data := .cell none }) ((n, h.objs.size) :: acc) x c
      rw [Heap.size_push] at ih
      rcases ih m with m | ⟨q1, q2, q3⟩
      · rcases List.mem_cons.mp m with e | m
        · cases e
          have hk : k = .cell := by simpa using hk
          subst hk
          refine .inr ⟨Nat.le_refl _, ?_, List.mem_cons_self⟩
          have q : (h.push { cls := .type "cell", data := .cell none }).IsCell h.objs.size none := ⟨_, Heap.get?_push_size _ rfl, rfl⟩
          exact q.keeps fun b o e => pushCells_keeps r _ b o e
        · exact .inl m
      · exact .inr ⟨by omega, q2, List.mem_cons_of_mem _ q3⟩
    · rw [if_neg hk] at m ⊢
      rcases cells_own r h acc x c m with m | ⟨q1, q2, q3⟩
      · exact .inl m
      · exact .inr ⟨q1, q2, List.mem_cons_of_mem _ q3⟩
theorem cells_inj : ∀ (names : List (Str × NameKind)) (n lo : Nat) (acc : List (Str × Addr)), (∀ x c, (x, c) ∈ acc → c < n) → (∀ x y c, lo ≤ c → (x, c) ∈ acc → (y, c) ∈ acc → x = y) →
    ∀ x y c, lo ≤ c → (x, c) ∈ cellsFrom n names acc → (y, c) ∈ cellsFrom n names acc → x = y
  | [], n, lo, acc, h1, h2, x, y, c, hl, m1, m2 => h2 x y c hl m1 m2
  | (z, k) :: r, n, lo, acc, h1, h2, x, y, c, hl, m1, m2 => by
    unfold cellsFrom at m1 m2
    by_cases hk : (k == NameKind.cell) = true
    · rw [if_pos hk] at m1 m2
      refine cells_inj r (n + 1) lo _ (fun x c m => ?_) (fun x y c hl m1 m2 => ?_) x y c hl m1 m2
      · rcases List.mem_cons.mp m with e | m
        · cases e; exact Nat.lt_succ_self _
        · exact Nat.lt_succ_of_lt (h1 x c m)
      · rcases List.mem_cons.mp m1 with e1 | m1 <;> rcases List.mem_cons.mp m2 with e2 | m2
        · cases e1; cases e2; rfl
        · cases e1; exact absurd (h1 _ _ m2) (Nat.lt_irrefl _)
        · cases e2; exact absurd (h1 _ _ m1) (Nat.lt_irrefl _)
        · exact h2 x y c hl m1 m2
    · rw [if_neg hk] at m1 m2
      exact cells_inj r n lo acc h1 h2 x y c hl m1 m2
theorem cells_skip : ∀ (names : List (Str × NameKind)) (n : Nat) (acc : List (Str × Addr)) (x : Str), (x, NameKind.cell) ∉ names → (cellsFrom n names acc).lookup x = acc.lookup x
  | [], n, acc, x, _ => rfl
  | (z, k) :: r, n, acc, x, h => by
    have hr : (x, NameKind.cell) ∉ r := fun m => h (List.mem_cons_of_mem _ m)
    unfold cellsFrom
    by_cases hk : (k == NameKind.cell) = true
    · rw [if_pos hk, cells_skip r _ _ x hr, List.lookup_cons]
      have hk : k = .cell := by simpa using hk
      subst hk
      have : (x == z) = false := by
        cases q : x == z with
        | false => rfl
        | true =>
          have e : x = z := by simpa using q
          subst e
          exact absurd List.mem_cons_self h
      rw [this]
    · rw [if_neg hk]
      exact cells_skip r n acc x hr
theorem cells_has : ∀ (names : List (Str × NameKind)) (n : Nat) (acc : List (Str × Addr)) (x : Str), ((x, NameKind.cell) ∈ names ∨ (acc.lookup x).isSome = true) → ((cellsFrom n names acc).lookup x).isSome = true
  | [], n, acc, x, h => by
    rcases h with h | h
    · simp at h
    · exact h
  | (z, k) :: r, n, acc, x, h => by
    unfold cellsFrom
    by_cases hk : (k == NameKind.cell) = true
    · rw [if_pos hk]
      refine cells_has r _ _ x ?_
      rcases h with h | h
      · rcases List.mem_cons.mp h with e | h
        · cases e
          right
          rw [List.lookup_cons]
          simp
        · exact .inl h
      · right
        rw [List.lookup_cons]
        cases q : x == z with
        | true => rfl
        | false => exact h
    · rw [if_neg hk]
      refine cells_has r _ _ x ?_
      rcases h with h | h
      · rcases List.mem_cons.mp h with e | h
        · cases e; exact absurd rfl hk
        · exact .inl h
      · exact .inr h
section
variable {M : Model} {A : Around} {E : Value → Shared → Prop} {s : Shared}
theorem wpAny_newEnv_comp {scope : Scope} {globals : Addr} {closure : List (Str × Addr)} {qual : Str} {func : Option Addr} {code : Value} {outer : Env} {Q : Env → Shared → Prop}
    (hQ : Q (newEnv scope s.heap.objs.size globals (cellsFrom (s.heap.objs.size + 1) scope.names closure) qual func code (some outer) builtinsNs)
      { s with heap := pushCells (s.heap.push { cls := .type "dict", data := .dict #[] }) scope.names }) :
    wpAny M A (newFunctionEnv scope globals closure [] qual func code (some outer)) Q E s := by
  simp only [newFunctionEnv, Option.isSome_some, if_true]
  refine wpAny_bind (wpAny_alloc ?_)
  refine wpAny_bind (wpAny_layCells _ (fun name kind cells => by cases hkc : kind == NameKind.cell <;> simp [hkc]) _ _ _ _ ?_)
  rw [show ({ s with heap := s.heap.push { cls := .type "dict", data := .dict #[] } } : Shared).heap.objs.size = s.heap.objs.size + 1 from Heap.size_push ..]
  refine wpAny_bind ?_
  rw [List.forIn_nil]
  exact wpAny_pure (wpAny_pure hQ)
end
/-- the cells that a block sees: those from around, and its own, which are new -/
structure BlkC (X : Cx) (scope : Scope) (cl : List (Str × Addr)) (lo : Nat) (C : Addr) (h1 : Heap) : Prop where
  old : ∀ x c, cl.lookup x = some c → X.env.cells.lookup x = some c ∨ (lo ≤ c ∧ C < c ∧ h1.IsCell c none)
  inj : ∀ x y c, C < c → cl.lookup x = some c → cl.lookup y = some c → x = y
  has : ∀ n, (n, NameKind.free) ∈ scope.names ∨ (n, NameKind.cell) ∈ scope.names → ∃ c, cl.lookup n = some c
  fre : ∀ n, scope.names.lookup n = some .free → ∀ c, cl.lookup n = some c → X.env.cells.lookup n = some c
  own : ∀ x c, scope.names.lookup x = some .cell → cl.lookup x = some c → lo ≤ c
section
variable {X : Cx} {pins : List (Addr × Obj)} {σ : St} {H : Hp} {s : Shared} {N' : List Str} {scope : Scope} {k : Nat} {fr : List Nat} {cl : List (Str × Addr)}
theorem compOk {C : Addr} {fp : List Addr} {h1 : Heap} (I : Inv X pins σ H s) (S : CompScope X.N X.env.scope N' scope k fr) (B : BlkC X scope cl s.heap.objs.size C h1)
    (hC : s.heap.objs.size ≤ C) (f2 : ∀ b ∈ fp, FpOk X pins H b) (lt : ∀ b ∈ fp, b < s.heap.objs.size) : (cxC X N' scope cl C s H fp).Ok where
  mod := I.ok.mod
  kind := S.kind
  glob := I.ok.glob
  blt := I.ok.blt
  above := hC
  inj := fun x y c h1 h2 => by
    rcases B.old _ _ h1 with o1 | o1 <;> rcases B.old _ _ h2 with o2 | o2
    · exact I.ok.inj x y c o1 o2
    · exact B.inj x y c o2.2.1 h1 h2
    · exact B.inj x y c o1.2.1 h1 h2
    · exact B.inj x y c o1.2.1 h1 h2
  has := fun x hx => B.has x (relabel_back hx)
  cab := fun x c z e => B.own x c (by
    have z : (scope.names.lookup x == some NameKind.cell) = true := z
    simpa using z) e
  hd := I.ok.hd
  frames := I.ok.frames
  stk := .inl rfl
  exf := fun b hb => ⟨Nat.ne_of_lt (Nat.lt_of_lt_of_le (lt b hb) hC), fun x c e => (B.old _ _ e).elim (fun o => (f2 b hb).2.2.2.2.1 x c o) fun o => Nat.ne_of_gt (Nat.lt_of_lt_of_le (lt b hb) o.1)⟩
  bs := I.bs
  bsz := Nat.le_trans I.ok.bsz I.sz
  noex := fun b o e hb => by
    rcases (f2 b hb).2.2.2.1 with z | z
    · exact I.ok.noex b o e z
    · exact absurd (Nat.lt_of_lt_of_le (Heap.lt_size e) (Nat.le_trans I.ok.bsz z)) (Nat.lt_irrefl _)
  exfs := fun b hb z => by
    rcases List.mem_cons.mp (I.stkSub b z) with q | q
    · exact (f2 b hb).2.1 q
    · exact (f2 b hb).2.2.1 q
  funs := I.stack
  frf := I.stkFree
theorem compInv {C : Addr} {fp : List Addr} {h1 : Heap} {tk : Nat} {m : Str → Option Value} (I : Inv X pins σ H s) (S : CompScope X.N X.env.scope N' scope k fr) (B : BlkC X scope cl s.heap.objs.size C h1)
    (hC : s.heap.objs.size ≤ C) (f2 : ∀ b ∈ fp, FpOk X pins H b) (lt : ∀ b ∈ fp, b < s.heap.objs.size) (old : ∀ b o, s.heap.get? b = some o → h1.get? b = some o) (hn : h1.Ns C m) :
    Inv (cxC X N' scope cl C s H fp) [] (stC k fr σ) H { s with heap := h1, toks := tk } := by
  refine ⟨compOk I S B hC f2 lt, rfl, I.bare, Un.kept old, ⟨m, hn, fun i x v e1 e2 e3 => ?_⟩, fun x c e => ?_, I.hok.fresh hC, fun x c e => (B.old _ _ e).elim (fun o => I.freeC x c o) fun o => I.hok.fresh o.1, fun p hp => absurd (show p ∈ ([] : List (Addr × Obj)) from hp) (by simp), I.hok.kept old, ?_⟩
  · have e1 : N'[i]? = some x := e1
    unfold stC at e2
    by_cases hi : i < k
    · rw [List.getElem?_append_left (by simpa using hi), List.getElem?_replicate, if_pos hi] at e2
      cases e2
    · rw [List.getElem?_append_right (by simpa using hi), List.length_replicate, List.getElem?_map] at e2
      cases q : fr[i - k]? with
      | none => rw [q] at e2; cases e2
      | some j =>
        rw [q] at e2
        have e2 : (σ[j]?).join = some v := Option.some.inj e2
        have ej : σ[j]? = some (some v) := by
          cases z : σ[j]? with
          | none => rw [z] at e2; cases e2
          | some o => rw [z] at e2; exact congrArg some e2
        have hlt : i - k < fr.length := (List.getElem?_eq_some_iff.mp q).1
        have hat := S.at_ (i - k) hlt
        rw [q, show k + (i - k) = i by omega, e1] at hat
        have hat : X.N[j]? = some x := hat
        have hxm : x ∈ N'.drop k := List.mem_iff_getElem?.mpr ⟨i - k, by rw [List.getElem?_drop, show k + (i - k) = i by omega]; exact e1⟩
        have hfr := S.fre x hxm
        have hmem : (x, NameKind.free) ∈ scope.names := PySem.mem_of_lookup hfr
        have hout := S.outer _ hmem rfl
        obtain ⟨m0, hn0, hl0⟩ := I.loc
        obtain ⟨u, r, l⟩ := hl0 j x v hat ej (.inr hout)
        refine ⟨u, r, .inr ⟨lookup_relabel_free hfr, ?_⟩⟩
        rcases l with ⟨kk, _⟩ | ⟨_, c, e, z⟩
        · have kk : X.env.scope.names.lookup x = some .local := kk
          rcases hout with q1 | q1
          · rw [kk] at q1; cases q1
          · rw [kk] at q1; cases q1
        · obtain ⟨c', e'⟩ := B.has x (.inl hmem)
          have ec := B.fre x hfr _ e'
          rw [e] at ec
          cases ec
          obtain ⟨ob, ho, hd⟩ := z
          exact ⟨c, e', ob, old _ _ ho, hd⟩
  · rcases B.old _ _ e with o | o
    · obtain ⟨v, ob, ho, hd⟩ := I.cell x c o
      exact ⟨v, ob, old _ _ ho, hd⟩
    · exact ⟨none, o.2.2⟩
  · unfold stC
    rw [List.length_append, List.length_replicate, List.length_map]
    exact S.len.symm
end

/-! ### one turn, with the step ahead of the store -/
section
variable {prog : Program} {w : World} {A : Around} {E : Value → Shared → Prop} {R : Result → Shared → Prop} {s : Shared}
theorem codeAny_compLoop_any {elt target iter : Expr} {ifs : List Expr} {scope : Scope} {pos : Pos} {it acc : Value} {env : Env} (I : Nat → Shared → Prop)
    (turn : ∀ n s, I n s → wpAny (model prog w) A (pyNext it) (fun r s₁ => match r with
      | none => R (.ok .next) s₁
      | some v => wpAny (model prog w) A (letOwnedTupleGo target it v) (fun _ s₁' => wpAny (model prog w) A (assign target env v) (fun _ s₂ =>
          wpAny (model prog w) A (forIn ifs true fun c r => if r = true then do let ok ← isTrue c env (eval c env); pure (ForInStep.yield ok) else pure (ForInStep.yield r)) (fun ok s₃ =>
            if ok = true then wpAny (model prog w) A (eval elt env) (fun x s₄ =>
              wpAny (model prog w) A (call (.builtin "list.append") [acc, x]) (fun _ s₅ => ∃ m, m < n ∧ I m s₅) (fun _ _ => False) s₄) (notedBy (model prog w) A env fun x s' => R (.error x) s') s₃
            else ∃ m, m < n ∧ I m s₃) (fun _ _ => False) s₂) (fun _ _ => False) s₁') (fun _ _ => False) s₁) (fun _ _ => False) s)
    (n : Nat) (h : I n s) :
    codeAny (model prog w) A (.compLoop (.ListComp elt [⟨target, iter, ifs, 0⟩] scope pos) 0 it acc env) R s := by
  refine codeAny_loop rfl I (fun n s hI => ?_) n h
  show wpAny _ A ((compTurn (.ListComp elt [⟨target, iter, ifs, 0⟩] scope pos) 0 it acc env).onRaise (fun x => do noteFrame x env; theTreesLotGoes x)) _ _ s
  refine wpAny_noted ?_
  rw [compTurn_list]
  refine wpAny_bind (wpAny_standAt (wpAny_bind (wpAny_mono (turn n s hI) (fun r s₁ h₁ => ?_) fun _ _ h' => h'.elim)))
  cases r with
  | none => exact wpAny_pure h₁
  | some v =>
    refine wpAny_bind (wpAny_mono h₁ (fun _ s₁' h₁' => ?_) fun _ _ h' => h'.elim)
    refine wpAny_bind (wpAny_mono h₁' (fun _ s₂ h₂ => wpAny_bind (wpAny_mono h₂ (fun ok s₃ h₃ => ?_) fun _ _ h' => h'.elim)) fun _ _ h' => h'.elim)
    cases ok with
    | false => exact wpAny_pure ⟨rfl, h₃⟩
    | true =>
      exact wpAny_bind (wpAny_bind (wpAny_mono h₃ (fun x s₄ h₄ => wpAny_bind (wpAny_mono h₄ (fun _ s₅ h₅ => wpAny_pure (wpAny_pure ⟨rfl, h₅⟩)) fun _ _ h' => h'.elim)) fun _ _ h' => h'))
end

/-! ### the tests of a clause -/
noncomputable def PTs (X : Cx) (ifs : List Expr) (t : TT) : Prop :=
  ∀ (pins : List (Addr × Obj)) (s : Shared) (σ : St) (H : Hp) (Q : Bool → Hp → Prop), Inv X pins σ H s → t σ H Q →
    wpAny (model X.prog X.w) X.A (forIn ifs true fun c r => if r = true then do let ok ← isTrue c X.env (eval c X.env); pure (ForInStep.yield ok) else pure (ForInStep.yield r)) (TP X pins σ Q) X.xe s
noncomputable def tYes : TT := fun _ H Q => Q true H
theorem pts_nil {X : Cx} : PTs X [] tYes := fun _ _ _ H _ I h => wpAny_tests_nil ⟨H, I, h⟩
theorem pts_one {X : Cx} {c : Expr} {t : TT} (h : PT X c t) : PTs X [c] t := fun pins s σ H Q I hq => wpAny_tests_one (h pins s σ H Q I hq)

/-! ### the block -/
section
variable {X : Cx}
/-- W: the invariant by the turn, a measure, the items so far, the block's names, the heap (the new list is not yet in it) -/
noncomputable def tBlock (J : It) (g : TG) (tc : TT) (te : TE) (σ0 : St) (H1 : Hp) (fin : List V → Hp → Prop) : Prop :=
  ∃ W : Nat → Nat → List V → St → Hp → Prop, (∃ m, W 0 m [] σ0 H1) ∧ ∀ i m ys σ2 H2, W i m ys σ2 H2 →
    (J.stop i H2 ∧ fin ys H2) ∨
    (J.go i H2 ∧ ∀ x H3, J.yld i H2 x H3 → g x σ2 H3 fun σ3 H4 => tc σ3 H4 fun b H5 => if b = true then te σ3 H5 fun y H6 => ys.length < sizeLine ∧ ∃ m', m' < m ∧ W (i + 1) m' (ys ++ [y]) σ3 H6 else ∃ m', m' < m ∧ W (i + 1) m' ys σ3 H5)
noncomputable def lstObj (its : List Value) (n : Nat) : Obj := { cls := .type "list", data := .seq its.toArray n }
theorem block_in {elt target iter : Expr} {ifs : List Expr} {scope : Scope} {pos : Pos} {g : TG} {tc : TT} {te : TE} {k : Nat} {fr : List Nat} {N' : List Str} {cl : List (Str × Addr)} {pins : List (Addr × Obj)} {σ : St} {H2 : Hp} {s2 : Shared}
    {it : Addr} {fp : List Addr} {tn : Nat → Heap → Prop} {J : It} {fin : List V → Hp → Prop} {R0 : Result → Shared → Prop} {XE : List (Str × Addr) → Addr → Shared → Hp → List Addr → Value → Shared → Prop}
    (hc : X.calm = true) (S : CompScope X.N X.env.scope N' scope k fr) (c1 : ∀ x c, cl.lookup x = some c → X.env.cells.lookup x = some c) (c2 : ∀ n, (n, NameKind.free) ∈ scope.names → ∃ c, cl.lookup n = some c) (cin : ∀ x c, (x, c) ∈ cl → ∃ y, X.env.cells.lookup y = some c) (cno : ∀ x, (x, NameKind.cell) ∈ scope.names → ∀ c, (x, c) ∉ cl)
    (hg : ∀ cl C s H ex, PG (cxC X N' scope cl C s H ex) target g) (ht : ∀ cl C s H ex, PTs (cxC X N' scope cl C s H ex) ifs tc) (he : ∀ cl C s H ex, PE ((cxC X N' scope cl C s H ex).wish (XE cl C s H ex)) elt te)
    (I2 : Inv X pins σ H2 s2) (T : Turn X.prog X.w X.K target J fp it tn) (st2 : tn 0 s2.heap) (f2 : ∀ b ∈ fp, FpOk X pins H2 b) (hb : tBlock J g tc te (stC k fr σ) H2 fin)
    (hR : ∀ (C : Addr), C = (s2.heap.push { cls := .type "list", dict := none, data := .seq ([] : List Value).toArray }).objs.size → ∀ (s' : Shared) (m : Str → Option Value) (ys : List V) (its : List Value) (n : Nat) (H' : Hp), s2.heap.objs.size < C → s'.heap.Ns C m → Vals ys its → ys.length ≤ sizeLine → s'.heap.get? s2.heap.objs.size = some (lstObj its n) → H' s2.heap.objs.size = none → H' C = none → fin ys H' →
      s'.os = s2.os → AllBare s'.gens → Un (frs X.stack) fp H2 H' s2.heap s'.heap → HOk X.prog X.w H' s'.heap → R0 (.ok .next) s')
    (hE : ∀ cl C x s', C = (s2.heap.push { cls := .type "list", dict := none, data := .seq ([] : List Value).toArray }).objs.size → s2.heap.objs.size < C → XE cl C s2 H2 fp x s' → notedBy (model X.prog X.w) X.A (compEnvC scope cl C X.env) (fun y s'' => R0 (.error y) s'') x s') :
    codeAny (model X.prog X.w) X.A (.compStart (.ListComp elt [⟨target, iter, ifs, 0⟩] scope pos) 0 (.ref it) (.ref s2.heap.objs.size) (compEnvC scope (cellsFrom ((s2.heap.push { cls := .type "list", dict := none, data := .seq ([] : List Value).toArray }).objs.size + 1) scope.names cl) (s2.heap.push { cls := .type "list", dict := none, data := .seq ([] : List Value).toArray }).objs.size X.env)) R0 { s2 with heap := pushCells ((s2.heap.push { cls := .type "list", dict := none, data := .seq ([] : List Value).toArray }).push { cls := .type "dict", data := .dict #[] }) scope.names } := by
  obtain ⟨W, ⟨m0, w0⟩, turn⟩ := hb
  have lt : ∀ b ∈ fp, b < s2.heap.objs.size := fun b hb => by
    obtain ⟨o, e, _⟩ := T.obj _ _ st2 b hb
    exact Heap.lt_size e
  generalize hH2 : s2.heap.push { cls := .type "list", dict := none, data := .seq ([] : List Value).toArray } = G2 at hR hE ⊢
  have hCs : G2.objs.size = s2.heap.objs.size + 1 := by rw [← hH2, Heap.size_push]
  have hDC : s2.heap.objs.size ≠ G2.objs.size := by rw [hCs]; exact Nat.ne_of_lt (Nat.lt_succ_self _)
  have hC : s2.heap.objs.size ≤ G2.objs.size := by rw [hCs]; exact Nat.le_succ _
  have old : ∀ b o, s2.heap.get? b = some o → (pushCells (G2.push { cls := .type "dict", data := .dict #[] }) scope.names).get? b = some o := fun b o e => by
    refine pushCells_keeps _ _ b o (Heap.get?_push_of_some _ ?_)
    rw [← hH2]
    exact Heap.get?_push_of_some _ e
  have hacc : (pushCells (G2.push { cls := .type "dict", data := .dict #[] }) scope.names).get? s2.heap.objs.size = some (lstObj [] 0) := by
    refine pushCells_keeps _ _ _ _ (Heap.get?_push_of_some _ ?_)
    rw [← hH2]
    exact Heap.get?_push_size _ rfl
  have hns₁ : (pushCells (G2.push { cls := .type "dict", data := .dict #[] }) scope.names).Ns G2.objs.size fun _ => none := (Heap.Ns.new G2 (.type "dict")).keeps (pushCells_keeps _ _)
  have cl0 : ∀ x c, (x, c) ∈ cl → c < G2.objs.size + 1 := fun x c m => by
    obtain ⟨y, hy⟩ := cin x c m
    obtain ⟨v, q⟩ := I2.cell y c hy
    rw [hCs]
    exact Nat.lt_succ_of_lt (Nat.lt_succ_of_lt q.lt)
  have B : BlkC X scope (cellsFrom (G2.objs.size + 1) scope.names cl) s2.heap.objs.size G2.objs.size (pushCells (G2.push { cls := .type "dict", data := .dict #[] }) scope.names) := by
    have own := cells_own scope.names (G2.push { cls := .type "dict", data := .dict #[] }) cl
    rw [Heap.size_push] at own
    refine ⟨fun x c e => ?_, fun x y c hc h1 h2 => ?_, fun n hn => ?_, fun n hn c e => ?_, fun x c hx e => ?_⟩
    · by_cases hx : (x, NameKind.cell) ∈ scope.names
      · rcases own x c (PySem.mem_of_lookup e) with m | ⟨q1, q2, _⟩
        · -- an outer name's cell cannot stand under a name of the block's own
          exfalso
          exact cno x hx c m
        · exact .inr ⟨Nat.le_trans hC (Nat.le_of_succ_le q1), q1, q2⟩
      · rw [cells_skip _ _ _ _ hx] at e
        exact .inl (c1 x c e)
    · exact cells_inj scope.names (G2.objs.size + 1) (G2.objs.size + 1) cl cl0 (fun x y c hl m1 _ => absurd (cl0 x c m1) (Nat.not_lt.mpr hl)) x y c hc (PySem.mem_of_lookup h1) (PySem.mem_of_lookup h2)
    · refine Option.isSome_iff_exists.mp (cells_has _ _ _ n ?_)
      rcases hn with hn | hn
      · obtain ⟨c, e⟩ := c2 n hn
        exact .inr (by rw [e]; rfl)
      · exact .inl hn
    · have hx : (n, NameKind.cell) ∉ scope.names := fun m => by
        have := (S.cels _ m rfl).1
        rw [hn] at this
        cases this
      rw [cells_skip _ _ _ _ hx] at e
      exact c1 n c e
    · have hx := PySem.mem_of_lookup hx
      rcases own x c (PySem.mem_of_lookup e) with m | ⟨q1, q2, _⟩
      · exact absurd m (cno x hx c)
      · exact Nat.le_trans hC (Nat.le_of_succ_le q1)
  generalize pushCells (G2.push { cls := .type "dict", data := .dict #[] }) scope.names = h₁ at *
  generalize cellsFrom (G2.objs.size + 1) scope.names cl = cl2 at *
  generalize hDd : s2.heap.objs.size = D at *
  generalize hCc : G2.objs.size = C at *
  have fD : H2 D = none := by rw [← hDd]; exact I2.hok.fresh (Nat.le_refl _)
  have cells : ∀ x c, cl2.lookup x = some c → c ≠ D := fun x c e => by
    rcases B.old _ _ e with o | o
    · obtain ⟨v, q⟩ := I2.cell x c o
      rw [← hDd]
      exact Nat.ne_of_lt q.lt
    · exact Nat.ne_of_gt (Nat.lt_trans (by rw [hCs]; exact Nat.lt_succ_self _) o.2.1)
  -- the loop's invariant
  have loop : ∀ (itv : Addr) (s3 : Shared), itv = it → (∃ tk, s3 = { s2 with heap := h₁, toks := tk }) →
      codeAny (model X.prog X.w) X.A (.compLoop (.ListComp elt [⟨target, iter, ifs, 0⟩] scope pos) 0 (.ref itv) (.ref D) (compEnvC scope cl2 C X.env)) R0 s3 := by
    rintro itv s3 rfl ⟨tk, rfl⟩
    have I3 : Inv (cxC X N' scope cl2 C s2 H2 fp) [] (stC k fr σ) H2 { s2 with heap := h₁, toks := tk } := compInv I2 S (by rw [hDd]; exact B) (by rw [hDd]; exact hC) f2 (by rw [hDd]; exact lt) old hns₁
    have stat : ∀ {H' : Hp} {o : Obj}, (∀ b ∈ fp, H' b = none) → ∀ b ∈ fp, FpOk (cxC X N' scope cl2 C s2 H2 fp) [(D, o)] H' b := fun {H' o} hn b hb =>
      ⟨hn b hb, Nat.ne_of_lt (Nat.lt_of_lt_of_le (lt b hb) hC), fun z => by
        rcases List.mem_cons.mp (I2.stkSub b z) with q | q
        · exact (f2 b hb).2.1 q
        · exact (f2 b hb).2.2.1 q, .inl hb, fun x c e => (B.old _ _ e).elim (fun o => (f2 b hb).2.2.2.2.1 x c o) (fun o => Nat.ne_of_gt (Nat.lt_of_lt_of_le (lt b hb) o.1)), fun p hp => by
        have e : p = (D, o) := by simpa [cxC] using hp
        rw [e]
        exact Nat.ne_of_gt (lt b hb)⟩
    have addD : ∀ {σ' : St} {H' : Hp} {s' : Shared} {o : Obj}, Inv (cxC X N' scope cl2 C s2 H2 fp) [] σ' H' s' → s'.heap.get? D = some o → H' D = none → (∀ v, o.data ≠ .cell v) → Inv (cxC X N' scope cl2 C s2 H2 fp) [(D, o)] σ' H' s' := fun {σ' H' s' o} I' e n hd =>
      I'.pins_of fun p hp => by
        have q : p = (D, o) := by simpa using hp
        subst q
        refine ⟨e, n, hDC, fun z => ?_, hd⟩
        obtain ⟨_, ob, ho, _⟩ := I2.stack.mem z
        exact absurd (Heap.lt_size ho) (by rw [hDd]; exact Nat.lt_irrefl _)
    have ndL : ∀ {its : List Value} {n : Nat} (v : Option Value), (lstObj its n).data ≠ .cell v := fun v z => by
      have z : Data.seq _ _ = Data.cell v := z
      cases z
    refine codeAny_compLoop_any (fun n s' => ∃ i ys σ' H' its cap, Inv (cxC X N' scope cl2 C s2 H2 fp) [] σ' H' s' ∧ tn i s'.heap ∧ (∀ b ∈ fp, H' b = none) ∧ s'.heap.get? D = some (lstObj its cap) ∧ H' D = none ∧ Vals ys its ∧ ys.length ≤ sizeLine ∧ W i n ys σ' H') ?_ m0
      ⟨0, [], _, H2, [], 0, I3, T.keep _ _ _ st2 (fun b _ o e => old b o e), fun b hb => (f2 b hb).1, hacc, fD, .nil, Nat.zero_le _, w0⟩
    rintro n s4 ⟨i, ys, σ4, H4, its, cap, I4, st4, fr4, hD4, nD4, vl4, sz4, w4⟩
    have I4' := addD I4 hD4 nD4 ndL
    rcases turn i n ys σ4 H4 w4 with ⟨stop, qf⟩ | ⟨go, step⟩
    · refine thn (T.done (cxC X N' scope cl2 C s2 H2 fp) rfl rfl rfl hc i _ s4 σ4 H4 _ I4' (stat fr4) st4 stop) fun r s5 ⟨hr, I5⟩ => ?_
      subst hr
      obtain ⟨m5, hn5, _⟩ := I5.loc
      exact hR C rfl s5 m5 ys its cap H4 (by rw [hCs]; exact Nat.lt_succ_self _) hn5 vl4 sz4 (I5.pin (D, lstObj its cap) (List.mem_append_right _ List.mem_cons_self)).1 nD4 I5.free qf I5.os I5.bare I5.base I5.hok
    · refine thn (T.item (cxC X N' scope cl2 C s2 H2 fp) rfl rfl rfl hc i _ s4 σ4 H4 _ I4' (stat fr4) st4 go) fun r s5 ⟨u, hr, h5⟩ => ?_
      subst hr
      refine thn h5 fun _ s6 ⟨x, H6, I6, r6, y6, st6, fr6⟩ => ?_
      have I6' := I6.pinned (stat fr6) (T.obj _ _ st6)
      refine thn (hg cl2 C s2 H2 fp _ s6 σ4 H6 x u _ I6' r6 (step x H6 y6)) fun _ s7 ⟨σ7, H7, I7, q7⟩ => ?_
      refine thn (ht cl2 C s2 H2 fp _ s7 σ7 H7 _ I7 q7) fun ok s8 ⟨H8, I8, q8⟩ => ?_
      -- what a pinned state tells of the iterator and of the list
      have back : ∀ {σ' : St} {H' : Hp} {s' : Shared}, Inv (cxC X N' scope cl2 C s2 H2 fp) ([(D, lstObj its cap)] ++ pinsAt fp s6.heap) σ' H' s' → tn (i + 1) s'.heap ∧ (∀ b ∈ fp, H' b = none) ∧ s'.heap.get? D = some (lstObj its cap) ∧ H' D = none := fun {σ' H' s'} I' => by
        have pD := I'.pin (D, lstObj its cap) (List.mem_append_right _ (List.mem_append_left _ (by simp)))
        refine ⟨T.keep _ _ _ st6 fun b hb o e => (I'.pin (b, o) (List.mem_append_right _ (List.mem_append_right _ (mem_pinsAt hb e)))).1, fun b hb => ?_, pD.1, pD.2.1⟩
        obtain ⟨o, e, d⟩ := T.obj _ _ st6 b hb
        exact (I'.pin (b, o) (List.mem_append_right _ (List.mem_append_right _ (mem_pinsAt hb e)))).2.1
      cases ok with
      | false =>
        rw [if_neg Bool.false_ne_true]
        rw [if_neg Bool.false_ne_true] at q8
        obtain ⟨m', hm, w8⟩ := q8
        obtain ⟨b1, b2, b3, b4⟩ := back I8
        exact ⟨m', hm, i + 1, ys, σ7, H8, its, cap, I8.pins_of (fun p hp => absurd hp (by simp)), b1, b2, b3, b4, vl4, sz4, w8⟩
      | true =>
        rw [if_pos rfl]
        rw [if_pos rfl] at q8
        refine wpAny_mono (he cl2 C s2 H2 fp _ s8 σ7 H8 _ (I8.wish _) q8) (fun y s9 ⟨z, H9, I9, r9, hlt, m', hm, w9⟩ => ?_) fun x s' hx => hE cl2 C x s' rfl (by rw [hCs]; exact Nat.lt_succ_self _) hx
        have I9 := I9.unwish
        obtain ⟨b1, b2, b3, b4⟩ := back I9
        have hl := vl4.length
        refine call_meets F.slot_list_append ⟨_, b3, rfl⟩ F.entry_list_append (F.args_list_append_2 _ _) (PySem.list_append D its.toArray cap y (by rw [List.size_toArray]; omega)) ⟨b3, ?_⟩
        obtain ⟨c', q⟩ : ∃ c', (s9.heap.update D (Obj.mapSeq fun x => x.push y)).get? D = some (lstObj (its ++ [y]) c') := by
          have q := PySem.IsL.update b3 (fun x => x.push y)
          rw [show its.toArray.push y = (its ++ [y]).toArray by simp] at q
          exact ⟨_, q⟩
        have I9' : Inv (cxC X N' scope cl2 C s2 H2 fp) [] σ7 H9 s9 := I9.pins_of (fun p hp => absurd hp (by simp))
        have kp : ∀ b o, b ≠ D → s9.heap.get? b = some o → (s9.heap.update D (Obj.mapSeq fun x => x.push y)).get? b = some o := fun b o hb e => (Heap.get?_update_other s9.heap (Obj.mapSeq fun x => x.push y) (Ne.symm hb)).trans e
        have I10 := I9'.turned (t' := s9.toks) (it := D) (h' := s9.heap.update D (Obj.mapSeq fun x => x.push y)) kp b4 hDC (.inr (by show s2.heap.objs.size ≤ D; rw [hDd]; exact Nat.le_refl _)) (fun x c e => cells x c e) (fun p hp => absurd hp (by simp [cxC]))
        refine ⟨m', hm, i + 1, ys ++ [z], σ7, H9, its ++ [y], c', I10, T.keep _ _ _ b1 (fun b hb o e => kp b o (Nat.ne_of_lt (lt b hb)) e), b2, q, b4, vl4.append (.cons r9 .nil), ?_, w9⟩
        · rw [List.length_append, List.length_singleton]
          omega
  exact codeAny_compStart_list (loop it _ rfl ⟨_, rfl⟩) (T.self _ 0 _ _ _ (T.keep _ _ _ st2 (fun b _ o e => old b o e)) (loop it _ rfl ⟨_, rfl⟩))

theorem block_run {elt target iter : Expr} {ifs : List Expr} {scope : Scope} {pos : Pos} {g : TG} {tc : TT} {te : TE} {k : Nat} {fr : List Nat} {N' : List Str} {cl : List (Str × Addr)} {pins : List (Addr × Obj)} {σ : St} {H2 : Hp} {s2 : Shared}
    {it : Addr} {fp : List Addr} {tn : Nat → Heap → Prop} {J : It} {E : Value → Shared → Prop} {fin : List V → Hp → Prop} {RR : Value → Addr → Result → Shared → Prop} {XE : List (Str × Addr) → Addr → Shared → Hp → List Addr → Value → Shared → Prop}
    (hc : X.calm = true) (S : CompScope X.N X.env.scope N' scope k fr) (c1 : ∀ x c, cl.lookup x = some c → X.env.cells.lookup x = some c) (c2 : ∀ n, (n, NameKind.free) ∈ scope.names → ∃ c, cl.lookup n = some c) (cin : ∀ x c, (x, c) ∈ cl → ∃ y, X.env.cells.lookup y = some c) (cno : ∀ x, (x, NameKind.cell) ∈ scope.names → ∀ c, (x, c) ∉ cl)
    (hg : ∀ cl C s H ex, PG (cxC X N' scope cl C s H ex) target g) (ht : ∀ cl C s H ex, PTs (cxC X N' scope cl C s H ex) ifs tc) (he : ∀ cl C s H ex, PE ((cxC X N' scope cl C s H ex).wish (XE cl C s H ex)) elt te)
    (I2 : Inv X pins σ H2 s2) (T : Turn X.prog X.w X.K target J fp it tn) (st2 : tn 0 s2.heap) (f2 : ∀ b ∈ fp, FpOk X pins H2 b) (hb : tBlock J g tc te (stC k fr σ) H2 fin)
    (hR : ∀ (C : Addr) (s' : Shared) (m : Str → Option Value) (ys : List V) (its : List Value) (n : Nat) (H' : Hp), s2.heap.objs.size < C → s'.heap.Ns C m → Vals ys its → ys.length ≤ sizeLine → s'.heap.get? s2.heap.objs.size = some (lstObj its n) → H' s2.heap.objs.size = none → H' C = none → fin ys H' →
      s'.os = s2.os → AllBare s'.gens → Un (frs X.stack) fp H2 H' s2.heap s'.heap → HOk X.prog X.w H' s'.heap → RR (.ref s2.heap.objs.size) C (.ok .next) s')
    (hE : ∀ cl C x s', s2.heap.objs.size < C → XE cl C s2 H2 fp x s' → notedBy (model X.prog X.w) X.A (compEnvC scope cl C X.env) (fun y s'' => RR (.ref s2.heap.objs.size) C (.error y) s'') x s') :
    wpAny (model X.prog X.w) X.A (newList []) (fun acc s₃ => wpAny (model X.prog X.w) X.A (newFunctionEnv scope X.env.globals cl [] X.env.qual none .none (some X.env)) (fun cenv s₄ =>
      codeAny (model X.prog X.w) X.A (.compStart (.ListComp elt [⟨target, iter, ifs, 0⟩] scope pos) 0 (.ref it) acc { cenv with scope := relabel scope X.env }) (RR acc cenv.locals) s₄) E s₃) E s2 := by
  refine wpAny_newObj_type (wpAny_newEnv_comp ?_)
  exact block_in (R0 := RR _ _) hc S c1 c2 cin cno hg ht he I2 T st2 f2 hb (fun C e => by subst e; exact hR _) (fun cl C x s' e => by subst e; exact hE cl _ x s')

/-- behind the block: the list is tracked -/
theorem comp_back {fp : List Addr} {pins : List (Addr × Obj)} {σ : St} {H2 H' : Hp} {s2 s' : Shared} {C : Addr} {ys : List V} {its : List Value} {n : Nat} {h' : Heap} (I2 : Inv X pins σ H2 s2) (f2 : ∀ b ∈ fp, FpOk X pins H2 b) (hC : s2.heap.objs.size < C)
    (vl : Vals ys its) (sz : ys.length ≤ sizeLine) (hD : s'.heap.get? s2.heap.objs.size = some (lstObj its n)) (nD : H' s2.heap.objs.size = none) (nC : H' C = none)
    (os : s'.os = s2.os) (bare : AllBare s'.gens) (un : Un (frs X.stack) fp H2 H' s2.heap s'.heap) (hok : HOk X.prog X.w H' s'.heap) (hs : Heap.SameBut C s'.heap h') :
    Inv X pins σ (upd H' s2.heap.objs.size (.lst ys)) { s' with heap := h' } := by
  have ltC : ∀ b o, s2.heap.get? b = some o → b ≠ C := fun b o e => Nat.ne_of_lt (Nat.lt_trans (Heap.lt_size e) hC)
  have ltD : ∀ b o, s2.heap.get? b = some o → b ≠ s2.heap.objs.size := fun b o e => Nat.ne_of_lt (Heap.lt_size e)
  have tk : ∀ b u, H' b = some u → b ≠ s2.heap.objs.size := fun b u e z => by rw [z, nD] at e; cases e
  have tC : ∀ b u, H' b = some u → b ≠ C := fun b u e z => by rw [z, nC] at e; cases e
  have fD : H2 s2.heap.objs.size = none := I2.hok.fresh (Nat.le_refl _)
  have t2 : ∀ b u, H2 b = some u → b ≠ s2.heap.objs.size := fun b u e z => by rw [z, fD] at e; cases e
  refine I2.call' (s' := { s' with heap := h' }) (ch := fp) os ⟨fun b o e m hb hx => ?_, fun b o e m hb hx => ?_, fun b o e m hx => ?_, fun b o e hx => ?_, fun b xs e => ?_, fun b o u e => ?_, fun b ps e => ?_⟩ (fun b u e => ?_) bare fun b hb => ?_
  · exact (hs.2 b (ltC b o e)).trans (un.keep b o e m hb hx)
  · obtain ⟨sl, q⟩ := un.slot b o e m hb hx
    exact ⟨sl, (hs.2 b (ltC b o e)).trans q⟩
  · rw [upd_ne (ltD b o e)]
    exact un.free b o e m hx
  · obtain ⟨o', q⟩ := un.there b o e hx
    exact ⟨o', (hs.2 b (ltC b o e)).trans q⟩
  · rw [upd_ne (t2 b _ e)]
    exact un.tups b xs e
  · rw [upd_ne (t2 b _ e)]
    exact un.frzs b o u e
  · obtain ⟨mo, q⟩ := un.tbls b ps e
    exact ⟨mo, by rw [upd_ne (t2 b _ e)]; exact q⟩
  · by_cases hb : b = s2.heap.objs.size
    · subst hb
      rw [upd_same] at e
      cases e
      exact ⟨sz, its, n, vl, (hs.2 _ (Nat.ne_of_lt hC)).trans hD⟩
    · rw [upd_ne hb] at e
      exact (hok b u e).stay (fun c v hc q => (hs.2 c (by
        rcases hc with rfl | hc
        · exact tC _ _ e
        · exact tC _ _ hc)).trans q) (fun c r => by rw [upd_ne (tk _ _ r)]; exact r) fun c xs r => by rw [upd_ne (tk _ _ r)]; exact r
  · exact ⟨(f2 b hb).2.2.2.1, (f2 b hb).2.1, (f2 b hb).2.2.2.2.1, (f2 b hb).2.2.2.2.2⟩

noncomputable def tComp (wi : TI) (g : TG) (tc : TT) (te : TE) (k : Nat) (fr : List Nat) : TE := fun σ H Q => wi σ H fun J H1 => tBlock J g tc te (stC k fr σ) H1 fun ys H2 => ∀ D, H1 D = none → H2 D = none → Q (.ref D) (upd H2 D (.lst ys))
theorem pe_comp {elt target iter : Expr} {ifs : List Expr} {scope so : Scope} {pos : Pos} {wi : TI} {g : TG} {tc : TT} {te : TE} {k : Nat} {fr : List Nat} {N N' : List Str} (hc : X.calm = true) (hN : X.N = N) (hso : X.env.scope = so) (S : CompScope N so N' scope k fr)
    (hi : PI X target iter wi) (hg : ∀ cl C s H ex, PG (cxC X N' scope cl C s H ex) target g) (ht : ∀ cl C s H ex, PTs (cxC X N' scope cl C s H ex) ifs tc) (he : ∀ cl C s H ex, PE (cxC X N' scope cl C s H ex) elt te)
    (hs : ∀ x, foldedSetIterable iter X.env x = pure x := by intro _; rfl) : PE X (.ListComp elt [⟨target, iter, ifs, 0⟩] scope pos) (tComp wi g tc te k fr) := by
  subst hN hso
  intro pins s σ H Q I h
  rw [eval_ListComp]
  obtain ⟨cl, hcl, c1, c2, c3⟩ := closureFor_of (env := X.env) (scope := scope) fun n hn => I.ok.has n (S.outer _ hn rfl)
  refine wpAny_comprehension_free (use := none) (cl := cl) rfl hs hcl S.kind S.locs ?_
  refine thn (hi pins s σ H _ I h) fun v s1 h1 => thn h1 fun itv s2 h2 => ?_
  obtain ⟨it, fp, tn, J, H2, rfl, I2, T, st2, f2, hb⟩ := h2
  refine block_run (RR := fun acc C => compPost (model X.prog X.w) X.A X.xe none (EP X pins σ Q) acc C) hc S c1 c2 (fun x c m => ⟨x, (c3 x c m).1⟩) (fun x hx c m => (S.cels _ hx rfl).2 (c3 x c m).2) (XE := fun _ _ _ _ _ _ _ => False) hg ht he I2 T st2 f2 hb ?_ (fun _ _ _ _ _ z => False.elim z)
  intro C s' m ys its n H' hC hn vl sz hD nD nC fin os bare un hok
  exact ⟨m, hn, fun h' hs' => ⟨.ref _, _, comp_back I2 f2 hC vl sz hD nD nC os bare un hok hs', rfl, fin _ (I2.hok.fresh (Nat.le_refl _)) nD⟩⟩
/-- name = [ .. ]: the store comes ahead of the names' going -/
theorem ps_setC {elt target iter : Expr} {ifs : List Expr} {scope so : Scope} {pos spos py : Pos} {wi : TI} {g : TG} {tc : TT} {te : TE} {k : Nat} {fr : List Nat} {N N' : List Str} {y : Str} {i : Nat} (hc : X.calm = true) (hN : X.N.Nodup) (hy : X.N[i]? = some y) (hl : X.env.scope.names.lookup y = some .local)
    (hNN : X.N = N) (hso : X.env.scope = so) (S : CompScope N so N' scope k fr)
    (hi : PI X target iter wi) (hg : ∀ cl C s H ex, PG (cxC X N' scope cl C s H ex) target g) (ht : ∀ cl C s H ex, PTs (cxC X N' scope cl C s H ex) ifs tc) (he : ∀ cl C s H ex, PE (cxC X N' scope cl C s H ex) elt te)
    (hsw : swapsWith (.ListComp elt [⟨target, iter, ifs, 0⟩] scope pos) (some (.Name y py)) spos.line X.env = pure true := by rfl)
    (hs : ∀ x, foldedSetIterable iter X.env x = pure x := by intro _; rfl) : PS X (.Assign [.Name y py] (.ListComp elt [⟨target, iter, ifs, 0⟩] scope pos) spos) (tAsg (tComp wi g tc te k fr) (gName i)) := by
  subst hNN hso
  intro pins s σ H D I h
  rw [exec_Assign_Name_used _ _ _ _ hsw]
  obtain ⟨cl, hcl, c1, c2, c3⟩ := closureFor_of (env := X.env) (scope := scope) fun n hn => I.ok.has n (S.outer _ hn rfl)
  refine wpAny_bind (wpAny_standAt (wpAny_bind ?_))
  show wpAny _ X.A (do let _ ← comprehension (.ListComp elt [⟨target, iter, ifs, 0⟩] scope pos) scope X.env _ (newList []) false (eval iter X.env) (some (assign (.Name y py) X.env))) _ _ s
  refine wpAny_bind (wpAny_mono (wpAny_comprehension_free (use := some (assign (.Name y py) X.env)) (Q := fun _ s' => SP X pins D .next s') (cl := cl) rfl hs hcl S.kind S.locs ?_) (fun _ s' hq => wpAny_pure (wpAny_pure hq)) fun _ _ e => e)
  refine thn (hi pins s σ H _ I h) fun v s1 h1 => thn h1 fun itv s2 h2 => ?_
  obtain ⟨it, fp, tn, J, H2, rfl, I2, T, st2, f2, hb⟩ := h2
  refine block_run (RR := fun acc C => compPost (model X.prog X.w) X.A X.xe (some (assign (.Name y py) X.env)) (fun _ s' => SP X pins D .next s') acc C) hc S c1 c2 (fun x c m => ⟨x, (c3 x c m).1⟩) (fun x hx c m => (S.cels _ hx rfl).2 (c3 x c m).2) (XE := fun _ _ _ _ _ _ _ => False) hg ht he I2 T st2 f2 hb ?_ (fun _ _ _ _ _ z => False.elim z)
  intro C s' m ys its n H' hC hn vl sz hD nD nC fin os bare un hok
  have I3 : Inv X pins σ (upd H' s2.heap.objs.size (.lst ys)) s' := comp_back (h' := s'.heap) I2 f2 hC vl sz hD nD nC os bare un hok (.refl ..)
  refine wpAny_assign_Name (store_ok2 (v := .ref s2.heap.objs.size) I3 hN hy (.inl hl) rfl (fun s4 I4 ch => ?_) (.inr hl))
  have ltL : X.env.locals < s2.heap.objs.size := I2.lt
  obtain ⟨a, hsa, ha⟩ := ch
  have aC : a ≠ C := by
    rcases ha with rfl | ha
    · exact Nat.ne_of_lt (Nat.lt_trans ltL hC)
    · obtain ⟨v, q⟩ := I2.cell _ _ ha
      exact Nat.ne_of_lt (Nat.lt_trans q.lt hC)
  refine ⟨m, hn.sameBut hsa (Ne.symm aC), fun h' hs' => ⟨_, _, ?_, fin _ (I2.hok.fresh (Nat.le_refl _)) nD⟩⟩
  -- the block's names go
  have nC4 : (upd H' s2.heap.objs.size (.lst ys)) C = none := by rw [upd_ne (Nat.ne_of_gt hC)]; exact nC
  exact I4.turned (t' := s4.toks) (it := C) (h' := h') (fun b o hb e => (hs'.2 b hb).trans e) nC4 (Nat.ne_of_gt (Nat.lt_trans ltL hC)) (.inr (Nat.le_trans I2.sz (Nat.le_of_lt hC))) (fun x c e z => by
    obtain ⟨v, q⟩ := I2.cell x c e
    exact absurd (Nat.lt_trans q.lt hC) (by rw [z]; exact Nat.lt_irrefl _)) (fun p hp z => by
    have := Heap.lt_size (I2.pin p hp).1
    rw [z] at this
    exact absurd (Nat.lt_trans this hC) (Nat.lt_irrefl _))
end

/-! ### the forms one uses -/
/-- J walks n items, as long as Ok holds of the heap -/
structure Src (J : It) (Ok : Hp → Prop) (n : Nat) (Item : Nat → V → Hp → Hp → Prop) : Prop where
  go : ∀ i H, i < n → Ok H → J.go i H
  yld : ∀ i H x H3, i < n → Ok H → J.yld i H x H3 → Item i x H H3
  stop : ∀ H, Ok H → J.stop n H
theorem src_list {K : PySem.W.Frag} {a : Addr} {xs : List V} {Ok : Hp → Prop} (h : ∀ H, Ok H → SqL K H a xs) : Src (Itl K a) Ok xs.length (fun i x H H3 => H3 = H ∧ xs[i]? = some x) where
  go := fun i H hi ok => ⟨xs, xs[i], h H ok, by simp [hi]⟩
  yld := fun i H x H3 hi ok ⟨e, y⟩ => ⟨e, y xs (h H ok)⟩
  stop := fun H ok => ⟨xs, h H ok, Nat.le_refl _⟩
theorem src_range {lo : Int} {n : Nat} {Ok : Hp → Prop} : Src (Itr lo n) Ok n (fun i x H H3 => H3 = H ∧ x = .int (lo + i)) where
  go := fun _ _ hi _ => hi
  yld := fun _ _ _ _ _ _ y => y
  stop := fun _ _ => Nat.le_refl _
theorem block_src {J : It} {g : TG} {tc : TT} {te : TE} {σ0 : St} {H1 : Hp} {fin : List V → Hp → Prop} {n : Nat} {Item : Nat → V → Hp → Hp → Prop} (S : Src J (Same H1) n Item) (Own : St → Prop) (h0 : Own σ0) (P : Nat → List V → Hp → Prop) (p0 : P 0 [] H1) (hz : n ≤ sizeLine)
    (hs : ∀ i x σ H ys H3 (Q : St → V → Hp → Prop) (N : St → Hp → Prop), i < n → Same H1 H → P i ys H → ys.length ≤ i → Own σ → Item i x H H3 →
      (∀ σ3 y H6, Own σ3 → Same H1 H6 → P (i + 1) (ys ++ [y]) H6 → Q σ3 y H6) → (∀ σ3 H5, Own σ3 → Same H1 H5 → P (i + 1) ys H5 → N σ3 H5) →
      g x σ H3 fun σ3 H4 => tc σ3 H4 fun b H5 => if b = true then te σ3 H5 fun y H6 => Q σ3 y H6 else N σ3 H5)
    (hfin : ∀ ys H, Same H1 H → P n ys H → ys.length ≤ n → fin ys H) : tBlock J g tc te σ0 H1 fin := by
  refine ⟨fun i m ys σ H => m = n - i ∧ i ≤ n ∧ ys.length ≤ i ∧ Own σ ∧ Same H1 H ∧ P i ys H, ⟨n, by simp, Nat.zero_le _, Nat.le_refl _, h0, Same.refl _, p0⟩, ?_⟩
  rintro i m ys σ H ⟨rfl, hi, hl, ow, sm, p⟩
  by_cases hlt : i < n
  · refine .inr ⟨S.go i H hlt sm, fun x H3 y => hs i x σ H ys H3 (fun σ3 y H6 => ys.length < sizeLine ∧ ∃ m', m' < n - i ∧ m' = n - (i + 1) ∧ i + 1 ≤ n ∧ (ys ++ [y]).length ≤ i + 1 ∧ Own σ3 ∧ Same H1 H6 ∧ P (i + 1) (ys ++ [y]) H6)
      (fun σ3 H5 => ∃ m', m' < n - i ∧ m' = n - (i + 1) ∧ i + 1 ≤ n ∧ ys.length ≤ i + 1 ∧ Own σ3 ∧ Same H1 H5 ∧ P (i + 1) ys H5) hlt sm p hl ow (S.yld i H x H3 hlt sm y) (fun σ3 y H6 o s6 q => ?_) (fun σ3 H5 o s5 q => ?_)⟩
    · exact ⟨by omega, n - (i + 1), by omega, rfl, hlt, by rw [List.length_append, List.length_singleton]; omega, o, s6, q⟩
    · exact ⟨n - (i + 1), by omega, rfl, hlt, by omega, o, s5, q⟩
  · have e : i = n := by omega
    subst e
    exact .inl ⟨S.stop H sm, hfin ys H sm p hl⟩
/-- a plain map, one name: each item by itself -/
theorem comp_map {J : It} {te : TE} {tl : St} {H1 : Hp} {fin : List V → Hp → Prop} {n : Nat} {Item : Nat → V → Hp → Hp → Prop} (S : Src J (Same H1) n Item) (sub : ∀ i x H H3, Item i x H H3 → Same H H3) (hz : n ≤ sizeLine)
    (R : Nat → V → Hp → Prop) (mono : ∀ i y H H', Same H H' → R i y H → R i y H')
    (hs : ∀ i x w H H3 (Q : VK), i < n → Same H1 H → Item i x H H3 → (∀ y H6, Same H3 H6 → R i y H6 → Q y H6) → te ((w :: tl).set 0 (some x)) H3 Q)
    (hfin : ∀ ys H, Same H1 H → ys.length = n → (∀ i y, ys[i]? = some y → R i y H) → fin ys H) : tBlock J (gName 0) tYes te (none :: tl) H1 fin := by
  refine ⟨fun i m ys σ H => m = n - i ∧ i ≤ n ∧ ys.length = i ∧ (∃ w, σ = w :: tl) ∧ Same H1 H ∧ ∀ j y, ys[j]? = some y → R j y H, ⟨n, by simp, Nat.zero_le _, rfl, ⟨_, rfl⟩, Same.refl _, fun j y e => by simp at e⟩, ?_⟩
  rintro i m ys σ H ⟨rfl, hi, hl, ⟨w, rfl⟩, sm, p⟩
  by_cases hlt : i < n
  · refine .inr ⟨S.go i H hlt sm, fun x H3 y => ?_⟩
    have it := S.yld i H x H3 hlt sm y
    have s3 := sub i x H H3 it
    unfold gName tYes
    refine iteT ?_
    refine hs i x w H H3 _ hlt sm it fun y H6 s6 r => ⟨by omega, n - (i + 1), by omega, rfl, hlt, by rw [List.length_append, List.length_singleton]; omega, ⟨_, rfl⟩, sm.trans (s3.trans s6), fun j z e => ?_⟩
    by_cases hj : j < i
    · rw [List.getElem?_append_left (by omega)] at e
      exact mono j z _ _ (s3.trans s6) (p j z e)
    · rw [List.getElem?_append_right (by omega)] at e
      have e2 : j - ys.length = 0 := by
        by_cases q : j - ys.length = 0
        · exact q
        · rw [List.getElem?_eq_none (by simp; omega)] at e; cases e
      rw [e2] at e
      simp at e
      subst e
      have : j = i := by omega
      subst this
      exact r
  · have e : i = n := by omega
    subst e
    exact .inl ⟨S.stop H sm, hfin ys H sm hl p⟩
/-- a loop's body over what J walks -/
noncomputable def tForB (J : It) (g : TG) (tb : TS) (D : Ends) (σ : St) (H : Hp) : Prop :=
  ∃ W : Nat → Nat → St → Hp → Prop, (∃ m, W 0 m σ H) ∧ ∀ i m σ H, W i m σ H →
    (J.stop i H ∧ D.nx σ H) ∨ (J.go i H ∧ ∃ N : St → Hp → Prop, (∀ σ' H', N σ' H' → ∃ m', m' < m ∧ W (i + 1) m' σ' H') ∧ ∀ x H', J.yld i H x H' → g x σ H' fun σ2 H2 => tb { D with nx := N, ct := N, bk := D.nx } σ2 H2)
theorem tFor_eq {wi : TI} {g : TG} {tb : TS} {D : Ends} {σ : St} {H : Hp} : tFor wi g tb D σ H = wi σ H fun J H1 => tForB J g tb D σ H1 := rfl
theorem for_src {J : It} {g : TG} {tb : TS} {D : Ends} {σ : St} {H : Hp} {n : Nat} {Item : Nat → V → Hp → Hp → Prop} {Ok : Hp → Prop} (S : Src J Ok n Item) (Pv : Nat → St → Hp → Prop) (h0 : Pv 0 σ H) (hok : ∀ i σ H, i ≤ n → Pv i σ H → Ok H)
    (hs : ∀ i x σ H H3, i < n → Pv i σ H → Item i x H H3 → g x σ H3 fun σ2 H2 => tb { D with nx := Pv (i + 1), ct := Pv (i + 1), bk := D.nx } σ2 H2) (hd : ∀ σ H, Pv n σ H → D.nx σ H) : tForB J g tb D σ H := by
  refine ⟨fun i m σ H => m = n - i ∧ i ≤ n ∧ Pv i σ H, ⟨n, by simp, Nat.zero_le _, h0⟩, ?_⟩
  rintro i m σ H ⟨rfl, hi, p⟩
  by_cases hlt : i < n
  · exact .inr ⟨S.go i H hlt (hok i σ H hi p), Pv (i + 1), fun σ' H' p' => ⟨n - (i + 1), by omega, rfl, hlt, p'⟩, fun x H' y => hs i x σ H H' hlt p (S.yld i H x H' hlt (hok i σ H hi p) y)⟩
  · have e : i = n := by omega
    subst e
    exact .inl ⟨S.stop H (hok i σ H hi p), hd σ H p⟩
end L2
/-! WHAT ELSE IS WALKED: zip, enumerate; an untracked object is tracked; several records turn. -/
namespace L2
open PySem PySem.Spec PyProof.Rows

section
variable {X : Cx} {pins : List (Addr × Obj)} {σ : St} {H : Hp} {s : Shared}
/-- records of ours at ch have turned -/
theorem Inv.moved {h' : Heap} {t' : Nat} {ch : List Addr} (I : Inv X pins σ H s) (f : ∀ b ∈ ch, FpOk X pins H b) (k : ∀ b o, b ∉ ch → s.heap.get? b = some o → h'.get? b = some o) : Inv X pins σ H { s with heap := h', toks := t' } := by
  have nch : ∀ b u, H b = some u → b ∉ ch := fun b u e z => by rw [(f b z).1] at e; cases e
  refine I.step (g' := s.gens) (d' := s.drawn) (ch := ch) (fun b hb => ⟨(f b hb).2.2.2.1, (f b hb).2.1, (f b hb).2.2.2.2.1, (f b hb).2.2.2.2.2⟩) (fun b o _ _ hc e _ => k b o hc e) (fun b o _ _ hc e _ => ⟨o.slots, k b o hc e⟩) (fun _ _ _ _ n => n)
    (fun b o hc e => ⟨o, k b o hc e⟩) (fun _ _ e => e) (fun _ _ _ e => e) (fun b ps e => ⟨#[], by rw [e]; simp⟩) (fun m hm => ?_) (fun b u e => ?_) I.bare
  · obtain ⟨o, es, ep, ho, r⟩ := hm
    exact ⟨o, es, ep, k _ o (fun z => (f _ z).2.1 rfl) ho, r⟩
  · refine (I.hok b u e).stay (fun c v hc q => k c v ?_ q) (fun _ q => q) fun _ _ q => q
    rcases hc with z | z
    · rw [z]; exact nch b u e
    · exact nch c _ z
/-- an object that nobody tracks is tracked from now on -/
theorem Inv.take {ad : Addr} {o : HO} (I : Inv X pins σ H s) (f : FpOk X pins H ad) (new : X.s₀.heap.objs.size ≤ ad) (ok : ObjOk X.prog X.w (upd H ad o) s.heap ad o) : Inv X pins σ (upd H ad o) s := by
  obtain ⟨hn, nL, nf, _, nc, np⟩ := f
  have tk : ∀ b u, H b = some u → b ≠ ad := fun b u e z => by rw [z, hn] at e; cases e
  refine ⟨I.ok, I.os, I.bare, ⟨I.base.keep, I.base.slot, fun b ob e m hx => ?_, I.base.there, fun b xs e => ?_, fun b ob u e => ?_, fun b ps e => ?_⟩, I.loc, I.cell, ?_, fun x c e => ?_, fun p hp => ?_, fun b u e => ?_, I.len⟩
  · rw [upd_ne (Nat.ne_of_lt (Nat.lt_of_lt_of_le (Heap.lt_size e) new))]
    exact I.base.free b ob e m hx
  · have q := I.base.tups b xs e
    rw [upd_ne (tk b _ q)]; exact q
  · have q := I.base.frzs b ob u e
    rw [upd_ne (tk b _ q)]; exact q
  · obtain ⟨mo, q⟩ := I.base.tbls b ps e
    exact ⟨mo, by rw [upd_ne (tk b _ q)]; exact q⟩
  · rw [upd_ne (Ne.symm nL)]; exact I.free
  · rw [upd_ne (nc x c e)]; exact I.freeC x c e
  · obtain ⟨a, b, c⟩ := I.pin p hp
    exact ⟨a, by rw [upd_ne (np p hp)]; exact b, c⟩
  · by_cases hb : b = ad
    · subst hb
      rw [upd_same] at e
      cases e
      exact ok
    · rw [upd_ne hb] at e
      exact (I.hok b u e).stay (fun _ _ _ q => q) (fun c r => by rw [upd_ne (tk _ _ r)]; exact r) fun c xs r => by rw [upd_ne (tk _ _ r)]; exact r
end

/-! ### zip of two lists, in a loop whose target is a tuple -/
noncomputable def Itz (K : PySem.W.Frag) (a b : Addr) : It :=
  ⟨fun i H => ∃ xs ys x y, SqL K H a xs ∧ SqL K H b ys ∧ xs[i]? = some x ∧ ys[i]? = some y,
   fun i H v H' => ∃ p, H p = none ∧ v = .ref p ∧ ∃ x y, (∀ xs, SqL K H a xs → xs[i]? = some x) ∧ (∀ ys, SqL K H b ys → ys[i]? = some y) ∧ H' = upd H p (.tup [x, y]),
   fun i H => ∃ xs ys, SqL K H a xs ∧ SqL K H b ys ∧ (i = min xs.length ys.length)⟩
/-! ### enumerate of a list -/
noncomputable def Ite (K : PySem.W.Frag) (a : Addr) : It :=
  ⟨fun i H => ∃ xs x, SqL K H a xs ∧ xs[i]? = some x,
   fun i H v H' => ∃ p, H p = none ∧ v = .ref p ∧ ∃ x, (∀ xs, SqL K H a xs → xs[i]? = some x) ∧ H' = upd H p (.tup [.int i, x]),
   fun i H => ∃ xs, SqL K H a xs ∧ xs.length = i⟩
theorem turn_enum {P : Program} {w : World} {K : PySem.W.Frag} {elts : List Expr} {k : Nat} {pos : Pos} (e it a : Addr) (hei : e ≠ it) (hle : a ≠ e) (hli : a ≠ it) :
    Turn P w K (.Tuple elts k pos) (Ite K a) [e, it] e (fun i h => (∃ old, IsEnum h e it i old) ∧ h.IsListIter it a i) where
  mem := by simp
  obj := fun i h st c hc => by
    obtain ⟨⟨old, he⟩, ⟨o1, e1, _, d1⟩⟩ := st
    simp only [List.mem_cons, List.not_mem_nil, or_false] at hc
    rcases hc with rfl | rfl
    · exact ⟨_, he, fun v q => by cases q⟩
    · exact ⟨_, e1, fun v q => by rw [d1] at q; cases q⟩
  keep := fun i h h' st kp => by
    obtain ⟨⟨old, he⟩, h1⟩ := st
    exact ⟨⟨old, kp e (by simp) _ he⟩, h1.at fun o q => kp it (by simp) o q⟩
  item := by
    intro X hP hw hK hc i pins s σ H E I hf st hg
    subst hP hw hK
    obtain ⟨xs, x, hq1, hx⟩ := hg
    obtain ⟨its1, r1, p1, z1⟩ := I.list hq1
    obtain ⟨u, eu, ru⟩ := r1.get hx
    obtain ⟨he, h1⟩ := st
    have W := WalksT.enumerate (prog := X.prog) (w := X.w) (I.ok.hd hc) e it a hei hle hli its1.toArray
    have li : i < its1.toArray.size := by
      have a1 := (List.getElem?_eq_some_iff.mp eu).1
      simp only [List.size_toArray]
      omega
    refine W.item i s _ _ li ⟨he, h1, p1.isList⟩ fun T vals h' tk hpt hT hI hm kk => ?_
    have I1 : Inv X pins σ H { s with heap := h', toks := tk } := I.moved (ch := [e, it]) hf kk
    have fT : FpOk X pins H T := I.fpOk hT (I.hok.fresh hT)
    refine ⟨_, rfl, W.go elts k pos i T _ _ _ hm fun h2' st2 kk2 => ?_⟩
    have I2 : Inv X pins σ H { s with heap := h2', toks := tk } := I1.moved (s := { s with heap := h', toks := tk }) (t' := tk) (ch := [e, it]) hf kk2
    obtain ⟨t, x', ex, rfl⟩ := hpt
    have ex' : its1[i]? = some x' := by simpa using ex
    rw [eu] at ex'; cases ex'
    have apT := W.apart _ _ _ hm
    obtain ⟨oT, eT, cT, nT, dT⟩ := hI
    have hI2 : IsTup h2' T #[.int i t, u] := ⟨oT, kk2 _ _ apT eT, cT, nT, dT⟩
    have I3 : Inv X pins σ (upd H T (.tup [.int i, x])) { s with heap := h2', toks := tk } :=
      I2.take fT (Nat.le_trans I.sz hT) ⟨by show 2 ≤ sizeLine; decide, [.int i t, u], .cons ⟨t, rfl⟩ (.cons ru .nil), hI2⟩
    obtain ⟨b1, b2, _⟩ := st2
    refine ⟨.ref T, _, I3, rfl, ⟨T, fT.1, rfl, x, fun xs' q => ?_, rfl⟩, ⟨b1, b2⟩, fun c hc => ?_⟩
    · rw [I.list_inj q hq1]; exact hx
    · rw [upd_ne (fun q => ?_)]
      · exact (hf c hc).1
      · subst q
        obtain ⟨o, e, _⟩ : ∃ o, s.heap.get? c = some o ∧ True := by
          simp only [List.mem_cons, List.not_mem_nil, or_false] at hc
          obtain ⟨old, he⟩ := he
          obtain ⟨o1, e1, _⟩ := h1
          rcases hc with rfl | rfl
          · exact ⟨_, he, trivial⟩
          · exact ⟨_, e1, trivial⟩
        exact absurd (Heap.lt_size e) (Nat.not_lt.mpr hT)
  done := by
    intro X hP hw hK hc i pins s σ H E I hf st hg
    subst hP hw hK
    obtain ⟨xs, hq1, hi⟩ := hg
    obtain ⟨its1, r1, p1, z1⟩ := I.list hq1
    obtain ⟨he, h1⟩ := st
    have W := WalksT.enumerate (prog := X.prog) (w := X.w) (I.ok.hd hc) e it a hei hle hli its1.toArray
    have l1 := r1.length
    have e : i = its1.toArray.size := by simp only [List.size_toArray]; omega
    subst e
    exact W.done s _ _ ⟨he, h1, p1.isList⟩ fun h' tk kk => ⟨rfl, I.moved (ch := [_, it]) hf kk⟩
  self := fun _ _ _ _ _ st h => by
    obtain ⟨⟨old, he⟩, _⟩ := st
    exact wpAny_pyIter_enum he h

section
variable {X : Cx} {elts : List Expr} {kk : Nat} {tpos : Pos}
noncomputable def iZip (K : PySem.W.Frag) (ta : TA) : TI := fun σ H R => ta σ H fun vs H1 => ∃ a b, vs = [.ref a, .ref b] ∧ (∃ xs, SqL K H1 a xs) ∧ (∃ ys, SqL K H1 b ys) ∧ R (Itz K a b) H1
noncomputable def iEnum (K : PySem.W.Frag) (ta : TA) : TI := fun σ H R => ta σ H fun vs H1 => ∃ a, vs = [.ref a] ∧ (∃ xs, SqL K H1 a xs) ∧ R (Ite K a) H1
theorem pi_enumerate {a : Expr} {ta : TA} {p pos : Pos} (hg : Gl X "enumerate") (hm : X.mg "enumerate" = none) (ha : PA X [a] ta) (hs : starEach [a] X.env = [(false, eval a X.env)] := by rfl) :
    PI X (.Tuple elts kk tpos) (.Call (.Name "enumerate" p) [a] [] pos) (iEnum X.K ta) := by
  intro pins s σ H R I h
  refine Call_ (ld_blt I hg hm rfl (PyProof.Rows.callWith_type1 (thn (ha pos pins s σ H _ I h) fun us s1 ⟨vs, H1, I1, r1, q1⟩ => ?_) hs rfl))
  obtain ⟨a, e, ⟨xs, q1⟩, q⟩ := q1
  subst e
  obtain ⟨u, rfl, ra⟩ := vals1 r1
  cases ra
  obtain ⟨its1, v1, p1, z1⟩ := I1.list q1
  refine call_enumerate_list p1.isList fun h' b1 b2 b3 kp => ?_
  refine wpAny_pyIter_enum b1 ?_
  have I2 : Inv X pins σ H1 { s1 with heap := h' } := I1.kept (t' := s1.toks) kp
  have la : a < s1.heap.objs.size := by obtain ⟨o, e, _⟩ := p1.isList; exact Heap.lt_size e
  refine ⟨s1.heap.objs.size + 1, [s1.heap.objs.size + 1, s1.heap.objs.size], _, _, H1, rfl, I2,
    turn_enum (s1.heap.objs.size + 1) s1.heap.objs.size a (Nat.ne_of_gt (Nat.lt_succ_self _)) (Nat.ne_of_lt (Nat.lt_succ_of_lt la)) (Nat.ne_of_lt la), ⟨⟨_, b1⟩, b2⟩, fun c hc => ?_, q⟩
  have hge : s1.heap.objs.size ≤ c := by
    simp only [List.mem_cons, List.not_mem_nil, or_false] at hc
    rcases hc with rfl | rfl <;> omega
  exact I1.fpOk hge (I1.hok.fresh hge)
end
theorem src_enum {K : PySem.W.Frag} {a : Addr} {xs : List V} {Ok : Hp → Prop} (h1 : ∀ H, Ok H → SqL K H a xs) :
    Src (Ite K a) Ok xs.length (fun i v H H3 => ∃ p x, H p = none ∧ v = .ref p ∧ xs[i]? = some x ∧ H3 = upd H p (.tup [.int i, x])) where
  go := fun i H hi ok => ⟨xs, xs[i], h1 H ok, by simp [hi]⟩
  yld := fun i H x H3 hi ok ⟨p, n, e, u, e1, e3⟩ => ⟨p, u, n, e, e1 xs (h1 H ok), e3⟩
  stop := fun H ok => ⟨xs, h1 H ok, rfl⟩
end L2
/-! DATA: what a value stands for, through tuples and lists; == and != of things that stand for one datum. -/
namespace L2
open PySem PySem.Spec PyProof.Rows

inductive Dat where
  | non | bl (b : Bool) | int (i : Int) | str (x : Str) | tup (l : List Dat) | lst (l : List Dat)

mutual
noncomputable def Rep (H : Hp) : Dat → V → Prop
  | .non, v => v = .non
  | .bl b, v => v = .bl b
  | .int i, v => v = .int i
  | .str x, v => v = .str x
  | .tup ds, v => ∃ p vs, v = .ref p ∧ H p = some (.tup vs) ∧ RepL H ds vs
  | .lst ds, v => ∃ p vs, v = .ref p ∧ H p = some (.lst vs) ∧ RepL H ds vs
noncomputable def RepL (H : Hp) : List Dat → List V → Prop
  | [], vs => vs = []
  | d :: ds, vs => ∃ v r, vs = v :: r ∧ Rep H d v ∧ RepL H ds r
end
mutual
theorem Rep.mono {H H' : Hp} (s : Same H H') : ∀ {d : Dat} {v : V}, Rep H d v → Rep H' d v
  | .non, _, h => by rw [Rep] at *; exact h
  | .bl _, _, h => by rw [Rep] at *; exact h
  | .int _, _, h => by rw [Rep] at *; exact h
  | .str _, _, h => by rw [Rep] at *; exact h
  | .tup _, _, h => by
    rw [Rep] at *
    obtain ⟨p, vs, e, hp, r⟩ := h
    exact ⟨p, vs, e, s _ _ hp, RepL.mono s r⟩
  | .lst _, _, h => by
    rw [Rep] at *
    obtain ⟨p, vs, e, hp, r⟩ := h
    exact ⟨p, vs, e, s _ _ hp, RepL.mono s r⟩
theorem RepL.mono {H H' : Hp} (s : Same H H') : ∀ {ds : List Dat} {vs : List V}, RepL H ds vs → RepL H' ds vs
  | [], _, h => by rw [RepL] at *; exact h
  | _ :: _, _, h => by
    rw [RepL] at *
    obtain ⟨v, r, e, h1, h2⟩ := h
    exact ⟨v, r, e, Rep.mono s h1, RepL.mono s h2⟩
end
theorem RepL.length {H : Hp} : ∀ {ds : List Dat} {vs : List V}, RepL H ds vs → ds.length = vs.length
  | [], _, h => by rw [RepL] at h; subst h; rfl
  | _ :: _, _, h => by
    rw [RepL] at h
    obtain ⟨v, r, rfl, _, h2⟩ := h
    simp [h2.length]
theorem RepL.get {H : Hp} : ∀ {ds : List Dat} {vs : List V} {i : Nat} {v : V}, RepL H ds vs → vs[i]? = some v → ∃ d, ds[i]? = some d ∧ Rep H d v
  | [], _, i, v, h, e => by rw [RepL] at h; subst h; simp at e
  | d :: ds, _, i, v, h, e => by
    rw [RepL] at h
    obtain ⟨v', r, rfl, h1, h2⟩ := h
    cases i with
    | zero => simp at e; subst e; exact ⟨d, rfl, h1⟩
    | succ i => simp at e; obtain ⟨d', e', r'⟩ := h2.get e; exact ⟨d', by simpa using e', r'⟩
theorem RepL.at {H : Hp} : ∀ {ds : List Dat} {vs : List V} {i : Nat} {d : Dat}, RepL H ds vs → ds[i]? = some d → ∃ v, vs[i]? = some v ∧ Rep H d v
  | [], _, i, v, h, e => by simp at e
  | d :: ds, _, i, d', h, e => by
    rw [RepL] at h
    obtain ⟨v', r, rfl, h1, h2⟩ := h
    cases i with
    | zero => simp at e; subst e; exact ⟨v', rfl, h1⟩
    | succ i => simp at e; obtain ⟨v, e', r'⟩ := h2.at e; exact ⟨v, by simpa using e', r'⟩
theorem RepL.of {H : Hp} : ∀ {ds : List Dat} {vs : List V}, ds.length = vs.length → (∀ (i : Nat) d v, ds[i]? = some d → vs[i]? = some v → Rep H d v) → RepL H ds vs
  | [], [], _, _ => by rw [RepL]
  | [], _ :: _, h, _ => by simp at h
  | _ :: _, [], h, _ => by simp at h
  | d :: ds, v :: vs, h, k => by
    rw [RepL]
    exact ⟨v, vs, rfl, k 0 d v rfl rfl, RepL.of (by simpa using h) fun i d' v' e1 e2 => k (i + 1) d' v' (by simpa using e1) (by simpa using e2)⟩
theorem RepL.append {H : Hp} : ∀ {as bs : List Dat} {us vs : List V}, RepL H as us → RepL H bs vs → RepL H (as ++ bs) (us ++ vs)
  | [], _, _, _, h, k => by rw [RepL] at h; subst h; exact k
  | _ :: _, _, _, _, h, k => by
    rw [RepL] at h
    obtain ⟨v, r, rfl, h1, h2⟩ := h
    show RepL H (_ :: (_ ++ _)) (_ :: (_ ++ _))
    rw [RepL]
    exact ⟨_, _, rfl, h1, h2.append k⟩
theorem RepL.ints {H : Hp} : ∀ (ns : List Int), RepL H (ns.map Dat.int) (ns.map V.int)
  | [] => by simp only [List.map_nil]; rw [RepL]
  | n :: ns => by
    simp only [List.map_cons]
    rw [RepL]
    exact ⟨_, _, rfl, by rw [Rep], RepL.ints ns⟩
/-- two things of one datum are equal -/
noncomputable def depth : Dat → Nat
  | .tup l => 1 + dL l
  | .lst l => 1 + dL l
  | _ => 0
where dL : List Dat → Nat
  | [] => 0
  | d :: ds => max (depth d) (dL ds)
theorem depth_mem {d : Dat} : ∀ {ds : List Dat}, d ∈ ds → depth d ≤ depth.dL ds
  | e :: ds, h => by
    rw [depth.dL]
    rcases List.mem_cons.mp h with rfl | h
    · exact Nat.le_max_left _ _
    · exact Nat.le_trans (depth_mem h) (Nat.le_max_right _ _)
section
variable {X : Cx} {pins : List (Addr × Obj)} {σ : St} {H : Hp} {s : Shared}
theorem all_true (n : Nat) : ((List.range n).all fun _ => true) = true := by simp
theorem eqAt_D (I : Inv X pins σ H s) : ∀ (n : Nat) (d : Dat), depth d ≤ n → ∀ (v v' : V) (u u' : Value) (A : Around), Rep H d v → Rep H d v' → RelV v u → RelV v' u' → A.units + n < cLine → SeqAt.EqAt A s u u' true := by
  intro n
  induction n with
  | zero =>
    intro d hd v v' u u' A h h' r r' hu
    cases d with
    | non => rw [Rep] at h h'; subst h h'; cases r; cases r'; exact SeqAt.EqAt.same _
    | bl b => rw [Rep] at h h'; subst h h'; cases r; cases r'; exact SeqAt.EqAt.same _
    | int i => rw [Rep] at h h'; subst h h'; obtain ⟨t, rfl⟩ := r; obtain ⟨t', rfl⟩ := r'; have := SeqAt.EqAt.int_int (A := A) (s := s) i t i t'; simpa using this
    | str x => rw [Rep] at h h'; subst h h'; obtain ⟨t, rfl⟩ := r; obtain ⟨t', rfl⟩ := r'; have := SeqAt.EqAt.str_str (A := A) (s := s) x t x t'; simpa using this
    | tup l => rw [depth] at hd; omega
    | lst l => rw [depth] at hd; omega
  | succ n ih =>
    intro d hd v v' u u' A h h' r r' hu
    cases d with
    | non => rw [Rep] at h h'; subst h h'; cases r; cases r'; exact SeqAt.EqAt.same _
    | bl b => rw [Rep] at h h'; subst h h'; cases r; cases r'; exact SeqAt.EqAt.same _
    | int i => rw [Rep] at h h'; subst h h'; obtain ⟨t, rfl⟩ := r; obtain ⟨t', rfl⟩ := r'; have := SeqAt.EqAt.int_int (A := A) (s := s) i t i t'; simpa using this
    | str x => rw [Rep] at h h'; subst h h'; obtain ⟨t, rfl⟩ := r; obtain ⟨t', rfl⟩ := r'; have := SeqAt.EqAt.str_str (A := A) (s := s) x t x t'; simpa using this
    | tup l =>
      rw [Rep] at h h'
      obtain ⟨p, vs, rfl, hp, rl⟩ := h
      obtain ⟨p', vs', rfl, hp', rl'⟩ := h'
      cases r
      cases r'
      rw [depth] at hd
      by_cases hpp : p = p'
      · subst hpp; exact SeqAt.EqAt.same _
      obtain ⟨its, rv, pl, hz⟩ := I.tuple (SqT.of hp)
      obtain ⟨its', rv', pl', hz'⟩ := I.tuple (SqT.of hp')
      have e1 := rl.length
      have e2 := rl'.length
      have l1 := rv.length
      have l2 := rv'.length
      have R := SeqAt.RcAt.tuples (A := A) (e := fun _ => true) pl pl' (by omega) (fun j h1 h2 => ?_)
      · simp only [List.size_toArray, all_true, Bool.true_and] at R
        rw [show (its.length == its'.length) = true by simp; omega] at R
        exact .of_refs hpp R
      · rw [List.size_toArray] at h1 h2
        obtain ⟨d, ed⟩ : ∃ d, l[j]? = some d := ⟨l[j]'(by omega), by simp⟩
        obtain ⟨v1, f1, q1⟩ := rl.at ed
        obtain ⟨v2, f2, q2⟩ := rl'.at ed
        obtain ⟨u1, g1, w1⟩ := rv.get f1
        obtain ⟨u2, g2, w2⟩ := rv'.get f2
        have a1 : its.toArray[j] = u1 := by simpa [List.getElem?_eq_getElem h1] using g1
        have a2 : its'.toArray[j] = u2 := by simpa [List.getElem?_eq_getElem h2] using g2
        rw [a1, a2]
        have := depth_mem (List.mem_of_getElem? ed)
        exact ih d (by omega) v1 v2 u1 u2 A.in1 q1 q2 w1 w2 (by show A.units + 1 + n < cLine; omega)
    | lst l =>
      rw [Rep] at h h'
      obtain ⟨p, vs, rfl, hp, rl⟩ := h
      obtain ⟨p', vs', rfl, hp', rl'⟩ := h'
      cases r
      cases r'
      rw [depth] at hd
      by_cases hpp : p = p'
      · subst hpp; exact SeqAt.EqAt.same _
      obtain ⟨its, rv, pl, hz⟩ := I.list (SqL.of hp)
      obtain ⟨its', rv', pl', hz'⟩ := I.list (SqL.of hp')
      have e1 := rl.length
      have e2 := rl'.length
      have l1 := rv.length
      have l2 := rv'.length
      have R := SeqAt.RcAt.lists (A := A) (e := fun _ => true) pl.isList pl'.isList (by simp only [List.size_toArray]; omega) (by omega) (fun j h1 h2 => ?_)
      · rw [all_true] at R
        exact .of_refs hpp R
      · rw [List.size_toArray] at h1 h2
        obtain ⟨d, ed⟩ : ∃ d, l[j]? = some d := ⟨l[j]'(by omega), by simp⟩
        obtain ⟨v1, f1, q1⟩ := rl.at ed
        obtain ⟨v2, f2, q2⟩ := rl'.at ed
        obtain ⟨u1, g1, w1⟩ := rv.get f1
        obtain ⟨u2, g2, w2⟩ := rv'.get f2
        have a1 : its.toArray[j] = u1 := by simpa [List.getElem?_eq_getElem h1] using g1
        have a2 : its'.toArray[j] = u2 := by simpa [List.getElem?_eq_getElem h2] using g2
        rw [a1, a2]
        have := depth_mem (List.mem_of_getElem? ed)
        exact ih d (by omega) v1 v2 u1 u2 A.in1 q1 q2 w1 w2 (by show A.units + 1 + n < cLine; omega)
end
section
variable {X : Cx}
/-- x == y, where both stand for the tuple or list d -/
noncomputable def rEqD (b : Bool) : R2 := fun x y H Q => ∃ d, Rep H d x ∧ Rep H d y ∧ (∃ p, x = .ref p) ∧ depth d ≤ 40 ∧ Q (.bl b) H
theorem seqs_D {pins : List (Addr × Obj)} {σ : St} {H : Hp} {s : Shared} {d : Dat} {p p' : Addr} (I : Inv X pins σ H s) (hu : X.A.units + 64 < cLine) (h : Rep H d (.ref p)) (h' : Rep H d (.ref p')) (hd : depth d ≤ 40) :
    (∃ its its' : List Value, IsTup s.heap p its.toArray ∧ IsTup s.heap p' its'.toArray ∧ its.length = its'.length ∧ ∀ j (h1 : j < its.toArray.size) (h2 : j < its'.toArray.size), SeqAt.EqAt X.A.in1 s its.toArray[j] its'.toArray[j] true) ∨
    (∃ its its' : List Value, s.heap.IsList p its.toArray ∧ s.heap.IsList p' its'.toArray ∧ its.length = its'.length ∧ ∀ j (h1 : j < its.toArray.size) (h2 : j < its'.toArray.size), SeqAt.EqAt X.A.in1 s its.toArray[j] its'.toArray[j] true) := by
  cases d with
  | non => rw [Rep] at h; cases h
  | bl b => rw [Rep] at h; cases h
  | int i => rw [Rep] at h; cases h
  | str x => rw [Rep] at h; cases h
  | tup l =>
    left
    rw [Rep] at h h'
    obtain ⟨_, vs, e, hp, rl⟩ := h
    cases e
    obtain ⟨_, vs', e, hp', rl'⟩ := h'
    cases e
    rw [depth] at hd
    obtain ⟨its, rv, pl, hz⟩ := I.tuple (SqT.of hp)
    obtain ⟨its', rv', pl', hz'⟩ := I.tuple (SqT.of hp')
    have e1 := rl.length
    have e2 := rl'.length
    have l1 := rv.length
    have l2 := rv'.length
    refine ⟨its, its', pl, pl', by omega, fun j h1 h2 => ?_⟩
    rw [List.size_toArray] at h1 h2
    obtain ⟨d, ed⟩ : ∃ d, l[j]? = some d := ⟨l[j]'(by omega), by simp⟩
    obtain ⟨v1, f1, q1⟩ := rl.at ed
    obtain ⟨v2, f2, q2⟩ := rl'.at ed
    obtain ⟨u1, g1, w1⟩ := rv.get f1
    obtain ⟨u2, g2, w2⟩ := rv'.get f2
    have a1 : its.toArray[j] = u1 := by simpa [List.getElem?_eq_getElem h1] using g1
    have a2 : its'.toArray[j] = u2 := by simpa [List.getElem?_eq_getElem h2] using g2
    rw [a1, a2]
    have := depth_mem (List.mem_of_getElem? ed)
    exact eqAt_D I 40 d (by omega) v1 v2 u1 u2 X.A.in1 q1 q2 w1 w2 (by show X.A.units + 1 + 40 < cLine; omega)
  | lst l =>
    right
    rw [Rep] at h h'
    obtain ⟨_, vs, e, hp, rl⟩ := h
    cases e
    obtain ⟨_, vs', e, hp', rl'⟩ := h'
    cases e
    rw [depth] at hd
    obtain ⟨its, rv, pl, hz⟩ := I.list (SqL.of hp)
    obtain ⟨its', rv', pl', hz'⟩ := I.list (SqL.of hp')
    have e1 := rl.length
    have e2 := rl'.length
    have l1 := rv.length
    have l2 := rv'.length
    refine ⟨its, its', pl.isList, pl'.isList, by omega, fun j h1 h2 => ?_⟩
    rw [List.size_toArray] at h1 h2
    obtain ⟨d, ed⟩ : ∃ d, l[j]? = some d := ⟨l[j]'(by omega), by simp⟩
    obtain ⟨v1, f1, q1⟩ := rl.at ed
    obtain ⟨v2, f2, q2⟩ := rl'.at ed
    obtain ⟨u1, g1, w1⟩ := rv.get f1
    obtain ⟨u2, g2, w2⟩ := rv'.get f2
    have a1 : its.toArray[j] = u1 := by simpa [List.getElem?_eq_getElem h1] using g1
    have a2 : its'.toArray[j] = u2 := by simpa [List.getElem?_eq_getElem h2] using g2
    rw [a1, a2]
    have := depth_mem (List.mem_of_getElem? ed)
    exact eqAt_D I 40 d (by omega) v1 v2 u1 u2 X.A.in1 q1 q2 w1 w2 (by show X.A.units + 1 + 40 < cLine; omega)
theorem op_eqD (hu : X.A.units + 64 < cLine) : OpR X (compareOp .Eq) (rEqD true) := by
  intro pins s σ H x y v u Q I rx ry h
  obtain ⟨d, h1, h2, ⟨p, rfl⟩, hd, q⟩ := h
  obtain ⟨p', rfl⟩ : ∃ p', y = .ref p' := by
    cases d with
    | non => rw [Rep] at h1; cases h1
    | bl b => rw [Rep] at h1; cases h1
    | int i => rw [Rep] at h1; cases h1
    | str x => rw [Rep] at h1; cases h1
    | tup l => rw [Rep] at h2; obtain ⟨p', _, e, _⟩ := h2; exact ⟨p', e⟩
    | lst l => rw [Rep] at h2; obtain ⟨p', _, e, _⟩ := h2; exact ⟨p', e⟩
  cases rx
  cases ry
  rcases seqs_D I hu h1 h2 hd with ⟨its, its', a, b, e, k⟩ | ⟨its, its', a, b, e, k⟩
  · refine SeqAt.eq_tupleAt (e := fun _ => true) a b (by omega) k ⟨.bl true, H, I, ?_, q⟩
    show Value.bool _ = Value.bool true
    rw [all_true, List.size_toArray, List.size_toArray, e]
    simp
  · refine SeqAt.eq_listAt (e := fun _ => true) a b (by simp only [List.size_toArray]; exact e) (by omega) k ⟨.bl true, H, I, ?_, q⟩
    show Value.bool _ = Value.bool true
    rw [all_true]
/-- != of two tuples of flat values -/
noncomputable def rNeT : R2 := fun x y H Q => ∃ p q xs ys, x = .ref p ∧ y = .ref q ∧ H p = some (.tup xs) ∧ H q = some (.tup ys) ∧ xs.all flatV = true ∧ ys.all flatV = true ∧ Q (.bl (!eqL xs ys)) H
end
end L2
/-! Lists of ints in order. -/
namespace Nm
noncomputable def ins (x : Int) : List Int → List Int
  | [] => [x]
  | y :: r => if x ≤ y then x :: y :: r else y :: ins x r
noncomputable def srt : List Int → List Int
  | [] => []
  | x :: r => ins x (srt r)
end Nm
/-! sum, sorted; a dict's keys walked. -/
namespace L2
open PySem PySem.Spec PyProof.Rows PySem.W
section
variable {X : Cx}
/-- the keys of a dict, all ints -/
noncomputable def keysI (kvs : List (Key × V)) : List Int := kvs.map fun p => match p.1 with | .inl i => i | .inr _ => 0
noncomputable def allI (kvs : List (Key × V)) : Prop := ∀ p ∈ kvs, ∃ i, p.1 = Sum.inl i
end

/-! ### a dict held still, and let go -/
section
variable {X : Cx} {pins : List (Addr × Obj)} {σ : St} {H : Hp} {s : Shared}
/-- let go -/
noncomputable def Thaw (H₀ : Hp) (q : Hp → Prop) (H : Hp) : Prop := ∃ d o kvs, H d = some (.frz o (.dK kvs)) ∧ (∀ a b, H₀ d ≠ some (.frz a b)) ∧ q (upd H d (.dK kvs))
end
noncomputable def Itd (d : Addr) (o : Obj) (kvs : List (Key × V)) : It :=
  ⟨fun i H => H d = some (.frz o (.dK kvs)) ∧ i < kvs.length, fun i H x H' => H' = H ∧ ∃ p, kvs[i]? = some p ∧ x = kV p.1, fun i H => H d = some (.frz o (.dK kvs)) ∧ i = kvs.length⟩
section
variable {X : Cx} {x : Str} {xpos : Pos}
noncomputable def iDict (tl : TE) : TI := fun σ H R => tl σ H fun v H1 => ∃ d kvs, v = .ref d ∧ H1 d = some (.dK kvs) ∧ ∀ o, R (Itd d o kvs) (upd H1 d (.frz o (.dK kvs)))
end
end L2
/-! THE SAME RULES, the fragment named apart (within a block or a suite the context is not a letter). -/
namespace L2
open PySem PySem.Spec PyProof.Rows PySem.W
section
variable {X : Cx} {K : PySem.W.Frag}
theorem pi_listK {tg l : Expr} {tl : TE} (hl : PE X l tl) (hK : X.K = K := by rfl) : PI X tg l (iList K tl) := by subst hK; exact pi_list hl
theorem pi_enumerateK {elts : List Expr} {kk : Nat} {tpos : Pos} {a : Expr} {ta : TA} {p pos : Pos} (hg : Gl X "enumerate") (hm : X.mg "enumerate" = none) (ha : PA X [a] ta) (n1 : noStar a = true := by rfl) (hK : X.K = K := by rfl) :
    PI X (.Tuple elts kk tpos) (.Call (.Name "enumerate" p) [a] [] pos) (iEnum K ta) := by subst hK; exact pi_enumerate hg hm ha (by rw [se n1]; rfl)
theorem pg_tupK {es : List Expr} {k : Nat} {t : TGs} {n : Nat} {pos : Pos} (hc : X.calm = true) (h : PGs X es t) (hn : (assignEach es X.env).length = n := by rfl) (hst : (assignEach es X.env).findIdx? (·.1) = none := by rfl) (hK : X.K = K := by rfl) : PG X (.Tuple es k pos) (gTup K n t) := by
  subst hK; exact pg_tup hc h hn hst
theorem ix_listSK (hK : X.K = K := by rfl) : IxR X (rIxQ K) := by subst hK; exact ix_listS
theorem call_lenQK (hK : X.K = K := by rfl) : CallR X (.builtin "len") (fun xs H Q => ∃ p ns, xs = [.ref p] ∧ SqL K H p (List.map V.int ns) ∧ Q (.int (List.length ns : Nat)) H) := by subst hK; exact call_lenQ
theorem op_notIn_seqK (hK : X.K = K := by rfl) : OpR X (compareOp .NotIn) (rIn K true) := by subst hK; exact op_notIn_seq
theorem call_list_ofK (hK : X.K = K := by rfl) : CallR X (.type "list") (fun xs H Q => ∃ p ys, xs = [.ref p] ∧ (SqL K H p ys ∨ SqT K H p ys) ∧ ∀ l, H l = none → Q (.ref l) (upd H l (.lst ys))) := by subst hK; exact call_list_of
theorem call_tuple_ofK (hK : X.K = K := by rfl) : CallR X (.type "tuple") (fun xs H Q => ∃ p ys, xs = [.ref p] ∧ ((SqL K H p ys ∧ ∀ l, H l = none → Q (.ref l) (upd H l (.tup ys))) ∨ (SqT K H p ys ∧ Q (.ref p) H))) := by subst hK; exact call_tuple_of
theorem call_isTK (hK : X.K = K := by rfl) : CallR X (.builtin "isinstance") (fun xs H Q => ∃ x c t b, xs = [x, .ty c] ∧ TyOf K H x t ∧ PySem.W.kitOne K t (.type c) = some b ∧ Q (.bl b) H) := by subst hK; exact call_isT
theorem call_isEK (hK : X.K = K := by rfl) : CallR X (.builtin "isinstance") (fun xs H Q => ∃ ad C c v b, xs = [.ref ad, c] ∧ H ad = some (ExO ad (.ref C)) ∧ ExcCls K C ∧ clV c = some v ∧ kitOne K (.ref C) v = some b ∧ Q (.bl b) H) := by subst hK; exact call_isE
theorem sl_listK (hK : X.K = K := by rfl) : SlR X (rSlL K) := by subst hK; exact sl_list
theorem MtM.r {id : String} {r : V → List V → Hp → VK → Prop} (h : MtM X id r) : MtR X id r := h
end
end L2
/-! Numbers by keys: sums of weights. -/
namespace Nm
abbrev Ws := List (Int × Int)
noncomputable def keys (ws : Ws) : List Int := ws.map (·.1)
noncomputable def look : Ws → Int → Int
  | [], _ => 0
  | p :: r, k => if p.1 = k then p.2 else look r k
noncomputable def put : Ws → Int → Int → Ws
  | [], k, v => [(k, v)]
  | p :: r, k, v => if p.1 = k then (k, v) :: r else p :: put r k v
noncomputable def tot (ws : Ws) : Int := (ws.map (·.2)).sum
noncomputable def addk (ws : Ws) (k x : Int) : Ws := put ws k (look ws k + x)
noncomputable def addAll (ws ps : Ws) : Ws := ps.foldl (fun acc p => addk acc p.1 p.2) ws
noncomputable def prs (as bs : Ws) : Ws := as.flatMap fun a => bs.map fun b => (a.1 + b.1, a.2 * b.2)
noncomputable def bothW (as bs : Ws) : Ws := addAll [] (prs as bs)
noncomputable def cnt (ps : Ws) (s : Int) : Int := (ps.map fun p => if p.1 = s then p.2 else 0).sum

/-- one list of weights, over another bottom: the same keys in any order, the weights times T are the others times B -/
structure Over (as ws : Ws) (B T : Int) : Prop where
  nd : (keys ws).Nodup
  perm : (keys as).Perm (keys ws)
  val : ∀ k ∈ keys ws, look as k * T = look ws k * B
theorem look_mem {ws : Ws} {p : Int × Int} (h : (keys ws).Nodup) (hp : p ∈ ws) : look ws p.1 = p.2 := by
  induction ws with
  | nil => cases hp
  | cons q r ih =>
    have h' : q.1 ∉ keys r ∧ (keys r).Nodup := by simpa [keys] using h
    unfold look
    rcases List.mem_cons.mp hp with rfl | hp
    · rw [if_pos rfl]
    · rw [if_neg (fun z => h'.1 (by rw [z]; exact List.mem_map.mpr ⟨p, hp, rfl⟩))]
      exact ih h'.2 hp
/-- the rows of a table: each value's share of the bottom -/
noncomputable def rowsOf (ws : Ws) (B : Int) : List (Int × Int × Int) := (srt (keys ws)).map fun v => (v, st (look ws v) B, sb (look ws v) B)
theorem Over.refl {ws : Ws} (h : (keys ws).Nodup) (B : Int) : Over ws ws B B := ⟨h, .refl _, fun _ _ => rfl⟩
/-- the weights that a table's rows stand for, over a bottom that all theirs divide -/
noncomputable def weigh (rows : List (Int × Int × Int)) (B : Int) : Ws := rows.map fun r => (r.1, r.2.1 * (B / r.2.2))
end Nm
/-! Weights by keys as a dict; rows of a table as data. -/
namespace L2
open PySem PySem.Spec PyProof.Rows
noncomputable def enc (ws : Nm.Ws) : List (Key × V) := ws.map fun p => (Sum.inl p.1, V.int p.2)
/-- rows (value, top, bottom) as tuples of a value and a share -/
noncomputable def rowD (r : Int × Int × Int) : Dat := .tup [.int r.1, .tup [.int r.2.1, .int r.2.2]]
noncomputable def rowsD (rows : List (Int × Int × Int)) : Dat := .lst (rows.map rowD)
noncomputable def wrowD (p : Int × Int) : Dat := .tup [.int p.1, .int p.2]
noncomputable def wrowsD (ws : Nm.Ws) : Dat := .lst (ws.map wrowD)
theorem rep_lst {H : Hp} {ds : List Dat} {v : V} : Rep H (.lst ds) v ↔ ∃ p vs, v = .ref p ∧ H p = some (.lst vs) ∧ RepL H ds vs := by rw [Rep]
/-- lists and tuples stay -/
noncomputable def Sqs (H H' : Hp) : Prop := ∀ p xs, (H p = some (.tup xs) → H' p = some (.tup xs)) ∧ (H p = some (.lst xs) → H' p = some (.lst xs))
mutual
theorem Rep.sqs {H H' : Hp} (s : Sqs H H') : ∀ {d : Dat} {v : V}, Rep H d v → Rep H' d v
  | .non, _, h => by rw [Rep] at *; exact h
  | .bl _, _, h => by rw [Rep] at *; exact h
  | .int _, _, h => by rw [Rep] at *; exact h
  | .str _, _, h => by rw [Rep] at *; exact h
  | .tup _, _, h => by
    rw [Rep] at *
    obtain ⟨p, vs, e, hp, r⟩ := h
    exact ⟨p, vs, e, (s _ _).1 hp, RepL.sqs s r⟩
  | .lst _, _, h => by
    rw [Rep] at *
    obtain ⟨p, vs, e, hp, r⟩ := h
    exact ⟨p, vs, e, (s _ _).2 hp, RepL.sqs s r⟩
theorem RepL.sqs {H H' : Hp} (s : Sqs H H') : ∀ {ds : List Dat} {vs : List V}, RepL H ds vs → RepL H' ds vs
  | [], _, h => by rw [RepL] at *; exact h
  | _ :: _, _, h => by
    rw [RepL] at *
    obtain ⟨v, r, e, h1, h2⟩ := h
    exact ⟨v, r, e, Rep.sqs s h1, RepL.sqs s h2⟩
end
theorem none_of {H H' : Hp} (s : Same H H') {p : Addr} (h : H' p = none) : H p = none := by
  cases e : H p with
  | none => rfl
  | some o => rw [s p o e] at h; cases h
end L2
/-! Means and parts of weights; comprehensions that yield numbers and leave the heap. -/
namespace Nm
noncomputable def mom (ws : Ws) : Int := (ws.map fun p => p.1 * p.2).sum
noncomputable def abv (n : Int) (ws : Ws) : Int := (ws.map fun p => if n ≤ p.1 then p.2 else 0).sum
end Nm
namespace L2
open PySem PySem.Spec PyProof.Rows
theorem fm_some {α β : Type} (f : α → β) (l : List α) : l.filterMap (fun a => some (f a)) = l.map f := by
  rw [← List.filterMap_eq_map]; rfl
end L2
/-! sum of a dict's values; all, any of truths. -/
namespace L2
open PySem PySem.Spec PyProof.Rows PySem.W
section
variable {X : Cx} {K : PySem.W.Frag}
/-! ### sum(d.values()) -/
noncomputable def tSumV (to : TE) : TE := fun σ H Q => to σ H fun v H1 => ∃ d kvs ns, v = .ref d ∧ H1 d = some (.dK kvs) ∧ kvs.map (·.2) = List.map V.int ns ∧ Q (.int ns.sum) H1
/-- values that are no new objects, one name -/
theorem comp_vals {α : Type} {J : It} {tc : TT} {te : TE} {tl : St} {H1 : Hp} {fin : List V → Hp → Prop} {Item : Nat → V → Hp → Hp → Prop} (as : List α) (f : α → Option V) (S : Src J (Same H1) as.length Item) (sub : ∀ i x H H3, Item i x H H3 → H3 = H) (hz : as.length ≤ sizeLine)
    (hs : ∀ i a x, as[i]? = some a → Item i x H1 H1 → ∀ (Y : VK) (N : Hp → Prop), (∀ z, f a = some z → Y z H1) → (f a = none → N H1) → tc (some x :: tl) H1 fun b H5 => if b = true then te (some x :: tl) H5 Y else N H5)
    (hfin : fin (as.filterMap f) H1) : tBlock J (gName 0) tc te (none :: tl) H1 fin := by
  refine block_src S (fun σ => ∃ w0, σ = w0 :: tl) ⟨_, rfl⟩ (fun i ys H => H = H1 ∧ ys = (as.take i).filterMap f) ⟨rfl, by simp⟩ hz ?_ ?_
  · rintro i x σ H ys H3 Q N hi sm ⟨rfl, rfl⟩ hl ⟨w0, rfl⟩ it kq kn
    obtain rfl := sub _ _ _ _ it
    have ea : as[i]? = some as[i] := List.getElem?_eq_getElem hi
    refine hs i _ x ea it _ _ (fun z e => kq _ _ _ ⟨_, rfl⟩ sm ⟨rfl, ?_⟩) (fun e => kn _ _ ⟨_, rfl⟩ sm ⟨rfl, ?_⟩)
    · rw [List.take_add_one, ea, List.filterMap_append]
      simp [e]
    · rw [List.take_add_one, ea, List.filterMap_append]
      simp [e]
  · rintro ys H sm ⟨rfl, rfl⟩ hl
    rw [List.take_of_length_le (Nat.le_refl _)]
    exact hfin
/-- one statement, then the rest, the rest kept apart -/
theorem seq_gen {a b : TS} {D : Ends} {σ : St} {H : Hp} (C : St → Hp → Prop) (hb : ∀ σ' H', C σ' H' → b D σ' H') (ha : ∀ N : St → Hp → Prop, (∀ σ' H', C σ' H' → N σ' H') → a { D with nx := N } σ H) : tSeq a b D σ H := ha _ hb
end
end L2
namespace Nm
/-- the rows of some weight, and the weights by values that they come to -/
noncomputable def pos (ps : Ws) : Ws := ps.filter fun p => decide (0 < p.2)
noncomputable def wof (ps : Ws) : Ws := addAll [] (pos ps)
noncomputable def bad (ps : Ws) : Prop := (∃ p ∈ ps, p.2 < 0) ∨ pos ps = []
end Nm
/-! Texts: join, startswith, find, split, f-strings; in a module's dict. -/
namespace L2
open PySem PySem.Spec PyProof.Rows PySem.W
section
variable {X : Cx} {K : PySem.W.Frag}
noncomputable def rJoin (K : PySem.W.Frag) : V → List V → Hp → VK → Prop := fun x xs H Q => ∃ sep p ts, x = .str sep ∧ xs = [.ref p] ∧ SqL K H p (List.map V.str ts) ∧ JoinOk sep ts = true ∧ Q (.str (Txt.join sep ts)) H
theorem call_int_b : CallR X (.type "int") (fun xs H Q => ∃ k, xs = [.bl k] ∧ Q (.int (if k then 1 else 0)) H) := by
  intro pins s σ H xs us Q I r h
  exact call_int1 pins s σ H xs us Q I r (.inr h)

/-! ### f-strings -/
abbrev TJ := Str → TE
noncomputable def PJ (X : Cx) (es : List Expr) (t : TJ) : Prop :=
  ∀ (pins : List (Addr × Obj)) (s : Shared) (σ : St) (H : Hp) (acc : Str) (Q : VK), Inv X pins σ H s → acc.length ≤ sizeLine → t acc σ H Q → wpAny (model X.prog X.w) X.A (joinParts acc (evalEach es X.env)) (EP X pins σ Q) X.xe s
noncomputable def jNil : TJ := fun acc _ H Q => Q (.str acc) H
noncomputable def jLit (x : Str) (t : TJ) : TJ := fun acc σ H Q => (acc ++ x).length ≤ sizeLine ∧ t (acc ++ x) σ H Q
noncomputable def jInt (te : TE) (t : TJ) : TJ := fun acc σ H Q => te σ H fun v H1 => ∃ i, v = .int i ∧ i.natAbs.log2 < 1920 ∧ (acc ++ toString i).length ≤ sizeLine ∧ t (acc ++ toString i) σ H1 Q
noncomputable def jStr (te : TE) (t : TJ) : TJ := fun acc σ H Q => te σ H fun v H1 => ∃ z, v = .str z ∧ z.length ≤ sizeLine ∧ (acc ++ z).length ≤ sizeLine ∧ t (acc ++ z) σ H1 Q
noncomputable def tJoined (t : TJ) : TE := fun σ H Q => t Str.empty σ H Q
/-! ### in a module's dict of texts -/
noncomputable def rInMod (K : PySem.W.Frag) (P : Params) : R2 := fun x y H Q => ∃ z a es n, x = .str z ∧ y = .ref a ∧ K.lookup a = some ⟨.type "dict", none, .dict es n, #[]⟩ ∧ KeysLit P es.toList ∧ (a == sysModules) = false ∧ Q (.bl (findBy Value.isStrOf es z).isSome) H
noncomputable def keyS (e : DictEntry) : Str := match e.key with | .str x _ => x | _ => Str.empty
/-- a module's dict with these texts as keys -/
noncomputable def MDict (K : PySem.W.Frag) (P : Params) (a : Addr) (ks : List Str) : Prop := ∃ es n, K.lookup a = some ⟨.type "dict", none, .dict es n, #[]⟩ ∧ KeysLit P es.toList ∧ (a == sysModules) = false ∧ es.toList.map keyS = ks
theorem keys_find {P : Params} (z : Str) : ∀ {l : List DictEntry}, KeysLit P l → (l.find? fun d => Value.isStrOf z d.key).isSome = (l.map keyS).any fun k => decide (k = z)
  | [], _ => rfl
  | e :: r, ⟨⟨x, t, e1, _⟩, h⟩ => by
    rw [List.find?_cons, List.map_cons, List.any_cons, ← keys_find z h]
    have k : keyS e = x := by unfold keyS; rw [e1]
    have i : Value.isStrOf z e.key = decide (keyS e = z) := by
      rw [k, e1]
      show (x == z) = decide (x = z)
      by_cases c : x = z
      · simp [c]
      · simp [c]
    rw [i]
    by_cases c : keyS e = z
    · simp [c]
    · simp [c]
theorem MDict.rd {P : Params} {a : Addr} {ks : List Str} (h : MDict K P a ks) {z : Str} {H : Hp} {Q : VK} (q : Q (.bl (ks.any fun k => decide (k = z))) H) : rInMod K P (.str z) (.ref a) H Q := by
  obtain ⟨es, n, hl, hk, lo, e⟩ := h
  refine ⟨z, a, es, n, rfl, rfl, hl, hk, lo, ?_⟩
  have f : (findBy Value.isStrOf es z).isSome = ks.any fun k => decide (k = z) := by
    rw [← e, ← keys_find z hk]
    unfold findBy
    obtain ⟨l⟩ := es
    rw [List.find?_toArray]
    cases l.find? fun d => Value.isStrOf z d.key <;> rfl
  rw [f]
  exact q
end
end L2
/-! BOARDS: places as data; what lies apart from a list that grows; slices of lists. -/
namespace L2
open PySem PySem.Spec PyProof.Rows PySem.W
inductive Pl where
  | fin (w : Int × Int) | thr (w : Int × Int) (ws : List (Int × Int)) | pck (who : Int) (to : List Int)
noncomputable def plD : Pl → Dat
  | .fin w => .tup [.str (Str.ofString "end"), wrowD w]
  | .thr w ws => .tup [.str (Str.ofString "throw"), wrowD w, .lst (ws.map wrowD)]
  | .pck who to => .tup [.str (Str.ofString "pick"), .int who, .lst (to.map .int)]
noncomputable def brD (b : List Pl) : Dat := .lst (b.map plD)
theorem depth_flat {ds : List Dat} {n : Nat} (h : ∀ d ∈ ds, depth d ≤ n) : depth.dL ds ≤ n := by
  induction ds with
  | nil => rw [depth.dL]; omega
  | cons d ds ih =>
    rw [depth.dL]
    have := h d List.mem_cons_self
    have := ih fun e he => h e (List.mem_cons_of_mem _ he)
    omega
/-- the heap without one object -/
noncomputable def hid (H : Hp) (p : Addr) : Hp := fun a => if a = p then none else H a
theorem hid_ne {H : Hp} {p a : Addr} (h : a ≠ p) : hid H p a = H a := if_neg h
theorem hid_upd {H : Hp} {p : Addr} {o : HO} : Same (hid H p) (upd H p o) := fun a u e => by
  unfold hid at e
  by_cases h : a = p
  · rw [if_pos h] at e; cases e
  · rw [if_neg h] at e; rw [upd_ne h]; exact e
theorem hid_sub {H : Hp} {p : Addr} : Same (hid H p) H := fun a u e => by
  unfold hid at e
  by_cases h : a = p
  · rw [if_pos h] at e; cases e
  · rw [if_neg h] at e; exact e
theorem same_hid {H0 H : Hp} {p : Addr} (s : Same H0 H) (n : H0 p = none) : Same H0 (hid H p) := fun a u e => by
  rw [hid_ne (fun z => by rw [z, n] at e; cases e)]
  exact s _ _ e
theorem hid_mono {H H' : Hp} {p : Addr} (s : Same H H') : Same (hid H p) (hid H' p) := fun a u e => by
  unfold hid at *
  by_cases h : a = p
  · rw [if_pos h] at e; cases e
  · rw [if_neg h] at e ⊢; exact s _ _ e
theorem same_upd_of {H0 H : Hp} {p : Addr} {o : HO} (s : Same H0 H) (n : H0 p = none) : Same H0 (upd H p o) := (same_hid s n).trans hid_upd
/-- an item put behind a list that grows -/
theorem rep_push {H : Hp} {p : Addr} {ds : List Dat} {xs : List V} {d : Dat} {v : V} (h : RepL (hid H p) ds xs) (k : Rep (hid H p) d v) : RepL (hid (upd H p (.lst (xs ++ [v]))) p) (ds ++ [d]) (xs ++ [v]) := by
  have s : Same (hid H p) (hid (upd H p (.lst (xs ++ [v]))) p) := same_hid hid_upd (if_pos rfl)
  refine (h.mono s).append ?_
  rw [RepL]
  exact ⟨v, [], rfl, k.mono s, by rw [RepL]⟩
theorem cut_take {xs : List V} {k : Int} (h : 0 ≤ k) : cutV xs none (some k) = xs.take k.toNat := by
  unfold cutV
  obtain ⟨n, rfl⟩ := Int.eq_ofNat_of_zero_le h
  rw [HT.sIx_none, show ((n : Nat) : Int) = Int.ofNat n from rfl]
  rw [show HT.sIx xs.length xs.length (some (Int.ofNat n)) = min n xs.length from HT.sIx_nat _ _ n]
  rw [List.drop_zero, Nat.sub_zero]
  show xs.take (min n xs.length) = xs.take n
  by_cases h : n ≤ xs.length
  · rw [Nat.min_eq_left h]
  · rw [Nat.min_eq_right (by omega), List.take_of_length_le (Nat.le_refl _), List.take_of_length_le (by omega)]
theorem atI_pl {α β : Type} {f : α → β} {as : List α} {i : Nat} {a : α} (h : as[i]? = some a) : atI (as.map f) (i : Int) = some (f a) := atI_nat (by rw [List.getElem?_map, h]; rfl)
/-! ### while, by states; comprehensions whose blocks lay objects -/
/-! ### min, max of a list; lists of plain values compared -/
section
variable {X : Cx} {K : PySem.W.Frag}
noncomputable def rEqF : R2 := fun x y H Q => ∃ p q xs ys, x = .ref p ∧ y = .ref q ∧ H p = some (.lst xs) ∧ H q = some (.lst ys) ∧ xs.all flatV = true ∧ ys.all flatV = true ∧ Q (.bl (eqL xs ys)) H
theorem eqL_len {xs ys : List V} (h : xs.length ≠ ys.length) : eqL xs ys = false := by
  unfold eqL
  rw [show (xs.length == ys.length) = false by simpa using h, Bool.and_false]
theorem op_eqF (hu : X.A.units < cLine) : OpR X (compareOp .Eq) rEqF := by
  intro pins s σ H x y v u Q I rx ry h
  obtain ⟨p, q, xs, ys, rfl, rfl, hp, hq, fx, fy, k⟩ := h
  cases rx
  cases ry
  obtain ⟨its, r, pl, hz⟩ := I.list (SqL.of hp)
  obtain ⟨its2, r2, pl2, hz2⟩ := I.list (SqL.of hq)
  have l1 := r.length
  have l2 := r2.length
  by_cases hl : xs.length = ys.length
  · refine SeqAt.eq_listAt (e := fun j => eqV (xs.getD j .non) (ys.getD j .non)) pl.isList pl2.isList (by simp only [List.size_toArray]; omega) hu (fun j h1 h2 => ?_) ⟨.bl _, H, I, rfl, ?_⟩
    · rw [List.size_toArray] at h1 h2
      exact eqAt_V (rel_at r h1) (rel_at r2 h2) (flat_at fx (by omega)) (flat_at fy (by omega))
    · have e : ((List.range its.toArray.size).all fun j => eqV (xs.getD j .non) (ys.getD j .non)) = eqL xs ys := by
        unfold eqL
        rw [List.size_toArray, ← l1, ← hl, Nat.min_self]
        simp
      rw [e]
      exact k
  · refine SeqAt.eq_list_lengthsAt pl.isList pl2.isList (by simp only [List.size_toArray, bne_iff_ne]; omega) hu ⟨.bl _, H, I, rfl, ?_⟩
    rw [show (false : Bool) = eqL xs ys from (eqL_len hl).symm]
    exact k
end
end L2
/-! LEVELS of a board, round by round. -/
namespace Lv
open L2
abbrev Fs := List (Option Int)
noncomputable def gls : Pl → List Int
  | .fin _ => []
  | .thr _ ws => ws.map (·.2)
  | .pck _ to => to
noncomputable def lk (fs : Fs) (g : Int) : Option Int := fs.getD g.toNat none
noncomputable def rdy (fs : Fs) (q : Pl) : Bool :=
  match q with
  | .thr _ ws => (ws.map (·.2)).any fun g => (lk fs g).isSome
  | .fin _ => true
  | .pck _ to => to.all fun g => (lk fs g).isSome
noncomputable def isRdy (b : List Pl) (fs : Fs) (i : Nat) : Bool := (fs.getD i none).isNone && (match b[i]? with | some q => rdy fs q | none => false)
noncomputable def fresh (b : List Pl) (fs : Fs) : List Nat := (List.range b.length).filter (isRdy b fs)
noncomputable def setAll (fs : Fs) (is : List Nat) (L : Int) : Fs := is.foldl (fun acc i => acc.set i (some L)) fs
noncomputable def run (b : List Pl) : Nat → Fs → Int → Fs
  | 0, fs, _ => fs
  | m + 1, fs, L => if fresh b fs = [] then fs else run b m (setAll fs (fresh b fs) L) (L + 1)
noncomputable def lv0 : Pl → Option Int
  | .fin _ => some 0
  | _ => none
noncomputable def fs0 (b : List Pl) : Fs := b.map lv0
noncomputable def lvs (b : List Pl) : Fs := run b b.length (fs0 b) 1
noncomputable def nones (fs : Fs) : Nat := fs.countP (·.isNone)
theorem set_len (fs : Fs) : ∀ (is : List Nat) (L : Int), (setAll fs is L).length = fs.length
  | is, L => by
    induction is generalizing fs with
    | nil => rfl
    | cons i is ih =>
      show (setAll (fs.set i (some L)) is L).length = _
      rw [ih, List.length_set]
theorem set_get (L : Int) : ∀ (is : List Nat) (fs : Fs) (k : Nat), (setAll fs is L)[k]? = if k ∈ is ∧ k < fs.length then some (some L) else fs[k]?
  | [], fs, k => by simp [setAll]
  | i :: is, fs, k => by
    show (setAll (fs.set i (some L)) is L)[k]? = _
    rw [set_get L is, List.length_set]
    by_cases h : k < fs.length
    · by_cases h1 : k ∈ is
      · rw [if_pos ⟨h1, h⟩, if_pos ⟨List.mem_cons_of_mem _ h1, h⟩]
      · rw [if_neg (fun z => h1 z.1)]
        by_cases h2 : k = i
        · subst h2
          rw [if_pos ⟨List.mem_cons_self, h⟩, List.getElem?_set_self h]
        · rw [if_neg (fun z => (List.mem_cons.mp z.1).elim h2 h1), List.getElem?_set_ne (Ne.symm h2)]
    · rw [if_neg (fun z => h z.2), if_neg (fun z => h z.2), List.getElem?_eq_none (by rw [List.length_set]; omega), List.getElem?_eq_none (by omega)]
theorem fresh_mem {b : List Pl} {fs : Fs} {i : Nat} : i ∈ fresh b fs ↔ i < b.length ∧ isRdy b fs i = true := by
  unfold fresh
  rw [List.mem_filter, List.mem_range]
theorem fresh_none {b : List Pl} {fs : Fs} (hl : fs.length = b.length) {i : Nat} (h : i ∈ fresh b fs) : fs[i]? = some none := by
  obtain ⟨h1, h2⟩ := fresh_mem.mp h
  unfold isRdy at h2
  rw [Bool.and_eq_true] at h2
  have e : fs[i]? = some fs[i] := List.getElem?_eq_getElem (by omega)
  rw [List.getD_eq_getElem?_getD, e] at h2
  rw [e]
  cases h : fs[i] with
  | none => rfl
  | some v => rw [h] at h2; simp at h2
/-- what a place's level is while rounds go on -/
noncomputable def At (fs : Fs) (L : Int) (i : Nat) : Pl → Prop
  | .fin _ => fs[i]? = some (some 0)
  | .thr _ ws => (fs[i]? = some none ∧ ∀ g ∈ ws.map (·.2), ∀ u, lk fs g = some u → u = L - 1) ∨
      ∃ v, fs[i]? = some (some v) ∧ 1 ≤ v ∧ (∃ g ∈ ws.map (·.2), lk fs g = some (v - 1)) ∧ ∀ g ∈ ws.map (·.2), ∀ u, lk fs g = some u → v - 1 ≤ u
  | .pck _ to => (fs[i]? = some none ∧ ((∀ g ∈ to, (lk fs g).isSome = true) → ∃ g ∈ to, lk fs g = some (L - 1))) ∨
      ∃ v, fs[i]? = some (some v) ∧ 1 ≤ v ∧ (∀ g ∈ to, ∃ u, lk fs g = some u ∧ u ≤ v - 1) ∧ ∃ g ∈ to, lk fs g = some (v - 1)
structure Good (b : List Pl) : Prop where
  rng : ∀ q ∈ b, ∀ g ∈ gls q, 0 ≤ g ∧ g < b.length
  pck : ∀ q ∈ b, ∀ w to, q = .pck w to → to ≠ []
structure Inv (b : List Pl) (fs : Fs) (L : Int) : Prop where
  len : fs.length = b.length
  lt : ∀ (i : Nat) (v : Int), fs[i]? = some (some v) → 0 ≤ v ∧ v < L
  at_ : ∀ (i : Nat) q, b[i]? = some q → At fs L i q
theorem inv0 {b : List Pl} (g : Good b) : Inv b (fs0 b) 1 := by
  have h0 : ∀ (i : Nat) (v : Int), (fs0 b)[i]? = some (some v) → v = 0 := fun i v e => by
    unfold fs0 at e
    rw [List.getElem?_map] at e
    obtain ⟨q, _, e⟩ := Option.map_eq_some_iff.mp e
    cases q <;> simp [lv0] at e
    exact e.symm
  have hk : ∀ (g u : Int), lk (fs0 b) g = some u → u = 0 := fun g u e => by
    unfold lk at e
    rw [List.getD_eq_getElem?_getD] at e
    cases h : (fs0 b)[g.toNat]? with
    | none => rw [h] at e; simp at e
    | some o => rw [h] at e; simp at e; subst e; exact h0 _ _ h
  refine ⟨by simp [fs0], fun i v e => by have := h0 i v e; omega, fun i q e => ?_⟩
  have e2 : (fs0 b)[i]? = some (lv0 q) := by unfold fs0; rw [List.getElem?_map, e]; rfl
  cases q with
  | fin w => exact e2
  | thr w ws => exact .inl ⟨e2, fun g _ u h => hk g u h⟩
  | pck w to =>
    refine .inl ⟨e2, fun h => ?_⟩
    cases to with
    | nil => exact absurd rfl (g.pck _ (List.mem_of_getElem? e) _ _ rfl)
    | cons x r =>
      refine ⟨x, List.mem_cons_self, ?_⟩
      have := h x List.mem_cons_self
      obtain ⟨u, hu⟩ := Option.isSome_iff_exists.mp this
      have := hk x u hu
      rw [hu, this]
      rfl
theorem lk_of {fs : Fs} {g : Int} {u : Int} : lk fs g = some u ↔ fs[g.toNat]? = some (some u) := by
  unfold lk
  rw [List.getD_eq_getElem?_getD]
  cases h : fs[g.toNat]? with
  | none => simp
  | some o => simp
theorem step {b : List Pl} (gb : Good b) {fs : Fs} {L : Int} (I : Inv b fs L) (L1 : 1 ≤ L) : Inv b (setAll fs (fresh b fs) L) (L + 1) := by
  have hl := I.len
  have get : ∀ (k : Nat), (setAll fs (fresh b fs) L)[k]? = if k ∈ fresh b fs ∧ k < fs.length then some (some L) else fs[k]? := set_get L _ _
  have old : ∀ (k : Nat) (v : Int), fs[k]? = some (some v) → (setAll fs (fresh b fs) L)[k]? = some (some v) := fun k v e => by
    rw [get, if_neg, e]
    intro z
    rw [fresh_none hl z.1] at e
    cases e
  have lold : ∀ (g u : Int), lk fs g = some u → lk (setAll fs (fresh b fs) L) g = some u := fun g u h => lk_of.mpr (old _ _ (lk_of.mp h))
  have lnew : ∀ (g u : Int), lk (setAll fs (fresh b fs) L) g = some u → lk fs g = some u ∨ u = L := fun g u h => by
    have h := lk_of.mp h
    rw [get] at h
    split at h
    · right; simpa using h.symm
    · exact .inl (lk_of.mpr h)
  refine ⟨by rw [set_len]; exact hl, fun i v e => ?_, fun i q e => ?_⟩
  · rw [get] at e
    split at e
    · simp at e; omega
    · have := I.lt i v e; omega
  · have hi : i < b.length := (List.getElem?_eq_some_iff.mp e).1
    have A := I.at_ i q e
    have rd : ∀ (q : Pl), b[i]? = some q → fs[i]? = some none → (i ∈ fresh b fs ↔ rdy fs q = true) := fun q e e2 => by
      rw [fresh_mem]
      unfold isRdy
      rw [List.getD_eq_getElem?_getD, e2, e]
      simp [hi]
    cases q with
    | fin w => exact old _ _ A
    | thr w ws =>
      rcases A with ⟨a1, a2⟩ | ⟨v, a1, a2, ⟨x, hx, a3⟩, a4⟩
      · by_cases c : i ∈ fresh b fs
        · right
          refine ⟨L, by rw [get, if_pos ⟨c, by omega⟩], L1, ?_, fun g hg u h => ?_⟩
          · have := (rd _ e a1).mp c
            have : (ws.map (·.2)).any (fun g => (lk fs g).isSome) = true := this
            obtain ⟨x, hx, h⟩ := List.any_eq_true.mp this
            obtain ⟨u, hu⟩ := Option.isSome_iff_exists.mp h
            have := a2 x hx u hu
            subst this
            exact ⟨x, hx, lold _ _ hu⟩
          · rcases lnew _ _ h with h | h
            · have := a2 g hg u h; omega
            · omega
        · left
          refine ⟨by rw [get, if_neg (fun z => c z.1)]; exact a1, fun g hg u h => ?_⟩
          rcases lnew _ _ h with h | h
          · exfalso
            refine c ((rd _ e a1).mpr ?_)
            show (ws.map (·.2)).any (fun g => (lk fs g).isSome) = true
            exact List.any_eq_true.mpr ⟨g, hg, by rw [h]; rfl⟩
          · omega
      · right
        refine ⟨v, old _ _ a1, a2, ⟨x, hx, lold _ _ a3⟩, fun g hg u h => ?_⟩
        rcases lnew _ _ h with h | h
        · exact a4 g hg u h
        · have := I.lt i v a1; omega
    | pck w to =>
      rcases A with ⟨a1, a2⟩ | ⟨v, a1, a2, a3, x, hx, a4⟩
      · by_cases c : i ∈ fresh b fs
        · right
          have r := (rd _ e a1).mp c
          have r : to.all (fun g => (lk fs g).isSome) = true := r
          have r := List.all_eq_true.mp r
          obtain ⟨x, hx, h⟩ := a2 r
          refine ⟨L, by rw [get, if_pos ⟨c, by omega⟩], L1, fun g hg => ?_, x, hx, lold _ _ h⟩
          obtain ⟨u, hu⟩ := Option.isSome_iff_exists.mp (r g hg)
          exact ⟨u, lold _ _ hu, by have := I.lt _ _ (lk_of.mp hu); omega⟩
        · left
          refine ⟨by rw [get, if_neg (fun z => c z.1)]; exact a1, fun h => ?_⟩
          have : ¬ ∀ g ∈ to, (lk fs g).isSome = true := fun z => c ((rd _ e a1).mpr (show to.all (fun g => (lk fs g).isSome) = true from List.all_eq_true.mpr z))
          have : ∃ g ∈ to, lk fs g = none := by
            apply Classical.byContradiction
            intro n
            apply this
            intro g hg
            cases h : lk fs g with
            | none => exact absurd ⟨g, hg, h⟩ n
            | some u => rfl
          obtain ⟨g, hg, hn⟩ := this
          obtain ⟨u, hu⟩ := Option.isSome_iff_exists.mp (h g hg)
          refine ⟨g, hg, ?_⟩
          rcases lnew _ _ hu with h | h
          · rw [hn] at h; cases h
          · rw [hu, h]; congr 1; omega
      · right
        refine ⟨v, old _ _ a1, a2, fun g hg => ?_, x, hx, lold _ _ a4⟩
        obtain ⟨u, h1, h2⟩ := a3 g hg
        exact ⟨u, lold _ _ h1, h2⟩
/-- what the levels are in the end -/
noncomputable def Ends (fs : Fs) (i : Nat) : Pl → Prop
  | .fin _ => fs[i]? = some (some 0)
  | .thr _ ws => (fs[i]? = some none ∧ ∀ g ∈ ws.map (·.2), lk fs g = none) ∨
      ∃ v, fs[i]? = some (some v) ∧ 1 ≤ v ∧ (∃ g ∈ ws.map (·.2), lk fs g = some (v - 1)) ∧ ∀ g ∈ ws.map (·.2), ∀ u, lk fs g = some u → v - 1 ≤ u
  | .pck _ to => (fs[i]? = some none ∧ ∃ g ∈ to, lk fs g = none) ∨
      ∃ v, fs[i]? = some (some v) ∧ 1 ≤ v ∧ (∀ g ∈ to, ∃ u, lk fs g = some u ∧ u ≤ v - 1) ∧ ∃ g ∈ to, lk fs g = some (v - 1)
end Lv
/-! PLACES REACHED, turn by turn: each with where it was found from and the way gone. -/
namespace Bf
open L2 Lv
abbrev En := Int × Option (Int × Nat) × List Nat
noncomputable def keys (es : List En) : List Int := es.map (·.1)
noncomputable def gAt (b : List Pl) (k : Int) : List Int := match b[k.toNat]? with | some q => gls q | none => []
noncomputable def addG (here : Int) (path : List Nat) : Nat → List Int → List En → List En
  | _, [], es => es
  | w, g :: gs, es => addG here path (w + 1) gs (if g ∈ keys es then es else es ++ [(g, some (here, w), path ++ [w])])
noncomputable def bfs (b : List Pl) : Nat → Nat → List En → List En
  | 0, _, es => es
  | m + 1, t, es => match es[t]? with | none => es | some e => bfs b m (t + 1) (addG e.1 e.2.2 0 (gAt b e.1) es)
noncomputable def steps (b : List Pl) (start : Int) : List En := bfs b (b.length + 1) 0 [(start, none, [])]
structure Core (b : List Pl) (start : Int) (es : List En) : Prop where
  nd : (keys es).Nodup
  rng : ∀ e ∈ es, 0 ≤ e.1 ∧ e.1 < b.length
  hd : es[0]? = some (start, none, [])
  par : ∀ (i : Nat) e, es[i]? = some e → 0 < i → ∃ (j : Nat) (ej : En) (w : Nat), j < i ∧ es[j]? = some ej ∧ e.2.1 = some (ej.1, w) ∧ (gAt b ej.1)[w]? = some e.1 ∧ e.2.2 = ej.2.2 ++ [w]
  mono : ∀ (i j : Nat) ei ej, i ≤ j → es[i]? = some ei → es[j]? = some ej → ei.2.2.length ≤ ej.2.2.length
/-- the turn's own goals, as far as they are gone through -/
structure Mid (b : List Pl) (start : Int) (t : Nat) (e : En) (k : Nat) (es : List En) : Prop extends Core b start es where
  at_ : es[t]? = some e
  top : ∀ (i : Nat) ei, es[i]? = some ei → ei.2.2.length ≤ e.2.2.length + 1
  old : ∀ (j : Nat) ej, j < t → es[j]? = some ej → ∀ g ∈ gAt b ej.1, ∃ (i : Nat) (ei : En), es[i]? = some ei ∧ ei.1 = g ∧ ei.2.2.length ≤ ej.2.2.length + 1
  now : ∀ g ∈ (gAt b e.1).take k, ∃ (i : Nat) (ei : En), es[i]? = some ei ∧ ei.1 = g ∧ ei.2.2.length ≤ e.2.2.length + 1
structure Inv (b : List Pl) (start : Int) (t : Nat) (es : List En) : Prop extends Core b start es where
  top : ∀ (i : Nat) ei et, es[i]? = some ei → es[t]? = some et → ei.2.2.length ≤ et.2.2.length + 1
  old : ∀ (j : Nat) ej, j < t → es[j]? = some ej → ∀ g ∈ gAt b ej.1, ∃ (i : Nat) (ei : En), es[i]? = some ei ∧ ei.1 = g ∧ ei.2.2.length ≤ ej.2.2.length + 1
theorem get_snoc {α : Type} {l : List α} {x y : α} {i : Nat} (h : (l ++ [x])[i]? = some y) : l[i]? = some y ∨ (i = l.length ∧ y = x) := by
  by_cases c : i < l.length
  · rw [List.getElem?_append_left c] at h
    exact .inl h
  · rw [List.getElem?_append_right (by omega)] at h
    have : i - l.length = 0 := by
      by_cases q : i - l.length = 0
      · exact q
      · rw [List.getElem?_eq_none (by simp; omega)] at h; cases h
    rw [this] at h
    simp at h
    exact .inr ⟨by omega, h.symm⟩
theorem up {α : Type} {l : List α} {x y : α} {i : Nat} (h : l[i]? = some y) : (l ++ [x])[i]? = some y := by
  rw [List.getElem?_append_left (List.getElem?_eq_some_iff.mp h).1]
  exact h
theorem one {b : List Pl} (gb : Good b) {start : Int} {t : Nat} {e : En} {k : Nat} {es : List En} {g : Int} (M : Mid b start t e k es) (hg : (gAt b e.1)[k]? = some g) :
    Mid b start t e (k + 1) (if g ∈ keys es then es else es ++ [(g, some (e.1, k), e.2.2 ++ [k])]) := by
  have tk : (gAt b e.1).take (k + 1) = (gAt b e.1).take k ++ [g] := by rw [List.take_add_one, hg]; rfl
  by_cases c : g ∈ keys es
  · rw [if_pos c]
    refine { M with now := fun x hx => ?_ }
    rw [tk] at hx
    rcases List.mem_append.mp hx with hx | hx
    · exact M.now x hx
    · have : x = g := by simpa using hx
      subst this
      obtain ⟨ei, hei, rfl⟩ := List.mem_map.mp c
      obtain ⟨i, hi⟩ := List.getElem?_of_mem hei
      exact ⟨i, ei, hi, rfl, M.top i ei hi⟩
  · rw [if_neg c]
    have rg : 0 ≤ g ∧ g < b.length := by
      unfold gAt at hg
      cases hb : b[e.1.toNat]? with
      | none => rw [hb] at hg; simp at hg
      | some q =>
        rw [hb] at hg
        exact gb.rng q (List.mem_of_getElem? hb) g (List.mem_of_getElem? hg)
    have tl : t < es.length := (List.getElem?_eq_some_iff.mp M.at_).1
    refine ⟨⟨?_, fun x hx => ?_, up M.hd, fun i x hx i0 => ?_, fun i j ei ej hij hi hj => ?_⟩, up M.at_, fun i ei hi => ?_, fun j ej hj hej x hx => ?_, fun x hx => ?_⟩
    · unfold keys at *
      rw [List.map_append]
      refine List.nodup_append.mpr ⟨M.nd, by simp, fun a ha b' hb' => ?_⟩
      have : b' = g := by simpa using hb'
      subst this
      intro z
      exact c (z ▸ ha)
    · rcases List.mem_append.mp hx with hx | hx
      · exact M.rng x hx
      · have : x = (g, some (e.1, k), e.2.2 ++ [k]) := by simpa using hx
        subst this
        exact rg
    · rcases get_snoc hx with hx | ⟨rfl, rfl⟩
      · obtain ⟨j, ej, w, a1, a2, a3⟩ := M.par i x hx i0
        exact ⟨j, ej, w, a1, up a2, a3⟩
      · exact ⟨t, e, k, tl, up M.at_, rfl, hg, rfl⟩
    · rcases get_snoc hi with hi | ⟨rfl, rfl⟩
      · rcases get_snoc hj with hj | ⟨rfl, rfl⟩
        · exact M.mono i j ei ej hij hi hj
        · have := M.top i ei hi
          simpa using this
      · rcases get_snoc hj with hj | ⟨rfl, rfl⟩
        · have := (List.getElem?_eq_some_iff.mp hj).1
          omega
        · exact Nat.le_refl _
    · rcases get_snoc hi with hi | ⟨rfl, rfl⟩
      · exact M.top i ei hi
      · simp
    · rcases get_snoc hej with hej | ⟨rfl, rfl⟩
      · obtain ⟨i, ei, a1, a2⟩ := M.old j ej hj hej x hx
        exact ⟨i, ei, up a1, a2⟩
      · omega
    · rw [tk] at hx
      rcases List.mem_append.mp hx with hx | hx
      · obtain ⟨i, ei, a1, a2⟩ := M.now x hx
        exact ⟨i, ei, up a1, a2⟩
      · have : x = g := by simpa using hx
        subst this
        exact ⟨es.length, (x, some (e.1, k), e.2.2 ++ [k]), by rw [List.getElem?_append_right (Nat.le_refl _)]; simp, rfl, by simp⟩
theorem addG_mid {b : List Pl} (gb : Good b) {start : Int} {t : Nat} {e : En} : ∀ (gs : List Int) (k : Nat) (es : List En), Mid b start t e k es → (∀ (i : Nat) g, gs[i]? = some g → (gAt b e.1)[k + i]? = some g) → Mid b start t e (k + gs.length) (addG e.1 e.2.2 k gs es)
  | [], k, es, M, _ => M
  | g :: gs, k, es, M, h => by
    have := addG_mid gb gs (k + 1) _ (one gb M (h 0 g rfl)) fun i x hx => by
      have := h (i + 1) x (by simpa using hx)
      rwa [show k + 1 + i = k + (i + 1) by omega]
    rw [List.length_cons, show k + (gs.length + 1) = k + 1 + gs.length by omega]
    exact this
theorem mid_of {b : List Pl} {start : Int} {t : Nat} {e : En} {es : List En} (I : Inv b start t es) (h : es[t]? = some e) : Mid b start t e 0 es :=
  { I with at_ := h, top := fun i ei hi => I.top i ei e hi h, now := fun g hg => by simp at hg }
theorem inv_of {b : List Pl} {start : Int} {t : Nat} {e : En} {es : List En} (M : Mid b start t e (gAt b e.1).length es) : Inv b start (t + 1) es := by
  refine { M with top := fun i ei et hi ht => ?_, old := fun j ej hj hej g hg => ?_ }
  · have h1 := M.top i ei hi
    have h2 := M.mono t (t + 1) e et (by omega) M.at_ ht
    omega
  · by_cases c : j < t
    · exact M.old j ej c hej g hg
    · have : j = t := by omega
      subst this
      rw [M.at_] at hej
      cases hej
      exact M.now g (by rw [List.take_of_length_le (Nat.le_refl _)]; exact hg)
theorem turn {b : List Pl} (gb : Good b) {start : Int} {t : Nat} {e : En} {es : List En} (I : Inv b start t es) (h : es[t]? = some e) : Inv b start (t + 1) (addG e.1 e.2.2 0 (gAt b e.1) es) := by
  have := addG_mid gb (gAt b e.1) 0 es (mid_of I h) fun i g hg => by rw [Nat.zero_add]; exact hg
  rw [Nat.zero_add] at this
  exact inv_of this
theorem inv0 {b : List Pl} {start : Int} (h0 : 0 ≤ start) (h1 : start < b.length) : Inv b start 0 [(start, none, [])] := by
  refine ⟨⟨by simp [keys], fun e he => ?_, rfl, fun i e he hi => ?_, fun i j ei ej _ hi hj => ?_⟩, fun i ei et hi ht => ?_, fun j ej hj => by omega⟩
  · have : e = (start, none, []) := by simpa using he
    subst this
    exact ⟨h0, h1⟩
  · rw [List.getElem?_eq_none (by simp; omega)] at he
    cases he
  · cases i with
    | zero => simp at hi; subst hi; simp
    | succ i => rw [List.getElem?_eq_none (by simp)] at hi; cases hi
  · cases i with
    | zero => simp at hi; subst hi; simp
    | succ i => rw [List.getElem?_eq_none (by simp)] at hi; cases hi
theorem few_nat : ∀ (n : Nat) (l : List Nat), l.Nodup → (∀ x ∈ l, x < n) → l.length ≤ n
  | 0, l, _, h => by
    cases l with
    | nil => exact Nat.le_refl _
    | cons x r => have := h x List.mem_cons_self; omega
  | n + 1, l, nd, h => by
    have := few_nat n (l.erase n) (nd.erase n) fun x hx => by
      have h1 := (nd.mem_erase_iff).mp hx
      have := h x h1.2
      have := h1.1
      omega
    have := List.length_erase (a := n) (l := l)
    split at this <;> omega
theorem few_of {n : Nat} {l : List Int} (nd : l.Nodup) (h : ∀ x ∈ l, 0 ≤ x ∧ x < (n : Int)) : l.length ≤ n := by
  have := few_nat n (l.map Int.toNat) (by
    unfold List.Nodup at *
    rw [List.pairwise_map]
    refine nd.imp_of_mem ?_
    intro a b ha hb hab z
    have := h a ha
    have := h b hb
    omega) fun x hx => by
      obtain ⟨y, hy, rfl⟩ := List.mem_map.mp hx
      have := h y hy
      omega
  rwa [List.length_map] at this
theorem Core.few {b : List Pl} {start : Int} {es : List En} (C : Core b start es) : es.length ≤ b.length := by
  have := few_of (n := b.length) C.nd fun x hx => by
    obtain ⟨e, he, rfl⟩ := List.mem_map.mp hx
    exact C.rng e he
  unfold keys at this
  rwa [List.length_map] at this
theorem Core.plen {b : List Pl} {start : Int} {es : List En} (C : Core b start es) : ∀ (i : Nat) (e : En), es[i]? = some e → e.2.2.length ≤ i := by
  intro i
  induction i using Nat.strongRecOn with
  | ind i ih =>
    intro e he
    by_cases c : i = 0
    · subst c
      rw [C.hd] at he
      cases he
      exact Nat.le_refl _
    · obtain ⟨j, ej, w, a1, a2, a3, a4, a5⟩ := C.par i e he (by omega)
      have := ih j a1 ej a2
      rw [a5, List.length_append, List.length_singleton]
      omega
/-- going along a list of ways -/
noncomputable def go (b : List Pl) : Int → List Nat → Option Int
  | k, [] => some k
  | k, w :: ws => match (gAt b k)[w]? with | some g => go b g ws | none => none
end Bf
/-! list(reversed(x)), {k: v}, list of a dict. -/
namespace PySem
section
variable {prog : Program} {w : World} {A : Around} {E : Value → Shared → Prop} {s : Shared}
end
end PySem
namespace L2
open PySem PySem.Spec PyProof.Rows PySem.W
section
variable {X : Cx} {K : PySem.W.Frag}
noncomputable def tRev (K : PySem.W.Frag) (te : TE) : TE := fun σ H Q => te σ H fun v H1 => ∃ p xs, v = .ref p ∧ SqL K H1 p xs ∧ ∀ l, H1 l = none → Q (.ref l) (upd H1 l (.lst xs.reverse))
/-- {k: v} -/
noncomputable def tD1 (tk tv : TE) : TE := fun σ H Q => ∀ d, H d = none → tk σ (upd H d (.dK [])) fun x H1 => tv σ H1 fun v H2 => ∃ k, x = kV k ∧ H2 d = some (.dK []) ∧ Q (.ref d) (upd H2 d (.dK [(k, v)]))
end
end L2
/-! list of a dict: its keys. -/
namespace PySem
section
variable {prog : Program} {w : World} {A : Around} {E : Value → Shared → Prop} {s : Shared}
variable {κ : Type} [DecidableEq κ] {knd : KeyKind prog w κ}
end
end PySem
namespace L2
open PySem PySem.Spec PyProof.Rows PySem.W
section
variable {X : Cx}
end
end L2
/-! max of a list with a default, list of a range. -/
namespace PySem
section
variable {prog : Program} {w : World} {A : Around} {R : Result → Shared → Prop} {I : Addr} {fp wr : List Addr} {n : Nat} {P : Nat → Value → Prop} {St : Nat → Heap → Prop} {kw : List (Str × Value)}
end
section
variable {prog : Program} {w : World} {A : Around} {E : Value → Shared → Prop} {s : Shared}
end
end PySem
namespace L2
open PySem PySem.Spec PyProof.Rows PySem.W
section
variable {X : Cx} {K : PySem.W.Frag}
noncomputable def tMaxD (K : PySem.W.Frag) (te td : TE) : TE := fun σ H Q => te σ H fun v H1 => td σ H1 fun dv H2 => ∃ p ns, v = .ref p ∧ SqL K H2 p (List.map V.int ns) ∧ (ns = [] → Q dv H2) ∧ ∀ M, M ∈ ns → (∀ a ∈ ns, a ≤ M) → Q (.int M) H2
/-- list(range(n)) -/
noncomputable def tLR (te : TE) : TE := fun σ H Q => te σ H fun v H1 => ∃ n : Nat, v = .int (n : Int) ∧ n ≤ 1000000 ∧ ∀ l, H1 l = none → Q (.ref l) (upd H1 l (.lst ((List.range n).map fun i : Nat => V.int (i : Int))))
end
end L2
/-! SORTING by any answers: what is told is what was handed in, in another order. -/
namespace KS
open PySem PySem.W PyProof.Rows
/-- all asks are of places below n; what is told in the end is post -/
noncomputable def Bd {α : Type} (lt : Nat → Nat → Bool) (n : Nat) (post : α → Prop) : KasT α → Prop
  | .ret a => post a
  | .ask i j k => i < n ∧ j < n ∧ Bd lt n post (k (lt i j))
theorem Bd.bind {α β : Type} {lt : Nat → Nat → Bool} {n : Nat} {post : β → Prop} {f : α → KasT β} : ∀ {t : KasT α}, Bd lt n (fun a => Bd lt n post (f a)) t → Bd lt n post (t.bind f)
  | .ret _, h => h
  | .ask _ _ _, ⟨h1, h2, h3⟩ => ⟨h1, h2, Bd.bind h3⟩
theorem Bd.mono {α : Type} {lt : Nat → Nat → Bool} {n : Nat} {p q : α → Prop} (hpq : ∀ a, p a → q a) : ∀ {t : KasT α}, Bd lt n p t → Bd lt n q t
  | .ret _, h => hpq _ h
  | .ask _ _ _, ⟨h1, h2, h3⟩ => ⟨h1, h2, Bd.mono hpq h3⟩
noncomputable def Pm (n : Nat) (p : Array Nat) : Prop := p.Perm (List.range n).toArray
theorem Pm.lt {n : Nat} {p : Array Nat} (h : Pm n p) (hn : 0 < n) (i : Nat) : p.getD i 0 < n := by
  by_cases hi : i < p.size
  · have : p.getD i 0 = p[i] := by simp [Array.getD, hi]
    rw [this]
    have hm : p[i] ∈ p := Array.getElem_mem hi
    have := (Array.Perm.mem_iff h).mp hm
    simpa using this
  · have : p.getD i 0 = 0 := by simp [Array.getD, hi]
    omega
variable {lt : Nat → Nat → Bool} {n : Nat}
section
variable {prog : Program} {w : World} {A : Around} {E : Value → Shared → Prop} {s : Shared} {vs : List Value} {κ : SortKind}
/-- pairs of ints: the first ones, then the second ones -/
noncomputable def ltP (x y : Int × Int) : Bool := if x.1 = y.1 then decide (x.2 < y.2) else decide (x.1 < y.1)
end
end KS
namespace L2
open PySem PySem.Spec PyProof.Rows PySem.W
section
variable {X : Cx} {K : PySem.W.Frag}
/-- a list of pairs of ints -/
noncomputable def PairsL (H : Hp) (xs : List V) : Prop := ∀ x ∈ xs, ∃ t a b, x = .ref t ∧ H t = some (.tup [.int a, .int b])
end
end L2
/-! LEVELS: that the ends' rows say all; boards changed, boards numbered anew. -/
namespace Lv
open L2
noncomputable def EndsAll (b : List Pl) (fs : Fs) : Prop := fs.length = b.length ∧ ∀ (i : Nat) q, b[i]? = some q → Ends fs i q
theorem EndsAll.nn {b : List Pl} {fs : Fs} (E : EndsAll b fs) {i : Nat} {v : Int} (h : fs[i]? = some (some v)) : 0 ≤ v := by
  have hi : i < b.length := by rw [← E.1]; exact (List.getElem?_eq_some_iff.mp h).1
  have := E.2 i _ (List.getElem?_eq_getElem hi)
  cases hq : b[i] with
  | fin w =>
    rw [hq] at this
    have this : fs[i]? = some (some 0) := this
    rw [h] at this
    cases this
    decide
  | thr w ws =>
    rw [hq] at this
    rcases this with ⟨a, _⟩ | ⟨v', a, b1, _⟩
    · rw [h] at a; cases a
    · rw [h] at a; cases a; omega
  | pck w to =>
    rw [hq] at this
    rcases this with ⟨a, _⟩ | ⟨v', a, b1, _⟩
    · rw [h] at a; cases a
    · rw [h] at a; cases a; omega
/-- a place that is no harder to come to an end from -/
noncomputable def Ez (q : Pl) : Pl → Prop
  | .fin _ => True
  | .thr w' ws' => ∃ w ws, q = .thr w ws ∧ ∀ g ∈ gls q, g ∈ gls (.thr w' ws')
  | .pck _ to' => ∃ w to, q = .pck w to ∧ ∀ g ∈ to', g ∈ to
theorem Ez.refl (q : Pl) : Ez q q := by
  cases q with
  | fin w => trivial
  | thr w ws => exact ⟨w, ws, rfl, fun g hg => hg⟩
  | pck w to => exact ⟨w, to, rfl, fun g hg => hg⟩
/-- numbered anew -/
noncomputable def nm (s : List Nat) (g : Int) : Int := ((s.getD g.toNat 0 : Nat) : Int)
noncomputable def ren (s : List Nat) : Pl → Pl
  | .fin w => .fin w
  | .thr w ws => .thr w (ws.map fun p => (p.1, nm s p.2))
  | .pck w to => .pck w (to.map (nm s))
noncomputable def turn (s : List Nat) (b : List Pl) : List Pl := (List.range b.length).map fun j => ren s (b.getD (s.idxOf j) (.fin (0, 1)))
section
variable {s : List Nat} {n : Nat} (p : s.Perm (List.range n))
include p
end
end Lv
/-! TEXTS cut apart, gone through sign by sign, read as numbers. -/
namespace PySem
open Builtin Builtin.Str
section
variable {prog : Program} {w : World} {A : Around} {E : Value → Shared → Prop} {s : Shared} {x y : Str} {t u : Tok} {Q : Value → Shared → Prop}
end
end PySem
namespace L2
open PySem PySem.Spec PyProof.Rows PySem.W
section
variable {X : Cx} {K : PySem.W.Frag}
/-- the signs of a text -/
noncomputable def Its (z : Str) : It := ⟨fun i _ => i < z.cps.size, fun i H x H' => H' = H ∧ ∃ c, z.cps[i]? = some c ∧ x = .str ⟨#[c]⟩, fun i _ => z.cps.size ≤ i⟩
noncomputable def iStr (tl : TE) : TI := fun σ H R => tl σ H fun x H1 => ∃ z, x = .str z ∧ z.cps.all (· < 128) = true ∧ R (Its z) H1
theorem pe_globI {x : Str} {i : Int} {pos : Pos} (hg : Gl X x) (h : ∃ t, X.mg x = some (.int i t)) (hd : (x == ("__debug__" : Str)) = false := by decide) : PE X (.Name x pos) (tC (.int i)) := by
  obtain ⟨t, h⟩ := h
  exact pe_glob hg h ⟨t, rfl⟩ hd
theorem pe_bmK {o e : Expr} {es : List Expr} {to : TE} {t : TA} {name : Str} {apos cpos : Pos} {T id : String} {r : V → List V → Hp → VK → Prop} (pa : PlainAttrs T) (slot : Slot T name id) (hty : typeOf (.builtin id) = pure (.type "method_descriptor")) (hm : MtR X id r) (ho : PE X o to) (ha : PA X (e :: es) t)
    (hbase : attributeBase o name X.env (eval o X.env) = eval o X.env := by rfl)
    (hfew : ((backTo cpos (starEach (e :: es) X.env)).all (fun x => !x.1) && (backToKw cpos (keywordEach [] X.env)).all (fun x => x.1.isSome)
      && decide ((e :: es).length + ([] : List Keyword).length + (if ([] : List Keyword).isEmpty then 0 else 1) < 30)) = true := by rfl)
    (hline : (apos.endLine == cpos.line) = true := by rfl) (hs : starEach (e :: es) X.env = (false, eval e X.env) :: starEach es X.env := by rfl) (hplain : (backTo cpos (starEach es X.env)).any (·.1) = false := by rfl) (hK : X.K = K := by rfl) :
    PE X (.Call (.Attribute o name apos) (e :: es) [] cpos) (tBM K T r to t) := by subst hK; exact pe_bm pa slot hty hm ho ha hbase hfew hline hs hplain
/-- z[lo:hi] of a text -/
noncomputable def rSlS : V → Option Int → Option Int → Hp → VK → Prop := fun x lo hi H Q => ∃ z, x = .str z ∧ z.length ≤ sizeLine ∧ Q (.str (Txt.slice z lo hi)) H
end
end L2
namespace PySem
end PySem
/-! TEXTS cut apart by " + "; a module's dict of tuples read by []; tuples put together. -/
namespace PySem
open Builtin Builtin.Str StrLaws
abbrev PLUS : Str := ⟨#[32, 43, 32]⟩
end PySem
namespace L2
open PySem PySem.Spec PyProof.Rows PySem.W
section
variable {X : Cx} {K : PySem.W.Frag}
/-- D[z], D a module's dict, z one of its texts -/
noncomputable def tMGet (K : PySem.W.Frag) (P : Params) (td ty : TE) : TE := fun σ H Q => td σ H fun x H1 => ty σ H1 fun y H2 => ∃ z a p es n, x = .ref a ∧ y = .str z ∧ K.lookup a = some ⟨.type "dict", none, .dict es n, #[]⟩ ∧ KeysLit P es.toList ∧ PySem.W.nsIn K a z = some (some (.ref p)) ∧ Q (.ref p) H2
noncomputable def rNotMod (K : PySem.W.Frag) (P : Params) : R2 := fun x y H Q => ∃ z a es n, x = .str z ∧ y = .ref a ∧ K.lookup a = some ⟨.type "dict", none, .dict es n, #[]⟩ ∧ KeysLit P es.toList ∧ (a == sysModules) = false ∧ Q (.bl (!(findBy Value.isStrOf es z).isSome)) H
/-- one row of a module's dict of tuples of two numbers -/
noncomputable def MRow (K : PySem.W.Frag) (a : Addr) (z : Str) (i j : Int) : Prop := ∃ p, PySem.W.nsIn K a z = some (some (.ref p)) ∧ ∃ dd n sl t u, K.lookup p = some ⟨.type "tuple", dd, .seq #[.int i t, .int j u] n, sl⟩
theorem MRow.rd {P : Params} {a : Addr} {ks : List Str} {z : Str} {i j : Int} (r : MRow K a z i j) (h : MDict K P a ks) : ∃ p es n, K.lookup a = some ⟨.type "dict", none, .dict es n, #[]⟩ ∧ KeysLit P es.toList ∧ PySem.W.nsIn K a z = some (some (.ref p)) ∧ ∀ H, SqT K H p [.int i, .int j] := by
  obtain ⟨p, e, dd, n1, sl, t, u, hp⟩ := r
  obtain ⟨es, n, hl, hk, _, _⟩ := h
  exact ⟨p, es, n, hl, hk, e, fun H => .inr ⟨_, _, n1, hp, rfl, rfl, (show 2 ≤ sizeLine by decide), .cons ⟨t, rfl⟩ (.cons ⟨u, rfl⟩ .nil)⟩⟩
end
end L2
/-! EXCEPTIONS that come out of a comprehension's block. -/
namespace PySem
section
variable {M : Model} {A : Around} {E : Value → Shared → Prop} {s : Shared} {env : Env}
end
end PySem
namespace L2
open PySem PySem.Spec PyProof.Rows PySem.W
section
variable {M : Model} {A : Around} {E : Value → Shared → Prop} {s : Shared} {B : Heap} {l : List Env} {ad L : Addr} {cls a0 : Value}
end
section
variable {P : Program} {w : World} {K : PySem.W.Frag} {mg : Str → Option Value} {base : Heap} {N : List Str} {qual : Str} {scope : Scope} {f : Addr} {cdv : Value} {A : Around} {outer : List Env} {s0 : Shared} {H0 : Hp} {E : XK}
/-- what may leave the block: an exception of a call within it -/
noncomputable def xeC (X : Cx) (N' : List Str) (scp : Scope) (E : XK) : List (Str × Addr) → Addr → Shared → Hp → List Addr → Value → Shared → Prop := fun cl C s H ex e s' =>
  ∃ pins σ H4 s4, Inv (cxC X N' scp cl C s H ex) pins σ H4 s4 ∧ CX1 X.prog X.w X.stack H4 s4 E e s'
end
end L2
/-! ### list.insert -/
namespace L2
open PySem PySem.Spec PyProof.Rows PySem.W
section
variable {X : Cx}
noncomputable def rIns : V → List V → Hp → VK → Prop := fun x vs H Q => ∃ l xs i y, x = .ref l ∧ vs = [.int i, y] ∧ H l = some (.lst xs) ∧ 0 ≤ i ∧ i ≤ (xs.length : Nat) ∧ xs.length < sizeLine ∧ Q .non (upd H l (.lst (xs.take i.toNat ++ y :: xs.drop i.toNat)))
end
end L2
/-! ZIP OF THREE LISTS, all equally long. -/
namespace L2
open PySem PySem.Spec PyProof.Rows PySem.W
abbrev IsTri (h : Heap) (T : Addr) (a b c : Value) : Prop := h.get? T = some { cls := .type "tuple", data := .seq #[a, b, c] }
/-- the zip's own objects and the lists lie apart -/
structure Ap3 (z TI TO i1 i2 i3 a b c : Addr) : Prop where
  TIz : TI ≠ z
  TOz : TO ≠ z
  i1z : i1 ≠ z
  i2z : i2 ≠ z
  i3z : i3 ≠ z
  TITO : TI ≠ TO
  TI1 : TI ≠ i1
  TI2 : TI ≠ i2
  TI3 : TI ≠ i3
  TO1 : TO ≠ i1
  TO2 : TO ≠ i2
  TO3 : TO ≠ i3
  i12 : i1 ≠ i2
  i13 : i1 ≠ i3
  i23 : i2 ≠ i3
  az : a ≠ z
  bz : b ≠ z
  cz : c ≠ z
  bTO : b ≠ TO
  cTO : c ≠ TO
  b1 : b ≠ i1
  c1 : c ≠ i1
  c2 : c ≠ i2
section
variable {prog : Program} {w : World} {A : Around} {E : Value → Shared → Prop} {s : Shared}
end
abbrev z3a (h : Heap) (la : Addr) : Heap := h.push { cls := .type "list_iterator", data := .fields #[.ref la, .int 0 0] }
abbrev z3b (h : Heap) (la lb : Addr) : Heap := (z3a h la).push { cls := .type "list_iterator", data := .fields #[.ref lb, .int 0 0] }
abbrev z3c (h : Heap) (la lb lc : Addr) : Heap := (z3b h la lb).push { cls := .type "list_iterator", data := .fields #[.ref lc, .int 0 0] }
abbrev z3d (h : Heap) (la lb lc : Addr) : Heap := (z3c h la lb lc).push { cls := .type "tuple", data := .seq #[.ref h.objs.size, .ref (z3a h la).objs.size, .ref (z3b h la lb).objs.size] }
abbrev z3e (h : Heap) (la lb lc : Addr) : Heap := (z3d h la lb lc).push { cls := .type "tuple", data := .seq #[.none, .none, .none] }
abbrev z3f (h : Heap) (la lb lc : Addr) : Heap := (z3e h la lb lc).push { cls := .type "zip", data := .fields #[.none, .bool false, .bool false, .ref (z3c h la lb lc).objs.size, .ref (z3d h la lb lc).objs.size] }
section
variable {prog : Program} {w : World} {A : Around} {E : Value → Shared → Prop} {s : Shared}
end
noncomputable def It3 (K : PySem.W.Frag) (a b c : Addr) : It :=
  ⟨fun i H => ∃ xs ys zs x y z, SqL K H a xs ∧ SqL K H b ys ∧ SqL K H c zs ∧ xs[i]? = some x ∧ ys[i]? = some y ∧ zs[i]? = some z,
   fun i H v H' => ∃ p, H p = none ∧ v = .ref p ∧ ∃ x y z, (∀ xs, SqL K H a xs → xs[i]? = some x) ∧ (∀ ys, SqL K H b ys → ys[i]? = some y) ∧ (∀ zs, SqL K H c zs → zs[i]? = some z) ∧ H' = upd H p (.tup [x, y, z]),
   fun i H => ∃ xs, SqL K H a xs ∧ xs.length = i⟩
section
variable {X : Cx} {elts : List Expr} {kk : Nat} {tpos : Pos} {K : PySem.W.Frag}
noncomputable def iZip3 (K : PySem.W.Frag) (ta : TA) : TI := fun σ H R => ta σ H fun vs H1 => ∃ a b c, vs = [.ref a, .ref b, .ref c] ∧ (∃ xs, SqL K H1 a xs) ∧ (∃ ys, SqL K H1 b ys) ∧ (∃ zs, SqL K H1 c zs) ∧ R (It3 K a b c) H1
end
end L2
/-! CALLS WITHIN AN EXCEPT SUITE; a text's count, partition and index. -/
namespace L2
open PySem PySem.Spec PyProof.Rows PySem.W
/-- a def's promise, kept also while an exception is handled -/
structure FnOkM (P : Program) (w : World) (K : PySem.W.Frag) (mg : Str → Option Value) (base : Heap) (CX : CXT) (k : Nat) (f : Addr) (fd : FuncData) (ps : List Str) (sp : Sp) : Prop where
  len : ∀ vs H Q E, sp vs H Q E → vs.length = ps.length
  run : ∀ (A : Around) (ad : Addr) (outer : List Env) (s : Shared) (H : Hp) (args : Args) (us : List Value) (vs : List V) (Q : VK) (E : XK), Room k A → Env0 P w K mg base A outer s H → BindsTo s fd args (ps.zip us) → Vals vs us → sp vs H Q E →
    codeAny (model P w) (A.mark (some (.ref ad))) (.call (.ref f) args) (CR CX outer P w H s Q E) s
theorem fn_ofM {CX : CXT} {P : Program} {w : World} {K : PySem.W.Frag} {mg : Str → Option Value} {base : Heap} {k : Nat} {f : Addr} {name qual : Str} {params : Arguments} {body : List Stmt} {scope : Scope} {dV kV doc pm cdv ct oc : Value} {an od : Option Addr}
    {osl : Array (Option Value)} {N ps : List Str} {sp : Sp} (lk : K.lookup f = some ⟨oc, od, .func (PySem.W.fnOf name qual params body scope dV kV doc pm an cdv ct), osl⟩) (hcd : PySem.W.codeIn K cdv qual = true) (S : FnScope N ps scope)
    (len : ∀ vs H Q E, sp vs H Q E → vs.length = ps.length)
    (hbody : ∀ (A : Around) (ad : Addr) (outer : List Env) (s : Shared) (H : Hp) (vs : List V) (Q : VK) (E : XK), Room k (A.deeper (envOfC qual scope s.heap.objs.size f cdv)) → sp vs H Q E →
      ∃ t, PSs ((cxOf CX P w K mg base N qual scope f cdv A outer s H E).mark ad) body t ∧ t { nx := fun _ H' => Q .non H', rt := Q } (start N vs) H) :
    FnOkM P w K mg base CX (k + 1) f (PySem.W.fnOf name qual params body scope dV kV doc pm an cdv ct) ps sp := by
  refine ⟨len, fun A ad outer s H args us vs Q E hr e0 hb r hsp => ?_⟩
  have hl := len _ _ _ _ hsp
  have KX : K.In s.heap := e0.mod.kin.keeps fun b o e => (e0.bs b o e).1
  have lim : s.heap.NoLimit := e0.mod.nolimit.keeps fun b o e => (e0.bs b o e).1
  have hkind : ∀ y ∈ ps.zip us, scope.names.lookup y.1 = some .local ∨ (scope.names.lookup y.1 = some .cell ∧ ((cellsFrom (s.heap.objs.size + 1) scope.names []).lookup y.1).isSome = true) := fun ⟨n, v⟩ hy => by
    rcases S.par n (List.of_mem_zip hy).1 with q | q
    · exact .inl q
    · exact .inr ⟨q, PySem.W.cellsFrom_some _ _ _ (.inl q)⟩
  refine codeAny_call_function (show (A.mark (some (.ref ad))).depth < recursionLimit from hr.depth) (KX _ _ lk) rfl S.co S.gen rfl (PySem.W.codeRec_of KX hcd) (hb _ _ _ _ ?_)
  refine wpAny_newFunctionEnv_cells S.kind hkind fun env he s1 x => ?_
  subst he
  refine ⟨lim.keeps x.toInCall.keep, codeAny_func ?_⟩
  obtain ⟨t, ht, hq⟩ := hbody A ad outer s H vs Q E (hr.deeper _) hsp
  have I : Inv (cxOf CX P w K mg base N qual scope f cdv A outer s H E) [] (start N vs) H s1 := inv_start S hr.hd e0 hl r x
  refine wpAny_mono (ht [] s1 (start N vs) H _ (I.mark ad) hq) (fun fl s' hs => ?_) fun e s' hs => False.elim hs
  have fin : ∀ {σ' : St} {H' : Hp} {v : V} {u : Value}, Inv ((cxOf CX P w K mg base N qual scope f cdv A outer s H E).mark ad) [] σ' H' s' → RelV v u → Q v H' → CE outer P w H s Q u s' :=
    fun {σ' H' v u} J rv q => ⟨v, H', J.os, J.bare, J.base, J.hok, rv, q⟩
  cases fl with
  | ret u =>
    obtain ⟨v, σ', H', J, rv, q⟩ := hs
    exact fin J rv q
  | next =>
    obtain ⟨σ', H', J, q⟩ := hs
    exact fin (v := V.non) (u := Value.none) J rfl q
  | brk =>
    obtain ⟨_, _, _, q⟩ := hs
    exact False.elim q
  | cont =>
    obtain ⟨_, _, _, q⟩ := hs
    exact False.elim q
structure CalM (P : Program) (w : World) (K : PySem.W.Frag) (mg : Str → Option Value) (base : Heap) (CX : CXT) (k : Nat) (x : Str) (ps : List Str) (sp : Sp) : Prop where
  ex : ∃ f fd, FnOkM P w K mg base CX k f fd ps sp ∧ mg x = some (.ref f) ∧ PySem.W.keepIn K (.ref f) = true ∧ Binds K fd ps []
section
variable {P : Program} {w : World} {K : PySem.W.Frag} {mg : Str → Option Value} {base : Heap} {CX : CXT}
theorem Fun.okM {x qual : Str} {st : Stmt} {f : Addr} {fd : FuncData} {N ps : List Str} {k : Nat} {sp : Sp} (F : Fun K x qual st f fd) (S : FnScope N ps (defScope st)) (len : ∀ vs H Q E, sp vs H Q E → vs.length = ps.length)
    (hbody : ∀ (cdv : Value) (A : Around) (ad : Addr) (outer : List Env) (s : Shared) (H : Hp) (vs : List V) (Q : VK) (E : XK), Room k (A.deeper (envOfC qual (defScope st) s.heap.objs.size f cdv)) → sp vs H Q E →
      ∃ t, PSs ((cxOf CX P w K mg base N qual (defScope st) f cdv A outer s H E).mark ad) (defBody st) t ∧ t { nx := fun _ H' => Q .non H', rt := Q } (start N vs) H) : FnOkM P w K mg base CX (k + 1) f fd ps sp := by
  obtain ⟨oc, od, kV, doc, pm, an, cdv, ct, osl, rfl, lk, hcd⟩ := F.ex
  exact fn_ofM lk hcd S len fun A ad outer s H vs Q E hr hsp => hbody cdv A ad outer s H vs Q E hr hsp
theorem Dn.calM {x : Str} {st : Stmt} {ps : List Str} {k : Nat} {sp : Sp} (D : Dn K mg x st)
    (hb : ∀ (kV doc pm : Value) (an : Option Addr) (cdv ct : Value) (us : List Value), us.length = ps.length → bindArgs (PySem.W.fnOf x x (defArgs st) (defBody st) (defScope st) .none kV doc pm an cdv ct) ⟨us, []⟩ = pure (ps.zip us))
    (h : ∀ f fd, Fun K x x st f fd → FnOkM P w K mg base CX k f fd ps sp) : CalM P w K mg base CX k x ps sp := by
  obtain ⟨f, fd, F, hm⟩ := D.ex
  exact ⟨f, fd, h f fd F, hm, F.kp, F.binds hb⟩
end
section
variable {X : Cx} {K : PySem.W.Frag}
/-- f(..) in an except suite -/
theorem pe_calM {CX : CXT} {k : Nat} {x : Str} {ps : List Str} {sp : Sp} {e : Expr} {es : List Expr} {t : TA} {p pos : Pos} {ad : Addr} (C : CalM X.prog X.w X.K X.mg X.base CX k x ps sp) (hr : Room k X.A) (hg : Gl X x) (hst : Strict CX) (ha : PA (X.mark ad) (e :: es) t)
    (hdb : (x == ("__debug__" : Str)) = false := by decide) (he : starEach (e :: es) X.env = (false, eval e X.env) :: starEach es X.env := by rfl) (hpl : (backTo pos (starEach es X.env)).any (·.1) = false := by rfl) :
    PE (X.mark ad) (.Call (.Name x p) (e :: es) [] pos) (tCall sp [] E0 t) := by
  intro pins s σ H Q I h
  obtain ⟨f, fd, F, hm, hk, hb⟩ := C.ex
  refine wpAny_Call_Name_kw (ld_glob I hg hm ?_ hdb)
  refine PySem.W.callWith_K (h₀ := X.base) I.ok.mod.kin hk (thn (ha pos pins s σ H _ I h) fun us s1 ⟨vs, H1, I1, r, q⟩ => ⟨I1.kIn, ?_⟩) he hpl
  have q : sp (vs ++ []) H1 Q E0 := q
  rw [List.append_nil] at q
  have hl : us.length = ps.length := by rw [← r.length]; exact F.len _ _ _ _ q
  have hb' := hb s1 us I1.kIn (by rw [List.append_nil]; exact hl)
  rw [List.append_nil] at hb'
  have e0 : Env0 X.prog X.w X.K X.mg X.base X.A X.stack s1 H1 := ⟨I1.env0.frames, I1.env0.mod, I1.env0.bs, I1.env0.bsz, I1.env0.funs, I1.env0.frf, I1.env0.hok, I1.env0.bare⟩
  refine wpAny_call (codeAny_mono (F.run X.A ad X.stack s1 H1 ⟨us, []⟩ us vs Q E0 hr e0 hb' r q) fun r s' hq => ?_)
  cases r with
  | error e => exact (hst _ _ _ _ _ hq).elim
  | ok fl =>
    cases fl with
    | ret u => exact I1.after hq
    | next => exact False.elim hq
    | brk => exact False.elim hq
    | cont => exact False.elim hq
end
end L2
namespace PySem
open Builtin Builtin.Str StrLaws
end PySem
/-! str() of a text or a number. -/
namespace L2
open PySem PySem.Spec PyProof.Rows PySem.W
/-- what str() makes of a text or a number -/
noncomputable def txV : V → Option Str
  | .str z => some z
  | .int i => if i.natAbs.log2 < 1920 then some (Str.ofString (toString i)) else none
  | _ => none
section
variable {X : Cx} {K : PySem.W.Frag}
end
end L2
/-! sorted(x, reverse=True) of ints; one >= other of lists of ints. -/
namespace L2
open PySem PySem.Spec PyProof.Rows PySem.W
section
variable {X : Cx} {K : PySem.W.Frag}
noncomputable def tSortR (K : PySem.W.Frag) (te : TE) : TE := fun σ H Q => te σ H fun v H1 => ∃ p ns, v = .ref p ∧ SqL K H1 p (List.map V.int ns) ∧ ns.length < 64 ∧ ∀ l, H1 l = none → Q (.ref l) (upd H1 l (.lst (List.map V.int (Nm.srt ns).reverse)))
end
end L2
namespace PySem.SeqAt
open AutoSeq1 (wpAny_loadPart')
open MeetsSeq MeetsSeq2 MeetsSeq3
noncomputable def RcGeAt (A : Around) (s : Shared) (y x : Value) (b : Bool) : Prop :=
  ∀ (prog : Program) (w : World) (E : Value → Shared → Prop) (Q : Value → Shared → Prop), Q (.bool b) s → wpAny (model prog w) A (richCompare .GtE y x) Q E s
noncomputable def geFrom (e g : Nat → Bool) (fin : Bool) : Nat → Nat → Bool
  | 0, _ => fin
  | k + 1, i => if e i = true then geFrom e g fin k (i + 1) else g i
end PySem.SeqAt
namespace L2
open PySem PySem.Spec PyProof.Rows PySem.W
noncomputable def lexGe : List Int → List Int → Bool
  | [], [] => true
  | [], _ :: _ => false
  | _ :: _, [] => true
  | a :: r, b :: q => if a = b then lexGe r q else decide (b ≤ a)
section
variable {X : Cx} {K : PySem.W.Frag}
noncomputable def rGeL : R2 := fun x y H Q => ∃ p q ns ms, x = .ref p ∧ y = .ref q ∧ H p = some (.lst (List.map V.int ns)) ∧ H q = some (.lst (List.map V.int ms)) ∧ Q (.bl (lexGe ns ms)) H
end
end L2
/-! a, b = [x, y]; x[::-1] of lists. -/
namespace PySem.UL
section
variable {prog : Program} {w : World} {A : Around} {E : Value → Shared → Prop} {s : Shared}
end
end PySem.UL
namespace L2
open PySem PySem.Spec PyProof.Rows PySem.W
section
variable {X : Cx} {K : PySem.W.Frag}
noncomputable def gLst (K : PySem.W.Frag) (n : Nat) (t : TGs) : TG := fun v σ H Q => ∃ a xs, v = .ref a ∧ SqL K H a xs ∧ xs.length = n ∧ t xs σ H Q
noncomputable def tSlR (K : PySem.W.Frag) (te ts : TE) : TE := fun σ H Q => te σ H fun x H1 => ts σ H1 fun y H2 => ∃ a xs, x = .ref a ∧ y = .int (-1) ∧ SqL K H2 a xs ∧ ∀ p, H2 p = none → Q (.ref p) (upd H2 p (.lst xs.reverse))
end
end L2
/-! sorting 64 and more numbers: gallop, merges, runs. -/
namespace PySem.Tim
open PySem PyProof.Rows
noncomputable def IsI (x : Keyed) : Prop := ∃ n t, x.1 = .int n t
abbrev kn (x : Keyed) : Int := numOf x.1
noncomputable def gallop' : Bool → Keyed → Array Keyed → Nat → Nat → Nat → StateT SortSt Sem (Option Nat) := sortPriv% PySem.Builtin.gallop
noncomputable def byd (left : Bool) (key : Keyed) (arr : Array Keyed) (base i : Nat) : StateT SortSt Sem (Option Bool) := do
  let x ← elem' arr (base + i)
  if left then lt' x key else return (← lt' key x).map (!·)
noncomputable def gbin (left : Bool) (key : Keyed) (arr : Array Keyed) (base n lo0 hi0 : Nat) : StateT SortSt Sem (Option Nat) := do
  let mut lo := lo0
  let mut hi := hi0
  for _ in [0:n] do
    if lo ≥ hi then break
    let m := lo + (hi - lo) / 2
    let some more ← byd left key arr base m | return none
    if more then lo := m + 1 else hi := m
  return some hi
section
variable {prog : Program} {w : World} {A : Around} {E : Value → Shared → Prop} {s : Shared}
/-- what gallop asks -/
noncomputable def B (left : Bool) (key : Keyed) (arr : Array Keyed) (base i : Nat) : Bool := if left then decide (K arr (base + i) < kn key) else decide (K arr (base + i) ≤ kn key)
noncomputable def setG' (g : Nat) : StateT SortSt Sem Unit := (sortPriv% PySem.Builtin.setMinGallop) g
noncomputable def mergeLo' : Array Keyed → Array Keyed → StateT SortSt Sem (Array Keyed) := sortPriv% PySem.Builtin.mergeLo
noncomputable def dn (a b out : Array Keyed) (ia ib : Nat) : Array Keyed := out ++ a.extract ia a.size ++ b.extract ib b.size
noncomputable def lA (a b out : Array Keyed) (ia ib : Nat) : Array Keyed := out ++ b.extract ib b.size ++ a.extract ia a.size
/-! ### what a merge keeps -/
noncomputable def Le (x y : Keyed) : Prop := kn x ≤ kn y
structure MI (a b out : List Keyed) (ia ib : Nat) : Prop where
  perm : out.Perm (a.take ia ++ b.take ib)
  srt : out.Pairwise Le
  le : ∀ x ∈ out, ∀ y, (y ∈ a.drop ia ∨ y ∈ b.drop ib) → kn x ≤ kn y
theorem take_one {l : List Keyed} {i : Nat} {x : Keyed} (e : l[i]? = some x) : l.take (i + 1) = l.take i ++ [x] := by rw [List.take_add_one, e]; rfl
theorem drop_one {l : List Keyed} {i : Nat} {x : Keyed} (e : l[i]? = some x) : l.drop i = x :: l.drop (i + 1) := by
  obtain ⟨h, rfl⟩ := List.getElem?_eq_some_iff.mp e
  exact List.drop_eq_getElem_cons h
theorem srt_drop {l : List Keyed} {i : Nat} {x : Keyed} (h : l.Pairwise Le) (e : l[i]? = some x) : ∀ y ∈ l.drop i, kn x ≤ kn y := by
  have := List.Pairwise.drop (i := i) h
  rw [drop_one e] at this ⊢
  intro y hy
  rcases List.mem_cons.mp hy with rfl | hy
  · exact Int.le_refl _
  · exact (List.pairwise_cons.mp this).1 y hy
theorem MI.pushB {a b out : List Keyed} {ia ib : Nat} {x : Keyed} (m : MI a b out ia ib) (hb : b.Pairwise Le) (e : b[ib]? = some x) (h : ∀ y ∈ a.drop ia, kn x ≤ kn y) : MI a b (out ++ [x]) ia (ib + 1) := by
  have xb : x ∈ b.drop ib := by rw [drop_one e]; simp
  have sub : ∀ y ∈ b.drop (ib + 1), y ∈ b.drop ib := fun y hy => by rw [drop_one e]; exact List.mem_cons_of_mem _ hy
  refine ⟨?_, ?_, ?_⟩
  · rw [take_one e, ← List.append_assoc]
    exact m.perm.append_right _
  · rw [List.pairwise_append]
    exact ⟨m.srt, by simp, fun u hu v hv => by rw [List.mem_singleton.mp hv]; exact m.le u hu x (.inr xb)⟩
  · intro u hu y hy
    rcases List.mem_append.mp hu with hu | hu
    · rcases hy with hy | hy
      · exact m.le u hu y (.inl hy)
      · exact m.le u hu y (.inr (sub y hy))
    · rw [List.mem_singleton.mp hu]
      rcases hy with hy | hy
      · exact h y hy
      · exact srt_drop hb e y (sub y hy)
theorem MI.pushA {a b out : List Keyed} {ia ib : Nat} {x : Keyed} (m : MI a b out ia ib) (ha : a.Pairwise Le) (e : a[ia]? = some x) (h : ∀ y ∈ b.drop ib, kn x ≤ kn y) : MI a b (out ++ [x]) (ia + 1) ib := by
  have xb : x ∈ a.drop ia := by rw [drop_one e]; simp
  have sub : ∀ y ∈ a.drop (ia + 1), y ∈ a.drop ia := fun y hy => by rw [drop_one e]; exact List.mem_cons_of_mem _ hy
  refine ⟨?_, ?_, ?_⟩
  · rw [take_one e, List.append_assoc]
    refine (m.perm.append_right [x]).trans ?_
    rw [List.append_assoc]
    exact List.perm_append_comm.append_left _
  · rw [List.pairwise_append]
    exact ⟨m.srt, by simp, fun u hu v hv => by rw [List.mem_singleton.mp hv]; exact m.le u hu x (.inl xb)⟩
  · intro u hu y hy
    rcases List.mem_append.mp hu with hu | hu
    · rcases hy with hy | hy
      · exact m.le u hu y (.inl (sub y hy))
      · exact m.le u hu y (.inr hy)
    · rw [List.mem_singleton.mp hu]
      rcases hy with hy | hy
      · exact srt_drop ha e y (sub y hy)
      · exact h y hy
theorem MI.appA {a b out : List Keyed} {ia ib : Nat} (m : MI a b out ia ib) (ha : a.Pairwise Le) : ∀ k, ia + k ≤ a.length → (∀ i x, i < k → a[ia + i]? = some x → ∀ y ∈ b.drop ib, kn x ≤ kn y) → MI a b (out ++ (a.drop ia).take k) (ia + k) ib
  | 0, _, _ => by simpa using m
  | k + 1, hk, h => by
    have e : a[ia + k]? = some (a[ia + k]'(by omega)) := List.getElem?_eq_getElem (by omega)
    have m1 := (m.appA ha k (by omega) fun i x hi => h i x (by omega)).pushA ha e (h k _ (by omega) e)
    have e2 : (a.drop ia).take (k + 1) = (a.drop ia).take k ++ [a[ia + k]'(by omega)] := take_one (by rw [List.getElem?_drop]; exact e)
    rw [e2, ← List.append_assoc]
    exact m1
theorem MI.appB {a b out : List Keyed} {ia ib : Nat} (m : MI a b out ia ib) (hb : b.Pairwise Le) : ∀ k, ib + k ≤ b.length → (∀ i x, i < k → b[ib + i]? = some x → ∀ y ∈ a.drop ia, kn x ≤ kn y) → MI a b (out ++ (b.drop ib).take k) ia (ib + k)
  | 0, _, _ => by simpa using m
  | k + 1, hk, h => by
    have e : b[ib + k]? = some (b[ib + k]'(by omega)) := List.getElem?_eq_getElem (by omega)
    have m1 := (m.appB hb k (by omega) fun i x hi => h i x (by omega)).pushB hb e (h k _ (by omega) e)
    have e2 : (b.drop ib).take (k + 1) = (b.drop ib).take k ++ [b[ib + k]'(by omega)] := take_one (by rw [List.getElem?_drop]; exact e)
    rw [e2, ← List.append_assoc]
    exact m1
noncomputable def Res (a b r : List Keyed) : Prop := r.Perm (a ++ b) ∧ r.Pairwise Le
theorem MI.doneB {a b out : List Keyed} {ia ib : Nat} (m : MI a b out ia ib) (ha : a.Pairwise Le) (h : b.length ≤ ib) : Res a b (out ++ a.drop ia ++ b.drop ib) := by
  have e : b.drop ib = [] := List.drop_of_length_le h
  have e2 : b.take ib = b := List.take_of_length_le h
  rw [e, List.append_nil]
  refine ⟨?_, ?_⟩
  · have := m.perm.append_right (a.drop ia)
    rw [e2, List.append_assoc] at this
    refine this.trans ((List.perm_append_comm (l₁ := b) (l₂ := a.drop ia)).append_left (a.take ia) |>.trans ?_)
    rw [← List.append_assoc, List.take_append_drop]
  · rw [List.pairwise_append]
    exact ⟨m.srt, ha.drop, fun u hu v hv => m.le u hu v (.inl hv)⟩
theorem MI.doneA {a b out : List Keyed} {ia ib : Nat} (m : MI a b out ia ib) (hb : b.Pairwise Le) (h : a.length ≤ ia) : Res a b (out ++ a.drop ia ++ b.drop ib) := by
  have e : a.drop ia = [] := List.drop_of_length_le h
  have e2 : a.take ia = a := List.take_of_length_le h
  rw [e, List.append_nil]
  refine ⟨?_, ?_⟩
  · have := m.perm.append_right (b.drop ib)
    rw [e2, List.append_assoc, List.take_append_drop] at this
    exact this
  · rw [List.pairwise_append]
    exact ⟨m.srt, hb.drop, fun u hu v hv => m.le u hu v (.inr hv)⟩
theorem dn_list (a b out : Array Keyed) (ia ib : Nat) : (dn a b out ia ib).toList = out.toList ++ a.toList.drop ia ++ b.toList.drop ib := by
  unfold dn
  simp only [Array.toList_append, Array.toList_extract]
  simp
  rw [List.take_of_length_le (by simp), List.take_of_length_le (by simp)]
noncomputable def SG (st st' : SortSt) : Prop := kindOf st' = kindOf st ∧ arrOf st' = arrOf st ∧ pendingOf st' = pendingOf st ∧ failedOf st' = failedOf st
theorem SG.refl (st : SortSt) : SG st st := ⟨rfl, rfl, rfl, rfl⟩
theorem K_get {a : Array Keyed} {i : Nat} {x : Keyed} (e : a.toList[i]? = some x) : K a i = kn x := by
  unfold K
  rw [← Array.getElem?_toList, e]
theorem arr_get {a : Array Keyed} {i : Nat} (h : i < a.size) : ∃ x, a.toList[i]? = some x ∧ a[i]? = some x := ⟨a[i], by rw [List.getElem?_eq_getElem (by simpa using h)]; rfl, by simp [h]⟩
abbrev LoT := Option (Array Keyed) × Array Keyed × Nat × Nat × Nat × Nat × Nat
noncomputable def loC (a b out : Array Keyed) (ia ib mg ac bc : Nat) : StateT SortSt Sem (ForInStep LoT) := do
  let v ← elem' a ia
  if ia + 1 + 1 == a.size then pure (.done (some (lA a b (out.push v) (ia + 1) ib), out.push v, ia + 1, ib, mg, ac, bc))
  else if ac < 7 && bc < 7 then pure (.done (none, out.push v, ia + 1, ib, mg, ac, bc)) else pure (.yield (none, out.push v, ia + 1, ib, mg, ac, bc))
noncomputable def loB (a b out : Array Keyed) (ia ib mg ac bc : Nat) : StateT SortSt Sem (ForInStep LoT) := do
  let u ← elem' b ib
  if ib + 1 == b.size then pure (.done (some (dn a b (out.push u) ia (ib + 1)), out.push u, ia, ib + 1, mg, ac, bc))
  else
    let v ← elem' a ia
    let x ← gallop' true v b (ib + 1) (b.size - (ib + 1)) 0
    match x with
    | some k =>
      if k > 0 then
        if ib + 1 + k == b.size then pure (.done (some (dn a b (out.push u ++ b.extract (ib + 1) (ib + 1 + k)) ia (ib + 1 + k)), out.push u ++ b.extract (ib + 1) (ib + 1 + k), ia, ib + 1 + k, mg, ac, k))
        else loC a b (out.push u ++ b.extract (ib + 1) (ib + 1 + k)) ia (ib + 1 + k) mg ac k
      else loC a b (out.push u) ia (ib + 1) mg ac k
    | _ => pure (.done (some (dn a b (out.push u) ia (ib + 1)), out.push u, ia, ib + 1, mg, ac, bc))
/-- what both halves of a merge start from -/
structure MC (st : SortSt) (a b : Array Keyed) : Prop where
  hk : kindOf st = oneType'
  iA : ∀ x ∈ a.toList, IsI x
  iB : ∀ x ∈ b.toList, IsI x
  sA : a.toList.Pairwise Le
  sB : b.toList.Pairwise Le
  hl : ∀ x, a.toList[a.size - 1]? = some x → ∀ y ∈ b.toList, kn y ≤ kn x
theorem MC.rB {st : SortSt} {a b out : Array Keyed} {ia ib : Nat} (c : MC st a b) (m : MI a.toList b.toList out.toList ia ib) (e : ib = b.size) : Res a.toList b.toList (dn a b out ia ib).toList := by rw [dn_list]; exact m.doneB c.sA (by simp; omega)
theorem MC.rA {st : SortSt} {a b out : Array Keyed} {ia ib : Nat} (c : MC st a b) (m : MI a.toList b.toList out.toList ia ib) (e : ia = a.size) : Res a.toList b.toList (dn a b out ia ib).toList := by rw [dn_list]; exact m.doneA c.sB (by simp; omega)
/-! ### merging from the end -/
structure HI (a b o : List Keyed) (na nb : Nat) : Prop where
  perm : o.Perm (a.drop na ++ b.drop nb)
  srt : o.Pairwise Le
  le : ∀ x ∈ o, ∀ y, (y ∈ a.take na ∨ y ∈ b.take nb) → kn y ≤ kn x
theorem srt_take {l : List Keyed} {i : Nat} {x : Keyed} (h : l.Pairwise Le) (e : l[i]? = some x) : ∀ y ∈ l.take (i + 1), kn y ≤ kn x := by
  intro y hy
  have := List.Pairwise.take (i := i + 1) h
  rw [take_one e] at this hy
  rcases List.mem_append.mp hy with hy | hy
  · exact (List.pairwise_append.mp this).2.2 y hy x (by simp)
  · rw [List.mem_singleton.mp hy]; exact Int.le_refl _
theorem HI.pushA {a b o : List Keyed} {na nb : Nat} {x : Keyed} (m : HI a b o (na + 1) nb) (ha : a.Pairwise Le) (e : a[na]? = some x) (h : ∀ y ∈ b.take nb, kn y ≤ kn x) : HI a b (x :: o) na nb := by
  have xa : x ∈ a.take (na + 1) := by rw [take_one e]; simp
  have sub : ∀ y ∈ a.take na, y ∈ a.take (na + 1) := fun y hy => by rw [take_one e]; exact List.mem_append_left _ hy
  refine ⟨?_, ?_, ?_⟩
  · rw [drop_one e]
    exact m.perm.cons x
  · exact List.pairwise_cons.mpr ⟨fun u hu => m.le u hu x (.inl xa), m.srt⟩
  · intro u hu y hy
    rcases List.mem_cons.mp hu with rfl | hu
    · rcases hy with hy | hy
      · exact srt_take ha e y (sub y hy)
      · exact h y hy
    · rcases hy with hy | hy
      · exact m.le u hu y (.inl (sub y hy))
      · exact m.le u hu y (.inr hy)
theorem HI.pushB {a b o : List Keyed} {na nb : Nat} {x : Keyed} (m : HI a b o na (nb + 1)) (hb : b.Pairwise Le) (e : b[nb]? = some x) (h : ∀ y ∈ a.take na, kn y ≤ kn x) : HI a b (x :: o) na nb := by
  have xb : x ∈ b.take (nb + 1) := by rw [take_one e]; simp
  have sub : ∀ y ∈ b.take nb, y ∈ b.take (nb + 1) := fun y hy => by rw [take_one e]; exact List.mem_append_left _ hy
  refine ⟨?_, ?_, ?_⟩
  · rw [drop_one e]
    exact (m.perm.cons x).trans List.perm_middle.symm
  · exact List.pairwise_cons.mpr ⟨fun u hu => m.le u hu x (.inr xb), m.srt⟩
  · intro u hu y hy
    rcases List.mem_cons.mp hu with rfl | hu
    · rcases hy with hy | hy
      · exact h y hy
      · exact srt_take hb e y (sub y hy)
    · rcases hy with hy | hy
      · exact m.le u hu y (.inl hy)
      · exact m.le u hu y (.inr (sub y hy))
theorem HI.appA {a b o : List Keyed} {na nb : Nat} (m : HI a b o na nb) (ha : a.Pairwise Le) (hn : na ≤ a.length) : ∀ k, k ≤ na → (∀ i x, na - k ≤ i → i < na → a[i]? = some x → ∀ y ∈ b.take nb, kn y ≤ kn x) → HI a b ((a.drop (na - k)).take k ++ o) (na - k) nb
  | 0, _, _ => by simpa using m
  | k + 1, hk, h => by
    have e : a[na - (k + 1)]? = some (a[na - (k + 1)]'(by omega)) := List.getElem?_eq_getElem (by omega)
    have m0 := m.appA ha hn k (by omega) fun i x h1 h2 => h i x (by omega) h2
    rw [show na - k = na - (k + 1) + 1 by omega] at m0
    have m1 := m0.pushA ha e (h _ _ (Nat.le_refl _) (by omega) e)
    rw [drop_one e, List.take_succ_cons]
    exact m1
theorem HI.appB {a b o : List Keyed} {na nb : Nat} (m : HI a b o na nb) (hb : b.Pairwise Le) (hn : nb ≤ b.length) : ∀ k, k ≤ nb → (∀ i x, nb - k ≤ i → i < nb → b[i]? = some x → ∀ y ∈ a.take na, kn y ≤ kn x) → HI a b ((b.drop (nb - k)).take k ++ o) na (nb - k)
  | 0, _, _ => by simpa using m
  | k + 1, hk, h => by
    have e : b[nb - (k + 1)]? = some (b[nb - (k + 1)]'(by omega)) := List.getElem?_eq_getElem (by omega)
    have m0 := m.appB hb hn k (by omega) fun i x h1 h2 => h i x (by omega) h2
    rw [show nb - k = nb - (k + 1) + 1 by omega] at m0
    have m1 := m0.pushB hb e (h _ _ (Nat.le_refl _) (by omega) e)
    rw [drop_one e, List.take_succ_cons]
    exact m1
theorem HI.doneA {a b o : List Keyed} {nb : Nat} (m : HI a b o 0 nb) (hb : b.Pairwise Le) : Res a b (a.take 0 ++ b.take nb ++ o) := by
  rw [List.take_zero, List.nil_append]
  refine ⟨?_, ?_⟩
  · have := m.perm.append_left (b.take nb)
    rw [List.drop_zero, ← List.append_assoc] at this
    refine this.trans ((List.perm_append_comm (l₁ := b.take nb) (l₂ := a)).append_right (b.drop nb) |>.trans ?_)
    rw [List.append_assoc, List.take_append_drop]
  · rw [List.pairwise_append]
    exact ⟨hb.take, m.srt, fun u hu v hv => m.le v hv u (.inr hu)⟩
theorem HI.doneB {a b o : List Keyed} {na : Nat} (m : HI a b o na 0) (ha : a.Pairwise Le) : Res a b (a.take na ++ b.take 0 ++ o) := by
  rw [List.take_zero, List.append_nil]
  refine ⟨?_, ?_⟩
  · have := m.perm.append_left (a.take na)
    rw [List.drop_zero, ← List.append_assoc, List.take_append_drop] at this
    exact this
  · rw [List.pairwise_append]
    exact ⟨ha.take, m.srt, fun u hu v hv => m.le v hv u (.inl hu)⟩
noncomputable def mergeHi' : Array Keyed → Array Keyed → StateT SortSt Sem (Array Keyed) := sortPriv% PySem.Builtin.mergeHi
noncomputable def dh (a b out : Array Keyed) (na nb : Nat) : Array Keyed := a.extract 0 na ++ b.extract 0 nb ++ out.reverse
noncomputable def fB (a b out : Array Keyed) (na nb : Nat) : Array Keyed := b.extract 0 nb ++ a.extract 0 na ++ out.reverse
theorem dh_list (a b out : Array Keyed) (na nb : Nat) : (dh a b out na nb).toList = a.toList.take na ++ b.toList.take nb ++ out.toList.reverse := by
  unfold dh
  simp [Array.toList_extract]
abbrev HiT := Option (Array Keyed) × Nat × Nat × Array Keyed × Nat × Nat × Nat
noncomputable def hiC (a b : Array Keyed) (na nb : Nat) (out : Array Keyed) (mg ac bc : Nat) : StateT SortSt Sem (ForInStep HiT) := do
  let v ← elem' a (na - 1)
  if na - 1 == 0 then pure (.done (some (dh a b (out.push v) (na - 1) nb), na - 1, nb, out.push v, mg, ac, bc))
  else if ac < 7 && bc < 7 then pure (.done (none, na - 1, nb, out.push v, mg, ac, bc)) else pure (.yield (none, na - 1, nb, out.push v, mg, ac, bc))
noncomputable def hiB (a b : Array Keyed) (na nb : Nat) (out : Array Keyed) (mg ac bc : Nat) : StateT SortSt Sem (ForInStep HiT) := do
  let u ← elem' b (nb - 1)
  if nb - 1 == 1 then pure (.done (some (fB a b (out.push u) na (nb - 1)), na, nb - 1, out.push u, mg, ac, bc))
  else
    let v ← elem' a (na - 1)
    let x ← gallop' true v b 0 (nb - 1) (nb - 1 - 1)
    match x with
    | some at_ =>
      if nb - 1 - at_ > 0 then
        if at_ == 1 then pure (.done (some (fB a b (out.push u ++ (b.extract at_ (nb - 1)).reverse) na at_), na, at_, out.push u ++ (b.extract at_ (nb - 1)).reverse, mg, ac, nb - 1 - at_))
        else if at_ == 0 then pure (.done (some (dh a b (out.push u ++ (b.extract at_ (nb - 1)).reverse) na at_), na, at_, out.push u ++ (b.extract at_ (nb - 1)).reverse, mg, ac, nb - 1 - at_))
        else hiC a b na at_ (out.push u ++ (b.extract at_ (nb - 1)).reverse) mg ac (nb - 1 - at_)
      else hiC a b na (nb - 1) (out.push u) mg ac (nb - 1 - at_)
    | _ => pure (.done (some (dh a b (out.push u) na (nb - 1)), na, nb - 1, out.push u, mg, ac, bc))
/-- what both halves of a merge from the end start from -/
structure HC (st : SortSt) (a b : Array Keyed) : Prop where
  hk : kindOf st = oneType'
  iA : ∀ x ∈ a.toList, IsI x
  iB : ∀ x ∈ b.toList, IsI x
  sA : a.toList.Pairwise Le
  sB : b.toList.Pairwise Le
  hf : ∀ x, b.toList[0]? = some x → ∀ y ∈ a.toList, kn x ≤ kn y
theorem HC.rA {st : SortSt} {a b out : Array Keyed} {na nb : Nat} (c : HC st a b) (m : HI a.toList b.toList out.toList.reverse na nb) (e : na = 0) : Res a.toList b.toList (dh a b out na nb).toList := by subst e; rw [dh_list]; exact m.doneA c.sB
theorem HC.rB {st : SortSt} {a b out : Array Keyed} {na nb : Nat} (c : HC st a b) (m : HI a.toList b.toList out.toList.reverse na nb) (e : nb = 0) : Res a.toList b.toList (dh a b out na nb).toList := by subst e; rw [dh_list]; exact m.doneB c.sA
/-! ### two runs merged in place -/
noncomputable def wr (sa : Nat) (arr : Array Keyed) (l : List (Keyed × Nat)) : Array Keyed := l.foldl (fun a p => a.setIfInBounds (sa + p.2) p.1) arr
noncomputable def SegS (arr : Array Keyed) (lo n : Nat) : Prop := ∀ i j, lo ≤ i → i ≤ j → j < lo + n → K arr i ≤ K arr j
noncomputable def AllI (arr : Array Keyed) : Prop := ∀ x ∈ arr.toList, IsI x
end
end PySem.Tim
/-! sorting 64 and more numbers: the runs. -/
namespace PySem.Tim
open PySem PyProof.Rows
section
variable {prog : Program} {w : World} {A : Around} {E : Value → Shared → Prop} {s : Shared}
/-! ### runs from any place on -/
structure TB (a₀ : Array Keyed) (st : SortSt) : Prop where
  perm : (arrOf st).Perm a₀
  kind : kindOf st = oneType'
  failed : failedOf st = none
theorem TB.size {a₀ : Array Keyed} {st : SortSt} (h : TB a₀ st) : (arrOf st).size = a₀.size := h.perm.size_eq
theorem TB.all {a₀ : Array Keyed} {st : SortSt} (h : TB a₀ st) (h0 : AllI a₀) : AllI (arrOf st) := fun x hx => h0 x ((Array.perm_iff_toList_perm.mp h.perm).mem_iff.mp hx)
noncomputable def Dst (a₀ : Array Keyed) : Prop := (a₀.toList.map kn).Nodup
theorem TB.ne {a₀ : Array Keyed} {st : SortSt} (h : TB a₀ st) (hd : Dst a₀) {i j : Nat} (hij : i < j) (hj : j < a₀.size) : K (arrOf st) i ≠ K (arrOf st) j := by
  have hz := h.size
  obtain ⟨x, ex, _⟩ := arr_get (a := arrOf st) (i := i) (by omega)
  obtain ⟨y, ey, _⟩ := arr_get (a := arrOf st) (i := j) (by omega)
  have nd : ((arrOf st).toList.map kn).Nodup := (((Array.perm_iff_toList_perm.mp h.perm).map kn).nodup_iff).mpr hd
  rw [K_get ex, K_get ey]
  intro e
  rw [List.nodup_iff_pairwise_ne, List.pairwise_map] at nd
  obtain ⟨hx, rfl⟩ := List.getElem?_eq_some_iff.mp ex
  obtain ⟨hy, rfl⟩ := List.getElem?_eq_some_iff.mp ey
  exact List.pairwise_iff_getElem.mp nd i j hx hy hij e
/-- the array changed from lo on -/
noncomputable def From (lo : Nat) (st st' : SortSt) : Prop := pendingOf st' = pendingOf st ∧ ∀ t, t < lo → (arrOf st')[t]? = (arrOf st)[t]?
theorem From.refl (lo : Nat) (st : SortSt) : From lo st st := ⟨rfl, fun _ _ => rfl⟩
theorem From.trans {lo : Nat} {a b c : SortSt} (h : From lo a b) (k : From lo b c) : From lo a c := ⟨k.1.trans h.1, fun t ht => (k.2 t ht).trans (h.2 t ht)⟩
/-! ### all runs -/
noncomputable def Runs (arr : Array Keyed) : Nat → List (Nat × Nat × Nat) → Nat → Prop
  | s, [], e => s = e
  | s, (a, n, _) :: r, e => a = s ∧ 1 ≤ n ∧ SegS arr s n ∧ Runs arr (s + n) r e
theorem seg_congr {arr arr' : Array Keyed} {lo n : Nat} (h : ∀ t, lo ≤ t → t < lo + n → arr'[t]? = arr[t]?) (k : SegS arr lo n) : SegS arr' lo n := fun i j h1 h2 h3 => by
  rw [K_congr (h i h1 (by omega)), K_congr (h j (by omega) h3)]
  exact k i j h1 h2 h3
theorem Runs.le {arr : Array Keyed} : ∀ {P : List (Nat × Nat × Nat)} {s e : Nat}, Runs arr s P e → s + P.length ≤ e
  | [], s, e, h => by have : s = e := h; simp; omega
  | (a, n, p) :: r, s, e, h => by
    have := Runs.le h.2.2.2
    have := h.2.1
    simp
    omega
theorem Runs.congr {arr arr' : Array Keyed} : ∀ {P : List (Nat × Nat × Nat)} {s e : Nat}, (∀ t, s ≤ t → t < e → arr'[t]? = arr[t]?) → Runs arr s P e → Runs arr' s P e
  | [], s, e, _, h => h
  | (a, n, p) :: r, s, e, k, h => by
    have := Runs.le h.2.2.2
    exact ⟨h.1, h.2.1, seg_congr (fun t h1 h2 => k t h1 (by omega)) h.2.2.1, Runs.congr (fun t h1 h2 => k t (by omega) h2) h.2.2.2⟩
theorem Runs.push {arr : Array Keyed} {n : Nat} (n1 : 1 ≤ n) : ∀ {P : List (Nat × Nat × Nat)} {s e : Nat}, Runs arr s P e → SegS arr e n → Runs arr s (P ++ [(e, n, 0)]) (e + n)
  | [], s, e, h, k => by
    have : s = e := h
    subst this
    exact ⟨rfl, n1, k, rfl⟩
  | (a, m, p) :: r, s, e, h, k => ⟨h.1, h.2.1, h.2.2.1, Runs.push n1 h.2.2.2 k⟩
theorem Runs.at {arr : Array Keyed} : ∀ {P : List (Nat × Nat × Nat)} {s e i sa na pw sb nb pw2 : Nat}, Runs arr s P e → P[i]? = some (sa, na, pw) → P[i + 1]? = some (sb, nb, pw2) →
    s ≤ sa ∧ sb = sa + na ∧ 1 ≤ na ∧ 1 ≤ nb ∧ SegS arr sa na ∧ SegS arr sb nb ∧ sa + na + nb ≤ e ∧
      ∀ arr', (∀ t, t < sa ∨ sa + na + nb ≤ t → arr'[t]? = arr[t]?) → SegS arr' sa (na + nb) → Runs arr' s ((P.set i (sa, na + nb, pw)).eraseIdx (i + 1)) e
  | [], s, e, i, sa, na, pw, sb, nb, pw2, h, e1, e2 => by simp at e1
  | (a, n, p) :: r, s, e, 0, sa, na, pw, sb, nb, pw2, h, e1, e2 => by
    simp at e1
    obtain ⟨rfl, rfl, rfl⟩ := e1
    cases r with
    | nil => simp at e2
    | cons q r =>
      obtain ⟨b, m, p'⟩ := q
      simp at e2
      obtain ⟨rfl, rfl, rfl⟩ := e2
      obtain ⟨rfl, n1, s1, rfl, m1, s2, rest⟩ := h
      have := Runs.le rest
      refine ⟨Nat.le_refl _, rfl, n1, m1, s1, s2, by omega, fun arr' k sg => ?_⟩
      exact ⟨rfl, by omega, sg, by rw [← Nat.add_assoc]; exact Runs.congr (fun t h1 h2 => k t (.inr (by omega))) rest⟩
  | (a, n, p) :: r, s, e, i + 1, sa, na, pw, sb, nb, pw2, h, e1, e2 => by
    simp at e1 e2
    obtain ⟨rfl, n1, s1, rest⟩ := h
    obtain ⟨q1, q2, q3, q4, q5, q6, q7, q8⟩ := Runs.at rest e1 e2
    refine ⟨by omega, q2, q3, q4, q5, q6, q7, fun arr' k sg => ?_⟩
    exact ⟨rfl, n1, seg_congr (fun t h1 h2 => k t (.inl (by omega))) s1, q8 arr' k sg⟩
end
end PySem.Tim
/-! sorted() of a dict's keys, as many as there are. -/
namespace PySem.Tim
open PySem PyProof.Rows
section
variable {prog : Program} {w : World} {A : Around} {E : Value → Shared → Prop} {s : Shared}
end
end PySem.Tim
namespace L2
open PySem PySem.Spec PyProof.Rows PySem.W
section
variable {X : Cx} {K : PySem.W.Frag}
end
end L2
/-! ### try: if .. one call, else another -/
namespace L2
open PySem PySem.Spec PyProof.Rows
section
variable {X : Cx} {k k2 : Nat} {x x2 : Str} {ps ps2 : List Str} {sp sp2 : Sp} {e e2 : Expr} {es es2 : List Expr} {t t2 : TA} {p pos p2 pos2 : Pos} {cx n : Str} {np hpos epos epos2 tpos ipos : Pos} {b₀ : Stmt} {suite : List Stmt} {i : Nat} {ts : TS} {C2 : Addr} {c : Expr} {tc : TT}
noncomputable def tTryI (K : PySem.W.Frag) (tc : TT) (sp : Sp) (t : TA) (sp2 : Sp) (t2 : TA) (j : Nat) (C2 : Addr) (i : Nat) (ts : TS) : TS := fun D σ H => tc σ H fun d H1 => if d = true then tTryA K sp t j C2 i ts D σ H1 else tTryA K sp2 t2 j C2 i ts D σ H1
end
end L2
/-! ### instances of a class of the text -/
namespace L2
open PySem PySem.Spec PyProof.Rows
structure MkCal (P : Program) (w : World) (K : PySem.W.Frag) (mg : Str → Option Value) (base : Heap) (CX : CXT) (k : Nat) (x : Str) (C : Addr) (ps : List Str) (sp : Sp) : Prop where
  ex : ∃ f fd, Mk K C f ∧ FnOk P w K mg base CX k f fd ps sp ∧ mg x = some (.ref C) ∧ Binds K fd ps []
section
variable {X : Cx}
theorem pe_mk {CX : CXT} {k : Nat} {x : Str} {C : Addr} {ps : List Str} {sp : Sp} {E : XK} {e : Expr} {es : List Expr} {t : TA} {p pos : Pos} (M : MkCal X.prog X.w X.K X.mg X.base CX k x C ps sp) (hr : Room (k + 1) X.A) (hg : Gl X x) (hx : Passes CX X E) (ha : PA X (e :: es) t)
    (hdb : (x == ("__debug__" : Str)) = false := by decide) (he : starEach (e :: es) X.env = (false, eval e X.env) :: starEach es X.env := by rfl) (hpl : (backTo pos (starEach es X.env)).any (·.1) = false := by rfl) :
    PE X (.Call (.Name x p) (e :: es) [] pos) (tMake C sp [] E t) := by
  obtain ⟨f, fd, m, F, hm, hb⟩ := M.ex
  exact pe_make m F hr hg hm hb .nil hx ha hdb he hpl
end
structure DnI (K : PySem.W.Frag) (mg : Str → Option Value) (x qual : Str) (st : Stmt) (C : Addr) : Prop where
  ex : ∃ f fd, Fun K "__init__" qual st f fd ∧ Mk K C f ∧ mg x = some (.ref C)
theorem DnI.cal {P : Program} {w : World} {K : PySem.W.Frag} {mg : Str → Option Value} {base : Heap} {CX : CXT} {x qual : Str} {st : Stmt} {C : Addr} {ps : List Str} {k : Nat} {sp : Sp} (D : DnI K mg x qual st C)
    (hb : ∀ (kV doc pm : Value) (an : Option Addr) (cdv ct : Value) (us : List Value), us.length = ps.length → bindArgs (PySem.W.fnOf "__init__" qual (defArgs st) (defBody st) (defScope st) .none kV doc pm an cdv ct) ⟨us, []⟩ = pure (ps.zip us))
    (h : ∀ f fd, Fun K "__init__" qual st f fd → FnOk P w K mg base CX k f fd ps sp) : MkCal P w K mg base CX k x C ps sp := by
  obtain ⟨f, fd, F, m, hm⟩ := D.ex
  exact ⟨f, fd, m, h f fd F, hm, F.binds hb⟩
end L2
/-! ### dicts whose keys are tuples within tuples, of ints and texts -/
namespace L2
open PySem PySem.Spec PyProof.Rows
noncomputable instance decPyData : DecidableEq PyData := fun _ _ => Classical.propDecidable _
mutual
/-- what may be a key: ints, texts, tuples of such -/
noncomputable def hsh : PyData → Bool
  | .int _ => true
  | .str x => PyData.canLay0 (.str x)
  | .tuple xs => hshL xs
  | _ => false
noncomputable def hshL : List PyData → Bool
  | [] => true
  | x :: xs => hsh x && hshL xs
end
mutual
theorem hsh_lay : ∀ (d : PyData), hsh d = true → d.canLay0 = true
  | .none, h => by simp [hsh] at h
  | .bool _, h => by simp [hsh] at h
  | .int _, _ => by simp [PyData.canLay0]
  | .str x, h => by rw [hsh] at h; exact h
  | .list _, h => by simp [hsh] at h
  | .tuple xs, h => by rw [hsh] at h; rw [PyData.canLay0]; exact hshL_lay xs h
  | .dict _, h => by simp [hsh] at h
theorem hshL_lay : ∀ (xs : List PyData), hshL xs = true → PyData.canLayAll0 xs = true
  | [], _ => by simp [PyData.canLayAll0]
  | x :: xs, h => by
    rw [hshL, Bool.and_eq_true] at h
    rw [PyData.canLayAll0, Bool.and_eq_true]
    exact ⟨hsh_lay x h.1, hshL_lay xs h.2⟩
end
mutual
theorem eqv_is : ∀ (x y : PyData), hsh x = true → hsh y = true → PyData.eqv x y = decide (x = y)
  | .int i, y, _, hy => by
    cases y with
    | int j =>
      rw [PyData.eqv]
      by_cases c : i = j
      · subst c; simp
      · rw [decide_eq_false (fun e => c (by injection e))]
        simp [c]
    | str _ => simp [PyData.eqv]
    | tuple _ => simp [PyData.eqv]
    | _ => simp [hsh] at hy
  | .str a, y, _, hy => by
    cases y with
    | str b =>
      rw [PyData.eqv]
      by_cases c : a = b
      · subst c; simp
      · rw [decide_eq_false (fun e => c (by injection e))]
        simp [c]
    | int _ => simp [PyData.eqv]
    | tuple _ => simp [PyData.eqv]
    | _ => simp [hsh] at hy
  | .tuple xs, y, hx, hy => by
    cases y with
    | tuple ys =>
      rw [hsh] at hx hy
      rw [PyData.eqv, eqvL_is xs ys hx hy]
      by_cases c : xs = ys
      · subst c; simp
      · rw [decide_eq_false c, decide_eq_false (fun e => c (by injection e))]
    | int _ => simp [PyData.eqv]
    | str _ => simp [PyData.eqv]
    | _ => simp [hsh] at hy
  | .none, _, h, _ => by simp [hsh] at h
  | .bool _, _, h, _ => by simp [hsh] at h
  | .list _, _, h, _ => by simp [hsh] at h
  | .dict _, _, h, _ => by simp [hsh] at h
theorem eqvL_is : ∀ (xs ys : List PyData), hshL xs = true → hshL ys = true → PyData.eqvAll xs ys = decide (xs = ys)
  | [], [], _, _ => by simp [PyData.eqvAll]
  | [], _ :: _, _, _ => by simp [PyData.eqvAll]
  | _ :: _, [], _, _ => by simp [PyData.eqvAll]
  | x :: xs, y :: ys, hx, hy => by
    rw [hshL, Bool.and_eq_true] at hx hy
    rw [PyData.eqvAll, eqv_is x y hx.1 hy.1, eqvL_is xs ys hx.2 hy.2]
    by_cases c : x = y
    · subst c
      by_cases d : xs = ys
      · subst d; simp
      · rw [decide_eq_false d, decide_eq_false (fun e => d (List.cons.inj e).2)]; simp
    · rw [decide_eq_false c, decide_eq_false (fun e => c (List.cons.inj e).1)]; simp
end
mutual
/-- a key stays where a dict is changed -/
theorem reads_keep {h h' : Heap} {d : Addr} {o : Obj} {es ep} (ho : h.get? d = some o) (hd : o.data = .dict es ep) (hs : Heap.SameBut d h h') : ∀ (x : PyData) (v : Value) (as : List Addr), hsh x = true → Reads h v x as → Reads h' v x as
  | .int _, _, _, _, r => by cases r; exact .int _ _
  | .str _, _, _, _, r => by cases r; exact .str _ _
  | .tuple xs, _, _, hx, r => by
    rw [hsh] at hx
    cases r with
    | @tuple a o' vs n _ _ e c q t =>
      have ne : a ≠ d := fun z => by
        subst z
        rw [ho] at e
        cases e
        rw [hd] at q
        cases q
      exact .tuple ((hs.2 a ne).trans e) c q (readsL_keep ho hd hs xs _ _ hx t)
  | .none, _, _, h, _ => by simp [hsh] at h
  | .bool _, _, _, h, _ => by simp [hsh] at h
  | .list _, _, _, h, _ => by simp [hsh] at h
  | .dict _, _, _, h, _ => by simp [hsh] at h
theorem readsL_keep {h h' : Heap} {d : Addr} {o : Obj} {es ep} (ho : h.get? d = some o) (hd : o.data = .dict es ep) (hs : Heap.SameBut d h h') : ∀ (xs : List PyData) (vs : List Value) (as : List Addr), hshL xs = true → ReadsAll h vs xs as → ReadsAll h' vs xs as
  | [], _, _, _, r => by cases r; exact .nil
  | x :: xs, _, _, hx, r => by
    rw [hshL, Bool.and_eq_true] at hx
    cases r with
    | cons r1 r2 => exact .cons (reads_keep ho hd hs x _ _ hx.1 r1) (readsL_keep ho hd hs xs _ _ hx.2 r2)
end
mutual
noncomputable def hashP (w : World) : PyData → Int
  | .int i => keyH w (.inl i)
  | .str x => keyH w (.inr x)
  | .tuple xs => reduceHash (Builtin.Tuple.tupleHashOf (hashL w xs))
  | _ => 0
noncomputable def hashL (w : World) : List PyData → List Int
  | [] => []
  | x :: xs => hashP w x :: hashL w xs
end
mutual
noncomputable def drw : PyData → Nat
  | .tuple xs => drwL xs + 1
  | _ => 1
noncomputable def drwL : List PyData → Nat
  | [] => 0
  | x :: xs => drw x + drwL xs
end
section
variable {prog : Program} {w : World}
/-- how the hash of a value comes out -/
noncomputable def PH (prog : Program) (w : World) (m : Nat) (h : Heap) (d : PyData) (v : Value) : Prop := ∀ (A : Around) (E : Value → Shared → Prop) (s : Shared) (Q : Int → Shared → Prop), s.heap = h → A.units + m < cLine →
  Q (hashP w d) { s with toks := s.toks + drw d } → wpAny (model prog w) A (pyHash v) Q E s
inductive PHs (prog : Program) (w : World) (m : Nat) (h : Heap) : List PyData → List Value → Prop
  | nil : PHs prog w m h [] []
  | cons {d v ds vs} : PH prog w m h d v → PHs prog w m h ds vs → PHs prog w m h (d :: ds) (v :: vs)
theorem hashL_app (xs ys : List PyData) : hashL w (xs ++ ys) = hashL w xs ++ hashL w ys := by
  induction xs with
  | nil => simp [hashL]
  | cons x xs ih => simp [hashL, ih]
theorem drwL_app (xs ys : List PyData) : drwL (xs ++ ys) = drwL xs + drwL ys := by
  induction xs with
  | nil => simp [drwL]
  | cons x xs ih => simp [drwL, ih, Nat.add_assoc]
theorem ph_tuple {m : Nat} {h : Heap} {ds : List PyData} {a : Addr} {o : Obj} {items n} (ho : h.get? a = some o) (hc : o.cls = .type "tuple") (hd : o.data = .seq items n) (hi : PHs prog w m h ds items.toList) : PH prog w (m + 1) h (.tuple ds) (.ref a) := by
  intro A E s Q hh hu hq
  subst hh
  have hT : s.TypeIs (.ref a) "tuple" := ⟨o, ho, hc⟩
  have hu0 : A.units < cLine := by omega
  unfold pyHash
  first | unfold pyHashByItsType | skip
  first | refine wpAny_bind (wpAny_cRoomFor_or (.inr hu0) ?_) | skip
  refine wpAny_bind (wpAny_specialOf hT F.slot_tuple_hash.lookup ?_)
  show wpAny _ _ (if (some (Value.builtin "tuple.__hash__") == some Value.none) = true then _ else _) Q E s
  rw [if_neg (by rw [beq_builtin_none]; exact Bool.false_ne_true)]
  refine wpAny_bind (wpAny_specialOf hT F.slot_tuple_hash.lookup ?_)
  show wpAny _ _ (callSpecialIfBoundUnlessNone? (.ref a) "__hash__" _ >>= _) Q E s
  refine wpAny_bind (wpAny_callSpecialIfBoundUnlessNone?_slot hT F.slot_tuple_hash (wpAny_call_entry F.slot_tuple_hash hT F.entry_tuple_hash ?_ (F.args_tuple_hash_1 _)))
  show wpAny _ _ (Builtin.Tuple.tupleItemsOf (.ref a) >>= _) _ _ s
  refine wpAny_bind (wpAny_tupleItemsOf ho hd ?_)
  refine wpAny_bind ?_
  rw [← Array.forIn_toList]
  refine wpAny_forIn_list _
    (fun rest (b : Array Int) s' => ∃ done left, ds = done ++ left ∧ PHs prog w m s.heap left rest ∧ b.toList = hashL w done ∧ s' = { s with toks := s.toks + drwL done })
    _ ?_ ?_ _ _ ⟨[], ds, rfl, hi, rfl, rfl⟩
  · rintro x rest b s' ⟨done, left, rfl, hl, hb, rfl⟩
    cases hl with
    | @cons k _ ks' _ h1 hl' =>
      refine wpAny_bind (h1 _ _ _ _ rfl (by show A.units + 1 + m < cLine; omega) ?_)
      have e1 : (b.push (hashP w k)).toList = hashL w (done ++ [k]) := by rw [hashL_app]; simp [hb, hashL]
      have e2 : s.toks + drwL done + drw k = s.toks + drwL (done ++ [k]) := by rw [drwL_app]; simp [drwL, Nat.add_assoc]
      first
        | exact wpAny_pure ⟨done ++ [k], ks', by simp, hl', e1, by rw [← e2]⟩
        | exact wpAny_bind (wpAny_pure (wpAny_pure ⟨done ++ [k], ks', by simp, hl', e1, by rw [← e2]⟩))
  · rintro b s' ⟨done, left, rfl, hl, hb, rfl⟩
    cases hl
    rw [List.append_nil] at hq
    show wpAny _ _ (retInt (Builtin.Tuple.tupleHashOf b.toList)) _ _ _
    rw [hb]
    refine wpAny_ret_mkInt ?_
    show wpAny _ _ (if (decide (-(2 : Int) ^ 63 ≤ Builtin.Tuple.tupleHashOf (hashL w done)) && decide (Builtin.Tuple.tupleHashOf (hashL w done) < 2 ^ 63)) = true then _ else _) Q E _
    rw [hashP, drw] at hq
    unfold reduceHash at hq
    by_cases hr : (decide (-(2 : Int) ^ 63 ≤ Builtin.Tuple.tupleHashOf (hashL w done)) && decide (Builtin.Tuple.tupleHashOf (hashL w done) < 2 ^ 63)) = true
    · rw [if_pos hr]
      rw [if_pos hr] at hq
      exact wpAny_pure (by simpa [Nat.add_assoc] using hq)
    · rw [if_neg hr]
      rw [if_neg hr] at hq
      exact wpAny_bind (wpAny_rule (wpAny_pure (by simpa [Nat.add_assoc] using hq)))
mutual
theorem ph_all {h : Heap} : ∀ (d : PyData) (v : Value) (as : List Addr), hsh d = true → Reads h v d as → PH prog w d.depth h d v
  | .int i, _, _, _, r => by
    cases r with
    | int _ t =>
      intro A E s Q _ _ hq
      exact (mixKind prog w).pyHash (k := .inl i) (kV_is (k := .inl i) ⟨t, rfl⟩) hq
  | .str x, _, _, _, r => by
    cases r with
    | str _ t =>
      intro A E s Q _ _ hq
      exact (mixKind prog w).pyHash (k := .inr x) (kV_is (k := .inr x) ⟨t, rfl⟩) hq
  | .tuple xs, _, _, hx, r => by
    rw [hsh] at hx
    cases r with
    | tuple e c q t => exact ph_tuple e c q (phs_all xs _ _ hx t)
  | .none, _, _, h, _ => by simp [hsh] at h
  | .bool _, _, _, h, _ => by simp [hsh] at h
  | .list _, _, _, h, _ => by simp [hsh] at h
  | .dict _, _, _, h, _ => by simp [hsh] at h
theorem phs_all {h : Heap} : ∀ (ds : List PyData) (vs : List Value) (as : List Addr), hshL ds = true → ReadsAll h vs ds as → PHs prog w (PyData.depthAll ds) h ds vs
  | [], _, _, _, r => by cases r; exact .nil
  | x :: xs, _, _, hx, r => by
    rw [hshL, Bool.and_eq_true] at hx
    cases r with
    | cons r1 r2 =>
      have p1 := ph_all x _ _ hx.1 r1
      have p2 := phs_all xs _ _ hx.2 r2
      have up : ∀ {m m' : Nat} {ds : List PyData} {vs : List Value}, m ≤ m' → PHs prog w m h ds vs → PHs prog w m' h ds vs := fun l q => by
        induction q with
        | nil => exact .nil
        | cons p _ ih => exact .cons (fun A E s Q e u => p A E s Q e (by omega)) ih
      refine .cons (fun A E s Q e u => p1 A E s Q e ?_) (up ?_ p2)
      · rw [PyData.depthAll] at u
        omega
      · rw [PyData.depthAll]
        omega
end
theorem quiet_tuple {h : Heap} {k : Nat} {a : Addr} {o : Obj} {items n} (ho : h.get? a = some o) (hc : o.cls = .type "tuple") (hd : o.data = .seq items n) (hi : ∀ v ∈ items.toList, ∀ (A : Around) (E : Value → Shared → Prop) (s : Shared) (Q : Bool → Shared → Prop), s.heap = h → Q true s → wpAny (model prog w) A (eqIsQuiet k v) Q E s)
    (A : Around) (E : Value → Shared → Prop) (s : Shared) (Q : Bool → Shared → Prop) (hh : s.heap = h) (hq : Q true s) : wpAny (model prog w) A (eqIsQuiet (k + 1) (.ref a)) Q E s := by
  subst hh
  have hT : s.TypeIs (.ref a) "tuple" := ⟨o, ho, hc⟩
  unfold eqIsQuiet
  refine wpAny_bind (wpAny_specialOf hT F.slot_tuple_eq.lookup ?_)
  show wpAny _ _ (isInstance (.ref a) (.type "tuple") >>= _) _ _ s
  refine wpAny_bind (wpAny_isInstance hT isSubtype_tuple_tuple ?_)
  simp only [Bool.not_true, Bool.false_eq_true, if_false]
  refine wpAny_bind (wpAny_seqItems ho hd ?_)
  refine wpAny_bind ?_
  show wpAny _ _ (forIn items _ _) _ _ s
  rw [← Array.forIn_toList]
  refine wpAny_forIn_list _ (fun rest r s' => r.1 = none ∧ s' = s ∧ ∀ v ∈ rest, v ∈ items.toList) _ ?_ ?_ _ _ ⟨rfl, rfl, fun _ h => h⟩
  · rintro v rest r s' ⟨hr, rfl, hall⟩
    refine wpAny_bind (hi v (hall v List.mem_cons_self) _ _ _ _ rfl ?_)
    simp only [Bool.not_true, Bool.false_eq_true, if_false]
    exact wpAny_pure ⟨rfl, rfl, fun u hu' => hall u (List.mem_cons_of_mem _ hu')⟩
  · rintro ⟨r1, r2⟩ s' ⟨hr, rfl, _⟩
    simp only at hr
    subst hr
    exact wpAny_pure hq
mutual
theorem quiet_all {h : Heap} : ∀ (d : PyData) (v : Value) (as : List Addr) (k : Nat), hsh d = true → d.depth ≤ k → Reads h v d as → ∀ (A : Around) (E : Value → Shared → Prop) (s : Shared) (Q : Bool → Shared → Prop), s.heap = h → Q true s → wpAny (model prog w) A (eqIsQuiet k v) Q E s
  | .int _, _, _, _, _, _, r => by
    cases r
    intro A E s Q _ hq
    rw [eqIsQuiet_byValue _ rfl]
    exact wpAny_pure hq
  | .str _, _, _, _, _, _, r => by
    cases r
    intro A E s Q _ hq
    rw [eqIsQuiet_byValue _ rfl]
    exact wpAny_pure hq
  | .tuple xs, _, _, k, hx, hk, r => by
    rw [hsh] at hx
    rw [PyData.depth] at hk
    cases k with
    | zero => omega
    | succ k =>
      cases r with
      | tuple e c q t => exact quiet_tuple e c q (quietL_all xs _ _ k hx (by omega) t)
  | .none, _, _, _, h, _, _ => by simp [hsh] at h
  | .bool _, _, _, _, h, _, _ => by simp [hsh] at h
  | .list _, _, _, _, h, _, _ => by simp [hsh] at h
  | .dict _, _, _, _, h, _, _ => by simp [hsh] at h
theorem quietL_all {h : Heap} : ∀ (ds : List PyData) (vs : List Value) (as : List Addr) (k : Nat), hshL ds = true → PyData.depthAll ds ≤ k → ReadsAll h vs ds as → ∀ v ∈ vs, ∀ (A : Around) (E : Value → Shared → Prop) (s : Shared) (Q : Bool → Shared → Prop), s.heap = h → Q true s → wpAny (model prog w) A (eqIsQuiet k v) Q E s
  | [], _, _, _, _, _, r => by
    cases r
    intro v hv
    simp at hv
  | x :: xs, _, _, k, hx, hk, r => by
    rw [hshL, Bool.and_eq_true] at hx
    rw [PyData.depthAll] at hk
    cases r with
    | cons r1 r2 =>
      intro v hv
      rcases List.mem_cons.mp hv with rfl | hv
      · exact quiet_all x _ _ k hx.1 (by omega) r1
      · exact quietL_all xs _ _ k hx.2 (by omega) r2 v hv
end
/-- a tuple within tuples at an address -/
noncomputable def IsN (h : Heap) (k : PyData) (a : Addr) : Prop := hsh k = true ∧ k.depth ≤ 8 ∧ ∃ as, Reads h (.ref a) k as
noncomputable def nestKind (prog : Program) (w : World) : HeapKind prog w PyData where
  is := IsN
  hash := hashP w
  draws := drw
  room := fun A => A.units + 8 < cLine
  inj := fun ⟨hx, _, _, rx⟩ ⟨_, _, _, ry⟩ => SeqAt.Reads.unique _ _ _ _ _ (hsh_lay _ hx) rx ry
  keeps := fun ⟨hx, hd, as, r⟩ ho hdd hs => ⟨hx, hd, as, reads_keep ho hdd hs _ _ _ hx r⟩
  pyHash := fun hu ⟨hx, hd, _, r⟩ h => ph_all _ _ _ hx r _ _ _ _ rfl (by omega) h
  eqBool := fun {A E s x y a b Q} hu ⟨hx, dx, _, rx⟩ ⟨hy, dy, _, ry⟩ h => SeqAt.eqBoolOverData _ _ _ _ _ _ _ _ _ _ _ _ rx ry (hsh_lay _ hx) (hsh_lay _ hy) (by omega) (by rw [eqv_is _ _ hx hy]; exact h)
  quiet := fun ⟨hx, hd, _, r⟩ h => quiet_all _ _ _ 8 hx hd r _ _ _ _ rfl h
end
end L2
/-! ### the table of a set: its places rise -/
namespace PySem.Sts
open PySem PyProof.Rows
noncomputable def Rise (xs : Array Nat) : Prop := xs.toList.Pairwise (· < ·)
theorem Rise.lt {xs : Array Nat} (r : Rise xs) {i k x y : Nat} (h : i < k) (ex : xs[i]? = some x) (ey : xs[k]? = some y) : x < y := by
  rw [← Array.getElem?_toList] at ex ey
  obtain ⟨h1, rfl⟩ := List.getElem?_eq_some_iff.mp ex
  obtain ⟨h2, rfl⟩ := List.getElem?_eq_some_iff.mp ey
  exact List.pairwise_iff_getElem.mp r i k h1 h2 h
/-- a table that the roads keep: its places rise, and who leads it -/
noncomputable def TP (L : Bool) (t : SetTable) : Prop := Rise t.place ∧ t.led = L
end PySem.Sts
/-! ### sets of ints made, their tables known -/
namespace PySem.Sts
open PySem PyProof.Rows
/-- the table of the set at a is one that the roads keep -/
noncomputable def Tb (L : Bool) (h : Heap) (a : Addr) : Prop := ∃ o es ep t, h.get? a = some o ∧ o.data = .set es ep t ∧ TP L t
theorem Tb.keep {L : Bool} {h h' : Heap} {a : Addr} (x : Tb L h a) (k : ∀ o, h.get? a = some o → h'.get? a = some o) : Tb L h' a := by
  obtain ⟨o, es, ep, t, e, r⟩ := x
  exact ⟨o, es, ep, t, k _ e, r⟩
section
variable {prog : Program} {w : World} {K : Type} [DecidableEq K] {knd : KeyKind prog w K} {A : Around} {E : Value → Shared → Prop} {s : Shared} {L : Bool}
end
end PySem.Sts
/-! ### set(xs) of a list of ints, the table known -/
namespace PySem.Sts
open PySem PyProof.Rows
section
variable {prog : Program} {w : World} {A : Around} {R : Result → Shared → Prop} {I : Addr} {fp wr : List Addr} {G : Array GenState → Array GenState → Prop} {n : Nat} {P : Nat → Value → Prop} {St : Nat → Shared → Prop} {L : Bool}
end
section
variable {prog : Program} {w : World} {A : Around} {E : Value → Shared → Prop} {s : Shared}
/-- who leads a set's table -/
noncomputable def ledBy (w : World) : Bool := !(w.params.followText "set-order")
/-- a set that is new -/
noncomputable def set0 (w : World) : Obj := { cls := .type "set", dict := none, data := .set #[] 0 (.fresh 0 0 (ledBy w)) }
end
end PySem.Sts
namespace PySem.Sts
open PySem PyProof.Rows
section
variable {prog : Program} {w : World} {A : Around} {E : Value → Shared → Prop} {s : Shared}
end
end PySem.Sts
/-! ### a set walked -/
namespace PySem.Sts
open PySem PyProof.Rows
section
variable {prog : Program} {w : World} {A : Around} {E : Value → Shared → Prop} {s : Shared}
/-- an iterator of a set -/
noncomputable def IsIt (h : Heap) (it : Addr) (first : Value) (i : Nat) (a : Addr) (n ep : Nat) : Prop := ∃ o, h.get? it = some o ∧ o.cls = .type "set_iterator" ∧ o.data = .fields #[first, .int i 0, .ref a, .int n 0, .int ep 0]
theorem IsIt.typeIs {it a : Addr} {first : Value} {i n ep : Nat} (x : IsIt s.heap it first i a n ep) : s.TypeIs (.ref it) "set_iterator" := let ⟨o, ho, hc, _⟩ := x; ⟨o, ho, hc⟩
/-- a set's object -/
noncomputable def SetAt (h : Heap) (a : Addr) (es : Array (Int × Value)) (ep : Nat) (t : SetTable) : Prop := ∃ o, h.get? a = some o ∧ o.ExactSet ∧ o.data = .set es ep t
theorem SetAt.keep {h h' : Heap} {a : Addr} {es : Array (Int × Value)} {ep : Nat} {t : SetTable} (x : SetAt h a es ep t) (k : ∀ o, h.get? a = some o → h'.get? a = some o) : SetAt h' a es ep t := let ⟨o, e, r⟩ := x; ⟨o, k _ e, r⟩
/-- the places that were drawn -/
noncomputable def Pls (h : Heap) (T : Addr) (ps : List Nat) : Prop := ∃ o n, h.get? T = some o ∧ o.data = .seq (ps.map fun i : Nat => rawInt (i : Int)).toArray n
end
section
variable {prog : Program} {w : World} {A : Around} {E : Value → Shared → Prop} {s : Shared}
end
end PySem.Sts
namespace PySem.Sts
open PySem PyProof.Rows
section
variable {prog : Program} {w : World} {A : Around} {E : Value → Shared → Prop} {s : Shared}
theorem IsIt.keep {h h' : Heap} {it a : Addr} {first : Value} {i n ep : Nat} (x : IsIt h it first i a n ep) (k : ∀ o, h.get? it = some o → h'.get? it = some o) : IsIt h' it first i a n ep := let ⟨o, e, r⟩ := x; ⟨o, k _ e, r⟩
theorem Pls.keep {h h' : Heap} {T : Addr} {ps : List Nat} (x : Pls h T ps) (k : ∀ o, h.get? T = some o → h'.get? T = some o) : Pls h' T ps := let ⟨o, n, e, r⟩ := x; ⟨o, n, k _ e, r⟩
/-- the slot that the iterator looks at, by the table -/
noncomputable def slotAt (t : SetTable) (i : Nat) : Nat := if i = 0 then 0 else t.place.getD (i - 1) 0 + 1
end
end PySem.Sts
namespace PySem.Sts
open PySem PyProof.Rows
section
variable {prog : Program} {w : World} {A : Around} {E : Value → Shared → Prop} {s : Shared}
theorem SetAt.typeIs {a : Addr} {es : Array (Int × Value)} {ep : Nat} {t : SetTable} (x : SetAt s.heap a es ep t) : s.TypeIs (.ref a) "set" := let ⟨o, e, c, _⟩ := x; ⟨o, e, c.1⟩
end
end PySem.Sts
/-! ### rules: set(xs) of ints, its len, sorted of it -/
namespace L2
open PySem PySem.Spec PyProof.Rows PySem.W PySem.Sts
/-- each number once, where it first stands -/
noncomputable def ded (ns : List Int) : List Int := firstMet (fun i => ns.getD i 0) ns.length
/-- a set of ints, made of ns -/
noncomputable def stO (P : Program) (w : World) (a : Addr) (ns : List Int) : HO := .ext fun h => h.SetOf (intKind P w) a (fun k => (ded ns).any (· == k)) (ded ns).length ∧ Tb (ledBy w) h a
section
variable {X : Cx} {P : Program} {w : World} {K : PySem.W.Frag}
end
end L2
/-! ### rules: a dict of numbers, its keys tuples within tuples -/
namespace L2
open PySem PySem.Spec PyProof.Rows
mutual
noncomputable def toP : Dat → PyData
  | .non => .none
  | .bl b => .bool b
  | .int i => .int i
  | .str x => .str x
  | .tup l => .tuple (toPL l)
  | .lst l => .list (toPL l)
noncomputable def toPL : List Dat → List PyData
  | [] => []
  | d :: ds => toP d :: toPL ds
end
section
variable {P : Program} {w : World} {H : Hp} {h : Heap}
mutual
theorem reads_of (ok : HOk P w H h) : ∀ (d : Dat) (v : V) (u : Value), Rep H d v → RelV v u → ∃ as, Reads h u (toP d) as
  | .non, v, u, r, q => by
    rw [Rep] at r
    subst r
    cases (show u = Value.none from q)
    exact ⟨_, .none⟩
  | .bl b, v, u, r, q => by
    rw [Rep] at r
    subst r
    cases (show u = Value.bool b from q)
    exact ⟨_, .bool b⟩
  | .int i, v, u, r, q => by
    rw [Rep] at r
    subst r
    obtain ⟨t, rfl⟩ := (show ∃ t, u = Value.int i t from q)
    exact ⟨_, .int i t⟩
  | .str x, v, u, r, q => by
    rw [Rep] at r
    subst r
    obtain ⟨t, rfl⟩ := (show ∃ t, u = Value.str x t from q)
    exact ⟨_, .str x t⟩
  | .tup l, v, u, r, q => by
    rw [Rep] at r
    obtain ⟨p, vs, rfl, hp, rl⟩ := r
    cases (show u = Value.ref p from q)
    obtain ⟨_, its, rv, o, h1, h2, n, h3⟩ := (show ObjOk P w H h p (.tup vs) from ok p _ hp)
    obtain ⟨as, ra⟩ := readsL_of ok l vs its rl rv
    exact ⟨as, .tuple h1 h2 h3 (by simpa using ra)⟩
  | .lst l, v, u, r, q => by
    rw [Rep] at r
    obtain ⟨p, vs, rfl, hp, rl⟩ := r
    cases (show u = Value.ref p from q)
    obtain ⟨_, its, n, rv, h1⟩ := (show ObjOk P w H h p (.lst vs) from ok p _ hp)
    obtain ⟨as, ra⟩ := readsL_of ok l vs its rl rv
    exact ⟨p :: as, .list h1 rfl rfl (by simpa using ra)⟩
theorem readsL_of (ok : HOk P w H h) : ∀ (ds : List Dat) (vs : List V) (us : List Value), RepL H ds vs → Vals vs us → ∃ as, ReadsAll h us (toPL ds) as
  | [], vs, us, r, q => by
    rw [RepL] at r
    subst r
    cases q
    exact ⟨_, .nil⟩
  | d :: ds, vs, us, r, q => by
    rw [RepL] at r
    obtain ⟨v, rest, rfl, r1, r2⟩ := r
    cases q with
    | cons q1 q2 =>
      obtain ⟨a1, h1⟩ := reads_of ok d v _ r1 q1
      obtain ⟨a2, h2⟩ := readsL_of ok ds rest _ r2 q2
      exact ⟨_, .cons h1 h2⟩
end
end
/-- a key stands at b -/
noncomputable def KeyN (H : Hp) (d : Dat) (b : Addr) : Prop := hsh (toP d) = true ∧ (toP d).depth ≤ 8 ∧ Rep H d (.ref b)
theorem KeyN.mono {H H' : Hp} {d : Dat} {b : Addr} (s : Same H H') (k : KeyN H d b) : KeyN H' d b := ⟨k.1, k.2.1, k.2.2.mono s⟩
theorem KeyN.is {P : Program} {w : World} {H : Hp} {h : Heap} {d : Dat} {b : Addr} (ok : HOk P w H h) (k : KeyN H d b) : (nestKind P w).is h (toP d) b := ⟨k.1, k.2.1, reads_of ok d _ _ k.2.2 rfl⟩
/-- a dict's rows: the key, where it stands, the number -/
abbrev Rows := List (Dat × Addr × Int)
noncomputable def AllN (H : Hp) (ks : Rows) : Prop := ∀ p ∈ ks, KeyN H p.1 p.2.1
theorem AllN.mono {H H' : Hp} {ks : Rows} (s : Same H H') (k : AllN H ks) : AllN H' ks := fun p hp => (k p hp).mono s
/-- what stands at a key -/
noncomputable def lookN (ks : Rows) (k : PyData) : Option Int := (ks.find? fun p => decide (toP p.1 = k)).map (·.2.2)
abbrev RwN : Rows → List (PyData × Addr × Value) → Prop := Paired fun p q => toP p.1 = q.1 ∧ p.2.1 = q.2.1 ∧ ∃ t, q.2.2 = Value.int p.2.2 t
noncomputable def dnO (P : Program) (w : World) (a : Addr) (ks : Rows) : HO := .ext fun h => ∃ o es ep xs, h.get? a = some o ∧ o.ExactDict ∧ o.data = .dict es ep ∧ es.toList = xs.map (entryOfKey (nestKind P w)) ∧ (xs.map (·.1)).Nodup ∧ RwN ks xs ∧ ks.length ≤ sizeLine ∧ (a == sysModules) = false
section
variable {P : Program} {w : World} {H : Hp} {h : Heap} {a : Addr}
theorem dnO_ok {ks : Rows} {xs : List (PyData × Addr × Value)} {o es ep} (h1 : h.get? a = some o) (h2 : o.ExactDict) (h3 : o.data = .dict es ep) (h4 : es.toList = xs.map (entryOfKey (nestKind P w))) (h5 : (xs.map (·.1)).Nodup) (h6 : RwN ks xs) (h7 : ks.length ≤ sizeLine) (h8 : (a == sysModules) = false) : ObjOk P w H h a (dnO P w a ks) :=
  ⟨⟨o, es, ep, xs, h1, h2, h3, h4, h5, h6, h7, h8⟩, ⟨o, h1⟩, fun _ _ ⟨o, es, ep, xs, g1, g⟩ k => ⟨o, es, ep, xs, k _ g1, g⟩⟩
theorem dn_of {ks : Rows} (ok : HOk P w H h) (e : H a = some (dnO P w a ks)) (al : AllN H ks) : ks.length ≤ sizeLine ∧ (a == sysModules) = false ∧ ∃ xs, RwN ks xs ∧ h.DictOfH (nestKind P w) a xs := by
  obtain ⟨⟨o, es, ep, xs, g1, g2, g3, g4, g5, g6, g7, g8⟩, _⟩ := (show ObjOk P w H h a (dnO P w a ks) from ok a _ e)
  refine ⟨g7, g8, xs, g6, o, es, ep, g1, g2, g3, g4, fun x hx => ?_, g5⟩
  have all : ∀ {l : Rows} {m : List (PyData × Addr × Value)}, RwN l m → AllN H l → ∀ x ∈ m, (nestKind P w).is h x.1 x.2.1 := by
    intro l m q
    induction q with
    | nil => intro _ x hx; exact nomatch hx
    | @cons p q ps qs hq t ih =>
      intro al x hx
      rcases List.mem_cons.mp hx with e | hx
      · subst e
        rw [← hq.1, ← hq.2.1]
        exact (al p List.mem_cons_self).is ok
      · exact ih (fun p hp => al p (List.mem_cons_of_mem _ hp)) x hx
  exact all g6 al x hx
theorem RwN.val {ks : Rows} {xs : List (PyData × Addr × Value)} (r : RwN ks xs) (k : PyData) : (lookN ks k = none ∧ atKey xs k = none) ∨ ∃ i t b, lookN ks k = some i ∧ atKey xs k = some (b, Value.int i t) := by
  induction r with
  | nil => exact .inl ⟨rfl, rfl⟩
  | @cons p q ps qs h t ih =>
    obtain ⟨h1, h2, tk, h3⟩ := h
    by_cases e : toP p.1 = k
    · have e' : q.1 = k := h1.symm.trans e
      refine .inr ⟨p.2.2, tk, q.2.1, ?_, ?_⟩
      · unfold lookN
        rw [List.find?_cons, decide_eq_true e]
        rfl
      · unfold atKey
        rw [List.find?_cons, decide_eq_true e', ← h3]
        rfl
    · have e' : ¬ q.1 = k := fun z => e (h1.trans z)
      have a1 : lookN (p :: ps) k = lookN ps k := by
        unfold lookN
        rw [List.find?_cons, decide_eq_false e]
      have a2 : atKey (q :: qs) k = atKey qs k := by
        unfold atKey
        rw [List.find?_cons, decide_eq_false e']
      rw [a1, a2]
      exact ih
end
/-- {}, to be a dict of numbers by tuples within tuples -/
noncomputable def tDNewN (P : Program) (w : World) : TE := fun _ H Q => ∀ p, H p = none → Q (.ref p) (upd H p (dnO P w p []))
noncomputable def NGet (P : Program) (w : World) (H : Hp) (x y : V) (o : Option Int) : Prop := ∃ a b d ks, x = .ref a ∧ y = .ref b ∧ H a = some (dnO P w a ks) ∧ AllN H ks ∧ KeyN H d b ∧ o = lookN ks (toP d)
noncomputable def tNGet (P : Program) (w : World) (td ty : TE) : TE := fun σ H Q => td σ H fun x H1 => ty σ H1 fun y H2 => ∃ i, NGet P w H2 x y (some i) ∧ Q (.int i) H2
noncomputable def tNNotIn (P : Program) (w : World) (ty td : TE) : TE := fun σ H Q => ty σ H fun y H1 => td σ H1 fun x H2 => ∃ o, NGet P w H2 x y o ∧ Q (.bl (!o.isSome)) H2
noncomputable def sNPut (P : Program) (w : World) (td ty tv : TE) : TS := fun D σ H => tv σ H fun v H1 => td σ H1 fun x H2 => ty σ H2 fun y H3 => ∃ a b d ks i, x = .ref a ∧ y = .ref b ∧ v = .int i ∧ H3 a = some (dnO P w a ks) ∧ AllN H3 ks ∧ KeyN H3 d b ∧ lookN ks (toP d) = none ∧ ks.length < sizeLine ∧ D.nx σ (upd H3 a (dnO P w a (ks ++ [(d, b, i)])))
section
variable {X : Cx} {P : Program} {w : World} {o i e value : Expr} {pos pos' tpos : Pos} {td ty tv : TE}
theorem pe_dnewN (hP : X.prog = P := by rfl) (hw : X.w = w := by rfl) : PE X (.Dict [] [] pos) (tDNewN P w) := fun pins s σ H Q I h => by
  subst hP hw
  exact wpAny_Dict_empty ⟨.ref s.heap.objs.size, _, I.laid (a := s.heap.objs.size) (o := dnO X.prog X.w s.heap.objs.size []) (t' := s.toks) (fun _ _ q => Heap.get?_push_of_some _ q) (Nat.le_refl _) (dnO_ok (xs := []) (Heap.get?_push_size _ rfl) ⟨rfl, rfl, rfl⟩ rfl rfl List.nodup_nil .nil (Nat.zero_le _) (beq_eq_false_iff_ne.mpr (Ne.symm (Nat.ne_of_lt I.big)))), rfl, h _ (I.hok.fresh (Nat.le_refl _))⟩
theorem nroom {A : Around} (hu : A.units + 64 < cLine) : (nestKind P w).room A.in1 := (by show A.units + 1 + 8 < cLine; omega)
theorem pe_nget (hu : X.A.units + 64 < cLine) (ho : PE X o td) (hi : PE X i ty) (hs : NoSl i) (hP : X.prog = P := by rfl) (hw : X.w = w := by rfl) : PE X (.Subscript o i pos) (tNGet P w td ty) := by
  subst hP hw
  intro pins s σ H Q I h
  refine subD_of PySem.F.slot_dict_getitem.lookup hs (thn (ho pins s σ H _ I h) fun u s1 ⟨x, H1, I1, rx, q1⟩ => thn (hi pins s1 σ H1 _ I1 q1) fun iv s2 ⟨y, H2, I2, ry, j, ⟨a, b, d, ks, ex, ey, ea, al, kn, lo⟩, q2⟩ => ?_)
  subst ex ey
  obtain rfl : u = Value.ref a := rx
  obtain rfl : iv = Value.ref b := ry
  obtain ⟨z, hd, xs, rel, dd⟩ := dn_of I2.hok ea al
  refine ⟨dd.typeIs, ?_⟩
  rcases rel.val (toP d) with ⟨l1, _⟩ | ⟨j', t, b', l1, l2⟩
  · rw [l1] at lo
    cases lo
  · rw [l1] at lo
    cases lo
    exact wpAny_getItem_heap (nroom hu) (kn.is I2.hok) dd l2 ⟨.int j, H2, I2.tok _, ⟨t, rfl⟩, q2⟩
theorem pc_nnotin (hu : X.A.units + 64 < cLine) (hi : PE X i ty) (ho : PE X o td) (hP : X.prog = P := by rfl) (hw : X.w = w := by rfl) : PC X .NotIn i o (tNNotIn P w ty td) := by
  subst hP hw
  intro pins s σ H Q I h
  refine thn (hi pins s σ H _ I h) fun iv s1 ⟨y, H1, I1, ry, q1⟩ => thn (ho pins s1 σ H1 _ I1 q1) fun u s2 ⟨x, H2, I2, rx, ov, ⟨a, b, d, ks, ex, ey, ea, al, kn, lo⟩, q2⟩ => ?_
  subst ex ey
  obtain rfl : u = Value.ref a := rx
  obtain rfl : iv = Value.ref b := ry
  obtain ⟨z, hd, xs, rel, dd⟩ := dn_of I2.hok ea al
  refine wpAny_notIn_heap (nroom hu) (kn.is I2.hok) hd dd ?_
  have : (atKey xs (toP d)).isSome = ov.isSome := by
    rcases rel.val (toP d) with ⟨l1, l2⟩ | ⟨j', t, b', l1, l2⟩
    · rw [lo, l1, l2]
      rfl
    · rw [lo, l1, l2]
      rfl
  rw [this]
  exact ⟨.bl (!ov.isSome), H2, I2.tok _, rfl, q2⟩
theorem ps_nput (hu : X.A.units + 64 < cLine) (ho : PE X o td) (hi : PE X i ty) (hv : PE X value tv) (hs : swapsWith value (some (.Subscript o i pos')) pos.line X.env = pure false) (hP : X.prog = P := by rfl) (hw : X.w = w := by rfl) :
    PS X (.Assign [.Subscript o i pos'] value pos) (sNPut P w td ty tv) := by
  subst hP hw
  intro pins s σ H D I h
  refine wpAny_Assign_Subscript (thn (hv pins s σ H _ I h) fun r s1 ⟨v, H1, I1, rv, q1⟩ => thn (ho pins s1 σ H1 _ I1 q1) fun u s2 ⟨x, H2, I2, rx, q2⟩ => thn (hi pins s2 σ H2 _ I2 q2) fun iv s3 ⟨y, H3, I3, ry, a, b, d, ks, j, ex, ey, ev, ea, al, kn, lo, ln, q3⟩ => ?_) hs
  subst ex ey ev
  obtain rfl : u = Value.ref a := rx
  obtain rfl : iv = Value.ref b := ry
  obtain ⟨t, rfl⟩ := (show ∃ t, r = Value.int j t from rv)
  obtain ⟨z, hd, xs, rel, dd⟩ := dn_of I3.hok ea al
  have hz : xs.length ≤ sizeLine := by rw [← Paired.length rel]; exact z
  have la : atKey xs (toP d) = none := by
    rcases rel.val (toP d) with ⟨l1, l2⟩ | ⟨j', t, b', l1, l2⟩
    · exact l2
    · rw [l1] at lo
      cases lo
  refine wpAny_setItem_heap (hsz := hz) (nroom hu) (kn.is I3.hok) dd fun h' dd' hs => ⟨σ, _, ?_, q3⟩
  rw [storedH_new la] at dd'
  obtain ⟨q, es, ep, hq, h2, h3, h4, _, h5⟩ := dd'
  exact d_write I3 (by rw [ea]; exact True.intro) hs ⟨q, hq⟩ (dnO_ok hq h2 h3 h4 h5 (Paired.snoc rel ⟨rfl, rfl, t, rfl⟩) (by rw [List.length_append]; exact ln) hd)
end
end L2
/-! ### for v in d.values(); is True, is False -/
namespace L2
open PySem PySem.Spec PyProof.Rows PySem.W
noncomputable def Itv (d : Addr) (o : Obj) (kvs : List (Key × V)) : It :=
  ⟨fun i H => H d = some (.frz o (.dK kvs)) ∧ i < kvs.length, fun i H x H' => H' = H ∧ ∃ p, kvs[i]? = some p ∧ x = p.2, fun i H => H d = some (.frz o (.dK kvs)) ∧ i = kvs.length⟩
section
variable {X : Cx} {x : Str} {xpos : Pos}
noncomputable def iVals (tl : TE) : TI := fun σ H R => tl σ H fun v H1 => ∃ d kvs, v = .ref d ∧ H1 d = some (.dK kvs) ∧ ∀ o, R (Itv d o kvs) (upd H1 d (.frz o (.dK kvs)))
end
section
variable {prog : Program} {w : World} {A : Around} {E : Value → Shared → Prop} {s : Shared}
end
section
variable {X : Cx} {K : PySem.W.Frag}
/-- t[lo:hi], the whole of it or not -/
noncomputable def rSlA (K : PySem.W.Frag) : V → Option Int → Option Int → Hp → VK → Prop := fun x lo hi H Q => ∃ a xs, x = .ref a ∧ SqT K H a xs ∧
  ((HT.sIx xs.length 0 lo = 0 ∧ HT.sIx xs.length xs.length hi = xs.length) → Q (.ref a) H) ∧ (¬ (HT.sIx xs.length 0 lo = 0 ∧ HT.sIx xs.length xs.length hi = xs.length) → ∀ p, H p = none → Q (.ref p) (upd H p (.tup (cutV xs lo hi))))
noncomputable def rIsB (neg : Bool) : R2 := fun x y H Q => ∃ a b, x = .bl a ∧ y = .bl b ∧ Q (.bl (if neg then !(a == b) else (a == b))) H
end
end L2
/-! ### for x in reversed(l) -/
namespace L2
open PySem PySem.Spec PyProof.Rows PySem.W
noncomputable def Itrv (K : PySem.W.Frag) (a : Addr) (n : Nat) : It :=
  ⟨fun i H => ∃ xs x, SqL K H a xs ∧ xs.length = n ∧ xs.reverse[i]? = some x, fun i H x H' => H' = H ∧ ∀ xs, SqL K H a xs → xs.reverse[i]? = some x, fun i _ => i = n⟩
section
variable {X : Cx}
noncomputable def iRevd (K : PySem.W.Frag) (ta : TA) : TI := fun σ H R => ta σ H fun vs H1 => ∃ a xs, vs = [.ref a] ∧ SqL K H1 a xs ∧ R (Itrv K a xs.length) H1
end
end L2
/-! sorted() of triples of ints; list.index of ints. -/
namespace KS
open PySem PySem.W PyProof.Rows
section
variable {prog : Program} {w : World} {A : Around} {E : Value → Shared → Prop} {s : Shared}
noncomputable def ltQ (x y : Int × Int × Int) : Bool := if x.1 = y.1 then (if x.2.1 = y.2.1 then decide (x.2.2 < y.2.2) else decide (x.2.1 < y.2.1)) else decide (x.1 < y.1)
end
end KS
namespace L2
open PySem PySem.Spec PyProof.Rows PySem.W
section
variable {X : Cx} {K : PySem.W.Frag}
/-- a list of triples of ints -/
noncomputable def TripsL (H : Hp) (xs : List V) : Prop := ∀ x ∈ xs, ∃ t a b c, x = .ref t ∧ H t = some (.tup [.int a, .int b, .int c])
/-- where an int is first met in a list of ints -/
noncomputable def rLix (K : PySem.W.Frag) : V → List V → Hp → VK → Prop := fun x vs H Q => ∃ l ns k, x = .ref l ∧ vs = [.int k] ∧ SqL K H l (List.map V.int ns) ∧ k ∈ ns ∧ ns.length ≤ 1000 ∧ Q (.int (ns.idxOf k : Nat)) H
end
end L2
/-! != of two lists of flat values; two lists of ints are equal or not. -/
namespace L2
open PySem PySem.Spec PyProof.Rows PySem.W
section
variable {X : Cx} {K : PySem.W.Frag}
noncomputable def rNeF : R2 := fun x y H Q => ∃ p q xs ys, x = .ref p ∧ y = .ref q ∧ H p = some (.lst xs) ∧ H q = some (.lst ys) ∧ xs.all flatV = true ∧ ys.all flatV = true ∧ Q (.bl (!eqL xs ys)) H
end
end L2
/-! `x not in l` and l.index(x), where x and the items are tuples within tuples. -/
namespace L2
open PySem PySem.Spec PyProof.Rows PySem.W
section
variable {X : Cx} {K : PySem.W.Frag}
/-- a key's data -/
noncomputable def Kd (d : Dat) : Prop := hsh (toP d) = true ∧ (toP d).depth ≤ 8
theorem reads_get {P : Program} {w : World} {H : Hp} {h : Heap} (ok : HOk P w H h) {ds : List Dat} {xs : List V} {us : List Value} (r : RepL H ds xs) (v : Vals xs us) {i : Nat} {u : Value} (e : us[i]? = some u) : ∃ d as, ds[i]? = some d ∧ Reads h u (toP d) as := by
  have l1 := r.length
  have l2 := v.length
  have hi := (List.getElem?_eq_some_iff.mp e).1
  have ex : xs[i]? = some (xs[i]'(by omega)) := List.getElem?_eq_getElem (by omega)
  obtain ⟨u', e1, rv⟩ := v.get ex
  rw [e] at e1
  cases e1
  obtain ⟨d, ed, rd⟩ := r.get ex
  obtain ⟨as, ra⟩ := reads_of ok d _ _ rd rv
  exact ⟨d, as, ed, ra⟩
theorem eqAt_N {A : Around} {s : Shared} {a b : PyData} {u v : Value} {as bs : List Addr} (ra : Reads s.heap u a as) (rb : Reads s.heap v b bs) (ha : hsh a = true) (hb : hsh b = true) (da : a.depth ≤ 8) (db : b.depth ≤ 8) (hu : A.units + 8 < cLine) : SeqAt.EqAt A s u v (decide (a = b)) := fun prog w E Q h =>
  SeqAt.eqBoolOverData _ _ _ _ _ _ _ _ _ _ _ _ ra rb (hsh_lay _ ha) (hsh_lay _ hb) (by omega) (by rw [eqv_is _ _ ha hb]; exact h)
noncomputable def rNotInN : R2 := fun x y H Q => ∃ p xs ds d, y = .ref p ∧ H p = some (.lst xs) ∧ RepL H ds xs ∧ (∀ e ∈ ds, Kd e) ∧ Rep H d x ∧ Kd d ∧ Q (.bl (!decide (toP d ∈ ds.map toP))) H
/-- where such a one is first met -/
noncomputable def rNix : V → List V → Hp → VK → Prop := fun x vs H Q => ∃ l xs ds v d i, x = .ref l ∧ vs = [v] ∧ H l = some (.lst xs) ∧ RepL H ds xs ∧ (∀ e ∈ ds, Kd e) ∧ Rep H d v ∧ Kd d ∧ (ds.map toP)[i]? = some (toP d) ∧ (∀ j, j < i → (ds.map toP)[j]? ≠ some (toP d)) ∧ i < 100000 ∧ Q (.int (i : Nat)) H
theorem mt_nindex (hu : X.A.units + 64 < cLine) : MtR X "list.index" rNix := by
  classical
  intro pins s σ H x vs v us Q I rx rv h
  obtain ⟨l, xs, ds, y, d, i, rfl, rfl, hp, rd, hds, rdx, hd, hi, hno, i6, q⟩ := h
  cases rx
  obtain ⟨u, rfl, ru⟩ := vals1 rv
  obtain ⟨its, r, pl, hz⟩ := I.list (SqL.of hp)
  obtain ⟨as, ra⟩ := reads_of I.hok d y u rdx ru
  have l1 := rd.length
  have l2 := r.length
  have dec : ∀ {u e bs}, e ∈ ds → Reads s.heap u (toP e) bs → decide (∃ cs, Reads s.heap u (toP d) cs) = decide (toP e = toP d) := fun {u e bs} he re => by
    by_cases c : toP e = toP d
    · rw [decide_eq_true c, decide_eq_true ⟨bs, by rw [← c]; exact re⟩]
    · rw [decide_eq_false c, decide_eq_false]
      rintro ⟨cs, rc⟩
      exact c (SeqAt.Reads.unique _ _ _ _ _ (hsh_lay _ (hds e he).1) re rc)
  have at_ : ∀ (j : Nat) (hj : j < its.length), ∃ e bs, ds[j]? = some e ∧ e ∈ ds ∧ Reads s.heap its[j] (toP e) bs := fun j hj => by
    obtain ⟨e, bs, ed, re⟩ := reads_get I.hok rd r (List.getElem?_eq_getElem hj)
    exact ⟨e, bs, ed, List.mem_of_getElem? ed, re⟩
  have hil : i < its.length := by
    have := (List.getElem?_eq_some_iff.mp hi).1
    rw [List.length_map] at this
    omega
  obtain ⟨⟨c1, d1, d2, sl⟩, ho, e1, m, e2⟩ := pl.isList
  cases e1
  cases e2
  have hit : decide (∃ cs, Reads s.heap its[i] (toP d) cs) = true := by
    obtain ⟨e, bs, ed, he, re⟩ := at_ i hil
    rw [dec he re]
    rw [List.getElem?_map, ed] at hi
    exact decide_eq_true (Option.some.inj hi)
  refine call_meets PySem.F.slot_list_index ⟨_, ho, rfl⟩ PySem.F.entry_list_index (PySem.F.args_list_index_2 _ _) (PySem.SeqAt.list_indexAt l its.toArray m d1 sl u (fun u => decide (∃ cs, Reads s.heap u (toP d) cs)) i (by rw [List.size_toArray]; omega) (by omega) hit (fun j hj hl => ?_)) ⟨ho, fun y hy => ?_, ⟨.int _, H, I.tok _, ⟨_, rfl⟩, q⟩⟩
  · rw [List.size_toArray] at hj
    obtain ⟨e, bs, ed, he, re⟩ := at_ j hj
    show decide (∃ cs, Reads s.heap its[j] (toP d) cs) = false
    rw [dec he re]
    refine decide_eq_false fun z => hno j hl ?_
    rw [List.getElem?_map, ed]
    exact congrArg some z
  · obtain ⟨j, ej⟩ := List.getElem?_of_mem (List.mem_toArray.mp hy)
    obtain ⟨e, bs, ed, re⟩ := reads_get I.hok rd r ej
    have he := List.mem_of_getElem? ed
    show SeqAt.EqAt _ _ _ _ (decide _)
    rw [dec he re]
    exact eqAt_N re ra (hds e he).1 hd.1 (hds e he).2 hd.2 (by show X.A.units + 1 + 8 < cLine; omega)
end
end L2
/-! A law whose defs make a lambda: the table of that code is tracked from the start. -/
namespace L2
open PySem PySem.Spec PyProof.Rows
/-- what the base has for the lambdas of the code tc, whose table is tp -/
structure LamB (base : Heap) (mg : Str → Option Value) (tc tp : Addr) : Prop where
  blt : base.BuiltinsAt mg tp
  code : PySem.W.CodeHd base tc tp
end L2
/-! ### methods of a class of the text -/
namespace L2
open PySem PySem.Spec PyProof.Rows
structure MtCal (P : Program) (w : World) (K : PySem.W.Frag) (mg : Str → Option Value) (base : Heap) (CX : CXT) (k : Nat) (C : Addr) (m : Str) (ps : List Str) (sp : Sp) : Prop where
  ex : ∃ f fd, Meth K C m f ∧ FnOk P w K mg base CX k f fd ps sp ∧ Binds K fd ps []
section
variable {X : Cx} {CX : CXT} {k : Nat} {C : Addr} {m : Str} {ps : List Str} {sp : Sp} {E : XK} {e o : Expr} {es : List Expr} {ta : TE} {t : TA} {pos apos : Pos} {pl : Sem Bool}
theorem pe_mt (M : MtCal X.prog X.w X.K X.mg X.base CX k C m ps sp) (c : Cls X.K C) (he : PE X o ta) (hr : Room k X.A) (hx : Passes CX X E) (ha : PA X (e :: es) t)
    (hst : starEach (e :: es) X.env = (false, eval e X.env) :: starEach es X.env := by rfl) (hpl : (backTo pos (starEach es X.env)).any (·.1) = false := by rfl)
    (ht : eval (.Call (.Attribute o m apos) (e :: es) [] pos) X.env = (do
      let ov ← eval o X.env
      standAt apos.atName
      let (f, first) ← holding [ov] (getMethod ov m pl)
      callWith pos f first (backTo pos (starEach (e :: es) X.env)) (backToKw pos (keywordEach [] X.env))) := by rfl) :
    PE X (.Call (.Attribute o m apos) (e :: es) [] pos) (tMeth C m sp [] E ta t) := by
  obtain ⟨f, fd, hm, F, hb⟩ := M.ex
  exact pe_meth he c hm F hr hb .nil hx ha hst hpl ht
theorem pe_mt0 (M : MtCal X.prog X.w X.K X.mg X.base CX k C m ps sp) (c : Cls X.K C) (he : PE X o ta) (hr : Room k X.A) (hx : Passes CX X E)
    (ht : eval (.Call (.Attribute o m apos) [] [] pos) X.env = (do
      let ov ← eval o X.env
      standAt apos.atName
      let (f, first) ← holding [ov] (getMethod ov m pl)
      callWith pos f first (backTo pos (starEach [] X.env)) (backToKw pos (keywordEach [] X.env))) := by rfl) :
    PE X (.Call (.Attribute o m apos) [] [] pos) (tMeth C m sp [] E ta tNil) := by
  obtain ⟨f, fd, hm, F, hb⟩ := M.ex
  exact pe_meth0 he c hm F hr hb .nil hx ht
/-- a class that is made without arguments -/
theorem pe_mk0 {x : Str} {p : Pos} (M : MkCal X.prog X.w X.K X.mg X.base CX k x C ps sp) (hr : Room (k + 1) X.A) (hg : Gl X x) (hx : Passes CX X E) (hdb : (x == ("__debug__" : Str)) = false := by decide) :
    PE X (.Call (.Name x p) [] [] pos) (tMake C sp [] E tNil) := by
  obtain ⟨f, fd, m, F, hm, hb⟩ := M.ex
  exact pe_make0 m F hr hg hm hb .nil hx hdb
end
structure DnM (K : PySem.W.Frag) (C : Addr) (m qual : Str) (st : Stmt) : Prop where
  ex : ∃ f fd, Fun K m qual st f fd ∧ Meth K C m f
theorem DnM.cal {P : Program} {w : World} {K : PySem.W.Frag} {mg : Str → Option Value} {base : Heap} {CX : CXT} {m qual : Str} {st : Stmt} {C : Addr} {ps : List Str} {k : Nat} {sp : Sp} (D : DnM K C m qual st)
    (hb : ∀ (kV doc pm : Value) (an : Option Addr) (cdv ct : Value) (us : List Value), us.length = ps.length → bindArgs (PySem.W.fnOf m qual (defArgs st) (defBody st) (defScope st) .none kV doc pm an cdv ct) ⟨us, []⟩ = pure (ps.zip us))
    (h : ∀ f fd, Fun K m qual st f fd → FnOk P w K mg base CX k f fd ps sp) : MtCal P w K mg base CX k C m ps sp := by
  obtain ⟨f, fd, F, hm⟩ := D.ex
  exact ⟨f, fd, hm, h f fd F, F.binds hb⟩
end L2
/-! The head of a law by one run over a tree: what the kit does in pieces, with no twins of our own objects. -/
/-! sorted(x, key=lambda members: len(reach[members[0]])): the lambda is made (its code is laid into the table of the code around it, or found there), called for each item, and forgotten. -/
namespace L2
open PySem PySem.Spec PyProof.Rows PySem.W
abbrev lamArgs (mp : Pos) : Arguments := { posonlyargs := [], args := [{ arg := "members", annotation := none, pos := mp }], vararg := none, kwonlyargs := [], kw_defaults := [], kwarg := none, defaults := [] }
abbrev lamBody (p2 p3 p4 p5 p6 p7 p8 : Pos) : Expr := .Call (.Name "len" p2) [.Subscript (.Name "reach" p3) (.Subscript (.Name "members" p4) (.Constant (.int 0) 0 p5) p6) p7] [] p8
abbrev lamScope : Scope := { kind := .function, names := [(Str.ofString "members", .local), (Str.ofString "reach", .free), (Str.ofString "len", .globalImplicit)], isGenerator := false, isCoroutine := false, more := [] }
section
variable {prog : Program} {w : World} {A : Around} {s : Shared}
end
noncomputable def tSortL (tp : Addr) (dsc : Array Value) (i : Nat) (te : TE) : TE := fun σ H Q => te σ H fun v H1 => ∃ (a : Addr) (bs : List Addr) (key : Addr → Int) (ra : Addr) (rs : List V), v = .ref a ∧ H1 a = some (.lst (List.map V.ref bs)) ∧ bs.length < 64 ∧ σ[i]? = some (some (.ref ra)) ∧ H1 ra = some (.lst rs) ∧ H1 tp = some (.tbl dsc) ∧
  (∀ b ∈ bs, ∃ j xs d kvs, H1 b = some (.lst (.int j :: xs)) ∧ 0 ≤ j ∧ j < 1000000 ∧ rs[j.toNat]? = some (.ref d) ∧ H1 d = some (.dK kvs) ∧ key b = (kvs.length : Int)) ∧
  ∀ p cs H2, Same H1 H2 → H1 p = none → H2 p = some (.lst (List.map V.ref cs)) → cs.Perm bs → cs.Pairwise (fun b c => key b ≤ key c) → Q (.ref p) H2
noncomputable def adO : Value → Addr
  | .ref a => a
  | _ => 0
section
variable {X : Cx}
end
/-- the code of a def of the text -/
noncomputable def LamD (K : PySem.W.Frag) (mg : Str → Option Value) (x : Str) (tc : Addr) : Prop := ∃ f oc od fd osl, mg x = some (.ref f) ∧ K.lookup f = some ⟨oc, od, .func fd, osl⟩ ∧ fd.code = .ref tc
section
variable {P : Program} {w : World} {K : PySem.W.Frag} {mg : Str → Option Value} {base : Heap} {CX : CXT}
end
end L2
/-! SORTING by answers that are an order of numbers, no two alike: what is told is in order. sorted() of lists of ints. -/
namespace KS
open PySem PySem.W PyProof.Rows
noncomputable def SrtP (f : Nat → Int) (p : Array Nat) (k : Nat) : Prop := ∀ i j, i ≤ j → j < k → f (p.getD i 0) ≤ f (p.getD j 0)
noncomputable def DscP (f : Nat → Int) (p : Array Nat) (k : Nat) : Prop := ∀ i j, i < j → j < k → f (p.getD j 0) < f (p.getD i 0)
theorem Pm.size {n : Nat} {p : Array Nat} (h : Pm n p) : p.size = n := by
  have := h.size_eq
  simpa using this
theorem Pm.inj {n : Nat} {p : Array Nat} (h : Pm n p) {i j : Nat} (hi : i < n) (hj : j < n) (e : p.getD i 0 = p.getD j 0) : i = j := by
  have sz := h.size
  have nd : p.toList.Nodup := (Array.perm_iff_toList_perm.mp h).nodup_iff.mpr (by simpa using List.nodup_range)
  have e1 : p.toList[i]'(by simpa [sz] using hi) = p.toList[j]'(by simpa [sz] using hj) := by
    have a1 : p.getD i 0 = p.toList[i]'(by simpa [sz] using hi) := by simp [Array.getD, sz, hi]
    have a2 : p.getD j 0 = p.toList[j]'(by simpa [sz] using hj) := by simp [Array.getD, sz, hj]
    rw [← a1, ← a2, e]
  exact (List.getElem_inj nd).mp e1
section
variable {f : Nat → Int} {n : Nat}
end
end KS
namespace PySem.SeqAt
open AutoSeq1 (wpAny_loadPart')
open MeetsSeq MeetsSeq2 MeetsSeq3
noncomputable def RcLtAt (A : Around) (s : Shared) (y x : Value) (b : Bool) : Prop :=
  ∀ (prog : Program) (w : World) (E : Value → Shared → Prop) (Q : Value → Shared → Prop), Q (.bool b) s → wpAny (model prog w) A (richCompare .Lt y x) Q E s
end PySem.SeqAt
namespace L2
open PySem PySem.Spec PyProof.Rows PySem.W
/-- the order of lists of ints -/
noncomputable def lexLs : List Int → List Int → Bool
  | [], [] => false
  | [], _ :: _ => true
  | _ :: _, [] => false
  | a :: r, b :: q => if a = b then lexLs r q else decide (a < b)
section
variable {prog : Program} {w : World} {A : Around} {E : Value → Shared → Prop} {s : Shared}
end
section
variable {X : Cx} {K : PySem.W.Frag}
end
end L2
namespace K56
open PySem PySem.Spec PyProof.Rows L2
set_option maxHeartbeats 4000000
local macro_rules | `(tactic| simp_all only [$ls,*]) => `(tactic| simp only [L2.start, Pr, tRev, tLR, tMaxD, tSortR, tD1, tDPop1, tSl, tNoPart, tPart, rSlL, tDIn, tDNotIn, gSub, rSetL, tLst, tDNewK, tComp, L2.stC, tFor_eq, iList, iTup, iRng1, iRng2, iZip, iEnum, iDict, iStr, tChain, tSumV, tBM, rJoin, tJoined, jNil, jLit, jInt, jStr, tRaise, tDGet, tDGet2, tDGet1, sDPut, Option.join_some, List.getElem?_nil,  tSeq, tRet, tRetN, tIfS, tTest, tB, tOp, tUn, tVar, tC, tCB, tCons, tNil, tCall, tTupS, tAsg, gName, gNil, gCons, tPar, tNext, tDrop, tAnd, tOr, tNot, tAndV, tOrV, tNotV, tIf, rI, rI0, rU, rIxTH, rIxLH, rEqT, rNeT, rInT, rEq, rNe, scal, CPow, at0, at1, at2, List.map_cons, List.map_nil, List.length_cons, List.length_nil, Nat.reduceSub, Nat.reduceAdd, Nat.zero_add, List.replicate_zero, List.reduceReplicate, List.append_nil, List.nil_append, List.cons_append, List.getElem?_cons_zero, List.getElem?_cons_succ, List.set_cons_zero, List.set_cons_succ, Option.some.injEq, exists_eq_left', exists_eq_left, V.ref.injEq, V.int.injEq, V.bl.injEq, V.str.injEq, V.ty.injEq, HO.tup.injEq, HO.lst.injEq, List.cons.injEq, and_true, true_and, and_assoc, exists_and_left, decide_eq_true_eq, Bool.not_eq_true', decide_eq_false_iff_not, ite_true, ite_false, if_true, if_false, Int.reduceToNat, eq_self_iff_true, $ls,*])
seal L2.PE L2.PT L2.PW L2.PA L2.PS L2.PSs L2.PG L2.PGs L2.PI L2.PTs L2.PO L2.OpR L2.UnR L2.CallR L2.IxR L2.SlR L2.MtR L2.MtM
theorem strictP {P : Program} {w : World} : Strict (CX1 P w) := strict1 P w
structure Txt (K : PySem.W.Frag) (mg : Str → Option Value) (q_LuckError q_NoShare q_NoTable q_NoPool q_NoEnd q_TooMany q_NoGame q_NoWay q_NoRule q_NoStep q_NoPlay q_NoRow q_Course q_Finder : Addr) : Prop where
  z_ValueError : mg "ValueError" = none
  z_enumerate : mg "enumerate" = none
  z_int : mg "int" = none
  z_isinstance : mg "isinstance" = none
  z_len : mg "len" = none
  z_list : mg "list" = none
  z_max : mg "max" = none
  z_min : mg "min" = none
  z_range : mg "range" = none
  z_tuple : mg "tuple" = none
  d_own_rows : Dn K mg "own_rows" (top 41)
  d_own_what : Dn K mg "own_what" (top 42)
  d_throw_ways : Dn K mg "throw_ways" (top 45)
  d_pick_ways : Dn K mg "pick_ways" (top 46)
  d_taken_up : Dn K mg "taken_up" (top 47)
  d_spread : Dn K mg "spread" (top 48)
  d__law_at : Dn K mg "_law_at" (top 50)
  d__law_counts : Dn K mg "_law_counts" (top 51)
  d__law_numbers : Dn K mg "_law_numbers" (top 52)
  d__law_rows : Dn K mg "_law_rows" (top 53)
  d__law_open : Dn K mg "_law_open" (top 54)
  d__law_game : Dn K mg "_law_game" (top 55)
  d__law_due : Dn K mg "_law_due" (top 56)
  d__law_class : Dn K mg "_law_class" (top 57)
  d__law_right : Dn K mg "_law_right" (top 58)
  c_MOST_STATES : ∃ t, mg "MOST_STATES" = some (.int 120 t)
  k_LuckError : mg "LuckError" = some (.ref q_LuckError)
  k_NoShare : mg "NoShare" = some (.ref q_NoShare)
  k_NoTable : mg "NoTable" = some (.ref q_NoTable)
  k_NoPool : mg "NoPool" = some (.ref q_NoPool)
  k_NoEnd : mg "NoEnd" = some (.ref q_NoEnd)
  k_TooMany : mg "TooMany" = some (.ref q_TooMany)
  k_NoGame : mg "NoGame" = some (.ref q_NoGame)
  k_NoWay : mg "NoWay" = some (.ref q_NoWay)
  k_NoRule : mg "NoRule" = some (.ref q_NoRule)
  k_NoStep : mg "NoStep" = some (.ref q_NoStep)
  k_NoPlay : mg "NoPlay" = some (.ref q_NoPlay)
  k_NoRow : mg "NoRow" = some (.ref q_NoRow)
  k_Course : mg "Course" = some (.ref q_Course)
  k_Finder : mg "Finder" = some (.ref q_Finder)
  x_NoWay : PySem.W.excIn K q_NoWay bmVE newVE = true
  y_NoWay : ExcCls K q_NoWay
  e_NoWay_LuckError : PySem.W.exmOne K (.ref q_NoWay) (.ref q_LuckError) = some true
  i_NoWay_NoWay : PySem.W.kitOne K (.ref q_NoWay) (.ref q_NoWay) = some true
  i_NoWay_ValueError : PySem.W.kitOne K (.ref q_NoWay) (.type "ValueError") = some true
  n_NoWay_NoEnd : PySem.W.kitOne K (.ref q_NoWay) (.ref q_NoEnd) = some false
  n_NoWay_NoGame : PySem.W.kitOne K (.ref q_NoWay) (.ref q_NoGame) = some false
  n_NoWay_NoPlay : PySem.W.kitOne K (.ref q_NoWay) (.ref q_NoPlay) = some false
  n_NoWay_NoPool : PySem.W.kitOne K (.ref q_NoWay) (.ref q_NoPool) = some false
  n_NoWay_NoRow : PySem.W.kitOne K (.ref q_NoWay) (.ref q_NoRow) = some false
  n_NoWay_NoRule : PySem.W.kitOne K (.ref q_NoWay) (.ref q_NoRule) = some false
  n_NoWay_NoShare : PySem.W.kitOne K (.ref q_NoWay) (.ref q_NoShare) = some false
  n_NoWay_NoStep : PySem.W.kitOne K (.ref q_NoWay) (.ref q_NoStep) = some false
  n_NoWay_NoTable : PySem.W.kitOne K (.ref q_NoWay) (.ref q_NoTable) = some false
  n_NoWay_TooMany : PySem.W.kitOne K (.ref q_NoWay) (.ref q_TooMany) = some false
  cl_Course : Cls K q_Course
  cl_Finder : Cls K q_Finder
  na_Course_first : PySem.W.findIn K (.ref q_Course) "first" = some none
  na_Course_mosts : PySem.W.findIn K (.ref q_Course) "mosts" = some none
  na_Course_spots : PySem.W.findIn K (.ref q_Course) "spots" = some none
  na_Course_tables : PySem.W.findIn K (.ref q_Course) "tables" = some none
  na_Course_whats : PySem.W.findIn K (.ref q_Course) "whats" = some none
  na_Finder_numbers : PySem.W.findIn K (.ref q_Finder) "numbers" = some none
  na_Finder_states : PySem.W.findIn K (.ref q_Finder) "states" = some none
  di_Course : DnI K mg "Course" "Course.__init__" (inClass (top 43) 0) q_Course
  di_Finder : DnI K mg "Finder" "Finder.__init__" (inClass (top 44) 0) q_Finder
  dm_Course_asked : DnM K q_Course "asked" "Course.asked" (inClass (top 43) 3)
  dm_Course_by_row : DnM K q_Course "by_row" "Course.by_row" (inClass (top 43) 6)
  dm_Course_do : DnM K q_Course "do" "Course.do" (inClass (top 43) 2)
  dm_Course_end_worth : DnM K q_Course "end_worth" "Course.end_worth" (inClass (top 43) 12)
  dm_Course_holds : DnM K q_Course "holds" "Course.holds" (inClass (top 43) 9)
  dm_Course_open_rows : DnM K q_Course "open_rows" "Course.open_rows" (inClass (top 43) 10)
  dm_Course_put : DnM K q_Course "put" "Course.put" (inClass (top 43) 1)
  dm_Course_start : DnM K q_Course "start" "Course.start" (inClass (top 43) 4)
  dm_Course_what_at : DnM K q_Course "what_at" "Course.what_at" (inClass (top 43) 5)
  dm_Course_words_at : DnM K q_Course "words_at" "Course.words_at" (inClass (top 43) 11)
  dm_Finder_number_of : DnM K q_Finder "number_of" "Finder.number_of" (inClass (top 44) 1)
/-! ### lists side by side -/
noncomputable def Al {α : Type} (R : α → V → Prop) : List α → List V → Prop
  | [], [] => True
  | a :: as, v :: vs => R a v ∧ Al R as vs
  | _, _ => False
theorem Al.length {α : Type} {R : α → V → Prop} : ∀ {as : List α} {vs : List V}, Al R as vs → vs.length = as.length
  | [], [], _ => rfl
  | a :: as, v :: vs, h => by simp [Al.length h.2]
theorem Al.imp {α : Type} {R S : α → V → Prop} (f : ∀ a v, R a v → S a v) : ∀ {as : List α} {vs : List V}, Al R as vs → Al S as vs
  | [], [], _ => trivial
  | a :: as, v :: vs, h => ⟨f _ _ h.1, Al.imp f h.2⟩
theorem Al.append {α : Type} {R : α → V → Prop} : ∀ {as bs : List α} {us vs : List V}, Al R as us → Al R bs vs → Al R (as ++ bs) (us ++ vs)
  | [], _, [], _, _, k => k
  | a :: as, _, v :: vs, _, h, k => ⟨h.1, Al.append h.2 k⟩
theorem Al.one {α : Type} {R : α → V → Prop} {a : α} {v : V} (h : R a v) : Al R [a] [v] := ⟨h, trivial⟩
theorem Al.reverse {α : Type} {R : α → V → Prop} : ∀ {as : List α} {vs : List V}, Al R as vs → Al R as.reverse vs.reverse
  | [], [], _ => trivial
  | a :: as, v :: vs, h => by
    rw [List.reverse_cons, List.reverse_cons]
    exact (Al.reverse h.2).append (.one h.1)
theorem Al.repL {α : Type} {H : Hp} {f : α → Dat} : ∀ {as : List α} {vs : List V}, Al (fun a v => Rep H (f a) v) as vs → RepL H (as.map f) vs
  | [], [], _ => by simp [RepL]
  | a :: as, v :: vs, h => by
    rw [List.map_cons, RepL]
    exact ⟨v, vs, rfl, h.1, Al.repL h.2⟩
theorem Al.get {α : Type} {R : α → V → Prop} : ∀ {as : List α} {vs : List V} {i : Nat} {v : V}, Al R as vs → vs[i]? = some v → ∃ a, as[i]? = some a ∧ R a v
  | [], [], i, v, _, e => by simp at e
  | a :: as, u :: vs, i, v, h, e => by
    cases i with
    | zero => simp at e; subst e; exact ⟨a, rfl, h.1⟩
    | succ i => simp at e; obtain ⟨b, e1, e2⟩ := Al.get h.2 e; exact ⟨b, by simpa using e1, e2⟩
theorem Al.at {α : Type} {R : α → V → Prop} : ∀ {as : List α} {vs : List V} {i : Nat} {a : α}, Al R as vs → as[i]? = some a → ∃ v, vs[i]? = some v ∧ R a v
  | [], [], i, v, _, e => by simp at e
  | a :: as, u :: vs, i, v, h, e => by
    cases i with
    | zero => simp at e; subst e; exact ⟨u, rfl, h.1⟩
    | succ i => simp at e; obtain ⟨b, e1, e2⟩ := Al.at h.2 e; exact ⟨b, by simpa using e1, e2⟩
theorem Al.of {α : Type} {R : α → V → Prop} : ∀ {as : List α} {vs : List V}, vs.length = as.length → (∀ (i : Nat) v a, vs[i]? = some v → as[i]? = some a → R a v) → Al R as vs
  | [], [], _, _ => trivial
  | [], _ :: _, l, _ => by simp at l
  | _ :: _, [], l, _ => by simp at l
  | a :: as, u :: vs, l, h => ⟨h 0 u a rfl rfl, Al.of (by simpa using l) fun i v b e1 e2 => h (i + 1) v b (by simpa using e1) (by simpa using e2)⟩
/-! ### games: data, and what is reckoned with them -/
inductive Dd
  | set (n : Str) (k : Int)
  | plus (n : Str) (k : Int)
  | face (n : Str)
  | move (n m : Str)
noncomputable def ddD : Dd → Dat
  | .set n k => .tup [.str (Str.ofString "set"), .str n, .int k]
  | .plus n k => .tup [.str (Str.ofString "plus"), .str n, .int k]
  | .face n => .tup [.str (Str.ofString "face"), .str n]
  | .move n m => .tup [.str (Str.ofString "move"), .str n, .str m]
/-- a row of a pick -/
structure Rw where
  word : Str
  wh : Option (Str × Str × Int)
  ds : List Dd
  to : Str
noncomputable def whD : Option (Str × Str × Int) → Dat
  | none => .non
  | some (a, b, k) => .tup [.str a, .str b, .int k]
abbrev R4 := Dat × Dat × List Dat × Dat
noncomputable def r4D (r : R4) : Dat := .tup [r.1, r.2.1, .lst r.2.2.1, r.2.2.2]
noncomputable def rw4 (r : Rw) : R4 := (.str r.word, whD r.wh, r.ds.map ddD, .str r.to)
/-- a row of a throw: from, to, deeds, goal -/
abbrev Tw := Int × Int × List Dd × Str
noncomputable def tw4 (r : Tw) : R4 := (.int r.1, .int r.2.1, r.2.2.1.map ddD, .str r.2.2.2)
inductive Wt
  | ask (c : Str) (k : Int) (one other : Str)
  | fin (t b : Int)
  | score (c : Str)
  | pick (who : Int) (rs : List Rw)
  | thr (pool : List Dat) (t b : Int) (rs : List Tw)
noncomputable def wtD : Wt → Dat
  | .ask c k a b => .tup [.str (Str.ofString "ask"), .str c, .int k, .str a, .str b]
  | .fin t b => .tup [.str (Str.ofString "end"), .tup [.int t, .int b]]
  | .score c => .tup [.str (Str.ofString "score"), .str c]
  | .pick w rs => .tup [.str (Str.ofString "pick"), .int w, .lst ((rs.map rw4).map r4D)]
  | .thr pool t b rs => .tup [.str (Str.ofString "throw"), .lst pool, .tup [.int t, .int b], .lst ((rs.map tw4).map r4D)]
structure Gm where
  cs : List (Str × Int)
  ps : List (Str × Wt)
noncomputable def csD (cs : List (Str × Int)) : Dat := .lst (cs.map fun c => .tup [.str c.1, .int c.2])
noncomputable def psD (ps : List (Str × Wt)) : Dat := .lst (ps.map fun p => .tup [.str p.1, wtD p.2])
noncomputable def gmD (g : Gm) : Dat := .tup [csD g.cs, psD g.ps]
noncomputable def spot (cs : List (Str × Int)) (n : Str) : Nat := (cs.map (·.1)).idxOf n
noncomputable def most (cs : List (Str × Int)) (i : Nat) : Int := (cs.map (·.2)).getD i 0
noncomputable def putC (cs : List (Str × Int)) (ns : List Int) (i : Nat) (k : Int) : List Int := ns.set i (min k (most cs i))
noncomputable def doD (cs : List (Str × Int)) (v : Int) (ns : List Int) : Dd → List Int
  | .set n k => putC cs ns (spot cs n) k
  | .plus n k => putC cs ns (spot cs n) (ns.getD (spot cs n) 0 + k)
  | .face n => putC cs ns (spot cs n) (ns.getD (spot cs n) 0 + v)
  | .move n m => (putC cs ns (spot cs m) (ns.getD (spot cs m) 0 + ns.getD (spot cs n) 0)).set (spot cs n) 0
noncomputable def GoodD (cs : List (Str × Int)) : Dd → Prop
  | .set n _ => n ∈ cs.map (·.1)
  | .plus n _ => n ∈ cs.map (·.1)
  | .face n => n ∈ cs.map (·.1)
  | .move n m => n ∈ cs.map (·.1) ∧ m ∈ cs.map (·.1)
theorem spot_lt {cs : List (Str × Int)} {n : Str} (h : n ∈ cs.map (·.1)) : spot cs n < cs.length := by
  have := List.idxOf_lt_length_of_mem h
  rwa [List.length_map] at this
theorem putC_len {cs : List (Str × Int)} {ns : List Int} {i : Nat} {k : Int} : (putC cs ns i k).length = ns.length := by unfold putC; rw [List.length_set]
theorem doD_len {cs : List (Str × Int)} {v : Int} {ns : List Int} : ∀ d : Dd, (doD cs v ns d).length = ns.length
  | .set _ _ => putC_len
  | .plus _ _ => putC_len
  | .face _ => putC_len
  | .move _ _ => by unfold doD; rw [List.length_set, putC_len]
noncomputable def look (ps : List (Str × Wt)) (n : Str) : Option Wt := (ps.find? fun p => decide (p.1 = n)).map (·.2)
/-- where the asks lead from a place -/
noncomputable def askd (g : Gm) (ns : List Int) : Nat → Str → Option Str
  | 0, _ => none
  | f + 1, nm => match look g.ps nm with
    | some (.ask c k a b) => if k ≤ ns.getD (spot g.cs c) 0 then askd g ns f a else askd g ns f b
    | some _ => some nm
    | none => none
noncomputable def holdsW (cs : List (Str × Int)) (ns : List Int) : Option (Str × Str × Int) → Bool
  | none => true
  | some (n, x, k) => if n ∈ cs.map (·.1) then (if x = Str.ofString "from" then decide (k ≤ ns.getD (spot cs n) 0) else decide (ns.getD (spot cs n) 0 < k)) else false
/-- a game with nothing amiss: names once, asks and scores of its counts -/
noncomputable def GoodT (cs : List (Str × Int)) : Wt → Prop
  | .ask c _ _ _ => c ∈ cs.map (·.1)
  | .fin _ _ => True
  | .score c => c ∈ cs.map (·.1)
  | .pick _ rs => rs.length ≤ 100 ∧ ∀ r ∈ rs, r.ds.length ≤ 100 ∧ ∀ d ∈ r.ds, GoodD cs d
  | .thr pool _ _ rs => pool.length ≤ 100 ∧ rs.length ≤ 100 ∧ ∀ r ∈ rs, r.2.2.1.length ≤ 100 ∧ ∀ d ∈ r.2.2.1, GoodD cs d
structure GoodG (g : Gm) : Prop where
  nc : (g.cs.map (·.1)).Nodup
  np : (g.ps.map (·.1)).Nodup
  lc : g.cs.length ≤ 100
  lp : g.ps.length ≤ 100
  p0 : 0 < g.ps.length
  wt : ∀ p ∈ g.ps, GoodT g.cs p.2
theorem look_mem {ps : List (Str × Wt)} {n : Str} {x : Wt} (h : look ps n = some x) : (n, x) ∈ ps := by
  unfold look at h
  obtain ⟨p, hp, rfl⟩ := Option.map_eq_some_iff.mp h
  have e := List.find?_some hp
  have e : p.1 = n := by simpa using e
  subst e
  exact List.mem_of_find?_eq_some hp
/-- the dict of the counts' places -/
noncomputable def spK : List (Str × Int) → Nat → List (Key × V)
  | [], _ => []
  | c :: cs, i => (Sum.inr c.1, V.int (i : Int)) :: spK cs (i + 1)
theorem spK_len : ∀ (cs : List (Str × Int)) (i : Nat), (spK cs i).length = cs.length
  | [], _ => rfl
  | _ :: cs, i => by rw [spK, List.length_cons, spK_len cs, List.length_cons]
theorem spK_snoc (c : Str × Int) : ∀ (cs : List (Str × Int)) (i : Nat), spK (cs ++ [c]) i = spK cs i ++ [(Sum.inr c.1, V.int ((i + cs.length : Nat) : Int))]
  | [], i => rfl
  | d :: cs, i => by
    rw [List.cons_append, spK, spK_snoc c cs (i + 1), spK, List.length_cons, show i + 1 + cs.length = i + (cs.length + 1) by omega]
    rfl
theorem spK_val {n : Str} : ∀ {cs : List (Str × Int)} {i : Nat}, n ∈ cs.map (·.1) → valV (spK cs i) (Sum.inr n) = some (.int ((i + spot cs n : Nat) : Int))
  | [], _, h => by simp at h
  | c :: cs, i, h => by
    rw [spK]
    by_cases e : c.1 = n
    · rw [valV_pos (by rw [e])]
      have : spot (c :: cs) n = 0 := by unfold spot; rw [List.map_cons, e, List.idxOf_cons_self]
      rw [this]
      rfl
    · rw [valV_neg (fun z => e (by injection z)), spK_val (cs := cs) (i := i + 1) (by simpa [Ne.symm e] using h)]
      have : spot (c :: cs) n = spot cs n + 1 := by unfold spot; rw [List.map_cons, List.idxOf_cons, beq_false_of_ne e]; rfl
      rw [this, show i + 1 + spot cs n = i + (spot cs n + 1) by omega]
theorem spK_none {n : Str} : ∀ {cs : List (Str × Int)} {i : Nat}, n ∉ cs.map (·.1) → valV (spK cs i) (Sum.inr n) = none
  | [], _, _ => rfl
  | c :: cs, i, h => by
    rw [spK, valV_neg (fun z => h (by injection z with z; simp [z])), spK_none (cs := cs) (i := i + 1) (fun z => h (by rw [List.map_cons]; exact List.mem_cons_of_mem _ z))]
theorem put_new {κ : Type} [DecidableEq κ] {kvs : List (κ × V)} {k : κ} {v : V} (h : valV kvs k = none) : putK kvs k v = kvs ++ [(k, v)] := by
  unfold putK
  rw [if_neg]
  intro c
  obtain ⟨x, hx, e⟩ := List.any_eq_true.mp c
  unfold valV at h
  have : kvs.find? (fun kv => decide (kv.1 = k)) = none := by simpa using h
  exact absurd e (by simpa using List.find?_eq_none.mp this x hx)
/-- the dict of the places -/
noncomputable def WhK (H : Hp) : List (Str × Wt) → List (Key × V) → Prop
  | [], us => us = []
  | p :: ps, us => ∃ v r, us = (Sum.inr p.1, v) :: r ∧ Rep H (wtD p.2) v ∧ WhK H ps r
theorem WhK.mono {H H' : Hp} (s : Same H H') : ∀ {ps : List (Str × Wt)} {us : List (Key × V)}, WhK H ps us → WhK H' ps us
  | [], _, h => h
  | _ :: _, _, ⟨v, r, e, h1, h2⟩ => ⟨v, r, e, h1.mono s, h2.mono s⟩
theorem WhK.len {H : Hp} : ∀ {ps : List (Str × Wt)} {us : List (Key × V)}, WhK H ps us → us.length = ps.length
  | [], _, h => by rw [WhK] at h; subst h; rfl
  | _ :: _, _, ⟨v, r, e, h1, h2⟩ => by rw [e, List.length_cons, h2.len, List.length_cons]
theorem WhK.snoc {H : Hp} {p : Str × Wt} {v : V} (k : Rep H (wtD p.2) v) : ∀ {ps : List (Str × Wt)} {us : List (Key × V)}, WhK H ps us → WhK H (ps ++ [p]) (us ++ [(Sum.inr p.1, v)])
  | [], _, h => by rw [WhK] at h; subst h; exact ⟨v, [], rfl, k, rfl⟩
  | _ :: _, _, ⟨u, r, e, h1, h2⟩ => by rw [e]; exact ⟨u, _, rfl, h1, h2.snoc k⟩
theorem WhK.val {H : Hp} {n : Str} : ∀ {ps : List (Str × Wt)} {us : List (Key × V)}, WhK H ps us → (∃ x v, look ps n = some x ∧ valV us (Sum.inr n) = some v ∧ Rep H (wtD x) v) ∨ (look ps n = none ∧ valV us (Sum.inr n) = none)
  | [], _, h => by rw [WhK] at h; subst h; exact .inr ⟨rfl, rfl⟩
  | p :: ps, _, ⟨u, r, e, h1, h2⟩ => by
    subst e
    by_cases c : p.1 = n
    · exact .inl ⟨p.2, u, by unfold look; rw [List.find?_cons_of_pos (by simpa using c)]; rfl, valV_pos (by rw [c]), h1⟩
    · rcases h2.val (n := n) with ⟨x, v, a, b, d⟩ | ⟨a, b⟩
      · exact .inl ⟨x, v, by unfold look at *; rw [List.find?_cons_of_neg (by simpa using c)]; exact a, by rw [valV_neg (fun z => c (by injection z))]; exact b, d⟩
      · exact .inr ⟨by unfold look at *; rw [List.find?_cons_of_neg (by simpa using c)]; exact a, by rw [valV_neg (fun z => c (by injection z))]; exact b⟩
theorem look_none {ps : List (Str × Wt)} {n : Str} (h : n ∉ ps.map (·.1)) : look ps n = none := by
  unfold look
  rw [Option.map_eq_none_iff, List.find?_eq_none]
  intro p hp c
  exact h (List.mem_map.mpr ⟨p, hp, by simpa using c⟩)
theorem foldD_len {cs : List (Str × Int)} {v : Int} : ∀ (ds : List Dd) (ns : List Int), (ds.foldl (doD cs v) ns).length = ns.length
  | [], _ => rfl
  | d :: ds, ns => by rw [List.foldl_cons, foldD_len ds, doD_len]
/-- the open rows of a pick; of what is none there are none -/
noncomputable def openR (cs : List (Str × Int)) (ns : List Int) : Wt → List Rw
  | .pick _ rs => rs.filter fun r => holdsW cs ns r.wh
  | _ => []
/-- the worth of an end -/
noncomputable def endW (cs : List (Str × Int)) (ns : List Int) : Wt → Option (Int × Int)
  | .fin t b => some (t, b)
  | .score c => some (ns.getD (spot cs c) 0, 1)
  | _ => none
/-- a course in the heap -/
noncomputable def CoH (q : Addr) (H : Hp) (c : Addr) (g : Gm) : Prop := ∃ dx sp mo wh tb us ft, H c = some (.ins q dx [(Str.ofString "spots", .ref sp), (Str.ofString "mosts", .ref mo), (Str.ofString "first", .str ft), (Str.ofString "whats", .ref wh), (Str.ofString "tables", .ref tb)]) ∧
  H sp = some (.dK (spK g.cs 0)) ∧ H mo = some (.lst ((g.cs.map (·.2)).map V.int)) ∧ H wh = some (.dK us) ∧ WhK H g.ps us ∧ (g.ps.map (·.1)).head? = some ft
theorem CoH.mono {q : Addr} {H H' : Hp} {c : Addr} {g : Gm} (s : Same H H') : CoH q H c g → CoH q H' c g := fun ⟨dx, sp, mo, wh, tb, us, ft, h1, h2, h3, h4, h5, h6⟩ => ⟨dx, sp, mo, wh, tb, us, ft, s _ _ h1, s _ _ h2, s _ _ h3, s _ _ h4, h5.mono s, h6⟩
/-- a state in the heap -/
noncomputable def StH (H : Hp) (v : V) (nm : Str) (ns : List Int) : Prop := ∃ a l, v = .ref a ∧ H a = some (.tup [.str nm, .ref l]) ∧ H l = some (.lst (ns.map V.int))
theorem StH.mono {H H' : Hp} {v : V} {nm : Str} {ns : List Int} (s : Same H H') : StH H v nm ns → StH H' v nm ns := fun ⟨a, l, e, h1, h2⟩ => ⟨a, l, e, s _ _ h1, s _ _ h2⟩
noncomputable def spOR : Sp := fun vs H Q _ => ∃ v, ∃ rs : List R4, vs = [v] ∧ Rep H (.lst (rs.map r4D)) v ∧ rs.length ≤ 100 ∧ (∀ r ∈ rs, r.2.2.1.length ≤ 100) ∧ ∀ p H', Same H H' → Rep H' (.lst (rs.map r4D)) (.ref p) → Q (.ref p) H'
noncomputable def spOW : Sp := fun vs H Q _ => ∃ v x cs, vs = [v] ∧ Rep H (wtD x) v ∧ GoodT cs x ∧ ∀ u H', Same H H' → Rep H' (wtD x) u → Q u H'
noncomputable def spPut (q : Addr) : Sp := fun vs H Q _ => ∃ c l i k g ns, vs = [.ref c, .ref l, .int ((i : Nat) : Int), .int k] ∧ CoH q (hid H l) c g ∧ H l = some (.lst (List.map V.int ns)) ∧ i < g.cs.length ∧ ns.length = g.cs.length ∧ Q .non (upd H l (.lst ((putC g.cs ns i k).map V.int)))
noncomputable def spDo (q : Addr) : Sp := fun vs H Q _ => ∃ c l dv v g ns d, vs = [.ref c, .ref l, dv, .int v] ∧ CoH q (hid H l) c g ∧ H l = some (.lst (List.map V.int ns)) ∧ Rep (hid H l) (ddD d) dv ∧ GoodD g.cs d ∧ ns.length = g.cs.length ∧ Q .non (upd H l (.lst ((doD g.cs v ns d).map V.int)))
noncomputable def spAsk (q : Addr) : Sp := fun vs H Q _ => ∃ c nm l g ns f nm', vs = [.ref c, .str nm, .ref l] ∧ CoH q H c g ∧ GoodG g ∧ H l = some (.lst (List.map V.int ns)) ∧ ns.length = g.cs.length ∧ askd g ns f nm = some nm' ∧ ∀ a H', Same H H' → H a = none → H' a = some (.tup [.str nm', .ref l]) → Q (.ref a) H'
noncomputable def spSta (q : Addr) : Sp := fun vs H Q _ => ∃ c g f ft nm', vs = [.ref c] ∧ CoH q H c g ∧ GoodG g ∧ (g.ps.map (·.1)).head? = some ft ∧ askd g (List.replicate g.cs.length 0) f ft = some nm' ∧ ∀ a l H', Same H H' → H a = none → H l = none → H' a = some (.tup [.str nm', .ref l]) → H' l = some (.lst ((List.replicate g.cs.length (0 : Int)).map V.int)) → Q (.ref a) H'
noncomputable def spWat (q : Addr) : Sp := fun vs H Q _ => ∃ c v H0 g nm ns x, vs = [.ref c, v] ∧ Same H0 H ∧ CoH q H0 c g ∧ StH H v nm ns ∧ look g.ps nm = some x ∧ ∀ u, Rep H0 (wtD x) u → Q u H
noncomputable def spHol (q : Addr) : Sp := fun vs H Q _ => ∃ c v l g ns wh, vs = [.ref c, v, .ref l] ∧ CoH q H c g ∧ Rep H (whD wh) v ∧ H l = some (.lst (List.map V.int ns)) ∧ ns.length = g.cs.length ∧ Q (.bl (holdsW g.cs ns wh)) H
/-- a row of the game done at a state: the deeds, then the asks -/
noncomputable def spByR (q : Addr) : Sp := fun vs H Q _ => ∃ c sv rv v g nm ns a b ds to f nm', vs = [.ref c, sv, rv, .int v] ∧ CoH q H c g ∧ GoodG g ∧ StH H sv nm ns ∧ Rep H (r4D (a, b, List.map ddD ds, .str to)) rv ∧ (∀ d ∈ ds, GoodD g.cs d) ∧ ds.length ≤ 100 ∧ ns.length = g.cs.length ∧
  askd g (ds.foldl (doD g.cs v) ns) f to = some nm' ∧ ∀ p l H', Same H H' → H p = none → H l = none → H' p = some (.tup [.str nm', .ref l]) → H' l = some (.lst ((ds.foldl (doD g.cs v) ns).map V.int)) → Q (.ref p) H'
theorem rep_tup {H : Hp} {ds : List Dat} {v : V} : Rep H (.tup ds) v ↔ ∃ p vs, v = .ref p ∧ H p = some (.tup vs) ∧ RepL H ds vs := by rw [Rep]
theorem repL_cons {H : Hp} {d : Dat} {ds : List Dat} {vs : List V} : RepL H (d :: ds) vs ↔ ∃ v r, vs = v :: r ∧ Rep H d v ∧ RepL H ds r := by rw [RepL]
theorem repL_nil {H : Hp} {vs : List V} : RepL H [] vs ↔ vs = [] := by rw [RepL]
theorem rep_str {H : Hp} {x : Str} {v : V} : Rep H (.str x) v ↔ v = .str x := by rw [Rep]
theorem rep_int {H : Hp} {x : Int} {v : V} : Rep H (.int x) v ↔ v = .int x := by rw [Rep]
theorem rep_t2 {H : Hp} {a b : Dat} {v : V} : Rep H (.tup [a, b]) v ↔ ∃ p x y, v = .ref p ∧ H p = some (.tup [x, y]) ∧ Rep H a x ∧ Rep H b y := by
  rw [rep_tup]
  constructor
  · rintro ⟨p, vs, e, h, r⟩
    obtain ⟨x, r1, rfl, hx, r⟩ := repL_cons.mp r
    obtain ⟨y, r2, rfl, hy, r⟩ := repL_cons.mp r
    rw [repL_nil.mp r] at h
    exact ⟨p, x, y, e, h, hx, hy⟩
  · rintro ⟨p, x, y, e, h, hx, hy⟩
    exact ⟨p, _, e, h, repL_cons.mpr ⟨x, _, rfl, hx, repL_cons.mpr ⟨y, _, rfl, hy, repL_nil.mpr rfl⟩⟩⟩
theorem rep_t3 {H : Hp} {a b c : Dat} {v : V} : Rep H (.tup [a, b, c]) v ↔ ∃ p x y z, v = .ref p ∧ H p = some (.tup [x, y, z]) ∧ Rep H a x ∧ Rep H b y ∧ Rep H c z := by
  rw [rep_tup]
  constructor
  · rintro ⟨p, vs, e, h, r⟩
    obtain ⟨x, r1, rfl, hx, r⟩ := repL_cons.mp r
    obtain ⟨y, r2, rfl, hy, r⟩ := repL_cons.mp r
    obtain ⟨z, r3, rfl, hz, r⟩ := repL_cons.mp r
    rw [repL_nil.mp r] at h
    exact ⟨p, x, y, z, e, h, hx, hy, hz⟩
  · rintro ⟨p, x, y, z, e, h, hx, hy, hz⟩
    exact ⟨p, _, e, h, repL_cons.mpr ⟨x, _, rfl, hx, repL_cons.mpr ⟨y, _, rfl, hy, repL_cons.mpr ⟨z, _, rfl, hz, repL_nil.mpr rfl⟩⟩⟩⟩
theorem rep_t4 {H : Hp} {a b c d : Dat} {v : V} : Rep H (.tup [a, b, c, d]) v ↔ ∃ p x y z u, v = .ref p ∧ H p = some (.tup [x, y, z, u]) ∧ Rep H a x ∧ Rep H b y ∧ Rep H c z ∧ Rep H d u := by
  rw [rep_tup]
  constructor
  · rintro ⟨p, vs, e, h, r⟩
    obtain ⟨x, r1, rfl, hx, r⟩ := repL_cons.mp r
    obtain ⟨y, r2, rfl, hy, r⟩ := repL_cons.mp r
    obtain ⟨z, r3, rfl, hz, r⟩ := repL_cons.mp r
    obtain ⟨u, r4, rfl, hu, r⟩ := repL_cons.mp r
    rw [repL_nil.mp r] at h
    exact ⟨p, x, y, z, u, e, h, hx, hy, hz, hu⟩
  · rintro ⟨p, x, y, z, u, e, h, hx, hy, hz, hu⟩
    exact ⟨p, _, e, h, repL_cons.mpr ⟨x, _, rfl, hx, repL_cons.mpr ⟨y, _, rfl, hy, repL_cons.mpr ⟨z, _, rfl, hz, repL_cons.mpr ⟨u, _, rfl, hu, repL_nil.mpr rfl⟩⟩⟩⟩⟩
theorem rep_t5 {H : Hp} {a b c d f : Dat} {v : V} : Rep H (.tup [a, b, c, d, f]) v ↔ ∃ p x y z u t, v = .ref p ∧ H p = some (.tup [x, y, z, u, t]) ∧ Rep H a x ∧ Rep H b y ∧ Rep H c z ∧ Rep H d u ∧ Rep H f t := by
  rw [rep_tup]
  constructor
  · rintro ⟨p, vs, e, h, r⟩
    obtain ⟨x, r1, rfl, hx, r⟩ := repL_cons.mp r
    obtain ⟨y, r2, rfl, hy, r⟩ := repL_cons.mp r
    obtain ⟨z, r3, rfl, hz, r⟩ := repL_cons.mp r
    obtain ⟨u, r4, rfl, hu, r⟩ := repL_cons.mp r
    obtain ⟨t, r5, rfl, ht, r⟩ := repL_cons.mp r
    rw [repL_nil.mp r] at h
    exact ⟨p, x, y, z, u, t, e, h, hx, hy, hz, hu, ht⟩
  · rintro ⟨p, x, y, z, u, t, e, h, hx, hy, hz, hu, ht⟩
    exact ⟨p, _, e, h, repL_cons.mpr ⟨x, _, rfl, hx, repL_cons.mpr ⟨y, _, rfl, hy, repL_cons.mpr ⟨z, _, rfl, hz, repL_cons.mpr ⟨u, _, rfl, hu, repL_cons.mpr ⟨t, _, rfl, ht, repL_nil.mpr rfl⟩⟩⟩⟩⟩⟩
theorem lk_ne {k k' : Str} {v : V} {l : List (Str × V)} (h : (k == k') = false) : List.lookup k ((k', v) :: l) = List.lookup k l := by rw [List.lookup_cons, h]
theorem lk_sp {a b c d e : V} : List.lookup (Str.ofString "spots") [(Str.ofString "spots", a), (Str.ofString "mosts", b), (Str.ofString "first", c), (Str.ofString "whats", d), (Str.ofString "tables", e)] = some a := List.lookup_cons_self
theorem lk_mo {a b c d e : V} : List.lookup (Str.ofString "mosts") [(Str.ofString "spots", a), (Str.ofString "mosts", b), (Str.ofString "first", c), (Str.ofString "whats", d), (Str.ofString "tables", e)] = some b := by
  rw [lk_ne (by decide +kernel)]; exact List.lookup_cons_self
theorem lk_fi {a b c d e : V} : List.lookup (Str.ofString "first") [(Str.ofString "spots", a), (Str.ofString "mosts", b), (Str.ofString "first", c), (Str.ofString "whats", d), (Str.ofString "tables", e)] = some c := by
  rw [lk_ne (by decide +kernel), lk_ne (by decide +kernel)]; exact List.lookup_cons_self
theorem lk_wh {a b c d e : V} : List.lookup (Str.ofString "whats") [(Str.ofString "spots", a), (Str.ofString "mosts", b), (Str.ofString "first", c), (Str.ofString "whats", d), (Str.ofString "tables", e)] = some d := by
  rw [lk_ne (by decide +kernel), lk_ne (by decide +kernel), lk_ne (by decide +kernel)]; exact List.lookup_cons_self
theorem lk_no {a b c d e : V} {k : Str} (h1 : (k == Str.ofString "spots") = false) (h2 : (k == Str.ofString "mosts") = false) (h3 : (k == Str.ofString "first") = false) (h4 : (k == Str.ofString "whats") = false) (h5 : (k == Str.ofString "tables") = false) :
    List.lookup k [(Str.ofString "spots", a), (Str.ofString "mosts", b), (Str.ofString "first", c), (Str.ofString "whats", d), (Str.ofString "tables", e)] = none := by
  rw [lk_ne h1, lk_ne h2, lk_ne h3, lk_ne h4, lk_ne h5]; rfl
theorem ixN_nat {n i : Nat} (h : i < n) : ixN n (i : Int) = some i := by
  unfold ixN
  rw [if_pos (by omega), if_pos (by omega), Int.toNat_natCast]
theorem at_ints {ns : List Int} {i : Nat} (h : i < ns.length) : atI (List.map V.int ns) (i : Int) = some (.int (ns.getD i 0)) := by
  have := atI_ints (ns := ns) (i := (i : Int)) (by omega) (by omega)
  rwa [Int.toNat_natCast] at this
theorem most_at {cs : List (Str × Int)} {i : Nat} (h : i < cs.length) : atI (List.map V.int (cs.map (·.2))) (i : Int) = some (.int (most cs i)) := at_ints (by rw [List.length_map]; exact h)
theorem sp_get {H : Hp} {sp : Addr} {cs : List (Str × Int)} {n : Str} (h : H sp = some (.dK (spK cs 0))) (hn : n ∈ cs.map (·.1)) : DGet H sp (.str n) (some (.int ((spot cs n : Nat) : Int))) :=
  .inl ⟨_, Sum.inr n, .inl h, rfl, by rw [spK_val hn, Nat.zero_add]⟩
theorem hid_hid' {H : Hp} {p : Addr} {o : HO} : hid (upd H p o) p = hid H p := by
  funext a
  unfold hid
  by_cases c : a = p
  · rw [if_pos c, if_pos c]
  · rw [if_neg c, if_neg c, upd_ne c]
theorem CoH.put {q : Addr} {H : Hp} {l c : Addr} {g : Gm} {o : HO} (h : CoH q (hid H l) c g) : CoH q (hid (upd H l o) l) c g := by rw [hid_hid']; exact h
/-- while, where the test is known at each state; the measure goes along -/
theorem while_m {c : TT} {tb : TS} {D : Ends} {σ : L2.St} {H : Hp} (Pv : Nat → L2.St → Hp → Prop) {m : Nat} (h0 : Pv m σ H)
    (hs : ∀ m σ H, Pv m σ H → ∃ b : Bool, (∀ Q : Bool → Hp → Prop, Q b H → c σ H Q) ∧ if b = true then tb { D with nx := fun σ' H' => ∃ m', m' < m ∧ Pv m' σ' H', ct := fun σ' H' => ∃ m', m' < m ∧ Pv m' σ' H', bk := D.nx } σ H else D.nx σ H) : tWhile c tb D σ H := by
  refine ⟨Pv, ⟨m, h0⟩, ?_⟩
  intro m σ H p
  obtain ⟨b, k, q⟩ := hs m σ H p
  refine k _ ?_
  cases b with
  | true => exact ⟨_, fun σ' H' h => h, q⟩
  | false => exact q
theorem hid_none {H : Hp} {p : Addr} (h : H p = none) : hid H p = H := by
  funext a
  unfold hid
  by_cases c : a = p
  · rw [if_pos c, c, h]
  · rw [if_neg c]
theorem hid_same {H H' : Hp} {p : Addr} (h : hid H' p = H) : Same H H' := by rw [← h]; exact hid_sub
theorem flat_rep (n : Nat) : (List.replicate n [V.int 0]).flatten = List.map V.int (List.replicate n 0) := by
  induction n with
  | zero => rfl
  | succ n ih => rw [List.replicate_succ, List.flatten_cons, ih, List.replicate_succ]; rfl
noncomputable def spOpn (q : Addr) : Sp := fun vs H Q _ => ∃ c v H0 g nm ns x, vs = [.ref c, v] ∧ Same H0 H ∧ CoH q H0 c g ∧ GoodG g ∧ StH H v nm ns ∧ ns.length = g.cs.length ∧ look g.ps nm = some x ∧ ∀ p xs H', Same H H' → H p = none → H' p = some (.lst xs) → RepL H0 (((openR g.cs ns x).map rw4).map r4D) xs → Q (.ref p) H'
noncomputable def spWds (q : Addr) : Sp := fun vs H Q _ => ∃ c v g nm ns x, vs = [.ref c, v] ∧ CoH q H c g ∧ GoodG g ∧ StH H v nm ns ∧ ns.length = g.cs.length ∧ look g.ps nm = some x ∧ ∀ p H', Same H H' → H p = none → Rep H' (.lst ((openR g.cs ns x).map fun r => Dat.str r.word)) (.ref p) → Q (.ref p) H'
noncomputable def spEnd (q : Addr) : Sp := fun vs H Q _ => ∃ c v g nm ns x t b, vs = [.ref c, v] ∧ CoH q H c g ∧ GoodG g ∧ StH H v nm ns ∧ ns.length = g.cs.length ∧ look g.ps nm = some x ∧ endW g.cs ns x = some (t, b) ∧ ∀ u H', Same H H' → Rep H' (.tup [.int t, .int b]) u → Q u H'
theorem rep_filter {H : Hp} {p : Rw → Bool} : ∀ {rs : List Rw} {xs : List V}, RepL H ((rs.map rw4).map r4D) xs → RepL H (((rs.filter p).map rw4).map r4D) ((xs.zip rs).filterMap fun x => if p x.2 = true then some x.1 else none)
  | [], xs, h => by rw [List.zip_nil_right]; exact repL_nil.mpr rfl
  | r :: rs, xs, h => by
    obtain ⟨v, ys, rfl, h1, h2⟩ := repL_cons.mp h
    have ih := rep_filter (p := p) h2
    rw [List.zip_cons_cons, List.filterMap_cons]
    by_cases c : p r = true
    · simp only [c, if_true]
      rw [List.filter_cons_of_pos c, List.map_cons, List.map_cons]
      exact repL_cons.mpr ⟨v, _, rfl, h1, ih⟩
    · simp only [c]
      rw [List.filter_cons_of_neg c]
      exact ih
theorem rep_words {H : Hp} : ∀ {rs : List Rw} {xs : List V}, RepL H ((rs.map rw4).map r4D) xs → RepL H (rs.map fun r => Dat.str r.word) (rs.map fun r => V.str r.word)
  | [], xs, h => repL_nil.mpr rfl
  | r :: rs, xs, h => by
    obtain ⟨v, ys, rfl, h1, h2⟩ := repL_cons.mp h
    exact repL_cons.mpr ⟨_, _, rfl, rep_str.mpr rfl, rep_words h2⟩
theorem rw4_get {H : Hp} {rs : List Rw} {xs : List V} {i : Nat} {x : V} (h : RepL H ((rs.map rw4).map r4D) xs) (e : xs[i]? = some x) : ∃ r p a b c d, rs[i]? = some r ∧ x = .ref p ∧ H p = some (.tup [.str r.word, b, c, d]) ∧ Rep H (whD r.wh) b ∧ a = r := by
  obtain ⟨dd, ed, rd⟩ := h.get e
  rw [List.getElem?_map, List.getElem?_map] at ed
  obtain ⟨r4, e4, rfl⟩ := Option.map_eq_some_iff.mp ed
  obtain ⟨r, er, rfl⟩ := Option.map_eq_some_iff.mp e4
  obtain ⟨p, x1, x2, x3, x4, rfl, hp, r1, r2, r3, r4⟩ := rep_t4.mp (show Rep H (.tup _) x from rd)
  have r1 : x1 = .str r.word := rep_str.mp r1
  subst r1
  exact ⟨r, p, r, x2, x3, x4, er, rfl, hp, r2, rfl⟩
/-! ### the states found, their numbers -/
abbrev Sta := Str × List Int
noncomputable def keyD (s : Sta) : Dat := .tup [.str s.1, .tup (s.2.map .int)]
theorem toPL_ints : ∀ ns : List Int, toPL (ns.map Dat.int) = ns.map PyData.int
  | [] => by simp [toPL]
  | n :: ns => by rw [List.map_cons, toPL, toPL_ints ns, toP, List.map_cons]
theorem key_toP (s : Sta) : toP (keyD s) = .tuple [.str s.1, .tuple (s.2.map PyData.int)] := by
  unfold keyD
  rw [toP, toPL, toPL, toPL, toP, toP, toPL_ints]
theorem key_inj {s t : Sta} : toP (keyD s) = toP (keyD t) ↔ s = t := by
  rw [key_toP, key_toP]
  constructor
  · intro h
    injection h with h
    injection h with h1 h
    injection h with h2 _
    injection h1 with h1
    injection h2 with h2
    have : s.2 = t.2 := by
      have : ∀ {a b : List Int}, a.map PyData.int = b.map PyData.int → a = b := by
        intro a
        induction a with
        | nil => intro b h; cases b with | nil => rfl | cons _ _ => cases h
        | cons x a ih =>
          intro b h
          cases b with
          | nil => cases h
          | cons y b =>
            rw [List.map_cons, List.map_cons] at h
            injection h with h1 h2
            injection h1 with h1
            rw [h1, ih h2]
      exact this h2
    exact Prod.ext h1 this
  · rintro rfl; rfl
theorem hshL_ints : ∀ ns : List Int, hshL (ns.map PyData.int) = true
  | [] => rfl
  | n :: ns => by rw [List.map_cons, hshL, hshL_ints ns]; rfl
theorem depL_ints : ∀ ns : List Int, PyData.depthAll (ns.map PyData.int) ≤ 1
  | [] => by simp [PyData.depthAll]
  | n :: ns => by
    have := depL_ints ns
    rw [List.map_cons, PyData.depthAll, PyData.depth]
    omega
noncomputable def NumK : List Sta → Rows → Nat → Prop
  | [], ks, _ => ks = []
  | s :: ss, ks, i => ∃ b r, ks = (keyD s, b, (i : Int)) :: r ∧ NumK ss r (i + 1)
theorem NumK.len : ∀ {ss : List Sta} {ks : Rows} {i : Nat}, NumK ss ks i → ks.length = ss.length
  | [], _, _, h => by rw [NumK] at h; subst h; rfl
  | _ :: _, _, _, ⟨b, r, e, h⟩ => by rw [e, List.length_cons, h.len, List.length_cons]
theorem NumK.snoc {s : Sta} {b : Addr} : ∀ {ss : List Sta} {ks : Rows} {i : Nat}, NumK ss ks i → NumK (ss ++ [s]) (ks ++ [(keyD s, b, ((i + ss.length : Nat) : Int))]) i
  | [], _, i, h => by rw [NumK] at h; subst h; exact ⟨b, [], rfl, rfl⟩
  | t :: ss, _, i, ⟨b', r, e, h⟩ => by
    rw [e]
    refine ⟨b', _, rfl, ?_⟩
    have := h.snoc (s := s) (b := b)
    rw [show i + 1 + ss.length = i + (t :: ss).length by rw [List.length_cons]; omega] at this
    exact this
theorem NumK.look {s : Sta} : ∀ {ss : List Sta} {ks : Rows} {i : Nat}, NumK ss ks i → lookN ks (toP (keyD s)) = if s ∈ ss then some ((i + ss.idxOf s : Nat) : Int) else none
  | [], _, _, h => by rw [NumK] at h; subst h; rfl
  | t :: ss, _, i, ⟨b, r, e, h⟩ => by
    subst e
    unfold lookN
    by_cases c : t = s
    · subst c
      rw [List.find?_cons_of_pos (by simp), if_pos List.mem_cons_self, List.idxOf_cons_self]
      rfl
    · rw [List.find?_cons_of_neg (by simpa [key_inj] using c)]
      have ih := h.look (s := s)
      unfold lookN at ih
      rw [ih]
      have e : (t :: ss).idxOf s = ss.idxOf s + 1 := by rw [List.idxOf_cons, beq_false_of_ne c]; rfl
      rw [e, show i + 1 + ss.idxOf s = i + (ss.idxOf s + 1) by omega]
      by_cases d : s ∈ ss
      · rw [if_pos d, if_pos (List.mem_cons_of_mem _ d)]
      · rw [if_neg d, if_neg (fun z => by rcases List.mem_cons.mp z with z | z; exact c z.symm; exact d z)]
noncomputable def addS (ss : List Sta) (s : Sta) : List Sta := if s ∈ ss then ss else ss ++ [s]
theorem key_ok {H : Hp} {s : Sta} {b t : Addr} (h : hsh (.str s.1) = true) (hb : H b = some (.tup [.str s.1, .ref t])) (ht : H t = some (.tup (s.2.map V.int))) : KeyN H (keyD s) b := by
  refine ⟨?_, ?_, ?_⟩
  · rw [key_toP, hsh, hshL, h, hshL, hsh, hshL_ints]
    rfl
  · rw [key_toP]
    have := depL_ints s.2
    simp only [PyData.depth, PyData.depthAll]
    omega
  · unfold keyD
    exact rep_t2.mpr ⟨b, _, _, rfl, hb, rep_str.mpr rfl, rep_tup.mpr ⟨t, _, rfl, ht, RepL.ints _⟩⟩
/-- the heap without the finder's list and dict -/
noncomputable abbrev hid2 (H : Hp) (l n : Addr) : Hp := hid (hid H l) n
theorem hid2_sub {H : Hp} {l n : Addr} : Same (hid2 H l n) H := fun a o e => hid_sub _ _ (hid_sub _ _ e)
/-- a state whose list of counts is of a kind -/
noncomputable def StF (Fr : Addr → Prop) (H : Hp) (v : V) (nm : Str) (ns : List Int) : Prop := ∃ a l, v = .ref a ∧ H a = some (.tup [.str nm, .ref l]) ∧ H l = some (.lst (ns.map V.int)) ∧ Fr l
theorem StF.mono {Fr : Addr → Prop} {H H' : Hp} {v : V} {nm : Str} {ns : List Int} (s : Same H H') : StF Fr H v nm ns → StF Fr H' v nm ns := fun ⟨a, l, e, h1, h2, h3⟩ => ⟨a, l, e, s _ _ h1, s _ _ h2, h3⟩
theorem StF.st {Fr : Addr → Prop} {H : Hp} {v : V} {nm : Str} {ns : List Int} : StF Fr H v nm ns → StH H v nm ns := fun ⟨a, l, e, h1, h2, _⟩ => ⟨a, l, e, h1, h2⟩
noncomputable def FiH (P : Program) (w : World) (q : Addr) (Fr : Addr → Prop) (H : Hp) (f l n : Addr) (ss : List Sta) : Prop := ∃ dx xs ks, hid2 H l n f = some (.ins q dx [(Str.ofString "states", .ref l), (Str.ofString "numbers", .ref n)]) ∧ l ≠ n ∧ H l = some (.lst xs) ∧ Al (fun s v => StF Fr (hid2 H l n) v s.1 s.2) ss xs ∧
  H n = some (dnO P w n ks) ∧ AllN (hid2 H l n) ks ∧ NumK ss ks 0 ∧ ss.length ≤ 120
noncomputable def spNum (P : Program) (w : World) (q : Addr) : Sp := fun vs H Q _ => ∃ f sv Fr l n ss s, vs = [.ref f, sv] ∧ FiH P w q Fr H f l n ss ∧ StF Fr (hid2 H l n) sv s.1 s.2 ∧ hsh (.str s.1) = true ∧ s.2.length ≤ 100 ∧ (s ∈ ss ∨ ss.length < 120) ∧ ∀ H', Same (hid2 H l n) (hid2 H' l n) → FiH P w q Fr H' f l n (addS ss s) → Q (.int ((ss.idxOf s : Nat) : Int)) H'
theorem lk_st {a b : V} : List.lookup (Str.ofString "states") [(Str.ofString "states", a), (Str.ofString "numbers", b)] = some a := List.lookup_cons_self
theorem lk_nu {a b : V} : List.lookup (Str.ofString "numbers") [(Str.ofString "states", a), (Str.ofString "numbers", b)] = some b := by
  rw [lk_ne (by decide +kernel)]; exact List.lookup_cons_self
theorem lk_no2 {a b : V} {k : Str} (h1 : (k == Str.ofString "states") = false) (h2 : (k == Str.ofString "numbers") = false) : List.lookup k [(Str.ofString "states", a), (Str.ofString "numbers", b)] = none := by
  rw [lk_ne h1, lk_ne h2]; rfl
noncomputable def spFi (P : Program) (w : World) (q : Addr) : Sp := fun vs H Q _ => ∃ f dx, vs = [.ref f] ∧ H f = some (.ins q dx []) ∧ ∀ l n H', H l = none → H n = none → (∀ a o, a ≠ f → H a = some o → hid2 H' l n a = some o) → (∀ Fr, FiH P w q Fr H' f l n []) → Q .non H'
theorem hid2_of {H : Hp} {l n a : Addr} (h1 : a ≠ l) (h2 : a ≠ n) : hid2 H l n a = H a := by
  show hid (hid H l) n a = _
  rw [hid_ne h2, hid_ne h1]
theorem hid2_out {H : Hp} {l n a : Addr} {o : HO} (e : hid2 H l n a = some o) : a ≠ l ∧ a ≠ n := by
  have e : (if a = n then none else if a = l then none else H a) = some o := e
  refine ⟨fun z => ?_, fun z => ?_⟩
  · by_cases c : a = n
    · rw [if_pos c] at e; cases e
    · rw [if_neg c, if_pos z] at e; cases e
  · rw [if_pos z] at e; cases e
theorem hid2_mono {H H' : Hp} {l n : Addr} (s : Same H H') : Same (hid2 H l n) (hid2 H' l n) := fun a o e => by
  obtain ⟨h1, h2⟩ := hid2_out e
  rw [hid2_of h1 h2] at e ⊢
  exact s _ _ e
theorem hid2_updl {H : Hp} {l n : Addr} {o : HO} : hid2 (upd H l o) l n = hid2 H l n := by show hid (hid (upd H l o) l) n = _; rw [hid_hid']
theorem hid2_updn {H : Hp} {l n : Addr} {o : HO} (h : l ≠ n) : hid2 (upd H n o) l n = hid2 H l n := by
  funext a
  show (if a = n then none else if a = l then none else upd H n o a) = if a = n then none else if a = l then none else H a
  by_cases c : a = n
  · rw [if_pos c, if_pos c]
  · rw [if_neg c, if_neg c, upd_ne c]
theorem addS_mem (ss : List Sta) (s : Sta) : s ∈ addS ss s := by
  unfold addS
  split
  · assumption
  · simp
theorem addS_idx (ss : List Sta) (s : Sta) : (addS ss s).idxOf s = ss.idxOf s := by
  unfold addS
  split
  · rfl
  · rename_i h
    rw [List.idxOf_append, if_neg h, List.idxOf_cons_self, List.idxOf_eq_length h]
    omega
theorem FiH.mono {P : Program} {w : World} {q : Addr} {Fr : Addr → Prop} {H H' : Hp} {f l n : Addr} {ss : List Sta} (s : Same H H') : FiH P w q Fr H f l n ss → FiH P w q Fr H' f l n ss := fun ⟨dx, xs, ks, h1, h2, h3, h4, h5, h6, h7, h8⟩ =>
  ⟨dx, xs, ks, hid2_mono s _ _ h1, h2, s _ _ h3, h4.imp fun _ _ k => k.mono (hid2_mono s), s _ _ h5, h6.mono (hid2_mono s), h7, h8⟩
/-- what of tuples and lists stays -/
noncomputable def Kp (H H' : Hp) : Prop := ∀ a, (∀ vs, H a = some (.tup vs) → H' a = some (.tup vs)) ∧ ∀ vs, H a = some (.lst vs) → H' a = some (.lst vs)
theorem Kp.of {H H' : Hp} (s : Same H H') : Kp H H' := fun a => ⟨fun _ => s _ _, fun _ => s _ _⟩
theorem Kp.upd {H : Hp} {p : Addr} {o : HO} (h1 : ∀ vs, H p ≠ some (.tup vs)) (h2 : ∀ vs, H p ≠ some (.lst vs)) : Kp H (upd H p o) := fun a => by
  by_cases c : a = p
  · subst c; exact ⟨fun vs e => absurd e (h1 vs), fun vs e => absurd e (h2 vs)⟩
  · rw [upd_ne c]; exact ⟨fun _ h => h, fun _ h => h⟩
theorem Kp.trans {H H' H2 : Hp} (a : Kp H H') (b : Kp H' H2) : Kp H H2 := fun x => ⟨fun _ h => (b x).1 _ ((a x).1 _ h), fun _ h => (b x).2 _ ((a x).2 _ h)⟩
mutual
theorem Kp.rep {H H' : Hp} (s : Kp H H') : ∀ {d : Dat} {v : V}, Rep H d v → Rep H' d v
  | .non, _, h => by rw [Rep] at *; exact h
  | .bl _, _, h => by rw [Rep] at *; exact h
  | .int _, _, h => by rw [Rep] at *; exact h
  | .str _, _, h => by rw [Rep] at *; exact h
  | .tup ds, _, h => by
    rw [Rep] at *
    obtain ⟨p, vs, e, hp, r⟩ := h
    exact ⟨p, vs, e, (s p).1 _ hp, s.repL r⟩
  | .lst ds, _, h => by
    rw [Rep] at *
    obtain ⟨p, vs, e, hp, r⟩ := h
    exact ⟨p, vs, e, (s p).2 _ hp, s.repL r⟩
theorem Kp.repL {H H' : Hp} (s : Kp H H') : ∀ {ds : List Dat} {vs : List V}, RepL H ds vs → RepL H' ds vs
  | [], _, h => by rw [RepL] at *; exact h
  | d :: ds, _, h => by
    rw [RepL] at *
    obtain ⟨v, r, e, h1, h2⟩ := h
    exact ⟨v, r, e, s.rep h1, s.repL h2⟩
end
theorem Kp.whk {H H' : Hp} (s : Kp H H') : ∀ {ps : List (Str × Wt)} {us : List (Key × V)}, WhK H ps us → WhK H' ps us
  | [], _, h => h
  | _ :: _, _, ⟨v, r, e, h1, h2⟩ => ⟨v, r, e, s.rep h1, s.whk h2⟩
theorem WhK.none {H : Hp} {ps : List (Str × Wt)} {us : List (Key × V)} {n : Str} (h : WhK H ps us) (nn : n ∉ ps.map (·.1)) : valV us (Sum.inr n) = none := by
  rcases h.val (n := n) with ⟨x, v, a, _, _⟩ | ⟨_, b⟩
  · rw [look_none nn] at a; cases a
  · exact b
theorem nodup_at {α : Type} {l : List α} (h : l.Nodup) {i : Nat} {x : α} (e : l[i]? = some x) : x ∉ l.take i := by
  intro m
  obtain ⟨j, hj, ej⟩ := List.getElem_of_mem m
  rw [List.length_take] at hj
  rw [List.getElem_take] at ej
  obtain ⟨hi, ei⟩ := List.getElem?_eq_some_iff.mp e
  have := (List.getElem_inj h).mp (ej.trans ei.symm)
  omega
noncomputable def spCo (q : Addr) : Sp := fun vs H Q _ => ∃ c dx gv g, vs = [.ref c, gv] ∧ H c = some (.ins q dx []) ∧ Rep H (gmD g) gv ∧ GoodG g ∧ ∀ H', (∀ a o, a ≠ c → H a = some o → H' a = some o) → CoH q H' c g → Q .non H'
noncomputable def addAll (ss ts : List Sta) : List Sta := ts.foldl addS ss
/-- ss ahead of what SS holds -/
noncomputable def Ahd (ss SS : List Sta) : Prop := ∃ r, SS = ss ++ r
theorem Ahd.refl (ss : List Sta) : Ahd ss ss := ⟨[], (List.append_nil _).symm⟩
theorem Ahd.trans {a b c : List Sta} : Ahd a b → Ahd b c → Ahd a c := fun ⟨r, e⟩ ⟨t, f⟩ => ⟨r ++ t, by rw [f, e, List.append_assoc]⟩
theorem addS_ahd (ss : List Sta) (s : Sta) : Ahd ss (addS ss s) := by
  unfold addS
  split
  · exact Ahd.refl _
  · exact ⟨_, rfl⟩
theorem addAll_ahd : ∀ (ts ss : List Sta), Ahd ss (addAll ss ts)
  | [], ss => Ahd.refl _
  | t :: ts, ss => (addS_ahd ss t).trans (addAll_ahd ts (addS ss t))
theorem Ahd.idx {ss SS : List Sta} {s : Sta} (h : s ∈ ss) : Ahd ss SS → SS.idxOf s = ss.idxOf s := fun ⟨r, e⟩ => by rw [e, List.idxOf_append, if_pos h]
theorem Ahd.len {ss SS : List Sta} : Ahd ss SS → ss.length ≤ SS.length := fun ⟨r, e⟩ => by rw [e, List.length_append]; omega
theorem addS_len {ss : List Sta} {s : Sta} (h : (addS ss s).length ≤ 120) : s ∈ ss ∨ ss.length < 120 := by
  by_cases c : s ∈ ss
  · exact .inl c
  · unfold addS at h
    rw [if_neg c, List.length_append, List.length_singleton] at h
    exact .inr (by omega)
/-- the state to which a row of a pick leads -/
noncomputable def goR (g : Gm) (ns : List Int) (r : Rw) : Option Sta := (askd g (r.ds.foldl (doD g.cs 0) ns) (g.ps.length + 1) r.to).map fun nm => (nm, r.ds.foldl (doD g.cs 0) ns)
/-- the states to which a state leads, throws left out -/
noncomputable def Goes (g : Gm) (st : Sta) (ts : List Sta) : Prop := match look g.ps st.1 with
  | some (.pick w rs) => openR g.cs st.2 (.pick w rs) ≠ [] ∧ ts.length = (openR g.cs st.2 (.pick w rs)).length ∧ ∀ (i : Nat) r, (openR g.cs st.2 (.pick w rs))[i]? = some r → ∃ t, ts[i]? = some t ∧ goR g st.2 r = some t ∧ hsh (.str t.1) = true
  | some (.fin _ _) => ts = []
  | some (.score _) => ts = []
  | _ => False
noncomputable def rowD (g : Gm) (SS : List Sta) (st : Sta) (ts : List Sta) : Dat := match look g.ps st.1 with
  | some (.pick w _) => .tup [.str (Str.ofString "pick"), .int w, .lst (ts.map fun t => .int ((SS.idxOf t : Nat) : Int))]
  | some x => .tup [.str (Str.ofString "end"), .tup [.int ((endW g.cs st.2 x).getD (0, 1)).1, .int ((endW g.cs st.2 x).getD (0, 1)).2]]
  | none => .non
noncomputable def spPw (P : Program) (w : World) (qc qf : Addr) : Sp := fun vs H Q _ => ∃ c f sv Fr l n g ss st ts wo rs SS, vs = [.ref c, .ref f, sv] ∧ CoH qc (hid2 H l n) c g ∧ GoodG g ∧ FiH P w qf Fr H f l n ss ∧ (∀ a, H a = none → Fr a) ∧ StH (hid2 H l n) sv st.1 st.2 ∧ st.2.length = g.cs.length ∧ look g.ps st.1 = some (.pick wo rs) ∧
  Goes g st ts ∧ (addAll ss ts).length ≤ 120 ∧ Ahd (addAll ss ts) SS ∧ ∀ p H', Same (hid2 H l n) (hid2 H' l n) → FiH P w qf Fr H' f l n (addAll ss ts) → H p = none → hid2 H' l n p = some (.lst (ts.map fun t => V.int ((SS.idxOf t : Nat) : Int))) → Q (.ref p) H'
noncomputable def spTk (P : Program) (w : World) (qc qf : Addr) : Sp := fun vs H Q _ => ∃ c f sv Fr l n g ss st ts SS, vs = [.ref c, .ref f, sv] ∧ CoH qc (hid2 H l n) c g ∧ GoodG g ∧ FiH P w qf Fr H f l n ss ∧ (∀ a, H a = none → Fr a) ∧ StH (hid2 H l n) sv st.1 st.2 ∧ st.2.length = g.cs.length ∧
  Goes g st ts ∧ (addAll ss ts).length ≤ 120 ∧ Ahd (addAll ss ts) SS ∧ ∀ u H', Same (hid2 H l n) (hid2 H' l n) → FiH P w qf Fr H' f l n (addAll ss ts) → (∀ b ys, H b = some (.lst ys) → Rep (hid (hid2 H' l n) b) (rowD g SS st ts) u) → Q u H'
/-- a block over what is walked while the heap may change -/
theorem block_ok {J : It} {g : TG} {tc : TT} {te : TE} {σ0 : L2.St} {H1 : Hp} {fin : List V → Hp → Prop} {n : Nat} {Item : Nat → V → Hp → Hp → Prop} {Ok : Hp → Prop} (S : Src J Ok n Item) (W : Nat → List V → L2.St → Hp → Prop) (p0 : W 0 [] σ0 H1) (hok : ∀ i ys σ H, W i ys σ H → Ok H) (hz : n ≤ sizeLine)
    (hs : ∀ i x σ H ys H3 (Q : L2.St → V → Hp → Prop) (N : L2.St → Hp → Prop), i < n → W i ys σ H → Item i x H H3 →
      (∀ σ3 y H6, W (i + 1) (ys ++ [y]) σ3 H6 → Q σ3 y H6) → (∀ σ3 H5, W (i + 1) ys σ3 H5 → N σ3 H5) →
      g x σ H3 fun σ3 H4 => tc σ3 H4 fun b H5 => if b = true then te σ3 H5 fun y H6 => Q σ3 y H6 else N σ3 H5)
    (hfin : ∀ ys σ H, W n ys σ H → fin ys H) : tBlock J g tc te σ0 H1 fin := by
  refine ⟨fun i m ys σ H => m = n - i ∧ i ≤ n ∧ ys.length ≤ i ∧ W i ys σ H, ⟨n, by simp, Nat.zero_le _, Nat.le_refl _, p0⟩, ?_⟩
  rintro i m ys σ H ⟨rfl, hi, hl, p⟩
  by_cases hlt : i < n
  · refine .inr ⟨S.go i H hlt (hok _ _ _ _ p), fun x H3 y => hs i x σ H ys H3 (fun σ3 y H6 => ys.length < sizeLine ∧ ∃ m', m' < n - i ∧ m' = n - (i + 1) ∧ i + 1 ≤ n ∧ (ys ++ [y]).length ≤ i + 1 ∧ W (i + 1) (ys ++ [y]) σ3 H6)
      (fun σ3 H5 => ∃ m', m' < n - i ∧ m' = n - (i + 1) ∧ i + 1 ≤ n ∧ ys.length ≤ i + 1 ∧ W (i + 1) ys σ3 H5) hlt p (S.yld i H x H3 hlt (hok _ _ _ _ p) y) (fun σ3 y H6 q => ?_) (fun σ3 H5 q => ?_)⟩
    · exact ⟨by omega, n - (i + 1), by omega, rfl, hlt, by rw [List.length_append, List.length_singleton]; omega, q⟩
    · exact ⟨n - (i + 1), by omega, rfl, hlt, by omega, q⟩
  · have e : i = n := by omega
    subst e
    exact .inl ⟨S.stop H (hok _ _ _ _ p), hfin ys σ H p⟩
theorem FiH.fr {P : Program} {w : World} {q : Addr} {Fr Fr' : Addr → Prop} {H : Hp} {f l n : Addr} {ss : List Sta} (k : ∀ a o, H a = some o → Fr a → Fr' a) : FiH P w q Fr H f l n ss → FiH P w q Fr' H f l n ss := fun ⟨dx, xs, ks, h1, h2, h3, h4, h5, h6, h7, h8⟩ =>
  ⟨dx, xs, ks, h1, h2, h3, h4.imp fun _ _ ⟨a, b, e, a1, a2, a3⟩ => ⟨a, b, e, a1, a2, k _ _ (hid2_sub _ _ a2) a3⟩, h5, h6, h7, h8⟩
theorem KeyN.tup {H H' : Hp} {s : Sta} {b : Addr} (k : ∀ a vs, H a = some (.tup vs) → H' a = some (.tup vs)) : KeyN H (keyD s) b → KeyN H' (keyD s) b := fun ⟨h1, h2, h3⟩ => by
  refine ⟨h1, h2, ?_⟩
  unfold keyD at h3 ⊢
  obtain ⟨p, x, y, e, hp, r1, r2⟩ := rep_t2.mp h3
  obtain ⟨t, vs, e2, ht, r3⟩ := rep_tup.mp r2
  refine rep_t2.mpr ⟨p, x, y, e, k _ _ hp, rep_str.mpr (rep_str.mp r1), rep_tup.mpr ⟨t, vs, e2, k _ _ ht, ?_⟩⟩
  have : vs = s.2.map V.int := by
    have : ∀ {ns : List Int} {vs : List V}, RepL H (ns.map Dat.int) vs → vs = ns.map V.int := by
      intro ns
      induction ns with
      | nil => intro vs h; exact repL_nil.mp h
      | cons x ns ih =>
        intro vs h
        obtain ⟨v, r, rfl, h1, h2⟩ := repL_cons.mp h
        rw [rep_int.mp h1, ih h2]
        rfl
    exact this r3
  rw [this]
  exact RepL.ints _
theorem NumK.key : ∀ {ss : List Sta} {ks : Rows} {i : Nat}, NumK ss ks i → ∀ p ∈ ks, ∃ s, p.1 = keyD s
  | [], _, _, h, p, hp => by rw [NumK] at h; subst h; cases hp
  | s :: ss, _, _, ⟨b, r, e, h⟩, p, hp => by
    subst e
    rcases List.mem_cons.mp hp with rfl | hp
    · exact ⟨s, rfl⟩
    · exact h.key p hp
theorem FiH.updb {P : Program} {w : World} {q : Addr} {Fr : Addr → Prop} {H : Hp} {f l n b : Addr} {ss : List Sta} {ys ys' : List V} (k : ∀ a, Fr a → a ≠ b) (hb : H b = some (.lst ys)) (bl : b ≠ l) : FiH P w q Fr H f l n ss → FiH P w q Fr (upd H b (.lst ys')) f l n ss := fun ⟨dx, xs, ks, h1, h2, h3, h4, h5, h6, h7, h8⟩ => by
  have bn : b ≠ n := fun z => by rw [z, h5] at hb; cases hb
  have up : ∀ a o, a ≠ b → hid2 H l n a = some o → hid2 (upd H b (.lst ys')) l n a = some o := fun a o ab e => by
    obtain ⟨e1, e2⟩ := hid2_out e
    rw [hid2_of e1 e2] at e ⊢
    rw [upd_ne ab]
    exact e
  have tp : ∀ a vs, hid2 H l n a = some (.tup vs) → hid2 (upd H b (.lst ys')) l n a = some (.tup vs) := fun a vs e => up a _ (fun z => by have := hid2_sub _ _ e; rw [z, hb] at this; cases this) e
  refine ⟨dx, xs, ks, up _ _ (fun z => by have := hid2_sub _ _ h1; rw [z, hb] at this; cases this) h1, h2, by rw [upd_ne (Ne.symm bl)]; exact h3, h4.imp fun _ _ ⟨a, c, e, a1, a2, a3⟩ => ⟨a, c, e, tp _ _ a1, up _ _ (k _ a3) a2, a3⟩, by rw [upd_ne (Ne.symm bn)]; exact h5, fun p hp => ?_, h7, h8⟩
  obtain ⟨s, es⟩ := h7.key p hp
  have := h6 p hp
  rw [es] at this ⊢
  exact KeyN.tup tp this
/-- a game spread, place by place -/
noncomputable def Sprd (g : Gm) (SS : List Sta) : Nat → List Sta → List (List Sta) → Prop
  | i, ss, [] => ss = SS ∧ i = SS.length
  | i, ss, ts :: r => ∃ st, ss[i]? = some st ∧ st.2.length = g.cs.length ∧ Goes g st ts ∧ Sprd g SS (i + 1) (addAll ss ts) r
theorem Sprd.ahd {g : Gm} {SS : List Sta} : ∀ {r : List (List Sta)} {i : Nat} {ss : List Sta}, Sprd g SS i ss r → Ahd ss SS ∧ i + r.length = SS.length
  | [], i, ss, ⟨e, h⟩ => ⟨e ▸ Ahd.refl _, h⟩
  | ts :: r, i, ss, ⟨st, _, _, _, h⟩ => by
    obtain ⟨a, b⟩ := h.ahd
    exact ⟨(addAll_ahd ts ss).trans a, by rw [List.length_cons]; omega⟩
noncomputable def rowsD (g : Gm) (SS : List Sta) (tss : List (List Sta)) : List Dat := (SS.zip tss).map fun x => rowD g SS x.1 x.2
noncomputable def wordsD (g : Gm) (st : Sta) : Dat := .lst ((openR g.cs st.2 ((look g.ps st.1).getD (.fin 0 1))).map fun r => Dat.str r.word)
noncomputable def spSpr : Sp := fun vs H Q _ => ∃ gv g ft nm F SS tss, vs = [gv] ∧ Rep H (gmD g) gv ∧ GoodG g ∧ (g.ps.map (·.1)).head? = some ft ∧ askd g (List.replicate g.cs.length 0) F ft = some nm ∧ hsh (.str nm) = true ∧ Sprd g SS 0 [(nm, List.replicate g.cs.length 0)] tss ∧ SS.length ≤ 120 ∧
  ∀ p b l wl bs xs ws H', Same H H' → H b = none → H' p = some (.tup [.ref b, .ref l, .ref wl]) → H' b = some (.lst bs) → RepL H' (rowsD g SS tss) bs → H' l = some (.lst xs) → Al (fun s v => StF (fun a => H a = none ∧ a ≠ b) H' v s.1 s.2) SS xs → H' wl = some (.lst ws) → RepL H' (SS.map (wordsD g)) ws → Q (.ref p) H'
/-- a pick without an open way -/
noncomputable def Stuck (g : Gm) (st : Sta) : Prop := ∃ wo rs, look g.ps st.1 = some (.pick wo rs) ∧ openR g.cs st.2 (.pick wo rs) = []
/-- a game spread, place by place; where e, a pick without an open way is come to at last -/
noncomputable def SprdX (g : Gm) (e : Bool) (SS : List Sta) : Nat → List Sta → List (List Sta) → Prop
  | i, ss, [] => if e = true then Ahd ss SS ∧ ∃ st, ss[i]? = some st ∧ st.2.length = g.cs.length ∧ Stuck g st else ss = SS ∧ i = SS.length
  | i, ss, ts :: r => ∃ st, ss[i]? = some st ∧ st.2.length = g.cs.length ∧ Goes g st ts ∧ SprdX g e SS (i + 1) (addAll ss ts) r
theorem SprdX.ahd {g : Gm} {e : Bool} {SS : List Sta} : ∀ {r : List (List Sta)} {i : Nat} {ss : List Sta}, SprdX g e SS i ss r → Ahd ss SS ∧ i + r.length ≤ SS.length
  | [], i, ss, h => by
    unfold SprdX at h
    by_cases c : e = true
    · rw [if_pos c] at h
      obtain ⟨a, st, es, _⟩ := h
      have := (List.getElem?_eq_some_iff.mp es).1
      have := a.len
      exact ⟨a, by rw [List.length_nil]; omega⟩
    · rw [if_neg c] at h
      exact ⟨h.1 ▸ Ahd.refl _, by rw [h.2, List.length_nil]; omega⟩
  | ts :: r, i, ss, ⟨st, _, _, _, h⟩ => by
    obtain ⟨a, b⟩ := h.ahd
    exact ⟨(addAll_ahd ts ss).trans a, by rw [List.length_cons]; omega⟩
theorem Goes.stuck {g : Gm} {st : Sta} {ts : List Sta} (h : Goes g st ts) : ¬ Stuck g st := by
  rintro ⟨wo, rs, lk, e⟩
  unfold Goes at h
  rw [lk] at h
  exact h.1 e
noncomputable def spPwX (P : Program) (w : World) (qc qf qn : Addr) : Sp := fun vs H Q E => ∃ c f sv Fr l n g ss st wo rs, vs = [.ref c, .ref f, sv] ∧ CoH qc (hid2 H l n) c g ∧ GoodG g ∧ FiH P w qf Fr H f l n ss ∧ (∀ a, H a = none → Fr a) ∧ StH (hid2 H l n) sv st.1 st.2 ∧ st.2.length = g.cs.length ∧ look g.ps st.1 = some (.pick wo rs) ∧
  (openR g.cs st.2 (.pick wo rs) = [] → ∀ H', Same H H' → E (.ref qn) none H') ∧
  (openR g.cs st.2 (.pick wo rs) ≠ [] → ∃ ts SS, Goes g st ts ∧ (addAll ss ts).length ≤ 120 ∧ Ahd (addAll ss ts) SS ∧ ∀ p H', Same (hid2 H l n) (hid2 H' l n) → FiH P w qf Fr H' f l n (addAll ss ts) → H p = none → hid2 H' l n p = some (.lst (ts.map fun t => V.int ((SS.idxOf t : Nat) : Int))) → Q (.ref p) H')
noncomputable def spTkX (P : Program) (w : World) (qc qf qn : Addr) : Sp := fun vs H Q E => ∃ c f sv Fr l n g ss st, vs = [.ref c, .ref f, sv] ∧ CoH qc (hid2 H l n) c g ∧ GoodG g ∧ FiH P w qf Fr H f l n ss ∧ (∀ a, H a = none → Fr a) ∧ StH (hid2 H l n) sv st.1 st.2 ∧ st.2.length = g.cs.length ∧
  (Stuck g st → ∀ H', Same H H' → E (.ref qn) none H') ∧
  (¬ Stuck g st → ∃ ts SS, Goes g st ts ∧ (addAll ss ts).length ≤ 120 ∧ Ahd (addAll ss ts) SS ∧ ∀ u H', Same (hid2 H l n) (hid2 H' l n) → FiH P w qf Fr H' f l n (addAll ss ts) → (∀ b ys, H b = some (.lst ys) → Rep (hid (hid2 H' l n) b) (rowD g SS st ts) u) → Q u H')
noncomputable def spSprX (qn : Addr) : Sp := fun vs H Q E => ∃ gv g ft nm F e SS tss, vs = [gv] ∧ Rep H (gmD g) gv ∧ GoodG g ∧ (g.ps.map (·.1)).head? = some ft ∧ askd g (List.replicate g.cs.length 0) F ft = some nm ∧ hsh (.str nm) = true ∧ SprdX g e SS 0 [(nm, List.replicate g.cs.length 0)] tss ∧ SS.length ≤ 120 ∧
  (e = true → ∀ H', Same H H' → E (.ref qn) none H') ∧
  (e = false → ∀ p b l wl bs xs ws H', Same H H' → H b = none → H' p = some (.tup [.ref b, .ref l, .ref wl]) → H' b = some (.lst bs) → RepL H' (rowsD g SS tss) bs → H' l = some (.lst xs) → Al (fun s v => StF (fun a => H a = none ∧ a ≠ b) H' v s.1 s.2) SS xs → H' wl = some (.lst ws) → RepL H' (SS.map (wordsD g)) ws → Q (.ref p) H')
theorem SprdX.all {g : Gm} {SS : List Sta} : ∀ {r : List (List Sta)} {i : Nat} {ss : List Sta}, SprdX g false SS i ss r → ∀ j, i ≤ j → j < SS.length → ∃ st ts, SS[j]? = some st ∧ st.2.length = g.cs.length ∧ Goes g st ts
  | [], i, ss, h, j, h1, h2 => by
    have h : ss = SS ∧ i = SS.length := h
    omega
  | ts :: r, i, ss, ⟨st, es, ls, go, h⟩, j, h1, h2 => by
    by_cases c : i = j
    · subst c
      obtain ⟨⟨q, e⟩, _⟩ := (show SprdX g false SS i ss (ts :: r) from ⟨st, es, ls, go, h⟩).ahd
      exact ⟨st, ts, by rw [e, List.getElem?_append_left (List.getElem?_eq_some_iff.mp es).1]; exact es, ls, go⟩
    · exact h.all j (by omega) h2
noncomputable def spAt (K : PySem.W.Frag) : Sp := fun vs H Q _ => ∃ a ns k, vs = [.ref a, .int k] ∧ SqL K H a (List.map V.int ns) ∧ 0 ≤ k ∧ k < 1000 ∧ ∀ n, Q (.int n) H
noncomputable def spLaw (K : PySem.W.Frag) : Sp := fun vs H Q _ => ∃ (a : Addr) (ns : List Int), vs = [.ref a] ∧ SqL K H a (ns.map V.int) ∧ ns.length ≤ 63 ∧ ∀ H', Q (.bl true) H'
section
variable {P : Program} {w : World} {K : PySem.W.Frag} {mg : Str → Option Value} {base : Heap}
variable {q_LuckError q_NoShare q_NoTable q_NoPool q_NoEnd q_TooMany q_NoGame q_NoWay q_NoRule q_NoStep q_NoPlay q_NoRow q_Course q_Finder : Addr}
theorem sc_own_rows : FnScope ["rows"] ["rows"] (defScope (top 41)) := ⟨rfl, rfl, rfl, by decide +kernel, rfl, by decide +kernel, by decide +kernel⟩
theorem ok_or (T : Txt K mg q_LuckError q_NoShare q_NoTable q_NoPool q_NoEnd q_TooMany q_NoGame q_NoWay q_NoRule q_NoStep q_NoPlay q_NoRow q_Course q_Finder) : Cal P w K mg base (CX1 P w) 1 "own_rows" ["rows"] spOR := by
  refine T.d_own_rows.cal (fun _ _ _ _ _ _ us hl => match us, hl with | [_], _ => rfl) fun f fd F => F.okC sc_own_rows (fun vs H Q E h => ?_) (fun cdv A outer s H vs Q E hr h => ?_)
  · obtain ⟨_, _, rfl, _⟩ := h; rfl
  · obtain ⟨v, rs, rfl, rp, lr, ll, kk⟩ := h
    have nd := sc_own_rows.nd
    refine ⟨_, (pss_one (ps_ret (pe_comp rfl (N := ["rows"]) (so := defScope (top 41)) (N' := ["row"]) (k := 1) (fr := []) rfl rfl ⟨rfl, by decide +kernel, by decide +kernel, by decide +kernel, rfl, by decide +kernel, by decide +kernel⟩ (pi_listK (K := K) (pv 0)) (fun _ _ _ _ _ => (pg_name (i := 0) (show (["row"] : List Str).Nodup by decide +kernel) rfl (Or.inl rfl))) (fun _ _ _ _ _ => pts_nil)
      (fun _ _ _ _ _ => (pe_tupS (pa_cons (pe_ix ix_tupH (pv 0) pe_int (fun _ _ => rfl)) (pa_cons (pe_ix ix_tupH (pv 0) pe_int (fun _ _ => rfl)) (pa_cons (pe_callTy (call_list_ofK (K := K)) (by rfl) T.z_list rfl (pa_cons (pe_ix ix_tupH (pv 0) pe_int (fun _ _ => rfl)) pa_nil (se rfl)) (he := se rfl) (hpl := na rfl)) (pa_cons (pe_ix ix_tupH (pv 0) pe_int (fun _ _ => rfl)) pa_nil (se rfl)) (se rfl)) (se rfl)) (se rfl))))))), ?_⟩
    have sl := sizeLine_eq
    obtain ⟨l, xs, rfl, hl, rl⟩ := rep_lst.mp rp
    have len := rl.length
    rw [List.length_map] at len
    simp_all only []
    refine ⟨⟨_, SqL.of hl⟩, ?_⟩
    refine comp_map (src_list (K := K) (fun H' s' => SqL.of (s' _ _ hl))) (fun _ _ _ _ h => by rw [h.1]; exact Same.refl _) (by omega) (fun i y H4 => ∀ r, rs[i]? = some r → Rep H4 (r4D r) y) (fun i y H4 H5 s5 h r e => (h r e).mono s5) ?_ ?_
    · rintro i x w0 H4 H5 Q2 hi s4 ⟨rfl, ex⟩ kq
      obtain ⟨d, ed, rd⟩ := rl.get ex
      rw [List.getElem?_map] at ed
      obtain ⟨r, er, rfl⟩ := Option.map_eq_some_iff.mp ed
      obtain ⟨p, a, b, c, d, rfl, hp, ra, rb, rc, rd'⟩ := rep_t4.mp (rd.mono s4)
      obtain ⟨c', cs', rfl, hc, rcl⟩ := rep_lst.mp rc
      simp_all only [hp]
      refine ⟨_, .inl (SqL.of hc), fun m nm => ⟨_, same_upd nm _ _ hp, _, rfl, by decide, fun t H6 s6 nt e6 => kq _ _ ((same_upd nm).trans s6) fun r' er' => ?_⟩⟩
      rw [er] at er'
      cases er'
      have sm := (same_upd (o := .lst cs') nm).trans s6
      exact rep_t4.mpr ⟨t, _, _, _, _, rfl, e6, ra.mono sm, rb.mono sm, rep_lst.mpr ⟨m, cs', rfl, s6 _ _ upd_same, rcl.mono sm⟩, rd'.mono sm⟩
    · intro ys H5 s5 ly hy D n1 n2
      refine kk D _ (s5.trans (same_upd n2)) (rep_lst.mpr ⟨D, ys, rfl, upd_same, RepL.of (by rw [List.length_map]; omega) fun i dd u e1 e2 => ?_⟩)
      rw [List.getElem?_map] at e1
      obtain ⟨r, er, rfl⟩ := Option.map_eq_some_iff.mp e1
      exact (hy i u e2 r er).mono (same_upd n2)
theorem sc_own_what : FnScope ["what"] ["what"] (defScope (top 42)) := ⟨rfl, rfl, rfl, by decide +kernel, rfl, by decide +kernel, by decide +kernel⟩
theorem ok_ow (T : Txt K mg q_LuckError q_NoShare q_NoTable q_NoPool q_NoEnd q_TooMany q_NoGame q_NoWay q_NoRule q_NoStep q_NoPlay q_NoRow q_Course q_Finder) : Cal P w K mg base (CX1 P w) 2 "own_what" ["what"] spOW := by
  have c_own_rows : Cal P w K mg base (CX1 P w) 1 "own_rows" ["rows"] spOR := ok_or T
  refine T.d_own_what.cal (fun _ _ _ _ _ _ us hl => match us, hl with | [_], _ => rfl) fun f fd F => F.okC sc_own_what (fun vs H Q E h => ?_) (fun cdv A outer s H vs Q E hr h => ?_)
  · obtain ⟨_, _, _, rfl, _⟩ := h; rfl
  · obtain ⟨v, x, cs, rfl, rp, gd, kk⟩ := h
    have nd := sc_own_what.nd
    refine ⟨_, (pss_cons (ps_if (pt_cmpR op_eq (pe_ix ix_tupH (pv 0) pe_int (fun _ _ => rfl)) pe_str (nomark _)) (pss_one (ps_ret (pe_tupS (pa_cons pe_str (pa_cons (pe_callTy (call_list_ofK (K := K)) (by rfl) T.z_list rfl (pa_cons (pe_ix ix_tupH (pv 0) pe_int (fun _ _ => rfl)) pa_nil (se rfl)) (he := se rfl) (hpl := na rfl)) (pa_cons (pe_ix ix_tupH (pv 0) pe_int (fun _ _ => rfl)) (pa_cons (pe_cal c_own_rows (hr.mono (by decide)) rfl strictP.pass (pa_cons (pe_ix ix_tupH (pv 0) pe_int (fun _ _ => rfl)) pa_nil (se rfl)) (he := se rfl) (hpl := na rfl)) pa_nil (se rfl)) (se rfl)) (se rfl)) (se rfl)))))
      pss_nil)
    (pss_cons (ps_if (pt_cmpR op_eq (pe_ix ix_tupH (pv 0) pe_int (fun _ _ => rfl)) pe_str (nomark _)) (pss_one (ps_ret (pe_tupS (pa_cons pe_str (pa_cons (pe_ix ix_tupH (pv 0) pe_int (fun _ _ => rfl)) (pa_cons (pe_cal c_own_rows (hr.mono (by decide)) rfl strictP.pass (pa_cons (pe_ix ix_tupH (pv 0) pe_int (fun _ _ => rfl)) pa_nil (se rfl)) (he := se rfl) (hpl := na rfl)) pa_nil (se rfl)) (se rfl)) (se rfl)))))
      pss_nil)
    (pss_one (ps_ret (pv 0))))), ?_⟩
    have sl := sizeLine_eq
    cases x with
    | ask c k a b =>
      obtain ⟨p, x1, x2, x3, x4, x5, rfl, hp, r1, r2, r3, r4, r5⟩ := rep_t5.mp (show Rep H (.tup _) v from rp)
      rw [rep_str] at r1
      subst r1
      simp_all only [spOR, hp]
      rw [if_neg (by decide +kernel), if_neg (by decide +kernel)]
      exact kk _ _ (Same.refl _) rp
    | fin t b =>
      obtain ⟨p, x1, x2, rfl, hp, r1, r2⟩ := rep_t2.mp (show Rep H (.tup _) v from rp)
      rw [rep_str] at r1
      subst r1
      simp_all only [spOR, hp]
      rw [if_neg (by decide +kernel), if_neg (by decide +kernel)]
      exact kk _ _ (Same.refl _) rp
    | score c =>
      obtain ⟨p, x1, x2, rfl, hp, r1, r2⟩ := rep_t2.mp (show Rep H (.tup _) v from rp)
      rw [rep_str] at r1
      subst r1
      simp_all only [spOR, hp]
      rw [if_neg (by decide +kernel), if_neg (by decide +kernel)]
      exact kk _ _ (Same.refl _) rp
    | pick w rs =>
      obtain ⟨p, x1, x2, x3, rfl, hp, r1, r2, r3⟩ := rep_t3.mp (show Rep H (.tup _) v from rp)
      rw [rep_str] at r1
      subst r1
      simp_all only [spOR, hp]
      rw [if_neg (by decide +kernel)]
      obtain ⟨g1, g2⟩ := gd
      refine ⟨_, r3, by rw [List.length_map]; exact g1, fun r hr' => ?_, fun m H1 s1 rm => ⟨by decide, fun t H2 s2 nt e2 => kk _ _ (s1.trans s2) ?_⟩⟩
      · obtain ⟨r0, h0, rfl⟩ := List.mem_map.mp hr'
        show (r0.ds.map ddD).length ≤ 100
        rw [List.length_map]
        exact (g2 r0 h0).1
      · exact rep_t3.mpr ⟨t, _, _, _, rfl, e2, rep_str.mpr rfl, r2.mono (s1.trans s2), rm.mono s2⟩
    | thr pool t b rs =>
      obtain ⟨p, x1, x2, x3, x4, rfl, hp, r1, r2, r3, r4⟩ := rep_t4.mp (show Rep H (.tup _) v from rp)
      rw [rep_str] at r1
      subst r1
      simp_all only [spOR, hp]
      obtain ⟨g1, g2, g3⟩ := gd
      obtain ⟨l2, xs2, rfl, hl2, rl2⟩ := rep_lst.mp r2
      refine ⟨_, rfl, _, .inl (SqL.of hl2), fun m nm => ?_⟩
      have sm := same_upd (o := .lst xs2) nm
      refine ⟨_, sm _ _ hp, _, rfl, _, sm _ _ hp, _, rfl, _, r4.mono sm, by rw [List.length_map]; exact g2, fun r hr' => ?_, fun n H1 s1 rn => ⟨by decide, fun t H2 s2 nt e2 => kk _ _ (sm.trans (s1.trans s2)) ?_⟩⟩
      · obtain ⟨r0, h0, rfl⟩ := List.mem_map.mp hr'
        show (r0.2.2.1.map ddD).length ≤ 100
        rw [List.length_map]
        exact (g3 r0 h0).1
      · have s02 := sm.trans (s1.trans s2)
        exact rep_t4.mpr ⟨t, _, _, _, _, rfl, e2, rep_str.mpr rfl, rep_lst.mpr ⟨m, xs2, rfl, s2 _ _ (s1 _ _ upd_same), rl2.mono s02⟩, r3.mono s02, rn.mono s2⟩
theorem sc_Course_put : FnScope ["self", "counts", "spot", "number"] ["self", "counts", "spot", "number"] (defScope (inClass (top 43) 1)) := ⟨rfl, rfl, rfl, by decide +kernel, rfl, by decide +kernel, by decide +kernel⟩
theorem ok_put (T : Txt K mg q_LuckError q_NoShare q_NoTable q_NoPool q_NoEnd q_TooMany q_NoGame q_NoWay q_NoRule q_NoStep q_NoPlay q_NoRow q_Course q_Finder) : MtCal P w K mg base (CX1 P w) 1 q_Course "put" ["self", "counts", "spot", "number"] (spPut q_Course) := by
  refine T.dm_Course_put.cal (fun _ _ _ _ _ _ us hl => match us, hl with | [_, _, _, _], _ => rfl) fun f fd F => F.okC sc_Course_put (fun vs H Q E h => ?_) (fun cdv A outer s H vs Q E hr h => ?_)
  · obtain ⟨_, _, _, _, _, _, rfl, _⟩ := h; rfl
  · obtain ⟨c, l, i, k, g, ns, rfl, ⟨dx, sp, mo, wh, tb, us, ft, h1, h2, h3, h4, h5, h6⟩, hl, il, ln, kk⟩ := h
    have nd := sc_Course_put.nd
    refine ⟨_, (pss_one (ps_asg (pe_callB (call_min2 rfl) (by rfl) T.z_min rfl (pa_cons (pv 3) (pa_cons (pe_ix ix_listH (pe_fld (pv 0) rfl) (pv 2) (fun _ _ => rfl)) pa_nil (se rfl)) (se rfl)) (he := se rfl) (hpl := na rfl)) (pg_sub (pv 1) (pv 2) set_list))), ?_⟩
    have h1 := hid_sub _ _ h1
    have h3 := hid_sub _ _ h3
    simp_all only [tFld]
    refine ⟨_, _, _, h1, T.cl_Course, T.na_Course_mosts, _, lk_mo, _, rfl, _, h3, _, most_at il, _, rfl, _, hl, _, ixN_nat (by rw [List.length_map]; omega), ?_⟩
    rw [← List.map_set]
    have e : (if most g.cs i < k then most g.cs i else k) = min k (most g.cs i) := by omega
    rw [e]
    exact kk
theorem sc_Course_do : FnScope ["self", "counts", "deed", "value", "spot", "other"] ["self", "counts", "deed", "value"] (defScope (inClass (top 43) 2)) := ⟨rfl, rfl, rfl, by decide +kernel, rfl, by decide +kernel, by decide +kernel⟩
theorem ok_do (T : Txt K mg q_LuckError q_NoShare q_NoTable q_NoPool q_NoEnd q_TooMany q_NoGame q_NoWay q_NoRule q_NoStep q_NoPlay q_NoRow q_Course q_Finder) : MtCal P w K mg base (CX1 P w) 2 q_Course "do" ["self", "counts", "deed", "value"] (spDo q_Course) := by
  have m_Course_put : MtCal P w K mg base (CX1 P w) 1 q_Course "put" ["self", "counts", "spot", "number"] (spPut q_Course) := ok_put T
  refine T.dm_Course_do.cal (fun _ _ _ _ _ _ us hl => match us, hl with | [_, _, _, _], _ => rfl) fun f fd F => F.okC sc_Course_do (fun vs H Q E h => ?_) (fun cdv A outer s H vs Q E hr h => ?_)
  · obtain ⟨_, _, _, _, _, _, _, rfl, _⟩ := h; rfl
  · obtain ⟨c, l, dv, v, g, ns, d, rfl, co, hl, rd, gd, ln, kk⟩ := h
    have nd := sc_Course_do.nd
    refine ⟨_, (pss_cons (ps_set (i := 4) nd rfl (Or.inl rfl) (pe_dget (hu_of hr) (pe_fld (pv 0) rfl) (pe_ix ix_tupH (pv 2) pe_int (fun _ _ => rfl)) (fun _ _ => rfl)))
    (pss_one (ps_if (pt_cmpR op_eq (pe_ix ix_tupH (pv 2) pe_int (fun _ _ => rfl)) pe_str (nomark _)) (pss_one (ps_expr (pe_mt m_Course_put T.cl_Course (pv 0) (hr.mono (by decide)) strictP.pass (pa_cons (pv 1) (pa_cons (pv 4) (pa_cons (pe_ix ix_tupH (pv 2) pe_int (fun _ _ => rfl)) pa_nil (se rfl)) (se rfl)) (se rfl)) (hst := se rfl) (hpl := na rfl))))
      (pss_one (ps_if (pt_cmpR op_eq (pe_ix ix_tupH (pv 2) pe_int (fun _ _ => rfl)) pe_str (nomark _)) (pss_one (ps_expr (pe_mt m_Course_put T.cl_Course (pv 0) (hr.mono (by decide)) strictP.pass (pa_cons (pv 1) (pa_cons (pv 4) (pa_cons (pe_op op_add (pe_ix ix_listH (pv 1) (pv 4) (fun _ _ => rfl)) (pe_ix ix_tupH (pv 2) pe_int (fun _ _ => rfl))) pa_nil (se rfl)) (se rfl)) (se rfl)) (hst := se rfl) (hpl := na rfl))))
      (pss_one (ps_if (pt_cmpR op_eq (pe_ix ix_tupH (pv 2) pe_int (fun _ _ => rfl)) pe_str (nomark _)) (pss_one (ps_expr (pe_mt m_Course_put T.cl_Course (pv 0) (hr.mono (by decide)) strictP.pass (pa_cons (pv 1) (pa_cons (pv 4) (pa_cons (pe_op op_add (pe_ix ix_listH (pv 1) (pv 4) (fun _ _ => rfl)) (pv 3)) pa_nil (se rfl)) (se rfl)) (se rfl)) (hst := se rfl) (hpl := na rfl))))
      (pss_cons (ps_set (i := 5) nd rfl (Or.inl rfl) (pe_dget (hu_of hr) (pe_fld (pv 0) rfl) (pe_ix ix_tupH (pv 2) pe_int (fun _ _ => rfl)) (fun _ _ => rfl)))
    (pss_cons (ps_expr (pe_mt m_Course_put T.cl_Course (pv 0) (hr.mono (by decide)) strictP.pass (pa_cons (pv 1) (pa_cons (pv 5) (pa_cons (pe_op op_add (pe_ix ix_listH (pv 1) (pv 5) (fun _ _ => rfl)) (pe_ix ix_listH (pv 1) (pv 4) (fun _ _ => rfl))) pa_nil (se rfl)) (se rfl)) (se rfl)) (hst := se rfl) (hpl := na rfl)))
    (pss_one (ps_asg pe_int (pg_sub (pv 1) (pv 4) set_list)))))))))))), ?_⟩
    obtain ⟨dx, sp, mo, wh, tb, us, ft, h1, h2, h3, h4, h5, h6⟩ := id co
    have h1 := hid_sub _ _ h1
    have h2 := hid_sub _ _ h2
    have lp : ∀ {a b c d e : V}, List.lookup (Str.ofString "put") [(Str.ofString "spots", a), (Str.ofString "mosts", b), (Str.ofString "first", c), (Str.ofString "whats", d), (Str.ofString "tables", e)] = none := lk_no (by decide +kernel) (by decide +kernel) (by decide +kernel) (by decide +kernel) (by decide +kernel)
    cases d with
    | set n k =>
      obtain ⟨p, x1, x2, x3, rfl, hp, r1, r2, r3⟩ := rep_t3.mp (show Rep (hid H l) (.tup _) dv from rd)
      rw [rep_str] at r1 r2
      rw [rep_int] at r3
      subst r1 r2 r3
      have hp := hid_sub _ _ hp
      have sl := spot_lt (cs := g.cs) gd
      simp_all only [tFld, tMeth, spPut, hp]
      exact ⟨_, _, _, h1, T.cl_Course, T.na_Course_spots, _, lk_sp, _, rfl, _, sp_get h2 gd, _, _, h1, lp, _, rfl, _, co, _, hl, sl, ln, kk⟩
    | plus n k =>
      obtain ⟨p, x1, x2, x3, rfl, hp, r1, r2, r3⟩ := rep_t3.mp (show Rep (hid H l) (.tup _) dv from rd)
      rw [rep_str] at r1 r2
      rw [rep_int] at r3
      subst r1 r2 r3
      have hp := hid_sub _ _ hp
      have sl := spot_lt (cs := g.cs) gd
      simp_all only [tFld, tMeth, spPut, hp]
      refine ⟨_, _, _, h1, T.cl_Course, T.na_Course_spots, _, lk_sp, _, rfl, _, sp_get h2 gd, ?_⟩
      rw [if_neg (by decide +kernel)]
      exact ⟨_, _, h1, lp, _, _, rfl, hl, _, at_ints (by omega), _, rfl, _, rfl, _, co, _, hl, sl, ln, kk⟩
    | face n =>
      obtain ⟨p, x1, x2, rfl, hp, r1, r2⟩ := rep_t2.mp (show Rep (hid H l) (.tup _) dv from rd)
      rw [rep_str] at r1 r2
      subst r1 r2
      have hp := hid_sub _ _ hp
      have sl := spot_lt (cs := g.cs) gd
      simp_all only [tFld, tMeth, spPut, hp]
      refine ⟨_, _, _, h1, T.cl_Course, T.na_Course_spots, _, lk_sp, _, rfl, _, sp_get h2 gd, ?_⟩
      rw [if_neg (by decide +kernel), if_neg (by decide +kernel)]
      exact ⟨_, _, h1, lp, _, _, rfl, hl, _, at_ints (by omega), _, rfl, _, rfl, _, co, _, hl, sl, ln, kk⟩
    | move n m =>
      obtain ⟨p, x1, x2, x3, rfl, hp, r1, r2, r3⟩ := rep_t3.mp (show Rep (hid H l) (.tup _) dv from rd)
      rw [rep_str] at r1 r2 r3
      subst r1 r2 r3
      have hp := hid_sub _ _ hp
      have sl := spot_lt (cs := g.cs) gd.1
      have sl2 := spot_lt (cs := g.cs) gd.2
      simp_all only [tFld, tMeth, spPut, hp]
      refine ⟨_, _, _, h1, T.cl_Course, T.na_Course_spots, _, lk_sp, _, rfl, _, sp_get h2 gd.1, ?_⟩
      rw [if_neg (by decide +kernel), if_neg (by decide +kernel), if_neg (by decide +kernel)]
      refine ⟨_, _, _, h1, T.cl_Course, T.na_Course_spots, _, lk_sp, _, rfl, _, sp_get h2 gd.2, _, _, h1, lp, _, _, rfl, hl, _, at_ints (by omega), _, _, rfl, hl, _, at_ints (by omega), _, rfl, _, rfl, _, rfl, _, co, _, hl, sl2, ln, _, _, rfl, upd_same, _, ixN_nat (by rw [List.length_map, putC_len]; omega), ?_⟩
      rw [upd_upd, ← List.map_set]
      exact kk
theorem sc_Course_asked : FnScope ["self", "name", "counts", "what"] ["self", "name", "counts"] (defScope (inClass (top 43) 3)) := ⟨rfl, rfl, rfl, by decide +kernel, rfl, by decide +kernel, by decide +kernel⟩
theorem ok_ask (T : Txt K mg q_LuckError q_NoShare q_NoTable q_NoPool q_NoEnd q_TooMany q_NoGame q_NoWay q_NoRule q_NoStep q_NoPlay q_NoRow q_Course q_Finder) : MtCal P w K mg base (CX1 P w) 1 q_Course "asked" ["self", "name", "counts"] (spAsk q_Course) := by
  refine T.dm_Course_asked.cal (fun _ _ _ _ _ _ us hl => match us, hl with | [_, _, _], _ => rfl) fun f fd F => F.okC sc_Course_asked (fun vs H Q E h => ?_) (fun cdv A outer s H vs Q E hr h => ?_)
  · obtain ⟨_, _, _, _, _, _, _, rfl, _⟩ := h; rfl
  · obtain ⟨c, nm, l, g, ns, fu, nm', rfl, co, gg, hl, ln, ak, kk⟩ := h
    have nd := sc_Course_asked.nd
    refine ⟨_, (pss_cons (ps_set (i := 3) nd rfl (Or.inl rfl) (pe_dget (hu_of hr) (pe_fld (pv 0) rfl) (pv 1) (fun _ _ => rfl)))
    (pss_cons (ps_while PassesOwn.never (pt_cmpR op_eq (pe_ix ix_tupH (pv 3) pe_int (fun _ _ => rfl)) pe_str (nomark _)) (pss_cons (ps_set (i := 1) nd rfl (Or.inl rfl) (pe_ifExp (pt_cmpR op_ge (pe_ix ix_listH (pv 2) (pe_dget (hu_of hr) (pe_fld (pv 0) rfl) (pe_ix ix_tupH (pv 3) pe_int (fun _ _ => rfl)) (fun _ _ => rfl)) (fun _ _ => rfl)) (pe_ix ix_tupH (pv 3) pe_int (fun _ _ => rfl)) (nomark _)) (pe_ix ix_tupH (pv 3) pe_int (fun _ _ => rfl)) (pe_ix ix_tupH (pv 3) pe_int (fun _ _ => rfl))))
    (pss_one (ps_set (i := 3) nd rfl (Or.inl rfl) (pe_dget (hu_of hr) (pe_fld (pv 0) rfl) (pv 1) (fun _ _ => rfl))))))
    (pss_one (ps_ret (pe_tupS (pa_cons (pv 1) (pa_cons (pv 2) pa_nil (se rfl)) (se rfl))))))), ?_⟩
    obtain ⟨dx, sp, mo, wh, tb, us, ft, h1, h2, h3, h4, h5, h6⟩ := id co
    simp_all only [tFld]
    cases fu with
    | zero => cases ak
    | succ fu =>
      rcases h5.val (n := nm) with ⟨x, u, lk, vl, rx⟩ | ⟨lk, vl⟩
      · refine ⟨_, _, _, h1, T.cl_Course, T.na_Course_whats, _, lk_wh, _, rfl, _, .inl ⟨_, Sum.inr nm, .inl h4, rfl, vl.symm⟩, ?_⟩
        refine while_m (fun m σ H' => H = H' ∧ ∃ nm x u, askd g ns (m + 1) nm = some nm' ∧ look g.ps nm = some x ∧ Rep H (wtD x) u ∧ σ = [some (V.ref c), some (V.str nm), some (V.ref l), some u]) (m := fu) ⟨rfl, nm, x, u, ak, lk, rx, rfl⟩ ?_
        clear ak lk rx vl
        rintro m σ H' ⟨rfl, nm, x, u, ak, lk, rx, rfl⟩
        have gx := gg.wt _ (look_mem lk)
        rw [askd, lk] at ak
        have fin : ∀ {p : Addr} {xs : List V} {y : Str}, u = .ref p → H p = some (.tup (.str y :: xs)) → y ≠ Str.ofString "ask" → nm = nm' → ∃ b : Bool, (∀ Q : Bool → Hp → Prop, Q b H → tTest (tOp rEq (tOp rIxTH (tVar 3) (tC (V.int 0))) (tC (V.str (Str.ofString "ask")))) [some (V.ref c), some (V.str nm), some (V.ref l), some u] H Q) ∧ b = false := by
          intro p xs y e hp ny _
          refine ⟨false, fun Q q => ?_, rfl⟩
          subst e
          simp_all only [hp]
          rw [decide_eq_false ny]
          exact q
        cases x with
        | ask c' k a b =>
          obtain ⟨p, x1, x2, x3, x4, x5, rfl, hp, r1, r2, r3, r4, r5⟩ := rep_t5.mp (show Rep H (.tup _) u from rx)
          rw [rep_str] at r1 r2 r4 r5
          rw [rep_int] at r3
          subst r1 r2 r3 r4 r5
          refine ⟨true, fun Q q => ?_, ?_⟩
          · simp_all only [hp]
            rw [decide_eq_true trivial]
            exact q
          · rw [if_pos rfl]
            have hs := spot_lt (cs := g.cs) gx
            have step : ∀ y, askd g ns m y = some nm' → ∃ m' x u, m' < m ∧ askd g ns (m' + 1) y = some nm' ∧ look g.ps y = some x ∧ Rep H (wtD x) u ∧ DGet H wh (.str y) (some u) := by
              intro y hy
              cases m with
              | zero => cases hy
              | succ m' =>
                rcases h5.val (n := y) with ⟨x, u, lk', vl, rx'⟩ | ⟨lk', vl⟩
                · exact ⟨m', x, u, Nat.lt_succ_self _, hy, lk', rx', .inl ⟨_, Sum.inr y, .inl h4, rfl, vl.symm⟩⟩
                · rw [askd, lk'] at hy
                  cases hy
            have ak : (if k ≤ ns.getD (spot g.cs c') 0 then askd g ns m a else askd g ns m b) = some nm' := ak
            simp_all only [tFld, hp]
            refine ⟨_, _, _, h1, T.cl_Course, T.na_Course_spots, _, lk_sp, _, rfl, _, sp_get h2 gx, _, _, rfl, hl, _, at_ints (by omega), _, rfl, ite2 (fun c1 => ?_) (fun c1 => ?_)⟩
            · rw [if_pos c1] at ak
              obtain ⟨m', x, u, l1, l2, l3, l4, l5⟩ := step a ak
              refine ⟨_, rfl, _, _, _, h1, T.cl_Course, T.na_Course_whats, _, lk_wh, _, rfl, _, l5, ?_⟩
              exact ⟨m', l1, a, l2, x, l3, u, l4, rfl, rfl⟩
            · rw [if_neg c1] at ak
              obtain ⟨m', x, u, l1, l2, l3, l4, l5⟩ := step b ak
              refine ⟨_, rfl, _, _, _, h1, T.cl_Course, T.na_Course_whats, _, lk_wh, _, rfl, _, l5, ?_⟩
              exact ⟨m', l1, b, l2, x, l3, u, l4, rfl, rfl⟩
        | fin t b =>
          obtain ⟨p, x1, x2, rfl, hp, r1, r2⟩ := rep_t2.mp (show Rep H (.tup _) u from rx)
          rw [rep_str] at r1
          subst r1
          have e : nm = nm' := by injection ak
          obtain ⟨b', k1, rfl⟩ := fin rfl hp (by decide +kernel) e
          refine ⟨false, k1, ?_⟩
          rw [if_neg (by decide)]
          simp_all only []
          exact ⟨by decide, fun p H2 s2 np e2 => kk p H2 s2 np (by rw [← e]; exact e2)⟩
        | score c' =>
          obtain ⟨p, x1, x2, rfl, hp, r1, r2⟩ := rep_t2.mp (show Rep H (.tup _) u from rx)
          rw [rep_str] at r1
          subst r1
          have e : nm = nm' := by injection ak
          obtain ⟨b', k1, rfl⟩ := fin rfl hp (by decide +kernel) e
          refine ⟨false, k1, ?_⟩
          rw [if_neg (by decide)]
          simp_all only []
          exact ⟨by decide, fun p H2 s2 np e2 => kk p H2 s2 np (by rw [← e]; exact e2)⟩
        | pick w' rs =>
          obtain ⟨p, x1, x2, x3, rfl, hp, r1, r2, r3⟩ := rep_t3.mp (show Rep H (.tup _) u from rx)
          rw [rep_str] at r1
          subst r1
          have e : nm = nm' := by injection ak
          obtain ⟨b', k1, rfl⟩ := fin rfl hp (by decide +kernel) e
          refine ⟨false, k1, ?_⟩
          rw [if_neg (by decide)]
          simp_all only []
          exact ⟨by decide, fun p H2 s2 np e2 => kk p H2 s2 np (by rw [← e]; exact e2)⟩
        | thr pool t b rs =>
          obtain ⟨p, x1, x2, x3, x4, rfl, hp, r1, r2, r3, r4⟩ := rep_t4.mp (show Rep H (.tup _) u from rx)
          rw [rep_str] at r1
          subst r1
          have e : nm = nm' := by injection ak
          obtain ⟨b', k1, rfl⟩ := fin rfl hp (by decide +kernel) e
          refine ⟨false, k1, ?_⟩
          rw [if_neg (by decide)]
          simp_all only []
          exact ⟨by decide, fun p H2 s2 np e2 => kk p H2 s2 np (by rw [← e]; exact e2)⟩
      · rw [askd, lk] at ak
        cases ak
theorem sc_Course_holds : FnScope ["self", "when", "counts", "number"] ["self", "when", "counts"] (defScope (inClass (top 43) 9)) := ⟨rfl, rfl, rfl, by decide +kernel, rfl, by decide +kernel, by decide +kernel⟩
theorem ok_hol (T : Txt K mg q_LuckError q_NoShare q_NoTable q_NoPool q_NoEnd q_TooMany q_NoGame q_NoWay q_NoRule q_NoStep q_NoPlay q_NoRow q_Course q_Finder) : MtCal P w K mg base (CX1 P w) 1 q_Course "holds" ["self", "when", "counts"] (spHol q_Course) := by
  refine T.dm_Course_holds.cal (fun _ _ _ _ _ _ us hl => match us, hl with | [_, _, _], _ => rfl) fun f fd F => F.okC sc_Course_holds (fun vs H Q E h => ?_) (fun cdv A outer s H vs Q E hr h => ?_)
  · obtain ⟨_, _, _, _, _, _, rfl, _⟩ := h; rfl
  · obtain ⟨c, v, l, g, ns, wh', rfl, co, rv, hl, ln, kk⟩ := h
    have nd := sc_Course_holds.nd
    refine ⟨_, (pss_cons (ps_if (pt_cmpR op_isN (pv 1) pe_non (nomark _)) (pss_one (ps_ret pe_bl))
      pss_nil)
    (pss_cons (ps_if (pt_cmp (pc_dnotin (hu_of hr) (pe_ix ix_tupH (pv 1) pe_int (fun _ _ => rfl)) (pe_fld (pv 0) rfl))) (pss_one (ps_ret pe_bl))
      pss_nil)
    (pss_cons (ps_set (i := 3) nd rfl (Or.inl rfl) (pe_ix ix_listH (pv 2) (pe_dget (hu_of hr) (pe_fld (pv 0) rfl) (pe_ix ix_tupH (pv 1) pe_int (fun _ _ => rfl)) (fun _ _ => rfl)) (fun _ _ => rfl)))
    (pss_one (ps_ret (pe_ifExp (pt_cmpR op_eq (pe_ix ix_tupH (pv 1) pe_int (fun _ _ => rfl)) pe_str (nomark _)) (pe_cmpR op_ge (pv 3) (pe_ix ix_tupH (pv 1) pe_int (fun _ _ => rfl)) (nomark _)) (pe_cmpR op_lt (pv 3) (pe_ix ix_tupH (pv 1) pe_int (fun _ _ => rfl)) (nomark _)))))))), ?_⟩
    obtain ⟨dx, sp, mo, wh, tb, us, ft, h1, h2, h3, h4, h5, h6⟩ := id co
    cases wh' with
    | none =>
      have e : v = .non := by rw [whD, Rep] at rv; exact rv
      subst e
      simp_all only []
      exact kk
    | some x =>
      obtain ⟨a, b, k⟩ := x
      obtain ⟨p, x1, x2, x3, rfl, hp, r1, r2, r3⟩ := rep_t3.mp (show Rep H (.tup _) v from rv)
      rw [rep_str] at r1 r2
      rw [rep_int] at r3
      subst r1 r2 r3
      simp_all only [tFld, hp]
      rw [if_neg (by intro z; cases z)]
      by_cases hn : a ∈ g.cs.map (·.1)
      · have hs := spot_lt hn
        refine ⟨_, _, _, h1, T.cl_Course, T.na_Course_spots, _, lk_sp, _, rfl, _, sp_get h2 hn, ?_⟩
        rw [if_neg (by simp)]
        refine ⟨_, _, _, h1, T.cl_Course, T.na_Course_spots, _, lk_sp, _, rfl, _, sp_get h2 hn, _, _, rfl, hl, _, at_ints (by omega), ?_⟩
        have kk : Q (.bl (if a ∈ g.cs.map (·.1) then (if b = Str.ofString "from" then decide (k ≤ ns.getD (spot g.cs a) 0) else decide (ns.getD (spot g.cs a) 0 < k)) else false)) H := kk
        rw [if_pos hn] at kk
        by_cases c1 : b = Str.ofString "from"
        · rw [if_pos c1] at kk ⊢
          exact ⟨_, rfl, kk⟩
        · rw [if_neg c1] at kk ⊢
          exact ⟨_, rfl, kk⟩
      · refine ⟨_, _, _, h1, T.cl_Course, T.na_Course_spots, _, lk_sp, _, rfl, _, .inl ⟨_, Sum.inr a, .inl h2, rfl, rfl⟩, ?_⟩
        rw [spK_none hn, if_pos (by rfl)]
        have kk : Q (.bl (if a ∈ g.cs.map (·.1) then (if b = Str.ofString "from" then decide (k ≤ ns.getD (spot g.cs a) 0) else decide (ns.getD (spot g.cs a) 0 < k)) else false)) H := kk
        rw [if_neg hn] at kk
        exact kk
theorem sc_Course_start : FnScope ["self"] ["self"] (defScope (inClass (top 43) 4)) := ⟨rfl, rfl, rfl, by decide +kernel, rfl, by decide +kernel, by decide +kernel⟩
theorem ok_sta (T : Txt K mg q_LuckError q_NoShare q_NoTable q_NoPool q_NoEnd q_TooMany q_NoGame q_NoWay q_NoRule q_NoStep q_NoPlay q_NoRow q_Course q_Finder) : MtCal P w K mg base (CX1 P w) 2 q_Course "start" ["self"] (spSta q_Course) := by
  have m_Course_asked : MtCal P w K mg base (CX1 P w) 1 q_Course "asked" ["self", "name", "counts"] (spAsk q_Course) := ok_ask T
  refine T.dm_Course_start.cal (fun _ _ _ _ _ _ us hl => match us, hl with | [_], _ => rfl) fun f fd F => F.okC sc_Course_start (fun vs H Q E h => ?_) (fun cdv A outer s H vs Q E hr h => ?_)
  · obtain ⟨_, _, _, _, _, rfl, _⟩ := h; rfl
  · obtain ⟨c, g, fu, ft, nm', rfl, co, gg, hf, ak, kk⟩ := h
    have nd := sc_Course_start.nd
    refine ⟨_, (pss_one (ps_ret (pe_mt m_Course_asked T.cl_Course (pv 0) (hr.mono (by decide)) strictP.pass (pa_cons (pe_fld (pv 0) rfl) (pa_cons (pe_op op_rep (pe_lst (pa_cons pe_int pa_nil (se rfl))) (pe_callB call_lenL (by rfl) T.z_len PySem.boot_len (pa_cons (pe_fld (pv 0) rfl) pa_nil (se rfl)) (he := se rfl) (hpl := na rfl))) pa_nil (se rfl)) (se rfl)) (hst := se rfl) (hpl := na rfl)))), ?_⟩
    have sl := sizeLine_eq
    have lc := gg.lc
    obtain ⟨dx, sp, mo, wh, tb, us, ft', h1, h2, h3, h4, h5, h6⟩ := id co
    rw [h6] at hf
    cases hf
    have lp : ∀ {a b c d e : V}, List.lookup (Str.ofString "asked") [(Str.ofString "spots", a), (Str.ofString "mosts", b), (Str.ofString "first", c), (Str.ofString "whats", d), (Str.ofString "tables", e)] = none := lk_no (by decide +kernel) (by decide +kernel) (by decide +kernel) (by decide +kernel) (by decide +kernel)
    simp_all only [tFld, tMeth, spAsk, rRep]
    refine ⟨_, _, h1, lp, _, _, _, h1, T.cl_Course, T.na_Course_first, _, lk_fi, by decide, fun p np => ?_⟩
    have sp' := same_upd (o := .lst [V.int 0]) np
    refine ⟨_, _, _, sp' _ _ h1, T.cl_Course, T.na_Course_mosts, _, lk_mo, _, rfl, _, sp' _ _ h3, _, upd_same, by simp only [List.length_map]; omega, by simp only [List.length_map]; omega, by simp only [List.length_map, List.length_cons, List.length_nil]; omega, fun l nl => ?_⟩
    have el : (List.replicate (((List.map V.int (List.map (fun x => x.snd) g.cs)).length : Nat) : Int).toNat [V.int 0]).flatten = List.map V.int (List.replicate g.cs.length 0) := by rw [flat_rep, Int.toNat_natCast, List.length_map, List.length_map]
    rw [el]
    have sl' := sp'.trans (same_upd (o := .lst (List.map V.int (List.replicate g.cs.length 0))) nl)
    exact ⟨_, rfl, g, co.mono sl', gg, _, upd_same, by simp, fu, nm', ak, fun a H' s' na e' => kk a l H' (sl'.trans s') (none_of sl' na) (none_of sp' nl) e' (s' _ _ upd_same)⟩
theorem sc_Course_what_at : FnScope ["self", "state"] ["self", "state"] (defScope (inClass (top 43) 5)) := ⟨rfl, rfl, rfl, by decide +kernel, rfl, by decide +kernel, by decide +kernel⟩
theorem ok_wat (T : Txt K mg q_LuckError q_NoShare q_NoTable q_NoPool q_NoEnd q_TooMany q_NoGame q_NoWay q_NoRule q_NoStep q_NoPlay q_NoRow q_Course q_Finder) : MtCal P w K mg base (CX1 P w) 1 q_Course "what_at" ["self", "state"] (spWat q_Course) := by
  refine T.dm_Course_what_at.cal (fun _ _ _ _ _ _ us hl => match us, hl with | [_, _], _ => rfl) fun f fd F => F.okC sc_Course_what_at (fun vs H Q E h => ?_) (fun cdv A outer s H vs Q E hr h => ?_)
  · obtain ⟨_, _, _, _, _, _, _, rfl, _⟩ := h; rfl
  · obtain ⟨c, v, H0, g, nm, ns, x, rfl, s0, co, ⟨a, l, rfl, ha, hl⟩, lk, kk⟩ := h
    have nd := sc_Course_what_at.nd
    refine ⟨_, (pss_one (ps_ret (pe_dget (hu_of hr) (pe_fld (pv 0) rfl) (pe_ix ix_tupH (pv 1) pe_int (fun _ _ => rfl)) (fun _ _ => rfl)))), ?_⟩
    obtain ⟨dx, sp, mo, wh, tb, us, ft', h1, h2, h3, h4, h5, h6⟩ := id co
    simp_all only [tFld, ha]
    rcases h5.val (n := nm) with ⟨x', u, lk', vl, rx⟩ | ⟨lk', vl⟩
    · rw [lk] at lk'
      cases lk'
      exact ⟨_, _, _, s0 _ _ h1, T.cl_Course, T.na_Course_whats, _, lk_wh, _, rfl, _, .inl ⟨_, Sum.inr nm, .inl (s0 _ _ h4), rfl, vl.symm⟩, kk u rx⟩
    · rw [lk] at lk'
      cases lk'
theorem sc_Course_by_row : FnScope ["self", "state", "row", "value", "counts", "deed"] ["self", "state", "row", "value"] (defScope (inClass (top 43) 6)) := ⟨rfl, rfl, rfl, by decide +kernel, rfl, by decide +kernel, by decide +kernel⟩
theorem ok_byr (T : Txt K mg q_LuckError q_NoShare q_NoTable q_NoPool q_NoEnd q_TooMany q_NoGame q_NoWay q_NoRule q_NoStep q_NoPlay q_NoRow q_Course q_Finder) : MtCal P w K mg base (CX1 P w) 3 q_Course "by_row" ["self", "state", "row", "value"] (spByR q_Course) := by
  have m_Course_do : MtCal P w K mg base (CX1 P w) 2 q_Course "do" ["self", "counts", "deed", "value"] (spDo q_Course) := ok_do T
  have m_Course_asked : MtCal P w K mg base (CX1 P w) 1 q_Course "asked" ["self", "name", "counts"] (spAsk q_Course) := ok_ask T
  refine T.dm_Course_by_row.cal (fun _ _ _ _ _ _ us hl => match us, hl with | [_, _, _, _], _ => rfl) fun f fd F => F.okC sc_Course_by_row (fun vs H Q E h => ?_) (fun cdv A outer s H vs Q E hr h => ?_)
  · obtain ⟨_, _, _, _, _, _, _, _, _, _, _, _, _, rfl, _⟩ := h; rfl
  · obtain ⟨c, sv, rv, v, g, nm, ns, a, b, ds, to, fu, nm', rfl, co, gg, ⟨sa, l, rfl, hsa, hl⟩, rr, gd, ld, ln, ak, kk⟩ := h
    have nd := sc_Course_by_row.nd
    refine ⟨_, (pss_cons (ps_set (i := 4) nd rfl (Or.inl rfl) (pe_callTy (call_list_ofK (K := K)) (by rfl) T.z_list rfl (pa_cons (pe_ix ix_tupH (pv 1) pe_int (fun _ _ => rfl)) pa_nil (se rfl)) (he := se rfl) (hpl := na rfl)))
    (pss_cons (ps_for PassesOwn.never rfl (pi_listK (K := K) (pe_ix ix_tupH (pv 2) pe_int (fun _ _ => rfl))) (pg_name (i := 5) nd rfl (Or.inl rfl)) (pss_one (ps_expr (pe_mt m_Course_do T.cl_Course (pv 0) (hr.mono (by decide)) strictP.pass (pa_cons (pv 4) (pa_cons (pv 5) (pa_cons (pv 3) pa_nil (se rfl)) (se rfl)) (se rfl)) (hst := se rfl) (hpl := na rfl)))))
    (pss_one (ps_ret (pe_mt m_Course_asked T.cl_Course (pv 0) (hr.mono (by decide)) strictP.pass (pa_cons (pe_ix ix_tupH (pv 2) pe_int (fun _ _ => rfl)) (pa_cons (pv 4) pa_nil (se rfl)) (se rfl)) (hst := se rfl) (hpl := na rfl)))))), ?_⟩
    have sl := sizeLine_eq
    have lc := gg.lc
    obtain ⟨dx, sp, mo, wh, tb, us, ft', h1, h2, h3, h4, h5, h6⟩ := id co
    obtain ⟨rp, x1, x2, x3, x4, rfl, hrp, r1, r2, r3, r4⟩ := rep_t4.mp (show Rep H (.tup _) rv from rr)
    rw [rep_str] at r4
    subst r4
    obtain ⟨dl, dvs, rfl, hdl, rdl⟩ := rep_lst.mp r3
    have lp : ∀ {a b c d e : V}, List.lookup (Str.ofString "asked") [(Str.ofString "spots", a), (Str.ofString "mosts", b), (Str.ofString "first", c), (Str.ofString "whats", d), (Str.ofString "tables", e)] = none := lk_no (by decide +kernel) (by decide +kernel) (by decide +kernel) (by decide +kernel) (by decide +kernel)
    have lp2 : ∀ {a b c d e : V}, List.lookup (Str.ofString "do") [(Str.ofString "spots", a), (Str.ofString "mosts", b), (Str.ofString "first", c), (Str.ofString "whats", d), (Str.ofString "tables", e)] = none := lk_no (by decide +kernel) (by decide +kernel) (by decide +kernel) (by decide +kernel) (by decide +kernel)
    change tSeq _ _ _ [some (.ref c), some (.ref sa), some (.ref rp), some (.int v), none, none] H
    refine seq_gen (fun σ' H1 => ∃ m, H m = none ∧ Same H H1 ∧ hid H1 m = H ∧ H1 m = some (.lst (List.map V.int ns)) ∧ σ' = [some (.ref c), some (.ref sa), some (.ref rp), some (.int v), some (.ref m), none]) ?_ (fun N hN => ?_)
    case refine_2 =>
      simp_all only [hsa]
      exact ⟨_, .inl (SqL.of hl), fun m nm => hN _ _ ⟨m, nm, same_upd nm, by rw [hid_hid', hid_none nm], upd_same, rfl⟩⟩
    rintro _ H1 ⟨m, nm0, s1, hh, hm, rfl⟩
    have dlen := rdl.length
    rw [List.length_map] at dlen
    change tSeq _ _ _ [some (.ref c), some (.ref sa), some (.ref rp), some (.int v), some (.ref m), none] H1
    refine seq_gen (fun σ' H2 => hid H2 m = H ∧ H2 m = some (.lst (List.map V.int (ds.foldl (doD g.cs v) ns))) ∧ ∃ z, σ' = [some (.ref c), some (.ref sa), some (.ref rp), some (.int v), some (.ref m), z]) ?_ (fun N hN => ?_)
    case refine_2 =>
      simp_all only [s1 _ _ hrp]
      refine ⟨⟨_, SqL.of (s1 _ _ hdl)⟩, for_src (src_list (Ok := fun H' => hid H' m = H) (fun H' e => SqL.of (hid_same e _ _ hdl))) (fun i σ H' => hid H' m = H ∧ H' m = some (.lst (List.map V.int ((ds.take i).foldl (doD g.cs v) ns))) ∧ ∃ z, σ = [some (.ref c), some (.ref sa), some (.ref rp), some (.int v), some (.ref m), z]) ⟨hh, by rw [List.take_zero]; exact hm, _, rfl⟩ (fun _ _ _ _ h => h.1) ?_ ?_⟩
      · rintro i x σ H3 H2 hi ⟨e2, hm2, z, rfl⟩ ⟨rfl, ex⟩
        obtain ⟨dd, ed, rd⟩ := rdl.get ex
        rw [List.getElem?_map] at ed
        obtain ⟨d, e0, rfl⟩ := Option.map_eq_some_iff.mp ed
        have s2 := hid_same e2
        simp_all only [tMeth, spDo]
        refine ⟨_, _, s2 _ _ h1, lp2, g, by rw [e2]; exact co, _, hm2, d, by rw [e2]; exact rd, gd d (List.mem_of_getElem? e0), by rw [foldD_len]; exact ln, by rw [hid_hid']; exact e2, ?_, _, rfl⟩
        rw [upd_same, List.take_add_one, e0, Option.toList_some, List.foldl_append]
        rfl
      · rintro σ H2 ⟨e2, hm2, z, rfl⟩
        rw [← dlen, List.take_of_length_le (Nat.le_refl _)] at hm2
        exact hN _ _ ⟨e2, hm2, _, rfl⟩
    rintro _ H2 ⟨e2, hm2, z, rfl⟩
    have s2 := hid_same e2
    have lns : (ds.foldl (doD g.cs v) ns).length = g.cs.length := by rw [foldD_len]; exact ln
    simp_all only [tMeth, spAsk, s2 _ _ hrp]
    exact ⟨_, _, s2 _ _ h1, lp, _, rfl, _, rfl, g, co.mono s2, gg, _, hm2, lns, fu, nm', ak, fun a H' s' na e' => kk a m H' (s2.trans s') (none_of s2 na) nm0 e' (s' _ _ hm2)⟩
theorem sc_Course_open_rows : FnScope ["self", "state", "what"] ["self", "state"] (defScope (inClass (top 43) 10)) := ⟨rfl, rfl, rfl, by decide +kernel, rfl, by decide +kernel, by decide +kernel⟩
theorem ok_opn (T : Txt K mg q_LuckError q_NoShare q_NoTable q_NoPool q_NoEnd q_TooMany q_NoGame q_NoWay q_NoRule q_NoStep q_NoPlay q_NoRow q_Course q_Finder) : MtCal P w K mg base (CX1 P w) 2 q_Course "open_rows" ["self", "state"] (spOpn q_Course) := by
  have m_Course_what_at : MtCal P w K mg base (CX1 P w) 1 q_Course "what_at" ["self", "state"] (spWat q_Course) := ok_wat T
  have m_Course_holds : MtCal P w K mg base (CX1 P w) 1 q_Course "holds" ["self", "when", "counts"] (spHol q_Course) := ok_hol T
  refine T.dm_Course_open_rows.cal (fun _ _ _ _ _ _ us hl => match us, hl with | [_, _], _ => rfl) fun f fd F => F.okC sc_Course_open_rows (fun vs H Q E h => ?_) (fun cdv A outer s H vs Q E hr h => ?_)
  · obtain ⟨_, _, _, _, _, _, _, rfl, _⟩ := h; rfl
  · obtain ⟨c, v, H0, g, nm, ns, x, rfl, s0, co0, gg, st, ln, lk, kk⟩ := h
    have co := co0.mono s0
    have nd := sc_Course_open_rows.nd
    refine ⟨_, (pss_cons (ps_set (i := 2) nd rfl (Or.inl rfl) (pe_mt m_Course_what_at T.cl_Course (pv 0) (hr.mono (by decide)) strictP.pass (pa_cons (pv 1) pa_nil (se rfl)) (hst := se rfl) (hpl := na rfl)))
    (pss_cons (ps_if (pt_cmpR op_ne (pe_ix ix_tupH (pv 2) pe_int (fun _ _ => rfl)) pe_str (nomark _)) (pss_one (ps_ret (pe_lst pa_nil)))
      pss_nil)
    (pss_one (ps_ret (pe_comp rfl (N := ["self", "state", "what"]) (so := defScope (inClass (top 43) 10)) (N' := ["row", "self", "state"]) (k := 1) (fr := [0, 1]) rfl rfl ⟨rfl, by decide +kernel, by decide +kernel, by decide +kernel, rfl, by decide +kernel, by decide +kernel⟩ (pi_listK (K := K) (pe_ix ix_tupH (pv 2) pe_int (fun _ _ => rfl))) (fun _ _ _ _ _ => (pg_name (i := 0) (show (["row", "self", "state"] : List Str).Nodup by decide +kernel) rfl (Or.inl rfl))) (fun _ _ _ _ _ => (pts_one (pt_val (pe_mt m_Course_holds T.cl_Course (pv 1) (hr.mono (by decide)) strictP.pass (pa_cons (pe_ix ix_tupH (pv 0) pe_int (fun _ _ => rfl)) (pa_cons (pe_ix ix_tupH (pv 2) pe_int (fun _ _ => rfl)) pa_nil (se rfl)) (se rfl)) (hst := se rfl) (hpl := na rfl)))))
      (fun _ _ _ _ _ => (pv 0))))))), ?_⟩
    have sl := sizeLine_eq
    obtain ⟨dx, sp, mo, wh, tb, us, ft', h1, h2, h3, h4, h5, h6⟩ := id co
    obtain ⟨sa, l, rfl, hsa, hl⟩ := id st
    have lp : ∀ {a b c d e : V}, List.lookup (Str.ofString "what_at") [(Str.ofString "spots", a), (Str.ofString "mosts", b), (Str.ofString "first", c), (Str.ofString "whats", d), (Str.ofString "tables", e)] = none := lk_no (by decide +kernel) (by decide +kernel) (by decide +kernel) (by decide +kernel) (by decide +kernel)
    have lp2 : ∀ {a b c d e : V}, List.lookup (Str.ofString "holds") [(Str.ofString "spots", a), (Str.ofString "mosts", b), (Str.ofString "first", c), (Str.ofString "whats", d), (Str.ofString "tables", e)] = none := lk_no (by decide +kernel) (by decide +kernel) (by decide +kernel) (by decide +kernel) (by decide +kernel)
    have gx := gg.wt _ (look_mem lk)
    change tSeq _ _ _ [some (.ref c), some (.ref sa), none] H
    refine seq_gen (fun σ' H1 => H = H1 ∧ ∃ u, Rep H0 (wtD x) u ∧ σ' = [some (.ref c), some (.ref sa), some u]) ?_ (fun N hN => ?_)
    case refine_2 =>
      simp_all only [tMeth, spWat]
      exact ⟨_, _, h1, lp, H0, s0, g, co0, nm, ns, st, x, lk, fun u ru => hN _ _ ⟨rfl, u, ru, rfl⟩⟩
    rintro _ _ ⟨rfl, u, ru, rfl⟩
    cases x with
    | pick w' rs =>
      obtain ⟨p, x1, x2, x3, rfl, hp, r1, r2, r3⟩ := rep_t3.mp (show Rep H0 (.tup _) u from ru)
      rw [rep_str] at r1
      subst r1
      obtain ⟨rl, xs, rfl, hrl, rxs⟩ := rep_lst.mp r3
      have len := rxs.length
      rw [List.length_map, List.length_map] at len
      obtain ⟨g1, g2⟩ := gx
      have zl : (xs.zip rs).length = xs.length := by rw [List.length_zip]; omega
      simp_all only [s0 _ _ hp]
      refine ⟨⟨_, SqL.of (s0 _ _ hrl)⟩, ?_⟩
      have S : Src (Itl K rl) (Same H) xs.length _ := src_list (fun H' s' => SqL.of (s' _ _ (s0 _ _ hrl)))
      rw [← zl] at S
      refine comp_vals (xs.zip rs) (fun x => if holdsW g.cs ns x.2.wh = true then some x.1 else none) S (fun _ _ _ _ h => h.1) (by omega) ?_ ?_
      · rintro i ⟨x, r⟩ y exr ⟨_, ey⟩ Y N y1 y2
        obtain ⟨e1, e2⟩ := List.getElem?_zip_eq_some.mp exr
        rw [e1] at ey
        cases ey
        obtain ⟨r', p', a', b', c', d', er, rfl, hp', rb, _⟩ := rw4_get rxs e1
        rw [e2] at er
        cases er
        simp_all only [tMeth, spHol, s0 _ _ hp', hsa]
        exact ⟨_, _, h1, lp2, g, co, ns, _, rb.mono s0, hl, ln, ite2 (fun c => y1 _ (if_pos c)) (fun c => y2 (if_neg c))⟩
      · intro D n1 n2
        exact kk D _ _ (same_upd n2) n2 upd_same (rep_filter rxs)
    | ask _ _ _ _ =>
      obtain ⟨p, x1, x2, x3, x4, x5, rfl, hp, r1, r2, r3, r4, r5⟩ := rep_t5.mp (show Rep H0 (.tup _) u from ru)
      rw [rep_str] at r1
      subst r1
      simp_all only [s0 _ _ hp]
      rw [if_pos (by decide +kernel)]
      exact ⟨Nat.zero_le _, fun D nD => kk D _ _ (same_upd nD) nD upd_same (repL_nil.mpr rfl)⟩
    | fin _ _ =>
      obtain ⟨p, x1, x2, rfl, hp, r1, r2⟩ := rep_t2.mp (show Rep H0 (.tup _) u from ru)
      rw [rep_str] at r1
      subst r1
      simp_all only [s0 _ _ hp]
      rw [if_pos (by decide +kernel)]
      exact ⟨Nat.zero_le _, fun D nD => kk D _ _ (same_upd nD) nD upd_same (repL_nil.mpr rfl)⟩
    | score _ =>
      obtain ⟨p, x1, x2, rfl, hp, r1, r2⟩ := rep_t2.mp (show Rep H0 (.tup _) u from ru)
      rw [rep_str] at r1
      subst r1
      simp_all only [s0 _ _ hp]
      rw [if_pos (by decide +kernel)]
      exact ⟨Nat.zero_le _, fun D nD => kk D _ _ (same_upd nD) nD upd_same (repL_nil.mpr rfl)⟩
    | thr _ _ _ _ =>
      obtain ⟨p, x1, x2, x3, x4, rfl, hp, r1, r2, r3, r4⟩ := rep_t4.mp (show Rep H0 (.tup _) u from ru)
      rw [rep_str] at r1
      subst r1
      simp_all only [s0 _ _ hp]
      rw [if_pos (by decide +kernel)]
      exact ⟨Nat.zero_le _, fun D nD => kk D _ _ (same_upd nD) nD upd_same (repL_nil.mpr rfl)⟩
theorem sc_Course_words_at : FnScope ["self", "state"] ["self", "state"] (defScope (inClass (top 43) 11)) := ⟨rfl, rfl, rfl, by decide +kernel, rfl, by decide +kernel, by decide +kernel⟩
theorem ok_wds (T : Txt K mg q_LuckError q_NoShare q_NoTable q_NoPool q_NoEnd q_TooMany q_NoGame q_NoWay q_NoRule q_NoStep q_NoPlay q_NoRow q_Course q_Finder) : MtCal P w K mg base (CX1 P w) 3 q_Course "words_at" ["self", "state"] (spWds q_Course) := by
  have m_Course_open_rows : MtCal P w K mg base (CX1 P w) 2 q_Course "open_rows" ["self", "state"] (spOpn q_Course) := ok_opn T
  refine T.dm_Course_words_at.cal (fun _ _ _ _ _ _ us hl => match us, hl with | [_, _], _ => rfl) fun f fd F => F.okC sc_Course_words_at (fun vs H Q E h => ?_) (fun cdv A outer s H vs Q E hr h => ?_)
  · obtain ⟨_, _, _, _, _, _, rfl, _⟩ := h; rfl
  · obtain ⟨c, v, g, nm, ns, x, rfl, co, gg, st, ln, lk, kk⟩ := h
    have nd := sc_Course_words_at.nd
    refine ⟨_, (pss_one (ps_ret (pe_comp rfl (N := ["self", "state"]) (so := defScope (inClass (top 43) 11)) (N' := ["row"]) (k := 1) (fr := []) rfl rfl ⟨rfl, by decide +kernel, by decide +kernel, by decide +kernel, rfl, by decide +kernel, by decide +kernel⟩ (pi_listK (K := K) (pe_mt m_Course_open_rows T.cl_Course (pv 0) (hr.mono (by decide)) strictP.pass (pa_cons (pv 1) pa_nil (se rfl)) (hst := se rfl) (hpl := na rfl))) (fun _ _ _ _ _ => (pg_name (i := 0) (show (["row"] : List Str).Nodup by decide +kernel) rfl (Or.inl rfl))) (fun _ _ _ _ _ => pts_nil)
      (fun _ _ _ _ _ => (pe_ix ix_tupH (pv 0) pe_int (fun _ _ => rfl)))))), ?_⟩
    have sl := sizeLine_eq
    obtain ⟨dx, sp, mo, wh, tb, us, ft', h1, h2, h3, h4, h5, h6⟩ := id co
    have lp : ∀ {a b c d e : V}, List.lookup (Str.ofString "open_rows") [(Str.ofString "spots", a), (Str.ofString "mosts", b), (Str.ofString "first", c), (Str.ofString "whats", d), (Str.ofString "tables", e)] = none := lk_no (by decide +kernel) (by decide +kernel) (by decide +kernel) (by decide +kernel) (by decide +kernel)
    have gx := gg.wt _ (look_mem lk)
    have few : (openR g.cs ns x).length ≤ 100 := by
      cases x with
      | pick w' rs => exact Nat.le_trans (List.length_filter_le _ _) gx.1
      | _ => exact Nat.zero_le _
    simp_all only [tMeth, spOpn]
    refine ⟨_, _, h1, lp, H, Same.refl _, g, co, gg, nm, ns, st, ln, x, lk, fun rl xs H1 s1 n1 hrl rxs0 => ?_⟩
    generalize openR g.cs ns x = rs at *
    have rxs := rxs0.mono s1
    have len := rxs.length
    rw [List.length_map, List.length_map] at len
    have zl : (xs.zip rs).length = xs.length := by rw [List.length_zip]; omega
    refine ⟨⟨_, SqL.of hrl⟩, ?_⟩
    have S : Src (Itl K rl) (Same H1) xs.length _ := src_list (fun H' s' => SqL.of (s' _ _ hrl))
    rw [← zl] at S
    refine comp_vals (xs.zip rs) (fun x => some (.str x.2.word)) S (fun _ _ _ _ h => h.1) (by omega) ?_ ?_
    · rintro i ⟨x, r⟩ y exr ⟨_, ey⟩ Y N y1 y2
      obtain ⟨e1, e2⟩ := List.getElem?_zip_eq_some.mp exr
      rw [e1] at ey
      cases ey
      obtain ⟨r', p', a', b', c', d', er, rfl, hp', rb, _⟩ := rw4_get rxs e1
      rw [e2] at er
      cases er
      simp_all only [tYes, hp']
      exact y1 _ rfl
    · intro D n1' n2
      have e : (xs.zip rs).filterMap (fun x => some (V.str x.2.word)) = rs.map fun r => V.str r.word := by
        rw [fm_some]
        have : (xs.zip rs).map (fun x => V.str x.2.word) = ((xs.zip rs).map Prod.snd).map fun r => V.str r.word := by rw [List.map_map]; rfl
        rw [this, List.map_snd_zip (by omega)]
      rw [e]
      exact kk D _ (s1.trans (same_upd n2)) (none_of s1 n2) (rep_lst.mpr ⟨D, _, rfl, upd_same, (rep_words rxs).mono (same_upd n2)⟩)
theorem sc_Course_end_worth : FnScope ["self", "state", "what"] ["self", "state"] (defScope (inClass (top 43) 12)) := ⟨rfl, rfl, rfl, by decide +kernel, rfl, by decide +kernel, by decide +kernel⟩
theorem ok_end (T : Txt K mg q_LuckError q_NoShare q_NoTable q_NoPool q_NoEnd q_TooMany q_NoGame q_NoWay q_NoRule q_NoStep q_NoPlay q_NoRow q_Course q_Finder) : MtCal P w K mg base (CX1 P w) 2 q_Course "end_worth" ["self", "state"] (spEnd q_Course) := by
  have m_Course_what_at : MtCal P w K mg base (CX1 P w) 1 q_Course "what_at" ["self", "state"] (spWat q_Course) := ok_wat T
  refine T.dm_Course_end_worth.cal (fun _ _ _ _ _ _ us hl => match us, hl with | [_, _], _ => rfl) fun f fd F => F.okC sc_Course_end_worth (fun vs H Q E h => ?_) (fun cdv A outer s H vs Q E hr h => ?_)
  · obtain ⟨_, _, _, _, _, _, _, _, rfl, _⟩ := h; rfl
  · obtain ⟨c, v, g, nm, ns, x, t, b, rfl, co, gg, st, ln, lk, ew, kk⟩ := h
    have nd := sc_Course_end_worth.nd
    refine ⟨_, (pss_cons (ps_set (i := 2) nd rfl (Or.inl rfl) (pe_mt m_Course_what_at T.cl_Course (pv 0) (hr.mono (by decide)) strictP.pass (pa_cons (pv 1) pa_nil (se rfl)) (hst := se rfl) (hpl := na rfl)))
    (pss_one (ps_ret (pe_ifExp (pt_cmpR op_eq (pe_ix ix_tupH (pv 2) pe_int (fun _ _ => rfl)) pe_str (nomark _)) (pe_ix ix_tupH (pv 2) pe_int (fun _ _ => rfl)) (pe_tupS (pa_cons (pe_ix ix_listH (pe_ix ix_tupH (pv 1) pe_int (fun _ _ => rfl)) (pe_dget (hu_of hr) (pe_fld (pv 0) rfl) (pe_ix ix_tupH (pv 2) pe_int (fun _ _ => rfl)) (fun _ _ => rfl)) (fun _ _ => rfl)) (pa_cons pe_int pa_nil (se rfl)) (se rfl))))))), ?_⟩
    have sl := sizeLine_eq
    obtain ⟨dx, sp, mo, wh, tb, us, ft', h1, h2, h3, h4, h5, h6⟩ := id co
    obtain ⟨sa, l, rfl, hsa, hl⟩ := id st
    have lp : ∀ {a b c d e : V}, List.lookup (Str.ofString "what_at") [(Str.ofString "spots", a), (Str.ofString "mosts", b), (Str.ofString "first", c), (Str.ofString "whats", d), (Str.ofString "tables", e)] = none := lk_no (by decide +kernel) (by decide +kernel) (by decide +kernel) (by decide +kernel) (by decide +kernel)
    have gx := gg.wt _ (look_mem lk)
    change tSeq _ _ _ [some (.ref c), some (.ref sa), none] H
    refine seq_gen (fun σ' H1 => H = H1 ∧ ∃ u, Rep H (wtD x) u ∧ σ' = [some (.ref c), some (.ref sa), some u]) ?_ (fun N hN => ?_)
    case refine_2 =>
      simp_all only [tMeth, spWat]
      exact ⟨_, _, h1, lp, H, Same.refl _, g, co, nm, ns, st, x, lk, fun u ru => hN _ _ ⟨rfl, u, ru, rfl⟩⟩
    rintro _ _ ⟨rfl, u, ru, rfl⟩
    cases x with
    | fin t' b' =>
      obtain ⟨p, x1, x2, rfl, hp, r1, r2⟩ := rep_t2.mp (show Rep H (.tup _) u from ru)
      rw [rep_str] at r1
      subst r1
      cases ew
      simp_all only [tFld, hp]
      exact kk _ _ (Same.refl _) r2
    | score c' =>
      obtain ⟨p, x1, x2, rfl, hp, r1, r2⟩ := rep_t2.mp (show Rep H (.tup _) u from ru)
      rw [rep_str] at r1 r2
      subst r1 r2
      cases ew
      have hs := spot_lt (cs := g.cs) gx
      simp_all only [tFld, hp, hsa]
      rw [if_neg (by decide +kernel)]
      refine ⟨_, _, _, h1, T.cl_Course, T.na_Course_spots, _, lk_sp, _, rfl, _, sp_get h2 gx, _, _, rfl, hl, _, at_ints (by omega), by decide, fun p' H2 s2 np e2 => kk _ _ s2 (rep_t2.mpr ⟨p', _, _, rfl, e2, rep_int.mpr rfl, rep_int.mpr rfl⟩)⟩
    | ask _ _ _ _ => cases ew
    | pick _ _ => cases ew
    | thr _ _ _ _ => cases ew
theorem sc_Finder___init__ : FnScope ["self"] ["self"] (defScope (inClass (top 44) 0)) := ⟨rfl, rfl, rfl, by decide +kernel, rfl, by decide +kernel, by decide +kernel⟩
theorem ok_fi (T : Txt K mg q_LuckError q_NoShare q_NoTable q_NoPool q_NoEnd q_TooMany q_NoGame q_NoWay q_NoRule q_NoStep q_NoPlay q_NoRow q_Course q_Finder) : MkCal P w K mg base (CX1 P w) 1 "Finder" q_Finder ["self"] (spFi P w q_Finder) := by
  refine T.di_Finder.cal (fun _ _ _ _ _ _ us hl => match us, hl with | [_], _ => rfl) fun f fd F => F.okC sc_Finder___init__ (fun vs H Q E h => ?_) (fun cdv A outer s H vs Q E hr h => ?_)
  · obtain ⟨_, _, rfl, _⟩ := h; rfl
  · obtain ⟨x, dx, rfl, hx, kk⟩ := h
    have nd := sc_Finder___init__.nd
    refine ⟨_, (pss_cons (ps_fld (pv 0) (pe_lst pa_nil) rfl)
    (pss_one (ps_fld (pv 0) (pe_dnewN (P := P) (w := w)) rfl))), ?_⟩
    have sl := sizeLine_eq
    simp_all only [sFld, tDNewN]
    refine ⟨Nat.zero_le _, fun l nl => ?_⟩
    have lx : x ≠ l := fun z => by rw [← z, hx] at nl; cases nl
    have hx1 : upd H l (.lst []) x = some (.ins q_Finder dx []) := by rw [upd_ne lx]; exact hx
    refine ⟨_, _, _, hx1, T.cl_Finder, T.na_Finder_states, by decide, fun n nn => ?_⟩
    have e1 : putF (Str.ofString "states") (V.ref l) [] = [(Str.ofString "states", V.ref l)] := rfl
    have e2 : putF (Str.ofString "numbers") (V.ref n) [(Str.ofString "states", V.ref l)] = [(Str.ofString "states", V.ref l), (Str.ofString "numbers", V.ref n)] := by
      show (if Str.ofString "states" = Str.ofString "numbers" then _ else _) = _
      rw [if_neg (by decide +kernel)]
      rfl
    rw [e1] at nn ⊢
    have xn : n ≠ x := fun z => by rw [z, upd_same] at nn; cases nn
    rw [upd_ne xn] at nn
    have nl' : n ≠ l := fun z => by rw [z, upd_same] at nn; cases nn
    rw [upd_ne nl'] at nn
    refine ⟨_, _, _, by rw [upd_ne (Ne.symm xn), upd_same], T.cl_Finder, T.na_Finder_numbers, by show (1 : Nat) < 1000; decide, ?_⟩
    rw [e2]
    refine kk l n _ nl nn (fun a o ax ha => ?_) fun Fr => ⟨dx, [], [], ?_, Ne.symm nl', ?_, trivial, ?_, (fun p hp => nomatch hp), rfl, Nat.zero_le _⟩
    · have al : a ≠ l := fun z => by rw [z, nl] at ha; cases ha
      have an : a ≠ n := fun z => by rw [z, nn] at ha; cases ha
      rw [hid2_of al an, upd_ne ax, upd_ne an, upd_ne ax, upd_ne al]
      exact ha
    · rw [hid2_of lx (Ne.symm xn), upd_same]
    · rw [upd_ne (Ne.symm lx), upd_ne (Ne.symm nl'), upd_ne (Ne.symm lx), upd_same]
    · rw [upd_ne xn, upd_same]
theorem sc_Finder_number_of : FnScope ["self", "state", "key"] ["self", "state"] (defScope (inClass (top 44) 1)) := ⟨rfl, rfl, rfl, by decide +kernel, rfl, by decide +kernel, by decide +kernel⟩
theorem ok_num (T : Txt K mg q_LuckError q_NoShare q_NoTable q_NoPool q_NoEnd q_TooMany q_NoGame q_NoWay q_NoRule q_NoStep q_NoPlay q_NoRow q_Course q_Finder) : MtCal P w K mg base (CX1 P w) 1 q_Finder "number_of" ["self", "state"] (spNum P w q_Finder) := by
  refine T.dm_Finder_number_of.cal (fun _ _ _ _ _ _ us hl => match us, hl with | [_, _], _ => rfl) fun f fd F => F.okC sc_Finder_number_of (fun vs H Q E h => ?_) (fun cdv A outer s H vs Q E hr h => ?_)
  · obtain ⟨_, _, _, _, _, _, _, rfl, _⟩ := h; rfl
  · obtain ⟨fa, sv, Fr, l, n, ss, st, rfl, ⟨dx, xs, ks, hf, ln, hl, al, hn, an, nk, l120⟩, sth, hs, l100, fit, kk⟩ := h
    have nd := sc_Finder_number_of.nd
    refine ⟨_, (pss_cons (ps_set (i := 2) nd rfl (Or.inl rfl) (pe_tupS (pa_cons (pe_ix ix_tupH (pv 1) pe_int (fun _ _ => rfl)) (pa_cons (pe_callTy (call_tuple_ofK (K := K)) (by rfl) T.z_tuple rfl (pa_cons (pe_ix ix_tupH (pv 1) pe_int (fun _ _ => rfl)) pa_nil (se rfl)) (he := se rfl) (hpl := na rfl)) pa_nil (se rfl)) (se rfl))))
    (pss_cons (ps_if (pt_cmp (pc_nnotin (P := P) (w := w) hr.units (pv 2) (pe_fld (pv 0) rfl))) (pss_cons (ps_if (pt_cmpR op_eq (pe_callB call_lenL (by rfl) T.z_len PySem.boot_len (pa_cons (pe_fld (pv 0) rfl) pa_nil (se rfl)) (he := se rfl) (hpl := na rfl)) (pe_globI rfl T.c_MOST_STATES) (nomark _)) (pss_one ps_never)
      pss_nil)
    (pss_cons (ps_nput (P := P) (w := w) hr.units (pe_fld (pv 0) rfl) (pv 2) (pe_callB call_lenL (by rfl) T.z_len PySem.boot_len (pa_cons (pe_fld (pv 0) rfl) pa_nil (se rfl)) (he := se rfl) (hpl := na rfl)) rfl)
    (pss_one (ps_expr (pe_bm PySem.F.plainAttrs_list PySem.F.slot_list_append PySem.F.type_list_append mt_append.r (pe_fld (pv 0) rfl) (pa_cons (pv 1) pa_nil (se rfl)))))))
      pss_nil)
    (pss_one (ps_ret (pe_nget (P := P) (w := w) hr.units (pe_fld (pv 0) rfl) (pv 2) (fun _ _ => rfl)))))), ?_⟩
    have sl := sizeLine_eq
    obtain ⟨sa, cl, rfl, hsa, hcl, hfr⟩ := id sth
    have hf' := hid2_sub _ _ hf
    have hsa' := hid2_sub _ _ hsa
    have hcl' := hid2_sub _ _ hcl
    have klen := nk.len
    have xlen := al.length
    change tSeq _ _ _ [some (.ref fa), some (.ref sa), none] H
    refine seq_gen (fun σ' H1 => Same H H1 ∧ ∃ b, KeyN (hid2 H1 l n) (keyD st) b ∧ σ' = [some (.ref fa), some (.ref sa), some (.ref b)]) ?_ (fun N hN => ?_)
    case refine_2 =>
      simp_all only [hsa']
      refine ⟨_, .inl ⟨SqL.of hcl', fun t nt => ⟨by decide, fun p H2 s2 np e2 => hN _ _ ⟨(same_upd nt).trans s2, p, ?_, rfl⟩⟩⟩⟩
      have tl : t ≠ l := fun z => by rw [z, hl] at nt; cases nt
      have tn : t ≠ n := fun z => by rw [z, hn] at nt; cases nt
      have pl : p ≠ l := fun z => by rw [z, same_upd nt _ _ hl] at np; cases np
      have pn : p ≠ n := fun z => by rw [z, same_upd nt _ _ hn] at np; cases np
      exact key_ok hs (by rw [hid2_of pl pn]; exact e2) (by rw [hid2_of tl tn]; exact s2 _ _ upd_same)
    rintro _ H1 ⟨s1, b, kb, rfl⟩
    have lkn := nk.look (s := st)
    rw [Nat.zero_add] at lkn
    have al1 := al.imp fun _ _ k => StF.mono (hid2_mono (l := l) (n := n) s1) k
    have an1 := an.mono (hid2_mono (l := l) (n := n) s1)
    change tSeq _ _ _ [some (.ref fa), some (.ref sa), some (.ref b)] H1
    refine seq_gen (fun σ' H2 => Same (hid2 H l n) (hid2 H2 l n) ∧ FiH P w q_Finder Fr H2 fa l n (addS ss st) ∧ KeyN (hid2 H2 l n) (keyD st) b ∧ σ' = [some (.ref fa), some (.ref sa), some (.ref b)]) ?_ (fun N hN => ?_)
    case refine_2 =>
      have mst := T.c_MOST_STATES
      simp_all only [tFld, tNNotIn, sNPut, rAppend]
      refine ⟨_, _, _, s1 _ _ hf', T.cl_Finder, T.na_Finder_numbers, _, lk_nu, _, ⟨n, b, keyD st, ks, rfl, rfl, s1 _ _ hn, an1.mono hid2_sub, kb.mono hid2_sub, rfl⟩, ?_⟩
      rw [lkn]
      by_cases hm : st ∈ ss
      · rw [if_pos hm, if_neg (by simp)]
        refine hN _ _ ⟨hid2_mono s1, ?_, kb, rfl⟩
        have e : addS ss st = ss := by unfold addS; rw [if_pos hm]
        rw [e]
        exact FiH.mono s1 ⟨dx, xs, ks, hf, ln, hl, al, hn, an, nk, l120⟩
      · have lkn0 : lookN ks (toP (keyD st)) = none := by rw [lkn, if_neg hm]
        have e : addS ss st = ss ++ [st] := by unfold addS; rw [if_neg hm]
        rw [if_neg hm, if_pos (by rfl)]
        have lt := fit.resolve_left hm
        refine ⟨_, _, _, s1 _ _ hf', T.cl_Finder, T.na_Finder_states, _, lk_st, _, rfl, _, s1 _ _ hl, ?_⟩
        rw [if_neg (by omega)]
        refine ⟨_, _, _, s1 _ _ hf', T.cl_Finder, T.na_Finder_states, _, lk_st, _, rfl, _, s1 _ _ hl, ?_⟩
        have hl2 : ∀ o, upd H1 n o l = some (.lst xs) := fun o => by rw [upd_ne ln]; exact s1 _ _ hl
        have ty : ∀ o, tyV K "list" (.ref l) (upd H1 n o) := fun o => .inl ⟨rfl, _, SqL.of (hl2 o)⟩
        refine ⟨_, _, _, s1 _ _ hf', T.cl_Finder, T.na_Finder_numbers, _, lk_nu, _, rfl, keyD st, ks, s1 _ _ hn, an1.mono hid2_sub, kb.mono hid2_sub, lkn0, by omega, _, _, _, by rw [upd_ne (hid2_out hf).2]; exact s1 _ _ hf', T.cl_Finder, T.na_Finder_states, _, lk_st, ty _, _, rfl, _, hl2 _, by omega, hN _ _ ?_⟩
        have eh : hid2 (upd (upd H1 n (dnO P w n (ks ++ [(keyD st, b, ((xs.length : Nat) : Int))]))) l (.lst (xs ++ [V.ref sa]))) l n = hid2 H1 l n := by rw [hid2_updl, hid2_updn ln]
        refine ⟨by rw [eh]; exact hid2_mono s1, ?_, by rw [eh]; exact kb, rfl⟩
        rw [e]
        refine ⟨dx, _, _, by rw [eh]; exact hid2_mono s1 _ _ hf, ln, upd_same, by rw [eh]; exact al1.append (.one (sth.mono (hid2_mono s1))), by rw [upd_ne (Ne.symm ln), upd_same], ?_, ?_, by rw [List.length_append]; simp only [List.length_cons, List.length_nil]; omega⟩
        · rw [eh]
          intro p hp
          rcases List.mem_append.mp hp with h | h
          · exact an1 p h
          · rw [List.mem_singleton.mp h]; exact kb
        · have := nk.snoc (s := st) (b := b)
          rw [Nat.zero_add, ← xlen] at this
          exact this
    rintro _ H2 ⟨s2, fi, kb2, rfl⟩
    obtain ⟨dx2, xs2, ks2, g1, g2, g3, g4, g5, g6, g7, g8⟩ := id fi
    simp_all only [tFld, tNGet]
    refine ⟨_, _, _, hid2_sub _ _ g1, T.cl_Finder, T.na_Finder_numbers, _, lk_nu, _, ⟨n, b, keyD st, ks2, rfl, rfl, g5, g6.mono hid2_sub, kb2.mono hid2_sub, ?_⟩, kk H2 s2 fi⟩
    rw [g7.look, if_pos (addS_mem _ _), addS_idx, Nat.zero_add]
theorem sc_Course___init__ : FnScope ["self", "game", "spot", "count", "name", "what"] ["self", "game"] (defScope (inClass (top 43) 0)) := ⟨rfl, rfl, rfl, by decide +kernel, rfl, by decide +kernel, by decide +kernel⟩
theorem ok_co (T : Txt K mg q_LuckError q_NoShare q_NoTable q_NoPool q_NoEnd q_TooMany q_NoGame q_NoWay q_NoRule q_NoStep q_NoPlay q_NoRow q_Course q_Finder) : MkCal P w K mg base (CX1 P w) 3 "Course" q_Course ["self", "game"] (spCo q_Course) := by
  have c_own_what : Cal P w K mg base (CX1 P w) 2 "own_what" ["what"] spOW := ok_ow T
  refine T.di_Course.cal (fun _ _ _ _ _ _ us hl => match us, hl with | [_, _], _ => rfl) fun f fd F => F.okC sc_Course___init__ (fun vs H Q E h => ?_) (fun cdv A outer s H vs Q E hr h => ?_)
  · obtain ⟨_, _, _, _, rfl, _⟩ := h; rfl
  · obtain ⟨c, dx, gv, g, rfl, hc, rg, gg, kk⟩ := h
    have nd := sc_Course___init__.nd
    refine ⟨_, (pss_cons (ps_fld (pv 0) pe_dnewK rfl)
    (pss_cons (ps_fld (pv 0) (pe_lst pa_nil) rfl)
    (pss_cons (ps_for PassesOwn.never rfl (pi_enumerateK (K := K) rfl T.z_enumerate (pa_cons (pe_ix ix_tupH (pv 1) pe_int (fun _ _ => rfl)) pa_nil (se rfl))) (pg_tupK (K := K) (n := 2) rfl (pgs_cons (pg_name (i := 2) nd rfl (Or.inl rfl)) (pgs_cons (pg_name (i := 3) nd rfl (Or.inl rfl)) pgs_nil))) (pss_cons (ps_dput (hu_of hr) (pe_fld (pv 0) rfl) (pe_ix ix_tupH (pv 3) pe_int (fun _ _ => rfl)) (pv 2) rfl)
    (pss_one (ps_expr (pe_bm PySem.F.plainAttrs_list PySem.F.slot_list_append PySem.F.type_list_append mt_append.r (pe_fld (pv 0) rfl) (pa_cons (pe_ix ix_tupH (pv 3) pe_int (fun _ _ => rfl)) pa_nil (se rfl)))))))
    (pss_cons (ps_fld (pv 0) (pe_ix ix_tupH (pe_ix ix_listH (pe_ix ix_tupH (pv 1) pe_int (fun _ _ => rfl)) pe_int (fun _ _ => rfl)) pe_int (fun _ _ => rfl)) rfl)
    (pss_cons (ps_fld (pv 0) pe_dnewK rfl)
    (pss_cons (ps_for PassesOwn.never rfl (pi_listK (K := K) (pe_ix ix_tupH (pv 1) pe_int (fun _ _ => rfl))) (pg_tupK (K := K) (n := 2) rfl (pgs_cons (pg_name (i := 4) nd rfl (Or.inl rfl)) (pgs_cons (pg_name (i := 5) nd rfl (Or.inl rfl)) pgs_nil))) (pss_one (ps_dput (hu_of hr) (pe_fld (pv 0) rfl) (pv 4) (pe_cal c_own_what (hr.mono (by decide)) rfl strictP.pass (pa_cons (pv 5) pa_nil (se rfl)) (he := se rfl) (hpl := na rfl)) rfl)))
    (pss_one (ps_fld (pv 0) pe_dnewK rfl)))))))), ?_⟩
    have sl := sizeLine_eq
    have np := gg.np
    have nc := gg.nc
    have lc := gg.lc
    have lpp := gg.lp
    have p0 := gg.p0
    obtain ⟨gp, g0, g1, rfl, hgp, rc, rp⟩ := rep_t2.mp (show Rep H (.tup _) gv from rg)
    obtain ⟨cl, cvs, rfl, hcl, rcl⟩ := rep_lst.mp (show Rep H (.lst _) g0 from rc)
    obtain ⟨pl, pvs, rfl, hpl, rpl⟩ := rep_lst.mp (show Rep H (.lst _) g1 from rp)
    have clen := rcl.length
    rw [List.length_map] at clen
    have plen := rpl.length
    rw [List.length_map] at plen
    change tSeq _ _ _ [some (.ref c), some (.ref gp), none, none, none, none] H
    let K1 : Hp → Prop := fun H1 => ∀ a o, a ≠ c → H a = some o → H1 a = some o
    have kp : ∀ {H1}, K1 H1 → Kp H H1 := fun {H1} k a => by
      by_cases z : a = c
      · subst z; rw [hc]; exact ⟨(fun _ e => by cases e), (fun _ e => by cases e)⟩
      · exact ⟨fun _ => k _ _ z, fun _ => k _ _ z⟩
    have tup1 : ∀ {H1 a vs}, K1 H1 → H a = some (.tup vs) → H1 a = some (.tup vs) := fun k e => ((kp k) _).1 _ e
    have lst1 : ∀ {H1 a vs}, K1 H1 → H a = some (.lst vs) → H1 a = some (.lst vs) := fun k e => ((kp k) _).2 _ e
    refine seq_gen (fun σ' H1 => K1 H1 ∧ (∃ sp, sp ≠ c ∧ H sp = none ∧ H1 c = some (.ins q_Course dx [(Str.ofString "spots", .ref sp)]) ∧ H1 sp = some (.dK [])) ∧ σ' = [some (.ref c), some (.ref gp), none, none, none, none]) ?_ (fun N hN => ?_)
    case refine_2 =>
      simp_all only [sFld, tDNewK]
      intro sp nsp
      have e1 : sp ≠ c := fun z => by rw [z, hc] at nsp; cases nsp
      refine ⟨_, _, _, by rw [upd_ne (Ne.symm e1)]; exact hc, T.cl_Course, T.na_Course_spots, by decide, hN _ _ ⟨fun a o ac ha => ?_, ⟨sp, e1, nsp, upd_same, by rw [upd_ne e1, upd_same]⟩, rfl⟩⟩
      rw [upd_ne ac, upd_ne (fun z => by rw [z, nsp] at ha; cases ha)]
      exact ha
    rintro _ H1 ⟨k1, ⟨sp, spc, nsp, hc1, hsp1⟩, rfl⟩
    change tSeq _ _ _ [some (.ref c), some (.ref gp), none, none, none, none] H1
    refine seq_gen (fun σ' H2 => K1 H2 ∧ (∃ mo, mo ≠ c ∧ mo ≠ sp ∧ H mo = none ∧ H2 c = some (.ins q_Course dx [(Str.ofString "spots", .ref sp), (Str.ofString "mosts", .ref mo)]) ∧ H2 sp = some (.dK []) ∧ H2 mo = some (.lst [])) ∧ σ' = [some (.ref c), some (.ref gp), none, none, none, none]) ?_ (fun N hN => ?_)
    case refine_2 =>
      simp_all only [sFld]
      refine ⟨Nat.zero_le _, fun mo nmo => ?_⟩
      have e1 : mo ≠ c := fun z => by rw [z, hc1] at nmo; cases nmo
      have e2 : mo ≠ sp := fun z => by rw [z, hsp1] at nmo; cases nmo
      have n0 : H mo = none := by
        cases h0 : H mo with
        | none => rfl
        | some o => rw [k1 _ _ e1 h0] at nmo; cases nmo
      refine ⟨_, _, _, by rw [upd_ne (Ne.symm e1)]; exact hc1, T.cl_Course, T.na_Course_mosts, by show (1 : Nat) < 1000; decide, hN _ _ ⟨fun a o ac ha => ?_, ⟨mo, e1, e2, n0, ?_, by rw [upd_ne spc, upd_ne (Ne.symm e2)]; exact hsp1, by rw [upd_ne e1, upd_same]⟩, rfl⟩⟩
      · rw [upd_ne ac, upd_ne (fun z => by rw [z, n0] at ha; cases ha)]
        exact k1 _ _ ac ha
      · rw [upd_same]
        show some (HO.ins _ _ (if Str.ofString "spots" = Str.ofString "mosts" then _ else _)) = _
        rw [if_neg (by decide +kernel)]
        rfl
    rintro _ H2 ⟨k2, ⟨mo, moc, mosp, nmo, hc2, hsp2, hmo2⟩, rfl⟩
    change tSeq _ _ _ [some (.ref c), some (.ref gp), none, none, none, none] H2
    refine seq_gen (fun σ' H3 => K1 H3 ∧ H3 c = some (.ins q_Course dx [(Str.ofString "spots", .ref sp), (Str.ofString "mosts", .ref mo)]) ∧ H3 sp = some (.dK (spK g.cs 0)) ∧ H3 mo = some (.lst ((g.cs.map (·.2)).map V.int)) ∧ ∃ z1 z2, σ' = [some (.ref c), some (.ref gp), z1, z2, none, none]) ?_ (fun N hN => ?_)
    case refine_2 =>
      simp_all only [iEnum, tup1 k2 hgp]
      refine ⟨⟨_, SqL.of (lst1 k2 hcl)⟩, for_src (src_enum (Ok := K1) (fun H' k => SqL.of (lst1 k hcl))) (fun i σ H' => K1 H' ∧ H' c = some (.ins q_Course dx [(Str.ofString "spots", .ref sp), (Str.ofString "mosts", .ref mo)]) ∧ H' sp = some (.dK (spK (g.cs.take i) 0)) ∧ H' mo = some (.lst (((g.cs.take i).map (·.2)).map V.int)) ∧ ∃ z1 z2, σ = [some (.ref c), some (.ref gp), z1, z2, none, none]) ⟨k2, hc2, hsp2, hmo2, _, _, rfl⟩ (fun _ _ _ _ h => h.1) ?_ ?_⟩
      · rintro i x σ H3 H4 hi ⟨k3, hc3, hsp3, hmo3, z1, z2, rfl⟩ ⟨t, y, nt, rfl, ey, rfl⟩
        obtain ⟨d0, ed, rd⟩ := rcl.get ey
        rw [List.getElem?_map] at ed
        obtain ⟨cn, ec, rfl⟩ := Option.map_eq_some_iff.mp ed
        obtain ⟨cp, y1, y2, rfl, hcp, r1, r2⟩ := rep_t2.mp (show Rep H (.tup _) y from rd)
        rw [rep_str] at r1
        rw [rep_int] at r2
        subst r1 r2
        have tk : g.cs.take (i + 1) = g.cs.take i ++ [cn] := by rw [List.take_add_one, ec]; rfl
        have nn : cn.1 ∉ (g.cs.take i).map (·.1) := by
          rw [List.map_take]
          exact nodup_at nc (by rw [List.getElem?_map, ec]; rfl)
        have tc : t ≠ c := fun z => by rw [z, hc3] at nt; cases nt
        have ts : t ≠ sp := fun z => by rw [z, hsp3] at nt; cases nt
        have tm : t ≠ mo := fun z => by rw [z, hmo3] at nt; cases nt
        have k4 : K1 (upd H3 t (.tup [.int (i : Int), .ref cp])) := fun a o ac ha => same_upd nt _ _ (k3 a o ac ha)
        have hc4 : upd H3 t (.tup [.int (i : Int), .ref cp]) c = _ := same_upd nt _ _ hc3
        have hsp4 : upd H3 t (.tup [.int (i : Int), .ref cp]) sp = _ := same_upd nt _ _ hsp3
        have hmo4 : upd H3 t (.tup [.int (i : Int), .ref cp]) mo = _ := same_upd nt _ _ hmo3
        refine ⟨t, _, rfl, SqT.of upd_same, rfl, ?_⟩
        generalize upd H3 t (.tup [.int (i : Int), .ref cp]) = H4 at *
        have lsp : (spK (g.cs.take i) 0).length < sizeLine := by rw [spK_len, List.length_take]; omega
        have k5 : K1 (upd H4 sp (.dK (putK (spK (g.cs.take i) 0) (Sum.inr cn.1) (.int (i : Int))))) := fun a o ac ha => by
          rw [upd_ne (fun z => by rw [z, nsp] at ha; cases ha)]
          exact k4 a o ac ha
        simp_all only [sDPut, tFld, rAppend, tup1 k4 hcp]
        have hsv : valV (spK (g.cs.take i) 0) (Sum.inr cn.1) = none := spK_none nn
        rw [put_new hsv] at k5
        have lt : (g.cs.take i).length = i := by rw [List.length_take]; omega
        have hmo5 : ∀ o, upd H4 sp o mo = some (.lst (((g.cs.take i).map (·.2)).map V.int)) := fun o => by rw [upd_ne mosp]; exact hmo4
        have ty : ∀ o, tyV K "list" (.ref mo) (upd H4 sp o) := fun o => .inl ⟨rfl, _, SqL.of (hmo5 o)⟩
        refine ⟨_, _, _, hc4, T.cl_Course, T.na_Course_spots, _, List.lookup_cons_self, _, rfl, _, .inl ⟨_, Sum.inr cn.1, hsp4, rfl, lsp, rfl⟩, ?_⟩
        rw [put_new hsv]
        refine ⟨_, _, _, by rw [upd_ne (Ne.symm spc)]; exact hc4, T.cl_Course, T.na_Course_mosts, _, by rw [lk_ne (by decide +kernel)]; exact List.lookup_cons_self, ty _, _, tup1 k5 hcp, _, rfl, _, rfl, _, hmo5 _, by rw [List.length_map, List.length_map]; omega, ?_⟩
        refine ⟨?_, ?_, ?_, ?_, _, rfl⟩
        · intro a o ac ha
          rw [upd_ne (fun z => by rw [z, nmo] at ha; cases ha)]
          exact k5 a o ac ha
        · rw [upd_ne (Ne.symm moc), upd_ne (Ne.symm spc)]; exact hc4
        · rw [upd_ne (Ne.symm mosp), upd_same, tk, spK_snoc, lt, Nat.zero_add]
        · rw [upd_same, tk, List.map_append, List.map_append]
          rfl
      · rintro σ H3 ⟨k3, hc3, hsp3, hmo3, z1, z2, rfl⟩
        rw [← clen, List.take_of_length_le (Nat.le_refl _)] at hsp3 hmo3
        exact hN _ _ ⟨k3, hc3, hsp3, hmo3, _, _, rfl⟩
    rintro _ H3 ⟨k3, hc3, hsp3, hmo3, z1, z2, rfl⟩
    obtain ⟨⟨n0, x0⟩, ex0⟩ : ∃ x, g.ps[0]? = some x := ⟨_, List.getElem?_eq_getElem p0⟩
    obtain ⟨v0, ev0, rv0⟩ := rpl.at (by rw [List.getElem?_map, ex0]; rfl)
    change tSeq _ _ _ [some (.ref c), some (.ref gp), z1, z2, none, none] H3
    refine seq_gen (fun σ' H4 => K1 H4 ∧ H4 c = some (.ins q_Course dx [(Str.ofString "spots", .ref sp), (Str.ofString "mosts", .ref mo), (Str.ofString "first", .str n0)]) ∧ H4 sp = some (.dK (spK g.cs 0)) ∧ H4 mo = some (.lst ((g.cs.map (·.2)).map V.int)) ∧ σ' = [some (.ref c), some (.ref gp), z1, z2, none, none]) ?_ (fun N hN => ?_)
    case refine_2 =>
      simp_all only [sFld, tup1 k3 hgp]
      obtain ⟨q0, a1, a2, rfl, hq0, b1, _⟩ := rep_t2.mp (show Rep H (.tup _) v0 from rv0)
      rw [rep_str] at b1
      subst b1
      have at0 : atI pvs 0 = some (.ref q0) := (atI_nat ev0 : atI pvs ((0 : Nat) : Int) = _)
      refine ⟨_, lst1 k3 hpl, _, at0, _, rfl, _, tup1 k3 hq0, _, rfl, _, _, _, hc3, T.cl_Course, T.na_Course_first, by show (2 : Nat) < 1000; decide, hN _ _ ⟨fun a o ac ha => ?_, ?_, by rw [upd_ne spc]; exact hsp3, by rw [upd_ne moc]; exact hmo3, rfl⟩⟩
      · rw [upd_ne ac]
        exact k3 _ _ ac ha
      · rw [upd_same]
        show some (HO.ins _ _ (if Str.ofString "spots" = Str.ofString "first" then _ else _ :: (if Str.ofString "mosts" = Str.ofString "first" then _ else _))) = _
        rw [if_neg (by decide +kernel), if_neg (by decide +kernel)]
        rfl
    rintro _ H4 ⟨k4, hc4, hsp4, hmo4, rfl⟩
    change tSeq _ _ _ [some (.ref c), some (.ref gp), z1, z2, none, none] H4
    refine seq_gen (fun σ' H5 => K1 H5 ∧ (∃ wh, wh ≠ c ∧ wh ≠ sp ∧ wh ≠ mo ∧ H wh = none ∧ H5 c = some (.ins q_Course dx [(Str.ofString "spots", .ref sp), (Str.ofString "mosts", .ref mo), (Str.ofString "first", .str n0), (Str.ofString "whats", .ref wh)]) ∧ H5 sp = some (.dK (spK g.cs 0)) ∧ H5 mo = some (.lst ((g.cs.map (·.2)).map V.int)) ∧ H5 wh = some (.dK [])) ∧ σ' = [some (.ref c), some (.ref gp), z1, z2, none, none]) ?_ (fun N hN => ?_)
    case refine_2 =>
      simp_all only [sFld, tDNewK]
      intro wh nwh
      have e1 : wh ≠ c := fun z => by rw [z, hc4] at nwh; cases nwh
      have e2 : wh ≠ sp := fun z => by rw [z, hsp4] at nwh; cases nwh
      have e3 : wh ≠ mo := fun z => by rw [z, hmo4] at nwh; cases nwh
      have n0 : H wh = none := by
        cases h0 : H wh with
        | none => rfl
        | some o => rw [k4 _ _ e1 h0] at nwh; cases nwh
      refine ⟨_, _, _, by rw [upd_ne (Ne.symm e1)]; exact hc4, T.cl_Course, T.na_Course_whats, by show (3 : Nat) < 1000; decide, hN _ _ ⟨fun a o ac ha => ?_, ⟨wh, e1, e2, e3, n0, ?_, by rw [upd_ne spc, upd_ne (Ne.symm e2)]; exact hsp4, by rw [upd_ne moc, upd_ne (Ne.symm e3)]; exact hmo4, by rw [upd_ne e1, upd_same]⟩, rfl⟩⟩
      · rw [upd_ne ac, upd_ne (fun z => by rw [z, n0] at ha; cases ha)]
        exact k4 _ _ ac ha
      · rw [upd_same]
        show some (HO.ins _ _ (if Str.ofString "spots" = Str.ofString "whats" then _ else _ :: (if Str.ofString "mosts" = Str.ofString "whats" then _ else _ :: (if Str.ofString "first" = Str.ofString "whats" then _ else _)))) = _
        rw [if_neg (by decide +kernel), if_neg (by decide +kernel), if_neg (by decide +kernel)]
        rfl
    rintro _ H5 ⟨k5, ⟨wh, whc, whsp, whmo, nwh, hc5, hsp5, hmo5, hwh5⟩, rfl⟩
    change tSeq _ _ _ [some (.ref c), some (.ref gp), z1, z2, none, none] H5
    refine seq_gen (fun σ' H6 => K1 H6 ∧ H6 c = some (.ins q_Course dx [(Str.ofString "spots", .ref sp), (Str.ofString "mosts", .ref mo), (Str.ofString "first", .str n0), (Str.ofString "whats", .ref wh)]) ∧ H6 sp = some (.dK (spK g.cs 0)) ∧ H6 mo = some (.lst ((g.cs.map (·.2)).map V.int)) ∧ (∃ us, H6 wh = some (.dK us) ∧ WhK H6 g.ps us) ∧ ∃ z3 z4, σ' = [some (.ref c), some (.ref gp), z1, z2, z3, z4]) ?_ (fun N hN => ?_)
    case refine_2 =>
      simp_all only [tup1 k5 hgp]
      refine ⟨⟨_, SqL.of (lst1 k5 hpl)⟩, for_src (src_list (Ok := K1) (fun H' k => SqL.of (lst1 k hpl))) (fun i σ H' => K1 H' ∧ H' c = some (.ins q_Course dx [(Str.ofString "spots", .ref sp), (Str.ofString "mosts", .ref mo), (Str.ofString "first", .str n0), (Str.ofString "whats", .ref wh)]) ∧ H' sp = some (.dK (spK g.cs 0)) ∧ H' mo = some (.lst ((g.cs.map (·.2)).map V.int)) ∧ (∃ us, H' wh = some (.dK us) ∧ WhK H' (g.ps.take i) us) ∧ ∃ z3 z4, σ = [some (.ref c), some (.ref gp), z1, z2, z3, z4]) ⟨k5, hc5, hsp5, hmo5, ⟨[], hwh5, rfl⟩, _, _, rfl⟩ (fun _ _ _ _ h => h.1) ?_ ?_⟩
      · rintro i x σ H7 H6 hi ⟨k6, hc6, hsp6, hmo6, ⟨us, hwh6, wk⟩, z3, z4, rfl⟩ ⟨rfl, ey⟩
        obtain ⟨d0, ed, rd⟩ := rpl.get ey
        rw [List.getElem?_map] at ed
        obtain ⟨pn, ec, rfl⟩ := Option.map_eq_some_iff.mp ed
        obtain ⟨cp, y1, y2, rfl, hcp, r1, r2⟩ := rep_t2.mp (show Rep H (.tup _) x from rd)
        rw [rep_str] at r1
        subst r1
        have tk : g.ps.take (i + 1) = g.ps.take i ++ [pn] := by rw [List.take_add_one, ec]; rfl
        have nn : pn.1 ∉ (g.ps.take i).map (·.1) := by
          rw [List.map_take]
          exact nodup_at np (by rw [List.getElem?_map, ec]; rfl)
        have hsv := wk.none nn
        have lus : us.length ≤ 100 := by rw [wk.len, List.length_take]; omega
        refine ⟨cp, _, rfl, SqT.of (tup1 k6 hcp), rfl, ?_⟩
        simp_all only [sDPut, tFld, spOW]
        refine ⟨_, (kp k6).rep r2, _, gg.wt _ (List.mem_of_getElem? ec), fun u H7 s7 ru => ?_⟩
        refine ⟨_, _, _, s7 _ _ hc6, T.cl_Course, T.na_Course_whats, _, by rw [lk_ne (by decide +kernel), lk_ne (by decide +kernel), lk_ne (by decide +kernel)]; exact List.lookup_cons_self, _, rfl, _, .inl ⟨_, Sum.inr pn.1, s7 _ _ hwh6, rfl, by omega, rfl⟩, ?_⟩
        rw [put_new hsv]
        have kq : Kp H7 (upd H7 wh (.dK (us ++ [(Sum.inr pn.1, u)]))) := Kp.upd (fun vs e => by rw [s7 _ _ hwh6] at e; cases e) (fun vs e => by rw [s7 _ _ hwh6] at e; cases e)
        refine ⟨fun a o ac ha => ?_, by rw [upd_ne (Ne.symm whc)]; exact s7 _ _ hc6, by rw [upd_ne (Ne.symm whsp)]; exact s7 _ _ hsp6, by rw [upd_ne (Ne.symm whmo)]; exact s7 _ _ hmo6, ⟨_, upd_same, ?_⟩, _, rfl⟩
        · rw [upd_ne (fun z => by rw [z, nwh] at ha; cases ha)]
          exact s7 _ _ (k6 _ _ ac ha)
        · rw [tk]
          exact WhK.snoc (kq.rep ru) (kq.whk (wk.mono s7))
      · rintro σ H6 ⟨k6, hc6, hsp6, hmo6, ⟨us, hwh6, wk⟩, z3, z4, rfl⟩
        rw [← plen, List.take_of_length_le (Nat.le_refl _)] at wk
        exact hN _ _ ⟨k6, hc6, hsp6, hmo6, ⟨us, hwh6, wk⟩, _, _, rfl⟩
    rintro _ H6 ⟨k6, hc6, hsp6, hmo6, ⟨us, hwh6, wk⟩, z3, z4, rfl⟩
    simp_all only [sFld, tDNewK]
    intro tb ntb
    have e1 : tb ≠ c := fun z => by rw [z, hc6] at ntb; cases ntb
    have e2 : tb ≠ sp := fun z => by rw [z, hsp6] at ntb; cases ntb
    have e3 : tb ≠ mo := fun z => by rw [z, hmo6] at ntb; cases ntb
    have e4 : tb ≠ wh := fun z => by rw [z, hwh6] at ntb; cases ntb
    have ntb0 : H tb = none := by
      cases h0 : H tb with
      | none => rfl
      | some o => rw [k6 _ _ e1 h0] at ntb; cases ntb
    refine ⟨_, _, _, by rw [upd_ne (Ne.symm e1)]; exact hc6, T.cl_Course, T.na_Course_tables, by show (4 : Nat) < 1000; decide, kk _ (fun a o ac ha => ?_) ⟨dx, sp, mo, wh, tb, us, n0, ?_, by rw [upd_ne spc, upd_ne (Ne.symm e2)]; exact hsp6, by rw [upd_ne moc, upd_ne (Ne.symm e3)]; exact hmo6, by rw [upd_ne whc, upd_ne (Ne.symm e4)]; exact hwh6, ?_, ?_⟩⟩
    · rw [upd_ne ac, upd_ne (fun z => by rw [z, ntb0] at ha; cases ha)]
      exact k6 _ _ ac ha
    · rw [upd_same]
      show some (HO.ins _ _ (if Str.ofString "spots" = Str.ofString "tables" then _ else _ :: (if Str.ofString "mosts" = Str.ofString "tables" then _ else _ :: (if Str.ofString "first" = Str.ofString "tables" then _ else _ :: (if Str.ofString "whats" = Str.ofString "tables" then _ else _))))) = _
      rw [if_neg (by decide +kernel), if_neg (by decide +kernel), if_neg (by decide +kernel), if_neg (by decide +kernel)]
      rfl
    · have hcc : upd H6 tb (.dK []) c = _ := (upd_ne (Ne.symm e1)).trans hc6
      exact ((Kp.of (same_upd ntb)).trans (Kp.upd (fun vs e => by rw [hcc] at e; cases e) (fun vs e => by rw [hcc] at e; cases e))).whk wk
    · rw [List.head?_map, List.head?_eq_getElem?, ex0]
      rfl
theorem sc_pick_ways : FnScope ["course", "finder", "state", "rows"] ["course", "finder", "state"] (defScope (top 46)) := ⟨rfl, rfl, rfl, by decide +kernel, rfl, by decide +kernel, by decide +kernel⟩
theorem ok_pw (T : Txt K mg q_LuckError q_NoShare q_NoTable q_NoPool q_NoEnd q_TooMany q_NoGame q_NoWay q_NoRule q_NoStep q_NoPlay q_NoRow q_Course q_Finder) : Cal P w K mg base (CX1 P w) 4 "pick_ways" ["course", "finder", "state"] (spPwX P w q_Course q_Finder q_NoWay) := by
  have m_Course_open_rows : MtCal P w K mg base (CX1 P w) 2 q_Course "open_rows" ["self", "state"] (spOpn q_Course) := ok_opn T
  have m_Course_by_row : MtCal P w K mg base (CX1 P w) 3 q_Course "by_row" ["self", "state", "row", "value"] (spByR q_Course) := ok_byr T
  have m_Finder_number_of : MtCal P w K mg base (CX1 P w) 1 q_Finder "number_of" ["self", "state"] (spNum P w q_Finder) := ok_num T
  refine T.d_pick_ways.cal (fun _ _ _ _ _ _ us hl => match us, hl with | [_, _, _], _ => rfl) fun f fd F => F.okX sc_pick_ways (fun vs H Q E h => ?_) (fun cdv A outer s H vs Q E hr h => ?_)
  · obtain ⟨_, _, _, _, _, _, _, _, _, _, _, rfl, _⟩ := h; rfl
  · obtain ⟨c, fa, sv, Fr, l, n, g, ss, st, wo, rs, rfl, co, gg, fi, fr, sth, ln, lk, kE, kQ⟩ := h
    have nd := sc_pick_ways.nd
    have hd0 : A.handled = none := hr.hd
    refine ⟨_, (pss_cons (ps_set (i := 3) nd rfl (Or.inl rfl) (pe_mt m_Course_open_rows T.cl_Course (pv 0) (hr.mono (by decide)) strictP.pass (pa_cons (pv 2) pa_nil (se rfl)) (hst := se rfl) (hpl := na rfl)))
    (pss_cons (ps_if (pt_cmpR op_eq (pe_callB call_lenL (by rfl) T.z_len PySem.boot_len (pa_cons (pv 3) pa_nil (se rfl)) (he := se rfl) (hpl := na rfl)) pe_int (nomark _)) (pss_one (ps_raise rfl T.k_NoWay T.x_NoWay hd0 (pa_cons pe_str pa_nil (se rfl)) (he := se rfl) (hpl := na rfl)))
      pss_nil)
    (pss_one (ps_ret (pe_comp rfl (N := ["course", "finder", "state", "rows"]) (so := defScope (top 46)) (N' := ["row", "course", "finder", "state"]) (k := 1) (fr := [0, 1, 2]) rfl rfl ⟨rfl, by decide +kernel, by decide +kernel, by decide +kernel, rfl, by decide +kernel, by decide +kernel⟩ (pi_listK (K := K) (pv 3)) (fun _ _ _ _ _ => (pg_name (i := 0) (show (["row", "course", "finder", "state"] : List Str).Nodup by decide +kernel) rfl (Or.inl rfl))) (fun _ _ _ _ _ => pts_nil)
      (fun _ _ _ _ _ => (pe_mt m_Finder_number_of T.cl_Finder (pv 2) (hr.mono (by decide)) strictP.pass (pa_cons (pe_mt m_Course_by_row T.cl_Course (pv 1) (hr.mono (by decide)) strictP.pass (pa_cons (pv 3) (pa_cons (pv 0) (pa_cons pe_int pa_nil (se rfl)) (se rfl)) (se rfl)) (hst := se rfl) (hpl := na rfl)) pa_nil (se rfl)) (hst := se rfl) (hpl := na rfl)))))))), ?_⟩
    have sl := sizeLine_eq
    obtain ⟨dx, sp, mo, wh, tb, us, ft', h1, h2, h3, h4, h5, h6⟩ := id co
    obtain ⟨dxf, xs0, ks0, f1, f2, f3, f4, f5, f6, f7, f8⟩ := id fi
    obtain ⟨sa, cl, rfl, hsa, hcl⟩ := id sth
    have gx := gg.wt _ (look_mem lk)
    have lp : ∀ {a b c d e : V}, List.lookup (Str.ofString "open_rows") [(Str.ofString "spots", a), (Str.ofString "mosts", b), (Str.ofString "first", c), (Str.ofString "whats", d), (Str.ofString "tables", e)] = none := lk_no (by decide +kernel) (by decide +kernel) (by decide +kernel) (by decide +kernel) (by decide +kernel)
    have lp2 : ∀ {a b c d e : V}, List.lookup (Str.ofString "by_row") [(Str.ofString "spots", a), (Str.ofString "mosts", b), (Str.ofString "first", c), (Str.ofString "whats", d), (Str.ofString "tables", e)] = none := lk_no (by decide +kernel) (by decide +kernel) (by decide +kernel) (by decide +kernel) (by decide +kernel)
    have lp3 : ∀ {a b : V}, List.lookup (Str.ofString "number_of") [(Str.ofString "states", a), (Str.ofString "numbers", b)] = none := lk_no2 (by decide +kernel) (by decide +kernel)
    change tSeq _ _ _ [some (.ref c), some (.ref fa), some (.ref sa), none] H
    refine seq_gen (fun σ' H1 => Same H H1 ∧ ∃ p xs, H p = none ∧ H1 p = some (.lst xs) ∧ RepL (hid2 H l n) (((openR g.cs st.2 (.pick wo rs)).map rw4).map r4D) xs ∧ σ' = [some (.ref c), some (.ref fa), some (.ref sa), some (.ref p)]) ?_ (fun N hN => ?_)
    case refine_2 =>
      simp_all only [tMeth, spOpn]
      refine ⟨_, _, hid2_sub _ _ h1, lp, hid2 H l n, hid2_sub, g, co, gg, st.1, st.2, sth.mono hid2_sub, ln, _, lk, fun p xs H1 s1 n1 e1 r1 => hN _ _ ⟨s1, p, xs, n1, e1, r1, rfl⟩⟩
    rintro _ H1 ⟨s1, p, xs, np, hp, rxs, rfl⟩
    have xlen := rxs.length
    rw [List.length_map, List.length_map] at xlen
    have few : (openR g.cs st.2 (.pick wo rs)).length ≤ 100 := Nat.le_trans (List.length_filter_le _ _) gx.1
    by_cases ne : openR g.cs st.2 (.pick wo rs) = []
    case pos =>
      rw [ne] at xlen
      have xlen : 0 = xs.length := xlen
      simp_all only [hp, tRaise]
      rw [if_pos (by omega)]
      exact ⟨by decide, kE ne _ s1⟩
    obtain ⟨ts, SS, go, le, ahd, kk⟩ := kQ ne
    unfold Goes at go
    rw [lk] at go
    obtain ⟨_, tl, al⟩ := go
    have ne0 : 0 < (openR g.cs st.2 (.pick wo rs)).length := List.length_pos_iff.mpr ne
    clear kE kQ
    have row : ∀ r ∈ openR g.cs st.2 (.pick wo rs), r.ds.length ≤ 100 ∧ ∀ d ∈ r.ds, GoodD g.cs d := fun r hr => gx.2 r (List.mem_filter.mp hr).1
    generalize openR g.cs st.2 (.pick wo rs) = os at *
    simp_all only [hp]
    rw [if_neg (by omega)]
    have pl : p ≠ l := fun z => by rw [z, f3] at np; cases np
    have pn : p ≠ n := fun z => by rw [z, f5] at np; cases np
    refine ⟨⟨_, SqL.of hp⟩, block_ok (src_list (Ok := fun H' => hid2 H' l n p = some (.lst xs)) (fun H' k => SqL.of (hid2_sub _ _ k))) (fun i ys σ H' => Same (hid2 H l n) (hid2 H' l n) ∧ FiH P w q_Finder Fr H' fa l n (addAll ss (ts.take i)) ∧ hid2 H' l n p = some (.lst xs) ∧ ys = (ts.take i).map (fun t => V.int ((SS.idxOf t : Nat) : Int)) ∧ ∃ z, σ = [z, some (.ref c), some (.ref fa), some (.ref sa)]) ⟨hid2_mono s1, fi.mono s1, by rw [hid2_of pl pn]; exact hp, rfl, _, rfl⟩ (fun _ _ _ _ h => h.2.2.1) (by omega) ?_ ?_⟩
    · rintro i x σ H3 ys H2 Q' N hi ⟨k2, fi2, hp2, rfl, z, rfl⟩ ⟨rfl, ex⟩ y1 _
      obtain ⟨dd, ed, rd⟩ := rxs.get ex
      rw [List.getElem?_map, List.getElem?_map] at ed
      obtain ⟨r4, e4, rfl⟩ := Option.map_eq_some_iff.mp ed
      obtain ⟨r, er, rfl⟩ := Option.map_eq_some_iff.mp e4
      obtain ⟨t, et, gr, ht⟩ := al i r er
      obtain ⟨q1, q2⟩ := row r (List.mem_of_getElem? er)
      unfold goR at gr
      obtain ⟨nm', ak, e9⟩ := Option.map_eq_some_iff.mp gr
      subst e9
      have tk : ts.take (i + 1) = ts.take i ++ [(nm', r.ds.foldl (doD g.cs 0) st.2)] := by rw [List.take_add_one, et]; rfl
      have ea : addAll ss (ts.take (i + 1)) = addS (addAll ss (ts.take i)) (nm', r.ds.foldl (doD g.cs 0) st.2) := by
        rw [tk]
        unfold addAll
        rw [List.foldl_append]
        rfl
      have ah : Ahd (addAll ss (ts.take (i + 1))) (addAll ss ts) := by
        have := addAll_ahd (ts.drop (i + 1)) (addAll ss (ts.take (i + 1)))
        unfold addAll at this ⊢
        rw [← List.foldl_append, List.take_append_drop] at this
        exact this
      have sub2 : Same (hid2 H l n) H2 := k2.trans hid2_sub
      obtain ⟨dx2, xs2, ks2, u1, u2, u3, u4, u5, u6, u7, u8⟩ := id fi2
      simp_all only [tMeth, tYes, spByR, spNum]
      refine ⟨_, _, hid2_sub _ _ u1, lp3, _, _, sub2 _ _ h1, lp2, g, co.mono sub2, gg, st.1, st.2, sth.mono sub2, _, _, r.ds, r.to, rd.mono sub2, q2, q1, ln, _, nm', ak, fun a b H5 s5 na nb e1 e2 => ?_⟩
      have al5 : a ≠ l := fun z => by rw [z, u3] at na; cases na
      have an5 : a ≠ n := fun z => by rw [z, u5] at na; cases na
      have bl5 : b ≠ l := fun z => by rw [z, u3] at nb; cases nb
      have bn5 : b ≠ n := fun z => by rw [z, u5] at nb; cases nb
      have frb : Fr b := fr b (by
        cases h0 : H b with
        | none => rfl
        | some o => rw [sub2 _ _ (by rw [hid2_of bl5 bn5]; exact h0)] at nb; cases nb)
      have stf : StF Fr (hid2 H5 l n) (.ref a) nm' (r.ds.foldl (doD g.cs 0) st.2) := ⟨a, b, rfl, by rw [hid2_of al5 an5]; exact e1, by rw [hid2_of bl5 bn5]; exact e2, frb⟩
      have lfd : (r.ds.foldl (doD g.cs 0) st.2).length ≤ 100 := by rw [foldD_len, ln]; exact gg.lc
      have fit := addS_len (ss := addAll ss (ts.take i)) (s := (nm', r.ds.foldl (doD g.cs 0) st.2)) (by rw [← ea]; exact Nat.le_trans ah.len le)
      refine ⟨Fr, l, n, _, fi2.mono s5, (nm', _), stf, ht, lfd, fit, fun H6 s6 fi6 => y1 _ _ _ ⟨k2.trans ((hid2_mono s5).trans s6), by rw [ea]; exact fi6, s6 _ _ (hid2_mono s5 _ _ hp2), ?_, _, rfl⟩⟩
      have mem : (nm', r.ds.foldl (doD g.cs 0) st.2) ∈ addAll ss (ts.take (i + 1)) := by rw [ea]; exact addS_mem _ _
      rw [tk, List.map_append, List.map_cons, List.map_nil, (ah.trans ahd).idx mem, ea, addS_idx]
    · rintro ys σ H2 ⟨k2, fi2, hp2, rfl, z, rfl⟩ D nD1 nD2
      rw [← xlen, ← tl, List.take_of_length_le (Nat.le_refl _)] at fi2 ⊢
      obtain ⟨dx2, xs2, ks2, u1, u2, u3, u4, u5, u6, u7, u8⟩ := id fi2
      have Dl : D ≠ l := fun z => by rw [z, u3] at nD2; cases nD2
      have Dn : D ≠ n := fun z => by rw [z, u5] at nD2; cases nD2
      exact kk D _ (k2.trans (hid2_mono (same_upd nD2))) (fi2.mono (same_upd nD2)) (none_of s1 nD1) (by rw [hid2_of Dl Dn, upd_same])
theorem sc_throw_ways : FnScope ["course", "finder", "state", "table", "ways", "value", "weight"] ["course", "finder", "state"] (defScope (top 45)) := ⟨rfl, rfl, rfl, by decide +kernel, rfl, by decide +kernel, by decide +kernel⟩
theorem ok_tw (T : Txt K mg q_LuckError q_NoShare q_NoTable q_NoPool q_NoEnd q_TooMany q_NoGame q_NoWay q_NoRule q_NoStep q_NoPlay q_NoRow q_Course q_Finder) : Cal P w K mg base (CX1 P w) 1 "throw_ways" ["course", "finder", "state"] (fun _ _ _ _ => False) := by
  refine T.d_throw_ways.cal (fun _ _ _ _ _ _ us hl => match us, hl with | [_, _, _], _ => rfl) fun f fd F => F.okC sc_throw_ways (fun vs H Q E h => h.elim) (fun cdv A outer s H vs Q E hr h => h.elim)
theorem sc_taken_up : FnScope ["course", "finder", "state", "what"] ["course", "finder", "state"] (defScope (top 47)) := ⟨rfl, rfl, rfl, by decide +kernel, rfl, by decide +kernel, by decide +kernel⟩
theorem ok_tk (T : Txt K mg q_LuckError q_NoShare q_NoTable q_NoPool q_NoEnd q_TooMany q_NoGame q_NoWay q_NoRule q_NoStep q_NoPlay q_NoRow q_Course q_Finder) : Cal P w K mg base (CX1 P w) 5 "taken_up" ["course", "finder", "state"] (spTkX P w q_Course q_Finder q_NoWay) := by
  have m_Course_what_at : MtCal P w K mg base (CX1 P w) 1 q_Course "what_at" ["self", "state"] (spWat q_Course) := ok_wat T
  have m_Course_end_worth : MtCal P w K mg base (CX1 P w) 2 q_Course "end_worth" ["self", "state"] (spEnd q_Course) := ok_end T
  have c_pick_ways : Cal P w K mg base (CX1 P w) 4 "pick_ways" ["course", "finder", "state"] (spPwX P w q_Course q_Finder q_NoWay) := ok_pw T
  have c_throw_ways : Cal P w K mg base (CX1 P w) 1 "throw_ways" ["course", "finder", "state"] (fun _ _ _ _ => False) := ok_tw T
  refine T.d_taken_up.cal (fun _ _ _ _ _ _ us hl => match us, hl with | [_, _, _], _ => rfl) fun f fd F => F.okX sc_taken_up (fun vs H Q E h => ?_) (fun cdv A outer s H vs Q E hr h => ?_)
  · obtain ⟨_, _, _, _, _, _, _, _, _, rfl, _⟩ := h; rfl
  · obtain ⟨c, fa, sv, Fr, l, n, g, ss, st, rfl, co, gg, fi, fr, sth, ln, kE, kQ⟩ := h
    have nd := sc_taken_up.nd
    have hd0 : A.handled = none := hr.hd
    refine ⟨_, (pss_cons (ps_set (i := 3) nd rfl (Or.inl rfl) (pe_mt m_Course_what_at T.cl_Course (pv 0) (hr.mono (by decide)) strictP.pass (pa_cons (pv 2) pa_nil (se rfl)) (hst := se rfl) (hpl := na rfl)))
    (pss_cons (ps_if (pt_cmpR op_eq (pe_ix ix_tupH (pv 3) pe_int (fun _ _ => rfl)) pe_str (nomark _)) (pss_one (ps_ret (pe_tupS (pa_cons pe_str (pa_cons (pe_ix ix_tupH (pv 3) pe_int (fun _ _ => rfl)) (pa_cons (pe_cal c_throw_ways (hr.mono (by decide)) rfl strictP.pass (pa_cons (pv 0) (pa_cons (pv 1) (pa_cons (pv 2) pa_nil (se rfl)) (se rfl)) (se rfl)) (he := se rfl) (hpl := na rfl)) pa_nil (se rfl)) (se rfl)) (se rfl)))))
      pss_nil)
    (pss_cons (ps_if (pt_cmpR op_eq (pe_ix ix_tupH (pv 3) pe_int (fun _ _ => rfl)) pe_str (nomark _)) (pss_one (ps_ret (pe_tupS (pa_cons pe_str (pa_cons (pe_ix ix_tupH (pv 3) pe_int (fun _ _ => rfl)) (pa_cons (pe_cal c_pick_ways (hr.mono (by decide)) rfl xe_pass (pa_cons (pv 0) (pa_cons (pv 1) (pa_cons (pv 2) pa_nil (se rfl)) (se rfl)) (se rfl)) (he := se rfl) (hpl := na rfl)) pa_nil (se rfl)) (se rfl)) (se rfl)))))
      pss_nil)
    (pss_one (ps_ret (pe_tupS (pa_cons pe_str (pa_cons (pe_mt m_Course_end_worth T.cl_Course (pv 0) (hr.mono (by decide)) strictP.pass (pa_cons (pv 2) pa_nil (se rfl)) (hst := se rfl) (hpl := na rfl)) pa_nil (se rfl)) (se rfl)))))))), ?_⟩
    have sl := sizeLine_eq
    obtain ⟨dx, sp, mo, wh, tb, us, ft', h1, h2, h3, h4, h5, h6⟩ := id co
    obtain ⟨dxf, xs0, ks0, f1, f2, f3, f4, f5, f6, f7, f8⟩ := id fi
    obtain ⟨sa, cl, rfl, hsa, hcl⟩ := id sth
    have lp1 : ∀ {a b c d e : V}, List.lookup (Str.ofString "what_at") [(Str.ofString "spots", a), (Str.ofString "mosts", b), (Str.ofString "first", c), (Str.ofString "whats", d), (Str.ofString "tables", e)] = none := lk_no (by decide +kernel) (by decide +kernel) (by decide +kernel) (by decide +kernel) (by decide +kernel)
    by_cases sk : Stuck g st
    case pos =>
      obtain ⟨wo, rs, lk, ne⟩ := id sk
      change tSeq _ _ _ [some (.ref c), some (.ref fa), some (.ref sa), none] H
      refine seq_gen (fun σ' H1 => H = H1 ∧ ∃ u, Rep (hid2 H l n) (wtD (.pick wo rs)) u ∧ σ' = [some (.ref c), some (.ref fa), some (.ref sa), some u]) ?_ (fun N hN => ?_)
      case refine_2 =>
        simp_all only [tMeth, spWat]
        exact ⟨_, _, hid2_sub _ _ h1, lp1, hid2 H l n, hid2_sub, g, co, st.1, st.2, sth.mono hid2_sub, _, lk, fun u ru => hN _ _ ⟨rfl, u, ru, rfl⟩⟩
      rintro _ _ ⟨rfl, u, ru, rfl⟩
      obtain ⟨p, x1, x2, x3, rfl, hp, r1, r2, r3⟩ := rep_t3.mp (show Rep _ (.tup _) u from ru)
      rw [rep_str] at r1
      rw [rep_int] at r2
      subst r1 r2
      simp_all only [hid2_sub _ _ hp, spPwX]
      rw [if_neg (by decide +kernel)]
      exact ⟨Fr, l, n, g, co, gg, ss, fi, fr, st, sth, ln, wo, rs, lk, fun _ => kE sk, fun z => absurd ne z⟩
    obtain ⟨ts, SS, go, le, ahd, kk⟩ := kQ sk
    have go0 := go
    unfold Goes at go
    have lp : ∀ {a b c d e : V}, List.lookup (Str.ofString "what_at") [(Str.ofString "spots", a), (Str.ofString "mosts", b), (Str.ofString "first", c), (Str.ofString "whats", d), (Str.ofString "tables", e)] = none := lk_no (by decide +kernel) (by decide +kernel) (by decide +kernel) (by decide +kernel) (by decide +kernel)
    have lp2 : ∀ {a b c d e : V}, List.lookup (Str.ofString "end_worth") [(Str.ofString "spots", a), (Str.ofString "mosts", b), (Str.ofString "first", c), (Str.ofString "whats", d), (Str.ofString "tables", e)] = none := lk_no (by decide +kernel) (by decide +kernel) (by decide +kernel) (by decide +kernel) (by decide +kernel)
    have kend : ∀ x t b, look g.ps st.1 = some x → ts = [] → endW g.cs st.2 x = some (t, b) → (∀ wo rs, x ≠ .pick wo rs) → ∀ p u H1, Same H H1 → H p = none → H1 p = some (.tup [.str (Str.ofString "end"), u]) → Rep H1 (.tup [.int t, .int b]) u → Q (.ref p) H1 := by
      intro x t b lk e0 ew np p u H1 s1 n1 e1 r1
      subst e0
      refine kk _ H1 (hid2_mono s1) (fi.mono s1) fun b' ys hb => ?_
      have rd : rowD g SS st [] = .tup [.str (Str.ofString "end"), .tup [.int t, .int b]] := by
        unfold rowD
        rw [lk]
        cases x with
        | pick wo rs => exact absurd rfl (np wo rs)
        | fin _ _ => simp only [ew]; rfl
        | score _ => simp only [ew]; rfl
        | ask _ _ _ _ => cases ew
        | thr _ _ _ _ => cases ew
      rw [rd]
      obtain ⟨q, y1, y2, rfl, hq, z1, z2⟩ := rep_t2.mp r1
      have tp : ∀ a vs, H1 a = some (.tup vs) → hid (hid2 H1 l n) b' a = some (.tup vs) := fun a vs ha => by
        have al : a ≠ l := fun z => by rw [z, s1 _ _ f3] at ha; cases ha
        have an : a ≠ n := fun z => by rw [z, s1 _ _ f5] at ha; cases ha
        have ab : a ≠ b' := fun z => by rw [z, s1 _ _ hb] at ha; cases ha
        rw [hid_ne ab, hid2_of al an]
        exact ha
      exact rep_t2.mpr ⟨p, _, _, rfl, tp _ _ e1, rep_str.mpr rfl, rep_t2.mpr ⟨q, y1, y2, rfl, tp _ _ hq, rep_int.mpr (rep_int.mp z1), rep_int.mpr (rep_int.mp z2)⟩⟩
    cases lk : look g.ps st.1 with
    | none => rw [lk] at go; exact go.elim
    | some x =>
    rw [lk] at go
    change tSeq _ _ _ [some (.ref c), some (.ref fa), some (.ref sa), none] H
    refine seq_gen (fun σ' H1 => H = H1 ∧ ∃ u, Rep (hid2 H l n) (wtD x) u ∧ σ' = [some (.ref c), some (.ref fa), some (.ref sa), some u]) ?_ (fun N hN => ?_)
    case refine_2 =>
      simp_all only [tMeth, spWat]
      exact ⟨_, _, hid2_sub _ _ h1, lp, hid2 H l n, hid2_sub, g, co, st.1, st.2, sth.mono hid2_sub, x, lk, fun u ru => hN _ _ ⟨rfl, u, ru, rfl⟩⟩
    rintro _ _ ⟨rfl, u, ru, rfl⟩
    cases x with
    | pick wo rs =>
      obtain ⟨p, x1, x2, x3, rfl, hp, r1, r2, r3⟩ := rep_t3.mp (show Rep _ (.tup _) u from ru)
      rw [rep_str] at r1
      rw [rep_int] at r2
      subst r1 r2
      simp_all only [hid2_sub _ _ hp, spPwX]
      rw [if_neg (by decide +kernel)]
      refine ⟨Fr, l, n, g, co, gg, ss, fi, fr, st, sth, ln, wo, rs, lk, fun z => absurd ⟨wo, rs, lk, z⟩ sk, fun _ => ⟨ts, go0, le, SS, ahd, fun p' H1 s1 fi1 np' hp' => ⟨by omega, fun p2 H2 s2 n2 e2 => kk _ H2 (s1.trans (hid2_mono s2)) (fi1.mono s2) fun b ys hb => ?_⟩⟩⟩
      obtain ⟨dx1, xs1, ks1, u1, u2, u3, u4, u5, u6, u7, u8⟩ := id fi1
      have rd : rowD g SS st ts = .tup [.str (Str.ofString "pick"), .int wo, .lst (ts.map fun t => .int ((SS.idxOf t : Nat) : Int))] := by
        unfold rowD
        rw [lk]
      rw [rd]
      have hb1 : ∃ o, H1 b = some o := by
        by_cases z : b = l
        · exact ⟨_, z ▸ u3⟩
        · exact ⟨_, hid2_sub _ _ (s1 _ _ (by rw [hid2_of z (fun z => by rw [z, f5] at hb; cases hb)]; exact hb))⟩
      obtain ⟨o, hb1⟩ := hb1
      have pb : p' ≠ b := fun z => by rw [z, hb] at np'; cases np'
      have p2b : p2 ≠ b := fun z => by rw [z, hb1] at n2; cases n2
      have p2l : p2 ≠ l := fun z => by rw [z, u3] at n2; cases n2
      have p2n : p2 ≠ n := fun z => by rw [z, u5] at n2; cases n2
      refine rep_t3.mpr ⟨p2, _, _, _, rfl, by rw [hid_ne p2b, hid2_of p2l p2n]; exact e2, rep_str.mpr rfl, rep_int.mpr rfl, rep_lst.mpr ⟨p', _, rfl, by rw [hid_ne pb]; exact hid2_mono s2 _ _ hp', ?_⟩⟩
      have e : (ts.map fun t => V.int ((SS.idxOf t : Nat) : Int)) = (ts.map fun t => ((SS.idxOf t : Nat) : Int)).map V.int := by rw [List.map_map]; rfl
      have e' : (ts.map fun t => Dat.int ((SS.idxOf t : Nat) : Int)) = (ts.map fun t => ((SS.idxOf t : Nat) : Int)).map Dat.int := by rw [List.map_map]; rfl
      rw [e, e']
      exact RepL.ints _
    | fin t b =>
      obtain ⟨p, x1, x2, rfl, hp, r1, r2⟩ := rep_t2.mp (show Rep _ (.tup _) u from ru)
      rw [rep_str] at r1
      subst r1
      simp_all only [hid2_sub _ _ hp, tMeth, spEnd]
      rw [if_neg (by decide +kernel), if_neg (by decide +kernel)]
      refine ⟨_, _, hid2_sub _ _ h1, lp2, g, co.mono hid2_sub, gg, st.1, st.2, sth.mono hid2_sub, ln, _, lk, _, _, rfl, fun u H1 s1 r1 => ⟨by omega, fun p2 H2 s2 n2 e2 => kend _ _ _ lk go rfl (fun _ _ z => by cases z) p2 u H2 (s1.trans s2) (none_of s1 n2) e2 (r1.mono s2)⟩⟩
    | score cn =>
      obtain ⟨p, x1, x2, rfl, hp, r1, r2⟩ := rep_t2.mp (show Rep _ (.tup _) u from ru)
      rw [rep_str] at r1
      subst r1
      simp_all only [hid2_sub _ _ hp, tMeth, spEnd]
      rw [if_neg (by decide +kernel), if_neg (by decide +kernel)]
      refine ⟨_, _, hid2_sub _ _ h1, lp2, g, co.mono hid2_sub, gg, st.1, st.2, sth.mono hid2_sub, ln, _, lk, _, _, rfl, fun u H1 s1 r1 => ⟨by omega, fun p2 H2 s2 n2 e2 => kend _ _ _ lk go rfl (fun _ _ z => by cases z) p2 u H2 (s1.trans s2) (none_of s1 n2) e2 (r1.mono s2)⟩⟩
    | ask _ _ _ _ => exact go.elim
    | thr _ _ _ _ => exact go.elim
theorem sc_spread : FnScope ["game", "course", "finder", "board"] ["game"] (defScope (top 48)) := ⟨rfl, rfl, rfl, by decide +kernel, rfl, by decide +kernel, by decide +kernel⟩
theorem zip_snoc {α β : Type} {x : α} {y : β} : ∀ {as : List α} {bs : List β}, as[bs.length]? = some x → as.zip (bs ++ [y]) = as.zip bs ++ [(x, y)]
  | [], _, e => by simp at e
  | a :: as, [], e => by
    have e : some a = some x := e
    cases e
    simp
  | a :: as, b :: bs, e => by
    rw [List.cons_append, List.zip_cons_cons, List.zip_cons_cons, zip_snoc (as := as) (bs := bs) (by simpa using e)]
    rfl
theorem goes_look {g : Gm} {st : Sta} {ts : List Sta} (h : Goes g st ts) : ∃ x, look g.ps st.1 = some x := by
  unfold Goes at h
  cases lk : look g.ps st.1 with
  | none => rw [lk] at h; exact h.elim
  | some x => exact ⟨x, rfl⟩
theorem ok_spr (T : Txt K mg q_LuckError q_NoShare q_NoTable q_NoPool q_NoEnd q_TooMany q_NoGame q_NoWay q_NoRule q_NoStep q_NoPlay q_NoRow q_Course q_Finder) : Cal P w K mg base (CX1 P w) 6 "spread" ["game"] (spSprX q_NoWay) := by
  have m_Course_start : MtCal P w K mg base (CX1 P w) 2 q_Course "start" ["self"] (spSta q_Course) := ok_sta T
  have m_Course_words_at : MtCal P w K mg base (CX1 P w) 3 q_Course "words_at" ["self", "state"] (spWds q_Course) := ok_wds T
  have m_Finder_number_of : MtCal P w K mg base (CX1 P w) 1 q_Finder "number_of" ["self", "state"] (spNum P w q_Finder) := ok_num T
  have c_taken_up : Cal P w K mg base (CX1 P w) 5 "taken_up" ["course", "finder", "state"] (spTkX P w q_Course q_Finder q_NoWay) := ok_tk T
  have m_Course : MkCal P w K mg base (CX1 P w) 3 "Course" q_Course ["self", "game"] (spCo q_Course) := ok_co T
  have m_Finder : MkCal P w K mg base (CX1 P w) 1 "Finder" q_Finder ["self"] (spFi P w q_Finder) := ok_fi T
  refine T.d_spread.cal (fun _ _ _ _ _ _ us hl => match us, hl with | [_], _ => rfl) fun f fd F => F.okX sc_spread (fun vs H Q E h => ?_) (fun cdv A outer s H vs Q E hr h => ?_)
  · obtain ⟨_, _, _, _, _, _, _, _, rfl, _⟩ := h; rfl
  · obtain ⟨gv, g, ft, nm, fu, ee, SS, tss, rfl, rg, gg, hd, ak, hsn, sp, l120, kE, kk⟩ := h
    have nd := sc_spread.nd
    have hd0 : A.handled = none := hr.hd
    refine ⟨_, (pss_cons (ps_set (i := 1) nd rfl (Or.inr rfl) (pe_mk m_Course (hr.mono (by decide)) rfl strictP.pass (pa_cons (pv 0) pa_nil (se rfl)) (he := se rfl) (hpl := na rfl)))
    (pss_cons (ps_set (i := 2) nd rfl (Or.inl rfl) (pe_mk0 m_Finder (hr.mono (by decide)) rfl strictP.pass))
    (pss_cons (ps_expr (pe_mt m_Finder_number_of T.cl_Finder (pv 2) (hr.mono (by decide)) strictP.pass (pa_cons (pe_mt0 m_Course_start T.cl_Course (pv 1) (hr.mono (by decide)) strictP.pass) pa_nil (se rfl)) (hst := se rfl) (hpl := na rfl)))
    (pss_cons (ps_set (i := 3) nd rfl (Or.inl rfl) (pe_lst pa_nil))
    (pss_cons (ps_while PassesOwn.leaving (pt_cmpR op_lt (pe_callB call_lenL (by rfl) T.z_len PySem.boot_len (pa_cons (pv 3) pa_nil (se rfl)) (he := se rfl) (hpl := na rfl)) (pe_callB call_lenL (by rfl) T.z_len PySem.boot_len (pa_cons (pe_fld (pv 2) rfl) pa_nil (se rfl)) (he := se rfl) (hpl := na rfl)) (nomark _)) (pss_one (ps_expr (pe_bm PySem.F.plainAttrs_list PySem.F.slot_list_append PySem.F.type_list_append mt_append.r (pv 3) (pa_cons (pe_cal c_taken_up (hr.mono (by decide)) rfl xe_pass (pa_cons (pv 1) (pa_cons (pv 2) (pa_cons (pe_ix ix_listH (pe_fld (pv 2) rfl) (pe_callB call_lenL (by rfl) T.z_len PySem.boot_len (pa_cons (pv 3) pa_nil (se rfl)) (he := se rfl) (hpl := na rfl)) (fun _ _ => rfl)) pa_nil (se rfl)) (se rfl)) (se rfl)) (he := se rfl) (hpl := na rfl)) pa_nil (se rfl))))))
    (pss_one (ps_ret (pe_tupS (pa_cons (pv 3) (pa_cons (pe_fld (pv 2) rfl) (pa_cons (pe_comp rfl (N := ["game", "course", "finder", "board"]) (so := defScope (top 48)) (N' := ["state", "course"]) (k := 1) (fr := [1]) rfl rfl ⟨rfl, by decide +kernel, by decide +kernel, by decide +kernel, rfl, by decide +kernel, by decide +kernel⟩ (pi_listK (K := K) (pe_fld (pv 2) rfl)) (fun _ _ _ _ _ => (pg_name (i := 0) (show (["state", "course"] : List Str).Nodup by decide +kernel) rfl (Or.inl rfl))) (fun _ _ _ _ _ => pts_nil)
      (fun _ _ _ _ _ => (pe_mt m_Course_words_at T.cl_Course (pv 1) (hr.mono (by decide)) strictP.pass (pa_cons (pv 0) pa_nil (se rfl)) (hst := se rfl) (hpl := na rfl)))) pa_nil (se rfl)) (se rfl)) (se rfl)))))))))), ?_⟩
    have sl := sizeLine_eq
    have lc := gg.lc
    change tSeq _ _ _ [some gv, none, none, none] H
    refine seq_gen (fun σ' H1 => Same H H1 ∧ ∃ c, CoH q_Course H1 c g ∧ σ' = [some gv, some (.ref c), none, none]) ?_ (fun N hN => ?_)
    case refine_2 =>
      simp_all only [tMake, spCo]
      intro c dx nc ndx dc
      have sm : Same H (upd (upd H dx (.own c)) c (.ins q_Course dx [])) := (same_upd ndx).trans (same_upd (by rw [upd_ne (Ne.symm dc)]; exact nc))
      refine ⟨_, upd_same, g, rg.mono sm, gg, fun H1 k1 co => hN _ _ ⟨fun a o ha => k1 a o (fun z => by rw [z, nc] at ha; cases ha) (sm _ _ ha), c, co, rfl⟩⟩
    rintro _ H1 ⟨s1, c, co, rfl⟩
    change tSeq _ _ _ [some gv, some (.ref c), none, none] H1
    refine seq_gen (fun σ' H2 => ∃ fa l n, H1 l = none ∧ H1 n = none ∧ Same H1 (hid2 H2 l n) ∧ (∀ Fr, FiH P w q_Finder Fr H2 fa l n []) ∧ σ' = [some gv, some (.ref c), some (.ref fa), none]) ?_ (fun N hN => ?_)
    case refine_2 =>
      simp_all only [tMake, spFi]
      intro fa dx nf ndx dc
      have nf2 : upd H1 dx (.own fa) fa = none := by rw [upd_ne (Ne.symm dc)]; exact nf
      have sm : Same H1 (upd (upd H1 dx (.own fa)) fa (.ins q_Finder dx [])) := (same_upd ndx).trans (same_upd nf2)
      refine ⟨_, upd_same, fun l n H2 nl nn k2 fi => hN _ _ ⟨fa, l, n, none_of sm nl, none_of sm nn, fun a o ha => k2 a o (fun z => by rw [z, nf] at ha; cases ha) (sm _ _ ha), fi, rfl⟩⟩
    rintro _ H2 ⟨fa, l, n, nl, nn, s2, fi2, rfl⟩
    have lpn : ∀ {a b : V}, List.lookup (Str.ofString "number_of") [(Str.ofString "states", a), (Str.ofString "numbers", b)] = none := lk_no2 (by decide +kernel) (by decide +kernel)
    have lps : ∀ {a b c d e : V}, List.lookup (Str.ofString "start") [(Str.ofString "spots", a), (Str.ofString "mosts", b), (Str.ofString "first", c), (Str.ofString "whats", d), (Str.ofString "tables", e)] = none := lk_no (by decide +kernel) (by decide +kernel) (by decide +kernel) (by decide +kernel) (by decide +kernel)
    have lpw : ∀ {a b c d e : V}, List.lookup (Str.ofString "words_at") [(Str.ofString "spots", a), (Str.ofString "mosts", b), (Str.ofString "first", c), (Str.ofString "whats", d), (Str.ofString "tables", e)] = none := lk_no (by decide +kernel) (by decide +kernel) (by decide +kernel) (by decide +kernel) (by decide +kernel)
    obtain ⟨dx, sp0, mo, wh, tb, us, ft', h1, h2, h3, h4, h5, h6⟩ := id co
    change tSeq _ _ _ [some gv, some (.ref c), some (.ref fa), none] H2
    refine seq_gen (fun σ' H3 => Same H1 (hid2 H3 l n) ∧ FiH P w q_Finder (fun a => H a = none) H3 fa l n [(nm, List.replicate g.cs.length 0)] ∧ σ' = [some gv, some (.ref c), some (.ref fa), none]) ?_ (fun N hN => ?_)
    case refine_2 =>
      have s2' : Same H1 H2 := s2.trans hid2_sub
      obtain ⟨dxf, xsf, ksf, u1, u2, u3, u4, u5, u6, u7, u8⟩ := fi2 (fun a => H a = none)
      simp_all only [tMeth, spSta, spNum]
      refine ⟨_, _, hid2_sub _ _ u1, lpn, _, _, s2' _ _ h1, lps, g, co.mono s2', gg, fu, ft, hd, nm, ak, fun a b H3 s3 na nb e1 e2 => ?_⟩
      have al5 : a ≠ l := fun z => by rw [z, u3] at na; cases na
      have an5 : a ≠ n := fun z => by rw [z, u5] at na; cases na
      have bl5 : b ≠ l := fun z => by rw [z, u3] at nb; cases nb
      have bn5 : b ≠ n := fun z => by rw [z, u5] at nb; cases nb
      refine ⟨fun a => H a = none, l, n, [], (fi2 _).mono s3, (nm, List.replicate g.cs.length 0), ⟨a, b, rfl, by rw [hid2_of al5 an5]; exact e1, by rw [hid2_of bl5 bn5]; exact e2, none_of (s1.trans s2') nb⟩, hsn, by rw [List.length_replicate]; exact lc, .inr (by decide), fun H4 s4 fi4 => hN _ _ ⟨s2.trans ((hid2_mono s3).trans s4), fi4, rfl⟩⟩
    rintro _ H3 ⟨s3, fi3, rfl⟩
    change tSeq _ _ _ [some gv, some (.ref c), some (.ref fa), none] H3
    refine seq_gen (fun σ' H4 => Same H1 (hid2 H4 l n) ∧ ∃ b, H1 b = none ∧ b ≠ l ∧ H4 b = some (.lst []) ∧ FiH P w q_Finder (fun a => H a = none ∧ a ≠ b) H4 fa l n [(nm, List.replicate g.cs.length 0)] ∧ σ' = [some gv, some (.ref c), some (.ref fa), some (.ref b)]) ?_ (fun N hN => ?_)
    case refine_2 =>
      obtain ⟨dxf, xsf, ksf, u1, u2, u3, u4, u5, u6, u7, u8⟩ := id fi3
      simp_all only []
      refine ⟨Nat.zero_le _, fun b nb => hN _ _ ⟨s3.trans (hid2_mono (same_upd nb)), b, none_of (s3.trans hid2_sub) nb, (fun z => by rw [z, u3] at nb; cases nb), upd_same, (fi3.fr fun a o ha h0 => ⟨h0, (fun z => by rw [z, nb] at ha; cases ha)⟩).mono (same_upd nb), rfl⟩⟩
    rintro _ H4 ⟨s4, b, nb, bl, hb, fi4, rfl⟩
    change tSeq _ _ _ [some gv, some (.ref c), some (.ref fa), some (.ref b)] H4
    refine seq_gen (fun σ' H5 => ee = false ∧ Same H1 (hid2 H5 l n) ∧ FiH P w q_Finder (fun a => H a = none ∧ a ≠ b) H5 fa l n SS ∧ (∃ bs, H5 b = some (.lst bs) ∧ RepL H5 (rowsD g SS tss) bs) ∧ σ' = [some gv, some (.ref c), some (.ref fa), some (.ref b)]) ?_ (fun N hN => ?_)
    case refine_2 =>
      refine while_m (fun m σ H' => ∃ dn rest ss bs, tss = dn ++ rest ∧ m = rest.length ∧ SprdX g ee SS dn.length ss rest ∧ Same H1 (hid2 H' l n) ∧ FiH P w q_Finder (fun a => H a = none ∧ a ≠ b) H' fa l n ss ∧ H' b = some (.lst bs) ∧ RepL (hid (hid2 H' l n) b) ((SS.zip dn).map fun x => rowD g SS x.1 x.2) bs ∧ σ = [some gv, some (.ref c), some (.ref fa), some (.ref b)]) (m := tss.length) ⟨[], tss, _, [], rfl, rfl, sp, s4, fi4, hb, by rw [List.zip_nil_right]; exact repL_nil.mpr rfl, rfl⟩ ?_
      rintro m _ H5 ⟨dn, rest, ss, bs, et, rfl, sd, s5, fi5, hb5, rb, rfl⟩
      obtain ⟨dxf, xsf, ksf, u1, u2, u3, u4, u5, u6, u7, u8⟩ := id fi5
      obtain ⟨ahd, len⟩ := sd.ahd
      have xl := u4.length
      have bl5 : bs.length = dn.length := by
        have := rb.length
        rw [List.length_map, List.length_zip] at this
        omega
      cases rest with
      | nil =>
        by_cases ce : ee = true
        · unfold SprdX at sd
          rw [if_pos ce] at sd
          obtain ⟨_, st, es, ls, sk⟩ := sd
          have dlt := (List.getElem?_eq_some_iff.mp es).1
          refine ⟨true, fun Q hq => ?_, ?_⟩
          · simp_all only [tFld]
            refine ⟨_, hb5, _, _, _, hid2_sub _ _ u1, T.cl_Finder, T.na_Finder_states, _, lk_st, _, rfl, _, u3, ?_⟩
            rw [decide_eq_true (by omega)]
            exact hq
          · rw [if_pos rfl]
            obtain ⟨v, ev, rv⟩ := u4.at es
            have ty : tyV K "list" (.ref b) H5 := .inl ⟨rfl, _, SqL.of hb5⟩
            simp_all only [tFld, spTkX, rAppend]
            exact ⟨ty, _, _, _, hid2_sub _ _ u1, T.cl_Finder, T.na_Finder_states, _, lk_st, _, hb5, _, rfl, _, u3, v, by rw [bl5]; exact atI_nat ev, _, l, n, g, co.mono s5, gg, ss, fi5, fun a ha => ⟨none_of (s1.trans (s5.trans hid2_sub)) ha, fun z => by rw [z, hb5] at ha; cases ha⟩, st, rv.st, ls, fun _ H6 s6 => kE ce _ (s1.trans (s5.trans (hid2_sub.trans s6))), fun z => absurd sk z⟩
        have ce : ee = false := by simpa using ce
        subst ce
        have sd : ss = SS ∧ dn.length = SS.length := sd
        obtain ⟨rfl, e2⟩ := sd
        refine ⟨false, fun Q hq => ?_, ?_⟩
        · simp_all only [tFld]
          refine ⟨_, hb5, _, _, _, hid2_sub _ _ u1, T.cl_Finder, T.na_Finder_states, _, lk_st, _, rfl, _, u3, ?_⟩
          rw [decide_eq_false (by omega)]
          exact hq
        · rw [if_neg (by simp)]
          rw [List.append_nil] at et
          exact hN _ _ ⟨rfl, s5, fi5, ⟨bs, hb5, by rw [et]; exact rb.mono (hid_sub.trans hid2_sub)⟩, rfl⟩
      | cons ts r =>
        obtain ⟨st, es, ls, go, sr⟩ := sd
        have dlt := (List.getElem?_eq_some_iff.mp es).1
        refine ⟨true, fun Q hq => ?_, ?_⟩
        · simp_all only [tFld]
          refine ⟨_, hb5, _, _, _, hid2_sub _ _ u1, T.cl_Finder, T.na_Finder_states, _, lk_st, _, rfl, _, u3, ?_⟩
          rw [decide_eq_true (by omega)]
          exact hq
        · rw [if_pos rfl]
          obtain ⟨v, ev, rv⟩ := u4.at es
          have eS : SS[dn.length]? = some st := by
            obtain ⟨q, e⟩ := ahd
            rw [e, List.getElem?_append_left dlt]
            exact es
          have ahr := sr.ahd.1
          have bn : b ≠ n := fun z => by rw [z, u5] at hb5; cases hb5
          have ty : tyV K "list" (.ref b) H5 := .inl ⟨rfl, _, SqL.of hb5⟩
          simp_all only [tFld, spTkX, rAppend]
          refine ⟨ty, _, _, _, hid2_sub _ _ u1, T.cl_Finder, T.na_Finder_states, _, lk_st, _, hb5, _, rfl, _, u3, v, by rw [bl5]; exact atI_nat ev, _, l, n, g, co.mono s5, gg, ss, fi5, fun a ha => ⟨none_of (s1.trans (s5.trans hid2_sub)) ha, fun z => by rw [z, hb5] at ha; cases ha⟩, st, rv.st, ls, fun z => absurd z go.stuck, fun _ => ⟨ts, go, Nat.le_trans ahr.len l120, SS, ahr, fun u H6 s6 fi6 ru => ?_⟩⟩
          have hb6 : H6 b = some (.lst bs) := hid2_sub _ _ (s6 _ _ (by rw [hid2_of bl bn]; exact hb5))
          have eh : ∀ o, hid (hid2 (upd H6 b o) l n) b = hid (hid2 H6 l n) b := fun o => by
            funext a
            by_cases z : a = b
            · rw [z]; unfold hid; rw [if_pos rfl, if_pos rfl]
            · rw [hid_ne z, hid_ne z]
              show (if a = n then none else if a = l then none else upd H6 b o a) = if a = n then none else if a = l then none else H6 a
              rw [upd_ne z]
          refine ⟨_, hb6, by omega, r.length, by omega, dn ++ [ts], r, by rw [List.append_assoc]; exact et, rfl, addAll ss ts, by rw [List.length_append, List.length_singleton]; exact sr, ?_, fi6.updb (fun a h => h.2) hb6 bl, _, upd_same, ?_⟩
          · intro a o ha
            have ab : a ≠ b := fun z => by rw [z, nb] at ha; cases ha
            have h6 := s6 _ _ (s5 _ _ ha)
            obtain ⟨e1, e2⟩ := hid2_out h6
            rw [hid2_of e1 e2] at h6 ⊢
            rw [upd_ne ab]
            exact h6
          · rw [eh, zip_snoc eS, List.map_append]
            exact (rb.mono (hid_mono s6)).append (repL_cons.mpr ⟨u, [], rfl, ru b bs hb5, repL_nil.mpr rfl⟩)
    rintro _ H5 ⟨rfl, s5, fi5, ⟨bs, hb5, rb⟩, rfl⟩
    obtain ⟨dxf, xsf, ksf, u1, u2, u3, u4, u5, u6, u7, u8⟩ := id fi5
    have xl := u4.length
    have s5' : Same H1 H5 := s5.trans hid2_sub
    simp_all only [tFld]
    refine ⟨_, _, _, hid2_sub _ _ u1, T.cl_Finder, T.na_Finder_states, _, lk_st, _, _, _, hid2_sub _ _ u1, T.cl_Finder, T.na_Finder_states, _, lk_st, _, rfl, ⟨_, SqL.of u3⟩, ?_⟩
    refine comp_map (src_list (Ok := Same H5) (fun H' k => SqL.of (k _ _ u3))) (fun _ _ _ _ h => h.1 ▸ Same.refl _) (by omega) (fun i y H' => ∃ st, SS[i]? = some st ∧ Rep H' (wordsD g st) y) (fun _ _ _ _ k ⟨st, e, r⟩ => ⟨st, e, r.mono k⟩) ?_ ?_
    · rintro i x z H7 H6 Q' hi s6 ⟨rfl, ex⟩ yy
      obtain ⟨st, es, rst⟩ := u4.get ex
      obtain ⟨st', ts', es', ls, go⟩ := sp.all i (Nat.zero_le _) (List.getElem?_eq_some_iff.mp es).1
      rw [es] at es'
      cases es'
      obtain ⟨x0, lk⟩ := goes_look go
      simp_all only [tMeth, spWds]
      refine ⟨_, _, s6 _ _ (s5' _ _ h1), lpw, g, co.mono (s5'.trans s6), gg, st.1, st.2, rst.st.mono (hid2_sub.trans s6), ls, x0, lk, fun p H8 s8 n8 r8 => yy _ _ s8 ⟨st, es, ?_⟩⟩
      unfold wordsD
      rw [lk]
      exact r8
    · intro ys H6 s6 ly hy D nD1 nD2
      refine ⟨by omega, fun p H7 s7 np e7 => kk rfl p b l D bs xsf ys H7 (s1.trans (s5'.trans (s6.trans ((same_upd nD2).trans s7)))) (none_of s1 nb) e7 ?_ ?_ ?_ ?_ (s7 _ _ upd_same) ?_⟩
      all_goals have s57 : Same H5 H7 := s6.trans ((same_upd nD2).trans s7)
      · exact s57 _ _ hb5
      · exact rb.mono s57
      · exact s57 _ _ u3
      · exact u4.imp fun _ _ k => k.mono (hid2_sub.trans s57)
      · refine RepL.of (by rw [List.length_map]; omega) fun i d y ed ey => ?_
        rw [List.getElem?_map] at ed
        obtain ⟨st, es, rfl⟩ := Option.map_eq_some_iff.mp ed
        obtain ⟨st', es', r⟩ := hy i y ey
        rw [es] at es'
        cases es'
        exact r.mono ((same_upd nD2).trans s7)
theorem sc__law_at : FnScope ["_law_script", "_law_k", "_law_base"] ["_law_script", "_law_k"] (defScope (top 50)) := ⟨rfl, rfl, rfl, by decide +kernel, rfl, by decide +kernel, by decide +kernel⟩
/-! ### a pick with rows that are open or shut -/
theorem look_eq {n : Str} {x : Wt} {ps : List (Str × Wt)} : look ((n, x) :: ps) n = some x := by
  unfold look
  rw [List.find?_cons_of_pos (by simp)]
  rfl
theorem look_ne {n m : Str} {x : Wt} {ps : List (Str × Wt)} (h : n ≠ m) : look ((n, x) :: ps) m = look ps m := by
  unfold look
  rw [List.find?_cons_of_neg (by simpa using h)]
noncomputable def abcd : List Str := [Str.ofString "a", Str.ofString "b", Str.ofString "c", Str.ofString "d"]
noncomputable def nB : Str := Str.ofString "begin"
noncomputable def nC : Str := Str.ofString "choose"
noncomputable def dds (cs : List (Str × Int)) (ns : List Int) : List Dd := (cs.zip ns).map fun x => .set x.1.1 x.2
noncomputable def onR (cs : List (Str × Int)) (ns : List Int) : Rw := ⟨Str.ofString "on", none, dds cs ns, nC⟩
noncomputable def gmO (cs : List (Str × Int)) (ns : List Int) (wo : Int) (rs : List Rw) : Gm := ⟨cs, [(nB, .pick (3 - wo) [onR cs ns]), (nC, .pick wo rs), (Str.ofString "a", .fin 0 1), (Str.ofString "b", .fin 1 1), (Str.ofString "c", .fin 2 1), (Str.ofString "d", .fin 3 1)]⟩
theorem abcd_ok : ∀ n ∈ abcd, nB ≠ n ∧ nC ≠ n ∧ hsh (.str n) = true := by decide +kernel
section opV
variable {cs : List (Str × Int)} {ns : List Int} {wo : Int} {rs : List Rw}
theorem look_b : look (gmO cs ns wo rs).ps nB = some (.pick (3 - wo) [onR cs ns]) := look_eq
theorem look_c : look (gmO cs ns wo rs).ps nC = some (.pick wo rs) := by
  show look (_ :: _) nC = _
  rw [look_ne (by decide +kernel), look_eq]
theorem look_e {nm : Str} (h : nm ∈ abcd) : look (gmO cs ns wo rs).ps nm = some (.fin ((abcd.idxOf nm : Nat) : Int) 1) := by
  obtain ⟨h1, h2, _⟩ := abcd_ok nm h
  show look (_ :: _ :: _) nm = _
  rw [look_ne h1, look_ne h2]
  unfold abcd at h
  rcases List.mem_cons.mp h with rfl | h
  · rw [look_eq]; rfl
  rcases List.mem_cons.mp h with rfl | h
  · rw [look_ne (by decide +kernel), look_eq]
    exact congrArg (fun k : Nat => some (Wt.fin (k : Int) 1)) (show 1 = _ by decide +kernel)
  rcases List.mem_cons.mp h with rfl | h
  · rw [look_ne (by decide +kernel), look_ne (by decide +kernel), look_eq]
    exact congrArg (fun k : Nat => some (Wt.fin (k : Int) 1)) (show 2 = _ by decide +kernel)
  rcases List.mem_cons.mp h with rfl | h
  · rw [look_ne (by decide +kernel), look_ne (by decide +kernel), look_ne (by decide +kernel), look_eq]
    exact congrArg (fun k : Nat => some (Wt.fin (k : Int) 1)) (show 3 = _ by decide +kernel)
  · cases h
noncomputable def GoodN (cs : List (Str × Int)) (ns : List Int) : Prop := ns.length = cs.length ∧ ∀ (i : Nat) c, cs[i]? = some c → 0 ≤ ns.getD i 0 ∧ ns.getD i 0 ≤ c.2
noncomputable def GoodR (rs : List Rw) : Prop := rs.length ≤ 10 ∧ ∀ r ∈ rs, r.ds = [] ∧ r.to ∈ abcd
theorem set_step {cs : List (Str × Int)} {ms : List Int} {c : Str × Int} {k : Int} {i : Nat} (nd : (cs.map (·.1)).Nodup) (e : cs[i]? = some c) (l : ms.length = i) (hk : k ≤ c.2) : doD cs 0 (ms ++ List.replicate (cs.length - i) 0) (.set c.1 k) = ms ++ [k] ++ List.replicate (cs.length - (i + 1)) 0 := by
  obtain ⟨hi, ei⟩ := List.getElem?_eq_some_iff.mp e
  have h1 : spot cs c.1 = i := by
    unfold spot
    have en : (cs.map (·.1))[i]? = some c.1 := by rw [List.getElem?_map, e]; rfl
    obtain ⟨a1, a2⟩ := List.getElem?_eq_some_iff.mp en
    rw [← a2, nd.idxOf_getElem]
  have h2 : most cs i = c.2 := by
    unfold most
    rw [List.getD_eq_getElem?_getD, List.getElem?_map, e]
    rfl
  obtain ⟨m, hm⟩ : ∃ m, cs.length - i = m + 1 := ⟨cs.length - i - 1, by omega⟩
  show (ms ++ List.replicate (cs.length - i) 0).set (spot cs c.1) (min k (most cs (spot cs c.1))) = _
  rw [h1, h2, Int.min_eq_left hk, hm, show cs.length - (i + 1) = m by omega, List.replicate_succ, List.set_append_right _ _ (by omega), l, Nat.sub_self, List.set_cons_zero, List.append_assoc]
  rfl
theorem dds_fold (nd : (cs.map (·.1)).Nodup) (gn : GoodN cs ns) : (dds cs ns).foldl (doD cs 0) (List.replicate cs.length 0) = ns := by
  obtain ⟨ln, gn⟩ := gn
  have key : ∀ i, i ≤ cs.length → ((dds cs ns).take i).foldl (doD cs 0) (List.replicate cs.length 0) = ns.take i ++ List.replicate (cs.length - i) 0 := by
    intro i
    induction i with
    | zero => intro _; rfl
    | succ i ih =>
      intro hi
      have hc : i < cs.length := by omega
      have hn : i < ns.length := by omega
      have ec : cs[i]? = some cs[i] := List.getElem?_eq_getElem hc
      have en : ns[i]? = some ns[i] := List.getElem?_eq_getElem hn
      have ed : (dds cs ns)[i]? = some (.set cs[i].1 ns[i]) := by
        unfold dds
        rw [List.getElem?_map, (List.getElem?_zip_eq_some (z := (cs[i], ns[i]))).mpr ⟨ec, en⟩]
        rfl
      have gk := (gn i _ ec).2
      rw [List.getD_eq_getElem?_getD, en] at gk
      have gk : ns[i] ≤ cs[i].2 := gk
      rw [List.take_add_one, ed, List.take_add_one, en, List.foldl_append, ih (by omega)]
      show doD cs 0 _ (Dd.set cs[i].1 ns[i]) = ns.take i ++ [ns[i]] ++ _
      exact set_step nd ec (by rw [List.length_take]; omega) gk
  have := key cs.length (Nat.le_refl _)
  rw [Nat.sub_self, List.replicate_zero, List.append_nil, List.take_of_length_le (l := ns) (by omega), List.take_of_length_le (by unfold dds; rw [List.length_map, List.length_zip]; omega)] at this
  exact this
/-- each once, in their order -/
noncomputable def ddp : List Str → List Str → List Str
  | acc, [] => acc
  | acc, x :: xs => ddp (if x ∈ acc then acc else acc ++ [x]) xs
theorem ddp_sub : ∀ {xs acc : List Str} {x : Str}, x ∈ acc → x ∈ ddp acc xs
  | [], _, _, h => h
  | y :: ys, acc, x, h => ddp_sub (xs := ys) (by split; exact h; exact List.mem_append_left _ h)
theorem ddp_mem : ∀ {xs acc : List Str} {x : Str}, x ∈ xs → x ∈ ddp acc xs
  | y :: ys, acc, x, h => by
    rcases List.mem_cons.mp h with rfl | h
    · refine ddp_sub (xs := ys) (acc := if x ∈ acc then acc else acc ++ [x]) ?_
      split
      · assumption
      · simp
    · exact ddp_mem (xs := ys) h
theorem ddp_from : ∀ {xs acc : List Str} {x : Str}, x ∈ ddp acc xs → x ∈ acc ∨ x ∈ xs
  | [], _, _, h => .inl h
  | y :: ys, acc, x, h => by
    rcases ddp_from (xs := ys) h with h | h
    · split at h
      · exact .inl h
      · rcases List.mem_append.mp h with h | h
        · exact .inl h
        · exact .inr (by rw [List.mem_singleton.mp h]; exact List.mem_cons_self)
    · exact .inr (List.mem_cons_of_mem _ h)
theorem ddp_snoc : ∀ {xs acc : List Str} {x : Str}, ddp acc (xs ++ [x]) = if x ∈ ddp acc xs then ddp acc xs else ddp acc xs ++ [x]
  | [], _, _ => rfl
  | y :: ys, acc, x => by rw [List.cons_append, ddp, ddp_snoc (xs := ys), ddp]
theorem ddp_len : ∀ {xs acc : List Str}, (ddp acc xs).length ≤ acc.length + xs.length
  | [], _ => by simp [ddp]
  | y :: ys, acc => by
    have := ddp_len (xs := ys) (acc := if y ∈ acc then acc else acc ++ [y])
    rw [ddp, List.length_cons]
    split at this
    · simp only [*, if_true] at this ⊢; omega
    · rw [List.length_append, List.length_singleton] at this
      simp only [*, if_false] at this ⊢; omega
noncomputable def opn (cs : List (Str × Int)) (ns : List Int) (rs : List Rw) : List Rw := rs.filter fun r => holdsW cs ns r.wh
noncomputable def nmsO (os : List Rw) : List Str := ddp [] (os.map (·.to))
noncomputable def s0 (cs : List (Str × Int)) : Sta := (nB, List.replicate cs.length 0)
noncomputable def s1 (ns : List Int) : Sta := (nC, ns)
noncomputable def SSo (cs : List (Str × Int)) (ns : List Int) (os : List Rw) : List Sta := s0 cs :: s1 ns :: (nmsO os).map fun n => (n, ns)
noncomputable def tsO (ns : List Int) (os : List Rw) : List (List Sta) := [s1 ns] :: (os.map fun r => (r.to, ns)) :: (nmsO os).map fun _ => []
theorem add_all : ∀ {xs acc : List Str}, (∀ x ∈ xs, x ∈ abcd) → addAll (s0 cs :: s1 ns :: acc.map fun n => (n, ns)) (xs.map fun n => (n, ns)) = s0 cs :: s1 ns :: (ddp acc xs).map fun n => (n, ns)
  | [], _, _ => rfl
  | x :: xs, acc, h => by
    obtain ⟨h1, h2, _⟩ := abcd_ok x (h x List.mem_cons_self)
    have e : addS (s0 cs :: s1 ns :: acc.map fun n => (n, ns)) (x, ns) = s0 cs :: s1 ns :: (if x ∈ acc then acc else acc ++ [x]).map fun n => (n, ns) := by
      unfold addS
      have iff : (x, ns) ∈ (s0 cs :: s1 ns :: acc.map fun n => (n, ns)) ↔ x ∈ acc := by
        constructor
        · intro z
          rcases List.mem_cons.mp z with z | z
          · exact absurd (congrArg Prod.fst z).symm h1
          rcases List.mem_cons.mp z with z | z
          · exact absurd (congrArg Prod.fst z).symm h2
          · obtain ⟨y, hy, ey⟩ := List.mem_map.mp z
            have : y = x := congrArg Prod.fst ey
            exact this ▸ hy
        · intro z
          exact List.mem_cons_of_mem _ (List.mem_cons_of_mem _ (List.mem_map.mpr ⟨x, z, rfl⟩))
      by_cases c : x ∈ acc
      · rw [if_pos (iff.mpr c), if_pos c]
      · rw [if_neg (fun z => c (iff.mp z)), if_neg c, List.map_append]
        rfl
    show addAll (addS _ _) _ = _
    rw [e, add_all (xs := xs) (fun y hy => h y (List.mem_cons_of_mem _ hy))]
    rfl
theorem opn_ok (gr : GoodR rs) : ∀ r ∈ opn cs ns rs, r.ds = [] ∧ r.to ∈ abcd := fun r hr => gr.2 r (List.mem_filter.mp hr).1
theorem nms_abc {os : List Rw} (h : ∀ r ∈ os, r.ds = [] ∧ r.to ∈ abcd) : ∀ n ∈ nmsO os, n ∈ abcd := fun n hn => by
  rcases ddp_from hn with z | z
  · cases z
  · obtain ⟨r, hr, rfl⟩ := List.mem_map.mp z
    exact (h r hr).2
theorem nms_len {os : List Rw} : (nmsO os).length ≤ os.length := by
  have := ddp_len (xs := os.map (·.to)) (acc := [])
  rw [List.length_map] at this
  unfold nmsO
  simpa using this
theorem idx_map {ns : List Int} : ∀ {xs : List Str} {x : Str}, (xs.map fun n => ((n, ns) : Sta)).idxOf (x, ns) = xs.idxOf x
  | [], _ => rfl
  | y :: ys, x => by
    rw [List.map_cons, List.idxOf_cons, List.idxOf_cons, idx_map (xs := ys)]
    by_cases c : y = x
    · subst c; rw [beq_self_eq_true, beq_self_eq_true]
    · rw [beq_false_of_ne c, beq_false_of_ne (fun z => c (congrArg Prod.fst z))]
theorem idx_s1 {os : List Rw} : (SSo cs ns os).idxOf (s1 ns) = 1 := by
  unfold SSo
  rw [List.idxOf_cons, beq_false_of_ne (fun z => absurd (congrArg Prod.fst z) (show nB ≠ nC by decide +kernel)), List.idxOf_cons_self]
  rfl
theorem idx_e {os : List Rw} {x : Str} (h : x ∈ abcd) : (SSo cs ns os).idxOf (x, ns) = (nmsO os).idxOf x + 2 := by
  obtain ⟨h1, h2, _⟩ := abcd_ok x h
  unfold SSo
  rw [List.idxOf_cons, beq_false_of_ne (fun z => h1 (congrArg Prod.fst z)), List.idxOf_cons, beq_false_of_ne (fun z => h2 (congrArg Prod.fst z)), idx_map]
  rfl
theorem goes_b (nd : (cs.map (·.1)).Nodup) (gn : GoodN cs ns) : Goes (gmO cs ns wo rs) (s0 cs) [s1 ns] := by
  unfold Goes
  have e : look (gmO cs ns wo rs).ps (s0 cs).1 = some (.pick (3 - wo) [onR cs ns]) := look_b
  rw [e]
  have eo : openR (gmO cs ns wo rs).cs (s0 cs).2 (.pick (3 - wo) [onR cs ns]) = [onR cs ns] := rfl
  show openR _ (s0 cs).2 (.pick (3 - wo) [onR cs ns]) ≠ [] ∧ _
  refine ⟨by rw [eo]; simp, by show _ = (openR (gmO cs ns wo rs).cs (s0 cs).2 (.pick (3 - wo) [onR cs ns])).length; rw [eo]; rfl, fun i r er => ?_⟩
  have er : ([onR cs ns] : List Rw)[i]? = some r := er
  cases i with
  | succ i => simp at er
  | zero =>
    cases er
    refine ⟨_, rfl, ?_, show hsh (.str nC) = true by decide +kernel⟩
    unfold goR
    have f := dds_fold nd gn
    show (askd (gmO cs ns wo rs) ((dds cs ns).foldl (doD cs 0) (List.replicate cs.length 0)) _ nC).map (fun nm => (nm, (dds cs ns).foldl (doD cs 0) (List.replicate cs.length 0))) = _
    rw [f]
    have : ∀ F, askd (gmO cs ns wo rs) ns (F + 1) nC = some nC := fun F => by
      unfold askd
      rw [look_c]
    show (askd (gmO cs ns wo rs) ns (6 + 1) nC).map _ = _
    rw [this]
    rfl
theorem askd_e {nm : Str} (h : nm ∈ abcd) {ms : List Int} (F : Nat) : askd (gmO cs ns wo rs) ms (F + 1) nm = some nm := by
  unfold askd
  rw [look_e h]
theorem goes_c (gr : GoodR rs) (ne : opn cs ns rs ≠ []) : Goes (gmO cs ns wo rs) (s1 ns) ((opn cs ns rs).map fun r => (r.to, ns)) := by
  unfold Goes
  have e : look (gmO cs ns wo rs).ps (s1 ns).1 = some (.pick wo rs) := look_c
  rw [e]
  refine ⟨ne, List.length_map .., fun i r er => ⟨(r.to, ns), ?_, ?_, ?_⟩⟩
  · have er : (opn cs ns rs)[i]? = some r := er
    rw [List.getElem?_map, er]
    rfl
  · have hr := opn_ok gr r (List.mem_of_getElem? (show (opn cs ns rs)[i]? = some r from er))
    unfold goR
    rw [hr.1]
    show (askd (gmO cs ns wo rs) ns (6 + 1) r.to).map _ = _
    rw [askd_e hr.2]
    rfl
  · have hr := opn_ok gr r (List.mem_of_getElem? (show (opn cs ns rs)[i]? = some r from er))
    exact (abcd_ok _ hr.2).2.2
theorem goes_e {nm : Str} (h : nm ∈ abcd) : Goes (gmO cs ns wo rs) (nm, ns) [] := by
  unfold Goes
  rw [show look (gmO cs ns wo rs).ps (nm, ns).1 = _ from look_e h]
theorem add_s1 : addAll [s0 cs] [s1 ns] = [s0 cs, s1 ns] := by
  show addS [s0 cs] (s1 ns) = _
  unfold addS
  rw [if_neg (fun z => absurd (congrArg Prod.fst (List.mem_singleton.mp z)) (show nC ≠ nB by decide +kernel))]
  rfl
theorem spr_ends {SS : List Sta} : ∀ {ms dn : List Str} (_ : ∀ n ∈ ms, n ∈ abcd) (_ : ns.length = cs.length) (_ : SS = s0 cs :: s1 ns :: (dn ++ ms).map fun n => (n, ns)), SprdX (gmO cs ns wo rs) false SS (2 + dn.length) SS (ms.map fun _ => [])
  | [], dn, _, _, e => by
    show SS = SS ∧ _
    exact ⟨rfl, by rw [e, List.append_nil]; simp; omega⟩
  | m :: ms, dn, h, ln, e => by
    refine ⟨(m, ns), ?_, ln, goes_e (h m List.mem_cons_self), ?_⟩
    · rw [e, show 2 + dn.length = dn.length + 1 + 1 by omega, List.getElem?_cons_succ, List.getElem?_cons_succ, List.getElem?_map, List.getElem?_append_right (Nat.le_refl _), Nat.sub_self]
      rfl
    · have := spr_ends (SS := SS) (ms := ms) (dn := dn ++ [m]) (fun n hn => h n (List.mem_cons_of_mem _ hn)) ln (by rw [e, List.append_assoc]; rfl)
      rw [List.length_append, List.length_singleton] at this
      exact this
theorem spr_o (nd : (cs.map (·.1)).Nodup) (gn : GoodN cs ns) (gr : GoodR rs) (ne : opn cs ns rs ≠ []) : SprdX (gmO cs ns wo rs) false (SSo cs ns (opn cs ns rs)) 0 [(nB, List.replicate cs.length 0)] (tsO ns (opn cs ns rs)) := by
  refine ⟨s0 cs, rfl, List.length_replicate, goes_b nd gn, ?_⟩
  show SprdX _ _ _ 1 (addAll [s0 cs] [s1 ns]) _
  rw [add_s1]
  refine ⟨s1 ns, rfl, gn.1, goes_c gr ne, ?_⟩
  have e := add_all (cs := cs) (ns := ns) (xs := (opn cs ns rs).map (·.to)) (acc := []) (fun x hx => by obtain ⟨r, hr, rfl⟩ := List.mem_map.mp hx; exact (opn_ok gr r hr).2)
  rw [List.map_map] at e
  have e : addAll [s0 cs, s1 ns] ((opn cs ns rs).map fun r => (r.to, ns)) = SSo cs ns (opn cs ns rs) := e
  rw [e]
  exact spr_ends (dn := []) (nms_abc (opn_ok gr)) gn.1 rfl
theorem spr_s (nd : (cs.map (·.1)).Nodup) (gn : GoodN cs ns) (ne : opn cs ns rs = []) : SprdX (gmO cs ns wo rs) true [s0 cs, s1 ns] 0 [(nB, List.replicate cs.length 0)] [[s1 ns]] := by
  refine ⟨s0 cs, rfl, List.length_replicate, goes_b nd gn, ?_⟩
  show SprdX _ _ _ 1 (addAll [s0 cs] [s1 ns]) _
  rw [add_s1]
  unfold SprdX
  rw [if_pos rfl]
  exact ⟨Ahd.refl _, s1 ns, rfl, gn.1, wo, rs, look_c, ne⟩
noncomputable def rowsO (ns : List Int) (wo : Int) (os : List Rw) : List Dat := .tup [.str (Str.ofString "pick"), .int (3 - wo), .lst [.int 1]] :: .tup [.str (Str.ofString "pick"), .int wo, .lst (os.map fun r => .int (2 + ((nmsO os).idxOf r.to : Nat)))] :: (nmsO os).map fun n => .tup [.str (Str.ofString "end"), .tup [.int ((abcd.idxOf n : Nat) : Int), .int 1]]
noncomputable def stsO (cs : List (Str × Int)) (ns : List Int) (os : List Rw) : List Dat := (SSo cs ns os).map fun s : Sta => .tup [.str s.1, .lst (s.2.map .int)]
noncomputable def wdsO (os : List Rw) : List Dat := .lst [.str (Str.ofString "on")] :: .lst (os.map fun r => .str r.word) :: (nmsO os).map fun _ => .lst []
noncomputable def dueD (cs : List (Str × Int)) (ns : List Int) (wo : Int) (os : List Rw) : Dat := .tup [.lst (rowsO ns wo os), .lst (stsO cs ns os), .lst (wdsO os)]
theorem zip_nil' {α β : Type} {f : α → β} {c : β} : ∀ {xs : List α} {γ : Type} {k : α → γ}, ((xs.map k).zip (xs.map fun _ => c)) = xs.map fun x => (k x, c)
  | [], _, _ => rfl
  | x :: xs, _, k => by rw [List.map_cons, List.map_cons, List.zip_cons_cons, zip_nil' (f := f) (xs := xs), List.map_cons]
theorem rows_o (gr : GoodR rs) : rowsD (gmO cs ns wo rs) (SSo cs ns (opn cs ns rs)) (tsO ns (opn cs ns rs)) = rowsO ns wo (opn cs ns rs) := by
  have ab := nms_abc (opn_ok (cs := cs) (ns := ns) gr)
  have ok := opn_ok (cs := cs) (ns := ns) gr
  unfold rowsD
  have z : (SSo cs ns (opn cs ns rs)).zip (tsO ns (opn cs ns rs)) = (s0 cs, [s1 ns]) :: (s1 ns, (opn cs ns rs).map fun r => (r.to, ns)) :: (nmsO (opn cs ns rs)).map fun n => ((n, ns), []) := by
    show _ :: _ :: List.zip _ _ = _
    rw [zip_nil' (f := fun _ => [])]
  rw [z, List.map_cons, List.map_cons, List.map_map]
  unfold rowsO
  have h1 : rowD (gmO cs ns wo rs) (SSo cs ns (opn cs ns rs)) (s0 cs) [s1 ns] = .tup [.str (Str.ofString "pick"), .int (3 - wo), .lst [.int 1]] := by
    unfold rowD
    rw [show look (gmO cs ns wo rs).ps (s0 cs).1 = _ from look_b]
    show Dat.tup [_, _, .lst [.int (((SSo cs ns (opn cs ns rs)).idxOf (s1 ns) : Nat) : Int)]] = _
    rw [idx_s1]
    rfl
  have h2 : rowD (gmO cs ns wo rs) (SSo cs ns (opn cs ns rs)) (s1 ns) ((opn cs ns rs).map fun r => (r.to, ns)) = .tup [.str (Str.ofString "pick"), .int wo, .lst ((opn cs ns rs).map fun r => .int (2 + ((nmsO (opn cs ns rs)).idxOf r.to : Nat)))] := by
    unfold rowD
    rw [show look (gmO cs ns wo rs).ps (s1 ns).1 = _ from look_c]
    show Dat.tup [_, _, .lst (List.map _ (List.map _ _))] = _
    rw [List.map_map]
    have : List.map ((fun t => Dat.int (((SSo cs ns (opn cs ns rs)).idxOf t : Nat) : Int)) ∘ fun r => (r.to, ns)) (opn cs ns rs) = (opn cs ns rs).map fun r => .int (2 + ((nmsO (opn cs ns rs)).idxOf r.to : Nat)) := by
      refine List.map_congr_left fun r hr => ?_
      show Dat.int (((SSo cs ns (opn cs ns rs)).idxOf (r.to, ns) : Nat) : Int) = _
      rw [idx_e (ok r hr).2]
      congr 1
      omega
    rw [this]
  rw [h1, h2]
  congr 2
  refine List.map_congr_left fun n hn => ?_
  show rowD _ _ (n, ns) [] = _
  unfold rowD
  rw [show look (gmO cs ns wo rs).ps (n, ns).1 = _ from look_e (ab n hn)]
  rfl
theorem wds_o (gr : GoodR rs) : (SSo cs ns (opn cs ns rs)).map (wordsD (gmO cs ns wo rs)) = wdsO (opn cs ns rs) := by
  have ab := nms_abc (opn_ok (cs := cs) (ns := ns) gr)
  unfold SSo wdsO
  rw [List.map_cons, List.map_cons, List.map_map]
  have h1 : wordsD (gmO cs ns wo rs) (s0 cs) = .lst [.str (Str.ofString "on")] := by
    unfold wordsD
    rw [show look (gmO cs ns wo rs).ps (s0 cs).1 = _ from look_b]
    rfl
  have h2 : wordsD (gmO cs ns wo rs) (s1 ns) = .lst ((opn cs ns rs).map fun r => .str r.word) := by
    unfold wordsD
    rw [show look (gmO cs ns wo rs).ps (s1 ns).1 = _ from look_c]
    rfl
  rw [h1, h2]
  congr 2
  refine List.map_congr_left fun n hn => ?_
  show wordsD _ (n, ns) = _
  unfold wordsD
  rw [show look (gmO cs ns wo rs).ps (n, ns).1 = _ from look_e (ab n hn)]
  rfl
theorem SSo_len {os : List Rw} (h : os.length ≤ 10) : (SSo cs ns os).length ≤ 120 := by
  have := nms_len (os := os)
  unfold SSo
  rw [List.length_cons, List.length_cons, List.length_map]
  omega
theorem ps_at : ∀ {i : Nat}, i < 4 → ∃ nm, abcd[i]? = some nm ∧ (gmO cs ns wo rs).ps[2 + i]? = some (nm, .fin (i : Int) 1)
  | 0, _ => ⟨_, rfl, rfl⟩
  | 1, _ => ⟨_, rfl, rfl⟩
  | 2, _ => ⟨_, rfl, rfl⟩
  | 3, _ => ⟨_, rfl, rfl⟩
theorem holds_at {n x : Str} {k : Int} {i : Nat} {c : Str × Int} (nd : (cs.map (·.1)).Nodup) (e : cs[i]? = some c) (en : c.1 = n) : holdsW cs ns (some (n, x, k)) = decide (decide (k ≤ ns.getD i 0) = decide (V.str x = V.str (Str.ofString "from"))) := by
  have em : (cs.map (·.1))[i]? = some n := by rw [List.getElem?_map, e]; exact congrArg some en
  have hs : spot cs n = i := by
    unfold spot
    obtain ⟨a1, a2⟩ := List.getElem?_eq_some_iff.mp em
    rw [← a2, nd.idxOf_getElem]
  show (if n ∈ cs.map (·.1) then (if x = Str.ofString "from" then decide (k ≤ ns.getD (spot cs n) 0) else decide (ns.getD (spot cs n) 0 < k)) else false) = _
  rw [if_pos (List.mem_of_getElem? em), hs]
  by_cases z : x = Str.ofString "from"
  · rw [if_pos z, z]
    simp
  · rw [if_neg z, decide_eq_false (p := V.str x = V.str (Str.ofString "from")) (fun h => z (by injection h))]
    by_cases y : k ≤ ns.getD i 0
    · rw [decide_eq_true y, decide_eq_false (by omega)]; rfl
    · rw [decide_eq_false y, decide_eq_true (by omega)]; rfl
theorem emod_at {α : Type} {l : List α} (n : Int) (h : 0 < l.length) : ∃ (j : Nat) (x : α), n % (l.length : Int) = (j : Int) ∧ l[j]? = some x := by
  have q1 := Int.emod_nonneg n (show (l.length : Int) ≠ 0 by omega)
  have q2 := Int.emod_lt_of_pos n (show (0 : Int) < (l.length : Int) by omega)
  refine ⟨(n % (l.length : Int)).toNat, l[(n % (l.length : Int)).toNat]'(by omega), by omega, List.getElem?_eq_getElem _⟩
end opV
noncomputable def cN : List Str := [Str.ofString "sum", Str.ofString "if", Str.ofString "below"]
noncomputable def GoodC (cs : List (Str × Int)) : Prop := 1 ≤ cs.length ∧ cs.length ≤ 3 ∧ ∀ (i : Nat) c, cs[i]? = some c → cN[i]? = some c.1 ∧ 1 ≤ c.2 ∧ c.2 ≤ 60
noncomputable def spCnt (K : PySem.W.Frag) : Sp := fun vs H Q _ => ∃ a ns, vs = [.ref a] ∧ SqL K H a (List.map V.int ns) ∧ ∀ cs u H', Same H H' → Rep H' (csD cs) u → GoodC cs → Q u H'
theorem good_nms {cs : List (Str × Int)} (g : GoodC cs) : (cs.map (·.1)).Nodup ∧ ∀ n ∈ cs.map (·.1), hsh (.str n) = true := by
  obtain ⟨g1, g2, g3⟩ := g
  have e : cs.map (·.1) = cN.take cs.length := by
    apply List.ext_getElem?
    intro i
    rw [List.getElem?_map]
    cases ei : cs[i]? with
    | none =>
      rw [List.getElem?_eq_none (l := cN.take cs.length) (by rw [List.getElem?_eq_none_iff] at ei; rw [List.length_take]; omega)]
      rfl
    | some x =>
      rw [List.getElem?_take, if_pos (List.getElem?_eq_some_iff.mp ei).1, (g3 i x ei).1]
      rfl
  rw [e]
  have : ∀ k ∈ [1, 2, 3], (cN.take k).Nodup ∧ ∀ n ∈ cN.take k, hsh (.str n) = true := by decide +kernel
  exact this _ (by simp; omega)
noncomputable def rowsR (rs : List Rw) : Dat := .lst ((rs.map rw4).map r4D)
noncomputable def spNu (K : PySem.W.Frag) : Sp := fun vs H Q _ => ∃ a sc v cs, vs = [.ref a, v] ∧ SqL K H a (List.map V.int sc) ∧ Rep H (csD cs) v ∧ GoodC cs ∧ ∀ l ns H', Same H H' → H' l = some (.lst (List.map V.int ns)) → GoodN cs ns → Q (.ref l) H'
noncomputable def spRw (K : PySem.W.Frag) : Sp := fun vs H Q _ => ∃ a sc v nl cs ns, vs = [.ref a, v, .ref nl] ∧ SqL K H a (List.map V.int sc) ∧ Rep H (csD cs) v ∧ H nl = some (.lst (List.map V.int ns)) ∧ GoodC cs ∧ GoodN cs ns ∧ ∀ u rs H', Same H H' → Rep H' (rowsR rs) u → GoodR rs → rs.length ≤ 4 → Q u H'
noncomputable def spOp : Sp := fun vs H Q _ => ∃ v nl u cs ns wh, vs = [v, .ref nl, u] ∧ Rep H (csD cs) v ∧ H nl = some (.lst (List.map V.int ns)) ∧ ns.length = cs.length ∧ (cs.map (·.1)).Nodup ∧ cs.length ≤ 3 ∧ Rep H (whD wh) u ∧ Q (.bl (holdsW cs ns wh)) H
noncomputable def spGa : Sp := fun vs H Q _ => ∃ v nl wo u cs ns rs, vs = [v, .ref nl, .int wo, u] ∧ Rep H (csD cs) v ∧ H nl = some (.lst (List.map V.int ns)) ∧ GoodC cs ∧ GoodN cs ns ∧ Rep H (rowsR rs) u ∧ ∀ gv H', Same H H' → Rep H' (gmD (gmO cs ns wo rs)) gv → Q gv H'
noncomputable def spDu : Sp := fun vs H Q _ => ∃ v nl wo u cs ns rs, vs = [v, .ref nl, .int wo, u] ∧ Rep H (csD cs) v ∧ H nl = some (.lst (List.map V.int ns)) ∧ GoodC cs ∧ GoodN cs ns ∧ Rep H (rowsR rs) u ∧ GoodR rs ∧ (opn cs ns rs = [] → ∀ H', Same H H' → Q .non H') ∧ (opn cs ns rs ≠ [] → ∀ dv H', Same H H' → Rep H' (dueD cs ns wo (opn cs ns rs)) dv → Q dv H')
noncomputable def spCls (qn : Addr) : Sp := fun vs H Q _ => ∃ e, vs = [.ref e] ∧ H e = some (ExO e (.ref qn)) ∧ ∀ H', Same H H' → Q (.bl true) H'
noncomputable def spRi : Sp := fun vs H Q _ => ∃ gv dv cs ns wo rs, vs = [gv, dv] ∧ Rep H (gmD (gmO cs ns wo rs)) gv ∧ GoodC cs ∧ GoodN cs ns ∧ GoodR rs ∧ (opn cs ns rs = [] → dv = .non) ∧ (opn cs ns rs ≠ [] → Rep H (dueD cs ns wo (opn cs ns rs)) dv) ∧ ∀ H', Same H H' → Q (.bl true) H'
theorem dep_ints (ns : List Int) : depth.dL (ns.map Dat.int) ≤ 0 := depth_flat fun d hd => by obtain ⟨c, _, rfl⟩ := List.mem_map.mp hd; simp [depth]
theorem spr_rep {Fr : Addr → Prop} {H : Hp} {p b l wl : Addr} {bs xs ws : List V} {rows words : List Dat} {SS : List Sta} (hp : H p = some (.tup [.ref b, .ref l, .ref wl])) (hb : H b = some (.lst bs)) (rb : RepL H rows bs) (hl : H l = some (.lst xs)) (al : Al (fun s v => StF Fr H v s.1 s.2) SS xs) (hw : H wl = some (.lst ws)) (rw : RepL H words ws) :
    Rep H (.tup [.lst rows, .lst (SS.map fun s : Sta => .tup [.str s.1, .lst (s.2.map .int)]), .lst words]) (.ref p) := by
  refine rep_t3.mpr ⟨p, _, _, _, rfl, hp, rep_lst.mpr ⟨b, bs, rfl, hb, rb⟩, rep_lst.mpr ⟨l, xs, rfl, hl, Al.repL (al.imp fun s v ⟨a, c, e, h1, h2, _⟩ => ?_)⟩, rep_lst.mpr ⟨wl, ws, rfl, hw, rw⟩⟩
  rw [e]
  exact rep_t2.mpr ⟨a, _, _, rfl, h1, rep_str.mpr rfl, rep_lst.mpr ⟨c, _, rfl, h2, RepL.ints _⟩⟩
theorem ok_at (T : Txt K mg q_LuckError q_NoShare q_NoTable q_NoPool q_NoEnd q_TooMany q_NoGame q_NoWay q_NoRule q_NoStep q_NoPlay q_NoRow q_Course q_Finder) : Cal P w K mg base (CX1 P w) 1 "_law_at" ["_law_script", "_law_k"] (spAt K) := by
  refine T.d__law_at.cal (fun _ _ _ _ _ _ us hl => match us, hl with | [_, _], _ => rfl) fun f fd F => F.okC sc__law_at (fun vs H Q E h => ?_) (fun cdv A outer s H vs Q E hr h => ?_)
  · obtain ⟨_, _, _, rfl, _⟩ := h; rfl
  · obtain ⟨a, ns, k, rfl, hS, k0, k1, kk⟩ := h
    have nd := sc__law_at.nd
    refine ⟨_, (pss_cons (ps_if (pt_cmpR op_lt (pv 1) (pe_callB (call_lenQK (K := K)) (by rfl) T.z_len PySem.boot_len (pa_cons (pv 0) pa_nil (se rfl)) (he := se rfl) (hpl := na rfl)) (nomark _)) (pss_one (ps_ret (pe_ix (ix_listSK (K := K)) (pv 0) (pv 1) (fun _ _ => rfl))))
      pss_nil)
    (pss_cons (ps_set (i := 2) nd rfl (Or.inl rfl) pe_int)
    (pss_cons (ps_if (pt_cmpR op_gt (pe_callB (call_lenQK (K := K)) (by rfl) T.z_len PySem.boot_len (pa_cons (pv 0) pa_nil (se rfl)) (he := se rfl) (hpl := na rfl)) pe_int (nomark _)) (pss_one (ps_set (i := 2) nd rfl (Or.inl rfl) (pe_op op_modB (pe_ix (ix_listSK (K := K)) (pv 0) (pe_op op_modB (pe_op op_add (pe_op op_mulB (pv 1) pe_int) pe_int) (pe_callB (call_lenQK (K := K)) (by rfl) T.z_len PySem.boot_len (pa_cons (pv 0) pa_nil (se rfl)) (he := se rfl) (hpl := na rfl))) (fun _ _ => rfl)) pe_int)))
      pss_nil)
    (pss_one (ps_ret (pe_op op_modB (pe_op op_mulB (pe_op op_add (pe_op op_add (pv 2) (pe_op op_mulB pe_int (pv 1))) pe_int) (pe_op op_add (pe_op op_add (pe_op op_mulB (pv 2) pe_int) (pe_op op_mulB (pv 1) (pv 1))) pe_int)) pe_int)))))), ?_⟩
    simp_all only [rIxQ]
    have kq : IntMulOk k k := mulOkL (by omega) (by omega)
    refine ⟨ns, hS, ite2 (fun c => ⟨ns, hS, k0, c, kk _⟩) (fun c => ⟨ns, hS, ite2 (fun z => ?_) (fun z => ?_)⟩)⟩
    · have m1 := Int.emod_nonneg (ns.getD ((k * 19 + 7) % (ns.length : Int)).toNat 0) (show (998757 : Int) ≠ 0 by decide)
      have m2 := Int.emod_lt_of_pos (ns.getD ((k * 19 + 7) % (ns.length : Int)).toNat 0) (show (0 : Int) < 998757 by decide)
      exact ⟨mulOkR, ns, hS, z, ns, hS, Int.emod_nonneg _ (by omega), Int.emod_lt_of_pos _ z, by decide, mulOkL, mulOkR, kq, mulOkL (by omega) (by omega), by decide, kk _⟩
    · exact ⟨mulOkL, mulOkL, kq, mulOkL (by omega) (by omega), by decide, kk _⟩
theorem sc__law_counts : FnScope ["_law_script", "_law_counts_here", "_law_k"] ["_law_script"] (defScope (top 51)) := ⟨rfl, rfl, rfl, by decide +kernel, rfl, by decide +kernel, by decide +kernel⟩
theorem ok_cnt (T : Txt K mg q_LuckError q_NoShare q_NoTable q_NoPool q_NoEnd q_TooMany q_NoGame q_NoWay q_NoRule q_NoStep q_NoPlay q_NoRow q_Course q_Finder) : Cal P w K mg base (CX1 P w) 2 "_law_counts" ["_law_script"] (spCnt K) := by
  have c__law_at : Cal P w K mg base (CX1 P w) 1 "_law_at" ["_law_script", "_law_k"] (spAt K) := ok_at T
  refine T.d__law_counts.cal (fun _ _ _ _ _ _ us hl => match us, hl with | [_], _ => rfl) fun f fd F => F.okC sc__law_counts (fun vs H Q E h => ?_) (fun cdv A outer s H vs Q E hr h => ?_)
  · obtain ⟨_, _, rfl, _⟩ := h; rfl
  · obtain ⟨sa, ns, rfl, hS, kk⟩ := h
    have nd := sc__law_counts.nd
    refine ⟨_, (pss_cons (ps_set (i := 1) nd rfl (Or.inl rfl) (pe_lst pa_nil))
    (pss_cons (ps_for PassesOwn.never rfl (pi_range1 rfl T.z_range (pa_cons (pe_op op_add pe_int (pe_op op_modB (pe_cal c__law_at (hr.mono (by decide)) rfl strictP.pass (pa_cons (pv 0) (pa_cons pe_int pa_nil (se rfl)) (se rfl)) (he := se rfl) (hpl := na rfl)) pe_int)) pa_nil (se rfl))) (pg_name (i := 2) nd rfl (Or.inl rfl)) (pss_one (ps_expr (pe_bm PySem.F.plainAttrs_list PySem.F.slot_list_append PySem.F.type_list_append mt_append.r (pv 1) (pa_cons (pe_tupS (pa_cons (pe_ix ix_listH (pe_lst (pa_cons pe_str (pa_cons pe_str (pa_cons pe_str pa_nil (se rfl)) (se rfl)) (se rfl))) (pv 2) (fun _ _ => rfl)) (pa_cons (pe_op op_add pe_int (pe_op op_modB (pe_cal c__law_at (hr.mono (by decide)) rfl strictP.pass (pa_cons (pv 0) (pa_cons (pe_op op_add pe_int (pv 2)) pa_nil (se rfl)) (se rfl)) (he := se rfl) (hpl := na rfl)) pe_int)) pa_nil (se rfl)) (se rfl))) pa_nil (se rfl))))))
    (pss_one (ps_ret (pv 1))))), ?_⟩
    have sl := sizeLine_eq
    change tSeq _ _ _ [some (.ref sa), none, none] H
    refine seq_gen (fun σ' H1 => Same H H1 ∧ ∃ l, H l = none ∧ H1 l = some (.lst []) ∧ σ' = [some (.ref sa), some (.ref l), none]) ?_ (fun N hN => ?_)
    case refine_2 =>
      simp_all only []
      exact ⟨Nat.zero_le _, fun l nl => hN _ _ ⟨same_upd nl, l, nl, upd_same, rfl⟩⟩
    rintro _ H1 ⟨s1, l, nl, hl, rfl⟩
    simp_all only [spAt]
    refine ⟨ns, s1.seq hS, by decide, by decide, fun n => ?_⟩
    have m1 := Int.emod_nonneg n (show (3 : Int) ≠ 0 by decide)
    have m2 := Int.emod_lt_of_pos n (show (0 : Int) < 3 by decide)
    refine ⟨by decide, by omega, by omega, ?_⟩
    obtain ⟨m, hm⟩ : ∃ m : Nat, m = (1 + n % 3).toNat := ⟨_, rfl⟩
    rw [← hm]
    refine for_src (src_range (Ok := fun _ => True)) (fun i σ H' => Same H H' ∧ (∃ (cs : List (Str × Int)) (xs : List V), cs.length = i ∧ H' l = some (.lst xs) ∧ RepL (hid H' l) (cs.map fun c => .tup [.str c.1, .int c.2]) xs ∧ ∀ (i : Nat) c, cs[i]? = some c → cN[i]? = some c.1 ∧ 1 ≤ c.2 ∧ c.2 ≤ 60) ∧ ∃ z, σ = [some (.ref sa), some (.ref l), z]) ⟨s1, ⟨[], [], rfl, hl, repL_nil.mpr rfl, fun i c e => by simp at e⟩, _, rfl⟩ (fun _ _ _ _ _ => trivial) ?_ ?_
    · rintro i x σ H3 H2 hi ⟨s2, ⟨cs, xs, lc, hx, rx, gc⟩, z, rfl⟩ ⟨rfl, rfl⟩
      have xl := rx.length
      rw [List.length_map] at xl
      have ty : tyV K "list" (.ref l) H2 := .inl ⟨rfl, _, SqL.of hx⟩
      have i3 : i < 3 := by omega
      obtain ⟨cn, hcn⟩ : ∃ cn, cN[i]? = some cn := ⟨_, List.getElem?_eq_getElem (show i < cN.length from i3)⟩
      have hat : atI [V.str (Str.ofString "sum"), V.str (Str.ofString "if"), V.str (Str.ofString "below")] (0 + (i : Int)) = some (.str cn) := by
        rw [Int.zero_add]
        exact atI_pl (f := V.str) (as := cN) hcn
      simp_all only [spAt, rAppend, hat]
      refine ⟨ty, by omega, fun p np => ⟨_, upd_same, _, hat, ns, (s2.trans (same_upd np)).seq hS, by omega, by omega, fun n' => ⟨by decide, by omega, fun q H4 s4 nq hq => ?_⟩⟩⟩
      have q1 := Int.emod_nonneg n' (show (60 : Int) ≠ 0 by decide)
      have q2 := Int.emod_lt_of_pos n' (show (0 : Int) < 60 by decide)
      have s24 : Same H2 H4 := (same_upd np).trans s4
      have ql : q ≠ l := fun z => by rw [z, same_upd np _ _ hx] at nq; cases nq
      refine ⟨_, s24 _ _ hx, by omega, same_upd_of (s2.trans s24) nl, ⟨cs ++ [(cn, 1 + n' % 60)], ?_, _, upd_same, ?_, ?_⟩, _, rfl⟩
      · rw [List.length_append, lc]; rfl
      · rw [List.map_append]
        exact rep_push (rx.mono (hid_mono s24)) (rep_t2.mpr ⟨q, _, _, rfl, by rw [hid_ne ql]; exact hq, rep_str.mpr rfl, rep_int.mpr rfl⟩)
      · intro j c e
        by_cases hj : j < cs.length
        · rw [List.getElem?_append_left hj] at e
          exact gc j c e
        · rw [List.getElem?_append_right (by omega)] at e
          have : j - cs.length = 0 := by
            by_cases z : j - cs.length = 0
            · exact z
            · rw [List.getElem?_eq_none (by simp; omega)] at e; cases e
          rw [this] at e
          cases e
          have : j = i := by omega
          subst this
          exact ⟨hcn, by omega, by omega⟩
    · rintro σ H2 ⟨s2, ⟨cs, xs, lc, hx, rx, gc⟩, z, rfl⟩
      simp_all only []
      exact kk cs _ H2 s2 (rep_lst.mpr ⟨l, xs, rfl, hx, rx.mono hid_sub⟩) ⟨by omega, by omega, gc⟩
theorem sc__law_numbers : FnScope ["_law_script", "_law_counts_here"] ["_law_script", "_law_counts_here"] (defScope (top 52)) := ⟨rfl, rfl, rfl, by decide +kernel, rfl, by decide +kernel, by decide +kernel⟩
theorem ok_nu (T : Txt K mg q_LuckError q_NoShare q_NoTable q_NoPool q_NoEnd q_TooMany q_NoGame q_NoWay q_NoRule q_NoStep q_NoPlay q_NoRow q_Course q_Finder) : Cal P w K mg base (CX1 P w) 2 "_law_numbers" ["_law_script", "_law_counts_here"] (spNu K) := by
  have c__law_at : Cal P w K mg base (CX1 P w) 1 "_law_at" ["_law_script", "_law_k"] (spAt K) := ok_at T
  refine T.d__law_numbers.cal (fun _ _ _ _ _ _ us hl => match us, hl with | [_, _], _ => rfl) fun f fd F => F.okC sc__law_numbers (fun vs H Q E h => ?_) (fun cdv A outer s H vs Q E hr h => ?_)
  · obtain ⟨_, _, _, _, rfl, _⟩ := h; rfl
  · obtain ⟨sa, sc, v, cs, rfl, hS, rc, gc, kk⟩ := h
    have nd := sc__law_numbers.nd
    refine ⟨_, (pss_one (ps_ret (pe_comp rfl (N := ["_law_script", "_law_counts_here"]) (so := defScope (top 52)) (N' := ["_law_k", "_law_script", "_law_counts_here"]) (k := 1) (fr := [0, 1]) rfl rfl ⟨rfl, by decide +kernel, by decide +kernel, by decide +kernel, rfl, by decide +kernel, by decide +kernel⟩ (pi_range1 rfl T.z_range (pa_cons (pe_callB call_lenL (by rfl) T.z_len PySem.boot_len (pa_cons (pv 1) pa_nil (se rfl)) (he := se rfl) (hpl := na rfl)) pa_nil (se rfl))) (fun _ _ _ _ _ => (pg_name (i := 0) (show (["_law_k", "_law_script", "_law_counts_here"] : List Str).Nodup by decide +kernel) rfl (Or.inl rfl))) (fun _ _ _ _ _ => pts_nil)
      (fun _ _ _ _ _ => (pe_op op_modB (pe_cal c__law_at (hr.mono (by decide)) rfl strictP.pass (pa_cons (pv 1) (pa_cons (pe_op op_add pe_int (pv 0)) pa_nil (se rfl)) (se rfl)) (he := se rfl) (hpl := na rfl)) (pe_op op_add (pe_ix ix_tupH (pe_ix ix_listH (pv 2) (pv 0) (fun _ _ => rfl)) pe_int (fun _ _ => rfl)) pe_int)))))), ?_⟩
    have sl := sizeLine_eq
    obtain ⟨cl, cvs, rfl, hcl, rcl⟩ := rep_lst.mp (show Rep H (.lst _) v from rc)
    have clen := rcl.length
    rw [List.length_map] at clen
    have place : ∀ {i : Nat} {c}, cs[i]? = some c → ∃ q, cvs[i]? = some (.ref q) ∧ H q = some (.tup [.str c.1, .int c.2]) := fun {i c} e => by
      obtain ⟨v, ev, rv⟩ := rcl.at (i := i) (by rw [List.getElem?_map, e]; rfl)
      obtain ⟨q, a, b, rfl, hq, r1, r2⟩ := rep_t2.mp (show Rep H (.tup _) v from rv)
      rw [rep_str] at r1
      rw [rep_int] at r2
      subst r1 r2
      exact ⟨q, ev, hq⟩
    obtain ⟨c1, c3, cg⟩ := id gc
    simp_all only [spAt]
    refine ⟨_, hcl, by omega, by omega, ?_⟩
    refine comp_map (src_range (Ok := Same H)) (fun _ _ _ _ h => by rw [h.1]; exact Same.refl _) (by omega) (fun i y _ => ∃ n : Int, y = .int n ∧ ∀ c, cs[i]? = some c → 0 ≤ n ∧ n ≤ c.2) (fun _ _ _ _ _ h => h) ?_ ?_
    · rintro i x z H3 H2 Q' hi s2 ⟨rfl, rfl⟩ yy
      have hi' : i < cs.length := by omega
      obtain ⟨q, eq, hq⟩ := place (List.getElem?_eq_getElem hi')
      have cgi := cg i _ (List.getElem?_eq_getElem hi')
      simp_all only [spAt]
      have hat : atI cvs (0 + (i : Int)) = some (.ref q) := by rw [Int.zero_add]; exact atI_nat eq
      refine ⟨sc, s2.seq hS, by omega, by omega, fun n => ⟨_, s2 _ _ hcl, _, hat, _, rfl, _, s2 _ _ hq, _, rfl, _, rfl, by omega, yy _ _ (Same.refl _) ⟨_, rfl, fun c ec => ?_⟩⟩⟩
      rw [List.getElem?_eq_getElem hi'] at ec
      cases ec
      have q1 := Int.emod_nonneg n (show cs[i].2 + 1 ≠ 0 by omega)
      have q2 := Int.emod_lt_of_pos n (show (0 : Int) < cs[i].2 + 1 by omega)
      exact ⟨q1, by omega⟩
    · intro ys H2 s2 ly hy D nD1 nD2
      have ly : ys.length = cs.length := by omega
      obtain ⟨ns, rfl⟩ : ∃ ns : List Int, ys = ns.map V.int := by
        have : ∀ {ys : List V}, (∀ (i : Nat) y, ys[i]? = some y → ∃ n : Int, y = .int n) → ∃ ns : List Int, ys = ns.map V.int := by
          intro ys
          induction ys with
          | nil => intro _; exact ⟨[], rfl⟩
          | cons y ys ih =>
            intro h
            obtain ⟨n, rfl⟩ := h 0 y rfl
            obtain ⟨ns, rfl⟩ := ih fun i y e => h (i + 1) y e
            exact ⟨n :: ns, rfl⟩
        exact this fun i y e => by obtain ⟨n, e, _⟩ := hy i y e; exact ⟨n, e⟩
      rw [List.length_map] at ly
      refine kk D ns _ (s2.trans (same_upd nD2)) upd_same ⟨ly, fun i c e => ?_⟩
      have hi : i < ns.length := by rw [ly]; exact (List.getElem?_eq_some_iff.mp e).1
      obtain ⟨n, en, h⟩ := hy i (.int ns[i]) (by rw [List.getElem?_map, List.getElem?_eq_getElem hi]; rfl)
      injection en with en
      rw [List.getD_eq_getElem?_getD, List.getElem?_eq_getElem hi]
      exact en ▸ h c e
theorem sc__law_rows : FnScope ["_law_script", "_law_counts_here", "_law_numbers_here", "_law_rows_here", "_law_one_end", "_law_j", "_law_cell", "_law_at_here", "_law_number", "_law_when", "_law_goal"] ["_law_script", "_law_counts_here", "_law_numbers_here"] (defScope (top 53)) := ⟨rfl, rfl, rfl, by decide +kernel, rfl, by decide +kernel, by decide +kernel⟩
theorem ok_rw (T : Txt K mg q_LuckError q_NoShare q_NoTable q_NoPool q_NoEnd q_TooMany q_NoGame q_NoWay q_NoRule q_NoStep q_NoPlay q_NoRow q_Course q_Finder) : Cal P w K mg base (CX1 P w) 2 "_law_rows" ["_law_script", "_law_counts_here", "_law_numbers_here"] (spRw K) := by
  have c__law_at : Cal P w K mg base (CX1 P w) 1 "_law_at" ["_law_script", "_law_k"] (spAt K) := ok_at T
  refine T.d__law_rows.cal (fun _ _ _ _ _ _ us hl => match us, hl with | [_, _, _], _ => rfl) fun f fd F => F.okC sc__law_rows (fun vs H Q E h => ?_) (fun cdv A outer s H vs Q E hr h => ?_)
  · obtain ⟨_, _, _, _, _, _, rfl, _⟩ := h; rfl
  · obtain ⟨sa, sc, v, nl, cs, ns, rfl, hS, rc, hn, gc, gn, kk⟩ := h
    have nd := sc__law_rows.nd
    refine ⟨_, (pss_cons (ps_set (i := 3) nd rfl (Or.inl rfl) (pe_lst pa_nil))
    (pss_cons (ps_set (i := 4) nd rfl (Or.inl rfl) (pe_cmpR op_eq (pe_op op_modB (pe_cal c__law_at (hr.mono (by decide)) rfl strictP.pass (pa_cons (pv 0) (pa_cons pe_int pa_nil (se rfl)) (se rfl)) (he := se rfl) (hpl := na rfl)) pe_int) pe_int (nomark _)))
    (pss_cons (ps_for PassesOwn.never rfl (pi_range1 rfl T.z_range (pa_cons (pe_op op_add pe_int (pe_op op_modB (pe_cal c__law_at (hr.mono (by decide)) rfl strictP.pass (pa_cons (pv 0) (pa_cons pe_int pa_nil (se rfl)) (se rfl)) (he := se rfl) (hpl := na rfl)) pe_int)) pa_nil (se rfl))) (pg_name (i := 5) nd rfl (Or.inl rfl)) (pss_cons (ps_set (i := 6) nd rfl (Or.inl rfl) (pe_cal c__law_at (hr.mono (by decide)) rfl strictP.pass (pa_cons (pv 0) (pa_cons (pe_op op_add pe_int (pv 5)) pa_nil (se rfl)) (se rfl)) (he := se rfl) (hpl := na rfl)))
    (pss_cons (ps_set (i := 7) nd rfl (Or.inl rfl) (pe_op op_modB (pv 6) (pe_callB call_lenL (by rfl) T.z_len PySem.boot_len (pa_cons (pv 1) pa_nil (se rfl)) (he := se rfl) (hpl := na rfl))))
    (pss_cons (ps_set (i := 8) nd rfl (Or.inl rfl) (pe_callB (call_max2 rfl) (by rfl) T.z_max rfl (pa_cons pe_int (pa_cons (pe_op op_sub (pe_op op_add (pe_ix ix_listH (pv 2) (pv 7) (fun _ _ => rfl)) (pe_op op_modB (pe_op op_fdivB (pv 6) pe_int) pe_int)) pe_int) pa_nil (se rfl)) (se rfl)) (he := se rfl) (hpl := na rfl)))
    (pss_cons (ps_set (i := 9) nd rfl (Or.inl rfl) (pe_tupS (pa_cons (pe_ix ix_tupH (pe_ix ix_listH (pv 1) (pv 7) (fun _ _ => rfl)) pe_int (fun _ _ => rfl)) (pa_cons (pe_ix ix_listH (pe_lst (pa_cons pe_str (pa_cons pe_str pa_nil (se rfl)) (se rfl))) (pe_op op_modB (pe_op op_fdivB (pv 6) pe_int) pe_int) (fun _ _ => rfl)) (pa_cons (pv 8) pa_nil (se rfl)) (se rfl)) (se rfl))))
    (pss_cons (ps_if (pt_cmpR op_eq (pe_op op_modB (pe_op op_fdivB (pv 6) pe_int) pe_int) pe_int (nomark _)) (pss_one (ps_set (i := 9) nd rfl (Or.inl rfl) pe_non))
      pss_nil)
    (pss_cons (ps_if (pt_cmpR op_eq (pe_op op_modB (pe_op op_fdivB (pv 6) pe_int) pe_int) pe_int (nomark _)) (pss_one (ps_set (i := 9) nd rfl (Or.inl rfl) (pe_tupS (pa_cons (pe_ix ix_tupH (pe_ix ix_listH (pv 1) (pv 7) (fun _ _ => rfl)) pe_int (fun _ _ => rfl)) (pa_cons pe_str (pa_cons pe_int pa_nil (se rfl)) (se rfl)) (se rfl)))))
      pss_nil)
    (pss_cons (ps_set (i := 10) nd rfl (Or.inl rfl) (pe_ix ix_listH (pe_lst (pa_cons pe_str (pa_cons pe_str (pa_cons pe_str (pa_cons pe_str pa_nil (se rfl)) (se rfl)) (se rfl)) (se rfl))) (pe_op op_mulB (pv 5) (pe_callTy call_int_b (by rfl) T.z_int rfl (pa_cons (pe_not (pv 4)) pa_nil (se rfl)) (he := se rfl) (hpl := na rfl))) (fun _ _ => rfl)))
    (pss_one (ps_expr (pe_bm PySem.F.plainAttrs_list PySem.F.slot_list_append PySem.F.type_list_append mt_append.r (pv 3) (pa_cons (pe_tupS (pa_cons (pe_ix ix_listH (pe_lst (pa_cons pe_str (pa_cons pe_str (pa_cons pe_str (pa_cons pe_str pa_nil (se rfl)) (se rfl)) (se rfl)) (se rfl))) (pv 5) (fun _ _ => rfl)) (pa_cons (pv 9) (pa_cons (pe_lst pa_nil) (pa_cons (pv 10) pa_nil (se rfl)) (se rfl)) (se rfl)) (se rfl))) pa_nil (se rfl)))))))))))))
    (pss_one (ps_ret (pv 3)))))), ?_⟩
    have sl := sizeLine_eq
    obtain ⟨cl, cvs, rfl, hcl, rcl⟩ := rep_lst.mp (show Rep H (.lst _) v from rc)
    have clen := rcl.length
    rw [List.length_map] at clen
    have place : ∀ {i : Nat} {c}, cs[i]? = some c → ∃ q, cvs[i]? = some (.ref q) ∧ H q = some (.tup [.str c.1, .int c.2]) := fun {i c} e => by
      obtain ⟨v, ev, rv⟩ := rcl.at (i := i) (by rw [List.getElem?_map, e]; rfl)
      obtain ⟨q, a, b, rfl, hq, r1, r2⟩ := rep_t2.mp (show Rep H (.tup _) v from rv)
      rw [rep_str] at r1
      rw [rep_int] at r2
      subst r1 r2
      exact ⟨q, ev, hq⟩
    obtain ⟨c1, c3, cg⟩ := id gc
    have ln := gn.1
    change tSeq _ _ _ [some (.ref sa), some (.ref cl), some (.ref nl), none, none, none, none, none, none, none, none] H
    refine seq_gen (fun σ' H1 => Same H H1 ∧ ∃ l, H l = none ∧ H1 l = some (.lst []) ∧ σ' = [some (.ref sa), some (.ref cl), some (.ref nl), some (.ref l), none, none, none, none, none, none, none]) ?_ (fun N hN => ?_)
    case refine_2 =>
      simp_all only []
      exact ⟨Nat.zero_le _, fun l nl => hN _ _ ⟨same_upd nl, l, nl, upd_same, rfl⟩⟩
    rintro _ H1 ⟨s1, l, nl0, hl, rfl⟩
    change tSeq _ _ _ [some (.ref sa), some (.ref cl), some (.ref nl), some (.ref l), none, none, none, none, none, none, none] H1
    refine seq_gen (fun σ' H2 => H1 = H2 ∧ ∃ one, σ' = [some (.ref sa), some (.ref cl), some (.ref nl), some (.ref l), some (.bl one), none, none, none, none, none, none]) ?_ (fun N hN => ?_)
    case refine_2 =>
      simp_all only [spAt]
      refine ⟨sc, s1.seq hS, by decide, by decide, fun n => ⟨by decide, hN _ _ ⟨rfl, _, rfl⟩⟩⟩
    rintro _ _ ⟨rfl, one, rfl⟩
    simp_all only [spAt]
    refine ⟨sc, s1.seq hS, by decide, by decide, fun n8 => ?_⟩
    have m1 := Int.emod_nonneg n8 (show (4 : Int) ≠ 0 by decide)
    have m2 := Int.emod_lt_of_pos n8 (show (0 : Int) < 4 by decide)
    refine ⟨by decide, by omega, by omega, ?_⟩
    obtain ⟨m, hm⟩ : ∃ m : Nat, m = (1 + n8 % 4).toNat := ⟨_, rfl⟩
    rw [← hm]
    refine for_src (src_range (Ok := fun _ => True)) (fun i σ H' => Same H H' ∧ (∃ (rs : List Rw) (xs : List V), rs.length = i ∧ H' l = some (.lst xs) ∧ RepL (hid H' l) ((rs.map rw4).map r4D) xs ∧ ∀ r ∈ rs, r.ds = [] ∧ r.to ∈ abcd) ∧ ∃ z1 z2 z3 z4 z5 z6, σ = [some (.ref sa), some (.ref cl), some (.ref nl), some (.ref l), some (.bl one), z1, z2, z3, z4, z5, z6]) ⟨s1, ⟨[], [], rfl, hl, repL_nil.mpr rfl, fun r hr => by cases hr⟩, _, _, _, _, _, _, rfl⟩ (fun _ _ _ _ _ => trivial) ?_ ?_
    · rintro i x σ H3 H2 hi ⟨s2, ⟨rs, xs, lr, hx, rx, gr⟩, z1, z2, z3, z4, z5, z6, rfl⟩ ⟨rfl, rfl⟩
      have xl := rx.length
      rw [List.length_map, List.length_map] at xl
      have i4 : i < 4 := by omega
      simp only [gName, List.set_cons_succ, List.set_cons_zero]
      change tSeq _ _ _ [some (.ref sa), some (.ref cl), some (.ref nl), some (.ref l), some (.bl one), some (.int (0 + (i : Int))), z2, z3, z4, z5, z6] H2
      refine seq_gen (fun σ' H' => H2 = H' ∧ ∃ n : Int, σ' = [some (.ref sa), some (.ref cl), some (.ref nl), some (.ref l), some (.bl one), some (.int (0 + (i : Int))), some (.int n), z3, z4, z5, z6]) ?_ (fun N hN => ?_)
      case refine_2 =>
        simp_all only [spAt]
        exact ⟨sc, s2.seq hS, by omega, by omega, fun n => hN _ _ ⟨rfl, n, rfl⟩⟩
      rintro _ _ ⟨rfl, n, rfl⟩
      change tSeq _ _ _ [some (.ref sa), some (.ref cl), some (.ref nl), some (.ref l), some (.bl one), some (.int (0 + (i : Int))), some (.int n), z3, z4, z5, z6] H2
      refine seq_gen (fun σ' H' => H2 = H' ∧ ∃ (k : Nat) (c : Str × Int), cs[k]? = some c ∧ σ' = [some (.ref sa), some (.ref cl), some (.ref nl), some (.ref l), some (.bl one), some (.int (0 + (i : Int))), some (.int n), some (.int (k : Int)), z4, z5, z6]) ?_ (fun N hN => ?_)
      case refine_2 =>
        obtain ⟨k, c, ek, ec⟩ := emod_at (l := cs) n (by omega)
        simp_all only []
        refine ⟨_, s2 _ _ hcl, by omega, ?_⟩
        rw [← clen, ek]
        exact hN _ _ ⟨rfl, k, c, ec, rfl⟩
      rintro _ _ ⟨rfl, k, c, ec, rfl⟩
      have hk := (List.getElem?_eq_some_iff.mp ec).1
      obtain ⟨q, eq, hq⟩ := place ec
      have hat : atI cvs (k : Int) = some (.ref q) := atI_nat eq
      change tSeq _ _ _ [some (.ref sa), some (.ref cl), some (.ref nl), some (.ref l), some (.bl one), some (.int (0 + (i : Int))), some (.int n), some (.int (k : Int)), z4, z5, z6] H2
      refine seq_gen (fun σ' H' => H2 = H' ∧ ∃ m : Int, σ' = [some (.ref sa), some (.ref cl), some (.ref nl), some (.ref l), some (.bl one), some (.int (0 + (i : Int))), some (.int n), some (.int (k : Int)), some (.int m), z5, z6]) ?_ (fun N hN => ?_)
      case refine_2 =>
        simp_all only []
        exact ⟨_, s2 _ _ hn, _, at_ints (by omega), CDivB.lit, by decide, _, rfl, hN _ _ ⟨rfl, _, rfl⟩⟩
      rintro _ _ ⟨rfl, m', rfl⟩
      have two : ∀ j : Int, ∃ x, atI [V.str (Str.ofString "from"), V.str (Str.ofString "below")] (j % 2) = some (.str x) := fun j => by
        obtain ⟨k, x, e1, e2⟩ := emod_at (l := [Str.ofString "from", Str.ofString "below"]) j (by decide)
        have e1 : j % 2 = (k : Int) := e1
        rw [e1]
        exact ⟨x, atI_pl (f := V.str) (as := [Str.ofString "from", Str.ofString "below"]) e2⟩
      change tSeq _ _ _ [some (.ref sa), some (.ref cl), some (.ref nl), some (.ref l), some (.bl one), some (.int (0 + (i : Int))), some (.int n), some (.int (k : Int)), some (.int m'), z5, z6] H2
      refine seq_gen (fun σ' H' => Same H2 H' ∧ ∃ wh y, Rep (hid H' l) (whD wh) y ∧ σ' = [some (.ref sa), some (.ref cl), some (.ref nl), some (.ref l), some (.bl one), some (.int (0 + (i : Int))), some (.int n), some (.int (k : Int)), some (.int m'), some y, z6]) ?_ (fun N hN => ?_)
      case refine_2 =>
        obtain ⟨x, hx2⟩ := two (n / 9)
        simp_all only []
        refine ⟨_, s2 _ _ hcl, _, hat, _, rfl, _, s2 _ _ hq, _, rfl, by omega, fun p np => ⟨CDivB.lit, by decide, _, upd_same, _, hx2, by omega, fun q' H4 s4 nq' e4 => hN _ _ ⟨(same_upd np).trans s4, some (c.1, x, m'), _, rep_t3.mpr ⟨q', _, _, _, rfl, ?_, rep_str.mpr rfl, rep_str.mpr rfl, rep_int.mpr rfl⟩, rfl⟩⟩⟩
        rw [hid_ne (fun z => by rw [z, same_upd np _ _ hx] at nq'; cases nq')]
        exact e4
      rintro _ H3 ⟨s3, wh, y, ry, rfl⟩
      change tSeq _ _ _ [some (.ref sa), some (.ref cl), some (.ref nl), some (.ref l), some (.bl one), some (.int (0 + (i : Int))), some (.int n), some (.int (k : Int)), some (.int m'), some y, z6] H3
      refine seq_gen (fun σ' H' => H3 = H' ∧ ∃ wh y, Rep (hid H' l) (whD wh) y ∧ σ' = [some (.ref sa), some (.ref cl), some (.ref nl), some (.ref l), some (.bl one), some (.int (0 + (i : Int))), some (.int n), some (.int (k : Int)), some (.int m'), some y, z6]) ?_ (fun N hN => ?_)
      case refine_2 =>
        simp_all only []
        refine ⟨CDivB.lit, by decide, ite2 (fun _ => hN _ _ ⟨rfl, none, _, by show Rep _ .non V.non; rw [Rep], rfl⟩) (fun _ => hN _ _ ⟨rfl, wh, y, ry, rfl⟩)⟩
      rintro _ _ ⟨rfl, wh1, y1, ry1, rfl⟩
      change tSeq _ _ _ [some (.ref sa), some (.ref cl), some (.ref nl), some (.ref l), some (.bl one), some (.int (0 + (i : Int))), some (.int n), some (.int (k : Int)), some (.int m'), some y1, z6] H3
      refine seq_gen (fun σ' H' => Same H3 H' ∧ ∃ wh y, Rep (hid H' l) (whD wh) y ∧ σ' = [some (.ref sa), some (.ref cl), some (.ref nl), some (.ref l), some (.bl one), some (.int (0 + (i : Int))), some (.int n), some (.int (k : Int)), some (.int m'), some y, z6]) ?_ (fun N hN => ?_)
      case refine_2 =>
        simp_all only []
        refine ⟨CDivB.lit, by decide, ite2 (fun _ => ?_) (fun _ => hN _ _ ⟨Same.refl _, wh1, y1, ry1, rfl⟩)⟩
        refine ⟨_, (s2.trans s3) _ _ hcl, _, hat, _, rfl, _, (s2.trans s3) _ _ hq, _, rfl, by omega, fun q' H4 s4 nq' e4 => hN _ _ ⟨s4, some (c.1, Str.ofString "below", 0), _, rep_t3.mpr ⟨q', _, _, _, rfl, ?_, rep_str.mpr rfl, rep_str.mpr rfl, rep_int.mpr rfl⟩, rfl⟩⟩
        rw [hid_ne (fun z => by rw [z, s3 _ _ hx] at nq'; cases nq')]
        exact e4
      rintro _ H4 ⟨s4, wh2, y2, ry2, rfl⟩
      have s24 := s3.trans s4
      change tSeq _ _ _ [some (.ref sa), some (.ref cl), some (.ref nl), some (.ref l), some (.bl one), some (.int (0 + (i : Int))), some (.int n), some (.int (k : Int)), some (.int m'), some y2, z6] H4
      refine seq_gen (fun σ' H' => Same H4 H' ∧ ∃ g ∈ abcd, σ' = [some (.ref sa), some (.ref cl), some (.ref nl), some (.ref l), some (.bl one), some (.int (0 + (i : Int))), some (.int n), some (.int (k : Int)), some (.int m'), some y2, some (.str g)]) ?_ (fun N hN => ?_)
      case refine_2 =>
        have hat4 : ∃ g, g ∈ abcd ∧ atI [V.str (Str.ofString "a"), V.str (Str.ofString "b"), V.str (Str.ofString "c"), V.str (Str.ofString "d")] ((0 + (i : Int)) * if one = false then 1 else 0) = some (.str g) := by
          have all : ∀ j : Nat, j < 4 → ∃ g, g ∈ abcd ∧ atI [V.str (Str.ofString "a"), V.str (Str.ofString "b"), V.str (Str.ofString "c"), V.str (Str.ofString "d")] (j : Int) = some (.str g) := fun j hj => by
            obtain ⟨x, ex⟩ : ∃ x, abcd[j]? = some x := ⟨_, List.getElem?_eq_getElem (show j < abcd.length from hj)⟩
            exact ⟨x, List.mem_of_getElem? ex, atI_pl (f := V.str) (as := abcd) ex⟩
          cases one with
          | false => rw [if_pos rfl, Int.zero_add, Int.mul_one]; exact all i i4
          | true => rw [if_neg (by decide), Int.mul_zero]; exact all 0 (by decide)
        obtain ⟨g, hg, hat5⟩ := hat4
        simp_all only [tNotV]
        refine ⟨by omega, fun p np => ⟨mulOkL (by omega) (by omega), _, upd_same, _, hat5, hN _ _ ⟨same_upd np, g, hg, rfl⟩⟩⟩
      rintro _ H5 ⟨s5, g, hg, rfl⟩
      have four : ∃ x, atI [V.str (Str.ofString "roll"), V.str (Str.ofString "hold"), V.str (Str.ofString "if"), V.str (Str.ofString "go")] (0 + (i : Int)) = some (.str x) := by
        obtain ⟨x, ex⟩ : ∃ x, [Str.ofString "roll", Str.ofString "hold", Str.ofString "if", Str.ofString "go"][i]? = some x := ⟨_, List.getElem?_eq_getElem (by simpa using i4)⟩
        rw [Int.zero_add]
        exact ⟨x, atI_pl (f := V.str) (as := [Str.ofString "roll", Str.ofString "hold", Str.ofString "if", Str.ofString "go"]) ex⟩
      obtain ⟨wd, hwd⟩ := four
      have s25 := s24.trans s5
      have ty : tyV K "list" (.ref l) H5 := .inl ⟨rfl, _, SqL.of (s25 _ _ hx)⟩
      simp_all only [rAppend]
      refine ⟨ty, by omega, fun a na => ⟨_, upd_same, _, hwd, Nat.zero_le _, fun b nb => ⟨by omega, fun e H6 s6 ne ee => ?_⟩⟩⟩
      have s5b : Same H5 (upd (upd H5 a (.lst [V.str (Str.ofString "roll"), V.str (Str.ofString "hold"), V.str (Str.ofString "if"), V.str (Str.ofString "go")])) b (.lst [])) := (same_upd na).trans (same_upd nb)
      have s56 : Same H5 H6 := s5b.trans s6
      have el : e ≠ l := fun z => by rw [z, s5b _ _ (s25 _ _ hx)] at ne; cases ne
      have bl : b ≠ l := fun z => by rw [z, same_upd na _ _ (s25 _ _ hx)] at nb; cases nb
      refine ⟨_, s56 _ _ (s25 _ _ hx), by omega, same_upd_of (s2.trans (s25.trans s56)) nl0, ⟨rs ++ [⟨wd, wh2, [], g⟩], by rw [List.length_append, lr]; rfl, _, upd_same, ?_, fun r hr => ?_⟩, _, rfl⟩
      · rw [List.map_append, List.map_append]
        exact rep_push (rx.mono (hid_mono (s25.trans s56))) (rep_t4.mpr ⟨e, _, _, _, _, rfl, by rw [hid_ne el]; exact ee, rep_str.mpr rfl, ry2.mono (hid_mono (s5.trans s56)), rep_lst.mpr ⟨b, [], rfl, by rw [hid_ne bl]; exact s6 _ _ upd_same, repL_nil.mpr rfl⟩, rep_str.mpr rfl⟩)
      · rcases List.mem_append.mp hr with hr | hr
        · exact gr r hr
        · rw [List.mem_singleton.mp hr]; exact ⟨rfl, hg⟩
    · rintro σ H2 ⟨s2, ⟨rs, xs, lr, hx, rx, gr⟩, z1, z2, z3, z4, z5, z6, rfl⟩
      simp_all only []
      exact kk _ rs H2 s2 (rep_lst.mpr ⟨l, xs, rfl, hx, rx.mono hid_sub⟩) ⟨by omega, gr⟩ (by omega)
theorem sc__law_open : FnScope ["_law_counts_here", "_law_numbers_here", "_law_when", "_law_k"] ["_law_counts_here", "_law_numbers_here", "_law_when"] (defScope (top 54)) := ⟨rfl, rfl, rfl, by decide +kernel, rfl, by decide +kernel, by decide +kernel⟩
theorem ok_op (T : Txt K mg q_LuckError q_NoShare q_NoTable q_NoPool q_NoEnd q_TooMany q_NoGame q_NoWay q_NoRule q_NoStep q_NoPlay q_NoRow q_Course q_Finder) : Cal P w K mg base (CX1 P w) 1 "_law_open" ["_law_counts_here", "_law_numbers_here", "_law_when"] spOp := by
  refine T.d__law_open.cal (fun _ _ _ _ _ _ us hl => match us, hl with | [_, _, _], _ => rfl) fun f fd F => F.okC sc__law_open (fun vs H Q E h => ?_) (fun cdv A outer s H vs Q E hr h => ?_)
  · obtain ⟨_, _, _, _, _, _, rfl, _⟩ := h; rfl
  · obtain ⟨v, nl, u, cs, ns, wh, rfl, rc, hn, ln, nc, l3, rw, kk⟩ := h
    have nd := sc__law_open.nd
    refine ⟨_, (pss_cons (ps_if (pt_cmpR op_isN (pv 2) pe_non (nomark _)) (pss_one (ps_ret pe_bl))
      pss_nil)
    (pss_cons (ps_for PassesOwn.never rfl (pi_range1 rfl T.z_range (pa_cons (pe_callB call_lenL (by rfl) T.z_len PySem.boot_len (pa_cons (pv 0) pa_nil (se rfl)) (he := se rfl) (hpl := na rfl)) pa_nil (se rfl))) (pg_name (i := 3) nd rfl (Or.inl rfl)) (pss_one (ps_if (pt_cmpR op_eq (pe_ix ix_tupH (pe_ix ix_listH (pv 0) (pv 3) (fun _ _ => rfl)) pe_int (fun _ _ => rfl)) (pe_ix ix_tupH (pv 2) pe_int (fun _ _ => rfl)) (nomark _)) (pss_one (ps_ret (pe_cmpR op_eq (pe_cmpR op_ge (pe_ix ix_listH (pv 1) (pv 3) (fun _ _ => rfl)) (pe_ix ix_tupH (pv 2) pe_int (fun _ _ => rfl)) (nomark _)) (pe_cmpR op_eq (pe_ix ix_tupH (pv 2) pe_int (fun _ _ => rfl)) pe_str (nomark _)) (nomark _))))
      pss_nil)))
    (pss_one (ps_ret pe_bl)))), ?_⟩
    have sl := sizeLine_eq
    obtain ⟨cl, cvs, rfl, hcl, rcl⟩ := rep_lst.mp (show Rep H (.lst _) v from rc)
    have clen := rcl.length
    rw [List.length_map] at clen
    have place : ∀ {i : Nat} {c}, cs[i]? = some c → ∃ q, cvs[i]? = some (.ref q) ∧ H q = some (.tup [.str c.1, .int c.2]) := fun {i c} e => by
      obtain ⟨v, ev, rv⟩ := rcl.at (i := i) (by rw [List.getElem?_map, e]; rfl)
      obtain ⟨q, a, b, rfl, hq, r1, r2⟩ := rep_t2.mp (show Rep H (.tup _) v from rv)
      rw [rep_str] at r1
      rw [rep_int] at r2
      subst r1 r2
      exact ⟨q, ev, hq⟩
    cases wh with
    | none =>
      have e : u = .non := by simpa [whD, Rep] using rw
      subst e
      simp_all only []
      exact kk
    | some x =>
      obtain ⟨n, x, k⟩ := x
      obtain ⟨q, u1, u2, u3, rfl, hq, w1, w2, w3⟩ := rep_t3.mp (show Rep H (.tup _) u from rw)
      rw [rep_str] at w1 w2
      rw [rep_int] at w3
      subst w1 w2 w3
      simp_all only []
      rw [if_neg (by simp)]
      refine ⟨_, hcl, by omega, by omega, for_src (src_range (Ok := fun H' => H' = H)) (fun i σ H' => H' = H ∧ (∀ j c, j < i → cs[j]? = some c → c.1 ≠ n) ∧ ∃ z, σ = [some (.ref cl), some (.ref nl), some (.ref q), z]) ⟨rfl, (fun j c h => by omega), _, rfl⟩ (fun _ _ _ _ h => h.1) ?_ ?_⟩
      · rintro i y σ H3 H2 hi ⟨rfl, no, z, rfl⟩ ⟨rfl, rfl⟩
        have hi' : i < cs.length := by omega
        have ec : cs[i]? = some cs[i] := List.getElem?_eq_getElem hi'
        obtain ⟨q', eq', hq'⟩ := place ec
        have hat : atI cvs (0 + (i : Int)) = some (.ref q') := by rw [Int.zero_add]; exact atI_nat eq'
        have hnt : atI (List.map V.int ns) (0 + (i : Int)) = some (.int (ns.getD i 0)) := by rw [Int.zero_add]; exact at_ints (by omega)
        simp_all only []
        refine ⟨_, hcl, _, hat, _, rfl, _, hq', _, rfl, _, hq, _, rfl, rfl, ?_⟩
        by_cases e : cs[i].1 = n
        · rw [if_pos (by rw [e])]
          refine ⟨_, hn, _, hnt, _, hq, _, rfl, _, rfl, _, rfl, _, hq, _, rfl, rfl, ?_⟩
          rw [holds_at nc ec e] at kk
          exact kk
        · rw [if_neg (fun z => e (by injection z))]
          refine ⟨fun j c hj ec' => ?_, _, rfl⟩
          by_cases z : j = i
          · subst z; rw [ec] at ec'; cases ec'; exact e
          · exact no j c (by omega) ec'
      · rintro σ H2 ⟨rfl, no, z, rfl⟩
        simp_all only []
        have nn : n ∉ cs.map (·.1) := fun h => by
          obtain ⟨c, hc, e⟩ := List.mem_map.mp h
          obtain ⟨j, ej⟩ := List.getElem?_of_mem hc
          exact no j c (by have := (List.getElem?_eq_some_iff.mp ej).1; omega) ej e
        have e : holdsW cs ns (some (n, x, k)) = false := by unfold holdsW; exact if_neg nn
        rw [e] at kk
        exact kk
theorem sc__law_game : FnScope ["_law_counts_here", "_law_numbers_here", "_law_who", "_law_rows_here", "_law_deeds", "_law_places", "_law_k"] ["_law_counts_here", "_law_numbers_here", "_law_who", "_law_rows_here"] (defScope (top 55)) := ⟨rfl, rfl, rfl, by decide +kernel, rfl, by decide +kernel, by decide +kernel⟩
theorem ok_ga (T : Txt K mg q_LuckError q_NoShare q_NoTable q_NoPool q_NoEnd q_TooMany q_NoGame q_NoWay q_NoRule q_NoStep q_NoPlay q_NoRow q_Course q_Finder) : Cal P w K mg base (CX1 P w) 1 "_law_game" ["_law_counts_here", "_law_numbers_here", "_law_who", "_law_rows_here"] spGa := by
  refine T.d__law_game.cal (fun _ _ _ _ _ _ us hl => match us, hl with | [_, _, _, _], _ => rfl) fun f fd F => F.okC sc__law_game (fun vs H Q E h => ?_) (fun cdv A outer s H vs Q E hr h => ?_)
  · obtain ⟨_, _, _, _, _, _, _, rfl, _⟩ := h; rfl
  · obtain ⟨v, nl, wo, u, cs, ns, rs, rfl, rc, hn, gc, gn, rr, kk⟩ := h
    have nd := sc__law_game.nd
    refine ⟨_, (pss_cons (ps_setC (i := 4) rfl nd rfl rfl (N := ["_law_counts_here", "_law_numbers_here", "_law_who", "_law_rows_here", "_law_deeds", "_law_places", "_law_k"]) (so := defScope (top 55)) (N' := ["_law_k", "_law_counts_here", "_law_numbers_here"]) (k := 1) (fr := [0, 1]) rfl rfl ⟨rfl, by decide +kernel, by decide +kernel, by decide +kernel, rfl, by decide +kernel, by decide +kernel⟩ (pi_range1 rfl T.z_range (pa_cons (pe_callB call_lenL (by rfl) T.z_len PySem.boot_len (pa_cons (pv 0) pa_nil (se rfl)) (he := se rfl) (hpl := na rfl)) pa_nil (se rfl))) (fun _ _ _ _ _ => (pg_name (i := 0) (show (["_law_k", "_law_counts_here", "_law_numbers_here"] : List Str).Nodup by decide +kernel) rfl (Or.inl rfl))) (fun _ _ _ _ _ => pts_nil)
      (fun _ _ _ _ _ => (pe_tupS (pa_cons pe_str (pa_cons (pe_ix ix_tupH (pe_ix ix_listH (pv 1) (pv 0) (fun _ _ => rfl)) pe_int (fun _ _ => rfl)) (pa_cons (pe_ix ix_listH (pv 2) (pv 0) (fun _ _ => rfl)) pa_nil (se rfl)) (se rfl)) (se rfl)))))
    (pss_cons (ps_set (i := 5) nd rfl (Or.inl rfl) (pe_lst (pa_cons (pe_tupS (pa_cons pe_str (pa_cons (pe_tupS (pa_cons pe_str (pa_cons (pe_op op_sub pe_int (pv 2)) (pa_cons (pe_lst (pa_cons (pe_tupS (pa_cons pe_str (pa_cons pe_non (pa_cons (pv 4) (pa_cons pe_str pa_nil (se rfl)) (se rfl)) (se rfl)) (se rfl))) pa_nil (se rfl))) pa_nil (se rfl)) (se rfl)) (se rfl))) pa_nil (se rfl)) (se rfl))) (pa_cons (pe_tupS (pa_cons pe_str (pa_cons (pe_tupS (pa_cons pe_str (pa_cons (pv 2) (pa_cons (pv 3) pa_nil (se rfl)) (se rfl)) (se rfl))) pa_nil (se rfl)) (se rfl))) pa_nil (se rfl)) (se rfl))))
    (pss_cons (ps_for PassesOwn.never rfl (pi_range1 rfl T.z_range (pa_cons pe_int pa_nil (se rfl))) (pg_name (i := 6) nd rfl (Or.inl rfl)) (pss_one (ps_expr (pe_bm PySem.F.plainAttrs_list PySem.F.slot_list_append PySem.F.type_list_append mt_append.r (pv 5) (pa_cons (pe_tupS (pa_cons (pe_ix ix_listH (pe_lst (pa_cons pe_str (pa_cons pe_str (pa_cons pe_str (pa_cons pe_str pa_nil (se rfl)) (se rfl)) (se rfl)) (se rfl))) (pv 6) (fun _ _ => rfl)) (pa_cons (pe_tupS (pa_cons pe_str (pa_cons (pe_tupS (pa_cons (pv 6) (pa_cons pe_int pa_nil (se rfl)) (se rfl))) pa_nil (se rfl)) (se rfl))) pa_nil (se rfl)) (se rfl))) pa_nil (se rfl))))))
    (pss_one (ps_ret (pe_tupS (pa_cons (pv 0) (pa_cons (pv 5) pa_nil (se rfl)) (se rfl)))))))), ?_⟩
    have sl := sizeLine_eq
    obtain ⟨cl, cvs, rfl, hcl, rcl⟩ := rep_lst.mp (show Rep H (.lst _) v from rc)
    have clen := rcl.length
    rw [List.length_map] at clen
    have place : ∀ {i : Nat} {c}, cs[i]? = some c → ∃ q, cvs[i]? = some (.ref q) ∧ H q = some (.tup [.str c.1, .int c.2]) := fun {i c} e => by
      obtain ⟨v, ev, rv⟩ := rcl.at (i := i) (by rw [List.getElem?_map, e]; rfl)
      obtain ⟨q, a, b, rfl, hq, r1, r2⟩ := rep_t2.mp (show Rep H (.tup _) v from rv)
      rw [rep_str] at r1
      rw [rep_int] at r2
      subst r1 r2
      exact ⟨q, ev, hq⟩
    obtain ⟨c1, c3, cg⟩ := id gc
    have ln := gn.1
    change tSeq _ _ _ [some (.ref cl), some (.ref nl), some (.int wo), some u, none, none, none] H
    refine seq_gen (fun σ' H1 => Same H H1 ∧ ∃ d, Rep H1 (.lst ((dds cs ns).map ddD)) d ∧ σ' = [some (.ref cl), some (.ref nl), some (.int wo), some u, some d, none, none]) ?_ (fun N hN => ?_)
    case refine_2 =>
      simp_all only []
      refine ⟨_, hcl, by omega, by omega, ?_⟩
      refine comp_map (src_range (Ok := Same H)) (fun _ _ _ _ h => by rw [h.1]; exact Same.refl _) (by omega) (fun i y H' => ∃ d, (dds cs ns)[i]? = some d ∧ Rep H' (ddD d) y) (fun _ _ _ _ k ⟨d, e, r⟩ => ⟨d, e, r.mono k⟩) ?_ ?_
      · rintro i x z H3 H2 Q' hi s2 ⟨rfl, rfl⟩ yy
        have hi' : i < cs.length := by omega
        have hn' : i < ns.length := by omega
        have ec : cs[i]? = some cs[i] := List.getElem?_eq_getElem hi'
        have en : ns[i]? = some ns[i] := List.getElem?_eq_getElem hn'
        obtain ⟨q', eq', hq'⟩ := place ec
        have hat : atI cvs (0 + (i : Int)) = some (.ref q') := by rw [Int.zero_add]; exact atI_nat eq'
        have hnt : atI (List.map V.int ns) (0 + (i : Int)) = some (.int ns[i]) := by rw [Int.zero_add]; exact atI_pl en
        have ed : (dds cs ns)[i]? = some (.set cs[i].1 ns[i]) := by
          unfold dds
          rw [List.getElem?_map, (List.getElem?_zip_eq_some (z := (cs[i], ns[i]))).mpr ⟨ec, en⟩]
          rfl
        simp_all only []
        refine ⟨_, s2 _ _ hcl, _, hat, _, rfl, _, s2 _ _ hq', _, rfl, _, s2 _ _ hn, _, hnt, by omega, fun p H4 s4 np hp => yy _ _ s4 ⟨_, ed, rep_t3.mpr ⟨p, _, _, _, rfl, hp, rep_str.mpr rfl, rep_str.mpr rfl, rep_int.mpr rfl⟩⟩⟩
      · intro ys H2 s2 ly hy D nD1 nD2
        refine hN _ _ ⟨s2.trans (same_upd nD2), _, rep_lst.mpr ⟨D, ys, rfl, upd_same, RepL.of ?_ fun i d y ed ey => ?_⟩, rfl⟩
        · rw [List.length_map]; unfold dds; rw [List.length_map, List.length_zip]; omega
        · rw [List.getElem?_map] at ed
          obtain ⟨d0, e0, rfl⟩ := Option.map_eq_some_iff.mp ed
          obtain ⟨d1, e1, r⟩ := hy i y ey
          rw [e0] at e1
          cases e1
          exact r.mono (same_upd nD2)
    rintro _ H1 ⟨s1, d, rd, rfl⟩
    change tSeq _ _ _ [some (.ref cl), some (.ref nl), some (.int wo), some u, some d, none, none] H1
    refine seq_gen (fun σ' H2 => Same H H2 ∧ ∃ l xs, H l = none ∧ H2 l = some (.lst xs) ∧ RepL (hid H2 l) (((gmO cs ns wo rs).ps.take 2).map fun p => .tup [.str p.1, wtD p.2]) xs ∧ σ' = [some (.ref cl), some (.ref nl), some (.int wo), some u, some d, some (.ref l), none]) ?_ (fun N hN => ?_)
    case refine_2 =>
      simp_all only []
      refine ⟨by omega, fun a Ha sa na ea => ⟨by omega, fun b nb => ⟨by omega, fun c Hc sc nc ec => ⟨by omega, fun e He se ne ee => ⟨by omega, fun g Hg sg ng eg => ⟨by omega, fun h Hh sh nh eh => ⟨by omega, fun l nl' => ?_⟩⟩⟩⟩⟩⟩⟩
      have sbh : Same (upd Ha b (.lst [V.ref a])) Hh := sc.trans (se.trans (sg.trans sh))
      have sah : Same Ha Hh := (same_upd nb).trans sbh
      have s1h : Same H1 Hh := sa.trans sah
      refine hN _ _ ⟨s1.trans (s1h.trans (same_upd nl')), l, _, none_of (s1.trans s1h) nl', upd_same, ?_, rfl⟩
      rw [hid_hid', hid_none nl']
      refine repL_cons.mpr ⟨_, _, rfl, rep_t2.mpr ⟨e, _, _, rfl, (sg.trans sh) _ _ ee, rep_str.mpr rfl, ?_⟩, repL_cons.mpr ⟨_, _, rfl, rep_t2.mpr ⟨h, _, _, rfl, eh, rep_str.mpr rfl, ?_⟩, repL_nil.mpr rfl⟩⟩
      · exact rep_t3.mpr ⟨c, _, _, _, rfl, (se.trans (sg.trans sh)) _ _ ec, rep_str.mpr rfl, rep_int.mpr rfl, rep_lst.mpr ⟨b, _, rfl, sbh _ _ upd_same, repL_cons.mpr ⟨_, _, rfl, rep_t4.mpr ⟨a, _, _, _, _, rfl, sah _ _ ea, rep_str.mpr rfl, (by show Rep Hh .non _; rw [Rep]), rd.mono s1h, rep_str.mpr rfl⟩, repL_nil.mpr rfl⟩⟩⟩
      · exact rep_t3.mpr ⟨g, _, _, _, rfl, sh _ _ eg, rep_str.mpr rfl, rep_int.mpr rfl, rr.mono (s1.trans s1h)⟩
    rintro _ H2 ⟨s2, l, xs, nl0, hl, rx, rfl⟩
    have xl := rx.length
    simp_all only []
    refine ⟨by omega, by omega, for_src (src_range (Ok := Same H)) (fun i σ H' => Same H H' ∧ (∃ xs, H' l = some (.lst xs) ∧ RepL (hid H' l) (((gmO cs ns wo rs).ps.take (2 + i)).map fun p => .tup [.str p.1, wtD p.2]) xs) ∧ ∃ z, σ = [some (.ref cl), some (.ref nl), some (.int wo), some u, some d, some (.ref l), z]) ⟨s2, ⟨xs, hl, rx⟩, _, rfl⟩ (fun _ _ _ _ h => h.1) ?_ ?_⟩
    · rintro i x σ H4 H3 hi ⟨s3, ⟨xs, hl, rx⟩, z, rfl⟩ ⟨rfl, rfl⟩
      have xl := rx.length
      have ty : tyV K "list" (.ref l) H3 := .inl ⟨rfl, _, SqL.of hl⟩
      obtain ⟨nm, en, ep⟩ := ps_at (cs := cs) (ns := ns) (wo := wo) (rs := rs) hi
      have hat : atI [V.str (Str.ofString "a"), V.str (Str.ofString "b"), V.str (Str.ofString "c"), V.str (Str.ofString "d")] (0 + (i : Int)) = some (.str nm) := by
        rw [Int.zero_add]
        exact atI_pl (f := V.str) (as := abcd) en
      rw [List.length_map, List.length_take] at xl
      simp_all only [rAppend]
      refine ⟨ty, by omega, fun a na => ⟨_, upd_same, _, hat, by omega, fun b Hb sb nb eb => ⟨by omega, fun c Hc sc nc ec => ⟨by omega, fun e He se ne ee => ?_⟩⟩⟩⟩
      have s3b : Same H3 Hb := (same_upd na).trans sb
      have s3e : Same H3 He := s3b.trans (sc.trans se)
      have el : e ≠ l := fun z => by rw [z, (s3b.trans sc) _ _ hl] at ne; cases ne
      have clx : c ≠ l := fun z => by rw [z, s3b _ _ hl] at nc; cases nc
      have bl : b ≠ l := fun z => by rw [z, same_upd na _ _ hl] at nb; cases nb
      refine ⟨_, s3e _ _ hl, by omega, same_upd_of (s3.trans s3e) nl0, ⟨_, upd_same, ?_⟩, _, rfl⟩
      rw [← Nat.add_assoc, List.take_add_one, ep, List.map_append]
      refine rep_push (rx.mono (hid_mono s3e)) (rep_t2.mpr ⟨e, _, _, rfl, by rw [hid_ne el]; exact ee, rep_str.mpr rfl, rep_t2.mpr ⟨c, _, _, rfl, by rw [hid_ne clx]; exact se _ _ ec, rep_str.mpr rfl, rep_t2.mpr ⟨b, _, _, rfl, by rw [hid_ne bl]; exact (sc.trans se) _ _ eb, rep_int.mpr (by rw [Int.zero_add]), rep_int.mpr rfl⟩⟩⟩)
    · rintro σ H3 ⟨s3, ⟨xs, hl, rx⟩, z, rfl⟩
      simp_all only []
      refine ⟨by omega, fun p H4 s4 np hp => kk _ H4 (s3.trans s4) (rep_t2.mpr ⟨p, _, _, rfl, hp, rc.mono (s3.trans s4), rep_lst.mpr ⟨l, xs, rfl, s4 _ _ hl, ?_⟩⟩)⟩
      exact rx.mono (hid_sub.trans s4)
theorem inV_strs (x : Str) (l : List Str) : inV (V.str x) (l.map V.str) = decide (x ∈ l) := by
  induction l with
  | nil => rfl
  | cons y l ih =>
    rw [List.map_cons]
    unfold inV at ih ⊢
    rw [List.any_cons, ih]
    have e : eqV (V.str y) (V.str x) = decide (x = y) := by
      by_cases c : x = y
      · subst c; rw [decide_eq_true rfl]; simp [eqV]
      · rw [decide_eq_false c]; simp [eqV, Ne.symm c]
    rw [e]
    by_cases c : x = y
    · simp [c]
    · simp [c]
theorem flat_strs (l : List Str) : (l.map V.str).all flatV = true := List.all_eq_true.mpr fun y hy => by
  obtain ⟨_, _, rfl⟩ := List.mem_map.mp hy
  rfl
theorem rep_strs {H : Hp} : ∀ l : List Str, RepL H (l.map Dat.str) (l.map V.str)
  | [] => repL_nil.mpr rfl
  | _ :: l => repL_cons.mpr ⟨_, _, rfl, rep_str.mpr rfl, rep_strs l⟩
theorem kd_str {n : Str} (h : n ∈ abcd) : Kd (.str n) := ⟨(abcd_ok n h).2.2, by rw [toP, PyData.depth]; decide⟩
theorem toP_strs (l : List Str) : (l.map Dat.str).map toP = l.map PyData.str := by
  rw [List.map_map]
  exact List.map_congr_left fun a _ => by show toP (.str a) = _; rw [toP]
theorem idx_first : ∀ {l : List Str} {x : Str} {j : Nat}, j < l.idxOf x → l[j]? ≠ some x
  | [], _, _, h => by simp at h
  | y :: l, x, j, h => by
    rw [List.idxOf_cons] at h
    by_cases c : y = x
    · rw [c, beq_self_eq_true] at h; exact absurd h (Nat.not_lt_zero _)
    · rw [beq_false_of_ne c] at h
      cases j with
      | zero => simpa using c
      | succ j => rw [List.getElem?_cons_succ]; exact idx_first (l := l) (Nat.lt_of_succ_lt_succ h)
theorem idx_at {l : List Str} {x : Str} (h : x ∈ l) : ((l.map Dat.str).map toP)[l.idxOf x]? = some (toP (.str x)) ∧ ∀ j, j < l.idxOf x → ((l.map Dat.str).map toP)[j]? ≠ some (toP (.str x)) := by
  have hl := List.idxOf_lt_length_of_mem h
  rw [toP_strs, show toP (.str x) = PyData.str x by rw [toP]]
  refine ⟨by rw [List.getElem?_map, List.getElem?_eq_getElem hl, List.getElem_idxOf]; rfl, fun j hj e => ?_⟩
  rw [List.getElem?_map] at e
  obtain ⟨y, ey, e⟩ := Option.map_eq_some_iff.mp e
  injection e with e
  exact idx_first hj (e ▸ ey)
theorem nms_snoc {os : List Rw} {r : Rw} : nmsO (os ++ [r]) = if r.to ∈ nmsO os then nmsO os else nmsO os ++ [r.to] := by
  unfold nmsO
  rw [List.map_append]
  exact ddp_snoc
theorem nms_mem {os : List Rw} {r : Rw} (h : r ∈ os) : r.to ∈ nmsO os := ddp_mem (List.mem_map.mpr ⟨r, h, rfl⟩)
theorem way_snoc {os : List Rw} {r : Rw} : (os ++ [r]).map (fun r' => V.int (2 + ((nmsO (os ++ [r])).idxOf r'.to : Nat))) = os.map (fun r' => V.int (2 + ((nmsO os).idxOf r'.to : Nat))) ++ [V.int (2 + ((nmsO (os ++ [r])).idxOf r.to : Nat))] := by
  rw [List.map_append]
  congr 1
  refine List.map_congr_left fun x hx => ?_
  rw [nms_snoc]
  split
  · rfl
  · rw [List.idxOf_append, if_pos (nms_mem hx)]
theorem sc__law_due : FnScope ["_law_counts_here", "_law_numbers_here", "_law_who", "_law_rows_here", "_law_words", "_law_names", "_law_ways", "_law_word", "_law_when", "_law_deeds", "_law_goal", "_law_board", "_law_states"] ["_law_counts_here", "_law_numbers_here", "_law_who", "_law_rows_here"] (defScope (top 56)) := ⟨rfl, rfl, rfl, by decide +kernel, rfl, by decide +kernel, by decide +kernel⟩
theorem ok_du (T : Txt K mg q_LuckError q_NoShare q_NoTable q_NoPool q_NoEnd q_TooMany q_NoGame q_NoWay q_NoRule q_NoStep q_NoPlay q_NoRow q_Course q_Finder) : Cal P w K mg base (CX1 P w) 2 "_law_due" ["_law_counts_here", "_law_numbers_here", "_law_who", "_law_rows_here"] spDu := by
  have c__law_open : Cal P w K mg base (CX1 P w) 1 "_law_open" ["_law_counts_here", "_law_numbers_here", "_law_when"] spOp := ok_op T
  refine T.d__law_due.cal (fun _ _ _ _ _ _ us hl => match us, hl with | [_, _, _, _], _ => rfl) fun f fd F => F.okC sc__law_due (fun vs H Q E h => ?_) (fun cdv A outer s H vs Q E hr h => ?_)
  · obtain ⟨_, _, _, _, _, _, _, rfl, _⟩ := h; rfl
  · obtain ⟨v, nl, wo, u, cs, ns, rs, rfl, rc, hn, gc, gn, rr, gr, kN, kD⟩ := h
    have nd := sc__law_due.nd
    refine ⟨_, (pss_cons (ps_set (i := 4) nd rfl (Or.inl rfl) (pe_lst pa_nil))
    (pss_cons (ps_set (i := 5) nd rfl (Or.inl rfl) (pe_lst pa_nil))
    (pss_cons (ps_set (i := 6) nd rfl (Or.inl rfl) (pe_lst pa_nil))
    (pss_cons (ps_for PassesOwn.never rfl (pi_listK (K := K) (pv 3)) (pg_tupK (K := K) (n := 4) rfl (pgs_cons (pg_name (i := 7) nd rfl (Or.inl rfl)) (pgs_cons (pg_name (i := 8) nd rfl (Or.inl rfl)) (pgs_cons (pg_name (i := 9) nd rfl (Or.inl rfl)) (pgs_cons (pg_name (i := 10) nd rfl (Or.inl rfl)) pgs_nil))))) (pss_one (ps_if (pt_val (pe_cal c__law_open (hr.mono (by decide)) rfl strictP.pass (pa_cons (pv 0) (pa_cons (pv 1) (pa_cons (pv 8) pa_nil (se rfl)) (se rfl)) (se rfl)) (he := se rfl) (hpl := na rfl))) (pss_cons (ps_expr (pe_bm PySem.F.plainAttrs_list PySem.F.slot_list_append PySem.F.type_list_append mt_append.r (pv 4) (pa_cons (pv 7) pa_nil (se rfl))))
    (pss_cons (ps_if (pt_cmpR (op_notIn_seqK (K := K)) (pv 10) (pv 5) rfl) (pss_one (ps_expr (pe_bm PySem.F.plainAttrs_list PySem.F.slot_list_append PySem.F.type_list_append mt_append.r (pv 5) (pa_cons (pv 10) pa_nil (se rfl)))))
      pss_nil)
    (pss_one (ps_expr (pe_bm PySem.F.plainAttrs_list PySem.F.slot_list_append PySem.F.type_list_append mt_append.r (pv 6) (pa_cons (pe_op op_add pe_int (pe_bm PySem.F.plainAttrs_list PySem.F.slot_list_index PySem.F.type_list_index (mt_nindex hr.units) (pv 5) (pa_cons (pv 10) pa_nil (se rfl)))) pa_nil (se rfl)))))))
      pss_nil)))
    (pss_cons (ps_if (pt_cmpR (op_eqF hr.units0) (pv 4) (pe_lst pa_nil) (nomark _)) (pss_one (ps_ret pe_non))
      pss_nil)
    (pss_cons (ps_set (i := 11) nd rfl (Or.inl rfl) (pe_lst (pa_cons (pe_tupS (pa_cons pe_str (pa_cons (pe_op op_sub pe_int (pv 2)) (pa_cons (pe_lst (pa_cons pe_int pa_nil (se rfl))) pa_nil (se rfl)) (se rfl)) (se rfl))) (pa_cons (pe_tupS (pa_cons pe_str (pa_cons (pv 2) (pa_cons (pv 6) pa_nil (se rfl)) (se rfl)) (se rfl))) pa_nil (se rfl)) (se rfl))))
    (pss_cons (ps_set (i := 11) nd rfl (Or.inl rfl) (pe_op op_cat (pv 11) (pe_comp rfl (N := ["_law_counts_here", "_law_numbers_here", "_law_who", "_law_rows_here", "_law_words", "_law_names", "_law_ways", "_law_word", "_law_when", "_law_deeds", "_law_goal", "_law_board", "_law_states"]) (so := defScope (top 56)) (N' := ["_law_name"]) (k := 1) (fr := []) rfl rfl ⟨rfl, by decide +kernel, by decide +kernel, by decide +kernel, rfl, by decide +kernel, by decide +kernel⟩ (pi_listK (K := K) (pv 5)) (fun _ _ _ _ _ => (pg_name (i := 0) (show (["_law_name"] : List Str).Nodup by decide +kernel) rfl (Or.inl rfl))) (fun _ _ _ _ _ => pts_nil)
      (fun _ _ _ _ _ => (pe_tupS (pa_cons pe_str (pa_cons (pe_tupS (pa_cons (pe_bmK (K := K) PySem.F.plainAttrs_list PySem.F.slot_list_index PySem.F.type_list_index (mt_nindex (by exact hr.units)) (pe_lst (pa_cons pe_str (pa_cons pe_str (pa_cons pe_str (pa_cons pe_str pa_nil (se rfl)) (se rfl)) (se rfl)) (se rfl))) (pa_cons (pv 0) pa_nil (se rfl))) (pa_cons pe_int pa_nil (se rfl)) (se rfl))) pa_nil (se rfl)) (se rfl)))))))
    (pss_cons (ps_set (i := 12) nd rfl (Or.inl rfl) (pe_op op_cat (pe_lst (pa_cons (pe_tupS (pa_cons pe_str (pa_cons (pe_comp rfl (N := ["_law_counts_here", "_law_numbers_here", "_law_who", "_law_rows_here", "_law_words", "_law_names", "_law_ways", "_law_word", "_law_when", "_law_deeds", "_law_goal", "_law_board", "_law_states"]) (so := defScope (top 56)) (N' := ["_law_count"]) (k := 1) (fr := []) rfl rfl ⟨rfl, by decide +kernel, by decide +kernel, by decide +kernel, rfl, by decide +kernel, by decide +kernel⟩ (pi_listK (K := K) (pv 0)) (fun _ _ _ _ _ => (pg_name (i := 0) (show (["_law_count"] : List Str).Nodup by decide +kernel) rfl (Or.inl rfl))) (fun _ _ _ _ _ => pts_nil)
      (fun _ _ _ _ _ => pe_int)) pa_nil (se rfl)) (se rfl))) (pa_cons (pe_tupS (pa_cons pe_str (pa_cons (pv 1) pa_nil (se rfl)) (se rfl))) pa_nil (se rfl)) (se rfl))) (pe_comp rfl (N := ["_law_counts_here", "_law_numbers_here", "_law_who", "_law_rows_here", "_law_words", "_law_names", "_law_ways", "_law_word", "_law_when", "_law_deeds", "_law_goal", "_law_board", "_law_states"]) (so := defScope (top 56)) (N' := ["_law_name", "_law_numbers_here"]) (k := 1) (fr := [1]) rfl rfl ⟨rfl, by decide +kernel, by decide +kernel, by decide +kernel, rfl, by decide +kernel, by decide +kernel⟩ (pi_listK (K := K) (pv 5)) (fun _ _ _ _ _ => (pg_name (i := 0) (show (["_law_name", "_law_numbers_here"] : List Str).Nodup by decide +kernel) rfl (Or.inl rfl))) (fun _ _ _ _ _ => pts_nil)
      (fun _ _ _ _ _ => (pe_tupS (pa_cons (pv 0) (pa_cons (pv 1) pa_nil (se rfl)) (se rfl)))))))
    (pss_one (ps_ret (pe_tupS (pa_cons (pv 11) (pa_cons (pv 12) (pa_cons (pe_op op_cat (pe_lst (pa_cons (pe_lst (pa_cons pe_str pa_nil (se rfl))) (pa_cons (pv 4) pa_nil (se rfl)) (se rfl))) (pe_comp rfl (N := ["_law_counts_here", "_law_numbers_here", "_law_who", "_law_rows_here", "_law_words", "_law_names", "_law_ways", "_law_word", "_law_when", "_law_deeds", "_law_goal", "_law_board", "_law_states"]) (so := defScope (top 56)) (N' := ["_law_name"]) (k := 1) (fr := []) rfl rfl ⟨rfl, by decide +kernel, by decide +kernel, by decide +kernel, rfl, by decide +kernel, by decide +kernel⟩ (pi_listK (K := K) (pv 5)) (fun _ _ _ _ _ => (pg_name (i := 0) (show (["_law_name"] : List Str).Nodup by decide +kernel) rfl (Or.inl rfl))) (fun _ _ _ _ _ => pts_nil)
      (fun _ _ _ _ _ => (pe_lst pa_nil)))) pa_nil (se rfl)) (se rfl)) (se rfl))))))))))))), ?_⟩
    have sl := sizeLine_eq
    obtain ⟨cl, cvs, rfl, hcl, rcl⟩ := rep_lst.mp (show Rep H (.lst _) v from rc)
    have clen := rcl.length
    rw [List.length_map] at clen
    have place : ∀ {i : Nat} {c}, cs[i]? = some c → ∃ q, cvs[i]? = some (.ref q) ∧ H q = some (.tup [.str c.1, .int c.2]) := fun {i c} e => by
      obtain ⟨v, ev, rv⟩ := rcl.at (i := i) (by rw [List.getElem?_map, e]; rfl)
      obtain ⟨q, a, b, rfl, hq, r1, r2⟩ := rep_t2.mp (show Rep H (.tup _) v from rv)
      rw [rep_str] at r1
      rw [rep_int] at r2
      subst r1 r2
      exact ⟨q, ev, hq⟩
    obtain ⟨c1, c3, cg⟩ := id gc
    have ln := gn.1
    obtain ⟨ndc, hsc⟩ := good_nms gc
    obtain ⟨rl, rvs, rfl, hrl, rrl⟩ := rep_lst.mp (show Rep H (.lst _) u from rr)
    have rlen := rrl.length
    rw [List.length_map, List.length_map] at rlen
    have r10 := gr.1
    change tSeq _ _ _ [some (.ref cl), some (.ref nl), some (.int wo), some (.ref rl), none, none, none, none, none, none, none, none, none] H
    refine seq_gen (fun σ' H1 => Same H H1 ∧ ∃ wl, H wl = none ∧ H1 wl = some (.lst []) ∧ σ' = [some (.ref cl), some (.ref nl), some (.int wo), some (.ref rl), some (.ref wl), none, none, none, none, none, none, none, none]) ?_ (fun N hN => ?_)
    case refine_2 =>
      simp_all only []
      exact ⟨Nat.zero_le _, fun l nl => hN _ _ ⟨same_upd nl, l, nl, upd_same, rfl⟩⟩
    rintro _ H1 ⟨s1, wl, nwl, hwl, rfl⟩
    change tSeq _ _ _ [some (.ref cl), some (.ref nl), some (.int wo), some (.ref rl), some (.ref wl), none, none, none, none, none, none, none, none] H1
    refine seq_gen (fun σ' H2 => Same H1 H2 ∧ ∃ nm, H1 nm = none ∧ H2 nm = some (.lst []) ∧ σ' = [some (.ref cl), some (.ref nl), some (.int wo), some (.ref rl), some (.ref wl), some (.ref nm), none, none, none, none, none, none, none]) ?_ (fun N hN => ?_)
    case refine_2 =>
      simp_all only []
      exact ⟨Nat.zero_le _, fun l nl => hN _ _ ⟨same_upd nl, l, nl, upd_same, rfl⟩⟩
    rintro _ H2 ⟨s2, nm, nnm, hnm, rfl⟩
    change tSeq _ _ _ [some (.ref cl), some (.ref nl), some (.int wo), some (.ref rl), some (.ref wl), some (.ref nm), none, none, none, none, none, none, none] H2
    refine seq_gen (fun σ' H3 => Same H2 H3 ∧ ∃ wy, H2 wy = none ∧ H3 wy = some (.lst []) ∧ σ' = [some (.ref cl), some (.ref nl), some (.int wo), some (.ref rl), some (.ref wl), some (.ref nm), some (.ref wy), none, none, none, none, none, none]) ?_ (fun N hN => ?_)
    case refine_2 =>
      simp_all only []
      exact ⟨Nat.zero_le _, fun l nl => hN _ _ ⟨same_upd nl, l, nl, upd_same, rfl⟩⟩
    rintro _ H3 ⟨s3, wy, nwy, hwy, rfl⟩
    have wn : wl ≠ nm := fun z => by rw [← z, hwl] at nnm; cases nnm
    have wy1 : wl ≠ wy := fun z => by rw [← z, s2 _ _ hwl] at nwy; cases nwy
    have wy2 : nm ≠ wy := fun z => by rw [← z, hnm] at nwy; cases nwy
    have n1 : H nm = none := none_of s1 nnm
    have n2 : H wy = none := none_of (s1.trans s2) nwy
    let Lk : Hp → List Rw → Prop := fun H' os => Same H H' ∧ H' wl = some (.lst (os.map fun r => V.str r.word)) ∧ H' nm = some (.lst ((nmsO os).map V.str)) ∧ H' wy = some (.lst (os.map fun r => V.int (2 + ((nmsO os).idxOf r.to : Nat))))
    change tSeq _ _ _ [some (.ref cl), some (.ref nl), some (.int wo), some (.ref rl), some (.ref wl), some (.ref nm), some (.ref wy), none, none, none, none, none, none] H3
    refine seq_gen (fun σ' H4 => Lk H4 (opn cs ns rs) ∧ ∃ z1 z2 z3 z4, σ' = [some (.ref cl), some (.ref nl), some (.int wo), some (.ref rl), some (.ref wl), some (.ref nm), some (.ref wy), z1, z2, z3, z4, none, none]) ?_ (fun N hN => ?_)
    case refine_2 =>
      simp_all only []
      have hrl3 := (s1.trans (s2.trans s3)) _ _ hrl
      refine ⟨⟨_, SqL.of hrl3⟩, for_src (src_list (Ok := Same H) (fun H' k => SqL.of (k _ _ hrl))) (fun i σ H' => Lk H' (opn cs ns (rs.take i)) ∧ ∃ z1 z2 z3 z4, σ = [some (.ref cl), some (.ref nl), some (.int wo), some (.ref rl), some (.ref wl), some (.ref nm), some (.ref wy), z1, z2, z3, z4, none, none]) ⟨⟨s1.trans (s2.trans s3), (s2.trans s3) _ _ hwl, s3 _ _ hnm, hwy⟩, _, _, _, _, rfl⟩ (fun _ _ _ _ h => h.1.1) ?_ ?_⟩
      · rintro i x σ H5 H4 hi ⟨⟨s4, e1, e2, e3⟩, z1, z2, z3, z4, rfl⟩ ⟨rfl, ex⟩
        obtain ⟨dd, ed, rd⟩ := rrl.get ex
        rw [List.getElem?_map, List.getElem?_map] at ed
        obtain ⟨r4, e4, rfl⟩ := Option.map_eq_some_iff.mp ed
        obtain ⟨r, er, rfl⟩ := Option.map_eq_some_iff.mp e4
        obtain ⟨p, x1, x2, x3, x4, rfl, hp, q1, q2, q3, q4⟩ := rep_t4.mp (show Rep H (.tup _) x from rd)
        have q1 : x1 = .str r.word := rep_str.mp q1
        have q4 : x4 = .str r.to := rep_str.mp q4
        subst q1 q4
        have gri := gr.2 r (List.mem_of_getElem? er)
        have tk : opn cs ns (rs.take (i + 1)) = if holdsW cs ns r.wh = true then opn cs ns (rs.take i) ++ [r] else opn cs ns (rs.take i) := by
          rw [List.take_add_one, er]
          unfold opn
          rw [List.filter_append]
          by_cases c : holdsW cs ns r.wh = true
          · rw [if_pos c]; exact congrArg _ (List.filter_cons_of_pos c)
          · rw [if_neg c]
            have : List.filter (fun r => holdsW cs ns r.wh) (some r).toList = [] := List.filter_cons_of_neg c
            rw [this, List.append_nil]
        have ol : (opn cs ns (rs.take i)).length ≤ 10 := Nat.le_trans (List.length_filter_le _ _) (by rw [List.length_take]; omega)
        have nlen := nms_len (os := opn cs ns (rs.take i))
        have okk : ∀ r ∈ opn cs ns (rs.take i), r.ds = [] ∧ r.to ∈ abcd := fun r hr => gr.2 r (List.mem_of_mem_take (List.mem_filter.mp hr).1)
        generalize opn cs ns (rs.take i) = os at *
        refine ⟨p, _, rfl, SqT.of (s4 _ _ hp), rfl, ?_⟩
        simp_all only [spOp, rAppend, rIn, rNix]
        refine ⟨cs, rc.mono s4, _, s4 _ _ hn, ln, ndc, c3, r.wh, q2.mono s4, ?_⟩
        by_cases c : holdsW cs ns r.wh = true
        · rw [if_pos c] at tk ⊢
          rw [tk]
          have tyw : tyV K "list" (.ref wl) H4 := .inl ⟨rfl, _, SqL.of e1⟩
          have e2' : ∀ o, upd H4 wl o nm = some (.lst ((nmsO os).map V.str)) := fun o => by rw [upd_ne (Ne.symm wn)]; exact e2
          have e3' : ∀ o, upd H4 wl o wy = some (.lst (os.map fun r => V.int (2 + ((nmsO os).idxOf r.to : Nat)))) := fun o => by rw [upd_ne (Ne.symm wy1)]; exact e3
          refine ⟨tyw, _, e1, by rw [List.length_map]; omega, _, .inl (SqL.of (e2' _)), rfl, flat_strs _, ?_⟩
          rw [inV_strs]
          have kds : ∀ e ∈ (nmsO (os ++ [r])).map Dat.str, Kd e := fun e he => by
            obtain ⟨x, hx, rfl⟩ := List.mem_map.mp he
            refine kd_str (nms_abc (os := os ++ [r]) (fun r' hr' => ?_) x hx)
            rcases List.mem_append.mp hr' with h | h
            · exact okk r' h
            · rw [List.mem_singleton.mp h]; exact gri
          have mem : r.to ∈ nmsO (os ++ [r]) := nms_mem (List.mem_append_right _ (List.mem_singleton.mpr rfl))
          have ia := idx_at mem
          have il : (nmsO (os ++ [r])).idxOf r.to < 100000 := by
            have h1 := List.idxOf_lt_length_of_mem mem
            have h2 := nms_len (os := os ++ [r])
            rw [List.length_append, List.length_singleton] at h2
            omega
          by_cases hm : r.to ∈ nmsO os
          · have en : nmsO (os ++ [r]) = nmsO os := by rw [nms_snoc, if_pos hm]
            rw [decide_eq_true hm, if_neg (by decide)]
            have tyy : ∀ o, tyV K "list" (.ref wy) (upd H4 wl o) := fun o => .inl ⟨rfl, _, SqL.of (e3' o)⟩
            have tyn : ∀ o, tyV K "list" (.ref nm) (upd H4 wl o) := fun o => .inl ⟨rfl, _, SqL.of (e2' o)⟩
            refine ⟨tyy _, tyn _, _, e2' _, (nmsO (os ++ [r])).map Dat.str, by rw [en]; exact rep_strs _, kds, .str r.to, rep_str.mpr rfl, kd_str gri.2, _, ia.1, ia.2, il, _, e3' _, by rw [List.length_map]; omega, ⟨same_upd_of (same_upd_of s4 nwl) n2, ?_, ?_, ?_⟩, _, rfl⟩
            · rw [upd_ne wy1, upd_same, List.map_append]; rfl
            · rw [upd_ne wy2, e2', en]
            · rw [upd_same, way_snoc]
          · have en : nmsO (os ++ [r]) = nmsO os ++ [r.to] := by rw [nms_snoc, if_neg hm]
            have ev : (nmsO os).map V.str ++ [V.str r.to] = (nmsO (os ++ [r])).map V.str := by rw [en, List.map_append]; rfl
            rw [decide_eq_false hm, if_pos rfl]
            have tyn : ∀ o, tyV K "list" (.ref nm) (upd H4 wl o) := fun o => .inl ⟨rfl, _, SqL.of (e2' o)⟩
            have e3'' : ∀ o o', upd (upd H4 wl o) nm o' wy = some (.lst (os.map fun r => V.int (2 + ((nmsO os).idxOf r.to : Nat)))) := fun o o' => by rw [upd_ne (Ne.symm wy2)]; exact e3' o
            have tyy : ∀ o o', tyV K "list" (.ref wy) (upd (upd H4 wl o) nm o') := fun o o' => .inl ⟨rfl, _, SqL.of (e3'' o o')⟩
            have tyn' : ∀ o xs, tyV K "list" (.ref nm) (upd (upd H4 wl o) nm (.lst xs)) := fun o xs => .inl ⟨rfl, _, SqL.of upd_same⟩
            refine ⟨tyn _, _, e2' _, by rw [List.length_map]; omega, tyy _ _, tyn' _ _, _, upd_same, (nmsO (os ++ [r])).map Dat.str, by rw [ev]; exact rep_strs _, kds, .str r.to, rep_str.mpr rfl, kd_str gri.2, _, ia.1, ia.2, il, _, e3'' _ _, by rw [List.length_map]; omega, ⟨same_upd_of (same_upd_of (same_upd_of s4 nwl) n1) n2, ?_, ?_, ?_⟩, _, rfl⟩
            · rw [upd_ne wy1, upd_ne wn, upd_same, List.map_append]; rfl
            · rw [upd_ne wy2, upd_same, ev]
            · rw [upd_same, way_snoc]
        · rw [if_neg c] at tk ⊢
          rw [tk]
          exact ⟨⟨s4, e1, e2, e3⟩, _, rfl⟩
      · rintro σ H4 ⟨lk, z1, z2, z3, z4, rfl⟩
        rw [← rlen, List.take_of_length_le (Nat.le_refl _)] at lk
        exact hN _ _ ⟨lk, _, _, _, _, rfl⟩
    rintro _ H4 ⟨⟨s4, e1, e2, e3⟩, z1, z2, z3, z4, rfl⟩
    have ol : (opn cs ns rs).length ≤ 10 := Nat.le_trans (List.length_filter_le _ _) r10
    have nlen := nms_len (os := opn cs ns rs)
    have ok := opn_ok (cs := cs) (ns := ns) gr
    have ab := nms_abc ok
    generalize opn cs ns rs = os at *
    change tSeq _ _ _ [some (.ref cl), some (.ref nl), some (.int wo), some (.ref rl), some (.ref wl), some (.ref nm), some (.ref wy), z1, z2, z3, z4, none, none] H4
    refine seq_gen (fun σ' H5 => os ≠ [] ∧ Same H4 H5 ∧ σ' = [some (.ref cl), some (.ref nl), some (.int wo), some (.ref rl), some (.ref wl), some (.ref nm), some (.ref wy), z1, z2, z3, z4, none, none]) ?_ (fun N hN => ?_)
    case refine_2 =>
      simp_all only []
      refine ⟨Nat.zero_le _, fun p np => ⟨wl, p, _, _, rfl, rfl, same_upd np _ _ e1, upd_same, ?_, rfl, _, rfl, ?_⟩⟩
      · have := flat_strs (os.map (·.word))
        rwa [List.map_map] at this
      · by_cases c : os = []
        · subst c
          rw [if_pos (show eqL (List.map (fun r : Rw => V.str r.word) []) [] = true from rfl)]
          exact kN rfl _ (s4.trans (same_upd np))
        · rw [if_neg]
          · exact hN _ _ ⟨c, same_upd np, rfl⟩
          · have : 0 < os.length := List.length_pos_iff.mpr c
            unfold eqL
            rw [List.length_map, show ((os.length == ([] : List V).length) : Bool) = false from beq_false_of_ne (by rw [List.length_nil]; omega), Bool.and_false]
            decide
    rintro _ H5 ⟨ne, s5, rfl⟩
    have kD := kD ne
    change tSeq _ _ _ [some (.ref cl), some (.ref nl), some (.int wo), some (.ref rl), some (.ref wl), some (.ref nm), some (.ref wy), z1, z2, z3, z4, none, none] H5
    refine seq_gen (fun σ' H6 => Same H5 H6 ∧ ∃ b bs, H6 b = some (.lst bs) ∧ RepL H6 ((rowsO ns wo os).take 2) bs ∧ σ' = [some (.ref cl), some (.ref nl), some (.int wo), some (.ref rl), some (.ref wl), some (.ref nm), some (.ref wy), z1, z2, z3, z4, some (.ref b), none]) ?_ (fun N hN => ?_)
    case refine_2 =>
      simp_all only []
      refine ⟨by omega, fun a na => ⟨by omega, fun b Hb sb nb eb => ⟨by omega, fun c Hc sc nc ec => ⟨by omega, fun d nd' => ?_⟩⟩⟩⟩
      have s5b : Same H5 Hb := (same_upd na).trans sb
      have sc' : Same H5 (upd Hc d (.lst [V.ref b, V.ref c])) := s5b.trans (sc.trans (same_upd nd'))
      refine hN _ _ ⟨sc', d, _, upd_same, repL_cons.mpr ⟨_, _, rfl, rep_t3.mpr ⟨b, _, _, _, rfl, (sc.trans (same_upd nd')) _ _ eb, rep_str.mpr rfl, rep_int.mpr rfl, rep_lst.mpr ⟨a, _, rfl, (sb.trans (sc.trans (same_upd nd'))) _ _ upd_same, repL_cons.mpr ⟨_, _, rfl, rep_int.mpr rfl, repL_nil.mpr rfl⟩⟩⟩, repL_cons.mpr ⟨_, _, rfl, rep_t3.mpr ⟨c, _, _, _, rfl, same_upd nd' _ _ ec, rep_str.mpr rfl, rep_int.mpr rfl, rep_lst.mpr ⟨wy, _, rfl, sc' _ _ (s5 _ _ e3), ?_⟩⟩, repL_nil.mpr rfl⟩⟩, rfl⟩
      have := RepL.ints (H := upd Hc d (.lst [V.ref b, V.ref c])) (os.map fun r => (2 + ((nmsO os).idxOf r.to : Nat) : Int))
      rwa [List.map_map, List.map_map] at this
    rintro _ H6 ⟨s6, b, bs, hb, rb, rfl⟩
    change tSeq _ _ _ [some (.ref cl), some (.ref nl), some (.int wo), some (.ref rl), some (.ref wl), some (.ref nm), some (.ref wy), z1, z2, z3, z4, some (.ref b), none] H6
    refine seq_gen (fun σ' H7 => Same H6 H7 ∧ ∃ b, Rep H7 (.lst (rowsO ns wo os)) b ∧ σ' = [some (.ref cl), some (.ref nl), some (.int wo), some (.ref rl), some (.ref wl), some (.ref nm), some (.ref wy), z1, z2, z3, z4, some b, none]) ?_ (fun N hN => ?_)
    case refine_2 =>
      simp_all only [rCat]
      have hnm6 : H6 nm = some (.lst ((nmsO os).map V.str)) := (s5.trans s6) _ _ e2
      refine ⟨⟨_, SqL.of hnm6⟩, ?_⟩
      refine comp_map (src_list (Ok := Same H6) (fun H' k => SqL.of (k _ _ hnm6))) (fun _ _ _ _ h => by rw [h.1]; exact Same.refl _) (by rw [List.length_map]; omega) (fun i y H' => ∃ n, (nmsO os)[i]? = some n ∧ Rep H' (.tup [.str (Str.ofString "end"), .tup [.int ((abcd.idxOf n : Nat) : Int), .int 1]]) y) (fun _ _ _ _ k ⟨n, e, r⟩ => ⟨n, e, r.mono k⟩) ?_ ?_
      · rintro i x z H8 H7 Q' hi s7 ⟨rfl, ex⟩ yy
        rw [List.getElem?_map] at ex
        obtain ⟨n, en, rfl⟩ := Option.map_eq_some_iff.mp ex
        have hab := ab n (List.mem_of_getElem? en)
        have ia := idx_at hab
        have il : abcd.idxOf n < 4 := List.idxOf_lt_length_of_mem hab
        simp_all only [rNix]
        refine ⟨by omega, fun a na => ⟨.inl ⟨rfl, _, SqL.of upd_same⟩, _, upd_same, abcd.map Dat.str, rep_strs abcd, (fun e he => by obtain ⟨x, hx, rfl⟩ := List.mem_map.mp he; exact kd_str hx), .str n, rep_str.mpr rfl, kd_str hab, _, ia.1, ia.2, by omega, by omega, fun b Hb sb nb eb => ⟨by omega, fun c Hc sc nc ec => yy _ _ ((same_upd na).trans (sb.trans sc)) ⟨n, en, rep_t2.mpr ⟨c, _, _, rfl, ec, rep_str.mpr rfl, rep_t2.mpr ⟨b, _, _, rfl, sc _ _ eb, rep_int.mpr rfl, rep_int.mpr rfl⟩⟩⟩⟩⟩⟩
      · intro ys H7 s7 ly hy D nD1 nD2
        rw [List.length_map] at ly
        have bl := rb.length
        have b2 : bs.length = 2 := by rw [← bl]; rfl
        refine ⟨_, (s7.trans (same_upd nD2)) _ _ hb, _, upd_same, by omega, fun p np => ?_⟩
        have sP : Same H7 (upd (upd H7 D (.lst ys)) p (.lst (bs ++ ys))) := (same_upd nD2).trans (same_upd np)
        refine hN _ _ ⟨s7.trans sP, _, rep_lst.mpr ⟨p, _, rfl, upd_same, ?_⟩, rfl⟩
        have : rowsO ns wo os = (rowsO ns wo os).take 2 ++ (nmsO os).map fun n => .tup [.str (Str.ofString "end"), .tup [.int ((abcd.idxOf n : Nat) : Int), .int 1]] := rfl
        rw [this]
        refine (rb.mono (s7.trans sP)).append (RepL.of (by rw [List.length_map]; omega) fun i d y ed ey => ?_)
        rw [List.getElem?_map] at ed
        obtain ⟨n, en, rfl⟩ := Option.map_eq_some_iff.mp ed
        obtain ⟨n', en', r⟩ := hy i y ey
        rw [en] at en'
        cases en'
        exact r.mono sP
    rintro _ H7 ⟨s7, b', rb', rfl⟩
    change tSeq _ _ _ [some (.ref cl), some (.ref nl), some (.int wo), some (.ref rl), some (.ref wl), some (.ref nm), some (.ref wy), z1, z2, z3, z4, some b', none] H7
    refine seq_gen (fun σ' H8 => Same H7 H8 ∧ ∃ s, Rep H8 (.lst (stsO cs ns os)) s ∧ σ' = [some (.ref cl), some (.ref nl), some (.int wo), some (.ref rl), some (.ref wl), some (.ref nm), some (.ref wy), z1, z2, z3, z4, some b', some s]) ?_ (fun N hN => ?_)
    case refine_2 =>
      simp_all only [rCat]
      have s47 := s5.trans (s6.trans s7)
      have hcl7 := (s4.trans s47) _ _ hcl
      refine ⟨⟨_, SqL.of hcl7⟩, ?_⟩
      have S : Src (Itl K cl) (Same H7) cvs.length _ := src_list (fun H' s' => SqL.of (s' _ _ hcl7))
      rw [← clen] at S
      refine comp_vals cs (fun _ => some (.int 0)) S (fun _ _ _ _ h => h.1) (by omega) ?_ ?_
      · rintro i c y _ ⟨_, _⟩ Y N3 y1 y2
        simp_all only [tYes]
        exact y1 _ rfl
      · intro D n1' n2'
        rw [fm_some]
        have ez : (cs.map fun _ => V.int 0) = (List.replicate cs.length (0 : Int)).map V.int := by
          rw [List.map_replicate, List.map_const']
        rw [ez]
        refine ⟨by omega, fun a Ha sa na ea => ⟨by omega, fun b2 Hb sb nb2 eb => ⟨by omega, fun l nl' => ?_⟩⟩⟩
        have s7b : Same H7 Hb := (same_upd n2').trans (sa.trans sb)
        have hnm9 : ∀ o, upd Hb l o nm = some (.lst ((nmsO os).map V.str)) := fun o => same_upd nl' _ _ ((s47.trans s7b) _ _ e2)
        have hnl9 : ∀ o, upd Hb l o nl = some (.lst (List.map V.int ns)) := fun o => same_upd nl' _ _ ((s4.trans (s47.trans s7b)) _ _ hn)
        refine ⟨⟨_, SqL.of (hnm9 _)⟩, ?_⟩
        refine comp_map (src_list (Ok := Same (upd Hb l (.lst [V.ref a, V.ref b2]))) (fun H' k => SqL.of (k _ _ (hnm9 _)))) (fun _ _ _ _ h => by rw [h.1]; exact Same.refl _) (by rw [List.length_map]; omega) (fun i y H' => ∃ n, (nmsO os)[i]? = some n ∧ Rep H' (.tup [.str n, .lst (ns.map .int)]) y) (fun _ _ _ _ k ⟨n, e, r⟩ => ⟨n, e, r.mono k⟩) ?_ ?_
        · rintro i x z H9 H8 Q' hi s8 ⟨rfl, ex⟩ yy
          rw [List.getElem?_map] at ex
          obtain ⟨n, en, rfl⟩ := Option.map_eq_some_iff.mp ex
          simp_all only []
          exact ⟨by omega, fun c Hc sc nc ec => yy _ _ sc ⟨n, en, rep_t2.mpr ⟨c, _, _, rfl, ec, rep_str.mpr rfl, rep_lst.mpr ⟨nl, _, rfl, (s8.trans sc) _ _ (hnl9 _), RepL.ints _⟩⟩⟩⟩
        · intro ys H8 s8 ly hy D' nD1 nD2
          rw [List.length_map] at ly
          refine ⟨_, (s8.trans (same_upd nD2)) _ _ upd_same, _, upd_same, by show 2 + ys.length ≤ _; omega, fun p np => ?_⟩
          have sP : Same H8 (upd (upd H8 D' (.lst ys)) p (.lst ([V.ref a, V.ref b2] ++ ys))) := (same_upd nD2).trans (same_upd np)
          have sQ : Same Hb (upd (upd H8 D' (.lst ys)) p (.lst ([V.ref a, V.ref b2] ++ ys))) := (same_upd nl').trans (s8.trans sP)
          refine hN _ _ ⟨s7b.trans sQ, _, rep_lst.mpr ⟨p, _, rfl, upd_same, ?_⟩, rfl⟩
          have e : stsO cs ns os = [.tup [.str nB, .lst ((List.replicate cs.length (0 : Int)).map .int)], .tup [.str nC, .lst (ns.map .int)]] ++ (nmsO os).map fun n => .tup [.str n, .lst (ns.map .int)] := by
            unfold stsO SSo
            rw [List.map_cons, List.map_cons, List.map_map]
            rfl
          rw [e]
          refine RepL.append (repL_cons.mpr ⟨_, _, rfl, rep_t2.mpr ⟨a, _, _, rfl, (sb.trans sQ) _ _ ea, rep_str.mpr rfl, rep_lst.mpr ⟨D, _, rfl, (sa.trans (sb.trans sQ)) _ _ upd_same, RepL.ints _⟩⟩, repL_cons.mpr ⟨_, _, rfl, rep_t2.mpr ⟨b2, _, _, rfl, sQ _ _ eb, rep_str.mpr rfl, rep_lst.mpr ⟨nl, _, rfl, (s4.trans (s47.trans (s7b.trans sQ))) _ _ hn, RepL.ints _⟩⟩, repL_nil.mpr rfl⟩⟩) (RepL.of (by rw [List.length_map]; omega) fun i d y ed ey => ?_)
          rw [List.getElem?_map] at ed
          obtain ⟨n, en, rfl⟩ := Option.map_eq_some_iff.mp ed
          obtain ⟨n', en', r⟩ := hy i y ey
          rw [en] at en'
          cases en'
          exact r.mono sP
    rintro _ H8 ⟨s8, sv, rs8, rfl⟩
    simp_all only [rCat]
    have s48 := s5.trans (s6.trans (s7.trans s8))
    refine ⟨by omega, fun a na => ⟨by omega, fun l nl' => ?_⟩⟩
    have s8l : ∀ o, Same H8 (upd (upd H8 a (.lst [V.str (Str.ofString "on")])) l o) := fun o => (same_upd na).trans (same_upd nl')
    have hnm9 := fun o => (s48.trans (s8l o)) _ _ e2
    refine ⟨⟨_, SqL.of (hnm9 _)⟩, ?_⟩
    refine comp_map (src_list (Ok := Same (upd (upd H8 a (.lst [V.str (Str.ofString "on")])) l (.lst [V.ref a, V.ref wl]))) (fun H' k => SqL.of (k _ _ (hnm9 _)))) (fun _ _ _ _ h => by rw [h.1]; exact Same.refl _) (by rw [List.length_map]; omega) (fun i y H' => Rep H' (.lst []) y) (fun _ _ _ _ k r => r.mono k) ?_ ?_
    · rintro i x z H10 H9 Q' hi s9 ⟨rfl, ex⟩ yy
      simp_all only []
      exact ⟨Nat.zero_le _, fun c nc => yy _ _ (same_upd nc) (rep_lst.mpr ⟨c, [], rfl, upd_same, repL_nil.mpr rfl⟩)⟩
    · intro ys H9 s9 ly hy D' nD1 nD2
      rw [List.length_map] at ly
      refine ⟨_, (s9.trans (same_upd nD2)) _ _ upd_same, _, upd_same, by show 2 + ys.length ≤ _; omega, fun p np => ⟨by omega, fun q Hq sq nq eq => ?_⟩⟩
      have sP : Same H9 Hq := (same_upd nD2).trans ((same_upd np).trans sq)
      have sQ : Same H8 Hq := (s8l _).trans (s9.trans sP)
      refine kD _ Hq (s4.trans (s48.trans sQ)) (rep_t3.mpr ⟨q, _, _, _, rfl, eq, rb'.mono (s8.trans sQ), rs8.mono sQ, rep_lst.mpr ⟨p, _, rfl, sq _ _ upd_same, ?_⟩⟩)
      refine RepL.append (as := [.lst [.str (Str.ofString "on")], .lst (os.map fun r => .str r.word)]) (bs := (nmsO os).map fun _ => .lst []) (vs := ys) (repL_cons.mpr ⟨_, _, rfl, rep_lst.mpr ⟨a, _, rfl, (same_upd nl' |>.trans (s9.trans sP)) _ _ upd_same, repL_cons.mpr ⟨_, _, rfl, rep_str.mpr rfl, repL_nil.mpr rfl⟩⟩, repL_cons.mpr ⟨_, _, rfl, rep_lst.mpr ⟨wl, _, rfl, (s48.trans sQ) _ _ e1, ?_⟩, repL_nil.mpr rfl⟩⟩) (RepL.of (by rw [List.length_map]; omega) fun i d y ed ey => ?_)
      · have := rep_strs (H := Hq) (os.map (·.word))
        rwa [List.map_map, List.map_map] at this
      · rw [List.getElem?_map] at ed
        obtain ⟨n, en, rfl⟩ := Option.map_eq_some_iff.mp ed
        exact (hy i y ey).mono sP
theorem sc__law_class : FnScope ["_law_error", "_law_some"] ["_law_error"] (defScope (top 57)) := ⟨rfl, rfl, rfl, by decide +kernel, rfl, by decide +kernel, by decide +kernel⟩
theorem ok_cls (T : Txt K mg q_LuckError q_NoShare q_NoTable q_NoPool q_NoEnd q_TooMany q_NoGame q_NoWay q_NoRule q_NoStep q_NoPlay q_NoRow q_Course q_Finder) : CalM P w K mg base (CX1 P w) 1 "_law_class" ["_law_error"] (spCls q_NoWay) := by
  refine T.d__law_class.calM (fun _ _ _ _ _ _ us hl => match us, hl with | [_], _ => rfl) fun f fd F => F.okM sc__law_class (fun vs H Q E h => ?_) (fun cdv A ad outer s H vs Q E hr h => ?_)
  · obtain ⟨_, rfl, _⟩ := h; rfl
  · obtain ⟨e, rfl, ex, kk⟩ := h
    have nd := sc__law_class.nd
    refine ⟨_, (pss_cons (ps_set (i := 1) nd rfl (Or.inl rfl) (pe_lst (pa_cons (pe_callB (call_isEK (K := K)) (by rfl) T.z_isinstance rfl (pa_cons (pv 0) (pa_cons (pe_glob (v := V.ref _) rfl T.k_NoShare rfl) pa_nil (se rfl)) (se rfl)) (he := se rfl) (hpl := na rfl)) (pa_cons (pe_callB (call_isEK (K := K)) (by rfl) T.z_isinstance rfl (pa_cons (pv 0) (pa_cons (pe_glob (v := V.ref _) rfl T.k_NoTable rfl) pa_nil (se rfl)) (se rfl)) (he := se rfl) (hpl := na rfl)) (pa_cons (pe_callB (call_isEK (K := K)) (by rfl) T.z_isinstance rfl (pa_cons (pv 0) (pa_cons (pe_glob (v := V.ref _) rfl T.k_NoPool rfl) pa_nil (se rfl)) (se rfl)) (he := se rfl) (hpl := na rfl)) (pa_cons (pe_callB (call_isEK (K := K)) (by rfl) T.z_isinstance rfl (pa_cons (pv 0) (pa_cons (pe_glob (v := V.ref _) rfl T.k_NoEnd rfl) pa_nil (se rfl)) (se rfl)) (he := se rfl) (hpl := na rfl)) pa_nil (se rfl)) (se rfl)) (se rfl)) (se rfl))))
    (pss_cons (ps_set (i := 1) nd rfl (Or.inl rfl) (pe_op op_cat (pv 1) (pe_lst (pa_cons (pe_callB (call_isEK (K := K)) (by rfl) T.z_isinstance rfl (pa_cons (pv 0) (pa_cons (pe_glob (v := V.ref _) rfl T.k_TooMany rfl) pa_nil (se rfl)) (se rfl)) (he := se rfl) (hpl := na rfl)) (pa_cons (pe_callB (call_isEK (K := K)) (by rfl) T.z_isinstance rfl (pa_cons (pv 0) (pa_cons (pe_glob (v := V.ref _) rfl T.k_NoGame rfl) pa_nil (se rfl)) (se rfl)) (he := se rfl) (hpl := na rfl)) (pa_cons (pe_callB (call_isEK (K := K)) (by rfl) T.z_isinstance rfl (pa_cons (pv 0) (pa_cons (pe_glob (v := V.ref _) rfl T.k_NoRule rfl) pa_nil (se rfl)) (se rfl)) (he := se rfl) (hpl := na rfl)) pa_nil (se rfl)) (se rfl)) (se rfl)))))
    (pss_cons (ps_set (i := 1) nd rfl (Or.inl rfl) (pe_op op_cat (pv 1) (pe_lst (pa_cons (pe_callB (call_isEK (K := K)) (by rfl) T.z_isinstance rfl (pa_cons (pv 0) (pa_cons (pe_glob (v := V.ref _) rfl T.k_NoStep rfl) pa_nil (se rfl)) (se rfl)) (he := se rfl) (hpl := na rfl)) (pa_cons (pe_callB (call_isEK (K := K)) (by rfl) T.z_isinstance rfl (pa_cons (pv 0) (pa_cons (pe_glob (v := V.ref _) rfl T.k_NoPlay rfl) pa_nil (se rfl)) (se rfl)) (he := se rfl) (hpl := na rfl)) (pa_cons (pe_callB (call_isEK (K := K)) (by rfl) T.z_isinstance rfl (pa_cons (pv 0) (pa_cons (pe_glob (v := V.ref _) rfl T.k_NoRow rfl) pa_nil (se rfl)) (se rfl)) (he := se rfl) (hpl := na rfl)) pa_nil (se rfl)) (se rfl)) (se rfl)))))
    (pss_one (ps_ret (pe_and (pe_callB (call_isEK (K := K)) (by rfl) T.z_isinstance rfl (pa_cons (pv 0) (pa_cons (pe_glob (v := V.ref _) rfl T.k_NoWay rfl) pa_nil (se rfl)) (se rfl)) (he := se rfl) (hpl := na rfl)) (pe_and (pe_callB (call_isEK (K := K)) (by rfl) T.z_isinstance rfl (pa_cons (pv 0) (pa_cons (pe_bltn (v := V.ty "ValueError") rfl T.z_ValueError rfl rfl) pa_nil (se rfl)) (se rfl)) (he := se rfl) (hpl := na rfl)) (pe_one (pe_cmpR (op_notIn_seqK (K := K)) pe_bl (pv 1) rfl))))))))), ?_⟩
    change tSeq _ _ _ [some (.ref e), none] H
    refine seq_gen (fun σ' H1 => Same H H1 ∧ ∃ l xs, H1 l = some (.lst xs) ∧ (∀ x ∈ xs, x = .bl false) ∧ xs.length ≤ 4 ∧ σ' = [some (.ref e), some (.ref l)]) ?_ (fun N hN => ?_)
    case refine_2 =>
      simp_all only []
      exact ⟨_, ex, T.y_NoWay, _, rfl, _, T.n_NoWay_NoShare, _, ex, T.y_NoWay, _, rfl, _, T.n_NoWay_NoTable, _, ex, T.y_NoWay, _, rfl, _, T.n_NoWay_NoPool, _, ex, T.y_NoWay, _, rfl, _, T.n_NoWay_NoEnd, by decide, fun l nl => hN _ _ ⟨same_upd nl, l, _, upd_same, by simp, by simp, rfl⟩⟩
    rintro _ H1 ⟨sm1, l, xs, hl, fx, lx, rfl⟩
    have ex1 := sm1 _ _ ex
    change tSeq _ _ _ [some (.ref e), some (.ref l)] H1
    refine seq_gen (fun σ' H1 => Same H H1 ∧ ∃ l xs, H1 l = some (.lst xs) ∧ (∀ x ∈ xs, x = .bl false) ∧ xs.length ≤ 7 ∧ σ' = [some (.ref e), some (.ref l)]) ?_ (fun N hN => ?_)
    case refine_2 =>
      simp_all only [rCat]
      refine ⟨_, ex1, T.y_NoWay, _, rfl, _, T.n_NoWay_TooMany, _, ex1, T.y_NoWay, _, rfl, _, T.n_NoWay_NoGame, _, ex1, T.y_NoWay, _, rfl, _, T.n_NoWay_NoRule, by decide, fun q nq => ⟨_, same_upd nq _ _ hl, _, upd_same, by rw [sizeLine_eq]; simp only [List.length_cons, List.length_nil]; omega, fun r nr => hN _ _ ⟨sm1.trans ((same_upd nq).trans (same_upd nr)), r, _, upd_same, fun x hx => ?_, by rw [List.length_append]; simp only [List.length_cons, List.length_nil]; omega, rfl⟩⟩⟩
      rcases List.mem_append.mp hx with h | h
      · exact fx x h
      · simpa using h
    clear ex1 hl fx lx sm1
    rintro _ H1 ⟨sm1, l, xs, hl, fx, lx, rfl⟩
    have ex1 := sm1 _ _ ex
    change tSeq _ _ _ [some (.ref e), some (.ref l)] H1
    refine seq_gen (fun σ' H1 => Same H H1 ∧ ∃ l xs, H1 l = some (.lst xs) ∧ (∀ x ∈ xs, x = .bl false) ∧ xs.length ≤ 10 ∧ σ' = [some (.ref e), some (.ref l)]) ?_ (fun N hN => ?_)
    case refine_2 =>
      simp_all only [rCat]
      refine ⟨_, ex1, T.y_NoWay, _, rfl, _, T.n_NoWay_NoStep, _, ex1, T.y_NoWay, _, rfl, _, T.n_NoWay_NoPlay, _, ex1, T.y_NoWay, _, rfl, _, T.n_NoWay_NoRow, by decide, fun q nq => ⟨_, same_upd nq _ _ hl, _, upd_same, by rw [sizeLine_eq]; simp only [List.length_cons, List.length_nil]; omega, fun r nr => hN _ _ ⟨sm1.trans ((same_upd nq).trans (same_upd nr)), r, _, upd_same, fun x hx => ?_, by rw [List.length_append]; simp only [List.length_cons, List.length_nil]; omega, rfl⟩⟩⟩
      rcases List.mem_append.mp hx with h | h
      · exact fx x h
      · simpa using h
    clear ex1 hl fx lx sm1
    rintro _ H1 ⟨sm1, l, xs, hl, fx, lx, rfl⟩
    have ex1 := sm1 _ _ ex
    simp_all only [rIn]
    refine ⟨_, ex1, T.y_NoWay, _, rfl, _, T.i_NoWay_NoWay, ?_⟩
    rw [if_pos rfl]
    refine ⟨_, ex1, T.y_NoWay, _, rfl, _, T.i_NoWay_ValueError, ?_⟩
    rw [if_pos rfl]
    have e : inV (V.bl true) xs = false := List.any_eq_false.mpr fun y hy => by rw [fx y hy]; decide
    have fl : xs.all flatV = true := List.all_eq_true.mpr fun y hy => by rw [fx y hy]; rfl
    refine ⟨xs, .inl (SqL.of hl), rfl, fl, ?_⟩
    rw [e]
    exact kk _ sm1
theorem dep_due {cs : List (Str × Int)} {ns : List Int} {wo : Int} {os : List Rw} : depth (dueD cs ns wo os) ≤ 40 := by
  have h0 : depth.dL (os.map fun r => Dat.int (2 + ((nmsO os).idxOf r.to : Nat))) ≤ 0 := depth_flat fun d hd => by obtain ⟨_, _, rfl⟩ := List.mem_map.mp hd; simp [depth]
  have h1 : depth.dL (os.map fun r => Dat.str r.word) ≤ 0 := depth_flat fun d hd => by obtain ⟨_, _, rfl⟩ := List.mem_map.mp hd; simp [depth]
  have r : depth.dL (rowsO ns wo os) ≤ 5 := depth_flat fun d hd => by
    unfold rowsO at hd
    rcases List.mem_cons.mp hd with rfl | hd
    · simp only [depth, depth.dL]; omega
    rcases List.mem_cons.mp hd with rfl | hd
    · simp only [depth, depth.dL]; omega
    · obtain ⟨_, _, rfl⟩ := List.mem_map.mp hd; simp only [depth, depth.dL]; omega
  have s : depth.dL (stsO cs ns os) ≤ 5 := depth_flat fun d hd => by
    obtain ⟨s, _, rfl⟩ := List.mem_map.mp (show d ∈ List.map _ _ from hd)
    have := dep_ints s.2
    simp only [depth, depth.dL]; omega
  have u : depth.dL (wdsO os) ≤ 5 := depth_flat fun d hd => by
    unfold wdsO at hd
    rcases List.mem_cons.mp hd with rfl | hd
    · simp only [depth, depth.dL]; omega
    rcases List.mem_cons.mp hd with rfl | hd
    · simp only [depth]; omega
    · obtain ⟨_, _, rfl⟩ := List.mem_map.mp hd; simp only [depth, depth.dL]; omega
  unfold dueD
  simp only [depth, depth.dL]
  omega
theorem good_o {cs : List (Str × Int)} {ns : List Int} {wo : Int} {rs : List Rw} (gc : GoodC cs) (gn : GoodN cs ns) (gr : GoodR rs) : GoodG (gmO cs ns wo rs) where
  nc := (good_nms gc).1
  np := show ([nB, nC, Str.ofString "a", Str.ofString "b", Str.ofString "c", Str.ofString "d"] : List Str).Nodup by decide +kernel
  lc := Nat.le_trans gc.2.1 (by decide)
  lp := show 6 ≤ 100 by decide
  p0 := show 0 < 6 by decide
  wt := by
    intro p hp
    unfold gmO at hp
    rcases List.mem_cons.mp hp with rfl | hp
    · refine ⟨show 1 ≤ 100 by decide, fun r hr => ?_⟩
      rw [List.mem_singleton.mp hr]
      have l : (dds cs ns).length ≤ cs.length := by unfold dds; rw [List.length_map, List.length_zip]; omega
      refine ⟨Nat.le_trans l (Nat.le_trans gc.2.1 (by decide)), fun d hd => ?_⟩
      obtain ⟨x, hx, rfl⟩ := List.mem_map.mp (show d ∈ (cs.zip ns).map _ from hd)
      exact List.mem_map.mpr ⟨x.1, (List.of_mem_zip (show (x.1, x.2) ∈ _ from hx)).1, rfl⟩
    rcases List.mem_cons.mp hp with rfl | hp
    · refine ⟨Nat.le_trans gr.1 (by decide), fun r hr => ?_⟩
      rw [(gr.2 r hr).1]
      exact ⟨by decide, fun d hd => by cases hd⟩
    rcases List.mem_cons.mp hp with rfl | hp
    · trivial
    rcases List.mem_cons.mp hp with rfl | hp
    · trivial
    rcases List.mem_cons.mp hp with rfl | hp
    · trivial
    rcases List.mem_cons.mp hp with rfl | hp
    · trivial
    · cases hp
theorem sc__law_right : FnScope ["_law_game_here", "_law_due_here", "_law_found", "_law_refused", "_law_error"] ["_law_game_here", "_law_due_here"] (defScope (top 58)) := ⟨rfl, rfl, rfl, by decide +kernel, rfl, by decide +kernel, by decide +kernel⟩
theorem ok_ri (T : Txt K mg q_LuckError q_NoShare q_NoTable q_NoPool q_NoEnd q_TooMany q_NoGame q_NoWay q_NoRule q_NoStep q_NoPlay q_NoRow q_Course q_Finder) : Cal P w K mg base (CX1 P w) 7 "_law_right" ["_law_game_here", "_law_due_here"] spRi := by
  have c_spread : Cal P w K mg base (CX1 P w) 6 "spread" ["game"] (spSprX q_NoWay) := ok_spr T
  have cm__law_class : CalM P w K mg base (CX1 P w) 1 "_law_class" ["_law_error"] (spCls q_NoWay) := ok_cls T
  refine T.d__law_right.cal (fun _ _ _ _ _ _ us hl => match us, hl with | [_, _], _ => rfl) fun f fd F => F.okC sc__law_right (fun vs H Q E h => ?_) (fun cdv A outer s H vs Q E hr h => ?_)
  · obtain ⟨_, _, _, _, _, _, rfl, _⟩ := h; rfl
  · obtain ⟨gv, dv, cs, ns, wo, rs, rfl, rg, gc, gn, gr, dN, dD, kk⟩ := h
    have nd := sc__law_right.nd
    refine ⟨_, (pss_cons (ps_set (i := 2) nd rfl (Or.inl rfl) pe_non)
    (pss_cons (ps_set (i := 3) nd rfl (Or.inl rfl) pe_bl)
    (pss_cons (ps_tryA (i := 4) (j := 2) c_spread (hr.mono (by decide)) rfl (pa_cons (pv 0) pa_nil (se rfl)) rfl rfl rfl T.k_LuckError nd rfl rfl rfl rfl (fun ad => (pss_one (ps_set (i := 3) nd rfl (Or.inl rfl) (pe_calM cm__law_class (hr.mono (by decide)) rfl strictP (pa_cons (pv 4) pa_nil (se rfl)) (he := se rfl) (hpl := na rfl))))) (he := se rfl) (hpl := na rfl))
    (pss_cons (ps_if (pt_cmpR op_isN (pv 1) pe_non (nomark _)) (pss_one (ps_ret (pe_and (pe_cmpR op_isN (pv 2) pe_non (nomark _)) (pe_one (pv 3)))))
      pss_nil)
    (pss_one (ps_ret (pe_and (pe_callB (call_isTK (K := K)) (by rfl) T.z_isinstance rfl (pa_cons (pv 2) (pa_cons (pe_bltn (v := V.ty "tuple") rfl T.z_tuple rfl rfl) pa_nil (se rfl)) (se rfl)) (he := se rfl) (hpl := na rfl)) (pe_one (pe_cmpR (op_eqD hr.units) (pv 2) (pv 1) (nomark _)))))))))), ?_⟩
    have sl := sizeLine_eq
    obtain ⟨ndc, hsc⟩ := good_nms gc
    obtain ⟨c1, c3, cg⟩ := id gc
    have hd0 : True := trivial
    have gg : GoodG (gmO cs ns wo rs) := good_o gc gn gr
    have hdn : ((gmO cs ns wo rs).ps.map (·.1)).head? = some nB := rfl
    have ak : askd (gmO cs ns wo rs) (List.replicate (gmO cs ns wo rs).cs.length 0) 1 nB = some nB := by
      unfold askd
      rw [look_b]
    have hb : hsh (.str nB) = true := by decide +kernel
    change tSeq _ _ _ [some gv, some dv, none, none, none] H
    refine seq_gen (fun σ' H1 => H = H1 ∧ σ' = [some gv, some dv, some .non, none, none]) ?_ (fun N hN => ?_)
    case refine_2 =>
      simp_all only []
      exact hN _ _ ⟨rfl, rfl⟩
    rintro _ _ ⟨rfl, rfl⟩
    change tSeq _ _ _ [some gv, some dv, some .non, none, none] H
    refine seq_gen (fun σ' H1 => H = H1 ∧ σ' = [some gv, some dv, some .non, some (.bl false), none]) ?_ (fun N hN => ?_)
    case refine_2 =>
      simp_all only []
      exact hN _ _ ⟨rfl, rfl⟩
    rintro _ _ ⟨rfl, rfl⟩
    change tSeq _ _ _ [some gv, some dv, some .non, some (.bl false), none] H
    refine seq_gen (fun σ' H1 => Same H H1 ∧ ((opn cs ns rs = [] ∧ ∃ z, σ' = [some gv, some dv, some .non, some (.bl true), z]) ∨ (opn cs ns rs ≠ [] ∧ ∃ p, Rep H1 (dueD cs ns wo (opn cs ns rs)) (.ref p) ∧ σ' = [some gv, some dv, some (.ref p), some (.bl false), none]))) ?_ (fun N hN => ?_)
    case refine_2 =>
      simp_all only [tTryA, spSprX, xTry, spCls]
      by_cases ne : opn cs ns rs = []
      · refine ⟨_, rg, gg, _, hdn, nB, 1, ak, hb, true, _, _, spr_s ndc gn ne, show 2 ≤ 120 by decide, fun _ H1 s1 => ⟨T.e_NoWay_LuckError, fun ad nad => ⟨upd_same, fun H2 s2 => hN _ _ ⟨s1.trans ((same_upd nad).trans s2), .inl ⟨ne, _, rfl⟩⟩⟩⟩, fun z => by cases z⟩
      · refine ⟨_, rg, gg, _, hdn, nB, 1, ak, hb, false, _, _, spr_o ndc gn gr ne, SSo_len (Nat.le_trans (List.length_filter_le _ _) gr.1), (fun z => by cases z), fun _ p b l wl bs xs ws H' h1 h2 h3 h4 h5 h6 h7 h8 h9 => hN _ _ ⟨h1, .inr ⟨ne, p, ?_, rfl⟩⟩⟩
        rw [rows_o gr] at h5
        rw [wds_o gr] at h9
        exact spr_rep h3 h4 h5 h6 h7 h8 h9
    rintro _ H1 ⟨s1, ⟨ne, z, rfl⟩ | ⟨ne, p, rp, rfl⟩⟩
    · have e := dN ne
      subst e
      simp_all only []
      exact kk _ s1
    · have rd := (dD ne).mono s1
      obtain ⟨pd, vs, ed, hpd, _⟩ := rep_tup.mp (show Rep H1 (.tup _) dv from rd)
      subst ed
      obtain ⟨pp, vs2, ep, hpp, _⟩ := rep_tup.mp (show Rep H1 (.tup _) (.ref p) from rp)
      cases ep
      simp_all only [rEqD]
      rw [if_neg (by simp)]
      refine ⟨_, TyOf.tup hpp, _, kit_tt, ?_⟩
      rw [if_pos rfl]
      exact ⟨_, rp, rd, ⟨_, rfl⟩, dep_due, kk _ s1⟩
theorem cut_take {xs : List V} {k : Nat} : cutV xs none (some (k : Int)) = xs.take k := by
  unfold cutV
  rw [HT.sIx_none, HT.sIx_nat, List.drop_zero, Nat.sub_zero]
  by_cases c : k ≤ xs.length
  · rw [Nat.min_eq_left c]
  · rw [Nat.min_eq_right (by omega), List.take_of_length_le (Nat.le_refl _), List.take_of_length_le (by omega)]
theorem rep_take {H : Hp} : ∀ {ds : List Dat} {vs : List V} (k : Nat), RepL H ds vs → RepL H (ds.take k) (vs.take k)
  | [], _, _, h => by rw [repL_nil.mp h, List.take_nil, List.take_nil]; exact repL_nil.mpr rfl
  | _ :: _, _, 0, _ => by rw [List.take_zero, List.take_zero]; exact repL_nil.mpr rfl
  | _ :: _, _, k + 1, h => by
    obtain ⟨v, r, rfl, h1, h2⟩ := repL_cons.mp h
    exact repL_cons.mpr ⟨v, _, rfl, h1, rep_take k h2⟩
theorem sc_law : FnScope ["_law_script", "_law_counts_here", "_law_numbers_here", "_law_rows_here", "_law_who", "_law_more"] ["_law_script"] (defScope (top 59)) := ⟨rfl, rfl, rfl, by decide +kernel, rfl, by decide +kernel, by decide +kernel⟩
theorem ok_law (T : Txt K mg q_LuckError q_NoShare q_NoTable q_NoPool q_NoEnd q_TooMany q_NoGame q_NoWay q_NoRule q_NoStep q_NoPlay q_NoRow q_Course q_Finder) {f : Addr} {fd : FuncData} (F : Fun K "law" "law" (top 59) f fd) : FnOk P w K mg base (CX1 P w) 8 f fd ["_law_script"] (spLaw K) := by
  have c__law_at : Cal P w K mg base (CX1 P w) 1 "_law_at" ["_law_script", "_law_k"] (spAt K) := ok_at T
  have c__law_counts : Cal P w K mg base (CX1 P w) 2 "_law_counts" ["_law_script"] (spCnt K) := ok_cnt T
  have c__law_numbers : Cal P w K mg base (CX1 P w) 2 "_law_numbers" ["_law_script", "_law_counts_here"] (spNu K) := ok_nu T
  have c__law_rows : Cal P w K mg base (CX1 P w) 2 "_law_rows" ["_law_script", "_law_counts_here", "_law_numbers_here"] (spRw K) := ok_rw T
  have c__law_game : Cal P w K mg base (CX1 P w) 1 "_law_game" ["_law_counts_here", "_law_numbers_here", "_law_who", "_law_rows_here"] spGa := ok_ga T
  have c__law_due : Cal P w K mg base (CX1 P w) 2 "_law_due" ["_law_counts_here", "_law_numbers_here", "_law_who", "_law_rows_here"] spDu := ok_du T
  have c__law_right : Cal P w K mg base (CX1 P w) 7 "_law_right" ["_law_game_here", "_law_due_here"] spRi := ok_ri T
  refine F.okC sc_law (fun vs H Q E h => ?_) (fun cdv A outer s H vs Q E hr h => ?_)
  · obtain ⟨_, _, rfl, _⟩ := h; rfl
  · obtain ⟨sa, sc, rfl, hS, l63, kk⟩ := h
    have nd := sc_law.nd
    refine ⟨_, (pss_cons (ps_set (i := 1) nd rfl (Or.inl rfl) (pe_cal c__law_counts (hr.mono (by decide)) rfl strictP.pass (pa_cons (pv 0) pa_nil (se rfl)) (he := se rfl) (hpl := na rfl)))
    (pss_cons (ps_set (i := 2) nd rfl (Or.inl rfl) (pe_cal c__law_numbers (hr.mono (by decide)) rfl strictP.pass (pa_cons (pv 0) (pa_cons (pv 1) pa_nil (se rfl)) (se rfl)) (he := se rfl) (hpl := na rfl)))
    (pss_cons (ps_set (i := 3) nd rfl (Or.inl rfl) (pe_cal c__law_rows (hr.mono (by decide)) rfl strictP.pass (pa_cons (pv 0) (pa_cons (pv 1) (pa_cons (pv 2) pa_nil (se rfl)) (se rfl)) (se rfl)) (he := se rfl) (hpl := na rfl)))
    (pss_cons (ps_set (i := 4) nd rfl (Or.inl rfl) (pe_op op_add pe_int (pe_op op_modB (pe_cal c__law_at (hr.mono (by decide)) rfl strictP.pass (pa_cons (pv 0) (pa_cons pe_int pa_nil (se rfl)) (se rfl)) (he := se rfl) (hpl := na rfl)) pe_int)))
    (pss_cons (ps_if (pt_not (pt_val (pe_cal c__law_right (hr.mono (by decide)) rfl strictP.pass (pa_cons (pe_cal c__law_game (hr.mono (by decide)) rfl strictP.pass (pa_cons (pv 1) (pa_cons (pv 2) (pa_cons (pv 4) (pa_cons (pv 3) pa_nil (se rfl)) (se rfl)) (se rfl)) (se rfl)) (he := se rfl) (hpl := na rfl)) (pa_cons (pe_cal c__law_due (hr.mono (by decide)) rfl strictP.pass (pa_cons (pv 1) (pa_cons (pv 2) (pa_cons (pv 4) (pa_cons (pv 3) pa_nil (se rfl)) (se rfl)) (se rfl)) (se rfl)) (he := se rfl) (hpl := na rfl)) pa_nil (se rfl)) (se rfl)) (he := se rfl) (hpl := na rfl)))) (pss_one (ps_ret pe_bl))
      pss_nil)
    (pss_cons (ps_set (i := 5) nd rfl (Or.inl rfl) (pe_op op_cat (pe_slice (sl_listK (K := K)) (pv 3) po_none (po_some pe_int)) (pe_lst (pa_cons (pe_tupS (pa_cons pe_str (pa_cons pe_non (pa_cons (pe_lst pa_nil) (pa_cons pe_str pa_nil (se rfl)) (se rfl)) (se rfl)) (se rfl))) pa_nil (se rfl)))))
    (pss_one (ps_ret (pe_cal c__law_right (hr.mono (by decide)) rfl strictP.pass (pa_cons (pe_cal c__law_game (hr.mono (by decide)) rfl strictP.pass (pa_cons (pv 1) (pa_cons (pv 2) (pa_cons (pv 4) (pa_cons (pv 5) pa_nil (se rfl)) (se rfl)) (se rfl)) (se rfl)) (he := se rfl) (hpl := na rfl)) (pa_cons (pe_cal c__law_due (hr.mono (by decide)) rfl strictP.pass (pa_cons (pv 1) (pa_cons (pv 2) (pa_cons (pv 4) (pa_cons (pv 5) pa_nil (se rfl)) (se rfl)) (se rfl)) (se rfl)) (he := se rfl) (hpl := na rfl)) pa_nil (se rfl)) (se rfl)) (he := se rfl) (hpl := na rfl)))))))))), ?_⟩
    have sl := sizeLine_eq
    change tSeq _ _ _ [some (.ref sa), none, none, none, none, none] H
    refine seq_gen (fun σ' H1 => Same H H1 ∧ ∃ cs u, Rep H1 (csD cs) u ∧ GoodC cs ∧ σ' = [some (.ref sa), some u, none, none, none, none]) ?_ (fun N hN => ?_)
    case refine_2 =>
      simp_all only [spCnt]
      exact ⟨sc, hS, fun cs u H1 s1 r1 g1 => hN _ _ ⟨s1, cs, u, r1, g1, rfl⟩⟩
    rintro _ H1 ⟨s1, cs, u, ru, gc, rfl⟩
    change tSeq _ _ _ [some (.ref sa), some u, none, none, none, none] H1
    refine seq_gen (fun σ' H2 => Same H1 H2 ∧ ∃ nl ns, H2 nl = some (.lst (List.map V.int ns)) ∧ GoodN cs ns ∧ σ' = [some (.ref sa), some u, some (.ref nl), none, none, none]) ?_ (fun N hN => ?_)
    case refine_2 =>
      simp_all only [spNu]
      exact ⟨sc, s1.seq hS, cs, ru, gc, fun l ns H2 s2 hl gn => hN _ _ ⟨s2, l, ns, hl, gn, rfl⟩⟩
    rintro _ H2 ⟨s2, nl, ns, hnl, gn, rfl⟩
    have s02 := s1.trans s2
    change tSeq _ _ _ [some (.ref sa), some u, some (.ref nl), none, none, none] H2
    refine seq_gen (fun σ' H3 => Same H2 H3 ∧ ∃ v rs, Rep H3 (rowsR rs) v ∧ GoodR rs ∧ rs.length ≤ 4 ∧ σ' = [some (.ref sa), some u, some (.ref nl), some v, none, none]) ?_ (fun N hN => ?_)
    case refine_2 =>
      simp_all only [spRw]
      exact ⟨sc, s02.seq hS, cs, ru.mono s2, ns, hnl, gc, gn, fun v rs H3 s3 r3 g3 l3 => hN _ _ ⟨s3, v, rs, r3, g3, l3, rfl⟩⟩
    rintro _ H3 ⟨s3, v, rs, rv, gr, l4, rfl⟩
    have s03 := s02.trans s3
    change tSeq _ _ _ [some (.ref sa), some u, some (.ref nl), some v, none, none] H3
    refine seq_gen (fun σ' H4 => H3 = H4 ∧ ∃ wo : Int, σ' = [some (.ref sa), some u, some (.ref nl), some v, some (.int wo), none]) ?_ (fun N hN => ?_)
    case refine_2 =>
      simp_all only [spAt]
      exact ⟨sc, s03.seq hS, by decide, by decide, fun n => ⟨by decide, hN _ _ ⟨rfl, _, rfl⟩⟩⟩
    rintro _ _ ⟨rfl, wo, rfl⟩
    have ru3 := ru.mono (s2.trans s3)
    have hn3 := s3 _ _ hnl
    have right : ∀ H4 v rs (Q' : VK) (E1 E2 E3 : XK), Same H3 H4 → Rep H4 (rowsR rs) v → GoodR rs → (∀ H5, Same H4 H5 → Q' (.bl true) H5) → spGa [u, .ref nl, .int wo, v] H4 (fun gv H5 => spDu [u, .ref nl, .int wo, v] H5 (fun dv H6 => spRi [gv, dv] H6 Q' E1) E2) E3 := by
      intro H4 v rs Q' E1 E2 E3 s4 rv gr kq
      refine ⟨_, _, _, _, cs, ns, rs, rfl, ru3.mono s4, s4 _ _ hn3, gc, gn, rv, fun gv H5 s5 rg => ⟨_, _, _, _, cs, ns, rs, rfl, ru3.mono (s4.trans s5), (s4.trans s5) _ _ hn3, gc, gn, rv.mono s5, gr, fun ne H6 s6 => ?_, fun ne dv H6 s6 rd => ?_⟩⟩
      · exact ⟨_, _, cs, ns, wo, rs, rfl, rg.mono s6, gc, gn, gr, fun _ => rfl, fun z => absurd ne z, fun H7 s7 => kq _ (s5.trans (s6.trans s7))⟩
      · exact ⟨_, _, cs, ns, wo, rs, rfl, rg.mono s6, gc, gn, gr, fun z => absurd z ne, fun _ => rd, fun H7 s7 => kq _ (s5.trans (s6.trans s7))⟩
    change tSeq _ _ _ [some (.ref sa), some u, some (.ref nl), some v, some (.int wo), none] H3
    refine seq_gen (fun σ' H4 => Same H3 H4 ∧ σ' = [some (.ref sa), some u, some (.ref nl), some v, some (.int wo), none]) ?_ (fun N hN => ?_)
    case refine_2 =>
      simp_all only []
      refine right _ _ _ _ _ _ _ (Same.refl _) rv gr fun H5 s5 => ⟨true, rfl, ?_⟩
      rw [if_neg (by decide)]
      exact hN _ _ ⟨s5, rfl⟩
    rintro _ H4 ⟨s4, rfl⟩
    obtain ⟨vl, vvs, rfl, hvl, rvl⟩ := rep_lst.mp (show Rep H3 (.lst _) v from rv)
    change tSeq _ _ _ [some (.ref sa), some u, some (.ref nl), some (.ref vl), some (.int wo), none] H4
    refine seq_gen (fun σ' H5 => Same H4 H5 ∧ ∃ m rs, Rep H5 (rowsR rs) m ∧ GoodR rs ∧ σ' = [some (.ref sa), some u, some (.ref nl), some (.ref vl), some (.int wo), some m]) ?_ (fun N hN => ?_)
    case refine_2 =>
      simp_all only [rCat]
      have hvl4 := s4 _ _ hvl
      have vlen := rvl.length
      rw [List.length_map, List.length_map] at vlen
      refine ⟨_, SqL.of hvl4, fun a na => ⟨Nat.zero_le _, fun b nb => ⟨by omega, fun c Hc sc nc ec => ⟨by omega, fun d nd' => ?_⟩⟩⟩⟩
      have e3 : cutV vvs none (some 3) = vvs.take 3 := cut_take (k := 3)
      rw [e3] at nb sc nc
      have sbd : Same (upd H4 a (.lst (vvs.take 3))) (upd Hc d (.lst [V.ref c])) := (same_upd nb).trans (sc.trans (same_upd nd'))
      refine ⟨_, sbd _ _ upd_same, _, upd_same, by rw [List.length_take, List.length_singleton]; omega, fun p np => ?_⟩
      have s4d : Same H4 (upd Hc d (.lst [V.ref c])) := (same_upd na).trans sbd
      have sf : Same H4 (upd (upd Hc d (.lst [V.ref c])) p (.lst (vvs.take 3 ++ [V.ref c]))) := s4d.trans (same_upd np)
      refine hN _ _ ⟨sf, _, rs.take 3 ++ [⟨Str.ofString "stay", none, [], Str.ofString "d"⟩], rep_lst.mpr ⟨p, _, rfl, upd_same, ?_⟩, ⟨?_, fun r hr => ?_⟩, rfl⟩
      · rw [List.map_append, List.map_append, List.map_take, List.map_take]
        refine (rep_take 3 (rvl.mono (s4.trans sf))).append (repL_cons.mpr ⟨_, _, rfl, rep_t4.mpr ⟨c, _, _, _, _, rfl, ((same_upd nd').trans (same_upd np)) _ _ ec, rep_str.mpr rfl, (by show Rep _ .non V.non; rw [Rep]), rep_lst.mpr ⟨b, [], rfl, (sc.trans ((same_upd nd').trans (same_upd np))) _ _ upd_same, repL_nil.mpr rfl⟩, rep_str.mpr rfl⟩, repL_nil.mpr rfl⟩)
      · rw [List.length_append, List.length_take, List.length_singleton]; omega
      · rcases List.mem_append.mp hr with hr | hr
        · exact gr.2 r (List.mem_of_mem_take hr)
        · rw [List.mem_singleton.mp hr]
          exact ⟨rfl, by decide +kernel⟩
    rintro _ H5 ⟨s5, m, rs2, rm, gr2, rfl⟩
    simp_all only []
    exact right _ _ _ _ _ _ _ (s4.trans s5) rm gr2 fun H6 s6 => kk _
end
theorem all_mk {l : PySem.W.OpenLaw} {w : World} {K : PySem.W.Frag} {h : Heap} {mg : Str → Option Value} {fa : Addr} (X : K.In h) (G : h.Ns mainGlobals mg) (hfa : mg "law" = some (.ref fa))
    {f0 : Addr} {od0 an0 : Option Addr} {sl0 : Array (Option Value)} {oc0 kV0 dc0 pm0 cd0 ct0 : Value} {f1 : Addr} {od1 an1 : Option Addr} {sl1 : Array (Option Value)} {oc1 kV1 dc1 pm1 cd1 ct1 : Value} {f2 : Addr} {od2 an2 : Option Addr} {sl2 : Array (Option Value)} {oc2 kV2 dc2 pm2 cd2 ct2 : Value} {f3 : Addr} {od3 an3 : Option Addr} {sl3 : Array (Option Value)} {oc3 kV3 dc3 pm3 cd3 ct3 : Value} {f4 : Addr} {od4 an4 : Option Addr} {sl4 : Array (Option Value)} {oc4 kV4 dc4 pm4 cd4 ct4 : Value} {f5 : Addr} {od5 an5 : Option Addr} {sl5 : Array (Option Value)} {oc5 kV5 dc5 pm5 cd5 ct5 : Value} {f6 : Addr} {od6 an6 : Option Addr} {sl6 : Array (Option Value)} {oc6 kV6 dc6 pm6 cd6 ct6 : Value} {f7 : Addr} {od7 an7 : Option Addr} {sl7 : Array (Option Value)} {oc7 kV7 dc7 pm7 cd7 ct7 : Value} {f8 : Addr} {od8 an8 : Option Addr} {sl8 : Array (Option Value)} {oc8 kV8 dc8 pm8 cd8 ct8 : Value} {f9 : Addr} {od9 an9 : Option Addr} {sl9 : Array (Option Value)} {oc9 kV9 dc9 pm9 cd9 ct9 : Value} {f10 : Addr} {od10 an10 : Option Addr} {sl10 : Array (Option Value)} {oc10 kV10 dc10 pm10 cd10 ct10 : Value} {f11 : Addr} {od11 an11 : Option Addr} {sl11 : Array (Option Value)} {oc11 kV11 dc11 pm11 cd11 ct11 : Value} {f12 : Addr} {od12 an12 : Option Addr} {sl12 : Array (Option Value)} {oc12 kV12 dc12 pm12 cd12 ct12 : Value} {f13 : Addr} {od13 an13 : Option Addr} {sl13 : Array (Option Value)} {oc13 kV13 dc13 pm13 cd13 ct13 : Value} {f14 : Addr} {od14 an14 : Option Addr} {sl14 : Array (Option Value)} {oc14 kV14 dc14 pm14 cd14 ct14 : Value} {f15 : Addr} {od15 an15 : Option Addr} {sl15 : Array (Option Value)} {oc15 kV15 dc15 pm15 cd15 ct15 : Value} {vt_MOST_STATES : Tok} {q_LuckError q_NoShare q_NoTable q_NoPool q_NoEnd q_TooMany q_NoGame q_NoWay q_NoRule q_NoStep q_NoPlay q_NoRow q_Course q_Finder : Addr} {fI_Course : Addr} {odI_Course anI_Course : Option Addr} {slI_Course : Array (Option Value)} {ocI_Course kVI_Course dcI_Course pmI_Course cdI_Course ctI_Course : Value} {fI_Finder : Addr} {odI_Finder anI_Finder : Option Addr} {slI_Finder : Array (Option Value)} {ocI_Finder kVI_Finder dcI_Finder pmI_Finder cdI_Finder ctI_Finder : Value} {fM_Course_asked : Addr} {odM_Course_asked anM_Course_asked : Option Addr} {slM_Course_asked : Array (Option Value)} {ocM_Course_asked kVM_Course_asked dcM_Course_asked pmM_Course_asked cdM_Course_asked ctM_Course_asked : Value} {fM_Course_by_row : Addr} {odM_Course_by_row anM_Course_by_row : Option Addr} {slM_Course_by_row : Array (Option Value)} {ocM_Course_by_row kVM_Course_by_row dcM_Course_by_row pmM_Course_by_row cdM_Course_by_row ctM_Course_by_row : Value} {fM_Course_do : Addr} {odM_Course_do anM_Course_do : Option Addr} {slM_Course_do : Array (Option Value)} {ocM_Course_do kVM_Course_do dcM_Course_do pmM_Course_do cdM_Course_do ctM_Course_do : Value} {fM_Course_end_worth : Addr} {odM_Course_end_worth anM_Course_end_worth : Option Addr} {slM_Course_end_worth : Array (Option Value)} {ocM_Course_end_worth kVM_Course_end_worth dcM_Course_end_worth pmM_Course_end_worth cdM_Course_end_worth ctM_Course_end_worth : Value} {fM_Course_holds : Addr} {odM_Course_holds anM_Course_holds : Option Addr} {slM_Course_holds : Array (Option Value)} {ocM_Course_holds kVM_Course_holds dcM_Course_holds pmM_Course_holds cdM_Course_holds ctM_Course_holds : Value} {fM_Course_open_rows : Addr} {odM_Course_open_rows anM_Course_open_rows : Option Addr} {slM_Course_open_rows : Array (Option Value)} {ocM_Course_open_rows kVM_Course_open_rows dcM_Course_open_rows pmM_Course_open_rows cdM_Course_open_rows ctM_Course_open_rows : Value} {fM_Course_put : Addr} {odM_Course_put anM_Course_put : Option Addr} {slM_Course_put : Array (Option Value)} {ocM_Course_put kVM_Course_put dcM_Course_put pmM_Course_put cdM_Course_put ctM_Course_put : Value} {fM_Course_start : Addr} {odM_Course_start anM_Course_start : Option Addr} {slM_Course_start : Array (Option Value)} {ocM_Course_start kVM_Course_start dcM_Course_start pmM_Course_start cdM_Course_start ctM_Course_start : Value} {fM_Course_what_at : Addr} {odM_Course_what_at anM_Course_what_at : Option Addr} {slM_Course_what_at : Array (Option Value)} {ocM_Course_what_at kVM_Course_what_at dcM_Course_what_at pmM_Course_what_at cdM_Course_what_at ctM_Course_what_at : Value} {fM_Course_words_at : Addr} {odM_Course_words_at anM_Course_words_at : Option Addr} {slM_Course_words_at : Array (Option Value)} {ocM_Course_words_at kVM_Course_words_at dcM_Course_words_at pmM_Course_words_at cdM_Course_words_at ctM_Course_words_at : Value} {fM_Finder_number_of : Addr} {odM_Finder_number_of anM_Finder_number_of : Option Addr} {slM_Finder_number_of : Array (Option Value)} {ocM_Finder_number_of kVM_Finder_number_of dcM_Finder_number_of pmM_Finder_number_of cdM_Finder_number_of ctM_Finder_number_of : Value}
    (a0 : PySem.W.nsIn K mainGlobals "own_rows" = some (some (.ref f0))) (l0 : K.lookup f0 = some ⟨oc0, od0, .func (PySem.W.fnOf "own_rows" "own_rows" (defArgs (top 41)) (defBody (top 41)) (defScope (top 41)) .none kV0 dc0 pm0 an0 cd0 ct0), sl0⟩) (e0 : PySem.W.codeIn K cd0 "own_rows" = true) (k0 : PySem.W.keepIn K (.ref f0) = true)
    (a1 : PySem.W.nsIn K mainGlobals "own_what" = some (some (.ref f1))) (l1 : K.lookup f1 = some ⟨oc1, od1, .func (PySem.W.fnOf "own_what" "own_what" (defArgs (top 42)) (defBody (top 42)) (defScope (top 42)) .none kV1 dc1 pm1 an1 cd1 ct1), sl1⟩) (e1 : PySem.W.codeIn K cd1 "own_what" = true) (k1 : PySem.W.keepIn K (.ref f1) = true)
    (a2 : PySem.W.nsIn K mainGlobals "throw_ways" = some (some (.ref f2))) (l2 : K.lookup f2 = some ⟨oc2, od2, .func (PySem.W.fnOf "throw_ways" "throw_ways" (defArgs (top 45)) (defBody (top 45)) (defScope (top 45)) .none kV2 dc2 pm2 an2 cd2 ct2), sl2⟩) (e2 : PySem.W.codeIn K cd2 "throw_ways" = true) (k2 : PySem.W.keepIn K (.ref f2) = true)
    (a3 : PySem.W.nsIn K mainGlobals "pick_ways" = some (some (.ref f3))) (l3 : K.lookup f3 = some ⟨oc3, od3, .func (PySem.W.fnOf "pick_ways" "pick_ways" (defArgs (top 46)) (defBody (top 46)) (defScope (top 46)) .none kV3 dc3 pm3 an3 cd3 ct3), sl3⟩) (e3 : PySem.W.codeIn K cd3 "pick_ways" = true) (k3 : PySem.W.keepIn K (.ref f3) = true)
    (a4 : PySem.W.nsIn K mainGlobals "taken_up" = some (some (.ref f4))) (l4 : K.lookup f4 = some ⟨oc4, od4, .func (PySem.W.fnOf "taken_up" "taken_up" (defArgs (top 47)) (defBody (top 47)) (defScope (top 47)) .none kV4 dc4 pm4 an4 cd4 ct4), sl4⟩) (e4 : PySem.W.codeIn K cd4 "taken_up" = true) (k4 : PySem.W.keepIn K (.ref f4) = true)
    (a5 : PySem.W.nsIn K mainGlobals "spread" = some (some (.ref f5))) (l5 : K.lookup f5 = some ⟨oc5, od5, .func (PySem.W.fnOf "spread" "spread" (defArgs (top 48)) (defBody (top 48)) (defScope (top 48)) .none kV5 dc5 pm5 an5 cd5 ct5), sl5⟩) (e5 : PySem.W.codeIn K cd5 "spread" = true) (k5 : PySem.W.keepIn K (.ref f5) = true)
    (a6 : PySem.W.nsIn K mainGlobals "_law_at" = some (some (.ref f6))) (l6 : K.lookup f6 = some ⟨oc6, od6, .func (PySem.W.fnOf "_law_at" "_law_at" (defArgs (top 50)) (defBody (top 50)) (defScope (top 50)) .none kV6 dc6 pm6 an6 cd6 ct6), sl6⟩) (e6 : PySem.W.codeIn K cd6 "_law_at" = true) (k6 : PySem.W.keepIn K (.ref f6) = true)
    (a7 : PySem.W.nsIn K mainGlobals "_law_counts" = some (some (.ref f7))) (l7 : K.lookup f7 = some ⟨oc7, od7, .func (PySem.W.fnOf "_law_counts" "_law_counts" (defArgs (top 51)) (defBody (top 51)) (defScope (top 51)) .none kV7 dc7 pm7 an7 cd7 ct7), sl7⟩) (e7 : PySem.W.codeIn K cd7 "_law_counts" = true) (k7 : PySem.W.keepIn K (.ref f7) = true)
    (a8 : PySem.W.nsIn K mainGlobals "_law_numbers" = some (some (.ref f8))) (l8 : K.lookup f8 = some ⟨oc8, od8, .func (PySem.W.fnOf "_law_numbers" "_law_numbers" (defArgs (top 52)) (defBody (top 52)) (defScope (top 52)) .none kV8 dc8 pm8 an8 cd8 ct8), sl8⟩) (e8 : PySem.W.codeIn K cd8 "_law_numbers" = true) (k8 : PySem.W.keepIn K (.ref f8) = true)
    (a9 : PySem.W.nsIn K mainGlobals "_law_rows" = some (some (.ref f9))) (l9 : K.lookup f9 = some ⟨oc9, od9, .func (PySem.W.fnOf "_law_rows" "_law_rows" (defArgs (top 53)) (defBody (top 53)) (defScope (top 53)) .none kV9 dc9 pm9 an9 cd9 ct9), sl9⟩) (e9 : PySem.W.codeIn K cd9 "_law_rows" = true) (k9 : PySem.W.keepIn K (.ref f9) = true)
    (a10 : PySem.W.nsIn K mainGlobals "_law_open" = some (some (.ref f10))) (l10 : K.lookup f10 = some ⟨oc10, od10, .func (PySem.W.fnOf "_law_open" "_law_open" (defArgs (top 54)) (defBody (top 54)) (defScope (top 54)) .none kV10 dc10 pm10 an10 cd10 ct10), sl10⟩) (e10 : PySem.W.codeIn K cd10 "_law_open" = true) (k10 : PySem.W.keepIn K (.ref f10) = true)
    (a11 : PySem.W.nsIn K mainGlobals "_law_game" = some (some (.ref f11))) (l11 : K.lookup f11 = some ⟨oc11, od11, .func (PySem.W.fnOf "_law_game" "_law_game" (defArgs (top 55)) (defBody (top 55)) (defScope (top 55)) .none kV11 dc11 pm11 an11 cd11 ct11), sl11⟩) (e11 : PySem.W.codeIn K cd11 "_law_game" = true) (k11 : PySem.W.keepIn K (.ref f11) = true)
    (a12 : PySem.W.nsIn K mainGlobals "_law_due" = some (some (.ref f12))) (l12 : K.lookup f12 = some ⟨oc12, od12, .func (PySem.W.fnOf "_law_due" "_law_due" (defArgs (top 56)) (defBody (top 56)) (defScope (top 56)) .none kV12 dc12 pm12 an12 cd12 ct12), sl12⟩) (e12 : PySem.W.codeIn K cd12 "_law_due" = true) (k12 : PySem.W.keepIn K (.ref f12) = true)
    (a13 : PySem.W.nsIn K mainGlobals "_law_class" = some (some (.ref f13))) (l13 : K.lookup f13 = some ⟨oc13, od13, .func (PySem.W.fnOf "_law_class" "_law_class" (defArgs (top 57)) (defBody (top 57)) (defScope (top 57)) .none kV13 dc13 pm13 an13 cd13 ct13), sl13⟩) (e13 : PySem.W.codeIn K cd13 "_law_class" = true) (k13 : PySem.W.keepIn K (.ref f13) = true)
    (a14 : PySem.W.nsIn K mainGlobals "_law_right" = some (some (.ref f14))) (l14 : K.lookup f14 = some ⟨oc14, od14, .func (PySem.W.fnOf "_law_right" "_law_right" (defArgs (top 58)) (defBody (top 58)) (defScope (top 58)) .none kV14 dc14 pm14 an14 cd14 ct14), sl14⟩) (e14 : PySem.W.codeIn K cd14 "_law_right" = true) (k14 : PySem.W.keepIn K (.ref f14) = true)
    (a15 : PySem.W.nsIn K mainGlobals "law" = some (some (.ref f15))) (l15 : K.lookup f15 = some ⟨oc15, od15, .func (PySem.W.fnOf "law" "law" (defArgs (top 59)) (defBody (top 59)) (defScope (top 59)) .none kV15 dc15 pm15 an15 cd15 ct15), sl15⟩) (e15 : PySem.W.codeIn K cd15 "law" = true) (k15 : PySem.W.keepIn K (.ref f15) = true)
    (z_ValueError : PySem.W.nsIn K mainGlobals "ValueError" = some none)
    (z_enumerate : PySem.W.nsIn K mainGlobals "enumerate" = some none)
    (z_int : PySem.W.nsIn K mainGlobals "int" = some none)
    (z_isinstance : PySem.W.nsIn K mainGlobals "isinstance" = some none)
    (z_len : PySem.W.nsIn K mainGlobals "len" = some none)
    (z_list : PySem.W.nsIn K mainGlobals "list" = some none)
    (z_max : PySem.W.nsIn K mainGlobals "max" = some none)
    (z_min : PySem.W.nsIn K mainGlobals "min" = some none)
    (z_range : PySem.W.nsIn K mainGlobals "range" = some none)
    (z_tuple : PySem.W.nsIn K mainGlobals "tuple" = some none)
    (c_MOST_STATES : PySem.W.nsIn K mainGlobals "MOST_STATES" = some (some (.int 120 vt_MOST_STATES)))
    (k_LuckError : PySem.W.nsIn K mainGlobals "LuckError" = some (some (.ref q_LuckError)))
    (k_NoShare : PySem.W.nsIn K mainGlobals "NoShare" = some (some (.ref q_NoShare)))
    (k_NoTable : PySem.W.nsIn K mainGlobals "NoTable" = some (some (.ref q_NoTable)))
    (k_NoPool : PySem.W.nsIn K mainGlobals "NoPool" = some (some (.ref q_NoPool)))
    (k_NoEnd : PySem.W.nsIn K mainGlobals "NoEnd" = some (some (.ref q_NoEnd)))
    (k_TooMany : PySem.W.nsIn K mainGlobals "TooMany" = some (some (.ref q_TooMany)))
    (k_NoGame : PySem.W.nsIn K mainGlobals "NoGame" = some (some (.ref q_NoGame)))
    (k_NoWay : PySem.W.nsIn K mainGlobals "NoWay" = some (some (.ref q_NoWay)))
    (k_NoRule : PySem.W.nsIn K mainGlobals "NoRule" = some (some (.ref q_NoRule)))
    (k_NoStep : PySem.W.nsIn K mainGlobals "NoStep" = some (some (.ref q_NoStep)))
    (k_NoPlay : PySem.W.nsIn K mainGlobals "NoPlay" = some (some (.ref q_NoPlay)))
    (k_NoRow : PySem.W.nsIn K mainGlobals "NoRow" = some (some (.ref q_NoRow)))
    (k_Course : PySem.W.nsIn K mainGlobals "Course" = some (some (.ref q_Course)))
    (k_Finder : PySem.W.nsIn K mainGlobals "Finder" = some (some (.ref q_Finder)))
    (x_NoWay : PySem.W.excIn K q_NoWay bmVE newVE = true)
    (y_NoWaycls : (PySem.W.clsIn K q_NoWay).isSome = true)
    (y_NoWayga : PySem.W.findIn K (.ref q_NoWay) "__getattribute__" = some (some (.builtin "BaseException.__getattribute__")))
    (y_NoWaygt : PySem.W.findIn K (.ref q_NoWay) "__getattr__" = some none)
    (y_NoWaycl : PySem.W.findIn K (.ref q_NoWay) "__class__" = some (some (.builtin "object.__class__")))
    (y_NoWaybe : PySem.W.mroIn K q_NoWay (.type "BaseException") = some true)
    (y_NoWayob : PySem.W.mroIn K q_NoWay (.type "object") = some true)
    (e_NoWay_LuckError : PySem.W.exmOne K (.ref q_NoWay) (.ref q_LuckError) = some true)
    (i_NoWay_NoWay : PySem.W.kitOne K (.ref q_NoWay) (.ref q_NoWay) = some true)
    (i_NoWay_ValueError : PySem.W.kitOne K (.ref q_NoWay) (.type "ValueError") = some true)
    (n_NoWay_NoEnd : PySem.W.kitOne K (.ref q_NoWay) (.ref q_NoEnd) = some false)
    (n_NoWay_NoGame : PySem.W.kitOne K (.ref q_NoWay) (.ref q_NoGame) = some false)
    (n_NoWay_NoPlay : PySem.W.kitOne K (.ref q_NoWay) (.ref q_NoPlay) = some false)
    (n_NoWay_NoPool : PySem.W.kitOne K (.ref q_NoWay) (.ref q_NoPool) = some false)
    (n_NoWay_NoRow : PySem.W.kitOne K (.ref q_NoWay) (.ref q_NoRow) = some false)
    (n_NoWay_NoRule : PySem.W.kitOne K (.ref q_NoWay) (.ref q_NoRule) = some false)
    (n_NoWay_NoShare : PySem.W.kitOne K (.ref q_NoWay) (.ref q_NoShare) = some false)
    (n_NoWay_NoStep : PySem.W.kitOne K (.ref q_NoWay) (.ref q_NoStep) = some false)
    (n_NoWay_NoTable : PySem.W.kitOne K (.ref q_NoWay) (.ref q_NoTable) = some false)
    (n_NoWay_TooMany : PySem.W.kitOne K (.ref q_NoWay) (.ref q_TooMany) = some false)
    (cl_Coursepg : PySem.W.plainGet K q_Course Str.empty = true)
    (cl_Coursehd : PySem.W.hasDictIn K q_Course = true)
    (cl_Coursepo : PySem.W.plainOver K q_Course = true)
    (cl_Coursesa : PySem.W.findIn K (.ref q_Course) "__setattr__" = some (some (.builtin "object.__setattr__")))
    (cl_Finderpg : PySem.W.plainGet K q_Finder Str.empty = true)
    (cl_Finderhd : PySem.W.hasDictIn K q_Finder = true)
    (cl_Finderpo : PySem.W.plainOver K q_Finder = true)
    (cl_Findersa : PySem.W.findIn K (.ref q_Finder) "__setattr__" = some (some (.builtin "object.__setattr__")))
    (na_Course_first : PySem.W.findIn K (.ref q_Course) "first" = some none)
    (na_Course_mosts : PySem.W.findIn K (.ref q_Course) "mosts" = some none)
    (na_Course_spots : PySem.W.findIn K (.ref q_Course) "spots" = some none)
    (na_Course_tables : PySem.W.findIn K (.ref q_Course) "tables" = some none)
    (na_Course_whats : PySem.W.findIn K (.ref q_Course) "whats" = some none)
    (na_Finder_numbers : PySem.W.findIn K (.ref q_Finder) "numbers" = some none)
    (na_Finder_states : PySem.W.findIn K (.ref q_Finder) "states" = some none)
    (dia_Course : PySem.W.findIn K (.ref q_Course) "__init__" = some (some (.ref fI_Course)))
    (dii_Course : PySem.W.isFn K (.ref fI_Course) = true)
    (dil_Course : K.lookup fI_Course = some ⟨ocI_Course, odI_Course, .func (PySem.W.fnOf "__init__" "Course.__init__" (defArgs (inClass (top 43) 0)) (defBody (inClass (top 43) 0)) (defScope (inClass (top 43) 0)) .none kVI_Course dcI_Course pmI_Course anI_Course cdI_Course ctI_Course), slI_Course⟩)
    (dic_Course : PySem.W.codeIn K cdI_Course "Course.__init__" = true)
    (dik_Course : PySem.W.keepIn K (.ref fI_Course) = true)
    (dim_Course : PySem.W.makesIn K q_Course = true)
    (diq_Course : PySem.W.keepIn K (.ref q_Course) = true)
    (dia_Finder : PySem.W.findIn K (.ref q_Finder) "__init__" = some (some (.ref fI_Finder)))
    (dii_Finder : PySem.W.isFn K (.ref fI_Finder) = true)
    (dil_Finder : K.lookup fI_Finder = some ⟨ocI_Finder, odI_Finder, .func (PySem.W.fnOf "__init__" "Finder.__init__" (defArgs (inClass (top 44) 0)) (defBody (inClass (top 44) 0)) (defScope (inClass (top 44) 0)) .none kVI_Finder dcI_Finder pmI_Finder anI_Finder cdI_Finder ctI_Finder), slI_Finder⟩)
    (dic_Finder : PySem.W.codeIn K cdI_Finder "Finder.__init__" = true)
    (dik_Finder : PySem.W.keepIn K (.ref fI_Finder) = true)
    (dim_Finder : PySem.W.makesIn K q_Finder = true)
    (diq_Finder : PySem.W.keepIn K (.ref q_Finder) = true)
    (dma_Course_asked : PySem.W.findIn K (.ref q_Course) "asked" = some (some (.ref fM_Course_asked)))
    (dmi_Course_asked : PySem.W.isFn K (.ref fM_Course_asked) = true)
    (dml_Course_asked : K.lookup fM_Course_asked = some ⟨ocM_Course_asked, odM_Course_asked, .func (PySem.W.fnOf "asked" "Course.asked" (defArgs (inClass (top 43) 3)) (defBody (inClass (top 43) 3)) (defScope (inClass (top 43) 3)) .none kVM_Course_asked dcM_Course_asked pmM_Course_asked anM_Course_asked cdM_Course_asked ctM_Course_asked), slM_Course_asked⟩)
    (dmc_Course_asked : PySem.W.codeIn K cdM_Course_asked "Course.asked" = true)
    (dmk_Course_asked : PySem.W.keepIn K (.ref fM_Course_asked) = true)
    (dma_Course_by_row : PySem.W.findIn K (.ref q_Course) "by_row" = some (some (.ref fM_Course_by_row)))
    (dmi_Course_by_row : PySem.W.isFn K (.ref fM_Course_by_row) = true)
    (dml_Course_by_row : K.lookup fM_Course_by_row = some ⟨ocM_Course_by_row, odM_Course_by_row, .func (PySem.W.fnOf "by_row" "Course.by_row" (defArgs (inClass (top 43) 6)) (defBody (inClass (top 43) 6)) (defScope (inClass (top 43) 6)) .none kVM_Course_by_row dcM_Course_by_row pmM_Course_by_row anM_Course_by_row cdM_Course_by_row ctM_Course_by_row), slM_Course_by_row⟩)
    (dmc_Course_by_row : PySem.W.codeIn K cdM_Course_by_row "Course.by_row" = true)
    (dmk_Course_by_row : PySem.W.keepIn K (.ref fM_Course_by_row) = true)
    (dma_Course_do : PySem.W.findIn K (.ref q_Course) "do" = some (some (.ref fM_Course_do)))
    (dmi_Course_do : PySem.W.isFn K (.ref fM_Course_do) = true)
    (dml_Course_do : K.lookup fM_Course_do = some ⟨ocM_Course_do, odM_Course_do, .func (PySem.W.fnOf "do" "Course.do" (defArgs (inClass (top 43) 2)) (defBody (inClass (top 43) 2)) (defScope (inClass (top 43) 2)) .none kVM_Course_do dcM_Course_do pmM_Course_do anM_Course_do cdM_Course_do ctM_Course_do), slM_Course_do⟩)
    (dmc_Course_do : PySem.W.codeIn K cdM_Course_do "Course.do" = true)
    (dmk_Course_do : PySem.W.keepIn K (.ref fM_Course_do) = true)
    (dma_Course_end_worth : PySem.W.findIn K (.ref q_Course) "end_worth" = some (some (.ref fM_Course_end_worth)))
    (dmi_Course_end_worth : PySem.W.isFn K (.ref fM_Course_end_worth) = true)
    (dml_Course_end_worth : K.lookup fM_Course_end_worth = some ⟨ocM_Course_end_worth, odM_Course_end_worth, .func (PySem.W.fnOf "end_worth" "Course.end_worth" (defArgs (inClass (top 43) 12)) (defBody (inClass (top 43) 12)) (defScope (inClass (top 43) 12)) .none kVM_Course_end_worth dcM_Course_end_worth pmM_Course_end_worth anM_Course_end_worth cdM_Course_end_worth ctM_Course_end_worth), slM_Course_end_worth⟩)
    (dmc_Course_end_worth : PySem.W.codeIn K cdM_Course_end_worth "Course.end_worth" = true)
    (dmk_Course_end_worth : PySem.W.keepIn K (.ref fM_Course_end_worth) = true)
    (dma_Course_holds : PySem.W.findIn K (.ref q_Course) "holds" = some (some (.ref fM_Course_holds)))
    (dmi_Course_holds : PySem.W.isFn K (.ref fM_Course_holds) = true)
    (dml_Course_holds : K.lookup fM_Course_holds = some ⟨ocM_Course_holds, odM_Course_holds, .func (PySem.W.fnOf "holds" "Course.holds" (defArgs (inClass (top 43) 9)) (defBody (inClass (top 43) 9)) (defScope (inClass (top 43) 9)) .none kVM_Course_holds dcM_Course_holds pmM_Course_holds anM_Course_holds cdM_Course_holds ctM_Course_holds), slM_Course_holds⟩)
    (dmc_Course_holds : PySem.W.codeIn K cdM_Course_holds "Course.holds" = true)
    (dmk_Course_holds : PySem.W.keepIn K (.ref fM_Course_holds) = true)
    (dma_Course_open_rows : PySem.W.findIn K (.ref q_Course) "open_rows" = some (some (.ref fM_Course_open_rows)))
    (dmi_Course_open_rows : PySem.W.isFn K (.ref fM_Course_open_rows) = true)
    (dml_Course_open_rows : K.lookup fM_Course_open_rows = some ⟨ocM_Course_open_rows, odM_Course_open_rows, .func (PySem.W.fnOf "open_rows" "Course.open_rows" (defArgs (inClass (top 43) 10)) (defBody (inClass (top 43) 10)) (defScope (inClass (top 43) 10)) .none kVM_Course_open_rows dcM_Course_open_rows pmM_Course_open_rows anM_Course_open_rows cdM_Course_open_rows ctM_Course_open_rows), slM_Course_open_rows⟩)
    (dmc_Course_open_rows : PySem.W.codeIn K cdM_Course_open_rows "Course.open_rows" = true)
    (dmk_Course_open_rows : PySem.W.keepIn K (.ref fM_Course_open_rows) = true)
    (dma_Course_put : PySem.W.findIn K (.ref q_Course) "put" = some (some (.ref fM_Course_put)))
    (dmi_Course_put : PySem.W.isFn K (.ref fM_Course_put) = true)
    (dml_Course_put : K.lookup fM_Course_put = some ⟨ocM_Course_put, odM_Course_put, .func (PySem.W.fnOf "put" "Course.put" (defArgs (inClass (top 43) 1)) (defBody (inClass (top 43) 1)) (defScope (inClass (top 43) 1)) .none kVM_Course_put dcM_Course_put pmM_Course_put anM_Course_put cdM_Course_put ctM_Course_put), slM_Course_put⟩)
    (dmc_Course_put : PySem.W.codeIn K cdM_Course_put "Course.put" = true)
    (dmk_Course_put : PySem.W.keepIn K (.ref fM_Course_put) = true)
    (dma_Course_start : PySem.W.findIn K (.ref q_Course) "start" = some (some (.ref fM_Course_start)))
    (dmi_Course_start : PySem.W.isFn K (.ref fM_Course_start) = true)
    (dml_Course_start : K.lookup fM_Course_start = some ⟨ocM_Course_start, odM_Course_start, .func (PySem.W.fnOf "start" "Course.start" (defArgs (inClass (top 43) 4)) (defBody (inClass (top 43) 4)) (defScope (inClass (top 43) 4)) .none kVM_Course_start dcM_Course_start pmM_Course_start anM_Course_start cdM_Course_start ctM_Course_start), slM_Course_start⟩)
    (dmc_Course_start : PySem.W.codeIn K cdM_Course_start "Course.start" = true)
    (dmk_Course_start : PySem.W.keepIn K (.ref fM_Course_start) = true)
    (dma_Course_what_at : PySem.W.findIn K (.ref q_Course) "what_at" = some (some (.ref fM_Course_what_at)))
    (dmi_Course_what_at : PySem.W.isFn K (.ref fM_Course_what_at) = true)
    (dml_Course_what_at : K.lookup fM_Course_what_at = some ⟨ocM_Course_what_at, odM_Course_what_at, .func (PySem.W.fnOf "what_at" "Course.what_at" (defArgs (inClass (top 43) 5)) (defBody (inClass (top 43) 5)) (defScope (inClass (top 43) 5)) .none kVM_Course_what_at dcM_Course_what_at pmM_Course_what_at anM_Course_what_at cdM_Course_what_at ctM_Course_what_at), slM_Course_what_at⟩)
    (dmc_Course_what_at : PySem.W.codeIn K cdM_Course_what_at "Course.what_at" = true)
    (dmk_Course_what_at : PySem.W.keepIn K (.ref fM_Course_what_at) = true)
    (dma_Course_words_at : PySem.W.findIn K (.ref q_Course) "words_at" = some (some (.ref fM_Course_words_at)))
    (dmi_Course_words_at : PySem.W.isFn K (.ref fM_Course_words_at) = true)
    (dml_Course_words_at : K.lookup fM_Course_words_at = some ⟨ocM_Course_words_at, odM_Course_words_at, .func (PySem.W.fnOf "words_at" "Course.words_at" (defArgs (inClass (top 43) 11)) (defBody (inClass (top 43) 11)) (defScope (inClass (top 43) 11)) .none kVM_Course_words_at dcM_Course_words_at pmM_Course_words_at anM_Course_words_at cdM_Course_words_at ctM_Course_words_at), slM_Course_words_at⟩)
    (dmc_Course_words_at : PySem.W.codeIn K cdM_Course_words_at "Course.words_at" = true)
    (dmk_Course_words_at : PySem.W.keepIn K (.ref fM_Course_words_at) = true)
    (dma_Finder_number_of : PySem.W.findIn K (.ref q_Finder) "number_of" = some (some (.ref fM_Finder_number_of)))
    (dmi_Finder_number_of : PySem.W.isFn K (.ref fM_Finder_number_of) = true)
    (dml_Finder_number_of : K.lookup fM_Finder_number_of = some ⟨ocM_Finder_number_of, odM_Finder_number_of, .func (PySem.W.fnOf "number_of" "Finder.number_of" (defArgs (inClass (top 44) 1)) (defBody (inClass (top 44) 1)) (defScope (inClass (top 44) 1)) .none kVM_Finder_number_of dcM_Finder_number_of pmM_Finder_number_of anM_Finder_number_of cdM_Finder_number_of ctM_Finder_number_of), slM_Finder_number_of⟩)
    (dmc_Finder_number_of : PySem.W.codeIn K cdM_Finder_number_of "Finder.number_of" = true)
    (dmk_Finder_number_of : PySem.W.keepIn K (.ref fM_Finder_number_of) = true)
    : ∃ fd : FuncData, (∀ (s : Shared) (v : Value), BindsTo s fd ⟨[v], []⟩ [("_law_script", v)]) ∧ ∀ base : Heap, K.In base → base.Ns mainGlobals mg → FnOk l.prog w K mg base (CX1 l.prog w) 30 fa fd ["_law_script"] (spLaw K) := by
  have e := hfa.symm.trans (PySem.W.mg_of X G a15)
  cases e
  have T : Txt K mg q_LuckError q_NoShare q_NoTable q_NoPool q_NoEnd q_TooMany q_NoGame q_NoWay q_NoRule q_NoStep q_NoPlay q_NoRow q_Course q_Finder := ⟨PySem.W.mg_none_of X G z_ValueError, PySem.W.mg_none_of X G z_enumerate, PySem.W.mg_none_of X G z_int, PySem.W.mg_none_of X G z_isinstance, PySem.W.mg_none_of X G z_len, PySem.W.mg_none_of X G z_list, PySem.W.mg_none_of X G z_max, PySem.W.mg_none_of X G z_min, PySem.W.mg_none_of X G z_range, PySem.W.mg_none_of X G z_tuple, ⟨_, _, fun_mk l0 e0 k0, PySem.W.mg_of X G a0⟩, ⟨_, _, fun_mk l1 e1 k1, PySem.W.mg_of X G a1⟩, ⟨_, _, fun_mk l2 e2 k2, PySem.W.mg_of X G a2⟩, ⟨_, _, fun_mk l3 e3 k3, PySem.W.mg_of X G a3⟩, ⟨_, _, fun_mk l4 e4 k4, PySem.W.mg_of X G a4⟩, ⟨_, _, fun_mk l5 e5 k5, PySem.W.mg_of X G a5⟩, ⟨_, _, fun_mk l6 e6 k6, PySem.W.mg_of X G a6⟩, ⟨_, _, fun_mk l7 e7 k7, PySem.W.mg_of X G a7⟩, ⟨_, _, fun_mk l8 e8 k8, PySem.W.mg_of X G a8⟩, ⟨_, _, fun_mk l9 e9 k9, PySem.W.mg_of X G a9⟩, ⟨_, _, fun_mk l10 e10 k10, PySem.W.mg_of X G a10⟩, ⟨_, _, fun_mk l11 e11 k11, PySem.W.mg_of X G a11⟩, ⟨_, _, fun_mk l12 e12 k12, PySem.W.mg_of X G a12⟩, ⟨_, _, fun_mk l13 e13 k13, PySem.W.mg_of X G a13⟩, ⟨_, _, fun_mk l14 e14 k14, PySem.W.mg_of X G a14⟩, ⟨_, PySem.W.mg_of X G c_MOST_STATES⟩, PySem.W.mg_of X G k_LuckError, PySem.W.mg_of X G k_NoShare, PySem.W.mg_of X G k_NoTable, PySem.W.mg_of X G k_NoPool, PySem.W.mg_of X G k_NoEnd, PySem.W.mg_of X G k_TooMany, PySem.W.mg_of X G k_NoGame, PySem.W.mg_of X G k_NoWay, PySem.W.mg_of X G k_NoRule, PySem.W.mg_of X G k_NoStep, PySem.W.mg_of X G k_NoPlay, PySem.W.mg_of X G k_NoRow, PySem.W.mg_of X G k_Course, PySem.W.mg_of X G k_Finder, x_NoWay, ⟨y_NoWaycls, y_NoWayga, y_NoWaygt, y_NoWaycl, y_NoWaybe, y_NoWayob⟩, e_NoWay_LuckError, i_NoWay_NoWay, i_NoWay_ValueError, n_NoWay_NoEnd, n_NoWay_NoGame, n_NoWay_NoPlay, n_NoWay_NoPool, n_NoWay_NoRow, n_NoWay_NoRule, n_NoWay_NoShare, n_NoWay_NoStep, n_NoWay_NoTable, n_NoWay_TooMany, ⟨cl_Coursepg, cl_Coursehd, cl_Coursepo, cl_Coursesa⟩, ⟨cl_Finderpg, cl_Finderhd, cl_Finderpo, cl_Findersa⟩, na_Course_first, na_Course_mosts, na_Course_spots, na_Course_tables, na_Course_whats, na_Finder_numbers, na_Finder_states, ⟨_, _, fun_mk dil_Course dic_Course dik_Course, ⟨dim_Course, dia_Course, dii_Course, diq_Course⟩, PySem.W.mg_of X G k_Course⟩, ⟨_, _, fun_mk dil_Finder dic_Finder dik_Finder, ⟨dim_Finder, dia_Finder, dii_Finder, diq_Finder⟩, PySem.W.mg_of X G k_Finder⟩, ⟨_, _, fun_mk dml_Course_asked dmc_Course_asked dmk_Course_asked, ⟨dma_Course_asked, dmi_Course_asked, dmk_Course_asked⟩⟩, ⟨_, _, fun_mk dml_Course_by_row dmc_Course_by_row dmk_Course_by_row, ⟨dma_Course_by_row, dmi_Course_by_row, dmk_Course_by_row⟩⟩, ⟨_, _, fun_mk dml_Course_do dmc_Course_do dmk_Course_do, ⟨dma_Course_do, dmi_Course_do, dmk_Course_do⟩⟩, ⟨_, _, fun_mk dml_Course_end_worth dmc_Course_end_worth dmk_Course_end_worth, ⟨dma_Course_end_worth, dmi_Course_end_worth, dmk_Course_end_worth⟩⟩, ⟨_, _, fun_mk dml_Course_holds dmc_Course_holds dmk_Course_holds, ⟨dma_Course_holds, dmi_Course_holds, dmk_Course_holds⟩⟩, ⟨_, _, fun_mk dml_Course_open_rows dmc_Course_open_rows dmk_Course_open_rows, ⟨dma_Course_open_rows, dmi_Course_open_rows, dmk_Course_open_rows⟩⟩, ⟨_, _, fun_mk dml_Course_put dmc_Course_put dmk_Course_put, ⟨dma_Course_put, dmi_Course_put, dmk_Course_put⟩⟩, ⟨_, _, fun_mk dml_Course_start dmc_Course_start dmk_Course_start, ⟨dma_Course_start, dmi_Course_start, dmk_Course_start⟩⟩, ⟨_, _, fun_mk dml_Course_what_at dmc_Course_what_at dmk_Course_what_at, ⟨dma_Course_what_at, dmi_Course_what_at, dmk_Course_what_at⟩⟩, ⟨_, _, fun_mk dml_Course_words_at dmc_Course_words_at dmk_Course_words_at, ⟨dma_Course_words_at, dmi_Course_words_at, dmk_Course_words_at⟩⟩, ⟨_, _, fun_mk dml_Finder_number_of dmc_Finder_number_of dmk_Finder_number_of, ⟨dma_Finder_number_of, dmi_Finder_number_of, dmk_Finder_number_of⟩⟩⟩
  exact ⟨_, fun s v => .of_eq rfl, fun base _ _ => (ok_law T (fun_mk l15 e15 k15)).mono (by decide)⟩
theorem walk {l : PySem.W.OpenLaw} {q : Program} {loose : List Str} {XP : (Str → Option Value) → Heap → Prop} {YP : World → Heap → Prop} {d : DefRec} {K : Params → PySem.W.Frag} (hn : l.most = some 63) (hdf : d.params.defaults = [])
    (hY : ∀ (w : World) (h : Heap), YP w h → (K w.params).In h)
    (F : ∀ (w : World) (mg : Str → Option Value) (fa : Addr) (h : Heap), (K w.params).In h → h.Ns mainGlobals mg → mg d.name = some (.ref fa) →
      ∃ fd : FuncData, (∀ (s : Shared) (u : Value), BindsTo s fd ⟨[u], []⟩ [("_law_script", u)]) ∧ ∀ base : Heap, (K w.params).In base → base.Ns mainGlobals mg → FnOk l.prog w (K w.params) mg base (CX1 l.prog w) 30 fa fd ["_law_script"] (spLaw (K w.params))) :
    PySem.W.WalkO q loose XP YP l.row.toRowW d [] (fun f vs => PySem.call f vs) :=
  L2.walk_of (n := 63) (k := 30) (x := "_law_script") (CX := fun w => CX1 l.prog w) (sp := fun w => spLaw (K w.params)) hn (by decide) hdf ⟨rfl, by decide, by decide⟩ hY F (fun _ _ a ns hl _ hS => ⟨a, ns, rfl, hS, hl, fun _ => rfl⟩) fun _ _ _ _ _ z => (strict1 _ _) _ _ _ _ _ z
end K56
open PySem PySem.W PyProof.Rows
set_option maxRecDepth 100000 in
set_option maxHeartbeats 0 in
theorem PySem.Challenge.cw_pressluck_k56_open_ways_holds : PySem.Challenge.rw_pressluck_k56_open_ways.Holds := by
  w_on; refine holds_law (by decide +kernel) fun said => ?_
  refine holds_open (q := K56.vw) (loose := []) (Xt := (fun s => xlAt K56.vw [] s && recOk (RowW.records (OpenRow.toRowW (PySem.W.OpenLaw.row PySem.Challenge.rw_pressluck_k56_open_ways))) s)) (XP := XL K56.vw []) (Yf := Hook.obs (kHook K56.pre.heap_1 K56.hka K56.hkp)) (Ya := Hook.val (kHook K56.pre.heap_1 K56.hka K56.hkp)) (YP := Hook.says (kHook K56.pre.heap_1 K56.hka K56.hkp)) (N := 9314) (Hd.left_runQ (by kernel_rfl) (by decide) (fun s => by kernel_rfl) K56.run) (Hook.of (kHook K56.pre.heap_1 K56.hka K56.hkp)) (Hook.keeps (kHook K56.pre.heap_1 K56.hka K56.hkp)) (fun s e => xl_of s (Bool.and_eq_true_iff.mp e).1) XL.keeps (by rfl) (by rfl) (by rfl) (fun s e => recFacts_of (Bool.and_eq_true_iff.mp e).2) (by rfl) (by first | assumption | decide +kernel) (by decide +kernel) ⟨rfl, rfl, rfl, rfl, rfl, by decide +kernel⟩ ?hw ?hc
  (case hw => w_witness2)
  k_fill
  refine K56.walk (l := PySem.Challenge.rw_pressluck_k56_open_ways) rfl rfl (fun w h Y => PySem.W.kIn_of Y) ?F
  case F =>
    intro w mg fa h KX G hmg
    refine' K56.all_mk KX G hmg ?a0 ?l0 ?e0 ?k0 ?a1 ?l1 ?e1 ?k1 ?a2 ?l2 ?e2 ?k2 ?a3 ?l3 ?e3 ?k3 ?a4 ?l4 ?e4 ?k4 ?a5 ?l5 ?e5 ?k5 ?a6 ?l6 ?e6 ?k6 ?a7 ?l7 ?e7 ?k7 ?a8 ?l8 ?e8 ?k8 ?a9 ?l9 ?e9 ?k9 ?a10 ?l10 ?e10 ?k10 ?a11 ?l11 ?e11 ?k11 ?a12 ?l12 ?e12 ?k12 ?a13 ?l13 ?e13 ?k13 ?a14 ?l14 ?e14 ?k14 ?a15 ?l15 ?e15 ?k15 ?z_ValueError ?z_enumerate ?z_int ?z_isinstance ?z_len ?z_list ?z_max ?z_min ?z_range ?z_tuple ?c_MOST_STATES ?k_LuckError ?k_NoShare ?k_NoTable ?k_NoPool ?k_NoEnd ?k_TooMany ?k_NoGame ?k_NoWay ?k_NoRule ?k_NoStep ?k_NoPlay ?k_NoRow ?k_Course ?k_Finder ?x_NoWay ?y_NoWaycls ?y_NoWayga ?y_NoWaygt ?y_NoWaycl ?y_NoWaybe ?y_NoWayob ?e_NoWay_LuckError ?i_NoWay_NoWay ?i_NoWay_ValueError ?n_NoWay_NoEnd ?n_NoWay_NoGame ?n_NoWay_NoPlay ?n_NoWay_NoPool ?n_NoWay_NoRow ?n_NoWay_NoRule ?n_NoWay_NoShare ?n_NoWay_NoStep ?n_NoWay_NoTable ?n_NoWay_TooMany ?cl_Coursepg ?cl_Coursehd ?cl_Coursepo ?cl_Coursesa ?cl_Finderpg ?cl_Finderhd ?cl_Finderpo ?cl_Findersa ?na_Course_first ?na_Course_mosts ?na_Course_spots ?na_Course_tables ?na_Course_whats ?na_Finder_numbers ?na_Finder_states ?dia_Course ?dii_Course ?dil_Course ?dic_Course ?dik_Course ?dim_Course ?diq_Course ?dia_Finder ?dii_Finder ?dil_Finder ?dic_Finder ?dik_Finder ?dim_Finder ?diq_Finder ?dma_Course_asked ?dmi_Course_asked ?dml_Course_asked ?dmc_Course_asked ?dmk_Course_asked ?dma_Course_by_row ?dmi_Course_by_row ?dml_Course_by_row ?dmc_Course_by_row ?dmk_Course_by_row ?dma_Course_do ?dmi_Course_do ?dml_Course_do ?dmc_Course_do ?dmk_Course_do ?dma_Course_end_worth ?dmi_Course_end_worth ?dml_Course_end_worth ?dmc_Course_end_worth ?dmk_Course_end_worth ?dma_Course_holds ?dmi_Course_holds ?dml_Course_holds ?dmc_Course_holds ?dmk_Course_holds ?dma_Course_open_rows ?dmi_Course_open_rows ?dml_Course_open_rows ?dmc_Course_open_rows ?dmk_Course_open_rows ?dma_Course_put ?dmi_Course_put ?dml_Course_put ?dmc_Course_put ?dmk_Course_put ?dma_Course_start ?dmi_Course_start ?dml_Course_start ?dmc_Course_start ?dmk_Course_start ?dma_Course_what_at ?dmi_Course_what_at ?dml_Course_what_at ?dmc_Course_what_at ?dmk_Course_what_at ?dma_Course_words_at ?dmi_Course_words_at ?dml_Course_words_at ?dmc_Course_words_at ?dmk_Course_words_at ?dma_Finder_number_of ?dmi_Finder_number_of ?dml_Finder_number_of ?dmc_Finder_number_of ?dmk_Finder_number_of
    (case a0 => k_is)
    (case l0 => k_is)
    (case e0 => k_is)
    (case k0 => k_is)
    (case a1 => k_is)
    (case l1 => k_is)
    (case e1 => k_is)
    (case k1 => k_is)
    (case a2 => k_is)
    (case l2 => k_is)
    (case e2 => k_is)
    (case k2 => k_is)
    (case a3 => k_is)
    (case l3 => k_is)
    (case e3 => k_is)
    (case k3 => k_is)
    (case a4 => k_is)
    (case l4 => k_is)
    (case e4 => k_is)
    (case k4 => k_is)
    (case a5 => k_is)
    (case l5 => k_is)
    (case e5 => k_is)
    (case k5 => k_is)
    (case a6 => k_is)
    (case l6 => k_is)
    (case e6 => k_is)
    (case k6 => k_is)
    (case a7 => k_is)
    (case l7 => k_is)
    (case e7 => k_is)
    (case k7 => k_is)
    (case a8 => k_is)
    (case l8 => k_is)
    (case e8 => k_is)
    (case k8 => k_is)
    (case a9 => k_is)
    (case l9 => k_is)
    (case e9 => k_is)
    (case k9 => k_is)
    (case a10 => k_is)
    (case l10 => k_is)
    (case e10 => k_is)
    (case k10 => k_is)
    (case a11 => k_is)
    (case l11 => k_is)
    (case e11 => k_is)
    (case k11 => k_is)
    (case a12 => k_is)
    (case l12 => k_is)
    (case e12 => k_is)
    (case k12 => k_is)
    (case a13 => k_is)
    (case l13 => k_is)
    (case e13 => k_is)
    (case k13 => k_is)
    (case a14 => k_is)
    (case l14 => k_is)
    (case e14 => k_is)
    (case k14 => k_is)
    (case a15 => k_is)
    (case l15 => k_is)
    (case e15 => k_is)
    (case k15 => k_is)
    (case z_ValueError => k_is)
    (case z_enumerate => k_is)
    (case z_int => k_is)
    (case z_isinstance => k_is)
    (case z_len => k_is)
    (case z_list => k_is)
    (case z_max => k_is)
    (case z_min => k_is)
    (case z_range => k_is)
    (case z_tuple => k_is)
    (case c_MOST_STATES => k_is)
    (case k_LuckError => k_is)
    (case k_NoShare => k_is)
    (case k_NoTable => k_is)
    (case k_NoPool => k_is)
    (case k_NoEnd => k_is)
    (case k_TooMany => k_is)
    (case k_NoGame => k_is)
    (case k_NoWay => k_is)
    (case k_NoRule => k_is)
    (case k_NoStep => k_is)
    (case k_NoPlay => k_is)
    (case k_NoRow => k_is)
    (case k_Course => k_is)
    (case k_Finder => k_is)
    (case x_NoWay => first | k_is | kit_is | kernel_rfl)
    (case y_NoWaycls => first | k_is | kit_is | kernel_rfl)
    (case y_NoWayga => first | k_is | kit_is | kernel_rfl)
    (case y_NoWaygt => first | k_is | kit_is | kernel_rfl)
    (case y_NoWaycl => first | k_is | kit_is | kernel_rfl)
    (case y_NoWaybe => first | k_is | kit_is | kernel_rfl)
    (case y_NoWayob => first | k_is | kit_is | kernel_rfl)
    (case e_NoWay_LuckError => first | k_is | kit_is | kernel_rfl)
    (case i_NoWay_NoWay => first | k_is | kit_is | kernel_rfl)
    (case i_NoWay_ValueError => first | k_is | kit_is | kernel_rfl)
    (case n_NoWay_NoEnd => first | k_is | kit_is | kernel_rfl)
    (case n_NoWay_NoGame => first | k_is | kit_is | kernel_rfl)
    (case n_NoWay_NoPlay => first | k_is | kit_is | kernel_rfl)
    (case n_NoWay_NoPool => first | k_is | kit_is | kernel_rfl)
    (case n_NoWay_NoRow => first | k_is | kit_is | kernel_rfl)
    (case n_NoWay_NoRule => first | k_is | kit_is | kernel_rfl)
    (case n_NoWay_NoShare => first | k_is | kit_is | kernel_rfl)
    (case n_NoWay_NoStep => first | k_is | kit_is | kernel_rfl)
    (case n_NoWay_NoTable => first | k_is | kit_is | kernel_rfl)
    (case n_NoWay_TooMany => first | k_is | kit_is | kernel_rfl)
    (case cl_Coursepg => k_is)
    (case cl_Coursehd => k_is)
    (case cl_Coursepo => k_is)
    (case cl_Coursesa => k_is)
    (case cl_Finderpg => k_is)
    (case cl_Finderhd => k_is)
    (case cl_Finderpo => k_is)
    (case cl_Findersa => k_is)
    (case na_Course_first => k_is)
    (case na_Course_mosts => k_is)
    (case na_Course_spots => k_is)
    (case na_Course_tables => k_is)
    (case na_Course_whats => k_is)
    (case na_Finder_numbers => k_is)
    (case na_Finder_states => k_is)
    (case dia_Course => k_is)
    (case dii_Course => k_is)
    (case dil_Course => k_is)
    (case dic_Course => k_is)
    (case dik_Course => k_is)
    (case dim_Course => k_is)
    (case diq_Course => k_is)
    (case dia_Finder => k_is)
    (case dii_Finder => k_is)
    (case dil_Finder => k_is)
    (case dic_Finder => k_is)
    (case dik_Finder => k_is)
    (case dim_Finder => k_is)
    (case diq_Finder => k_is)
    (case dma_Course_asked => k_is)
    (case dmi_Course_asked => k_is)
    (case dml_Course_asked => k_is)
    (case dmc_Course_asked => k_is)
    (case dmk_Course_asked => k_is)
    (case dma_Course_by_row => k_is)
    (case dmi_Course_by_row => k_is)
    (case dml_Course_by_row => k_is)
    (case dmc_Course_by_row => k_is)
    (case dmk_Course_by_row => k_is)
    (case dma_Course_do => k_is)
    (case dmi_Course_do => k_is)
    (case dml_Course_do => k_is)
    (case dmc_Course_do => k_is)
    (case dmk_Course_do => k_is)
    (case dma_Course_end_worth => k_is)
    (case dmi_Course_end_worth => k_is)
    (case dml_Course_end_worth => k_is)
    (case dmc_Course_end_worth => k_is)
    (case dmk_Course_end_worth => k_is)
    (case dma_Course_holds => k_is)
    (case dmi_Course_holds => k_is)
    (case dml_Course_holds => k_is)
    (case dmc_Course_holds => k_is)
    (case dmk_Course_holds => k_is)
    (case dma_Course_open_rows => k_is)
    (case dmi_Course_open_rows => k_is)
    (case dml_Course_open_rows => k_is)
    (case dmc_Course_open_rows => k_is)
    (case dmk_Course_open_rows => k_is)
    (case dma_Course_put => k_is)
    (case dmi_Course_put => k_is)
    (case dml_Course_put => k_is)
    (case dmc_Course_put => k_is)
    (case dmk_Course_put => k_is)
    (case dma_Course_start => k_is)
    (case dmi_Course_start => k_is)
    (case dml_Course_start => k_is)
    (case dmc_Course_start => k_is)
    (case dmk_Course_start => k_is)
    (case dma_Course_what_at => k_is)
    (case dmi_Course_what_at => k_is)
    (case dml_Course_what_at => k_is)
    (case dmc_Course_what_at => k_is)
    (case dmk_Course_what_at => k_is)
    (case dma_Course_words_at => k_is)
    (case dmi_Course_words_at => k_is)
    (case dml_Course_words_at => k_is)
    (case dmc_Course_words_at => k_is)
    (case dmk_Course_words_at => k_is)
    (case dma_Finder_number_of => k_is)
    (case dmi_Finder_number_of => k_is)
    (case dml_Finder_number_of => k_is)
    (case dmc_Finder_number_of => k_is)
    (case dmk_Finder_number_of => k_is)
