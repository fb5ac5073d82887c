import PyProof.Rows.All
import Wide.All
import OpenK.AllK
import Wide.FinOn
import Lean
import PyProof.EqAt
import PyProof.EqKinds
import PyProof.TupleCall
import PyProof.NeKinds
import PySem.Challenge.RW_pressluck_k44_whole_none_better
set_option Elab.async false
set_option linter.all false
set_option maxRecDepth 100000
theorem aac : type_of% @List.length_map := @List.length_map
theorem aad : type_of% @List.getElem?_eq_getElem := @List.getElem?_eq_getElem
theorem aae : type_of% @List.getD_eq_getElem?_getD := @List.getD_eq_getElem?_getD
theorem aaf : type_of% @List.getElem?_map := @List.getElem?_map
theorem aag : type_of% @List.mem_of_getElem? := @List.mem_of_getElem?
theorem aah : type_of% @Nat.le_refl := @Nat.le_refl
theorem aai : type_of% @Int.toNat_natCast := @Int.toNat_natCast
theorem aaj : type_of% @List.mem_cons_self := @List.mem_cons_self
theorem aak : type_of% @List.mem_cons_of_mem := @List.mem_cons_of_mem
theorem aal : type_of% @PySem.W.mg_of := @PySem.W.mg_of
theorem aam : type_of% @List.size_toArray := @List.size_toArray
theorem aan : type_of% @Nat.ne_of_lt := @Nat.ne_of_lt
theorem aao : type_of% @List.getElem_mem := @List.getElem_mem
theorem aap : type_of% @Nat.le_trans := @Nat.le_trans
theorem aaq : type_of% @List.length_cons := @List.length_cons
theorem aar : type_of% @Nat.zero_le := @Nat.zero_le
theorem aas : type_of% @List.getElem?_eq_none := @List.getElem?_eq_none
theorem aat : type_of% @Nat.lt_of_lt_of_le := @Nat.lt_of_lt_of_le
theorem aau : type_of% @Int.eq_ofNat_of_zero_le := @Int.eq_ofNat_of_zero_le
theorem aav : type_of% @List.map_cons := @List.map_cons
theorem aaw : type_of% @List.map_append := @List.map_append
theorem aax : type_of% @Option.some.inj := @Option.some.inj
theorem aay : type_of% @Bool.false_ne_true := @Bool.false_ne_true
theorem aaz : type_of% @List.length_range := @List.length_range
theorem aaA : type_of% @PySem.boot_len := @PySem.boot_len
theorem aaB : type_of% @Int.mul_comm := @Int.mul_comm
theorem aaC : type_of% @List.take_add_one := @List.take_add_one
theorem aaD : type_of% @List.getElem?_of_mem := @List.getElem?_of_mem
theorem aaE : type_of% @List.take_of_length_le := @List.take_of_length_le
theorem aaF : type_of% @List.length_append := @List.length_append
theorem aaG : type_of% @Int.mul_pos := @Int.mul_pos
theorem aaH : type_of% @Int.le_refl := @Int.le_refl
theorem aaI : type_of% @Nat.lt_irrefl := @Nat.lt_irrefl
theorem aaJ : type_of% @List.mem_append_right := @List.mem_append_right
theorem aaK : type_of% @Int.mul_assoc := @Int.mul_assoc
theorem aaL : type_of% @PySem.F.plainAttrs_list := @PySem.F.plainAttrs_list
theorem aaM : type_of% @Nat.lt_succ_self := @Nat.lt_succ_self
theorem aaN : type_of% @List.lookup_cons := @List.lookup_cons
theorem aaO : type_of% @List.getElem?_set_ne := @List.getElem?_set_ne
theorem aaP : type_of% @List.map_nil := @List.map_nil
theorem aaQ : type_of% @Int.natAbs_mul := @Int.natAbs_mul
theorem aaR : type_of% @List.idxOf_lt_length_of_mem := @List.idxOf_lt_length_of_mem
theorem aaS : type_of% @List.map_map := @List.map_map
theorem aaT : type_of% @Int.emod_nonneg := @Int.emod_nonneg
theorem aaU : type_of% @List.length_set := @List.length_set
theorem aaV : type_of% @Nat.zero_add := @Nat.zero_add
theorem aaW : type_of% @List.getElem?_range := @List.getElem?_range
theorem aaX : type_of% @List.getElem_idxOf := @List.getElem_idxOf
theorem aaY : type_of% @List.getElem_of_mem := @List.getElem_of_mem
theorem aaZ : type_of% @PySem.F.slot_list_append := @PySem.F.slot_list_append
theorem aa0 : type_of% @PySem.F.type_list_append := @PySem.F.type_list_append
theorem aa1 : type_of% @List.getElem?_set_self := @List.getElem?_set_self
theorem aa2 : type_of% @List.append_nil := @List.append_nil
theorem aa3 : type_of% @List.length_take := @List.length_take
theorem aa4 : type_of% @List.getElem?_append_right := @List.getElem?_append_right
theorem aa5 : type_of% @List.getElem?_append_left := @List.getElem?_append_left
theorem aa6 : type_of% @Nat.pow_le_pow_right := @Nat.pow_le_pow_right
theorem aa7 : type_of% @Bool.and_eq_true := @Bool.and_eq_true
theorem aa8 : type_of% @List.ext_getElem? := @List.ext_getElem?
theorem aa9 : type_of% @Int.emod_lt_of_pos := @Int.emod_lt_of_pos
theorem aba : type_of% @PySem.mem_of_lookup := @PySem.mem_of_lookup
theorem abb : type_of% @Nat.lt_of_le_of_lt := @Nat.lt_of_le_of_lt
theorem abc : type_of% @Int.dvd_refl := @Int.dvd_refl
theorem abd : type_of% @PySem.W.mg_none_of := @PySem.W.mg_none_of
theorem abe : type_of% @List.length_replicate := @List.length_replicate
theorem abf : type_of% @List.length_nil := @List.length_nil
theorem abg : type_of% @Nat.not_lt_zero := @Nat.not_lt_zero
theorem abh : type_of% @List.set_cons_zero := @List.set_cons_zero
theorem abi : type_of% @List.set_cons_succ := @List.set_cons_succ
theorem abj : type_of% @List.getElem_inj := @List.getElem_inj
theorem abk : type_of% @List.getElem?_cons_succ := @List.getElem?_cons_succ
theorem abl : type_of% @Nat.lt_succ_of_lt := @Nat.lt_succ_of_lt
theorem abm : type_of% @List.filterMap_append := @List.filterMap_append
theorem abn : type_of% @List.cons_append := @List.cons_append
theorem abo : type_of% @List.getElem?_cons_zero := @List.getElem?_cons_zero
theorem abp : type_of% @Option.some.injEq := @Option.some.injEq
theorem abq : type_of% @List.length_zipWith := @List.length_zipWith
theorem abr : type_of% @List.mem_append_left := @List.mem_append_left
theorem abt : type_of% @Array.length_toList := @Array.length_toList
theorem abu : type_of% @List.replicate_zero := @List.replicate_zero
theorem abv : type_of% @Nat.mul_le_mul_left := @Nat.mul_le_mul_left
theorem abw : type_of% @Nat.mul_le_mul_right := @Nat.mul_le_mul_right
theorem abx : type_of% @List.getElem?_zipWith := @List.getElem?_zipWith
theorem aby : type_of% @Int.toNat_of_nonneg := @Int.toNat_of_nonneg
namespace Hd
open PySem PySem.W PyProof.Rows
noncomputable def vZ (ok:Thread->Bool) (st:SharedT->Thread->Option (SharedT×Thread)) (n:Nat):SharedT->Thread->Option SharedT:=
 @Nat.rec (λ_=>SharedT->Thread->Option SharedT) (λ_ _=>none)
  (λ_ ih s t=>@Bool.rec (λ_=>Option SharedT) (@Bool.rec (λ_=>Option SharedT) none (@Option.rec (SharedT×Thread) (λ_=>Option SharedT) none (λr=>@Prod.rec _ _ (λ_=>Option SharedT) (λa b=>ih a b) r) (st s t)) (ok t)) (some s) (through t)) n
theorem mL {tb:String->Option Builtin} {p:Program} {w:World} {n₀:Nat} {ann:Option Value}:∀(n:Nat) (s:SharedT) (t:Thread) (s':SharedT),vZ (stepOk n₀ ann) (stepT (denote tb) p w) n s t=some s'->topRun tb p w n₀ ann n s.abs t=some s'.abs
 | 0,_,_,_,h=>by cases h
 | n+1,s,t,s',h=>by
  unfold topRun
  replace h:@Bool.rec (λ_=>Option SharedT) (@Bool.rec (λ_=>Option SharedT) none (@Option.rec (SharedT×Thread) (λ_=>Option SharedT) none (λr=>@Prod.rec _ _ (λ_=>Option SharedT) (λa b=>vZ (stepOk n₀ ann) (stepT (denote tb) p w) n a b) r) (stepT (denote tb) p w s t)) (stepOk n₀ ann t)) (some s) (through t)=some s':=h
  cases ht:through t with
  | true=>rw[ht] at h;cases h;rfl
  | false=>
   rw[ht] at h
   cases hk:stepOk n₀ ann t with
   | false=>rw[hk] at h;cases h
   | true=>
    rw[hk] at h
    cases hs:stepT (denote tb) p w s t with
    | none=>rw[hs] at h;cases h
    | some r=>obtain⟨s₂,t₂⟩:=r;rw[hs] at h;rw[stepT_spec hs];exact mL n s₂ t₂ s' h
noncomputable def bt (P:Params):BT:=((boot_heap P).objs.toList.foldl (fun(x:BT×Nat) o=>(x.1.ins x.2 o,x.2+1)) (.nil,0)).1
noncomputable def yI (w:World) (os:OsState):SharedT:=⟨bt w.params,11,{},Array.mk [],boot_drawn,boot_toks,os⟩
theorem xG (w:World) (os:OsState):(yI w os).abs=⟨boot_heap w.params,Array.mk [],boot_drawn,boot_toks,os⟩:=by kernel_rfl
theorem uI (w:World):((boot_heap w.params).isNs mainGlobals && (Array.mk []:Array GenState).size==0,(boot_heap w.params).objs.size,(boot_heap w.params).nsMap mainGlobals "__annotations__")=(true,11,some (.ref 6)):=by kernel_rfl
theorem yJ {p q:Program} {loose:List Str} {Xt:Shared->Bool} {α:Type} {Yf:Shared->α} {Ya:World->α} {N:Nat} {g0:Bool}
  (Hk:∀w:World,(fencedOpening treeTable p w N).map (λs=>(s.heap,s.gens,s.drawn,s.toks))=some (boot_heap w.params,Array.mk [],boot_drawn,boot_toks))
  (run:∀(w:World) (os:OsState),(vZ (stepOk 11 (some (.ref 6))) (stepT (denote treeTable) p w) N (yI w os) (topStub p)).map (λs=>((staticsOk (importedModules p.main.body) (boot_heap w.params) s.abs.heap && namesBound p s.abs.heap && gensDone s.abs && laidKept (boot_heap w.params) s.abs.heap),openSeen q loose (importedModules p.main.body) Xt g0 s.abs,Yf s.abs))=some (true,openGood q loose,Ya w)):
  LeftO p q loose Xt Yf Ya N g0:=λw=>by
 obtain⟨⟨h,gs,d,k,os⟩,e,e'⟩:=Option.map_eq_some_iff.mp (Hk w)
 obtain⟨rfl,rfl,rfl,rfl⟩:h=boot_heap w.params/\gs=Array.mk []/\d=boot_drawn/\k=boot_toks:=by simpa using e'
 obtain⟨z1,z2,z3⟩:_/\_/\_:=by simpa only[Prod.mk.injEq] using uI w
 obtain⟨s,r,l⟩:=Option.map_eq_some_iff.mp (run w os)
 obtain⟨l1,l2,l3⟩:_/\_/\_:=by simpa only[Prod.mk.injEq] using l
 have r:=mL _ _ _ _ r
 rw[xG] at r
 have t:topFrom treeTable p w N ⟨boot_heap w.params,Array.mk [],boot_drawn,boot_toks,os⟩=some s.abs:=by
  unfold topFrom
  dsimp only
  rw[z1,z2,z3,r]
  show(match staticsOk (importedModules p.main.body) (boot_heap w.params) s.abs.heap && namesBound p s.abs.heap && gensDone s.abs && laidKept (boot_heap w.params) s.abs.heap with | true=>_ | false=>_)=_
  rw[l1]
 unfold openEnds
 rw[e]
 show((topFrom treeTable p w N ⟨boot_heap w.params,Array.mk [],boot_drawn,boot_toks,os⟩)).map _=_
 rw[t]
 show some (_,_)=_
 rw[l2,l3]
noncomputable def Runs (p q:Program) (loose:List Str) (Xt:Shared->Bool) {α:Type} (Yf:Shared->α) (Ya:World->α) (N:Nat) (g0:Bool) (w:World):Prop:=
 ∀os:OsState,(vZ (PySem.W.Fast.tw6613529449190102663 11 (some (.ref 6))) (PySem.W.Fast.tw10156331382660048174 (PySem.W.Fast.tw11892475500146522536 PySem.W.Fast.tw14364793385576792824) p w) N (yI w os) (topStub p)).map (λs=>((staticsOk (importedModules p.main.body) (boot_heap w.params) s.abs.heap && namesBound p s.abs.heap && gensDone s.abs && laidKept (boot_heap w.params) s.abs.heap),PySem.W.Fast.tw4187177175401517315 q loose (importedModules p.main.body) Xt g0 s.abs,Yf s.abs))=some (true,openGood q loose,Ya w)
theorem xH {p q:Program} {loose:List Str} {Xt:Shared->Bool} {α:Type} {Yf:Shared->α} {Ya:World->α} {N:Nat} {g0:Bool}
  (e:opening p=plainProg p.main.scope.names) (hN:Nat.ble 600 N=true) (f:∀s,fenceModules? p s=some s)
  (run:∀w:World,Runs p q loose Xt Yf Ya N g0 w):
  LeftO p q loose Xt Yf Ya N g0:=by
 refine yJ (boot_open e hN f) ?_
 unfold Runs at run
 rw[PySem.W.Fast.te6613529449190102663,PySem.W.Fast.te10156331382660048174,PySem.W.Fast.te11892475500146522536,PySem.W.Fast.te14364793385576792824,PySem.W.Fast.te4187177175401517315]
 exact run
end Hd
namespace K44
open PySem PySem.Spec PyProof.Rows
noncomputable def top (i:Nat):Stmt:=PySem.Challenge.pw_pressluck_k44_whole_none_better.main.body.getD i (.Pass ⟨0,0,0,0⟩)
end K44
section Lx
open PySem PySem.W PyProof.Rows
local macro_rules | `(tactic| o_head $H) => `(tactic| (refine (fun (_ : PySem.W.Hook) => ?_) $H; assumption))
theorem K44.pre (h:PySem.W.OpenRow.Holds (PySem.W.OpenLaw.row PySem.Challenge.rw_pressluck_k44_whole_none_better)):PySem.W.OpenRow.Holds (PySem.W.OpenLaw.row PySem.Challenge.rw_pressluck_k44_whole_none_better):=by
 k_head
noncomputable def K44.Dt:List Addr:=[2,3,15,18,19,20,23,24,25,28,29,30,33,34,35,38,39,40,47,48,49,50,53,60,61,62,65,72,74,75,77,78,79,80,81,84,91,92,93,96,98,99,101,102,103,105,106,108,109,110,112,113,115,116,117,119,120,122,123,124,126,127,129,130,131,134,135,136,138,139,141,142,143,146,147,148,150,151,153,154,155,158,159,160,162,163,165,166,167,169,170,172,173,174,176,177,179,180,181,184,185,186,189,190,191,193,194,196,197,205,207,208,210,211,212,215,216,217,220,221,222,223,224,225,226,229,231,232,234,235,236,239,240,241,244,245,246,248,249,251,252,253,256,257,258,261,262,263,265,266,268,269,270,273,274,275,277,278,280,281,282,285,286,287,290,291,292,294,295,297,298,299,301,302,304,305,306,308,309,311,312,313,315,316,318,319,320,322,323,325,326,327,329,330,332,333,334,337,338,339,341,342,344,345,346,349,350,358,360,361,363,364,377,379,380,382,383,384,386,387,389,390,391,394,395,396,398,399,401,402,403,405,406,408,409]
theorem K44.Ei (P:PySem.Params):K44.Dt=(K44.pre.heap_1 P).map (·.1):=by kernel_rfl
noncomputable def K44.vw:PySem.Program:={PySem.Challenge.pw_pressluck_k44_whole_none_better with main:={PySem.Challenge.pw_pressluck_k44_whole_none_better.main with body:=[K44.top 1,K44.top 2,K44.top 3,K44.top 4,K44.top 5,K44.top 7,K44.top 8,K44.top 9,K44.top 10,K44.top 12,K44.top 13,K44.top 14,K44.top 16,K44.top 17,K44.top 18,K44.top 19,K44.top 20,K44.top 22,K44.top 23,K44.top 25,K44.top 26,K44.top 27,K44.top 28,K44.top 29,K44.top 30,K44.top 31,K44.top 32,K44.top 33,K44.top 34,K44.top 35,K44.top 36,K44.top 37,K44.top 38,K44.top 40,K44.top 41,K44.top 42,K44.top 43,K44.top 44,K44.top 45,K44.top 47,K44.top 48,K44.top 49,K44.top 50,K44.top 51,K44.top 52,K44.top 53,K44.top 54,K44.top 55,K44.top 56,K44.top 57,K44.top 58,K44.top 59,K44.top 60,K44.top 61,K44.top 62,K44.top 63,K44.top 64]}}
theorem K44.run (w:World):Hd.Runs (RowW.prog (OpenRow.toRowW (PySem.W.OpenLaw.row PySem.Challenge.rw_pressluck_k44_whole_none_better))) K44.vw [] (λs=>xlAt K44.vw [] s && recOk (RowW.records (OpenRow.toRowW (PySem.W.OpenLaw.row PySem.Challenge.rw_pressluck_k44_whole_none_better))) s) (Hook.obs (PySem.W.kmHook K44.pre.heap_1 K44.Dt K44.Ei [156])) (Hook.val (PySem.W.kmHook K44.pre.heap_1 K44.Dt K44.Ei [156])) 5564 true w:=λos=>by kernel_rfl
end Lx
set_option tactic.hygienic false
set_option compiler.extract_closed false
local macro_rules | `(tactic| omega) => `(tactic| lia)
namespace L2
open PySem PySem.Spec PyProof.Rows
abbrev Key:=Sum Int Str
noncomputable def mN:Key->Value->Bool
 | .inl k,v=>Value.isInt k v
 | .inr x,v=>Value.isStrOf x v
noncomputable def Ej (w:World):Key->Int
 | .inl k=>hashInt k
 | .inr x=>hashStr w x
theorem cf:∀{k:Key} {v:Value},mN k v=true->(∃i t,k=Sum.inl i/\v=Value.int i t)\/(∃x t,k=Sum.inr x/\v=Value.str x t)
 | .inl i,v,h=>by
  obtain⟨t,e⟩:=Value.isInt_shape (k:=i) (v:=v) h
  exact .inl ⟨i,t,rfl,e⟩
 | .inr x,v,h=>by
  obtain⟨t,e⟩:=Value.isStrOf_shape (x:=x) (v:=v) h
  exact .inr ⟨x,t,rfl,e⟩
theorem xI (i:Int) (t:Tok):mN (.inl i) (.int i t)=true:=by simp [mN,Value.isInt]
theorem xJ (x:Str) (t:Tok):mN (.inr x) (.str x t)=true:=by simp [mN,Value.isStrOf]
theorem Ek (a b:Int):decide ((Sum.inl a:Key)=Sum.inl b)=(a==b):=by
 by_cases e:a=b
 ·subst e;simp
 ·have h:¬(Sum.inl a:Key)=Sum.inl b:=λq=>e (Sum.inl.inj q)
  rw[decide_eq_false h]
  exact(beq_eq_false_iff_ne.mpr e).symm
theorem El (a b:Str):decide ((Sum.inr a:Key)=Sum.inr b)=decide (a=b):=by
 by_cases e:a=b
 ·subst e;simp
 ·have h:¬(Sum.inr a:Key)=Sum.inr b:=λq=>e (Sum.inr.inj q)
  rw[decide_eq_false h,decide_eq_false e]
theorem Em (a:Int) (b:Str):decide ((Sum.inl a:Key)=Sum.inr b)=false:=decide_eq_false (λq=>nomatch q)
theorem Eo (a:Str) (b:Int):decide ((Sum.inr a:Key)=Sum.inl b)=false:=decide_eq_false (λq=>nomatch q)
noncomputable def b9 (prog:Program) (w:World):PySem.KeyKind prog w Key where
 is:=mN
 hash:=Ej w
 inj:=λv a b ha hb=>by
  rcases cf ha with ⟨i,t,rfl,rfl⟩ | ⟨x,t,rfl,rfl⟩
  ·rcases cf hb with ⟨j,u,rfl,e⟩ | ⟨y,u,rfl,e⟩
   ·injection e with e1 _;rw[e1]
   ·exact nomatch e
  ·rcases cf hb with ⟨j,u,rfl,e⟩ | ⟨y,u,rfl,e⟩
   ·exact nomatch e
   ·injection e with e1 _;rw[e1]
 byValue:=λk v h=>by
  rcases cf h with ⟨i,t,rfl,rfl⟩ | ⟨x,t,rfl,rfl⟩ <;>rfl
 pyHash:=λhv h=>by
  rcases cf hv with ⟨i,t,rfl,rfl⟩ | ⟨x,t,rfl,rfl⟩
  ·exact wpAny_pyHash_int h
  ·exact wpAny_pyHash_str h
 eqBool:=λhu hv h=>by
  rcases cf hu with ⟨i,t,rfl,rfl⟩ | ⟨x,t,rfl,rfl⟩
  ·rcases cf hv with ⟨j,u,rfl,rfl⟩ | ⟨y,u,rfl,rfl⟩
   ·rw[Ek] at h;exact wpAny_eqBool_int h
   ·rw[Em] at h;exact SeqAt.EqAt.int_str i t y u _ _ _ _ h
  ·rcases cf hv with ⟨j,u,rfl,rfl⟩ | ⟨y,u,rfl,rfl⟩
   ·rw[Eo] at h;exact SeqAt.EqAt.str_int x t j u _ _ _ _ h
   ·rw[El] at h;exact wpAny_eqBool_str h
 «strs»:=λk x t v h=>by
  rcases cf h with ⟨i,u,rfl,e⟩ | ⟨y,u,rfl,e⟩
  ·exact nomatch e
  ·injection e with e1 _
   subst e1
   cases v <;>rfl
theorem sk (prog:Program) (w:World) (i:Int) (t:Tok):(b9 prog w).is (.inl i) (.int i t)=true:=xI i t
theorem sr (prog:Program) (w:World) (x:Str) (t:Tok):(b9 prog w).is (.inr x) (.str x t)=true:=xJ x t
end L2
namespace L2
open PySem PySem.Spec PyProof.Rows
inductive V where
 | cB | bl (b:Bool) | int (i:Int) | str (x:Str) | yE (b:Array UInt8) | GO (b:UInt64) | ref (a:Addr) | ty (n:String)
 deriving DecidableEq
noncomputable def RelV:V->Value->Prop
 | .cB,u=>u=Value.none
 | .bl b,u=>u=Value.bool b
 | .int i,u=>∃t,u=Value.int i t
 | .str x,u=>∃t,u=Value.str x t
 | .yE b,u=>∃t,u=Value.bytes b t
 | .GO b,u=>∃t,u=Value.float b t
 | .ref a,u=>u=Value.ref a
 | .ty n,u=>u=Value.type n
abbrev bu:List V->List Value->Prop:=Paired RelV
theorem bu.length {xs:List V} {us:List Value} (r:bu xs us):xs.length=us.length:=Paired.length r
theorem bu.get:∀{xs:List V} {us:List Value} {i:Nat} {x:V},bu xs us->xs[i]?=some x->∃u,us[i]?=some u/\RelV x u
 | _,_,_,_,.nil,e=>by simp at e
 | _,_,0,_,.cons r _,e=>by simp at e;subst e;exact⟨_,rfl,r⟩
 | _,_,i+1,x,.cons _ t,e=>by
  obtain⟨u,h1,h2⟩:=bu.get (i:=i) (x:=x) t (by simpa using e)
  exact⟨u,by simpa using h1,h2⟩
theorem bu.set {x:V} {u:Value} (r:RelV x u):∀{xs:List V} {us:List Value} (i:Nat),bu xs us->bu (xs.set i x) (us.set i u)
 | _,_,_,.nil=>.nil
 | _,_,0,.cons _ t=>.cons r t
 | _,_,i+1,.cons q t=>.cons q (bu.set r i t)
theorem bu.append:∀{xs ys:List V} {us ws:List Value},bu xs us->bu ys ws->bu (xs++ys) (us++ws)
 | _,_,_,_,.nil,s=>s
 | _,_,_,_,.cons r t,s=>.cons r (bu.append t s)
theorem bu.take:∀{xs:List V} {us:List Value} (n:Nat),bu xs us->bu (xs.take n) (us.take n)
 | _,_,0,_=>.nil
 | _,_,_+1,.nil=>.nil
 | _,_,n+1,.cons r t=>.cons r (bu.take n t)
theorem bu.drop:∀{xs:List V} {us:List Value} (n:Nat),bu xs us->bu (xs.drop n) (us.drop n)
 | _,_,0,r=>r
 | _,_,_+1,.nil=>.nil
 | _,_,n+1,.cons _ t=>bu.drop n t
noncomputable def iu:Option V->Option Value->Prop
 | some v,some u=>RelV v u
 | none,none=>True
 | _,_=>False
noncomputable def KV {κ:Type}:List (κ×V)->List (κ×Value)->Prop:=Paired fun(p:κ×V) (q:κ×Value)=>p.1=q.1/\RelV p.2 q.2
noncomputable def kV:Key->V
 | .inl i=>.int i
 | .inr x=>.str x
inductive HO where
 | lst (xs:List V)
 | tup (xs:List V)
 | dK (kvs:List (Key×V)) | dT (kvs:List (List Key×V))
 | set (S:Int->Bool) (n:Nat)
 | ins (C dx:Addr) (fs:List (Str×V))
 | own (x:Addr)
 | xd (fs:List (Str×V))
 | met (f x:Addr)
 | oV (lo hi:Int)
 | uG (o:Obj) (u:HO)
 | rX (ps:Array Value)
 | ext (φ:Heap->Prop)
abbrev Hp:=Addr->Option HO
noncomputable def upd (H:Hp) (a:Addr) (o:HO):Hp:=λb=>if b=a then some o else H b
theorem ar {H:Hp} {a:Addr} {o:HO}:upd H a o a=some o:=by unfold upd;rw[if_pos rfl]
theorem aH {H:Hp} {a b:Addr} {o:HO} (h:b≠a):upd H a o b=H b:=by unfold upd;rw[if_neg h]
theorem BL {H:Hp} {a:Addr} {o u:HO}:upd (upd H a o) a u=upd H a u:=by
 funext b;unfold upd;split <;>rfl
theorem Hl {H:Hp} {a b:Addr} {o u:HO} (h:H a=some o) (h':H b=some u) (d:o≠u):a≠b:=by
 intro e;subst e;rw[h] at h';exact d (aax h')
theorem bz {H:Hp} {a b:Addr} {o:HO} (h:H a=some o) (h':H b=none):a≠b:=by
 intro e;subst e;rw[h] at h';cases h'
noncomputable def TabAt (H:Hp) (h:Heap) (a:Addr) (ps:Array Value):Prop:=∃mo:Array Value,h.get? a=some {cls:=.none,data:=.fields mo}/\
 (mo=#[]\/∃(l c:Value) (c1:Addr) (q:Str) (t:Tok),ps=#[l,c,.str q t]/\mo=#[l,c,.ref c1]/\H c1=some (.own a)/\h.CodeRec (.ref c1) q)
section
variable (P : Program) (w : World)
noncomputable def cG (H:Hp) (h:Heap) (a:Addr):HO->Prop
 | .lst xs=>xs.length<=sizeLine/\∃(aU:List Value) (n:Nat),bu xs aU/\h.get? a=some {cls:=.type "list",data:=.seq aU.toArray n}
 | .tup xs=>xs.length<=sizeLine/\∃aU:List Value,bu xs aU/\IsTup h a aU.toArray
 | .dK kvs=>kvs.length<=sizeLine/\(a==sysModules)=false/\∃vs,KV kvs vs/\h.DictOf (b9 P w) a vs
 | .dT kvs=>kvs.length<=sizeLine/\(a==sysModules)=false/\∃xs:List (List Key×Addr×Value),
   Paired (fun(p:List Key×V) (q:List Key×Addr×Value)=>p.1=q.1/\H q.2.1=some (.tup (p.1.map kV))/\RelV p.2 q.2.2) kvs xs/\
   ∃o es ep,h.get? a=some o/\o.ExactDict/\o.data=.dict es ep/\es.toList=xs.map (entryOfKey (tupleKind (b9 P w)))/\(xs.map (·.1)).Nodup
 | .set S n=>h.SetOf (intKind P w) a S n
 | .ins C dx fs=>H dx=some (.own a)/\fs.length<=1000/\dx≠a/\h.get? a=some (PySem.W.instObj C dx)/\
   ∃mA,h.Ns1 dx mA/\(∀f,iu (fs.lookup f) (mA f))/\PySem.Within mA (fs.map (·.1))
 | .own _=>∃o,h.get? a=some o
 | .xd fs=>∃mA,h.Ns1 a mA/\∀f,iu (fs.lookup f) (mA f)
 | .oV lo hi=>∃t u v,h.get? a=some {cls:=.type "range",data:=.fields #[.int lo t,.int hi u,.int 1 v]}
 | .uG o u=>h.get? a=some o/\cG H h a u
 | .rX ps=>TabAt H h a ps
 | .met f x=>h.get? a=some (PySem.W.methodObj (.ref f) (.ref x))
 | .ext φ=>φ h/\(∃o,h.get? a=some o)/\∀h1 h2:Heap,φ h1->(∀o,h1.get? a=some o->h2.get? a=some o)->φ h2
noncomputable def gz (H:Hp) (h:Heap):Prop:=∀a o,H a=some o->cG P w H h a o
end
section
variable {P : Program} {w : World} {H H' : Hp} {h h' : Heap} {a : Addr} {o : HO}
theorem cG.lt (x:cG P w H h a o):a<h.objs.size:=by
 cases o with
 | lst xs=>obtain⟨_,_,_,_,e⟩:=x;exact Heap.lt_size e
 | tup xs=>obtain⟨_,_,_,p⟩:=x;exact p.lt
 | dK kvs=>obtain⟨_,_,_,_,o,_,_,e,_⟩:=x;exact Heap.lt_size e
 | dT kvs=>obtain⟨_,_,_,_,o,_,_,e,_⟩:=x;exact Heap.lt_size e
 | set S n=>obtain⟨o,_,_,_,e,_⟩:=x;exact Heap.lt_size e
 | ins C dx fs=>obtain⟨_,_,_,e,_⟩:=x;exact Heap.lt_size e
 | own y=>obtain⟨_,e⟩:=x;exact Heap.lt_size e
 | xd fs=>obtain⟨_,⟨_,_,_,e,_⟩,_⟩:=x;exact Heap.lt_size e
 | oV lo hi=>obtain⟨_,_,_,e⟩:=x;exact Heap.lt_size e
 | uG ob u=>obtain⟨e,_⟩:=x;exact Heap.lt_size e
 | rX ps=>obtain⟨_,e,_⟩:=x;exact Heap.lt_size e
 | met f y=>exact Heap.lt_size (show h.get? a=some _ from x)
 | ext φ=>obtain⟨_,⟨_,e⟩,_⟩:=x;exact Heap.lt_size e
theorem Paired.Ep {α β:Type} {F G:α->β->Prop}:∀{l₁:List α} {l₂:List β},Paired F l₁ l₂->(∀a b,F a b->G a b)->Paired G l₁ l₂
 | _,_,.nil,_=>.nil
 | _,_,.cons r t,f=>.cons (f _ _ r) (Paired.Ep t f)
theorem cG.oW (x:cG P w H h a o) (k:∀b u,(b=a\/H b=some (.own a))->h.get? b=some u->h'.get? b=some u)
  (ho:∀b,H b=some (.own a)->H' b=some (.own a)) (ht:∀b xs,H b=some (.tup xs)->H' b=some (.tup xs)):cG P w H' h' a o:=by
 induction o with
 | lst xs=>obtain⟨z,aU,n,r,e⟩:=x;exact⟨z,aU,n,r,k _ _ (.inl rfl) e⟩
 | tup xs=>obtain⟨z,aU,r,ob,e,c⟩:=x;exact⟨z,aU,r,ob,k _ _ (.inl rfl) e,c⟩
 | dK kvs=>obtain⟨z,y,vs,r,ob,es,ep,e,c⟩:=x;exact⟨z,y,vs,r,ob,es,ep,k _ _ (.inl rfl) e,c⟩
 | dT kvs=>
  obtain⟨z,y,xs,r,ob,es,ep,e,c⟩:=x
  exact⟨z,y,xs,Paired.Ep r λp q z=>⟨z.1,ht _ _ z.2.1,z.2.2⟩,ob,es,ep,k _ _ (.inl rfl) e,c⟩
 | set S n=>obtain⟨ob,es,ep,t,e,c⟩:=x;exact⟨ob,es,ep,t,k _ _ (.inl rfl) e,c⟩
 | ins C dx fs=>
  obtain⟨d,z,ne,e,mA,⟨od,es,ep,e2,c⟩,r⟩:=x
  exact⟨ho _ d,z,ne,k _ _ (.inl rfl) e,mA,⟨od,es,ep,k _ _ (.inr d) e2,c⟩,r⟩
 | own y=>obtain⟨ob,e⟩:=x;exact⟨ob,k _ _ (.inl rfl) e⟩
 | xd fs=>obtain⟨mA,⟨od,es,ep,e,c⟩,r⟩:=x;exact⟨mA,⟨od,es,ep,k _ _ (.inl rfl) e,c⟩,r⟩
 | oV lo hi=>obtain⟨t,u,v,e⟩:=x;exact⟨t,u,v,k _ _ (.inl rfl) e⟩
 | uG ob u ih=>obtain⟨e,q⟩:=x;exact⟨k _ _ (.inl rfl) e,ih q⟩
 | rX ps=>
  obtain⟨mo,e,q⟩:=x
  refine⟨mo,k _ _ (.inl rfl) e,?_⟩
  rcases q with q | ⟨l,c,c1,qn,t,e1,e2,e3,c2,o2,Ly,t2,f1,f2,f3,f4⟩
  ·exact .inl q
  ·cases f1
   exact .inr ⟨l,c,c1,qn,t,e1,e2,ho _ e3,c1,o2,Ly,t2,rfl,k _ _ (.inr e3) f2,f3,f4⟩
 | met f y=>
  have e:h.get? a=some (PySem.W.methodObj (.ref f) (.ref y)):=x
  show h'.get? a=some (PySem.W.methodObj (.ref f) (.ref y))
  exact k a _ (.inl rfl) e
 | ext φ=>obtain⟨p,⟨o,e⟩,st⟩:=x;exact⟨st _ _ p λo q=>k _ _ (.inl rfl) q,⟨o,k _ _ (.inl rfl) e⟩,st⟩
theorem gz.lt (x:gz P w H h) (e:H a=some o):a<h.objs.size:=(x a o e).lt
theorem gz.fresh (x:gz P w H h) (e:h.objs.size<=a):H a=none:=by
 cases q:H a with
 | none=>rfl
 | some u=>exact absurd (aat (x.lt q) e) (aaI _)
theorem gz.kept (x:gz P w H h) (k:∀b u,h.get? b=some u->h'.get? b=some u):gz P w H h':=λa o e=>
 (x a o e).oW (λb u _ q=>k b u q) (λ_ q=>q) λ_ _ q=>q
theorem gz.laid (x:gz P w H h) (k:∀b u,h.get? b=some u->h'.get? b=some u) (hp:h.objs.size<=a) (new:cG P w (upd H a o) h' a o):gz P w (upd H a o) h':=λb u e=>by
 have hn:=x.fresh hp
 by_cases hb:b=a
 ·subst hb;rw[ar] at e;cases e;exact new
 ·rw[aH hb] at e
  exact(x b u e).oW (λc v _ q=>k c v q) (λc q=>by rw[aH (bz q hn)];exact q) λc xs q=>by rw[aH (bz q hn)];exact q
end
noncomputable def Rd (H:Hp) (a:Addr) (u:HO):Prop:=H a=some u\/∃o,H a=some (.uG o u)
theorem Rd.ok {P:Program} {w:World} {H:Hp} {h:Heap} {a:Addr} {u:HO} (r:Rd H a u) (x:gz P w H h):cG P w H h a u:=by
 rcases r with r | ⟨o,r⟩
 ·exact x a u r
 ·obtain⟨_,q⟩:=x a _ r
  exact q
noncomputable def Hm:Option HO->Prop
 | some (.lst _)=>True
 | some (.dK _)=>True
 | some (.dT _)=>True
 | some (.set _ _)=>True
 | some (.ins _ _ _)=>True
 | some (.ext _)=>True
 | _=>False
section
variable {P : Program} {w : World} {H : Hp} {h h' : Heap} {x e : Addr} {o' : HO}
theorem gz.write (ok:gz P w H h) (mu:Hm (H x)) (he:e=x\/H e=some (.own x)) (k:∀b u,b≠e->h.get? b=some u->h'.get? b=some u) (GP:∃u,h'.get? e=some u)
  (new:cG P w (upd H x o') h' x o'):gz P w (upd H x o') h':=λb u q=>by
 have Hn:∀c y,H c=some (.own y)->c≠x:=λc y r z=>by subst z;rw[r] at mu;exact mu
 have Lz:∀c xs,H c=some (.tup xs)->c≠x:=λc xs r z=>by subst z;rw[r] at mu;exact mu
 by_cases hb:b=x
 ·subst hb;rw[ar] at q;cases q;exact new
 ·rw[aH hb] at q
  by_cases Er:b=e
  ·have q':H b=some (.own x):=by
    rcases he with z | z
    ·exact absurd (Er.trans z) hb
    ·rw[Er];exact z
   rw[q] at q';cases q'
   obtain⟨v,hv⟩:=GP
   exact⟨v,by rw[Er];exact hv⟩
  ·refine(ok b u q).oW (λc v hc r=>k c v ?_ r) (λc r=>by rw[aH (Hn c b r)];exact r) λc xs r=>by rw[aH (Lz c xs r)];exact r
   rcases hc with rfl | hc
   ·exact Er
   ·rintro rfl
    rcases he with z | z
    ·exact Hn c b hc z
    ·rw[hc] at z;cases z;exact hb rfl
end
structure Un (fs ex:List Addr) (H H':Hp) (h h':Heap):Prop where
 keep:∀b o,h.get? b=some o->H b=none->b∉fs->b∉ex->h'.get? b=some o
 slot:∀b o,h.get? b=some o->H b=none->b∈fs->b∉ex->∃sl,h'.get? b=some {o with slots:=sl}
 free:∀b o,h.get? b=some o->H b=none->b∉ex->H' b=none
 there:∀b o,h.get? b=some o->b∉ex->∃o',h'.get? b=some o'
 kR:∀b xs,H b=some (.tup xs)->H' b=some (.tup xs)
 mO:∀b o u,H b=some (.uG o u)->H' b=some (.uG o u)
 mP:∀b ps,H b=some (.rX ps)->∃more,H' b=some (.rX (ps++more))
section
variable {fs Wt ex BM : List Addr} {H H1 H2 : Hp} {h h1 h2 h' : Heap} {a x e : Addr} {o : HO}
theorem Un.any (u:Un fs ex H H1 h h1) {b:Addr} {ob:Obj} (q:h.get? b=some ob) (n:H b=none) (hx:b∉ex):∃sl,h1.get? b=some {ob with slots:=sl}:=by
 by_cases hb:b∈fs
 ·exact u.slot b ob q n hb hx
 ·exact⟨ob.slots,u.keep b ob q n hb hx⟩
theorem Un.kept (k:∀b u,h.get? b=some u->h'.get? b=some u):Un fs ex H H h h':=
 ⟨λb ob q _ _ _=>k b ob q,λb ob q _ _ _=>⟨ob.slots,k b ob q⟩,λ_ _ _ n _=>n,λb ob q _=>⟨ob,k b ob q⟩,λ_ _ q=>q,λ_ _ _ q=>q,λ_ ps q=>⟨#[],by rw[q];simp⟩⟩
theorem Un.refl:Un fs ex H H h h:=Un.kept λ_ _ q=>q
theorem Un.laid (k:∀b u,h.get? b=some u->h'.get? b=some u) (hp:h.objs.size<=a) (hn:H a=none):Un fs ex H (upd H a o) h h' where
 keep:=λb u q _ _ _=>k b u q
 slot:=λb u q _ _ _=>⟨u.slots,k b u q⟩
 free:=λb u q n _=>by rw[aH (aan (aat (Heap.lt_size q) hp))];exact n
 there:=λb u q _=>⟨u,k b u q⟩
 kR:=λb xs q=>by rw[aH (bz q hn)];exact q
 mO:=λb u xs q=>by rw[aH (bz q hn)];exact q
 mP:=λb ps q=>⟨#[],by rw[aH (bz q hn),q];simp⟩
theorem Un.write (mu:Hm (H x)) (he:e=x\/H e=some (.own x)) (k:∀b u,b≠e->h.get? b=some u->h'.get? b=some u) (GP:∃u,h'.get? e=some u):Un fs ex H (upd H x o) h h':=by
 have hx:∀b,H b=none->b≠x:=λb n z=>by subst z;rw[n] at mu;exact mu
 have hb:∀b,H b=none->b≠e:=λb n z=>by
  subst z
  rcases he with r | r
  ·exact hx b n r
  ·rw[n] at r;cases r
 have hm:∀b u,H b=some u->¬Hm (some u)->b≠x:=λb u q nm z=>by subst z;rw[q] at mu;exact nm mu
 refine⟨λb u q n _ _=>k b u (hb b n) q,λb u q n _ _=>⟨u.slots,k b u (hb b n) q⟩,λb u q n _=>by rw[aH (hx b n)];exact n,λb u q _=>?_,
  λb xs q=>by rw[aH (hm b _ q λz=>z)];exact q,λb u xs q=>by rw[aH (hm b _ q λz=>z)];exact q,λb ps q=>⟨#[],by rw[aH (hm b _ q λz=>z),q];simp⟩⟩
 by_cases Er:b=e
 ·subst Er;exact GP
 ·exact⟨u,k b u Er q⟩
end
noncomputable def KA (h:Heap) (H:Hp):List Addr:=(List.range h.objs.size).filter λa=>(H a).isSome
noncomputable def mQ (h:Heap) (H:Hp):Heap:=PySem.W.hideAll h (KA h H)
theorem xK (h:Heap) (H:Hp):(mQ h H).objs.size=h.objs.size:=PySem.W.hideAll_size _ _
theorem yK {h:Heap} {H:Hp} {b:Addr} {o:Obj} (e:h.get? b=some o) (n:H b=none):(mQ h H).get? b=some o:=
 PySem.W.hideAll_get _ e λhm=>by
  have q:(H b).isSome=true:=(List.mem_filter.mp hm).2
  rw[n] at q;simp at q
theorem BN {h:Heap} {H:Hp} {b:Addr} {o:Obj} (e:(mQ h H).get? b=some o):h.get? b=some o/\H b=none:=by
 have e':h.get? b=some o:=PySem.W.of_hideAll (KA h H) e
 refine⟨e',?_⟩
 cases q:H b with
 | none=>rfl
 | some x=>
  have hm:b∈KA h H:=List.mem_filter.mpr ⟨List.mem_range.mpr (Heap.lt_size e'),by simp [q]⟩
  have z:(mQ h H).get? b=none:=PySem.W.hideAll_none (KA h H) hm
  rw[z] at e;cases e
noncomputable def BO (g h:Heap) (L:Addr):List (Addr×Obj):=(List.range h.objs.size).filterMap λa=>if a=L\/(g.get? a).isSome=true then none else (h.get? a).map λo=>(a,o)
noncomputable def rest (g h:Heap) (L d:Addr):List (Addr×Obj):=(BO g h L).filter λp=>decide (p.1≠d)
end L2
namespace L2
open PySem PySem.Spec PyProof.Rows
structure Mod (K:PySem.W.Frag) (mg:Str->Option Value) (base:Heap):Prop where
 Ho:K.In base
 glob:base.Ns mainGlobals mg
 blt:∃mb,base.Ns builtinsNs mb/\∀x:Str,x≠"__name__"->mb x=bootBuiltins x
 nolimit:base.NoLimit
structure Cx where
 prog:Program
 w:World
 K:PySem.W.Frag
 mg:Str->Option Value
 base:Heap
 A:Around
 N:List Str
 s₀:Shared
 H₀:Hp
 env:Env
 outer:List Env
 stack:List Env
 ex:List Addr
 fn:Str->Bool
 calm:Bool
 pn:List (Addr×Obj)
 xe:Value->Shared->Prop
def su (l:List Env):List Addr:=l.filterMap (·.frame)
abbrev Cx.fs (X:Cx):List Addr:=su X.outer
noncomputable def LC (sc:Scope) (x:Str):Prop:=sc.names.lookup x=some .local\/sc.names.lookup x=some .cell\/sc.names.lookup x=some .free
noncomputable def Loc (sc:Scope) (x:Str):Prop:=sc.names.lookup x=some .local\/sc.names.lookup x=some .cell
noncomputable def Look (env:Env) (h:Heap) (m:Str->Option Value) (x:Str) (u:Value):Prop:=
 (env.kindOf x=some .local/\m x=some u)\/((env.kindOf x=some .cell\/env.kindOf x=some .free)/\∃c,env.cells.lookup x=some c/\h.IsCell c (some u))
structure Cx.Ok (X:Cx):Prop where
 mod:Mod X.K X.mg X.base
 kind:X.env.scope.kind=.function
 glob:X.env.globals=mainGlobals
 blt:X.env.builtins=builtinsNs
 above:X.s₀.heap.objs.size<=X.env.locals
 inj:∀x y c,X.env.cells.lookup x=some c->X.env.cells.lookup y=some c->x=y
 has:∀x,(X.env.kindOf x=some .cell\/X.env.kindOf x=some .free)->∃c,X.env.cells.lookup x=some c
 GQ:∀x c,X.fn x=true->X.env.cells.lookup x=some c->X.s₀.heap.objs.size<=c
 hd:X.calm=true->X.A.handled=none
 frames:X.A.frames=some X.stack
 yL:X.stack=X.outer\/(X.stack=X.env::X.outer/\X.env.frame=some X.env.locals)
 LD:∀b∈X.ex,b≠X.env.locals/\∀x c,X.env.cells.lookup x=some c->c≠b
 bs:∀b o,X.base.get? b=some o->X.s₀.heap.get? b=some o/\X.H₀ b=none
 yM:X.base.objs.size<=X.s₀.heap.objs.size
 xM:∀b o,X.base.get? b=some o->b∉X.ex
 yN:∀b∈X.ex,b∉X.fs
 jP:X.s₀.heap.FunFrames X.base X.outer
 Du:∀b∈X.fs,X.H₀ b=none
structure Inv (X:Cx) (pins:List (Addr×Obj)) (σ:List (Option V)) (H:Hp) (s:Shared):Prop where
 ok:X.Ok
 os:s.os=X.s₀.os
 bare:AllBare s.gens
 base:Un X.fs X.ex X.H₀ H X.s₀.heap s.heap
 loc:∃m,s.heap.Ns X.env.locals m/\∀(i:Nat) (x:Str) (v:V),X.N[i]?=some x->σ[i]?=some (some v)->LC X.env.scope x->∃u,RelV v u/\Look X.env s.heap m x u
 cell:∀x c,X.env.cells.lookup x=some c->∃v,s.heap.IsCell c v
 free:H X.env.locals=none
 gJ:∀x c,X.env.cells.lookup x=some c->H c=none
 pin:∀p∈X.pn++pins,s.heap.get? p.1=some p.2/\H p.1=none/\p.1≠X.env.locals/\p.1∉X.fs/\∀v,p.2.data≠.cell v
 bW:gz X.prog X.w H s.heap
 len:σ.length=X.N.length
section
variable {X : Cx} {pins : List (Addr × Obj)} {σ : List (Option V)} {H H' : Hp} {s : Shared} {h' : Heap}
theorem Cx.Ok.LF (ok:X.Ok) {b:Addr} {o:Obj} (e:X.base.get? b=some o):b∉X.fs:=λhb=>by
 have:=(ok.jP.mem hb).1
 rw[e] at this;cases this
theorem Inv.bs (I:Inv X pins σ H s):∀b o,X.base.get? b=some o->s.heap.get? b=some o/\H b=none:=λb o e=>
 ⟨I.base.keep b o (I.ok.bs b o e).1 (I.ok.bs b o e).2 (I.ok.LF e) (I.ok.xM b o e),I.base.free b o (I.ok.bs b o e).1 (I.ok.bs b o e).2 (I.ok.xM b o e)⟩
theorem Inv.bk (I:Inv X pins σ H s):∀b o,X.base.get? b=some o->s.heap.get? b=some o:=λb o e=>(I.bs b o e).1
theorem Inv.mod (I:Inv X pins σ H s):Mod X.K X.mg X.base:=I.ok.mod
theorem Inv.v3 (I:Inv X pins σ H s):X.K.In s.heap:=I.ok.mod.Ho.keeps I.bk
theorem Inv.lt (I:Inv X pins σ H s):X.env.locals<s.heap.objs.size:=let ⟨_,hn,_⟩:=I.loc;hn.lt
theorem Inv.sz (I:Inv X pins σ H s):X.s₀.heap.objs.size<=s.heap.objs.size:=aap I.ok.above (Nat.le_of_lt I.lt)
theorem Inv.LG (I:Inv X pins σ H s) {a:Addr} (h:s.heap.objs.size<=a):a∉X.fs:=λhb=>by
 obtain⟨_,o,ho,_⟩:=I.ok.jP.mem hb
 exact absurd (aat (Heap.lt_size ho) (aap I.sz h)) (aaI _)
theorem Inv.Es (I:Inv X pins σ H s):∀x c,X.env.cells.lookup x=some c->c≠X.env.locals:=λx c e z=>by
 obtain⟨v,o,ho,hd⟩:=I.cell x c e
 obtain⟨m,⟨o',es,ep,Et,Hq,_⟩,_⟩:=I.loc
 rw[z,Et] at ho;cases ho;rw[Hq] at hd;cases hd
theorem Inv.jP (I:Inv X pins σ H s):s.heap.FunFrames X.base X.outer:=by
 have all:∀(l:List Env),(∀b∈su l,b∈X.fs)->X.s₀.heap.FunFrames X.base l->s.heap.FunFrames X.base l:=by
  intro l
  induction l with
  | nil=>intro _ _;trivial
  | cons env r ih=>
   intro hs hl
   obtain⟨hk,⟨L,o,hf,hn,ho,hd⟩,hr⟩:=hl
   have hL:L∈X.fs:=hs L (by unfold su;rw[List.filterMap_cons,hf];exact aaj)
   obtain⟨sl,e⟩:=I.base.slot L o ho (I.ok.Du L hL) hL λz=>I.ok.yN L z hL
   exact⟨hk,⟨L,_,hf,hn,e,hd⟩,ih (λb hb=>hs b (by unfold su;rw[List.filterMap_cons,hf];exact aak _ hb)) hr⟩
 exact all X.outer (λ_ hb=>hb) I.ok.jP
theorem Inv.stack (I:Inv X pins σ H s):s.heap.FunFrames X.base X.stack:=by
 rcases I.ok.yL with e | ⟨e,hf⟩
 ·rw[e];exact I.jP
 ·rw[e]
  obtain⟨m,hn,_⟩:=I.loc
  refine .cons (by rw[I.ok.kind];decide) hf hn ?_ I.jP
  exact Heap.get?_none_of_le (aap I.ok.yM I.ok.above)
theorem Inv.qx (I:Inv X pins σ H s):∀b∈su X.stack,b∈X.env.locals::X.fs:=λb hb=>by
 rcases I.ok.yL with e | ⟨e,hf⟩
 ·rw[e] at hb;exact aak _ hb
 ·rw[e] at hb
  unfold su at hb
  rw[List.filterMap_cons,hf] at hb
  exact hb
theorem Inv.v5 (I:Inv X pins σ H s):∀b∈su X.stack,H b=none:=λb hb=>by
 rcases List.mem_cons.mp (I.qx b hb) with e | hb
 ·rw[e];exact I.free
 ·obtain⟨_,o,ho,_⟩:=I.ok.jP.mem hb
  exact I.base.free b o ho (I.ok.Du b hb) λz=>I.ok.yN b z hb
theorem Inv.step {g':Array GenState} {t':Nat} {d':Drawn} {ch:List Addr} (I:Inv X pins σ H s)
  (Bw:∀b∈ch,(b∈X.ex\/X.s₀.heap.objs.size<=b)/\b≠X.env.locals/\(∀x c,X.env.cells.lookup x=some c->c≠b)/\∀p∈X.pn++pins,p.1≠b)
  (keep:∀b o,b≠X.env.locals->b∉X.fs->b∉ch->s.heap.get? b=some o->H b=none->h'.get? b=some o)
  (slot:∀b o,b≠X.env.locals->b∈X.fs->b∉ch->s.heap.get? b=some o->H b=none->∃sl,h'.get? b=some {o with slots:=sl}) (free:∀b o,b∉ch->s.heap.get? b=some o->H b=none->H' b=none)
  (there:∀b o,b∉ch->s.heap.get? b=some o->∃o',h'.get? b=some o')
  (kR:∀b xs,H b=some (.tup xs)->H' b=some (.tup xs)) (mO:∀b o u,H b=some (.uG o u)->H' b=some (.uG o u)) (mP:∀b ps,H b=some (.rX ps)->∃more,H' b=some (.rX (ps++more)))
  (ns:∀m,s.heap.Ns X.env.locals m->h'.Ns X.env.locals m) (bW:gz X.prog X.w H' h') (hg:AllBare g'):
  Inv X pins σ H' {s with heap:=h',gens:=g',drawn:=d',toks:=t'}:=by
 have Uq:∀b o,X.s₀.heap.get? b=some o->b≠X.env.locals:=λb o e=>aan (aat (Heap.lt_size e) I.ok.above)
 have KC:∀b o,X.s₀.heap.get? b=some o->b∉X.ex->b∉ch:=λb o e hx hb=>by
  rcases(Bw b hb).1 with z | z
  ·exact hx z
  ·exact absurd (aat (Heap.lt_size e) z) (aaI _)
 have cellK:∀x c,X.env.cells.lookup x=some c->∀v,s.heap.IsCell c v->h'.IsCell c v:=λx c e v ⟨o,ho,hd⟩=>by
  have Dv:c∉ch:=λz=>(Bw c z).2.2.1 x c e rfl
  by_cases hc:c∈X.fs
  ·obtain⟨sl,q⟩:=slot c o (I.Es x c e) hc Dv ho (I.gJ x c e)
   exact⟨_,q,hd⟩
  ·exact⟨o,keep c o (I.Es x c e) hc Dv ho (I.gJ x c e),hd⟩
 refine⟨I.ok,I.os,hg,⟨λb o e n hb hx=>?_,λb o e n hb hx=>?_,λb o e n hx=>?_,λb o e hx=>?_,λb xs e=>kR b xs (I.base.kR b xs e),λb o xs e=>mO b o xs (I.base.mO b o xs e),λb ps e=>?_⟩,?_,λx c e=>?_,?_,λx c e=>?_,λp hp=>?_,bW,I.len⟩
 ·exact keep b o (Uq b o e) hb (KC b o e hx) (I.base.keep b o e n hb hx) (I.base.free b o e n hx)
 ·obtain⟨sl,e1⟩:=I.base.slot b o e n hb hx
  obtain⟨Wu,e2⟩:=slot b _ (Uq b o e) hb (KC b o e hx) e1 (I.base.free b o e n hx)
  exact⟨Wu,e2⟩
 ·obtain⟨o',e1⟩:=I.base.there b o e hx
  exact free b o' (KC b o e hx) e1 (I.base.free b o e n hx)
 ·obtain⟨o',e1⟩:=I.base.there b o e hx
  exact there b o' (KC b o e hx) e1
 ·obtain⟨m1,e1⟩:=I.base.mP b ps e
  obtain⟨m2,e2⟩:=mP b _ e1
  exact⟨m1++m2,by rw[e2,Array.append_assoc]⟩
 ·obtain⟨m,hn,hl⟩:=I.loc
  refine⟨m,ns m hn,λi x v e1 e2 e3=>?_⟩
  obtain⟨u,r,l⟩:=hl i x v e1 e2 e3
  refine⟨u,r,?_⟩
  rcases l with l | ⟨k,c,e,z⟩
  ·exact .inl l
  ·exact .inr ⟨k,c,e,cellK x c e _ z⟩
 ·obtain⟨v,z⟩:=I.cell x c e
  exact⟨v,cellK x c e v z⟩
 ·obtain⟨m,⟨o,_,_,ho,_⟩,_⟩:=I.loc
  exact free _ o (λz=>(Bw _ z).2.1 rfl) ho I.free
 ·obtain⟨v,o,ho,hd⟩:=I.cell x c e
  exact free c o (λz=>(Bw c z).2.2.1 x c e rfl) ho (I.gJ x c e)
 ·obtain⟨e,n,ne,nf,d⟩:=I.pin p hp
  have Dv:p.1∉ch:=λz=>(Bw p.1 z).2.2.2 p hp rfl
  exact⟨keep p.1 p.2 ne nf Dv e n,free p.1 p.2 Dv e n,ne,nf,d⟩
theorem Inv.un {t':Nat} (I:Inv X pins σ H s) (u:Un X.fs [] H H' s.heap h') (bW:gz X.prog X.w H' h'):Inv X pins σ H' {s with heap:=h',toks:=t'}:=by
 obtain⟨m,⟨o,es,ep,ho,r⟩,_⟩:=id I.loc
 obtain⟨sl,hL⟩:=u.any ho I.free (by simp)
 exact I.step (g':=s.gens) (d':=s.drawn) (ch:=[]) (λ_ z=>nomatch z) (λb o _ hb _ e n=>u.keep b o e n hb (by simp)) (λb o _ hb _ e n=>u.slot b o e n hb (by simp)) (λb o _ e n=>u.free b o e n (by simp)) (λb o _ e=>u.there b o e (by simp)) u.kR u.mO u.mP (λm' hm=>by
  obtain⟨o',LH,BP,Et,r'⟩:=hm
  rw[ho] at Et;cases Et
  exact⟨_,LH,BP,hL,r'⟩) bW I.bare
theorem Inv.call {g':Array GenState} {t':Nat} {d':Drawn} {ch:List Addr} (I:Inv X pins σ H s) (u:Un (su X.stack) ch H H' s.heap h') (bW:gz X.prog X.w H' h') (hg:AllBare g')
  (Bw:∀b∈ch,(b∈X.ex\/X.s₀.heap.objs.size<=b)/\b≠X.env.locals/\(∀x c,X.env.cells.lookup x=some c->c≠b)/\∀p∈X.pn++pins,p.1≠b):
  Inv X pins σ H' {s with heap:=h',gens:=g',drawn:=d',toks:=t'}:=by
 obtain⟨m,⟨o,es,ep,ho,r⟩,_⟩:=id I.loc
 obtain⟨sl,hL⟩:=u.any ho I.free λz=>(Bw _ z).2.1 rfl
 exact I.step (ch:=ch) Bw (λb o hL hb hc e n=>u.keep b o e n (λz=>(List.mem_cons.mp (I.qx b z)).elim hL hb) hc) (λb o _ _ hc e n=>u.any e n hc) (λb o hc e n=>u.free b o e n hc) (λb o hc e=>u.there b o e hc) u.kR u.mO u.mP (λm' hm=>by
  obtain⟨o',LH,BP,Et,r'⟩:=hm
  rw[ho] at Et;cases Et
  exact⟨_,LH,BP,hL,r'⟩) bW hg
theorem Inv.turned {t':Nat} {it:Addr} (I:Inv X pins σ H s) (k:∀b o,b≠it->s.heap.get? b=some o->h'.get? b=some o) (hn:H it=none) (hL:it≠X.env.locals)
  (h1:it∈X.ex\/X.s₀.heap.objs.size<=it) (h2:∀x c,X.env.cells.lookup x=some c->c≠it) (h3:∀p∈X.pn++pins,p.1≠it):Inv X pins σ H {s with heap:=h',toks:=t'}:=by
 have Ur:∀b u,H b=some u->b≠it:=λb u e z=>by rw[z,hn] at e;cases e
 refine I.step (g':=s.gens) (d':=s.drawn) (ch:=[it]) (λb hb=>?_) (λb o _ _ hc e _=>k b o (λz=>hc (by simp [z])) e) (λb o _ _ hc e _=>⟨o.slots,k b o (λz=>hc (by simp [z])) e⟩) (λ_ _ _ _ n=>n)
  (λb o hc e=>⟨o,k b o (λz=>hc (by simp [z])) e⟩) (λ_ _ e=>e) (λ_ _ _ e=>e) (λb ps e=>⟨#[],by rw[e];simp⟩) (λm hm=>?_) (λb u e=>?_) I.bare
 ·have e:b=it:=by simpa using hb
  subst e
  exact⟨h1,hL,h2,h3⟩
 ·obtain⟨o,es,ep,ho,r⟩:=hm
  exact⟨o,es,ep,k _ o (Ne.symm hL) ho,r⟩
 ·refine(I.bW b u e).oW (λc v hc q=>k c v ?_ q) (λ_ q=>q) λ_ _ q=>q
  rcases hc with z | z
  ·rw[z];exact Ur b u e
  ·exact Ur c _ z
theorem Inv.tok (I:Inv X pins σ H s) (t:Nat):Inv X pins σ H {s with toks:=t}:=I.un (h':=s.heap) (t':=t) Un.refl I.bW
theorem Inv.kept {t':Nat} (I:Inv X pins σ H s) (k:∀b u,s.heap.get? b=some u->h'.get? b=some u):Inv X pins σ H {s with heap:=h',toks:=t'}:=I.un (Un.kept k) (I.bW.kept k)
theorem Inv.laid {a:Addr} {o:HO} {t':Nat} (I:Inv X pins σ H s) (k:∀b u,s.heap.get? b=some u->h'.get? b=some u) (hp:s.heap.objs.size<=a) (new:cG X.prog X.w (upd H a o) h' a o):
  Inv X pins σ (upd H a o) {s with heap:=h',toks:=t'}:=I.un (Un.laid k hp (I.bW.fresh hp)) (I.bW.laid k hp new)
theorem Inv.write {x e:Addr} {o:HO} {t':Nat} (I:Inv X pins σ H s) (mu:Hm (H x)) (he:e=x\/H e=some (.own x)) (k:∀b u,b≠e->s.heap.get? b=some u->h'.get? b=some u) (GP:∃u,h'.get? e=some u)
  (new:cG X.prog X.w (upd H x o) h' x o):Inv X pins σ (upd H x o) {s with heap:=h',toks:=t'}:=I.un (Un.write mu he k GP) (I.bW.write mu he k GP new)
theorem Inv.jm {Dw:List (Addr×Obj)} (I:Inv X pins σ H s) (h:∀p∈Dw,s.heap.get? p.1=some p.2/\H p.1=none/\p.1≠X.env.locals/\p.1∉X.fs/\∀v,p.2.data≠.cell v):Inv X Dw σ H s:=
 ⟨I.ok,I.os,I.bare,I.base,I.loc,I.cell,I.free,I.gJ,λp hp=>(List.mem_append.mp hp).elim (λz=>I.pin p (abr _ z)) (h p),I.bW,I.len⟩
theorem sC {N:List Str} (hN:N.Nodup) {i j:Nat} {x:Str} (a:N[i]?=some x) (b:N[j]?=some x):i=j:=by
 obtain⟨h1,e1⟩:=List.getElem?_eq_some_iff.mp a
 obtain⟨h2,e2⟩:=List.getElem?_eq_some_iff.mp b
 exact(abj hN).mp (e1.trans e2.symm)
theorem pG {M:Model} {A:Around} {E:Value->Shared->Prop} {i:Nat} {x:Str} {v:V} {u:Value} {Q:Unit->Shared->Prop} (I:Inv X pins σ H s) (hN:X.N.Nodup) (hi:X.N[i]?=some x) (hx:Loc X.env.scope x) (r:RelV v u)
  (h:∀s',Inv X pins (σ.set i (some v)) H s'->(∃a,Heap.SameBut a s.heap s'.heap/\(a=X.env.locals\/X.env.cells.lookup x=some a))->Q () s') (hf:X.fn x=true\/X.env.scope.names.lookup x=some .local:=by first | exact .inl rfl | exact .inr rfl | assumption):wpAny M A (storeName X.env x u) Q E s:=by
 obtain⟨m,hn,hl⟩:=id I.loc
 have LI:(X.env.scope.kind==.class || (X.env.scope.kind==.module && X.env.locals !=X.env.globals))=false:=by rw[I.ok.kind];rfl
 have Us:i<σ.length:=by rw[I.len];exact(List.getElem?_eq_some_iff.mp hi).1
 have Es:=I.Es
 have tracked:∀{a:Addr} {h':Heap},(∃o,s.heap.get? a=some o/\H a=none)->Heap.SameBut a s.heap h'->gz X.prog X.w H h':=λ{a h'} ha hs b ob e=>by
  obtain⟨_,_,Dx⟩:=ha
  refine(I.bW b ob e).oW (λc w' hc q=>(hs.2 c ?_).trans q) (λ_ q=>q) λ_ _ q=>q
  rintro rfl
  rcases hc with rfl | hc
  ·rw[Dx] at e;cases e
  ·rw[Dx] at hc;cases hc
 rcases hx with hk | hk
 ·refine wpAny_storeName_local hk hn (λh' Wv hs=>?_) LI
  obtain⟨oL,_,_,Dy,_⟩:=id hn
  refine h _ ⟨I.ok,I.os,I.bare,⟨λb o e n hb hx=>?_,λb o e n hb hx=>?_,I.base.free,λb o e hx=>?_,I.base.kR,I.base.mO,I.base.mP⟩,⟨_,Wv,λj y v' e1 e2 e3=>?_⟩,λy c e=>?_,I.free,I.gJ,λp hp=>?_,tracked ⟨oL,Dy,I.free⟩ hs,by simpa using I.len⟩ ⟨_,hs,.inl rfl⟩
  ·exact(hs.2 b (aan (aat (Heap.lt_size e) I.ok.above))).trans (I.base.keep b o e n hb hx)
  ·obtain⟨sl,e1⟩:=I.base.slot b o e n hb hx
   exact⟨sl,(hs.2 b (aan (aat (Heap.lt_size e) I.ok.above))).trans e1⟩
  ·obtain⟨o',e1⟩:=I.base.there b o e hx
   exact⟨o',(hs.2 b (aan (aat (Heap.lt_size e) I.ok.above))).trans e1⟩
  ·by_cases hj:j=i
   ·subst hj
    rw[hi] at e1;cases e1
    rw[aa1 Us] at e2
    cases e2
    exact⟨u,r,.inl ⟨hk,by simp⟩⟩
   ·rw[aaO (Ne.symm hj)] at e2
    obtain⟨u',r',q⟩:=hl j y v' e1 e2 e3
    refine⟨u',r',?_⟩
    rcases q with ⟨k,e⟩ | ⟨k,c,e,z⟩
    ·refine .inl ⟨k,?_⟩
     have:y≠x:=λe=>hj (sC hN e1 (e▸hi))
     simp [this,e]
    ·exact .inr ⟨k,c,e,z.sameBut hs (Es y c e)⟩
  ·obtain⟨w',z⟩:=I.cell y c e
   exact⟨w',z.sameBut hs (Es y c e)⟩
  ·obtain⟨e,n,ne,nf,d⟩:=I.pin p hp
   exact⟨(hs.2 p.1 ne).trans e,n,ne,nf,d⟩
 ·have LJ:X.fn x=true:=by
   rcases hf with z | z
   ·exact z
   ·rw[z] at hk;cases hk
  obtain⟨c,hc⟩:=I.ok.has x (.inl hk)
  obtain⟨w',z⟩:=I.cell x c hc
  refine wpAny_storeName_cell I.ok.kind hk hc z (λh' Ut hs=>?_)
  obtain⟨oc,Uu,LK⟩:=id z
  refine h {s with heap:=h'} ⟨I.ok,I.os,I.bare,⟨λb o e n hb hx=>?_,λb o e n hb hx=>?_,I.base.free,λb o e hx=>?_,I.base.kR,I.base.mO,I.base.mP⟩,⟨m,hn.sameBut hs (Ne.symm (Es x c hc)),λj y v' e1 e2 e3=>?_⟩,λy c' e=>?_,I.free,I.gJ,λp hp=>?_,tracked ⟨oc,Uu,I.gJ x c hc⟩ hs,by simpa using I.len⟩ ⟨c,hs,.inr hc⟩
  ·exact(hs.2 b (aan (aat (Heap.lt_size e) (I.ok.GQ x c LJ hc)))).trans (I.base.keep b o e n hb hx)
  ·obtain⟨sl,e1⟩:=I.base.slot b o e n hb hx
   exact⟨sl,(hs.2 b (aan (aat (Heap.lt_size e) (I.ok.GQ x c LJ hc)))).trans e1⟩
  ·obtain⟨o',e1⟩:=I.base.there b o e hx
   exact⟨o',(hs.2 b (aan (aat (Heap.lt_size e) (I.ok.GQ x c LJ hc)))).trans e1⟩
  ·by_cases hj:j=i
   ·subst hj
    rw[hi] at e1;cases e1
    rw[aa1 Us] at e2
    cases e2
    exact⟨u,r,.inr ⟨.inl hk,c,hc,Ut⟩⟩
   ·rw[aaO (Ne.symm hj)] at e2
    obtain⟨u',r',q⟩:=hl j y v' e1 e2 e3
    refine⟨u',r',?_⟩
    rcases q with q | ⟨k,c',e,z'⟩
    ·exact .inl q
    ·refine .inr ⟨k,c',e,z'.sameBut hs ?_⟩
     rintro rfl
     exact hj (sC hN e1 (I.ok.inj _ _ _ e hc▸hi))
  ·by_cases KD:c'=c
   ·subst KD;exact⟨_,Ut⟩
   ·obtain⟨w2,z2⟩:=I.cell y c' e
    exact⟨w2,z2.sameBut hs KD⟩
  ·obtain⟨e,n,ne,nf,d⟩:=I.pin p hp
   refine⟨(hs.2 p.1 ?_).trans e,n,ne,nf,d⟩
   intro q
   rw[q,Uu] at e
   have q':oc=p.2:=aax e
   exact d w' (by rw[<-q'];exact LK)
theorem jn {M:Model} {A:Around} {E:Value->Shared->Prop} {i:Nat} {x:Str} {v:V} {u:Value} {Q:Unit->Shared->Prop} (I:Inv X pins σ H s) (hN:X.N.Nodup) (hi:X.N[i]?=some x) (hx:Loc X.env.scope x) (r:RelV v u)
  (h:∀s',Inv X pins (σ.set i (some v)) H s'->Q () s') (hf:X.fn x=true\/X.env.scope.names.lookup x=some .local:=by first | exact .inl rfl | exact .inr rfl | assumption):wpAny M A (storeName X.env x u) Q E s:=
 pG I hN hi hx r (λs' I' _=>h s' I') hf
theorem Inv.Hr {s':Shared} {ch:List Addr} (I:Inv X pins σ H s) (ho:s'.os=s.os) (u:Un (su X.stack) ch H H' s.heap s'.heap) (bW:gz X.prog X.w H' s'.heap) (hg:AllBare s'.gens)
  (Bw:∀b∈ch,(b∈X.ex\/X.s₀.heap.objs.size<=b)/\b≠X.env.locals/\(∀x c,X.env.cells.lookup x=some c->c≠b)/\∀p∈X.pn++pins,p.1≠b):Inv X pins σ H' s':=by
 obtain⟨h',g',d',t',o'⟩:=s'
 have e:o'=s.os:=ho
 subst e
 exact I.call (g':=g') (t':=t') (d':=d') u bW hg Bw
end
abbrev XK:=Value->Option Addr->Hp->Prop
abbrev St:=List (Option V)
abbrev VK:=V->Hp->Prop
abbrev TE:=St->Hp->VK->Prop
abbrev TT:=St->Hp->(Bool->Hp->Prop)->Prop
abbrev TA:=St->Hp->(List V->Hp->Prop)->Prop
structure Ends where
 nx:St->Hp->Prop
 rt:VK
 bk:St->Hp->Prop:=λ_ _=>False
 ct:St->Hp->Prop:=λ_ _=>False
abbrev TS:=Ends->St->Hp->Prop
noncomputable def EP (X:Cx) (pins:List (Addr×Obj)) (σ:St) (Q:VK) (u:Value) (s':Shared):Prop:=∃v H',Inv X pins σ H' s'/\RelV v u/\Q v H'
noncomputable def TP (X:Cx) (pins:List (Addr×Obj)) (σ:St) (Q:Bool->Hp->Prop) (b:Bool) (s':Shared):Prop:=∃H',Inv X pins σ H' s'/\Q b H'
noncomputable def AP (X:Cx) (pins:List (Addr×Obj)) (σ:St) (Q:List V->Hp->Prop) (us:List Value) (s':Shared):Prop:=∃vs H',Inv X pins σ H' s'/\bu vs us/\Q vs H'
noncomputable def SP (X:Cx) (pins:List (Addr×Obj)) (D:Ends) (f:Flow) (s':Shared):Prop:=
 match f with
 | .next=>∃σ' H',Inv X pins σ' H' s'/\D.nx σ' H'
 | .brk=>∃σ' H',Inv X pins σ' H' s'/\D.bk σ' H'
 | .cont=>∃σ' H',Inv X pins σ' H' s'/\D.ct σ' H'
 | .ret u=>∃v σ' H',Inv X pins σ' H' s'/\RelV v u/\D.rt v H'
noncomputable def PE (X:Cx) (e:Expr) (t:TE):Prop:=
 ∀(pins:List (Addr×Obj)) (s:Shared) (σ:St) (H:Hp) (Q:VK),Inv X pins σ H s->t σ H Q->wpAny (model X.prog X.w) X.A (eval e X.env) (EP X pins σ Q) X.xe s
noncomputable def PT (X:Cx) (e:Expr) (t:TT):Prop:=
 ∀(pins:List (Addr×Obj)) (s:Shared) (σ:St) (H:Hp) (Q:Bool->Hp->Prop),Inv X pins σ H s->t σ H Q->wpAny (model X.prog X.w) X.A (isTrue e X.env (eval e X.env)) (TP X pins σ Q) X.xe s
noncomputable def PW (X:Cx) (e:Expr) (t:TT):Prop:=
 ∀(whole:Sem Value) (pins:List (Addr×Obj)) (s:Shared) (σ:St) (H:Hp) (Q:Bool->Hp->Prop),Inv X pins σ H s->t σ H Q->wpAny (model X.prog X.w) X.A (isTrue e X.env whole) (TP X pins σ Q) X.xe s
theorem PW.pt {X:Cx} {e:Expr} {t:TT} (h:PW X e t):PT X e t:=h _
noncomputable def PA (X:Cx) (es:List Expr) (t:TA):Prop:=
 ∀(pos:Pos) (pins:List (Addr×Obj)) (s:Shared) (σ:St) (H:Hp) (Q:List V->Hp->Prop),Inv X pins σ H s->t σ H Q->wpAny (model X.prog X.w) X.A (spliced (backTo pos (starEach es X.env))) (AP X pins σ Q) X.xe s
noncomputable def PS (X:Cx) (st:Stmt) (t:TS):Prop:=
 ∀(pins:List (Addr×Obj)) (s:Shared) (σ:St) (H:Hp) (D:Ends),Inv X pins σ H s->t D σ H->wpAny (model X.prog X.w) X.A (exec st X.env) (SP X pins D) X.xe s
noncomputable def uJ (X:Cx) (st:List Stmt) (t:TS):Prop:=
 ∀(pins:List (Addr×Obj)) (s:Shared) (σ:St) (H:Hp) (D:Ends),Inv X pins σ H s->t D σ H->wpAny (model X.prog X.w) X.A (execs st X.env) (SP X pins D) X.xe s
theorem cy {α:Type} {t:Sem α} {Q Q':α->Shared->Prop} {M:Model} {A:Around} {E:Value->Shared->Prop} {s:Shared} (h:wpAny M A t Q E s) (hQ:∀a s,Q a s->Q' a s):wpAny M A t Q' E s:=wpAny_mono h hQ λ_ _ x=>x
end L2
namespace L2
open PySem PySem.Spec PyProof.Rows
section
variable {X : Cx}
noncomputable def tVar (i:Nat):TE:=λσ H Q=>∃v,σ[i]?=some (some v)/\Q v H
noncomputable def tC (v:V):TE:=λ_ H Q=>Q v H
theorem Eu {i:Nat} {x:Str} {pos:Pos} (hN:X.N[i]?=some x) (hv:LC X.env.scope x) (hd:(x==("__debug__":Str))=false:=by decide) (sE:(x==("__classdict__":Str))=false:=by decide):PE X (.Name x pos) (tVar i):=by
 intro pins s σ H Q I h
 obtain⟨v,e,h⟩:=h
 obtain⟨m,hn,hl⟩:=I.loc
 obtain⟨u,r,l⟩:=hl i x v hN e hv
 have fin:EP X pins σ Q u s:=⟨v,H,I,r,h⟩
 rcases l with ⟨hk,hm⟩ | ⟨hk,c,hc,pH⟩
 ·exact wpAny_Name (wpAny_loadName_local I.ok.kind hk hn hm fin) hd
 ·rcases hk with hk | hk
  ·exact wpAny_Name (wpAny_loadName_cell I.ok.kind hk hc pH fin) hd
  ·exact wpAny_Name (wpAny_loadName_free I.ok.kind hk hc pH fin sE) hd
theorem ag {i j pos}:PE X (.Constant (.int i) j pos) (tC (.int i)):=λ_ _ _ H _ I h=>wpAny_Constant_int ⟨.int i,H,I.tok _,⟨_,rfl⟩,h⟩
theorem Dz {b j pos}:PE X (.Constant (.bool b) j pos) (tC (.bl b)):=λ_ _ _ H _ I h=>Constant_bool ⟨.bl b,H,I,rfl,h⟩
theorem eW {j pos}:PE X (.Constant .none j pos) (tC .cB):=λ_ _ _ H _ I h=>Constant_none ⟨.cB,H,I,rfl,h⟩
theorem c4 {x j pos}:PE X (.Constant (.str x) j pos) (tC (.str x)):=λ_ _ _ H _ I h=>Calls.Constant_str ⟨.str x,H,I.tok _,⟨_,rfl⟩,h⟩
noncomputable def Gl (X:Cx) (x:Str):Prop:=X.env.kindOf x=some .globalImplicit
theorem qy {E:Value->Shared->Prop} {pins:List (Addr×Obj)} {s:Shared} {σ:St} {H:Hp} {x:Str} {u:Value} {pos:Pos} {Q:Value->Shared->Prop} (I:Inv X pins σ H s) (hg:Gl X x) (hm:X.mg x=some u) (h:Q u s)
  (hd:(x==("__debug__":Str))=false:=by decide):wpAny (model X.prog X.w) X.A (eval (.Name x pos) X.env) Q E s:=
 Calls.Name_function_global I.ok.kind hg (Calls.loadGlobal_global (by rw[I.ok.glob];exact I.mod.glob.keeps I.bk) hm h) hd
theorem iO {E:Value->Shared->Prop} {pins:List (Addr×Obj)} {s:Shared} {σ:St} {H:Hp} {x:Str} {u:Value} {pos:Pos} {Q:Value->Shared->Prop} (I:Inv X pins σ H s) (hg:Gl X x) (hm:X.mg x=none) (hv:bootBuiltins x=some u) (h:Q u s)
  (hn:x≠"__name__":=by decide) (hd:(x==("__debug__":Str))=false:=by decide):wpAny (model X.prog X.w) X.A (eval (.Name x pos) X.env) Q E s:=by
 obtain⟨mb,h1,h2⟩:=I.mod.blt
 exact Calls.Name_function_global I.ok.kind hg (Calls.loadGlobal_builtin (by rw[I.ok.glob];exact I.mod.glob.keeps I.bk) hm (by rw[I.ok.blt];exact h1.keeps I.bk) ((h2 x hn).trans hv) h) hd
theorem BQ {x:Str} {v:V} {u:Value} {pos:Pos} (hg:Gl X x) (hm:X.mg x=some u) (r:RelV v u) (hd:(x==("__debug__":Str))=false:=by decide):PE X (.Name x pos) (tC v):=
 λ_ _ _ H _ I h=>qy I hg hm ⟨v,H,I,r,h⟩ hd
noncomputable def Ww (ta tb:TE) (k:Int->Int->Hp->Prop):St->Hp->Prop:=λσ H=>ta σ H λx H1=>tb σ H1 λy H2=>∃i j,x=.int i/\y=.int j/\k i j H2
variable {a b : Expr} {ta tb : TE} {pos : Pos}
noncomputable def PC (X:Cx) (op:CmpOp) (a b:Expr) (t:TE):Prop:=
 ∀(pins:List (Addr×Obj)) (s:Shared) (σ:St) (H:Hp) (Q:VK),Inv X pins σ H s->t σ H Q->
  wpAny (model X.prog X.w) X.A (eval a X.env) (λv s₁=>wpAny (model X.prog X.w) X.A (eval b X.env) (λu s₂=>wpAny (model X.prog X.w) X.A (compareOp op v u) (EP X pins σ Q) X.xe s₂) X.xe s₁) X.xe s
theorem yO (b:Expr) {op:CmpOp} (h:op≠.In) (h2:op≠.NotIn):behindInMarks op b=false:=by
 have e1:(op==CmpOp.In)=false:=by cases op <;>first | rfl | exact absurd rfl h
 have e2:(op==CmpOp.NotIn)=false:=by cases op <;>first | rfl | exact absurd rfl h2
 cases b <;>simp [behindInMarks,e1,e2]
noncomputable def xN (p:Int->Int->Bool) (ta tb:TE):TE:=λσ H Q=>Ww ta tb (λi j H2=>Q (.bl (p i j)) H2) σ H
abbrev tLt:TE->TE->TE:=xN λi j=>decide (i<j)
abbrev tLe:TE->TE->TE:=xN λi j=>decide (i<=j)
abbrev tGt:TE->TE->TE:=xN λi j=>decide (j<i)
abbrev tGe:TE->TE->TE:=xN λi j=>decide (j<=i)
abbrev Wx:TE->TE->TE:=xN λi j=>decide (i=j)
abbrev Wz:TE->TE->TE:=xN λi j=>!decide (i=j)
noncomputable def tB (t:TE):TT:=λσ H Q=>t σ H λx H1=>∃c,x=.bl c/\Q c H1
theorem uK {op:CmpOp} {t:TE} (h:PC X op a b t) (h1:behindInMarks op b=false:=by first | exact yO _ (by decide) (by decide) | rfl):PT X (.Compare a [op] [b] pos) (tB t):=by
 intro pins s σ H Q I hw
 refine wpAny_isTrue_Compare1 (cy (h pins s σ H _ I hw) λv s1 h1=>cy h1 λu s2 h2=>cy h2 λc s3 cU=>?_) h1
 obtain⟨x,H1,I1,r1,q1⟩:=cU
 obtain⟨d,rfl,q⟩:=q1
 cases r1
 exact wpAny_truthy_bool ⟨H1,I1,q⟩
theorem qz {e:Expr} {t:TE} (h:PE X e t) (he:∀whole,isTrue e X.env whole=(do let v <-whole;standAt e.pos;holding [v] (truthy v)):=by intro _;rfl):PT X e (tB t):=by
 intro pins s σ H Q I hw
 refine isTrue_plain (cy (h pins s σ H _ I hw) λv s1 cU=>?_) (he _)
 obtain⟨x,H1,I1,r1,q1⟩:=cU
 obtain⟨d,rfl,q⟩:=q1
 cases r1
 exact wpAny_truthy_bool ⟨H1,I1,q⟩
variable {tA KE : TT} {rest : List Expr}
noncomputable def tAnd (t u:TT):TT:=λσ H Q=>t σ H λc H1=>if c=true then u σ H1 Q else Q false H1
noncomputable def tOr (t u:TT):TT:=λσ H Q=>t σ H λc H1=>if c=true then Q true H1 else u σ H1 Q
noncomputable def tNot (t:TT):TT:=λσ H Q=>t σ H λc H1=>Q (!c) H1
theorem pw_and1 (ha:PT X a tA):PW X (.BoolOp .And [a] pos) tA:=by
 intro wh pins s σ H Q I h
 refine isTrue_and (cy (ha pins s σ H Q I h) λc s1 e=>?_)
 cases c with
 | true=>exact isTrue_and_nil e
 | false=>exact e
theorem pw_or1 (ha:PT X a tA):PW X (.BoolOp .Or [a] pos) tA:=by
 intro wh pins s σ H Q I h
 refine isTrue_or (cy (ha pins s σ H Q I h) λc s1 e=>?_)
 cases c with
 | false=>exact isTrue_or_nil e
 | true=>exact e
theorem pw_and (ha:PT X a tA) (hb:PW X (.BoolOp .And (b::rest) pos) KE):PW X (.BoolOp .And (a::b::rest) pos) (tAnd tA KE):=by
 intro wh pins s σ H Q I h
 refine isTrue_and (cy (ha pins s σ H _ I h) λc s1 ⟨H1,I1,q1⟩=>?_)
 cases c with
 | true=>exact hb wh pins s1 σ H1 Q I1 q1
 | false=>exact⟨H1,I1,q1⟩
theorem pw_or (ha:PT X a tA) (hb:PW X (.BoolOp .Or (b::rest) pos) KE):PW X (.BoolOp .Or (a::b::rest) pos) (tOr tA KE):=by
 intro wh pins s σ H Q I h
 refine isTrue_or (cy (ha pins s σ H _ I h) λc s1 ⟨H1,I1,q1⟩=>?_)
 cases c with
 | true=>exact⟨H1,I1,q1⟩
 | false=>exact hb wh pins s1 σ H1 Q I1 q1
noncomputable def tAndV (ta tb:TE):TE:=λσ H Q=>ta σ H λx H1=>∃c,x=.bl c/\if c=true then tb σ H1 Q else Q (.bl false) H1
noncomputable def tOrV (ta tb:TE):TE:=λσ H Q=>ta σ H λx H1=>∃c,x=.bl c/\if c=true then Q (.bl true) H1 else tb σ H1 Q
noncomputable def tNotV (ta:TE):TE:=λσ H Q=>ta σ H λx H1=>∃c,x=.bl c/\Q (.bl (!c)) H1
noncomputable def tIf (t:TT) (ta tb:TE):TE:=λσ H Q=>t σ H λc H1=>if c=true then ta σ H1 Q else tb σ H1 Q
theorem gK {c:Expr} (hc:PT X c tA) (ha:PE X a ta) (hb:PE X b tb):PE X (.IfExp c a b pos) (tIf tA ta tb):=by
 intro pins s σ H Q I h
 refine wpAny_IfExp (cy (hc pins s σ H _ I h) λd s1 ⟨H1,I1,q1⟩=>?_)
 cases d with
 | true=>exact ha pins s1 σ H1 Q I1 q1
 | false=>exact hb pins s1 σ H1 Q I1 q1
end
end L2
namespace L2
open PySem PySem.Spec PyProof.Rows
noncomputable def bo (K:PySem.W.Frag) (H:Hp) (a:Addr) (xs:List V):Prop:=
 Rd H a (.lst xs)\/
  ∃(o:Obj) (aU:Array Value) (n:Nat),K.lookup a=some o/\o.cls=.type "list"/\o.dict=none/\o.data=.seq aU n/\aU.size<=sizeLine/\bu xs aU.toList
noncomputable def eL (K:PySem.W.Frag) (H:Hp) (a:Addr) (xs:List V):Prop:=
 Rd H a (.tup xs)\/
  ∃(o:Obj) (aU:Array Value) (n:Nat),K.lookup a=some o/\o.cls=.type "tuple"/\o.data=.seq aU n/\aU.size<=sizeLine/\bu xs aU.toList
noncomputable def LL:Value->Option V
 | .none=>some .cB
 | .bool b=>some (.bl b)
 | .int i _=>some (.int i)
 | .str x _=>some (.str x)
 | .bytes b _=>some (.yE b)
 | .float b _=>some (.GO b)
 | .ref a=>some (.ref a)
 | .type n=>some (.ty n)
 | _=>none
theorem RelV.abs {x:V} {u:Value} (r:RelV x u):LL u=some x:=by
 cases x with
 | cB=>cases r;rfl
 | bl _=>cases r;rfl
 | int _=>obtain⟨t,rfl⟩:=r;rfl
 | str _=>obtain⟨t,rfl⟩:=r;rfl
 | yE _=>obtain⟨t,rfl⟩:=r;rfl
 | GO _=>obtain⟨t,rfl⟩:=r;rfl
 | ref _=>cases r;rfl
 | ty _=>cases r;rfl
theorem RelV.inj {x y:V} {u:Value} (r:RelV x u) (q:RelV y u):x=y:=aax (r.abs.symm.trans q.abs)
theorem bu.inj:∀{xs ys:List V} {us:List Value},bu xs us->bu ys us->xs=ys
 | _,_,_,.nil,.nil=>rfl
 | _,_,_,.cons r t,.cons r' t'=>by rw[r.inj r',bu.inj t t']
section
variable {X : Cx} {pins : List (Addr × Obj)} {σ : St} {H : Hp} {s : Shared} {a : Addr} {xs ys : List V}
theorem bo.of {K:PySem.W.Frag} (h:H a=some (.lst xs)):bo K H a xs:=.inl (.inl h)
theorem eL.of {K:PySem.W.Frag} (h:H a=some (.tup xs)):eL K H a xs:=.inl (.inl h)
theorem Inv.list (I:Inv X pins σ H s) (h:bo X.K H a xs):∃aU:List Value,bu xs aU/\PlainL s.heap a aU.toArray/\xs.length<=sizeLine:=by
 rcases h with h | ⟨o,aU,n,hk,hc,hd,hs,hz,r⟩
 ·obtain⟨z,aU,n,r,e⟩:=h.ok I.bW
  exact⟨aU,r,⟨_,n,e,rfl,rfl,rfl⟩,z⟩
 ·refine⟨aU.toList,r,⟨o,n,I.v3 a o hk,hc,hd,by simpa using hs⟩,?_⟩
  have e:=r.length
  simp only[abt] at e
  omega
theorem Inv.tuple (I:Inv X pins σ H s) (h:eL X.K H a xs):∃aU:List Value,bu xs aU/\IsTup s.heap a aU.toArray/\xs.length<=sizeLine:=by
 rcases h with h | ⟨o,aU,n,hk,hc,hs,hz,r⟩
 ·obtain⟨z,aU,r,p⟩:=h.ok I.bW
  exact⟨aU,r,p,z⟩
 ·refine⟨aU.toList,r,⟨o,I.v3 a o hk,hc,n,by simpa using hs⟩,?_⟩
  have e:=r.length
  simp only[abt] at e
  omega
theorem Inv.jo (I:Inv X pins σ H s) (h:bo X.K H a xs) (h':bo X.K H a ys):xs=ys:=by
 obtain⟨aU,r,⟨o,n,e,_,_,d⟩,_⟩:=I.list h
 obtain⟨its',r',⟨o',n',e',_,_,d'⟩,_⟩:=I.list h'
 rw[e] at e';cases e'
 rw[d] at d'
 injection d' with d1 _
 have:aU=its':=by simpa using congrArg Array.toList d1
 subst this
 exact r.inj r'
end
abbrev Cx.jQ (X:Cx) (E:Value->Shared->Prop):Cx:={X with xe:=E}
abbrev Cx.GR (X:Cx):Cx:=X.jQ λ_ _=>False
theorem Cx.Ok.jQ {X:Cx} (ok:X.Ok) (E:Value->Shared->Prop):(X.jQ E).Ok:=
 ⟨ok.mod,ok.kind,ok.glob,ok.blt,ok.above,ok.inj,ok.has,ok.GQ,ok.hd,ok.frames,ok.yL,ok.LD,ok.bs,ok.yM,ok.xM,ok.yN,ok.jP,ok.Du⟩
theorem Cx.Ok.fL {X:Cx} {E:Value->Shared->Prop} (ok:(X.jQ E).Ok):X.Ok:=
 ⟨ok.mod,ok.kind,ok.glob,ok.blt,ok.above,ok.inj,ok.has,ok.GQ,ok.hd,ok.frames,ok.yL,ok.LD,ok.bs,ok.yM,ok.xM,ok.yN,ok.jP,ok.Du⟩
section
variable {X : Cx} {pins : List (Addr × Obj)} {σ : St} {H : Hp} {s : Shared} {E : Value -> Shared -> Prop}
theorem Inv.jQ (I:Inv X pins σ H s) (E:Value->Shared->Prop):Inv (X.jQ E) pins σ H s:=⟨I.ok.jQ E,I.os,I.bare,I.base,I.loc,I.cell,I.free,I.gJ,I.pin,I.bW,I.len⟩
theorem Inv.fL (I:Inv (X.jQ E) pins σ H s):Inv X pins σ H s:=⟨I.ok.fL,I.os,I.bare,I.base,I.loc,I.cell,I.free,I.gJ,I.pin,I.bW,I.len⟩
theorem SP.fL {D:Ends} {f:Flow} {s':Shared} (h:SP (X.jQ E) pins D f s'):SP X pins D f s':=by
 cases f with
 | next=>obtain⟨σ',H',I,q⟩:=h;exact⟨σ',H',I.fL,q⟩
 | brk=>obtain⟨σ',H',I,q⟩:=h;exact⟨σ',H',I.fL,q⟩
 | cont=>obtain⟨σ',H',I,q⟩:=h;exact⟨σ',H',I.fL,q⟩
 | ret u=>obtain⟨v,σ',H',I,r,q⟩:=h;exact⟨v,σ',H',I.fL,r,q⟩
theorem uJ.GR {st:List Stmt} {t:TS} (h:uJ X.GR st t):uJ X st t:=λpins s σ H D I hw=>
 wpAny_mono (h pins s σ H D (I.jQ _) hw) (λ_ _ q=>q.fL) λ_ _ z=>False.elim z
end
section
variable {X : Cx} {st : Stmt} {rest : List Stmt} {t u : TS} {e : Expr} {te : TE} {pos : Pos}
noncomputable def tNext:TS:=λD σ H=>D.nx σ H
noncomputable def tSeq (t u:TS):TS:=λD σ H=>t {D with nx:=u D} σ H
theorem bC:uJ X [] tNext:=λ_ _ σ H _ I h=>wpAny_execs_nil ⟨σ,H,I,h⟩
theorem ae (h1:PS X st t) (h2:uJ X rest u):uJ X (st::rest) (tSeq t u):=by
 intro pins s σ H D I h
 refine wpAny_execs_cons (cy (h1 pins s σ H {D with nx:=u D} I h) λf s1 q=>?_)
 cases f with
 | next=>
  obtain⟨σ',H',I',q⟩:=q
  exact h2 pins s1 σ' H' D I' q
 | ret v=>exact q
 | brk=>exact q
 | cont=>exact q
theorem au (h1:PS X st t):uJ X [st] t:=by
 intro pins s σ H D I h
 refine wpAny_execs_cons (cy (h1 pins s σ H D I h) λf s1 q=>?_)
 cases f with
 | next=>exact wpAny_execs_nil q
 | ret v=>exact q
 | brk=>exact q
 | cont=>exact q
theorem Inv.quiet {pins:List (Addr×Obj)} {σ:St} {H:Hp} {s:Shared} (I:Inv X pins σ H s):interactive X.env=false:=by simp [interactive,I.ok.kind]
noncomputable def tDrop (te:TE):TS:=λD σ H=>te σ H λ_ H1=>D.nx σ H1
theorem cN (he:PE X e te) (hs:swapsWith e none pos.line X.env=pure false:=by rfl):PS X (.Expr e pos) (tDrop te):=by
 intro pins s σ H D I h
 exact wpAny_Expr_any (cy (he pins s σ H _ I h) λv s1 ⟨x,H1,I1,r1,q1⟩=>⟨σ,H1,I1,q1⟩) I.quiet hs
noncomputable def tRet (te:TE):TS:=λD σ H=>te σ H D.rt
theorem aP (he:PE X e te):PS X (.Return (some e) pos) (tRet te):=by
 intro pins s σ H D I h
 exact wpAny_Return_some (cy (he pins s σ H _ I h) λv s1 ⟨x,H1,I1,r1,q1⟩=>⟨x,σ,H1,I1,r1,q1⟩)
noncomputable def tRetN:TS:=λD _ H=>D.rt .cB H
noncomputable def tIfS (c:TT) (t u:TS):TS:=λD σ H=>c σ H λb H1=>if b=true then t D σ H1 else u D σ H1
theorem b8 {c:Expr} {a b:List Stmt} {tc:TT} (hc:PT X c tc) (ha:uJ X a t) (hb:uJ X b u):PS X (.If c a b pos) (tIfS tc t u):=by
 intro pins s σ H D I h
 refine wpAny_If (cy (hc pins s σ H _ I h) λd s1 ⟨H1,I1,q1⟩=>?_)
 cases d with
 | true=>exact ha pins s1 σ H1 D I1 q1
 | false=>exact hb pins s1 σ H1 D I1 q1
noncomputable def Ew:TS:=λ_ _ _=>False
theorem mR:PS X st Ew:=λ_ _ _ _ _ _ h=>h.elim
end
abbrev TG:=V->St->Hp->(St->Hp->Prop)->Prop
abbrev DB:=List V->St->Hp->(St->Hp->Prop)->Prop
noncomputable def PG (X:Cx) (target:Expr) (t:TG):Prop:=
 ∀(pins:List (Addr×Obj)) (s:Shared) (σ:St) (H:Hp) (v:V) (u:Value) (Q:St->Hp->Prop),Inv X pins σ H s->RelV v u->t v σ H Q->
  wpAny (model X.prog X.w) X.A (assign target X.env u) (λ_ s'=>∃σ' H',Inv X pins σ' H' s'/\Q σ' H') X.xe s
noncomputable def GU (X:Cx) (ts:List Expr) (t:DB):Prop:=
 ∀(pins:List (Addr×Obj)) (s:Shared) (σ:St) (H:Hp) (vs:List V) (us:List Value) (Q:St->Hp->Prop),Inv X pins σ H s->bu vs us->t vs σ H Q->
  wpAny (model X.prog X.w) X.A (assignInOrder ((assignEach ts X.env).map (·.2)) us) (λ_ s'=>∃σ' H',Inv X pins σ' H' s'/\Q σ' H') X.xe s
abbrev yP:=V->V->V->Hp->(Hp->Prop)->Prop
noncomputable def Ex (X:Cx) (t:yP):Prop:=
 ∀(pins:List (Addr×Obj)) (s:Shared) (σ:St) (H:Hp) (o i v:V) (ov iv u:Value) (Q:Hp->Prop),Inv X pins σ H s->RelV o ov->RelV i iv->RelV v u->t o i v H Q->
  wpAny (model X.prog X.w) X.A (setItem ov iv u) (λ_ s'=>∃H',Inv X pins σ H' s'/\Q H') X.xe s
abbrev KG:=V->V->Hp->VK->Prop
noncomputable def Uv (X:Cx) (op:Operator) (t:KG):Prop:=
 ∀(pins:List (Addr×Obj)) (s:Shared) (σ:St) (H:Hp) (x y:V) (v u:Value) (Q:VK),Inv X pins σ H s->RelV x v->RelV y u->t x y H Q->
  wpAny (model X.prog X.w) X.A (inplaceOp op v u) (EP X pins σ Q) X.xe s
section
variable {X : Cx} {pos : Pos}
noncomputable def gName (i:Nat):TG:=λv σ H Q=>Q (σ.set i (some v)) H
theorem aD {i:Nat} {x:Str} (hN:X.N.Nodup) (hi:X.N[i]?=some x) (hx:Loc X.env.scope x) (hf:X.fn x=true\/X.env.scope.names.lookup x=some .local:=by first | exact .inl rfl | exact .inr rfl | assumption):PG X (.Name x pos) (gName i):=by
 intro pins s σ H v u Q I r h
 exact wpAny_assign_Name (jn I hN hi hx r (λs' I'=>⟨_,H,I',h⟩) hf)
noncomputable def gNil:DB:=λvs σ H Q=>vs=[]/\Q σ H
noncomputable def gCons (t:TG) (u:DB):DB:=λvs σ H Q=>∃v r,vs=v::r/\t v σ H λσ' H'=>u r σ' H' Q
theorem bN:GU X [] gNil:=by
 intro pins s σ H vs us Q I r h
 obtain⟨e,h⟩:=h
 subst e
 cases r
 exact assignInOrder_nil ⟨σ,H,I,h⟩
theorem aN {e:Expr} {es:List Expr} {t:TG} {u:DB} (h1:PG X e t) (h2:GU X es u)
  (hs:(assignEach (e::es) X.env).map (·.2)=assign e X.env::(assignEach es X.env).map (·.2):=by rfl):GU X (e::es) (gCons t u):=by
 intro pins s σ H vs us Q I r h
 obtain⟨v,vr,e1,h⟩:=h
 subst e1
 cases r with
 | cons r rr=>
  rw[hs]
  refine assignInOrder_cons (cy (h1 pins s σ H _ _ _ I r h) λ_ s1 ⟨σ1,H1,I1,q1⟩=>?_)
  exact h2 pins s1 σ1 H1 _ _ Q I1 rr q1
noncomputable def yQ (K:PySem.W.Frag) (n:Nat) (t:DB):TG:=λv σ H Q=>∃a xs,v=.ref a/\eL K H a xs/\xs.length=n/\t xs σ H Q
theorem Ey {es:List Expr} {k:Nat} {t:DB} {n:Nat} (hc:X.calm=true) (h:GU X es t)
  (hn:(assignEach es X.env).length=n:=by rfl) (hst:(assignEach es X.env).findIdx? (·.1)=none:=by rfl):PG X (.Tuple es k pos) (yQ X.K n t):=by
 intro pins s σ H v u Q I r hw
 obtain⟨a,xs,e1,hq,hl,hw⟩:=hw
 subst e1
 cases r
 obtain⟨aU,rv,ht,hz⟩:=I.tuple hq
 refine assign_Tuple_tuple (I.ok.hd hc) ht (by simp [hn,<-hl,rv.length]) hst λh' hx=>?_
 have I1:Inv X pins σ H {s with heap:=h'}:=I.kept (t':=s.toks) λb o e=>hx b o (aan (Heap.lt_size e)) e
 exact h pins _ σ H xs _ Q I1 (by simpa using rv) hw
noncomputable def gSub (to ti:TE) (t:yP):TG:=λv σ H Q=>to σ H λo H1=>ti σ H1 λi H2=>t o i v H2 λH3=>Q σ H3
theorem fM {o i:Expr} {to ti:TE} {t:yP} (ho:PE X o to) (hi:PE X i ti) (hs:Ex X t)
  (ha:∀v,assign (.Subscript o i pos) X.env v=(do
   let ov <-holding [v] (eval o X.env)
   let iv <-holding [v,ov] (eval i X.env)
   standAt pos
   holding [v,ov,iv] (setItem ov iv v)
   release [v,ov,iv] []):=by intro _;rfl):PG X (.Subscript o i pos) (gSub to ti t):=by
 intro pins s σ H v u Q I r h
 rw[ha]
 refine wpAny_bind (wpAny_holding (cy (ho pins s σ H _ I h) λov s1 cU=>?_))
 obtain⟨x,H1,I1,r1,q1⟩:=cU
 refine wpAny_bind (wpAny_holding (cy (hi pins s1 σ H1 _ I1 q1) λiv s2 cU=>?_))
 obtain⟨y,H2,I2,r2,q2⟩:=cU
 refine wpAny_bind (wpAny_standAt (wpAny_bind (wpAny_holding (cy (hs pins s2 σ H2 x y v ov iv u _ I2 r1 r2 r q2) λ_ s3 ⟨H3,I3,q3⟩=>?_))))
 exact wpAny_release ⟨σ,H3,I3,q3⟩
noncomputable def tAsg (te:TE) (g:TG):TS:=λD σ H=>te σ H λx H1=>g x σ H1 D.nx
theorem dQ {tg e:Expr} {te:TE} {g:TG} (he:PE X e te) (hg:PG X tg g) (hs:swapsWithSole [tg] e pos.line X.env=pure false:=by rfl) (hw:swappedStores [tg] e X.env=pure none:=by rfl)
  (h1:(assignEach [tg] X.env).map (·.2)=[assign tg X.env]:=by rfl):PS X (.Assign [tg] e pos) (tAsg te g):=by
 intro pins s σ H D I h
 refine wpAny_Assign_stores (cy (he pins s σ H _ I h) λv s1 cU=>?_) hs hw
 obtain⟨x,H1,I1,r1,q1⟩:=cU
 rw[h1]
 exact cy (hg pins s1 σ H1 x v _ I1 r1 q1) λ_ s2 q=>q
theorem aF {i:Nat} {x:Str} {e:Expr} {te:TE} {pos':Pos} (hN:X.N.Nodup) (hi:X.N[i]?=some x) (hx:Loc X.env.scope x) (he:PE X e te) (hs:swapsWith e (some (.Name x pos')) pos.line X.env=pure false:=by rfl) (hf:X.fn x=true\/X.env.scope.names.lookup x=some .local:=by first | exact .inl rfl | exact .inr rfl | assumption):
  PS X (.Assign [.Name x pos'] e pos) (tAsg te (gName i)):=by
 intro pins s σ H D I h
 refine wpAny_Assign_Name (cy (he pins s σ H _ I h) λv s1 cU=>?_) hs
 obtain⟨y,H1,I1,r1,q1⟩:=cU
 exact jn I1 hN hi hx r1 (λs2 I2=>⟨_,H1,I2,q1⟩) hf
noncomputable def tPar (i j:Nat) (ta:TA):TS:=λD σ H=>ta σ H λvs H1=>∃v w,vs=[v,w]/\D.nx ((σ.set i (some v)).set j (some w)) H1
theorem Ez {i j:Nat} {x y:Str} {a b:Expr} {ta:TA} {px py pt:Pos} {kt k2 LM} (hc:X.calm=true) (hN:X.N.Nodup) (hi:X.N[i]?=some x) (hj:X.N[j]?=some y) (LN:i≠j)
  (hx:X.env.scope.names.lookup x=some .local) (hy:X.env.scope.names.lookup y=some .local) (ha:PA X [a,b] ta)
  (hw:swappedStores [.Tuple [.Name x px,.Name y py] kt pt] (.Tuple [a,b] k2 LM) X.env=pure (some [x,y]))
  (hs:swapsWithSole [.Tuple [.Name x px,.Name y py] kt pt] (.Tuple [a,b] k2 LM) pos.line X.env=pure false:=by rfl):
  PS X (.Assign [.Tuple [.Name x px,.Name y py] kt pt] (.Tuple [a,b] k2 LM) pos) (tPar i j ta):=by
 intro pins s σ H D I h
 rw[exec_Assign_arm]
 refine wpAny_bind (wpAny_standAt ?_)
 rw[hs]
 refine wpAny_bind (wpAny_pure ?_)
 rw[if_neg (by decide)]
 refine wpAny_bind (Tuple_ (cy (ha _ pins s σ H _ I h) λus s1 cU=>?_))
 obtain⟨vs,H1,I1,r1,q1⟩:=cU
 obtain⟨v,w,e1,q1⟩:=q1
 subst e1
 obtain⟨u1,u2,rfl,rv,mS⟩:∃u1 u2,us=[u1,u2]/\RelV v u1/\RelV w u2:=by
  cases r1 with
  | cons p q=>
   cases q with
   | cons p' q'=>
    cases q'
    exact⟨_,_,rfl,p,p'⟩
 refine wpAny_newObj_type ?_ (by show 2<=sizeLine;decide)
 have I2:Inv X pins σ H1 {s1 with heap:=s1.heap.push {cls:=.type "tuple",data:=.seq [u1,u2].toArray}}:=I1.kept (t':=s1.toks) λb o e=>Heap.get?_push_of_some _ e
 rw[hw]
 refine wpAny_bind (wpAny_pure ?_)
 show wpAny (model X.prog X.w) X.A (do rule "assign.swapped-stores";let items <-unpackItems (.ref s1.heap.objs.size) 2 none;assignInOrder [λv=>bindName X.env y v,λv=>bindName X.env x v] items.reverse;pure Flow.next) _ _ _
 refine wpAny_bind (wpAny_rule (wpAny_bind (unpackItems_tuple (items:=#[u1,u2]) (I.ok.hd hc) (IsTup.new s1.heap _) λh' pI=>?_)))
 have I3:=I2.kept (h':=h') (t':=s1.toks) λb o e=>pI b o (aan (Heap.lt_size e)) e
 show wpAny _ _ (assignInOrder [λv=>bindName X.env y v,λv=>bindName X.env x v] [u2,u1] >>=λ_=>pure Flow.next) _ _ _
 refine wpAny_bind (assignInOrder_cons (wpAny_bindName (jn I3 hN hj (.inl hy) mS (λs2 I4=>?_) (.inr hy))))
 refine assignInOrder_cons (wpAny_bindName (jn I4 hN hi (.inl hx) rv (λs3 I5=>assignInOrder_nil (wpAny_pure ?_)) (.inr hx)))
 rw[List.set_comm _ _ (Ne.symm LN)] at I5
 exact⟨_,H1,I5,q1⟩
noncomputable def DC (to ti te:TE) (BR:V->V->Hp->VK->Prop) (KH:KG) (BU:yP):TS:=λD σ H=>to σ H λo H1=>ti σ H1 λi H2=>BR o i H2 λx H3=>te σ H3 λy H4=>KH x y H4 λz H5=>BU o i z H5 λH6=>D.nx σ H6
noncomputable def Hs (X:Cx) (t:V->V->Hp->VK->Prop):Prop:=
 ∀(pins:List (Addr×Obj)) (s:Shared) (σ:St) (H:Hp) (o i:V) (ov iv:Value) (Q:VK),Inv X pins σ H s->RelV o ov->RelV i iv->t o i H Q->
  wpAny (model X.prog X.w) X.A (getItem ov iv) (EP X pins σ Q) X.xe s
theorem BV {o i e:Expr} {to ti te:TE} {BR:V->V->Hp->VK->Prop} {KH:KG} {BU:yP} {op:Operator} {kT:Pos} (ho:PE X o to) (hi:PE X i ti) (hg:Hs X BR) (he:PE X e te) (hp:Uv X op KH) (hs:Ex X BU)
  (ha:∀ov iv new,augStore i ov iv new=(do holding [new,ov,iv] (setItem ov iv new);release [new,ov,iv] [];pure .next):=by intros;rfl):PS X (.AugAssign (.Subscript o i kT) op e pos) (DC to ti te BR KH BU):=by
 intro pins s σ H D I h
 refine wpAny_AugAssign_SubscriptAny (cy (ho pins s σ H _ I h) λov s1 cU=>?_) ha
 obtain⟨x1,H1,I1,r1,q1⟩:=cU
 refine cy (hi pins s1 σ H1 _ I1 q1) λiv s2 cU=>?_
 obtain⟨x2,H2,I2,r2,q2⟩:=cU
 refine cy (hg pins s2 σ H2 x1 x2 ov iv _ I2 r1 r2 q2) λold s3 cU=>?_
 obtain⟨x3,H3,I3,r3,q3⟩:=cU
 refine cy (he pins s3 σ H3 _ I3 q3) λv s4 cU=>?_
 obtain⟨x4,H4,I4,r4,q4⟩:=cU
 refine cy (hp pins s4 σ H4 x3 x4 old v _ I4 r3 r4 q4) λnew s5 cU=>?_
 obtain⟨x5,H5,I5,r5,q5⟩:=cU
 exact cy (hs pins s5 σ H5 x1 x2 x5 ov iv new _ I5 r1 r2 r5 q5) λ_ s6 ⟨H6,I6,q6⟩=>⟨σ,H6,I6,q6⟩
noncomputable def Uw (f:Int->Int->Int):KG:=λx y H Q=>∃i j,x=.int i/\y=.int j/\Q (.int (f i j)) H
theorem EA:Uv X .Sub (Uw λi j=>i - j):=by
 intro pins s σ H x y v u Q I r1 r2 h
 obtain⟨i,j,e1,e2,q⟩:=h
 subst e1;subst e2
 obtain⟨t,rfl⟩:=r1
 obtain⟨t',rfl⟩:=r2
 exact isub_int ⟨.int _,H,I.tok _,⟨_,rfl⟩,q⟩
end
section
variable {X : Cx} {pos : Pos}
noncomputable def qA (c:TT) (tb:TS):TS:=λD σ H=>∃W:Nat->St->Hp->Prop,(∃m,W m σ H)/\∀m σ H,W m σ H->
 c σ H λb H1=>if b=true then ∃N:St->Hp->Prop,(∀σ' H',N σ' H'->∃m',m'<m/\W m' σ' H')/\tb {D with nx:=N,ct:=N,bk:=D.nx} σ H1 else D.nx σ H1
theorem gL {c:Expr} {body:List Stmt} {tc:TT} {tb:TS} (hp:PassesOwn (model X.prog X.w) X.A X.env X.xe) (hc:PT X c tc) (hb:uJ X body tb):PS X (.While c body [] pos) (qA tc tb):=by
 intro pins s σ H D I h
 obtain⟨W,⟨m0,w0⟩,turn⟩:=h
 refine wpAny_While (codeAny_whileLoop (λn s'=>∃σ' H',Inv X pins σ' H' s'/\W n σ' H') ?_ m0 ⟨σ,H,I,w0⟩)
 rintro n s1 ⟨σ1,H1,I1,w1⟩
 refine wpAny_passesOwn hp (cy (hc pins s1 σ1 H1 _ I1 (turn n σ1 H1 w1)) λb s2 ⟨H2,I2,q2⟩=>?_)
 cases b with
 | true=>
  obtain⟨N,hN,q2⟩:=q2
  rw[if_pos rfl]
  refine wpAny_passesOwn hp (cy (hb pins s2 σ1 H2 _ I2 q2) λf s3 q3=>?_)
  cases f with
  | next=>
   obtain⟨σ3,H3,I3,n3⟩:=q3
   obtain⟨m',hm,w3⟩:=hN σ3 H3 n3
   exact⟨m',hm,σ3,H3,I3,w3⟩
  | cont=>
   obtain⟨σ3,H3,I3,n3⟩:=q3
   obtain⟨m',hm,w3⟩:=hN σ3 H3 n3
   exact⟨m',hm,σ3,H3,I3,w3⟩
  | brk=>exact q3
  | ret v=>exact q3
 | false=>
  rw[if_neg aay]
  exact wpAny_execs_nil ⟨σ1,H2,I2,q2⟩
end
structure It where
 go:Nat->Hp->Prop
 v7:Nat->Hp->V->Hp->Prop
 stop:Nat->Hp->Prop
noncomputable def iw (X:Cx) (pins:List (Addr×Obj)) (H:Hp) (b:Addr):Prop:=
 H b=none/\b≠X.env.locals/\b∉X.fs/\(b∈X.ex\/X.s₀.heap.objs.size<=b)/\(∀x c,X.env.cells.lookup x=some c->c≠b)/\∀p∈X.pn++pins,p.1≠b
theorem Inv.xO {X:Cx} {pins:List (Addr×Obj)} {σ:St} {H H':Hp} {s:Shared} {b:Addr} (I:Inv X pins σ H s) (hb:s.heap.objs.size<=b) (hn:H' b=none):iw X pins H' b:=by
 refine⟨hn,Nat.ne_of_gt (aat I.lt hb),I.LG hb,.inr (aap I.sz hb),λx c e z=>?_,λp hp z=>?_⟩
 ·obtain⟨v,q⟩:=I.cell x c e
  exact absurd (aat q.lt (by rw[z];exact hb)) (aaI _)
 ·exact absurd (aat (Heap.lt_size (I.pin p hp).1) (by rw[z];exact hb)) (aaI _)
structure Turn (P:Program) (w:World) (K:PySem.W.Frag) (tg:Expr) (J:It) (fp:List Addr) (it:Addr) (tn:Nat->Heap->Prop):Prop where
 mem:it∈fp
 obj:∀i h,tn i h->∀b∈fp,∃o,h.get? b=some o/\∀v,o.data≠.cell v
 keep:∀i h h',tn i h->(∀b∈fp,∀o,h.get? b=some o->h'.get? b=some o)->tn i h'
 item:∀(X:Cx),X.prog=P->X.w=w->X.K=K->X.calm=true->∀(i:Nat) (pins:List (Addr×Obj)) (s:Shared) (σ:St) (H:Hp) (E:Value->Shared->Prop),Inv X pins σ H s->(∀b∈fp,iw X pins H b)->tn i s.heap->J.go i H->
  wpAny (model P w) X.A (pyNext (.ref it)) (λr s1=>∃u,r=some u/\
   wpAny (model P w) X.A (letOwnedTupleGo tg (.ref it) u) (λ_ s2=>∃x H',Inv X pins σ H' s2/\RelV x u/\J.v7 i H x H'/\tn (i+1) s2.heap/\∀b∈fp,H' b=none) E s1) E s
 done:∀(X:Cx),X.prog=P->X.w=w->X.K=K->X.calm=true->∀(i:Nat) (pins:List (Addr×Obj)) (s:Shared) (σ:St) (H:Hp) (E:Value->Shared->Prop),Inv X pins σ H s->(∀b∈fp,iw X pins H b)->tn i s.heap->J.stop i H->
  wpAny (model P w) X.A (pyNext (.ref it)) (λr s1=>r=none/\Inv X pins σ H s1) E s
 self:∀(A:Around) (i:Nat) (s:Shared) (Q:Value->Shared->Prop) (E:Value->Shared->Prop),tn i s.heap->Q (.ref it) s->wpAny (model P w) A (pyIter (.ref it)) Q E s
abbrev TI:=St->Hp->(It->Hp->Prop)->Prop
noncomputable def Ux (X:Cx) (pins:List (Addr×Obj)) (σ:St) (tg:Expr) (R:It->Hp->Prop) (DD:Value) (s2:Shared):Prop:=
 ∃(it:Addr) (fp:List Addr) (tn:Nat->Heap->Prop) (J:It) (H':Hp),DD=.ref it/\Inv X pins σ H' s2/\Turn X.prog X.w X.K tg J fp it tn/\tn 0 s2.heap/\(∀b∈fp,iw X pins H' b)/\R J H'
noncomputable def PI (X:Cx) (tg iter:Expr) (wi:TI):Prop:=
 ∀(pins:List (Addr×Obj)) (s:Shared) (σ:St) (H:Hp) (R:It->Hp->Prop),Inv X pins σ H s->wi σ H R->
  wpAny (model X.prog X.w) X.A (eval iter X.env) (λv s1=>wpAny (model X.prog X.w) X.A (pyIter v) (Ux X pins σ tg R) X.xe s1) X.xe s
theorem DE {M:Model} {A:Around} {E:Value->Shared->Prop} {s:Shared} {tg:Expr} {it:Addr} {u:Value} {o:Obj} {n:String} {vs:Array Value} {Q:Unit->Shared->Prop} (ho:s.heap.get? it=some o) (hc:o.cls=.type n) (hd:o.data=.fields vs)
  (hn:["enumerate","zip","dict_itemiterator","dict_reverseitemiterator","odict_iterator","itertools.zip_longest","itertools.pairwise"].contains n=false) (hQ:Q () s):wpAny M A (letOwnedTupleGo tg (.ref it) u) Q E s:=by
 unfold letOwnedTupleGo
 cases tg <;>first
  | exact wpAny_pure hQ
  | (cases u <;>first
    | exact wpAny_pure hQ
    | (refine wpAny_bind (wpAny_load ho ?_)
       rw[hc,hd]
       show wpAny M A (if (["enumerate","zip","dict_itemiterator","dict_reverseitemiterator","odict_iterator","itertools.zip_longest","itertools.pairwise"].contains n && vs[0]?==some (rawInt _))=true then _ else _) Q E s
       rw[if_neg (by intro h;rw[hn,Bool.false_and] at h;cases h)]
       exact wpAny_pure hQ))
noncomputable def uL (K:PySem.W.Frag) (a:Addr):It:=
 ⟨λi H=>∃xs x,bo K H a xs/\xs[i]?=some x,λi H x H'=>H'=H/\∀xs,bo K H a xs->xs[i]?=some x,λi H=>∃xs,bo K H a xs/\xs.length<=i⟩
noncomputable def WA (K:PySem.W.Frag) (a:Addr):It:=
 ⟨λi H=>∃xs x,eL K H a xs/\xs[i]?=some x,λi H x H'=>H'=H/\∀xs,eL K H a xs->xs[i]?=some x,λi H=>∃xs,eL K H a xs/\xs.length<=i⟩
noncomputable def Ht (lo:Int) (n:Nat):It:=⟨λi _=>i<n,λi H x H'=>H'=H/\x=.int (lo+i),λi _=>n<=i⟩
theorem xP {P:Program} {w:World} {K:PySem.W.Frag} {tg:Expr} (a it:Addr):Turn P w K tg (uL K a) [it] it (λi h=>h.IsListIter it a i) where
 mem:=by simp
 obj:=λi h st b hb=>by
  have e:b=it:=by simpa using hb
  subst e
  obtain⟨o,e,c,d⟩:=st
  exact⟨o,e,λv z=>by rw[d] at z;cases z⟩
 keep:=λi h h' st k=>st.at λo e=>k it (by simp) o e
 item:=by
  intro X hP hw hK hc i pins s σ H E I hf st hg
  subst hP hw hK
  obtain⟨xs,x,hq,hx⟩:=hg
  obtain⟨aU,rv,p,hz⟩:=I.list hq
  obtain⟨u,hu,ru⟩:=rv.get hx
  obtain⟨f0,f1,f2,f3,f4,f5⟩:=hf it (by simp)
  refine wpAny_pyNext_list_item st p.isList (x:=u) (by simpa using hu) λh' Bx sb=>?_
  have I1:Inv X pins σ H {s with heap:=h'}:=I.turned (t':=s.toks) (λb o hb e=>(sb.2 b hb).trans e) f0 f1 f3 f4 f5
  obtain⟨o,e,c,d⟩:=id Bx
  exact⟨u,rfl,DE (s:={s with heap:=h'}) e c d (by decide) ⟨x,H,I1,ru,⟨rfl,λys hy=>by rw[I.jo hy hq];exact hx⟩,Bx,λb hb=>(hf b hb).1⟩⟩
 done:=by
  intro X hP hw hK hc i pins s σ H E I hf st hg
  subst hP hw hK
  obtain⟨xs,hq,hx⟩:=hg
  obtain⟨aU,rv,p,hz⟩:=I.list hq
  obtain⟨f0,f1,f2,f3,f4,f5⟩:=hf it (by simp)
  have hl:=rv.length
  exact wpAny_pyNext_list_end (I.ok.hd hc) st p.isList (by simp;omega) λh' eb=>⟨rfl,I.turned (t':=s.toks) (λb o hb e=>eb b o hb e) f0 f1 f3 f4 f5⟩
 self:=λ_ _ _ _ _ st h=>wpAny_pyIter_listiter st h
theorem uM {P:Program} {w:World} {K:PySem.W.Frag} {tg:Expr} (it:Addr) (lo:Int) (n:Nat):Turn P w K tg (Ht lo n) [it] it (λi h=>IsRangeIter h it (lo+ (i:Nat)*1) ((n:Int) - (i:Nat)) 1) where
 mem:=by simp
 obj:=λi h st b hb=>by
  have e:b=it:=by simpa using hb
  subst e
  exact⟨_,st,λv z=>by
   have z':Data.fields _=Data.cell v:=z
   cases z'⟩
 keep:=λi h h' st k=>k it (by simp) _ st
 item:=by
  intro X hP hw hK hc i pins s σ H E I hf st hg
  subst hP hw hK
  obtain⟨f0,f1,f2,f3,f4,f5⟩:=hf it (by simp)
  have W:=Walks.range (prog:=X.prog) (w:=X.w) (I.ok.hd hc) it lo 1 n
  refine W.item i s _ _ hg st λv h' tk hv Bx kk=>?_
  obtain⟨t,rfl⟩:=hv
  have I1:Inv X pins σ H {s with heap:=h',toks:=tk}:=I.turned (λb o hb e=>kk b o (by simpa using hb) e) f0 f1 f3 f4 f5
  refine⟨_,rfl,DE (s:={s with heap:=h',toks:=tk}) (n:="range_iterator") Bx rfl rfl (by decide) ⟨.int (lo+i),H,I1,⟨t,?_⟩,⟨rfl,rfl⟩,Bx,λb hb=>(hf b hb).1⟩⟩
  rw[Int.mul_one]
 done:=by
  intro X hP hw hK hc i pins s σ H E I hf st hg
  subst hP hw hK
  obtain⟨f0,f1,f2,f3,f4,f5⟩:=hf it (by simp)
  exact wpAny_pyNext_range_end (I.ok.hd hc) st (by have:n<=i:=hg;omega) λh' eb=>⟨rfl,I.turned (t':=s.toks) (λb o hb e=>eb b o hb e) f0 f1 f3 f4 f5⟩
 self:=λ_ _ _ _ _ st h=>wpAny_pyIter_rangeiter st h
end L2
namespace L2
open PySem PySem.Spec PyProof.Rows
section
variable {X : Cx} {tg : Expr}
noncomputable def iList (K:PySem.W.Frag) (tl:TE):TI:=λσ H R=>tl σ H λx H1=>∃a,x=.ref a/\(∃xs,bo K H1 a xs)/\R (uL K a) H1
noncomputable def iTup (K:PySem.W.Frag) (tl:TE):TI:=λσ H R=>tl σ H λx H1=>∃a,x=.ref a/\(∃xs,eL K H1 a xs)/\R (WA K a) H1
theorem BW {l:Expr} {tl:TE} (hl:PE X l tl):PI X tg l (iList X.K tl):=by
 intro pins s σ H R I h
 refine cy (hl pins s σ H _ I h) λv s1 cU=>?_
 obtain⟨x,H1,I1,r1,q1⟩:=cU
 obtain⟨a,e,⟨xs,hq⟩,q⟩:=q1
 subst e
 cases r1
 obtain⟨aU,rv,p,hz⟩:=I1.list hq
 refine wpAny_pyIter_list p.isList ?_
 refine⟨s1.heap.objs.size,[s1.heap.objs.size],_,_,H1,rfl,I1.kept (t':=s1.toks) λb o e=>Heap.get?_push_of_some _ e,xP a _,⟨_,Heap.get?_push_size _ rfl,rfl,rfl⟩,λb hb=>?_,q⟩
 have e:b=s1.heap.objs.size:=by simpa using hb
 subst e
 exact I1.xO (aah _) (I1.bW.fresh (aah _))
theorem sG {pins:List (Addr×Obj)} {σ:St} {H:Hp} {s:Shared} {R:It->Hp->Prop} {E:Value->Shared->Prop} {lo hi:Int} {t u v:Tok} {tk:Nat} (I:Inv X pins σ H s) (h1:-(2^62)<=lo) (h2:lo<2^62) (h3:-(2^62)<=hi) (h4:hi<2^62)
  (q:R (Ht lo (hi - lo).toNat) H):wpAny (model X.prog X.w) X.A (pyIter (.ref s.heap.objs.size)) (Ux X pins σ tg R) E {s with heap:=s.heap.push {cls:=.type "range",data:=.fields #[.int lo t,.int hi u,.int 1 v]},toks:=tk}:=by
 refine wpAny_pyIter_range (IsRange.new ..) (small_one h1 h2 h3 h4) ?_
 have I1:Inv X pins σ H {s with heap:=s.heap.push {cls:=.type "range",data:=.fields #[.int lo t,.int hi u,.int 1 v]},toks:=tk}:=I.kept λb o e=>Heap.get?_push_of_some _ e
 refine⟨(s.heap.push {cls:=.type "range",data:=.fields #[.int lo t,.int hi u,.int 1 v]}).objs.size,[(s.heap.push {cls:=.type "range",data:=.fields #[.int lo t,.int hi u,.int 1 v]}).objs.size],_,_,H,rfl,
  I1.kept (t':=tk) λb o e=>Heap.get?_push_of_some _ e,uM _ lo (hi - lo).toNat,?_,λb hb=>?_,q⟩
 ·have e1:lo+ ((0:Nat):Int)*1=lo:=by simp
  have e2:(((hi - lo).toNat:Nat):Int) - ((0:Nat):Int)=Builtin.Range.rangeSize lo hi 1:=by rw[rangeSize_one];split <;>omega
  show IsRangeIter _ _ (lo+ ((0:Nat):Int)*1) ((((hi - lo).toNat:Nat):Int) - ((0:Nat):Int)) 1
  rw[e1,e2]
  exact Heap.get?_push_size _ rfl
 ·have e:b=(s.heap.push {cls:=.type "range",data:=.fields #[.int lo t,.int hi u,.int 1 v]}).objs.size:=by simpa using hb
  subst e
  exact I1.xO (aah _) (I1.bW.fresh (aah _))
noncomputable def iRng1 (ta:TA):TI:=λσ H R=>ta σ H λvs H1=>∃j:Int,vs=[.int j]/\-(2^62)<=j/\j<2^62/\R (Ht 0 j.toNat) H1
noncomputable def iRng2 (ta:TA):TI:=λσ H R=>ta σ H λvs H1=>∃i j:Int,vs=[.int i,.int j]/\(-(2^62)<=i/\i<2^62/\-(2^62)<=j/\j<2^62)/\R (Ht i (j - i).toNat) H1
theorem cV {a:Expr} {ta:TA} {p pos:Pos} (hg:Gl X "range") (hm:X.mg "range"=none) (ha:PA X [a] ta) (hs:starEach [a] X.env=[(false,eval a X.env)]:=by rfl):PI X tg (.Call (.Name "range" p) [a] [] pos) (iRng1 ta):=by
 intro pins s σ H R I h
 refine Call_ (iO I hg hm boot_range (PyProof.Rows.callWith_type1 (cy (ha pos pins s σ H _ I h) λus s1 cU=>?_) hs rfl))
 obtain⟨vs,H1,I1,r1,q1⟩:=cU
 obtain⟨j,e,q1,q2,q⟩:=q1
 subst e
 cases r1 with
 | cons r rr=>
  cases rr
  obtain⟨t,rfl⟩:=r
  exact call_range_1 (sG I1 (by omega) (by omega) q1 q2 (by simpa using q))
theorem xQ {a b:Expr} {ta:TA} {p pos:Pos} (hg:Gl X "range") (hm:X.mg "range"=none) (ha:PA X [a,b] ta) (hs:starEach [a,b] X.env=[(false,eval a X.env),(false,eval b X.env)]:=by rfl) (DF:starEach [b] X.env=[(false,eval b X.env)]:=by rfl):
  PI X tg (.Call (.Name "range" p) [a,b] [] pos) (iRng2 ta):=by
 intro pins s σ H R I h
 refine Call_ (iO I hg hm boot_range (PyProof.Rows.callWith_type1 (cy (ha pos pins s σ H _ I h) λus s1 cU=>?_) (by rw[hs,DF]) (by rw[DF];rfl)))
 obtain⟨vs,H1,I1,r1,q1⟩:=cU
 obtain⟨i,j,e,⟨q1,q2,q3,q4⟩,q⟩:=q1
 subst e
 cases r1 with
 | cons r rr=>
  cases rr with
  | cons r' rr=>
   cases rr
   obtain⟨t,rfl⟩:=r
   obtain⟨t',rfl⟩:=r'
   exact call_range_2 (sG I1 q1 q2 q3 q4 q)
noncomputable def Hu (wi:TI) (g:TG) (tb:TS):TS:=λD σ H=>wi σ H λJ H1=>∃W:Nat->Nat->St->Hp->Prop,(∃m,W 0 m σ H1)/\∀i m σ H,W i m σ H->
 (J.stop i H/\D.nx σ H)\/(J.go i H/\∃N:St->Hp->Prop,(∀σ' H',N σ' H'->∃m',m'<m/\W (i+1) m' σ' H')/\∀x H',J.v7 i H x H'->g x σ H' λσ2 H2=>tb {D with nx:=N,ct:=N,bk:=D.nx} σ2 H2)
noncomputable def mT (fp:List Addr) (h:Heap):List (Addr×Obj):=fp.filterMap λb=>(h.get? b).map λo=>(b,o)
theorem fN {fp:List Addr} {h:Heap} {b:Addr} {o:Obj} (hb:b∈fp) (e:h.get? b=some o):(b,o)∈mT fp h:=List.mem_filterMap.mpr ⟨b,hb,by rw[e];rfl⟩
theorem xR {fp:List Addr} {h:Heap} {p:Addr×Obj} (hp:p∈mT fp h):p.1∈fp/\h.get? p.1=some p.2:=by
 obtain⟨b,hb,e⟩:=List.mem_filterMap.mp hp
 cases q:h.get? b with
 | none=>rw[q] at e;cases e
 | some o=>
  rw[q] at e
  have e':(b,o)=p:=aax e
  subst e'
  exact⟨hb,q⟩
theorem Inv.pinned {pins:List (Addr×Obj)} {σ:St} {H:Hp} {s:Shared} {fp:List Addr} (I:Inv X pins σ H s) (hf:∀b∈fp,iw X pins H b) (ho:∀b∈fp,∃o,s.heap.get? b=some o/\∀v,o.data≠.cell v):Inv X (pins++mT fp s.heap) σ H s:=
 I.jm λp hp=>(List.mem_append.mp hp).elim (λz=>I.pin p (aaJ _ z)) λz=>by
  obtain⟨hb,e⟩:=xR z
  obtain⟨f0,f1,f2,_⟩:=hf p.1 hb
  obtain⟨o,e',d⟩:=ho p.1 hb
  rw[e] at e';cases e'
  exact⟨e,f0,f1,f2,d⟩
theorem Inv.mU {pins pl:List (Addr×Obj)} {σ:St} {H:Hp} {s:Shared} (I:Inv X (pins++pl) σ H s):Inv X pins σ H s:=I.jm λp hp=>I.pin p (aaJ _ (abr _ hp))
theorem bY {iter:Expr} {body:List Stmt} {wi:TI} {g:TG} {tb:TS} {pos:Pos} (hp:PassesOwn (model X.prog X.w) X.A X.env X.xe) (hc:X.calm=true) (hi:PI X tg iter wi) (hg:PG X tg g) (hb:uJ X body tb)
  (hs:∀x,foldedSetIterable iter X.env x=pure x:=by intro _;rfl):PS X (.For tg iter body [] pos) (Hu wi g tb):=by
 intro pins s σ H D I h
 refine wpAny_For (cy (hi pins s σ H _ I h) λv s1 h1=>cy h1 λDD s2 h2=>?_) hs
 obtain⟨it,fp,tn,J,H2,e,I2,T,uN,f2,W,⟨m0,w0⟩,turn⟩:=h2
 subst e
 have uO:∀{H':Hp},(∀b∈fp,H' b=none)->∀b∈fp,iw X pins H' b:=λhn b hb=>⟨hn b hb,(f2 b hb).2⟩
 refine codeAny_forLoop_any (λn s'=>∃i σ' H',Inv X pins σ' H' s'/\tn i s'.heap/\(∀b∈fp,H' b=none)/\W i n σ' H') ?_ m0 ⟨0,σ,H2,I2,uN,λb hb=>(f2 b hb).1,w0⟩
 rintro n s3 ⟨i,σ3,H3,I3,Uy,Uz,w3⟩
 rcases turn i n σ3 H3 w3 with ⟨stop,qn⟩ | ⟨go,N,hN,step⟩
 ·refine wpAny_passesOwn hp (cy (T.done X rfl rfl rfl hc i pins s3 σ3 H3 X.xe I3 (uO Uz) Uy stop) λr s4 ⟨hr,I4⟩=>?_)
  subst hr
  exact wpAny_execs_nil ⟨σ3,H3,I4,qn⟩
 ·refine wpAny_passesOwn hp (cy (T.item X rfl rfl rfl hc i pins s3 σ3 H3 X.xe I3 (uO Uz) Uy go) λr s4 ⟨u,hr,h4⟩=>?_)
  subst hr
  refine wpAny_passesOwn hp (cy h4 λ_ s5 cU=>?_)
  obtain⟨x,H5,I5,r5,y5,LO,WB⟩:=cU
  have WC:=I5.pinned (uO WB) (T.obj _ _ LO)
  refine wpAny_passesOwn hp (cy (hg _ s5 σ3 H5 x u _ WC r5 (step x H5 y5)) λ_ s6 ⟨σ6,H6,I6,q6⟩=>?_)
  refine wpAny_passesOwn hp (cy (hb _ s6 σ6 H6 _ I6 q6) λf s7 q7=>?_)
  have again:∀{σ7:St} {H7:Hp},Inv X (pins++mT fp s5.heap) σ7 H7 s7->N σ7 H7->∃m,m<n/\∃i σ' H',Inv X pins σ' H' s7/\tn i s7.heap/\(∀b∈fp,H' b=none)/\W i m σ' H':=λ{σ7 H7} I7 n7=>by
   obtain⟨m',hm,w7⟩:=hN σ7 H7 n7
   refine⟨m',hm,i+1,σ7,H7,I7.mU,T.keep _ _ _ LO λb hb o e=>(I7.pin (b,o) (aaJ _ (aaJ _ (fN hb e)))).1,λb hb=>?_,w7⟩
   obtain⟨o,e,d⟩:=T.obj _ _ LO b hb
   exact(I7.pin (b,o) (aaJ _ (aaJ _ (fN hb e)))).2.1
  cases f with
  | next=>obtain⟨σ7,H7,I7,n7⟩:=q7;exact again I7 n7
  | cont=>obtain⟨σ7,H7,I7,n7⟩:=q7;exact again I7 n7
  | brk=>obtain⟨σ7,H7,I7,q7⟩:=q7;exact⟨σ7,H7,I7.mU,q7⟩
  | ret v=>obtain⟨x7,σ7,H7,I7,r7,q7⟩:=q7;exact⟨x7,σ7,H7,I7.mU,r7,q7⟩
end
theorem sI {c:TT} {tb:TS} {D:Ends} {σ:St} {H:Hp} (Pv:St->Hp->Prop) (μ:St->Hp->Nat) (h0:Pv σ H)
  (hs:∀σ H,Pv σ H->c σ H λb H1=>if b=true then tb {D with nx:=λσ' H'=>Pv σ' H'/\μ σ' H'<μ σ H,ct:=λσ' H'=>Pv σ' H'/\μ σ' H'<μ σ H,bk:=D.nx} σ H1 else D.nx σ H1)
  (mono:∀σ H Q Q',(∀b H1,Q b H1->Q' b H1)->c σ H Q->c σ H Q'):qA c tb D σ H:=by
 refine⟨λm σ H=>m=μ σ H/\Pv σ H,⟨_,rfl,h0⟩,?_⟩
 rintro m σ H ⟨rfl,p⟩
 refine mono σ H _ _ (λb H1 q=>?_) (hs σ H p)
 cases b with
 | true=>exact⟨_,λσ' H' ⟨p',l⟩=>⟨_,l,rfl,p'⟩,q⟩
 | false=>exact q
end L2
namespace L2
open PySem PySem.Spec PyProof.Rows
abbrev R2:=V->V->Hp->VK->Prop
noncomputable def md (X:Cx) (f:Value->Value->Sem Value) (r:R2):Prop:=
 ∀(pins:List (Addr×Obj)) (s:Shared) (σ:St) (H:Hp) (x y:V) (v u:Value) (Q:VK),Inv X pins σ H s->RelV x v->RelV y u->r x y H Q->
  wpAny (model X.prog X.w) X.A (f v u) (EP X pins σ Q) X.xe s
noncomputable def KI (X:Cx) (f:Value->Sem Value) (r:V->Hp->VK->Prop):Prop:=
 ∀(pins:List (Addr×Obj)) (s:Shared) (σ:St) (H:Hp) (x:V) (v:Value) (Q:VK),Inv X pins σ H s->RelV x v->r x H Q->
  wpAny (model X.prog X.w) X.A (f v) (EP X pins σ Q) X.xe s
noncomputable def cY (X:Cx) (f:Value) (r:List V->Hp->VK->Prop):Prop:=
 ∀(pins:List (Addr×Obj)) (s:Shared) (σ:St) (H:Hp) (xs:List V) (us:List Value) (Q:VK),Inv X pins σ H s->bu xs us->r xs H Q->
  wpAny (model X.prog X.w) X.A (call f us) (EP X pins σ Q) X.xe s
noncomputable def tOp (r:R2) (ta tb:TE):TE:=λσ H Q=>ta σ H λx H1=>tb σ H1 λy H2=>r x y H2 Q
noncomputable def tUn (r:V->Hp->VK->Prop) (ta:TE):TE:=λσ H Q=>ta σ H λx H1=>r x H1 Q
noncomputable def rI (C:Int->Int->Prop) (g:Int->Int->V):R2:=λx y H Q=>∃i j,x=.int i/\y=.int j/\C i j/\Q (g i j) H
noncomputable def rI0 (g:Int->Int->V):R2:=λx y H Q=>∃i j,x=.int i/\y=.int j/\Q (g i j) H
noncomputable def rU (g:Int->V):V->Hp->VK->Prop:=λx H Q=>∃i,x=.int i/\Q (g i) H
section
variable {X : Cx} {a b c : Expr} {ta tb tc : TE} {pos : Pos}
theorem EB (ha:PE X a ta) (hb:PE X b tb) {pins:List (Addr×Obj)} {s:Shared} {σ:St} {H:Hp} {R:V->V->Hp->Prop} (I:Inv X pins σ H s)
  (h:ta σ H λx H1=>tb σ H1 λy H2=>R x y H2) {Q:Value->Shared->Prop} {f:Value->Value->Sem Value}
  (hf:∀v u s2 x y H2,Inv X pins σ H2 s2->RelV x v->RelV y u->R x y H2->wpAny (model X.prog X.w) X.A (f v u) Q X.xe s2):
  wpAny (model X.prog X.w) X.A (eval a X.env) (λv s₁=>wpAny (model X.prog X.w) X.A (eval b X.env) (λu s₂=>wpAny (model X.prog X.w) X.A (f v u) Q X.xe s₂) X.xe s₁) X.xe s:=by
 refine cy (ha pins s σ H _ I h) λv s1 cU=>?_
 obtain⟨x,H1,I1,r1,q1⟩:=cU
 refine cy (hb pins s1 σ H1 _ I1 q1) λu s2 cU=>?_
 obtain⟨y,H2,I2,r2,q2⟩:=cU
 exact hf v u s2 x y H2 I2 r1 r2 q2
theorem aE {op:Operator} {r:R2} (ho:md X (binaryOp op) r) (ha:PE X a ta) (hb:PE X b tb):PE X (.BinOp a op b pos) (tOp r ta tb):=by
 intro pins s σ H Q I h
 exact wpAny_BinOp (EB ha hb I h λv u s2 x y H2 I2 rx ry q=>ho pins s2 σ H2 x y v u Q I2 rx ry q)
theorem yR {op:UnaryOp} {r:V->Hp->VK->Prop} (ho:KI X (unaryOp op) r) (ha:PE X a ta):PE X (.UnaryOp op a pos) (tUn r ta):=by
 intro pins s σ H Q I h
 exact UnaryOp_ (cy (ha pins s σ H _ I h) λv s1 ⟨x,H1,I1,r1,q1⟩=>ho pins s1 σ H1 x v Q I1 r1 q1)
theorem Hv {f:Value->Value->Sem Value} {C:Int->Int->Prop} {g:Int->Int->Int}
  (rule:∀(i j:Int) (t u:Tok) (s:Shared) (Q:Value->Shared->Prop) (E:Value->Shared->Prop),C i j->Q (.int (g i j) s.toks) {s with toks:=s.toks+1}->wpAny (model X.prog X.w) X.A (f (.int i t) (.int j u)) Q E s):
  md X f (rI C λi j=>.int (g i j)):=by
 intro pins s σ H x y v u Q I rx ry h
 obtain⟨i,j,rfl,rfl,hc,q⟩:=h
 obtain⟨t,rfl⟩:=rx
 obtain⟨t',rfl⟩:=ry
 exact rule i j t t' s _ _ hc ⟨.int (g i j),H,I.tok _,⟨_,rfl⟩,q⟩
theorem Hw {f:Value->Value->Sem Value} {g:Int->Int->Int}
  (rule:∀(i j:Int) (t u:Tok) (s:Shared) (Q:Value->Shared->Prop) (E:Value->Shared->Prop),Q (.int (g i j) s.toks) {s with toks:=s.toks+1}->wpAny (model X.prog X.w) X.A (f (.int i t) (.int j u)) Q E s):
  md X f (rI0 λi j=>.int (g i j)):=by
 intro pins s σ H x y v u Q I rx ry h
 obtain⟨i,j,rfl,rfl,q⟩:=h
 obtain⟨t,rfl⟩:=rx
 obtain⟨t',rfl⟩:=ry
 exact rule i j t t' s _ _ ⟨.int (g i j),H,I.tok _,⟨_,rfl⟩,q⟩
theorem Hx {f:Value->Value->Sem Value} {g:Int->Int->Bool}
  (rule:∀(i j:Int) (t u:Tok) (s:Shared) (Q:Value->Shared->Prop) (E:Value->Shared->Prop),Q (.bool (g i j)) s->wpAny (model X.prog X.w) X.A (f (.int i t) (.int j u)) Q E s):
  md X f (rI0 λi j=>.bl (g i j)):=by
 intro pins s σ H x y v u Q I rx ry h
 obtain⟨i,j,rfl,rfl,q⟩:=h
 obtain⟨t,rfl⟩:=rx
 obtain⟨t',rfl⟩:=ry
 exact rule i j t t' s _ _ ⟨.bl (g i j),H,I,rfl,q⟩
noncomputable def CPow (i j:Int):Prop:=0<=j/\j<=1000000/\i.natAbs<2^64
theorem br:md X (binaryOp .Add) (rI0 λi j=>.int (i+j)):=Hw λ_ _ _ _ _ _ _ q=>add_int q
theorem mV:md X (binaryOp .Sub) (rI0 λi j=>.int (i - j)):=Hw λ_ _ _ _ _ _ _ q=>sub_int q
theorem EC:md X (binaryOp .Mod) (rI (λ_ j=>0<j) λi j=>.int (i % j)):=Hv λi j _ _ _ _ _ hc q=>by
 have h1:(0:Int)<j:=hc
 exact mod_int' (by omega) (by rw[Int.fmod_eq_emod_of_nonneg i (by omega)];exact q)
theorem iP:md X (binaryOp .Pow) (rI CPow λi j=>.int (i^j.toNat)):=Hv λ_ _ _ _ _ _ _ hc q=>pow_int_small hc.1 hc.2.1 hc.2.2 q
theorem WD {f:Value->Sem Value} {g:Int->Int}
  (rule:∀(i:Int) (t:Tok) (s:Shared) (Q:Value->Shared->Prop) (E:Value->Shared->Prop),Q (.int (g i) s.toks) {s with toks:=s.toks+1}->wpAny (model X.prog X.w) X.A (f (.int i t)) Q E s):
  KI X f (rU λi=>.int (g i)):=by
 intro pins s σ H x v Q I rx h
 obtain⟨i,rfl,q⟩:=h
 obtain⟨t,rfl⟩:=rx
 exact rule i t s _ _ ⟨.int (g i),H,I.tok _,⟨_,rfl⟩,q⟩
theorem uP:KI X (unaryOp .USub) (rU λi=>.int (-i)):=WD λ_ _ _ _ _ q=>neg_int q
end
noncomputable def uQ:V->V->Bool
 | .cB,.cB=>true | .cB,.int _=>true | .int _,.cB=>true | .cB,.bl _=>true | .bl _,.cB=>true | .cB,.str _=>true | .str _,.cB=>true
 | .int _,.int _=>true | .bl _,.bl _=>true | .str _,.str _=>true | .yE _,.yE _=>true
 | .int _,.str _=>true | .str _,.int _=>true | .bl _,.str _=>true | .str _,.bl _=>true
 | _,_=>false
noncomputable def rEq:R2:=λx y H Q=>uQ x y=true/\Q (.bl (decide (x=y))) H
noncomputable def rNe:R2:=λx y H Q=>uQ x y=true/\Q (.bl (!decide (x=y))) H
theorem v8 {i j:Int}:decide (V.int i=V.int j)=(i==j):=by
 rw[Bool.eq_iff_iff]
 simp
theorem yS {i j:Bool}:decide (V.bl i=V.bl j)=(i==j):=by
 rw[Bool.eq_iff_iff]
 simp
theorem v9 {i j:Str}:decide (V.str i=V.str j)=(i==j):=by
 rw[Bool.eq_iff_iff]
 simp
theorem wa {i j:Array UInt8}:decide (V.yE i=V.yE j)=(i.toList==j.toList):=by
 rw[Bool.eq_iff_iff]
 cases i
 cases j
 simp
section
variable {X : Cx} {a b c : Expr} {ta tb tc : TE} {pos : Pos}
theorem bH {pins:List (Addr×Obj)} {σ:St} {H:Hp} {s:Shared} {Q:VK} {k k':Bool} (I:Inv X pins σ H s) (q:Q (.bl k) H) (e:k=k'):EP X pins σ Q (.bool k') s:=by
 subst e
 exact⟨.bl k,H,I,rfl,q⟩
theorem cK:md X (compareOp .Eq) rEq:=by
 intro pins s σ H x y v u Q I rx ry h
 obtain⟨hs,q⟩:=h
 cases x with
 | cB=>
  cases rx
  cases y with
  | cB=>cases ry;exact PySem.EqNone.eq_none_none (bH I q (by simp))
  | bl j=>cases ry;exact PySem.EqNone.eq_none_bool (bH I q (by simp))
  | int j=>obtain⟨t',rfl⟩:=ry;exact PySem.EqNone.eq_none_int (bH I q (by simp))
  | str j=>obtain⟨t',rfl⟩:=ry;exact PySem.EqNone.eq_none_str (bH I q (by simp))
  | _=>exact absurd (show false=true from hs) aay
 | bl i=>
  cases rx
  cases y with
  | cB=>cases ry;exact PySem.EqNone.eq_bool_none (bH I q (by simp))
  | bl j=>cases ry;exact eq_bool (bH I q yS)
  | str j=>obtain⟨t',rfl⟩:=ry;exact PySem.EqMixed.eq_bool_str (bH I q (by simp))
  | _=>exact absurd (show false=true from hs) aay
 | int i=>
  obtain⟨t,rfl⟩:=rx
  cases y with
  | cB=>cases ry;exact PySem.EqNone.eq_int_none (bH I q (by simp))
  | int j=>obtain⟨t',rfl⟩:=ry;exact eq_int (bH I q v8)
  | str j=>obtain⟨t',rfl⟩:=ry;exact PySem.EqMixed.eq_int_str (bH I q (by simp))
  | _=>exact absurd (show false=true from hs) aay
 | str i=>
  obtain⟨t,rfl⟩:=rx
  cases y with
  | cB=>cases ry;exact PySem.EqNone.eq_str_none (bH I q (by simp))
  | bl j=>cases ry;exact PySem.EqMixed.eq_str_bool (bH I q (by simp))
  | int j=>obtain⟨t',rfl⟩:=ry;exact PySem.EqMixed.eq_str_int (bH I q (by simp))
  | str j=>obtain⟨t',rfl⟩:=ry;exact eq_str (bH I q v9)
  | _=>exact absurd (show false=true from hs) aay
 | yE i=>
  obtain⟨t,rfl⟩:=rx
  cases y with
  | yE j=>obtain⟨t',rfl⟩:=ry;exact PySem.W.eq_bytes (bH I q wa)
  | _=>exact absurd (show false=true from hs) aay
 | _=>cases y <;>exact absurd (show false=true from hs) aay
theorem sJ:md X (compareOp .NotEq) rNe:=by
 intro pins s σ H x y v u Q I rx ry h
 obtain⟨hs,q⟩:=h
 cases x with
 | cB=>
  cases rx
  cases y with
  | cB=>cases ry;exact PySem.EqNone.ne_none_none (bH I q (by simp))
  | bl j=>cases ry;exact PySem.EqNone.ne_none_bool (bH I q (by simp))
  | int j=>obtain⟨t',rfl⟩:=ry;exact PySem.EqNone.ne_none_int (bH I q (by simp))
  | str j=>obtain⟨t',rfl⟩:=ry;exact PySem.EqNone.ne_none_str (bH I q (by simp))
  | _=>exact absurd (show false=true from hs) aay
 | bl i=>
  cases rx
  cases y with
  | cB=>cases ry;exact PySem.EqNone.ne_bool_none (bH I q (by simp))
  | bl j=>cases ry;exact ne_bool (bH I q (congrArg not yS))
  | str j=>obtain⟨t',rfl⟩:=ry;exact PySem.EqMixed.ne_bool_str (bH I q (by simp))
  | _=>exact absurd (show false=true from hs) aay
 | int i=>
  obtain⟨t,rfl⟩:=rx
  cases y with
  | cB=>cases ry;exact PySem.EqNone.ne_int_none (bH I q (by simp))
  | int j=>obtain⟨t',rfl⟩:=ry;exact ne_int (bH I q (congrArg not v8))
  | str j=>obtain⟨t',rfl⟩:=ry;exact PySem.EqMixed.ne_int_str (bH I q (by simp))
  | _=>exact absurd (show false=true from hs) aay
 | str i=>
  obtain⟨t,rfl⟩:=rx
  cases y with
  | cB=>cases ry;exact PySem.EqNone.ne_str_none (bH I q (by simp))
  | bl j=>cases ry;exact PySem.EqMixed.ne_str_bool (bH I q (by simp))
  | int j=>obtain⟨t',rfl⟩:=ry;exact PySem.EqMixed.ne_str_int (bH I q (by simp))
  | str j=>obtain⟨t',rfl⟩:=ry;exact ne_str (bH I q (congrArg not v9))
  | _=>exact absurd (show false=true from hs) aay
 | yE i=>
  obtain⟨t,rfl⟩:=rx
  cases y with
  | yE j=>obtain⟨t',rfl⟩:=ry;exact PySem.W.ne_bytes (bH I q (congrArg not wa))
  | _=>exact absurd (show false=true from hs) aay
 | _=>cases y <;>exact absurd (show false=true from hs) aay
theorem mW:md X (compareOp .Lt) (rI0 λi j=>.bl (decide (i<j))):=Hx λ_ _ _ _ _ _ _ q=>lt_int q
theorem kr:md X (compareOp .Gt) (rI0 λi j=>.bl (decide (j<i))):=Hx λ_ _ _ _ _ _ _ q=>gt_int q
theorem uR:md X (compareOp .Is) (λx y H Q=>y=.cB/\Q (.bl (decide (x=.cB))) H):=by
 intro pins s σ H x y v u Q I rx ry h
 obtain⟨rfl,q⟩:=h
 cases ry
 refine is_none_gen (bH I q ?_)
 cases x <;>first
  | (cases rx;rfl)
  | (obtain⟨t,rfl⟩:=rx;rfl)
theorem BX:md X (compareOp .IsNot) (λx y H Q=>y=.cB/\Q (.bl (!decide (x=.cB))) H):=by
 intro pins s σ H x y v u Q I rx ry h
 obtain⟨rfl,q⟩:=h
 cases ry
 refine isnot_none_gen (bH I q ?_)
 cases x <;>first
  | (cases rx;rfl)
  | (obtain⟨t,rfl⟩:=rx;rfl)
theorem aX (b:Expr) {op:CmpOp} (h:op≠.In:=by decide) (h2:op≠.NotIn:=by decide):behindInMarks op b=false:=by
 have e1:(op==CmpOp.In)=false:=by cases op <;>first | rfl | exact absurd rfl h
 have e2:(op==CmpOp.NotIn)=false:=by cases op <;>first | rfl | exact absurd rfl h2
 cases b <;>simp [behindInMarks,e1,e2]
theorem qB {op:CmpOp} {r:R2} (ho:md X (compareOp op) r) (ha:PE X a ta) (hb:PE X b tb) (hm:behindInMarks op b=false):PE X (.Compare a [op] [b] pos) (tOp r ta tb):=by
 intro pins s σ H Q I h
 exact wpAny_Compare1 (EB ha hb I h λv u s2 x y H2 I2 rx ry q=>ho pins s2 σ H2 x y v u Q I2 rx ry q) hm
noncomputable def tTest (t:TE):TT:=λσ H Q=>t σ H λx H'=>∃k,x=.bl k/\Q k H'
theorem aR {op:CmpOp} {r:R2} (ho:md X (compareOp op) r) (ha:PE X a ta) (hb:PE X b tb) (hm:behindInMarks op b=false):PT X (.Compare a [op] [b] pos) (tTest (tOp r ta tb)):=by
 intro pins s σ H Q I h
 refine wpAny_isTrue_Compare1 (cy (ha pins s σ H _ I h) λv s1 ⟨x,H1,I1,r1,q1⟩=>cy (hb pins s1 σ H1 _ I1 q1) λu s2 ⟨y,H2,I2,r2,q2⟩=>
  cy (ho pins s2 σ H2 x y v u _ I2 r1 r2 q2) λc s3 ⟨z,H3,I3,r3,k,e,q3⟩=>?_) hm
 subst e
 cases r3
 exact wpAny_truthy_bool ⟨H3,I3,q3⟩
noncomputable def tChain (r r':R2) (ta tb tc:TE):TE:=λσ H Q=>ta σ H λx H1=>tb σ H1 λy H2=>r x y H2 λz H3=>∃k,z=.bl k/\
 (if k=true then tc σ H3 λw' H4=>r' y w' H4 Q else Q (.bl false) H3)
theorem mX:(sizeLine:Nat)<2^63:=by rw[sizeLine_eq];decide
theorem vals1 {x:V} {us:List Value} (r:bu [x] us):∃u,us=[u]/\RelV x u:=by
 cases r with
 | cons r1 r2=>cases r2;exact⟨_,rfl,r1⟩
theorem vals2 {x y:V} {us:List Value} (r:bu [x,y] us):∃u w',us=[u,w']/\RelV x u/\RelV y w':=by
 cases r with
 | cons r1 r2=>
  cases r2 with
  | cons r3 r4=>cases r4;exact⟨_,_,rfl,r1,r3⟩
theorem mY:cY X (.builtin "abs") (λxs H Q=>∃i,xs=[.int i]/\Q (.int (if i<0 then -i else i)) H):=by
 intro pins s σ H xs us Q I r h
 obtain⟨i,rfl,q⟩:=h
 obtain⟨u,rfl,t,rfl⟩:=vals1 r
 exact call_abs_int λu tk=>⟨.int (if i<0 then -i else i),H,I.tok _,⟨_,rfl⟩,q⟩
end
end L2
namespace L2
open PySem PySem.Spec PyProof.Rows
structure uS (h:Heap) (x dx C:Addr) (mA:Str->Option Value):Prop where
 obj:h.get? x=some (PySem.W.instObj C dx)
 ns:h.Ns1 dx mA
 ne:dx≠x
set_option tactic.hygienic true in
theorem xS {h:Heap} {dx:Addr} {mA:Str->Option Value} (n:h.Ns1 dx mA):∃od,h.get? dx=some od/\∀name,PySem.W.lookIn name od=some (mA name):=by
 obtain⟨o,es,ep,ho,hd,hk,_,hm⟩:=n
 refine⟨o,ho,λname=>?_⟩
 have e:=hm name
 unfold nsFind findBy at e
 rw[<-Array.find?_toList] at e
 unfold PySem.W.lookIn
 rw[hd]
 dsimp only
 split
 ·rename_i y q
  rw[q] at e
  exact congrArg some e
 ·rename_i q
  rw[q] at e
  have a:es.toList.any (·.refKey)=false:=by
   rw[List.any_eq_false]
   intro y hy
   obtain⟨z,t,LP⟩:=hk y (Array.mem_toList_iff.mp hy)
   simp [DictEntry.refKey,LP]
  have a':¬es.toList.any (·.refKey)=true:=by rw[a];exact aay
  rw[if_neg a']
  exact congrArg some e
theorem uS.look {h:Heap} {x dx C:Addr} {mA:Str->Option Value} (I:uS h x dx C mA):∃od,PySem.W.InstAt h x (PySem.W.instObj C dx) C (some od)/\∀name,PySem.W.lookIn name od=some (mA name):=
 let ⟨od,ho,hl⟩:=xS I.ns
 ⟨od,⟨I.obj,rfl,rfl,ho⟩,hl⟩
section
variable {prog : Program} {w : World} {A : Around} {E : Value -> Shared -> Prop} {s : Shared} {K : PySem.W.Frag} {x dx C f : Addr} {mA : Str -> Option Value} {name : Str} {v : Value}
theorem get_map {expr:Bool} {Q:Value->Shared->Prop} (X:K.In s.heap) (I:uS s.heap x dx C mA) (hg:PySem.W.plainGet K C name=true) (hh:PySem.W.hasDictIn K C=true)
  (ha:PySem.W.findIn K (.ref C) name=some none) (hv:mA name=some v) (ED:PySem.W.handedIn v=true) (h:Q v {s with toks:=s.toks+1}):
  wpAny (model prog w) A (getAttr (.ref x) name expr) Q E s:=by
 obtain⟨od,J,hl⟩:=I.look
 exact PySem.W.get_value X J (PySem.W.plainGet_of hg).1 (PySem.W.findObj_own hh ha rfl (by rw[hl,hv])) ED h
theorem yT {pl:Sem Bool} {Q:Value×List Value->Shared->Prop} (X:K.In s.heap) (I:uS s.heap x dx C mA) (hg:PySem.W.plainGet K C name=true)
  (hf:PySem.W.findIn K (.ref C) name=some (some (.ref f))) (ht:PySem.W.isFn K (.ref f)=true) (hv:mA name=none) (h:Q (.ref f,[.ref x]) s):
  wpAny (model prog w) A (getMethod (.ref x) name pl) Q E s:=by
 obtain⟨od,J,hl⟩:=I.look
 exact PySem.W.method_fn X J (PySem.W.plainGet_of hg).1 (PySem.W.plainGet_of hg).2 hf (beq_iff_eq.mp ht) (by show(PySem.W.lookIn name od).map (·.isSome)=some false;rw[hl,hv];rfl) h
theorem BY {ns:List Str} {Q:Unit->Shared->Prop} (X:K.In s.heap) (I:uS s.heap x dx C mA)
  (hs:PySem.W.findIn K (.ref C) "__setattr__"=some (some (.builtin "object.__setattr__"))) (hp:PySem.W.plainOver K C=true) (ht:PySem.W.takerIn K C name=some none) (hh:PySem.W.hasDictIn K C=true)
  (hw:PySem.Within mA ns) (hsz:ns.length<=sizeLine)
  (h:∀h',uS h' x dx C (λy=>if y=name then some v else mA y)->Heap.SameBut dx s.heap h'->Q () {s with heap:=h',toks:=s.toks+2}):
  wpAny (model prog w) A (setAttr (.ref x) name v) Q E s:=by
 obtain⟨od,J,hl⟩:=I.look
 refine PySem.W.set_plain X J hs (PySem.W.osa_open (s:={s with toks:=s.toks+1}) (r:=none) X J hp ht λb=>?_)
 obtain⟨cd,hc,Hq⟩:=PySem.W.any_some hh
 have hx:s.heap.get? x=some ⟨.ref C,some dx,.plain,#[]⟩:=I.obj
 refine wpAny_bind (wpAny_pure (wpAny_bind (wpAny_bind (wpAny_loadPart hx (wpAny_bind (PySem.W.Looks.here (s:={s with toks:=s.toks+1}) (PySem.W.looks_clsIn X hc) ?_))))))
 rw[Hq]
 refine wpAny_pure (a:=some dx) (wpAny_bind (wpAny_pure (wpAny_bind ?_)))
 refine wpAny_nsSet1 (s:={s with toks:=s.toks+1}) I.ns λh' KJ DF=>?_
 obtain⟨oD,esD,epD,WG,WH,WI⟩:=KJ.count (PySem.Within.cons name v hw)
 refine wpAny_bind (wpAny_lookBehind WG (by rw[WH];exact pastItsLine_dict (aap WI (by rw[aaq];omega))) ?_)
 exact wpAny_pure (h _ ⟨(DF.2 _ (Ne.symm I.ne)).trans I.obj,KJ,I.ne⟩ DF)
theorem yU {R:Result->Shared->Prop} {vs:List Value} {kw:List (Str×Value)} (X:K.In s.heap) (hm:PySem.W.makesIn K C=true)
  (hi:PySem.W.findIn K (.ref C) "__init__"=some (some (.ref f))) (hf:PySem.W.typeIn K (.ref f)=some (.type "function"))
  (h:codeAny (model prog w) (A.under (.builtin "type.__call__" ⟨.ref C::vs,kw⟩)) (.call (.ref f) ⟨.ref (s.heap.objs.size+1)::vs,kw⟩) (PySem.W.InitBack (s.heap.objs.size+1) R)
   {s with heap:=(s.heap.push PySem.W.emptyDict).push (PySem.W.instObj C s.heap.objs.size)}):
  codeAny (model prog w) A (.call (.ref C) ⟨vs,kw⟩) R s:=by
 obtain⟨hh,g,d,t,os⟩:=s
 exact PySem.W.make_core (PySem.W.makes_of X hm) (PySem.W.looks_findIn X hi) (λself=>PySem.W.bind_fn X self hf) (.inl rfl) h
end
noncomputable def iy (f:Str) (v:V):List (Str×V)->List (Str×V)
 | []=>[(f,v)]
 | (g,x)::r=>if g=f then (g,v)::r else (g,x)::iy f v r
theorem kA (f g:Str) (v:V):∀fs:List (Str×V),(iy f v fs).lookup g=if g=f then some v else fs.lookup g
 | []=>by
  show List.lookup g [(f,v)]=_
  by_cases h:g=f
  ·have hb:(g==f)=true:=beq_iff_eq.mpr h
   simp only[List.lookup,hb,if_pos h]
  ·have hb:(g==f)=false:=beq_eq_false_iff_ne.mpr h
   simp only[List.lookup,hb,if_neg h]
 | (k,x)::r=>by
  have ih:=kA f g v r
  rw[show iy f v ((k,x)::r)=(if k=f then (k,v)::r else (k,x)::iy f v r) from rfl]
  by_cases hk:k=f
  ·rw[if_pos hk]
   by_cases h:g=k
   ·have hb:(g==k)=true:=beq_iff_eq.mpr h
    simp only[List.lookup,hb,if_pos (h.trans hk)]
   ·have hb:(g==k)=false:=beq_eq_false_iff_ne.mpr h
    simp only[List.lookup,hb,if_neg (λe:g=f=>h (e.trans hk.symm))]
  ·rw[if_neg hk]
   by_cases h:g=k
   ·have hb:(g==k)=true:=beq_iff_eq.mpr h
    simp only[List.lookup,hb,if_neg (λe:g=f=>hk (h.symm.trans e))]
   ·have hb:(g==k)=false:=beq_eq_false_iff_ne.mpr h
    simp only[List.lookup,hb]
    exact ih
theorem jR (f:Str) (v:V):∀fs:List (Str×V),f∈(iy f v fs).map (·.1)/\∀g,g∈fs.map (·.1)->g∈(iy f v fs).map (·.1)
 | []=>⟨by simp [iy],λg h=>by simp at h⟩
 | (k,x)::r=>by
  obtain⟨i1,i2⟩:=jR f v r
  rw[show iy f v ((k,x)::r)=(if k=f then (k,v)::r else (k,x)::iy f v r) from rfl]
  by_cases hk:k=f
  ·rw[if_pos hk]
   subst hk
   exact⟨by simp,λg h=>by simpa using h⟩
  ·rw[if_neg hk]
   refine⟨?_,λg h=>?_⟩
   ·rw[aav]
    exact aak _ i1
   ·rw[aav] at h ⊢
    rcases List.mem_cons.mp h with e | e
    ·exact List.mem_cons.mpr (.inl e)
    ·exact aak _ (i2 g e)
theorem kB (f:Str) (v:V):∀fs:List (Str×V),(iy f v fs).length<=fs.length+1
 | []=>by simp [iy]
 | (k,x)::r=>by
  have ih:=kB f v r
  rw[show iy f v ((k,x)::r)=(if k=f then (k,v)::r else (k,x)::iy f v r) from rfl]
  by_cases hk:k=f
  ·rw[if_pos hk,aaq,aaq];omega
  ·rw[if_neg hk,aaq,aaq];omega
theorem iu.some_of {v:V} {o:Option Value} (r:iu (some v) o):∃u,o=some u/\RelV v u:=by
 cases o with
 | none=>exact(show False from r).elim
 | some u=>exact⟨u,rfl,r⟩
theorem iu.none_of {o:Option Value} (r:iu none o):o=none:=by
 cases o with
 | none=>rfl
 | some u=>exact(show False from r).elim
theorem xT {v:V} {u:Value} (r:RelV v u):PySem.W.handedIn u=true:=by
 cases v with
 | cB=>cases (show u=Value.none from r);rfl
 | bl b=>cases (show u=Value.bool b from r);rfl
 | int i=>obtain⟨t,e⟩:=(show ∃t,u=Value.int i t from r);cases e;rfl
 | str x=>obtain⟨t,e⟩:=(show ∃t,u=Value.str x t from r);cases e;rfl
 | yE b=>obtain⟨t,e⟩:=(show ∃t,u=Value.bytes b t from r);cases e;rfl
 | GO b=>obtain⟨t,e⟩:=(show ∃t,u=Value.float b t from r);cases e;rfl
 | ref a=>cases (show u=Value.ref a from r);rfl
 | ty n=>cases (show u=Value.type n from r);rfl
section
variable {P : Program} {w : World} {H H' : Hp} {h h' : Heap} {a C dx : Addr} {fs Wt : List (Str × V)}
theorem qC (bW:gz P w H h) (e:H a=some (.ins C dx fs)):∃mA,uS h a dx C mA/\(∀f,iu (fs.lookup f) (mA f))/\PySem.Within mA (fs.map (·.1))/\fs.length<=1000/\H dx=some (.own a):=by
 obtain⟨d,z,ne,ob,mA,n,r,q⟩:=(show cG P w H h a (.ins C dx fs) from bW a _ e)
 exact⟨mA,⟨ob,n,ne⟩,r,q,z,d⟩
end
structure xU (K:PySem.W.Frag) (C:Addr):Prop where
 pg:PySem.W.plainGet K C Str.empty=true
 hd:PySem.W.hasDictIn K C=true
 po:PySem.W.plainOver K C=true
 sa:PySem.W.findIn K (.ref C) "__setattr__"=some (some (.builtin "object.__setattr__"))
theorem xU.get {K:PySem.W.Frag} {C:Addr} (c:xU K C) (f:Str):PySem.W.plainGet K C f=true:=c.pg
noncomputable def jS (K:PySem.W.Frag) (C:Addr) (f:Str):Prop:=PySem.W.findIn K (.ref C) f=some none
theorem jS.Hy {K:PySem.W.Frag} {C:Addr} {f:Str} (n:jS K C f):PySem.W.takerIn K C f=some none:=by
 unfold PySem.W.takerIn
 rw[show PySem.W.findIn K (.ref C) f=some none from n]
 rfl
structure Con (K:PySem.W.Frag) (C:Addr) (f:Str) (v:V) (u:Value):Prop where
 at_:PySem.W.findIn K (.ref C) f=some (some u)
 rel:RelV v u
 get:PySem.W.specialIn K u "__get__"=some none
 cp:PySem.W.copiedNames.contains f=false
structure yV (K:PySem.W.Frag) (C:Addr) (m:Str) (f:Addr):Prop where
 at_:PySem.W.findIn K (.ref C) m=some (some (.ref f))
 fn:PySem.W.isFn K (.ref f)=true
 kp:PySem.W.keepIn K (.ref f)=true
section
variable {X : Cx} {pins : List (Addr × Obj)} {σ : St} {H : Hp} {s : Shared} {a C dx : Addr} {fs : List (Str × V)} {f : Str} {v : V} {A : Around} {E : Value -> Shared -> Prop}
theorem uT {b:Bool} {Q:Value->Shared->Prop} (I:Inv X pins σ H s) (e:H a=some (.ins C dx fs)) (c:xU X.K C) (n:jS X.K C f) (l:fs.lookup f=some v)
  (h:∀u s',Inv X pins σ H s'->RelV v u->Q u s'):wpAny (model X.prog X.w) A (getAttr (.ref a) f b) Q E s:=by
 obtain⟨mA,O,r,_,_,_⟩:=qC I.bW e
 obtain⟨u,hu,ru⟩:=iu.some_of (v:=v) (o:=mA f) (by rw[<-l];exact r f)
 exact get_map I.v3 O (c.get f) c.hd n hu (xT ru) (h u _ (I.tok _) ru)
theorem mZ {m:Str} {g:Addr} {pl:Sem Bool} {Q:Value×List Value->Shared->Prop} (I:Inv X pins σ H s) (e:H a=some (.ins C dx fs)) (c:xU X.K C) (k:yV X.K C m g) (l:fs.lookup m=none)
  (h:Q (.ref g,[.ref a]) s):wpAny (model X.prog X.w) A (getMethod (.ref a) m pl) Q E s:=by
 obtain⟨mA,O,r,_,_,_⟩:=qC I.bW e
 have hn:mA m=none:=iu.none_of (by rw[<-l];exact r m)
 exact yT I.v3 O (c.get m) k.at_ k.fn hn h
theorem uU {y:V} {u:Value} {Q:Unit->Shared->Prop} (I:Inv X pins σ H s) (e:H a=some (.ins C dx fs)) (c:xU X.K C) (n:jS X.K C f) (hl:fs.length<1000) (ry:RelV y u)
  (h:∀s',Inv X pins σ (upd H a (.ins C dx (iy f y fs))) s'->Q () s'):wpAny (model X.prog X.w) A (setAttr (.ref a) f u) Q E s:=by
 obtain⟨mA,O,r,wi,_,ho⟩:=qC I.bW e
 have hz:(fs.map (·.1)).length<=sizeLine:=by rw[aac,sizeLine_eq];omega
 refine BY I.v3 O c.sa c.po n.Hy c.hd wi hz λh' O' sb=>h _ ?_
 have hd:∃o,h'.get? dx=some o:=let ⟨o,_,_,e',_⟩:=O'.ns;⟨o,e'⟩
 refine I.write (x:=a) (e:=dx) (by rw[e];exact True.intro) (.inr ho) (λb q hb z=>(sb.2 b hb).trans z) hd ?_
 refine⟨by rw[aH O.ne];exact ho,?_,O.ne,O'.obj,_,O'.ns,λg=>?_,λg hg=>?_⟩
 ·have:=kB f y fs;omega
 ·show iu ((iy f y fs).lookup g) (if g=f then some u else mA g)
  rw[kA]
  by_cases q:g=f
  ·rw[if_pos q,if_pos q];exact ry
  ·rw[if_neg q,if_neg q];exact r g
 ·by_cases q:g=f
  ·rw[q];exact(jR f y fs).1
  ·refine(jR f y fs).2 g (wi g λz=>hg ?_)
   show(if g=f then some u else mA g)=none
   rw[if_neg q];exact z
theorem Inv.made (I:Inv X pins σ H s):Inv X pins σ (upd (upd H s.heap.objs.size (.own (s.heap.objs.size+1))) (s.heap.objs.size+1) (.ins C s.heap.objs.size []))
  {s with heap:=(s.heap.push PySem.W.emptyDict).push (PySem.W.instObj C s.heap.objs.size)}:=by
 have e1:(s.heap.push PySem.W.emptyDict).get? s.heap.objs.size=some PySem.W.emptyDict:=Heap.get?_push_size s.heap rfl
 have e2:((s.heap.push PySem.W.emptyDict).push (PySem.W.instObj C s.heap.objs.size)).get? (s.heap.objs.size+1)=some (PySem.W.instObj C s.heap.objs.size):=by
  have:=Heap.get?_push_size (s.heap.push PySem.W.emptyDict) (o:=PySem.W.instObj C s.heap.objs.size) rfl
  rwa [Heap.size_push] at this
 have e3:(s.heap.push PySem.W.emptyDict).Ns s.heap.objs.size (λ_=>none):=⟨PySem.W.emptyDict,#[],_,e1,rfl,(λe he=>absurd he (by simp)),λ_=>rfl⟩
 have I1:=I.laid (a:=s.heap.objs.size) (o:=.own (s.heap.objs.size+1)) (h':=s.heap.push PySem.W.emptyDict) (t':=s.toks) (λb u q=>Heap.get?_push_of_some _ q) (aah _) ⟨_,e1⟩
 refine I1.laid (a:=s.heap.objs.size+1) (o:=.ins C s.heap.objs.size []) (t':=s.toks) (λb u q=>Heap.get?_push_of_some _ q) (Nat.le_of_eq (Heap.size_push _ _)) ?_
 have ne:s.heap.objs.size≠s.heap.objs.size+1:=aan (aaM _)
 refine⟨by rw[aH ne,ar],aar _,ne,e2,λ_=>none,(Heap.Ns1.of_empty e3).at λo q=>Heap.get?_push_of_some _ q,λ_=>True.intro,λy hy=>absurd rfl hy⟩
theorem BZ {prog:Program} {w:World} {env:Env} {e:Expr} {f:Str} {pos:Pos} {s:Shared} {Q:Value->Shared->Prop} (hb:attributeBase e f env (eval e env)=eval e env)
  (h:wpAny (model prog w) A (eval e env) (λo s₁=>wpAny (model prog w) A (getAttr o f true) Q E s₁) E s):wpAny (model prog w) A (eval (.Attribute e f pos) env) Q E s:=
 Attribute_any_ h (by rw[arm_eval_Attribute,hb])
end
noncomputable def kU (K:PySem.W.Frag) (ta:TE) (f:Str):TE:=λσ H Q=>ta σ H λx H1=>∃a C dx fs v,x=.ref a/\H1 a=some (.ins C dx fs)/\xU K C/\jS K C f/\fs.lookup f=some v/\Q v H1
noncomputable def Hz (K:PySem.W.Frag) (ta tv:TE) (f:Str):TS:=λD σ H=>tv σ H λy H1=>ta σ H1 λx H2=>∃a C dx fs,x=.ref a/\H2 a=some (.ins C dx fs)/\xU K C/\jS K C f/\fs.length<1000/\
 D.nx σ (upd H2 a (.ins C dx (iy f y fs)))
section
variable {X : Cx} {o e value : Expr} {f : Str} {pos pos' kT : Pos} {ta tv : TE}
theorem dR (he:PE X e ta) (hb:attributeBase e f X.env (eval e X.env)=eval e X.env):PE X (.Attribute e f pos) (kU X.K ta f):=by
 intro pins s σ H Q I h
 refine BZ hb (cy (he pins s σ H _ I h) λu s1 cU=>?_)
 obtain⟨x,H1,I1,rx,a,C,dx,fs,v,ex,ea,c,n,l,q⟩:=cU
 subst ex
 obtain rfl:u=Value.ref a:=rx
 exact uT I1 ea c n l λu' s2 I2 ru=>⟨v,H1,I2,ru,q⟩
theorem yW (ha:PE X o ta) (hv:PE X value tv) (hs:swapsWith value (some (.Attribute o f pos')) pos.line X.env=pure false):PS X (.Assign [.Attribute o f pos'] value pos) (Hz X.K ta tv f):=by
 intro pins s σ H D I h
 refine plainObj_wpAny_Assign_Attribute (cy (hv pins s σ H _ I h) λu s1 ⟨y,H1,I1,ry,q⟩=>cy (ha pins s1 σ H1 _ I1 q) λov s2 cU=>?_) hs
 obtain⟨x,H2,I2,rx,a,C,dx,fs,ex,ea,c,n,l,q2⟩:=cU
 subst ex
 obtain rfl:ov=Value.ref a:=rx
 exact uU I2 ea c n l ry λs3 I3=>⟨σ,_,I3,q2⟩
end
section
variable {X : Cx} {pins : List (Addr × Obj)} {σ : St} {H : Hp} {s : Shared} {A : Around} {E : Value -> Shared -> Prop} {Q : Value -> Shared -> Prop} {c : Value} {b : Bool}
inductive m4 (K:PySem.W.Frag) (H:Hp):V->Value->Prop where
 | cB:m4 K H .cB (.type "NoneType")
 | bl (x:Bool):m4 K H (.bl x) (.type "bool")
 | int (i:Int):m4 K H (.int i) (.type "int")
 | str (x:Str):m4 K H (.str x) (.type "str")
 | GO (x:UInt64):m4 K H (.GO x) (.type "float")
 | lst {a:Addr} {xs:List V} (e:H a=some (.lst xs)):m4 K H (.ref a) (.type "list")
 | uG {a:Addr} {o:Obj} {xs:List V} (e:H a=some (.uG o (.lst xs))):m4 K H (.ref a) (.type "list")
 | tup {a:Addr} {xs:List V} (e:H a=some (.tup xs)):m4 K H (.ref a) (.type "tuple")
 | dK {a:Addr} {kvs:List (Key×V)} (e:H a=some (.dK kvs)):m4 K H (.ref a) (.type "dict")
 | dT {a:Addr} {kvs:List (List Key×V)} (e:H a=some (.dT kvs)):m4 K H (.ref a) (.type "dict")
 | ins {a C dx:Addr} {fs:List (Str×V)} (e:H a=some (.ins C dx fs)) (cl:xU K C) (ha:PySem.W.findIn K (.ref C) "__class__"=some (some (.builtin "object.__class__")))
   (hn:PySem.W.specialIn K (.builtin "object.__class__") "__get__"=some (some (.builtin "getset_descriptor.__get__"))) (htk:PySem.W.takesIn K (.builtin "object.__class__")=some true)
   (hm:PySem.W.mroIn K C (.type "object")=some true):m4 K H (.ref a) (.ref C)
end
end L2
namespace L2
open PySem PySem.Spec PyProof.Rows
structure c8 (k:Nat) (A:Around):Prop where
 hd:A.handled=none
 dp:A.depth+3*k+5<recursionLimit
 un:A.units+16*k+200<cLine
theorem c8.mono {j k:Nat} {A:Around} (r:c8 k A) (h:j<=k):c8 j A:=⟨r.hd,by have:=r.dp;omega,by have:=r.un;omega⟩
theorem c8.deeper {k:Nat} {A:Around} (r:c8 (k+1) A) (env:Env):c8 k (A.deeper env):=
 ⟨r.hd,by have:=r.dp;show A.depth+1+3*k+5<_;omega,by have:=r.un;show A.units+3+16*k+200<_;omega⟩
theorem uV {A:Around} {C:Addr} {us:List Value} {kw:List (Str×Value)}:(A.under (.builtin "type.__call__" ⟨.ref C::us,kw⟩)).depth=A.depth+1:=by
 first | rfl | simp [Around.under,Code.weight,Code.isCreation,Code.isGuard,Code.isCaller,Code.frames,Code.isFrame,guardIds]
theorem uW {A:Around} {C:Addr} {us:List Value} {kw:List (Str×Value)}:(A.under (.builtin "type.__call__" ⟨.ref C::us,kw⟩)).units=A.units+1:=by
 first | rfl | simp [Around.under,Code.cUnits,Code.frames,Code.isFrame]
theorem c8.make {k:Nat} {A:Around} (r:c8 (k+1) A) (C:Addr) (us:List Value) (kw:List (Str×Value)):c8 k (A.under (.builtin "type.__call__" ⟨.ref C::us,kw⟩)):=
 ⟨r.hd,by have:=r.dp;rw[uV];omega,by have:=r.un;rw[uW];omega⟩
theorem c8.depth {k:Nat} {A:Around} (r:c8 k A):A.depth<recursionLimit:=by have:=r.dp;omega
theorem c8.units {k:Nat} {A:Around} (r:c8 k A):A.units+64<cLine:=by have:=r.un;omega
noncomputable def tNil:TA:=λ_ H Q=>Q [] H
noncomputable def tCons (ta:TE) (tr:TA):TA:=λσ H Q=>ta σ H λx H1=>tr σ H1 λxs H2=>Q (x::xs) H2
section
variable {X : Cx} {e : Expr} {es : List Expr} {te : TE} {t : TA} {pos : Pos}
theorem ao:PA X [] tNil:=λ_ _ _ _ H Q I h=>Calls.spliced_nil ⟨[],H,I,.nil,h⟩
theorem aa (ha:PE X e te) (hr:PA X es t) (hs:starEach (e::es) X.env=(false,eval e X.env)::starEach es X.env:=by rfl):PA X (e::es) (tCons te t):=by
 intro pos pins s σ H Q I h
 rw[hs]
 show wpAny _ _ (spliced ((false,eval e X.env)::backTo pos (starEach es X.env))) _ _ s
 refine Calls.spliced_cons (cy (ha pins s σ H _ I h) λu s1 cU=>?_)
 obtain⟨x,H1,I1,r1,q1⟩:=cU
 exact cy (hr pos pins s1 σ H1 _ I1 q1) λus s2 ⟨xs,H2,I2,r2,q2⟩=>⟨x::xs,H2,I2,.cons r1 r2,q2⟩
noncomputable def tLst (t:TA):TE:=λσ H Q=>t σ H λxs H1=>xs.length<=sizeLine/\∀p,H1 p=none->Q (.ref p) (upd H1 p (.lst xs))
theorem cM (h:PA X es t):PE X (.List es pos) (tLst t):=by
 intro pins s σ H Q I hq
 refine wpAny_List_spliced (cy (h pos pins s σ H _ I hq) λus s1 ⟨xs,H1,I1,r,z,q⟩=>⟨by rw[<-r.length];exact z,?_⟩)
 have hf:H1 s1.heap.objs.size=none:=I1.bW.fresh (aah _)
 refine⟨.ref s1.heap.objs.size,upd H1 s1.heap.objs.size (.lst xs),I1.laid (t':=s1.toks) (λb u e=>Heap.get?_push_of_some _ e) (aah _) ?_,rfl,q _ hf⟩
 exact⟨z,us,0,r,Heap.get?_push_size _ rfl⟩
end
abbrev Sp:=List V->Hp->VK->XK->Prop
abbrev jT:=List Env->Hp->Shared->XK->Value->Shared->Prop
structure uX (P:Program) (w:World) (K:PySem.W.Frag) (mg:Str->Option Value) (base:Heap) (A:Around) (outer:List Env) (s:Shared) (H:Hp):Prop where
 frames:A.frames=some outer
 mod:Mod K mg base
 bs:∀b o,base.get? b=some o->s.heap.get? b=some o/\H b=none
 yM:base.objs.size<=s.heap.objs.size
 jP:s.heap.FunFrames base outer
 Du:∀b∈su outer,H b=none
 bW:gz P w H s.heap
 bare:AllBare s.gens
noncomputable def CE (outer:List Env) (P:Program) (w:World) (H:Hp) (s:Shared) (Q:VK) (u:Value) (s':Shared):Prop:=
 ∃v H',s'.os=s.os/\AllBare s'.gens/\Un (su outer) [] H H' s.heap s'.heap/\gz P w H' s'.heap/\RelV v u/\Q v H'
noncomputable def CR (CX:jT) (outer:List Env) (P:Program) (w:World) (H:Hp) (s:Shared) (Q:VK) (E:XK) (r:Result) (s':Shared):Prop:=
 match r with
 | .ok (.ret u)=>CE outer P w H s Q u s'
 | .ok _=>False
 | .error e=>CX outer H s E e s'
structure d7 (P:Program) (w:World) (K:PySem.W.Frag) (mg:Str->Option Value) (base:Heap) (CX:jT) (k:Nat) (f:Addr) (fd:FuncData) (ps:List Str) (sp:Sp):Prop where
 len:∀vs H Q E,sp vs H Q E->vs.length=ps.length
 run:∀(A:Around) (outer:List Env) (s:Shared) (H:Hp) (args:Args) (us:List Value) (vs:List V) (Q:VK) (E:XK),c8 k A->uX P w K mg base A outer s H->BindsTo s fd args (ps.zip us)->bu vs us->sp vs H Q E->
  codeAny (model P w) A (.call (.ref f) args) (CR CX outer P w H s Q E) s
theorem d7.mono {P:Program} {w:World} {K:PySem.W.Frag} {mg:Str->Option Value} {base:Heap} {CX:jT} {j k:Nat} {f:Addr} {fd:FuncData} {ps:List Str} {sp:Sp} (F:d7 P w K mg base CX j f fd ps sp) (h:j<=k):
  d7 P w K mg base CX k f fd ps sp:=⟨F.len,λA outer s H args us vs Q E hr=>F.run A outer s H args us vs Q E (hr.mono h)⟩
theorem uX.make {P:Program} {w:World} {K:PySem.W.Frag} {mg:Str->Option Value} {base:Heap} {A:Around} {outer:List Env} {s:Shared} {H:Hp} (e:uX P w K mg base A outer s H) (C:Addr) (us:List Value) (kw:List (Str×Value)):
  uX P w K mg base (A.under (.builtin "type.__call__" ⟨.ref C::us,kw⟩)) outer s H:=⟨by first | exact e.frames | (simpa [Around.under,Code.envs,Code.isFrame,pushEnvs] using e.frames),e.mod,e.bs,e.yM,e.jP,e.Du,e.bW,e.bare⟩
section
variable {X : Cx} {pins : List (Addr × Obj)} {σ : St} {H : Hp} {s s' : Shared}
theorem Inv.HC (I:Inv X pins σ H s):uX X.prog X.w X.K X.mg X.base X.A X.stack s H:=
 ⟨I.ok.frames,I.ok.mod,I.bs,aap I.ok.yM I.sz,I.stack,I.v5,I.bW,I.bare⟩
theorem Inv.after {Q:VK} {u:Value} (I:Inv X pins σ H s) (h:CE X.stack X.prog X.w H s Q u s'):EP X pins σ Q u s':=by
 obtain⟨v,H',os,bare,un,bW,r,q⟩:=h
 obtain⟨hh,g,d,t,WJ⟩:=s'
 obtain rfl:WJ=s.os:=os
 exact⟨v,H',I.call (h':=hh) (g':=g) (d':=d) (t':=t) (ch:=[]) un bW bare (λb z=>absurd z (by simp)),r,q⟩
end
noncomputable def tCall (sp:Sp) (oX:List V) (E:XK) (t:TA):TE:=λσ H Q=>t σ H λvs H1=>sp (vs++oX) H1 Q E
noncomputable def pJ (C:Addr) (m:Str) (sp:Sp) (oX:List V) (E:XK) (ta:TE) (t:TA):TE:=λσ H Q=>ta σ H λx H1=>∃a dx fs,x=.ref a/\H1 a=some (.ins C dx fs)/\fs.lookup m=none/\
 t σ H1 λvs H2=>sp (x::(vs++oX)) H2 Q E
noncomputable def sM (C:Addr) (sp:Sp) (oX:List V) (E:XK) (t:TA):TE:=λσ H Q=>t σ H λvs H1=>∀x dx,H1 x=none->H1 dx=none->dx≠x->
 sp (.ref x::(vs++oX)) (upd (upd H1 dx (.own x)) x (.ins C dx [])) (λv H2=>v=.cB/\Q (.ref x) H2) E
noncomputable def Binds (K:PySem.W.Frag) (fd:FuncData) (ps:List Str) (ds:List Value):Prop:=
 ∀(s:Shared) (us:List Value),K.In s.heap->(us++ds).length=ps.length->BindsTo s fd ⟨us,[]⟩ (ps.zip (us++ds))
theorem Binds.all {K:PySem.W.Frag} {fd:FuncData} {ps:List Str} (h:∀us:List Value,us.length=ps.length->bindArgs fd ⟨us,[]⟩=pure (ps.zip us)):Binds K fd ps []:=λs us _ hl=>by
 rw[aa2] at hl ⊢
 exact .of_eq (h us hl)
noncomputable def eA (CX:jT) (X:Cx) (E:XK):Prop:=∀(pins:List (Addr×Obj)) (σ:St) (H:Hp) (s:Shared) (e:Value) (s':Shared),Inv X pins σ H s->CX X.stack H s E e s'->X.xe e s'
section
variable {X : Cx} {CX : jT} {k : Nat} {f C : Addr} {fd : FuncData} {ps : List Str} {sp : Sp} {oX : List V} {ds : List Value} {E : XK} {x m : Str} {p pos apos : Pos} {e o : Expr} {es : List Expr} {ta : TE} {t : TA}
theorem uY {pins:List (Addr×Obj)} {σ:St} {H:Hp} {s:Shared} {Q:VK} {us:List Value} {vs:List V} (F:d7 X.prog X.w X.K X.mg X.base CX k f fd ps sp) (hr:c8 k X.A) (hb:Binds X.K fd ps ds) (hd:bu oX ds) (hx:eA CX X E)
  (I:Inv X pins σ H s) (r:bu vs us) (h:sp (vs++oX) H Q E):wpAny (model X.prog X.w) X.A (call (.ref f) us) (EP X pins σ Q) X.xe s:=by
 have r2:bu (vs++oX) (us++ds):=r.append hd
 have hl:(us++ds).length=ps.length:=by rw[<-r2.length];exact F.len _ _ _ _ h
 refine wpAny_call (codeAny_mono (F.run X.A X.stack s H ⟨us,[]⟩ (us++ds) (vs++oX) Q E hr I.HC (hb s us I.v3 hl) r2 h) λr s' hq=>?_)
 cases r with
 | error e=>exact hx pins σ H s e s' I hq
 | ok fl=>
  cases fl with
  | ret u=>exact I.after hq
  | next=>exact False.elim hq
  | brk=>exact False.elim hq
  | cont=>exact False.elim hq
theorem B1 (F:d7 X.prog X.w X.K X.mg X.base CX k f fd ps sp) (hr:c8 k X.A) (hg:Gl X x) (hm:X.mg x=some (.ref f)) (hk:PySem.W.keepIn X.K (.ref f)=true) (hb:Binds X.K fd ps ds) (hd:bu oX ds) (hx:eA CX X E)
  (ha:PA X (e::es) t) (yX:(x==("__debug__":Str))=false:=by decide) (he:starEach (e::es) X.env=(false,eval e X.env)::starEach es X.env:=by rfl) (hpl:(backTo pos (starEach es X.env)).any (·.1)=false:=by rfl):
  PE X (.Call (.Name x p) (e::es) [] pos) (tCall sp oX E t):=by
 intro pins s σ H Q I h
 refine wpAny_Call_Name_kw (qy I hg hm ?_ yX)
 refine PySem.W.callWith_K (h₀:=X.base) I.ok.mod.Ho hk (cy (ha pos pins s σ H _ I h) λus s1 ⟨vs,H1,I1,r,q⟩=>⟨I1.v3,?_⟩) he hpl
 exact uY F hr hb hd hx I1 r q
theorem B2 {pl:Sem Bool} (he:PE X o ta) (c:xU X.K C) (hm:yV X.K C m f) (F:d7 X.prog X.w X.K X.mg X.base CX k f fd ps sp) (hr:c8 k X.A) (hb:Binds X.K fd ps ds) (hd:bu oX ds) (hx:eA CX X E) (ha:PA X (e::es) t)
  (hst:starEach (e::es) X.env=(false,eval e X.env)::starEach es X.env:=by rfl) (hpl:(backTo pos (starEach es X.env)).any (·.1)=false:=by rfl)
  (ht:eval (.Call (.Attribute o m apos) (e::es) [] pos) X.env=(do
   let ov <-eval o X.env
   standAt apos.atName
   let (f,first) <-holding [ov] (getMethod ov m pl)
   callWith pos f first (backTo pos (starEach (e::es) X.env)) (backToKw pos (keywordEach [] X.env))):=by rfl):
  PE X (.Call (.Attribute o m apos) (e::es) [] pos) (pJ C m sp oX E ta t):=by
 intro pins s σ H Q I h
 refine PySem.W.methodCall_KW (pl:=pl) (cy (he pins s σ H _ I h) λu s1 cU=>?_) ht
 obtain⟨x,H1,I1,rx,a,dx,fs,ex,ea,l,q⟩:=cU
 subst ex
 obtain rfl:u=Value.ref a:=rx
 refine mZ I1 ea c hm l ?_
 refine PySem.W.callWith_K (first:=[.ref a]) (h₀:=X.base) I.ok.mod.Ho hm.kp (cy (ha pos pins s1 σ H1 _ I1 q) λus s2 ⟨vs,H2,I2,r,q2⟩=>⟨I2.v3,?_⟩) hst hpl
 exact uY (us:=.ref a::us) (vs:=.ref a::vs) F hr hb hd hx I2 (.cons rfl r) q2
theorem yY {pl:Sem Bool} (he:PE X o ta) (c:xU X.K C) (hm:yV X.K C m f) (F:d7 X.prog X.w X.K X.mg X.base CX k f fd ps sp) (hr:c8 k X.A) (hb:Binds X.K fd ps ds) (hd:bu oX ds) (hx:eA CX X E)
  (ht:eval (.Call (.Attribute o m apos) [] [] pos) X.env=(do
   let ov <-eval o X.env
   standAt apos.atName
   let (f,first) <-holding [ov] (getMethod ov m pl)
   callWith pos f first (backTo pos (starEach [] X.env)) (backToKw pos (keywordEach [] X.env))):=by rfl):
  PE X (.Call (.Attribute o m apos) [] [] pos) (pJ C m sp oX E ta tNil):=by
 intro pins s σ H Q I h
 refine PySem.W.methodCall_KW (pl:=pl) (cy (he pins s σ H _ I h) λu s1 cU=>?_) ht
 obtain⟨x,H1,I1,rx,a,dx,fs,ex,ea,l,q⟩:=cU
 subst ex
 obtain rfl:u=Value.ref a:=rx
 refine mZ I1 ea c hm l ?_
 exact PySem.W.callWith_K0 (first:=[.ref a]) I1.v3 hm.kp (uY (us:=[.ref a]) (vs:=[.ref a]) F hr hb hd hx I1 (.cons rfl .nil) q)
structure Mk (K:PySem.W.Frag) (C f:Addr):Prop where
 makes:PySem.W.makesIn K C=true
 init:PySem.W.findIn K (.ref C) "__init__"=some (some (.ref f))
 fn:PySem.W.isFn K (.ref f)=true
 kp:PySem.W.keepIn K (.ref C)=true
theorem yZ {pins:List (Addr×Obj)} {σ:St} {H:Hp} {s:Shared} {Q:VK} {us:List Value} {vs:List V} (M:Mk X.K C f) (F:d7 X.prog X.w X.K X.mg X.base CX k f fd ps sp) (hr:c8 (k+1) X.A) (hb:Binds X.K fd ps ds) (hd:bu oX ds)
  (hx:eA CX X E) (I:Inv X pins σ H s) (r:bu vs us)
  (h:∀x dx,H x=none->H dx=none->dx≠x->sp (.ref x::(vs++oX)) (upd (upd H dx (.own x)) x (.ins C dx [])) (λv H2=>v=.cB/\Q (.ref x) H2) E):
  wpAny (model X.prog X.w) X.A (call (.ref C) us) (EP X pins σ Q) X.xe s:=by
 have hq:=h (s.heap.objs.size+1) s.heap.objs.size (I.bW.fresh (Nat.le_succ _)) (I.bW.fresh (aah _)) (aan (aaM _))
 have I2:=Inv.made (C:=C) I
 have r2:bu (V.ref (s.heap.objs.size+1)::(vs++oX)) (Value.ref (s.heap.objs.size+1)::(us++ds)):=.cons rfl (r.append hd)
 have hl:(Value.ref (s.heap.objs.size+1)::us++ds).length=ps.length:=by
  have e:=r2.length
  rw[F.len _ _ _ _ hq] at e
  exact e.symm
 refine wpAny_call (yU (f:=f) I.v3 M.makes M.init (beq_iff_eq.mp M.fn) (codeAny_mono (F.run _ X.stack _ _ ⟨Value.ref (s.heap.objs.size+1)::us,[]⟩ (Value.ref (s.heap.objs.size+1)::(us++ds)) _ _ E (hr.make C us [])
  (I2.HC.make C us []) (hb _ (Value.ref (s.heap.objs.size+1)::us) I2.v3 hl) r2 hq) λr s' HD=>?_))
 cases r with
 | error e=>exact hx pins σ _ _ e s' I2 HD
 | ok fl=>
  cases fl with
  | ret u=>
   obtain⟨v,H',I3,rv,ev,q3⟩:=I2.after HD
   subst ev
   exact⟨rv,⟨V.ref (s.heap.objs.size+1),H',I3,rfl,q3⟩⟩
  | next=>exact False.elim HD
  | brk=>exact False.elim HD
  | cont=>exact False.elim HD
theorem B3 (M:Mk X.K C f) (F:d7 X.prog X.w X.K X.mg X.base CX k f fd ps sp) (hr:c8 (k+1) X.A) (hg:Gl X x) (hm:X.mg x=some (.ref C)) (hb:Binds X.K fd ps ds) (hd:bu oX ds) (hx:eA CX X E)
  (ha:PA X (e::es) t) (yX:(x==("__debug__":Str))=false:=by decide) (he:starEach (e::es) X.env=(false,eval e X.env)::starEach es X.env:=by rfl) (hpl:(backTo pos (starEach es X.env)).any (·.1)=false:=by rfl):
  PE X (.Call (.Name x p) (e::es) [] pos) (sM C sp oX E t):=by
 intro pins s σ H Q I h
 refine wpAny_Call_Name_kw (qy I hg hm ?_ yX)
 refine PySem.W.callWith_K (h₀:=X.base) I.ok.mod.Ho M.kp (cy (ha pos pins s σ H _ I h) λus s1 ⟨vs,H1,I1,r,q⟩=>⟨I1.v3,?_⟩) he hpl
 exact yZ M F hr hb hd hx I1 r q
end
section
variable {X : Cx} {CX : jT} {k : Nat} {f C : Addr} {fd : FuncData} {ps ks : List Str} {sp : Sp} {E : XK} {x m : Str} {p pos apos WK : Pos} {e o : Expr} {es : List Expr} {kws : List Keyword} {te ta : TE} {t tk : TA} {nm : Option Str}
structure LQ (K:PySem.W.Frag) (fd:FuncData) (ps ks:List Str) (g:List Value->List Value->List Value) (gV:List V->List V->List V):Prop where
 to:∀(s:Shared) (us ws:List Value),K.In s.heap->(g us ws).length=ps.length->BindsTo s fd ⟨us,ks.zip ws⟩ (ps.zip (g us ws))
 rel:∀{vs:List V} {us:List Value} {zs:List V} {ws:List Value},bu vs us->bu zs ws->bu (gV vs zs) (g us ws)
variable {g : List Value -> List Value -> List Value} {gV : List V -> List V -> List V}
end
structure aO (N P:List Str) (sc:Scope):Prop where
 kind:sc.kind=.function
 co:sc.isCoroutine=false
 gen:sc.isGenerator=false
 nd:N.Nodup
 pre:N.take P.length=P
 par:∀x∈P,sc.names.lookup x=some .local\/sc.names.lookup x=some .cell
 EE:∀y∈sc.names,y.2≠.free
theorem pK {kindOf:Str->Option NameKind} {x:Str}:∀{binds:List (Str×Value)} {m:Str->Option Value},(∀v,(x,v)∉binds)->bindL kindOf binds m x=m x
 | [],_,_=>rfl
 | (n,v)::r,m,h=>by
  unfold bindL
  rw[pK λw hw=>h w (aak _ hw)]
  split
  ·have:x≠n:=by rintro rfl;exact h v aaj
   simp [this]
  ·rfl
theorem pL {kindOf:Str->Option NameKind} {x:Str}:∀{binds:List (Str×Value)} {m:Str->Option Value},(∀v,(x,v)∉binds)->bindC kindOf binds m x=m x
 | [],_,_=>rfl
 | (n,v)::r,m,h=>by
  unfold bindC
  rw[pL λw hw=>h w (aak _ hw)]
  split
  ·rfl
  ·have:x≠n:=by rintro rfl;exact h v aaj
   simp [this]
theorem pM {kindOf:Str->Option NameKind} {x:Str} {v:Value}:∀{P:List Str} {vs:List Value} {i:Nat} {m:Str->Option Value},P.Nodup->P[i]?=some x->vs[i]?=some v->kindOf x=some .local->
  bindL kindOf (P.zip vs) m x=some v
 | [],_,_,_,_,h,_,_=>by simp at h
 | _::_,[],_,_,_,_,h,_=>by simp at h
 | p::P,w::vs,0,m,nd,h1,h2,hk=>by
  simp at h1 h2;subst h1;subst h2
  show bindL kindOf ((p,w)::P.zip vs) m p=_
  unfold bindL
  rw[pK λv hv=>(List.nodup_cons.mp nd).1 (List.of_mem_zip hv).1,if_pos hk]
  simp
 | p::P,w::vs,i+1,m,nd,h1,h2,hk=>by
  show bindL kindOf ((p,w)::P.zip vs) m x=_
  unfold bindL
  exact pM (i:=i) (List.nodup_cons.mp nd).2 (by simpa using h1) (by simpa using h2) hk
theorem pN {kindOf:Str->Option NameKind} {x:Str} {v:Value}:∀{P:List Str} {vs:List Value} {i:Nat} {m:Str->Option Value},P.Nodup->P[i]?=some x->vs[i]?=some v->kindOf x≠some .local->
  bindC kindOf (P.zip vs) m x=some v
 | [],_,_,_,_,h,_,_=>by simp at h
 | _::_,[],_,_,_,_,h,_=>by simp at h
 | p::P,w::vs,0,m,nd,h1,h2,hk=>by
  simp at h1 h2;subst h1;subst h2
  show bindC kindOf ((p,w)::P.zip vs) m p=_
  unfold bindC
  rw[pL λv hv=>(List.nodup_cons.mp nd).1 (List.of_mem_zip hv).1,if_neg hk]
  simp
 | p::P,w::vs,i+1,m,nd,h1,h2,hk=>by
  show bindC kindOf ((p,w)::P.zip vs) m x=_
  unfold bindC
  exact pN (i:=i) (List.nodup_cons.mp nd).2 (by simpa using h1) (by simpa using h2) hk
noncomputable def start (N:List Str) (vs:List V):St:=vs.map some++List.replicate (N.length - vs.length) none
noncomputable def uZ (CX:jT) (P:Program) (w:World) (K:PySem.W.Frag) (mg:Str->Option Value) (base:Heap) (N:List Str) (qual:Str) (scope:Scope) (f:Addr) (cd:Value) (A:Around) (outer:List Env) (s:Shared) (H:Hp) (E:XK):Cx where
 prog:=P
 w:=w
 K:=K
 mg:=mg
 base:=base
 A:=A.deeper (envOfC qual scope s.heap.objs.size f cd)
 N:=N
 s₀:=s
 H₀:=H
 env:=envOfC qual scope s.heap.objs.size f cd
 outer:=outer
 stack:=envOfC qual scope s.heap.objs.size f cd::outer
 ex:=[]
 calm:=true
 fn:=λ_=>true
 pn:=[]
 xe:=λe s'=>wpAny (model P w) (A.deeper (envOfC qual scope s.heap.objs.size f cd)) (leaving (envOfC qual scope s.heap.objs.size f cd) e) (λ_ EF=>CX outer H s E e EF) (λe' EF=>CX outer H s E e' EF) s'
theorem sN {sc:Scope} {n:Nat} {x:Str} (h:sc.names.lookup x=some .cell):∃c,(cellsFrom n sc.names []).lookup x=some c:=by
 have q:=PySem.W.cellsFrom_some sc.names n [] (.inl h)
 exact Option.isSome_iff_exists.mp q
theorem xV {CX:jT} {P:Program} {w:World} {K:PySem.W.Frag} {mg:Str->Option Value} {base:Heap} {N ps:List Str} {qual:Str} {scope:Scope} {f:Addr} {cd:Value} {A:Around} {outer:List Env} {s s1:Shared} {H:Hp} {E:XK} {us:List Value} {vs:List V}
  (S:aO N ps scope) (hd:A.handled=none) (e0:uX P w K mg base A outer s H) (hl:vs.length=ps.length) (r:bu vs us)
  (x:InCallC s s.heap.objs.size (bindL (envOfC qual scope s.heap.objs.size f cd).kindOf (ps.zip us) λ_=>none) (cellsFrom (s.heap.objs.size+1) scope.names []) (bindC (envOfC qual scope s.heap.objs.size f cd).kindOf (ps.zip us) λ_=>none) s1):
  Inv (uZ CX P w K mg base N qual scope f cd A outer s H E) [] (start N vs) H s1:=by
 have hpl:ps.length<=N.length:=by have:=congrArg List.length S.pre;rw[aa3] at this;omega
 obtain⟨h1,tk,rfl,hk⟩:=x.done
 have HE:∀b:Addr,b∉(uZ CX P w K mg base N qual scope f cd A outer s H E).ex:=λb z=>absurd (show b∈([]:List Addr) from z) (by simp)
 refine⟨⟨e0.mod,S.kind,rfl,rfl,aah _,λy z c h1 h2=>?_,λy hy=>?_,λy c _ h=>?_,λ_=>hd,Around.frames_deeper e0.frames,.inr ⟨rfl,rfl⟩,λb z=>absurd z (HE b),e0.bs,e0.yM,λb _ _=>HE b,λb z=>absurd z (HE b),e0.jP,e0.Du⟩,
  rfl,e0.bare,Un.kept hk,⟨_,x.toInCall.ns,λi y v h1 h2 h3=>?_⟩,λy c h=>⟨_,x.cell y c h⟩,e0.bW.fresh (aah _),λy c h=>?_,λp hp=>absurd (show p∈([]:List (Addr×Obj)) from hp) (by simp),e0.bW.kept hk,?_⟩
 ·exact name_of_addr x.apart (aba h1) (aba h2)
 ·have hy:scope.names.lookup y=some .cell\/scope.names.lookup y=some .free:=hy
  rcases hy with hy | hy
  ·exact sN hy
  ·exact absurd rfl (S.EE _ (aba hy))
 ·exact Nat.le_of_lt (x.above y c (aba h))
 ·have hi:i<vs.length:=by
   unfold start at h2
   by_cases hi:i<vs.length
   ·exact hi
   ·rw[aa4 (by simpa using hi)] at h2
    rw[List.getElem?_replicate] at h2
    split at h2 <;>cases h2
  have ha:vs[i]?=some v:=by
   unfold start at h2
   rw[aa5 (by simpa using hi),aaf] at h2
   cases e:vs[i]? with
   | none=>rw[e] at h2;cases h2
   | some a=>rw[e] at h2;cases h2;rfl
  obtain⟨u,hu,rv⟩:=r.get ha
  have hp:ps[i]?=some y:=by
   rw[<-S.pre,List.getElem?_take_of_lt (by omega)];exact h1
  have UA:ps.Nodup:=by rw[<-S.pre];exact S.nd.sublist (List.take_sublist _ _)
  refine⟨u,rv,?_⟩
  rcases S.par y (aag hp) with k | k
  ·exact .inl ⟨k,pM UA hp hu k⟩
  ·obtain⟨c,e⟩:=sN (n:=s.heap.objs.size+1) k
   refine .inr ⟨.inl k,c,e,?_⟩
   have q:=x.cell y c e
   rw[pN UA hp hu (by show scope.names.lookup y≠_;rw[k];decide)] at q
   exact q
 ·exact e0.bW.fresh (Nat.le_of_lt (x.above y c (aba h)))
 ·unfold start
  show _=N.length
  rw[aaF,aac,abe]
  omega
theorem DG {CX:jT} {P:Program} {w:World} {K:PySem.W.Frag} {mg:Str->Option Value} {base:Heap} {k:Nat} {f:Addr} {name qual:Str} {params:Arguments} {body:List Stmt} {scope:Scope} {dV kV doc pm cD ct oc:Value} {an od:Option Addr}
  {yF:Array (Option Value)} {N ps:List Str} {sp:Sp} (lk:K.lookup f=some ⟨oc,od,.func (PySem.W.fnOf name qual params body scope dV kV doc pm an cD ct),yF⟩) (sE:PySem.W.codeIn K cD qual=true) (S:aO N ps scope)
  (len:∀vs H Q E,sp vs H Q E->vs.length=ps.length)
  (sO:∀(A:Around) (outer:List Env) (s:Shared) (H:Hp) (vs:List V) (Q:VK) (E:XK),c8 k (A.deeper (envOfC qual scope s.heap.objs.size f cD))->sp vs H Q E->
   ∃t,uJ (uZ CX P w K mg base N qual scope f cD A outer s H E) body t/\t {nx:=λ_ H'=>Q .cB H',rt:=Q} (start N vs) H):
  d7 P w K mg base CX (k+1) f (PySem.W.fnOf name qual params body scope dV kV doc pm an cD ct) ps sp:=by
 refine⟨len,λA outer s H args us vs Q E hr e0 hb r By=>?_⟩
 have hl:=len _ _ _ _ By
 have KX:K.In s.heap:=e0.mod.Ho.keeps λb o e=>(e0.bs b o e).1
 have lim:s.heap.NoLimit:=e0.mod.nolimit.keeps λb o e=>(e0.bs b o e).1
 have m6:∀y∈ps.zip us,scope.names.lookup y.1=some .local\/(scope.names.lookup y.1=some .cell/\((cellsFrom (s.heap.objs.size+1) scope.names []).lookup y.1).isSome=true):=fun⟨n,v⟩ hy=>by
  rcases S.par n (List.of_mem_zip hy).1 with q | q
  ·exact .inl q
  ·exact .inr ⟨q,PySem.W.cellsFrom_some _ _ _ (.inl q)⟩
 refine codeAny_call_function hr.depth (KX _ _ lk) rfl S.co S.gen rfl (PySem.W.codeRec_of KX sE) (hb _ _ _ _ ?_)
 refine wpAny_newFunctionEnv_cells S.kind m6 λenv he s1 x=>?_
 subst he
 refine⟨lim.keeps x.toInCall.keep,codeAny_func ?_⟩
 obtain⟨t,ht,hq⟩:=sO A outer s H vs Q E (hr.deeper _) By
 have I:Inv (uZ CX P w K mg base N qual scope f cD A outer s H E) [] (start N vs) H s1:=xV S hr.hd e0 hl r x
 refine wpAny_mono (ht [] s1 (start N vs) H _ I hq) (λfl s' hs=>?_) λe s' hs=>hs
 have fin:∀{σ':St} {H':Hp} {v:V} {u:Value},Inv (uZ CX P w K mg base N qual scope f cD A outer s H E) [] σ' H' s'->RelV v u->Q v H'->CE outer P w H s Q u s':=
  λ{σ' H' v u} J rv q=>⟨v,H',J.os,J.bare,J.base,J.bW,rv,q⟩
 cases fl with
 | ret u=>
  obtain⟨v,σ',H',J,rv,q⟩:=hs
  exact fin J rv q
 | next=>
  obtain⟨σ',H',J,q⟩:=hs
  exact fin (v:=V.cB) (u:=Value.none) J rfl q
 | brk=>
  obtain⟨_,_,_,q⟩:=hs
  exact False.elim q
 | cont=>
  obtain⟨_,_,_,q⟩:=hs
  exact False.elim q
end L2
namespace L2
open PySem PySem.Spec PyProof.Rows
section
variable {X : Cx} {x : Str} {p pos : Pos} {e : Expr} {es : List Expr} {t : TA} {id T : String} {r : List V -> Hp -> VK -> Prop}
noncomputable def tCB (r:List V->Hp->VK->Prop) (t:TA):TE:=λσ H Q=>t σ H λvs H1=>r vs H1 Q
theorem aY (hc:cY X (.builtin id) r) (hg:Gl X x) (hm:X.mg x=none) (hv:bootBuiltins x=some (.builtin id)) (ha:PA X (e::es) t) (hn:x≠"__name__":=by decide) (yX:(x==("__debug__":Str))=false:=by decide)
  (he:starEach (e::es) X.env=(false,eval e X.env)::starEach es X.env:=by rfl) (hpl:(backTo pos (starEach es X.env)).any (·.1)=false:=by rfl):PE X (.Call (.Name x p) (e::es) [] pos) (tCB r t):=by
 intro pins s σ H Q I h
 refine wpAny_Call_Name_kw (iO I hg hm hv ?_ hn yX)
 exact PyProof.Rows.callWith_builtin1 (cy (ha pos pins s σ H _ I h) λus s1 ⟨vs,H1,I1,r1,q1⟩=>hc pins s1 σ H1 vs us Q I1 r1 q1) he hpl
theorem hV (hc:cY X (.type T) r) (hg:Gl X x) (hm:X.mg x=none) (hv:bootBuiltins x=some (.type T)) (ha:PA X (e::es) t) (hn:x≠"__name__":=by decide) (yX:(x==("__debug__":Str))=false:=by decide)
  (he:starEach (e::es) X.env=(false,eval e X.env)::starEach es X.env:=by rfl) (hpl:(backTo pos (starEach es X.env)).any (·.1)=false:=by rfl):PE X (.Call (.Name x p) (e::es) [] pos) (tCB r t):=by
 intro pins s σ H Q I h
 refine wpAny_Call_Name_kw (iO I hg hm hv ?_ hn yX)
 exact PyProof.Rows.callWith_type1 (cy (ha pos pins s σ H _ I h) λus s1 ⟨vs,H1,I1,r1,q1⟩=>hc pins s1 σ H1 vs us Q I1 r1 q1) he hpl
end
end L2
namespace HT
open PySem PyProof.Rows
section
open PySem.SeqAt
open PySem.AutoSeq1 (wpAny_loadPart')
open PySem.MeetsSeq PySem.MeetsSeq2 PySem.MeetsSeq3
end
section
variable {prog : Program} {w : World} {A : Around} {E : Value -> Shared -> Prop} {s : Shared}
noncomputable def sP (n d:Nat):Option Int->Nat
 | none=>d
 | some v=>if v<0 then (v+ (n:Int)).toNat else min v.toNat n
theorem y4 (n d:Nat):sP n d none=d:=rfl
theorem B4 (n d k:Nat):sP n d (some (k:Int))=min k n:=by
 show(if (k:Int)<0 then ((k:Int)+ (n:Int)).toNat else min (k:Int).toNat n)=min k n
 rw[if_neg (by omega),aai]
end
end HT
namespace L2
open PySem PySem.Spec PyProof.Rows
abbrev TO:=St->Hp->(Option Int->Hp->Prop)->Prop
noncomputable def PO (X:Cx) (e:Option Expr) (t:TO):Prop:=
 ∀(pins:List (Addr×Obj)) (s:Shared) (σ:St) (H:Hp) (Q:Option Int->Hp->Prop),Inv X pins σ H s->t σ H Q->
  wpAny (model X.prog X.w) X.A (evalPart e X.env) (λu s'=>∃o H',Inv X pins σ H' s'/\IsPart u o/\Q o H') X.xe s
noncomputable def tNoPart:TO:=λ_ H Q=>Q none H
noncomputable def tPart (t:TE):TO:=λσ H Q=>t σ H λx H1=>∃i,x=.int i/\Q (some i) H1
theorem intsAre_of {ns:List Int}:∀{us:List Value},bu (ns.map V.int) us->IntsAre us ns:=by
 induction ns with
 | nil=>intro us r;rw[aaP] at r;cases r;exact .nil
 | cons n ns ih=>
  intro us r
  rw[aav] at r
  cases r with
  | cons r1 r2=>
   obtain⟨t,e⟩:=r1
   subst e
   exact .cons n t (ih r2)
section
variable {X : Cx} {e : Expr} {te : TE} {lo hi : Option Expr} {tl th : TO} {pos p2 : Pos}
theorem wb:PO X none tNoPart:=by
 intro pins s σ H Q I h
 rw[evalPart_none]
 exact wpAny_pure ⟨none,H,I,.none,h⟩
theorem wc (h:PE X e te):PO X (some e) (tPart te):=by
 intro pins s σ H Q I hw
 rw[evalPart_some]
 refine cy (h pins s σ H _ I hw) λu s1 cU=>?_
 obtain⟨x,H1,I1,r1,q1⟩:=cU
 obtain⟨i,rfl,q⟩:=q1
 obtain⟨t,rfl⟩:=r1
 exact⟨some i,H1,I1,.int i t,q⟩
noncomputable def KL (X:Cx) (r:V->Option Int->Option Int->Hp->VK->Prop):Prop:=
 ∀(pins:List (Addr×Obj)) (s:Shared) (σ:St) (H:Hp) (x:V) (v vl vu:Value) (lo hi:Option Int) (sl:Addr) (Q:VK),Inv X pins σ H s->RelV x v->s.heap.IsSliceOf sl vl vu .none->IsPart vl lo->IsPart vu hi->r x lo hi H Q->
  ∃T id,typeLookup (.type T) "__getitem__"=pure (some (.builtin id))/\s.TypeIs v T/\wpAny (model X.prog X.w) X.A (getItem v (.ref sl)) (EP X pins σ Q) X.xe s
noncomputable def tSl (r:V->Option Int->Option Int->Hp->VK->Prop) (te:TE) (tl th:TO):TE:=λσ H Q=>te σ H λx H1=>tl σ H1 λl H2=>th σ H2 λu H3=>r x l u H3 Q
theorem sQ {r:V->Option Int->Option Int->Hp->VK->Prop} (hr:KL X r) (he:PE X e te) (hl:PO X lo tl) (hu:PO X hi th):PE X (.Subscript e (.Slice lo hi none p2) pos) (tSl r te tl th):=by
 intro pins s σ H Q I h
 refine Subscript_ (cy (he pins s σ H _ I h) λv s1 cU=>?_)
 obtain⟨x,H1,I1,r1,q1⟩:=cU
 refine wpAny_Slice (cy (hl pins s1 σ H1 _ I1 q1) λvl s2 ⟨l,H2,I2,pl,q2⟩=>cy (hu pins s2 σ H2 _ I2 q2) λvu s3 cU=>?_)
 obtain⟨u,H3,I3,pu,q3⟩:=cU
 rw[evalPart_none]
 refine wpAny_pure ?_
 have I4:Inv X pins σ H3 {s3 with heap:=s3.heap.push {cls:=.type "slice",data:=.fields #[vl,vu,.none]}}:=I3.kept (t':=s3.toks) λb ob q=>Heap.get?_push_of_some _ q
 obtain⟨T,id,hT,ht,hg⟩:=hr pins {s3 with heap:=s3.heap.push {cls:=.type "slice",data:=.fields #[vl,vu,.none]}} σ H3 x v vl vu l u s3.heap.objs.size Q I4 r1 (Heap.IsSliceOf.new ..) pl pu q3
 show wpAny (model X.prog X.w) X.A (subscriptTail e (.Slice lo hi none p2) v (.ref s3.heap.objs.size)) (EP X pins σ Q) X.xe {s3 with heap:=s3.heap.push {cls:=.type "slice",data:=.fields #[vl,vu,.none]}}
 exact tail_any (ops:=[.ref s3.heap.objs.size,v]) ht hT hg (by with_unfolding_all rfl)
noncomputable def oY (xs:List V) (lo hi:Option Int):List V:=(xs.drop (HT.sP xs.length 0 lo)).take (HT.sP xs.length xs.length hi - HT.sP xs.length 0 lo)
theorem sR (xs:List V) (lo hi:Option Int):(oY xs lo hi).length<=xs.length:=by
 unfold oY
 rw[aa3,List.length_drop]
 omega
end
end L2
namespace L2
open PySem PySem.Spec PyProof.Rows
noncomputable def xW (n:Nat) (i:Int):Option Nat:=if 0<=i then (if i<n then some i.toNat else none) else if -(n:Int)<=i then some (i+n).toNat else none
noncomputable def fc {α:Type} (xs:List α) (i:Int):Option α:=(xW xs.length i).bind λj=>xs[j]?
theorem wd {n:Nat} {i:Int} {j:Nat} (h:xW n i=some j):seqIndex? i n=some j/\j<n/\-(n:Int)<=i/\i<n:=by
 unfold xW at h
 by_cases h0:0<=i
 ·rw[if_pos h0] at h
  by_cases h1:i<n
  ·rw[if_pos h1] at h
   have e:i.toNat=j:=aax h
   exact⟨by rw[seqIndex_of h0 h1,e],by omega,by omega,h1⟩
  ·rw[if_neg h1] at h;cases h
 ·rw[if_neg h0] at h
  by_cases h1:-(n:Int)<=i
  ·rw[if_pos h1] at h
   have e:(i+n).toNat=j:=aax h
   exact⟨by rw[seqIndex_neg (by omega) h1,e],by omega,h1,by omega⟩
  ·rw[if_neg h1] at h;cases h
theorem qD {α:Type} {xs:List α} {i:Int} {v:α} (h:fc xs i=some v):∃j,seqIndex? i xs.length=some j/\xs[j]?=some v/\j<xs.length/\-(xs.length:Int)<=i/\i<xs.length:=by
 unfold fc at h
 cases e:xW xs.length i with
 | none=>rw[e] at h;cases h
 | some j=>
  rw[e] at h
  obtain⟨h1,h2,h3,h4⟩:=wd e
  exact⟨j,h1,h,h2,h3,h4⟩
theorem bA {α:Type} {xs:List α} {j:Nat} {v:α} (h:xs[j]?=some v):fc xs (j:Int)=some v:=by
 have hj:j<xs.length:=(List.getElem?_eq_some_iff.mp h).1
 have e:xW xs.length (j:Int)=some j:=by
  unfold xW
  rw[if_pos (by omega),if_pos (by omega)];simp
 unfold fc;rw[e];exact h
noncomputable def B5 (b:Expr):Prop:=∀o i,subscripted b false o i=operate [o,i] (getItem o i)
noncomputable def DH (X:Cx) (r:R2):Prop:=
 ∀(value slice:Expr) (pins:List (Addr×Obj)) (s:Shared) (σ:St) (H:Hp) (x y:V) (v u:Value) (Q:VK),Inv X pins σ H s->RelV x v->RelV y u->r x y H Q->
  subscripted slice false v u=operate [v,u] (getItem v u)->wpAny (model X.prog X.w) X.A (subscriptTail value slice v u) (EP X pins σ Q) X.xe s
noncomputable def GV (X:Cx) (id:String) (r:V->List V->Hp->VK->Prop):Prop:=
 ∀(pins:List (Addr×Obj)) (s:Shared) (σ:St) (H:Hp) (x:V) (xs:List V) (v:Value) (us:List Value) (Q:VK),Inv X pins σ H s->RelV x v->bu xs us->r x xs H Q->
  wpAny (model X.prog X.w) X.A (call (.builtin id) (v::us)) (EP X pins σ Q) X.xe s
section
variable {X : Cx} {a b : Expr} {ta tb : TE} {pos : Pos}
theorem aG {r:R2} (hr:DH X r) (ha:PE X a ta) (hb:PE X b tb) (hs:B5 b):PE X (.Subscript a b pos) (tOp r ta tb):=by
 intro pins s σ H Q I h
 exact Subscript_ (EB ha hb I h λv u s2 x y H2 I2 rx ry q=>hr a b pins s2 σ H2 x y v u Q I2 rx ry q (hs _ _))
noncomputable def LR (K:PySem.W.Frag):R2:=λx y H Q=>∃p xs i v,x=.ref p/\y=.int i/\bo K H p xs/\fc xs i=some v/\Q v H
noncomputable def LS (K:PySem.W.Frag):R2:=λx y H Q=>∃p xs i v,x=.ref p/\y=.int i/\eL K H p xs/\fc xs i=some v/\Q v H
theorem we:DH X (LR X.K):=by
 intro value slice pins s σ H x y v u Q I rx ry h hs
 obtain⟨p,xs,i,z,rfl,rfl,hq,he,q⟩:=h
 cases rx
 obtain⟨t,rfl⟩:=ry
 obtain⟨aU,r,pl,hz⟩:=I.list hq
 obtain⟨j,h1,h2,h3,h4,h5⟩:=qD he
 obtain⟨w,ew,mS⟩:=r.get h2
 have hl:=r.length
 have hn:=mX
 have fin:EP X pins σ Q w s:=⟨z,H,I,mS,q⟩
 by_cases h0:0<=i
 ·have hj:i.toNat=j:=by
   rw[seqIndex_of h0 h5] at h1
   exact aax h1
  exact item_listR pl.isList h0 (by omega) (by rw[hj];simpa using ew) fin hs
 ·have hj:(i+ (aU.toArray.size:Int)).toNat=j:=by
   rw[seqIndex_neg (by omega) h4] at h1
   rw[aam,<-hl]
   exact aax h1
  exact subscriptTail_builtinR (x:=w) pl.isList.typeIs slot_list_getitem.lookup
   (wpAny_getItem_list_neg (Q:=λr s'=>r=w/\EP X pins σ Q r s') pl.isList (by omega) (by rw[aam] <;>omega) (by omega) (by rw[hj];simpa using ew) ⟨rfl,fin⟩) hs
theorem EG:DH X (LS X.K):=by
 intro value slice pins s σ H x y v u Q I rx ry h hs
 obtain⟨p,xs,i,z,rfl,rfl,hq,he,q⟩:=h
 cases rx
 obtain⟨t,rfl⟩:=ry
 obtain⟨aU,r,pl,hz⟩:=I.tuple hq
 obtain⟨j,h1,h2,h3,h4,h5⟩:=qD he
 obtain⟨w,ew,mS⟩:=r.get h2
 have hl:=r.length
 have hn:=mX
 have fin:EP X pins σ Q w s:=⟨z,H,I,mS,q⟩
 exact subscriptTail_builtinR (x:=w) pl.typeIs slot_tuple_getitem.lookup
  (getItem_tuple (j:=j) (Q:=λr s'=>r=w/\EP X pins σ Q r s') pl (by omega) (by omega) (by rw[aam,<-hl];exact h1) (by simpa using ew) ⟨rfl,fin⟩) hs
theorem u3 (aU:List Value) (n j:Nat) (u:Value):Obj.mapSeq (·.setIfInBounds j u) {cls:=.type "list",data:=.seq aU.toArray n}={cls:=.type "list",data:=.seq (aU.set j u).toArray n}:=by
 simp [Obj.mapSeq]
theorem Inv.lst {pins:List (Addr×Obj)} {σ:St} {H:Hp} {s:Shared} {p:Addr} {xs:List V} (I:Inv X pins σ H s) (h:H p=some (.lst xs)):
  ∃(aU:List Value) (n:Nat),bu xs aU/\s.heap.get? p=some {cls:=.type "list",data:=.seq aU.toArray n}/\xs.length<=sizeLine:=by
 obtain⟨z,aU,n,r,e⟩:=I.bW p _ h
 exact⟨aU,n,r,e,z⟩
theorem Inv.EH {pins:List (Addr×Obj)} {σ:St} {H:Hp} {s:Shared} {p:Addr} {xs ys:List V} {aU its':List Value} {n n':Nat} {f:Obj->Obj} (I:Inv X pins σ H s) (h:H p=some (.lst xs))
  (ho:s.heap.get? p=some {cls:=.type "list",data:=.seq aU.toArray n}) (hf:f {cls:=.type "list",data:=.seq aU.toArray n}={cls:=.type "list",data:=.seq its'.toArray n'}) (r:bu ys its') (hz:ys.length<=sizeLine) (t:Nat):
  Inv X pins σ (upd H p (.lst ys)) {s with heap:=s.heap.update p f,toks:=t}:=by
 have e:(s.heap.update p f).get? p=some {cls:=.type "list",data:=.seq its'.toArray n'}:=by
  rw[Heap.get?_update_self f ho (by rw[hf] <;>rfl),hf]
 refine I.write (x:=p) (e:=p) (by rw[h];trivial) (.inl rfl) (λb u hb q=>(Heap.get?_update_other _ _ (Ne.symm hb)).trans q) ⟨_,e⟩ ?_
 exact⟨hz,its',n',r,e⟩
noncomputable def rSetL:V->V->V->Hp->(Hp->Prop)->Prop:=λo i v H Q=>∃p xs k j,o=.ref p/\i=.int k/\H p=some (.lst xs)/\xW xs.length k=some j/\Q (upd H p (.lst (xs.set j v)))
theorem set_list:Ex X rSetL:=by
 intro pins s σ H o i v ov iv u Q I ro ri rv h
 obtain⟨p,xs,k,j,rfl,rfl,hp,hj,q⟩:=h
 cases ro
 obtain⟨t,rfl⟩:=ri
 obtain⟨aU,n,r,ho,hz⟩:=I.lst hp
 obtain⟨h1,h2,h3,h4⟩:=wd hj
 have hl:=r.length
 have hn:=mX
 have I':Inv X pins σ (upd H p (.lst (xs.set j v))) {s with heap:=s.heap.update p (Obj.mapSeq (·.setIfInBounds j u))}:=
  I.EH hp ho (u3 aU n j u) (r.set rv j) (by rw[aaU];exact hz) s.toks
 by_cases h0:0<=k
 ·have hk:k.toNat=j:=by
   rw[seqIndex_of h0 h4] at h1
   exact aax h1
  exact PySem.W.ki_setAt ho h0 (by omega) (by rw[aam,<-hl];exact h4) (by rw[hk];exact⟨_,I',q⟩)
 ·have hk:(k+ (aU.toArray.size:Int)).toNat=j:=by
   rw[seqIndex_neg (by omega) h3] at h1
   rw[aam,<-hl]
   exact aax h1
  exact PySem.W.ki_setBack ho (by omega) (by rw[aam,<-hl];exact h3) (by omega) (by rw[hk];exact⟨_,I',q⟩)
theorem qE (lo hi:Option Int) (n:Nat):(sliceBounds lo hi none n).1=((HT.sP n 0 lo:Nat):Int)/\(sliceBounds lo hi none n).2.1=((HT.sP n n hi:Nat):Int)/\(sliceBounds lo hi none n).2.2=1:=by
 refine⟨?_,?_,rfl⟩
 ·cases lo with
  | none=>simp [sliceBounds,HT.sP]
  | some i=>
   simp only[sliceBounds,HT.sP,Option.getD_none,show(1:Int) >0 by decide,if_true]
   by_cases h:i<0
   ·simp only[h,if_true] <;>omega
   ·simp only[h,if_false] <;>omega
 ·cases hi with
  | none=>simp [sliceBounds,HT.sP]
  | some i=>
   simp only[sliceBounds,HT.sP,Option.getD_none,show(1:Int) >0 by decide,if_true]
   by_cases h:i<0
   ·simp only[h,if_true] <;>omega
   ·simp only[h,if_false] <;>omega
theorem oZ (aU:List Value) (lo hi:Option Int):slicePick aU.toArray lo hi none=((aU.drop (HT.sP aU.length 0 lo)).take (HT.sP aU.length aU.length hi - HT.sP aU.length 0 lo)).toArray:=by
 obtain⟨h1,h2,h3⟩:=qE lo hi aU.toArray.size
 unfold slicePick
 rw[h1,h2,h3]
 simp only[sliceRange_one,pick_run,aam] <;>rfl
noncomputable def rSlL (K:PySem.W.Frag):V->Option Int->Option Int->Hp->VK->Prop:=λx lo hi H Q=>∃a xs,x=.ref a/\bo K H a xs/\∀p,H p=none->Q (.ref p) (upd H p (.lst (oY xs lo hi)))
theorem B6:KL X (rSlL X.K):=by
 intro pins s σ H x v vl vu lo hi sl Q I rx hs pl pu h
 obtain⟨a,xs,rfl,hx,q⟩:=h
 cases rx
 obtain⟨aU,r,ht,hz⟩:=I.list hx
 have hlen:=r.length
 refine⟨"list",_,slot_list_getitem.lookup,ht.isList.typeIs,?_⟩
 refine wpAny_getItem_list_slice ht.isList hs pl pu .none (by simp) ?_ (by rw[aam] <;>omega)
 rw[oZ,<-hlen]
 refine⟨.ref s.heap.objs.size,_,I.laid (t':=s.toks) (o:=.lst (oY xs lo hi)) (λb ob q=>Heap.get?_push_of_some _ q) (aah _) ?_,rfl,q _ (I.bW.fresh (aah _))⟩
 exact⟨aap (sR xs lo hi) hz,_,0,(r.drop (HT.sP xs.length 0 lo)).take (HT.sP xs.length xs.length hi - HT.sP xs.length 0 lo),Heap.get?_push_size _ rfl⟩
noncomputable def pO:V->Bool
 | .cB=>true
 | .bl _=>true
 | .int _=>true
 | .str _=>true
 | _=>false
noncomputable def UB:V->V->Bool
 | .cB,.cB=>true
 | .bl a,.bl b=>a==b
 | .bl a,.int b=>(if a then 1 else 0)==b
 | .int a,.bl b=>a==(if b then 1 else 0)
 | .int a,.int b=>a==b
 | .str a,.str b=>a==b
 | _,_=>false
noncomputable def WL (x:V) (xs:List V):Bool:=xs.any λy=>UB y x
theorem jr:cY X (.builtin "len") (λxs H Q=>∃p ys,xs=[.ref p]/\(bo X.K H p ys\/eL X.K H p ys)/\Q (.int ys.length) H):=by
 intro pins s σ H xs us Q I r h
 obtain⟨p,ys,rfl,hq,q⟩:=h
 obtain⟨u,rfl,rx⟩:=vals1 r
 cases rx
 have hn:=mX
 rcases hq with hq | hq
 ·obtain⟨aU,r',pl,hz⟩:=I.list hq
  have hlen:=r'.length
  exact Calls.call_len_list pl.isList (by simp only[aam] <;>omega) ⟨.int ys.length,H,I.tok _,⟨s.toks+1,by rw[aam,hlen]⟩,q⟩
 ·obtain⟨aU,r',pl,hz⟩:=I.tuple hq
  have hlen:=r'.length
  exact len_tuple pl (by simp only[aam] <;>omega) ⟨.int ys.length,H,I.tok _,⟨s.toks+1,by rw[aam,hlen]⟩,q⟩
theorem qF:cY X (.type "list") (λxs H Q=>∃p ys,xs=[.ref p]/\(bo X.K H p ys\/eL X.K H p ys)/\∀l,H l=none->Q (.ref l) (upd H l (.lst ys))):=by
 intro pins s σ H xs us Q I r h
 obtain⟨p,ys,rfl,hq,q⟩:=h
 obtain⟨u,rfl,rx⟩:=vals1 r
 cases rx
 have fin:∀(aU:List Value),bu ys aU->ys.length<=sizeLine->∀(h':Heap) (c':Nat),(∀b o',s.heap.get? b=some o'->h'.get? b=some o')->
   h'.get? s.heap.objs.size=some {cls:=.type "list",dict:=none,data:=.seq aU.toArray c',slots:=#[]}->EP X pins σ Q (.ref s.heap.objs.size) {s with heap:=h'}:=λaU r' hz h' c' kp e=>
  ⟨.ref s.heap.objs.size,_,I.laid (t':=s.toks) kp (aah _) (show cG X.prog X.w _ h' _ (.lst ys) from⟨hz,aU,c',r',e⟩),rfl,q _ (I.bW.fresh (aah _))⟩
 rcases hq with hq | hq
 ·obtain⟨aU,r',pl,hz⟩:=I.list hq
  have hlen:=r'.length
  obtain⟨o,ho,hc,n,hd⟩:=pl.isList
  exact call_list_seq p (.inl rfl) ho hc hd (λh' c' kp e=>fin aU r' hz h' c' kp e) (by simp only[aam] <;>omega)
 ·obtain⟨aU,r',pl,hz⟩:=I.tuple hq
  have hlen:=r'.length
  obtain⟨o,ho,hc,n,hd⟩:=pl
  exact call_list_seq p (.inr rfl) ho hc hd (λh' c' kp e=>fin aU r' hz h' c' kp e) (by simp only[aam] <;>omega)
noncomputable def LU (K:PySem.W.Frag) (T:String) (x:V) (H:Hp):Prop:=match x with
 | .str _=>T="str"
 | .int _=>T="int"
 | .ref p=>(T="list"/\∃xs,bo K H p xs)\/(T="tuple"/\∃o,K.lookup p=some o/\o.cls=.type "tuple"/\o.dict=none)\/
   (T="dict"/\((∃kvs,H p=some (.dK kvs))\/∃kvs,H p=some (.dT kvs)))\/(T="set"/\∃S n,H p=some (.set S n))
 | _=>False
theorem EI {pins:List (Addr×Obj)} {σ:St} {H:Hp} {s:Shared} {T:String} {x:V} {v:Value} (I:Inv X pins σ H s) (r:RelV x v) (ty:LU X.K T x H):
  s.TypeIs v T/\∀a,v=.ref a->∃ob,s.heap.get? a=some ob/\ob.dict=none:=by
 cases x with
 | str z=>
  obtain⟨t,rfl⟩:=r
  cases (show T="str" from ty)
  exact⟨typeIs_str s z t,λ_ e=>nomatch e⟩
 | int i=>
  obtain⟨t,rfl⟩:=r
  cases (show T="int" from ty)
  exact⟨typeIs_int s i t,λ_ e=>nomatch e⟩
 | ref p=>
  cases r
  rcases ty with ⟨rfl,xs,hq⟩ | ⟨rfl,o,hk,hc,hd⟩ | ⟨rfl,hk⟩ | ⟨rfl,S,n,hk⟩
  ·obtain⟨aU,_,pl,_⟩:=I.list hq
   refine⟨pl.isList.typeIs,λa e=>?_⟩
   cases e
   obtain⟨o,n,e,c,hd,_⟩:=pl
   exact⟨o,e,hd⟩
  ·refine⟨⟨o,I.v3 p o hk,hc⟩,λa e=>?_⟩
   cases e
   exact⟨o,I.v3 _ o hk,hd⟩
  ·have z:∃o,s.heap.get? p=some o/\o.ExactDict:=by
    rcases hk with ⟨kvs,hk⟩ | ⟨kvs,hk⟩
    ·obtain⟨_,_,_,_,o,_,_,e,ex,_⟩:=I.bW p _ hk
     exact⟨o,e,ex⟩
    ·obtain⟨_,_,_,_,o,_,_,e,ex,_⟩:=I.bW p _ hk
     exact⟨o,e,ex⟩
   obtain⟨o,e,ex⟩:=z
   refine⟨⟨o,e,ex.1⟩,λa e2=>?_⟩
   cases e2
   exact⟨o,e,ex.2.1⟩
  ·obtain⟨o,_,_,_,e,ex,_⟩:=I.bW p _ hk
   refine⟨⟨o,e,ex.1⟩,λa e2=>?_⟩
   cases e2
   exact⟨o,e,ex.2.1⟩
 | _=>exact False.elim ty
noncomputable def tBM (K:PySem.W.Frag) (T:String) (r:V->List V->Hp->VK->Prop) (to:TE) (t:TA):TE:=λσ H Q=>to σ H λx H1=>LU K T x H1/\t σ H1 λxs H2=>r x xs H2 Q
variable {o e : Expr} {es : List Expr} {to : TE} {t : TA} {name : Str} {apos gC : Pos} {T id : String} {r : V -> List V -> Hp -> VK -> Prop}
theorem dY (pa:PlainAttrs T) (slot:Slot T name id) (WM:typeOf (.builtin id)=pure (.type "method_descriptor")) (hm:GV X id r) (ho:PE X o to) (ha:PA X (e::es) t)
  (HF:attributeBase o name X.env (eval o X.env)=eval o X.env:=by rfl)
  (LV:((backTo gC (starEach (e::es) X.env)).all (λx=>!x.1) && (backToKw gC (keywordEach [] X.env)).all (λx=>x.1.isSome)
   && decide ((e::es).length+ ([]:List Keyword).length+ (if ([]:List Keyword).isEmpty then 0 else 1)<30))=true:=by rfl)
  (HG:(apos.endLine==gC.line)=true:=by rfl) (hs:starEach (e::es) X.env=(false,eval e X.env)::starEach es X.env:=by rfl) (EJ:(backTo gC (starEach es X.env)).any (·.1)=false:=by rfl):
  PE X (.Call (.Attribute o name apos) (e::es) [] gC) (tBM X.K T r to t):=by
 intro pins s σ H Q I h
 refine wpAny_Call_method_late HF LV HG rfl (cy (ho pins s σ H _ I h) λv s1 cU=>?_)
 obtain⟨x,H1,I1,r1,ty,q1⟩:=cU
 obtain⟨h1,h2⟩:=EI I1 r1 ty
 refine⟨T,id,pa,slot,WM,h1,h2,?_⟩
 have hA:=ha gC pins s1 σ H1 _ I1 q1
 rw[hs] at hA ⊢
 refine Calls.callWith_builtin (by show(false || (backTo gC (starEach es X.env)).any (·.1))=false;rw[EJ] <;>rfl) (Calls.evalArgs_plain ?_)
 exact cy hA λus s2 ⟨vs,H2,I2,r2,q2⟩=>hm pins s2 σ H2 x vs v us Q I2 r1 r2 q2
end
end L2
namespace L2
open PySem PySem.Spec PyProof.Rows
noncomputable def HI (X:Cx) (id:String) (r:V->List V->Hp->VK->Prop):Prop:=
 ∀(pins:List (Addr×Obj)) (s:Shared) (σ:St) (H:Hp) (x:V) (xs:List V) (v:Value) (us:List Value) (Q:VK),Inv X pins σ H s->RelV x v->bu xs us->r x xs H Q->
  wpAny (model X.prog X.w) X.A (call (.builtin id) (v::us)) (EP X pins σ Q) X.xe s
theorem bu.one:∀{x:V} {us:List Value},bu [x] us->∃u,us=[u]/\RelV x u
 | _,_,.cons r .nil=>⟨_,rfl,r⟩
theorem bu.rep {xs:List V} {us:List Value} (h:bu xs us):∀k:Nat,bu (List.replicate k xs).flatten (List.replicate k us).flatten
 | 0=>.nil
 | k+1=>by
  rw[List.replicate_succ,List.replicate_succ,List.flatten_cons,List.flatten_cons]
  exact bu.append h (bu.rep h k)
theorem foldl_rep (aU:List Value):∀(k:Nat) (acc:List Value),
  List.foldl (λx1 x2=>x1++x2) acc.toArray (List.replicate k aU.toArray)=(acc++ (List.replicate k aU).flatten).toArray
 | 0,acc=>by simp
 | k+1,acc=>by
  have e:acc.toArray++aU.toArray=(acc++aU).toArray:=by simp
  have e2:(acc++aU)++ (List.replicate k aU).flatten=acc++ (List.replicate (k+1) aU).flatten:=by
   rw[List.replicate_succ,List.flatten_cons,List.append_assoc]
  rw[<-e2,<-foldl_rep aU k (acc++aU),<-e,List.replicate_succ,List.foldl_cons]
section
variable {X : Cx} {pins : List (Addr × Obj)} {σ : St} {H : Hp} {s : Shared} {l b : Addr} {xs ys zs : List V}
theorem Inv.HJ {aU its':List Value} {n:Nat} {f:Array Value->Array Value} {t':Nat} (I:Inv X pins σ H s) (hH:H l=some (.lst xs))
  (e:s.heap.get? l=some {cls:=.type "list",data:=.seq aU.toArray n}) (hf:f aU.toArray=its'.toArray) (hv:bu ys its') (hz:ys.length<=sizeLine):
  Inv X pins σ (upd H l (.lst ys)) {s with heap:=s.heap.update l (Obj.mapSeq f),toks:=t'}:=by
 have q:=PySem.IsL.update e f
 rw[hf] at q
 refine I.write (x:=l) (e:=l) (by rw[hH];exact trivial) (.inl rfl) (λb' u hb hu=>(Heap.get?_update_other s.heap (Obj.mapSeq f) (Ne.symm hb)).trans hu) ⟨_,q⟩ ?_
 exact⟨hz,its',_,hv,q⟩
theorem Inv.u4 {aU:List Value} {t':Nat} (I:Inv X pins σ H s) (hv:bu ys aU) (hz:ys.length<=sizeLine):
  Inv X pins σ (upd H s.heap.objs.size (.lst ys)) {s with heap:=s.heap.push {cls:=.type "list",data:=.seq aU.toArray},toks:=t'}:=
 I.laid (λ_ _ q=>Heap.get?_push_of_some _ q) (aah _) ⟨hz,aU,0,hv,Heap.get?_push_size _ rfl⟩
theorem Inv.fresh (I:Inv X pins σ H s):H s.heap.objs.size=none:=I.bW.fresh (aah _)
theorem Inv.y7 (I:Inv X pins σ H s) (hH:H l=some (.lst xs)):xs.length<=sizeLine/\∃(aU:List Value) (n:Nat),bu xs aU/\xs.length=aU.length/\s.heap.get? l=some {cls:=.type "list",data:=.seq aU.toArray n}:=by
 obtain⟨z,aU,n,r,e⟩:=I.bW l _ hH
 exact⟨z,aU,n,r,r.length,e⟩
theorem y8 {n:Nat} (h:n<=sizeLine):Builtin.List.listTooLong n=false:=by
 unfold Builtin.List.listTooLong
 exact decide_eq_false (by omega)
end
section
variable {X : Cx}
noncomputable def cO:V->List V->Hp->VK->Prop:=λx vs H Q=>∃l xs y,x=.ref l/\vs=[y]/\H l=some (.lst xs)/\xs.length<sizeLine/\Q .cB (upd H l (.lst (xs++ [y])))
theorem cm:HI X "list.append" cO:=by
 intro pins s σ H x vs v us Q I rx rv h
 obtain⟨l,xs,y,rfl,rfl,hH,hz,q⟩:=h
 cases rx
 obtain⟨u,rfl,ru⟩:=rv.one
 obtain⟨z,aU,n,r,hl,e⟩:=I.y7 hH
 refine call_meets F.slot_list_append ⟨_,e,rfl⟩ F.entry_list_append (F.args_list_append_2 _ _) (PySem.list_append l aU.toArray n u (by rw[aam];omega)) ⟨e,?_⟩
 refine⟨.cB,_,I.HJ (its':=aU++ [u]) hH e (by simp) (r.append (.cons ru .nil)) ?_,rfl,q⟩
 rw[aaF,List.length_singleton]
 omega
noncomputable def HK:R2:=λx y H Q=>∃l b xs zs,x=.ref l/\y=.ref b/\H l=some (.lst xs)/\H b=some (.lst zs)/\xs.length+zs.length<=sizeLine/\∀p,H p=none->Q (.ref p) (upd H p (.lst (xs++zs)))
theorem EK:md X (binaryOp .Add) HK:=by
 intro pins s σ H x y v u Q I rx ry h
 obtain⟨l,b,xs,zs,rfl,rfl,hH,hB,hz,q⟩:=h
 cases rx
 cases ry
 obtain⟨z,aU,n,r,hl,e⟩:=I.y7 hH
 obtain⟨z2,o3,n2,r2,B7,e2⟩:=I.y7 hB
 refine PySem.P.add_list e e2 ?_ (by rw[aam,aam];omega)
 have ea:aU.toArray++o3.toArray=(aU++o3).toArray:=by simp
 rw[ea]
 exact⟨.ref _,_,I.u4 (t':=s.toks) (r.append r2) (by rw[aaF];omega),rfl,q _ I.fresh⟩
noncomputable def B8:R2:=λx y H Q=>∃l k xs,x=.ref l/\y=.int k/\H l=some (.lst xs)/\-(2^63)<=k/\k<2^63/\xs.length*k.toNat<=sizeLine/\
 ∀p,H p=none->Q (.ref p) (upd H p (.lst (List.replicate k.toNat xs).flatten))
theorem len_rep {α:Type} (xs:List α) (k:Nat):(List.replicate k xs).flatten.length=k*xs.length:=by
 induction k with
 | zero=>simp
 | succ k ih=>rw[List.replicate_succ,List.flatten_cons,aaF,ih,Nat.succ_mul,Nat.add_comm]
theorem u5:md X (binaryOp .Mult) B8:=by
 intro pins s σ H x y v u Q I rx ry h
 obtain⟨l,k,xs,rfl,rfl,hH,h1,h2,hz,q⟩:=h
 cases rx
 obtain⟨t,rfl⟩:=ry
 obtain⟨z,aU,n,r,hl,e⟩:=I.y7 hH
 have hlen:aU.toArray.size*k.toNat<=sizeLine:=by rw[aam,<-hl];exact hz
 have LW:¬aU.toArray.size*k.toNat >(2^63 - 1) / 8:=by
  have:(sizeLine:Nat)<=(2^63 - 1) / 8:=by decide
  omega
 have EL:¬(!Builtin.List.listFitsIndex k)=true:=by
  rw[fitsIndex_both h1 h2]
  exact aay
 have HL:¬Builtin.List.listTooLong (aU.toArray.size*k.toNat)=true:=by
  rw[y8 hlen]
  exact aay
 have LX:List.foldl (λx1 x2=>x1++x2) #[] (List.replicate (if aU.toArray.isEmpty=true then 0 else k.toNat) aU.toArray)=(List.replicate k.toNat aU).flatten.toArray:=by
  have f0:∀m:Nat,List.foldl (λx1 x2=>x1++x2) #[] (List.replicate m aU.toArray)=(List.replicate m aU).flatten.toArray:=λm=>by
   have:=foldl_rep aU m []
   rw[List.nil_append] at this
   exact this
  rw[f0]
  cases aU with
  | nil=>simp
  | cons a r'=>rw[if_neg (by simp)]
 refine wpAny_binaryOp_repeat_ref (T:="list") (U:="int") (by decide) ⟨_,e,rfl⟩ (λs'=>typeIs_int s' k t) noFill_list_mul F.fills_int_mul F.slot_int_rmul repeat_list F.slot_int_index.lookup
  (call_meets F.slot_int_rmul (typeIs_int s k t) F.entry_int_rmul (F.args_int_rmul_2 _ _) (int___rmul___int_list k t l aU.toArray n)
   ⟨e,rfl,⟨_,e,rfl⟩,call_meets F.slot_list_mul ⟨_,e,rfl⟩ F.entry_list_mul (F.args_list_mul_2 _ _) (AutoListH.list___mul___list_int_3 l aU.toArray n k t EL LW HL) ⟨e,?_⟩⟩)
 rw[LX]
 exact⟨.ref _,_,I.u4 (t':=s.toks) (r.rep k.toNat) (by rw[len_rep,Nat.mul_comm];exact hz),rfl,q _ I.fresh⟩
end
section
variable {prog : Program} {w : World} {A : Around} {E : Value -> Shared -> Prop} {s : Shared}
end
section
variable {X : Cx}
end
end L2
namespace L2
open PySem PySem.Spec PyProof.Rows
section
variable {κ : Type} [DecidableEq κ]
noncomputable def gN (kvs:List (κ×V)) (k:κ):Option V:=(kvs.find? λkv=>decide (kv.1=k)).map (·.2)
noncomputable def putK (kvs:List (κ×V)) (k:κ) (v:V):List (κ×V):=
 if (kvs.any λkv=>decide (kv.1=k))=true then kvs.map (λkv=>if kv.1=k then (kv.1,v) else kv) else kvs++ [(k,v)]
noncomputable def HM (kvs:List (κ×V)) (k:κ):List (κ×V):=kvs.filter λkv=>decide (kv.1≠k)
theorem js {p:κ×V} {r:List (κ×V)} {k:κ} (e:p.1=k):gN (p::r) k=some p.2:=by simp [gN,List.find?_cons,e]
theorem gO {p:κ×V} {r:List (κ×V)} {k:κ} (e:¬p.1=k):gN (p::r) k=gN r k:=by simp [gN,List.find?_cons,e]
theorem m7 (k:κ):∀kvs:List (κ×V),(kvs.any λkv=>decide (kv.1=k))=(gN kvs k).isSome
 | []=>rfl
 | p::r=>by
  rw[List.any_cons]
  by_cases e:p.1=k
  ·simp only[js e,decide_eq_true e,Bool.true_or,Option.isSome_some]
  ·rw[gO e,decide_eq_false e,Bool.false_or];exact m7 k r
theorem kC (kvs:List (κ×V)) (k:κ) (v:V):(putK kvs k v).length<=kvs.length+1:=by
 unfold putK
 split
 ·rw[aac];omega
 ·rw[aaF,aaq,abf];omega
theorem sS {kvs:List (κ×V)} {k:κ} (v:V) (h:gN kvs k=none):putK kvs k v=kvs++ [(k,v)]:=by
 unfold putK
 rw[m7,h]
 exact if_neg (by decide)
theorem iu.fj {o:Option V} {u:Option Value} (r:iu o u):o.isSome=u.isSome:=by
 cases o with
 | none=>cases u with
  | none=>rfl
  | some _=>exact(show False from r).elim
 | some _=>cases u with
  | none=>exact(show False from r).elim
  | some _=>rfl
theorem KV.val {kvs:List (κ×V)} {vs:List (κ×Value)} (r:KV kvs vs) (k:κ):iu (gN kvs k) (valueAt vs k):=by
 unfold KV at r
 induction r with
 | nil=>exact True.intro
 | @cons p q ps qs h t ih=>
  obtain⟨h1,h2⟩:=h
  by_cases e:p.1=k
  ·have e':q.1=k:=h1.symm.trans e
   have b:valueAt (q::qs) k=some q.2:=by simp [valueAt,List.find?_cons,e']
   rw[js e,b];exact h2
  ·have e':¬q.1=k:=λz=>e (h1.trans z)
   have b:valueAt (q::qs) k=valueAt qs k:=by simp [valueAt,List.find?_cons,e']
   rw[gO e,b];exact ih
theorem KV.any {kvs:List (κ×V)} {vs:List (κ×Value)} (r:KV kvs vs) (k:κ):(kvs.any λkv=>decide (kv.1=k))=vs.any λkv=>decide (kv.1=k):=by
 unfold KV at r
 induction r with
 | nil=>rfl
 | cons h t ih=>rw[List.any_cons,List.any_cons,ih,h.1]
theorem KV.EM {kvs:List (κ×V)} {vs:List (κ×Value)} (r:KV kvs vs) (k:κ) {y:V} {u:Value} (ry:RelV y u):
  KV (kvs.map λkv=>if kv.1=k then (kv.1,y) else kv) (vs.map λkv=>if kv.1=k then (kv.1,u) else kv):=by
 unfold KV at r ⊢
 induction r with
 | nil=>exact .nil
 | @cons p q ps qs h t ih=>
  rw[aav,aav]
  refine .cons ?_ ih
  obtain⟨h1,h2⟩:=h
  by_cases e:p.1=k
  ·rw[if_pos e,if_pos (h1.symm.trans e)];exact⟨h1,ry⟩
  ·rw[if_neg e,if_neg (λz=>e (h1.trans z))];exact⟨h1,h2⟩
theorem KV.put {kvs:List (κ×V)} {vs:List (κ×Value)} (r:KV kvs vs) (k:κ) {y:V} {u:Value} (ry:RelV y u):KV (putK kvs k y) (stored vs k u):=by
 unfold putK stored
 rw[r.any k]
 by_cases e:(vs.any λkv=>decide (kv.1=k))=true
 ·rw[if_pos e,if_pos e];exact r.EM k ry
 ·rw[if_neg e,if_neg e];exact Paired.snoc r ⟨rfl,ry⟩
theorem KV.length {kvs:List (κ×V)} {vs:List (κ×Value)} (r:KV kvs vs):kvs.length=vs.length:=Paired.length r
end
theorem kD {P:Program} {w:World} {k:Key} {u:Value} (r:RelV (kV k) u):(b9 P w).is k u=true:=by
 cases k with
 | inl i=>obtain⟨t,e⟩:=(show ∃t,u=Value.int i t from r);subst e;exact sk P w i t
 | inr x=>obtain⟨t,e⟩:=(show ∃t,u=Value.str x t from r);subst e;exact sr P w x t
theorem pP {P:Program} {w:World}:∀{ks:List Key} {us:List Value},bu (ks.map kV) us->ItemsAre (b9 P w) ks us
 | [],_,r=>by rw[aaP] at r;cases r;exact .nil
 | k::ks,_,r=>by
  rw[aav] at r
  cases r with
  | cons h t=>exact .cons (kD h) (pP t)
abbrev KT (H:Hp):List (List Key×V)->List (List Key×Addr×Value)->Prop:=Paired λp q=>p.1=q.1/\H q.2.1=some (.tup (p.1.map kV))/\RelV p.2 q.2.2
theorem KT.val {H:Hp} {kvs:List (List Key×V)} {xs:List (List Key×Addr×Value)} (r:KT H kvs xs) (k:List Key):iu (gN kvs k) ((atKey xs k).map (·.2)):=by
 induction r with
 | nil=>exact True.intro
 | @cons p q ps qs h t ih=>
  obtain⟨h1,_,h2⟩:=h
  by_cases e:p.1=k
  ·have e':q.1=k:=h1.symm.trans e
   have b:atKey (q::qs) k=some q.2:=by simp [atKey,List.find?_cons,e']
   rw[js e,b];exact h2
  ·have e':¬q.1=k:=λz=>e (h1.trans z)
   have b:atKey (q::qs) k=atKey qs k:=by simp [atKey,List.find?_cons,e']
   rw[gO e,b];exact ih
theorem KT.EM {H:Hp} {kvs:List (List Key×V)} {xs:List (List Key×Addr×Value)} (r:KT H kvs xs) (k:List Key) {y:V} {u:Value} (ry:RelV y u):
  KT H (kvs.map λkv=>if kv.1=k then (kv.1,y) else kv) (xs.map (putAt k u)):=by
 induction r with
 | nil=>exact .nil
 | @cons p q ps qs h t ih=>
  rw[aav,aav]
  refine .cons ?_ ih
  obtain⟨h1,h2,h3⟩:=h
  unfold putAt
  by_cases e:p.1=k
  ·rw[if_pos e,if_pos (h1.symm.trans e)];exact⟨h1,h2,ry⟩
  ·rw[if_neg e,if_neg (λz=>e (h1.trans z))];exact⟨h1,h2,h3⟩
theorem KT.put {H:Hp} {kvs:List (List Key×V)} {xs:List (List Key×Addr×Value)} (r:KT H kvs xs) (k:List Key) {b:Addr} {y:V} {u:Value} (hb:H b=some (.tup (k.map kV))) (ry:RelV y u):
  KT H (putK kvs k y) (storedH xs k b u):=by
 have e:(kvs.any λkv=>decide (kv.1=k))=(atKey xs k).isSome:=by
  rw[m7,(r.val k).fj,Option.isSome_map]
 unfold putK storedH
 rw[e]
 by_cases q:(atKey xs k).isSome=true
 ·rw[if_pos q,if_pos q];exact r.EM k ry
 ·rw[if_neg q,if_neg q];exact Paired.snoc r ⟨rfl,hb,ry⟩
theorem KT.keeps {H H':Hp} {kvs:List (List Key×V)} {xs:List (List Key×Addr×Value)} (r:KT H kvs xs) (ht:∀b ys,H b=some (.tup ys)->H' b=some (.tup ys)):KT H' kvs xs:=
 Paired.Ep r λ_ _ z=>⟨z.1,ht _ _ z.2.1,z.2.2⟩
section
variable {P : Program} {w : World} {H : Hp} {h : Heap} {a : Addr}
theorem DI {u:HO} (ok:gz P w H h) (e:Rd H a u):cG P w H h a u:=e.ok ok
theorem pQ {kvs:List (Key×V)} (ok:gz P w H h) (e:Rd H a (.dK kvs)):kvs.length<=sizeLine/\(a==sysModules)=false/\∃vs,KV kvs vs/\h.DictOf (b9 P w) a vs:=
 show cG P w H h a (.dK kvs) from DI ok e
theorem DJ {kvs:List (Key×V)} (ok:gz P w H h) (e:H a=some (.dK kvs)):kvs.length<=sizeLine/\(a==sysModules)=false/\∃vs,KV kvs vs/\h.DictOf (b9 P w) a vs:=pQ ok (.inl e)
theorem m8 {ks:List Key} (ok:gz P w H h) (e:H a=some (.tup (ks.map kV))):(tupleKind (b9 P w)).is h ks a:=by
 obtain⟨_,aU,r,o,h1,h2,n,h3⟩:=(show cG P w H h a (.tup (ks.map kV)) from ok a _ e)
 exact⟨o,aU.toArray,n,h1,h2,h3,by simpa using pP r⟩
theorem sU {kvs:List (List Key×V)} (ok:gz P w H h) (e:Rd H a (.dT kvs)):kvs.length<=sizeLine/\(a==sysModules)=false/\
  ∃xs,KT H kvs xs/\h.DictOfH (tupleKind (b9 P w)) a xs:=by
 obtain⟨z,y,xs,r,o,es,ep,h1,h2,h3,h4,h5⟩:=(show cG P w H h a (.dT kvs) from DI ok e)
 refine⟨z,y,xs,r,o,es,ep,h1,h2,h3,h4,λx hx=>?_,h5⟩
 have all:∀{l:List (List Key×V)} {m:List (List Key×Addr×Value)},KT H l m->∀x∈m,(tupleKind (b9 P w)).is h x.1 x.2.1:=by
  intro l m q
  induction q with
  | nil=>intro x hx;exact nomatch hx
  | @cons p q ps qs hq t ih=>
   intro x hx
   rcases List.mem_cons.mp hx with e | hx
   ·subst e
    exact m8 ok (by rw[<-hq.1];exact hq.2.1)
   ·exact ih x hx
 exact all r x hx
theorem HN {kvs:List (List Key×V)} (ok:gz P w H h) (e:H a=some (.dT kvs)):kvs.length<=sizeLine/\(a==sysModules)=false/\
  ∃xs,KT H kvs xs/\h.DictOfH (tupleKind (b9 P w)) a xs:=sU ok (.inl e)
end
noncomputable def jU (H:Hp) (a:Addr) (y:V) (r:Option V):Prop:=
 (∃kvs k,Rd H a (.dK kvs)/\y=kV k/\r=gN kvs k)\/∃kvs k b,Rd H a (.dT kvs)/\y=.ref b/\H b=some (.tup (k.map kV))/\r=gN kvs k
noncomputable def u6 (H:Hp) (a:Addr) (y v:V) (H':Hp):Prop:=
 (∃kvs k,H a=some (.dK kvs)/\y=kV k/\kvs.length<sizeLine/\H'=upd H a (.dK (putK kvs k v)))\/
 ∃kvs k b,H a=some (.dT kvs)/\y=.ref b/\H b=some (.tup (k.map kV))/\kvs.length<sizeLine/\H'=upd H a (.dT (putK kvs k v))
theorem u6.k {H:Hp} {a:Addr} {kvs:List (Key×V)} {k:Key} {v:V} (e:H a=some (.dK kvs)) (hl:kvs.length<sizeLine):u6 H a (kV k) v (upd H a (.dK (putK kvs k v))):=.inl ⟨kvs,k,e,rfl,hl,rfl⟩
section
variable {X : Cx} {pins : List (Addr × Obj)} {σ : St} {H : Hp} {s : Shared} {a : Addr} {y v : V} {u r : Value} {o : Option V} {A : Around} {E : Value -> Shared -> Prop}
theorem Inv.Bz (I:Inv X pins σ H s):sysModules<s.heap.objs.size:=by
 have h:mainGlobals<s.heap.objs.size:=(I.mod.glob.keeps I.bk).lt
 exact Nat.lt_trans (by decide) h
theorem xX {Q:Value->Shared->Prop} (hu:A.units+1<cLine) (I:Inv X pins σ H s) (g:jU H a y (some v)) (ry:RelV y u) (h:∀w' s',Inv X pins σ H s'->RelV v w'->Q w' s'):
  wpAny (model X.prog X.w) A (getItem (.ref a) u) Q E s:=by
 rcases g with ⟨kvs,k,e,ey,l⟩ | ⟨kvs,k,b,e,ey,eb,l⟩
 ·subst ey
  obtain⟨z,hd,vs,rel,dd⟩:=pQ I.bW e
  obtain⟨w',hw,mS⟩:=iu.some_of (v:=v) (o:=valueAt vs k) (by rw[l];exact rel.val k)
  exact wpAny_getItem_of (kD ry) dd.mapOf hw (h w' _ (I.tok _) mS)
 ·subst ey
  cases (show u=Value.ref b from ry)
  obtain⟨z,hd,xs,rel,dd⟩:=sU I.bW e
  obtain⟨w',hw,mS⟩:=iu.some_of (v:=v) (o:=(atKey xs k).map (·.2)) (by rw[l];exact rel.val k)
  obtain⟨p,hp,rY⟩:=Option.map_eq_some_iff.mp hw
  refine wpAny_getItem_heap (tupleKind_room_in1 hu) (m8 I.bW eb) dd hp ?_
  rw[rY]
  exact h w' _ (I.tok _) mS
theorem LY {Q:Value->Shared->Prop} (hu:A.units+1<cLine) (I:Inv X pins σ H s) (g:jU H a y o) (ry:RelV y u) (h:∀s',Inv X pins σ H s'->Q (.bool o.isSome) s'):
  wpAny (model X.prog X.w) A (compareOp .In u (.ref a)) Q E s:=by
 rcases g with ⟨kvs,k,e,ey,l⟩ | ⟨kvs,k,b,e,ey,eb,l⟩
 ·subst ey
  obtain⟨z,hd,vs,rel,dd⟩:=pQ I.bW e
  refine wpAny_in_of (kD ry) hd dd.mapOf ?_
  rw[<-(rel.val k).fj,<-l]
  exact h _ (I.tok _)
 ·subst ey
  cases (show u=Value.ref b from ry)
  obtain⟨z,hd,xs,rel,dd⟩:=sU I.bW e
  refine wpAny_in_heap (tupleKind_room_in1 hu) (m8 I.bW eb) hd dd ?_
  have q:=(rel.val k).fj
  rw[Option.isSome_map] at q
  rw[<-q,<-l]
  exact h _ (I.tok _)
theorem B9 {Q:Value->Shared->Prop} (hu:A.units+1<cLine) (I:Inv X pins σ H s) (g:jU H a y o) (ry:RelV y u) (h:∀s',Inv X pins σ H s'->Q (.bool (!o.isSome)) s'):
  wpAny (model X.prog X.w) A (compareOp .NotIn u (.ref a)) Q E s:=by
 rcases g with ⟨kvs,k,e,ey,l⟩ | ⟨kvs,k,b,e,ey,eb,l⟩
 ·subst ey
  obtain⟨z,hd,vs,rel,dd⟩:=pQ I.bW e
  refine wpAny_notIn_of (kD ry) hd dd.mapOf ?_
  rw[<-(rel.val k).fj,<-l]
  exact h _ (I.tok _)
 ·subst ey
  cases (show u=Value.ref b from ry)
  obtain⟨z,hd,xs,rel,dd⟩:=sU I.bW e
  refine wpAny_notIn_heap (tupleKind_room_in1 hu) (m8 I.bW eb) hd dd ?_
  have q:=(rel.val k).fj
  rw[Option.isSome_map] at q
  rw[<-q,<-l]
  exact h _ (I.tok _)
theorem qG {h':Heap} {t':Nat} {ob:HO} (I:Inv X pins σ H s) (mu:Hm (H a)) (hs:Heap.SameBut a s.heap h') (he:∃q,h'.get? a=some q) (new:cG X.prog X.w (upd H a ob) h' a ob):
  Inv X pins σ (upd H a ob) {s with heap:=h',toks:=t'}:=
 I.write (x:=a) (e:=a) mu (.inl rfl) (λb q hb z=>(hs.2 b hb).trans z) he new
theorem y9 {P:Program} {w:World} {H':Hp} {h':Heap} {kvs:List (Key×V)} {vs:List (Key×Value)} (z:kvs.length<=sizeLine) (hd:(a==sysModules)=false) (rel:KV kvs vs) (dd:h'.DictOf (b9 P w) a vs):
  cG P w H' h' a (.dK kvs):=⟨z,hd,vs,rel,dd⟩
theorem xY {H':Hp} {Q:Unit->Shared->Prop} (hu:A.units+1<cLine) (I:Inv X pins σ H s) (g:u6 H a y v H') (ry:RelV y u) (rv:RelV v r) (h:∀s',Inv X pins σ H' s'->Q () s'):
  wpAny (model X.prog X.w) A (setItem (.ref a) u r) Q E s:=by
 rcases g with ⟨kvs,k,e,ey,l,eH⟩ | ⟨kvs,k,b,e,ey,eb,l,eH⟩
 ·subst ey eH
  obtain⟨z,hd,vs,rel,dd⟩:=DJ I.bW e
  have hz:vs.length<=sizeLine:=by rw[<-rel.length];exact z
  have hl:(putK kvs k v).length<=sizeLine:=by have:=kC kvs k v;omega
  refine wpAny_setItem_pairs (hsz:=hz) (kD ry) dd λh' Ca hs=>h _ ?_
  have he:∃q,h'.get? a=some q:=let ⟨q,_,_,hq,_⟩:=Ca;⟨q,hq⟩
  exact qG I (by rw[e];exact True.intro) hs he (y9 hl hd (rel.put k rv) Ca)
 ·subst ey eH
  cases (show u=Value.ref b from ry)
  obtain⟨z,hd,xs,rel,dd⟩:=HN I.bW e
  have hz:xs.length<=sizeLine:=by rw[<-Paired.length rel];exact z
  have hl:(putK kvs k v).length<=sizeLine:=by have:=kC kvs k v;omega
  refine wpAny_setItem_heap (hsz:=hz) (tupleKind_room_in1 hu) (m8 I.bW eb) dd λh' Ca hs=>h _ ?_
  obtain⟨q,es,ep,hq,h2,h3,h4,_,h5⟩:=Ca
  refine qG I (by rw[e];exact True.intro) hs ⟨q,hq⟩ ⟨hl,hd,_,(rel.put k eb rv).keeps λc ys ec=>?_,q,es,ep,hq,h2,h3,h4,h5⟩
  rw[aH (Hl ec e (λz=>nomatch z))]
  exact ec
end
section
variable {X : Cx} {pins : List (Addr × Obj)} {σ : St} {H : Hp} {s : Shared} {a : Addr} {kvs : List (Key × V)} {k : Key} {u : Value} {A : Around} {E : Value -> Shared -> Prop}
end
noncomputable def HP (i:Expr):Prop:=∀ov iv,subscripted i false ov iv=operate [ov,iv] (getItem ov iv)
theorem Cb {prog:Program} {w:World} {A:Around} {E:Value->Shared->Prop} {s:Shared} {env:Env} {value slice:Expr} {pos:Pos} {T id:String} {Q:Value->Shared->Prop}
  (hl:typeLookup (.type T) "__getitem__"=pure (some (.builtin id))) (hs:HP slice)
  (h:wpAny (model prog w) A (eval value env) (λo s₁=>wpAny (model prog w) A (eval slice env) (λi s₂=>s₂.TypeIs o T/\wpAny (model prog w) A (getItem o i) Q E s₂) E s₁) E s):
  wpAny (model prog w) A (eval (.Subscript value slice pos) env) Q E s:=by
 refine Subscript_ (wpAny_mono h (λo s₁ h₁=>wpAny_mono h₁ (λi s₂ h₂=>?_) λ_ _ x=>x) λ_ _ x=>x)
 obtain⟨hT,h₂⟩:=h₂
 unfold subscriptTail
 refine wpAny_bind ?_
 rw[getitemInPython_of_ne hT.not_modules]
 refine wpAny_bind (wpAny_specialOf hT hl ?_)
 have fin:wpAny (model prog w) A (subscripted slice false o i) (λr s₃=>wpAny (model prog w) A (letTemporaryGo value o r >>=λ_=>pure r) Q E s₃) E s₂:=by
  rw[hs o i]
  exact wpAny_operating (wpAny_mono h₂ (λr s₃ h₃=>wpAny_bind (wpAny_letTemporaryGo (wpAny_pure h₃))) λ_ _ x=>x)
 first
  | exact wpAny_pure (wpAny_bind fin)
  | exact wpAny_bind (wpAny_pure (wpAny_bind fin))
  | exact wpAny_bind fin
theorem sV {X:Cx} {pins:List (Addr×Obj)} {σ:St} {H:Hp} {s:Shared} {a:Addr} {y:V} {o:Option V} (I:Inv X pins σ H s) (g:jU H a y o):s.TypeIs (.ref a) "dict":=by
 rcases g with ⟨kvs,k,e,_,_⟩ | ⟨kvs,k,b,e,_,_,_⟩
 ·obtain⟨_,_,vs,_,dd⟩:=pQ I.bW e
  exact dd.typeIs
 ·obtain⟨_,_,xs,_,dd⟩:=sU I.bW e
  exact dd.typeIs
noncomputable def tDGet (td ty:TE):TE:=λσ H Q=>td σ H λx H1=>ty σ H1 λy H2=>∃a v,x=.ref a/\jU H2 a y (some v)/\Q v H2
noncomputable def tDIn (ty td:TE):TE:=λσ H Q=>ty σ H λy H1=>td σ H1 λx H2=>∃a o,x=.ref a/\jU H2 a y o/\Q (.bl o.isSome) H2
noncomputable def tDNotIn (ty td:TE):TE:=λσ H Q=>ty σ H λy H1=>td σ H1 λx H2=>∃a o,x=.ref a/\jU H2 a y o/\Q (.bl (!o.isSome)) H2
noncomputable def sDPut (td ty tv:TE):TS:=λD σ H=>tv σ H λv H1=>td σ H1 λx H2=>ty σ H2 λy H3=>∃a H4,x=.ref a/\u6 H3 a y v H4/\D.nx σ H4
section
variable {X : Cx} {o i e value : Expr} {pos pos' kT : Pos} {td ty tv : TE}
theorem Cc (hu:X.A.units+1<cLine) (ho:PE X o td) (hi:PE X i ty) (hs:HP i):PE X (.Subscript o i pos) (tDGet td ty):=by
 intro pins s σ H Q I h
 refine Cb PySem.F.slot_dict_getitem.lookup hs (cy (ho pins s σ H _ I h) λu s1 ⟨x,H1,I1,rx,q1⟩=>cy (hi pins s1 σ H1 _ I1 q1) λiv s2 cU=>?_)
 obtain⟨y,H2,I2,ry,a,v,ex,g,q2⟩:=cU
 subst ex
 obtain rfl:u=Value.ref a:=rx
 exact⟨sV I2 g,xX hu I2 g ry λw' s3 I3 mS=>⟨v,H2,I3,mS,q2⟩⟩
theorem za (hu:X.A.units+1<cLine) (hi:PE X i ty) (ho:PE X o td):PC X .In i o (tDIn ty td):=by
 intro pins s σ H Q I h
 refine cy (hi pins s σ H _ I h) λiv s1 ⟨y,H1,I1,ry,q1⟩=>cy (ho pins s1 σ H1 _ I1 q1) λu s2 cU=>?_
 obtain⟨x,H2,I2,rx,a,ov,ex,g,q2⟩:=cU
 subst ex
 obtain rfl:u=Value.ref a:=rx
 exact LY hu I2 g ry λs3 I3=>⟨.bl ov.isSome,H2,I3,rfl,q2⟩
theorem xZ (hu:X.A.units+1<cLine) (hi:PE X i ty) (ho:PE X o td):PC X .NotIn i o (tDNotIn ty td):=by
 intro pins s σ H Q I h
 refine cy (hi pins s σ H _ I h) λiv s1 ⟨y,H1,I1,ry,q1⟩=>cy (ho pins s1 σ H1 _ I1 q1) λu s2 cU=>?_
 obtain⟨x,H2,I2,rx,a,ov,ex,g,q2⟩:=cU
 subst ex
 obtain rfl:u=Value.ref a:=rx
 exact B9 hu I2 g ry λs3 I3=>⟨.bl (!ov.isSome),H2,I3,rfl,q2⟩
theorem wj (hu:X.A.units+1<cLine) (ho:PE X o td) (hi:PE X i ty) (hv:PE X value tv) (hs:swapsWith value (some (.Subscript o i pos')) pos.line X.env=pure false):
  PS X (.Assign [.Subscript o i pos'] value pos) (sDPut td ty tv):=by
 intro pins s σ H D I h
 refine wpAny_Assign_Subscript (cy (hv pins s σ H _ I h) λr s1 ⟨v,H1,I1,rv,q1⟩=>cy (ho pins s1 σ H1 _ I1 q1) λu s2 ⟨x,H2,I2,rx,q2⟩=>cy (hi pins s2 σ H2 _ I2 q2) λiv s3 cU=>?_) hs
 obtain⟨y,H3,I3,ry,a,H4,ex,g,q3⟩:=cU
 subst ex
 obtain rfl:u=Value.ref a:=rx
 exact xY hu I3 g ry rv λs4 I4=>⟨σ,H4,I4,q3⟩
end
theorem sW {P:Program} {w:World} {H:Hp} (h:Heap) (hb:sysModules<h.objs.size):cG P w H (h.push {cls:=.type "dict",data:=.dict #[]}) h.objs.size (.dK []):=
 ⟨aar _,beq_eq_false_iff_ne.mpr (Ne.symm (aan hb)),[],.nil,Heap.DictOf.new h⟩
noncomputable def tDNewK:TE:=λ_ H Q=>∀p,H p=none->Q (.ref p) (upd H p (.dK []))
section
variable {X : Cx} {pos : Pos}
theorem zb:PE X (.Dict [] [] pos) tDNewK:=λpins s σ H Q I h=>
 wpAny_Dict_empty ⟨.ref s.heap.objs.size,_,I.laid (a:=s.heap.objs.size) (o:=.dK []) (t':=s.toks) (λ_ _ q=>Heap.get?_push_of_some _ q) (aah _) (sW s.heap I.Bz),rfl,h _ (I.bW.fresh (aah _))⟩
end
abbrev VV:List (V×V)->List (Value×Value)->Prop:=Paired λp q=>RelV p.1 q.1/\RelV p.2 q.2
structure M1 (X:Cx) (o:Expr) (m:Str) (apos:Pos) (e:Expr) (gC:Pos):Prop where
 base:attributeBase o m X.env (eval o X.env)=eval o X.env
 sY:((backTo gC (starEach [e] X.env)).all (λx=>!x.1) && (backToKw gC (keywordEach [] X.env)).all (λx=>x.1.isSome)
  && decide (([e]:List Expr).length+ ([]:List Keyword).length+ (if ([]:List Keyword).isEmpty then 0 else 1)<30))=true
 line:(apos.endLine==gC.line)=true
 trees:backTo gC (starEach [e] X.env)=[(false,eval e X.env)]
structure M2 (X:Cx) (o:Expr) (m:Str) (apos:Pos) (e f:Expr) (gC:Pos):Prop where
 base:attributeBase o m X.env (eval o X.env)=eval o X.env
 sY:((backTo gC (starEach [e,f] X.env)).all (λx=>!x.1) && (backToKw gC (keywordEach [] X.env)).all (λx=>x.1.isSome)
  && decide (([e,f]:List Expr).length+ ([]:List Keyword).length+ (if ([]:List Keyword).isEmpty then 0 else 1)<30))=true
 line:(apos.endLine==gC.line)=true
 trees:backTo gC (starEach [e,f] X.env)=[(false,eval e X.env),(false,eval f X.env)]
noncomputable def LZ (H:Hp) (a:Addr):Prop:=(∃kvs,Rd H a (.dK kvs))\/∃kvs,Rd H a (.dT kvs)
section
variable {X : Cx} {pins : List (Addr × Obj)} {σ : St} {H : Hp} {s : Shared} {a : Addr} {y d : V} {u r : Value} {o : Option V} {A : Around} {E : Value -> Shared -> Prop}
end
noncomputable def tDGet1 (td ty:TE):TE:=λσ H Q=>td σ H λx H1=>∃a,x=.ref a/\LZ H1 a/\ty σ H1 λy H2=>∃o,jU H2 a y o/\Q (o.getD .cB) H2
noncomputable def tDGet2 (td ty tx:TE):TE:=λσ H Q=>td σ H λx H1=>∃a,x=.ref a/\LZ H1 a/\ty σ H1 λy H2=>tx σ H2 λz H3=>∃o,jU H3 a y o/\Q (o.getD z) H3
noncomputable def tDPop1 (td ty:TE):TE:=λσ H Q=>td σ H λx H1=>∃a,x=.ref a/\LZ H1 a/\ty σ H1 λy H2=>∃kvs k v,H2 a=some (.dK kvs)/\y=kV k/\gN kvs k=some v/\Q v (upd H2 a (.dK (HM kvs k)))
section
variable {X : Cx} {o e f : Expr} {apos gC : Pos} {td ty tx : TE}
end
section
variable {X : Cx} {pins : List (Addr × Obj)} {σ : St} {H : Hp} {s : Shared} {a : Addr} {kvs : List (Key × V)} {A : Around} {E : Value -> Shared -> Prop}
end
section
variable {X : Cx} {pins : List (Addr × Obj)} {σ : St} {H : Hp} {s : Shared} {a : Addr} {y : V} {u : Value} {A : Around} {E : Value -> Shared -> Prop}
end
end L2
namespace BA
open PySem PySem.W PySem.Calls PyProof.Rows
theorem kW {P:Params} {h:Heap}:∀(ns:List Int) (vs:List Value),WellAll P h vs (ns.map WData.int)->IntsAre vs ns:=by
 intro ns
 induction ns with
 | nil=>
  intro vs w
  rw[aaP] at w
  cases w
  exact .nil
 | cons n ns ih=>
  intro vs w
  rw[aav] at w
  cases w with
  | cons a b=>
   cases a
   exact .cons _ _ (ih _ b)
theorem x8 {l:OpenLaw} {n:Nat} (hn:l.most=some n) {P:Params} {h:Heap} {args:List WData} {vals:List Value}
  (Cd:l.row.toRowW.claim.pre args=true) (zc:WellAll P h vals args):
  ∃a vs ns,vals=[Value.ref a]/\args=[WData.list (ns.map WData.int)]/\h.get? a=some {cls:=.type "list",data:=.seq vs.toArray}/\IntsAre vs ns/\ns.length<=n:=by
 have gc:WShape.hasAll [] args [.list .int]=true:=(pre_splitW Cd).1
 have hc:l.pre.holds [] {args:=args}=true:=(pre_splitW Cd).2
 obtain⟨d,r,rfl,h1,h2⟩:=hasAllW_cons gc
 obtain rfl:=hasAllW_nil h2
 obtain⟨xs,rfl,h3⟩:=hasW_list h1
 obtain⟨ns,rfl⟩:=items_int h3
 have hlen:ns.length<=n:=by
  unfold OpenLaw.pre at hc
  have h4:(WTm.not (.lt (.lit (.int (n:Int))) (.len (.arg 0)))).holds [] {args:=[.list (ns.map .int)]}=true:=by
   have h4:=(holds_andW hc).1
   rw[hn] at h4
   exact h4
  have h5:=condW_of h4 (w_not (w_lt w_lit (w_len_list (w_arg rfl))))
  rw[aac] at h5
  refine Nat.le_of_not_lt λq=>?_
  have q':(n:Int)< ((ns.length:Nat):Int):=by omega
  first
   | (rw[decide_eq_true q'] at h5;exact absurd h5 (by decide))
   | (simp at h5;omega)
 cases zc with
 | cons w1 w2=>
  cases w2
  cases w1 with
  | list ho x9=>exact⟨_,_,ns,rfl,rfl,ho,kW ns _ x9,hlen⟩
theorem ya (l:OpenLaw) (args:List WData):l.row.toRowW.claim.post args (.bool true) args=true:=
 postW_of (r:=l.row.toRowW) (X:=(true==true))
  (show WShape.has [] (.bool true) .bool=true by first | rfl | decide | simp [WShape.has,WShape.arms,WShape.armsAll])
  (show(WTm.eq .res (.lit (.bool true))).value [] {args:=args,res:=some (.bool true),after:=args}=some (.bool (true==true)) from w_eq_bool (w_res rfl) w_lit) rfl
theorem sZ {l:OpenLaw} {n:Nat} {q:Program} {loose:List Str} {XP:(Str->Option Value)->Heap->Prop} {YP:World->Heap->Prop} {d:DefRec}
  (hn:l.most=some n) (HQ:d.params.defaults=[])
  (call:∀(w:World) (s₀ s₁:Shared) (mg mb:Str->Option Value) (fa:Addr) (o:Obj) (pm cd doc:Value) (a:Addr) (vs:List Value) (ns:List Int),
   Ground q loose [] XP w s₀ mg mb s₁.heap->YP w s₁.heap->
   s₁.heap.get? fa=some o->o.data=.func (docDef d.name d.params d.body d.scope pm cd doc)->s₁.heap.CodeRec cd d.name->mg d.name=some (.ref fa)->
   s₁.heap.get? a=some {cls:=.type "list",data:=.seq vs.toArray}->IntsAre vs ns->ns.length<=n->s₁.gens=#[]->
   codeAny (model l.prog w) callerA (.call (.ref fa) ⟨[.ref a],[]⟩) (λr s'=>r=.ok (.ret (.bool true))/\OldK s₁.heap s'.heap/\s'.os=s₁.os/\AllBare s'.gens) s₁):
  WalkO q loose XP YP l.row.toRowW d [] (λf vs=>PySem.call f vs):=by
 intro w s₀ s₁ mg mb G Y fa o pm cd doc dV kV ho hd sE hD HR hg args vals as Cd WN hrd zc hlo
 obtain rfl:dV=.none:=Dflts.none hD HQ
 obtain rfl:kV=.none:=Dflts.noKw hD
 obtain⟨a,vs,ns,rfl,rfl,EN,hints,hlen⟩:=x8 hn Cd zc
 refine enter_call (codeAny_mono (call w s₀ s₁ mg mb fa o pm cd doc a vs ns G Y ho (fd_plain hd) sE HR EN hints hlen hg) λr s' hq=>?_)
 obtain⟨rfl,h2,h3,h4⟩:=hq
 exact⟨.inl ⟨.bool true,.bool true,[],rfl,λ_=>rfl,.bool true,ya l _,λ_=>⟨List.Pairwise.nil,λ_ hm=>(nomatch hm)⟩⟩,h2,h3,h4⟩
section
variable {prog : Program} {w : World} {A : Around} {E : Value -> Shared -> Prop} {s : Shared} {K : Frag}
noncomputable def qH (h:Heap):Heap:={h with objs:=#[]}
theorem m9 (h:Heap) (b:Addr):(qH h).get? b=none:=by
 cases e:(qH h).get? b with
 | none=>rfl
 | some o=>exact absurd (Heap.lt_size e) (abg _)
noncomputable def ledger (h:Heap) (L d:Addr):List (Addr×Obj):=(List.range h.objs.size).filterMap λa=>if a=L\/a=d then none else (h.get? a).map λo=>(a,o)
set_option tactic.hygienic true in
theorem fO {h:Heap} {L d a:Addr} {o:Obj}:(a,o)∈ledger h L d↔a≠L/\a≠d/\h.get? a=some o:=by
 unfold ledger
 rw[List.mem_filterMap]
 constructor
 ·rintro⟨b,_,e⟩
  split at e
  ·cases e
  ·rename_i hb
   obtain⟨o',ho,e'⟩:=Option.map_eq_some_iff.mp e
   cases e'
   exact⟨λq=>hb (.inl q),λq=>hb (.inr q),ho⟩
 ·rintro⟨n1,n2,ho⟩
  refine⟨a,List.mem_range.mpr (Heap.lt_size ho),?_⟩
  rw[if_neg (show ¬(a=L\/a=d) from λq=>q.elim n1 n2),ho] <;>rfl
theorem EO {h:Heap} {L:Addr} {m:Str->Option Value} (n:h.Ns L m):Fr (qH h) L h m:=
 ⟨n,λb o e=>(by rw[m9] at e;cases e),aar _⟩
end
end BA
namespace L2
open PySem PySem.Spec PyProof.Rows
theorem pR:∀{vs:List Value} {ns:List Int},IntsAre vs ns->bu (ns.map V.int) vs
 | _,_,.nil=>.nil
 | _,_,.cons n t h=>.cons ⟨t,rfl⟩ (pR h)
end L2
namespace L2
open PySem PySem.Spec PyProof.Rows
abbrev KOf {K:PySem.W.Frag} {h:Heap} (_:K.In h):PySem.W.Frag:=K
end L2
namespace L2
open PySem PySem.Spec PyProof.Rows
noncomputable def inClass (s:Stmt) (j:Nat):Stmt:=match s with
 | .ClassDef _ _ _ body _ _ _ _ _ _ _=>body.getD j (.Pass ⟨0,0,0,0⟩)
 | _=>.Pass ⟨0,0,0,0⟩
noncomputable def aM (s:Stmt):Arguments:=match s with
 | .FunctionDef _ a _ _ _ _ _ _ _ _=>a
 | _=>{posonlyargs:=[],args:=[],vararg:=none,kwonlyargs:=[],kw_defaults:=[],kwarg:=none,defaults:=[]}
noncomputable def aK (s:Stmt):List Stmt:=match s with
 | .FunctionDef _ _ b _ _ _ _ _ _ _=>b
 | _=>[]
noncomputable def af (s:Stmt):Scope:=match s with
 | .FunctionDef _ _ _ _ _ _ sc _ _ _=>sc
 | _=>{kind:=.function,names:=[],isGenerator:=false,isCoroutine:=false}
abbrev CX0:jT:=λ_ _ _ _ _ _=>False
abbrev E0:XK:=λ_ _ _=>False
structure u7 (K:PySem.W.Frag) (x qual:Str) (st:Stmt) (f:Addr) (fd:FuncData):Prop where
 ex:∃(oc:Value) (od:Option Addr) (kV doc pm:Value) (an:Option Addr) (cD ct:Value) (yF:Array (Option Value)),
  fd=PySem.W.fnOf x qual (aM st) (aK st) (af st) .none kV doc pm an cD ct/\K.lookup f=some ⟨oc,od,.func fd,yF⟩/\PySem.W.codeIn K cD qual=true
 kp:PySem.W.keepIn K (.ref f)=true
section
variable {P : Program} {w : World} {K : PySem.W.Frag} {mg : Str -> Option Value} {base : Heap}
theorem u7.binds {x qual:Str} {st:Stmt} {f:Addr} {fd:FuncData} {ps:List Str} (F:u7 K x qual st f fd)
  (h:∀(kV doc pm:Value) (an:Option Addr) (cD ct:Value) (us:List Value),us.length=ps.length->bindArgs (PySem.W.fnOf x qual (aM st) (aK st) (af st) .none kV doc pm an cD ct) ⟨us,[]⟩=pure (ps.zip us)):Binds K fd ps []:=by
 obtain⟨oc,od,kV,doc,pm,an,cD,ct,yF,rfl,lk,sE⟩:=F.ex
 exact .all (h kV doc pm an cD ct)
theorem aZ {x qual:Str} {st:Stmt} {f:Addr} {oc:Value} {od an:Option Addr} {yF:Array (Option Value)} {kV doc pm cD ct:Value} (l:K.lookup f=some ⟨oc,od,.func (PySem.W.fnOf x qual (aM st) (aK st) (af st) .none kV doc pm an cD ct),yF⟩)
  (c:PySem.W.codeIn K cD qual=true) (k:PySem.W.keepIn K (.ref f)=true):u7 K x qual st f (PySem.W.fnOf x qual (aM st) (aK st) (af st) .none kV doc pm an cD ct):=⟨⟨oc,od,kV,doc,pm,an,cD,ct,yF,rfl,l,c⟩,k⟩
end
theorem pS {A:Around} {k:Nat} (hr:c8 k A):A.units+1<cLine:=abb (Nat.add_le_add_left (by decide:1<=64) _) hr.units
section
variable {X : Cx}
theorem pv (i:Nat) {x:Str} {pos:Pos} (hN:X.N[i]?=some x:=by rfl) (hv:LC X.env.scope x:=by first | exact Or.inl rfl | exact Or.inr (Or.inl rfl) | exact Or.inr (Or.inr rfl)) (hd:(x==("__debug__":Str))=false:=by decide)
  (sE:(x==("__classdict__":Str))=false:=by decide):PE X (.Name x pos) (tVar i):=Eu hN hv hd sE
end
theorem HS {A B:Prop} (h:A):if true=true then A else B:=by
 rw[if_pos rfl]
 exact h
theorem gP {c A B:Prop} [Decidable c] (h1:c->A) (h2:¬c->B):if c then A else B:=by
 by_cases h:c
 ·rw[if_pos h]
  exact h1 h
 ·rw[if_neg h]
  exact h2 h
noncomputable def az (H H':Hp):Prop:=∀b o,H b=some o->H' b=some o
theorem az.refl (H:Hp):az H H:=λ_ _ h=>h
theorem az.trans {H H1 H2:Hp} (a:az H H1) (b:az H1 H2):az H H2:=λc o h=>b c o (a c o h)
theorem az.seq {K:PySem.W.Frag} {H H':Hp} {a:Addr} {xs:List V} (e:az H H') (h:bo K H a xs):bo K H' a xs:=by
 rcases h with (h | ⟨o,h⟩) | h
 ·exact .inl (.inl (e _ _ h))
 ·exact .inl (.inr ⟨o,e _ _ h⟩)
 ·exact .inr h
end L2
namespace L2
open PySem PySem.Spec PyProof.Rows
section
variable {X : Cx}
end
section
variable {κ : Type} [DecidableEq κ]
end
end L2
namespace L2
open PySem PySem.Spec PyProof.Rows
noncomputable def Bt (n:Nat) (i:Int):Prop:=i.natAbs<2^n
theorem Bt.mono {m n:Nat} {i:Int} (h:Bt m i) (q:m<=n):Bt n i:=aat h (aa6 (by decide) q)
theorem Bt.bits {n:Nat} {i:Int} (h:Bt n i):Builtin.Int.intBits i<=n:=PyProof.Rows.intBits_le h
theorem Bt.mul {m n:Nat} {i j:Int} (h1:Bt m i) (h2:Bt n j):Bt (m+n) (i*j):=by
 unfold Bt at *
 rw[aaQ,Nat.pow_add]
 exact Nat.mul_lt_mul_of_lt_of_lt h1 h2
theorem Bt.le {n:Nat} {i j:Int} (h:Bt n j) (q:i.natAbs<=j.natAbs):Bt n i:=abb q h
theorem Bt.of {n:Nat} {i:Int} (b:Nat) (h1:-(b:Int)<=i) (h2:i<=(b:Int)) (h:b<2^n:=by decide +kernel):Bt n i:=by
 unfold Bt
 exact abb (by omega) h
theorem Bt.log {n:Nat} {i:Int} (h:Bt n i) (q:n<=9000:=by decide):i.natAbs.log2<9000:=by
 by_cases z:i.natAbs=0
 ·rw[z];decide
 ·exact aat ((Nat.log2_lt z).mpr h) q
theorem Bt.du {m n:Nat} {i j:Int} (h1:Bt m i) (h2:Bt n j) (q:m+n<=134217728:=by decide):IntMulOk i j:=mulOk_of_bits h1.bits h2.bits q
theorem cH {i j:Int} (h1:-(2^64)<i:=by decide) (h2:i<2^64:=by decide):IntMulOk i j:=.of_left (intBits_le_64 h1 h2)
theorem iQ {i j:Int} (h1:-(2^64)<j:=by decide) (h2:j<2^64:=by decide):IntMulOk i j:=.of_right (intBits_le_64 h1 h2)
section
variable {X : Cx}
theorem aT:md X (binaryOp .Mult) (rI IntMulOk λi j=>.int (i*j)):=Hv λ_ _ _ _ _ _ _ hc q=>mul_int q hc
noncomputable def fk (_ j:Int):Prop:=0<j/\j.natAbs.log2<9000
theorem fk.of {i j:Int} {n:Nat} (h:0<j) (b:Bt n j) (q:n<=9000:=by decide):fk i j:=⟨h,b.log q⟩
theorem fk.lit {i j:Int} (h:0<j:=by decide) (q:j.natAbs.log2<9000:=by decide):fk i j:=⟨h,q⟩
theorem dJ:md X (binaryOp .FloorDiv) (rI fk λi j=>.int (i / j)):=Hv λi j _ _ _ _ _ hc q=>by
 have h1:(0:Int)<j:=hc.1
 exact floordiv_int (by omega) (by rw[Int.fdiv_eq_ediv_of_nonneg i (by omega)];exact q) (.inl (PyProof.noPylong_of_log2 hc.2))
noncomputable def wm (_ j:Int):Prop:=j≠0/\j.natAbs.log2<9000
theorem wm.of {i j:Int} {n:Nat} (h:j≠0) (b:Bt n j) (q:n<=9000:=by decide):wm i j:=⟨h,b.log q⟩
theorem ze:md X (binaryOp .FloorDiv) (rI wm λi j=>.int (i.fdiv j)):=Hv λ_ _ _ _ _ _ _ hc q=>floordiv_int hc.1 q (.inl (PyProof.noPylong_of_log2 hc.2))
theorem cz:md X (binaryOp .Mod) (rI (λ_ j=>0<j) λi j=>.int (i % j)):=EC
noncomputable def rIxTH:R2:=λx y H Q=>∃p xs i v,x=.ref p/\y=.int i/\H p=some (.tup xs)/\fc xs i=some v/\Q v H
theorem aL:DH X rIxTH:=λvalue slice pins s σ H x y v u Q I rx ry ⟨p,xs,i,z,e1,e2,e3,e4,q⟩ hs=>
 EG value slice pins s σ H x y v u Q I rx ry ⟨p,xs,i,z,e1,e2,eL.of e3,e4,q⟩ hs
noncomputable def rIxLH:R2:=λx y H Q=>∃p xs i v,x=.ref p/\y=.int i/\H p=some (.lst xs)/\fc xs i=some v/\Q v H
theorem aJ:DH X rIxLH:=λvalue slice pins s σ H x y v u Q I rx ry ⟨p,xs,i,z,e1,e2,e3,e4,q⟩ hs=>
 we value slice pins s σ H x y v u Q I rx ry ⟨p,xs,i,z,e1,e2,bo.of e3,e4,q⟩ hs
noncomputable def tTupS (t:TA):TE:=λσ H Q=>t σ H λxs H1=>xs.length<=sizeLine/\∀p H2,az H1 H2->H1 p=none->H2 p=some (.tup xs)->Q (.ref p) H2
theorem ax {H:Hp} {p:Addr} {o:HO} (h:H p=none):az H (upd H p o):=λb u e=>by
 rw[aH (bz e h)]
 exact e
theorem bF {es:List Expr} {t:TA} {x1} {pos:Pos} (h:PA X es t):PE X (.Tuple es x1 pos) (tTupS t):=λpins s σ H Q I hq=>
 cy (h:=wpAny_Tuple_spliced (cy (h pos pins s σ H _ I hq) λus s1 ⟨xs,H1,I1,r,z,q⟩=>⟨by rw[<-r.length];exact z,by
  have hf:H1 s1.heap.objs.size=none:=I1.bW.fresh (aah _)
  refine⟨.ref s1.heap.objs.size,upd H1 s1.heap.objs.size (.tup xs),I1.laid (t':=s1.toks) (λb u e=>Heap.get?_push_of_some _ e) (aah _) ?_,rfl,q _ _ (ax hf) hf ar⟩
  exact⟨z,us,r,⟨_,Heap.get?_push_size _ rfl,rfl,_,rfl⟩⟩⟩)) λ_ _ z=>z
theorem bD:cY X (.builtin "len") (λxs H Q=>∃p ys,xs=[.ref p]/\H p=some (.lst ys)/\Q (.int ys.length) H):=λpins s σ H xs us Q I r ⟨p,ys,e,h,q⟩=>
 jr pins s σ H xs us Q I r ⟨p,ys,e,.inl (bo.of h),q⟩
theorem yb:cY X (.builtin "len") (λxs H Q=>∃p ns,xs=[.ref p]/\bo X.K H p (List.map V.int ns)/\Q (.int (List.length ns:Nat)) H):=λpins s σ H xs us Q I r ⟨p,ns,e,h,q⟩=>
 jr pins s σ H xs us Q I r ⟨p,_,e,.inl h,by rw[aac];exact q⟩
noncomputable def ER (K:PySem.W.Frag):R2:=λx y H Q=>∃p ns i,x=.ref p/\y=.int i/\bo K H p (List.map V.int ns)/\0<=i/\i< (List.length ns:Nat)/\Q (.int (ns.getD i.toNat 0)) H
theorem dM {ns:List Int} {i:Int} (h0:0<=i) (h1:i< (ns.length:Nat)):fc (ns.map V.int) i=some (.int (ns.getD i.toNat 0)):=by
 obtain⟨j,rfl⟩:=aau h0
 refine bA ?_
 have hj:j<ns.length:=by omega
 rw[aaf,aad hj]
 simp [aae,aad hj]
theorem zf:DH X (ER X.K):=λvalue slice pins s σ H x y v u Q I rx ry ⟨p,ns,i,e1,e2,e3,h0,h1,q⟩ hs=>
 we value slice pins s σ H x y v u Q I rx ry ⟨p,_,i,_,e1,e2,e3,dM h0 h1,q⟩ hs
structure bU (P:Program) (w:World) (K:PySem.W.Frag) (mg:Str->Option Value) (base:Heap) (CX:jT) (k:Nat) (x:Str) (ps:List Str) (sp:Sp):Prop where
 ex:∃f fd,d7 P w K mg base CX k f fd ps sp/\mg x=some (.ref f)/\PySem.W.keepIn K (.ref f)=true/\Binds K fd ps []
theorem aI {CX:jT} {k:Nat} {x:Str} {ps:List Str} {sp:Sp} {E:XK} {e:Expr} {es:List Expr} {t:TA} {p pos:Pos} (C:bU X.prog X.w X.K X.mg X.base CX k x ps sp) (hr:c8 k X.A) (hg:Gl X x) (hx:eA CX X E) (ha:PA X (e::es) t)
  (yX:(x==("__debug__":Str))=false:=by decide) (he:starEach (e::es) X.env=(false,eval e X.env)::starEach es X.env:=by rfl) (hpl:(backTo pos (starEach es X.env)).any (·.1)=false:=by rfl):
  PE X (.Call (.Name x p) (e::es) [] pos) (tCall sp [] E t):=by
 obtain⟨f,fd,F,hm,hk,hb⟩:=C.ex
 exact B1 F hr hg hm hk hb .nil hx ha yX he hpl
end
noncomputable def qI (CX:jT):Prop:=∀outer H s e s',¬CX outer H s (λ_ _ _=>False) e s'
theorem qI.pass {CX:jT} (h:qI CX) {X:Cx}:eA CX X E0:=λ_ _ H s e s' _ z=>(h _ H s e s' z).elim
section
variable {P : Program} {w : World} {K : PySem.W.Frag} {mg : Str -> Option Value} {base : Heap} {CX : jT}
theorem u7.d8 {x qual:Str} {st:Stmt} {f:Addr} {fd:FuncData} {N ps:List Str} {k:Nat} {sp:Sp} (F:u7 K x qual st f fd) (S:aO N ps (af st)) (len:∀vs H Q E,sp vs H Q E->vs.length=ps.length)
  (sO:∀(cD:Value) (A:Around) (outer:List Env) (s:Shared) (H:Hp) (vs:List V) (Q:VK) (E:XK),c8 k (A.deeper (envOfC qual (af st) s.heap.objs.size f cD))->sp vs H Q E->
   ∃t,uJ (uZ CX P w K mg base N qual (af st) f cD A outer s H E).GR (aK st) t/\t {nx:=λ_ H'=>Q .cB H',rt:=Q} (start N vs) H):d7 P w K mg base CX (k+1) f fd ps sp:=by
 obtain⟨oc,od,kV,doc,pm,an,cD,ct,yF,rfl,lk,sE⟩:=F.ex
 refine DG lk sE S len λA outer s H vs Q E hr By=>?_
 obtain⟨t,h,q⟩:=sO cD A outer s H vs Q E hr By
 exact⟨t,h.GR,q⟩
structure Dn (K:PySem.W.Frag) (mg:Str->Option Value) (x:Str) (st:Stmt):Prop where
 ex:∃f fd,u7 K x x st f fd/\mg x=some (.ref f)
theorem Dn.dZ {x:Str} {st:Stmt} {ps:List Str} {k:Nat} {sp:Sp} (D:Dn K mg x st)
  (hb:∀(kV doc pm:Value) (an:Option Addr) (cD ct:Value) (us:List Value),us.length=ps.length->bindArgs (PySem.W.fnOf x x (aM st) (aK st) (af st) .none kV doc pm an cD ct) ⟨us,[]⟩=pure (ps.zip us))
  (h:∀f fd,u7 K x x st f fd->d7 P w K mg base CX k f fd ps sp):bU P w K mg base CX k x ps sp:=by
 obtain⟨f,fd,F,hm⟩:=D.ex
 exact⟨f,fd,h f fd F,hm,F.kp,F.binds hb⟩
end
section
variable {X : Cx}
noncomputable def UC (xs ys:List V):Bool:=(List.range (min xs.length ys.length)).all (λj=>UB (xs.getD j .cB) (ys.getD j .cB)) && xs.length==ys.length
noncomputable def rEqT:R2:=λx y H Q=>∃p q xs ys,x=.ref p/\y=.ref q/\H p=some (.tup xs)/\H q=some (.tup ys)/\xs.all pO=true/\ys.all pO=true/\Q (.bl (UC xs ys)) H
noncomputable def rInT:R2:=λx y H Q=>∃p xs,y=.ref p/\H p=some (.tup xs)/\pO x=true/\xs.all pO=true/\Q (.bl (WL x xs)) H
end
theorem at0 {α:Type} {x:α} {l:List α}:fc (x::l) 0=some x:=bA (j:=0) rfl
theorem at1 {α:Type} {x y:α} {l:List α}:fc (x::y::l) 1=some y:=bA (j:=1) rfl
theorem at2 {α:Type} {x y z:α} {l:List α}:fc (x::y::z::l) 2=some z:=bA (j:=2) rfl
noncomputable def Pr (a b:Int):List V:=[.int a,.int b]
end L2
namespace Nm
noncomputable def g (a b:Int):Int:=(Int.gcd a b:Nat)
theorem ES (a b:Int):0<=g a b:=Int.natCast_nonneg _
theorem iC {a b:Int} (h:b≠0):0<g a b:=by
 have:=Int.gcd_pos_of_ne_zero_right a h
 unfold g
 omega
theorem jt (a b:Int):g a b∣a:=Int.gcd_dvd_left ..
theorem eM (a b:Int):g a b∣b:=Int.gcd_dvd_right ..
theorem qJ (a b:Int):g a b=g b a:=by unfold g;rw[Int.gcd_comm]
theorem ET {a b:Int} (h:0<b):g a b<=b:=Int.le_of_dvd h (eM a b)
theorem zg (a b:Int):g (a.natAbs:Int) b=g a b:=by
 unfold g Int.gcd
 rw[Int.natAbs_natCast]
theorem wo (a b:Int):g a (b.natAbs:Int)=g a b:=by
 rw[qJ,zg,qJ]
theorem DK (a b:Int):g (-a) b=g a b:=by
 unfold g Int.gcd
 rw[Int.natAbs_neg]
theorem zh {a b:Int} (ha:0<=a) (_hb:0<b):g b (a % b)=g a b:=by
 unfold g Int.gcd
 rw[Int.natAbs_emod_of_nonneg ha,Nat.gcd_comm b.natAbs,<-Nat.gcd_rec,Nat.gcd_comm]
theorem zi {a:Int} (ha:0<=a):g a 0=a:=by
 unfold g
 rw[Int.gcd_zero_right]
 omega
theorem zj {a b:Int} (h:b≠0):g a b<=(b.natAbs:Int):=by
 rw[<-wo]
 exact ET (by omega)
theorem Ce {a b:Int} (h:b≠0):g (a / g a b) (b / g a b)=1:=by
 have p:0<Int.gcd a b:=Int.gcd_pos_of_ne_zero_right a h
 unfold g
 rw[Int.gcd_ediv_gcd_ediv_gcd p]
 rfl
theorem Cf {a b:Int} (h:0<b):0<b / g a b:=Int.ediv_pos_of_pos_of_dvd h (ES a b) (eM a b)
theorem yc (a b:Int):(a / g a b)*b=a* (b / g a b):=by
 rw[<-Int.mul_ediv_assoc _ (eM a b),aaB a b,Int.mul_ediv_assoc _ (jt a b),aaB]
theorem mh {q a b:Int} (h:q∣a*b) (c:Int.gcd a q=1):q∣b:=by
 have h1:=(Int.dvd_gcd_mul_iff_dvd_mul (k:=q) (n:=a) (m:=b)).mpr h
 rw[Int.gcd_comm,c] at h1
 simpa using h1
theorem Cg {p q p' q':Int} (h:0<q) (h':0<q') (e:g p q=1) (e':g p' q'=1) (c:p*q'=p'*q):p=p'/\q=q':=by
 have c1:Int.gcd p q=1:=by unfold g at e;omega
 have c2:Int.gcd p' q'=1:=by unfold g at e';omega
 have d1:q∣q':=by
  have:q∣p*q':=⟨p',by rw[c,aaB]⟩
  exact mh this c1
 have d2:q'∣q:=by
  have:q'∣p'*q:=⟨p,by rw[<-c,aaB]⟩
  exact mh this c2
 have eq:q=q':=by
  have:=Int.le_of_dvd h' d1
  have:=Int.le_of_dvd h d2
  omega
 subst eq
 exact⟨Int.eq_of_mul_eq_mul_right (by omega) c,rfl⟩
theorem dN {a g:Int} (_h:0<g) (d:g∣a):(a / g).natAbs<=a.natAbs:=by
 rw[Int.natAbs_ediv_of_dvd d]
 exact Nat.div_le_self _ _
theorem back {a b c d p q x y:Int} (hq:0<q) (hd:0<d) (e:p* (b*d)=(a*d - c*b)*q) (f:x* (q*d)=(p*d+c*q)*y):x*b=a*y:=by
 have h:(x*b)* (q*d)=(a*y)* (q*d):=by grind
 exact Int.eq_of_mul_eq_mul_right (by have:=aaG hq hd;omega) h
end Nm
namespace L2
open PySem PySem.Spec PyProof.Rows PySem.W
theorem cG.get {P:Program} {w:World} {H:Hp} {h:Heap} {a:Addr}:∀{o:HO},cG P w H h a o->∃ob,h.get? a=some ob
 | .lst _,x=>let ⟨_,_,_,_,e⟩:=x;⟨_,e⟩
 | .tup _,x=>let ⟨_,_,_,o,e,_⟩:=x;⟨o,e⟩
 | .dK _,x=>let ⟨_,_,_,_,o,_,_,e,_⟩:=x;⟨o,e⟩
 | .dT _,x=>let ⟨_,_,_,_,o,_,_,e,_⟩:=x;⟨o,e⟩
 | .set _ _,x=>by
  obtain⟨o,es,ep,t,e,_⟩:=x
  exact⟨o,e⟩
 | .ins _ _ _,x=>let ⟨_,_,_,e,_⟩:=x;⟨_,e⟩
 | .own _,x=>x
 | .xd _,x=>by
  obtain⟨mA,⟨o,es,ep,e,_⟩,_⟩:=x
  exact⟨o,e⟩
 | .oV _ _,x=>let ⟨_,_,_,e⟩:=x;⟨_,e⟩
 | .uG _ _,x=>⟨_,x.1⟩
 | .rX _,⟨_,x,_⟩=>⟨_,x⟩
 | .met _ _,x=>⟨_,x⟩
 | .ext _,x=>x.2.1
structure WO (P:Program) (w:World) (l:List Env) (H:Hp) (s:Shared) (H':Hp) (ad:Addr) (cls:Value) (s':Shared):Prop where
 os:s'.os=s.os
 bare:AllBare s'.gens
 un:Un (su l) [] H H' s.heap s'.heap
 bW:gz P w H' s'.heap
 fl:∃B a0,Heap.FlyingW B l ad cls a0 s'.heap/\(∀b o,s.heap.get? b=some o->H b=none->b∉su l->B.get? b=some o)/\(∀b o,s.heap.get? b=some o->b∉su l->∃o',B.get? b=some o')/\
  (∀b u o,H' b=some u->s'.heap.get? b=some o->B.get? b=some o)
noncomputable def bL (P:Program) (w:World):jT:=λl H s E e s'=>∃ad cls H',e=.ref ad/\WO P w l H s H' ad cls s'/\E cls none H'
theorem wq (P:Program) (w:World):qI (bL P w):=λ_ _ _ _ _ ⟨_,_,_,_,_,h⟩=>h
section
variable {P : Program} {w : World} {K : PySem.W.Frag} {mg : Str -> Option Value} {base : Heap} {N : List Str} {qual : Str} {scope : Scope} {f : Addr} {cD : Value} {A : Around} {outer : List Env} {s0 : Shared} {H0 : Hp} {E : XK}
end
end L2
namespace L2
open PySem PySem.Spec PyProof.Rows PySem.W
abbrev WQ:List Value:=[.type "ValueError",.type "Exception",.type "BaseException",.type "object"]
abbrev UD:String:="ValueError.__new__"
noncomputable def tRaise (C:Addr) (E:XK) (t:TA):TS:=λ_ σ H=>t σ H λvs H1=>vs.length<=sizeLine/\E (.ref C) none H1
section
variable {P : Program} {w : World} {K : PySem.W.Frag} {mg : Str -> Option Value} {base : Heap} {N : List Str} {qual : Str} {scope : Scope} {f : Addr} {cD : Value} {A : Around} {outer : List Env} {s0 : Shared} {H0 : Hp} {E : XK}
end
section
variable {X : Cx} {pins : List (Addr × Obj)} {σ : St} {H H' : Hp} {s s' : Shared}
abbrev Cx.mark (X:Cx) (ad:Addr):Cx:={X with A:=X.A.mark (some (.ref ad)),calm:=false,xe:=λ_ _=>False}
end
section
variable {X : Cx} {CX : jT} {k : Nat} {x : Str} {ps : List Str} {sp : Sp} {E : XK} {e : Expr} {es : List Expr} {t : TA} {p pos : Pos}
variable {cx n : Str} {np WR WS kT : Pos} {b₀ : Stmt} {UE : List Stmt} {i : Nat} {ts : TS} {C2 : Addr}
end
end L2
namespace Nm
noncomputable def st (a b:Int):Int:=if b<0 then -(a / g a b) else a / g a b
noncomputable def sb (a b:Int):Int:=if b<0 then -(b / g a b) else b / g a b
set_option tactic.hygienic true in
theorem zk {a b:Int} (h:b≠0):0<sb a b:=by
 have g0:=iC (a:=a) h
 unfold sb
 split
 ·rename_i hb
  have h1:0< (-b) / g a b:=Int.ediv_pos_of_pos_of_dvd (by omega) (ES a b) (Int.dvd_neg.mpr (eM a b))
  rw[Int.neg_ediv_of_dvd (eM a b)] at h1
  exact h1
 ·exact Cf (by omega)
theorem Ci (a b:Int):g a (-b)=g a b:=by rw[qJ,DK,qJ]
theorem zm {a b:Int} (h:b≠0):g (st a b) (sb a b)=1:=by
 have e:=Ce (a:=a) h
 unfold st sb
 split
 ·rw[DK,Ci];exact e
 ·exact e
theorem tj (a b:Int):st a b*b=a*sb a b:=by
 have e:=yc a b
 unfold st sb
 split
 ·rw[Int.neg_mul,e,Int.mul_neg]
 ·exact e
theorem EU {a b:Int} (h:b≠0):(st a b).natAbs<=a.natAbs:=by
 have:=dN (iC (a:=a) h) (jt a b)
 unfold st
 split <;>omega
theorem EV {a b:Int} (h:b≠0):(sb a b).natAbs<=b.natAbs:=by
 have:=dN (iC (a:=a) h) (eM a b)
 unfold sb
 split <;>omega
theorem nh {a b:Int} (h:0<b):st a b=a / g a b/\sb a b=b / g a b:=by
 unfold st sb
 rw[if_neg (by omega),if_neg (by omega)]
 exact⟨rfl,rfl⟩
end Nm
namespace L2
open PySem PySem.Spec PyProof.Rows
section
variable {P : Program} {w : World} {K : PySem.W.Frag} {mg : Str -> Option Value} {base : Heap} {CX : jT}
end
noncomputable def noStar:Expr->Bool
 | .Starred _ _=>false
 | _=>true
theorem se {e:Expr} {es:List Expr} {env:Env} (h:noStar e=true):starEach (e::es) env=(false,eval e env)::starEach es env:=by
 cases e <;>first | rfl | exact absurd h aay
theorem na {env:Env} {pos:Pos}:∀{es:List Expr},es.all noStar=true->(backTo pos (starEach es env)).any (·.1)=false
 | [],_=>rfl
 | e::es,h=>by
  rw[List.all_cons,aa7] at h
  rw[se h.1]
  show(false || (backTo pos (starEach es env)).any (·.1))=false
  rw[na h.2]
  rfl
end L2
namespace L2
open PySem PySem.Spec PyProof.Rows PySem.W
structure L3 (K:PySem.W.Frag) (C:Addr):Prop where
 cls:(clsIn K C).isSome=true
 ga:findIn K (.ref C) "__getattribute__"=some (some (.builtin "BaseException.__getattribute__"))
 gt:findIn K (.ref C) "__getattr__"=some none
 cl:findIn K (.ref C) "__class__"=some (some (.builtin "object.__class__"))
 be:mroIn K C (.type "BaseException")=some true
 ob:mroIn K C (.type "object")=some true
section
variable {prog : Program} {w : World} {A : Around} {E : Value -> Shared -> Prop} {K : PySem.W.Frag} {h : Heap} {g : Array GenState} {d : Drawn} {t : Nat} {os : OsState} {a C : Addr} {o : Obj}
end
section
variable {X : Cx}
end
end L2
namespace L2
open PySem PySem.Spec PyProof.Rows
theorem iR {env:Env}:∀(names:List (Str×NameKind)) (cs:List (Str×Addr)),(∀n,(n,NameKind.free)∈names->∃c,env.cells.lookup n=some c)->(∀x c,cs.lookup x=some c->env.cells.lookup x=some c)->
  ∃cl,(forIn names cs fun(x:Str×NameKind) (r:List (Str×Addr))=>(if (x.2==NameKind.free)=true then do let c <-cellOf env x.1;pure (ForInStep.yield ((x.1,c)::r)) else pure (ForInStep.yield r):Sem (ForInStep (List (Str×Addr)))))=pure cl/\
   (∀x c,cl.lookup x=some c->env.cells.lookup x=some c)/\(∀n,((n,NameKind.free)∈names\/(cs.lookup n).isSome=true)->∃c,cl.lookup n=some c)/\(∀x c,(x,c)∈cl->(env.cells.lookup x=some c/\(x,NameKind.free)∈names)\/(x,c)∈cs)
 | [],cs,_,h=>⟨cs,rfl,h,(λn hn=>by
   rcases hn with hn | hn
   ·exact absurd hn (by simp)
   ·exact Option.isSome_iff_exists.mp hn),λx c m=>.inr m⟩
 | (n,k)::r,cs,hf,h=>by
  by_cases hk:k=.free
  ·subst hk
   obtain⟨c,hc⟩:=hf n aaj
   obtain⟨cl,e,h1,h2,h3⟩:=iR r ((n,c)::cs) (λm hm=>hf m (aak _ hm)) (λx c' hx=>by
    rw[aaN] at hx
    cases q:x==n with
    | true=>
     rw[q] at hx
     have e1:x=n:=by simpa using q
     cases hx
     rw[e1];exact hc
    | false=>rw[q] at hx;exact h x c' hx)
   refine⟨cl,?_,h1,λm hm=>h2 m ?_,λx c' m=>?_⟩
   rotate_left 2
   ·rcases h3 x c' m with ⟨q1,q2⟩ | m
    ·exact .inl ⟨q1,aak _ q2⟩
    ·rcases List.mem_cons.mp m with e | m
     ·cases e
      exact .inl ⟨hc,aaj⟩
     ·exact .inr m
   ·rw[List.forIn_cons]
    have WU:cellOf env n=pure c:=by unfold cellOf;rw[hc]
    simp only[beq_self_eq_true,if_true,WU,pure_bind]
    exact e
   ·rcases hm with hm | hm
    ·rcases List.mem_cons.mp hm with z | z
     ·cases z
      right
      rw[aaN]
      simp
     ·exact .inl z
    ·right
     rw[aaN]
     cases q:m==n with
     | true=>rfl
     | false=>exact hm
  ·obtain⟨cl,e,h1,h2,h3⟩:=iR r cs (λm hm=>hf m (aak _ hm)) h
   refine⟨cl,?_,h1,λm hm=>h2 m ?_,λx c' m=>(h3 x c' m).imp (λq=>⟨q.1,aak _ q.2⟩) id⟩
   ·rw[List.forIn_cons]
    have:(k==NameKind.free)=false:=by simpa using hk
    simp only[this,Bool.false_eq_true,if_false,pure_bind]
    exact e
   ·rcases hm with hm | hm
    ·rcases List.mem_cons.mp hm with z | z
     ·cases z;exact absurd rfl hk
     ·exact .inl z
    ·exact .inr hm
theorem eX {env:Env} {scope:Scope} (hf:∀n,(n,NameKind.free)∈scope.names->∃c,env.cells.lookup n=some c):
  ∃cl,closureFor scope env=pure cl/\(∀x c,cl.lookup x=some c->env.cells.lookup x=some c)/\(∀n,(n,NameKind.free)∈scope.names->∃c,cl.lookup n=some c)/\(∀x c,(x,c)∈cl->env.cells.lookup x=some c/\(x,NameKind.free)∈scope.names):=by
 obtain⟨cl,e,h1,h2,h3⟩:=iR (env:=env) scope.names [] hf (λx c h=>by simp at h)
 refine⟨cl,?_,h1,λn hn=>h2 n (.inl hn),λx c m=>(h3 x c m).elim id λz=>absurd z (by simp)⟩
 unfold closureFor
 simp only[bind_pure]
 exact e
structure en (N:List Str) (so:Scope) (N':List Str) (scope:Scope) (k:Nat) (fr:List Nat):Prop where
 kind:scope.kind=.function
 EW:∀y∈scope.names,y.2=.cell->scope.names.lookup y.1=some .cell/\(y.1,NameKind.free)∉scope.names
 locs:∀y∈scope.names,y.2=.local->scope.names.lookup y.1=some .local
 outer:∀y∈scope.names,y.2=.free->(so.names.lookup y.1=some .cell\/so.names.lookup y.1=some .free)
 len:N'.length=k+fr.length
 at_:∀t,t<fr.length->(fr[t]?).bind (λj=>N[j]?)=N'[k+t]?
 L4:∀x∈N'.drop k,scope.names.lookup x=some .free
noncomputable def stC (k:Nat) (fr:List Nat) (σ:St):St:=List.replicate k none++fr.map λj=>(σ[j]?).join
noncomputable def kX (X:Cx) (N:List Str) (scope:Scope) (cl:List (Str×Addr)) (C:Addr) (s:Shared) (H:Hp) (ex:List Addr):Cx where
 prog:=X.prog
 w:=X.w
 K:=X.K
 mg:=X.mg
 base:=X.base
 A:=X.A
 N:=N
 s₀:=s
 H₀:=H
 env:=compEnvC scope cl C X.env
 outer:=X.stack
 stack:=X.stack
 ex:=ex
 calm:=X.calm
 fn:=λx=>scope.names.lookup x==some .cell
 pn:=[]
 xe:=λ_ _=>False
theorem d3 {env:Env}:∀{names:List (Str×NameKind)} {x:Str},names.lookup x=some .free->
  (names.map fun(n,k)=>if (k==NameKind.free && env.scope.kind==.function && env.kindOf n==some .cell) then (n,NameKind.cell) else (n,k)).lookup x=some .cell\/
  (names.map fun(n,k)=>if (k==NameKind.free && env.scope.kind==.function && env.kindOf n==some .cell) then (n,NameKind.cell) else (n,k)).lookup x=some .free
 | [],_,h=>by simp at h
 | (n,k)::r,x,h=>by
  have ih:=@d3 env r x
  show List.lookup x ((if (k==NameKind.free && env.scope.kind==.function && env.kindOf n==some .cell)=true then (n,NameKind.cell) else (n,k))::_)=_\/List.lookup x ((if (k==NameKind.free && env.scope.kind==.function && env.kindOf n==some .cell)=true then (n,NameKind.cell) else (n,k))::_)=_
  cases hx:x==n with
  | true=>
   simp only[aaN,hx] at h
   cases h
   by_cases hc:(NameKind.free==NameKind.free && env.scope.kind==.function && env.kindOf n==some .cell)=true
   ·rw[if_pos hc];left;simp [aaN,hx]
   ·rw[if_neg hc];right;simp [aaN,hx]
  | false=>
   simp only[aaN,hx] at h
   by_cases hc:(k==NameKind.free && env.scope.kind==.function && env.kindOf n==some .cell)=true
   ·rw[if_pos hc];simp only[aaN,hx];exact ih h
   ·rw[if_neg hc];simp only[aaN,hx];exact ih h
theorem ju {env:Env}:∀{names:List (Str×NameKind)} {x:Str},
  ((names.map fun(n,k)=>if (k==NameKind.free && env.scope.kind==.function && env.kindOf n==some .cell) then (n,NameKind.cell) else (n,k)).lookup x=some .cell\/
  (names.map fun(n,k)=>if (k==NameKind.free && env.scope.kind==.function && env.kindOf n==some .cell) then (n,NameKind.cell) else (n,k)).lookup x=some .free)->(x,NameKind.free)∈names\/(x,NameKind.cell)∈names
 | [],_,h=>by simp at h
 | (n,k)::r,x,h=>by
  have ih:=@ju env r x
  have up:((x,NameKind.free)∈r\/(x,NameKind.cell)∈r)->((x,NameKind.free)∈(n,k)::r\/(x,NameKind.cell)∈(n,k)::r):=λz=>z.imp (aak _) (aak _)
  have h:List.lookup x ((if (k==NameKind.free && env.scope.kind==.function && env.kindOf n==some .cell)=true then (n,NameKind.cell) else (n,k))::_)=_\/List.lookup x ((if (k==NameKind.free && env.scope.kind==.function && env.kindOf n==some .cell)=true then (n,NameKind.cell) else (n,k))::_)=_:=h
  cases hx:x==n with
  | true=>
   have e1:x=n:=by simpa using hx
   subst e1
   by_cases hc:(k==NameKind.free && env.scope.kind==.function && env.kindOf x==some .cell)=true
   ·have:k=.free:=by
     simp only[aa7] at hc
     simpa using hc.1.1
    subst this
    exact .inl aaj
   ·rw[if_neg hc] at h
    simp only[aaN,hx] at h
    rcases h with h | h
    ·cases h;exact .inr aaj
    ·cases h;exact .inl aaj
  | false=>
   by_cases hc:(k==NameKind.free && env.scope.kind==.function && env.kindOf n==some .cell)=true
   ·rw[if_pos hc] at h;simp only[aaN,hx] at h;exact up (ih h)
   ·rw[if_neg hc] at h;simp only[aaN,hx] at h;exact up (ih h)
theorem jV:∀(names:List (Str×NameKind)) (h:Heap) (acc:List (Str×Addr)) (x:Str) (c:Addr),(x,c)∈cellsFrom h.objs.size names acc->
  (x,c)∈acc\/(h.objs.size<=c/\(pushCells h names).IsCell c none/\(x,NameKind.cell)∈names)
 | [],h,acc,x,c,m=>.inl m
 | (n,k)::r,h,acc,x,c,m=>by
  unfold cellsFrom at m
  unfold pushCells
  by_cases hk:(k==NameKind.cell)=true
  ·rw[if_pos hk] at m ⊢
   have ih:=jV r (h.push {cls:=.type "cell",data:=.cell none}) ((n,h.objs.size)::acc) x c
   rw[Heap.size_push] at ih
   rcases ih m with m | ⟨q1,q2,q3⟩
   ·rcases List.mem_cons.mp m with e | m
    ·cases e
     have hk:k=.cell:=by simpa using hk
     subst hk
     refine .inr ⟨aah _,?_,aaj⟩
     have q:(h.push {cls:=.type "cell",data:=.cell none}).IsCell h.objs.size none:=⟨_,Heap.get?_push_size _ rfl,rfl⟩
     exact q.keeps λb o e=>pushCells_keeps r _ b o e
    ·exact .inl m
   ·exact .inr ⟨by omega,q2,aak _ q3⟩
  ·rw[if_neg hk] at m ⊢
   rcases jV r h acc x c m with m | ⟨q1,q2,q3⟩
   ·exact .inl m
   ·exact .inr ⟨q1,q2,aak _ q3⟩
theorem jW:∀(names:List (Str×NameKind)) (n lo:Nat) (acc:List (Str×Addr)),(∀x c,(x,c)∈acc->c<n)->(∀x y c,lo<=c->(x,c)∈acc->(y,c)∈acc->x=y)->
  ∀x y c,lo<=c->(x,c)∈cellsFrom n names acc->(y,c)∈cellsFrom n names acc->x=y
 | [],n,lo,acc,h1,h2,x,y,c,hl,m1,m2=>h2 x y c hl m1 m2
 | (z,k)::r,n,lo,acc,h1,h2,x,y,c,hl,m1,m2=>by
  unfold cellsFrom at m1 m2
  by_cases hk:(k==NameKind.cell)=true
  ·rw[if_pos hk] at m1 m2
   refine jW r (n+1) lo _ (λx c m=>?_) (λx y c hl m1 m2=>?_) x y c hl m1 m2
   ·rcases List.mem_cons.mp m with e | m
    ·cases e;exact aaM _
    ·exact abl (h1 x c m)
   ·rcases List.mem_cons.mp m1 with e1 | m1 <;>rcases List.mem_cons.mp m2 with e2 | m2
    ·cases e1;cases e2;rfl
    ·cases e1;exact absurd (h1 _ _ m2) (aaI _)
    ·cases e2;exact absurd (h1 _ _ m1) (aaI _)
    ·exact h2 x y c hl m1 m2
  ·rw[if_neg hk] at m1 m2
   exact jW r n lo acc h1 h2 x y c hl m1 m2
theorem fP:∀(names:List (Str×NameKind)) (n:Nat) (acc:List (Str×Addr)) (x:Str),(x,NameKind.cell)∉names->(cellsFrom n names acc).lookup x=acc.lookup x
 | [],n,acc,x,_=>rfl
 | (z,k)::r,n,acc,x,h=>by
  have hr:(x,NameKind.cell)∉r:=λm=>h (aak _ m)
  unfold cellsFrom
  by_cases hk:(k==NameKind.cell)=true
  ·rw[if_pos hk,fP r _ _ x hr,aaN]
   have hk:k=.cell:=by simpa using hk
   subst hk
   have:(x==z)=false:=by
    cases q:x==z with
    | false=>rfl
    | true=>
     have e:x=z:=by simpa using q
     subst e
     exact absurd aaj h
   rw[this]
  ·rw[if_neg hk]
   exact fP r n acc x hr
theorem jX:∀(names:List (Str×NameKind)) (n:Nat) (acc:List (Str×Addr)) (x:Str),((x,NameKind.cell)∈names\/(acc.lookup x).isSome=true)->((cellsFrom n names acc).lookup x).isSome=true
 | [],n,acc,x,h=>by
  rcases h with h | h
  ·simp at h
  ·exact h
 | (z,k)::r,n,acc,x,h=>by
  unfold cellsFrom
  by_cases hk:(k==NameKind.cell)=true
  ·rw[if_pos hk]
   refine jX r _ _ x ?_
   rcases h with h | h
   ·rcases List.mem_cons.mp h with e | h
    ·cases e
     right
     rw[aaN]
     simp
    ·exact .inl h
   ·right
    rw[aaN]
    cases q:x==z with
    | true=>rfl
    | false=>exact h
  ·rw[if_neg hk]
   refine jX r _ _ x ?_
   rcases h with h | h
   ·rcases List.mem_cons.mp h with e | h
    ·cases e;exact absurd rfl hk
    ·exact .inl h
   ·exact .inr h
section
variable {M : Model} {A : Around} {E : Value -> Shared -> Prop} {s : Shared}
theorem jv {scope:Scope} {globals:Addr} {closure:List (Str×Addr)} {qual:Str} {func:Option Addr} {code:Value} {outer:Env} {Q:Env->Shared->Prop}
  (hQ:Q (newEnv scope s.heap.objs.size globals (cellsFrom (s.heap.objs.size+1) scope.names closure) qual func code (some outer) builtinsNs)
   {s with heap:=pushCells (s.heap.push {cls:=.type "dict",data:=.dict #[]}) scope.names}):
  wpAny M A (newFunctionEnv scope globals closure [] qual func code (some outer)) Q E s:=by
 simp only[newFunctionEnv,Option.isSome_some,if_true]
 refine wpAny_bind (wpAny_alloc ?_)
 refine wpAny_bind (wpAny_layCells _ (λname kind cells=>by cases WV:kind==NameKind.cell <;>simp [WV]) _ _ _ _ ?_)
 rw[show({s with heap:=s.heap.push {cls:=.type "dict",data:=.dict #[]}}:Shared).heap.objs.size=s.heap.objs.size+1 from Heap.size_push ..]
 refine wpAny_bind ?_
 rw[List.forIn_nil]
 exact wpAny_pure (wpAny_pure hQ)
end
structure EX (X:Cx) (scope:Scope) (cl:List (Str×Addr)) (lo:Nat) (C:Addr) (h1:Heap):Prop where
 old:∀x c,cl.lookup x=some c->X.env.cells.lookup x=some c\/(lo<=c/\C<c/\h1.IsCell c none)
 inj:∀x y c,C<c->cl.lookup x=some c->cl.lookup y=some c->x=y
 has:∀n,(n,NameKind.free)∈scope.names\/(n,NameKind.cell)∈scope.names->∃c,cl.lookup n=some c
 L4:∀n,scope.names.lookup n=some .free->∀c,cl.lookup n=some c->X.env.cells.lookup n=some c
 own:∀x c,scope.names.lookup x=some .cell->cl.lookup x=some c->lo<=c
section
variable {X : Cx} {pins : List (Addr × Obj)} {σ : St} {H : Hp} {s : Shared} {N' : List Str} {scope : Scope} {k : Nat} {fr : List Nat} {cl : List (Str × Addr)}
theorem EY {C:Addr} {fp:List Addr} {h1:Heap} (I:Inv X pins σ H s) (S:en X.N X.env.scope N' scope k fr) (B:EX X scope cl s.heap.objs.size C h1)
  (hC:s.heap.objs.size<=C) (f2:∀b∈fp,iw X pins H b) (lt:∀b∈fp,b<s.heap.objs.size):(kX X N' scope cl C s H fp).Ok where
 mod:=I.ok.mod
 kind:=S.kind
 glob:=I.ok.glob
 blt:=I.ok.blt
 above:=hC
 inj:=λx y c h1 h2=>by
  rcases B.old _ _ h1 with o1 | o1 <;>rcases B.old _ _ h2 with o2 | o2
  ·exact I.ok.inj x y c o1 o2
  ·exact B.inj x y c o2.2.1 h1 h2
  ·exact B.inj x y c o1.2.1 h1 h2
  ·exact B.inj x y c o1.2.1 h1 h2
 has:=λx hx=>B.has x (ju hx)
 GQ:=λx c z e=>B.own x c (by
  have z:(scope.names.lookup x==some NameKind.cell)=true:=z
  simpa using z) e
 hd:=I.ok.hd
 frames:=I.ok.frames
 yL:=.inl rfl
 LD:=λb hb=>⟨aan (aat (lt b hb) hC),λx c e=>(B.old _ _ e).elim (λo=>(f2 b hb).2.2.2.2.1 x c o) λo=>Nat.ne_of_gt (aat (lt b hb) o.1)⟩
 bs:=I.bs
 yM:=aap I.ok.yM I.sz
 xM:=λb o e hb=>by
  rcases(f2 b hb).2.2.2.1 with z | z
  ·exact I.ok.xM b o e z
  ·exact absurd (aat (Heap.lt_size e) (aap I.ok.yM z)) (aaI _)
 yN:=λb hb z=>by
  rcases List.mem_cons.mp (I.qx b z) with q | q
  ·exact(f2 b hb).2.1 q
  ·exact(f2 b hb).2.2.1 q
 jP:=I.stack
 Du:=I.v5
theorem Cj {C:Addr} {fp:List Addr} {h1:Heap} {tk:Nat} {m:Str->Option Value} (I:Inv X pins σ H s) (S:en X.N X.env.scope N' scope k fr) (B:EX X scope cl s.heap.objs.size C h1)
  (hC:s.heap.objs.size<=C) (f2:∀b∈fp,iw X pins H b) (lt:∀b∈fp,b<s.heap.objs.size) (old:∀b o,s.heap.get? b=some o->h1.get? b=some o) (hn:h1.Ns C m):
  Inv (kX X N' scope cl C s H fp) [] (stC k fr σ) H {s with heap:=h1,toks:=tk}:=by
 refine⟨EY I S B hC f2 lt,rfl,I.bare,Un.kept old,⟨m,hn,λi x v e1 e2 e3=>?_⟩,λx c e=>?_,I.bW.fresh hC,λx c e=>(B.old _ _ e).elim (λo=>I.gJ x c o) λo=>I.bW.fresh o.1,λp hp=>absurd (show p∈([]:List (Addr×Obj)) from hp) (by simp),I.bW.kept old,?_⟩
 ·have e1:N'[i]?=some x:=e1
  unfold stC at e2
  by_cases hi:i<k
  ·rw[aa5 (by simpa using hi),List.getElem?_replicate,if_pos hi] at e2
   cases e2
  ·rw[aa4 (by simpa using hi),abe,aaf] at e2
   cases q:fr[i - k]? with
   | none=>rw[q] at e2;cases e2
   | some j=>
    rw[q] at e2
    have e2:(σ[j]?).join=some v:=aax e2
    have ej:σ[j]?=some (some v):=by
     cases z:σ[j]? with
     | none=>rw[z] at e2;cases e2
     | some o=>rw[z] at e2;exact congrArg some e2
    have fQ:i - k<fr.length:=(List.getElem?_eq_some_iff.mp q).1
    have GW:=S.at_ (i - k) fQ
    rw[q,show k+ (i - k)=i by omega,e1] at GW
    have GW:X.N[j]?=some x:=GW
    have WW:x∈N'.drop k:=List.mem_iff_getElem?.mpr ⟨i - k,by rw[List.getElem?_drop,show k+ (i - k)=i by omega];exact e1⟩
    have HU:=S.L4 x WW
    have HV:(x,NameKind.free)∈scope.names:=aba HU
    have Ck:=S.outer _ HV rfl
    obtain⟨m0,hn0,DL⟩:=I.loc
    obtain⟨u,r,l⟩:=DL j x v GW ej (.inr Ck)
    refine⟨u,r,.inr ⟨d3 HU,?_⟩⟩
    rcases l with ⟨kk,_⟩ | ⟨_,c,e,z⟩
    ·have kk:X.env.scope.names.lookup x=some .local:=kk
     rcases Ck with q1 | q1
     ·rw[kk] at q1;cases q1
     ·rw[kk] at q1;cases q1
    ·obtain⟨c',e'⟩:=B.has x (.inl HV)
     have ec:=B.L4 x HU _ e'
     rw[e] at ec
     cases ec
     obtain⟨ob,ho,hd⟩:=z
     exact⟨c,e',ob,old _ _ ho,hd⟩
 ·rcases B.old _ _ e with o | o
  ·obtain⟨v,ob,ho,hd⟩:=I.cell x c o
   exact⟨v,ob,old _ _ ho,hd⟩
  ·exact⟨none,o.2.2⟩
 ·unfold stC
  rw[aaF,abe,aac]
  exact S.len.symm
end
section
variable {prog : Program} {w : World} {A : Around} {E : Value -> Shared -> Prop} {R : Result -> Shared -> Prop} {s : Shared}
theorem gQ {elt target iter:Expr} {ifs:List Expr} {scope:Scope} {pos:Pos} {it acc:Value} {env:Env} (I:Nat->Shared->Prop)
  (turn:∀n s,I n s->wpAny (model prog w) A (pyNext it) (λr s₁=>match r with
   | none=>R (.ok .next) s₁
   | some v=>wpAny (model prog w) A (letOwnedTupleGo target it v) (λ_ UG=>wpAny (model prog w) A (assign target env v) (λ_ s₂=>
     wpAny (model prog w) A (forIn ifs true λc r=>if r=true then do let ok <-isTrue c env (eval c env);pure (ForInStep.yield ok) else pure (ForInStep.yield r)) (λok s₃=>
      if ok=true then wpAny (model prog w) A (eval elt env) (λx s₄=>
       wpAny (model prog w) A (call (.builtin "list.append") [acc,x]) (λ_ s₅=>∃m,m<n/\I m s₅) (λ_ _=>False) s₄) (notedBy (model prog w) A env λx s'=>R (.error x) s') s₃
      else ∃m,m<n/\I m s₃) (λ_ _=>False) s₂) (λ_ _=>False) UG) (λ_ _=>False) s₁) (λ_ _=>False) s)
  (n:Nat) (h:I n s):
  codeAny (model prog w) A (.compLoop (.ListComp elt [⟨target,iter,ifs,0⟩] scope pos) 0 it acc env) R s:=by
 refine codeAny_loop rfl I (λn s hI=>?_) n h
 show wpAny _ A ((compTurn (.ListComp elt [⟨target,iter,ifs,0⟩] scope pos) 0 it acc env).onRaise (λx=>do noteFrame x env;theTreesLotGoes x)) _ _ s
 refine wpAny_noted ?_
 rw[compTurn_list]
 refine wpAny_bind (wpAny_standAt (wpAny_bind (wpAny_mono (turn n s hI) (λr s₁ h₁=>?_) λ_ _ h'=>h'.elim)))
 cases r with
 | none=>exact wpAny_pure h₁
 | some v=>
  refine wpAny_bind (wpAny_mono h₁ (λ_ UG WX=>?_) λ_ _ h'=>h'.elim)
  refine wpAny_bind (wpAny_mono WX (λ_ s₂ h₂=>wpAny_bind (wpAny_mono h₂ (λok s₃ h₃=>?_) λ_ _ h'=>h'.elim)) λ_ _ h'=>h'.elim)
  cases ok with
  | false=>exact wpAny_pure ⟨rfl,h₃⟩
  | true=>
   exact wpAny_bind (wpAny_bind (wpAny_mono h₃ (λx s₄ h₄=>wpAny_bind (wpAny_mono h₄ (λ_ s₅ h₅=>wpAny_pure (wpAny_pure ⟨rfl,h₅⟩)) λ_ _ h'=>h'.elim)) λ_ _ h'=>h'))
end
noncomputable def EZ (X:Cx) (ifs:List Expr) (t:TT):Prop:=
 ∀(pins:List (Addr×Obj)) (s:Shared) (σ:St) (H:Hp) (Q:Bool->Hp->Prop),Inv X pins σ H s->t σ H Q->
  wpAny (model X.prog X.w) X.A (forIn ifs true λc r=>if r=true then do let ok <-isTrue c X.env (eval c X.env);pure (ForInStep.yield ok) else pure (ForInStep.yield r)) (TP X pins σ Q) X.xe s
noncomputable def gD:TT:=λ_ H Q=>Q true H
theorem bO {X:Cx}:EZ X [] gD:=λ_ _ _ H _ I h=>wpAny_tests_nil ⟨H,I,h⟩
theorem mi {X:Cx} {c:Expr} {t:TT} (h:PT X c t):EZ X [c] t:=λpins s σ H Q I hq=>wpAny_tests_one (h pins s σ H Q I hq)
section
variable {X : Cx}
noncomputable def eY (J:It) (g:TG) (tc:TT) (te:TE) (σ0:St) (H1:Hp) (fin:List V->Hp->Prop):Prop:=
 ∃W:Nat->Nat->List V->St->Hp->Prop,(∃m,W 0 m [] σ0 H1)/\∀i m ys σ2 H2,W i m ys σ2 H2->
  (J.stop i H2/\fin ys H2)\/
  (J.go i H2/\∀x H3,J.v7 i H2 x H3->g x σ2 H3 λσ3 H4=>tc σ3 H4 λb H5=>if b=true then te σ3 H5 λy H6=>ys.length<sizeLine/\∃m',m'<m/\W (i+1) m' (ys++ [y]) σ3 H6 else ∃m',m'<m/\W (i+1) m' ys σ3 H5)
noncomputable def eB (aU:List Value) (n:Nat):Obj:={cls:=.type "list",data:=.seq aU.toArray n}
theorem zo {elt target iter:Expr} {ifs:List Expr} {scope:Scope} {pos:Pos} {g:TG} {tc:TT} {te:TE} {k:Nat} {fr:List Nat} {N':List Str} {cl:List (Str×Addr)} {pins:List (Addr×Obj)} {σ:St} {H2:Hp} {s2:Shared}
  {it:Addr} {fp:List Addr} {tn:Nat->Heap->Prop} {J:It} {fin:List V->Hp->Prop} {R0:Result->Shared->Prop} {XE:List (Str×Addr)->Addr->Shared->Hp->List Addr->Value->Shared->Prop}
  (hc:X.calm=true) (S:en X.N X.env.scope N' scope k fr) (c1:∀x c,cl.lookup x=some c->X.env.cells.lookup x=some c) (c2:∀n,(n,NameKind.free)∈scope.names->∃c,cl.lookup n=some c) (cin:∀x c,(x,c)∈cl->∃y,X.env.cells.lookup y=some c) (KN:∀x,(x,NameKind.cell)∈scope.names->∀c,(x,c)∉cl)
  (hg:∀cl C s H ex,PG (kX X N' scope cl C s H ex) target g) (ht:∀cl C s H ex,EZ (kX X N' scope cl C s H ex) ifs tc) (he:∀cl C s H ex,PE ((kX X N' scope cl C s H ex).jQ (XE cl C s H ex)) elt te)
  (I2:Inv X pins σ H2 s2) (T:Turn X.prog X.w X.K target J fp it tn) (uN:tn 0 s2.heap) (f2:∀b∈fp,iw X pins H2 b) (hb:eY J g tc te (stC k fr σ) H2 fin)
  (hR:∀(C:Addr),C=(s2.heap.push {cls:=.type "list",dict:=none,data:=.seq ([]:List Value).toArray}).objs.size->∀(s':Shared) (m:Str->Option Value) (ys:List V) (aU:List Value) (n:Nat) (H':Hp),s2.heap.objs.size<C->s'.heap.Ns C m->bu ys aU->ys.length<=sizeLine->s'.heap.get? s2.heap.objs.size=some (eB aU n)->H' s2.heap.objs.size=none->H' C=none->fin ys H'->
   s'.os=s2.os->AllBare s'.gens->Un (su X.stack) fp H2 H' s2.heap s'.heap->gz X.prog X.w H' s'.heap->R0 (.ok .next) s')
  (hE:∀cl C x s',C=(s2.heap.push {cls:=.type "list",dict:=none,data:=.seq ([]:List Value).toArray}).objs.size->s2.heap.objs.size<C->XE cl C s2 H2 fp x s'->notedBy (model X.prog X.w) X.A (compEnvC scope cl C X.env) (λy EF=>R0 (.error y) EF) x s'):
  codeAny (model X.prog X.w) X.A (.compStart (.ListComp elt [⟨target,iter,ifs,0⟩] scope pos) 0 (.ref it) (.ref s2.heap.objs.size) (compEnvC scope (cellsFrom ((s2.heap.push {cls:=.type "list",dict:=none,data:=.seq ([]:List Value).toArray}).objs.size+1) scope.names cl) (s2.heap.push {cls:=.type "list",dict:=none,data:=.seq ([]:List Value).toArray}).objs.size X.env)) R0 {s2 with heap:=pushCells ((s2.heap.push {cls:=.type "list",dict:=none,data:=.seq ([]:List Value).toArray}).push {cls:=.type "dict",data:=.dict #[]}) scope.names}:=by
 obtain⟨W,⟨m0,w0⟩,turn⟩:=hb
 have lt:∀b∈fp,b<s2.heap.objs.size:=λb hb=>by
  obtain⟨o,e,_⟩:=T.obj _ _ uN b hb
  exact Heap.lt_size e
 generalize L5:s2.heap.push {cls:=.type "list",dict:=none,data:=.seq ([]:List Value).toArray}=G2 at hR hE ⊢
 have GX:G2.objs.size=s2.heap.objs.size+1:=by rw[<-L5,Heap.size_push]
 have UH:s2.heap.objs.size≠G2.objs.size:=by rw[GX];exact aan (aaM _)
 have hC:s2.heap.objs.size<=G2.objs.size:=by rw[GX];exact Nat.le_succ _
 have old:∀b o,s2.heap.get? b=some o->(pushCells (G2.push {cls:=.type "dict",data:=.dict #[]}) scope.names).get? b=some o:=λb o e=>by
  refine pushCells_keeps _ _ b o (Heap.get?_push_of_some _ ?_)
  rw[<-L5]
  exact Heap.get?_push_of_some _ e
 have Cm:(pushCells (G2.push {cls:=.type "dict",data:=.dict #[]}) scope.names).get? s2.heap.objs.size=some (eB [] 0):=by
  refine pushCells_keeps _ _ _ _ (Heap.get?_push_of_some _ ?_)
  rw[<-L5]
  exact Heap.get?_push_size _ rfl
 have L6:(pushCells (G2.push {cls:=.type "dict",data:=.dict #[]}) scope.names).Ns G2.objs.size λ_=>none:=(Heap.Ns.new G2 (.type "dict")).keeps (pushCells_keeps _ _)
 have UI:∀x c,(x,c)∈cl->c<G2.objs.size+1:=λx c m=>by
  obtain⟨y,hy⟩:=cin x c m
  obtain⟨v,q⟩:=I2.cell y c hy
  rw[GX]
  exact abl (abl q.lt)
 have B:EX X scope (cellsFrom (G2.objs.size+1) scope.names cl) s2.heap.objs.size G2.objs.size (pushCells (G2.push {cls:=.type "dict",data:=.dict #[]}) scope.names):=by
  have own:=jV scope.names (G2.push {cls:=.type "dict",data:=.dict #[]}) cl
  rw[Heap.size_push] at own
  refine⟨λx c e=>?_,λx y c hc h1 h2=>?_,λn hn=>?_,λn hn c e=>?_,λx c hx e=>?_⟩
  ·by_cases hx:(x,NameKind.cell)∈scope.names
   ·rcases own x c (aba e) with m | ⟨q1,q2,_⟩
    ·
     exfalso
     exact KN x hx c m
    ·exact .inr ⟨aap hC (Nat.le_of_succ_le q1),q1,q2⟩
   ·rw[fP _ _ _ _ hx] at e
    exact .inl (c1 x c e)
  ·exact jW scope.names (G2.objs.size+1) (G2.objs.size+1) cl UI (λx y c hl m1 _=>absurd (UI x c m1) (Nat.not_lt.mpr hl)) x y c hc (aba h1) (aba h2)
  ·refine Option.isSome_iff_exists.mp (jX _ _ _ n ?_)
   rcases hn with hn | hn
   ·obtain⟨c,e⟩:=c2 n hn
    exact .inr (by rw[e];rfl)
   ·exact .inl hn
  ·have hx:(n,NameKind.cell)∉scope.names:=λm=>by
    have:=(S.EW _ m rfl).1
    rw[hn] at this
    cases this
   rw[fP _ _ _ _ hx] at e
   exact c1 n c e
  ·have hx:=aba hx
   rcases own x c (aba e) with m | ⟨q1,q2,_⟩
   ·exact absurd m (KN x hx c)
   ·exact aap hC (Nat.le_of_succ_le q1)
 generalize pushCells (G2.push {cls:=.type "dict",data:=.dict #[]}) scope.names=h₁ at *
 generalize cellsFrom (G2.objs.size+1) scope.names cl=u9 at *
 generalize E1:s2.heap.objs.size=D at *
 generalize hCc:G2.objs.size=C at *
 have fD:H2 D=none:=by rw[<-E1];exact I2.bW.fresh (aah _)
 have cells:∀x c,u9.lookup x=some c->c≠D:=λx c e=>by
  rcases B.old _ _ e with o | o
  ·obtain⟨v,q⟩:=I2.cell x c o
   rw[<-E1]
   exact aan q.lt
  ·exact Nat.ne_of_gt (Nat.lt_trans (by rw[GX];exact aaM _) o.2.1)
 have loop:∀(DD:Addr) (s3:Shared),DD=it->(∃tk,s3={s2 with heap:=h₁,toks:=tk})->
   codeAny (model X.prog X.w) X.A (.compLoop (.ListComp elt [⟨target,iter,ifs,0⟩] scope pos) 0 (.ref DD) (.ref D) (compEnvC scope u9 C X.env)) R0 s3:=by
  rintro DD s3 rfl ⟨tk,rfl⟩
  have I3:Inv (kX X N' scope u9 C s2 H2 fp) [] (stC k fr σ) H2 {s2 with heap:=h₁,toks:=tk}:=Cj I2 S (by rw[E1];exact B) (by rw[E1];exact hC) f2 (by rw[E1];exact lt) old L6
  have uO:∀{H':Hp} {o:Obj},(∀b∈fp,H' b=none)->∀b∈fp,iw (kX X N' scope u9 C s2 H2 fp) [(D,o)] H' b:=λ{H' o} hn b hb=>
   ⟨hn b hb,aan (aat (lt b hb) hC),λz=>by
    rcases List.mem_cons.mp (I2.qx b z) with q | q
    ·exact(f2 b hb).2.1 q
    ·exact(f2 b hb).2.2.1 q,.inl hb,λx c e=>(B.old _ _ e).elim (λo=>(f2 b hb).2.2.2.2.1 x c o) (λo=>Nat.ne_of_gt (aat (lt b hb) o.1)),λp hp=>by
    have e:p=(D,o):=by simpa [kX] using hp
    rw[e]
    exact Nat.ne_of_gt (lt b hb)⟩
  have L7:∀{σ':St} {H':Hp} {s':Shared} {o:Obj},Inv (kX X N' scope u9 C s2 H2 fp) [] σ' H' s'->s'.heap.get? D=some o->H' D=none->(∀v,o.data≠.cell v)->Inv (kX X N' scope u9 C s2 H2 fp) [(D,o)] σ' H' s':=λ{σ' H' s' o} I' e n hd=>
   I'.jm λp hp=>by
    have q:p=(D,o):=by simpa using hp
    subst q
    refine⟨e,n,UH,λz=>?_,hd⟩
    obtain⟨_,ob,ho,_⟩:=I2.stack.mem z
    exact absurd (Heap.lt_size ho) (by rw[E1];exact aaI _)
  have WY:∀{aU:List Value} {n:Nat} (v:Option Value),(eB aU n).data≠.cell v:=λv z=>by
   have z:Data.seq _ _=Data.cell v:=z
   cases z
  refine gQ (λn s'=>∃i ys σ' H' aU yG,Inv (kX X N' scope u9 C s2 H2 fp) [] σ' H' s'/\tn i s'.heap/\(∀b∈fp,H' b=none)/\s'.heap.get? D=some (eB aU yG)/\H' D=none/\bu ys aU/\ys.length<=sizeLine/\W i n ys σ' H') ?_ m0
   ⟨0,[],_,H2,[],0,I3,T.keep _ _ _ uN (λb _ o e=>old b o e),λb hb=>(f2 b hb).1,Cm,fD,.nil,aar _,w0⟩
  rintro n s4 ⟨i,ys,σ4,H4,aU,yG,I4,UJ,UK,WZ,UL,KO,UM,w4⟩
  have UN:=L7 I4 WZ UL WY
  rcases turn i n ys σ4 H4 w4 with ⟨stop,qf⟩ | ⟨go,step⟩
  ·refine cy (T.done (kX X N' scope u9 C s2 H2 fp) rfl rfl rfl hc i _ s4 σ4 H4 _ UN (uO UK) UJ stop) λr s5 ⟨hr,I5⟩=>?_
   subst hr
   obtain⟨m5,W3,_⟩:=I5.loc
   exact hR C rfl s5 m5 ys aU yG H4 (by rw[GX];exact aaM _) W3 KO UM (I5.pin (D,eB aU yG) (aaJ _ aaj)).1 UL I5.free qf I5.os I5.bare I5.base I5.bW
  ·refine cy (T.item (kX X N' scope u9 C s2 H2 fp) rfl rfl rfl hc i _ s4 σ4 H4 _ UN (uO UK) UJ go) λr s5 ⟨u,hr,h5⟩=>?_
   subst hr
   refine cy h5 λ_ s6 cU=>?_
   obtain⟨x,H6,I6,r6,y6,L8,W4⟩:=cU
   have W5:=I6.pinned (uO W4) (T.obj _ _ L8)
   refine cy (hg u9 C s2 H2 fp _ s6 σ4 H6 x u _ W5 r6 (step x H6 y6)) λ_ s7 ⟨σ7,H7,I7,q7⟩=>?_
   refine cy (ht u9 C s2 H2 fp _ s7 σ7 H7 _ I7 q7) λok s8 ⟨H8,I8,q8⟩=>?_
   have back:∀{σ':St} {H':Hp} {s':Shared},Inv (kX X N' scope u9 C s2 H2 fp) ([(D,eB aU yG)]++mT fp s6.heap) σ' H' s'->tn (i+1) s'.heap/\(∀b∈fp,H' b=none)/\s'.heap.get? D=some (eB aU yG)/\H' D=none:=λ{σ' H' s'} I'=>by
    have pD:=I'.pin (D,eB aU yG) (aaJ _ (abr _ (by simp)))
    refine⟨T.keep _ _ _ L8 λb hb o e=>(I'.pin (b,o) (aaJ _ (aaJ _ (fN hb e)))).1,λb hb=>?_,pD.1,pD.2.1⟩
    obtain⟨o,e,d⟩:=T.obj _ _ L8 b hb
    exact(I'.pin (b,o) (aaJ _ (aaJ _ (fN hb e)))).2.1
   cases ok with
   | false=>
    rw[if_neg aay]
    rw[if_neg aay] at q8
    obtain⟨m',hm,w8⟩:=q8
    obtain⟨b1,b2,b3,b4⟩:=back I8
    exact⟨m',hm,i+1,ys,σ7,H8,aU,yG,I8.jm (λp hp=>absurd hp (by simp)),b1,b2,b3,b4,KO,UM,w8⟩
   | true=>
    rw[if_pos rfl]
    rw[if_pos rfl] at q8
    refine wpAny_mono (he u9 C s2 H2 fp _ s8 σ7 H8 _ (I8.jQ _) q8) (λy s9 ⟨z,H9,I9,r9,fQ,m',hm,w9⟩=>?_) λx s' hx=>hE u9 C x s' rfl (by rw[GX];exact aaM _) hx
    have I9:=I9.fL
    obtain⟨b1,b2,b3,b4⟩:=back I9
    have hl:=KO.length
    refine call_meets F.slot_list_append ⟨_,b3,rfl⟩ F.entry_list_append (F.args_list_append_2 _ _) (PySem.list_append D aU.toArray yG y (by rw[aam];omega)) ⟨b3,?_⟩
    obtain⟨c',q⟩:∃c',(s9.heap.update D (Obj.mapSeq λx=>x.push y)).get? D=some (eB (aU++ [y]) c'):=by
     have q:=PySem.IsL.update b3 (λx=>x.push y)
     rw[show aU.toArray.push y=(aU++ [y]).toArray by simp] at q
     exact⟨_,q⟩
    have W6:Inv (kX X N' scope u9 C s2 H2 fp) [] σ7 H9 s9:=I9.jm (λp hp=>absurd hp (by simp))
    have kp:∀b o,b≠D->s9.heap.get? b=some o->(s9.heap.update D (Obj.mapSeq λx=>x.push y)).get? b=some o:=λb o hb e=>(Heap.get?_update_other s9.heap (Obj.mapSeq λx=>x.push y) (Ne.symm hb)).trans e
    have W7:=W6.turned (t':=s9.toks) (it:=D) (h':=s9.heap.update D (Obj.mapSeq λx=>x.push y)) kp b4 UH (.inr (by show s2.heap.objs.size<=D;rw[E1];exact aah _)) (λx c e=>cells x c e) (λp hp=>absurd hp (by simp [kX]))
    refine⟨m',hm,i+1,ys++ [z],σ7,H9,aU++ [y],c',W7,T.keep _ _ _ b1 (λb hb o e=>kp b o (aan (lt b hb)) e),b2,q,b4,KO.append (.cons r9 .nil),?_,w9⟩
    ·rw[aaF,List.length_singleton]
     omega
 exact codeAny_compStart_list (loop it _ rfl ⟨_,rfl⟩) (T.self _ 0 _ _ _ (T.keep _ _ _ uN (λb _ o e=>old b o e)) (loop it _ rfl ⟨_,rfl⟩))
theorem pT {elt target iter:Expr} {ifs:List Expr} {scope:Scope} {pos:Pos} {g:TG} {tc:TT} {te:TE} {k:Nat} {fr:List Nat} {N':List Str} {cl:List (Str×Addr)} {pins:List (Addr×Obj)} {σ:St} {H2:Hp} {s2:Shared}
  {it:Addr} {fp:List Addr} {tn:Nat->Heap->Prop} {J:It} {E:Value->Shared->Prop} {fin:List V->Hp->Prop} {RR:Value->Addr->Result->Shared->Prop} {XE:List (Str×Addr)->Addr->Shared->Hp->List Addr->Value->Shared->Prop}
  (hc:X.calm=true) (S:en X.N X.env.scope N' scope k fr) (c1:∀x c,cl.lookup x=some c->X.env.cells.lookup x=some c) (c2:∀n,(n,NameKind.free)∈scope.names->∃c,cl.lookup n=some c) (cin:∀x c,(x,c)∈cl->∃y,X.env.cells.lookup y=some c) (KN:∀x,(x,NameKind.cell)∈scope.names->∀c,(x,c)∉cl)
  (hg:∀cl C s H ex,PG (kX X N' scope cl C s H ex) target g) (ht:∀cl C s H ex,EZ (kX X N' scope cl C s H ex) ifs tc) (he:∀cl C s H ex,PE ((kX X N' scope cl C s H ex).jQ (XE cl C s H ex)) elt te)
  (I2:Inv X pins σ H2 s2) (T:Turn X.prog X.w X.K target J fp it tn) (uN:tn 0 s2.heap) (f2:∀b∈fp,iw X pins H2 b) (hb:eY J g tc te (stC k fr σ) H2 fin)
  (hR:∀(C:Addr) (s':Shared) (m:Str->Option Value) (ys:List V) (aU:List Value) (n:Nat) (H':Hp),s2.heap.objs.size<C->s'.heap.Ns C m->bu ys aU->ys.length<=sizeLine->s'.heap.get? s2.heap.objs.size=some (eB aU n)->H' s2.heap.objs.size=none->H' C=none->fin ys H'->
   s'.os=s2.os->AllBare s'.gens->Un (su X.stack) fp H2 H' s2.heap s'.heap->gz X.prog X.w H' s'.heap->RR (.ref s2.heap.objs.size) C (.ok .next) s')
  (hE:∀cl C x s',s2.heap.objs.size<C->XE cl C s2 H2 fp x s'->notedBy (model X.prog X.w) X.A (compEnvC scope cl C X.env) (λy EF=>RR (.ref s2.heap.objs.size) C (.error y) EF) x s'):
  wpAny (model X.prog X.w) X.A (newList []) (λacc s₃=>wpAny (model X.prog X.w) X.A (newFunctionEnv scope X.env.globals cl [] X.env.qual none .none (some X.env)) (λHW s₄=>
   codeAny (model X.prog X.w) X.A (.compStart (.ListComp elt [⟨target,iter,ifs,0⟩] scope pos) 0 (.ref it) acc {HW with scope:=relabel scope X.env}) (RR acc HW.locals) s₄) E s₃) E s2:=by
 refine wpAny_newObj_type (jv ?_)
 exact zo (R0:=RR _ _) hc S c1 c2 cin KN hg ht he I2 T uN f2 hb (λC e=>by subst e;exact hR _) (λcl C x s' e=>by subst e;exact hE cl _ x s')
theorem comp_back {fp:List Addr} {pins:List (Addr×Obj)} {σ:St} {H2 H':Hp} {s2 s':Shared} {C:Addr} {ys:List V} {aU:List Value} {n:Nat} {h':Heap} (I2:Inv X pins σ H2 s2) (f2:∀b∈fp,iw X pins H2 b) (hC:s2.heap.objs.size<C)
  (vl:bu ys aU) (sz:ys.length<=sizeLine) (hD:s'.heap.get? s2.heap.objs.size=some (eB aU n)) (nD:H' s2.heap.objs.size=none) (nC:H' C=none)
  (os:s'.os=s2.os) (bare:AllBare s'.gens) (un:Un (su X.stack) fp H2 H' s2.heap s'.heap) (bW:gz X.prog X.w H' s'.heap) (hs:Heap.SameBut C s'.heap h'):
  Inv X pins σ (upd H' s2.heap.objs.size (.lst ys)) {s' with heap:=h'}:=by
 have L9:∀b o,s2.heap.get? b=some o->b≠C:=λb o e=>aan (Nat.lt_trans (Heap.lt_size e) hC)
 have W8:∀b o,s2.heap.get? b=some o->b≠s2.heap.objs.size:=λb o e=>aan (Heap.lt_size e)
 have tk:∀b u,H' b=some u->b≠s2.heap.objs.size:=λb u e z=>by rw[z,nD] at e;cases e
 have tC:∀b u,H' b=some u->b≠C:=λb u e z=>by rw[z,nC] at e;cases e
 have fD:H2 s2.heap.objs.size=none:=I2.bW.fresh (aah _)
 have t2:∀b u,H2 b=some u->b≠s2.heap.objs.size:=λb u e z=>by rw[z,fD] at e;cases e
 refine I2.Hr (s':={s' with heap:=h'}) (ch:=fp) os ⟨λb o e m hb hx=>?_,λb o e m hb hx=>?_,λb o e m hx=>?_,λb o e hx=>?_,λb xs e=>?_,λb o u e=>?_,λb ps e=>?_⟩ (λb u e=>?_) bare λb hb=>?_
 ·exact(hs.2 b (L9 b o e)).trans (un.keep b o e m hb hx)
 ·obtain⟨sl,q⟩:=un.slot b o e m hb hx
  exact⟨sl,(hs.2 b (L9 b o e)).trans q⟩
 ·rw[aH (W8 b o e)]
  exact un.free b o e m hx
 ·obtain⟨o',q⟩:=un.there b o e hx
  exact⟨o',(hs.2 b (L9 b o e)).trans q⟩
 ·rw[aH (t2 b _ e)]
  exact un.kR b xs e
 ·rw[aH (t2 b _ e)]
  exact un.mO b o u e
 ·obtain⟨mo,q⟩:=un.mP b ps e
  exact⟨mo,by rw[aH (t2 b _ e)];exact q⟩
 ·by_cases hb:b=s2.heap.objs.size
  ·subst hb
   rw[ar] at e
   cases e
   exact⟨sz,aU,n,vl,(hs.2 _ (aan hC)).trans hD⟩
  ·rw[aH hb] at e
   exact(bW b u e).oW (λc v hc q=>(hs.2 c (by
    rcases hc with rfl | hc
    ·exact tC _ _ e
    ·exact tC _ _ hc)).trans q) (λc r=>by rw[aH (tk _ _ r)];exact r) λc xs r=>by rw[aH (tk _ _ r)];exact r
 ·exact⟨(f2 b hb).2.2.2.1,(f2 b hb).2.1,(f2 b hb).2.2.2.2.1,(f2 b hb).2.2.2.2.2⟩
noncomputable def tComp (wi:TI) (g:TG) (tc:TT) (te:TE) (k:Nat) (fr:List Nat):TE:=λσ H Q=>wi σ H λJ H1=>eY J g tc te (stC k fr σ) H1 λys H2=>∀D,H1 D=none->H2 D=none->Q (.ref D) (upd H2 D (.lst ys))
theorem bX {elt target iter:Expr} {ifs:List Expr} {scope so:Scope} {pos:Pos} {wi:TI} {g:TG} {tc:TT} {te:TE} {k:Nat} {fr:List Nat} {N N':List Str} (hc:X.calm=true) (hN:X.N=N) (Ma:X.env.scope=so) (S:en N so N' scope k fr)
  (hi:PI X target iter wi) (hg:∀cl C s H ex,PG (kX X N' scope cl C s H ex) target g) (ht:∀cl C s H ex,EZ (kX X N' scope cl C s H ex) ifs tc) (he:∀cl C s H ex,PE (kX X N' scope cl C s H ex) elt te)
  (hs:∀x,foldedSetIterable iter X.env x=pure x:=by intro _;rfl):PE X (.ListComp elt [⟨target,iter,ifs,0⟩] scope pos) (tComp wi g tc te k fr):=by
 subst hN Ma
 intro pins s σ H Q I h
 rw[eval_ListComp]
 obtain⟨cl,Cn,c1,c2,c3⟩:=eX (env:=X.env) (scope:=scope) λn hn=>I.ok.has n (S.outer _ hn rfl)
 refine wpAny_comprehension_free (use:=none) (cl:=cl) rfl hs Cn S.kind S.locs ?_
 refine cy (hi pins s σ H _ I h) λv s1 h1=>cy h1 λDD s2 h2=>?_
 obtain⟨it,fp,tn,J,H2,rfl,I2,T,uN,f2,hb⟩:=h2
 refine pT (RR:=λacc C=>compPost (model X.prog X.w) X.A X.xe none (EP X pins σ Q) acc C) hc S c1 c2 (λx c m=>⟨x,(c3 x c m).1⟩) (λx hx c m=>(S.EW _ hx rfl).2 (c3 x c m).2) (XE:=λ_ _ _ _ _ _ _=>False) hg ht he I2 T uN f2 hb ?_ (λ_ _ _ _ _ z=>False.elim z)
 intro C s' m ys aU n H' hC hn vl sz hD nD nC fin os bare un bW
 exact⟨m,hn,λh' Mb=>⟨.ref _,_,comp_back I2 f2 hC vl sz hD nD nC os bare un bW Mb,rfl,fin _ (I2.bW.fresh (aah _)) nD⟩⟩
theorem fR {elt target iter:Expr} {ifs:List Expr} {scope so:Scope} {pos HY py:Pos} {wi:TI} {g:TG} {tc:TT} {te:TE} {k:Nat} {fr:List Nat} {N N':List Str} {y:Str} {i:Nat} (hc:X.calm=true) (hN:X.N.Nodup) (hy:X.N[i]?=some y) (hl:X.env.scope.names.lookup y=some .local)
  (W9:X.N=N) (Ma:X.env.scope=so) (S:en N so N' scope k fr)
  (hi:PI X target iter wi) (hg:∀cl C s H ex,PG (kX X N' scope cl C s H ex) target g) (ht:∀cl C s H ex,EZ (kX X N' scope cl C s H ex) ifs tc) (he:∀cl C s H ex,PE (kX X N' scope cl C s H ex) elt te)
  (Mc:swapsWith (.ListComp elt [⟨target,iter,ifs,0⟩] scope pos) (some (.Name y py)) HY.line X.env=pure true:=by rfl)
  (hs:∀x,foldedSetIterable iter X.env x=pure x:=by intro _;rfl):PS X (.Assign [.Name y py] (.ListComp elt [⟨target,iter,ifs,0⟩] scope pos) HY) (tAsg (tComp wi g tc te k fr) (gName i)):=by
 subst W9 Ma
 intro pins s σ H D I h
 rw[exec_Assign_Name_used _ _ _ _ Mc]
 obtain⟨cl,Cn,c1,c2,c3⟩:=eX (env:=X.env) (scope:=scope) λn hn=>I.ok.has n (S.outer _ hn rfl)
 refine wpAny_bind (wpAny_standAt (wpAny_bind ?_))
 show wpAny _ X.A (do let _ <-comprehension (.ListComp elt [⟨target,iter,ifs,0⟩] scope pos) scope X.env _ (newList []) false (eval iter X.env) (some (assign (.Name y py) X.env))) _ _ s
 refine wpAny_bind (wpAny_mono (wpAny_comprehension_free (use:=some (assign (.Name y py) X.env)) (Q:=λ_ s'=>SP X pins D .next s') (cl:=cl) rfl hs Cn S.kind S.locs ?_) (λ_ s' hq=>wpAny_pure (wpAny_pure hq)) λ_ _ e=>e)
 refine cy (hi pins s σ H _ I h) λv s1 h1=>cy h1 λDD s2 h2=>?_
 obtain⟨it,fp,tn,J,H2,rfl,I2,T,uN,f2,hb⟩:=h2
 refine pT (RR:=λacc C=>compPost (model X.prog X.w) X.A X.xe (some (assign (.Name y py) X.env)) (λ_ s'=>SP X pins D .next s') acc C) hc S c1 c2 (λx c m=>⟨x,(c3 x c m).1⟩) (λx hx c m=>(S.EW _ hx rfl).2 (c3 x c m).2) (XE:=λ_ _ _ _ _ _ _=>False) hg ht he I2 T uN f2 hb ?_ (λ_ _ _ _ _ z=>False.elim z)
 intro C s' m ys aU n H' hC hn vl sz hD nD nC fin os bare un bW
 have I3:Inv X pins σ (upd H' s2.heap.objs.size (.lst ys)) s':=comp_back (h':=s'.heap) I2 f2 hC vl sz hD nD nC os bare un bW (.refl ..)
 refine wpAny_assign_Name (pG (v:=.ref s2.heap.objs.size) I3 hN hy (.inl hl) rfl (λs4 I4 ch=>?_) (.inr hl))
 have UO:X.env.locals<s2.heap.objs.size:=I2.lt
 obtain⟨a,Xa,ha⟩:=ch
 have aC:a≠C:=by
  rcases ha with rfl | ha
  ·exact aan (Nat.lt_trans UO hC)
  ·obtain⟨v,q⟩:=I2.cell _ _ ha
   exact aan (Nat.lt_trans q.lt hC)
 refine⟨m,hn.sameBut Xa (Ne.symm aC),λh' Mb=>⟨_,_,?_,fin _ (I2.bW.fresh (aah _)) nD⟩⟩
 have Xb:(upd H' s2.heap.objs.size (.lst ys)) C=none:=by rw[aH (Nat.ne_of_gt hC)];exact nC
 exact I4.turned (t':=s4.toks) (it:=C) (h':=h') (λb o hb e=>(Mb.2 b hb).trans e) Xb (Nat.ne_of_gt (Nat.lt_trans UO hC)) (.inr (aap I2.sz (Nat.le_of_lt hC))) (λx c e z=>by
  obtain⟨v,q⟩:=I2.cell x c e
  exact absurd (Nat.lt_trans q.lt hC) (by rw[z];exact aaI _)) (λp hp z=>by
  have:=Heap.lt_size (I2.pin p hp).1
  rw[z] at this
  exact absurd (Nat.lt_trans this hC) (aaI _))
end
structure Src (J:It) (Ok:Hp->Prop) (n:Nat) (Item:Nat->V->Hp->Hp->Prop):Prop where
 go:∀i H,i<n->Ok H->J.go i H
 v7:∀i H x H3,i<n->Ok H->J.v7 i H x H3->Item i x H H3
 stop:∀H,Ok H->J.stop n H
theorem src_list {K:PySem.W.Frag} {a:Addr} {xs:List V} {Ok:Hp->Prop} (h:∀H,Ok H->bo K H a xs):Src (uL K a) Ok xs.length (λi x H H3=>H3=H/\xs[i]?=some x) where
 go:=λi H hi ok=>⟨xs,xs[i],h H ok,by simp [hi]⟩
 v7:=λi H x H3 hi ok ⟨e,y⟩=>⟨e,y xs (h H ok)⟩
 stop:=λH ok=>⟨xs,h H ok,aah _⟩
theorem src_range {lo:Int} {n:Nat} {Ok:Hp->Prop}:Src (Ht lo n) Ok n (λi x H H3=>H3=H/\x=.int (lo+i)) where
 go:=λ_ _ hi _=>hi
 v7:=λ_ _ _ _ _ _ y=>y
 stop:=λ_ _=>aah _
theorem hX {J:It} {g:TG} {tc:TT} {te:TE} {σ0:St} {H1:Hp} {fin:List V->Hp->Prop} {n:Nat} {Item:Nat->V->Hp->Hp->Prop} (S:Src J (az H1) n Item) (E2:St->Prop) (h0:E2 σ0) (P:Nat->List V->Hp->Prop) (p0:P 0 [] H1) (hz:n<=sizeLine)
  (hs:∀i x σ H ys H3 (Q:St->V->Hp->Prop) (N:St->Hp->Prop),i<n->az H1 H->P i ys H->ys.length<=i->E2 σ->Item i x H H3->
   (∀σ3 y H6,E2 σ3->az H1 H6->P (i+1) (ys++ [y]) H6->Q σ3 y H6)->(∀σ3 H5,E2 σ3->az H1 H5->P (i+1) ys H5->N σ3 H5)->
   g x σ H3 λσ3 H4=>tc σ3 H4 λb H5=>if b=true then te σ3 H5 λy H6=>Q σ3 y H6 else N σ3 H5)
  (jY:∀ys H,az H1 H->P n ys H->ys.length<=n->fin ys H):eY J g tc te σ0 H1 fin:=by
 refine⟨λi m ys σ H=>m=n - i/\i<=n/\ys.length<=i/\E2 σ/\az H1 H/\P i ys H,⟨n,by simp,aar _,aah _,h0,az.refl _,p0⟩,?_⟩
 rintro i m ys σ H ⟨rfl,hi,hl,ow,sm,p⟩
 by_cases fQ:i<n
 ·refine .inr ⟨S.go i H fQ sm,λx H3 y=>hs i x σ H ys H3 (λσ3 y H6=>ys.length<sizeLine/\∃m',m'<n - i/\m'=n - (i+1)/\i+1<=n/\(ys++ [y]).length<=i+1/\E2 σ3/\az H1 H6/\P (i+1) (ys++ [y]) H6)
   (λσ3 H5=>∃m',m'<n - i/\m'=n - (i+1)/\i+1<=n/\ys.length<=i+1/\E2 σ3/\az H1 H5/\P (i+1) ys H5) fQ sm p hl ow (S.v7 i H x H3 fQ sm y) (λσ3 y H6 o s6 q=>?_) (λσ3 H5 o s5 q=>?_)⟩
  ·exact⟨by omega,n - (i+1),by omega,rfl,fQ,by rw[aaF,List.length_singleton];omega,o,s6,q⟩
  ·exact⟨n - (i+1),by omega,rfl,fQ,by omega,o,s5,q⟩
 ·have e:i=n:=by omega
  subst e
  exact .inl ⟨S.stop H sm,jY ys H sm p hl⟩
theorem comp_map {J:It} {te:TE} {tl:St} {H1:Hp} {fin:List V->Hp->Prop} {n:Nat} {Item:Nat->V->Hp->Hp->Prop} (S:Src J (az H1) n Item) (sub:∀i x H H3,Item i x H H3->az H H3) (hz:n<=sizeLine)
  (R:Nat->V->Hp->Prop) (mono:∀i y H H',az H H'->R i y H->R i y H')
  (hs:∀i x w H H3 (Q:VK),i<n->az H1 H->Item i x H H3->(∀y H6,az H3 H6->R i y H6->Q y H6)->te ((w::tl).set 0 (some x)) H3 Q)
  (jY:∀ys H,az H1 H->ys.length=n->(∀i y,ys[i]?=some y->R i y H)->fin ys H):eY J (gName 0) gD te (none::tl) H1 fin:=by
 refine⟨λi m ys σ H=>m=n - i/\i<=n/\ys.length=i/\(∃w,σ=w::tl)/\az H1 H/\∀j y,ys[j]?=some y->R j y H,⟨n,by simp,aar _,rfl,⟨_,rfl⟩,az.refl _,λj y e=>by simp at e⟩,?_⟩
 rintro i m ys σ H ⟨rfl,hi,hl,⟨w,rfl⟩,sm,p⟩
 by_cases fQ:i<n
 ·refine .inr ⟨S.go i H fQ sm,λx H3 y=>?_⟩
  have it:=S.v7 i H x H3 fQ sm y
  have s3:=sub i x H H3 it
  unfold gName gD
  refine HS ?_
  refine hs i x w H H3 _ fQ sm it λy H6 s6 r=>⟨by omega,n - (i+1),by omega,rfl,fQ,by rw[aaF,List.length_singleton];omega,⟨_,rfl⟩,sm.trans (s3.trans s6),λj z e=>?_⟩
  by_cases hj:j<i
  ·rw[aa5 (by omega)] at e
   exact mono j z _ _ (s3.trans s6) (p j z e)
  ·rw[aa4 (by omega)] at e
   have e2:j - ys.length=0:=by
    by_cases q:j - ys.length=0
    ·exact q
    ·rw[aas (by simp;omega)] at e;cases e
   rw[e2] at e
   simp at e
   subst e
   have:j=i:=by omega
   subst this
   exact r
 ·have e:i=n:=by omega
  subst e
  exact .inl ⟨S.stop H sm,jY ys H sm hl p⟩
noncomputable def DM (J:It) (g:TG) (tb:TS) (D:Ends) (σ:St) (H:Hp):Prop:=
 ∃W:Nat->Nat->St->Hp->Prop,(∃m,W 0 m σ H)/\∀i m σ H,W i m σ H->
  (J.stop i H/\D.nx σ H)\/(J.go i H/\∃N:St->Hp->Prop,(∀σ' H',N σ' H'->∃m',m'<m/\W (i+1) m' σ' H')/\∀x H',J.v7 i H x H'->g x σ H' λσ2 H2=>tb {D with nx:=N,ct:=N,bk:=D.nx} σ2 H2)
theorem tFor_eq {wi:TI} {g:TG} {tb:TS} {D:Ends} {σ:St} {H:Hp}:Hu wi g tb D σ H=wi σ H λJ H1=>DM J g tb D σ H1:=rfl
theorem bJ {J:It} {g:TG} {tb:TS} {D:Ends} {σ:St} {H:Hp} {n:Nat} {Item:Nat->V->Hp->Hp->Prop} {Ok:Hp->Prop} (S:Src J Ok n Item) (Pv:Nat->St->Hp->Prop) (h0:Pv 0 σ H) (bW:∀i σ H,i<=n->Pv i σ H->Ok H)
  (hs:∀i x σ H H3,i<n->Pv i σ H->Item i x H H3->g x σ H3 λσ2 H2=>tb {D with nx:=Pv (i+1),ct:=Pv (i+1),bk:=D.nx} σ2 H2) (hd:∀σ H,Pv n σ H->D.nx σ H):DM J g tb D σ H:=by
 refine⟨λi m σ H=>m=n - i/\i<=n/\Pv i σ H,⟨n,by simp,aar _,h0⟩,?_⟩
 rintro i m σ H ⟨rfl,hi,p⟩
 by_cases fQ:i<n
 ·exact .inr ⟨S.go i H fQ (bW i σ H hi p),Pv (i+1),λσ' H' p'=>⟨n - (i+1),by omega,rfl,fQ,p'⟩,λx H' y=>hs i x σ H H' fQ p (S.v7 i H x H' fQ (bW i σ H hi p) y)⟩
 ·have e:i=n:=by omega
  subst e
  exact .inl ⟨S.stop H (bW i σ H hi p),hd σ H p⟩
theorem fm {K:PySem.W.Frag} {J:It} {te:TE} {tl:St} {H1:Hp} {fin:List V->Hp->Prop} {n:Nat} {Item:Nat->V->Hp->Hp->Prop} (S:Src J (az H1) n Item) (HZ:Nat->V->V->Hp->Prop)
  (tp:∀i x H H3,i<n->az H1 H->Item i x H H3->az H H3/\∃p a b,x=.ref p/\eL K H3 p [a,b]/\HZ i a b H3) (hz:n<=sizeLine)
  (R:Nat->V->Hp->Prop) (mono:∀i y H H',az H H'->R i y H->R i y H')
  (hs:∀i a b H3 (Q:VK),i<n->az H1 H3->HZ i a b H3->(∀y H6,az H3 H6->R i y H6->Q y H6)->te (some a::some b::tl) H3 Q)
  (jY:∀ys H,az H1 H->ys.length=n->(∀(i:Nat) y,ys[i]?=some y->R i y H)->fin ys H):eY J (yQ K 2 (gCons (gName 0) (gCons (gName 1) gNil))) gD te (none::none::tl) H1 fin:=by
 refine⟨λi m ys σ H=>m=n - i/\i<=n/\ys.length=i/\(∃w w',σ=w::w'::tl)/\az H1 H/\∀(j:Nat) y,ys[j]?=some y->R j y H,⟨n,by simp,aar _,rfl,⟨_,_,rfl⟩,az.refl _,λj y e=>by simp at e⟩,?_⟩
 rintro i m ys σ H ⟨rfl,hi,hl,⟨w,w',rfl⟩,sm,p⟩
 by_cases fQ:i<n
 ·refine .inr ⟨S.go i H fQ sm,λx H3 y=>?_⟩
  obtain⟨s3,q,a,b,rfl,sq,it⟩:=tp i x H H3 fQ sm (S.v7 i H x H3 fQ sm y)
  refine⟨q,_,rfl,sq,rfl,_,_,rfl,_,_,rfl,rfl,?_⟩
  unfold gD
  refine HS ?_
  refine hs i a b H3 _ fQ (sm.trans s3) it λy H6 s6 r=>⟨by omega,n - (i+1),by omega,rfl,fQ,by rw[aaF,List.length_singleton];omega,⟨_,_,rfl⟩,sm.trans (s3.trans s6),λj z e=>?_⟩
  by_cases hj:j<i
  ·rw[aa5 (by omega)] at e
   exact mono j z _ _ (s3.trans s6) (p j z e)
  ·rw[aa4 (by omega)] at e
   have e2:j - ys.length=0:=by
    by_cases q:j - ys.length=0
    ·exact q
    ·rw[aas (by simp;omega)] at e;cases e
   rw[e2] at e
   simp at e
   subst e
   have:j=i:=by omega
   subst this
   exact r
 ·have e:i=n:=by omega
  subst e
  exact .inl ⟨S.stop H sm,jY ys H sm hl p⟩
end L2
namespace L2
open PySem PySem.Spec PyProof.Rows
section
variable {X : Cx} {pins : List (Addr × Obj)} {σ : St} {H : Hp} {s : Shared}
theorem Inv.moved {h':Heap} {t':Nat} {ch:List Addr} (I:Inv X pins σ H s) (f:∀b∈ch,iw X pins H b) (k:∀b o,b∉ch->s.heap.get? b=some o->h'.get? b=some o):Inv X pins σ H {s with heap:=h',toks:=t'}:=by
 have Dv:∀b u,H b=some u->b∉ch:=λb u e z=>by rw[(f b z).1] at e;cases e
 refine I.step (g':=s.gens) (d':=s.drawn) (ch:=ch) (λb hb=>⟨(f b hb).2.2.2.1,(f b hb).2.1,(f b hb).2.2.2.2.1,(f b hb).2.2.2.2.2⟩) (λb o _ _ hc e _=>k b o hc e) (λb o _ _ hc e _=>⟨o.slots,k b o hc e⟩) (λ_ _ _ _ n=>n)
  (λb o hc e=>⟨o,k b o hc e⟩) (λ_ _ e=>e) (λ_ _ _ e=>e) (λb ps e=>⟨#[],by rw[e];simp⟩) (λm hm=>?_) (λb u e=>?_) I.bare
 ·obtain⟨o,es,ep,ho,r⟩:=hm
  exact⟨o,es,ep,k _ o (λz=>(f _ z).2.1 rfl) ho,r⟩
 ·refine(I.bW b u e).oW (λc v hc q=>k c v ?_ q) (λ_ q=>q) λ_ _ q=>q
  rcases hc with z | z
  ·rw[z];exact Dv b u e
  ·exact Dv c _ z
theorem Inv.take {ad:Addr} {o:HO} (I:Inv X pins σ H s) (f:iw X pins H ad) (new:X.s₀.heap.objs.size<=ad) (ok:cG X.prog X.w (upd H ad o) s.heap ad o):Inv X pins σ (upd H ad o) s:=by
 obtain⟨hn,nL,nf,_,nc,np⟩:=f
 have tk:∀b u,H b=some u->b≠ad:=λb u e z=>by rw[z,hn] at e;cases e
 refine⟨I.ok,I.os,I.bare,⟨I.base.keep,I.base.slot,λb ob e m hx=>?_,I.base.there,λb xs e=>?_,λb ob u e=>?_,λb ps e=>?_⟩,I.loc,I.cell,?_,λx c e=>?_,λp hp=>?_,λb u e=>?_,I.len⟩
 ·rw[aH (aan (aat (Heap.lt_size e) new))]
  exact I.base.free b ob e m hx
 ·have q:=I.base.kR b xs e
  rw[aH (tk b _ q)];exact q
 ·have q:=I.base.mO b ob u e
  rw[aH (tk b _ q)];exact q
 ·obtain⟨mo,q⟩:=I.base.mP b ps e
  exact⟨mo,by rw[aH (tk b _ q)];exact q⟩
 ·rw[aH (Ne.symm nL)];exact I.free
 ·rw[aH (nc x c e)];exact I.gJ x c e
 ·obtain⟨a,b,c⟩:=I.pin p hp
  exact⟨a,by rw[aH (np p hp)];exact b,c⟩
 ·by_cases hb:b=ad
  ·subst hb
   rw[ar] at e
   cases e
   exact ok
  ·rw[aH hb] at e
   exact(I.bW b u e).oW (λ_ _ _ q=>q) (λc r=>by rw[aH (tk _ _ r)];exact r) λc xs r=>by rw[aH (tk _ _ r)];exact r
end
noncomputable def Md (K:PySem.W.Frag) (a b:Addr):It:=
 ⟨λi H=>∃xs ys x y,bo K H a xs/\bo K H b ys/\xs[i]?=some x/\ys[i]?=some y,
  λi H v H'=>∃p,H p=none/\v=.ref p/\∃x y,(∀xs,bo K H a xs->xs[i]?=some x)/\(∀ys,bo K H b ys->ys[i]?=some y)/\H'=upd H p (.tup [x,y]),
  λi H=>∃xs ys,bo K H a xs/\bo K H b ys/\(i=min xs.length ys.length)⟩
theorem zp {P:Program} {w:World} {K:PySem.W.Frag} {elts:List Expr} {k:Nat} {pos:Pos} (z TI TO i1 i2 a b:Addr) (D:ZipApart z TI TO i1 i2 a b):
  Turn P w K (.Tuple elts k pos) (Md K a b) [z,TI,TO,i1,i2] z (λi h=>IsZip h z TI TO .none/\IsPair h TI (.ref i1) (.ref i2)/\(∃x y,IsPair h TO x y)/\h.IsListIter i1 a i/\h.IsListIter i2 b i) where
 mem:=by simp
 obj:=λi h st c hc=>by
  obtain⟨hz,DN,⟨x,y,DO⟩,⟨o1,e1,_,d1⟩,⟨o2,e2,_,d2⟩⟩:=st
  simp only[List.mem_cons,List.not_mem_nil,or_false] at hc
  rcases hc with rfl | rfl | rfl | rfl | rfl
  ·exact⟨_,hz,λv q=>by cases q⟩
  ·exact⟨_,DN,λv q=>by cases q⟩
  ·exact⟨_,DO,λv q=>by cases q⟩
  ·exact⟨_,e1,λv q=>by rw[d1] at q;cases q⟩
  ·exact⟨_,e2,λv q=>by rw[d2] at q;cases q⟩
 keep:=λi h h' st kp=>by
  obtain⟨hz,DN,⟨x,y,DO⟩,h1,h2⟩:=st
  exact⟨kp z (by simp) _ hz,kp TI (by simp) _ DN,⟨x,y,kp TO (by simp) _ DO⟩,h1.at λo e=>kp i1 (by simp) o e,h2.at λo e=>kp i2 (by simp) o e⟩
 item:=by
  intro X hP hw hK hc i pins s σ H E I hf st hg
  subst hP hw hK
  obtain⟨xs,ys,x,y,Co,zq,hx,hy⟩:=hg
  obtain⟨iS,r1,p1,z1⟩:=I.list Co
  obtain⟨o3,r2,p2,z2⟩:=I.list zq
  obtain⟨u,eu,ru⟩:=r1.get hx
  obtain⟨v,ev,rv⟩:=r2.get hy
  obtain⟨hz,DN,⟨x0,y0,DO⟩,h1,h2⟩:=st
  have W:=WalksT.zip2 (prog:=X.prog) (w:=X.w) (I.ok.hd hc) z TI TO i1 i2 a b D iS.toArray o3.toArray
  have li:i<min iS.toArray.size o3.toArray.size:=by
   have a1:=(List.getElem?_eq_some_iff.mp eu).1
   have a2:=(List.getElem?_eq_some_iff.mp ev).1
   simp only[aam]
   omega
  refine W.item i s _ _ li ⟨hz,DN,⟨x0,y0,DO⟩,h1,h2,p1.isList,p2.isList⟩ λT vals h' tk BB hT hI hm kk=>?_
  have sub:∀c∈[z,TO,i1,i2],c∈[z,TI,TO,i1,i2]:=λc hc=>by simp at hc ⊢;rcases hc with rfl | rfl | rfl | rfl <;>simp
  have I1:Inv X pins σ H {s with heap:=h',toks:=tk}:=I.moved (ch:=[z,TO,i1,i2]) (λc hc=>hf c (sub c hc)) kk
  have fT:iw X pins H T:=I.xO hT (I.bW.fresh hT)
  refine⟨_,rfl,W.go elts k pos i T _ _ _ hm λzt uN Ia=>?_⟩
  have I2:Inv X pins σ H {s with heap:=zt,toks:=tk}:=I1.moved (s:={s with heap:=h',toks:=tk}) (t':=tk) (ch:=[z,TO,i1,i2]) (λc hc=>hf c (sub c hc)) Ia
  obtain⟨x',y',ex,ey,rfl⟩:=BB
  have BM:iS[i]?=some x':=by simpa using ex
  have Ib:o3[i]?=some y':=by simpa using ey
  rw[eu] at BM;cases BM
  rw[ev] at Ib;cases Ib
  have Me:=W.apart _ _ _ hm
  obtain⟨oT,eT,cT,nT,dT⟩:=hI
  have Mf:IsTup zt T #[u,v]:=⟨oT,Ia _ _ Me eT,cT,nT,dT⟩
  have I3:Inv X pins σ (upd H T (.tup [x,y])) {s with heap:=zt,toks:=tk}:=
   I2.take fT (aap I.sz hT) ⟨by show 2<=sizeLine;decide,[u,v],.cons ru (.cons rv .nil),Mf⟩
  obtain⟨b1,b2,b3,b4,b5,_,_⟩:=uN
  refine⟨.ref T,_,I3,rfl,⟨T,fT.1,rfl,x,y,λiD q=>?_,λBC q=>?_,rfl⟩,⟨b1,b2,b3,b4,b5⟩,λc hc=>?_⟩
  ·rw[I.jo q Co];exact hx
  ·rw[I.jo q zq];exact hy
  ·rw[aH (λq=>?_)]
   ·exact(hf c hc).1
   ·subst q
    obtain⟨o,e,_⟩:∃o,s.heap.get? c=some o/\True:=by
     simp only[List.mem_cons,List.not_mem_nil,or_false] at hc
     obtain⟨o1,e1,_⟩:=h1
     obtain⟨o2,e2,_⟩:=h2
     rcases hc with rfl | rfl | rfl | rfl | rfl
     ·exact⟨_,hz,trivial⟩
     ·exact⟨_,DN,trivial⟩
     ·exact⟨_,DO,trivial⟩
     ·exact⟨_,e1,trivial⟩
     ·exact⟨_,e2,trivial⟩
    exact absurd (Heap.lt_size e) (Nat.not_lt.mpr hT)
 done:=by
  intro X hP hw hK hc i pins s σ H E I hf st hg
  subst hP hw hK
  obtain⟨xs,ys,Co,zq,hi⟩:=hg
  obtain⟨iS,r1,p1,z1⟩:=I.list Co
  obtain⟨o3,r2,p2,z2⟩:=I.list zq
  obtain⟨hz,DN,DO,h1,h2⟩:=st
  have W:=WalksT.zip2 (prog:=X.prog) (w:=X.w) (I.ok.hd hc) z TI TO i1 i2 a b D iS.toArray o3.toArray
  have l1:=r1.length
  have l2:=r2.length
  have e:i=min iS.toArray.size o3.toArray.size:=by simp only[aam];omega
  subst e
  have sub:∀c∈[z,TO,i1,i2],c∈[z,TI,TO,i1,i2]:=λc hc=>by simp at hc ⊢;rcases hc with rfl | rfl | rfl | rfl <;>simp
  exact W.done s _ _ ⟨hz,DN,DO,h1,h2,p1.isList,p2.isList⟩ λh' tk kk=>⟨rfl,I.moved (ch:=[z,TO,i1,i2]) (λc hc=>hf c (sub c hc)) kk⟩
 self:=λ_ _ _ _ _ st h=>wpAny_pyIter_zip st.1 h
noncomputable def Ic (K:PySem.W.Frag) (a:Addr):It:=
 ⟨λi H=>∃xs x,bo K H a xs/\xs[i]?=some x,
  λi H v H'=>∃p,H p=none/\v=.ref p/\∃x,(∀xs,bo K H a xs->xs[i]?=some x)/\H'=upd H p (.tup [.int i,x]),
  λi H=>∃xs,bo K H a xs/\xs.length=i⟩
theorem yd {P:Program} {w:World} {K:PySem.W.Frag} {elts:List Expr} {k:Nat} {pos:Pos} (e it a:Addr) (KP:e≠it) (hle:a≠e) (UP:a≠it):
  Turn P w K (.Tuple elts k pos) (Ic K a) [e,it] e (λi h=>(∃old,IsEnum h e it i old)/\h.IsListIter it a i) where
 mem:=by simp
 obj:=λi h st c hc=>by
  obtain⟨⟨old,he⟩,⟨o1,e1,_,d1⟩⟩:=st
  simp only[List.mem_cons,List.not_mem_nil,or_false] at hc
  rcases hc with rfl | rfl
  ·exact⟨_,he,λv q=>by cases q⟩
  ·exact⟨_,e1,λv q=>by rw[d1] at q;cases q⟩
 keep:=λi h h' st kp=>by
  obtain⟨⟨old,he⟩,h1⟩:=st
  exact⟨⟨old,kp e (by simp) _ he⟩,h1.at λo q=>kp it (by simp) o q⟩
 item:=by
  intro X hP hw hK hc i pins s σ H E I hf st hg
  subst hP hw hK
  obtain⟨xs,x,Co,hx⟩:=hg
  obtain⟨iS,r1,p1,z1⟩:=I.list Co
  obtain⟨u,eu,ru⟩:=r1.get hx
  obtain⟨he,h1⟩:=st
  have W:=WalksT.enumerate (prog:=X.prog) (w:=X.w) (I.ok.hd hc) e it a KP hle UP iS.toArray
  have li:i<iS.toArray.size:=by
   have a1:=(List.getElem?_eq_some_iff.mp eu).1
   simp only[aam]
   omega
  refine W.item i s _ _ li ⟨he,h1,p1.isList⟩ λT vals h' tk BB hT hI hm kk=>?_
  have I1:Inv X pins σ H {s with heap:=h',toks:=tk}:=I.moved (ch:=[e,it]) hf kk
  have fT:iw X pins H T:=I.xO hT (I.bW.fresh hT)
  refine⟨_,rfl,W.go elts k pos i T _ _ _ hm λzt uN Ia=>?_⟩
  have I2:Inv X pins σ H {s with heap:=zt,toks:=tk}:=I1.moved (s:={s with heap:=h',toks:=tk}) (t':=tk) (ch:=[e,it]) hf Ia
  obtain⟨t,x',ex,rfl⟩:=BB
  have BM:iS[i]?=some x':=by simpa using ex
  rw[eu] at BM;cases BM
  have Me:=W.apart _ _ _ hm
  obtain⟨oT,eT,cT,nT,dT⟩:=hI
  have Mf:IsTup zt T #[.int i t,u]:=⟨oT,Ia _ _ Me eT,cT,nT,dT⟩
  have I3:Inv X pins σ (upd H T (.tup [.int i,x])) {s with heap:=zt,toks:=tk}:=
   I2.take fT (aap I.sz hT) ⟨by show 2<=sizeLine;decide,[.int i t,u],.cons ⟨t,rfl⟩ (.cons ru .nil),Mf⟩
  obtain⟨b1,b2,_⟩:=uN
  refine⟨.ref T,_,I3,rfl,⟨T,fT.1,rfl,x,λiD q=>?_,rfl⟩,⟨b1,b2⟩,λc hc=>?_⟩
  ·rw[I.jo q Co];exact hx
  ·rw[aH (λq=>?_)]
   ·exact(hf c hc).1
   ·subst q
    obtain⟨o,e,_⟩:∃o,s.heap.get? c=some o/\True:=by
     simp only[List.mem_cons,List.not_mem_nil,or_false] at hc
     obtain⟨old,he⟩:=he
     obtain⟨o1,e1,_⟩:=h1
     rcases hc with rfl | rfl
     ·exact⟨_,he,trivial⟩
     ·exact⟨_,e1,trivial⟩
    exact absurd (Heap.lt_size e) (Nat.not_lt.mpr hT)
 done:=by
  intro X hP hw hK hc i pins s σ H E I hf st hg
  subst hP hw hK
  obtain⟨xs,Co,hi⟩:=hg
  obtain⟨iS,r1,p1,z1⟩:=I.list Co
  obtain⟨he,h1⟩:=st
  have W:=WalksT.enumerate (prog:=X.prog) (w:=X.w) (I.ok.hd hc) e it a KP hle UP iS.toArray
  have l1:=r1.length
  have e:i=iS.toArray.size:=by simp only[aam];omega
  subst e
  exact W.done s _ _ ⟨he,h1,p1.isList⟩ λh' tk kk=>⟨rfl,I.moved (ch:=[_,it]) hf kk⟩
 self:=λ_ _ _ _ _ st h=>by
  obtain⟨⟨old,he⟩,_⟩:=st
  exact wpAny_pyIter_enum he h
section
variable {X : Cx} {elts : List Expr} {kk : Nat} {kT : Pos}
noncomputable def iZip (K:PySem.W.Frag) (ta:TA):TI:=λσ H R=>ta σ H λvs H1=>∃a b,vs=[.ref a,.ref b]/\(∃xs,bo K H1 a xs)/\(∃ys,bo K H1 b ys)/\R (Md K a b) H1
theorem E3 {a b:Expr} {ta:TA} {p pos:Pos} (hg:Gl X "zip") (hm:X.mg "zip"=none) (ha:PA X [a,b] ta) (hs:starEach [a,b] X.env=[(false,eval a X.env),(false,eval b X.env)]:=by rfl) (DF:starEach [b] X.env=[(false,eval b X.env)]:=by rfl):
  PI X (.Tuple elts kk kT) (.Call (.Name "zip" p) [a,b] [] pos) (iZip X.K ta):=by
 intro pins s σ H R I h
 refine Call_ (iO I hg hm rfl (PyProof.Rows.callWith_type1 (cy (ha pos pins s σ H _ I h) λus s1 cU=>?_) (by rw[hs,DF]) (by rw[DF];rfl)))
 obtain⟨vs,H1,I1,r1,q1⟩:=cU
 obtain⟨a,b,e,⟨xs,q1⟩,⟨ys,q2⟩,q⟩:=q1
 subst e
 obtain⟨u,u',rfl,ra,rb⟩:=vals2 r1
 cases ra
 cases rb
 obtain⟨iS,v1,p1,z1⟩:=I1.list q1
 obtain⟨o3,v2,p2,z2⟩:=I1.list q2
 refine call_zip_2 p1.isList p2.isList λh' b1 b2 b3 b4 b5 b6 kp=>?_
 refine wpAny_pyIter_zip b1 ?_
 have I2:Inv X pins σ H1 {s1 with heap:=h'}:=I1.kept (t':=s1.toks) kp
 have la:a<s1.heap.objs.size:=by obtain⟨o,e,_⟩:=p1.isList;exact Heap.lt_size e
 have lb:b<s1.heap.objs.size:=by obtain⟨o,e,_⟩:=p2.isList;exact Heap.lt_size e
 refine⟨s1.heap.objs.size+4,[s1.heap.objs.size+4,s1.heap.objs.size+2,s1.heap.objs.size+3,s1.heap.objs.size,s1.heap.objs.size+1],_,_,H1,rfl,I2,
  zp (s1.heap.objs.size+4) (s1.heap.objs.size+2) (s1.heap.objs.size+3) s1.heap.objs.size (s1.heap.objs.size+1) a b (by constructor <;>(first | exact aan (by omega) | exact Nat.ne_of_gt (by omega) | exact aan la | exact aan lb | exact aan (aat la (Nat.le_add_right _ _)) | exact aan (aat lb (Nat.le_add_right _ _)))),⟨b1,b2,⟨_,_,b3⟩,b4,b5⟩,λc hc=>?_,q⟩
 have DP:s1.heap.objs.size<=c:=by
  simp only[List.mem_cons,List.not_mem_nil,or_false] at hc
  rcases hc with rfl | rfl | rfl | rfl | rfl <;>omega
 exact I1.xO DP (I1.bW.fresh DP)
noncomputable def iEnum (K:PySem.W.Frag) (ta:TA):TI:=λσ H R=>ta σ H λvs H1=>∃a,vs=[.ref a]/\(∃xs,bo K H1 a xs)/\R (Ic K a) H1
theorem qK {a:Expr} {ta:TA} {p pos:Pos} (hg:Gl X "enumerate") (hm:X.mg "enumerate"=none) (ha:PA X [a] ta) (hs:starEach [a] X.env=[(false,eval a X.env)]:=by rfl):
  PI X (.Tuple elts kk kT) (.Call (.Name "enumerate" p) [a] [] pos) (iEnum X.K ta):=by
 intro pins s σ H R I h
 refine Call_ (iO I hg hm rfl (PyProof.Rows.callWith_type1 (cy (ha pos pins s σ H _ I h) λus s1 cU=>?_) hs rfl))
 obtain⟨vs,H1,I1,r1,q1⟩:=cU
 obtain⟨a,e,⟨xs,q1⟩,q⟩:=q1
 subst e
 obtain⟨u,rfl,ra⟩:=vals1 r1
 cases ra
 obtain⟨iS,v1,p1,z1⟩:=I1.list q1
 refine call_enumerate_list p1.isList λh' b1 b2 b3 kp=>?_
 refine wpAny_pyIter_enum b1 ?_
 have I2:Inv X pins σ H1 {s1 with heap:=h'}:=I1.kept (t':=s1.toks) kp
 have la:a<s1.heap.objs.size:=by obtain⟨o,e,_⟩:=p1.isList;exact Heap.lt_size e
 refine⟨s1.heap.objs.size+1,[s1.heap.objs.size+1,s1.heap.objs.size],_,_,H1,rfl,I2,
  yd (s1.heap.objs.size+1) s1.heap.objs.size a (Nat.ne_of_gt (aaM _)) (aan (abl la)) (aan la),⟨⟨_,b1⟩,b2⟩,λc hc=>?_,q⟩
 have DP:s1.heap.objs.size<=c:=by
  simp only[List.mem_cons,List.not_mem_nil,or_false] at hc
  rcases hc with rfl | rfl <;>omega
 exact I1.xO DP (I1.bW.fresh DP)
end
theorem jw {K:PySem.W.Frag} {a b:Addr} {xs ys:List V} {Ok:Hp->Prop} (h1:∀H,Ok H->bo K H a xs) (h2:∀H,Ok H->bo K H b ys):
  Src (Md K a b) Ok (min xs.length ys.length) (λi v H H3=>∃p x y,H p=none/\v=.ref p/\xs[i]?=some x/\ys[i]?=some y/\H3=upd H p (.tup [x,y])) where
 go:=λi H hi ok=>⟨xs,ys,xs[i]'(by omega),ys[i]'(by omega),h1 H ok,h2 H ok,by simp,by simp⟩
 v7:=λi H x H3 hi ok ⟨p,n,e,u,v,e1,e2,e3⟩=>⟨p,u,v,n,e,e1 xs (h1 H ok),e2 ys (h2 H ok),e3⟩
 stop:=λH ok=>⟨xs,ys,h1 H ok,h2 H ok,rfl⟩
theorem fq {K:PySem.W.Frag} {a:Addr} {xs:List V} {Ok:Hp->Prop} (h1:∀H,Ok H->bo K H a xs):
  Src (Ic K a) Ok xs.length (λi v H H3=>∃p x,H p=none/\v=.ref p/\xs[i]?=some x/\H3=upd H p (.tup [.int i,x])) where
 go:=λi H hi ok=>⟨xs,xs[i],h1 H ok,by simp [hi]⟩
 v7:=λi H x H3 hi ok ⟨p,n,e,u,e1,e3⟩=>⟨p,u,n,e,e1 xs (h1 H ok),e3⟩
 stop:=λH ok=>⟨xs,h1 H ok,rfl⟩
end L2
namespace L2
open PySem PySem.Spec PyProof.Rows
inductive Dat where
 | cB | bl (b:Bool) | int (i:Int) | str (x:Str) | tup (l:List Dat) | lst (l:List Dat)
mutual
noncomputable def Rep (H:Hp):Dat->V->Prop
 | .cB,v=>v=.cB
 | .bl b,v=>v=.bl b
 | .int i,v=>v=.int i
 | .str x,v=>v=.str x
 | .tup ds,v=>∃p vs,v=.ref p/\H p=some (.tup vs)/\bf H ds vs
 | .lst ds,v=>∃p vs,v=.ref p/\H p=some (.lst vs)/\bf H ds vs
noncomputable def bf (H:Hp):List Dat->List V->Prop
 | [],vs=>vs=[]
 | d::ds,vs=>∃v r,vs=v::r/\Rep H d v/\bf H ds r
end
mutual
theorem Rep.mono {H H':Hp} (s:az H H'):∀{d:Dat} {v:V},Rep H d v->Rep H' d v
 | .cB,_,h=>by rw[Rep] at *;exact h
 | .bl _,_,h=>by rw[Rep] at *;exact h
 | .int _,_,h=>by rw[Rep] at *;exact h
 | .str _,_,h=>by rw[Rep] at *;exact h
 | .tup _,_,h=>by
  rw[Rep] at *
  obtain⟨p,vs,e,hp,r⟩:=h
  exact⟨p,vs,e,s _ _ hp,bf.mono s r⟩
 | .lst _,_,h=>by
  rw[Rep] at *
  obtain⟨p,vs,e,hp,r⟩:=h
  exact⟨p,vs,e,s _ _ hp,bf.mono s r⟩
theorem bf.mono {H H':Hp} (s:az H H'):∀{ds:List Dat} {vs:List V},bf H ds vs->bf H' ds vs
 | [],_,h=>by rw[bf] at *;exact h
 | _::_,_,h=>by
  rw[bf] at *
  obtain⟨v,r,e,h1,h2⟩:=h
  exact⟨v,r,e,Rep.mono s h1,bf.mono s h2⟩
end
theorem bf.length {H:Hp}:∀{ds:List Dat} {vs:List V},bf H ds vs->ds.length=vs.length
 | [],_,h=>by rw[bf] at h;subst h;rfl
 | _::_,_,h=>by
  rw[bf] at h
  obtain⟨v,r,rfl,_,h2⟩:=h
  simp [h2.length]
theorem bf.get {H:Hp}:∀{ds:List Dat} {vs:List V} {i:Nat} {v:V},bf H ds vs->vs[i]?=some v->∃d,ds[i]?=some d/\Rep H d v
 | [],_,i,v,h,e=>by rw[bf] at h;subst h;simp at e
 | d::ds,_,i,v,h,e=>by
  rw[bf] at h
  obtain⟨v',r,rfl,h1,h2⟩:=h
  cases i with
  | zero=>simp at e;subst e;exact⟨d,rfl,h1⟩
  | succ i=>simp at e;obtain⟨d',e',r'⟩:=h2.get e;exact⟨d',by simpa using e',r'⟩
theorem bf.at {H:Hp}:∀{ds:List Dat} {vs:List V} {i:Nat} {d:Dat},bf H ds vs->ds[i]?=some d->∃v,vs[i]?=some v/\Rep H d v
 | [],_,i,v,h,e=>by simp at e
 | d::ds,_,i,d',h,e=>by
  rw[bf] at h
  obtain⟨v',r,rfl,h1,h2⟩:=h
  cases i with
  | zero=>simp at e;subst e;exact⟨v',rfl,h1⟩
  | succ i=>simp at e;obtain⟨v,e',r'⟩:=h2.at e;exact⟨v,by simpa using e',r'⟩
theorem bf.of {H:Hp}:∀{ds:List Dat} {vs:List V},ds.length=vs.length->(∀(i:Nat) d v,ds[i]?=some d->vs[i]?=some v->Rep H d v)->bf H ds vs
 | [],[],_,_=>by rw[bf]
 | [],_::_,h,_=>by simp at h
 | _::_,[],h,_=>by simp at h
 | d::ds,v::vs,h,k=>by
  rw[bf]
  exact⟨v,vs,rfl,k 0 d v rfl rfl,bf.of (by simpa using h) λi d' v' e1 e2=>k (i+1) d' v' (by simpa using e1) (by simpa using e2)⟩
theorem bf.append {H:Hp}:∀{as bs:List Dat} {us vs:List V},bf H as us->bf H bs vs->bf H (as++bs) (us++vs)
 | [],_,_,_,h,k=>by rw[bf] at h;subst h;exact k
 | _::_,_,_,_,h,k=>by
  rw[bf] at h
  obtain⟨v,r,rfl,h1,h2⟩:=h
  show bf H (_::(_++_)) (_::(_++_))
  rw[bf]
  exact⟨_,_,rfl,h1,h2.append k⟩
noncomputable def depth:Dat->Nat
 | .tup l=>1+dL l
 | .lst l=>1+dL l
 | _=>0
where dL:List Dat->Nat
 | []=>0
 | d::ds=>max (depth d) (dL ds)
theorem ft {d:Dat}:∀{ds:List Dat},d∈ds->depth d<=depth.dL ds
 | e::ds,h=>by
  rw[depth.dL]
  rcases List.mem_cons.mp h with rfl | h
  ·exact Nat.le_max_left _ _
  ·exact aap (ft h) (Nat.le_max_right _ _)
section
variable {X : Cx} {pins : List (Addr × Obj)} {σ : St} {H : Hp} {s : Shared}
theorem all_true (n:Nat):((List.range n).all λ_=>true)=true:=by simp
theorem zu (I:Inv X pins σ H s):∀(n:Nat) (d:Dat),depth d<=n->∀(v v':V) (u u':Value) (A:Around),Rep H d v->Rep H d v'->RelV v u->RelV v' u'->A.units+n<cLine->SeqAt.EqAt A s u u' true:=by
 intro n
 induction n with
 | zero=>
  intro d hd v v' u u' A h h' r r' hu
  cases d with
  | cB=>rw[Rep] at h h';subst h h';cases r;cases r';exact SeqAt.EqAt.same _
  | bl b=>rw[Rep] at h h';subst h h';cases r;cases r';exact SeqAt.EqAt.same _
  | int i=>rw[Rep] at h h';subst h h';obtain⟨t,rfl⟩:=r;obtain⟨t',rfl⟩:=r';have:=SeqAt.EqAt.int_int (A:=A) (s:=s) i t i t';simpa using this
  | str x=>rw[Rep] at h h';subst h h';obtain⟨t,rfl⟩:=r;obtain⟨t',rfl⟩:=r';have:=SeqAt.EqAt.str_str (A:=A) (s:=s) x t x t';simpa using this
  | tup l=>rw[depth] at hd;omega
  | lst l=>rw[depth] at hd;omega
 | succ n ih=>
  intro d hd v v' u u' A h h' r r' hu
  cases d with
  | cB=>rw[Rep] at h h';subst h h';cases r;cases r';exact SeqAt.EqAt.same _
  | bl b=>rw[Rep] at h h';subst h h';cases r;cases r';exact SeqAt.EqAt.same _
  | int i=>rw[Rep] at h h';subst h h';obtain⟨t,rfl⟩:=r;obtain⟨t',rfl⟩:=r';have:=SeqAt.EqAt.int_int (A:=A) (s:=s) i t i t';simpa using this
  | str x=>rw[Rep] at h h';subst h h';obtain⟨t,rfl⟩:=r;obtain⟨t',rfl⟩:=r';have:=SeqAt.EqAt.str_str (A:=A) (s:=s) x t x t';simpa using this
  | tup l=>
   rw[Rep] at h h'
   obtain⟨p,vs,rfl,hp,rl⟩:=h
   obtain⟨p',Ie,rfl,jg,zv⟩:=h'
   cases r
   cases r'
   rw[depth] at hd
   by_cases Ig:p=p'
   ·subst Ig;exact SeqAt.EqAt.same _
   obtain⟨aU,rv,pl,hz⟩:=I.tuple (eL.of hp)
   obtain⟨its',zw,E4,Mg⟩:=I.tuple (eL.of jg)
   have e1:=rl.length
   have e2:=zv.length
   have l1:=rv.length
   have l2:=zw.length
   have R:=SeqAt.RcAt.tuples (A:=A) (e:=λ_=>true) pl E4 (by omega) (λj h1 h2=>?_)
   ·simp only[aam,all_true,Bool.true_and] at R
    rw[show(aU.length==its'.length)=true by simp;omega] at R
    exact .of_refs Ig R
   ·rw[aam] at h1 h2
    obtain⟨d,ed⟩:∃d,l[j]?=some d:=⟨l[j]'(by omega),by simp⟩
    obtain⟨v1,f1,q1⟩:=rl.at ed
    obtain⟨v2,f2,q2⟩:=zv.at ed
    obtain⟨u1,g1,w1⟩:=rv.get f1
    obtain⟨u2,g2,w2⟩:=zw.get f2
    have a1:aU.toArray[j]=u1:=by simpa [aad h1] using g1
    have a2:its'.toArray[j]=u2:=by simpa [aad h2] using g2
    rw[a1,a2]
    have:=ft (aag ed)
    exact ih d (by omega) v1 v2 u1 u2 A.in1 q1 q2 w1 w2 (by show A.units+1+n<cLine;omega)
  | lst l=>
   rw[Rep] at h h'
   obtain⟨p,vs,rfl,hp,rl⟩:=h
   obtain⟨p',Ie,rfl,jg,zv⟩:=h'
   cases r
   cases r'
   rw[depth] at hd
   by_cases Ig:p=p'
   ·subst Ig;exact SeqAt.EqAt.same _
   obtain⟨aU,rv,pl,hz⟩:=I.list (bo.of hp)
   obtain⟨its',zw,E4,Mg⟩:=I.list (bo.of jg)
   have e1:=rl.length
   have e2:=zv.length
   have l1:=rv.length
   have l2:=zw.length
   have R:=SeqAt.RcAt.lists (A:=A) (e:=λ_=>true) pl.isList E4.isList (by simp only[aam];omega) (by omega) (λj h1 h2=>?_)
   ·rw[all_true] at R
    exact .of_refs Ig R
   ·rw[aam] at h1 h2
    obtain⟨d,ed⟩:∃d,l[j]?=some d:=⟨l[j]'(by omega),by simp⟩
    obtain⟨v1,f1,q1⟩:=rl.at ed
    obtain⟨v2,f2,q2⟩:=zv.at ed
    obtain⟨u1,g1,w1⟩:=rv.get f1
    obtain⟨u2,g2,w2⟩:=zw.get f2
    have a1:aU.toArray[j]=u1:=by simpa [aad h1] using g1
    have a2:its'.toArray[j]=u2:=by simpa [aad h2] using g2
    rw[a1,a2]
    have:=ft (aag ed)
    exact ih d (by omega) v1 v2 u1 u2 A.in1 q1 q2 w1 w2 (by show A.units+1+n<cLine;omega)
end
section
variable {X : Cx}
noncomputable def Ih (b:Bool):R2:=λx y H Q=>∃d,Rep H d x/\Rep H d y/\(∃p,x=.ref p)/\depth d<=40/\Q (.bl b) H
theorem E5 {pins:List (Addr×Obj)} {σ:St} {H:Hp} {s:Shared} {d:Dat} {p p':Addr} (I:Inv X pins σ H s) (hu:X.A.units+64<cLine) (h:Rep H d (.ref p)) (h':Rep H d (.ref p')) (hd:depth d<=40):
  (∃aU its':List Value,IsTup s.heap p aU.toArray/\IsTup s.heap p' its'.toArray/\aU.length=its'.length/\∀j (h1:j<aU.toArray.size) (h2:j<its'.toArray.size),SeqAt.EqAt X.A.in1 s aU.toArray[j] its'.toArray[j] true)\/
  (∃aU its':List Value,s.heap.IsList p aU.toArray/\s.heap.IsList p' its'.toArray/\aU.length=its'.length/\∀j (h1:j<aU.toArray.size) (h2:j<its'.toArray.size),SeqAt.EqAt X.A.in1 s aU.toArray[j] its'.toArray[j] true):=by
 cases d with
 | cB=>rw[Rep] at h;cases h
 | bl b=>rw[Rep] at h;cases h
 | int i=>rw[Rep] at h;cases h
 | str x=>rw[Rep] at h;cases h
 | tup l=>
  left
  rw[Rep] at h h'
  obtain⟨_,vs,e,hp,rl⟩:=h
  cases e
  obtain⟨_,Ie,e,jg,zv⟩:=h'
  cases e
  rw[depth] at hd
  obtain⟨aU,rv,pl,hz⟩:=I.tuple (eL.of hp)
  obtain⟨its',zw,E4,Mg⟩:=I.tuple (eL.of jg)
  have e1:=rl.length
  have e2:=zv.length
  have l1:=rv.length
  have l2:=zw.length
  refine⟨aU,its',pl,E4,by omega,λj h1 h2=>?_⟩
  rw[aam] at h1 h2
  obtain⟨d,ed⟩:∃d,l[j]?=some d:=⟨l[j]'(by omega),by simp⟩
  obtain⟨v1,f1,q1⟩:=rl.at ed
  obtain⟨v2,f2,q2⟩:=zv.at ed
  obtain⟨u1,g1,w1⟩:=rv.get f1
  obtain⟨u2,g2,w2⟩:=zw.get f2
  have a1:aU.toArray[j]=u1:=by simpa [aad h1] using g1
  have a2:its'.toArray[j]=u2:=by simpa [aad h2] using g2
  rw[a1,a2]
  have:=ft (aag ed)
  exact zu I 40 d (by omega) v1 v2 u1 u2 X.A.in1 q1 q2 w1 w2 (by show X.A.units+1+40<cLine;omega)
 | lst l=>
  right
  rw[Rep] at h h'
  obtain⟨_,vs,e,hp,rl⟩:=h
  cases e
  obtain⟨_,Ie,e,jg,zv⟩:=h'
  cases e
  rw[depth] at hd
  obtain⟨aU,rv,pl,hz⟩:=I.list (bo.of hp)
  obtain⟨its',zw,E4,Mg⟩:=I.list (bo.of jg)
  have e1:=rl.length
  have e2:=zv.length
  have l1:=rv.length
  have l2:=zw.length
  refine⟨aU,its',pl.isList,E4.isList,by omega,λj h1 h2=>?_⟩
  rw[aam] at h1 h2
  obtain⟨d,ed⟩:∃d,l[j]?=some d:=⟨l[j]'(by omega),by simp⟩
  obtain⟨v1,f1,q1⟩:=rl.at ed
  obtain⟨v2,f2,q2⟩:=zv.at ed
  obtain⟨u1,g1,w1⟩:=rv.get f1
  obtain⟨u2,g2,w2⟩:=zw.get f2
  have a1:aU.toArray[j]=u1:=by simpa [aad h1] using g1
  have a2:its'.toArray[j]=u2:=by simpa [aad h2] using g2
  rw[a1,a2]
  have:=ft (aag ed)
  exact zu I 40 d (by omega) v1 v2 u1 u2 X.A.in1 q1 q2 w1 w2 (by show X.A.units+1+40<cLine;omega)
theorem E6 (hu:X.A.units+64<cLine):md X (compareOp .Eq) (Ih true):=by
 intro pins s σ H x y v u Q I rx ry h
 obtain⟨d,h1,h2,⟨p,rfl⟩,hd,q⟩:=h
 obtain⟨p',rfl⟩:∃p',y=.ref p':=by
  cases d with
  | cB=>rw[Rep] at h1;cases h1
  | bl b=>rw[Rep] at h1;cases h1
  | int i=>rw[Rep] at h1;cases h1
  | str x=>rw[Rep] at h1;cases h1
  | tup l=>rw[Rep] at h2;obtain⟨p',_,e,_⟩:=h2;exact⟨p',e⟩
  | lst l=>rw[Rep] at h2;obtain⟨p',_,e,_⟩:=h2;exact⟨p',e⟩
 cases rx
 cases ry
 rcases E5 I hu h1 h2 hd with ⟨aU,its',a,b,e,k⟩ | ⟨aU,its',a,b,e,k⟩
 ·refine SeqAt.eq_tupleAt (e:=λ_=>true) a b (by omega) k ⟨.bl true,H,I,?_,q⟩
  show Value.bool _=Value.bool true
  rw[all_true,aam,aam,e]
  simp
 ·refine SeqAt.eq_listAt (e:=λ_=>true) a b (by simp only[aam];exact e) (by omega) k ⟨.bl true,H,I,?_,q⟩
  show Value.bool _=Value.bool true
  rw[all_true]
noncomputable def rNeT:R2:=λx y H Q=>∃p q xs ys,x=.ref p/\y=.ref q/\H p=some (.tup xs)/\H q=some (.tup ys)/\xs.all pO=true/\ys.all pO=true/\Q (.bl (!UC xs ys)) H
end
end L2
namespace Nm
noncomputable def ins (x:Int):List Int->List Int
 | []=>[x]
 | y::r=>if x<=y then x::y::r else y::ins x r
noncomputable def ml:List Int->List Int
 | []=>[]
 | x::r=>ins x (ml r)
theorem ni (x:Int):∀l,(ins x l).Perm (x::l)
 | []=>.refl _
 | y::r=>by
  unfold ins
  split
  ·exact .refl _
  ·exact((ni x r).cons y).trans (.swap ..)
theorem fu:∀l,(ml l).Perm l
 | []=>.refl _
 | x::r=>(ni x _).trans ((fu r).cons x)
set_option tactic.hygienic true in
theorem wu (x:Int):∀l:List Int,l.Pairwise (·<=·)->(ins x l).Pairwise (·<=·)
 | [],_=>by unfold ins;simp
 | y::r,h=>by
  unfold ins
  rw[List.pairwise_cons] at h
  split
  ·rename_i c
   rw[List.pairwise_cons,List.pairwise_cons]
   refine⟨λz hz=>?_,h.1,h.2⟩
   rcases List.mem_cons.mp hz with rfl | hz
   ·exact c
   ·have:=h.1 z hz;omega
  ·rename_i c
   rw[List.pairwise_cons]
   refine⟨λz hz=>?_,wu x r h.2⟩
   rcases List.mem_cons.mp ((ni x r).mem_iff.mp hz) with rfl | hz
   ·omega
   ·exact h.1 z hz
theorem qL:∀l:List Int,(ml l).Pairwise (·<=·)
 | []=>by unfold ml;simp
 | x::r=>wu x _ (qL r)
theorem nj (l:List Int):(ml l).length=l.length:=(fu l).length_eq
theorem wz:∀{a b:List Int},a.Perm b->a.Pairwise (·<=·)->b.Pairwise (·<=·)->a=b
 | [],b,p,_,_=>by simpa using p.symm.eq_nil
 | x::a,[],p,_,_=>by simpa using p.eq_nil
 | x::a,y::b,p,ha,hb=>by
  rw[List.pairwise_cons] at ha hb
  have e:x=y:=by
   have h1:y∈x::a:=p.mem_iff.mpr aaj
   have h2:x∈y::b:=p.mem_iff.mp aaj
   rcases List.mem_cons.mp h1 with h1 | h1
   ·exact h1.symm
   ·rcases List.mem_cons.mp h2 with h2 | h2
    ·exact h2
    ·have:=ha.1 y h1
     have:=hb.1 x h2
     omega
  subst e
  rw[wz ((List.perm_cons x).mp p) ha.2 hb.2]
theorem mr {a b:List Int} (p:a.Perm b) (o:a.Pairwise (·<=·)):a=ml b:=wz (p.trans (fu b).symm) o (qL b)
theorem va {a:List Int} (o:a.Pairwise (·<=·)):ml a=a:=(mr (.refl _) o).symm
theorem wA {a:Int} {l:List Int}:a∈ml l↔a∈l:=(fu l).mem_iff
theorem E7 {l:List Int} (h:l.Nodup):(ml l).Pairwise (·<·):=by
 have n:(ml l).Nodup:=(fu l).nodup_iff.mpr h
 have o:=qL l
 exact(List.pairwise_and_iff.mpr ⟨o,n⟩).imp λ{a b} ⟨x,y⟩=>by omega
end Nm
namespace L2
open PySem PySem.Spec PyProof.Rows PySem.W
section
variable {X : Cx}
theorem vb {us:List Value} {ns:List Int} (h:IntsAre us ns):∃xs,us.toArray=intItems xs/\preSum (numAt xs) xs.size=ns.sum:=by
 obtain⟨xs,hx⟩:=h.allInts.items
 refine⟨xs,hx,?_⟩
 have e1:ns=xs.toList.map (·.1):=by
  rw[<-nums_intItems,<-hx]
  exact h.numsOf.symm
 rw[preSum_eq,aaE (by simp),e1]
theorem vc (hc:X.calm=true):cY X (.builtin "sum") (λxs H Q=>∃p ns,xs=[.ref p]/\bo X.K H p (List.map V.int ns)/\Q (.int ns.sum) H):=by
 intro pins s σ H xs us Q I r h
 obtain⟨p,ns,rfl,hq,q⟩:=h
 obtain⟨u,rfl,rx⟩:=vals1 r
 cases rx
 obtain⟨aU,rv,pl,hz⟩:=I.list hq
 obtain⟨ys,e1,e2⟩:=vb (intsAre_of rv)
 have hl:=pl.isList
 rw[e1] at hl
 refine sum_intListG (I.ok.hd hc) hl λh' tk t' hk=>⟨.int ns.sum,H,I.kept (t':=tk) hk,⟨t',?_⟩,q⟩
 rw[e2]
theorem qM {us:List Value} {ns:List Int} (h:IntsAre us ns):bu (ns.map V.int) us:=by
 induction h with
 | nil=>exact .nil
 | cons n t _ ih=>exact .cons ⟨t,rfl⟩ ih
noncomputable def gR (kvs:List (Key×V)):List Int:=kvs.map λp=>match p.1 with | .inl i=>i | .inr _=>0
noncomputable def allI (kvs:List (Key×V)):Prop:=∀p∈kvs,∃i,p.1=Sum.inl i
theorem o4 (hc:X.calm=true):cY X (.builtin "sorted") (λxs H Q=>∃d kvs,xs=[.ref d]/\Rd H d (.dK kvs)/\allI kvs/\kvs.length<64/\∀l,H l=none->Q (.ref l) (upd H l (.lst (List.map V.int (Nm.ml (gR kvs)))))):=by
 intro pins s σ H xs us Q I r h
 obtain⟨d,kvs,rfl,hd,x9,hn,q⟩:=h
 obtain⟨u,rfl,rx⟩:=vals1 r
 cases rx
 obtain⟨hz,lo,vs,kv,dd⟩:=pQ I.bW hd
 have hlen:kvs.length=vs.length:=Paired.length kv
 obtain⟨ep,GW⟩:=dd.dictAt
 refine Calls.call_function_entry kind_sorted plain_sorted entry_sorted (args_sorted1 _) ?_
 unfold Builtin.«sorted»
 refine wpAny_bind (m:=checkCount "sorted" 1 1 _) (wpAny_pure ?_)
 refine wpAny_bind (kdu_collect (A:=X.A.in1) (kdl_dict (kvs:=vs) (ep:=ep) lo) (I.ok.hd hc) GW (by rw[<-hlen,sizeLine_eq];omega) λh' tk acc hk Cm=>?_)
 have hl:acc.toList.length=vs.length:=by rw[abt];exact Cm.1
 have hI:IntsAre acc.toList (gR kvs):=by
  have all:∀(j:Nat) v,acc.toList[j]?=some v->∃i t,v=Value.int i t/\(gR kvs)[j]?=some i:=λj v e=>by
   obtain⟨k,x,hx,hk⟩:=Cm.2 j v (by rw[<-Array.getElem?_toList];exact e)
   obtain⟨p,e1,e2⟩:∃p,kvs[j]?=some p/\p.1=k:=by
    have:∀{as:List (Key×V)} {bs:List (Key×Value)} (j:Nat) {b},KV as bs->bs[j]?=some b->∃a,as[j]?=some a/\a.1=b.1:=by
     intro as bs j b r
     induction r generalizing j with
     | nil=>intro e;simp at e
     | cons r1 r2 ih=>
      intro e
      cases j with
      | zero=>simp at e;subst e;exact⟨_,rfl,r1.1⟩
      | succ j=>simp at e;obtain⟨a,e1,e2⟩:=ih j e;exact⟨a,by simpa using e1,e2⟩
    obtain⟨a,e1,e2⟩:=this j kv hx
    exact⟨a,e1,e2⟩
   obtain⟨i,hi⟩:=x9 p (aag e1)
   rw[<-e2,hi] at hk
   have hk:mN (.inl i) v=true:=hk
   rcases cf hk with ⟨i',t,e3,e4⟩ | ⟨x',t,e3,_⟩
   ·cases e3
    refine⟨i,t,e4,?_⟩
    unfold gR
    rw[aaf,e1]
    simp [hi]
   ·cases e3
  have go:∀(us:List Value) (ns:List Int),us.length=ns.length->(∀(j:Nat) v,us[j]?=some v->∃i t,v=Value.int i t/\ns[j]?=some i)->IntsAre us ns:=by
   intro us
   induction us with
   | nil=>intro ns hl _;cases ns with | nil=>exact .nil | cons _ _=>simp at hl
   | cons u us ih=>
    intro ns hl k
    cases ns with
    | nil=>simp at hl
    | cons n ns=>
     obtain⟨i,t,rfl,e⟩:=k 0 u rfl
     simp at e
     subst e
     exact .cons n t (ih ns (by simpa using hl) λj v e=>by
      obtain⟨i,t,e1,e2⟩:=k (j+1) v (by simpa using e)
      exact⟨i,t,e1,by simpa using e2⟩)
  refine go _ _ ?_ all
  unfold gR
  rw[aac,hl,hlen]
 refine wpAny_bind (wpAny_newList ?_ (by rw[hl,<-hlen,sizeLine_eq];omega))
 have Dy:(h'.push (seqObj "list" acc.toList.toArray 0)).get? h'.objs.size=some (seqObj "list" acc.toList.toArray 0):=Heap.get?_push_size _ rfl
 have I1:Inv X pins σ H {s with heap:=h',toks:=tk}:=I.kept (t':=tk) hk
 refine wpAny_bind (wpAny_holding (wpAny_call_entry slot_list_sort ⟨_,Dy,rfl⟩ entry_list_sort (list_sort_tree Dy hI (by omega) λout ns' a1 a2 a3=>⟨_,rfl,?_⟩) (args_list_sort _)))
 obtain rfl:=Nm.mr a2 a3
 obtain⟨e,he⟩:=sortedHeap_at (out:=out) Dy
 have fr:=I1.bW.fresh (a:=h'.objs.size) (aah _)
 refine wpAny_pure ⟨_,rfl,.ref h'.objs.size,_,I1.laid (t':=tk) (λb o eb=>?_) (aah _) (o:=.lst (List.map V.int (Nm.ml (gR kvs)))) ⟨?_,out.toList,e,qM a1,?_⟩,rfl,q _ fr⟩
 ·rw[sortedHeap_old (aan (Heap.lt_size eb)) (by rw[Heap.size_push];exact abl (Heap.lt_size eb))]
  exact Heap.get?_push_of_some _ eb
 ·rw[aac,Nm.nj,sizeLine_eq]
  unfold gR
  rw[aac]
  omega
 ·exact he
end
section
variable {X : Cx} {pins : List (Addr × Obj)} {σ : St} {H : Hp} {s : Shared}
end
noncomputable def Xc (d:Addr) (o:Obj) (kvs:List (Key×V)):It:=
 ⟨λi H=>H d=some (.uG o (.dK kvs))/\i<kvs.length,λi H x H'=>H'=H/\∃p,kvs[i]?=some p/\x=kV p.1,λi H=>H d=some (.uG o (.dK kvs))/\i=kvs.length⟩
section
variable {X : Cx} {x : Str} {Xd : Pos}
noncomputable def iDict (tl:TE):TI:=λσ H R=>tl σ H λv H1=>∃d kvs,v=.ref d/\H1 d=some (.dK kvs)/\∀o,R (Xc d o kvs) (upd H1 d (.uG o (.dK kvs)))
end
end L2
namespace L2
open PySem PySem.Spec PyProof.Rows PySem.W
section
variable {X : Cx} {K : PySem.W.Frag}
theorem bj {tg l:Expr} {tl:TE} (hl:PE X l tl) (hK:X.K=K:=by rfl):PI X tg l (iList K tl):=by subst hK;exact BW hl
theorem jx {elts:List Expr} {kk:Nat} {kT:Pos} {a b:Expr} {ta:TA} {p pos:Pos} (hg:Gl X "zip") (hm:X.mg "zip"=none) (ha:PA X [a,b] ta) (n1:noStar a=true:=by rfl) (n2:noStar b=true:=by rfl) (hK:X.K=K:=by rfl):
  PI X (.Tuple elts kk kT) (.Call (.Name "zip" p) [a,b] [] pos) (iZip K ta):=by subst hK;exact E3 hg hm ha (by rw[se n1,se n2];rfl) (by rw[se n2];rfl)
theorem cL {elts:List Expr} {kk:Nat} {kT:Pos} {a:Expr} {ta:TA} {p pos:Pos} (hg:Gl X "enumerate") (hm:X.mg "enumerate"=none) (ha:PA X [a] ta) (n1:noStar a=true:=by rfl) (hK:X.K=K:=by rfl):
  PI X (.Tuple elts kk kT) (.Call (.Name "enumerate" p) [a] [] pos) (iEnum K ta):=by subst hK;exact qK hg hm ha (by rw[se n1];rfl)
theorem bP {es:List Expr} {k:Nat} {t:DB} {n:Nat} {pos:Pos} (hc:X.calm=true) (h:GU X es t) (hn:(assignEach es X.env).length=n:=by rfl) (hst:(assignEach es X.env).findIdx? (·.1)=none:=by rfl) (hK:X.K=K:=by rfl):PG X (.Tuple es k pos) (yQ K n t):=by
 subst hK;exact Ey hc h hn hst
theorem pU (hK:X.K=K:=by rfl):DH X (ER K):=by subst hK;exact zf
theorem iT (hK:X.K=K:=by rfl):cY X (.builtin "len") (λxs H Q=>∃p ns,xs=[.ref p]/\bo K H p (List.map V.int ns)/\Q (.int (List.length ns:Nat)) H):=by subst hK;exact yb
theorem dH (hK:X.K=K:=by rfl):cY X (.type "list") (λxs H Q=>∃p ys,xs=[.ref p]/\(bo K H p ys\/eL K H p ys)/\∀l,H l=none->Q (.ref l) (upd H l (.lst ys))):=by subst hK;exact qF
theorem gU (hc:X.calm=true:=by rfl) (hK:X.K=K:=by rfl):cY X (.builtin "sum") (λxs H Q=>∃p ns,xs=[.ref p]/\bo K H p (List.map V.int ns)/\Q (.int ns.sum) H):=by subst hK;exact vc hc
theorem nk (hc:X.calm=true:=by rfl):cY X (.builtin "sorted") (λxs H Q=>∃d kvs,xs=[.ref d]/\Rd H d (.dK kvs)/\allI kvs/\kvs.length<64/\∀l,H l=none->Q (.ref l) (upd H l (.lst (List.map V.int (Nm.ml (gR kvs)))))):=o4 hc
theorem tq (hK:X.K=K:=by rfl):KL X (rSlL K):=by subst hK;exact B6
theorem HI.r {id:String} {r:V->List V->Hp->VK->Prop} (h:HI X id r):GV X id r:=h
end
end L2
namespace Nm
abbrev Ws:=List (Int×Int)
noncomputable def keys (ws:Ws):List Int:=ws.map (·.1)
noncomputable def look:Ws->Int->Int
 | [],_=>0
 | p::r,k=>if p.1=k then p.2 else look r k
noncomputable def put:Ws->Int->Int->Ws
 | [],k,v=>[(k,v)]
 | p::r,k,v=>if p.1=k then (k,v)::r else p::put r k v
noncomputable def Mh (ws:Ws):Int:=(ws.map (·.2)).sum
structure Over (as ws:Ws) (B T:Int):Prop where
 nd:(keys ws).Nodup
 perm:(keys as).Perm (keys ws)
 val:∀k∈keys ws,look as k*T=look ws k*B
end Nm
namespace L2
open PySem PySem.Spec PyProof.Rows
noncomputable def bB (p:Int×Int):Dat:=.tup [.int p.1,.int p.2]
theorem bQ {H:Hp} {r:Int×Int} {v:V}:Rep H (bB r) v↔∃p,v=.ref p/\H p=some (.tup [.int r.1,.int r.2]):=by
 unfold bB
 simp only[Rep,bf]
 constructor
 ·rintro⟨p,vs,rfl,hp,a,b,rfl,rfl,c,d,rfl,rfl,rfl⟩
  exact⟨p,rfl,hp⟩
 ·rintro⟨p,rfl,hp⟩
  exact⟨p,_,rfl,hp,_,_,rfl,rfl,_,_,rfl,rfl,rfl⟩
theorem aQ {H:Hp} {ds:List Dat} {v:V}:Rep H (.lst ds) v↔∃p vs,v=.ref p/\H p=some (.lst vs)/\bf H ds vs:=by rw[Rep]
noncomputable def UQ (H H':Hp):Prop:=∀p xs,(H p=some (.tup xs)->H' p=some (.tup xs))/\(H p=some (.lst xs)->H' p=some (.lst xs))
mutual
theorem Rep.Ii {H H':Hp} (s:UQ H H'):∀{d:Dat} {v:V},Rep H d v->Rep H' d v
 | .cB,_,h=>by rw[Rep] at *;exact h
 | .bl _,_,h=>by rw[Rep] at *;exact h
 | .int _,_,h=>by rw[Rep] at *;exact h
 | .str _,_,h=>by rw[Rep] at *;exact h
 | .tup _,_,h=>by
  rw[Rep] at *
  obtain⟨p,vs,e,hp,r⟩:=h
  exact⟨p,vs,e,(s _ _).1 hp,bf.Ii s r⟩
 | .lst _,_,h=>by
  rw[Rep] at *
  obtain⟨p,vs,e,hp,r⟩:=h
  exact⟨p,vs,e,(s _ _).2 hp,bf.Ii s r⟩
theorem bf.Ii {H H':Hp} (s:UQ H H'):∀{ds:List Dat} {vs:List V},bf H ds vs->bf H' ds vs
 | [],_,h=>by rw[bf] at *;exact h
 | _::_,_,h=>by
  rw[bf] at *
  obtain⟨v,r,e,h1,h2⟩:=h
  exact⟨v,r,e,Rep.Ii s h1,bf.Ii s h2⟩
end
theorem none_of {H H':Hp} (s:az H H') {p:Addr} (h:H' p=none):H p=none:=by
 cases e:H p with
 | none=>rfl
 | some o=>rw[s p o e] at h;cases h
end L2
namespace Nm
end Nm
namespace L2
open PySem PySem.Spec PyProof.Rows
theorem dA {α:Type} {J:It} {tc:TT} {te:TE} {tl:St} {H1:Hp} {fin:List V->Hp->Prop} {Item:Nat->V->Hp->Hp->Prop} (as:List α) (f:α->Option Int) (S:Src J (az H1) as.length Item) (sub:∀i x H H3,Item i x H H3->H3=H) (hz:as.length<=sizeLine)
  (hs:∀i a x,as[i]?=some a->Item i x H1 H1->∀(Y:VK) (N:Hp->Prop),(∀z,f a=some z->Y (.int z) H1)->(f a=none->N H1)->tc (some x::tl) H1 λb H5=>if b=true then te (some x::tl) H5 Y else N H5)
  (jY:fin (List.map V.int (as.filterMap f)) H1):eY J (gName 0) tc te (none::tl) H1 fin:=by
 refine hX S (λσ=>∃w0,σ=w0::tl) ⟨_,rfl⟩ (λi ys H=>H=H1/\ys=List.map V.int ((as.take i).filterMap f)) ⟨rfl,by simp⟩ hz ?_ ?_
 ·rintro i x σ H ys H3 Q N hi sm ⟨rfl,rfl⟩ hl ⟨w0,rfl⟩ it kq kn
  obtain rfl:=sub _ _ _ _ it
  have ea:as[i]?=some as[i]:=aad hi
  refine hs i _ x ea it _ _ (λz e=>kq _ _ _ ⟨_,rfl⟩ sm ⟨rfl,?_⟩) (λe=>kn _ _ ⟨_,rfl⟩ sm ⟨rfl,?_⟩)
  ·rw[aaC,ea,abm,aaw]
   simp [e]
  ·rw[aaC,ea,abm,aaw]
   simp [e]
 ·rintro ys H sm ⟨rfl,rfl⟩ hl
  rw[aaE (aah _)]
  exact jY
theorem fS {K:PySem.W.Frag} {α:Type} {J:It} {tc:TT} {te:TE} {tl:St} {H1:Hp} {fin:List V->Hp->Prop} {Item:Nat->V->Hp->Hp->Prop} (as:List α) (f:α->Option Int) (S:Src J (az H1) as.length Item) (sub:∀i x H H3,Item i x H H3->H3=H) (hz:as.length<=sizeLine)
  (hs:∀i a x,as[i]?=some a->Item i x H1 H1->∃p u v,x=.ref p/\eL K H1 p [u,v]/\∀(Y:VK) (N:Hp->Prop),(∀z,f a=some z->Y (.int z) H1)->(f a=none->N H1)->tc (some u::some v::tl) H1 λb H5=>if b=true then te (some u::some v::tl) H5 Y else N H5)
  (jY:fin (List.map V.int (as.filterMap f)) H1):eY J (yQ K 2 (gCons (gName 0) (gCons (gName 1) gNil))) tc te (none::none::tl) H1 fin:=by
 refine hX S (λσ=>∃w0 w1,σ=w0::w1::tl) ⟨_,_,rfl⟩ (λi ys H=>H=H1/\ys=List.map V.int ((as.take i).filterMap f)) ⟨rfl,by simp⟩ hz ?_ ?_
 ·rintro i x σ H ys H3 Q N hi sm ⟨rfl,rfl⟩ hl ⟨w0,w1,rfl⟩ it kq kn
  obtain rfl:=sub _ _ _ _ it
  have ea:as[i]?=some as[i]:=aad hi
  obtain⟨p,u,v,rfl,sq,k⟩:=hs i _ x ea it
  refine⟨p,_,rfl,sq,rfl,_,_,rfl,_,_,rfl,rfl,?_⟩
  refine k _ _ (λz e=>kq _ _ _ ⟨_,_,rfl⟩ sm ⟨rfl,?_⟩) (λe=>kn _ _ ⟨_,_,rfl⟩ sm ⟨rfl,?_⟩)
  ·rw[aaC,ea,abm,aaw]
   simp [e]
  ·rw[aaC,ea,abm,aaw]
   simp [e]
 ·rintro ys H sm ⟨rfl,rfl⟩ hl
  rw[aaE (aah _)]
  exact jY
theorem dI {α β:Type} (f:α->β) (l:List α):l.filterMap (λa=>some (f a))=l.map f:=by
 rw[<-List.filterMap_eq_map];rfl
end L2
namespace L2
open PySem PySem.Spec PyProof.Rows PySem.W
section
variable {X : Cx} {K : PySem.W.Frag}
theorem nv:∀{us:List Value} {bs:List Bool},bu (bs.map V.bl) us->LSm.BoolsAre us bs
 | _,[],.nil=>.nil
 | _,b::bs,.cons r t=>by
  have e:_=Value.bool b:=r
  subst e
  exact .cons b (nv t)
theorem vd (hc:X.calm=true):cY X (.builtin "all") (λxs H Q=>∃p bs,xs=[.ref p]/\bo X.K H p (List.map V.bl bs)/\Q (.bl (bs.all id)) H):=by
 intro pins s σ H xs us Q I r h
 obtain⟨p,bs,rfl,hq,q⟩:=h
 obtain⟨u,rfl,rx⟩:=vals1 r
 cases rx
 obtain⟨aU,rv,pl,hz⟩:=I.list hq
 have hb:=nv rv
 have hl:=pl.isList
 have fQ:p<s.heap.objs.size:=by obtain⟨_,e,_⟩:=hl;exact Heap.lt_size e
 refine call_all_walk (wpAny_pyIter_list hl ?_)
 refine⟨s.heap.objs.size,[s.heap.objs.size,p],[s.heap.objs.size],aU.toArray.size,_,_,λi=>(bs[i]?).getD true,rfl,Walks.list (A:=X.A.in1) (I.ok.hd hc) _ p (aan fQ) aU.toArray,
  ⟨⟨_,Heap.get?_push_size _ rfl,rfl,rfl⟩,hl.push _⟩,λi v s' Q' E' hP hQ=>?_,λh' tk hk=>?_⟩
 ·obtain⟨b,e,rfl⟩:=hb.get i v (by simpa using hP)
  simp only[e,Option.getD_some] at hQ
  exact wpAny_truthy_bool hQ
 ·have e:((List.range aU.toArray.size).all λi=>(bs[i]?).getD true)=bs.all id:=by
   rw[aam,hb.length];exact LSm.range_all bs
  rw[e]
  exact⟨.bl _,H,I.kept (t':=tk) (LSm.kept_iter hk),rfl,q⟩
theorem vf (hc:X.calm=true):cY X (.builtin "any") (λxs H Q=>∃p bs,xs=[.ref p]/\bo X.K H p (List.map V.bl bs)/\Q (.bl (bs.any id)) H):=by
 intro pins s σ H xs us Q I r h
 obtain⟨p,bs,rfl,hq,q⟩:=h
 obtain⟨u,rfl,rx⟩:=vals1 r
 cases rx
 obtain⟨aU,rv,pl,hz⟩:=I.list hq
 have hb:=nv rv
 have hl:=pl.isList
 have fQ:p<s.heap.objs.size:=by obtain⟨_,e,_⟩:=hl;exact Heap.lt_size e
 refine call_any_walk (wpAny_pyIter_list hl ?_)
 refine⟨s.heap.objs.size,[s.heap.objs.size,p],[s.heap.objs.size],aU.toArray.size,_,_,λi=>(bs[i]?).getD false,rfl,Walks.list (A:=X.A.in1) (I.ok.hd hc) _ p (aan fQ) aU.toArray,
  ⟨⟨_,Heap.get?_push_size _ rfl,rfl,rfl⟩,hl.push _⟩,λi v s' Q' E' hP hQ=>?_,λh' tk hk=>?_⟩
 ·obtain⟨b,e,rfl⟩:=hb.get i v (by simpa using hP)
  simp only[e,Option.getD_some] at hQ
  exact wpAny_truthy_bool hQ
 ·have e:((List.range aU.toArray.size).any λi=>(bs[i]?).getD false)=bs.any id:=by
   rw[aam,hb.length];exact LSm.range_any bs
  rw[e]
  exact⟨.bl _,H,I.kept (t':=tk) (LSm.kept_iter hk),rfl,q⟩
theorem tu (hc:X.calm=true:=by rfl) (hK:X.K=K:=by rfl):cY X (.builtin "all") (λxs H Q=>∃p bs,xs=[.ref p]/\bo K H p (List.map V.bl bs)/\Q (.bl (bs.all id)) H):=by subst hK;exact vd hc
theorem tw (hc:X.calm=true:=by rfl) (hK:X.K=K:=by rfl):cY X (.builtin "any") (λxs H Q=>∃p bs,xs=[.ref p]/\bo K H p (List.map V.bl bs)/\Q (.bl (bs.any id)) H):=by subst hK;exact vf hc
noncomputable def tSumV (to:TE):TE:=λσ H Q=>to σ H λv H1=>∃d kvs ns,v=.ref d/\H1 d=some (.dK kvs)/\kvs.map (·.2)=List.map V.int ns/\Q (.int ns.sum) H1
theorem pV {α:Type} {J:It} {tc:TT} {te:TE} {tl:St} {H1:Hp} {fin:List V->Hp->Prop} {Item:Nat->V->Hp->Hp->Prop} (as:List α) (f:α->Option V) (S:Src J (az H1) as.length Item) (sub:∀i x H H3,Item i x H H3->H3=H) (hz:as.length<=sizeLine)
  (hs:∀i a x,as[i]?=some a->Item i x H1 H1->∀(Y:VK) (N:Hp->Prop),(∀z,f a=some z->Y z H1)->(f a=none->N H1)->tc (some x::tl) H1 λb H5=>if b=true then te (some x::tl) H5 Y else N H5)
  (jY:fin (as.filterMap f) H1):eY J (gName 0) tc te (none::tl) H1 fin:=by
 refine hX S (λσ=>∃w0,σ=w0::tl) ⟨_,rfl⟩ (λi ys H=>H=H1/\ys=(as.take i).filterMap f) ⟨rfl,by simp⟩ hz ?_ ?_
 ·rintro i x σ H ys H3 Q N hi sm ⟨rfl,rfl⟩ hl ⟨w0,rfl⟩ it kq kn
  obtain rfl:=sub _ _ _ _ it
  have ea:as[i]?=some as[i]:=aad hi
  refine hs i _ x ea it _ _ (λz e=>kq _ _ _ ⟨_,rfl⟩ sm ⟨rfl,?_⟩) (λe=>kn _ _ ⟨_,rfl⟩ sm ⟨rfl,?_⟩)
  ·rw[aaC,ea,abm]
   simp [e]
  ·rw[aaC,ea,abm]
   simp [e]
 ·rintro ys H sm ⟨rfl,rfl⟩ hl
  rw[aaE (aah _)]
  exact jY
theorem aV {a b:TS} {D:Ends} {σ:St} {H:Hp} (C:St->Hp->Prop) (hb:∀σ' H',C σ' H'->b D σ' H') (ha:∀N:St->Hp->Prop,(∀σ' H',C σ' H'->N σ' H')->a {D with nx:=N} σ H):tSeq a b D σ H:=ha _ hb
end
end L2
namespace Nm
noncomputable def pos (ps:Ws):Ws:=ps.filter λp=>decide (0<p.2)
end Nm
namespace L2
open PySem PySem.Spec PyProof.Rows PySem.W
section
variable {X : Cx} {K : PySem.W.Frag}
noncomputable def rJoin (K:PySem.W.Frag):V->List V->Hp->VK->Prop:=λx xs H Q=>∃sep p ts,x=.str sep/\xs=[.ref p]/\bo K H p (List.map V.str ts)/\JoinOk sep ts=true/\Q (.str (Txt.join sep ts)) H
abbrev TJ:=Str->TE
noncomputable def jNil:TJ:=λacc _ H Q=>Q (.str acc) H
noncomputable def jLit (x:Str) (t:TJ):TJ:=λacc σ H Q=>(acc++x).length<=sizeLine/\t (acc++x) σ H Q
noncomputable def jInt (te:TE) (t:TJ):TJ:=λacc σ H Q=>te σ H λv H1=>∃i,v=.int i/\i.natAbs.log2<1920/\(acc++toString i).length<=sizeLine/\t (acc++toString i) σ H1 Q
noncomputable def jStr (te:TE) (t:TJ):TJ:=λacc σ H Q=>te σ H λv H1=>∃z,v=.str z/\z.length<=sizeLine/\(acc++z).length<=sizeLine/\t (acc++z) σ H1 Q
noncomputable def tJoined (t:TJ):TE:=λσ H Q=>t Str.empty σ H Q
end
end L2
namespace L2
open PySem PySem.Spec PyProof.Rows PySem.W
inductive Pl where
 | fin (w:Int×Int) | dq (w:Int×Int) (ws:List (Int×Int)) | cC (who:Int) (to:List Int)
noncomputable def kY:Pl->Dat
 | .fin w=>.tup [.str (Str.ofString "end"),bB w]
 | .dq w ws=>.tup [.str (Str.ofString "throw"),bB w,.lst (ws.map bB)]
 | .cC who to=>.tup [.str (Str.ofString "pick"),.int who,.lst (to.map .int)]
noncomputable def qN (b:List Pl):Dat:=.lst (b.map kY)
theorem ia {H:Hp}:∀{ns:List Int} {vs:List V},bf H (ns.map Dat.int) vs↔vs=ns.map V.int
 | [],vs=>by simp only[aaP,bf]
 | n::ns,vs=>by
  simp only[aav,bf,Rep]
  constructor
  ·rintro⟨v,r,rfl,rfl,h⟩
   rw[ia.mp h]
  ·rintro rfl
   exact⟨_,_,rfl,rfl,ia.mpr rfl⟩
theorem c6 {H:Hp} {w:Int×Int} {v:V}:Rep H (kY (.fin w)) v↔∃p q,v=.ref p/\H p=some (.tup [.str (Str.ofString "end"),.ref q])/\H q=some (.tup [.int w.1,.int w.2]):=by
 show Rep H (.tup [.str (Str.ofString "end"),bB w]) v↔_
 rw[Rep]
 simp only[bf,bQ]
 constructor
 ·rintro⟨p,vs,rfl,hp,_,_,rfl,e,_,_,rfl,⟨q,rfl,hq⟩,rfl⟩
  rw[Rep] at e
  subst e
  exact⟨p,q,rfl,hp,hq⟩
 ·rintro⟨p,q,rfl,hp,hq⟩
  exact⟨p,_,rfl,hp,_,_,rfl,by rw[Rep],_,_,rfl,⟨q,rfl,hq⟩,rfl⟩
theorem cW {H:Hp} {w:Int×Int} {ws:List (Int×Int)} {v:V}:Rep H (kY (.dq w ws)) v↔∃p q l xs,v=.ref p/\H p=some (.tup [.str (Str.ofString "throw"),.ref q,.ref l])/\H q=some (.tup [.int w.1,.int w.2])/\H l=some (.lst xs)/\bf H (ws.map bB) xs:=by
 show Rep H (.tup [.str (Str.ofString "throw"),bB w,.lst (ws.map bB)]) v↔_
 rw[Rep]
 simp only[bf,bQ]
 constructor
 ·rintro⟨p,vs,rfl,hp,_,_,rfl,e,_,_,rfl,⟨q,rfl,hq⟩,_,_,rfl,k,rfl⟩
  rw[Rep] at e
  subst e
  obtain⟨l,xs,rfl,hl,r⟩:=aQ.mp k
  exact⟨p,q,l,xs,rfl,hp,hq,hl,r⟩
 ·rintro⟨p,q,l,xs,rfl,hp,hq,hl,r⟩
  exact⟨p,_,rfl,hp,_,_,rfl,by rw[Rep],_,_,rfl,⟨q,rfl,hq⟩,_,_,rfl,aQ.mpr ⟨l,xs,rfl,hl,r⟩,rfl⟩
theorem cF {H:Hp} {who:Int} {to:List Int} {v:V}:Rep H (kY (.cC who to)) v↔∃p l,v=.ref p/\H p=some (.tup [.str (Str.ofString "pick"),.int who,.ref l])/\H l=some (.lst (to.map V.int)):=by
 show Rep H (.tup [.str (Str.ofString "pick"),.int who,.lst (to.map .int)]) v↔_
 rw[Rep]
 simp only[bf]
 constructor
 ·rintro⟨p,vs,rfl,hp,_,_,rfl,e,_,_,rfl,e2,_,_,rfl,k,rfl⟩
  rw[Rep] at e
  rw[Rep] at e2
  subst e e2
  obtain⟨l,xs,rfl,hl,r⟩:=aQ.mp k
  rw[ia] at r
  subst r
  exact⟨p,l,rfl,hp,hl⟩
 ·rintro⟨p,l,rfl,hp,hl⟩
  exact⟨p,_,rfl,hp,_,_,rfl,by rw[Rep],_,_,rfl,by rw[Rep],_,_,rfl,aQ.mpr ⟨l,_,rfl,hl,ia.mpr rfl⟩,rfl⟩
theorem E8 {H:Hp} {q:Pl} {v:V} (h:Rep H (kY q) v):∃p k r,v=.ref p/\H p=some (.tup (.str k::r)):=by
 cases q with
 | fin w=>obtain⟨p,q,rfl,hp,_⟩:=c6.mp h;exact⟨p,_,_,rfl,hp⟩
 | dq w ws=>obtain⟨p,q,l,xs,rfl,hp,_⟩:=cW.mp h;exact⟨p,_,_,rfl,hp⟩
 | cC who to=>obtain⟨p,l,rfl,hp,_⟩:=cF.mp h;exact⟨p,_,_,rfl,hp⟩
theorem vg (p:Int×Int):depth (bB p)=1:=by simp [bB,depth,depth.dL]
theorem dB {H:Hp} {b:List Pl} {xs:List V} {i:Nat} {x:V} (h:bf H (b.map kY) xs) (e:xs[i]?=some x):∃q,b[i]?=some q/\Rep H (kY q) x:=by
 obtain⟨d,ed,rd⟩:=h.get e
 rw[aaf] at ed
 obtain⟨q,eq,rfl⟩:=Option.map_eq_some_iff.mp ed
 exact⟨q,eq,rd⟩
theorem dC {H:Hp} {b:List Pl} {xs:List V} {i:Nat} {q:Pl} (h:bf H (b.map kY) xs) (e:b[i]?=some q):∃x,xs[i]?=some x/\Rep H (kY q) x:=
 h.at (by rw[aaf,e];rfl)
theorem dh {α:Type} {H:Hp} {f:α->Dat} {as:List α} {ys:List V} (hl:ys.length=as.length) (h:∀(i:Nat) y,ys[i]?=some y->∀a,as[i]?=some a->Rep H (f a) y):bf H (as.map f) ys:=
 bf.of (by rw[aac,hl]) λi d v e1 e2=>by
  rw[aaf] at e1
  obtain⟨a,ea,rfl⟩:=Option.map_eq_some_iff.mp e1
  exact h i v e2 a ea
noncomputable def cE (H:Hp) (p:Addr):Hp:=λa=>if a=p then none else H a
theorem bE {H:Hp} {p a:Addr} (h:a≠p):cE H p a=H a:=if_neg h
theorem qO {H:Hp} {p:Addr} {o:HO}:az (cE H p) (upd H p o):=λa u e=>by
 unfold cE at e
 by_cases h:a=p
 ·rw[if_pos h] at e;cases e
 ·rw[if_neg h] at e;rw[aH h];exact e
theorem bV {H:Hp} {p:Addr}:az (cE H p) H:=λa u e=>by
 unfold cE at e
 by_cases h:a=p
 ·rw[if_pos h] at e;cases e
 ·rw[if_neg h] at e;exact e
theorem eC {H0 H:Hp} {p:Addr} (s:az H0 H) (n:H0 p=none):az H0 (cE H p):=λa u e=>by
 rw[bE (λz=>by rw[z,n] at e;cases e)]
 exact s _ _ e
theorem bI {H H':Hp} {p:Addr} (s:az H H'):az (cE H p) (cE H' p):=λa u e=>by
 unfold cE at *
 by_cases h:a=p
 ·rw[if_pos h] at e;cases e
 ·rw[if_neg h] at e ⊢;exact s _ _ e
theorem ba {H0 H:Hp} {p:Addr} {o:HO} (s:az H0 H) (n:H0 p=none):az H0 (upd H p o):=(eC s n).trans qO
theorem jy {H:Hp} {p:Addr} {ds:List Dat} {xs:List V} {d:Dat} {v:V} (h:bf (cE H p) ds xs) (k:Rep (cE H p) d v):bf (cE (upd H p (.lst (xs++ [v]))) p) (ds++ [d]) (xs++ [v]):=by
 have s:az (cE H p) (cE (upd H p (.lst (xs++ [v]))) p):=eC qO (if_pos rfl)
 refine(h.mono s).append ?_
 rw[bf]
 exact⟨v,[],rfl,k.mono s,by rw[bf]⟩
theorem nE {α β:Type} {f:α->β} {as:List α} {i:Nat} {a:α} (h:as[i]?=some a):fc (as.map f) (i:Int)=some (f a):=bA (by rw[aaf,h];rfl)
theorem tz {c:TT} {tb:TS} {D:Ends} {σ:St} {H:Hp} (W:Nat->St->Hp->Prop) {m:Nat} (h0:W m σ H)
  (hs:∀m σ H,W m σ H->c σ H λb H1=>if b=true then tb {D with nx:=λσ' H'=>∃m',m'<m/\W m' σ' H',ct:=λσ' H'=>∃m',m'<m/\W m' σ' H',bk:=D.nx} σ H1 else D.nx σ H1)
  (mono:∀σ H Q Q',(∀b H1,Q b H1->Q' b H1)->c σ H Q->c σ H Q'):qA c tb D σ H:=by
 refine⟨W,⟨m,h0⟩,λm σ H w=>mono σ H _ _ (λb H1 q=>?_) (hs m σ H w)⟩
 cases b with
 | true=>exact⟨_,λ_ _ h=>h,q⟩
 | false=>exact q
theorem pW {K:PySem.W.Frag} {α:Type} {J:It} {tc:TT} {te:TE} {tl:St} {H1:Hp} {fin:List V->Hp->Prop} {Item:Nat->V->Hp->Hp->Prop} (as:List α) (f:α->Option V) (S:Src J (az H1) as.length Item) (HZ:Nat->V->V->Hp->Prop)
  (tp:∀i x H H3,i<as.length->az H1 H->Item i x H H3->az H H3/\∃p a b,x=.ref p/\eL K H3 p [a,b]/\HZ i a b H3) (hz:as.length<=sizeLine)
  (hs:∀i a u v H3,as[i]?=some a->az H1 H3->HZ i u v H3->∀(Y:VK) (N:Hp->Prop),(∀z H6,f a=some z->az H3 H6->Y z H6)->(∀H6,f a=none->az H3 H6->N H6)->tc (some u::some v::tl) H3 λb H5=>if b=true then te (some u::some v::tl) H5 Y else N H5)
  (jY:∀H2,az H1 H2->fin (as.filterMap f) H2):eY J (yQ K 2 (gCons (gName 0) (gCons (gName 1) gNil))) tc te (none::none::tl) H1 fin:=by
 refine hX S (λσ=>∃w0 w1,σ=w0::w1::tl) ⟨_,_,rfl⟩ (λi ys _=>ys=(as.take i).filterMap f) (by simp) hz ?_ ?_
 ·rintro i x σ H ys H3 Q N hi sm rfl hl ⟨w0,w1,rfl⟩ it kq kn
  obtain⟨s3,p,u,v,rfl,sq,i2⟩:=tp i x H H3 hi sm it
  have ea:as[i]?=some as[i]:=aad hi
  refine⟨p,_,rfl,sq,rfl,_,_,rfl,_,_,rfl,rfl,?_⟩
  refine hs i _ u v H3 ea (sm.trans s3) i2 _ _ (λz H6 e s6=>kq _ _ _ ⟨_,_,rfl⟩ (sm.trans (s3.trans s6)) ?_) (λH6 e s6=>kn _ _ ⟨_,_,rfl⟩ (sm.trans (s3.trans s6)) ?_)
  ·rw[aaC,ea,abm]
   simp [e]
  ·rw[aaC,ea,abm]
   simp [e]
 ·rintro ys H sm rfl hl
  rw[aaE (aah _)]
  exact jY H sm
theorem dD {α:Type} (f:α->V) (p:α->Bool):∀l:List α,l.filterMap (λi=>if p i=true then some (f i) else none)=(l.filter p).map f
 | []=>rfl
 | x::l=>by
  rw[List.filterMap_cons,List.filter_cons]
  by_cases c:p x=true
  ·simp only[c,if_true,aav,dD f p l]
  ·simp only[c,if_false,dD f p l]
   rfl
section
variable {X : Cx} {K : PySem.W.Frag}
theorem vh (hc:X.calm=true):cY X (.builtin "max") (λxs H Q=>∃p ns,xs=[.ref p]/\bo X.K H p (List.map V.int ns)/\0<ns.length/\∀M,M∈ns->(∀a∈ns,a<=M)->Q (.int M) H):=by
 intro pins s σ H xs us Q I r h
 obtain⟨p,ns,rfl,hq,Mi,q⟩:=h
 obtain⟨u,rfl,rx⟩:=vals1 r
 cases rx
 obtain⟨aU,rv,pl,hz⟩:=I.list hq
 have hi:=intsAre_of rv
 have hl:=pl.isList
 obtain⟨xs,e⟩:=hi.allInts.items
 have DQ:ns=xs.toList.map (·.1):=by rw[<-hi.numsOf,<-nums_intItems,<-e]
 have hsz:0<xs.size:=by
  have h3:=Mi;rw[DQ,aac,abt] at h3;exact h3
 rw[e] at hl
 refine max_intList (I.ok.hd hc) hl hsz λv h' tk hv hk=>?_
 obtain⟨t,rfl⟩:=intItems_at hv
 obtain⟨h1,h2⟩:=argBest_gt (numAt xs) (xs.size - 1)
 refine⟨.int _,H,I.kept (t':=tk) hk,⟨t,rfl⟩,q _ ?_ λa ha=>?_⟩
 ·rw[DQ,numAt_eq];exact getD_mem (by rw[aac,abt];omega)
 ·rw[DQ] at ha
  obtain⟨j,hj,rfl⟩:=mem_getD ha
  rw[aac,abt] at hj
  rw[<-numAt_eq];exact h2 j (by omega)
theorem tD (hc:X.calm=true:=by rfl) (hK:X.K=K:=by rfl):cY X (.builtin "max") (λxs H Q=>∃p ns,xs=[.ref p]/\bo K H p (List.map V.int ns)/\0<ns.length/\∀M,M∈ns->(∀a∈ns,a<=M)->Q (.int M) H):=by subst hK;exact vh hc
end
end L2
namespace Lv
open L2
abbrev Fs:=List (Option Int)
noncomputable def fU:Pl->List Int
 | .fin _=>[]
 | .dq _ ws=>ws.map (·.2)
 | .cC _ to=>to
noncomputable def lk (fs:Fs) (g:Int):Option Int:=fs.getD g.toNat none
noncomputable def DR (fs:Fs) (q:Pl):Bool:=
 match q with
 | .dq _ ws=>(ws.map (·.2)).any λg=>(lk fs g).isSome
 | .fin _=>true
 | .cC _ to=>to.all λg=>(lk fs g).isSome
noncomputable def gf (b:List Pl) (fs:Fs) (i:Nat):Bool:=(fs.getD i none).isNone && (match b[i]? with | some q=>DR fs q | none=>false)
noncomputable def fresh (b:List Pl) (fs:Fs):List Nat:=(List.range b.length).filter (gf b fs)
noncomputable def cJ (fs:Fs) (is:List Nat) (L:Int):Fs:=is.foldl (λacc i=>acc.set i (some L)) fs
noncomputable def run (b:List Pl):Nat->Fs->Int->Fs
 | 0,fs,_=>fs
 | m+1,fs,L=>if fresh b fs=[] then fs else run b m (cJ fs (fresh b fs) L) (L+1)
noncomputable def Ij:Pl->Option Int
 | .fin _=>some 0
 | _=>none
noncomputable def oR (b:List Pl):Fs:=b.map Ij
noncomputable def tE (b:List Pl):Fs:=run b b.length (oR b) 1
noncomputable def d4 (fs:Fs):Nat:=fs.countP (·.isNone)
theorem mv (fs:Fs):∀(is:List Nat) (L:Int),(cJ fs is L).length=fs.length
 | is,L=>by
  induction is generalizing fs with
  | nil=>rfl
  | cons i is ih=>
   show(cJ (fs.set i (some L)) is L).length=_
   rw[ih,aaU]
theorem wB (L:Int):∀(is:List Nat) (fs:Fs) (k:Nat),(cJ fs is L)[k]?=if k∈is/\k<fs.length then some (some L) else fs[k]?
 | [],fs,k=>by simp [cJ]
 | i::is,fs,k=>by
  show(cJ (fs.set i (some L)) is L)[k]?=_
  rw[wB L is,aaU]
  by_cases h:k<fs.length
  ·by_cases h1:k∈is
   ·rw[if_pos ⟨h1,h⟩,if_pos ⟨aak _ h1,h⟩]
   ·rw[if_neg (λz=>h1 z.1)]
    by_cases h2:k=i
    ·subst h2
     rw[if_pos ⟨aaj,h⟩,aa1 h]
    ·rw[if_neg (λz=>(List.mem_cons.mp z.1).elim h2 h1),aaO (Ne.symm h2)]
  ·rw[if_neg (λz=>h z.2),if_neg (λz=>h z.2),aas (by rw[aaU];omega),aas (by omega)]
theorem cR (x:Option Int) (fs:Fs):d4 (x::fs)=d4 fs+if x.isNone then 1 else 0:=by
 unfold d4
 rw[List.countP_cons]
theorem pX (L:Int):∀(fs:Fs) (i:Nat),d4 (fs.set i (some L))<=d4 fs
 | [],i=>by simp
 | x::fs,0=>by
  rw[abh,cR,cR]
  simp
 | x::fs,i+1=>by
  rw[abi,cR,cR]
  have:=pX L fs i
  omega
theorem tF (L:Int):∀(fs:Fs) (i:Nat),fs[i]?=some none->d4 (fs.set i (some L))<d4 fs
 | [],i,h=>by simp at h
 | x::fs,0,h=>by
  simp at h
  subst h
  rw[abh,cR,cR]
  simp
 | x::fs,i+1,h=>by
  rw[abi,cR,cR]
  have:=tF L fs i (by simpa using h)
  omega
theorem pY (L:Int):∀(is:List Nat) (fs:Fs),d4 (cJ fs is L)<=d4 fs
 | [],fs=>aah _
 | i::is,fs=>aap (pY L is (fs.set i (some L))) (pX L fs i)
theorem qP (L:Int) {is:List Nat} {fs:Fs} (h:is≠[]) (k:∀i∈is,fs[i]?=some none):d4 (cJ fs is L)<d4 fs:=by
 cases is with
 | nil=>exact absurd rfl h
 | cons i is=>exact abb (pY L is _) (tF L fs i (k i aaj))
theorem ib {b:List Pl} {fs:Fs} {i:Nat}:i∈fresh b fs↔i<b.length/\gf b fs i=true:=by
 unfold fresh
 rw[List.mem_filter,List.mem_range]
theorem nF {b:List Pl} {fs:Fs} (hl:fs.length=b.length) {i:Nat} (h:i∈fresh b fs):fs[i]?=some none:=by
 obtain⟨h1,h2⟩:=ib.mp h
 unfold gf at h2
 rw[aa7] at h2
 have e:fs[i]?=some fs[i]:=aad (by omega)
 rw[aae,e] at h2
 rw[e]
 cases h:fs[i] with
 | none=>rfl
 | some v=>rw[h] at h2;simp at h2
noncomputable def At (fs:Fs) (L:Int) (i:Nat):Pl->Prop
 | .fin _=>fs[i]?=some (some 0)
 | .dq _ ws=>(fs[i]?=some none/\∀g∈ws.map (·.2),∀u,lk fs g=some u->u=L - 1)\/
   ∃v,fs[i]?=some (some v)/\1<=v/\(∃g∈ws.map (·.2),lk fs g=some (v - 1))/\∀g∈ws.map (·.2),∀u,lk fs g=some u->v - 1<=u
 | .cC _ to=>(fs[i]?=some none/\((∀g∈to,(lk fs g).isSome=true)->∃g∈to,lk fs g=some (L - 1)))\/
   ∃v,fs[i]?=some (some v)/\1<=v/\(∀g∈to,∃u,lk fs g=some u/\u<=v - 1)/\∃g∈to,lk fs g=some (v - 1)
structure Good (b:List Pl):Prop where
 oV:∀q∈b,∀g∈fU q,0<=g/\g<b.length
 cC:∀q∈b,∀w to,q=.cC w to->to≠[]
structure Inv (b:List Pl) (fs:Fs) (L:Int):Prop where
 len:fs.length=b.length
 lt:∀(i:Nat) (v:Int),fs[i]?=some (some v)->0<=v/\v<L
 at_:∀(i:Nat) q,b[i]?=some q->At fs L i q
theorem zy {b:List Pl} (g:Good b):Inv b (oR b) 1:=by
 have h0:∀(i:Nat) (v:Int),(oR b)[i]?=some (some v)->v=0:=λi v e=>by
  unfold oR at e
  rw[aaf] at e
  obtain⟨q,_,e⟩:=Option.map_eq_some_iff.mp e
  cases q <;>simp [Ij] at e
  exact e.symm
 have hk:∀(g u:Int),lk (oR b) g=some u->u=0:=λg u e=>by
  unfold lk at e
  rw[aae] at e
  cases h:(oR b)[g.toNat]? with
  | none=>rw[h] at e;simp at e
  | some o=>rw[h] at e;simp at e;subst e;exact h0 _ _ h
 refine⟨by simp [oR],λi v e=>by have:=h0 i v e;omega,λi q e=>?_⟩
 have e2:(oR b)[i]?=some (Ij q):=by unfold oR;rw[aaf,e];rfl
 cases q with
 | fin w=>exact e2
 | dq w ws=>exact .inl ⟨e2,λg _ u h=>hk g u h⟩
 | cC w to=>
  refine .inl ⟨e2,λh=>?_⟩
  cases to with
  | nil=>exact absurd rfl (g.cC _ (aag e) _ _ rfl)
  | cons x r=>
   refine⟨x,aaj,?_⟩
   have:=h x aaj
   obtain⟨u,hu⟩:=Option.isSome_iff_exists.mp this
   have:=hk x u hu
   rw[hu,this]
   rfl
theorem pZ {fs:Fs} {g:Int} {u:Int}:lk fs g=some u↔fs[g.toNat]?=some (some u):=by
 unfold lk
 rw[aae]
 cases h:fs[g.toNat]? with
 | none=>simp
 | some o=>simp
theorem step {b:List Pl} (gb:Good b) {fs:Fs} {L:Int} (I:Inv b fs L) (L1:1<=L):Inv b (cJ fs (fresh b fs) L) (L+1):=by
 have hl:=I.len
 have get:∀(k:Nat),(cJ fs (fresh b fs) L)[k]?=if k∈fresh b fs/\k<fs.length then some (some L) else fs[k]?:=wB L _ _
 have old:∀(k:Nat) (v:Int),fs[k]?=some (some v)->(cJ fs (fresh b fs) L)[k]?=some (some v):=λk v e=>by
  rw[get,if_neg,e]
  intro z
  rw[nF hl z.1] at e
  cases e
 have ye:∀(g u:Int),lk fs g=some u->lk (cJ fs (fresh b fs) L) g=some u:=λg u h=>pZ.mpr (old _ _ (pZ.mp h))
 have u4:∀(g u:Int),lk (cJ fs (fresh b fs) L) g=some u->lk fs g=some u\/u=L:=λg u h=>by
  have h:=pZ.mp h
  rw[get] at h
  split at h
  ·right;simpa using h.symm
  ·exact .inl (pZ.mpr h)
 refine⟨by rw[mv];exact hl,λi v e=>?_,λi q e=>?_⟩
 ·rw[get] at e
  split at e
  ·simp at e;omega
  ·have:=I.lt i v e;omega
 ·have hi:i<b.length:=(List.getElem?_eq_some_iff.mp e).1
  have A:=I.at_ i q e
  have rd:∀(q:Pl),b[i]?=some q->fs[i]?=some none->(i∈fresh b fs↔DR fs q=true):=λq e e2=>by
   rw[ib]
   unfold gf
   rw[aae,e2,e]
   simp [hi]
  cases q with
  | fin w=>exact old _ _ A
  | dq w ws=>
   rcases A with ⟨a1,a2⟩ | ⟨v,a1,a2,⟨x,hx,a3⟩,a4⟩
   ·by_cases c:i∈fresh b fs
    ·right
     refine⟨L,by rw[get,if_pos ⟨c,by omega⟩],L1,?_,λg hg u h=>?_⟩
     ·have:=(rd _ e a1).mp c
      have:(ws.map (·.2)).any (λg=>(lk fs g).isSome)=true:=this
      obtain⟨x,hx,h⟩:=List.any_eq_true.mp this
      obtain⟨u,hu⟩:=Option.isSome_iff_exists.mp h
      have:=a2 x hx u hu
      subst this
      exact⟨x,hx,ye _ _ hu⟩
     ·rcases u4 _ _ h with h | h
      ·have:=a2 g hg u h;omega
      ·omega
    ·left
     refine⟨by rw[get,if_neg (λz=>c z.1)];exact a1,λg hg u h=>?_⟩
     rcases u4 _ _ h with h | h
     ·exfalso
      refine c ((rd _ e a1).mpr ?_)
      show(ws.map (·.2)).any (λg=>(lk fs g).isSome)=true
      exact List.any_eq_true.mpr ⟨g,hg,by rw[h];rfl⟩
     ·omega
   ·right
    refine⟨v,old _ _ a1,a2,⟨x,hx,ye _ _ a3⟩,λg hg u h=>?_⟩
    rcases u4 _ _ h with h | h
    ·exact a4 g hg u h
    ·have:=I.lt i v a1;omega
  | cC w to=>
   rcases A with ⟨a1,a2⟩ | ⟨v,a1,a2,a3,x,hx,a4⟩
   ·by_cases c:i∈fresh b fs
    ·right
     have r:=(rd _ e a1).mp c
     have r:to.all (λg=>(lk fs g).isSome)=true:=r
     have r:=List.all_eq_true.mp r
     obtain⟨x,hx,h⟩:=a2 r
     refine⟨L,by rw[get,if_pos ⟨c,by omega⟩],L1,λg hg=>?_,x,hx,ye _ _ h⟩
     obtain⟨u,hu⟩:=Option.isSome_iff_exists.mp (r g hg)
     exact⟨u,ye _ _ hu,by have:=I.lt _ _ (pZ.mp hu);omega⟩
    ·left
     refine⟨by rw[get,if_neg (λz=>c z.1)];exact a1,λh=>?_⟩
     have:¬∀g∈to,(lk fs g).isSome=true:=λz=>c ((rd _ e a1).mpr (show to.all (λg=>(lk fs g).isSome)=true from List.all_eq_true.mpr z))
     have:∃g∈to,lk fs g=none:=by
      apply Classical.byContradiction
      intro n
      apply this
      intro g hg
      cases h:lk fs g with
      | none=>exact absurd ⟨g,hg,h⟩ n
      | some u=>rfl
     obtain⟨g,hg,hn⟩:=this
     obtain⟨u,hu⟩:=Option.isSome_iff_exists.mp (h g hg)
     refine⟨g,hg,?_⟩
     rcases u4 _ _ hu with h | h
     ·rw[hn] at h;cases h
     ·rw[hu,h];congr 1;omega
   ·right
    refine⟨v,old _ _ a1,a2,λg hg=>?_,x,hx,ye _ _ a4⟩
    obtain⟨u,h1,h2⟩:=a3 g hg
    exact⟨u,ye _ _ h1,h2⟩
noncomputable def Ends (fs:Fs) (i:Nat):Pl->Prop
 | .fin _=>fs[i]?=some (some 0)
 | .dq _ ws=>(fs[i]?=some none/\∀g∈ws.map (·.2),lk fs g=none)\/
   ∃v,fs[i]?=some (some v)/\1<=v/\(∃g∈ws.map (·.2),lk fs g=some (v - 1))/\∀g∈ws.map (·.2),∀u,lk fs g=some u->v - 1<=u
 | .cC _ to=>(fs[i]?=some none/\∃g∈to,lk fs g=none)\/
   ∃v,fs[i]?=some (some v)/\1<=v/\(∀g∈to,∃u,lk fs g=some u/\u<=v - 1)/\∃g∈to,lk fs g=some (v - 1)
theorem Cp {b:List Pl} {fs:Fs} {L:Int} (I:Inv b fs L) (h:fresh b fs=[]) (i:Nat) (q:Pl) (e:b[i]?=some q):Ends fs i q:=by
 have hi:i<b.length:=(List.getElem?_eq_some_iff.mp e).1
 have nr:fs[i]?=some none->DR fs q=false:=λe2=>by
  have:i∉fresh b fs:=by rw[h];simp
  rw[ib] at this
  cases hr:DR fs q with
  | false=>rfl
  | true=>
   exfalso
   apply this
   refine⟨hi,?_⟩
   unfold gf
   rw[aae,e2,e]
   simp [hr]
 have A:=I.at_ i q e
 cases q with
 | fin w=>exact A
 | dq w ws=>
  rcases A with ⟨a1,a2⟩ | A
  ·refine .inl ⟨a1,λg hg=>?_⟩
   have:=nr a1
   have:(ws.map (·.2)).any (λg=>(lk fs g).isSome)=false:=this
   have:=List.any_eq_false.mp this g hg
   simpa using this
  ·exact .inr A
 | cC w to=>
  rcases A with ⟨a1,a2⟩ | A
  ·refine .inl ⟨a1,?_⟩
   have:=nr a1
   have:to.all (λg=>(lk fs g).isSome)=false:=this
   obtain⟨g,hg,n⟩:=List.all_eq_false.mp this
   exact⟨g,hg,by simpa using n⟩
  ·exact .inr A
theorem jZ {b:List Pl} {fs:Fs} (hl:fs.length=b.length) (h:fresh b fs≠[]) (L:Int):d4 (cJ fs (fresh b fs) L)<d4 fs:=qP L h λ_ hi=>nF hl hi
theorem qQ {b:List Pl} (gb:Good b):∀(m:Nat) (fs:Fs) (L:Int),Inv b fs L->1<=L->d4 fs<=m->∃L',L'<=L+m/\Inv b (run b m fs L) L'/\fresh b (run b m fs L)=[]
 | 0,fs,L,I,L1,h=>by
  refine⟨L,by omega,I,?_⟩
  show fresh b fs=[]
  apply Classical.byContradiction
  intro n
  have:=jZ I.len n L
  omega
 | m+1,fs,L,I,L1,h=>by
  show ∃L',L'<=L+ (m+1:Nat)/\Inv b (if fresh b fs=[] then fs else run b m (cJ fs (fresh b fs) L) (L+1)) L'/\fresh b (if fresh b fs=[] then fs else run b m (cJ fs (fresh b fs) L) (L+1))=[]
  by_cases c:fresh b fs=[]
  ·rw[if_pos c]
   exact⟨L,by omega,I,c⟩
  ·rw[if_neg c]
   have:=jZ I.len c L
   obtain⟨L',h1,h2⟩:=qQ gb m _ _ (step gb I L1) (by omega) (by omega)
   exact⟨L',by omega,h2⟩
theorem nG (fs:Fs):d4 fs<=fs.length:=List.countP_le_length
theorem Cq {b:List Pl} (gb:Good b):(tE b).length=b.length:=by
 obtain⟨L,_,I,_⟩:=qQ gb b.length _ _ (zy gb) (by decide) (by have:=nG (oR b);simpa [oR] using this)
 exact I.len
theorem zA {b:List Pl} (gb:Good b) (i:Nat) (q:Pl) (e:b[i]?=some q):Ends (tE b) i q:=by
 obtain⟨L,_,I,f⟩:=qQ gb b.length _ _ (zy gb) (by decide) (by have:=nG (oR b);simpa [oR] using this)
 exact Cp I f i q e
end Lv
namespace Bf
open L2 Lv
abbrev En:=Int×Option (Int×Nat)×List Nat
noncomputable def keys (es:List En):List Int:=es.map (·.1)
noncomputable def fg (b:List Pl) (k:Int):List Int:=match b[k.toNat]? with | some q=>fU q | none=>[]
noncomputable def fV (here:Int) (path:List Nat):Nat->List Int->List En->List En
 | _,[],es=>es
 | w,g::gs,es=>fV here path (w+1) gs (if g∈keys es then es else es++ [(g,some (here,w),path++ [w])])
noncomputable def BD (b:List Pl):Nat->Nat->List En->List En
 | 0,_,es=>es
 | m+1,t,es=>match es[t]? with | none=>es | some e=>BD b m (t+1) (fV e.1 e.2.2 0 (fg b e.1) es)
noncomputable def steps (b:List Pl) (start:Int):List En:=BD b (b.length+1) 0 [(start,none,[])]
structure Core (b:List Pl) (start:Int) (es:List En):Prop where
 nd:(keys es).Nodup
 oV:∀e∈es,0<=e.1/\e.1<b.length
 hd:es[0]?=some (start,none,[])
 par:∀(i:Nat) e,es[i]?=some e->0<i->∃(j:Nat) (ej:En) (w:Nat),j<i/\es[j]?=some ej/\e.2.1=some (ej.1,w)/\(fg b ej.1)[w]?=some e.1/\e.2.2=ej.2.2++ [w]
 mono:∀(i j:Nat) ei ej,i<=j->es[i]?=some ei->es[j]?=some ej->ei.2.2.length<=ej.2.2.length
structure GY (b:List Pl) (start:Int) (t:Nat) (e:En) (k:Nat) (es:List En):Prop extends Core b start es where
 at_:es[t]?=some e
 top:∀(i:Nat) ei,es[i]?=some ei->ei.2.2.length<=e.2.2.length+1
 old:∀(j:Nat) ej,j<t->es[j]?=some ej->∀g∈fg b ej.1,∃(i:Nat) (ei:En),es[i]?=some ei/\ei.1=g/\ei.2.2.length<=ej.2.2.length+1
 now:∀g∈(fg b e.1).take k,∃(i:Nat) (ei:En),es[i]?=some ei/\ei.1=g/\ei.2.2.length<=e.2.2.length+1
structure Inv (b:List Pl) (start:Int) (t:Nat) (es:List En):Prop extends Core b start es where
 top:∀(i:Nat) ei et,es[i]?=some ei->es[t]?=some et->ei.2.2.length<=et.2.2.length+1
 old:∀(j:Nat) ej,j<t->es[j]?=some ej->∀g∈fg b ej.1,∃(i:Nat) (ei:En),es[i]?=some ei/\ei.1=g/\ei.2.2.length<=ej.2.2.length+1
theorem eD {α:Type} {l:List α} {x y:α} {i:Nat} (h:(l++ [x])[i]?=some y):l[i]?=some y\/(i=l.length/\y=x):=by
 by_cases c:i<l.length
 ·rw[aa5 c] at h
  exact .inl h
 ·rw[aa4 (by omega)] at h
  have:i - l.length=0:=by
   by_cases q:i - l.length=0
   ·exact q
   ·rw[aas (by simp;omega)] at h;cases h
  rw[this] at h
  simp at h
  exact .inr ⟨by omega,h.symm⟩
theorem up {α:Type} {l:List α} {x y:α} {i:Nat} (h:l[i]?=some y):(l++ [x])[i]?=some y:=by
 rw[aa5 (List.getElem?_eq_some_iff.mp h).1]
 exact h
theorem one {b:List Pl} (gb:Good b) {start:Int} {t:Nat} {e:En} {k:Nat} {es:List En} {g:Int} (M:GY b start t e k es) (hg:(fg b e.1)[k]?=some g):
  GY b start t e (k+1) (if g∈keys es then es else es++ [(g,some (e.1,k),e.2.2++ [k])]):=by
 have tk:(fg b e.1).take (k+1)=(fg b e.1).take k++ [g]:=by rw[aaC,hg];rfl
 by_cases c:g∈keys es
 ·rw[if_pos c]
  refine {M with now:=λx hx=>?_}
  rw[tk] at hx
  rcases List.mem_append.mp hx with hx | hx
  ·exact M.now x hx
  ·have:x=g:=by simpa using hx
   subst this
   obtain⟨ei,KP,rfl⟩:=List.mem_map.mp c
   obtain⟨i,hi⟩:=aaD KP
   exact⟨i,ei,hi,rfl,M.top i ei hi⟩
 ·rw[if_neg c]
  have rg:0<=g/\g<b.length:=by
   unfold fg at hg
   cases hb:b[e.1.toNat]? with
   | none=>rw[hb] at hg;simp at hg
   | some q=>
    rw[hb] at hg
    exact gb.oV q (aag hb) g (aag hg)
  have tl:t<es.length:=(List.getElem?_eq_some_iff.mp M.at_).1
  refine⟨⟨?_,λx hx=>?_,up M.hd,λi x hx i0=>?_,λi j ei ej LN hi hj=>?_⟩,up M.at_,λi ei hi=>?_,λj ej hj E9 x hx=>?_,λx hx=>?_⟩
  ·unfold keys at *
   rw[aaw]
   refine List.nodup_append.mpr ⟨M.nd,by simp,λa ha b' Xe=>?_⟩
   have:b'=g:=by simpa using Xe
   subst this
   intro z
   exact c (z▸ha)
  ·rcases List.mem_append.mp hx with hx | hx
   ·exact M.oV x hx
   ·have:x=(g,some (e.1,k),e.2.2++ [k]):=by simpa using hx
    subst this
    exact rg
  ·rcases eD hx with hx | ⟨rfl,rfl⟩
   ·obtain⟨j,ej,w,a1,a2,a3⟩:=M.par i x hx i0
    exact⟨j,ej,w,a1,up a2,a3⟩
   ·exact⟨t,e,k,tl,up M.at_,rfl,hg,rfl⟩
  ·rcases eD hi with hi | ⟨rfl,rfl⟩
   ·rcases eD hj with hj | ⟨rfl,rfl⟩
    ·exact M.mono i j ei ej LN hi hj
    ·have:=M.top i ei hi
     simpa using this
   ·rcases eD hj with hj | ⟨rfl,rfl⟩
    ·have:=(List.getElem?_eq_some_iff.mp hj).1
     omega
    ·exact aah _
  ·rcases eD hi with hi | ⟨rfl,rfl⟩
   ·exact M.top i ei hi
   ·simp
  ·rcases eD E9 with E9 | ⟨rfl,rfl⟩
   ·obtain⟨i,ei,a1,a2⟩:=M.old j ej hj E9 x hx
    exact⟨i,ei,up a1,a2⟩
   ·omega
  ·rw[tk] at hx
   rcases List.mem_append.mp hx with hx | hx
   ·obtain⟨i,ei,a1,a2⟩:=M.now x hx
    exact⟨i,ei,up a1,a2⟩
   ·have:x=g:=by simpa using hx
    subst this
    exact⟨es.length,(x,some (e.1,k),e.2.2++ [k]),by rw[aa4 (aah _)];simp,rfl,by simp⟩
theorem nH {b:List Pl} (gb:Good b) {start:Int} {t:Nat} {e:En}:∀(gs:List Int) (k:Nat) (es:List En),GY b start t e k es->(∀(i:Nat) g,gs[i]?=some g->(fg b e.1)[k+i]?=some g)->GY b start t e (k+gs.length) (fV e.1 e.2.2 k gs es)
 | [],k,es,M,_=>M
 | g::gs,k,es,M,h=>by
  have:=nH gb gs (k+1) _ (one gb M (h 0 g rfl)) λi x hx=>by
   have:=h (i+1) x (by simpa using hx)
   rwa [show k+1+i=k+ (i+1) by omega]
  rw[aaq,show k+ (gs.length+1)=k+1+gs.length by omega]
  exact this
theorem zB {b:List Pl} {start:Int} {t:Nat} {e:En} {es:List En} (I:Inv b start t es) (h:es[t]?=some e):GY b start t e 0 es:=
 {I with at_:=h,top:=λi ei hi=>I.top i ei e hi h,now:=λg hg=>by simp at hg}
theorem Fb {b:List Pl} {start:Int} {t:Nat} {e:En} {es:List En} (M:GY b start t e (fg b e.1).length es):Inv b start (t+1) es:=by
 refine {M with top:=λi ei et hi ht=>?_,old:=λj ej hj E9 g hg=>?_}
 ·have h1:=M.top i ei hi
  have h2:=M.mono t (t+1) e et (by omega) M.at_ ht
  omega
 ·by_cases c:j<t
  ·exact M.old j ej c E9 g hg
  ·have:j=t:=by omega
   subst this
   rw[M.at_] at E9
   cases E9
   exact M.now g (by rw[aaE (aah _)];exact hg)
theorem turn {b:List Pl} (gb:Good b) {start:Int} {t:Nat} {e:En} {es:List En} (I:Inv b start t es) (h:es[t]?=some e):Inv b start (t+1) (fV e.1 e.2.2 0 (fg b e.1) es):=by
 have:=nH gb (fg b e.1) 0 es (zB I h) λi g hg=>by rw[aaV];exact hg
 rw[aaV] at this
 exact Fb this
theorem zy {b:List Pl} {start:Int} (h0:0<=start) (h1:start<b.length):Inv b start 0 [(start,none,[])]:=by
 refine⟨⟨by simp [keys],λe he=>?_,rfl,λi e he hi=>?_,λi j ei ej _ hi hj=>?_⟩,λi ei et hi ht=>?_,λj ej hj=>by omega⟩
 ·have:e=(start,none,[]):=by simpa using he
  subst this
  exact⟨h0,h1⟩
 ·rw[aas (by simp;omega)] at he
  cases he
 ·cases i with
  | zero=>simp at hi;subst hi;simp
  | succ i=>rw[aas (by simp)] at hi;cases hi
 ·cases i with
  | zero=>simp at hi;subst hi;simp
  | succ i=>rw[aas (by simp)] at hi;cases hi
theorem wC:∀(n:Nat) (l:List Nat),l.Nodup->(∀x∈l,x<n)->l.length<=n
 | 0,l,_,h=>by
  cases l with
  | nil=>exact aah _
  | cons x r=>have:=h x aaj;omega
 | n+1,l,nd,h=>by
  have:=wC n (l.erase n) (nd.erase n) λx hx=>by
   have h1:=(nd.mem_erase_iff).mp hx
   have:=h x h1.2
   have:=h1.1
   omega
  have:=List.length_erase (a:=n) (l:=l)
  split at this <;>omega
theorem Fc {n:Nat} {l:List Int} (nd:l.Nodup) (h:∀x∈l,0<=x/\x< (n:Int)):l.length<=n:=by
 have:=wC n (l.map Int.toNat) (by
  unfold List.Nodup at *
  rw[List.pairwise_map]
  refine nd.imp_of_mem ?_
  intro a b ha hb UR z
  have:=h a ha
  have:=h b hb
  omega) λx hx=>by
   obtain⟨y,hy,rfl⟩:=List.mem_map.mp hx
   have:=h y hy
   omega
 rwa [aac] at this
theorem Core.sY {b:List Pl} {start:Int} {es:List En} (C:Core b start es):es.length<=b.length:=by
 have:=Fc (n:=b.length) C.nd λx hx=>by
  obtain⟨e,he,rfl⟩:=List.mem_map.mp hx
  exact C.oV e he
 unfold keys at this
 rwa [aac] at this
theorem wD {b:List Pl} (gb:Good b) {start:Int}:∀(m t:Nat) (es:List En),Inv b start t es->b.length<m+t->∃t',es.length<=(BD b m t es).length/\(BD b m t es).length<=t'/\Inv b start t' (BD b m t es)
 | 0,t,es,I,h=>⟨t,aah _,by have:=I.toCore.sY;show es.length<=t;omega,I⟩
 | m+1,t,es,I,h=>by
  unfold BD
  cases ht:es[t]? with
  | none=>exact⟨t,aah _,List.getElem?_eq_none_iff.mp ht,I⟩
  | some e=>
   obtain⟨t',a1,a2,a3⟩:=wD gb m (t+1) _ (turn gb I ht) (by omega)
   refine⟨t',aap ?_ a1,a2,a3⟩
   have:∀(gs:List Int) (k:Nat) (es:List En),es.length<=(fV e.1 e.2.2 k gs es).length:=by
    intro gs
    induction gs with
    | nil=>intro k es;exact aah _
    | cons g gs ih=>
     intro k es
     unfold fV
     refine aap ?_ (ih (k+1) _)
     split
     ·exact aah _
     ·simp
   exact this _ _ _
theorem fv {b:List Pl} (gb:Good b) {start:Int} (h0:0<=start) (h1:start<b.length):Core b start (steps b start)/\
  ∀(j:Nat) ej,(steps b start)[j]?=some ej->∀g∈fg b ej.1,∃(i:Nat) (ei:En),(steps b start)[i]?=some ei/\ei.1=g/\ei.2.2.length<=ej.2.2.length+1:=by
 obtain⟨t,_,a2,I⟩:=wD gb (b.length+1) 0 _ (zy (b:=b) h0 h1) (by omega)
 refine⟨I.toCore,λj ej hj=>I.old j ej ?_ hj⟩
 have:=(List.getElem?_eq_some_iff.mp hj).1
 show j<t
 unfold steps at *
 omega
noncomputable def go (b:List Pl):Int->List Nat->Option Int
 | k,[]=>some k
 | k,w::ws=>match (fg b k)[w]? with | some g=>go b g ws | none=>none
theorem wF {b:List Pl}:∀{ws:List Nat} {k g:Int} {w:Nat},go b k (ws++ [w])=(match go b k ws with | some x=>(fg b x)[w]? | none=>none)
 | [],k,g,w=>by
  show(match (fg b k)[w]? with | some g=>go b g [] | none=>none)=(fg b k)[w]?
  cases (fg b k)[w]? <;>rfl
 | v::ws,k,g,w=>by
  show(match (fg b k)[v]? with | some g=>go b g (ws++ [w]) | none=>none)=(match (match (fg b k)[v]? with | some g=>go b g ws | none=>none) with | some x=>(fg b x)[w]? | none=>none)
  cases (fg b k)[v]? with
  | none=>rfl
  | some x=>exact wF (g:=g)
theorem Cr {b:List Pl} {start:Int} {es:List En} (C:Core b start es):∀(i:Nat) (e:En),es[i]?=some e->go b start e.2.2=some e.1:=by
 intro i
 induction i using Nat.strongRecOn with
 | ind i ih=>
  intro e he
  by_cases c:i=0
  ·subst c
   rw[C.hd] at he
   cases he
   rfl
  ·obtain⟨j,ej,w,a1,a2,a3,a4,a5⟩:=C.par i e he (by omega)
   rw[a5,wF (g:=e.1),ih j a1 ej a2]
   exact a4
end Bf
namespace PySem
section
variable {prog : Program} {w : World} {A : Around} {E : Value -> Shared -> Prop} {s : Shared}
end
end PySem
namespace L2
open PySem PySem.Spec PyProof.Rows PySem.W
section
variable {X : Cx} {K : PySem.W.Frag}
noncomputable def tRev (K:PySem.W.Frag) (te:TE):TE:=λσ H Q=>te σ H λv H1=>∃p xs,v=.ref p/\bo K H1 p xs/\∀l,H1 l=none->Q (.ref l) (upd H1 l (.lst xs.reverse))
noncomputable def tD1 (tk tv:TE):TE:=λσ H Q=>∀d,H d=none->tk σ (upd H d (.dK [])) λx H1=>tv σ H1 λv H2=>∃k,x=kV k/\H2 d=some (.dK [])/\Q (.ref d) (upd H2 d (.dK [(k,v)]))
theorem Ik {ke ve:Expr} {tk tv:TE} {pos:Pos} (hk:PE X ke tk) (hv:PE X ve tv):PE X (.Dict [some ke] [ve] pos) (tD1 tk tv):=by
 intro pins s σ H Q I h
 refine wpAny_Dict_pairs (knd:=b9 X.prog X.w) (pairs:=[(eval ke X.env,do let x <-eval ve X.env;standAt pos;pure x)]) rfl (by simp) (by simp) ?_
 have fr:=I.bW.fresh (a:=s.heap.objs.size) (aah _)
 have I1:Inv X pins σ (upd H s.heap.objs.size (.dK [])) {s with heap:=s.heap.push {cls:=.type "dict",data:=.dict #[]}}:=I.laid (t':=s.toks) (λ_ _ q=>Heap.get?_push_of_some _ q) (aah _) (sW s.heap I.Bz)
 unfold evalPairs
 refine wpAny_bind (cy (hk pins _ σ _ _ I1 (h _ fr)) λku s1 cU=>?_)
 obtain⟨x,H1,I2,rx,q1⟩:=cU
 refine wpAny_bind (wpAny_holding (wpAny_bind (cy (hv pins _ σ _ _ I2 q1) λvu s2 ⟨v,H2,I3,rv,k,ex,hd,q⟩=>wpAny_bind (wpAny_standAt (wpAny_pure ?_)))))
 subst ex
 obtain⟨z,lo,vs,kv,dd⟩:=DJ I3.bW hd
 cases kv
 unfold evalPairs
 refine wpAny_bind (wpAny_holding (wpAny_pure (wpAny_pure ⟨[(k,vu)],⟨kD rx,rfl,trivial⟩,dd,λh' Ca hs=>?_⟩)))
 have Ca:h'.DictOf (b9 X.prog X.w) s.heap.objs.size [(k,vu)]:=Ca
 have he:∃q,h'.get? s.heap.objs.size=some q:=let ⟨q,_,_,hq,_⟩:=Ca;⟨q,hq⟩
 exact⟨.ref s.heap.objs.size,_,qG I3 (by rw[hd];exact True.intro) hs he (y9 (kvs:=[(k,v)]) (by rw[sizeLine_eq];simp) lo (.cons ⟨rfl,rv⟩ .nil) Ca),rfl,q⟩
end
end L2
namespace KS
open PySem PySem.W PyProof.Rows
noncomputable def Bd {α:Type} (lt:Nat->Nat->Bool) (n:Nat) (post:α->Prop):KasT α->Prop
 | .ret a=>post a
 | .ask i j k=>i<n/\j<n/\Bd lt n post (k (lt i j))
theorem Bd.bind {α β:Type} {lt:Nat->Nat->Bool} {n:Nat} {post:β->Prop} {f:α->KasT β}:∀{t:KasT α},Bd lt n (λa=>Bd lt n post (f a)) t->Bd lt n post (t.bind f)
 | .ret _,h=>h
 | .ask _ _ _,⟨h1,h2,h3⟩=>⟨h1,h2,Bd.bind h3⟩
theorem Bd.mono {α:Type} {lt:Nat->Nat->Bool} {n:Nat} {p q:α->Prop} (US:∀a,p a->q a):∀{t:KasT α},Bd lt n p t->Bd lt n q t
 | .ret _,h=>US _ h
 | .ask _ _ _,⟨h1,h2,h3⟩=>⟨h1,h2,Bd.mono US h3⟩
theorem Bd.wp {α:Type} {lt:Nat->Nat->Bool} {n:Nat} {post:α->Prop} {cmp:Nat->Nat->(Bool->Shared->Prop)->Shared->Prop} {Q:α->Shared->Prop} {s:Shared}
  (hc:∀i j C,i<n->j<n->C (lt i j) s->cmp i j C s) (hq:∀a,post a->Q a s):∀{t:KasT α},Bd lt n post t->t.kasWp cmp Q s
 | .ret _,h=>hq _ h
 | .ask i j k,⟨h1,h2,h3⟩=>hc i j _ h1 h2 (Bd.wp hc hq h3)
noncomputable def Pm (n:Nat) (p:Array Nat):Prop:=p.Perm (List.range n).toArray
theorem Pm.lt {n:Nat} {p:Array Nat} (h:Pm n p) (hn:0<n) (i:Nat):p.getD i 0<n:=by
 by_cases hi:i<p.size
 ·have:p.getD i 0=p[i]:=by simp [Array.getD,hi]
  rw[this]
  have hm:p[i]∈p:=Array.getElem_mem hi
  have:=(Array.Perm.mem_iff h).mp hm
  simpa using this
 ·have:p.getD i 0=0:=by simp [Array.getD,hi]
  omega
theorem Pm.rev {n:Nat} {p:Array Nat} (h:Pm n p) (i j:Nat):Pm n (kas_rev p i j):=(mirror_perm _ _ _ _).trans h
theorem Pm.Xf {n:Nat} {p:Array Nat} (h:Pm n p) (i j:Nat):Pm n (bubble p i j):=(bubble_perm _ _ _).trans h
variable {lt : Nat -> Nat -> Bool} {n : Nat}
theorem vi {p:Array Nat} (h:Pm n p) (hn:0<n):∀f k,Bd lt n (λ_=>True) (kas_asc p f k)
 | 0,_=>trivial
 | f+1,k=>by
  refine⟨h.lt hn _,h.lt hn _,?_⟩
  dsimp only
  split
  ·trivial
  ·exact vi h hn f (k+1)
theorem mw (hn:0<n):∀f (p:Array Nat) k q,Pm n p->Bd lt n (λr=>Pm n r.1) (kas_desc f p k q)
 | 0,p,k,q,h=>h
 | f+1,p,k,q,h=>by
  refine⟨h.lt hn _,h.lt hn _,?_⟩
  dsimp only
  split
  ·split
   ·exact mw hn f _ _ _ (h.rev _ _)
   ·exact mw hn f _ _ _ h
  ·refine⟨h.lt hn _,h.lt hn _,?_⟩
   dsimp only
   split
   ·exact h
   ·exact mw hn f _ _ _ h
theorem tG (hn:0<n) {p:Array Nat} (h:Pm n p) (m r:Nat):Bd lt n (λr=>Pm n r.2) (kas_tail3 m r p):=
 Bd.bind ((vi (h.rev _ _) hn _ _).mono λ_ _=>h.rev _ _)
theorem kE (hn:0<n) {p:Array Nat} (h:Pm n p) (m r:Nat):Bd lt n (λr=>Pm n r.2) (kas_descPart m r p):=by
 refine Bd.bind ((mw hn _ _ _ _ h).mono λx hx=>?_)
 split
 ·exact tG hn (hx.rev _ _) _ _
 ·exact tG hn hx _ _
theorem zC (hn:0<n) {p:Array Nat} (h:Pm n p) (r:Nat):Bd lt n (λr=>Pm n r.2) (kas_count r p):=by
 refine Bd.bind ((vi h hn _ _).mono λm _=>?_)
 split
 ·exact h
 ·split
  ·refine⟨h.lt hn _,h.lt hn _,?_⟩
   dsimp only
   split
   ·exact h
   ·exact kE hn (h.rev _ _) _ _
  ·exact kE hn h _ _
theorem nI (hn:0<n) {p:Array Nat} (h:Pm n p) (k:Nat):∀f l r,Bd lt n (λ_=>True) (kas_place p k f l r)
 | 0,_,_=>trivial
 | f+1,l,r=>by
  unfold kas_place
  split
  ·trivial
  ·refine⟨h.lt hn _,h.lt hn _,?_⟩
   dsimp only
   split
   ·exact nI hn h k f _ _
   ·exact nI hn h k f _ _
theorem zD (hn:0<n):∀f (p:Array Nat) k,Pm n p->Bd lt n (Pm n) (kas_bin f p k)
 | 0,p,k,h=>h
 | f+1,p,k,h=>Bd.bind ((nI hn h k _ _ _).mono λl _=>zD hn f _ _ (h.Xf _ _))
theorem Cs (hn:0<n):Bd lt n (Pm n) (kas_sort n):=by
 refine Bd.bind ((zC hn (Array.Perm.refl _) n).mono λr hr=>?_)
 split
 ·exact zD hn _ _ _ hr
 ·exact hr
section
variable {prog : Program} {w : World} {A : Around} {E : Value -> Shared -> Prop} {s : Shared} {vs : List Value} {κ : SortKind}
theorem kZ {R:List Nat->Prop} {a:Addr} {m:Nat} {P:PySem.Fin->Shared->Prop} (ho:s.heap.get? a=some (seqObj "list" vs.toArray m)) (Fd:vs.length<64)
  (m6:2<=vs.length->∀h' Q',(∀b o,b≠a->s.heap.get? b=some o->h'.get? b=some o)->Q' κ {s with heap:=h'}->wpAny (model prog w) A (keyKind' vs.toArray) Q' (λ_ _=>False) {s with heap:=h'})
  (zE:∀i j h' C,i<vs.length->j<vs.length->(∀b o,b≠a->s.heap.get? b=some o->h'.get? b=some o)->C (lt i j) {s with heap:=h'}->kas_ask prog w A κ vs i j C {s with heap:=h'})
  (Mj:2<=vs.length->Bd lt vs.length (λp=>Pm vs.length p/\R p.toList) (kas_sort vs.length)) (h0:vs.length<2->R (List.range vs.length))
  (h:∀p:List Nat,p.Perm (List.range vs.length)->R p->P (.done (.ret .none)) {s with heap:=sortedHeap s.heap a vs (p.map λi=>vs.getD i Value.none).toArray}):
  wpAny (model prog w) A (Builtin.«list.sort» ⟨[.ref a],[]⟩) P E s:=by
 rw[list_sort_plain]
 have ha:a<s.heap.objs.size:=Heap.lt_size ho
 refine wpAny_bind (listItems_at ho rfl ?_)
 refine wpAny_bind (listUpdate_at ho rfl ?_ (by rw[aam,sizeLine_eq];omega) (aar _))
 obtain⟨e1,UT⟩:∃e1,(s.heap.update a (Obj.mapSeq λ_=>#[])).get? a=some (seqObj "list" #[] e1):=⟨_,get?_update_seq ho (λ_=>#[])⟩
 refine wpAny_bind (seqEpoch_at UT rfl ?_)
 refine wpAny_bind (wpAny_newTuple ?_ (by show vs.length<=_;rw[sizeLine_eq];omega))
 refine wpAny_bind (wpAny_newList ?_ (aar _))
 refine wpAny_holding ?_
 have KQ:(((s.heap.update a (Obj.mapSeq λ_=>#[])).push (seqObj "tuple" vs.toArray 0)).push (seqObj "list" #[] 0)).get? a=some (seqObj "list" #[] e1):=by
  rw[Heap.get?_push_ne _ _ _ (by rw[size_push',Heap.size_update];exact aan (abl ha)),Heap.get?_push_ne _ _ _ (by rw[Heap.size_update];exact aan ha)]
  exact UT
 have keep:∀b o,b≠a->s.heap.get? b=some o->(((s.heap.update a (Obj.mapSeq λ_=>#[])).push (seqObj "tuple" vs.toArray 0)).push (seqObj "list" #[] 0)).get? b=some o:=λb o hb q=>
  Heap.get?_push_of_some _ (Heap.get?_push_of_some _ ((Heap.get?_update_other _ _ (Ne.symm hb)).trans q))
 show wpAny (model prog w) A _ P E {s with heap:=((s.heap.update a (Obj.mapSeq λ_=>#[])).push (seqObj "tuple" vs.toArray 0)).push (seqObj "list" #[] 0)}
 dsimp only
 have hsz:vs.toArray.size=vs.length:=by simp
 have gd:∀(l:List Value),(List.range l.length).map (λi=>l.getD i Value.none)=l:=λl=>by
  apply aa8
  intro i
  rw[aaf]
  by_cases hi:i<l.length
  ·rw[aaW hi,aad hi]
   simp [hi]
  ·rw[aas (by rw[aaz];omega),aas (by omega)]
   rfl
 by_cases h2:vs.toArray.size<2
 ·rw[if_pos h2,if_pos h2]
  refine wpAny_bind (wpAny_pure ?_)
  rw[StateT.run_pure]
  refine wpAny_bind (wpAny_pure ?_)
  dsimp only
  refine wpAny_bind (seqEpoch_at KQ rfl ?_)
  refine wpAny_bind (listUpdate_at KQ rfl ?_ (hsz2:=by rw[Array.size_map];show(pairsOf vs).size<=_;rw[pairsOf_size,sizeLine_eq];omega))
  simp only[bne_self_eq_false,Bool.false_eq_true,if_false]
  have e:(vs.toArray.zip vs.toArray).map (fun(x:Keyed)=>x.2)=((List.range vs.length).map λi=>vs.getD i Value.none).toArray:=by
   rw[gd]
   apply Array.toList_inj.mp
   rw[Array.toList_map]
   simp [List.map_snd_zip]
  refine wpAny_pure ?_
  have:=h (List.range vs.length) (List.Perm.refl _) (h0 (by omega))
  rw[<-e] at this
  exact this
 ·have zt:2<=vs.length:=by omega
  rw[if_neg h2,if_neg h2]
  refine wpAny_bind (wpAny_mono (m6 zt _ (λκ' s'=>κ'=κ/\s'={s with heap:=((s.heap.update a (Obj.mapSeq λ_=>#[])).push (seqObj "tuple" vs.toArray 0)).push (seqObj "list" #[] 0)}) keep ⟨rfl,rfl⟩) ?_ λ_ _ x=>x.elim)
  rintro κ' s' ⟨rfl,rfl⟩
  refine wpAny_bind (wpAny_mono (kat_run (ks:=vs) (vs:=vs) (Q:=λBx s'=>s'={s with heap:=((s.heap.update a (Obj.mapSeq λ_=>#[])).push (seqObj "tuple" vs.toArray 0)).push (seqObj "list" #[] 0)}/\∃p:Array Nat,p.size=vs.length/\arrOf Bx=p.map (kas_item (vs.toArray.zip vs.toArray))/\failedOf Bx=none/\Pm vs.length p/\R p.toList)
   (G:=λp s'=>s'={s with heap:=((s.heap.update a (Obj.mapSeq λ_=>#[])).push (seqObj "tuple" vs.toArray 0)).push (seqObj "list" #[] 0)}/\Pm vs.length p/\R p.toList) rfl zt Fd (λp Bx s' a1 a2 a3 a4=>⟨a4.1,p,a1,a2,a3,a4.2⟩) ?_) ?_ λ_ _ e=>e)
  ·exact Bd.wp (lt:=lt) (n:=vs.length) (λi j C hi hj hC=>zE i j _ C hi hj keep hC) (λp hp=>⟨rfl,hp⟩) (Mj zt)
  rintro⟨⟨⟩,Bx⟩ s' ⟨rfl,p,hp,Xg,hf,pm,hR⟩
  dsimp only
  have Ck:=kat_snds (ks:=vs) (vs:=vs) rfl Xg
  rw[Ck]
  refine wpAny_bind (seqEpoch_at KQ rfl ?_)
  refine wpAny_bind (listUpdate_at KQ rfl ?_ (aar _) (by rw[aam,aac,abt,hp,sizeLine_eq];omega))
  rw[hf]
  simp only[bne_self_eq_false,Bool.false_eq_true,if_false]
  exact wpAny_pure (h p.toList (by have:=pm.toList;simpa using this) hR)
theorem qR {R:List Nat->Prop} {l:Addr} {Q:Value->Shared->Prop} (hl:s.heap.IsList l vs.toArray) (Fd:vs.length<64)
  (m6:2<=vs.length->∀h' Q',(∀b o,s.heap.get? b=some o->h'.get? b=some o)->Q' κ {s with heap:=h'}->wpAny (model prog w) A.in1.in1 (keyKind' vs.toArray) Q' (λ_ _=>False) {s with heap:=h'})
  (zE:∀i j h' C,i<vs.length->j<vs.length->(∀b o,s.heap.get? b=some o->h'.get? b=some o)->C (lt i j) {s with heap:=h'}->kas_ask prog w A.in1.in1 κ vs i j C {s with heap:=h'})
  (Mj:2<=vs.length->Bd lt vs.length (λp=>Pm vs.length p/\R p.toList) (kas_sort vs.length)) (h0:vs.length<2->R (List.range vs.length))
  (h:∀p:List Nat,p.Perm (List.range vs.length)->R p->Q (.ref (s.heap.objs.size+1)) {s with heap:=sortedAll s.heap vs (p.map λi=>vs.getD i Value.none).toArray}):
  wpAny (model prog w) A (call (.builtin "sorted") [.ref l]) Q E s:=by
 refine Calls.call_function_entry kind_sorted plain_sorted entry_sorted (args_sorted1 _) ?_
 unfold Builtin.«sorted»
 refine wpAny_bind (m:=checkCount "sorted" 1 1 _) (wpAny_pure ?_)
 refine wpAny_bind (collect_list hl ?_ (by rw[sizeLine_eq];omega))
 refine wpAny_bind (wpAny_newList ?_ (by rw[sizeLine_eq];omega))
 have hsz:((s.heap.push (seqObj "list" #[] 0)).update s.heap.objs.size (Obj.mapSeq (·++vs.toArray))).objs.size=s.heap.objs.size+1:=by
  rw[Heap.size_update,size_push']
 have Dy:(((s.heap.push (seqObj "list" #[] 0)).update s.heap.objs.size (Obj.mapSeq (·++vs.toArray))).push (seqObj "list" vs.toArray 0)).get? (s.heap.objs.size+1)=some (seqObj "list" vs.toArray 0):=by
  rw[<-hsz];exact Heap.get?_push_size _ rfl
 have keep:∀b o,s.heap.get? b=some o->b≠s.heap.objs.size+1/\(((s.heap.push (seqObj "list" #[] 0)).update s.heap.objs.size (Obj.mapSeq (·++vs.toArray))).push (seqObj "list" vs.toArray 0)).get? b=some o:=λb o q=>by
  have fQ:b<s.heap.objs.size:=Heap.lt_size q
  refine⟨aan (abl fQ),?_⟩
  rw[Heap.get?_push_ne _ _ _ (by rw[hsz];exact aan (abl fQ)),Heap.get?_update_ne _ _ _ _ (aan fQ),Heap.get?_push_ne _ _ _ (aan fQ)]
  exact q
 show wpAny _ _ _ _ _ {s with heap:=((s.heap.push (seqObj "list" #[] 0)).update s.heap.objs.size (Obj.mapSeq (·++vs.toArray))).push (seqObj "list" vs.toArray 0)}
 rw[hsz]
 refine wpAny_bind (wpAny_holding (wpAny_call_entry slot_list_sort ⟨_,Dy,rfl⟩ entry_list_sort (kZ (lt:=lt) (κ:=κ) Dy Fd (λh2 h' Q' hk hq=>m6 h2 h' Q' (λb o q=>hk b o (keep b o q).1 (keep b o q).2) hq)
  (λi j h' C hi hj hk hC=>zE i j h' C hi hj (λb o q=>hk b o (keep b o q).1 (keep b o q).2) hC) Mj h0 λp hp hR=>⟨_,rfl,?_⟩) (args_list_sort _)))
 exact wpAny_pure ⟨_,rfl,h p hp hR⟩
theorem tH {l:Addr} {Q:Value->Shared->Prop} (hl:s.heap.IsList l vs.toArray) (Fd:vs.length<64)
  (m6:2<=vs.length->∀h' Q',(∀b o,s.heap.get? b=some o->h'.get? b=some o)->Q' κ {s with heap:=h'}->wpAny (model prog w) A.in1.in1 (keyKind' vs.toArray) Q' (λ_ _=>False) {s with heap:=h'})
  (zE:∀i j h' C,i<vs.length->j<vs.length->(∀b o,s.heap.get? b=some o->h'.get? b=some o)->C (lt i j) {s with heap:=h'}->kas_ask prog w A.in1.in1 κ vs i j C {s with heap:=h'})
  (h:∀p:List Nat,p.Perm (List.range vs.length)->Q (.ref (s.heap.objs.size+1)) {s with heap:=sortedAll s.heap vs (p.map λi=>vs.getD i Value.none).toArray}):
  wpAny (model prog w) A (call (.builtin "sorted") [.ref l]) Q E s:=
 qR (R:=λ_=>True) hl Fd m6 zE (λh2=>(Cs (by omega)).mono λ_ hp=>⟨hp,trivial⟩) (λ_=>trivial) λp hp _=>h p hp
noncomputable def Ml (x y:Int×Int):Bool:=if x.1=y.1 then decide (x.2<y.2) else decide (x.1<y.1)
theorem Ct {x y:Addr} {ox oy:Obj} {a b c d:Int} {t1 t2 t3 t4:Tok} {n k:Nat} {C:Bool->Shared->Prop} (hx:s.heap.get? x=some ox) (dx:ox.data=.seq #[.int a t1,.int b t2] n) (hy:s.heap.get? y=some oy) (dy:oy.data=.seq #[.int c t3,.int d t4] k)
  (h:C (Ml (a,b) (c,d)) s):wpAny (model prog w) A (keyLt' (tuples' true) (.ref x) (.ref y)) C E s:=by
 refine kat_lt hx dx hy dy (kat_cons (wpAny_eqBool_int ?_))
 unfold Ml at h
 dsimp only at h
 by_cases e:a=c
 ·rw[if_pos e] at h
  subst e
  rw[show(a==a)=true by simp]
  refine kat_yes (kat_cons (wpAny_eqBool_int ?_))
  by_cases e2:b=d
  ·subst e2
   rw[show(b==b)=true by simp]
   refine kat_yes (kat_nil ?_)
   simpa using h
  ·rw[show(b==d)=false by simpa using e2]
   refine kat_no (kat_one _ _ ?_)
   exact CmpOf.ints_lt (P:=λi v=>∃t,v=Value.int (if i=0 then b else d) t) (λi=>if i=0 then b else d) (λi v h=>h) 0 1 _ _ s _ _ ⟨t2,rfl⟩ ⟨t4,rfl⟩ h
 ·rw[if_neg e] at h
  rw[show(a==c)=false by simpa using e]
  exact kat_no (oneLt_int h)
end
end KS
namespace L2
open PySem PySem.Spec PyProof.Rows PySem.W
section
variable {X : Cx} {K : PySem.W.Frag}
theorem yf {xs:List V} {us:List Value} (r:bu xs us) (p:List Nat) (hp:p.Perm (List.range us.length)):∃ys,ys.Perm xs/\bu ys (p.map λi=>us.getD i Value.none):=by
 have hl:=r.length
 have get:∀i,i<us.length->∃x u,xs[i]?=some x/\us[i]?=some u/\RelV x u:=by
  clear hp hl
  induction r with
  | nil=>intro i hi;simp at hi
  | cons r1 r2 ih=>
   intro i hi
   cases i with
   | zero=>exact⟨_,_,rfl,rfl,r1⟩
   | succ i=>
    obtain⟨x,u,a1,a2,a3⟩:=ih i (by simpa using hi)
    exact⟨x,u,by simpa using a1,by simpa using a2,a3⟩
 refine⟨p.map λi=>xs.getD i .cB,?_,?_⟩
 ·refine(hp.map _).trans ?_
  rw[<-hl]
  have:(List.range xs.length).map (λi=>xs.getD i V.cB)=xs:=by
   apply aa8
   intro i
   rw[aaf]
   by_cases hi:i<xs.length
   ·rw[aaW hi,aad hi]
    simp [hi]
   ·rw[aas (by rw[aaz];omega),aas (by omega)]
    rfl
  rw[this]
 ·have hb:∀i∈p,i<us.length:=λi hi=>List.mem_range.mp (hp.mem_iff.mp hi)
  clear hp
  induction p with
  | nil=>exact .nil
  | cons i p ih=>
   obtain⟨x,u,a1,a2,a3⟩:=get i (hb i aaj)
   refine .cons ?_ (ih λj hj=>hb j (aak _ hj))
   show RelV (xs.getD i V.cB) (us.getD i Value.none)
   rw[aae,aae,a1,a2]
   exact a3
noncomputable def zF (H:Hp) (xs:List V):Prop:=∀x∈xs,∃t a b,x=.ref t/\H t=some (.tup [.int a,.int b])
theorem o5:cY X (.builtin "sorted") (λxs H Q=>∃p ys,xs=[.ref p]/\bo X.K H p ys/\ys.length<64/\zF H ys/\∀l zs,H l=none->zs.Perm ys->Q (.ref l) (upd H l (.lst zs))):=by
 intro pins s σ H xs us Q I r h
 obtain⟨p,ys,rfl,hq,hn,hP,q⟩:=h
 obtain⟨u,rfl,rx⟩:=vals1 r
 cases rx
 obtain⟨aU,rv,pl,hz⟩:=I.list hq
 have hl:=rv.length
 have each:∀v∈aU,∃t o a b t1 t2 n,v=.ref t/\s.heap.get? t=some o/\o.cls=.type "tuple"/\o.data=.seq #[.int a t1,.int b t2] n:=by
  clear hq hl q pl hz hn
  induction rv with
  | nil=>intro v hv;simp at hv
  | cons r1 r2 ih=>
   intro v hv
   rcases List.mem_cons.mp hv with rfl | hv
   ·obtain⟨t,a,b,rfl,ht⟩:=hP _ aaj
    cases r1
    obtain⟨is2,v2,tp,_⟩:=I.tuple (eL.of ht)
    obtain⟨o,ho,hc,n,hd⟩:=tp
    cases v2 with
    | cons q1 q2=>
     cases q2 with
     | cons q3 q4=>
      cases q4
      obtain⟨t1,rfl⟩:=q1
      obtain⟨t2,rfl⟩:=q3
      exact⟨t,o,a,b,t1,t2,n,rfl,ho,hc,by simpa using hd⟩
   ·exact ih (λx hx=>hP x (aak _ hx)) v hv
 have Il:∀i:Nat,∃pr:Int×Int,∀v,aU[i]?=some v->∃t o t1 t2 n,v=.ref t/\s.heap.get? t=some o/\o.cls=.type "tuple"/\o.data=.seq #[.int pr.1 t1,.int pr.2 t2] n:=λi=>by
  cases hi:aU[i]? with
  | none=>exact⟨(0,0),λv hv=>by cases hv⟩
  | some v=>
   obtain⟨t,o,a,b,t1,t2,n,e1,e2,e3,e4⟩:=each v (aag hi)
   exact⟨(a,b),λv' hv=>by cases hv;exact⟨t,o,t1,t2,n,e1,e2,e3,e4⟩⟩
 obtain⟨f,hf⟩:=Classical.skolem.mp Il
 refine KS.tH (lt:=λi j=>KS.Ml (f i) (f j)) (κ:=tuples' true) pl.isList (by omega) (λh2 h' Q' hk hq=>?_) (λi j h' C hi hj hk hC=>?_) λp hp=>?_
 ·have kR:∀(l:List Value),(∀v∈l,v∈aU)->∃fs,KatTups h' l fs/\fs.length=l.length/\∀v∈fs,∃a t,v=Value.int a t:=by
   intro l
   induction l with
   | nil=>intro _;exact⟨[],trivial,rfl,λv hv=>by simp at hv⟩
   | cons v l ih=>
    intro hm
    obtain⟨fs,k1,k2,k3⟩:=ih λx hx=>hm x (aak _ hx)
    obtain⟨t,o,a,b,t1,t2,n,rfl,e2,e3,e4⟩:=each v (hm v aaj)
    refine⟨.int a t1::fs,KatTups.cons (hk _ _ e2) e3 e4 rfl k1,by simp [k2],λx hx=>?_⟩
    rcases List.mem_cons.mp hx with rfl | hx
    ·exact⟨a,t1,rfl⟩
    ·exact k3 x hx
  obtain⟨fs,k1,k2,k3⟩:=kR aU λv hv=>hv
  exact kat_kind (T:=.type "int") (s:={s with heap:=h'}) k1 (by omega) (λv hv=>by obtain⟨a,t,rfl⟩:=k3 v hv;exact .now) (by decide) hq
 ·obtain⟨t,o,t1,t2,n,e1,e2,e3,e4⟩:=hf i _ (aad hi)
  obtain⟨t',o',t3,t4,n',zG,Mm,e3',Xh⟩:=hf j _ (aad hj)
  unfold kas_ask
  rw[aae,aae,aad hi,aad hj,e1,zG]
  exact KS.Ct (s:={s with heap:=h'}) (hk _ _ e2) e4 (hk _ _ Mm) Xh hC
 ·obtain⟨zs,pz,vz⟩:=yf rv p hp
  obtain⟨e,he⟩:=sortedAll_at s.heap aU (p.map λi=>aU.getD i Value.none).toArray
  have fr:=I.bW.fresh (a:=s.heap.objs.size+1) (Nat.le_succ _)
  refine⟨.ref (s.heap.objs.size+1),_,I.laid (t':=s.toks) (λ_ _=>sortedAll_old) (Nat.le_succ _) (o:=.lst zs) ⟨?_,_,e,vz,?_⟩,rfl,q _ _ fr pz⟩
  ·rw[pz.length_eq,sizeLine_eq];omega
  ·exact he
theorem nJ (hK:X.K=K:=by rfl):cY X (.builtin "sorted") (λxs H Q=>∃p ys,xs=[.ref p]/\bo K H p ys/\ys.length<64/\zF H ys/\∀l zs,H l=none->zs.Perm ys->Q (.ref l) (upd H l (.lst zs))):=by subst hK;exact o5
end
end L2
namespace Lv
open L2
theorem Fe {fs:Fs} {k:Nat} {u:Int}:lk fs (k:Int)=some u↔fs[k]?=some (some u):=by
 rw[pZ,aai]
noncomputable def nm (s:List Nat) (g:Int):Int:=((s.getD g.toNat 0:Nat):Int)
noncomputable def Xi (s:List Nat):Pl->Pl
 | .fin w=>.fin w
 | .dq w ws=>.dq w (ws.map λp=>(p.1,nm s p.2))
 | .cC w to=>.cC w (to.map (nm s))
noncomputable def turn (s:List Nat) (b:List Pl):List Pl:=(List.range b.length).map λj=>Xi s (b.getD (s.idxOf j) (.fin (0,1)))
section
variable {s : List Nat} {n : Nat} (p : s.Perm (List.range n))
include p
theorem zH:s.Nodup:=p.nodup_iff.mpr List.nodup_range
theorem zI {i i' j:Nat} (h:s[i]?=some j) (h':s[i']?=some j):i=i':=by
 have l1:=(List.getElem?_eq_some_iff.mp h).1
 exact(List.getElem?_inj l1 (zH p)).mp (h.trans h'.symm)
theorem qS {i j:Nat} (h:s[i]?=some j):s.idxOf j=i:=by
 have hm:j∈s:=aag h
 have hl:s.idxOf j<s.length:=List.idxOf_lt_length_iff.mpr hm
 have:s[s.idxOf j]?=some j:=by rw[aad hl,aaX]
 exact zI p this h
end
end Lv
namespace PySem
open Builtin Builtin.Str
section
variable {prog : Program} {w : World} {A : Around} {E : Value -> Shared -> Prop} {s : Shared} {x y : Str} {t u : Tok} {Q : Value -> Shared -> Prop}
end
end PySem
namespace L2
open PySem PySem.Spec PyProof.Rows PySem.W
section
variable {X : Cx} {K : PySem.W.Frag}
noncomputable def Xj (z:Str):It:=⟨λi _=>i<z.cps.size,λi H x H'=>H'=H/\∃c,z.cps[i]?=some c/\x=.str ⟨#[c]⟩,λi _=>z.cps.size<=i⟩
noncomputable def iStr (tl:TE):TI:=λσ H R=>tl σ H λx H1=>∃z,x=.str z/\z.cps.all (·<128)=true/\R (Xj z) H1
theorem tI {x:Str} {i:Int} {pos:Pos} (hg:Gl X x) (h:∃t,X.mg x=some (.int i t)) (hd:(x==("__debug__":Str))=false:=by decide):PE X (.Name x pos) (tC (.int i)):=by
 obtain⟨t,h⟩:=h
 exact BQ hg h ⟨t,rfl⟩ hd
end
end L2
namespace PySem
end PySem
namespace PySem
section
variable {M : Model} {A : Around} {E : Value -> Shared -> Prop} {s : Shared} {env : Env}
end
end PySem
namespace L2
open PySem PySem.Spec PyProof.Rows PySem.W
section
variable {M : Model} {A : Around} {E : Value -> Shared -> Prop} {s : Shared} {B : Heap} {l : List Env} {ad L : Addr} {cls a0 : Value}
end
section
variable {P : Program} {w : World} {K : PySem.W.Frag} {mg : Str -> Option Value} {base : Heap} {N : List Str} {qual : Str} {scope : Scope} {f : Addr} {cD : Value} {A : Around} {outer : List Env} {s0 : Shared} {H0 : Hp} {E : XK}
end
end L2
namespace L2
open PySem PySem.Spec PyProof.Rows PySem.W
section
variable {X : Cx}
noncomputable def Im:V->List V->Hp->VK->Prop:=λx vs H Q=>∃l xs i y,x=.ref l/\vs=[.int i,y]/\H l=some (.lst xs)/\0<=i/\i<=(xs.length:Nat)/\xs.length<sizeLine/\Q .cB (upd H l (.lst (xs.take i.toNat++y::xs.drop i.toNat)))
theorem yg:HI X "list.insert" Im:=by
 intro pins s σ H x vs v us Q I rx rv h
 obtain⟨l,xs,i,y,rfl,rfl,hH,h0,h1,hz,q⟩:=h
 cases rx
 obtain⟨u1,u2,rfl,⟨t,rfl⟩,ru⟩:=vals2 rv
 obtain⟨z,aU,n,r,hl,e⟩:=I.y7 hH
 have sl:=sizeLine_eq
 refine call_meets PySem.F.slot_list_insert ⟨_,e,rfl⟩ PySem.F.entry_list_insert (PySem.F.args_list_insert_3 _ _ _) (AutoSeq1.list_insert_list_int_val_1 l aU.toArray n i t u2 (by rw[fitsIndex_both (by omega) (by omega)];decide) (by rw[aam];omega)) ⟨e,?_⟩
 have k2:(if i<0 then (i+ (aU.toArray.size:Int)).toNat else min i.toNat aU.toArray.size)=i.toNat:=by
  rw[if_neg (by omega),aam]
  omega
 refine⟨.cB,_,I.HJ (its':=aU.take i.toNat++u2::aU.drop i.toNat) hH e ?_ ?_ ?_,rfl,q⟩
 ·show(aU.toArray.extract 0 (if i<0 then (i+ (aU.toArray.size:Int)).toNat else min i.toNat aU.toArray.size)).push u2++aU.toArray.extract (if i<0 then (i+ (aU.toArray.size:Int)).toNat else min i.toNat aU.toArray.size)=_
  rw[k2]
  apply Array.toList_inj.mp
  simp [aaE]
 ·exact(r.take _).append (.cons ru (r.drop _))
 ·simp
  omega
end
end L2
namespace L2
open PySem PySem.Spec PyProof.Rows
structure p9 (P:Program) (w:World) (K:PySem.W.Frag) (mg:Str->Option Value) (base:Heap) (CX:jT) (k:Nat) (x:Str) (C:Addr) (ps:List Str) (sp:Sp):Prop where
 ex:∃f fd,Mk K C f/\d7 P w K mg base CX k f fd ps sp/\mg x=some (.ref C)/\Binds K fd ps []
section
variable {X : Cx}
theorem zJ {CX:jT} {k:Nat} {x:Str} {C:Addr} {ps:List Str} {sp:Sp} {E:XK} {e:Expr} {es:List Expr} {t:TA} {p pos:Pos} (M:p9 X.prog X.w X.K X.mg X.base CX k x C ps sp) (hr:c8 (k+1) X.A) (hg:Gl X x) (hx:eA CX X E) (ha:PA X (e::es) t)
  (yX:(x==("__debug__":Str))=false:=by decide) (he:starEach (e::es) X.env=(false,eval e X.env)::starEach es X.env:=by rfl) (hpl:(backTo pos (starEach es X.env)).any (·.1)=false:=by rfl):
  PE X (.Call (.Name x p) (e::es) [] pos) (sM C sp [] E t):=by
 obtain⟨f,fd,m,F,hm,hb⟩:=M.ex
 exact B3 m F hr hg hm hb .nil hx ha yX he hpl
end
structure Mn (K:PySem.W.Frag) (mg:Str->Option Value) (x qual:Str) (st:Stmt) (C:Addr):Prop where
 ex:∃f fd,u7 K "__init__" qual st f fd/\Mk K C f/\mg x=some (.ref C)
theorem Mn.dZ {P:Program} {w:World} {K:PySem.W.Frag} {mg:Str->Option Value} {base:Heap} {CX:jT} {x qual:Str} {st:Stmt} {C:Addr} {ps:List Str} {k:Nat} {sp:Sp} (D:Mn K mg x qual st C)
  (hb:∀(kV doc pm:Value) (an:Option Addr) (cD ct:Value) (us:List Value),us.length=ps.length->bindArgs (PySem.W.fnOf "__init__" qual (aM st) (aK st) (af st) .none kV doc pm an cD ct) ⟨us,[]⟩=pure (ps.zip us))
  (h:∀f fd,u7 K "__init__" qual st f fd->d7 P w K mg base CX k f fd ps sp):p9 P w K mg base CX k x C ps sp:=by
 obtain⟨f,fd,F,m,hm⟩:=D.ex
 exact⟨f,fd,m,h f fd F,hm,F.binds hb⟩
end L2
namespace L2
open PySem PySem.Spec PyProof.Rows
noncomputable instance GZ:DecidableEq PyData:=λ_ _=>Classical.propDecidable _
mutual
noncomputable def gc:PyData->Bool
 | .int _=>true
 | .str x=>PyData.canLay0 (.str x)
 | .tuple xs=>j1 xs
 | _=>false
noncomputable def j1:List PyData->Bool
 | []=>true
 | x::xs=>gc x && j1 xs
end
mutual
theorem Cu:∀(d:PyData),gc d=true->d.canLay0=true
 | .none,h=>by simp [gc] at h
 | .bool _,h=>by simp [gc] at h
 | .int _,_=>by simp [PyData.canLay0]
 | .str x,h=>by rw[gc] at h;exact h
 | .list _,h=>by simp [gc] at h
 | .tuple xs,h=>by rw[gc] at h;rw[PyData.canLay0];exact tJ xs h
 | .dict _,h=>by simp [gc] at h
theorem tJ:∀(xs:List PyData),j1 xs=true->PyData.canLayAll0 xs=true
 | [],_=>by simp [PyData.canLayAll0]
 | x::xs,h=>by
  rw[j1,aa7] at h
  rw[PyData.canLayAll0,aa7]
  exact⟨Cu x h.1,tJ xs h.2⟩
end
mutual
theorem Ff:∀(x y:PyData),gc x=true->gc y=true->PyData.eqv x y=decide (x=y)
 | .int i,y,_,hy=>by
  cases y with
  | int j=>
   rw[PyData.eqv]
   by_cases c:i=j
   ·subst c;simp
   ·rw[decide_eq_false (λe=>c (by injection e))]
    simp [c]
  | str _=>simp [PyData.eqv]
  | tuple _=>simp [PyData.eqv]
  | _=>simp [gc] at hy
 | .str a,y,_,hy=>by
  cases y with
  | str b=>
   rw[PyData.eqv]
   by_cases c:a=b
   ·subst c;simp
   ·rw[decide_eq_false (λe=>c (by injection e))]
    simp [c]
  | int _=>simp [PyData.eqv]
  | tuple _=>simp [PyData.eqv]
  | _=>simp [gc] at hy
 | .tuple xs,y,hx,hy=>by
  cases y with
  | tuple ys=>
   rw[gc] at hx hy
   rw[PyData.eqv,wG xs ys hx hy]
   by_cases c:xs=ys
   ·subst c;simp
   ·rw[decide_eq_false c,decide_eq_false (λe=>c (by injection e))]
  | int _=>simp [PyData.eqv]
  | str _=>simp [PyData.eqv]
  | _=>simp [gc] at hy
 | .none,_,h,_=>by simp [gc] at h
 | .bool _,_,h,_=>by simp [gc] at h
 | .list _,_,h,_=>by simp [gc] at h
 | .dict _,_,h,_=>by simp [gc] at h
theorem wG:∀(xs ys:List PyData),j1 xs=true->j1 ys=true->PyData.eqvAll xs ys=decide (xs=ys)
 | [],[],_,_=>by simp [PyData.eqvAll]
 | [],_::_,_,_=>by simp [PyData.eqvAll]
 | _::_,[],_,_=>by simp [PyData.eqvAll]
 | x::xs,y::ys,hx,hy=>by
  rw[j1,aa7] at hx hy
  rw[PyData.eqvAll,Ff x y hx.1 hy.1,wG xs ys hx.2 hy.2]
  by_cases c:x=y
  ·subst c
   by_cases d:xs=ys
   ·subst d;simp
   ·rw[decide_eq_false d,decide_eq_false (λe=>d (List.cons.inj e).2)];simp
  ·rw[decide_eq_false c,decide_eq_false (λe=>c (List.cons.inj e).1)];simp
end
mutual
theorem vj {h h':Heap} {d:Addr} {o:Obj} {es ep} (ho:h.get? d=some o) (hd:o.data=.dict es ep) (hs:Heap.SameBut d h h'):∀(x:PyData) (v:Value) (as:List Addr),gc x=true->Reads h v x as->Reads h' v x as
 | .int _,_,_,_,r=>by cases r;exact .int _ _
 | .str _,_,_,_,r=>by cases r;exact .str _ _
 | .tuple xs,_,_,hx,r=>by
  rw[gc] at hx
  cases r with
  | @tuple a o' vs n _ _ e c q t=>
   have ne:a≠d:=λz=>by
    subst z
    rw[ho] at e
    cases e
    rw[hd] at q
    cases q
   exact .tuple ((hs.2 a ne).trans e) c q (kF ho hd hs xs _ _ hx t)
 | .none,_,_,h,_=>by simp [gc] at h
 | .bool _,_,_,h,_=>by simp [gc] at h
 | .list _,_,_,h,_=>by simp [gc] at h
 | .dict _,_,_,h,_=>by simp [gc] at h
theorem kF {h h':Heap} {d:Addr} {o:Obj} {es ep} (ho:h.get? d=some o) (hd:o.data=.dict es ep) (hs:Heap.SameBut d h h'):∀(xs:List PyData) (vs:List Value) (as:List Addr),j1 xs=true->ReadsAll h vs xs as->ReadsAll h' vs xs as
 | [],_,_,_,r=>by cases r;exact .nil
 | x::xs,_,_,hx,r=>by
  rw[j1,aa7] at hx
  cases r with
  | cons r1 r2=>exact .cons (vj ho hd hs x _ _ hx.1 r1) (kF ho hd hs xs _ _ hx.2 r2)
end
mutual
noncomputable def wH (w:World):PyData->Int
 | .int i=>Ej w (.inl i)
 | .str x=>Ej w (.inr x)
 | .tuple xs=>reduceHash (Builtin.Tuple.tupleHashOf (eN w xs))
 | _=>0
noncomputable def eN (w:World):List PyData->List Int
 | []=>[]
 | x::xs=>wH w x::eN w xs
end
mutual
noncomputable def KR:PyData->Nat
 | .tuple xs=>nK xs+1
 | _=>1
noncomputable def nK:List PyData->Nat
 | []=>0
 | x::xs=>KR x+nK xs
end
section
variable {prog : Program} {w : World}
noncomputable def PH (prog:Program) (w:World) (m:Nat) (h:Heap) (d:PyData) (v:Value):Prop:=∀(A:Around) (E:Value->Shared->Prop) (s:Shared) (Q:Int->Shared->Prop),s.heap=h->A.units+m<cLine->
 Q (wH w d) {s with toks:=s.toks+KR d}->wpAny (model prog w) A (pyHash v) Q E s
inductive DS (prog:Program) (w:World) (m:Nat) (h:Heap):List PyData->List Value->Prop
 | nil:DS prog w m h [] []
 | cons {d v ds vs}:PH prog w m h d v->DS prog w m h ds vs->DS prog w m h (d::ds) (v::vs)
theorem yh (xs ys:List PyData):eN w (xs++ys)=eN w xs++eN w ys:=by
 induction xs with
 | nil=>simp [eN]
 | cons x xs ih=>simp [eN,ih]
theorem zK (xs ys:List PyData):nK (xs++ys)=nK xs+nK ys:=by
 induction xs with
 | nil=>simp [nK]
 | cons x xs ih=>simp [nK,ih,Nat.add_assoc]
theorem zL {m:Nat} {h:Heap} {ds:List PyData} {a:Addr} {o:Obj} {items n} (ho:h.get? a=some o) (hc:o.cls=.type "tuple") (hd:o.data=.seq items n) (hi:DS prog w m h ds items.toList):PH prog w (m+1) h (.tuple ds) (.ref a):=by
 intro A E s Q hh hu hq
 subst hh
 have hT:s.TypeIs (.ref a) "tuple":=⟨o,ho,hc⟩
 have Xk:A.units<cLine:=by omega
 unfold pyHash
 first | unfold pyHashByItsType | skip
 first | refine wpAny_bind (wpAny_cRoomFor_or (.inr Xk) ?_) | skip
 refine wpAny_bind (wpAny_specialOf hT F.slot_tuple_hash.lookup ?_)
 show wpAny _ _ (if (some (Value.builtin "tuple.__hash__")==some Value.none)=true then _ else _) Q E s
 rw[if_neg (by rw[beq_builtin_none];exact aay)]
 refine wpAny_bind (wpAny_specialOf hT F.slot_tuple_hash.lookup ?_)
 show wpAny _ _ (callSpecialIfBoundUnlessNone? (.ref a) "__hash__" _ >>=_) Q E s
 refine wpAny_bind (wpAny_callSpecialIfBoundUnlessNone?_slot hT F.slot_tuple_hash (wpAny_call_entry F.slot_tuple_hash hT F.entry_tuple_hash ?_ (F.args_tuple_hash_1 _)))
 show wpAny _ _ (Builtin.Tuple.tupleItemsOf (.ref a) >>=_) _ _ s
 refine wpAny_bind (wpAny_tupleItemsOf ho hd ?_)
 refine wpAny_bind ?_
 rw[<-Array.forIn_toList]
 refine wpAny_forIn_list _
  (λrest (b:Array Int) s'=>∃done left,ds=done++left/\DS prog w m s.heap left rest/\b.toList=eN w done/\s'={s with toks:=s.toks+nK done})
  _ ?_ ?_ _ _ ⟨[],ds,rfl,hi,rfl,rfl⟩
 ·rintro x rest b s' ⟨done,left,rfl,hl,hb,rfl⟩
  cases hl with
  | @cons k _ dE _ h1 oS=>
   refine wpAny_bind (h1 _ _ _ _ rfl (by show A.units+1+m<cLine;omega) ?_)
   have e1:(b.push (wH w k)).toList=eN w (done++ [k]):=by rw[yh];simp [hb,eN]
   have e2:s.toks+nK done+KR k=s.toks+nK (done++ [k]):=by rw[zK];simp [nK,Nat.add_assoc]
   first
    | exact wpAny_pure ⟨done++ [k],dE,by simp,oS,e1,by rw[<-e2]⟩
    | exact wpAny_bind (wpAny_pure (wpAny_pure ⟨done++ [k],dE,by simp,oS,e1,by rw[<-e2]⟩))
 ·rintro b s' ⟨done,left,rfl,hl,hb,rfl⟩
  cases hl
  rw[aa2] at hq
  show wpAny _ _ (retInt (Builtin.Tuple.tupleHashOf b.toList)) _ _ _
  rw[hb]
  refine wpAny_ret_mkInt ?_
  show wpAny _ _ (if (decide (-(2:Int)^63<=Builtin.Tuple.tupleHashOf (eN w done)) && decide (Builtin.Tuple.tupleHashOf (eN w done)<2^63))=true then _ else _) Q E _
  rw[wH,KR] at hq
  unfold reduceHash at hq
  by_cases hr:(decide (-(2:Int)^63<=Builtin.Tuple.tupleHashOf (eN w done)) && decide (Builtin.Tuple.tupleHashOf (eN w done)<2^63))=true
  ·rw[if_pos hr]
   rw[if_pos hr] at hq
   exact wpAny_pure (by simpa [Nat.add_assoc] using hq)
  ·rw[if_neg hr]
   rw[if_neg hr] at hq
   exact wpAny_bind (wpAny_rule (wpAny_pure (by simpa [Nat.add_assoc] using hq)))
mutual
theorem Fg {h:Heap}:∀(d:PyData) (v:Value) (as:List Addr),gc d=true->Reads h v d as->PH prog w d.depth h d v
 | .int i,_,_,_,r=>by
  cases r with
  | int _ t=>
   intro A E s Q _ _ hq
   exact(b9 prog w).pyHash (k:=.inl i) (kD (k:=.inl i) ⟨t,rfl⟩) hq
 | .str x,_,_,_,r=>by
  cases r with
  | str _ t=>
   intro A E s Q _ _ hq
   exact(b9 prog w).pyHash (k:=.inr x) (kD (k:=.inr x) ⟨t,rfl⟩) hq
 | .tuple xs,_,_,hx,r=>by
  rw[gc] at hx
  cases r with
  | tuple e c q t=>exact zL e c q (wI xs _ _ hx t)
 | .none,_,_,h,_=>by simp [gc] at h
 | .bool _,_,_,h,_=>by simp [gc] at h
 | .list _,_,_,h,_=>by simp [gc] at h
 | .dict _,_,_,h,_=>by simp [gc] at h
theorem wI {h:Heap}:∀(ds:List PyData) (vs:List Value) (as:List Addr),j1 ds=true->ReadsAll h vs ds as->DS prog w (PyData.depthAll ds) h ds vs
 | [],_,_,_,r=>by cases r;exact .nil
 | x::xs,_,_,hx,r=>by
  rw[j1,aa7] at hx
  cases r with
  | cons r1 r2=>
   have p1:=Fg x _ _ hx.1 r1
   have p2:=wI xs _ _ hx.2 r2
   have up:∀{m m':Nat} {ds:List PyData} {vs:List Value},m<=m'->DS prog w m h ds vs->DS prog w m' h ds vs:=λl q=>by
    induction q with
    | nil=>exact .nil
    | cons p _ ih=>exact .cons (λA E s Q e u=>p A E s Q e (by omega)) ih
   refine .cons (λA E s Q e u=>p1 A E s Q e ?_) (up ?_ p2)
   ·rw[PyData.depthAll] at u
    omega
   ·rw[PyData.depthAll]
    omega
end
theorem tK {h:Heap} {k:Nat} {a:Addr} {o:Obj} {items n} (ho:h.get? a=some o) (hc:o.cls=.type "tuple") (hd:o.data=.seq items n) (hi:∀v∈items.toList,∀(A:Around) (E:Value->Shared->Prop) (s:Shared) (Q:Bool->Shared->Prop),s.heap=h->Q true s->wpAny (model prog w) A (eqIsQuiet k v) Q E s)
  (A:Around) (E:Value->Shared->Prop) (s:Shared) (Q:Bool->Shared->Prop) (hh:s.heap=h) (hq:Q true s):wpAny (model prog w) A (eqIsQuiet (k+1) (.ref a)) Q E s:=by
 subst hh
 have hT:s.TypeIs (.ref a) "tuple":=⟨o,ho,hc⟩
 unfold eqIsQuiet
 refine wpAny_bind (wpAny_specialOf hT F.slot_tuple_eq.lookup ?_)
 show wpAny _ _ (isInstance (.ref a) (.type "tuple") >>=_) _ _ s
 refine wpAny_bind (wpAny_isInstance hT isSubtype_tuple_tuple ?_)
 simp only[Bool.not_true,Bool.false_eq_true,if_false]
 refine wpAny_bind (wpAny_seqItems ho hd ?_)
 refine wpAny_bind ?_
 show wpAny _ _ (forIn items _ _) _ _ s
 rw[<-Array.forIn_toList]
 refine wpAny_forIn_list _ (λrest r s'=>r.1=none/\s'=s/\∀v∈rest,v∈items.toList) _ ?_ ?_ _ _ ⟨rfl,rfl,λ_ h=>h⟩
 ·rintro v rest r s' ⟨hr,rfl,x9⟩
  refine wpAny_bind (hi v (x9 v aaj) _ _ _ _ rfl ?_)
  simp only[Bool.not_true,Bool.false_eq_true,if_false]
  exact wpAny_pure ⟨rfl,rfl,λu Xl=>x9 u (aak _ Xl)⟩
 ·rintro⟨r1,r2⟩ s' ⟨hr,rfl,_⟩
  simp only at hr
  subst hr
  exact wpAny_pure hq
mutual
theorem yi {h:Heap}:∀(d:PyData) (v:Value) (as:List Addr) (k:Nat),gc d=true->d.depth<=k->Reads h v d as->∀(A:Around) (E:Value->Shared->Prop) (s:Shared) (Q:Bool->Shared->Prop),s.heap=h->Q true s->wpAny (model prog w) A (eqIsQuiet k v) Q E s
 | .int _,_,_,_,_,_,r=>by
  cases r
  intro A E s Q _ hq
  rw[eqIsQuiet_byValue _ rfl]
  exact wpAny_pure hq
 | .str _,_,_,_,_,_,r=>by
  cases r
  intro A E s Q _ hq
  rw[eqIsQuiet_byValue _ rfl]
  exact wpAny_pure hq
 | .tuple xs,_,_,k,hx,hk,r=>by
  rw[gc] at hx
  rw[PyData.depth] at hk
  cases k with
  | zero=>omega
  | succ k=>
   cases r with
   | tuple e c q t=>exact tK e c q (nM xs _ _ k hx (by omega) t)
 | .none,_,_,_,h,_,_=>by simp [gc] at h
 | .bool _,_,_,_,h,_,_=>by simp [gc] at h
 | .list _,_,_,_,h,_,_=>by simp [gc] at h
 | .dict _,_,_,_,h,_,_=>by simp [gc] at h
theorem nM {h:Heap}:∀(ds:List PyData) (vs:List Value) (as:List Addr) (k:Nat),j1 ds=true->PyData.depthAll ds<=k->ReadsAll h vs ds as->∀v∈vs,∀(A:Around) (E:Value->Shared->Prop) (s:Shared) (Q:Bool->Shared->Prop),s.heap=h->Q true s->wpAny (model prog w) A (eqIsQuiet k v) Q E s
 | [],_,_,_,_,_,r=>by
  cases r
  intro v hv
  simp at hv
 | x::xs,_,_,k,hx,hk,r=>by
  rw[j1,aa7] at hx
  rw[PyData.depthAll] at hk
  cases r with
  | cons r1 r2=>
   intro v hv
   rcases List.mem_cons.mp hv with rfl | hv
   ·exact yi x _ _ k hx.1 (by omega) r1
   ·exact nM xs _ _ k hx.2 (by omega) r2 v hv
end
end
end L2
namespace L2
open PySem PySem.Spec PyProof.Rows
mutual
noncomputable def toP:Dat->PyData
 | .cB=>.none
 | .bl b=>.bool b
 | .int i=>.int i
 | .str x=>.str x
 | .tup l=>.tuple (toPL l)
 | .lst l=>.list (toPL l)
noncomputable def toPL:List Dat->List PyData
 | []=>[]
 | d::ds=>toP d::toPL ds
end
section
variable {P : Program} {w : World} {H : Hp} {h : Heap}
mutual
theorem nN (ok:gz P w H h):∀(d:Dat) (v:V) (u:Value),Rep H d v->RelV v u->∃as,Reads h u (toP d) as
 | .cB,v,u,r,q=>by
  rw[Rep] at r
  subst r
  cases (show u=Value.none from q)
  exact⟨_,.none⟩
 | .bl b,v,u,r,q=>by
  rw[Rep] at r
  subst r
  cases (show u=Value.bool b from q)
  exact⟨_,.bool b⟩
 | .int i,v,u,r,q=>by
  rw[Rep] at r
  subst r
  obtain⟨t,rfl⟩:=(show ∃t,u=Value.int i t from q)
  exact⟨_,.int i t⟩
 | .str x,v,u,r,q=>by
  rw[Rep] at r
  subst r
  obtain⟨t,rfl⟩:=(show ∃t,u=Value.str x t from q)
  exact⟨_,.str x t⟩
 | .tup l,v,u,r,q=>by
  rw[Rep] at r
  obtain⟨p,vs,rfl,hp,rl⟩:=r
  cases (show u=Value.ref p from q)
  obtain⟨_,aU,rv,o,h1,h2,n,h3⟩:=(show cG P w H h p (.tup vs) from ok p _ hp)
  obtain⟨as,ra⟩:=j4 ok l vs aU rl rv
  exact⟨as,.tuple h1 h2 h3 (by simpa using ra)⟩
 | .lst l,v,u,r,q=>by
  rw[Rep] at r
  obtain⟨p,vs,rfl,hp,rl⟩:=r
  cases (show u=Value.ref p from q)
  obtain⟨_,aU,n,rv,h1⟩:=(show cG P w H h p (.lst vs) from ok p _ hp)
  obtain⟨as,ra⟩:=j4 ok l vs aU rl rv
  exact⟨p::as,.list h1 rfl rfl (by simpa using ra)⟩
theorem j4 (ok:gz P w H h):∀(ds:List Dat) (vs:List V) (us:List Value),bf H ds vs->bu vs us->∃as,ReadsAll h us (toPL ds) as
 | [],vs,us,r,q=>by
  rw[bf] at r
  subst r
  cases q
  exact⟨_,.nil⟩
 | d::ds,vs,us,r,q=>by
  rw[bf] at r
  obtain⟨v,rest,rfl,r1,r2⟩:=r
  cases q with
  | cons q1 q2=>
   obtain⟨a1,h1⟩:=nN ok d v _ r1 q1
   obtain⟨a2,h2⟩:=j4 ok ds rest _ r2 q2
   exact⟨_,.cons h1 h2⟩
end
end
abbrev Rows:=List (Dat×Addr×Int)
abbrev RwN:Rows->List (PyData×Addr×Value)->Prop:=Paired λp q=>toP p.1=q.1/\p.2.1=q.2.1/\∃t,q.2.2=Value.int p.2.2 t
section
variable {P : Program} {w : World} {H : Hp} {h : Heap} {a : Addr}
end
section
variable {X : Cx} {P : Program} {w : World} {o i e value : Expr} {pos pos' kT : Pos} {td ty tv : TE}
end
end L2
namespace KS
open PySem PySem.W PyProof.Rows
section
variable {prog : Program} {w : World} {A : Around} {E : Value -> Shared -> Prop} {s : Shared}
end
end KS
namespace L2
open PySem PySem.Spec PyProof.Rows PySem.W
section
variable {X : Cx} {K : PySem.W.Frag}
noncomputable def Fh (K:PySem.W.Frag):V->List V->Hp->VK->Prop:=λx vs H Q=>∃l ns k,x=.ref l/\vs=[.int k]/\bo K H l (List.map V.int ns)/\k∈ns/\ns.length<=1000/\Q (.int (ns.idxOf k:Nat)) H
theorem yj:GV X "list.index" (Fh X.K):=by
 intro pins s σ H x vs v us Q I rx rv h
 obtain⟨l,ns,k,rfl,rfl,hq,hk,hn,q⟩:=h
 cases rx
 obtain⟨u,rfl,ru⟩:=vals1 rv
 obtain⟨t,rfl⟩:=ru
 obtain⟨aU,r,pl,hz⟩:=I.list hq
 have A1:=intsAre_of r
 have fQ:=aaR hk
 have lI:=A1.length
 obtain⟨⟨c1,d1,d2,sl⟩,ho,e1,m,e2⟩:=pl.isList
 cases e1
 cases e2
 have hit:=isInt_at k A1 (ns.idxOf k) (by omega) fQ
 refine call_meets PySem.F.slot_list_index ⟨_,ho,rfl⟩ PySem.F.entry_list_index (PySem.F.args_list_index_2 _ _) (PySem.SeqAt.list_indexAt l aU.toArray m d1 sl (.int k t) (isInt k) (ns.idxOf k) (by rw[aam];omega) (by omega) (hit.trans (by simp)) (λj hj hl=>?_)) ⟨ho,λy hy=>?_,⟨.int _,H,I.tok _,⟨_,rfl⟩,q⟩⟩
 ·rw[aam] at hj
  exact(isInt_at k A1 j hj (by omega)).trans (ne_of_lt_idxOf hl _)
 ·exact(eq_isInt k t A1 y (List.mem_toArray.mp hy)).at _ _
theorem vm (hK:X.K=K:=by rfl):GV X "list.index" (Fh K):=by subst hK;exact yj
end
end L2
namespace L2
open PySem PySem.Spec PyProof.Rows PySem.W
section
variable {X : Cx} {K : PySem.W.Frag}
theorem qa {P:Program} {w:World} {H:Hp} {h:Heap} (ok:gz P w H h) {ds:List Dat} {xs:List V} {us:List Value} (r:bf H ds xs) (v:bu xs us) {i:Nat} {u:Value} (e:us[i]?=some u):∃d as,ds[i]?=some d/\Reads h u (toP d) as:=by
 have l1:=r.length
 have l2:=v.length
 have hi:=(List.getElem?_eq_some_iff.mp e).1
 have ex:xs[i]?=some (xs[i]'(by omega)):=aad (by omega)
 obtain⟨u',e1,rv⟩:=v.get ex
 rw[e] at e1
 cases e1
 obtain⟨d,ed,rd⟩:=r.get ex
 obtain⟨as,ra⟩:=nN ok d _ _ rd rv
 exact⟨d,as,ed,ra⟩
end
end L2
namespace L2
open PySem PySem.Spec PyProof.Rows
structure o6 (base:Heap) (mg:Str->Option Value) (tc tp:Addr):Prop where
 blt:base.BuiltinsAt mg tp
 code:PySem.W.CodeHd base tc tp
theorem law_callT {P:Program} {tp tc:Addr} {dsc:Array Value} {w:World} {K:PySem.W.Frag} {mg mb:Str->Option Value} {CX:jT} {k:Nat} {fa a:Addr} {fd:FuncData} {x:Str} {sp:Sp} {s₁:Shared} {vs:List Value} {ns:List Int}
  (KX:K.In s₁.heap) (DQ:s₁.heap.Ns mainGlobals mg) (hb:s₁.heap.Ns builtinsNs mb) (Mo:∀x:Str,x≠"__name__"->mb x=bootBuiltins x) (Fi:s₁.heap.NoLimit) (hg:s₁.gens=#[])
  (ha:s₁.heap.get? a=some {cls:=.type "list",data:=.seq vs.toArray}) (hi:IntsAre vs ns) (hl:ns.length<=sizeLine) (hr:c8 k callerA)
  (nO:s₁.heap.get? tp=some (PySem.W.tabObj #[])) (UU:PySem.W.CodeHd s₁.heap tc tp) (Xm:K.lookup tp=none) (G1:s₁.heap.BuiltinsAt mg tp)
  (F:∀base:Heap,K.In base->base.Ns mainGlobals mg->o6 base mg tc tp->d7 P w K mg base CX k fa fd [x] sp) (zM:∀(s:Shared) (u:Value),BindsTo s fd ⟨[u],[]⟩ [(x,u)])
  (By:∀H:Hp,H tp=some (.rX dsc)->bo K H a (ns.map V.int)->sp [.ref a] H (λv _=>v=.bl true) λ_ _ _=>False)
  (Mp:∀H e s',CX [] H s₁ (λ_ _ _=>False) e s'->False):
  codeAny (model P w) callerA (.call (.ref fa) ⟨[.ref a],[]⟩) (λr s'=>r=.ok (.ret (.bool true))/\OldK s₁.heap s'.heap/\s'.os=s₁.os/\AllBare s'.gens) s₁:=by
 have rv:=pR hi
 have Mq:=hi.length
 have UW:tp≠a:=λz=>by rw[z,ha] at nO;cases nO
 have core:∀H:Hp,(∀b,b≠tp->H b=none\/∃o xs,H b=some (.uG o (.lst xs)))->H tp=some (.rX dsc)->bo K H a (ns.map V.int)->gz P w H s₁.heap->(∀b,H b≠none->b=a\/b=tp)->(H a≠none->K.lookup a=none)->
   codeAny (model P w) callerA (.call (.ref fa) ⟨[.ref a],[]⟩) (λr s'=>r=.ok (.ret (.bool true))/\OldK s₁.heap s'.heap/\s'.os=s₁.os/\AllBare s'.gens) s₁:=by
  intro H hO hT hS bW hA hK
  have qT:∀{b:Addr} {o:Obj},s₁.heap.get? b=some o->H b=none->(mQ s₁.heap H).get? b=some o:=λe n=>yK e n
  have HE:∀{b:Addr} {o:Obj} {es:Array DictEntry} {ep:Nat},s₁.heap.get? b=some o->o.data=.dict es ep->H b=none:=λ{b o es ep} e d=>by
   cases q:H b with
   | none=>rfl
   | some u=>
    rcases hA b (by rw[q];simp) with e' | e'
    ·subst e'
     rw[ha] at e;cases e
     have d':Data.seq vs.toArray _=Data.dict es ep:=d
     cases d'
    ·subst e'
     rw[nO] at e;cases e
     cases d
  have KU:∀{b:Addr} {m:Str->Option Value},s₁.heap.Ns b m->(mQ s₁.heap H).Ns b m:=λ{b m} ⟨o,es,ep,e,d,r⟩=>⟨o,es,ep,qT e (HE e d),d,r⟩
  have UX:K.In (mQ s₁.heap H):=λb o e=>qT (KX b o e) (by
   cases q:H b with
   | none=>rfl
   | some u=>
    rcases hA b (by rw[q];simp) with e' | e'
    ·subst e'
     rw[hK (by rw[q];simp)] at e;cases e
    ·subst e'
     rw[Xm] at e;cases e)
  have hM:Mod K mg (mQ s₁.heap H):=⟨UX,KU DQ,⟨mb,KU hb,Mo⟩,let ⟨mc,h1,h2⟩:=Fi;⟨mc,KU h1,h2⟩⟩
  have e0:uX P w K mg (mQ s₁.heap H) callerA [] s₁ H:=⟨rfl,hM,λb o e=>BN e,Nat.le_of_eq (xK _ _),trivial,λb hb=>absurd (show b∈([]:List Addr) from hb) (by simp),bW,.of_eq hg⟩
  have Xn:o6 (mQ s₁.heap H) mg tc tp:=by
   have look:∀{b:Addr} {o:Obj},s₁.heap.get? b=some o->b≠tp->o.cls≠.type "list"->(mQ s₁.heap H).get? b=some o:=λ{b o} e n c=>qT e (by
    cases q:H b with
    | none=>rfl
    | some u=>
     rcases hA b (by rw[q];simp) with e' | e'
     ·subst e'
      rw[ha] at e;cases e
      exact absurd rfl c
     ·exact absurd e' n)
   obtain⟨bm,o,b1,b2,b3,b4,b5,b6,b7⟩:=G1
   obtain⟨o',Ie,file,tf,flags,tg,Xo,text,tt,c1,c2,c3⟩:=UU
   exact⟨⟨bm,o,b1,b2,b3,b4,look b5 b4 (λz=>by rw[b6] at z;injection z with z;exact absurd z (by decide)),b6,b7⟩,⟨o',Ie,file,tf,flags,tg,Xo,text,tt,look c1 c3.2.2.2.2.2.2.2 (λz=>by rw[c2] at z;injection z with z;exact absurd z (by decide)),c2,c3⟩⟩
  refine codeAny_mono ((F _ UX (KU DQ) Xn).run callerA [] s₁ H ⟨[.ref a],[]⟩ [.ref a] [.ref a] _ _ hr e0 (zM s₁ (.ref a)) (.cons rfl .nil) (By H hT hS)) λr s' h=>?_
  cases r with
  | error e=>exact(Mp H e s' h).elim
  | ok fl=>
   cases fl with
   | next=>exact False.elim h
   | brk=>exact False.elim h
   | cont=>exact False.elim h
   | ret u=>
    obtain⟨v,H',os,bare,un,Io,r',q⟩:=h
    have q':v=.bl true:=q
    subst q'
    obtain rfl:u=Value.bool true:=r'
    have fin:∀b o,b≠tp->s₁.heap.get? b=some o->s'.heap.get? b=some o:=λb o hb e=>by
     cases q:H b with
     | none=>exact un.keep b o e q (by intro z;exact absurd (show b∈([]:List Addr) from z) (by simp)) (by simp)
     | some u=>
      rcases hO b hb with z | ⟨ob,xs,z⟩
      ·rw[q] at z;cases z
      ·have z2:=un.mO b ob _ z
       obtain⟨e1,_⟩:=bW b _ z
       obtain⟨e2,_⟩:=Io b _ z2
       rw[e] at e1;cases e1
       exact e2
    obtain⟨more,hm⟩:=un.mP tp _ hT
    obtain⟨mo,e7,_⟩:=Io tp _ hm
    have Ip:s'.heap.get? tp=some {cls:=.none,data:=.fields (#[]++mo)}:=by rw[Array.empty_append];exact e7
    refine⟨rfl,⟨λb o e=>?_,λb o e=>?_⟩,os,bare⟩
    ·by_cases hb:b=tp
     ·subst hb
      rw[nO] at e
      cases e
      exact .inr (.inl ⟨(UU.tab nO).isCodeTable,rfl,_,mo,rfl,Ip⟩)
     ·exact .inl (fin b o hb e)
    ·by_cases hb:b=tp
     ·subst hb
      exact⟨_,Ip⟩
     ·exact⟨o,fin b o hb e⟩
 cases hk:K.lookup a with
 | some o=>
  have e:=KX a o hk
  rw[ha] at e
  cases e
  refine core (λb=>if b=tp then some (.rX dsc) else none) (λb hb=>.inl (if_neg hb)) (if_pos rfl) (.inr ⟨_,vs.toArray,_,hk,rfl,rfl,rfl,by rw[aam,Mq];exact hl,by simpa using rv⟩) (λb u z=>?_) (λb z=>?_) λz=>absurd (if_neg (Ne.symm UW)) z
  ·by_cases hb:b=tp
   ·have z':=(if_pos hb).symm.trans z
    cases z'
    subst hb
    exact⟨#[],nO,.inl rfl⟩
   ·have z':=(if_neg hb).symm.trans z
    cases z'
  ·by_cases hb:b=tp
   ·exact .inr hb
   ·exact absurd (if_neg hb) z
 | none=>
  refine core (λb=>if b=tp then some (.rX dsc) else if b=a then some (.uG {cls:=.type "list",data:=.seq vs.toArray} (.lst (ns.map V.int))) else none) (λb hb=>?_) (if_pos rfl) (.inl (.inr ⟨{cls:=.type "list",data:=.seq vs.toArray},(if_neg (Ne.symm UW)).trans (if_pos rfl)⟩)) (λb u z=>?_) (λb z=>?_) λ_=>hk
  ·by_cases Cv:b=a
   ·exact .inr ⟨_,_,(if_neg hb).trans (if_pos Cv)⟩
   ·exact .inl ((if_neg hb).trans (if_neg Cv))
  ·by_cases hb:b=tp
   ·have z':=(if_pos hb).symm.trans z
    cases z'
    subst hb
    exact⟨#[],nO,.inl rfl⟩
   ·by_cases Cv:b=a
    ·have z':=((if_neg hb).trans (if_pos Cv)).symm.trans z
     cases z'
     subst Cv
     exact⟨ha,by rw[aac];exact hl,vs,_,rv,ha⟩
    ·have z':=((if_neg hb).trans (if_neg Cv)).symm.trans z
     cases z'
  ·by_cases hb:b=tp
   ·exact .inr hb
   ·by_cases Cv:b=a
    ·exact .inl Cv
    ·exact absurd ((if_neg hb).trans (if_neg Cv)) z
theorem zN {tp tc:Addr} {dsc:Array Value} {l:PySem.W.OpenLaw} {n k:Nat} {q:Program} {loose:List Str} {XP:(Str->Option Value)->Heap->Prop} {YP:World->Heap->Prop} {d:DefRec} {K:Params->PySem.W.Frag} {CX:World->jT} {sp:World->Sp} {x:Str}
  (hn:l.most=some n) (KJ:n<=sizeLine) (HQ:d.params.defaults=[]) (hr:c8 k callerA)
  (hY:∀(w:World) (h:Heap),YP w h->(K w.params).In h)
  (Mr:∀(w:World) (h:Heap),YP w h->h.get? tp=some (PySem.W.tabObj #[])/\PySem.W.CodeHd h tc tp/\(K w.params).lookup tp=none)
  (F:∀(w:World) (mg:Str->Option Value) (fa:Addr) (h:Heap),(K w.params).In h->h.Ns mainGlobals mg->mg d.name=some (.ref fa)->
   ∃fd:FuncData,(∀(s:Shared) (u:Value),BindsTo s fd ⟨[u],[]⟩ [(x,u)])/\
    ∀base:Heap,(K w.params).In base->base.Ns mainGlobals mg->o6 base mg tc tp->d7 l.prog w (K w.params) mg base (CX w) k fa fd [x] (sp w))
  (By:∀(w:World) (H:Hp) (a:Addr) (ns:List Int),ns.length<=n->H tp=some (.rX dsc)->bo (K w.params) H a (ns.map V.int)->sp w [.ref a] H (λv _=>v=.bl true) λ_ _ _=>False)
  (Mp:∀(w:World) (H:Hp) (s:Shared) (e:Value) (s':Shared),CX w [] H s (λ_ _ _=>False) e s'->False):
  PySem.W.WalkO q loose XP YP l.row.toRowW d [] (λf vs=>PySem.call f vs):=by
 refine BA.sZ hn HQ λw s₀ s₁ mg mb fa o pm cd doc a vs ns G Y ho hd sE HR EN hints hlen hg=>?_
 have KX:=hY w _ Y
 obtain⟨fd,hb,hF⟩:=F w mg fa _ KX G.T.g HR
 obtain⟨t1,t2,t3⟩:=Mr w _ Y
 have G1:s₁.heap.BuiltinsAt mg tp:=by
  obtain⟨bm,ob,b1,b2,b3,b4,b5,b6⟩:=G.T.bmain
  refine⟨bm,ob,b1,b2,λq=>?_,λq=>?_,b3,b4,b5,b6⟩
  ·obtain⟨o,es,ep,e,hd,_⟩:=G.T.g
   rw[q,e] at b3;cases b3;rw[hd] at b6;cases b6
  ·rw[q,t1] at b3;cases b3;cases b4
 exact law_callT KX G.T.g G.T.b G.T.builtins G.T.nolimit hg EN hints (aap hlen KJ) hr t1 t2 t3 G1 hF hb (λH hO hS=>By w H a ns hlen hO hS) λH e s'=>Mp w H s₁ e s'
end L2
namespace L2
open PySem PySem.Spec PyProof.Rows
structure nP (P:Program) (w:World) (K:PySem.W.Frag) (mg:Str->Option Value) (base:Heap) (CX:jT) (k:Nat) (C:Addr) (m:Str) (ps:List Str) (sp:Sp):Prop where
 ex:∃f fd,yV K C m f/\d7 P w K mg base CX k f fd ps sp/\Binds K fd ps []
section
variable {X : Cx} {CX : jT} {k : Nat} {C : Addr} {m : Str} {ps : List Str} {sp : Sp} {E : XK} {e o : Expr} {es : List Expr} {ta : TE} {t : TA} {pos apos : Pos} {pl : Sem Bool}
theorem Iq (M:nP X.prog X.w X.K X.mg X.base CX k C m ps sp) (c:xU X.K C) (he:PE X o ta) (hr:c8 k X.A) (hx:eA CX X E) (ha:PA X (e::es) t)
  (hst:starEach (e::es) X.env=(false,eval e X.env)::starEach es X.env:=by rfl) (hpl:(backTo pos (starEach es X.env)).any (·.1)=false:=by rfl)
  (ht:eval (.Call (.Attribute o m apos) (e::es) [] pos) X.env=(do
   let ov <-eval o X.env
   standAt apos.atName
   let (f,first) <-holding [ov] (getMethod ov m pl)
   callWith pos f first (backTo pos (starEach (e::es) X.env)) (backToKw pos (keywordEach [] X.env))):=by rfl):
  PE X (.Call (.Attribute o m apos) (e::es) [] pos) (pJ C m sp [] E ta t):=by
 obtain⟨f,fd,hm,F,hb⟩:=M.ex
 exact B2 he c hm F hr hb .nil hx ha hst hpl ht
theorem Fj (M:nP X.prog X.w X.K X.mg X.base CX k C m ps sp) (c:xU X.K C) (he:PE X o ta) (hr:c8 k X.A) (hx:eA CX X E)
  (ht:eval (.Call (.Attribute o m apos) [] [] pos) X.env=(do
   let ov <-eval o X.env
   standAt apos.atName
   let (f,first) <-holding [ov] (getMethod ov m pl)
   callWith pos f first (backTo pos (starEach [] X.env)) (backToKw pos (keywordEach [] X.env))):=by rfl):
  PE X (.Call (.Attribute o m apos) [] [] pos) (pJ C m sp [] E ta tNil):=by
 obtain⟨f,fd,hm,F,hb⟩:=M.ex
 exact yY he c hm F hr hb .nil hx ht
end
structure KW (K:PySem.W.Frag) (C:Addr) (m qual:Str) (st:Stmt):Prop where
 ex:∃f fd,u7 K m qual st f fd/\yV K C m f
theorem KW.dZ {P:Program} {w:World} {K:PySem.W.Frag} {mg:Str->Option Value} {base:Heap} {CX:jT} {m qual:Str} {st:Stmt} {C:Addr} {ps:List Str} {k:Nat} {sp:Sp} (D:KW K C m qual st)
  (hb:∀(kV doc pm:Value) (an:Option Addr) (cD ct:Value) (us:List Value),us.length=ps.length->bindArgs (PySem.W.fnOf m qual (aM st) (aK st) (af st) .none kV doc pm an cD ct) ⟨us,[]⟩=pure (ps.zip us))
  (h:∀f fd,u7 K m qual st f fd->d7 P w K mg base CX k f fd ps sp):nP P w K mg base CX k C m ps sp:=by
 obtain⟨f,fd,F,hm⟩:=D.ex
 exact⟨f,fd,hm,h f fd F,F.binds hb⟩
end L2
namespace L2
open PySem PySem.Spec PyProof.Rows PySem.W
abbrev ic (mp:Pos):Arguments:={posonlyargs:=[],args:=[{arg:="members",annotation:=none,pos:=mp}],vararg:=none,kwonlyargs:=[],kw_defaults:=[],kwarg:=none,defaults:=[]}
abbrev fW (p2 p3 p4 p5 p6 p7 p8:Pos):Expr:=.Call (.Name "len" p2) [.Subscript (.Name "reach" p3) (.Subscript (.Name "members" p4) (.Constant (.int 0) 0 p5) p6) p7] [] p8
abbrev c5:Scope:={kind:=.function,names:=[(Str.ofString "members",.local),(Str.ofString "reach",.free),(Str.ofString "len",.globalImplicit)],isGenerator:=false,isCoroutine:=false,more:=[]}
section
variable {prog : Program} {w : World} {A : Around} {s : Shared}
theorem zO {mg mb:Str->Option Value} {qual:Str} {mp p2 p3 p4 p5 p6 p7 p8:Pos} {Cw:List (Str×Addr)} {pm DT:Value} {f c1 cell ra b d:Addr} {rs ms:Array Value} {i:Int} {t0:Tok} {kvs:List (Key×Value)} {Q:Value->Shared->Prop} {E:Value->Shared->Prop}
  (hf:s.heap.get? f=some (kla_obj "<lambda>" qual (ic mp) (fW p2 p3 p4 p5 p6 p7 p8) c5 Cw pm c1 DT)) (sE:s.heap.CodeRec (.ref c1) qual) (Ir:A.depth<recursionLimit) (Fi:s.heap.NoLimit)
  (hg:s.heap.Ns mainGlobals mg) (hlen:mg "len"=none) (hb:s.heap.Ns builtinsNs mb) (Mo:∀x:Str,x≠"__name__"->mb x=bootBuiltins x)
  (Cn:Cw.lookup (Str.ofString "reach")=some cell) (pH:s.heap.IsCell cell (some (.ref ra))) (KY:s.heap.IsList ra rs) (Xp:s.heap.IsList b ms) (h0:ms[0]?=some (.int i t0)) (Xq:0<=i) (hi:i<2^63)
  (Ms:rs[i.toNat]?=some (.ref d)) (hd:(d==sysModules)=false) (dd:s.heap.DictOf (b9 prog w) d kvs) (EL:(kvs.length:Int)<2^63)
  (h:∀h' tk t,(∀x o,s.heap.get? x=some o->h'.get? x=some o)->Q (.int kvs.length t) {s with heap:=h',toks:=tk}):
  wpAny (model prog w) A (call (.ref f) [.ref b]) Q E s:=by
 refine wpAny_call (kla_callFunE Ir hf rfl rfl rfl rfl sE ?_)
 have zM:bindArgs (kla_fn "<lambda>" qual (ic mp) (fW p2 p3 p4 p5 p6 p7 p8) c5 Cw pm (.ref c1) DT) ⟨[.ref b],[]⟩=pure [(Str.ofString "members",.ref b)]:=rfl
 rw[zM]
 have Xr:∀x∈c5.names,x.2≠NameKind.cell:=by decide +kernel
 have DL:∀x∈[(Str.ofString "members",Value.ref b)],c5.names.lookup x.1=some NameKind.local:=λx hx=>by rw[List.mem_singleton.mp hx];rfl
 refine wpAny_pure (wpAny_newFunctionEnv Xr DL (λh₁ DQ UY=>⟨Fi.fresh _ UY,?_⟩) rfl)
 have hk:∀x o,s.heap.get? x=some o->h₁.get? x=some o:=λx o e=>UY.extBut x o (aan (Heap.lt_size e)) (Heap.get?_push_of_some _ e)
 show codeAny _ _ (.expr (fW p2 p3 p4 p5 p6 p7 p8) (envX qual c5 s.heap.objs.size f (.ref c1) Cw)) _ _
 refine kla_codeExpr ?_
 refine wpAny_Call_Name_kw (Calls.Name_function_global rfl rfl (Calls.loadGlobal_builtin (hg.keeps hk) hlen (hb.keeps hk) ((Mo _ (by decide)).trans (show bootBuiltins "len"=some (.builtin "len") from rfl)) ?_) (by decide))
 refine PyProof.Rows.callWith_builtin1 ?_
 refine Calls.spliced_cons (Subscript_ (wpAny_Name (wpAny_loadName_free rfl rfl Cn (pH.keeps hk) ?_)))
 refine Subscript_ (wpAny_Name (wpAny_loadName_local rfl rfl DQ (v:=.ref b) rfl (wpAny_Constant_int ?_)))
 obtain⟨om,m1,m2,m3⟩:=Xp
 obtain⟨orr,r1,r2,r3⟩:=KY
 refine item_listR (s:={s with heap:=h₁,toks:=_}) (l:=b) (items:=ms) ⟨om,hk _ _ m1,m2,m3⟩ (by decide) (by decide) (x:=.int i t0) h0 ?_
 refine item_listR (s:={s with heap:=h₁,toks:=_}) (l:=ra) (items:=rs) ⟨orr,hk _ _ r1,r2,r3⟩ Xq hi (x:=.ref d) Ms (Calls.spliced_nil ?_)
 obtain⟨o,es,ep,e1,e2⟩:=dd
 exact call_len_dict hd (show(Shared.mk _ _ _ _ _).heap.DictOf (b9 prog w) d kvs from⟨o,es,ep,hk _ _ e1,e2⟩) EL (h _ _ _ hk)
end
noncomputable def zP (tp:Addr) (dsc:Array Value) (i:Nat) (te:TE):TE:=λσ H Q=>te σ H λv H1=>∃(a:Addr) (bs:List Addr) (key:Addr->Int) (ra:Addr) (rs:List V),v=.ref a/\H1 a=some (.lst (List.map V.ref bs))/\bs.length<64/\σ[i]?=some (some (.ref ra))/\H1 ra=some (.lst rs)/\H1 tp=some (.rX dsc)/\
 (∀b∈bs,∃j xs d kvs,H1 b=some (.lst (.int j::xs))/\0<=j/\j<1000000/\rs[j.toNat]?=some (.ref d)/\H1 d=some (.dK kvs)/\key b=(kvs.length:Int))/\
 ∀p cs H2,az H1 H2->H1 p=none->H2 p=some (.lst (List.map V.ref cs))->cs.Perm bs->cs.Pairwise (λb c=>key b<=key c)->Q (.ref p) H2
noncomputable def BE:Value->Addr
 | .ref a=>a
 | _=>0
theorem qb:∀{bs:List Addr} {aU:List Value},bu (bs.map V.ref) aU->aU=bs.map Value.ref
 | [],_,.nil=>rfl
 | _::bs,_,.cons r t=>by rw[qb (bs:=bs) t,show _=Value.ref _ from r];rfl
section
variable {X : Cx}
theorem zQ {i k:Nat} {tc tp:Addr} {dsc:Array Value} {t0:Tok} {e:Expr} {te:TE} {p1 pos kp lp mp p2 p3 p4 p5 p6 p7 p8:Pos} (hg:Gl X "sorted") (hm:X.mg "sorted"=none) (hl:X.mg "len"=none) (hB:o6 X.base X.mg tc tp)
  (DU:X.env.code=.ref tc) (hr:c8 k X.A) (Iu:dsc=#[rawInt lp.line,rawInt lp.col,.str (X.env.qual++"<lambda>") t0]) (he:PE X e te) (hN:X.N[i]?=some "reach":=by rfl) (hv:X.env.kindOf "reach"=some .cell:=by rfl) (n1:noStar e=true:=by rfl):
  PE X (.Call (.Name "sorted" p1) [e] [⟨some "key",.Lambda (ic mp) (fW p2 p3 p4 p5 p6 p7 p8) c5 lp,kp⟩] pos) (zP tp dsc i te):=by
 intro pins s σ H Q I h
 refine wpAny_Call_Name_kw (iO I hg hm (u:=.builtin "sorted") rfl ?_ (by decide) (by decide))
 refine PyProof.Rows.callWith_kw (e:=e) (rest:=[]) ?_ (by rw[se n1];rfl) (by rw[se n1];rfl) rfl rfl
 rw[se n1]
 show wpAny _ _ (spliced [(false,eval e X.env)]) _ _ s
 refine Calls.spliced_cons (cy (he pins s σ H _ I h) λu s1 ⟨x,H1,I1,r1,q1⟩=>Calls.spliced_nil ?_)
 obtain⟨a,bs,key,ra,rs,rfl,ha,Fd,eσ,KY,nO,Xs,q⟩:=q1
 cases r1
 obtain⟨cell,ec⟩:=I1.ok.has "reach" (.inl hv)
 obtain⟨cl,UZ,c1,c2,c3⟩:=eX (env:=X.env) (scope:=c5) (λn hn=>by
  have:n="reach":=by
   simp only[List.mem_cons,Prod.mk.injEq,List.not_mem_nil,or_false] at hn
   rcases hn with ⟨_,z⟩ | ⟨z,_⟩ | ⟨_,z⟩
   ·cases z
   ·exact z
   ·cases z
  rw[this]
  exact⟨cell,ec⟩)
 have Cn:cl.lookup (Str.ofString "reach")=some cell:=by
  obtain⟨c,ee⟩:=c2 "reach" (.tail _ (.head _))
  have:=c1 _ _ ee
  rw[ec] at this
  cases this
  exact ee
 have mk:∀R:Value->Shared->Prop,(∀f c1 pm DT H2 s2,Inv X pins σ H2 s2->az H1 H2->s2.heap.get? f=some (kla_obj "<lambda>" (X.env.qual++"<lambda>") (ic mp) (fW p2 p3 p4 p5 p6 p7 p8) c5 cl pm c1 DT)->s2.heap.CodeRec (.ref c1) (X.env.qual++"<lambda>")->R (.ref f) s2)->
   wpAny (model X.prog X.w) X.A (makeFunction "<lambda>" (X.env.qual++"<lambda>") (ic mp) (.expr (fW p2 p3 p4 p5 p6 p7 p8)) c5 X.env [] [] [] lp lp.line) R X.xe s1:=by
  intro R hR
  obtain⟨mo,e1,e2⟩:=I1.bW tp _ nO
  have Mt:=I1.mod.glob.keeps I1.bk
  have hC:=hB.code.keeps I1.bk
  have U0:=hB.blt.keeps I1.bk
  rcases e2 with rfl | ⟨l,c,c',qn,t,f1,rfl,f3,f4⟩
  ·refine kla_makeFunction (mg:=X.mg) (c:=tc) (P:=tp) UZ I1.ok.glob Mt DU hC e1 trivial rfl (λz=>?_) U0 λc' DT h' tk hx DP fQ Mu KZ=>?_
   ·obtain⟨o,es,ep,ee,hd,_⟩:=Mt
    rw[z,e1] at ee;cases ee;cases hd
   have KZ:h'.get? tp=some (tabObj #[rawInt lp.line,rawInt lp.col,.ref c']):=KZ
   have nc:H1 c'=none:=I1.bW.fresh DP
   have ntc:tp≠c':=λz=>by rw[z,nc] at nO;cases nO
   have kk:∀b o,b≠tp->s1.heap.get? b=some o->(h'.push (kla_obj "<lambda>" (X.env.qual++"<lambda>") (ic mp) (fW p2 p3 p4 p5 p6 p7 p8) c5 cl ((X.mg "__name__").getD .none) c' DT)).get? b=some o:=λb o hb ee=>Heap.get?_push_of_some _ (hx b o hb ee)
   obtain⟨U1,oc,vs,t2,g1,g2,g3,g4⟩:=Mu
   cases g1
   refine hR _ c' _ _ (upd H1 c' (.own tp)) _ (I1.un (t':=tk) ⟨λb o ee n _ _=>kk b o (λz=>by rw[z,nO] at n;cases n) ee,λb o ee n _ _=>⟨o.slots,kk b o (λz=>by rw[z,nO] at n;cases n) ee⟩,λb o ee n _=>?_,λb o ee _=>?_,λb xs ee=>?_,λb o u ee=>?_,λb ps ee=>⟨#[],?_⟩⟩ λb o ee=>?_) (λb o ee=>?_) (Heap.get?_push_size _ rfl) ⟨c',oc,vs,t2,rfl,Heap.get?_push_of_some _ g2,g3,g4⟩
   ·rw[aH (aan (aat (Heap.lt_size ee) DP))];exact n
   ·by_cases hb:b=tp
    ·subst hb;exact⟨_,Heap.get?_push_of_some _ KZ⟩
    ·exact⟨o,kk b o hb ee⟩
   ·rw[aH (bz ee nc)];exact ee
   ·rw[aH (bz ee nc)];exact ee
   ·rw[aH (bz ee nc),ee,Array.append_empty]
   ·by_cases hb:b=c'
    ·subst hb
     rw[ar] at ee
     cases ee
     exact⟨oc,Heap.get?_push_of_some _ g2⟩
    ·rw[aH hb] at ee
     by_cases U2:b=tp
     ·subst U2
      rw[nO] at ee
      cases ee
      exact⟨_,Heap.get?_push_of_some _ KZ,.inr ⟨_,_,c',_,_,Iu,rfl,ar,c',oc,vs,t2,rfl,Heap.get?_push_of_some _ g2,g3,g4⟩⟩
     ·refine(I1.bW b o ee).oW (λx u pI e3=>kk x u (λz=>?_) e3) (λx e3=>by rw[aH (bz e3 nc)];exact e3) λx xs e3=>by rw[aH (bz e3 nc)];exact e3
      rcases pI with pI | pI
      ·exact U2 (pI.symm.trans z)
      ·rw[z,nO] at pI;cases pI
   ·rw[aH (bz ee nc)];exact ee
  ·rw[Iu] at f1
   have f1:=congrArg Array.toList f1
   simp only[List.cons.injEq,and_true] at f1
   obtain⟨f1,f2,f5⟩:=f1
   injection f5 with f5 _
   subst f1 f2 f5
   have ht:TriplesOk [rawInt lp.line,rawInt lp.col,Value.ref c']:=by simp [TriplesOk,rawInt]
   have hf:codeAmong lp [rawInt lp.line,rawInt lp.col,Value.ref c']=some (.ref c'):=by simp [codeAmong,rawInt]
   refine kla_makeFunctionHit (mg:=X.mg) (c:=tc) (P:=tp) UZ I1.ok.glob Mt DU hC e1 ht hf U0 λDT h' tk hk hsz=>?_
   obtain⟨U1,oc,vs,t2,g1,g2,g3,g4⟩:=f4
   cases g1
   exact hR _ c' _ _ H1 _ (I1.kept (t':=tk) λb o ee=>Heap.get?_push_of_some _ (hk b o ee)) (az.refl _) (Heap.get?_push_size _ rfl) ⟨c',oc,vs,t2,rfl,Heap.get?_push_of_some _ (hk _ _ g2),g3,g4⟩
 refine PyProof.Rows.kws_cons (kla_eval rfl (mk _ λf c' pm DT H2 s2 I2 sm hf sE=>PyProof.Rows.kws_nil ?_))
 show wpAny _ _ (call (.builtin "sorted") [.ref a] [(Str.ofString "key",.ref f)]) _ _ _
 obtain⟨m2,Fk,B7⟩:=I2.loc
 obtain⟨aU,n,rv,eo,hz⟩:=I2.lst (sm _ _ ha)
 have Mv:=qb rv
 subst Mv
 have pH:s2.heap.IsCell cell (some (.ref ra)):=by
  obtain⟨u,ru,lu⟩:=B7 i "reach" (.ref ra) hN eσ (.inr (.inl hv))
  cases ru
  rcases lu with ⟨hk,_⟩ | ⟨_,c,e1,e2⟩
  ·rw[hv] at hk;cases hk
  ·rw[ec] at e1;cases e1;exact e2
 have nL:∀{b:Addr} {u:HO},H2 b=some u->b≠X.env.locals:=λe z=>by rw[z,I2.free] at e;cases e
 have dL:∀{b:Addr} {o:Obj},s2.heap.get? b=some o->(∀es ep,o.data≠.dict es ep)->b≠X.env.locals:=λe hd z=>by
  obtain⟨o',es,ep,e',Hq,_⟩:=Fk
  rw[z,e'] at e;cases e;exact hd es ep Hq
 refine ksk_sorted (h₀:=BA.qH s2.heap) (L:=X.env.locals) (m:=m2) (news:=BA.ledger s2.heap X.env.locals X.env.locals) (kz:=bs.map key) (vs:=bs.map Value.ref) (f:=.ref f) (b:=false) (BA.EO Fk)
  (λp hp=>by obtain⟨x,o⟩:=p;obtain⟨n1,_,ee⟩:=BA.fO.mp hp;exact⟨ee,n1,BA.m9 _ _⟩) ⟨_,eo,rfl,_,rfl⟩ (by rw[aac,aac]) (by rw[aac];exact Fd) (ksk_s1 _ _) (λx=>ksk_l1 _ _) (λx=>ksk_t1 _ _) ?turn ?done
 case turn=>
  intro j v k0 ev ek h3 tk own F3 N3
  rw[aaf] at ev ek
  obtain⟨b,eb,rfl⟩:=Option.map_eq_some_iff.mp ev
  rw[eb] at ek
  cases ek
  have kp:∀x o,x≠X.env.locals->s2.heap.get? x=some o->h3.get? x=some o:=λx o hx ee=>(N3 (x,o) (abr _ (BA.fO.mpr ⟨hx,hx,ee⟩))).1
  have kb:∀x o,X.base.get? x=some o->h3.get? x=some o:=λx o ee=>kp x o (λz=>by
   have l1:x<X.base.objs.size:=Heap.lt_size ee
   have l2:=I2.ok.yM
   have l3:=I2.ok.above
   rw[z] at l1
   exact absurd (aat l1 (aap l2 l3)) (aaI _)) (I2.bk x o ee)
  obtain⟨j0,xs,d,kvs,hb,g0,g1,gd,hd,Mw⟩:=Xs b (aag eb)
  obtain⟨itb,nb,Xu,Xv,_⟩:=I2.lst (sm _ _ hb)
  obtain⟨itr,nr,Xw,Xx,_⟩:=I2.lst (sm _ _ KY)
  obtain⟨mb,Xy,Mx⟩:=I2.mod.blt
  obtain⟨ui,Xz,t1,rfl⟩:=Xu.get (i:=0) (x:=.int j0) rfl
  obtain⟨ud,XA,XB⟩:=Xw.get gd
  obtain rfl:ud=Value.ref d:=XB
  obtain⟨z1,XC,vs,rel,o,es,ep,ed,My⟩:=I2.bW d _ (sm _ _ hd)
  obtain⟨U1,oc,Ly,t2,w1,w2,w3,w4⟩:=sE
  cases w1
  obtain⟨oe,U3,U4⟩:=pH
  have sl:=sizeLine_eq
  have rl:=rel.length
  refine zO (s:={s2 with heap:=h3,toks:=tk}) (kvs:=vs) (kp _ _ (dL hf λ_ _ z=>by cases z) hf) ⟨c',oc,Ly,t2,rfl,kp _ _ (dL w2 λ_ _ z=>by rw[w3] at z;cases z) w2,w3,w4⟩ hr.depth (I2.mod.nolimit.keeps kb) (I2.mod.glob.keeps kb) hl (Xy.keeps kb) Mx Cn
   ⟨oe,kp _ _ (dL U3 λ_ _ z=>by rw[U4] at z;cases z) U3,U4⟩ ⟨_,kp _ _ (nL (sm _ _ KY)) Xx,rfl,_,rfl⟩ ⟨_,kp _ _ (nL (sm _ _ hb)) Xv,rfl,_,rfl⟩ (by simpa using Xz) g0 (by omega) (by simpa using XA) XC ⟨o,es,ep,kp _ _ (nL (sm _ _ hd)) ed,My⟩ (by omega) λh4 XD t4 k4=>?_
  rw[Mw,show((kvs.length:Nat):Int)=((vs.length:Nat):Int) by rw[rl]]
  exact⟨h4,XD,t4,rfl,rfl,F3.kept k4,N3.grown k4⟩
 case done=>
  intro D h3 tk out c F3 N3 lt ko
  obtain⟨ps,hp,ho,hs⟩:=ko
  have ez:(bs.map key).zip (bs.map Value.ref)=bs.map λb=>(key b,Value.ref b):=by
   rw[List.zip_map',]
  rw[ez] at hp
  have mem:∀p∈ps,p=(key (BE p.2),Value.ref (BE p.2)):=λp jg=>by
   obtain⟨b,_,rfl⟩:=List.mem_map.mp (hp.mem_iff.mp jg)
   rfl
  have nd:(D:Addr)≠X.env.locals:=(N3 _ (.head _)).2.1
  have dn:s2.heap.get? D=none:=by
   cases ee:s2.heap.get? D with
   | none=>rfl
   | some o=>exact absurd (lt (D,o) (BA.fO.mpr ⟨nd,nd,ee⟩)) (aaI _)
  have hD:H2 D=none:=by
   cases ee:H2 D with
   | none=>rfl
   | some o=>
    obtain⟨ob,e'⟩:=cG.get (I2.bW D o ee)
    rw[dn] at e';cases e'
  have kp:∀x o,x≠X.env.locals->s2.heap.get? x=some o->h3.get? x=some o:=λx o hx ee=>(N3 (x,o) (aak _ (BA.fO.mpr ⟨hx,hx,ee⟩))).1
  have Mz:out=((ps.map λp=>BE p.2).map Value.ref).toArray:=by
   have:out.toList=(ps.map λp=>BE p.2).map Value.ref:=by
    rw[ho,aaS]
    exact List.map_congr_left λp jg=>congrArg Prod.snd (mem p jg)
   rw[<-this,Array.toArray_toList]
  have pm:(ps.map λp=>BE p.2).Perm bs:=by
   have:=hp.map λp=>BE p.2
   rw[aaS] at this
   exact this.trans (List.Perm.of_eq (by rw[show((λp:Int×Value=>BE p.2) ∘λb=>(key b,Value.ref b))=id from rfl,List.map_id]))
  have pl:=pm.length_eq
  have U5:=(N3 _ (.head _)).1
  have sl:=sizeLine_eq
  refine⟨.ref D,upd H2 D (.lst ((ps.map λp=>BE p.2).map V.ref)),I2.step (ch:=[]) (g':=s2.gens) (d':=s2.drawn) (t':=tk) (λ_ z=>nomatch z) (λb o h1 _ _ ee _=>kp b o h1 ee) (λb o h1 _ _ ee _=>⟨o.slots,kp b o h1 ee⟩) (λb o _ ee n=>?_) (λb o _ ee=>?_) (λb xs ee=>?_) (λb o u ee=>?_) (λb qs ee=>⟨#[],?_⟩) (λm hn=>?_) (λb o ee=>?_) I2.bare,rfl,?_⟩
  ·rw[aH (λz=>by rw[z,dn] at ee;cases ee)];exact n
  ·by_cases hb:b=X.env.locals
   ·obtain⟨o',_,_,e',_⟩:=F3.ns
    exact⟨o',by rw[hb];exact e'⟩
   ·exact⟨o,kp b o hb ee⟩
  ·rw[aH (bz ee hD)];exact ee
  ·rw[aH (bz ee hD)];exact ee
  ·rw[aH (bz ee hD),ee,Array.append_empty]
  ·have e1:=hn.eq_nsMap
   have e2:=Fk.eq_nsMap
   rw[e1,<-e2]
   exact F3.ns
  ·by_cases hb:b=D
   ·subst hb
    rw[ar] at ee
    cases ee
    refine⟨by rw[aac,pl];omega,(ps.map λp=>BE p.2).map Value.ref,c,?_,by rw[Mz] at U5;exact U5⟩
    generalize (ps.map λp=>BE p.2)=cs
    induction cs with
    | nil=>exact .nil
    | cons x cs ih=>exact .cons rfl ih
   ·rw[aH hb] at ee
    refine(I2.bW b o ee).oW (λx u pI e3=>kp x u (λz=>?_) e3) (λx e3=>by rw[aH (bz e3 hD)];exact e3) λx xs e3=>by rw[aH (bz e3 hD)];exact e3
    rcases pI with pI | pI
    ·subst pI;exact nL ee z
    ·exact nL pI z
  ·refine q D _ _ (sm.trans λb o ee=>by rw[aH (bz ee hD)];exact ee) ?_ ar pm ?_
   ·cases ee:H1 D with
    | none=>rfl
    | some o=>rw[sm _ _ ee] at hD;cases hD
   ·rw[List.pairwise_map]
    refine hs.imp_of_mem λ{x y} hx hy hle=>?_
    have hle:x.1<=y.1:=hle
    rw[mem x hx,mem y hy] at hle
    exact hle
end
noncomputable def Iv (K:PySem.W.Frag) (mg:Str->Option Value) (x:Str) (tc:Addr):Prop:=∃f oc od fd yF,mg x=some (.ref f)/\K.lookup f=some ⟨oc,od,.func fd,yF⟩/\fd.code=.ref tc
section
variable {P : Program} {w : World} {K : PySem.W.Frag} {mg : Str -> Option Value} {base : Heap} {CX : jT}
theorem u7.XF {x qual:Str} {st:Stmt} {f tc:Addr} {fd:FuncData} {N ps:List Str} {k:Nat} {sp:Sp} (F:u7 K x qual st f fd) (hc:fd.code=.ref tc) (S:aO N ps (af st)) (len:∀vs H Q E,sp vs H Q E->vs.length=ps.length)
  (sO:∀(A:Around) (outer:List Env) (s:Shared) (H:Hp) (vs:List V) (Q:VK) (E:XK),c8 k (A.deeper (envOfC qual (af st) s.heap.objs.size f (.ref tc)))->sp vs H Q E->
   ∃t,uJ (uZ CX P w K mg base N qual (af st) f (.ref tc) A outer s H E).GR (aK st) t/\t {nx:=λ_ H'=>Q .cB H',rt:=Q} (start N vs) H):d7 P w K mg base CX (k+1) f fd ps sp:=by
 obtain⟨oc,od,kV,doc,pm,an,cD,ct,yF,rfl,lk,sE⟩:=F.ex
 have hc:cD=.ref tc:=hc
 subst hc
 refine DG lk sE S len λA outer s H vs Q E hr By=>?_
 obtain⟨t,h,q⟩:=sO A outer s H vs Q E hr By
 exact⟨t,h.GR,q⟩
theorem Dn.MA {x:Str} {st:Stmt} {ps:List Str} {k:Nat} {sp:Sp} {tc:Addr} (D:Dn K mg x st) (L:Iv K mg x tc)
  (hb:∀(kV doc pm:Value) (an:Option Addr) (cD ct:Value) (us:List Value),us.length=ps.length->bindArgs (PySem.W.fnOf x x (aM st) (aK st) (af st) .none kV doc pm an cD ct) ⟨us,[]⟩=pure (ps.zip us))
  (h:∀f fd,u7 K x x st f fd->fd.code=.ref tc->d7 P w K mg base CX k f fd ps sp):bU P w K mg base CX k x ps sp:=by
 obtain⟨f,fd,F,hm⟩:=D.ex
 obtain⟨f',oc,od,fd',yF,h1,h2,h3⟩:=L
 rw[hm] at h1
 cases h1
 obtain⟨oc',od',_,_,_,_,_,_,XG,_,lk,_⟩:=F.ex
 rw[lk] at h2
 cases h2
 exact⟨f,fd,h f fd F h3,hm,F.kp,F.binds hb⟩
end
end L2
namespace L2
open PySem PySem.Spec PyProof.Rows PySem.W
mutual
noncomputable def tL:PyData->Bool
 | .none=>true
 | .int _=>true
 | .str x=>PyData.canLay0 (.str x)
 | .tuple xs=>tM xs
 | .list xs=>tM xs
 | _=>false
noncomputable def tM:List PyData->Bool
 | []=>true
 | x::xs=>tL x && tM xs
end
mutual
theorem mz:∀(d:PyData),tL d=true->d.canLay0=true
 | .none,_=>by simp [PyData.canLay0]
 | .bool _,h=>by simp [tL] at h
 | .int _,_=>by simp [PyData.canLay0]
 | .str x,h=>by rw[tL] at h;exact h
 | .list xs,h=>by rw[tL] at h;rw[PyData.canLay0];exact nQ xs h
 | .tuple xs,h=>by rw[tL] at h;rw[PyData.canLay0];exact nQ xs h
 | .dict _,h=>by simp [tL] at h
theorem nQ:∀(xs:List PyData),tM xs=true->PyData.canLayAll0 xs=true
 | [],_=>by simp [PyData.canLayAll0]
 | x::xs,h=>by
  rw[tM,aa7] at h
  rw[PyData.canLayAll0,aa7]
  exact⟨mz x h.1,nQ xs h.2⟩
end
mutual
theorem wJ:∀(x y:PyData),tL x=true->tL y=true->PyData.eqv x y=decide (x=y)
 | .none,y,_,hy=>by cases y <;>simp [PyData.eqv]
 | .int i,y,_,hy=>by
  cases y with
  | int j=>
   rw[PyData.eqv]
   by_cases c:i=j
   ·subst c;simp
   ·rw[decide_eq_false (λe=>c (by injection e))]
    simp [c]
  | bool _=>simp [tL] at hy
  | _=>simp [PyData.eqv]
 | .str a,y,_,hy=>by
  cases y with
  | str b=>
   rw[PyData.eqv]
   by_cases c:a=b
   ·subst c;simp
   ·rw[decide_eq_false (λe=>c (by injection e))]
    simp [c]
  | _=>simp [PyData.eqv]
 | .tuple xs,y,hx,hy=>by
  cases y with
  | tuple ys=>
   rw[tL] at hx hy
   rw[PyData.eqv,nR xs ys hx hy]
   by_cases c:xs=ys
   ·subst c;simp
   ·rw[decide_eq_false c,decide_eq_false (λe=>c (by injection e))]
  | _=>simp [PyData.eqv]
 | .list xs,y,hx,hy=>by
  cases y with
  | list ys=>
   rw[tL] at hx hy
   rw[PyData.eqv,nR xs ys hx hy]
   by_cases c:xs=ys
   ·subst c;simp
   ·rw[decide_eq_false c,decide_eq_false (λe=>c (by injection e))]
  | _=>simp [PyData.eqv]
 | .bool _,_,h,_=>by simp [tL] at h
 | .dict _,_,h,_=>by simp [tL] at h
theorem nR:∀(xs ys:List PyData),tM xs=true->tM ys=true->PyData.eqvAll xs ys=decide (xs=ys)
 | [],[],_,_=>by simp [PyData.eqvAll]
 | [],_::_,_,_=>by simp [PyData.eqvAll]
 | _::_,[],_,_=>by simp [PyData.eqvAll]
 | x::xs,y::ys,hx,hy=>by
  rw[tM,aa7] at hx hy
  rw[PyData.eqvAll,wJ x y hx.1 hy.1,nR xs ys hx.2 hy.2]
  by_cases c:x=y
  ·subst c
   by_cases d:xs=ys
   ·subst d;simp
   ·rw[decide_eq_false d,decide_eq_false (λe=>d (List.cons.inj e).2)];simp
  ·rw[decide_eq_false c,decide_eq_false (λe=>c (List.cons.inj e).1)];simp
end
section
variable {X : Cx} {K : PySem.W.Frag}
noncomputable def Ke (d:Dat):Prop:=tL (toP d)=true/\(toP d).depth<=8
theorem Fl {A:Around} {s:Shared} {a b:PyData} {u v:Value} {as bs:List Addr} (ra:Reads s.heap u a as) (rb:Reads s.heap v b bs) (ha:tL a=true) (hb:tL b=true) (da:a.depth<=8) (db:b.depth<=8) (hu:A.units+8<cLine):SeqAt.EqAt A s u v (decide (a=b)):=λprog w E Q h=>
 SeqAt.eqBoolOverData _ _ _ _ _ _ _ _ _ _ _ _ ra rb (mz _ ha) (mz _ hb) (by omega) (by rw[wJ _ _ ha hb];exact h)
theorem zR {s:Shared} {ds:List Dat} {d:Dat} (lh:∀e∈ds,Ke e) {u:Value} {e:Dat} {bs:List Addr} [Decidable (∃cs,Reads s.heap u (toP d) cs)] (he:e∈ds) (re:Reads s.heap u (toP e) bs):decide (∃cs,Reads s.heap u (toP d) cs)=decide (toP e=toP d):=by
 by_cases c:toP e=toP d
 ·rw[decide_eq_true c,decide_eq_true ⟨bs,by rw[<-c];exact re⟩]
 ·rw[decide_eq_false c,decide_eq_false]
  rintro⟨cs,rc⟩
  exact c (SeqAt.Reads.unique _ _ _ _ _ (mz _ (lh e he).1) re rc)
noncomputable def MB:V->List V->Hp->VK->Prop:=λx vs H Q=>∃l xs ds v d i,x=.ref l/\vs=[v]/\H l=some (.lst xs)/\bf H ds xs/\(∀e∈ds,Ke e)/\Rep H d v/\Ke d/\(ds.map toP)[i]?=some (toP d)/\(∀j,j<i->(ds.map toP)[j]?≠some (toP d))/\i<100000/\Q (.int (i:Nat)) H
theorem yk (hu:X.A.units+64<cLine):GV X "list.index" MB:=by
 classical
 intro pins s σ H x vs v us Q I rx rv h
 obtain⟨l,xs,ds,y,d,i,rfl,rfl,hp,rd,lh,XH,hd,hi,XI,i6,q⟩:=h
 cases rx
 obtain⟨u,rfl,ru⟩:=vals1 rv
 obtain⟨aU,r,pl,hz⟩:=I.list (bo.of hp)
 obtain⟨as,ra⟩:=nN I.bW d y u XH ru
 have l1:=rd.length
 have l2:=r.length
 have at_:∀(j:Nat) (hj:j<aU.length),∃e bs,ds[j]?=some e/\e∈ds/\Reads s.heap aU[j] (toP e) bs:=λj hj=>by
  obtain⟨e,bs,ed,re⟩:=qa I.bW rd r (aad hj)
  exact⟨e,bs,ed,aag ed,re⟩
 have XJ:i<aU.length:=by
  have:=(List.getElem?_eq_some_iff.mp hi).1
  rw[aac] at this
  omega
 obtain⟨⟨c1,d1,d2,sl⟩,ho,e1,m,e2⟩:=pl.isList
 cases e1
 cases e2
 have hit:decide (∃cs,Reads s.heap aU[i] (toP d) cs)=true:=by
  obtain⟨e,bs,ed,he,re⟩:=at_ i XJ
  rw[zR lh he re]
  rw[aaf,ed] at hi
  exact decide_eq_true (aax hi)
 refine call_meets PySem.F.slot_list_index ⟨_,ho,rfl⟩ PySem.F.entry_list_index (PySem.F.args_list_index_2 _ _) (PySem.SeqAt.list_indexAt l aU.toArray m d1 sl u (λu=>decide (∃cs,Reads s.heap u (toP d) cs)) i (by rw[aam];omega) (by omega) hit (λj hj hl=>?_)) ⟨ho,λy hy=>?_,⟨.int _,H,I.tok _,⟨_,rfl⟩,q⟩⟩
 ·rw[aam] at hj
  obtain⟨e,bs,ed,he,re⟩:=at_ j hj
  show decide (∃cs,Reads s.heap aU[j] (toP d) cs)=false
  rw[zR lh he re]
  refine decide_eq_false λz=>XI j hl ?_
  rw[aaf,ed]
  exact congrArg some z
 ·obtain⟨j,ej⟩:=aaD (List.mem_toArray.mp hy)
  obtain⟨e,bs,ed,re⟩:=qa I.bW rd r ej
  have he:=aag ed
  show SeqAt.EqAt _ _ _ _ (decide _)
  rw[zR lh he re]
  exact Fl re ra (lh e he).1 hd.1 (lh e he).2 hd.2 (by show X.A.units+1+8<cLine;omega)
end
end L2
namespace L2
open PySem PyProof.Rows
theorem exV {b:V} {Q:V->Prop}:(∃v,(some (some b):Option (Option V))=some (some v)/\Q v)=Q b:=propext ⟨fun⟨_,e,h⟩=>by cases e;exact h,λh=>⟨b,rfl,h⟩⟩
theorem exI {a:Int} {Q:Int->Prop}:(∃i,V.int a=V.int i/\Q i)=Q a:=propext ⟨fun⟨_,e,h⟩=>by cases e;exact h,λh=>⟨a,rfl,h⟩⟩
theorem exB {a:Bool} {Q:Bool->Prop}:(∃i,V.bl a=V.bl i/\Q i)=Q a:=propext ⟨fun⟨_,e,h⟩=>by cases e;exact h,λh=>⟨a,rfl,h⟩⟩
theorem exR {a:Addr} {Q:Addr->Prop}:(∃i,V.ref a=V.ref i/\Q i)=Q a:=propext ⟨fun⟨_,e,h⟩=>by cases e;exact h,λh=>⟨a,rfl,h⟩⟩
theorem exS {a:Str} {Q:Str->Prop}:(∃i,V.str a=V.str i/\Q i)=Q a:=propext ⟨fun⟨_,e,h⟩=>by cases e;exact h,λh=>⟨a,rfl,h⟩⟩
theorem exII {a b:Int} {Q:Int->Int->Prop}:(∃i j,V.int a=V.int i/\V.int b=V.int j/\Q i j)=Q a b:=propext ⟨fun⟨_,_,e,f,h⟩=>by cases e;cases f;exact h,λh=>⟨a,b,rfl,rfl,h⟩⟩
theorem exRI {a:Addr} {k:Int} {Q:Addr->List V->Int->V->Prop}:(∃p xs i v,V.ref a=V.ref p/\V.int k=V.int i/\Q p xs i v)=∃xs v,Q a xs k v:=propext ⟨fun⟨_,xs,_,v,e,f,h⟩=>by cases e;cases f;exact⟨xs,v,h⟩,fun⟨xs,v,h⟩=>⟨a,xs,k,v,rfl,rfl,h⟩⟩
theorem exRa {α:Type} {a:Addr} {Q:Addr->α->Prop}:(∃p v,V.ref a=V.ref p/\Q p v)=∃v,Q a v:=propext ⟨fun⟨_,v,e,h⟩=>by cases e;exact⟨v,h⟩,fun⟨v,h⟩=>⟨a,v,rfl,h⟩⟩
theorem exRb {α β:Type} {a:Addr} {Q:Addr->α->β->Prop}:(∃p v u,V.ref a=V.ref p/\Q p v u)=∃v u,Q a v u:=propext ⟨fun⟨_,v,u,e,h⟩=>by cases e;exact⟨v,u,h⟩,fun⟨v,u,h⟩=>⟨a,v,u,rfl,h⟩⟩
theorem scal_ss {a b:Str}:uQ (.str a) (.str b)=true:=rfl
theorem scal_ii {a b:Int}:uQ (.int a) (.int b)=true:=rfl
theorem scal_bb {a b:Bool}:uQ (.bl a) (.bl b)=true:=rfl
theorem scal_si {a:Str} {b:Int}:uQ (.str a) (.int b)=true:=rfl
theorem scal_is {a:Int} {b:Str}:uQ (.int a) (.str b)=true:=rfl
end L2
namespace L2
open PySem PySem.Spec PyProof.Rows
section
variable {X : Cx}
theorem zS:Hs X rIxLH:=by
 intro pins s σ H x y v u Q I rx ry h
 obtain⟨p,xs,i,z,rfl,rfl,hq,he,q⟩:=h
 cases rx
 obtain⟨t,rfl⟩:=ry
 obtain⟨aU,r,pl,hz⟩:=I.list (bo.of hq)
 obtain⟨j,h1,h2,h3,h4,h5⟩:=qD he
 obtain⟨w,ew,mS⟩:=r.get h2
 have hl:=r.length
 have hn:=mX
 have fin:EP X pins σ Q w s:=⟨z,H,I,mS,q⟩
 by_cases h0:0<=i
 ·have hj:i.toNat=j:=by
   rw[seqIndex_of h0 h5] at h1
   exact aax h1
  exact wpAny_getItem_list pl.isList h0 (by omega) (by rw[hj];simpa using ew) fin
 ·have hj:(i+ (aU.toArray.size:Int)).toNat=j:=by
   rw[seqIndex_neg (by omega) h4] at h1
   rw[aam,<-hl]
   exact aax h1
  exact wpAny_getItem_list_neg pl.isList (by omega) (by rw[aam] <;>omega) (by omega) (by rw[hj];simpa using ew) fin
theorem wK {K:PySem.W.Frag} {e:Expr} {f:Str} {pos:Pos} {ta:TE} (he:PE X e ta) (hb:attributeBase e f X.env (eval e X.env)=eval e X.env) (hK:X.K=K:=by rfl):PE X (.Attribute e f pos) (kU K ta f):=by subst hK;exact dR he hb
end
end L2
namespace Wq
abbrev Sh:=Int×Int
noncomputable def Lw (x:Sh):Prop:=0<x.2/\Nm.g x.1 x.2=1
noncomputable def sc (L:Int) (x:Sh):Int:=x.1* (L / x.2)
theorem iU {L:Int} {x:Sh} (h:x.2∣L):sc L x*x.2=x.1*L:=by
 unfold sc
 rw[aaK,Int.ediv_mul_cancel h]
theorem zT {L s:Int} {x:Sh} (h:Lw x) (L0:0<L) (e:x.1*L=s*x.2):x.2∣L/\sc L x=s:=by
 have c:Int.gcd x.1 x.2=1:=by have:=h.2;unfold Nm.g at this;omega
 have d:x.2∣L:=Nm.mh (q:=x.2) (a:=x.1) ⟨s,by rw[e,aaB]⟩ c
 refine⟨d,?_⟩
 have:=iU d
 rw[e] at this
 exact Int.eq_of_mul_eq_mul_right (by have:=h.1;omega) this
noncomputable def low (a b:Int):Sh:=(Nm.st a b,Nm.sb a b)
theorem iV {a b:Int} (h:0<b):Lw (low a b):=⟨Nm.zk (by omega),Nm.zm (by omega)⟩
theorem qU {a b L s:Int} (h:0<b) (L0:0<L) (e:a*L=s*b):(low a b).2∣L/\sc L (low a b)=s:=by
 refine zT (iV h) L0 ?_
 have c:=Nm.tj a b
 show Nm.st a b*L=s*Nm.sb a b
 refine Int.eq_of_mul_eq_mul_right (show b≠0 by omega) ?_
 calc Nm.st a b*L*b=(Nm.st a b*b)*L:=Int.mul_right_comm ..
  _=a*Nm.sb a b*L:=by rw[c]
  _=(a*L)*Nm.sb a b:=Int.mul_right_comm ..
  _=s*b*Nm.sb a b:=by rw[e]
  _=s*Nm.sb a b*b:=Int.mul_right_comm ..
noncomputable def pl (x y:Sh):Sh:=low (x.1*y.2+y.1*x.2) (x.2*y.2)
noncomputable def tm (x y:Sh):Sh:=low (x.1*y.1) (x.2*y.2)
theorem Iw {L:Int} {x y:Sh} (hx:0<x.2) (hy:0<y.2) (L0:0<L) (dx:x.2∣L) (dy:y.2∣L):Lw (pl x y)/\(pl x y).2∣L/\sc L (pl x y)=sc L x+sc L y:=by
 have e1:=iU dx
 have e2:=iU dy
 refine⟨iV (aaG hx hy),qU (aaG hx hy) L0 ?_⟩
 calc (x.1*y.2+y.1*x.2)*L=(x.1*L)*y.2+ (y.1*L)*x.2:=by rw[Int.add_mul,Int.mul_right_comm,Int.mul_right_comm y.1]
  _=sc L x*x.2*y.2+sc L y*y.2*x.2:=by rw[e1,e2]
  _=(sc L x+sc L y)* (x.2*y.2):=by rw[Int.add_mul,aaK,aaK,aaB y.2 x.2]
end Wq
namespace Wq
open L2
noncomputable def wL (a b:Sh):Bool:=decide (a.1*b.2<b.1*a.2)
noncomputable def fh (ws:List Sh) (i:Int):Sh:=ws.getD i.toNat (0,1)
noncomputable def bS (MC:List (Int×Int)):Int:=(MC.map (·.1)).sum
end Wq
namespace Wq
open L2
noncomputable def tN (c b:Int):Int:=c / Nm.g c b*b
noncomputable def eZ:Int->List Sh->Int
 | c,[]=>c
 | c,x::xs=>eZ (tN c x.2) xs
theorem Cy {c b:Int} (hc:0<c) (hb:0<b):0<tN c b/\c∣tN c b/\b∣tN c b/\∀{Z:Int},c∣Z->b∣Z->tN c b∣Z:=by
 have g0:=Nm.iC (a:=c) (b:=b) (by omega)
 have gl:=Nm.jt c b
 have gr:=Nm.eM c b
 obtain⟨u,hu⟩:=gl
 obtain⟨v,hv⟩:=gr
 have e1:c / Nm.g c b=u:=by
  calc c / Nm.g c b=Nm.g c b*u / Nm.g c b:=by rw[<-hu]
   _=u:=Int.mul_ediv_cancel_left _ (by omega)
 have u0:0<u:=by rw[<-e1];exact Int.ediv_pos_of_pos_of_dvd hc (Nm.ES c b) ⟨u,hu⟩
 unfold tN
 rw[e1]
 refine⟨aaG u0 hb,⟨v,?_⟩,Int.dvd_mul_left ..,λ{Z} h1 h2=>?_⟩
 ·calc u*b=u* (Nm.g c b*v):=by rw[<-hv]
   _=(Nm.g c b*u)*v:=by rw[<-aaK,aaB u]
   _=c*v:=by rw[<-hu]
 ·obtain⟨z,hz⟩:=h2
  have cp:Int.gcd v u=1:=by
   have h:=Int.gcd_ediv_gcd_ediv_gcd (i:=c) (j:=b) (by unfold Nm.g at g0;omega)
   have e2:b / Nm.g c b=v:=by
    calc b / Nm.g c b=Nm.g c b*v / Nm.g c b:=by rw[<-hv]
     _=v:=Int.mul_ediv_cancel_left _ (by omega)
   have h':Int.gcd (c / Nm.g c b) (b / Nm.g c b)=1:=h
   rw[e1,e2,Int.gcd_comm] at h'
   exact h'
  obtain⟨k,hk⟩:=h1
  have m:u*k=v*z:=by
   refine Int.eq_of_mul_eq_mul_left (show Nm.g c b≠0 by omega) ?_
   calc Nm.g c b* (u*k)=(Nm.g c b*u)*k:=(aaK ..).symm
    _=c*k:=by rw[<-hu]
    _=Z:=hk.symm
    _=b*z:=hz
    _=(Nm.g c b*v)*z:=by rw[<-hv]
    _=_:=aaK ..
  obtain⟨j,hj⟩:=Nm.mh (q:=u) (a:=v) (b:=z) ⟨k,m.symm⟩ cp
  exact⟨j,by rw[hz,hj,<-aaK,aaB b u]⟩
theorem mB:∀{xs:List Sh} {c:Int},0<c->(∀x∈xs,0<x.2)->0<eZ c xs/\c∣eZ c xs/\(∀x∈xs,x.2∣eZ c xs)/\∀{Z:Int},c∣Z->(∀x∈xs,x.2∣Z)->eZ c xs∣Z
 | [],c,hc,_=>⟨hc,abc c,by simp,λh _=>h⟩
 | x::xs,c,hc,h=>by
  obtain⟨a1,a2,a3,a4⟩:=Cy hc (h x (aaj ..))
  obtain⟨b1,b2,b3,b4⟩:=mB (xs:=xs) a1 λy hy=>h y (aak _ hy)
  refine⟨b1,Int.dvd_trans a2 b2,λy hy=>?_,λ{Z} h1 h2=>b4 (a4 h1 (h2 x (aaj ..))) λy hy=>h2 y (aak _ hy)⟩
  rcases List.mem_cons.mp hy with rfl | hy
  ·exact Int.dvd_trans a3 b2
  ·exact b3 y hy
noncomputable def Vb (M:Int) (x:Sh):Prop:= -(M*x.2)<=x.1/\x.1<=M*x.2
theorem kG {L M:Int} {x:Sh} (hx:0<x.2) (L0:0<L) (d:x.2∣L):Vb M x↔-(M*L)<=sc L x/\sc L x<=M*L:=by
 have e:=iU d
 have k:M*L*x.2=M*x.2*L:=Int.mul_right_comm ..
 have i1:∀p q:Int,p<=q↔p*L<=q*L:=λp q=>⟨λh=>Int.mul_le_mul_of_nonneg_right h (by omega),λh=>Int.le_of_mul_le_mul_right h L0⟩
 have i2:∀p q:Int,p<=q↔p*x.2<=q*x.2:=λp q=>⟨λh=>Int.mul_le_mul_of_nonneg_right h (by omega),λh=>Int.le_of_mul_le_mul_right h hx⟩
 unfold Vb
 rw[i1 (-(M*x.2)),i1 x.1,i2 (-(M*L)),i2 (sc L x),e,Int.neg_mul,Int.neg_mul,k]
end Wq
namespace Wq
theorem qc:∀{xs:List Sh} {c:Int} {x:Sh},eZ c (xs++ [x])=tN (eZ c xs) x.2
 | [],_,_=>rfl
 | y::xs,c,x=>qc (xs:=xs) (c:=tN c y.2) (x:=x)
noncomputable def dz:L2.Pl->Sh
 | .fin g=>g
 | .dq g _=>g
 | .cC _ _=>(0,1)
end Wq
namespace Wq
end Wq
namespace Wq
end Wq
namespace Wq
end Wq
namespace Wq
end Wq
namespace K44
open PySem PySem.Spec PyProof.Rows L2
set_option maxHeartbeats 4000000
local macro_rules | `(tactic| simp! only [$ls,*]) => `(tactic| simp only [↓exV, ↓exI, ↓exB, ↓exR, ↓exS, ↓exII, ↓exRI, ↓exRa, ↓exRb, L2.start, Pr, tRev, tD1, tDPop1, tSl, tNoPart, tPart, rSlL, tDIn, tDNotIn, gSub, rSetL, tLst, tDNewK, tComp, L2.stC, tFor_eq, iList, iTup, iRng1, iRng2, iZip, iEnum, iDict, iStr, tChain, tSumV, tBM, rJoin, tJoined, jNil, jLit, jInt, jStr, tRaise, tDGet, tDGet2, tDGet1, sDPut, Option.join_some, List.getElem?_nil,  tSeq, tRet, tRetN, tIfS, tTest, tB, tOp, tUn, tVar, tC, tCB, tCons, tNil, tCall, tTupS, tAsg, gName, gNil, gCons, tPar, tNext, tDrop, tAnd, tOr, tNot, tAndV, tOrV, tNotV, tIf, rI, rI0, rU, rIxTH, rIxLH, rEqT, rNeT, rInT, rEq, rNe, scal_ss, scal_ii, scal_bb, scal_si, scal_is, CPow, at0, at1, at2, List.map_cons, List.map_nil, List.length_cons, List.length_nil, Nat.reduceSub, Nat.reduceAdd, Nat.zero_add, List.replicate_zero, List.reduceReplicate, List.append_nil, List.nil_append, List.cons_append, List.getElem?_cons_zero, List.getElem?_cons_succ, List.set_cons_zero, List.set_cons_succ, Option.some.injEq, exists_eq_left', exists_eq_left, V.ref.injEq, V.int.injEq, V.bl.injEq, V.str.injEq, V.ty.injEq, HO.tup.injEq, HO.lst.injEq, List.cons.injEq, and_true, true_and, and_assoc, exists_and_left, decide_eq_true_eq, Bool.not_eq_true', decide_eq_false_iff_not, ite_true, ite_false, if_true, if_false, Int.reduceToNat, eq_self_iff_true, $ls,*])
local macro_rules | `(tactic| simp_all only [$ls,*]) => `(tactic| (first | ((dsimp (config := { zetaDelta := true }) only [L2.start, Pr, tRev, tD1, tDPop1, tSl, tNoPart, tPart, rSlL, tDIn, tDNotIn, gSub, rSetL, tLst, tDNewK, tComp, L2.stC, tFor_eq, iList, iTup, iRng1, iRng2, iZip, iEnum, iDict, iStr, tChain, tSumV, tBM, rJoin, tJoined, jNil, jLit, jInt, jStr, tRaise, tDGet, tDGet2, tDGet1, sDPut, tSeq, tRet, tRetN, tIfS, tTest, tB, tOp, tUn, tVar, tC, tCB, tCons, tNil, tCall, tTupS, tAsg, gName, gNil, gCons, tPar, tNext, tDrop, tAnd, tOr, tNot, tAndV, tOrV, tNotV, tIf, rI, rI0, rU, rIxTH, rIxLH, rEqT, rNeT, rInT, rEq, rNe, scal_ss, scal_ii, scal_bb, scal_si, scal_is, CPow, List.getElem?_cons_zero, List.getElem?_cons_succ, List.set_cons_zero, List.set_cons_succ]); try simp! only [$ls,*]) | simp! only [$ls,*]))
seal L2.PE L2.PT L2.PW L2.PA L2.PS L2.uJ L2.PG L2.GU L2.PI L2.EZ L2.PO L2.md L2.KI L2.cY L2.DH L2.KL L2.GV L2.HI
theorem aA {P:Program} {w:World}:qI (bL P w):=wq P w
set_option genInjectivity false in
set_option genSizeOf false in
structure Txt (K:PySem.W.Frag) (mg:Str->Option Value) (aB tc:Addr):Prop where
 z_abs:mg "abs"=none
 z_all:mg "all"=none
 z_any:mg "any"=none
 z_enumerate:mg "enumerate"=none
 z_len:mg "len"=none
 z_list:mg "list"=none
 z_max:mg "max"=none
 z_range:mg "range"=none
 z_sorted:mg "sorted"=none
 z_sum:mg "sum"=none
 z_zip:mg "zip"=none
 Cz:Dn K mg "goals" (top 1)
 vo:Dn K mg "is_ready" (top 2)
 nS:Dn K mg "ready_places" (top 3)
 zU:Dn K mg "levels" (top 4)
 Fn:Dn K mg "ring" (top 5)
 j5:Dn K mg "common_divisor" (top 12)
 CA:Dn K mg "share" (top 13)
 lA:Dn K mg "common_bottom" (top 14)
 lB:Dn K mg "row_with_head" (top 16)
 yl:Dn K mg "swapped" (top 17)
 fX:Dn K mg "without_first_column" (top 18)
 CB:Dn K mg "swept" (top 19)
 lC:Dn K mg "whole_answers" (top 20)
 qV:Dn K mg "steps_from" (top 22)
 CC:Dn K mg "parts" (top 23)
 lD:Dn K mg "ways_of_picks" (top 27)
 lE:Dn K mg "checked_parts" (top 28)
 lF:Dn K mg "weighted_ways" (top 29)
 iz:Dn K mg "all_weighted_ways" (top 30)
 nU:Dn K mg "total_weight" (top 31)
 tO:Dn K mg "part_rows" (top 32)
 yn:Dn K mg "gain_of" (top 34)
 yo:Dn K mg "book_of" (top 35)
 vq:Dn K mg "gains_of" (top 36)
 nV:Dn K mg "blank_worths" (top 37)
 o8:Dn K mg "with_worths" (top 38)
 qW:Dn K mg "wanted_way" (top 40)
 o9:Dn K mg "better_ways" (top 41)
 vv:Dn K mg "picks_of" (top 42)
 iW:Dn K mg "with_best_worths" (top 43)
 tP:Dn K mg "best_pick" (top 44)
 Fo:Dn K mg "best" (top 45)
 tQ:Dn K mg "_law_cell" (top 47)
 qX:Dn K mg "_law_mixed" (top 48)
 vx:Dn K mg "_law_low" (top 49)
 tR:Dn K mg "_law_plus" (top 50)
 qY:Dn K mg "_law_times" (top 51)
 qZ:Dn K mg "_law_share" (top 52)
 pb:Dn K mg "_law_turned" (top 53)
 q9:Dn K mg "_law_throw" (top 54)
 rh:Dn K mg "_law_board" (top 55)
 tS:Dn K mg "_law_copy" (top 57)
 tT:Dn K mg "_law_less" (top 60)
 nW:Dn K mg "_law_pick_at" (top 61)
 rj:Dn K mg "_law_round" (top 62)
 vA:Dn K mg "_law_sum" (top 63)
 c_MOST_PLACES:∃t,mg "MOST_PLACES"=some (.int 40 t)
 c_MOST_PICKS:∃t,mg "MOST_PICKS"=some (.int 4096 t)
 k_Book:mg "Book"=some (.ref aB)
 cA:xU K aB
 na_Book_bottom:PySem.W.findIn K (.ref aB) "bottom"=some none
 na_Book_tops:PySem.W.findIn K (.ref aB) "tops"=some none
 CD:Mn K mg "Book" "Book.__init__" (inClass (top 33) 0) aB
 jz:KW K aB "as_shares" "Book.as_shares" (inClass (top 33) 2)
 nX:KW K aB "scaled" "Book.scaled" (inClass (top 33) 1)
 CF:Iv K mg "parts" tc
theorem MD {C:List Value->Prop} (k:C []):∀us:List Value,us.length=0->C us:=λus h=>by
 cases us with
 | nil=>exact k
 | cons a us=>cases h
theorem zV {C:List Value->Prop} {n:Nat} (k:∀a (us:List Value),us.length=n->C (a::us)):∀us:List Value,us.length=n+1->C us:=λus h=>by
 cases us with
 | nil=>cases h
 | cons a us=>exact k a us (Nat.succ.inj h)
theorem iX {C:List Value->Prop} (k:∀a,C [a]):∀us:List Value,us.length=1->C us:=zV λa=>MD (C:=λus=>C (a::us)) (k a)
theorem eE {C:List Value->Prop} (k:∀a b,C [a,b]):∀us:List Value,us.length=2->C us:=zV λa=>iX (C:=λus=>C (a::us)) (k a)
theorem tU {C:List Value->Prop} (k:∀a b c,C [a,b,c]):∀us:List Value,us.length=3->C us:=zV λa=>eE (C:=λus=>C (a::us)) (k a)
theorem CG {C:List Value->Prop} (k:∀a b c d,C [a,b,c,d]):∀us:List Value,us.length=4->C us:=zV λa=>tU (C:=λus=>C (a::us)) (k a)
theorem Iy {C:List Value->Prop} (k:∀a b c d e,C [a,b,c,d,e]):∀us:List Value,us.length=5->C us:=zV λa=>CG (C:=λus=>C (a::us)) (k a)
abbrev dsc:Array Value:=#[rawInt 119,rawInt 29,.str ((Str.ofString "parts"++".<locals>.")++"<lambda>") 0]
noncomputable def gE:Option Int->V
 | none=>.cB
 | some i=>.int i
theorem DV {fs:Lv.Fs} {g:Int} (h0:0<=g) (h1:g< (fs.length:Nat)):fc (List.map gE fs) g=some (gE (Lv.lk fs g)):=by
 obtain⟨j,rfl⟩:=aau h0
 have hj:j<fs.length:=by omega
 have e:fs[j]?=some fs[j]:=aad hj
 rw[nE (f:=gE) e]
 congr 2
 unfold Lv.lk
 rw[aai,aae,e]
 rfl
theorem nY {o:Option Int}:(gE o=V.cB)↔o=none:=by cases o <;>simp [gE]
noncomputable def tV:Sp:=λvs H Q _=>∃v q,vs=[v]/\Rep H (kY q) v/\(Lv.fU q).length<=100/\∀l H',az H H'->H l=none->H' l=some (.lst (List.map V.int (Lv.fU q)))->Q (.ref l) H'
noncomputable def zW:Sp:=λvs H Q _=>∃v q f fs,vs=[v,.ref f]/\Rep H (kY q) v/\H f=some (.lst (List.map gE fs))/\(Lv.fU q).length<=100/\(∀g∈Lv.fU q,0<=g/\g< (fs.length:Nat))/\∀H',az H H'->Q (.bl (Lv.DR fs q)) H'
noncomputable def eK (i:Nat):V:=.int i
noncomputable def wM:Sp:=λvs H Q _=>∃a b f fs,vs=[.ref a,.ref f]/\Rep H (qN b) (.ref a)/\H f=some (.lst (List.map gE fs))/\fs.length=b.length/\b.length<=1000/\(∀q∈b,(Lv.fU q).length<=100)/\Lv.Good b/\∀l H',az H H'->H l=none->H' l=some (.lst (List.map eK (Lv.fresh b fs)))->Q (.ref l) H'
noncomputable def zX:Sp:=λvs H Q _=>∃a b,vs=[.ref a]/\Rep H (qN b) (.ref a)/\b.length<=1000/\(∀q∈b,(Lv.fU q).length<=100)/\Lv.Good b/\∀l H',az H H'->H l=none->H' l=some (.lst (List.map gE (Lv.tE b)))->Q (.ref l) H'
structure XM (H:Hp) (b:List Pl) (a ff:Addr) (m:Nat) (σ:L2.St) (H':Hp):Prop where
 ex:∃fs L fr z,σ=[some (V.ref a),some (V.ref ff),some (V.int L),some (V.ref fr),z]/\H' ff=some (.lst (List.map gE fs))/\H' fr=some (.lst (List.map eK (Lv.fresh b fs)))/\fr≠ff/\az H H'/\fs.length=b.length/\Lv.d4 fs<=m/\Lv.run b m fs L=Lv.tE b
noncomputable def nZ (b:List Pl):List Nat:=(List.range b.length).filter fun(i:Nat)=>(Lv.lk (Lv.tE b) (i:Int)).isNone
theorem zY {b:List Pl} {i:Nat}:i∈nZ b↔i<b.length/\Lv.lk (Lv.tE b) (i:Int)=none:=by
 unfold nZ
 rw[List.mem_filter,List.mem_range]
 simp
structure Bd (b:List Pl):Prop where
 len:b.length<=1000
 sY:∀q∈b,(Lv.fU q).length<=100
 good:Lv.Good b
noncomputable def vB:Sp:=λvs H Q _=>∃a b,vs=[.ref a]/\Rep H (qN b) (.ref a)/\Bd b/\∀l H',az H H'->H l=none->H' l=some (.lst (List.map eK (nZ b)))->Q (.ref l) H'
noncomputable def pd (H:Hp):Option (Int×Nat)->V->Prop
 | none,v=>v=.cB
 | some (h,w),v=>∃p,v=.ref p/\H p=some (.tup [.int h,.int (w:Int)])
theorem pd.mono {H H':Hp} (s:az H H') {o:Option (Int×Nat)} {v:V} (h:pd H o v):pd H' o v:=by
 cases o with
 | none=>exact h
 | some x=>obtain⟨p,e,hp⟩:=h;exact⟨p,e,s _ _ hp⟩
theorem pd.upd {H:Hp} {a:Addr} {o:HO} {par:Option (Int×Nat)} {v:V} (n:∀xs,H a≠some (.tup xs)) (h:pd H par v):pd (upd H a o) par v:=by
 cases par with
 | none=>exact h
 | some x=>obtain⟨p,e,hp⟩:=h;exact⟨p,e,by rw[aH (λz=>n _ (z▸hp))];exact hp⟩
structure fx (H:Hp) (d:Addr) (es:List Bf.En):Prop where
 ex:∃kvs,H d=some (.dK kvs)/\kvs.map (·.1)=(Bf.keys es).map Sum.inl/\∀(i:Nat) e,es[i]?=some e->∃v,kvs[i]?=some (Sum.inl e.1,v)/\pd H e.2.1 v
theorem fx.mono {H H':Hp} (s:az H H') {d:Addr} {es:List Bf.En} (h:fx H d es):fx H' d es:=by
 obtain⟨kvs,hd,hk,hv⟩:=h
 exact⟨kvs,s _ _ hd,hk,λi e he=>by obtain⟨v,e1,e2⟩:=hv i e he;exact⟨v,e1,e2.mono s⟩⟩
theorem vC {κ:Type} [DecidableEq κ]:∀{kvs:List (κ×V)} {i:Nat} {k:κ} {v:V},(kvs.map (·.1)).Nodup->kvs[i]?=some (k,v)->gN kvs k=some v
 | [],i,k,v,_,h=>by simp at h
 | p::r,0,k,v,_,h=>by simp at h;subst h;exact js rfl
 | p::r,i+1,k,v,nd,h=>by
  simp at h
  rw[aav,List.nodup_cons] at nd
  rw[gO (λz=>nd.1 (by rw[z];exact List.mem_map.mpr ⟨(k,v),aag h,rfl⟩))]
  exact vC nd.2 h
theorem mC {κ:Type} [DecidableEq κ]:∀{kvs:List (κ×V)} {k:κ},k∉kvs.map (·.1)->gN kvs k=none
 | [],k,_=>rfl
 | p::r,k,h=>by
  rw[aav] at h
  rw[gO (λz=>h (by rw[z];exact aaj))]
  exact mC λz=>h (aak _ z)
theorem zZ {l:List Int} (h:l.Nodup):(l.map (Sum.inl:Int->Key)).Nodup:=by
 unfold List.Nodup at *
 rw[List.pairwise_map]
 exact h.imp λ{a b} UR z=>UR (by cases z;rfl)
theorem rn {l:List Int} {k:Int}:(Sum.inl k:Key)∈l.map Sum.inl↔k∈l:=by
 rw[List.mem_map]
 constructor
 ·rintro⟨x,hx,e⟩;cases e;exact hx
 ·intro h;exact⟨k,h,rfl⟩
theorem fx.get {H:Hp} {d:Addr} {es:List Bf.En} (h:fx H d es) (nd:(Bf.keys es).Nodup) {i:Nat} {e:Bf.En} (he:es[i]?=some e):∃v,jU H d (.int e.1) (some v)/\pd H e.2.1 v:=by
 obtain⟨kvs,hd,hk,hv⟩:=h
 obtain⟨v,e1,e2⟩:=hv i e he
 exact⟨v,.inl ⟨kvs,Sum.inl e.1,.inl hd,rfl,(vC (by rw[hk];exact zZ nd) e1).symm⟩,e2⟩
theorem fx.out {H:Hp} {d:Addr} {es:List Bf.En} (h:fx H d es) {k:Int} (hk:k∉Bf.keys es):jU H d (.int k) none:=by
 obtain⟨kvs,hd,Iz,_⟩:=h
 exact .inl ⟨kvs,Sum.inl k,.inl hd,rfl,(mC (by rw[Iz];exact λz=>hk (rn.mp z))).symm⟩
theorem fx.has {H:Hp} {d:Addr} {es:List Bf.En} (h:fx H d es) (nd:(Bf.keys es).Nodup) (k:Int):∃o,jU H d (.int k) o/\o.isSome=decide (k∈Bf.keys es):=by
 by_cases c:k∈Bf.keys es
 ·obtain⟨e,he,rfl⟩:=List.mem_map.mp c
  obtain⟨i,hi⟩:=aaD he
  obtain⟨v,g,_⟩:=h.get nd hi
  exact⟨_,g,by simp [c]⟩
 ·exact⟨_,h.out c,by simp [c]⟩
theorem fx.put {H:Hp} {d:Addr} {es:List Bf.En} (h:fx H d es) {k:Int} {par:Option (Int×Nat)} {path:List Nat} {v:V} (hk:k∉Bf.keys es) (pv:pd H par v) (hl:es.length<sizeLine):
  ∃o,u6 H d (.int k) v (upd H d o)/\fx (upd H d o) d (es++ [(k,par,path)]):=by
 obtain⟨kvs,hd,Iz,hv⟩:=h
 have len:kvs.length=es.length:=by
  have:=congrArg List.length Iz
  unfold Bf.keys at this
  simpa using this
 have vn:gN kvs (Sum.inl k)=none:=mC (by rw[Iz];exact λz=>hk (rn.mp z))
 have nt:∀xs,H d≠some (.tup xs):=λxs z=>by rw[hd] at z;cases z
 refine⟨.dK (kvs++ [(Sum.inl k,v)]),?_,⟨kvs++ [(Sum.inl k,v)],ar,?_,λi e he=>?_⟩⟩
 ·have:=u6.k (k:=Sum.inl k) (v:=v) hd (by omega)
  rw[sS v vn] at this
  exact this
 ·unfold Bf.keys at *
  rw[aaw,aaw,aaw,Iz]
  rfl
 ·rcases Bf.eD he with he | ⟨rfl,rfl⟩
  ·obtain⟨v',e1,e2⟩:=hv i e he
   exact⟨v',Bf.up e1,e2.upd nt⟩
  ·refine⟨v,?_,pv.upd nt⟩
   rw[aa4 (by omega),len,Nat.sub_self]
   rfl
theorem qd {here:Int} {path:List Nat}:∀(gs:List Int) (w:Nat) (es:List Bf.En) (g:Int),Bf.fV here path w (gs++ [g]) es=(if g∈Bf.keys (Bf.fV here path w gs es) then Bf.fV here path w gs es else Bf.fV here path w gs es++ [(g,some (here,w+gs.length),path++ [w+gs.length])])
 | [],w,es,g=>rfl
 | x::gs,w,es,g=>by
  show Bf.fV here path (w+1) (gs++ [g]) _=_
  rw[qd gs (w+1)]
  show(if g∈Bf.keys (Bf.fV here path (w+1) gs _) then Bf.fV here path (w+1) gs _ else Bf.fV here path (w+1) gs _++ [(g,some (here,w+1+gs.length),path++ [w+1+gs.length])])=_
  rw[aaq,show w+1+gs.length=w+ (gs.length+1) by omega]
  rfl
structure XN (H:Hp) (b:List Pl) (a d f:Addr) (st:Int) (m:Nat) (σ:L2.St) (H':Hp):Prop where
 ex:∃(t:Nat) (es:List Bf.En),∃z5 z6 z7,σ=[some (V.ref a),some (V.int st),some (V.ref d),some (V.ref f),some (V.int (t:Int)),z5,z6,z7]/\fx H' d es/\H' f=some (.lst (List.map V.int (Bf.keys es)))/\az H H'/\Bf.Inv b st t es/\Bf.BD b m t es=Bf.steps b st/\b.length<m+t
noncomputable def wN:Sp:=λvs H Q _=>∃a b st,vs=[.ref a,.int st]/\Rep H (qN b) (.ref a)/\b.length<=1000/\(∀q∈b,(Lv.fU q).length<=100)/\Lv.Good b/\0<=st/\st<b.length/\∀d H',az H H'->H d=none->fx H' d (Bf.steps b st)->Q (.ref d) H'
structure BkW (H:Hp) (es:List Bf.En) (a d bk:Addr) (st g:Int) (path:List Nat) (m:Nat) (σ:L2.St) (H':Hp):Prop where
 ex:∃(e:Bf.En) (bs:List Nat) (v:V),es[m]?=some e/\pd H' e.2.1 v/\H' bk=some (.lst (List.map eK bs))/\path=e.2.2++bs.reverse/\fx H' d es/\az H H'/\σ=[some (V.ref a),some (V.int st),some (V.int g),some (V.ref d),some (V.ref bk),some v]
structure XO (H:Hp) (a d f l:Addr) (st:Int) (t:Nat) (e:Bf.En) (gs:List Int) (es:List Bf.En) (k:Nat) (σ:L2.St) (H':Hp):Prop where
 ex:∃z6 z7,σ=[some (V.ref a),some (V.int st),some (V.ref d),some (V.ref f),some (V.int (t:Int)),some (V.int e.1),z6,z7]
 dr:fx H' d (Bf.fV e.1 e.2.2 0 (gs.take k) es)
 hf:H' f=some (.lst (List.map V.int (Bf.keys (Bf.fV e.1 e.2.2 0 (gs.take k) es))))
 hl:H' l=some (.lst (List.map V.int gs))
 sm:az H H'
noncomputable def Al {α:Type} (R:α->V->Prop):List α->List V->Prop
 | [],[]=>True
 | a::as,v::vs=>R a v/\Al R as vs
 | _,_=>False
theorem Al.length {α:Type} {R:α->V->Prop}:∀{as:List α} {vs:List V},Al R as vs->vs.length=as.length
 | [],[],_=>rfl
 | a::as,v::vs,h=>by simp [Al.length h.2]
theorem Al.imp {α:Type} {R S:α->V->Prop} (f:∀a v,R a v->S a v):∀{as:List α} {vs:List V},Al R as vs->Al S as vs
 | [],[],_=>trivial
 | a::as,v::vs,h=>⟨f _ _ h.1,Al.imp f h.2⟩
theorem Al.append {α:Type} {R:α->V->Prop}:∀{as bs:List α} {us vs:List V},Al R as us->Al R bs vs->Al R (as++bs) (us++vs)
 | [],_,[],_,_,k=>k
 | a::as,_,v::vs,_,h,k=>⟨h.1,Al.append h.2 k⟩
theorem Al.one {α:Type} {R:α->V->Prop} {a:α} {v:V} (h:R a v):Al R [a] [v]:=⟨h,trivial⟩
theorem Aa {α:Type} {H:Hp} {f:α->Dat} {as:List α} {vs:List V} {i:Nat} {v:V} (h:bf H (as.map f) vs) (e:vs[i]?=some v):∃a,as[i]?=some a/\Rep H (f a) v:=by
 obtain⟨d,ed,rd⟩:=h.get e
 rw[aaf] at ed
 obtain⟨a,ea,rfl⟩:=Option.map_eq_some_iff.mp ed
 exact⟨a,ea,rd⟩
theorem Al.get {α:Type} {R:α->V->Prop}:∀{as:List α} {vs:List V} {i:Nat} {v:V},Al R as vs->vs[i]?=some v->∃a,as[i]?=some a/\R a v:=by
 intro as
 induction as with
 | nil=>
  intro vs i v h e
  cases vs with
  | nil=>simp at e
  | cons u vs=>exact h.elim
 | cons a as ih=>
  intro vs i v h e
  cases vs with
  | nil=>exact h.elim
  | cons u vs=>
   cases i with
   | zero=>cases e;exact⟨a,rfl,h.1⟩
   | succ i=>exact ih (vs:=vs) (i:=i) h.2 e
theorem Al.at {α:Type} {R:α->V->Prop}:∀{as:List α} {vs:List V} {i:Nat} {a:α},Al R as vs->as[i]?=some a->∃v,vs[i]?=some v/\R a v:=by
 intro as
 induction as with
 | nil=>
  intro vs i v h e
  simp at e
 | cons a as ih=>
  intro vs i v h e
  cases vs with
  | nil=>exact h.elim
  | cons u vs=>
   cases i with
   | zero=>cases e;exact⟨u,rfl,h.1⟩
   | succ i=>exact ih (vs:=vs) (i:=i) h.2 e
theorem Al.of {α:Type} {R:α->V->Prop}:∀{as:List α} {vs:List V},vs.length=as.length->(∀(i:Nat) v a,vs[i]?=some v->as[i]?=some a->R a v)->Al R as vs
 | [],[],_,_=>trivial
 | [],_::_,l,_=>by simp at l
 | _::_,[],l,_=>by simp at l
 | a::as,u::vs,l,h=>⟨h 0 u a rfl rfl,Al.of (by simpa using l) λi v b e1 e2=>h (i+1) v b (by simpa using e1) (by simpa using e2)⟩
namespace Pr
open Bf Lv
noncomputable def kb (b:List Pl) (p:Int):List Int:=keys (steps b p)
noncomputable def In (b:List Pl) (p:Int):Prop:=0<=p/\p<b.length
section Q1
variable {b : List Pl} (gb : Good b)
include gb
theorem oa {p:Int} (h:In b p):(kb b p).Nodup:=(fv gb h.1 h.2).1.nd
theorem og {p q:Int} (h:In b p) (hq:q∈kb b p):In b q:=by
 obtain⟨e,he,rfl⟩:=List.mem_map.mp hq
 exact(fv gb h.1 h.2).1.oV e he
theorem ie {p:Int} (h:In b p):p∈kb b p:=List.mem_map.mpr ⟨_,aag (fv gb h.1 h.2).1.hd,rfl⟩
theorem rA {p q g:Int} (h:In b p) (hq:q∈kb b p) (hg:g∈fg b q):g∈kb b p:=by
 obtain⟨e,he,rfl⟩:=List.mem_map.mp hq
 obtain⟨j,hj⟩:=aaD he
 obtain⟨i,ei,h1,h2,_⟩:=(fv gb h.1 h.2).2 j e hj g hg
 exact List.mem_map.mpr ⟨ei,aag h1,h2⟩
theorem Ab {p:Int} (h:In b p):∀(ws:List Nat) (q r:Int),q∈kb b p->go b q ws=some r->r∈kb b p
 | [],q,r,hq,e=>by cases e;exact hq
 | w::ws,q,r,hq,e=>by
  have e:(match (fg b q)[w]? with | some g=>go b g ws | none=>none)=some r:=e
  cases c:(fg b q)[w]? with
  | none=>rw[c] at e;cases e
  | some g=>rw[c] at e;exact Ab h ws g r (rA gb h hq (aag c)) e
theorem vD {p q:Int} (h:In b p):q∈kb b p↔∃ws,go b p ws=some q:=by
 constructor
 ·intro hq
  obtain⟨e,he,rfl⟩:=List.mem_map.mp hq
  obtain⟨j,hj⟩:=aaD he
  exact⟨_,Cr (fv gb h.1 h.2).1 j e hj⟩
 ·rintro⟨ws,e⟩
  exact Ab gb h ws p q (ie gb h) e
theorem fy {p q r:Int} (h:In b p) (hq:q∈kb b p) (hr:r∈kb b q):r∈kb b p:=by
 obtain⟨ws,e⟩:=(vD gb (og gb h hq)).mp hr
 exact Ab gb h ws q r hq e
theorem Ac {p:Int} (h:In b p):(kb b p).length<=b.length:=by
 have:=(fv gb h.1 h.2).1.sY
 unfold kb keys
 rw[aac]
 exact this
end Q1
theorem oh:∀{l m:List Int},l.Nodup->(∀x∈l,x∈m)->∃r,m.Perm (l++r)
 | [],m,_,_=>⟨m,.refl _⟩
 | x::l,m,nd,h=>by
  obtain⟨n1,n2⟩:=List.nodup_cons.mp nd
  obtain⟨r,p⟩:=oh (m:=m.erase x) n2 λy hy=>(List.mem_erase_of_ne (a:=y) (b:=x) λz=>n1 (by rw[<-z];exact hy)).mpr (h y (aak _ hy))
  exact⟨r,(List.perm_cons_erase (h x aaj)).trans (p.cons x)⟩
theorem sub_len {l m:List Int} (hl:l.Nodup) (h:∀x∈l,x∈m):l.length<=m.length:=by
 obtain⟨r,p⟩:=oh hl h
 rw[p.length_eq,aaF]
 omega
theorem sub_eq {l m:List Int} (hl:l.Nodup) (hm:m.Nodup) (h:∀x∈l,x∈m) (e:m.length<=l.length):∀x∈m,x∈l:=λx hx=>by
 obtain⟨r,p⟩:=oh hl h
 have:=p.length_eq
 rw[aaF] at this
 have:r=[]:=List.length_eq_zero_iff.mp (by omega)
 subst this
 rw[aa2] at p
 exact p.mem_iff.mp hx
noncomputable def cZ (b:List Pl) (p:Int):List Int:=(Nm.ml (kb b p)).filter λo=>decide (p∈kb b o)
noncomputable def rep (b:List Pl) (p:Int):Int:=(cZ b p).headD (-1)
noncomputable def lh (b:List Pl) (n:Nat):List Int:=((List.range n).map fun(i:Nat)=>(i:Int)).filter λp=>decide (rep b p=p)
section Q2
variable {b : List Pl} (gb : Good b)
include gb
omit gb in
theorem c7 {p o:Int}:o∈cZ b p↔o∈kb b p/\p∈kb b o:=by
 unfold cZ
 rw[List.mem_filter,Nm.wA,decide_eq_true_eq]
theorem j6 {p:Int} (h:In b p):(cZ b p).Pairwise (·<·):=List.Pairwise.filter _ (Nm.E7 (oa gb h))
theorem oi {p:Int} (h:In b p):p∈cZ b p:=c7.mpr ⟨ie gb h,ie gb h⟩
theorem eF {p o:Int} (h:In b p) (ho:o∈cZ b p):In b o:=og gb h (c7.mp ho).1
theorem iY {p:Int} (h:In b p):cZ b p≠[]:=List.ne_nil_of_mem (oi gb h)
theorem CH {p o:Int} (ho:o∈cZ b p):p∈cZ b o:=c7.mpr (c7.mp ho).symm
theorem wO {p o:Int} (h:In b p) (ho:o∈cZ b p):∀x,x∈kb b p↔x∈kb b o:=λx=>by
 obtain⟨h1,h2⟩:=c7.mp ho
 exact⟨λhx=>fy gb (og gb h h1) h2 hx,λhx=>fy gb h h1 hx⟩
theorem wQ {p o:Int} (h:In b p) (ho:o∈cZ b p):(kb b p).length=(kb b o).length:=by
 have hi:=eF gb h ho
 exact Nat.le_antisymm (sub_len (oa gb h) λx hx=>(wO gb h ho x).mp hx) (sub_len (oa gb hi) λx hx=>(wO gb h ho x).mpr hx)
theorem qe {p o r:Int} (h:In b p) (ho:o∈cZ b p) (hr:r∈cZ b o):r∈cZ b p:=by
 have hi:=eF gb h ho
 have Ms:=eF gb hi hr
 obtain⟨h1,h2⟩:=c7.mp ho
 obtain⟨h3,h4⟩:=c7.mp hr
 exact c7.mpr ⟨fy gb h h1 h3,fy gb Ms h4 h2⟩
omit gb in
theorem Fp {l m:List Int} (hl:l.Pairwise (·<·)) (hm:m.Pairwise (·<·)) (h:∀x,x∈l↔x∈m):l=m:=by
 have p:l.Perm m:=(List.perm_ext_iff_of_nodup (hl.imp λh z=>by omega) (hm.imp λh z=>by omega)).mpr h
 have o1:l.Pairwise (·<=·):=hl.imp λh=>Int.le_of_lt h
 have o2:m.Pairwise (·<=·):=hm.imp λh=>Int.le_of_lt h
 rw[Nm.mr p o1,Nm.va o2]
theorem rB {p o:Int} (h:In b p) (ho:o∈cZ b p):cZ b o=cZ b p:=by
 have hi:=eF gb h ho
 refine Fp (j6 gb hi) (j6 gb h) λx=>⟨λhx=>qe gb h ho hx,λhx=>qe gb hi (CH gb ho) hx⟩
theorem mE {p:Int} (h:In b p):rep b p∈cZ b p:=by
 unfold rep
 cases e:cZ b p with
 | nil=>exact absurd e (iY gb h)
 | cons x r=>exact aaj
theorem Fq {p:Int} (h:In b p):In b (rep b p):=eF gb h (mE gb h)
theorem rC {p:Int} (h:In b p):cZ b (rep b p)=cZ b p:=rB gb h (mE gb h)
theorem CI {p:Int} (h:In b p):rep b (rep b p)=rep b p:=by
 show(cZ b (rep b p)).headD (-1)=_
 rw[rC gb h]
 rfl
theorem rE {p o:Int} (h:In b p) (ho:o∈cZ b p):rep b o=rep b p:=by
 show(cZ b o).headD (-1)=_
 rw[rB gb h ho]
 rfl
omit gb in
theorem ij {n:Nat} {p:Int}:p∈lh b n↔(0<=p/\p<n)/\rep b p=p:=by
 unfold lh
 rw[List.mem_filter,List.mem_map,decide_eq_true_eq]
 constructor
 ·rintro⟨⟨i,hi,rfl⟩,h⟩
  have:=List.mem_range.mp hi
  exact⟨⟨by omega,by omega⟩,h⟩
 ·rintro⟨⟨h1,h2⟩,h⟩
  exact⟨⟨p.toNat,List.mem_range.mpr (by omega),by omega⟩,h⟩
omit gb in
theorem Ft {n:Nat}:(lh b n).Nodup:=by
 refine List.Pairwise.filter _ ?_
 rw[List.pairwise_map]
 exact List.nodup_range.imp λh z=>h (by omega)
omit gb in
theorem wR {n:Nat}:(lh b n).length<=n:=by
 unfold lh
 refine aap (List.length_filter_le _ _) ?_
 rw[aac,aaz]
 exact aah _
omit gb in
theorem tX {n:Nat}:lh b (n+1)=if rep b (n:Int)=(n:Int) then lh b n++ [(n:Int)] else lh b n:=by
 unfold lh
 rw[List.range_succ,aaw,List.filter_append]
 by_cases c:rep b (n:Int)=(n:Int)
 ·rw[if_pos c]
  simp [c]
 ·rw[if_neg c]
  simp [c]
theorem CJ {p:Int} (h:In b p):rep b p∈lh b b.length:=ij.mpr ⟨Fq gb h,CI gb h⟩
end Q2
structure Told (b:List Pl) (ps:List Int):Prop where
 pm:ps.Perm (lh b b.length)
 od:ps.Pairwise λp q=>(kb b p).length<=(kb b q).length
section Q3
variable {b : List Pl} (gb : Good b) {ps : List Int} (T : Told b ps)
include gb T
omit gb in
theorem Told.nd:ps.Nodup:=T.pm.nodup_iff.mpr Ft
omit gb in
theorem Told.IA {p:Int} (h:p∈ps):In b p:=(ij.mp (T.pm.mem_iff.mp h)).1
omit gb in
theorem Told.rp {p:Int} (h:p∈ps):rep b p=p:=(ij.mp (T.pm.mem_iff.mp h)).2
theorem Told.has {p:Int} (h:In b p):rep b p∈ps:=T.pm.mem_iff.mpr (CJ gb h)
theorem Told.Fu {p q:Int} (h:In b p) (hq:q∈kb b p):ps.idxOf (rep b q)<=ps.idxOf (rep b p):=by
 have hi:=og gb h hq
 have sub:∀x∈kb b q,x∈kb b p:=λx hx=>fy gb h hq hx
 have le:=sub_len (oa gb hi) sub
 by_cases c:(kb b p).length<=(kb b q).length
 ·have:p∈kb b q:=sub_eq (oa gb hi) (oa gb h) sub c p (ie gb h)
  rw[rE gb h (c7.mpr ⟨hq,this⟩)]
  exact aah _
 ·have l1:=aaR (T.has gb hi)
  have l2:=aaR (T.has gb h)
  rcases Nat.lt_or_ge (ps.idxOf (rep b p)) (ps.idxOf (rep b q)) with g | g
  ·have od:=List.pairwise_iff_getElem.mp T.od _ _ l2 l1 g
   rw[aaX l2,aaX l1,<-wQ gb h (mE gb h),<-wQ gb hi (mE gb hi)] at od
   omega
  ·exact g
end Q3
noncomputable def gF (b:List Pl):List Int->Nat->List (Int×Int)
 | [],_=>[]
 | p::ps,i=>(cZ b p).map (λx=>(x,(i:Int)))++gF b ps (i+1)
theorem kH (b:List Pl):∀(l m:List Int) (i:Nat),gF b (l++m) i=gF b l i++gF b m (i+l.length)
 | [],m,i=>rfl
 | p::l,m,i=>by
  rw[abn,gF,gF,kH b l m (i+1),List.append_assoc,aaq,show i+1+l.length=i+ (l.length+1) by omega]
theorem jA {b:List Pl} {x j:Int}:∀{ps:List Int} {i:Nat},(x,j)∈gF b ps i↔∃t p,ps[t]?=some p/\x∈cZ b p/\j=((i+t:Nat):Int)
 | [],i=>by
  constructor
  ·intro h;cases h
  ·rintro⟨t,p,h,_⟩;simp at h
 | q::ps,i=>by
  rw[gF,List.mem_append,List.mem_map,jA (ps:=ps)]
  constructor
  ·rintro(⟨y,hy,e⟩ | ⟨t,p,h1,h2,h3⟩)
   ·injection e with e1 e2
    subst e1 e2
    exact⟨0,q,rfl,hy,rfl⟩
   ·exact⟨t+1,p,by simpa using h1,h2,by rw[h3];congr 1;omega⟩
  ·rintro⟨t,p,h1,h2,h3⟩
   cases t with
   | zero=>simp at h1;subst h1;exact .inl ⟨x,h2,by rw[h3];rfl⟩
   | succ t=>exact .inr ⟨t,p,by simpa using h1,h2,by rw[h3];congr 1;omega⟩
theorem wU {b:List Pl} (gb:Good b):∀{ps:List Int} {i:Nat},ps.Nodup->(∀p∈ps,In b p/\rep b p=p)->((gF b ps i).map (·.1)).Nodup
 | [],i,_,_=>List.nodup_nil
 | p::ps,i,nd,h=>by
  obtain⟨n1,n2⟩:=List.nodup_cons.mp nd
  have hp:=h p aaj
  rw[gF,aaw,List.nodup_append]
  refine⟨?_,wU gb n2 λq hq=>h q (aak _ hq),λx hx y hy e=>?_⟩
  ·rw[aaS,show((λx:Int×Int=>x.1) ∘λx=>(x,(i:Int)))=id from rfl,List.map_id]
   exact(j6 gb hp.1).imp λh z=>by omega
  ·rw[aaS,show((λx:Int×Int=>x.1) ∘λx=>(x,(i:Int)))=id from rfl,List.map_id] at hx
   subst e
   obtain⟨⟨x',j⟩,hm,rfl⟩:=List.mem_map.mp hy
   obtain⟨t,q,h1,h2,_⟩:=jA.mp hm
   have hq:=h q (aak _ (aag h1))
   have e1:=rE gb hp.1 hx
   have e2:=rE gb hq.1 h2
   rw[hp.2] at e1
   rw[hq.2] at e2
   have:p=q:=e1.symm.trans e2
   exact n1 (this▸aag h1)
section Q9
variable {b : List Pl} (gb : Good b) {ps : List Int} (T : Told b ps)
include gb T
theorem Told.Fv:((gF b ps 0).map (·.1)).Nodup:=wU gb T.nd λp hp=>⟨T.IA hp,T.rp hp⟩
theorem Told.CK {x:Int} (h:In b x):(x,((ps.idxOf (rep b x):Nat):Int))∈gF b ps 0:=by
 have hm:=T.has gb h
 refine jA.mpr ⟨ps.idxOf (rep b x),rep b x,?_,?_,by rw[aaV]⟩
 ·have l:=aaR hm
  rw[aad l,aaX l]
 ·rw[rC gb h];exact oi gb h
theorem Told.Fw {x j:Int} (h:(x,j)∈gF b ps 0):In b x:=by
 obtain⟨t,p,h1,h2,_⟩:=jA.mp h
 exact eF gb (T.IA (aag h1)) h2
theorem Told.Ad:Nm.ml ((gF b ps 0).map (·.1))=(List.range b.length).map fun(i:Nat)=>(i:Int):=by
 refine(Nm.mr ((List.perm_ext_iff_of_nodup ?_ (T.Fv gb)).mpr λx=>?_) ?_).symm
 ·rw[List.nodup_iff_pairwise_ne,List.pairwise_map]
  exact List.nodup_range.imp λh z=>h (by omega)
 ·rw[List.mem_map,List.mem_map]
  constructor
  ·rintro⟨i,hi,rfl⟩
   have:=List.mem_range.mp hi
   exact⟨_,T.CK gb (x:=(i:Int)) ⟨by omega,by omega⟩,rfl⟩
  ·rintro⟨⟨y,j⟩,hy,rfl⟩
   obtain⟨h0,h1⟩:=T.Fw gb hy
   exact⟨y.toNat,List.mem_range.mpr (by omega),by show((y.toNat:Nat):Int)=y;omega⟩
 ·rw[List.pairwise_map]
  exact List.pairwise_lt_range.imp λh=>by omega
end Q9
noncomputable def off (b:List Pl) (ps:List Int) (i:Nat):Nat:=(gF b (ps.take i) 0).length
theorem oj {b:List Pl} {ps:List Int} {i:Nat} {p:Int} (e:ps[i]?=some p):off b ps (i+1)=off b ps i+ (cZ b p).length:=by
 unfold off
 rw[aaC,e,Option.toList_some,kH,aaF,gF,gF,aa2,aac]
theorem CL {b:List Pl} {ps:List Int}:off b ps ps.length=(gF b ps 0).length:=by unfold off;rw[aaE (aah _)]
end Pr
namespace Dg
open Lv Bf
structure Down (b:List Pl) (rk:Int->Nat):Prop where
 good:Good b
 dn:∀(i:Nat) q,b[i]?=some q->∀g∈fU q,rk g<rk (i:Int)
 dq:∀q∈b,∀g ws,q=.dq g ws->ws≠[]
section DA
variable {b : List Pl} {rk : Int -> Nat} (D : Down b rk)
include D
end DA
end Dg
namespace Dg
abbrev Sh:=Wq.Sh
abbrev Wy:=List (Int×Int)
noncomputable def vl (x:Sh):Rat:=(x.1:Rat) / (x.2:Rat)
theorem tY {a:Int} (h:0<a):(a:Rat)≠0:=λz=>by
 have:a=0:=Rat.intCast_inj.mp z
 omega
theorem tZ {x:Sh} {a b:Int} (hx:0<x.2) (hb:0<b) (h:x.1*b=a*x.2):vl x=(a:Rat) / (b:Rat):=by
 have h1:=tY hx
 have h2:=tY hb
 have h3:(x.1:Rat)* (b:Rat)=(a:Rat)* (x.2:Rat):=by rw[<-Rat.intCast_mul,<-Rat.intCast_mul,h]
 unfold vl
 generalize (x.1:Rat)=u at *
 generalize (x.2:Rat)=v at *
 generalize (a:Rat)=s at *
 generalize (b:Rat)=t at *
 grind
theorem rF {a b:Int} (h:0<b):vl (Wq.low a b)=(a:Rat) / (b:Rat):=tZ (Wq.iV h).1 h (Nm.tj a b)
theorem Ae {x y:Sh} (hx:0<x.2) (hy:0<y.2):vl (Wq.pl x y)=vl x+vl y:=by
 unfold Wq.pl
 rw[rF (aaG hx hy)]
 have h1:=tY hx
 have h2:=tY hy
 rw[Rat.intCast_add,Rat.intCast_mul,Rat.intCast_mul,Rat.intCast_mul]
 unfold vl
 generalize (x.1:Rat)=u at *
 generalize (x.2:Rat)=v at *
 generalize (y.1:Rat)=s at *
 generalize (y.2:Rat)=t at *
 grind
theorem Af {x y:Sh} (hx:0<x.2) (hy:0<y.2):vl (Wq.tm x y)=vl x*vl y:=by
 unfold Wq.tm
 rw[rF (aaG hx hy)]
 have h1:=tY hx
 have h2:=tY hy
 rw[Rat.intCast_mul,Rat.intCast_mul]
 unfold vl
 generalize (x.1:Rat)=u at *
 generalize (x.2:Rat)=v at *
 generalize (y.1:Rat)=s at *
 generalize (y.2:Rat)=t at *
 grind
theorem vE {x y:Sh} (hx:Wq.Lw x) (hy:Wq.Lw y) (h:vl x=vl y):x=y:=by
 have h1:=tY hx.1
 have h2:=tY hy.1
 have c:(x.1:Rat)* (y.2:Rat)=(y.1:Rat)* (x.2:Rat):=by
  unfold vl at h
  generalize (x.1:Rat)=u at *
  generalize (x.2:Rat)=v at *
  generalize (y.1:Rat)=s at *
  generalize (y.2:Rat)=t at *
  grind
 rw[<-Rat.intCast_mul,<-Rat.intCast_mul] at c
 obtain⟨a,b⟩:=Nm.Cg hx.1 hy.1 hx.2 hy.2 (Rat.intCast_inj.mp c)
 exact Prod.ext a b
noncomputable def tt (ws:Wy):Int:=if ws=[] then 1 else Wq.bS ws
theorem cX (x:Int×Int) (ws:Wy):Wq.bS (x::ws)=x.1+Wq.bS ws:=rfl
noncomputable def cI (d:Int) (v:Int->Rat):Wy->Rat
 | []=>0
 | x::ws=>(x.1:Rat) / (d:Rat)*v x.2+cI d v ws
theorem oq {d:Int} {v v':Int->Rat}:∀{ws:Wy},(∀x∈ws,v x.2=v' x.2)->cI d v ws=cI d v' ws
 | [],_=>rfl
 | x::ws,h=>by
  unfold cI
  rw[h x aaj,oq λy hy=>h y (aak _ hy)]
abbrev Bk:=List Int×Int
noncomputable def val (S:Bk) (q:Int):Rat:=(S.1.getD q.toNat 0:Rat) / (S.2:Rat)
noncomputable def gG (ts:List Int) (ws:Wy):Int:=(ws.map λx=>x.1*ts.getD x.2.toNat 0).sum
theorem rG (ts:List Int) (d:Int) (q:Nat):(ts.map (·*d)).getD q 0=ts.getD q 0*d:=by
 rw[aae,aae,aaf]
 cases ts[q]? with
 | none=>show(0:Int)=0*d;omega
 | some x=>rfl
theorem eO {ts:List Int} {p q:Nat} {x:Int} (h:p≠q):(ts.set p x).getD q 0=ts.getD q 0:=by
 rw[aae,aae,aaO h]
theorem gW {ts:List Int} {p:Nat} {x:Int} (h:p<ts.length):(ts.set p x).getD p 0=x:=by
 rw[aae,aa1 h]
 rfl
theorem t6 {S:Bk} (B0:0<S.2) {d:Int} (d0:0<d):∀ws:Wy,(gG S.1 ws:Rat) / ((S.2*d:Int):Rat)=cI d (val S) ws
 | []=>by show((0:Int):Rat) / _=0;grind
 | x::ws=>by
  have ih:=t6 B0 d0 ws
  have h1:=tY B0
  have h2:=tY d0
  show(((x.1*S.1.getD x.2.toNat 0+gG S.1 ws:Int)):Rat) / ((S.2*d:Int):Rat)=(x.1:Rat) / (d:Rat)* ((S.1.getD x.2.toNat 0:Rat) / (S.2:Rat))+cI d (val S) ws
  rw[<-ih,Rat.intCast_add,Rat.intCast_mul,Rat.intCast_mul]
  generalize (x.1:Rat)=u at *
  generalize (S.2:Rat)=v at *
  generalize (d:Rat)=t at *
  generalize ((S.1.getD x.2.toNat 0:Int):Rat)=s at *
  generalize ((gG S.1 ws:Int):Rat)=r at *
  grind
end Dg
namespace Dg
theorem IB:((1:Int):Rat) / ((1:Int):Rat)=1:=by
 have:((1:Int):Rat)=1:=rfl
 grind
theorem IC:((0:Int):Rat) / ((1:Int):Rat)=0:=by
 have:((0:Int):Rat)=0:=rfl
 grind
noncomputable def pr (d:Int) (q:Int):Wy->Rat
 | []=>0
 | x::ws=>(if x.2=q then (x.1:Rat) / (d:Rat) else 0)+pr d q ws
noncomputable def Runs (W:Int->Wy):List Int->(Int->Rat)->(Int->Rat)->Prop
 | [],f,g=>∀q,0<=q->g q=f q
 | p::os,f,g=>∃f1,(∀q,0<=q->f1 q=f q+f p*pr (tt (W p)) q (W p))/\Runs W os f1 g
noncomputable def iZ (q:Int) (ws:Wy):Int:=(ws.map λx=>if x.2=q then x.1 else 0).sum
end Dg
namespace Dg
structure Wst (n:Nat) (G:Int) (i:Nat) (S:Bk):Prop where
 len:S.1.length=n
 pos:0<S.2
 dv:G∣S.2
 bb:Bt (4*i+4) S.2
 bt:∀q,(S.1.getD q 0).natAbs<=S.2.toNat * (6*i)
structure Vst (n:Nat) (i:Nat) (S:Bk):Prop where
 len:S.1.length=n
 pos:0<S.2
 bb:Bt (4*i+1) S.2
 bt:∀q,(S.1.getD q 0).natAbs<=32^i
end Dg
namespace Dg
noncomputable def dS (v:Int->Int):Wy->Int
 | []=>0
 | x::ws=>x.1*v x.2+dS v ws
theorem rH {v:Int->Int} {M:Nat}:∀{ws:Wy},(∀x∈ws,1<=x.1/\(v x.2).natAbs<=M)->(dS v ws).natAbs<=(Wq.bS ws).toNat *M/\0<=Wq.bS ws
 | [],_=>⟨aar _,aaH _⟩
 | x::ws,h=>by
  obtain⟨h1,h2⟩:=h x aaj
  obtain⟨i1,i2⟩:=rH (ws:=ws) λy hy=>h y (aak _ hy)
  have m1:(x.1*v x.2).natAbs<=x.1.toNat *M:=by
   rw[aaQ,show x.1.natAbs=x.1.toNat by omega]
   exact abv _ h2
  have e:(Wq.bS (x::ws)).toNat=x.1.toNat+ (Wq.bS ws).toNat:=by rw[cX];omega
  refine⟨?_,by rw[cX];omega⟩
  rw[e,Nat.add_mul]
  show(x.1*v x.2+dS v ws).natAbs<=_
  omega
theorem wV {v:Int->Int} {M:Nat}:∀{ws:Wy},(∀x∈ws,1<=x.1/\(v x.2).natAbs<=M)->(∃x∈ws,(v x.2).natAbs<M)->(dS v ws).natAbs< (Wq.bS ws).toNat *M
 | [],_,h=>by obtain⟨x,hx,_⟩:=h;simp at hx
 | x::ws,h,k=>by
  obtain⟨h1,h2⟩:=h x aaj
  have hw:∀y∈ws,1<=y.1/\(v y.2).natAbs<=M:=λy hy=>h y (aak _ hy)
  obtain⟨i1,i2⟩:=rH hw
  have e:(Wq.bS (x::ws)).toNat=x.1.toNat+ (Wq.bS ws).toNat:=by rw[cX];omega
  have ab:(x.1*v x.2).natAbs=x.1.toNat * (v x.2).natAbs:=by rw[aaQ,show x.1.natAbs=x.1.toNat by omega]
  have m1:x.1.toNat * (v x.2).natAbs<=x.1.toNat *M:=abv _ h2
  rw[e,Nat.add_mul]
  show(x.1*v x.2+dS v ws).natAbs<_
  obtain⟨y,hy,ly⟩:=k
  rcases List.mem_cons.mp hy with rfl | hy
  ·have:y.1.toNat * (v y.2).natAbs<y.1.toNat *M:=Nat.mul_lt_mul_of_pos_left ly (by omega)
   omega
  ·have:=wV hw ⟨y,hy,ly⟩
   omega
theorem wW (v:Int->Int):∀(ps:List Int),ps≠[]->∃q∈ps,∀p∈ps,(v p).natAbs<=(v q).natAbs
 | [],h=>absurd rfl h
 | [a],_=>⟨a,List.mem_singleton.mpr rfl,λp hp=>by rw[List.mem_singleton.mp hp];exact aah _⟩
 | a::b::l,_=>by
  obtain⟨q,hq,h⟩:=wW v (b::l) (by simp)
  by_cases c:(v q).natAbs<=(v a).natAbs
  ·refine⟨a,aaj,λp hp=>?_⟩
   rcases List.mem_cons.mp hp with rfl | hp
   ·exact aah _
   ·exact aap (h p hp) c
  ·refine⟨q,aak _ hq,λp hp=>?_⟩
   rcases List.mem_cons.mp hp with rfl | hp
   ·omega
   ·exact h p hp
theorem yp {ps:List Int} {W:Int->Wy} {lv:Int->Nat} {v:Int->Int} (h:∀p∈ps,tt (W p)*v p=dS v (W p)) (pos:∀p∈ps,∀x∈W p,1<=x.1) (out:∀q,q∉ps->v q=0) (dn:∀p∈ps,W p=[]\/∃x∈W p,lv x.2<lv p):∀p∈ps,v p=0:=by
 intro p0 G3
 obtain⟨q,hq,mx⟩:=wW v ps (List.ne_nil_of_mem G3)
 have all:∀r,(v r).natAbs<=(v q).natAbs:=λr=>by
  by_cases c:r∈ps
  ·exact mx r c
  ·rw[out r c];exact aar _
 by_cases M0:(v q).natAbs=0
 ·have:=mx p0 G3
  omega
 ·exfalso
  have low:∀n,∀p∈ps,lv p<n->(v p).natAbs< (v q).natAbs:=by
   intro n
   induction n with
   | zero=>exact λp _ hl=>absurd hl (abg _)
   | succ n ih=>
    intro p hp hl
    have e:=h p hp
    rcases dn p hp with z | ⟨x,hx,lx⟩
    ·rw[z] at e
     have e:1*v p=0:=e
     omega
    ·have k:=wV (v:=v) (M:=(v q).natAbs) (ws:=W p) (λy hy=>⟨pos p hp y hy,all _⟩) ⟨x,hx,by
      by_cases c:x.2∈ps
      ·exact ih _ c (by omega)
      ·rw[out _ c];show 0<_;omega⟩
     have et:tt (W p)=Wq.bS (W p):=by unfold tt;rw[if_neg (List.ne_nil_of_mem hx)]
     have tp:=(rH (v:=v) (M:=(v q).natAbs) (ws:=W p) λy hy=>⟨pos p hp y hy,all _⟩).2
     rw[<-e,aaQ,et,show(Wq.bS (W p)).natAbs=(Wq.bS (W p)).toNat by omega] at k
     exact Nat.lt_of_mul_lt_mul_left k
  exact aaI _ (low _ q hq (aaM _))
end Dg
namespace aS
abbrev Fm:=Nat->Int
noncomputable def X (w:Fm) (F:List Nat->Int):List Nat->Int
 | []=>0
 | c::cs=>w c*F cs - X w (λl=>F (c::l)) cs
noncomputable def D:List Fm->List Nat->Int
 | [],[]=>1
 | [],_::_=>0
 | w::rs,cs=>X w (D rs) cs
theorem mF (w:Fm):∀(cs:List Nat) (F G:List Nat->Int),X w (λl=>F l+G l) cs=X w F cs+X w G cs
 | [],_,_=>rfl
 | c::cs,F,G=>by
  simp only[X]
  rw[mF w cs (λl=>F (c::l)) (λl=>G (c::l)),Int.mul_add]
  omega
theorem mG (w:Fm) (k:Int):∀(cs:List Nat) (F:List Nat->Int),X w (λl=>k*F l) cs=k*X w F cs
 | [],_=>(Int.mul_zero k).symm
 | c::cs,F=>by
  simp only[X]
  rw[mG w k cs (λl=>F (c::l)),Int.mul_sub,<-aaK,<-aaK,aaB k (w c)]
theorem t7 (w:Fm):∀(cs:List Nat),X w (λ_=>0) cs=0
 | []=>rfl
 | c::cs=>by simp only[X];rw[t7 w cs];simp
theorem CM (w:Fm) (cs:List Nat) (F:List Nat->Int):X w (λl=> - F l) cs= - X w F cs:=by
 have:=mG w (-1) cs F
 rw[Int.neg_one_mul] at this
 rw[<-this]
 congr 1;funext l;rw[Int.neg_one_mul]
theorem fY (v w:Fm):∀(cs:List Nat) (F:List Nat->Int),X (λc=>v c+w c) F cs=X v F cs+X w F cs
 | [],_=>rfl
 | c::cs,F=>by
  simp only[X]
  rw[fY v w cs (λl=>F (c::l)),Int.add_mul]
  omega
theorem ik (k:Int) (w:Fm):∀(cs:List Nat) (F:List Nat->Int),X (λc=>k*w c) F cs=k*X w F cs
 | [],_=>(Int.mul_zero k).symm
 | c::cs,F=>by
  simp only[X]
  rw[ik k w cs (λl=>F (c::l)),Int.mul_sub,aaK]
theorem rJ {v w:Fm}:∀{cs:List Nat} {F:List Nat->Int},(∀c∈cs,v c=w c)->X v F cs=X w F cs
 | [],_,_=>rfl
 | c::cs,F,h=>by
  simp only[X]
  rw[h c (aaj ..),rJ (cs:=cs) λc' hc=>h c' (aak _ hc)]
theorem qg {w:Fm}:∀{cs:List Nat} {F:List Nat->Int},(∀c∈cs,w c=0)->X w F cs=0
 | [],_,_=>rfl
 | c::cs,F,h=>by
  simp only[X]
  rw[h c (aaj ..),qg (cs:=cs) λc' hc=>h c' (aak _ hc)]
  simp
theorem Ag (w:Fm):∀(cs:List Nat) (F:List Nat->Int),X w (X w F) cs=0
 | [],_=>rfl
 | c::cs,F=>by
  simp only[X]
  have e:=mF w cs (λl=>w c*F l) (λl=> - X w (λm=>F (c::m)) l)
  have e2:X w (λl=>w c*F l - X w (λm=>F (c::m)) l) cs=X w (λl=>w c*F l+- X w (λm=>F (c::m)) l) cs:=by
   congr 1
  rw[e2,e,mG,CM,Ag w cs λm=>F (c::m)]
  omega
theorem Ah (v w:Fm) (cs:List Nat) (F:List Nat->Int):X v (X w F) cs= - X w (X v F) cs:=by
 have e:=Ag (λc=>v c+w c) cs F
 have e1:X (λc=>v c+w c) F=λl=>X v F l+X w F l:=by funext l;exact fY v w l F
 rw[e1,fY,mF,mF,Ag,Ag] at e
 omega
theorem wX {w:Fm}:∀{rs:List Fm} (_:w∈rs) (cs:List Nat),D (w::rs) cs=0
 | u::rs,h,cs=>by
  rcases List.mem_cons.mp h with rfl | h
  ·exact Ag _ _ _
  ·show X w (X u (D rs)) cs=0
   rw[Ah]
   have e:X w (D rs)=λ_=>0:=by funext l;exact wX h l
   rw[e,t7]
   rfl
noncomputable def Sp:List Fm->Fm->Prop
 | [],f=>∀j,f j=0
 | w::rs,f=>∃(c:Int) (g:Fm),Sp rs g/\∀j,f j=c*w j+g j
theorem Sp.congr {f g:Fm}:∀{rs:List Fm},Sp rs f->(∀j,f j=g j)->Sp rs g
 | [],h,e=>λj=>by rw[<-e];exact h j
 | w::rs,⟨c,k,hk,e1⟩,e=>⟨c,k,hk,λj=>by rw[<-e];exact e1 j⟩
theorem Sp.zero:∀{rs:List Fm},Sp rs (λ_=>0)
 | []=>λ_=>rfl
 | _::_=>⟨0,_,Sp.zero,λj=>by simp⟩
theorem Sp.add {f g:Fm}:∀{rs:List Fm},Sp rs f->Sp rs g->Sp rs (λj=>f j+g j)
 | [],h,k=>λj=>by show f j+g j=0;rw[h j,k j];rfl
 | w::rs,⟨c,f',hf,e1⟩,⟨d,g',hg,e2⟩=>⟨c+d,_,hf.add hg,λj=>by show f j+g j=_;rw[e1,e2,Int.add_mul];omega⟩
theorem Sp.mul {f:Fm} (k:Int):∀{rs:List Fm},Sp rs f->Sp rs (λj=>k*f j)
 | [],h=>λj=>by show k*f j=0;rw[h j,Int.mul_zero]
 | w::rs,⟨c,f',hf,e1⟩=>⟨k*c,_,hf.mul k,λj=>by show k*f j=_;rw[e1,Int.mul_add,aaK]⟩
theorem Sp.X {rs:List Fm} (w:Fm):∀(cs:List Nat) (F:Nat->List Nat->Int),(∀l,Sp rs (λj=>F j l))->Sp rs (λj=>aS.X w (F j) cs)
 | [],_,_=>Sp.zero
 | c::cs,F,h=>by
  have h1:=(h cs).mul (w c)
  have h2:=(Sp.X w cs (λj l=>F j (c::l)) (λl=>h (c::l))).mul (-1)
  exact(h1.add h2).congr λj=>by simp only[aS.X];rw[Int.neg_one_mul];omega
theorem ID:∀(rs:List Fm) (l:List Nat),Sp rs (λj=>D rs (j::l))
 | [],l=>λj=>rfl
 | w::rs,l=>by
  refine⟨D rs l,_,(Sp.X w l (λj m=>D rs (j::m)) λm=>ID rs m).mul (-1),λj=>?_⟩
  show w j*D rs l - X w (λm=>D rs (j::m)) l=_
  rw[Int.neg_one_mul,aaB]
  omega
theorem Ai {us:List Fm}:∀{rs:List Fm} {g:Fm},Sp rs g->(∀r∈rs,r∈us)->∀cs,D (g::us) cs=0
 | [],g,h,_,cs=>qg λc _=>h c
 | w::rs,g,⟨c,g',h,e⟩,hs,cs=>by
  have e':g=λj=>c*w j+g' j:=funext e
  show X g (D us) cs=0
  rw[e',fY,ik]
  have z1:X w (D us) cs=0:=wX (hs w (aaj ..)) cs
  have z2:X g' (D us) cs=0:=Ai h (λr hr=>hs r (aak _ hr)) cs
  rw[z1,z2];simp
theorem ME (rs:List Fm) (cs:List Nat) (v:Fm):Sp rs (λj=>D rs cs*v j+- D (v::rs) (j::cs)):=by
 refine(Sp.X v cs (λj m=>D rs (j::m)) λm=>ID rs m).congr λj=>?_
 show _=D rs cs*v j+- (v j*D rs cs - X v (λm=>D rs (j::m)) cs)
 rw[aaB]
 omega
theorem main (rs:List Fm) (cs:List Nat) (u v:Fm) (j k:Nat) (h:∀c∈cs,D (v::rs) (c::cs)=0):
  D rs cs*D (v::u::rs) (j::k::cs)=D (u::rs) (k::cs)*D (v::rs) (j::cs) - D (v::rs) (k::cs)*D (u::rs) (j::cs):=by
 have s:=ME rs cs v
 have z:=Ai (us:=u::rs) s (λr hr=>aak _ hr) (j::k::cs)
 have z':X (λj=>D rs cs*v j+- D (v::rs) (j::cs)) (D (u::rs)) (j::k::cs)=0:=z
 have e1:D rs cs*D (v::u::rs) (j::k::cs)=X (λj=>D rs cs*v j) (D (u::rs)) (j::k::cs):=(ik _ _ _ _).symm
 have e2:X (λj=>D rs cs*v j+- D (v::rs) (j::cs)) (D (u::rs)) (j::k::cs)=X (λj=>D rs cs*v j) (D (u::rs)) (j::k::cs)+X (λj=> - D (v::rs) (j::cs)) (D (u::rs)) (j::k::cs):=fY _ _ _ _
 have e3:X (λj=> - D (v::rs) (j::cs)) (D (u::rs)) (j::k::cs)= - D (v::rs) (j::cs)*D (u::rs) (k::cs) - (- D (v::rs) (k::cs)*D (u::rs) (j::cs) - X (λj=> - D (v::rs) (j::cs)) (λl=>D (u::rs) (j::k::l)) cs):=rfl
 have e4:X (λj=> - D (v::rs) (j::cs)) (λl=>D (u::rs) (j::k::l)) cs=0:=qg λc hc=>by rw[h c hc];rfl
 rw[e1]
 rw[e2,e3,e4] at z'
 rw[Int.neg_mul,Int.neg_mul] at z'
 rw[aaB (D (u::rs) (k::cs))]
 omega
noncomputable def Good:List Fm->List Nat->Prop
 | [],[]=>True
 | u::rs,k::cs=>Good rs cs/\D (u::rs) (k::cs)≠0
 | _,_=>False
theorem Good.ne:∀{rs:List Fm} {cs:List Nat},Good rs cs->D rs cs≠0
 | [],[],_=>by show(1:Int)≠0;decide
 | _::_,_::_,h=>h.2
 | [],_::_,h=>h.elim
 | _::_,[],h=>h.elim
theorem Good.K1:∀{rs:List Fm} {cs:List Nat},Good rs cs->∀(v:Fm) (c:Nat),c∈cs->D (v::rs) (c::cs)=0
 | [],[],_,_,_,hc=>by cases hc
 | u::rs,k::cs,h,v,c,hc=>by
  have hm:=main rs cs u v c k (λc hc=>h.1.K1 v c hc)
  have hz:D (u::rs) (k::cs)*D (v::rs) (c::cs) - D (v::rs) (k::cs)*D (u::rs) (c::cs)=0:=by
   rcases List.mem_cons.mp hc with rfl | hc
   ·rw[aaB];omega
   ·rw[h.1.K1 v c hc,h.1.K1 u c hc];simp
  rw[hz] at hm
  rcases Int.mul_eq_zero.mp hm with h0 | h0
  ·exact absurd h0 h.1.ne
  ·exact h0
 | [],_::_,h,_,_,_=>h.elim
 | _::_,[],h,_,_,_=>h.elim
theorem Aj {rs:List Fm} {cs:List Nat} (g:Good rs cs) (u v:Fm) (j k:Nat):
  D (u::rs) (k::cs)*D (v::rs) (j::cs) - D (v::rs) (k::cs)*D (u::rs) (j::cs)=D rs cs*D (v::u::rs) (j::k::cs):=
 (main rs cs u v j k (λc hc=>g.K1 v c hc)).symm
noncomputable def dn:Nat->List Nat
 | 0=>[]
 | k+1=>k::dn k
theorem j7:∀{n c:Nat},c∈dn n↔c<n
 | 0,c=>by simp [dn]
 | n+1,c=>by rw[dn,List.mem_cons,j7];omega
theorem j8:∀n,(dn n).length=n
 | 0=>rfl
 | n+1=>by rw[dn,aaq,j8]
noncomputable def ng (i:Nat):Fm:=λc=>if c=i then -1 else 0
theorem Ak (rs:List Fm) (u:Fm) (j k:Nat) (h:k<j):
  D (ng k::u::rs) (j::k::dn k)=D (u::rs) (j::dn k):=by
 show ng k j*D (u::rs) (k::dn k) - (ng k k*D (u::rs) (j::dn k) - X (ng k) (λl=>D (u::rs) (j::k::l)) (dn k))=_
 rw[qg (w:=ng k) λc hc=>by have:=j7.mp hc;exact if_neg (by omega)]
 have a:ng k j=0:=if_neg (by omega)
 have b:ng k k= -1:=if_pos rfl
 rw[a,b]
 omega
noncomputable def sm:Nat->(Nat->Int)->Int
 | 0,_=>0
 | n+1,f=>sm n f+f n
theorem DW (u:Fm) (F:List Nat->Int) (cs:List Nat):∀n,sm n (λi=>u i*X (ng i) F cs)=X (λc=>if c<n then - u c else 0) F cs
 | 0=>by
  show 0=_
  exact(qg λc _=>if_neg (by omega)).symm
 | n+1=>by
  show sm n _+u n*X (ng n) F cs=_
  rw[DW u F cs n,<-ik,<-fY]
  refine rJ λc _=>?_
  show(if c<n then - u c else 0)+u n* (if c=n then -1 else 0)=_
  by_cases e:c=n
  ·subst e
   rw[if_neg (by omega),if_pos rfl,if_pos (by omega)]
   omega
  ·rw[if_neg e]
   by_cases l:c<n
   ·rw[if_pos l,if_pos (by omega)];simp
   ·rw[if_neg l,if_neg (by omega)];simp
theorem Am (rs:List Fm) (u:Fm) (k:Nat):
  sm k (λi=>u i*D (ng i::rs) (k::dn k))=u k*D rs (dn k) - D (u::rs) (k::dn k):=by
 have e:=DW u (D rs) (k::dn k) k
 have e1:X (λc=>if c<k then - u c else 0) (D rs) (k::dn k)=X (λc=>(-1)*u c+u k* (if c=k then 1 else 0)) (D rs) (k::dn k):=by
  refine rJ λc hc=>?_
  rcases List.mem_cons.mp hc with rfl | hc
  ·rw[if_neg (by omega),if_pos rfl];omega
  ·have:=j7.mp hc
   rw[if_pos this,if_neg (by omega)];omega
 have e2:X (λc=>if c=k then (1:Int) else 0) (D rs) (k::dn k)=D rs (dn k):=by
  show(if k=k then (1:Int) else 0)*D rs (dn k) - X (λc=>if c=k then (1:Int) else 0) (λl=>D rs (k::l)) (dn k)=_
  rw[if_pos rfl,qg λc hc=>by have:=j7.mp hc;exact if_neg (by omega)]
  omega
 have e3:sm k (λi=>u i*D (ng i::rs) (k::dn k))=sm k (λi=>u i*X (ng i) (D rs) (k::dn k)):=rfl
 rw[e3,e,e1,fY,ik,ik,e2]
 show(-1)*D (u::rs) (k::dn k)+u k*D rs (dn k)=_
 omega
theorem perm {rs us:List Fm} (h:rs.Perm us):∃s:Int,(s=1\/s= -1)/\∀cs,D rs cs=s*D us cs:=by
 induction h with
 | nil=>exact⟨1,.inl rfl,λcs=>(Int.one_mul _).symm⟩
 | cons w _ ih=>
  obtain⟨s,h,e⟩:=ih
  refine⟨s,h,λcs=>?_⟩
  show X w _ cs=s*X w _ cs
  rw[<-mG]
  congr 1
  funext l
  exact e l
 | swap x y l=>exact⟨-1,.inr rfl,λcs=>by rw[Int.neg_one_mul];exact Ah _ _ _ _⟩
 | trans _ _ XQ K2=>
  obtain⟨s,h,e⟩:=XQ
  obtain⟨t,k,f⟩:=K2
  refine⟨s*t,?_,λcs=>by rw[e,f,aaK]⟩
  rcases h with rfl | rfl <;>rcases k with rfl | rfl <;>decide
theorem CN {rs us:List Fm} (h:rs.Perm us) (cs:List Nat):D rs cs≠0↔D us cs≠0:=by
 obtain⟨s,hs,e⟩:=perm h
 rw[e]
 rcases hs with rfl | rfl <;>omega
theorem fz {f g:Nat->Int}:∀{n},(∀i,i<n->f i=g i)->sm n f=sm n g
 | 0,_=>rfl
 | n+1,h=>by show sm n f+f n=sm n g+g n;rw[fz λi hi=>h i (by omega),h n (by omega)]
theorem vF (f g:Nat->Int):∀n,sm n (λi=>f i+g i)=sm n f+sm n g
 | 0=>rfl
 | n+1=>by show sm n _+ (f n+g n)=sm n f+f n+ (sm n g+g n);rw[vF f g n];omega
theorem ot (k:Int) (f:Nat->Int):∀n,sm n (λi=>k*f i)=k*sm n f
 | 0=>(Int.mul_zero k).symm
 | n+1=>by show sm n _+k*f n=k* (sm n f+f n);rw[ot k f n,Int.mul_add]
theorem wY:∀n,sm n (λ_=>0)=0
 | 0=>rfl
 | n+1=>by show sm n _+0=0;rw[wY n];rfl
theorem An (g:Nat->Int) (t:Nat):∀n,sm n (λj=>g j* (if j=t then 1 else 0))=if t<n then g t else 0
 | 0=>by rw[if_neg (by omega)];rfl
 | n+1=>by
  show sm n _+g n* (if n=t then 1 else 0)=_
  rw[An g t n]
  by_cases e:n=t
  ·subst e;rw[if_neg (by omega),if_pos rfl,if_pos (by omega)];omega
  ·rw[if_neg e]
   by_cases l:t<n
   ·rw[if_pos l,if_pos (by omega)];omega
   ·rw[if_neg l,if_neg (by omega)];omega
end aS
namespace aS
noncomputable def pβ (β:Nat->Nat):List Nat->Nat
 | []=>1
 | c::cs=>β c*pβ β cs
theorem IE {w:Fm} {β:Nat->Nat} (hw:∀c,(w c).natAbs<=β c):∀(cs:List Nat) (M:Nat) (F:List Nat->Int),(∀l,l.length+1=cs.length->(F l).natAbs<=M*pβ β l)->(X w F cs).natAbs<=cs.length* (M*pβ β cs)
 | [],_,_,_=>by simp [X]
 | c::cs,M,F,h=>by
  simp only[X]
  have h1:=aaQ (w c) (F cs)
  have h2:=Nat.mul_le_mul (hw c) (h cs rfl)
  have h3:=IE hw cs (M*β c) (λl=>F (c::l)) (λl hl=>by
   have:=h (c::l) (by simp only[aaq];omega)
   rw[pβ,<-Nat.mul_assoc] at this
   exact this)
  have h4:=Int.natAbs_sub_le (w c*F cs) (X w (λl=>F (c::l)) cs)
  have e:M*pβ β (c::cs)=β c* (M*pβ β cs):=by rw[pβ];grind
  have e2:M*β c*pβ β cs=β c* (M*pβ β cs):=by grind
  rw[aaq,Nat.add_mul,Nat.one_mul,e]
  rw[e2] at h3
  omega
theorem Fx {β:Nat->Nat} {N:Nat}:∀{rs:List Fm} (cs:List Nat),(∀w∈rs,∀c,(w c).natAbs<=β c)->cs.length<=N->(D rs cs).natAbs<=N^rs.length*pβ β cs
 | [],[],_,_=>by simp [D,pβ]
 | [],_::_,_,_=>by simp [D]
 | w::rs,cs,h,hl=>by
  have h1:=IE (h w (aaj ..)) cs (N^rs.length) (D rs) (λl oS=>Fx l (λw hw=>h w (aak _ hw)) (by omega))
  show(X w (D rs) cs).natAbs<=_
  rw[aaq,Nat.pow_succ,Nat.mul_comm (N^_),Nat.mul_assoc]
  exact aap h1 (abw _ hl)
end aS
namespace aS
noncomputable def fo (r:List Int):Fm:=λc=>r.getD c 0
noncomputable def bT (v:Fm) (rs:List Fm) (k m:Nat):List Int:=(List.range (m - k)).map λt=>D (v::rs) ((k+t)::dn k)
theorem di (v:Fm) (rs:List Fm) (k m:Nat):(bT v rs k m).length=m - k:=by simp [bT]
theorem yq {v:Fm} {rs:List Fm} {k m t:Nat} (h:k+t<m):(bT v rs k m)[t]?=some (D (v::rs) ((k+t)::dn k)):=by
 unfold bT
 rw[aaf,aaW (by omega)]
 rfl
theorem IF (v:Fm) (t:Nat):D [v] [t]=v t:=by
 show v t*1 - 0=v t
 omega
theorem vG {r:List Int} {m:Nat} (h:r.length=m):bT (fo r) [] 0 m=r:=by
 refine aa8 λi=>?_
 by_cases l:i<m
 ·rw[yq (by omega),aad (by omega)]
  show some (D [fo r] [0+i])=_
  rw[IF,aaV]
  simp [fo,aae,aad (show i<r.length by omega)]
 ·rw[aas (by rw[di];omega),aas (by omega)]
theorem c9 {k m:Nat} (h:k<m) (v:Fm) (rs:List Fm):bT v rs k m=D (v::rs) (k::dn k)::(List.range (m - (k+1))).map λt=>D (v::rs) ((k+1+t)::dn k):=by
 unfold bT
 rw[show m - k=(m - (k+1))+1 by omega,List.range_succ_eq_map,aav,aaS]
 congr 1
 refine List.map_congr_left λt _=>?_
 show D (v::rs) ((k+ (t+1))::dn k)=_
 rw[show k+ (t+1)=k+1+t by omega]
theorem CO {k m:Nat} (h:k<m) (u:Fm) (rs:List Fm):(bT u rs k m).tail=bT (ng k) (u::rs) (k+1) m:=by
 rw[c9 h,List.tail_cons]
 unfold bT
 refine List.map_congr_left λt _=>?_
 exact(Ak rs u (k+1+t) k (by omega)).symm
theorem zipWith_map {α:Type} (f:Int->Int->Int) (g h:α->Int):∀l:List α,List.zipWith f (l.map g) (l.map h)=l.map λa=>f (g a) (h a)
 | []=>rfl
 | a::l=>by simp only[aav,List.zipWith_cons_cons,zipWith_map f g h l]
theorem Ao {k m:Nat} (h:k<m) {rs:List Fm} (G:Good rs (dn k)) (u v:Fm):
  List.zipWith (λone other=>(D (u::rs) (k::dn k)*one - D (v::rs) (k::dn k)*other).fdiv (D rs (dn k))) (bT v rs k m).tail (bT u rs k m).tail=bT v (u::rs) (k+1) m:=by
 rw[c9 h,c9 h,List.tail_cons,List.tail_cons,zipWith_map]
 unfold bT
 refine List.map_congr_left λt _=>?_
 rw[Aj G u v (k+1+t) k]
 exact Int.mul_fdiv_cancel_left _ G.ne
structure i4 (U:List Fm) (n k:Nat) (rs V:List Fm):Prop where
 len:V.length=n
 rl:rs.length=k
 good:Good rs (dn k)
 own:∀i,i<k->V[i]?=some (ng i)
 perm:(rs++V.drop k).Perm U
 le:k<=n
theorem i4.start {U:List Fm}:i4 U U.length 0 [] U:=⟨rfl,rfl,trivial,λi h=>absurd h (by omega),List.Perm.refl _,aar _⟩
theorem t8 {α:Type} {u a:α}:∀{l:List α} {i:Nat},l[i]?=some u->(u::l.set i a).Perm (a::l)
 | [],_,h=>by simp at h
 | b::l,0,h=>by
  simp at h;subst h
  exact List.Perm.swap _ _ _
 | b::l,i+1,h=>by
  simp only[abk] at h
  show(u::b::l.set i a).Perm (a::b::l)
  exact(List.Perm.swap _ _ _).trans (((t8 h).cons b).trans (List.Perm.swap _ _ _))
noncomputable def mH (V:List Fm) (k dt:Nat) (u a:Fm):List Fm:=(V.set k u).set dt a
theorem i4.step {U:List Fm} {n k dt:Nat} {rs V:List Fm} {u a:Fm} (S:i4 U n k rs V) (hk:k<n) (hs:k<=dt) (hu:V[dt]?=some u) (ha:V[k]?=some a) (h:D (u::rs) (k::dn k)≠0):
  i4 U n (k+1) (u::rs) ((mH V k dt u a).set k (ng k)):=by
 have l:=S.len
 refine⟨by simp [mH,l],by rw[aaq,S.rl],⟨S.good,h⟩,λi hi=>?_,?_,hk⟩
 ·by_cases e:i=k
  ·subst e
   rw[aa1 (by simp [mH];omega)]
  ·unfold mH
   rw[aaO (by omega),aaO (by omega),aaO (by omega)]
   exact S.own i (by omega)
 ·refine List.Perm.trans ?_ S.perm
  have hd:V.drop k=a::V.drop (k+1):=by
   obtain⟨h1,h2⟩:=List.getElem?_eq_some_iff.mp ha
   rw[<-h2]
   exact List.drop_eq_getElem_cons h1
  have e1:((mH V k dt u a).set k (ng k)).drop (k+1)=((V.drop (k+1)).set (dt - (k+1)) a)\/(dt=k/\((mH V k dt u a).set k (ng k)).drop (k+1)=V.drop (k+1)):=by
   unfold mH
   by_cases e:dt=k
   ·right
    subst e
    refine⟨rfl,?_⟩
    simp [List.drop_set]
   ·left
    simp [List.drop_set]
    intro hh
    omega
  have e2:(u::((mH V k dt u a).set k (ng k)).drop (k+1)).Perm (a::V.drop (k+1)):=by
   rcases e1 with e1 | ⟨e,e1⟩
   ·by_cases e:dt=k
    ·subst e
     have:u=a:=by rw[hu] at ha;exact aax ha
     subst this
     unfold mH
     simp [List.drop_set]
    ·rw[e1]
     refine t8 ?_
     rw[List.getElem?_drop,show k+1+ (dt - (k+1))=dt by omega]
     exact hu
   ·subst e
    have:u=a:=by rw[hu] at ha;exact aax ha
    subst this
    rw[e1]
  rw[hd]
  refine List.Perm.trans ?_ (e2.append_left rs)
  show(u::(rs++_)).Perm _
  exact(List.perm_middle).symm
noncomputable def qh (k:Nat) (rs V:List Fm):Prop:=∀u∈V.drop k,D (u::rs) (k::dn k)=0
theorem i4.CP {U:List Fm} {n k:Nat} {rs V:List Fm} (S:i4 U n k rs V) (z:qh k rs V) {u:Fm} (hu:u∈U):sm k (λi=>u i*D (ng i::rs) (k::dn k))=u k*D rs (dn k):=by
 rw[Am]
 have:D (u::rs) (k::dn k)=0:=by
  rcases List.mem_append.mp (S.perm.mem_iff.mpr hu) with h | h
  ·exact wX h _
  ·exact z u h
 omega
theorem i4.answers {U:List Fm} {n:Nat} {rs V:List Fm} (S:i4 U n n rs V) {u:Fm} (hu:u∈U):sm n (λi=>u i*D (ng i::rs) (n::dn n))=u n*D rs (dn n):=by
 rw[Am]
 have h:u∈rs:=by
  rcases List.mem_append.mp (S.perm.mem_iff.mpr hu) with h | h
  ·exact h
  ·rw[List.drop_eq_nil_of_le (by rw[S.len];exact aah _)] at h;cases h
 rw[wX h]
 omega
theorem i4.all {U:List Fm} {n:Nat} {rs V:List Fm} (S:i4 U n n rs V):rs.Perm U:=by
 have:=S.perm
 rw[List.drop_eq_nil_of_le (by rw[S.len];exact aah _),aa2] at this
 exact this
theorem i4.ne {U:List Fm} {n:Nat} {rs V:List Fm} (S:i4 U n n rs V):D U (dn n)≠0:=(CN S.all _).mp S.good.ne
end aS
namespace aS
theorem i4.cb {U:List Fm} {n k:Nat} {β:Nat->Nat} {rs V:List Fm} (S:i4 U n k rs V) (b1:∀c,1<=β c) (hb:∀u∈U,∀c,(u c).natAbs<=β c):(∀u∈rs,∀c,(u c).natAbs<=β c)/\∀v∈V,∀c,(v c).natAbs<=β c:=by
 refine⟨λu hu=>hb u (S.perm.mem_iff.mp (abr _ hu)),λv hv=>?_⟩
 obtain⟨i,hi,rfl⟩:=aaY hv
 by_cases l:i<k
 ·have:=S.own i l
  rw[aad hi] at this
  rw[aax this]
  intro c
  unfold ng
  split
  ·exact b1 c
  ·exact aar _
 ·refine hb _ (S.perm.mem_iff.mp (aaJ _ ?_))
  refine aag (i:=i - k) ?_
  rw[List.getElem?_drop,show k+ (i - k)=i by omega,aad hi]
theorem Ap {β:Nat->Nat} {b n:Nat} (h:∀c,c<n->β c<=b):∀k,k<=n->pβ β (dn k)<=b^k
 | 0,_=>aah _
 | k+1,hk=>by
  rw[dn,pβ,Nat.pow_succ,Nat.mul_comm]
  exact Nat.mul_le_mul (Ap h k (by omega)) (h k (by omega))
theorem i4.U6 {U:List Fm} {n k b c:Nat} {β:Nat->Nat} {rs V:List Fm} (S:i4 U n k rs V) (b1:∀j,1<=β j) (h:∀j,j<n->β j<=b) (hc:∀j,β j<=c) (hb:∀u∈U,∀j,(u j).natAbs<=β j) {v:Fm} (hv:v∈V) (j:Nat):(D (v::rs) (j::dn k)).natAbs<=(n+1)^ (n+1)* (c*b^k):=by
 obtain⟨h1,h2⟩:=S.cb b1 hb
 have le:=S.le
 have h3:=Fx (N:=n+1) (β:=β) (rs:=v::rs) (j::dn k) (λw hw=>by
  rcases List.mem_cons.mp hw with rfl | hw
  ·exact h2 _ hv
  ·exact h1 w hw) (by rw[aaq,j8];omega)
 refine aap h3 (Nat.mul_le_mul ?_ ?_)
 ·rw[aaq,S.rl]
  exact aa6 (by omega) (by omega)
 ·rw[pβ]
  exact Nat.mul_le_mul (hc j) (Ap h k le)
theorem i4.U7 {U:List Fm} {n k b:Nat} {β:Nat->Nat} {rs V:List Fm} (S:i4 U n k rs V) (b1:∀j,1<=β j) (h:∀j,j<n->β j<=b) (hb:∀u∈U,∀j,(u j).natAbs<=β j):(D rs (dn k)).natAbs<=(n+1)^ (n+1)*b^k:=by
 obtain⟨h1,h2⟩:=S.cb b1 hb
 have le:=S.le
 have h3:=Fx (N:=n+1) (β:=β) (rs:=rs) (dn k) h1 (by rw[j8];omega)
 refine aap h3 (Nat.mul_le_mul ?_ (Ap h k le))
 rw[S.rl]
 exact aa6 (by omega) (by omega)
end aS
namespace aS
noncomputable def z0:Fm:=λ_=>0
noncomputable def aug (L:List (List Int)) (S:List Int):List (List Int):=List.zipWith (λr s=>r++ [s]) L S
noncomputable def cell (L:List (List Int)) (i j:Nat):Int:=(L.getD i []).getD j 0
structure Sq (L:List (List Int)) (n:Nat):Prop where
 len:L.length=n
 row:∀r∈L,r.length=n
theorem Sq.at {L:List (List Int)} {n i:Nat} (h:Sq L n) (hi:i<n):∃r,L[i]?=some r/\r.length=n/\r∈L:=by
 have:=h.len
 refine⟨L[i],by simp [this,hi],h.row _ (aao _),aao _⟩
theorem jB {L:List (List Int)} {S:List Int} {n i:Nat} {r:List Int} (hS:S.length=n) (hi:i<n) (e:L[i]?=some r):(aug L S)[i]?=some (r++ [S.getD i 0]):=by
 unfold aug
 rw[abx,e,aad (show i<S.length by omega)]
 simp [aae,aad (show i<S.length by omega)]
theorem jC {L:List (List Int)} {S:List Int} {n:Nat} (hL:L.length=n) (hS:S.length=n):(aug L S).length=n:=by
 unfold aug
 rw[abq,hL,hS,Nat.min_self]
theorem Aq {L:List (List Int)} {S:List Int} {n i j:Nat} (hq:Sq L n) (hS:S.length=n) (hi:i<n) (hj:j<n):(((aug L S).map fo).getD i z0) j=cell L i j:=by
 obtain⟨r,e,l,_⟩:=hq.at hi
 rw[aae,aaf,jB hS hi e]
 show fo (r++ [S.getD i 0]) j=_
 unfold fo cell
 rw[aae,aa5 (by omega),aae (l:=L),e]
 simp [aae]
theorem Ar {L:List (List Int)} {S:List Int} {n i:Nat} (hq:Sq L n) (hS:S.length=n) (hi:i<n):(((aug L S).map fo).getD i z0) n=S.getD i 0:=by
 obtain⟨r,e,l,_⟩:=hq.at hi
 rw[aae,aaf,jB hS hi e]
 show fo (r++ [S.getD i 0]) n=_
 unfold fo
 rw[aae,aa4 (by omega),l]
 simp
theorem wZ {L:List (List Int)} {S:List Int} {n i:Nat} (hq:Sq L n) (hS:S.length=n) (hi:i<n):((aug L S).map fo).getD i z0∈(aug L S).map fo:=by
 have l:((aug L S).map fo).length=n:=by rw[aac,jC hq.len hS]
 rw[aae,aad (show i< ((aug L S).map fo).length by omega)]
 exact aao _
noncomputable def As (L:List (List Int)) (n:Nat):Prop:=∃(g:Nat->Int) (k:Nat),k<n/\g k≠0/\∀i,i<n->sm n (λj=>g j*cell L i j)=0
theorem yr {L:List (List Int)} {S:List Int} {n k:Nat} {rs V:List Fm} (hq:Sq L n) (hS:S.length=n) (St:i4 ((aug L S).map fo) n k rs V) (hk:k<n) (z:qh k rs V):As L n:=by
 refine⟨λj=>if j<k then - D (ng j::rs) (k::dn k) else if j=k then D rs (dn k) else 0,k,hk,?_,λi hi=>?_⟩
 ·show(if k<k then _ else if k=k then D rs (dn k) else 0)≠0
  rw[if_neg (aaI _),if_pos rfl]
  exact St.good.ne
 ·have e:=St.CP z (wZ hq hS hi)
  have key:∀q,k+1<=q->sm q (λj=>(if j<k then - D (ng j::rs) (k::dn k) else if j=k then D rs (dn k) else 0)* (((aug L S).map fo).getD i z0) j)=0:=by
   intro q hq
   induction q with
   | zero=>omega
   | succ q ih=>
    by_cases c:q=k
    ·subst c
     show sm q _+_*_=0
     rw[if_neg (aaI _),if_pos rfl]
     have e2:sm q (λj=>(if j<q then - D (ng j::rs) (q::dn q) else if j=q then D rs (dn q) else 0)* (((aug L S).map fo).getD i z0) j)=sm q (λj=>(-1)* ((((aug L S).map fo).getD i z0) j*D (ng j::rs) (q::dn q))):=fz λi hi=>by
      rw[if_pos hi,Int.neg_mul,Int.neg_one_mul,aaB]
     rw[e2,ot,e,aaB (D rs (dn q))]
     omega
    ·show sm q _+_*_=0
     rw[ih (by omega),if_neg (by omega),if_neg c]
     simp
  refine Eq.trans (fz λj hj=>?_) (key n (by omega))
  rw[Aq hq hS hi hj]
noncomputable def pe (L:List (List Int)) (s:Nat) (l:Int) (i:Nat):List Int:=
 if i=s then (L.getD i []).tail else List.zipWith (λone other=>((L.getD s []).headD 0*one - (L.getD i []).headD 0*other).fdiv l) (L.getD i []).tail (L.getD s []).tail
noncomputable def K3 (L:List (List Int)) (s:Nat) (l:Int):List (List Int):=(List.range L.length).map (pe L s l)
theorem getD_map {V:List Fm} {f:Fm->List Int} {i:Nat} {v:Fm} (h:V[i]?=some v):(V.map f).getD i []=f v:=by
 rw[aae,aaf,h]
 rfl
theorem CQ {V:List Fm} {f:Fm->List Int} {k dt:Nat} {u a:Fm} (hu:V[dt]?=some u) (ha:V[k]?=some a):((V.map f).set k ((V.map f).getD dt [])).set dt ((V.map f).getD k [])=(mH V k dt u a).map f:=by
 rw[getD_map hu,getD_map ha]
 unfold mH
 rw[List.map_set,List.map_set]
theorem Au {V:List Fm} {k dt:Nat} {u a:Fm} (hu:V[dt]?=some u) (ha:V[k]?=some a):(mH V k dt u a)[k]?=some u:=by
 have h1:=(List.getElem?_eq_some_iff.mp ha).1
 unfold mH
 by_cases e:dt=k
 ·subst e
  rw[aa1 (by simpa using h1)]
  rw[hu] at ha
  exact ha.symm
 ·rw[aaO e,aa1 h1]
theorem Av {n k m dt:Nat} {rs V:List Fm} {u a:Fm} (G:Good rs (dn k)) (hm:k<m) (hu:V[dt]?=some u) (ha:V[k]?=some a):
  K3 ((mH V k dt u a).map λv=>bT v rs k m) k (D rs (dn k))=((mH V k dt u a).set k (ng k)).map λv=>bT v (u::rs) (k+1) m:=by
 have hk:=Au hu ha
 generalize mH V k dt u a=W at *
 unfold K3
 refine aa8 λi=>?_
 rw[aaf,aaf,aac]
 by_cases l:i<W.length
 ·rw[aaW l]
  have ew:W[i]?=some W[i]:=aad l
  by_cases e:i=k
  ·subst e
   rw[aa1 l]
   show some (pe _ i _ i)=some _
   unfold pe
   rw[if_pos rfl,getD_map hk,CO hm]
  ·rw[aaO (by omega),ew]
   show some (pe _ k _ i)=some (bT W[i] (u::rs) (k+1) m)
   unfold pe
   rw[if_neg e,getD_map ew,getD_map hk,<-Ao hm G u W[i]]
   have hh:∀v,(bT v rs k m).headD 0=D (v::rs) (k::dn k):=λv=>by rw[c9 hm];rfl
   rw[hh,hh]
 ·rw[aas (by rw[aaz];omega),aas (by rw[aaU];omega)]
  rfl
theorem vH {L:List (List Int)} {m:Nat} (h:∀r∈L,r.length=m):(L.map fo).map (λv=>bT v [] 0 m)=L:=by
 rw[aaS]
 conv=>rhs;rw[<-List.map_id L]
 exact List.map_congr_left λr hr=>vG (h r hr)
theorem ua {v w:Fm}:∀{cs:List Nat} {F G:List Nat->Int},(∀c∈cs,v c=w c)->(∀l,(∀c∈l,c∈cs)->F l=G l)->X v F cs=X w G cs
 | [],_,_,_,_=>rfl
 | c::cs,F,G,h,k=>by
  simp only[X]
  rw[h c (aaj ..),k cs λc' hc=>aak _ hc,ua (cs:=cs) (G:=λl=>G (c::l)) (λc' hc=>h c' (aak _ hc)) λl hl=>k (c::l) λc' hc=>?_]
  rcases List.mem_cons.mp hc with rfl | hc
  ·exact aaj ..
  ·exact aak _ (hl c' hc)
theorem Aw {n:Nat}:∀(L:List (List Int)) (S:List Int),S.length=L.length->(∀r∈L,r.length=n)->∀cs:List Nat,(∀c∈cs,c<n)->D ((aug L S).map fo) cs=D (L.map fo) cs
 | [],[],_,_,_,_=>rfl
 | [],_::_,h,_,_,_=>by simp at h
 | _::_,[],h,_,_,_=>by simp at h
 | r::L,s::S,h,hr,cs,hc=>by
  show X (fo (r++ [s])) (D ((aug L S).map fo)) cs=X (fo r) (D (L.map fo)) cs
  refine ua (λc KD=>?_) λl hl=>Aw L S (by simpa using h) (λq hq=>hr q (aak _ hq)) l λc Cn=>hc c (hl c Cn)
  unfold fo
  have:=hc c KD
  have lr:=hr r (aaj ..)
  rw[aae,aa5 (by omega),aae]
end aS
namespace Dg
noncomputable def BF (ps:List Int) (g:Nat->Int) (q:Int):Int:=if q∈ps then g (ps.idxOf q) else 0
theorem CS {g:Nat->Int} {q w:Int}:∀{ps:List Int},ps.Nodup->aS.sm ps.length (λj=>g j* (if q=ps.getD j 0 then w else 0))=w*BF ps g q:=by
 intro ps nd
 have key:∀n,n<=ps.length->aS.sm n (λj=>g j* (if q=ps.getD j 0 then w else 0))=if q∈ps.take n then w*g (ps.idxOf q) else 0:=by
  intro n
  induction n with
  | zero=>intro _;rfl
  | succ n ih=>
   intro hn
   have e:ps[n]?=some ps[n]:=aad (by omega)
   have eg:ps.getD n 0=ps[n]:=by rw[aae,e];rfl
   show aS.sm n _+g n* (if q=ps.getD n 0 then w else 0)=_
   rw[ih (by omega),aaC,e,eg]
   by_cases c:q=ps[n]
   ·have MF:q∉ps.take n:=by
     intro z
     obtain⟨j,hj,ej⟩:=aaY z
     rw[aa3] at hj
     rw[List.getElem_take] at ej
     have:=(abj nd).mp (ej.trans c)
     omega
    have ix:ps.idxOf q=n:=by
     have l:=aaR (show q∈ps by rw[c];exact aao _)
     exact(abj nd).mp ((aaX l).trans c)
    rw[if_neg MF,if_pos c,if_pos (aaJ _ (by rw[c];exact List.mem_singleton.mpr rfl)),ix,Int.zero_add,aaB]
   ·have m:q∈ps.take n++ (some ps[n]).toList↔q∈ps.take n:=by
     rw[List.mem_append]
     constructor
     ·rintro(h | h)
      ·exact h
      ·exact absurd (List.mem_singleton.mp h) c
     ·exact .inl
    rw[if_neg c,Int.mul_zero,Int.add_zero]
    by_cases k:q∈ps.take n
    ·rw[if_pos k,if_pos (m.mpr k)]
    ·rw[if_neg k,if_neg (λz=>k (m.mp z))]
 have:=key ps.length (aah _)
 rw[aaE (aah _)] at this
 rw[this]
 unfold BF
 split
 ·rfl
 ·rw[Int.mul_zero]
theorem xa {ps:List Int} {g:Nat->Int} (nd:ps.Nodup):∀ws:Wy,aS.sm ps.length (λj=>g j*iZ (ps.getD j 0) ws)=dS (BF ps g) ws
 | []=>by
  show aS.sm ps.length (λj=>g j*0)=0
  rw[show(λj=>g j*0)=λ_=>(0:Int) from funext λj=>Int.mul_zero _]
  exact aS.wY _
 | x::ws=>by
  have e:(λj=>g j*iZ (ps.getD j 0) (x::ws))=λj=>g j* (if x.2=ps.getD j 0 then x.1 else 0)+g j*iZ (ps.getD j 0) ws:=funext λj=>by
   show g j* ((if x.2=ps.getD j 0 then x.1 else 0)+iZ (ps.getD j 0) ws)=_
   rw[Int.mul_add]
  rw[e,aS.vF,CS nd,xa nd ws]
  rfl
noncomputable def pf (ps:List Int) (W:Int->Wy) (L:List (List Int)):Prop:=L.length=ps.length/\(∀r∈L,r.length=ps.length)/\∀i j,i<ps.length->j<ps.length->(L.getD i []).getD j 0=(if i=j then tt (W (ps.getD i 0)) else 0) - iZ (ps.getD j 0) (W (ps.getD i 0))
theorem pf.sum {ps:List Int} {W:Int->Wy} {L:List (List Int)} (R:pf ps W L) (nd:ps.Nodup) (g:Nat->Int) {i:Nat} (hi:i<ps.length):aS.sm ps.length (λj=>g j* (L.getD i []).getD j 0)=tt (W (ps.getD i 0))*g i - dS (BF ps g) (W (ps.getD i 0)):=by
 have e:aS.sm ps.length (λj=>g j* (L.getD i []).getD j 0)=aS.sm ps.length (λj=>tt (W (ps.getD i 0))* (g j* (if j=i then 1 else 0))+ (-1)* (g j*iZ (ps.getD j 0) (W (ps.getD i 0)))):=aS.fz λj hj=>by
  rw[R.2.2 i j hi hj]
  by_cases c:i=j
  ·subst c
   rw[if_pos rfl,if_pos rfl,Int.mul_sub,Int.mul_one,aaB (g i) (tt _)]
   omega
  ·rw[if_neg c,if_neg (Ne.symm c),Int.mul_sub,Int.mul_zero,Int.mul_zero]
   omega
 rw[e,aS.vF,aS.ot,aS.ot,aS.An,if_pos hi,xa nd]
 omega
end Dg
namespace Dg
theorem Ax {ps:List Int} (nd:ps.Nodup) (g:Nat->Int) {i:Nat} (hi:i<ps.length):BF ps g (ps.getD i 0)=g i:=by
 have eg:ps.getD i 0=ps[i]:=by rw[aae,aad hi];rfl
 unfold BF
 rw[eg,if_pos (aao hi)]
 congr 1
 have l:=aaR (aao hi)
 exact(abj nd).mp (aaX l)
theorem pf.Ay {ps:List Int} {W:Int->Wy} {lv:Int->Nat} {L:List (List Int)} (R:pf ps W L) (nd:ps.Nodup) (pos:∀p∈ps,∀x∈W p,1<=x.1) (dn:∀p∈ps,W p=[]\/∃x∈W p,lv x.2<lv p):¬aS.As L ps.length:=by
 rintro⟨g,k,hk,gk,rel⟩
 apply gk
 have z:=yp (ps:=ps) (W:=W) (lv:=lv) (v:=BF ps g) (λp hp=>?_) pos (λq hq=>if_neg hq) dn (ps.getD k 0) ?_
 ·rw[Ax nd g hk] at z
  exact z
 ·obtain⟨i,hi,rfl⟩:=aaY hp
  have eg:ps.getD i 0=ps[i]:=by rw[aae,aad hi];rfl
  have e:=R.sum nd g hi
  have r:aS.sm ps.length (λj=>g j* (L.getD i []).getD j 0)=0:=rel i hi
  rw[r] at e
  have o:=Ax nd g hi
  rw[eg] at e o
  rw[o]
  omega
 ·rw[aae,aad hk]
  exact aao hk
end Dg
noncomputable def Rw (H:Hp) (r:List Int) (x:V):Prop:=∃q,x=.ref q/\H q=some (.lst (List.map V.int r))
theorem Rw.mono {H H':Hp} {r:List Int} {x:V} (s:az H H') (h:Rw H r x):Rw H' r x:=by
 obtain⟨q,e,k⟩:=h
 exact⟨q,e,s _ _ k⟩
noncomputable def rK (H:Hp) (a:Addr) (L:List (List Int)):Prop:=∃xs,H a=some (.lst xs)/\Al (Rw H) L xs
theorem rK.mono {H H':Hp} {a:Addr} {L:List (List Int)} (s:az H H') (h:rK H a L):rK H' a L:=by
 obtain⟨xs,h1,h2⟩:=h
 exact⟨xs,s _ _ h1,h2.imp λ_ _ k=>k.mono s⟩
theorem Az {xs:List V} {k:Int} (h:0<=k):oY xs (some k) none=xs.drop k.toNat:=by
 unfold oY
 obtain⟨n,rfl⟩:=aau h
 rw[HT.y4,HT.B4,aai]
 by_cases c:n<=xs.length
 ·rw[Nat.min_eq_left c,aaE (by rw[List.length_drop];exact aah _)]
 ·rw[Nat.min_eq_right (by omega),List.drop_eq_nil_of_le (aah _),List.drop_eq_nil_of_le (show xs.length<=n by omega)]
  simp
theorem ub (r:List Int):oY (List.map V.int r) (some 1) none=List.map V.int r.tail:=by
 rw[Az (by decide)]
 cases r <;>rfl
theorem il {n i:Nat} (h:i<n):xW n (i:Int)=some i:=by
 unfold xW
 rw[if_pos (by omega),if_pos (by omega)]
 rfl
theorem ou {xs:List V} {L:List (List Int)} {H:Hp} {i:Nat} {r:List Int} (al:Al (Rw H) L xs) (e:L[i]?=some r):∃q,fc xs (i:Int)=some (.ref q)/\H q=some (.lst (List.map V.int r)):=by
 obtain⟨v,ev,q,rfl,hq⟩:=al.at e
 exact⟨q,bA ev,hq⟩
theorem jD {r:List Int} (h:0<r.length):fc (List.map V.int r) 0=some (.int (r.headD 0)):=by
 cases r with
 | nil=>cases h
 | cons a r=>exact bA (j:=0) rfl
theorem Al.set {α:Type} {R:α->V->Prop} {a:α} {v:V} (h:R a v):∀{as:List α} {vs:List V} {i:Nat},Al R as vs->Al R (as.set i a) (vs.set i v)
 | [],[],_,_=>trivial
 | _::_,_::_,0,k=>⟨h,k.2⟩
 | _::_,_::_,i+1,k=>⟨k.1,Al.set h k.2⟩
theorem rL {H:Hp} {p:Addr} {o:HO}:cE (upd H p o) p=cE H p:=by
 funext a
 unfold cE
 by_cases h:a=p
 ·rw[if_pos h,if_pos h]
 ·rw[if_neg h,if_neg h,aH h]
theorem Rw.push {H:Hp} {a q:Addr} {L:List (List Int)} {xs:List V} {r:List Int} (al:Al (Rw (cE H a)) L xs) (hq:H q=some (.lst (List.map V.int r))) (ne:q≠a):Al (Rw (cE (upd H a (.lst (xs++ [.ref q]))) a)) (L++ [r]) (xs++ [.ref q]):=by
 rw[rL]
 exact al.append (.one ⟨q,rfl,by rw[bE ne];exact hq⟩)
theorem AA {zs:List V} {f:Int->Int->Int} {as bs:List Int} (l:zs.length=min (List.map V.int as).length (List.map V.int bs).length) (h:∀(j:Nat) y,zs[j]?=some y->∀o1 o2,as[j]?=some o1->bs[j]?=some o2->y=.int (f o1 o2)):zs=List.map V.int (List.zipWith f as bs):=by
 rw[aac,aac] at l
 refine aa8 λj=>?_
 by_cases c:j<min as.length bs.length
 ·have e1:as[j]?=some as[j]:=aad (by omega)
  have e2:bs[j]?=some bs[j]:=aad (by omega)
  rw[aad (show j<zs.length by omega),h j _ (aad (by omega)) _ _ e1 e2,aaf,abx,e1,e2]
  rfl
 ·rw[aas (by omega),aas (by rw[aac,abq];omega)]
noncomputable def Fy:Sp:=λvs H Q _=>∃a L k,vs=[.ref a,.int (Nat.cast k)]/\rK H a L/\k<=L.length/\L.length<=64/\(∀r∈L,0<r.length)/\(∀i:Nat,k<=i->i<L.length->(L.getD i []).headD 0≠0->Q (.int i) H)/\((∀i:Nat,k<=i->i<L.length->(L.getD i []).headD 0=0)->Q .cB H)
noncomputable def AB:Sp:=λvs H Q _=>∃a L i j,vs=[.ref a,.int (Nat.cast i),.int (Nat.cast j)]/\rK H a L/\i<L.length/\j<L.length/\L.length<=64/\∀p H',az H H'->rK H' p ((L.set i (L.getD j [])).set j (L.getD i []))->Q (.ref p) H'
noncomputable def Fz:Sp:=λvs H Q _=>∃a L s l m,vs=[.ref a,.int (Nat.cast s),.int l]/\rK H a L/\s<L.length/\L.length<=64/\m<=64/\(∀r∈L,r.length=m+1)/\l≠0/\Bt 4000 l/\(∀r∈L,∀x∈r,Bt 4000 x)/\∀p H',az H H'->rK H' p (aS.K3 L s l)->Q (.ref p) H'
structure K4 (L:List (List Int)) (n m:Nat):Prop where
 len:L.length=n
 row:∀r∈L,r.length=m
 nm:n<=m
 MG:m<=64
 Bz:∀k rs W,aS.i4 (L.map aS.fo) n k rs W->Bt 4000 (aS.D rs (aS.dn k))/\∀v∈W,∀j,Bt 4000 (aS.D (v::rs) (j::aS.dn k))
noncomputable def FA:Sp:=λvs H Q _=>∃a L n m,vs=[.ref a,.int (Nat.cast n)]/\rK H a L/\K4 L n m/\∀t p k rs W H',aS.i4 (L.map aS.fo) n k rs W->(k<n->aS.qh k rs W)->az H H'->H' t=some (.tup [.ref p,.int (Nat.cast k),.int (aS.D rs (aS.dn k))])->rK H' p (W.map λv=>aS.bT v rs k m)->Q (.ref t) H'
noncomputable def rZ (d:Int):Int:=if 0<d then 1 else -1
noncomputable def oz (n:Nat) (rs:List aS.Fm):List Int:=(List.range n).map λi=>aS.D (aS.ng i::rs) (n::aS.dn n)*rZ (aS.D rs (aS.dn n))
theorem AD (d:Int):rZ d=1\/rZ d= -1:=by
 unfold rZ
 split
 ·exact .inl rfl
 ·exact .inr rfl
theorem AE {i d:Int}:IntMulOk i (rZ d):=by
 rcases AD d with h | h <;>rw[h] <;>exact iQ
theorem FC {U W rs:List aS.Fm} {n:Nat} (St:aS.i4 U n n rs W):W.filterMap (λv=>some (aS.D (v::rs) (n::aS.dn n)*rZ (aS.D rs (aS.dn n))))=oz n rs:=by
 rw[List.filterMap_eq_map']
 unfold oz
 refine aa8 λi=>?_
 rw[aaf,aaf]
 by_cases c:i<n
 ·rw[St.own i c,aaW c]
  rfl
 ·rw[aas (by rw[St.len];omega),aas (by rw[aaz];omega)]
  rfl
noncomputable def FD:Sp:=λvs H Q _=>∃a c L S n,vs=[.ref a,.ref c]/\rK H a L/\H c=some (.lst (List.map V.int S))/\S.length=n/\aS.Sq L n/\K4 (aS.aug L S) n (n+1)/\
 (∀k rs W H',aS.i4 ((aS.aug L S).map aS.fo) n k rs W->k<n->aS.qh k rs W->az H H'->Q .cB H')/\
 (∀rs W t p H',aS.i4 ((aS.aug L S).map aS.fo) n n rs W->az H H'->H' t=some (.tup [.ref p,.int (aS.D rs (aS.dn n)*rZ (aS.D rs (aS.dn n)))])->H' p=some (.lst (List.map V.int (oz n rs)))->Q (.ref t) H')
structure U8 (L:List (List Int)) (S:List Int) (n:Nat) (x:List Int) (d:Int):Prop where
 len:x.length=n
 pos:0<d
 bd:Bt 4000 d
 bx:∀v∈x,Bt 4000 v
 eq:∀i,i<n->aS.sm n (λj=>aS.cell L i j*x.getD j 0)=S.getD i 0*d
 ne:aS.D (L.map aS.fo) (aS.dn n)≠0
 dnn:d.natAbs=(aS.D (L.map aS.fo) (aS.dn n)).natAbs
theorem CT {d:Int} (h:d≠0):0<d*rZ d:=by
 unfold rZ
 split
 ·omega
 ·omega
theorem jE (x d:Int):(x*rZ d).natAbs=x.natAbs:=by
 rcases AD d with h | h <;>rw[h] <;>omega
theorem AF {n i:Nat} {rs:List aS.Fm} (h:i<n):(oz n rs).getD i 0=aS.D (aS.ng i::rs) (n::aS.dn n)*rZ (aS.D rs (aS.dn n)):=by
 unfold oz
 rw[aae,aaf,aaW h]
 rfl
theorem FE {L:List (List Int)} {S:List Int} {n:Nat} {rs W:List aS.Fm} (sq:aS.Sq L n) (lS:S.length=n) (B:K4 (aS.aug L S) n (n+1)) (St:aS.i4 ((aS.aug L S).map aS.fo) n n rs W):U8 L S n (oz n rs) (aS.D rs (aS.dn n)*rZ (aS.D rs (aS.dn n))):=by
 refine⟨by unfold oz;rw[aac,aaz],CT St.good.ne,?_,λv hv=>?_,λi hi=>?_,?_,?_⟩
 ·unfold Bt
  rw[jE]
  exact(B.Bz _ _ _ St).1
 ·unfold oz at hv
  obtain⟨i,hi,rfl⟩:=List.mem_map.mp hv
  unfold Bt
  rw[jE]
  exact(B.Bz _ _ _ St).2 _ (aag (St.own i (List.mem_range.mp hi))) n
 ·have e:=St.answers (aS.wZ sq lS hi)
  have e2:aS.sm n (λj=>aS.cell L i j* (oz n rs).getD j 0)=aS.sm n (λj=>rZ (aS.D rs (aS.dn n))* ((((aS.aug L S).map aS.fo).getD i aS.z0) j*aS.D (aS.ng j::rs) (n::aS.dn n))):=aS.fz λj hj=>by
   rw[AF hj,aS.Aq sq lS hi hj,<-aaK,aaB]
  rw[e2,aS.ot,e,aS.Ar sq lS hi,aaB,aaK]
 ·rw[<-aS.Aw L S (by rw[lS,sq.len]) sq.row _ λc hc=>aS.j7.mp hc]
  exact St.ne
 ·rw[<-aS.Aw L S (by rw[lS,sq.len]) sq.row _ λc hc=>aS.j7.mp hc,jE]
  obtain⟨s,hs,e⟩:=aS.perm St.all
  rw[e]
  rcases hs with rfl | rfl <;>omega
theorem CU {L:List (List Int)} {S:List Int} {n b c:Nat} (sq:aS.Sq L n) (lS:S.length=n) (n63:n<64) (b1:1<=b) (bc:b<=c) (hL:∀r∈L,∀x∈r,x.natAbs<=b) (hS:∀x∈S,x.natAbs<=c) (top:(n+1)^ (n+1)* (c*b^n)<2^4000):K4 (aS.aug L S) n (n+1):=by
 have ge:∀{i:Nat} {r:List Int},(aS.aug L S)[i]?=some r->∃q,q∈L/\r=q++ [S.getD i 0]/\i<n:=λ{i r} e=>by
  have hi:i<n:=by have:=(List.getElem?_eq_some_iff.mp e).1;rw[aS.jC sq.len lS] at this;exact this
  obtain⟨q,eq,_,mq⟩:=sq.at hi
  rw[aS.jB lS hi eq] at e
  exact⟨q,mq,(aax e).symm,hi⟩
 have hU:∀u∈(aS.aug L S).map aS.fo,∀j,(u j).natAbs<=if j<n then b else c:=λu hu j=>by
  obtain⟨r,hr,rfl⟩:=List.mem_map.mp hu
  obtain⟨i,ei⟩:=aaD hr
  obtain⟨q,mq,rfl,hi⟩:=ge ei
  have lq:=sq.row q mq
  unfold aS.fo
  rw[aae]
  by_cases cj:j<n
  ·rw[if_pos cj,aa5 (by omega),aad (by omega)]
   exact hL q mq _ (aao _)
  ·rw[if_neg cj,aa4 (by omega)]
   by_cases e:j=n
   ·rw[e,lq,Nat.sub_self]
    show(S.getD i 0).natAbs<=c
    rw[aae,aad (by omega)]
    exact hS _ (aao _)
   ·rw[aas (by show 1<=_;omega)]
    exact aar _
 have β1:∀j,1<=if j<n then b else c:=λj=>by split <;>omega
 have βn:∀j,j<n->(if j<n then b else c)<=b:=λj hj=>by rw[if_pos hj];exact aah _
 have βc:∀j,(if j<n then b else c)<=c:=λj=>by split <;>omega
 refine⟨aS.jC sq.len lS,λr hr=>?_,by omega,by omega,λk rs W St=>⟨?_,λv hv j=>?_⟩⟩
 ·obtain⟨i,ei⟩:=aaD hr
  obtain⟨q,mq,rfl,_⟩:=ge ei
  rw[aaF,sq.row q mq]
  rfl
 ·have h:=St.U7 β1 βn hU
  refine abb (aap h (abv _ ?_)) top
  have:=aa6 b1 St.le
  exact aap this (Nat.le_mul_of_pos_left _ (by omega))
 ·have h:=St.U6 β1 βn βc hU hv j
  exact abb (aap h (abv _ (abv _ (aa6 b1 St.le)))) top
theorem FF {L:List (List Int)} {S:List Int} {n b c:Nat} {rs W:List aS.Fm} (sq:aS.Sq L n) (lS:S.length=n) (b1:1<=b) (bc:b<=c) (hL:∀r∈L,∀x∈r,x.natAbs<=b) (hS:∀x∈S,x.natAbs<=c) (St:aS.i4 ((aS.aug L S).map aS.fo) n n rs W):(aS.D rs (aS.dn n)*rZ (aS.D rs (aS.dn n))).natAbs<=(n+1)^ (n+1)*b^n/\∀v∈oz n rs,v.natAbs<=(n+1)^ (n+1)* (c*b^n):=by
 have hU:∀u∈(aS.aug L S).map aS.fo,∀j,(u j).natAbs<=if j<n then b else c:=λu hu j=>by
  obtain⟨r,hr,rfl⟩:=List.mem_map.mp hu
  obtain⟨i,ei⟩:=aaD hr
  have hi:i<n:=by have:=(List.getElem?_eq_some_iff.mp ei).1;rw[aS.jC sq.len lS] at this;exact this
  obtain⟨q,eq,lq,mq⟩:=sq.at hi
  rw[aS.jB lS hi eq] at ei
  cases ei
  unfold aS.fo
  rw[aae]
  by_cases cj:j<n
  ·rw[if_pos cj,aa5 (by omega),aad (by omega)]
   exact hL q mq _ (aao _)
  ·rw[if_neg cj,aa4 (by omega)]
   by_cases e:j=n
   ·rw[e,lq,Nat.sub_self]
    show(S.getD i 0).natAbs<=c
    rw[aae,aad (by omega)]
    exact hS _ (aao _)
   ·rw[aas (by show 1<=_;omega)]
    exact aar _
 have β1:∀j,1<=if j<n then b else c:=λj=>by split <;>omega
 have βn:∀j,j<n->(if j<n then b else c)<=b:=λj hj=>by rw[if_pos hj];exact aah _
 have βc:∀j,(if j<n then b else c)<=c:=λj=>by split <;>omega
 refine⟨by rw[jE];exact St.U7 β1 βn hU,λv hv=>?_⟩
 unfold oz at hv
 obtain⟨i,hi,rfl⟩:=List.mem_map.mp hv
 rw[jE]
 exact St.U6 β1 βn βc hU (aag (St.own i (List.mem_range.mp hi))) n
namespace Dg
theorem uc (f g:Int->Int):∀ws:Wy,dS (λq=>f q+g q) ws=dS f ws+dS g ws
 | []=>rfl
 | x::ws=>by
  show x.1* (f x.2+g x.2)+dS (λq=>f q+g q) ws=x.1*f x.2+dS f ws+ (x.1*g x.2+dS g ws)
  rw[uc f g ws,Int.mul_add]
  omega
theorem ue (d:Int) (f:Int->Int):∀ws:Wy,dS (λq=>f q*d) ws=dS f ws*d
 | []=>by show(0:Int)=0*d;omega
 | x::ws=>by
  show x.1* (f x.2*d)+dS (λq=>f q*d) ws=(x.1*f x.2+dS f ws)*d
  rw[ue d f ws,Int.add_mul,aaK]
theorem oA {f g:Int->Int}:∀{ws:Wy},(∀x∈ws,f x.2=g x.2)->dS f ws=dS g ws
 | [],_=>rfl
 | x::ws,h=>by
  show x.1*f x.2+dS f ws=x.1*g x.2+dS g ws
  rw[h x aaj,oA λy hy=>h y (aak _ hy)]
theorem j9 (ts:List Int):∀ws:Wy,gG ts ws=dS (λq=>ts.getD q.toNat 0) ws
 | []=>rfl
 | x::ws=>by
  have:=j9 ts ws
  show x.1*ts.getD x.2.toNat 0+gG ts ws=x.1*ts.getD x.2.toNat 0+_
  rw[this]
theorem CV {ps:List Int} {W:Int->Wy} {L:List (List Int)} {S T x:List Int} {d r:Int} (R:pf ps W L) (nd:ps.Nodup) {i:Nat} (hi:i<ps.length)
  (sol:aS.sm ps.length (λj=>aS.cell L i j*x.getD j 0)=r*d) (zero:∀p∈ps,S.getD p.toNat 0=0)
  (U9:∀j,j<ps.length->T.getD (ps.getD j 0).toNat 0=x.getD j 0) (MH:∀y∈W (ps.getD i 0),y.2∉ps->T.getD y.2.toNat 0=S.getD y.2.toNat 0*d):
  tt (W (ps.getD i 0))*T.getD (ps.getD i 0).toNat 0=r*d - gG S (W (ps.getD i 0))*d+gG T (W (ps.getD i 0)):=by
 have e:=R.sum nd (λj=>x.getD j 0) hi
 have c:aS.sm ps.length (λj=>x.getD j 0* (L.getD i []).getD j 0)=aS.sm ps.length (λj=>aS.cell L i j*x.getD j 0):=aS.fz λj _=>aaB _ _
 rw[c,sol] at e
 have k:dS (λq=>T.getD q.toNat 0) (W (ps.getD i 0))=dS (BF ps λj=>x.getD j 0) (W (ps.getD i 0))+gG S (W (ps.getD i 0))*d:=by
  rw[j9,<-ue,<-uc]
  refine oA λy hy=>?_
  by_cases m:y.2∈ps
  ·have lt:=aaR m
   have eg:ps.getD (ps.idxOf y.2) 0=y.2:=by rw[aae,aad lt,aaX lt];rfl
   have t1:=U9 _ lt
   rw[eg] at t1
   rw[t1,zero _ m,Int.zero_mul,Int.add_zero]
   unfold BF
   rw[if_pos m]
  ·rw[MH y hy m]
   unfold BF
   rw[if_neg m,Int.zero_add]
 rw[U9 i hi,j9 T,k]
 omega
end Dg
noncomputable def qk (ws:Dg.Wy):Dat:=.lst (ws.map bB)
noncomputable def cn (fK:List Dg.Wy) (p:Int):Dg.Wy:=fK.getD p.toNat []
noncomputable def gX (ps:List Int):List (Key×V):=(List.range ps.length).map λi=>(Sum.inl (ps.getD i 0),.int (i:Int))
noncomputable def AG:Sp:=λvs H Q _=>∃(x wl:Addr) (ps:List Int) (xs:List V) (fK:List Dg.Wy),vs=[.ref x,.ref wl]/\H x=some (.lst (ps.map V.int))/\H wl=some (.lst xs)/\bf H (fK.map qk) xs/\ps.Nodup/\ps.length<=40/\(∀p∈ps,0<=p/\p< (fK.length:Int))/\(∀ws∈fK,ws.length<=5)/\
 ∀r L H',az H H'->rK H' r L->Dg.pf ps (cn fK) L->Q (.ref r) H'
noncomputable def uf:Sp:=λvs H Q _=>∃(a:Addr) (ws:Dg.Wy),vs=[.ref a]/\Rep H (qk ws) (.ref a)/\ws.length<=5/\∀H',az H H'->Q (.int (Dg.tt ws)) H'
theorem qm (ps:List Int):(gX ps).map (·.1)=ps.map Sum.inl:=by
 unfold gX
 rw[aaS]
 apply aa8
 intro i
 rw[aaf,aaf]
 by_cases h:i<ps.length
 ·rw[aaW h,aad h]
  show some (Sum.inl (ps.getD i 0))=some (Sum.inl ps[i])
  rw[aae,aad h]
  rfl
 ·rw[aas (by rw[aaz];omega),aas (by omega)]
  rfl
theorem AH {ps:List Int} (nd:ps.Nodup) {i:Nat} (h:i<ps.length):gN (gX ps) (Sum.inl (ps.getD i 0))=some (.int (i:Int)):=by
 refine vC (i:=i) ?_ ?_
 ·rw[qm]
  exact zZ nd
 ·unfold gX
  rw[aaf,aaW h]
  rfl
theorem ug {ps:List Int} {q:Int} (h:q∉ps):gN (gX ps) (Sum.inl q)=none:=mC (by
 rw[qm]
 exact λz=>h (rn.mp z))
theorem yt {ps:List Int} {i:Nat} (h:i<ps.length):gX (ps.take (i+1))=gX (ps.take i)++ [(Sum.inl (ps.getD i 0),.int (i:Int))]:=by
 have l1:(ps.take (i+1)).length=i+1:=by rw[aa3];omega
 have l0:(ps.take i).length=i:=by rw[aa3];omega
 unfold gX
 rw[l1,l0,List.range_succ,aaw]
 congr 1
 ·refine List.map_congr_left λj hj=>?_
  have:=List.mem_range.mp hj
  rw[aae,aae,List.getElem?_take_of_lt (by omega),List.getElem?_take_of_lt this]
 ·show[(Sum.inl ((ps.take (i+1)).getD i 0),V.int (i:Int))]=_
  rw[aae,List.getElem?_take_of_lt (aaM _),<-aae]
noncomputable def mI (C:Addr) (H:Hp) (x:Addr) (S:Dg.Bk):Prop:=∃dx m,H x=some (.ins C dx [("tops",.ref m),("bottom",.int S.2)])/\H m=some (.lst (S.1.map V.int))
theorem mI.mono {C:Addr} {H H':Hp} {x:Addr} {S:Dg.Bk} (s:az H H') (h:mI C H x S):mI C H' x S:=by
 obtain⟨dx,m,h1,h2⟩:=h
 exact⟨dx,m,s _ _ h1,s _ _ h2⟩
noncomputable def yu:Sp:=λvs H Q _=>∃a b,vs=[.int a,.int b]/\Q (.int (Nm.g a b)) H
noncomputable def FG:Sp:=λvs H Q _=>∃a b,vs=[.int a,.int b]/\Bt 5000 b/\0<b/\∀p H',az H H'->H p=none->H' p=some (.tup (Pr (Nm.st a b) (Nm.sb a b)))->Q (.ref p) H'
noncomputable def FH:Sp:=λvs H Q _=>∃(a:Addr) (ws:List Wq.Sh) (Z:Int),vs=[.ref a]/\Rep H (.lst (ws.map bB)) (.ref a)/\ws.length<=60/\(∀x∈ws,0<x.2/\x.2∣Z)/\0<Z/\Bt 2000 Z/\Q (.int (Wq.eZ 1 ws)) H
noncomputable def CW (C:Addr):Sp:=λvs H Q _=>∃(x dx l:Addr) (ts:List Int) (b:Int),vs=[.ref x,.ref l,.int b]/\H x=some (.ins C dx [])/\H l=some (.lst (ts.map V.int))/\
 ∀m H',H m=none->H' m=some (.lst (ts.map V.int))->H' x=some (.ins C dx [("tops",.ref m),("bottom",.int b)])->(∀y o,y≠x->H y=some o->H' y=some o)->Q .cB H'
noncomputable def DX (C:Addr):Sp:=λvs H Q _=>∃(x:Addr) (S:Dg.Bk) (d:Int),vs=[.ref x,.int d]/\mI C H x S/\Bt 4000 d/\Bt 4000 S.2/\(∀t∈S.1,Bt 4000 t)/\S.1.length<=60/\
 ∀y dy m H',az H H'->H y=none->H m=none->H' y=some (.ins C dy [("tops",.ref m),("bottom",.int (S.2*d))])->H' m=some (.lst ((S.1.map (·*d)).map V.int))->Q (.ref y) H'
noncomputable def IG (C:Addr):Sp:=λvs H Q _=>∃(x:Addr) (S:Dg.Bk),vs=[.ref x]/\mI C H x S/\0<S.2/\Bt 5000 S.2/\S.1.length<=60/\∀l H',az H H'->H l=none->Rep H' (.lst ((S.1.map λt=>Wq.low t S.2).map bB)) (.ref l)->Q (.ref l) H'
noncomputable def FI:Sp:=λvs H Q _=>∃(a:V) (q:Pl),vs=[a]/\Rep H (kY q) a/\∀r H',az H H'->H' r=some (.tup (Pr (Wq.dz q).1 (Wq.dz q).2))->Q (.ref r) H'
noncomputable def FJ (C:Addr):Sp:=λvs H Q _=>∃(a:Addr) (ws:List Wq.Sh) (Z:Int),vs=[.ref a]/\Rep H (.lst (ws.map bB)) (.ref a)/\ws.length<=60/\(∀x∈ws,0<x.2/\x.2∣Z/\Bt 4000 x.1)/\0<Z/\Bt 2000 Z/\
 ∀x H',az H H'->mI C H' x (ws.map (Wq.sc (Wq.eZ 1 ws)),Wq.eZ 1 ws)->Q (.ref x) H'
noncomputable def FK (C:Addr):Sp:=λvs H Q _=>∃(x:Addr) (S:Dg.Bk),vs=[.ref x]/\mI C H x S/\S.1.length<=60/\∀y H',az H H'->mI C H' y (List.replicate S.1.length 0,S.2)->Q (.ref y) H'
namespace Dg
noncomputable def xc (n:Nat) (ws:Wy):Prop:=ws.length<=5/\∀x∈ws,1<=x.1/\x.1<=200000/\0<=x.2/\x.2< (n:Int)
theorem FL:∀{ws:Wy},(∀x∈ws,1<=x.1/\x.1<=200000)->(ws.length:Int)<=Wq.bS ws/\Wq.bS ws<=200000* (ws.length:Int)
 | [],_=>⟨aaH _,aaH _⟩
 | x::ws,h=>by
  have ih:=FL (ws:=ws) λy hy=>h y (aak _ hy)
  have:=h x aaj
  rw[cX,aaq]
  omega
theorem xc.Mh {n:Nat} {ws:Wy} (h:xc n ws):0<=Wq.bS ws/\Wq.bS ws<=1000000:=by
 have:=FL λx hx=>⟨(h.2 x hx).1,(h.2 x hx).2.1⟩
 have l:=h.1
 omega
theorem xc.tt {n:Nat} {ws:Wy} (h:xc n ws):1<=tt ws/\tt ws<=1000000:=by
 have:=FL λx hx=>⟨(h.2 x hx).1,(h.2 x hx).2.1⟩
 have l:=h.1
 unfold Dg.tt
 cases ws with
 | nil=>decide
 | cons x ws=>
  rw[if_neg (by simp)]
  rw[aaq] at this l
  omega
theorem xf {q:Int}:∀{ws:Wy},(∀x∈ws,1<=x.1)->0<=iZ q ws/\iZ q ws<=Wq.bS ws
 | [],_=>⟨aaH _,aaH _⟩
 | x::ws,h=>by
  have ih:=xf (q:=q) (ws:=ws) λy hy=>h y (aak _ hy)
  have:=h x aaj
  show 0<=(if x.2=q then x.1 else 0)+iZ q ws/\(if x.2=q then x.1 else 0)+iZ q ws<=_
  rw[cX]
  split <;>omega
theorem pf.ent {ps:List Int} {W:Int->Wy} {L:List (List Int)} {n:Nat} (R:pf ps W L) (w:∀p∈ps,xc n (W p)):∀r∈L,∀x∈r,x.natAbs<=2^20:=by
 intro r hr x hx
 obtain⟨i,hi,rfl⟩:=aaY hr
 have lr:=R.2.1 _ (aao hi)
 obtain⟨j,hj,rfl⟩:=aaY hx
 have si:i<ps.length:=by rw[<-R.1];exact hi
 have IH:j<ps.length:=by omega
 have e:=R.2.2 i j si IH
 rw[aae (l:=L),aad hi,Option.getD_some,aae,aad hj,Option.getD_some] at e
 have mp:ps.getD i 0∈ps:=by rw[aae,aad si];exact aao si
 have k:=w _ mp
 obtain⟨t0,t1⟩:=k.tt
 obtain⟨u0,u1⟩:=k.Mh
 obtain⟨s0,s1⟩:=xf (q:=ps.getD j 0) λx hx=>(k.2 x hx).1
 rw[e]
 split <;>omega
theorem qo (n:Nat) (h:n<=31):(n+1)^ (n+1)<=2^ (5*n+5):=by
 have e:(2:Nat)^ (5*n+5)=32^ (n+1):=by rw[show 5*n+5=5* (n+1) by omega,Nat.pow_mul]
 rw[e]
 exact Nat.pow_le_pow_left (by omega) _
theorem AI (n M:Nat) (h:n<=31) (h1:1<=n):(n+1)^ (n+1)* (2^ (M+61)* (2^20)^n)<2^ (M+92*n):=by
 refine abb (abw _ (qo n h)) ?_
 rw[<-Nat.pow_mul,<-Nat.pow_add,<-Nat.pow_add]
 exact Nat.pow_lt_pow_right (by decide) (by omega)
theorem CY (n:Nat) (h:n<=31) (h1:1<=n):(n+1)^ (n+1)* (2^20)^n<2^ (92*n):=by
 refine abb (abw _ (qo n h)) ?_
 rw[<-Nat.pow_mul,<-Nat.pow_add]
 exact Nat.pow_lt_pow_right (by decide) (by omega)
noncomputable def putK (ps xs ts:List Int):Nat->List Int
 | 0=>ts
 | k+1=>(putK ps xs ts k).set (ps.getD k 0).toNat (xs.getD k 0)
theorem jF (ps xs ts:List Int):∀k,(putK ps xs ts k).length=ts.length
 | 0=>rfl
 | k+1=>by unfold putK;rw[aaU,jF ps xs ts k]
theorem uh {ps xs ts:List Int} {q:Int} (q0:0<=q) (hp:∀p∈ps,0<=p) (h:q∉ps):∀k,k<=ps.length->(putK ps xs ts k).getD q.toNat 0=ts.getD q.toNat 0
 | 0,_=>rfl
 | k+1,hk=>by
  have e:ps.getD k 0=ps[k]:=by rw[aae,aad (by omega)];rfl
  have m:=aao (l:=ps) (n:=k) (by omega)
  have:=hp _ m
  unfold putK
  rw[eO (λz=>h (by rw[e] at z;rw[show q=ps[k] by omega];exact m)),uh q0 hp h k (by omega)]
theorem xg {ps xs ts:List Int} {n:Nat} (nd:ps.Nodup) (hp:∀p∈ps,0<=p/\p< (n:Int)) (lt:ts.length=n) {j:Nat}:∀k,k<=ps.length->j<k->(putK ps xs ts k).getD (ps.getD j 0).toNat 0=xs.getD j 0
 | 0,_,h=>absurd h (abg _)
 | k+1,hk,h=>by
  have e:ps.getD k 0=ps[k]:=by rw[aae,aad (by omega)];rfl
  have ej:ps.getD j 0=ps[j]:=by rw[aae,aad (by omega)];rfl
  have m:=hp _ (aao (l:=ps) (n:=k) (by omega))
  have mj:=hp _ (aao (l:=ps) (n:=j) (by omega))
  unfold putK
  by_cases c:j=k
  ·subst c
   rw[gW (by rw[jF,lt,e];omega)]
  ·rw[eO ?_,xg nd hp lt k (by omega) (by omega)]
   rw[e,ej]
   intro z
   exact c ((abj nd).mp (show ps[j]=ps[k] by omega))
noncomputable def CZ (ps:List Int) (W:Int->Wy) (gt:List Int) (G:Int) (S T:Bk):Prop:=∃d,0<d/\T.2=S.2*d/\T.1.length=S.1.length/\(∀q,0<=q->q∉ps->T.1.getD q.toNat 0=S.1.getD q.toNat 0*d)/\
 ∀p∈ps,tt (W p)*T.1.getD p.toNat 0=tt (W p)*gt.getD p.toNat 0* (S.2 / G)*d+gG T.1 (W p)
structure Sz (n M:Nat) (S:Bk):Prop where
 len:S.1.length=n
 pos:0<S.2
 bb:Bt M S.2
 bt:∀q,Bt M (S.1.getD q 0)
theorem Sz.up {n M M':Nat} {S:Bk} (h:Sz n M S) (l:M<=M'):Sz n M' S:=⟨h.len,h.pos,h.bb.mono l,λq=>(h.bt q).mono l⟩
theorem DY {M:Nat} (ts:List Int) (h:∀q,Bt M (ts.getD q 0)):∀{ws:Wy},(∀x∈ws,1<=x.1)->(gG ts ws).natAbs<=(Wq.bS ws).toNat *2^M/\0<=Wq.bS ws
 | [],_=>⟨by show(0:Int).natAbs<=_;simp,aaH _⟩
 | x::ws,hw=>by
  obtain⟨ih,t0⟩:=DY ts h (ws:=ws) λy hy=>hw y (aak _ hy)
  have x0:=hw x aaj
  have e:(Wq.bS (x::ws)).toNat=x.1.toNat+ (Wq.bS ws).toNat:=by rw[cX];omega
  have m:(x.1*ts.getD x.2.toNat 0).natAbs<=x.1.toNat *2^M:=by
   rw[aaQ,show x.1.natAbs=x.1.toNat by omega]
   exact abv _ (Nat.le_of_lt (h _))
  refine⟨?_,by rw[cX];omega⟩
  rw[e,Nat.add_mul]
  show(x.1*ts.getD x.2.toNat 0+gG ts ws).natAbs<=_
  omega
theorem FN {M n:Nat} {ts:List Int} {ws:Wy} (h:∀q,Bt M (ts.getD q 0)) (w:xc n ws):Bt (M+20) (gG ts ws):=by
 obtain⟨a,_⟩:=DY ts h λx hx=>(w.2 x hx).1
 have t:=w.Mh
 have e:(2:Nat)^ (M+20)=1048576*2^M:=by rw[Nat.pow_add,Nat.mul_comm]
 have:(Wq.bS ws).toNat *2^M<=1000000*2^M:=abw _ (by omega)
 have:0<2^M:=Nat.pow_pos (by decide)
 unfold Bt
 omega
theorem AJ {M n:Nat} {S:Bk} {G g:Int} {ws:Wy} (h:Sz n M S) (w:xc n ws) (G0:0<G) (dv:G∣S.2) (hg:g.natAbs<=2^40*G.toNat):Bt (M+60) (tt ws*g* (S.2 / G))/\(tt ws*g* (S.2 / G)+gG S.1 ws).natAbs<=2^ (M+61):=by
 obtain⟨t0,t1⟩:=w.tt
 obtain⟨k,hk⟩:=dv
 have S0:=h.pos
 have ek:S.2 / G=k:=by rw[hk];exact Int.mul_ediv_cancel_left k (by omega)
 have k0:0<k:=by rw[hk] at S0;exact Int.pos_of_mul_pos_right S0 G0
 have eS:S.2.natAbs=G.toNat *k.toNat:=by rw[hk,aaQ];congr 1 <;>omega
 have b1:=h.bb
 unfold Bt at b1
 have g1:(g*k).natAbs<=2^40*S.2.natAbs:=by
  rw[aaQ,eS,<-Nat.mul_assoc,show k.natAbs=k.toNat by omega]
  exact abw _ hg
 have g2:(tt ws*g* (S.2 / G)).natAbs<=1000000* (2^40*S.2.natAbs):=by
  rw[ek,aaK,aaQ]
  exact Nat.mul_le_mul (by omega) g1
 have XR:(2:Nat)^ (M+60)=1152921504606846976*2^M:=by rw[Nat.pow_add,Nat.mul_comm]
 have XS:(2:Nat)^ (M+61)=2305843009213693952*2^M:=by rw[Nat.pow_add,Nat.mul_comm]
 have s:=FN h.bt w
 have e20:(2:Nat)^ (M+20)=1048576*2^M:=by rw[Nat.pow_add,Nat.mul_comm]
 unfold Bt at s ⊢
 rw[XR,XS]
 rw[e20] at s
 omega
theorem CZ.ne {ps:List Int} {W:Int->Wy} {gt:List Int} {G:Int} {S T:Bk} (h:CZ ps W gt G S T) (B0:0<S.2) {q:Int} (q0:0<=q) (hq:q∉ps):val T q=val S q:=by
 obtain⟨d,d0,e2,_,o,_⟩:=h
 unfold val
 rw[o q q0 hq,e2,Rat.intCast_mul,Rat.intCast_mul]
 have h1:=tY B0
 have h2:=tY d0
 generalize (S.2:Rat)=v at *
 generalize (d:Rat)=t at *
 generalize ((S.1.getD q.toNat 0:Int):Rat)=s at *
 grind
theorem CZ.eq {ps:List Int} {W:Int->Wy} {gt:List Int} {G:Int} {S T:Bk} (h:CZ ps W gt G S T) (B0:0<S.2) (G0:0<G) (dv:G∣S.2) {p:Int} (hp:p∈ps) (t0:0<tt (W p)):val T p=(gt.getD p.toNat 0:Rat) / (G:Rat)+cI (tt (W p)) (val T) (W p):=by
 obtain⟨d,d0,e2,_,_,o⟩:=h
 have T0:0<T.2:=by rw[e2];exact aaG B0 d0
 have e:=o p hp
 rw[<-t6 T0 t0 (W p)]
 obtain⟨k,hk⟩:=dv
 have ek:S.2 / G=k:=by rw[hk];exact Int.mul_ediv_cancel_left k (by omega)
 have k0:0<k:=by
  rw[hk] at B0
  exact Int.pos_of_mul_pos_right B0 G0
 unfold val
 rw[ek] at e
 have e':((tt (W p)*T.1.getD p.toNat 0:Int):Rat)=((tt (W p)*gt.getD p.toNat 0*k*d+gG T.1 (W p):Int):Rat):=by rw[e]
 rw[Rat.intCast_add,Rat.intCast_mul,Rat.intCast_mul,Rat.intCast_mul,Rat.intCast_mul] at e'
 rw[e2,hk]
 simp only[Rat.intCast_mul]
 have h1:=tY G0
 have h2:=tY d0
 have h3:=tY k0
 have h4:=tY t0
 generalize (k:Rat)=v at *
 generalize (G:Rat)=u at *
 generalize (d:Rat)=x at *
 generalize (tt (W p):Rat)=t at *
 generalize ((gt.getD p.toNat 0:Int):Rat)=s at *
 generalize ((gG T.1 (W p):Int):Rat)=r at *
 generalize ((T.1.getD p.toNat 0:Int):Rat)=y at *
 clear ek k0 hk e o T0 e2
 grind
theorem xi {d:Int} (d0:0<d) {v:Int->Rat} {M:Rat}:∀{ws:Wy},(∀x∈ws,1<=x.1/\v x.2<=M)->cI d v ws<=(Wq.bS ws:Rat) / (d:Rat)*M
 | [],_=>by show(0:Rat)<=((0:Int):Rat) / _*M;grind
 | x::ws,h=>by
  have ih:=xi d0 (v:=v) (M:=M) (ws:=ws) λy hy=>h y (aak _ hy)
  obtain⟨x1,x2⟩:=h x aaj
  show(x.1:Rat) / (d:Rat)*v x.2+cI d v ws<=((x.1+Wq.bS ws:Int):Rat) / (d:Rat)*M
  rw[Rat.intCast_add]
  have c:(0:Rat)<=(x.1:Rat) / (d:Rat):=by
   rw[Rat.div_def]
   exact Rat.le_of_lt (Rat.mul_pos (Rat.intCast_pos.mpr (by omega)) (Rat.inv_pos.mpr (Rat.intCast_pos.mpr (by omega))))
  have m:=Rat.mul_le_mul_of_nonneg_left x2 c
  generalize v x.2=a at *
  generalize cI d v ws=r at *
  generalize (x.1:Rat)=s at *
  generalize (Wq.bS ws:Rat)=t at *
  have e:(s+t) / (d:Rat)*M=s / (d:Rat)*M+t / (d:Rat)*M:=by grind
  rw[e]
  generalize s / (d:Rat)=u at *
  generalize t / (d:Rat)=w at *
  grind
theorem xk {d:Int} (d0:0<d) {v:Int->Rat} {M:Rat}:∀{ws:Wy},(∀x∈ws,1<=x.1/\v x.2<=M)->(∃x∈ws,v x.2<M)->cI d v ws< (Wq.bS ws:Rat) / (d:Rat)*M
 | [],_,h=>by obtain⟨x,hx,_⟩:=h;simp at hx
 | x::ws,h,k=>by
  have hw:∀y∈ws,1<=y.1/\v y.2<=M:=λy hy=>h y (aak _ hy)
  obtain⟨x1,x2⟩:=h x aaj
  show(x.1:Rat) / (d:Rat)*v x.2+cI d v ws< ((x.1+Wq.bS ws:Int):Rat) / (d:Rat)*M
  rw[Rat.intCast_add]
  have c:(0:Rat)< (x.1:Rat) / (d:Rat):=by
   rw[Rat.div_def]
   exact Rat.mul_pos (Rat.intCast_pos.mpr (by omega)) (Rat.inv_pos.mpr (Rat.intCast_pos.mpr (by omega)))
  have m:=Rat.mul_le_mul_of_nonneg_left x2 (Rat.le_of_lt c)
  have ih:=xi d0 hw
  have K2:(∃y∈ws,v y.2<M)->cI d v ws< (Wq.bS ws:Rat) / (d:Rat)*M:=λz=>xk d0 hw z
  have m2:v x.2<M->(x.1:Rat) / (d:Rat)*v x.2< (x.1:Rat) / (d:Rat)*M:=λz=>Rat.mul_lt_mul_of_pos_left z c
  have k2:v x.2<M\/∃y∈ws,v y.2<M:=by
   obtain⟨y,hy,ly⟩:=k
   rcases List.mem_cons.mp hy with rfl | hy
   ·exact .inl ly
   ·exact .inr ⟨y,hy,ly⟩
  generalize v x.2=a at *
  generalize cI d v ws=r at *
  generalize (x.1:Rat)=s at *
  generalize (Wq.bS ws:Rat)=t at *
  have e:(s+t) / (d:Rat)*M=s / (d:Rat)*M+t / (d:Rat)*M:=by grind
  rw[e]
  generalize s / (d:Rat)*M=u at *
  generalize t / (d:Rat)*M=w at *
  generalize s / (d:Rat)*a=z at *
  rcases k2 with k2 | k2
  ·have:=m2 k2
   grind
  ·have:=K2 k2
   grind
theorem xl (v:Int->Rat):∀(ps:List Int),ps≠[]->∃q∈ps,∀p∈ps,v p<=v q
 | [],h=>absurd rfl h
 | [a],_=>⟨a,List.mem_singleton.mpr rfl,λp hp=>by rw[List.mem_singleton.mp hp];exact Rat.le_refl⟩
 | a::b::l,_=>by
  obtain⟨q,hq,h⟩:=xl v (b::l) (by simp)
  rcases Rat.le_total (a:=v q) (b:=v a) with c | c
  ·refine⟨a,aaj,λp hp=>?_⟩
   rcases List.mem_cons.mp hp with rfl | hp
   ·exact Rat.le_refl
   ·exact Rat.le_trans (h p hp) c
  ·refine⟨q,aak _ hq,λp hp=>?_⟩
   rcases List.mem_cons.mp hp with rfl | hp
   ·exact c
   ·exact h p hp
theorem sub_zero {ps:List Int} {W:Int->Wy} {lv:Int->Nat} {v:Int->Rat} (h:∀p∈ps,v p<=cI (tt (W p)) v (W p)) (pos:∀p∈ps,∀x∈W p,1<=x.1) (out:∀p∈ps,∀x∈W p,x.2∉ps->v x.2<=0) (dn:∀p∈ps,W p=[]\/∃x∈W p,lv x.2<lv p):∀p∈ps,v p<=0:=by
 intro p0 G3
 obtain⟨q,hq,mx⟩:=xl v ps (List.ne_nil_of_mem G3)
 rcases Rat.le_total (a:=v q) (b:=0) with M0 | M0
 ·exact Rat.le_trans (mx p0 G3) M0
 ·by_cases z:v q=0
  ·rw[<-z];exact mx p0 G3
  ·exfalso
   have M1:0<v q:=by grind
   have all:∀p∈ps,∀x∈W p,v x.2<=v q:=λp hp x hx=>by
    by_cases c:x.2∈ps
    ·exact mx _ c
    ·exact Rat.le_trans (out p hp x hx c) M0
   have low:∀n,∀p∈ps,lv p<n->v p<v q:=by
    intro n
    induction n with
    | zero=>exact λp _ hl=>absurd hl (abg _)
    | succ n ih=>
     intro p hp hl
     have e:=h p hp
     rcases dn p hp with z | ⟨x,hx,lx⟩
     ·rw[z] at e
      have e:v p<=0:=e
      grind
     ·have et:tt (W p)=Wq.bS (W p):=by unfold tt;rw[if_neg (List.ne_nil_of_mem hx)]
      have tp:0<tt (W p):=by
       rw[et]
       obtain⟨s0,s1⟩:=xf (q:=x.2) (pos p hp)
       have:∀{ws:Wy},(∀y∈ws,1<=y.1)->x∈ws->0<Wq.bS ws:=by
        intro ws
        induction ws with
        | nil=>intro _ h;simp at h
        | cons y ws K2=>
         intro h1 h2
         have y1:=h1 y aaj
         have:=(xf (q:=x.2) λz hz=>h1 z (aak y hz))
         rw[cX]
         omega
       exact this (pos p hp) hx
      have k:=xk tp (v:=v) (M:=v q) (ws:=W p) (λy hy=>⟨pos p hp y hy,all p hp y hy⟩) ⟨x,hx,by
       by_cases c:x.2∈ps
       ·exact ih _ c (by omega)
       ·have:=out p hp x hx c
        grind⟩
      have one:(Wq.bS (W p):Rat) / (tt (W p):Rat)*v q=v q:=by
       have:=tY tp
       rw[et] at this ⊢
       generalize (Wq.bS (W p):Rat)=t at *
       grind
      rw[one] at k
      grind
   exact Rat.lt_irrefl (low _ q hq (aaM _))
theorem oB {d:Int} {v v':Int->Rat}:∀ws:Wy,cI d (λi=>v i - v' i) ws=cI d v ws - cI d v' ws
 | []=>by show(0:Rat)=0 - 0;grind
 | x::ws=>by
  have ih:=oB (d:=d) (v:=v) (v':=v') ws
  show(x.1:Rat) / (d:Rat)* (v x.2 - v' x.2)+cI d (λi=>v i - v' i) ws=(x.1:Rat) / (d:Rat)*v x.2+cI d v ws - ((x.1:Rat) / (d:Rat)*v' x.2+cI d v' ws)
  rw[ih]
  grind
end Dg
noncomputable def GS (p:Int×Int):Prop:=Bt 40 p.1/\Bt 20 p.2/\Wq.Lw p
noncomputable def uj (n:Nat):Pl->Prop
 | .fin g=>GS g
 | .dq g ws=>GS g/\0<ws.length/\Dg.xc n ws
 | .cC who to=>(who=1\/who=2)/\0<to.length/\to.length<=4/\∀g∈to,0<=g/\g< (n:Int)
noncomputable def xm (b:List Pl) (p:Int):Nat:=match b[p.toNat]? with | some (.cC _ to)=>to.length | _=>1
noncomputable def kc (b:List Pl):Nat->List Int->Nat
 | a,[]=>a
 | a,p::ps=>kc b (a*xm b p) ps
structure DZ (b:List Pl) (rk:Int->Nat):Prop where
 good:Lv.Good b
 dq:∀(i:Nat) g ws,b[i]?=some (.dq g ws)->∃x∈ws,rk x.2<rk (i:Int)
 cC:∀(i:Nat) w to,b[i]?=some (.cC w to)->∀g∈to,rk g<rk (i:Int)
structure kI (b:List Pl) (rk:Int->Nat):Prop where
 pos:0<b.length
 len:b.length<=16
 ok:∀q∈b,uj b.length q
 lG:DZ b rk
 yG:∀p,Pr.In b p->kc b 1 (Pr.cZ b p)<=4096
section LA
open Lv Bf
variable {b : List Pl} {rk : Int -> Nat} (D : DZ b rk)
include D
theorem DZ.lv:∀(m i:Nat),rk (i:Int)<m->i<b.length->lk (tE b) (i:Int)≠none
 | 0,_,h,_=>absurd h (abg _)
 | m+1,i,h,hi=>by
  have e:b[i]?=some b[i]:=aad hi
  have ih:∀g∈fU b[i],rk g<rk (i:Int)->lk (tE b) g≠none:=λg hg hr=>by
   obtain⟨h0,h1⟩:=D.good.oV _ (aag e) g hg
   obtain⟨j,rfl⟩:=aau h0
   exact DZ.lv m j (by omega) (by omega)
  have E:=zA D.good i _ e
  have nn:∀v,(tE b)[i]?=some (some v)->lk (tE b) (i:Int)≠none:=λv hv z=>by
   rw[Fe.mpr hv] at z
   cases z
  cases q:b[i] with
  | fin w=>rw[q] at E;exact nn _ E
  | dq w ws=>
   rw[q] at E ih e
   rcases E with ⟨_,a2⟩ | ⟨v,hv,_⟩
   ·obtain⟨x,hx,rx⟩:=D.dq i w ws e
    have m:x.2∈ws.map (·.2):=List.mem_map.mpr ⟨x,hx,rfl⟩
    exact absurd (a2 x.2 m) (ih x.2 m rx)
   ·exact nn v hv
  | cC w to=>
   rw[q] at E ih e
   rcases E with ⟨_,g,hg,a2⟩ | ⟨v,hv,_⟩
   ·exact absurd a2 (ih g hg (D.cC i w to e g hg))
   ·exact nn v hv
theorem DZ.ring:nZ b=[]:=by
 refine List.eq_nil_iff_forall_not_mem.mpr λi hi=>?_
 obtain⟨h1,h2⟩:=zY.mp hi
 exact D.lv _ i (aaM _) h1 h2
theorem DZ.within {p o:Int} (hp:Pr.In b p) (ho:o∈Pr.cZ b p) (ne:o≠p):∃g∈fg b p,g∈Pr.cZ b p:=by
 obtain⟨h1,h2⟩:=Pr.c7.mp ho
 obtain⟨ws,e⟩:=(Pr.vD D.good hp).mp h1
 cases ws with
 | nil=>cases e;exact absurd rfl ne
 | cons w ws=>
  have e:(match (fg b p)[w]? with | some g=>Bf.go b g ws | none=>none)=some o:=e
  cases c:(fg b p)[w]? with
  | none=>rw[c] at e;cases e
  | some g=>
   rw[c] at e
   have hg:=aag c
   have kg:=Pr.rA D.good hp (Pr.ie D.good hp) hg
   have ig:=Pr.og D.good hp kg
   have ko:o∈Pr.kb b g:=(Pr.vD D.good ig).mpr ⟨ws,e⟩
   exact⟨g,hg,Pr.c7.mpr ⟨kg,Pr.fy D.good ig ko h2⟩⟩
end LA
theorem vI (rk:Int->Nat):∀(ps:List Int),ps≠[]->∃q∈ps,∀p∈ps,rk q<=rk p
 | [],h=>absurd rfl h
 | [a],_=>⟨a,List.mem_singleton.mpr rfl,λp hp=>by rw[List.mem_singleton.mp hp];exact aah _⟩
 | a::b::l,_=>by
  obtain⟨q,hq,h⟩:=vI rk (b::l) (by simp)
  by_cases c:rk a<=rk q
  ·refine⟨a,aaj,λp hp=>?_⟩
   rcases List.mem_cons.mp hp with rfl | hp
   ·exact aah _
   ·exact aap c (h p hp)
  ·refine⟨q,aak _ hq,λp hp=>?_⟩
   rcases List.mem_cons.mp hp with rfl | hp
   ·omega
   ·exact h p hp
noncomputable def lH (b:List Pl) (p:Int):Bool:=match b[p.toNat]? with | some (.cC _ _)=>true | _=>false
set_option tactic.hygienic true in
theorem xn {b:List Pl} (h:∀p,xm b p<=4):∀(ps:List Int) (a:Nat),kc b a ps<=a*4^ (ps.filter (lH b)).length
 | [],a=>by show a<=a*1;omega
 | p::ps,a=>by
  have ih:=xn h ps (a*xm b p)
  refine aap (show kc b (a*xm b p) ps<=_ from ih) ?_
  by_cases c:lH b p=true
  ·rw[List.filter_cons_of_pos c,aaq,Nat.pow_succ]
   have:=abv a (h p)
   calc a*xm b p*4^ (ps.filter (lH b)).length<=a*4*4^ (ps.filter (lH b)).length:=abw _ this
    _=a* (4^ (ps.filter (lH b)).length*4):=by rw[Nat.mul_assoc,Nat.mul_comm 4]
  ·rw[List.filter_cons_of_neg c]
   have e:xm b p=1:=by
    unfold lH at c
    unfold xm
    split
    ·rename_i e;rw[e] at c;simp at c
    ·rfl
   rw[e,Nat.mul_one]
   exact aah _
set_option tactic.hygienic true in
theorem vJ {b:List Pl} (ok:∀q∈b,uj b.length q) (p:Int):1<=xm b p/\xm b p<=4:=by
 unfold xm
 split
 ·rename_i w to e
  have:=ok _ (aag e)
  exact⟨this.2.1,this.2.2.1⟩
 ·exact⟨aah _,by decide⟩
theorem xo {b:List Pl} (ok:∀q∈b,uj b.length q):∀(ps:List Int) (a:Nat),a<=kc b a ps
 | [],a=>aah _
 | p::ps,a=>aap (Nat.le_mul_of_pos_right a (vJ ok p).1) (xo ok ps _)
theorem FO {b:List Pl} {rk:Int->Nat} (D:DZ b rk) (ok:∀q∈b,uj b.length q) (l8:b.length<=8) {p:Int} (hp:Pr.In b p):kc b 1 (Pr.cZ b p)<=4096:=by
 refine aap (xn (λp=>(vJ ok p).2) _ _) ?_
 rw[Nat.one_mul]
 suffices h:((Pr.cZ b p).filter (lH b)).length<=6 by
  exact aap (aa6 (by decide) h) (by decide)
 have nd:(Pr.cZ b p).Nodup:=(Pr.j6 D.good hp).imp λh z=>by omega
 obtain⟨q,hq,mn⟩:=vI rk _ (Pr.iY D.good hp)
 have iq:=Pr.eF D.good hp hq
 by_cases one:∀o∈Pr.cZ b p,o=q
 ·have:=Pr.sub_len (l:=(Pr.cZ b p).filter (lH b)) (m:=[q]) (nd.filter _) λx hx=>List.mem_singleton.mpr (one x (List.mem_filter.mp hx).1)
  have:((Pr.cZ b p).filter (lH b)).length<=1:=this
  omega
 ·obtain⟨o,XT⟩:=Classical.not_forall.mp one
  obtain⟨ho,ne⟩:=Classical.not_imp.mp XT
  have ep:=Pr.rB D.good hp hq
  have wi:∀x,x∈Pr.cZ b p->∃g∈Bf.fg b x,g∈Pr.cZ b p:=λx hx=>by
   have ix:=Pr.eF D.good hp hx
   have ex:=Pr.rB D.good hp hx
   by_cases c:x=q
   ·subst c
    obtain⟨g,h1,h2⟩:=D.within ix (o:=o) (by rw[ex];exact ho) ne
    exact⟨g,h1,by rw[<-ex];exact h2⟩
   ·obtain⟨g,h1,h2⟩:=D.within ix (o:=q) (by rw[ex];exact hq) (λz=>c z.symm)
    exact⟨g,h1,by rw[<-ex];exact h2⟩
  have XU:∀x:Int,Pr.In b x->∃i:Nat,x=i/\∃pl,b[i]?=some pl/\Bf.fg b x=Lv.fU pl:=λx hx=>by
   obtain⟨i,rfl⟩:=aau hx.1
   have hi:i<b.length:=by have:=hx.2;omega
   refine⟨i,rfl,b[i],aad hi,?_⟩
   unfold Bf.fg
   rw[aai,aad hi]
  have zq:lH b q=false:=by
   obtain⟨i,rfl,pl,e,eg⟩:=XU q iq
   obtain⟨g,h1,h2⟩:=wi _ hq
   rw[eg] at h1
   unfold lH
   rw[aai,e]
   cases pl with
   | fin w=>rfl
   | dq w ws=>rfl
   | cC w to=>
    have:=D.cC i w to e g h1
    have:=mn g h2
    omega
  obtain⟨f,hf,mf⟩:=vI rk ((List.range b.length).map fun(i:Nat)=>(i:Int)) (by
   have:0<b.length:=by have:=hp.1;have:=hp.2;omega
   intro z
   have k:=congrArg List.length z
   rw[aac,aaz,abf] at k
   omega)
  obtain⟨f,XW,rfl⟩:=List.mem_map.mp hf
  have lf:=List.mem_range.mp XW
  have inr:∀g:Int,Pr.In b g->rk (f:Int)<=rk g:=λg hg=>by
   obtain⟨j,rfl⟩:=aau hg.1
   exact mf _ (List.mem_map.mpr ⟨j,List.mem_range.mpr (by have:=hg.2;omega),rfl⟩)
  have ef:∃w,b[f]?=some (.fin w):=by
   have e:b[f]?=some b[f]:=aad lf
   have rg:=D.good.oV _ (aag e)
   cases c:b[f] with
   | fin w=>exact⟨w,by rw[e,c]⟩
   | dq w ws=>
    rw[c] at e rg
    obtain⟨x,hx,rx⟩:=D.dq f w ws e
    have:=inr x.2 (rg _ (List.mem_map.mpr ⟨x,hx,rfl⟩))
    omega
   | cC w to=>
    rw[c] at e rg
    have ne:=D.good.cC _ (aag e) w to rfl
    obtain⟨g,hg⟩:=List.exists_mem_of_ne_nil _ ne
    have:=D.cC f w to e g hg
    have:=inr g (rg _ hg)
    omega
  obtain⟨w,ef⟩:=ef
  have nf:(f:Int)∉Pr.cZ b p:=λz=>by
   obtain⟨g,h1,_⟩:=wi _ z
   unfold Bf.fg at h1
   rw[aai,ef] at h1
   cases h1
  have:=Pr.sub_len (l:=(f:Int)::q::(Pr.cZ b p).filter (lH b)) (m:=(List.range b.length).map fun(i:Nat)=>(i:Int)) ?_ ?_
  ·rw[aaq,aaq,aac,aaz] at this
   omega
  ·refine List.nodup_cons.mpr ⟨λz=>?_,List.nodup_cons.mpr ⟨λz=>?_,nd.filter _⟩⟩
   ·rcases List.mem_cons.mp z with z | z
    ·exact nf (by rw[z];exact hq)
    ·exact nf (List.mem_filter.mp z).1
   ·have:=(List.mem_filter.mp z).2
    rw[zq] at this
    cases this
  ·intro x hx
   have ix:Pr.In b x:=by
    rcases List.mem_cons.mp hx with rfl | hx
    ·exact⟨by omega,by omega⟩
    ·rcases List.mem_cons.mp hx with rfl | hx
     ·exact iq
     ·exact Pr.eF D.good hp (List.mem_filter.mp hx).1
   obtain⟨j,rfl⟩:=aau ix.1
   exact List.mem_map.mpr ⟨j,List.mem_range.mpr (by have:=ix.2;omega),rfl⟩
noncomputable def uH:Pl->Option Int->Dg.Wy
 | .fin _,_=>[]
 | .dq _ ws,_=>ws
 | .cC _ to,k=>[(1,to.getD (k.getD 0).toNat 0)]
noncomputable def G4:Pl->Option Int->Prop
 | .cC _ to,some k=>0<=k/\k< (to.length:Int)
 | .cC _ _,none=>False
 | _,_=>True
theorem uj.sY {n:Nat} {q:Pl} (h:uj n q):(Lv.fU q).length<=5:=by
 cases q with
 | fin g=>exact aar _
 | dq g ws=>simp only[Lv.fU,aac];exact h.2.2.1
 | cC w to=>have:=h.2.2.1;show to.length<=5;omega
theorem D1 {n:Nat} {q:Pl} {k:Option Int} (h:uj n q) (hk:G4 q k):Dg.xc n (uH q k)/\∀x∈uH q k,x.2∈Lv.fU q:=by
 cases q with
 | fin g=>exact⟨⟨aar _,by simp [uH]⟩,by simp [uH]⟩
 | dq g ws=>exact⟨h.2.2,λx hx=>List.mem_map.mpr ⟨x,hx,rfl⟩⟩
 | cC w to=>
  cases k with
  | none=>exact hk.elim
  | some k=>
   have hl:k.toNat<to.length:=by have:=hk.1;have:=hk.2;omega
   have m:to.getD k.toNat 0∈to:=by rw[aae,aad hl];exact aao hl
   have e:uH (.cC w to) (some k)=[(1,to.getD k.toNat 0)]:=rfl
   rw[e]
   refine⟨⟨by show 1<=5;omega,λx hx=>?_⟩,λx hx=>?_⟩
   ·rw[List.mem_singleton.mp hx]
    exact⟨by show(1:Int)<=1;omega,by show(1:Int)<=200000;omega,h.2.2.2 _ m⟩
   ·rw[List.mem_singleton.mp hx]
    exact m
noncomputable def cw (b:List Pl) (ks:List (Option Int)):List Dg.Wy:=List.zipWith uH b ks
noncomputable def gB (b:List Pl):Int:=Wq.eZ 1 (b.map Wq.dz)
noncomputable def gT (b:List Pl):List Int:=(b.map Wq.dz).map (Wq.sc (gB b))
structure dU (b:List Pl) (ks:List (Option Int)):Prop where
 len:ks.length=b.length
 ok:∀(i:Nat) q k,b[i]?=some q->ks[i]?=some k->G4 q k
theorem dU.at {b:List Pl} {ks:List (Option Int)} (h:dU b ks) {i:Nat} (hi:i<b.length):∃q k,b[i]?=some q/\ks[i]?=some k/\G4 q k/\cn (cw b ks) (i:Int)=uH q k:=by
 have e1:b[i]?=some b[i]:=aad hi
 have hk:i<ks.length:=by rw[h.len];exact hi
 have e2:ks[i]?=some ks[i]:=aad hk
 refine⟨_,_,e1,e2,h.ok i _ _ e1 e2,?_⟩
 unfold cn cw
 rw[aai,aae,abx,e1,e2]
 rfl
noncomputable def EqAt (b:List Pl) (ks:List (Option Int)) (p:Nat) (v:Int->Rat):Prop:=∀q k,b[p]?=some q->ks[p]?=some k->v (p:Int)=Dg.vl (Wq.dz q)+Dg.cI (Dg.tt (uH q k)) v (uH q k)
theorem mJ {n:Nat} {q:Pl} (h:uj n q):GS (Wq.dz q):=by
 cases q with
 | fin g=>exact h
 | dq g ws=>exact h.1
 | cC w to=>exact⟨by show Bt 40 0;exact Bt.of 1 (by decide) (by decide),by show Bt 20 1;exact Bt.of 1 (by decide) (by decide),by show(0:Int)<1;decide,by show Nm.g 0 1=1;decide⟩
noncomputable def pB (xs:List Wq.Sh):Int:=xs.foldr (λx y=>x.2*y) 1
theorem AK:∀{xs:List Wq.Sh},(∀x∈xs,GS x)->0<pB xs/\Bt (20*xs.length+1) (pB xs)/\∀x∈xs,x.2∣pB xs
 | [],_=>⟨by decide,Bt.of 1 (by decide) (by decide),by simp⟩
 | x::xs,h=>by
  obtain⟨h1,h2,h3⟩:=AK (xs:=xs) λy hy=>h y (aak _ hy)
  have g:=h x aaj
  refine⟨aaG g.2.2.1 h1,?_,λy hy=>?_⟩
  ·have:=g.2.1.mul h2
   rw[show 20* (x::xs).length+1=20+ (20*xs.length+1) by rw[aaq];omega]
   exact this
  ·rcases List.mem_cons.mp hy with rfl | hy
   ·exact Int.dvd_mul_right _ _
   ·exact Int.dvd_trans (h3 y hy) (Int.dvd_mul_left _ _)
section WE
variable {b : List Pl} {rk : Int -> Nat} (B : kI b rk)
include B
theorem kI.sY:∀q∈b,(Lv.fU q).length<=100:=λq hq=>by have:=(B.ok q hq).sY;omega
theorem kI.bd:Bd b:=⟨by have:=B.len;omega,B.sY,B.lG.good⟩
theorem kI.xp:∀x∈b.map Wq.dz,GS x:=λx hx=>by
 obtain⟨q,hq,rfl⟩:=List.mem_map.mp hx
 exact mJ (B.ok q hq)
theorem kI.bot:0<gB b/\Bt 321 (gB b)/\∀q∈b,(Wq.dz q).2∣gB b:=by
 obtain⟨p1,p2,p3⟩:=AK B.xp
 obtain⟨l1,l2,l3,l4⟩:=Wq.mB (xs:=b.map Wq.dz) (c:=1) (by decide) λx hx=>(B.xp x hx).2.2.1
 have d:=l4 (Z:=pB (b.map Wq.dz)) ⟨pB (b.map Wq.dz),by omega⟩ p3
 rw[aac] at p2
 have bl:=B.len
 exact⟨l1,(p2.mono (by omega)).le (by have:=Int.le_of_dvd p1 d;have:0<gB b:=l1;unfold gB at *;omega),λq hq=>l3 _ (List.mem_map.mpr ⟨q,hq,rfl⟩)⟩
theorem kI.top (p:Nat):((gT b).getD p 0).natAbs<=2^40* (gB b).toNat:=by
 obtain⟨g0,g1,g2⟩:=B.bot
 unfold gT
 rw[aae,aaf,aaf]
 cases e:b[p]? with
 | none=>exact aar _
 | some q=>
  have hq:=aag e
  obtain⟨h1,h2,h3⟩:=mJ (B.ok q hq)
  show(Wq.sc (gB b) (Wq.dz q)).natAbs<=_
  have:=Nm.dN (a:=gB b) h3.1 (g2 q hq)
  unfold Wq.sc
  unfold Bt at h1
  rw[aaQ]
  exact Nat.mul_le_mul (by omega) (by omega)
theorem kI.gV {p:Nat} {q:Pl} (e:b[p]?=some q):((gT b).getD p 0:Rat) / (gB b:Rat)=Dg.vl (Wq.dz q):=by
 obtain⟨g0,g1,g2⟩:=B.bot
 have hq:=aag e
 obtain⟨h1,h2,h4⟩:=mJ (B.ok q hq)
 have ee:(gT b).getD p 0=Wq.sc (gB b) (Wq.dz q):=by
  unfold gT
  rw[aae,aaf,aaf,e]
  rfl
 rw[ee]
 exact(Dg.tZ h4.1 g0 (Wq.iU (g2 q hq)).symm).symm
theorem kI.dn {ks:List (Option Int)} (ko:dU b ks) {p:Int} (hp:Pr.In b p):cn (cw b ks) p=[]\/∃x∈cn (cw b ks) p,rk x.2<rk p:=by
 obtain⟨i,rfl⟩:=aau hp.1
 obtain⟨q,k,e1,e2,po,ew⟩:=ko.at (i:=i) (by have:=hp.2;omega)
 rw[ew]
 cases q with
 | fin g=>exact .inl rfl
 | dq g ws=>exact .inr (B.lG.dq i g ws e1)
 | cC w to=>
  have h:=(D1 (B.ok _ (aag e1)) po).2
  refine .inr ⟨_,List.mem_singleton.mpr rfl,B.lG.cC i w to e1 _ (h _ (List.mem_singleton.mpr rfl))⟩
theorem kI.wk {ks:List (Option Int)} (ko:dU b ks) {p:Int} (hp:Pr.In b p):Dg.xc b.length (cn (cw b ks) p)/\∀x∈cn (cw b ks) p,x.2∈Bf.fg b p:=by
 obtain⟨i,rfl⟩:=aau hp.1
 obtain⟨q,k,e1,e2,po,ew⟩:=ko.at (i:=i) (by have:=hp.2;omega)
 rw[ew]
 have h:=D1 (B.ok _ (aag e1)) po
 refine⟨h.1,λx hx=>?_⟩
 unfold Bf.fg
 rw[aai,e1]
 exact h.2 x hx
noncomputable def xq (b:List Pl) (ps:List Int) (p:Int):Nat:=ps.idxOf (Pr.rep b p)
variable {ps : List Int} (T : Pr.Told b ps)
include T
theorem vK {i:Nat} {h p:Int} (e:ps[i]?=some h) (hp:p∈Pr.cZ b h):xq b ps p=i:=by
 have ih:=T.IA (aag e)
 unfold xq
 rw[Pr.rE B.lG.good ih hp,T.rp (aag e)]
 have l:=aaR (aag e)
 obtain⟨hi,C0⟩:=List.getElem?_eq_some_iff.mp e
 exact(abj T.nd).mp ((aaX l).trans C0.symm)
theorem II {i:Nat} {h p:Int} (e:ps[i]?=some h) (hp:Pr.In b p) (z:xq b ps p=i):p∈Pr.cZ b h:=by
 have m:=T.has B.lG.good hp
 have l:=aaR m
 have e2:ps[xq b ps p]?=some (Pr.rep b p):=by unfold xq;rw[aad l,aaX l]
 rw[z,e] at e2
 cases e2
 rw[Pr.rC B.lG.good hp]
 exact Pr.oi B.lG.good hp
theorem IJ {p:Int} (hp:Pr.In b p):xq b ps p<ps.length:=aaR (T.has B.lG.good hp)
theorem C1 {p g:Int} (hp:Pr.In b p) (hg:g∈Bf.fg b p):xq b ps g<=xq b ps p/\Pr.In b g:=by
 have k:=Pr.rA B.lG.good hp (Pr.ie B.lG.good hp) hg
 exact⟨T.Fu B.lG.good hp k,Pr.og B.lG.good hp k⟩
theorem AL {i:Nat} (hi:i<=ps.length):Pr.off b ps i<=b.length:=by
 have h1:Pr.off b ps ps.length=b.length:=by
  rw[Pr.CL]
  have:=congrArg List.length (T.Ad B.lG.good)
  rw[(Nm.fu _).length_eq,aac,aac,aaz] at this
  exact this
 have mono:∀k,i+k<=ps.length->Pr.off b ps i<=Pr.off b ps (i+k):=by
  intro k
  induction k with
  | zero=>intro _;exact aah _
  | succ k ih=>
   intro h
   rw[show i+ (k+1)=i+k+1 by omega,Pr.oj (aad (show i+k<ps.length by omega))]
   have:=ih (by omega)
   omega
 have:=mono (ps.length - i) (by omega)
 rw[show i+ (ps.length - i)=ps.length by omega,h1] at this
 exact this
end WE
structure FP (b:List Pl) (ks:List (Option Int)) (ps:List Int) (i:Nat) (S:Dg.Bk):Prop where
 sz:Dg.Sz b.length (330+92*Pr.off b ps i) S
 dv:gB b∣S.2
 eq:∀p:Nat,p<b.length->xq b ps (p:Int)<i->EqAt b ks p (Dg.val S)
 zr:∀p:Int,Pr.In b p->i<=xq b ps p->S.1.getD p.toNat 0=0
theorem FP.start {b:List Pl} {rk:Int->Nat} {ks:List (Option Int)} {ps:List Int} (B:kI b rk):FP b ks ps 0 (List.replicate b.length 0,gB b):=by
 obtain⟨g0,g1,g2⟩:=B.bot
 have z:∀q,(List.replicate b.length (0:Int)).getD q 0=0:=λq=>by
  rw[aae,List.getElem?_replicate]
  split <;>simp
 refine⟨⟨abe,g0,g1.mono (by omega),λq=>?_⟩,abc _,λp _ h=>absurd h (abg _),λp _ _=>z _⟩
 show Bt _ ((List.replicate b.length (0:Int)).getD q 0)
 rw[z]
 exact Bt.mono (m:=1) (Bt.of 1 (by decide) (by decide)) (by omega)
theorem xt {S:Dg.Bk} (h:0<S.2) (q:Int) (hq:q.toNat<S.1.length):Dg.vl (Wq.fh (S.1.map λt=>Wq.low t S.2) q)=Dg.val S q:=by
 unfold Wq.fh Dg.val
 rw[aae,aaf,aae,aad hq]
 exact Dg.rF h
noncomputable def vL (tp:Addr):Sp:=λvs H Q _=>∃(a:Addr) (b:List Pl) (rk:Int->Nat),vs=[.ref a]/\Rep H (qN b) (.ref a)/\kI b rk/\H tp=some (.rX dsc)/\
 ∀l ps as H',Pr.Told b ps->az H H'->H l=none->H' l=some (.lst (List.map V.ref as))->Al (λp v=>∃x,v=.ref x/\H' x=some (.lst ((Pr.cZ b p).map V.int))) ps (as.map V.ref)->Q (.ref l) H'
noncomputable def vM:Sp:=λvs H Q _=>∃(a x:Addr) (b:List Pl) (ps:List Int),vs=[.ref a,.ref x]/\Rep H (qN b) (.ref a)/\H x=some (.lst (ps.map V.int))/\(∀p∈ps,Pr.In b p)/\(∀q∈b,uj b.length q)/\kc b 1 ps<=4096/\Q (.int (kc b 1 ps)) H
noncomputable def uk:Sp:=λvs H Q _=>∃(v:V) (q:Pl) (k:Option Int),vs=[v,gE k]/\Rep H (kY q) v/\G4 q k/\∀l H',az H H'->Rep H' (qk (uH q k)) (.ref l)->Q (.ref l) H'
noncomputable def IK:Sp:=λvs H Q _=>∃(a c:Addr) (b:List Pl) (ks:List (Option Int)),vs=[.ref a,.ref c]/\Rep H (qN b) (.ref a)/\b.length<=60/\H c=some (.lst (ks.map gE))/\dU b ks/\
 ∀l xs H',az H H'->H l=none->H' l=some (.lst xs)->bf (cE H' l) ((cw b ks).map qk) xs->Q (.ref l) H'
noncomputable def AM (C:Addr):Sp:=λvs H Q _=>∃(a:Addr) (b:List Pl) (rk:Int->Nat),vs=[.ref a]/\Rep H (qN b) (.ref a)/\kI b rk/\∀x H',az H H'->mI C H' x (gT b,gB b)->Q (.ref x) H'
noncomputable def D2 (C:Addr):Sp:=λvs H Q _=>∃(bk gn pt wl:Addr) (S:Dg.Bk) (gt:List Int) (G:Int) (ps:List Int) (n M:Nat) (xs:List V) (fK:List Dg.Wy) (lv:Int->Nat),vs=[.ref bk,.ref gn,.ref pt,.ref wl]/\mI C H bk S/\mI C H gn (gt,G)/\H pt=some (.lst (ps.map V.int))/\H wl=some (.lst xs)/\bf H (fK.map qk) xs/\
 fK.length=n/\n<=16/\ps.Nodup/\0<ps.length/\ps.length<=16/\(∀p∈ps,0<=p/\p< (n:Int))/\(∀ws∈fK,Dg.xc n ws)/\(∀p∈ps,cn fK p=[]\/∃x∈cn fK p,lv x.2<lv p)/\
 Dg.Sz n M S/\M+92*ps.length<3900/\gt.length=n/\0<G/\Bt 400 G/\G∣S.2/\(∀q,(gt.getD q 0).natAbs<=2^40*G.toNat)/\(∀p∈ps,S.1.getD p.toNat 0=0)/\
 ∀x T H',az H H'->mI C H' x T->Dg.CZ ps (cn fK) gt G S T->Dg.Sz n (M+92*ps.length) T->Q (.ref x) H'
noncomputable def FQ (K:PySem.W.Frag):Sp:=λvs H Q _=>∃a ns k,vs=[.ref a,.int k]/\bo K H a (List.map V.int ns)/\0<=k/\k<1000/\∀n,Q (.int n) H
noncomputable def eP:Sp:=λvs H Q _=>∃c m,vs=[.int c,.int m]/\0<m/\∀r,0<=r->r<m->Q (.int r) H
noncomputable def jG:Sp:=λvs H Q _=>∃a b,vs=[.int a,.int b]/\0<b/\Bt 8900 b/\∀p H',az H H'->H p=none->H' p=some (.tup (Pr (Nm.st a b) (Nm.sb a b)))->Q (.ref p) H'
noncomputable def Rm (a:Wq.Sh):Prop:=Bt 4000 a.1/\Bt 4000 a.2/\0<a.2
noncomputable def qp:Sp:=λvs H Q _=>∃p q a b,vs=[.ref p,.ref q]/\H p=some (.tup (Pr a.1 a.2))/\H q=some (.tup (Pr b.1 b.2))/\Rm a/\Rm b/\
 ∀r H',az H H'->H r=none->H' r=some (.tup (Pr (Wq.pl a b).1 (Wq.pl a b).2))->Q (.ref r) H'
noncomputable def qq:Sp:=λvs H Q _=>∃p q a b,vs=[.ref p,.ref q]/\H p=some (.tup (Pr a.1 a.2))/\H q=some (.tup (Pr b.1 b.2))/\Rm a/\Rm b/\
 ∀r H',az H H'->H r=none->H' r=some (.tup (Pr (Wq.tm a b).1 (Wq.tm a b).2))->Q (.ref r) H'
noncomputable def AN:Sp:=λvs H Q _=>∃c n,vs=[.int c,.int n]/\0<n/\n<=60/\∀l H' s,az H H'->H l=none->H' l=some (.lst (List.map eK s))->s.Perm (List.range n.toNat)->Q (.ref l) H'
noncomputable def jh (Z M:Int) (x:Wq.Sh):Prop:=Wq.Lw x/\x.2∣Z/\Wq.Vb M x
noncomputable def AO (s:List Nat) (k:Nat) (q:Pl):Prop:=uj s.length q/\match q with
 | .fin _=>True
 | .dq _ ws=>∃x∈ws,∃j,j<k/\s[j]?=some x.2.toNat
 | .cC _ to=>∀g∈to,∃j,j<k/\s[j]?=some g.toNat
noncomputable def WT (H:Hp) (n:Int) (x:V):Prop:=∃q w t,x=.ref q/\H q=some (.tup [.int w,.int t])/\(1<=w/\w<=200000)/\0<=t/\t<n
theorem WT.mono {H H':Hp} {n:Int} {x:V} (s:az H H') (h:WT H n x):WT H' n x:=by
 obtain⟨q,w,t,e,hq,r⟩:=h
 exact⟨q,w,t,e,s _ _ hq,r⟩
theorem WT.put {H:Hp} {n:Int} {x:V} {p:Addr} {xs:List V} {o:HO} (hp:H p=some (.lst xs)) (h:WT H n x):WT (upd H p o) n x:=by
 obtain⟨q,w,t,e,hq,r⟩:=h
 refine⟨q,w,t,e,?_,r⟩
 rw[aH (λz=>by rw[z,hp] at hq;cases hq)]
 exact hq
theorem C3 {α:Type} {H:Hp} {f:α->Dat} {P:Nat->α->Prop}:∀{xs:List V},(∀(i:Nat) x,xs[i]?=some x->∃a,Rep H (f a) x/\P i a)->∃as:List α,bf H (as.map f) xs/\as.length=xs.length/\∀(i:Nat) a,as[i]?=some a->P i a:=by
 intro xs h
 have hc:∀i:Nat,∃a:Option α,∀x,xs[i]?=some x->∃a',a=some a'/\Rep H (f a') x/\P i a':=λi=>by
  cases e:xs[i]? with
  | none=>exact⟨none,λx z=>by cases z⟩
  | some x=>
   obtain⟨a,h1,h2⟩:=h i x e
   exact⟨some a,λy z=>by cases z;exact⟨a,rfl,h1,h2⟩⟩
 have ⟨g,hg⟩:=Classical.axiomOfChoice hc
 have key:∀n,n<=xs.length->∃as:List α,as.length=n/\∀(i:Nat) a,as[i]?=some a->g i=some a:=by
  intro n
  induction n with
  | zero=>exact λ_=>⟨[],rfl,λi a e=>by simp at e⟩
  | succ n ih=>
   intro hn
   obtain⟨as,l,o⟩:=ih (by omega)
   obtain⟨a,ea,_⟩:=hg n _ (aad (show n<xs.length by omega))
   refine⟨as++ [a],by simp [l],λi b e=>?_⟩
   by_cases c:i<as.length
   ·rw[aa5 c] at e
    exact o i b e
   ·rw[aa4 (by omega)] at e
    have:i - as.length<1:=(List.getElem?_eq_some_iff.mp e).1
    rw[show i - as.length=0 by omega] at e
    cases e
    rw[show i=n by omega]
    exact ea
 obtain⟨as,l,o⟩:=key xs.length (aah _)
 refine⟨as,dh l.symm λi y ey a ea=>?_,l,λi a ea=>?_⟩
 ·obtain⟨a',e1,r,_⟩:=hg i y ey
  rw[o i a ea] at e1
  cases e1
  exact r
 ·have hi:=(List.getElem?_eq_some_iff.mp ea).1
  obtain⟨a',e1,_,p⟩:=hg i _ (aad (show i<xs.length by omega))
  rw[o i a ea] at e1
  cases e1
  exact p
noncomputable def AQ:Sp:=λvs H Q _=>∃c k,vs=[.int c,.int k]/\0<=k/\k<1000/\∀p H' a,az H H'->H p=none->H' p=some (.tup (Pr a.1 a.2))->GS a->Q (.ref p) H'
noncomputable def AR:Sp:=λvs H Q _=>∃c k n,vs=[.int c,.int k,.int n]/\0<k/\k<n/\∀l H' xs,az H H'->H' l=some (.lst xs)->(∀x∈xs,WT H' n x)->(∃x∈xs,WT H' k x)->0<xs.length->xs.length<=5->Q (.ref l) H'
noncomputable def D3 (K:PySem.W.Frag):Sp:=λvs H Q _=>∃(a:Addr) (ns:List Int) (n:Nat),vs=[.ref a,.int 2,.int (n:Int)]/\bo K H a (List.map V.int ns)/\0<n/\n<=8/\∀l H' (b:List Pl) rk,az H H'->H l=none->Rep H' (qN b) (.ref l)->b.length=n->kI b rk->Q (.ref l) H'
noncomputable def gI (S:Dg.Bk):List Wq.Sh:=S.1.map λt=>Wq.low t S.2
noncomputable def xu (K:PySem.W.Frag) (tp:Addr):Sp:=λvs H Q _=>∃(a:Addr) (ns:List Int),vs=[.ref a]/\H tp=some (.rX dsc)/\bo K H a (ns.map V.int)/\ns.length<=63/\∀H',Q (.bl true) H'
theorem IL {s:List Nat} {b:List Pl} (pm:s.Perm (List.range s.length)) (l0:0<s.length) (l8:s.length<=8) (lb:b.length=s.length) (ok:∀(k:Nat) p q,s[k]?=some p->b[p]?=some q->AO s k q):kI b (λg=>s.idxOf g.toNat):=by
 have at_:∀{p:Nat},p<b.length->∃k,s[k]?=some p:=λhp=>aaD (pm.mem_iff.mpr (List.mem_range.mpr (by omega)))
 have G5:∀q∈b,uj b.length q:=λq hq=>by
  obtain⟨p,ep⟩:=aaD hq
  obtain⟨k,ek⟩:=at_ (List.getElem?_eq_some_iff.mp ep).1
  rw[lb]
  exact(ok k p q ek ep).1
 have lG:DZ b (λg=>s.idxOf g.toNat):=by
  refine⟨⟨λq hq g hg=>?_,λq hq w to e=>?_⟩,λi g ws e=>?_,λi w to e g hg=>?_⟩
  ·have:=G5 q hq
   cases q with
   | fin w=>simp [Lv.fU] at hg
   | dq w ws=>
    obtain⟨x,hx,rfl⟩:=List.mem_map.mp hg
    exact(this.2.2.2 x hx).2.2
   | cC w to=>exact this.2.2.2 g hg
  ·subst e
   have:=(G5 _ hq).2.1
   exact λz=>by rw[z] at this;cases this
  ·obtain⟨k,ek⟩:=at_ (List.getElem?_eq_some_iff.mp e).1
   obtain⟨x,hx,j,jk,ej⟩:=(ok k i _ ek e).2
   refine⟨x,hx,?_⟩
   show s.idxOf x.2.toNat<s.idxOf ((i:Int)).toNat
   rw[aai,Lv.qS pm ej,Lv.qS pm ek]
   exact jk
  ·obtain⟨k,ek⟩:=at_ (List.getElem?_eq_some_iff.mp e).1
   obtain⟨j,jk,ej⟩:=(ok k i _ ek e).2 g hg
   show s.idxOf g.toNat<s.idxOf ((i:Int)).toNat
   rw[aai,Lv.qS pm ej,Lv.qS pm ek]
   exact jk
 exact⟨by omega,by omega,G5,lG,λp hp=>FO lG G5 (by omega) hp⟩
theorem IM {M N:Int} {x:Wq.Sh} (h:Wq.Vb M x) (l:M<=N) (x0:0<x.2):Wq.Vb N x:=by
 have:=Int.mul_le_mul_of_nonneg_right l (show 0<=x.2 by omega)
 unfold Wq.Vb at h ⊢
 omega
theorem jh.rm {Z M:Int} {x:Wq.Sh} (h:jh Z M x) (Z0:0<Z) (bZ:Bt 1950 Z) (M0:0<=M) (bM:Bt 1950 M):Rm x:=by
 obtain⟨lx,d,v⟩:=h
 have l0:=lx.1
 have b2:Bt 1950 x.2:=bZ.le (by have:=Int.le_of_dvd Z0 d;omega)
 have b1:Bt 3900 (M*x.2):=bM.mul b2
 exact⟨Bt.mono (b1.le (by obtain⟨v1,v2⟩:=v;omega)) (by decide),b2.mono (by decide),l0⟩
theorem jh.up {Z Z' M M':Int} {x:Wq.Sh} (h:jh Z M x) (hZ:Z∣Z') (hM:M<=M'):jh Z' M' x:=⟨h.1,Int.dvd_trans h.2.1 hZ,IM h.2.2 hM h.1.1⟩
theorem FR {w d:Int} (w0:0<=w) (w1:w<=1000000) (d0:0<d) (d1:d<=1000000):Rm (Wq.low w d):=by
 have g0:0<Nm.g w d:=Nm.iC (by omega)
 have q1:=Nm.dN (a:=w) g0 (Nm.jt w d)
 have q2:=Nm.dN (a:=d) g0 (Nm.eM w d)
 have e1:(Wq.low w d).1=w / Nm.g w d:=(Nm.nh d0).1
 have e2:(Wq.low w d).2=d / Nm.g w d:=(Nm.nh d0).2
 have lw:=Wq.iV (a:=w) d0
 exact⟨Bt.mono (m:=20) (Bt.of 1000000 (by omega) (by omega)) (by decide),Bt.mono (m:=20) (Bt.of 1000000 (by omega) (by omega)) (by decide),lw.1⟩
theorem FT {ss:List Wq.Sh} {q:Int} (h0:0<=q) (h:q< (ss.length:Int)):ss[q.toNat]?=some (Wq.fh ss q):=by
 unfold Wq.fh
 rw[aae,aad (show q.toNat<ss.length by omega)]
 rfl
theorem IP {ws:Dg.Wy} (h:∀y∈ws,1<=y.1) {x:Int×Int} (hx:x∈ws):x.1<=Dg.tt ws:=by
 have go:∀{ws:Dg.Wy},(∀y∈ws,1<=y.1)->0<=Wq.bS ws/\∀{x:Int×Int},x∈ws->x.1<=Wq.bS ws:=by
  intro ws
  induction ws with
  | nil=>exact λ_=>⟨aaH _,λhx=>by simp at hx⟩
  | cons y ws ih=>
   intro h
   obtain⟨i1,i2⟩:=ih λz hz=>h z (aak _ hz)
   have h1:=h y aaj
   rw[Dg.cX]
   refine⟨by omega,λhx=>?_⟩
   rcases List.mem_cons.mp hx with rfl | hx
   ·omega
   ·have:=i2 hx
    omega
 unfold Dg.tt
 rw[if_neg (List.ne_nil_of_mem hx)]
 exact(go h).2 hx
theorem IQ {g:Int×Int} (gw:GS g):Wq.Vb (2^40) g:=by
 have h1:=gw.1
 have h2:=gw.2.2.1
 unfold Bt at h1
 have:(2:Int)^40*1<=2^40*g.2:=Int.mul_le_mul_of_nonneg_left (by omega) (by decide)
 unfold Wq.Vb
 omega
theorem qr {H H':Hp} {ws:List Wq.Sh} {l:Addr} (h:Rep H (.lst (ws.map bB)) (.ref l)) (kl:∀xs,H l=some (.lst xs)->H' l=some (.lst xs)) (kt:∀x vs,H x=some (.tup vs)->H' x=some (.tup vs)):Rep H' (.lst (ws.map bB)) (.ref l):=by
 obtain⟨_,xs,e,hl,rl⟩:=aQ.mp h
 cases e
 have lx:=rl.length
 rw[aac] at lx
 refine aQ.mpr ⟨l,xs,rfl,kl _ hl,dh lx.symm λi y ey a ea=>?_⟩
 obtain⟨d,ed,rd⟩:=rl.get ey
 rw[aaf,ea] at ed
 cases ed
 obtain⟨p,rfl,hp⟩:=bQ.mp rd
 exact bQ.mpr ⟨p,rfl,kt _ _ hp⟩
theorem qt {α:Type} [DecidableEq α]:∀{l m:List α},l.Nodup->(∀x∈l,x∈m)->l.length<=m.length
 | [],_,_,_=>aar _
 | x::l,m,nd,h=>by
  have hx:=h x aaj
  have ih:=qt (l:=l) (m:=m.erase x) (List.nodup_cons.mp nd).2 λy hy=>by
   have ne:y≠x:=λz=>(List.nodup_cons.mp nd).1 (z▸hy)
   exact(List.mem_erase_of_ne ne).mpr (h y (aak _ hy))
  rw[List.length_erase_of_mem hx] at ih
  have:0<m.length:=List.length_pos_of_mem hx
  rw[aaq]
  omega
noncomputable def K6:Pl->Int->Bool
 | .cC w _,who=>decide (w=who)
 | _,_=>false
noncomputable def MI:Pl->List (Option Int)
 | .cC _ to=>(List.range to.length).map fun(i:Nat)=>some (i:Int)
 | _=>[some 0]
noncomputable def yv:List Pl->List (List (Option Int))
 | []=>[[]]
 | q::b=>((MI q).map λk=>(yv b).map λt=>k::t).flatten
structure vN (b:List Pl) (ks:List (Option Int)):Prop where
 pk:dU b ks
 cB:∀(i:Nat) q k,b[i]?=some q->ks[i]?=some k->(∀w to,q≠.cC w to)->k=some 0
theorem vN.mem:∀{b:List Pl} {ks:List (Option Int)},vN b ks->ks∈yv b
 | [],ks,h=>by
  have:=h.pk.len
  cases ks with
  | nil=>exact List.mem_singleton.mpr rfl
  | cons k ks=>simp at this
 | q::b,[],h=>by have:=h.pk.len;simp at this
 | q::b,k::ks,h=>by
  have ih:=vN.mem (b:=b) (ks:=ks) ⟨⟨by have:=h.pk.len;simpa using this,λi q k e1 e2=>h.pk.ok (i+1) q k e1 e2⟩,λi q k e1 e2=>h.cB (i+1) q k e1 e2⟩
  have po:=h.pk.ok 0 q k rfl rfl
  refine List.mem_flatten.mpr ⟨_,List.mem_map.mpr ⟨k,?_,rfl⟩,List.mem_map.mpr ⟨ks,ih,rfl⟩⟩
  cases q with
  | fin g=>exact List.mem_singleton.mpr (h.cB 0 _ _ rfl rfl (by intro w to z;cases z))
  | dq g ws=>exact List.mem_singleton.mpr (h.cB 0 _ _ rfl rfl (by intro w to z;cases z))
  | cC w to=>
   cases k with
   | none=>exact po.elim
   | some k=>
    obtain⟨k0,k1⟩:=po
    exact List.mem_map.mpr ⟨k.toNat,List.mem_range.mpr (by omega),by rw[aby k0]⟩
section PO
variable {b : List Pl} {rk : Int -> Nat} (B : kI b rk) {ps : List Int} {g u : Int -> Rat}
structure sj (b:List Pl) (ps:List Int) (g u:Int->Rat) (ks:List (Option Int)) (v:Int->Rat):Prop where
 eq:∀p∈ps,v p=g p+Dg.cI (Dg.tt (cn (cw b ks) p)) v (cn (cw b ks) p)
 out:∀q,0<=q->q∉ps->v q=u q
noncomputable def kf (b:List Pl) (g:Int->Rat) (ks:List (Option Int)) (v:Int->Rat) (p:Int):Rat:=g p+Dg.cI (Dg.tt (cn (cw b ks) p)) v (cn (cw b ks) p)
include B
theorem FU {ks dE:List (Option Int)} {v v':Int->Rat} (fi:∀p∈ps,Pr.In b p) (FV:dU b dE) (h:sj b ps g u ks v) (h':sj b ps g u dE v') (le:∀p∈ps,v p<=kf b g dE v p):∀p∈ps,v p<=v' p:=by
 intro p hp
 have:=Dg.sub_zero (ps:=ps) (W:=cn (cw b dE)) (lv:=rk) (v:=λi=>v i - v' i) (λp hp=>by
  rw[Dg.oB,h'.eq p hp]
  have:=le p hp
  unfold kf at this
  grind) (λp hp x hx=>((B.wk FV (fi p hp)).1.2 x hx).1) (λp hp x hx nx=>by
  have x0:=((B.wk FV (fi p hp)).1.2 x hx).2.2.1
  rw[h.out _ x0 nx,h'.out _ x0 nx]
  grind) (λp hp=>B.dn FV (fi p hp)) p hp
 have:v p - v' p<=0:=this
 grind
theorem FW {ks dE:List (Option Int)} {v v':Int->Rat} (fi:∀p∈ps,Pr.In b p) (FV:dU b dE) (h:sj b ps g u ks v) (h':sj b ps g u dE v') (ge:∀p∈ps,kf b g dE v p<=v p):∀p∈ps,v' p<=v p:=by
 intro p hp
 have:=Dg.sub_zero (ps:=ps) (W:=cn (cw b dE)) (lv:=rk) (v:=λi=>v' i - v i) (λp hp=>by
  rw[Dg.oB,h'.eq p hp]
  have:=ge p hp
  unfold kf at this
  grind) (λp hp x hx=>((B.wk FV (fi p hp)).1.2 x hx).1) (λp hp x hx nx=>by
  have x0:=((B.wk FV (fi p hp)).1.2 x hx).2.2.1
  rw[h.out _ x0 nx,h'.out _ x0 nx]
  grind) (λp hp=>B.dn FV (fi p hp)) p hp
 have:v' p - v p<=0:=this
 grind
omit B in
theorem qu {d:Int} (d0:0<d) {v v':Int->Rat}:∀{ws:Dg.Wy},(∀x∈ws,1<=x.1/\v x.2<=v' x.2)->Dg.cI d v ws<=Dg.cI d v' ws
 | [],_=>Rat.le_refl
 | x::ws,h=>by
  have ih:=qu d0 (v:=v) (v':=v') (ws:=ws) λy hy=>h y (aak _ hy)
  obtain⟨x1,x2⟩:=h x aaj
  have c:(0:Rat)< (x.1:Rat) / (d:Rat):=by
   rw[Rat.div_def]
   exact Rat.mul_pos (Rat.intCast_pos.mpr (by omega)) (Rat.inv_pos.mpr (Rat.intCast_pos.mpr d0))
  have m:=Rat.mul_le_mul_of_nonneg_left x2 (Rat.le_of_lt c)
  show(x.1:Rat) / (d:Rat)*v x.2+Dg.cI d v ws<=(x.1:Rat) / (d:Rat)*v' x.2+Dg.cI d v' ws
  generalize (x.1:Rat) / (d:Rat)*v x.2=a at *
  generalize (x.1:Rat) / (d:Rat)*v' x.2=a' at *
  grind
theorem um {ks:List (Option Int)} {v v':Int->Rat} {k1 k2:List (Option Int)} (fi:∀p∈ps,Pr.In b p) (ko:dU b ks) (h:sj b ps g u k1 v) (h':sj b ps g u k2 v') (le:∀p∈ps,v p<=v' p) {p:Int} (hp:p∈ps):kf b g ks v p<=kf b g ks v' p:=by
 unfold kf
 have w:=(B.wk ko (fi p hp)).1
 have:=qu (d:=Dg.tt (cn (cw b ks) p)) (by have:=w.tt;omega) (v:=v) (v':=v') (ws:=cn (cw b ks) p) λx hx=>⟨(w.2 x hx).1,by
  by_cases c:x.2∈ps
  ·exact le _ c
  ·rw[h.out _ (w.2 x hx).2.2.1 c,h'.out _ (w.2 x hx).2.2.1 c]
   exact Rat.le_refl⟩
 grind
noncomputable def d5 (b:List Pl) (ps:List Int) (who:Int) (k1 k2:List (Option Int)):Prop:=∀p:Nat,(p:Int)∈ps->∀q,b[p]?=some q->K6 q who=true->k1[p]?=k2[p]?
omit B in
theorem d5.symm {who:Int} {k1 k2:List (Option Int)} (h:d5 b ps who k1 k2):d5 b ps who k2 k1:=λp hp q e i=>(h p hp q e i).symm
omit B in
theorem d5.trans {who:Int} {k1 k2 k3:List (Option Int)} (h:d5 b ps who k1 k2) (h':d5 b ps who k2 k3):d5 b ps who k1 k3:=λp hp q e i=>(h p hp q e i).trans (h' p hp q e i)
structure uo (b:List Pl) (ps:List Int) (g u:Int->Rat) (ks:List (Option Int)) (dF:List (List (Option Int))) (fl:Option (Int->Rat)):Prop where
 ok:vN b ks
 nd:dF.Nodup
 new:ks∉dF
 all:∀h∈dF,vN b h
 floor:∀μ,fl=some μ->∀k v,dU b k->sj b ps g u k v->d5 b ps 1 k ks->(∀p∈ps,μ p<=v p)/\∃p∈ps,μ p<v p
 past:∀h∈dF,(∃μ,fl=some μ/\∃k v,dU b k/\sj b ps g u k v/\d5 b ps 1 k h/\∀p∈ps,v p<=μ p)\/(d5 b ps 1 h ks/\∃w,sj b ps g u h w/\∀v,sj b ps g u ks v->(∀p∈ps,v p<=w p)/\∃p∈ps,v p<w p)
omit B in
theorem uo.start {ks:List (Option Int)} (h:vN b ks):uo b ps g u ks [] none:=
 ⟨h,List.nodup_nil,by simp,by simp,(λμ z=>by cases z),by simp⟩
omit B in
theorem uo.left {ks:List (Option Int)} {dF:List (List (Option Int))} {fl:Option (Int->Rat)} (h:uo b ps g u ks dF fl):dF.length< (yv b).length:=by
 have:=qt (l:=ks::dF) (m:=yv b) (List.nodup_cons.mpr ⟨h.new,h.nd⟩) λx hx=>by
  rcases List.mem_cons.mp hx with rfl | hx
  ·exact h.ok.mem
  ·exact(h.all x hx).mem
 rw[aaq] at this
 omega
theorem uo.second {ks dE:List (Option Int)} {dF:List (List (Option Int))} {fl:Option (Int->Rat)} {v:Int->Rat} (fi:∀p∈ps,Pr.In b p) (h:uo b ps g u ks dF fl) (hv:sj b ps g u ks v) (IS:vN b dE) (same:d5 b ps 1 dE ks) (ge:∀p∈ps,kf b g dE v p<=v p) (st:∃p∈ps,kf b g dE v p<v p):uo b ps g u dE (ks::dF) fl:=by
 have low:∀v',sj b ps g u dE v'->(∀p∈ps,v' p<=v p)/\∃p∈ps,v' p<v p:=λv' ED=>by
  have le:=FW B fi IS.pk hv ED ge
  obtain⟨p,hp,lt⟩:=st
  refine⟨le,p,hp,?_⟩
  have m:=um B fi IS.pk ED hv le hp
  have e:=ED.eq p hp
  unfold kf at m lt
  grind
 have ne:dE≠ks:=λz=>by
  obtain⟨p,hp,lt⟩:=st
  have e:=hv.eq p hp
  unfold kf at lt
  rw[z] at lt
  grind
 refine⟨IS,List.nodup_cons.mpr ⟨h.new,h.nd⟩,λz=>?_,λx hx=>?_,λμ e k w hk hw sm=>h.floor μ e k w hk hw (sm.trans same),λx hx=>?_⟩
 ·rcases List.mem_cons.mp z with z | z
  ·exact ne z
  ·rcases h.past dE z with ⟨μ,e,k,w,hk,hw,sm,le⟩ | ⟨sm,w,hw,al⟩
   ·obtain⟨_,p,hp,lt⟩:=h.floor μ e k w hk hw (sm.trans same)
    have:=le p hp
    grind
   ·obtain⟨_,p,hp,lt⟩:=al v hv
    have:=(low w hw).1 p hp
    grind
 ·rcases List.mem_cons.mp hx with rfl | hx
  ·exact h.ok
  ·exact h.all x hx
 ·rcases List.mem_cons.mp hx with rfl | hx
  ·exact .inr ⟨same.symm,v,hv,low⟩
  ·rcases h.past x hx with p1 | ⟨sm,w,hw,al⟩
   ·exact .inl p1
   ·refine .inr ⟨sm.trans same.symm,w,hw,λv' ED=>?_⟩
    obtain⟨a1,p,hp,a2⟩:=al v hv
    have l:=(low v' ED).1
    exact⟨λq hq=>Rat.le_trans (l q hq) (a1 q hq),p,hp,by have:=l p hp;grind⟩
theorem uo.first {ks dE:List (Option Int)} {dF:List (List (Option Int))} {fl:Option (Int->Rat)} {v:Int->Rat} (fi:∀p∈ps,Pr.In b p) (h:uo b ps g u ks dF fl) (hv:sj b ps g u ks v) (IS:vN b dE)
  (le:∀k,dU b k->d5 b ps 1 k dE->∀p∈ps,v p<=kf b g k v p) (st:∃p∈ps,∀k,dU b k->d5 b ps 1 k dE->v p<kf b g k v p):uo b ps g u dE (ks::dF) (some v):=by
 have G6:∀k w,dU b k->sj b ps g u k w->d5 b ps 1 k dE->(∀p∈ps,v p<=w p)/\∃p∈ps,v p<w p:=λk w hk hw sm=>by
  have l:=FU B fi hk hv hw (le k hk sm)
  obtain⟨p,hp,lt⟩:=st
  refine⟨l,p,hp,?_⟩
  have m:=um B fi hk hv hw l hp
  have e:=hw.eq p hp
  have t:=lt k hk sm
  unfold kf at m t
  grind
 have old:∀x∈ks::dF,∃k w,dU b k/\sj b ps g u k w/\d5 b ps 1 k x/\∀p∈ps,w p<=v p:=λx hx=>by
  rcases List.mem_cons.mp hx with rfl | hx
  ·exact⟨x,v,h.ok.pk,hv,λ_ _ _ _ _=>rfl,λp _=>Rat.le_refl⟩
  ·rcases h.past x hx with ⟨μ,e,k,w,hk,hw,sm,le⟩ | ⟨sm,w,hw,al⟩
   ·obtain⟨m,_⟩:=h.floor μ e ks v h.ok.pk hv (λ_ _ _ _ _=>rfl)
    exact⟨k,w,hk,hw,sm,λp hp=>Rat.le_trans (le p hp) (m p hp)⟩
   ·exact⟨ks,v,h.ok.pk,hv,sm.symm,λp _=>Rat.le_refl⟩
 refine⟨IS,List.nodup_cons.mpr ⟨h.new,h.nd⟩,λz=>?_,λx hx=>?_,λμ e k w hk hw sm=>?_,λx hx=>?_⟩
 ·obtain⟨k,w,hk,hw,sm,l⟩:=old dE z
  obtain⟨_,p,hp,lt⟩:=G6 k w hk hw sm
  have:=l p hp
  grind
 ·rcases List.mem_cons.mp hx with rfl | hx
  ·exact h.ok
  ·exact h.all x hx
 ·cases e
  exact G6 k w hk hw sm
 ·obtain⟨k,w,hk,hw,sm,l⟩:=old x hx
  exact .inl ⟨v,rfl,k,w,hk,hw,sm,l⟩
end PO
noncomputable def sgn (who:Int):Int:=if who=1 then 1 else -1
theorem FX (who:Int):sgn who=1\/sgn who= -1:=by
 unfold sgn
 split
 ·exact .inl rfl
 ·exact .inr rfl
noncomputable def AS (who:Int) (to ts:List Int) (w:Nat):Prop:=∀t∈to,sgn who*ts.getD t.toNat 0<=sgn who*ts.getD (to.getD w 0).toNat 0
noncomputable def G7 (who:Int):Rat:=if who=1 then 1 else -1
noncomputable def C4 (b:List Pl) (p:Nat) (v:Int->Rat):Prop:=∀q,b[p]?=some q->match q with
 | .fin g=>v (p:Int)=Dg.vl g
 | .dq g ws=>v (p:Int)=Dg.vl g+Dg.cI (Dg.tt ws) v ws
 | .cC who to=>(∃t∈to,v (p:Int)=v t)/\∀t∈to,G7 who*v t<=G7 who*v (p:Int)
theorem vO {S:Dg.Bk} (h:0<S.2) {a b:Int}:S.1.getD a.toNat 0<S.1.getD b.toNat 0↔Dg.val S a<Dg.val S b:=by
 have h1:(0:Rat)< (S.2:Rat):=Rat.intCast_pos.mpr h
 have h2:(0:Rat)< (S.2:Rat)⁻¹:=Rat.inv_pos.mpr h1
 unfold Dg.val
 rw[<-Rat.intCast_lt_intCast,Rat.div_def,Rat.div_def]
 constructor
 ·exact λk=>Rat.mul_lt_mul_of_pos_right k h2
 ·exact λk=>Rat.lt_of_mul_lt_mul_right k (Rat.le_of_lt h2)
theorem vP {S:Dg.Bk} (h:0<S.2) {a b:Int}:S.1.getD a.toNat 0<=S.1.getD b.toNat 0↔Dg.val S a<=Dg.val S b:=by
 have:=vO h (a:=b) (b:=a)
 constructor
 ·intro k
  rcases Rat.le_total (a:=Dg.val S a) (b:=Dg.val S b) with c | c
  ·exact c
  ·by_cases e:Dg.val S a=Dg.val S b
   ·rw[e];exact Rat.le_refl
   ·have:=this.mpr (by grind)
    omega
 ·intro k
  by_cases c:S.1.getD b.toNat 0<S.1.getD a.toNat 0
  ·have:=this.mp c
   grind
  ·omega
noncomputable def yw (b:List Pl) (ks:List (Option Int)) (p:Int):Int:=((cn (cw b ks) p).headD (1,0)).2
theorem oC {b:List Pl} {ks:List (Option Int)} (ko:dU b ks) {p:Nat} {who:Int} {to:List Int} (e:b[p]?=some (.cC who to)):∃k:Int,ks[p]?=some (some k)/\0<=k/\k< (to.length:Int)/\cn (cw b ks) (p:Int)=[(1,to.getD k.toNat 0)]/\yw b ks (p:Int)=to.getD k.toNat 0/\to.getD k.toNat 0∈to:=by
 obtain⟨q,k,e1,e2,po,ew⟩:=ko.at (List.getElem?_eq_some_iff.mp e).1
 rw[e] at e1
 cases e1
 cases k with
 | none=>exact po.elim
 | some k=>
  obtain⟨k0,k1⟩:=po
  have hl:k.toNat<to.length:=by omega
  refine⟨k,e2,k0,k1,ew,by unfold yw;rw[ew];rfl,?_⟩
  rw[aae,aad hl]
  exact aao hl
structure iA (b:List Pl) (ks:List (Option Int)) (who:Int) (ts qs:List Int) (bs:List (Int×Int)):Prop where
 mem:∀x∈bs,x.1∈qs/\∃to,b[x.1.toNat]?=some (.cC who to)/\0<=x.2/\x.2< (to.length:Int)/\AS who to ts x.2.toNat/\ts.getD (to.getD x.2.toNat 0).toNat 0≠ts.getD (yw b ks x.1).toNat 0
 cB:∀p∈qs,p∉bs.map (·.1)->∀to,b[p.toNat]?=some (.cC who to)->∀t∈to,sgn who*ts.getD t.toNat 0<=sgn who*ts.getD (yw b ks p).toNat 0
 sub:(bs.map (·.1)).Sublist qs
theorem iA.start {b:List Pl} {ks:List (Option Int)} {who:Int} {ts:List Int}:iA b ks who ts [] []:=⟨by simp,by simp,List.Sublist.refl _⟩
noncomputable def d9 (bs:List (Int×Int)) (ks:List (Option Int)):Nat->List (Option Int)
 | 0=>ks
 | j+1=>(d9 bs ks j).set (bs.getD j (0,0)).1.toNat (some (bs.getD j (0,0)).2)
theorem jH (bs:List (Int×Int)) (ks:List (Option Int)):∀j,(d9 bs ks j).length=ks.length
 | 0=>rfl
 | j+1=>by unfold d9;rw[aaU,jH bs ks j]
theorem gY {bs:List (Int×Int)} {ks:List (Option Int)} {p:Nat} (h0:∀x∈bs,0<=x.1) (h:(p:Int)∉bs.map (·.1)):∀j,j<=bs.length->(d9 bs ks j)[p]?=ks[p]?
 | 0,_=>rfl
 | j+1,hj=>by
  have e:bs.getD j (0,0)=bs[j]:=by rw[aae,aad (by omega)];rfl
  have m:=aao (l:=bs) (n:=j) (by omega)
  have m0:=h0 _ m
  unfold d9
  rw[e,aaO (λz=>h (List.mem_map.mpr ⟨bs[j],m,by omega⟩)),gY h0 h j (by omega)]
theorem rM {bs:List (Int×Int)} {ks:List (Option Int)} (h0:∀x∈bs,0<=x.1/\x.1< (ks.length:Int)) (nd:(bs.map (·.1)).Nodup) {i:Nat}:∀j,j<=bs.length->i<j->∀x,bs[i]?=some x->(d9 bs ks j)[x.1.toNat]?=some (some x.2)
 | 0,_,h,_,_=>absurd h (abg _)
 | j+1,hj,h,x,ex=>by
  have e:bs.getD j (0,0)=bs[j]:=by rw[aae,aad (by omega)];rfl
  have m:=h0 _ (aao (l:=bs) (n:=j) (by omega))
  have mx:=h0 _ (aag ex)
  unfold d9
  rw[e]
  by_cases c:i=j
  ·subst c
   rw[aad (show i<bs.length from hj)] at ex
   obtain rfl:=aax ex
   rw[aa1 (by rw[jH];omega)]
  ·rw[aaO ?_,rM h0 nd j (by omega) (by omega) x ex]
   intro z
   have li:i<bs.length:=by omega
   have lj:j<bs.length:=by omega
   rw[aad li] at ex
   obtain rfl:=aax ex
   have l1:i< (bs.map (·.1)).length:=by rw[aac];exact li
   have l2:j< (bs.map (·.1)).length:=by rw[aac];exact lj
   have:(bs.map (·.1))[i]=(bs.map (·.1))[j]:=by rw[List.getElem_map,List.getElem_map];omega
   exact c ((abj nd).mp this)
section BS
variable {b : List Pl} {rk : Int -> Nat} (B : kI b rk) {ps : List Int} {S T : Dg.Bk} {ks : List (Option Int)}
include B
theorem FY (ko:dU b ks) (fi:∀p∈ps,Pr.In b p) (B0:0<S.2) (dv:gB b∣S.2) (st:Dg.CZ ps (cn (cw b ks)) (gT b) (gB b) S T):sj b ps (λp=>((gT b).getD p.toNat 0:Rat) / (gB b:Rat)) (Dg.val S) ks (Dg.val T):=
 ⟨λp hp=>st.eq B0 B.bot.1 dv hp (by have:=(B.wk ko (fi p hp)).1.tt;omega),λq q0 hq=>st.ne B0 q0 hq⟩
theorem ir {v:Int->Rat} {p:Nat} {who:Int} {to:List Int} (ko:dU b ks) (e:b[p]?=some (.cC who to)):kf b (λp=>((gT b).getD p.toNat 0:Rat) / (gB b:Rat)) ks v (p:Int)=v (yw b ks (p:Int)):=by
 obtain⟨k,_,_,_,ew,et,_⟩:=oC ko e
 unfold kf
 dsimp only
 rw[ew,et,aai,B.gV e]
 show Dg.vl (0,1)+ (((1:Int):Rat) / ((1:Int):Rat)*v (to.getD k.toNat 0)+0)=v (to.getD k.toNat 0)
 have:Dg.vl (0,1)=0:=Dg.IC
 rw[this,Dg.IB]
 grind
omit B in
theorem gZ {v g:Int->Rat} {k1 k2:List (Option Int)} {p:Nat} (h1:dU b k1) (h2:dU b k2) (hp:p<b.length) (e:(∃who to,b[p]?=some (.cC who to))->k1[p]?=k2[p]?):kf b g k1 v (p:Int)=kf b g k2 v (p:Int):=by
 obtain⟨q,a1,e1,e2,_,ew⟩:=h1.at hp
 obtain⟨q',a2,zG,Mm,_,K8⟩:=h2.at hp
 rw[e1] at zG
 cases zG
 unfold kf
 have:uH q a1=uH q a2:=by
  cases q with
  | fin g=>rfl
  | dq g ws=>rfl
  | cC who to=>
   have:=e ⟨who,to,e1⟩
   rw[e2,Mm] at this
   cases this
   rfl
 rw[ew,K8,this]
omit B in
theorem rN {bs:List (Int×Int)} {who:Int} {ts qs:List Int} (K:vN b ks) (yy:∀p∈qs,Pr.In b p) (AU:qs.Nodup) (W:iA b ks who ts qs bs):vN b (d9 bs ks bs.length):=by
 have h0:∀x∈bs,0<=x.1/\x.1< (ks.length:Int):=λx hx=>by
  have:=yy _ (W.mem x hx).1
  rw[K.pk.len]
  exact this
 have nd:(bs.map (·.1)).Nodup:=W.sub.nodup AU
 have key:∀(i:Nat) q k,b[i]?=some q->(d9 bs ks bs.length)[i]?=some k->G4 q k/\((∀w to,q≠.cC w to)->k=some 0):=λi q k e1 e2=>by
  by_cases c:(i:Int)∈bs.map (·.1)
  ·obtain⟨x,hx,ex⟩:=List.mem_map.mp c
   obtain⟨j,ej⟩:=aaD hx
   have hj:=(List.getElem?_eq_some_iff.mp ej).1
   have:=rM h0 nd bs.length (aah _) hj x ej
   rw[ex,aai,e2] at this
   cases this
   obtain⟨_,to,eb,x0,x1,_⟩:=W.mem x hx
   rw[ex,aai,e1] at eb
   cases eb
   exact⟨⟨x0,x1⟩,λh=>absurd rfl (h who to)⟩
  ·rw[gY (λx hx=>(h0 x hx).1) c _ (aah _)] at e2
   exact⟨K.pk.ok i q k e1 e2,K.cB i q k e1 e2⟩
 exact⟨⟨by rw[jH];exact K.pk.len,λi q k e1 e2=>(key i q k e1 e2).1⟩,λi q k e1 e2=>(key i q k e1 e2).2⟩
omit B in
theorem rO {bs:List (Int×Int)} {who:Int} {ts qs:List Int} (K:vN b ks) (yy:∀p∈qs,Pr.In b p) (AU:qs.Nodup) (W:iA b ks who ts qs bs) {p:Nat} (hp:(p:Int)∈bs.map (·.1)):∃to,b[p]?=some (.cC who to)/\(∀t∈to,sgn who*ts.getD t.toNat 0<=sgn who*ts.getD (yw b (d9 bs ks bs.length) (p:Int)).toNat 0)/\ts.getD (yw b (d9 bs ks bs.length) (p:Int)).toNat 0≠ts.getD (yw b ks (p:Int)).toNat 0:=by
 have h0:∀x∈bs,0<=x.1/\x.1< (ks.length:Int):=λx hx=>by
  have:=yy _ (W.mem x hx).1
  rw[K.pk.len]
  exact this
 have nd:(bs.map (·.1)).Nodup:=W.sub.nodup AU
 obtain⟨x,hx,ex⟩:=List.mem_map.mp hp
 obtain⟨j,ej⟩:=aaD hx
 have e2:=rM h0 nd bs.length (aah _) (List.getElem?_eq_some_iff.mp ej).1 x ej
 obtain⟨_,to,eb,x0,x1,bw,ne⟩:=W.mem x hx
 rw[ex,aai] at eb e2
 rw[ex] at ne
 obtain⟨k,ek,_,_,_,et,_⟩:=oC (rN K yy AU W).pk eb
 rw[e2] at ek
 cases ek
 rw[et]
 exact⟨to,eb,bw,ne⟩
theorem uq {dF:List (List (Option Int))} {fl:Option (Int->Rat)} {bs:List (Int×Int)} {qs:List Int} (fi:∀p∈ps,Pr.In b p) (T0:0<T.2) (h:uo b ps (λp=>((gT b).getD p.toNat 0:Rat) / (gB b:Rat)) (Dg.val S) ks dF fl) (hv:sj b ps (λp=>((gT b).getD p.toNat 0:Rat) / (gB b:Rat)) (Dg.val S) ks (Dg.val T)) (hq:∀p∈qs,p∈ps) (AU:qs.Nodup) (W:iA b ks 2 T.1 qs bs) (ne:bs≠[]):uo b ps (λp=>((gT b).getD p.toNat 0:Rat) / (gB b:Rat)) (Dg.val S) (d9 bs ks bs.length) (ks::dF) fl:=by
 have K:=h.ok
 have yy:∀p∈qs,Pr.In b p:=λp hp=>fi p (hq p hp)
 have K':=rN K yy AU W
 have pos:∀x∈bs,0<=x.1:=λx hx=>(yy _ (W.mem x hx).1).1
 have lt:∀p:Nat,(p:Int)∈bs.map (·.1)->(p:Int)∈ps/\kf b (λp=>((gT b).getD p.toNat 0:Rat) / (gB b:Rat)) (d9 bs ks bs.length) (Dg.val T) (p:Int)<Dg.val T (p:Int):=λp hp=>by
  obtain⟨to,eb,bw,nn⟩:=rO K yy AU W hp
  obtain⟨k,_,_,_,ew,et,mt⟩:=oC K.pk eb
  have mp:(p:Int)∈ps:=hq _ (by obtain⟨x,hx,ex⟩:=List.mem_map.mp hp;rw[<-ex];exact(W.mem x hx).1)
  refine⟨mp,?_⟩
  have e:=hv.eq _ mp
  rw[show _+_=kf b (λp=>((gT b).getD p.toNat 0:Rat) / (gB b:Rat)) ks (Dg.val T) (p:Int) from rfl,ir B K.pk eb] at e
  rw[ir B K'.pk eb,e]
  refine(vO T0).mp ?_
  have:=bw _ mt
  rw[<-et,show sgn 2= -1 from rfl] at this
  omega
 have other:∀p:Nat,(p:Int)∈ps->(p:Int)∉bs.map (·.1)->kf b (λp=>((gT b).getD p.toNat 0:Rat) / (gB b:Rat)) (d9 bs ks bs.length) (Dg.val T) (p:Int)=Dg.val T (p:Int):=λp hp nb=>by
  have hpl:p<b.length:=by have:=(fi _ hp).2;omega
  rw[gZ K'.pk K.pk hpl λ_=>gY pos nb _ (aah _)]
  exact(hv.eq _ hp).symm
 refine h.second B fi hv K' (λp hp q e i=>?_) (λp hp=>?_) ?_
 ·refine gY pos (λz=>?_) _ (aah _)
  obtain⟨to,eb,_⟩:=rO K yy AU W z
  rw[e] at eb
  cases eb
  cases i
 ·obtain⟨p,rfl⟩:=aau (fi p hp).1
  by_cases c:(p:Int)∈bs.map (·.1)
  ·exact Rat.le_of_lt (lt p c).2
  ·rw[other p hp c];exact Rat.le_refl
 ·obtain⟨x,hx⟩:=List.exists_mem_of_ne_nil _ ne
  obtain⟨p,ep⟩:=aau (pos x hx)
  have m:(p:Int)∈bs.map (·.1):=List.mem_map.mpr ⟨x,hx,ep⟩
  exact⟨p,(lt p m).1,(lt p m).2⟩
theorem vQ {dF:List (List (Option Int))} {fl:Option (Int->Rat)} {bs:List (Int×Int)} {qs q2:List Int} (fi:∀p∈ps,Pr.In b p) (T0:0<T.2) (h:uo b ps (λp=>((gT b).getD p.toNat 0:Rat) / (gB b:Rat)) (Dg.val S) ks dF fl) (hv:sj b ps (λp=>((gT b).getD p.toNat 0:Rat) / (gB b:Rat)) (Dg.val S) ks (Dg.val T)) (hq:∀p∈qs,p∈ps) (AU:qs.Nodup) (W:iA b ks 1 T.1 qs bs) (ne:bs≠[])
  (W2:iA b ks 2 T.1 q2 []) (zq:∀p:Nat,(p:Int)∈ps->∀to,b[p]?=some (.cC 2 to)->(p:Int)∈q2):uo b ps (λp=>((gT b).getD p.toNat 0:Rat) / (gB b:Rat)) (Dg.val S) (d9 bs ks bs.length) (ks::dF) (some (Dg.val T)):=by
 have K:=h.ok
 have yy:∀p∈qs,Pr.In b p:=λp hp=>fi p (hq p hp)
 have K':=rN K yy AU W
 have pos:∀x∈bs,0<=x.1:=λx hx=>(yy _ (W.mem x hx).1).1
 have at1:∀{k:List (Option Int)} {p:Nat} {to:List Int},dU b k->d5 b ps 1 k (d9 bs ks bs.length)->(p:Int)∈ps->b[p]?=some (.cC 1 to)->kf b (λp=>((gT b).getD p.toNat 0:Rat) / (gB b:Rat)) k (Dg.val T) (p:Int)=kf b (λp=>((gT b).getD p.toNat 0:Rat) / (gB b:Rat)) (d9 bs ks bs.length) (Dg.val T) (p:Int):=λ{k p to} hk sm hp e=>gZ hk K'.pk (List.getElem?_eq_some_iff.mp e).1 λ_=>sm p hp _ e rfl
 have lt:∀p:Nat,(p:Int)∈bs.map (·.1)->(p:Int)∈ps/\(∃to,b[p]?=some (.cC 1 to))/\Dg.val T (p:Int)<kf b (λp=>((gT b).getD p.toNat 0:Rat) / (gB b:Rat)) (d9 bs ks bs.length) (Dg.val T) (p:Int):=λp hp=>by
  obtain⟨to,eb,bw,nn⟩:=rO K yy AU W hp
  obtain⟨k,_,_,_,ew,et,mt⟩:=oC K.pk eb
  have mp:(p:Int)∈ps:=hq _ (by obtain⟨x,hx,ex⟩:=List.mem_map.mp hp;rw[<-ex];exact(W.mem x hx).1)
  refine⟨mp,⟨to,eb⟩,?_⟩
  have e:=hv.eq _ mp
  rw[show _+_=kf b (λp=>((gT b).getD p.toNat 0:Rat) / (gB b:Rat)) ks (Dg.val T) (p:Int) from rfl,ir B K.pk eb] at e
  rw[ir B K'.pk eb,e]
  refine(vO T0).mp ?_
  have:=bw _ mt
  rw[<-et,show sgn 1=1 from rfl] at this
  omega
 have old:∀p:Nat,(p:Int)∈ps->kf b (λp=>((gT b).getD p.toNat 0:Rat) / (gB b:Rat)) ks (Dg.val T) (p:Int)=Dg.val T (p:Int):=λp hp=>(hv.eq _ hp).symm
 refine h.first B fi hv K' (λk hk sm p hp=>?_) ?_
 ·obtain⟨p,rfl⟩:=aau (fi p hp).1
  have hpl:p<b.length:=by have:=(fi _ hp).2;omega
  have eb:b[p]?=some b[p]:=aad hpl
  cases q:b[p] with
  | fin g=>
   rw[gZ hk K.pk hpl (fun⟨w,to,z⟩=>by rw[eb,q] at z;cases z),old p hp]
   exact Rat.le_refl
  | dq g ws=>
   rw[gZ hk K.pk hpl (fun⟨w,to,z⟩=>by rw[eb,q] at z;cases z),old p hp]
   exact Rat.le_refl
  | cC who to=>
   rw[q] at eb
   have pq:=B.ok _ (aag eb)
   rcases pq.1 with w1 | w2
   ·subst w1
    rw[at1 hk sm hp eb]
    by_cases c:(p:Int)∈bs.map (·.1)
    ·exact Rat.le_of_lt (lt p c).2.2
    ·rw[gZ K'.pk K.pk hpl λ_=>gY pos c _ (aah _),old p hp]
     exact Rat.le_refl
   ·subst w2
    obtain⟨k',_,_,_,_,et,mt⟩:=oC hk eb
    have n2:=W2.cB _ (zq p hp to eb) (by simp) to (by rw[aai];exact eb) _ mt
    rw[<-old p hp,ir B K.pk eb,ir B hk eb,et]
    refine(vP T0).mp ?_
    rw[show sgn 2= -1 from rfl] at n2
    omega
 ·obtain⟨x,hx⟩:=List.exists_mem_of_ne_nil _ ne
  obtain⟨p,ep⟩:=aau (pos x hx)
  have m:(p:Int)∈bs.map (·.1):=List.mem_map.mpr ⟨x,hx,ep⟩
  obtain⟨h1,⟨to,h2⟩,h3⟩:=lt p m
  exact⟨p,h1,λk hk sm=>by rw[at1 hk sm h1 h2];exact h3⟩
end BS
noncomputable def AV:Sp:=λvs H Q _=>∃(v:V) (m:Addr) (who:Int) (to ts:List Int),vs=[v,.ref m]/\Rep H (kY (.cC who to)) v/\H m=some (.lst (ts.map V.int))/\0<to.length/\to.length<=4/\(∀g∈to,0<=g/\g< (ts.length:Int))/\(∀t∈ts,Bt 4000 t)/\
 ∀(w:Nat) H',az H H'->w<to.length->AS who to ts w->Q (.int (w:Int)) H'
noncomputable def gH (b:List Pl) (who:Int) (ps:List Int):List Int:=ps.filter λp=>match b[p.toNat]? with | some q=>K6 q who | none=>false
theorem dO {b:List Pl} {who p:Int} {ps:List Int}:p∈gH b who ps↔p∈ps/\∃to,b[p.toNat]?=some (.cC who to):=by
 unfold gH
 rw[List.mem_filter]
 constructor
 ·rintro⟨h1,h2⟩
  refine⟨h1,?_⟩
  cases e:b[p.toNat]? with
  | none=>rw[e] at h2;cases h2
  | some q=>
   rw[e] at h2
   cases q with
   | fin g=>cases h2
   | dq g ws=>cases h2
   | cC w to=>exact⟨to,by rw[show w=who from of_decide_eq_true h2]⟩
 ·rintro⟨h1,to,e⟩
  refine⟨h1,?_⟩
  rw[e]
  exact decide_eq_true rfl
noncomputable def xv:Sp:=λvs H Q _=>∃(bl pt:Addr) (who:Int) (b:List Pl) (ps:List Int),vs=[.ref bl,.ref pt,.int who]/\Rep H (qN b) (.ref bl)/\H pt=some (.lst (ps.map V.int))/\(∀p∈ps,Pr.In b p)/\ps.length<=16/\
 ∀l H',az H H'->H l=none->H' l=some (.lst ((gH b who ps).map V.int))->Q (.ref l) H'
noncomputable def AW:Sp:=λvs H Q _=>∃(bl ql wl m:Addr) (b:List Pl) (ks:List (Option Int)) (who:Int) (ts qs:List Int) (xs:List V),vs=[.ref bl,.ref ql,.ref wl,.ref m]/\Rep H (qN b) (.ref bl)/\H ql=some (.lst (qs.map V.int))/\H wl=some (.lst xs)/\bf H ((cw b ks).map qk) xs/\H m=some (.lst (ts.map V.int))/\ts.length=b.length/\(∀t∈ts,Bt 4000 t)/\dU b ks/\(∀q∈b,uj b.length q)/\(∀p∈qs,0<=p/\∃to,b[p.toNat]?=some (.cC who to))/\qs.length<=16/\
 ∀l bs H',az H H'->H l=none->Rep H' (.lst (bs.map bB)) (.ref l)->iA b ks who ts qs bs->Q (.ref l) H'
noncomputable def D4 (C:Addr):Sp:=λvs H Q _=>∃(bk gn pt bl wl:Addr) (S:Dg.Bk) (b:List Pl) (rk:Int->Nat) (ks:List (Option Int)) (ps:List Int) (M:Nat) (xs:List V),vs=[.ref bk,.ref gn,.ref pt,.ref bl,.ref wl]/\mI C (cE H wl) bk S/\mI C (cE H wl) gn (gT b,gB b)/\cE H wl pt=some (.lst (ps.map V.int))/\Rep (cE H wl) (qN b) (.ref bl)/\kI b rk/\H wl=some (.lst xs)/\bf (cE H wl) ((cw b ks).map qk) xs/\vN b ks/\
 ps.Nodup/\0<ps.length/\ps.length<=16/\(∀p∈ps,Pr.In b p)/\Dg.Sz b.length M S/\M+92*ps.length<3900/\gB b∣S.2/\(∀p∈ps,S.1.getD p.toNat 0=0)/\
 ∀x T dE iD H',az (cE H wl) (cE H' wl)->H' wl=some (.lst iD)->bf (cE H' wl) ((cw b dE).map qk) iD->vN b dE->Dg.CZ ps (cn (cw b dE)) (gT b) (gB b) S T->Dg.Sz b.length (M+92*ps.length) T->mI C (cE H' wl) x T->
  (∀p:Nat,(p:Int)∈ps->∀who to,b[p]?=some (.cC who to)->∀t∈to,sgn who*T.1.getD t.toNat 0<=sgn who*T.1.getD (yw b dE (p:Int)).toNat 0)->Q (.ref x) H'
noncomputable def IT (ss:List Wq.Sh) (p:Nat):Pl->Option Int
 | .cC _ to=>some (((to.map (Wq.fh ss)).idxOf (Wq.fh ss (p:Int)):Nat):Int)
 | _=>none
noncomputable def IU:Sp:=λvs H Q _=>∃(v:V) (x:Addr) (wl:Addr) (q:Pl) (n p:Nat) (ss:List Wq.Sh),vs=[v,.ref x,.ref wl]/\Rep H (kY q) v/\uj n q/\ss.length=n/\p<n/\H x=some (.tup (Pr (Wq.fh ss (p:Int)).1 (Wq.fh ss (p:Int)).2))/\Rep H (.lst (ss.map bB)) (.ref wl)/\(∀who to,q=.cC who to->∃t∈to,Wq.fh ss (p:Int)=Wq.fh ss t)/\∀H',az H H'->Q (gE (IT ss p q)) H'
noncomputable def AX (tp:Addr):Sp:=λvs H Q _=>∃(a:Addr) (b:List Pl) (rk:Int->Nat),vs=[.ref a]/\Rep H (qN b) (.ref a)/\kI b rk/\H tp=some (.rX dsc)/\
 ∀t l1 l2 (S:Dg.Bk) (ks:List (Option Int)) H',az H H'->H' t=some (.tup [.ref l1,.ref l2])->H l1=none->H l2=none->Rep H' (.lst ((gI S).map bB)) (.ref l1)->H' l2=some (.lst (ks.map gE))->Dg.Sz b.length (330+92*b.length) S->gB b∣S.2->(∀p:Nat,p<b.length->C4 b p (Dg.val S))->(∀p q,b[p]?=some q->ks[p]?=some (IT (gI S) p q))->ks.length=b.length->Q (.ref t) H'
structure ur (b:List Pl) (ps:List Int) (i:Nat) (S:Dg.Bk):Prop where
 sz:Dg.Sz b.length (330+92*Pr.off b ps i) S
 dv:gB b∣S.2
 eq:∀p:Nat,p<b.length->xq b ps (p:Int)<i->C4 b p (Dg.val S)
 zr:∀p:Int,Pr.In b p->i<=xq b ps p->S.1.getD p.toNat 0=0
theorem ur.start {b:List Pl} {rk:Int->Nat} {ps:List Int} (B:kI b rk):ur b ps 0 (List.replicate b.length 0,gB b):=by
 have h:=FP.start (ks:=[]) (ps:=ps) B
 exact⟨h.sz,h.dv,λp _ h=>absurd h (abg _),h.zr⟩
theorem FZ {S:Dg.Bk} (h:0<S.2) {who a c:Int} (k:sgn who*S.1.getD a.toNat 0<=sgn who*S.1.getD c.toNat 0):G7 who*Dg.val S a<=G7 who*Dg.val S c:=by
 unfold sgn at k
 unfold G7
 by_cases e:who=1
 ·rw[if_pos e] at k ⊢
  have:=(vP h (a:=a) (b:=c)).mp (by omega)
  grind
 ·rw[if_neg e] at k ⊢
  have:=(vP h (a:=c) (b:=a)).mp (by omega)
  grind
theorem ur.step {b:List Pl} {rk:Int->Nat} {ks:List (Option Int)} {ps:List Int} {i:Nat} {S S':Dg.Bk} {h:Int} (B:kI b rk) (T:Pr.Told b ps) (ko:dU b ks) (I:ur b ps i S) (e:ps[i]?=some h)
  (st:Dg.CZ (Pr.cZ b h) (cn (cw b ks)) (gT b) (gB b) S S') (sz:Dg.Sz b.length (330+92*Pr.off b ps i+92* (Pr.cZ b h).length) S')
  (best:∀p:Nat,(p:Int)∈Pr.cZ b h->∀who to,b[p]?=some (.cC who to)->∀t∈to,sgn who*S'.1.getD t.toNat 0<=sgn who*S'.1.getD (yw b ks (p:Int)).toNat 0):ur b ps (i+1) S':=by
 obtain⟨g0,_,_⟩:=B.bot
 refine⟨?_,?_,λp hp hx=>?_,λp hp hx=>?_⟩
 ·rw[Pr.oj e,Nat.mul_add,<-Nat.add_assoc]
  exact sz
 ·obtain⟨d,_,e2,_⟩:=st
  rw[e2]
  exact Int.dvd_trans I.dv (Int.dvd_mul_right _ _)
 ·have ip:Pr.In b (p:Int):=⟨by omega,by omega⟩
  obtain⟨q,k,e1,ek,po,ew⟩:=ko.at hp
  obtain⟨w5,wg⟩:=B.wk ko ip
  intro q' zG
  rw[e1] at zG
  cases zG
  by_cases c:xq b ps (p:Int)=i
  ·have m:=II B T e ip c
   have v:=st.eq I.sz.pos g0 I.dv m (by have:=w5.tt;omega)
   rw[aai,B.gV e1,ew] at v
   cases q with
   | fin g=>rw[v];show Dg.vl g+0=Dg.vl g;grind
   | dq g ws=>exact v
   | cC who to=>
    obtain⟨k',_,_,_,K8,et,mt⟩:=oC ko e1
    have v2:Dg.val S' (p:Int)=Dg.val S' (yw b ks (p:Int)):=by
     rw[ew,<-et] at K8
     rw[v,K8]
     show Dg.vl (0,1)+ (((1:Int):Rat) / ((1:Int):Rat)*Dg.val S' (yw b ks (p:Int))+0)=_
     have:Dg.vl (0,1)=0:=Dg.IC
     rw[this,Dg.IB]
     grind
    refine⟨⟨_,mt,by rw[<-et];exact v2⟩,λt ht=>?_⟩
    rw[v2]
    exact FZ sz.pos (best p m who to e1 t ht)
  ·have old:=I.eq p hp (by omega) q e1
   have out:∀x:Int,Pr.In b x->xq b ps x<i->Dg.val S' x=Dg.val S x:=λx hx hi=>st.ne I.sz.pos hx.1 λz=>by
    have:=vK B T e z
    omega
   have F0:∀t∈Lv.fU q,Dg.val S' t=Dg.val S t:=λt ht=>by
    have hg:t∈Bf.fg b (p:Int):=by unfold Bf.fg;rw[aai,e1];exact ht
    have:=C1 B T ip hg
    exact out t this.2 (by omega)
   have op:=out _ ip (by omega)
   cases q with
   | fin g=>rw[op];exact old
   | dq g ws=>
    rw[op,show Dg.val S (p:Int)=_ from old]
    congr 1
    exact Dg.oq λx hx=>(F0 _ (List.mem_map.mpr ⟨x,hx,rfl⟩)).symm
   | cC who to=>
    obtain⟨⟨t1,m1,o1⟩,o2⟩:=old
    refine⟨⟨t1,m1,by rw[op,F0 t1 m1];exact o1⟩,λt ht=>?_⟩
    rw[op,F0 t ht]
    exact o2 t ht
 ·obtain⟨d,_,_,_,o,_⟩:=st
  rw[o p hp.1 λz=>by have:=vK B T e z;omega,I.zr p hp (by omega),Int.zero_mul]
theorem xx {S:Dg.Bk} {n M:Nat} (Z:Dg.Sz n M S):∀x∈gI S,jh S.2 (2^M) x:=by
 intro x hx
 obtain⟨t,ht,rfl⟩:=List.mem_map.mp hx
 obtain⟨j,hj,rfl⟩:=aaY ht
 have bt:=Z.bt j
 rw[aae,aad hj,Option.getD_some] at bt
 have S0:=Z.pos
 obtain⟨d,e⟩:=Wq.qU (a:=S.1[j]) (s:=S.1[j]) S0 S0 rfl
 have lw:=Wq.iV (a:=S.1[j]) S0
 refine⟨lw,d,(Wq.kG lw.1 S0 d).mpr ?_⟩
 rw[e]
 unfold Bt at bt
 have p:(2:Int)^M=((2^M:Nat):Int):=by rw[Int.natCast_pow];rfl
 have m:((2^M:Nat):Int)*1<=((2^M:Nat):Int)*S.2:=Int.mul_le_mul_of_nonneg_left (by omega) (by omega)
 rw[p]
 generalize ((2:Nat)^M)=N at *
 omega
theorem D5 {x y:Wq.Sh} (hx:0<x.2) (hy:0<y.2):x.1*y.2 >y.1*x.2↔Dg.vl y<Dg.vl x:=by
 have h1:(0:Rat)< (x.2:Rat):=Rat.intCast_pos.mpr hx
 have h2:(0:Rat)< (y.2:Rat):=Rat.intCast_pos.mpr hy
 have h3:=Rat.mul_pos h1 h2
 have e1:((x.1*y.2:Int):Rat)=Dg.vl x* ((x.2:Rat)* (y.2:Rat)):=by
  rw[Rat.intCast_mul]
  unfold Dg.vl
  have:=Rat.ne_of_gt h1
  have:=Rat.ne_of_gt h2
  grind
 have e2:((y.1*x.2:Int):Rat)=Dg.vl y* ((x.2:Rat)* (y.2:Rat)):=by
  rw[Rat.intCast_mul]
  unfold Dg.vl
  have:=Rat.ne_of_gt h1
  have:=Rat.ne_of_gt h2
  grind
 show y.1*x.2<x.1*y.2↔_
 rw[<-Rat.intCast_lt_intCast,e1,e2]
 constructor
 ·intro h
  exact Rat.lt_of_mul_lt_mul_right h (Rat.le_of_lt h3)
 ·intro h
  exact Rat.mul_lt_mul_of_pos_right h h3
theorem AY {x y:Wq.Sh} (hx:0<x.2) (hy:0<y.2):Wq.wL x y=true↔Dg.vl x<Dg.vl y:=by
 unfold Wq.wL
 rw[decide_eq_true_iff]
 exact D5 hy hx
theorem vR {S:Dg.Bk} {n M:Nat} (z:Dg.Sz n M S) {q:Int} (q0:0<=q) (q1:q< (n:Int)):(gI S)[q.toNat]?=some (Wq.fh (gI S) q)/\jh S.2 (2^M) (Wq.fh (gI S) q)/\Dg.vl (Wq.fh (gI S) q)=Dg.val S q:=by
 have l:(gI S).length=n:=by unfold gI;rw[aac,z.len]
 have a:=FT (ss:=gI S) (q:=q) q0 (by omega)
 exact⟨a,xx z _ (aag a),xt z.pos _ (by rw[z.len];omega)⟩
noncomputable def D6:Sp:=λvs H Q _=>∃p q a b,vs=[.ref p,.ref q]/\H p=some (.tup (Pr a.1 a.2))/\H q=some (.tup (Pr b.1 b.2))/\Rm a/\Rm b/\Q (.bl (Wq.wL a b)) H
noncomputable def vS:Sp:=λvs H Q _=>∃a b,vs=[.ref a]/\Rep H (qN b) (.ref a)/\b.length<=16/\∀l xs H',az H H'->H l=none->H' l=some (.lst xs)->bf (cE H' l) (b.map kY) xs->Q (.ref l) H'
theorem jh.add {Z M N:Int} {x y:Wq.Sh} (hx:jh Z N x) (hy:jh Z M y) (Z0:0<Z):jh Z (N+M) (Wq.pl x y):=by
 obtain⟨p1,p2,p3⟩:=Wq.Iw hx.1.1 hy.1.1 Z0 hx.2.1 hy.2.1
 refine⟨p1,p2,(Wq.kG p1.1 Z0 p2).mpr ?_⟩
 have a1:=(Wq.kG hx.1.1 Z0 hx.2.1).mp hx.2.2
 have a2:=(Wq.kG hy.1.1 Z0 hy.2.1).mp hy.2.2
 rw[p3,Int.add_mul]
 omega
theorem jh.mul {Z Z' M M':Int} {x y:Wq.Sh} (hx:jh Z M x) (hy:jh Z' M' y) (Z0:0<Z) (Va:0<Z'):jh (Z*Z') (M*M') (Wq.tm x y):=by
 have L0:0<Z*Z':=aaG Z0 Va
 have b0:0<x.2*y.2:=aaG hx.1.1 hy.1.1
 obtain⟨d,e⟩:=Wq.qU (a:=x.1*y.1) (b:=x.2*y.2) (L:=Z*Z') (s:=Wq.sc Z x*Wq.sc Z' y) b0 L0 (by
  have e1:=Wq.iU hx.2.1
  have e2:=Wq.iU hy.2.1
  calc x.1*y.1* (Z*Z')=(x.1*Z)* (y.1*Z'):=by grind
   _=(Wq.sc Z x*x.2)* (Wq.sc Z' y*y.2):=by rw[e1,e2]
   _=Wq.sc Z x*Wq.sc Z' y* (x.2*y.2):=by grind)
 have lw:=Wq.iV (a:=x.1*y.1) b0
 refine⟨lw,d,(Wq.kG lw.1 L0 d).mpr ?_⟩
 have a1:=(Wq.kG hx.1.1 Z0 hx.2.1).mp hx.2.2
 have a2:=(Wq.kG hy.1.1 Va hy.2.1).mp hy.2.2
 rw[e]
 have n1:(Wq.sc Z x).natAbs<=(M*Z).natAbs:=by omega
 have n2:(Wq.sc Z' y).natAbs<=(M'*Z').natAbs:=by omega
 have p1:0<=M*Z:=by omega
 have p2:0<=M'*Z':=by omega
 have n3:=Nat.mul_le_mul n1 n2
 rw[<-aaQ,<-aaQ] at n3
 have p3:0<=M*Z* (M'*Z'):=Int.mul_nonneg p1 p2
 have e3:M*M'* (Z*Z')=M*Z* (M'*Z'):=by grind
 rw[e3]
 omega
noncomputable def Rl (who:Int) (x y:Rat):Prop:=(who=1->x<=y)/\(who=2->y<=x)/\(who=0->x=y)
theorem Rl.eq {who:Int} {x y:Rat} (h:x=y):Rl who x y:=⟨λ_=>by rw[h];exact Rat.le_refl,λ_=>by rw[h];exact Rat.le_refl,λ_=>h⟩
theorem Rl.add {who:Int} {x y x' y':Rat} (h:Rl who x y) (h':Rl who x' y'):Rl who (x+x') (y+y'):=
 ⟨λe=>by have a:=h.1 e;have b:=h'.1 e;clear h h';grind,λe=>by have a:=h.2.1 e;have b:=h'.2.1 e;clear h h';grind,λe=>by rw[h.2.2 e,h'.2.2 e]⟩
theorem Rl.mul {who:Int} {x y c:Rat} (h:Rl who x y) (c0:0<=c):Rl who (c*x) (c*y):=
 ⟨λe=>Rat.mul_le_mul_of_nonneg_left (h.1 e) c0,λe=>Rat.mul_le_mul_of_nonneg_left (h.2.1 e) c0,λe=>by rw[h.2.2 e]⟩
theorem Rl.trans {who:Int} {x y z:Rat} (h:Rl who x y) (h':Rl who y z):Rl who x z:=
 ⟨λe=>Rat.le_trans (h.1 e) (h'.1 e),λe=>Rat.le_trans (h'.2.1 e) (h.2.1 e),λe=>by rw[h.2.2 e,h'.2.2 e]⟩
abbrev Sd:=Wq.Sh×Int×Int
noncomputable def C5 (s:Sd):Dat:=.tup [bB s.1,.int s.2.1,.int s.2.2]
theorem kh {H:Hp} {s:Sd} {v:V}:Rep H (C5 s) v↔∃t r,v=.ref t/\H t=some (.tup [.ref r,.int s.2.1,.int s.2.2])/\H r=some (.tup [.int s.1.1,.int s.1.2]):=by
 unfold C5
 rw[Rep]
 constructor
 ·rintro⟨t,vs,rfl,ht,x,xs,rfl,r1,y,ys,rfl,r2,z,zs,rfl,r3,r4⟩
  obtain⟨r,rfl,hr⟩:=bQ.mp r1
  rw[Rep] at r2 r3
  subst r2 r3
  rw[bf] at r4
  subst r4
  exact⟨t,r,rfl,ht,hr⟩
 ·rintro⟨t,r,rfl,ht,hr⟩
  exact⟨t,_,rfl,ht,_,_,rfl,bQ.mpr ⟨r,rfl,hr⟩,_,_,rfl,rfl,_,_,rfl,rfl,rfl⟩
noncomputable def eG (v:Int->Rat):List Sd->Rat
 | []=>0
 | s::ss=>Dg.vl s.1*v s.2.1+eG v ss
theorem fA {v:Int->Rat}:∀{ss jj:List Sd},eG v (ss++jj)=eG v ss+eG v jj
 | [],jj=>by show eG v jj=0+eG v jj;grind
 | s::ss,jj=>by
  show Dg.vl s.1*v s.2.1+eG v (ss++jj)=Dg.vl s.1*v s.2.1+eG v ss+eG v jj
  rw[fA]
  grind
theorem fB {v:Int->Rat} {s:Sd}:eG v [s]=Dg.vl s.1*v s.2.1:=by
 show Dg.vl s.1*v s.2.1+0=_
 grind
theorem uu {d:Int} {v:Int->Rat}:∀{ws C6:Dg.Wy},Dg.cI d v (ws++C6)=Dg.cI d v ws+Dg.cI d v C6
 | [],C6=>by show Dg.cI d v C6=0+Dg.cI d v C6;grind
 | x::ws,C6=>by
  show(x.1:Rat) / (d:Rat)*v x.2+Dg.cI d v (ws++C6)=(x.1:Rat) / (d:Rat)*v x.2+Dg.cI d v ws+Dg.cI d v C6
  rw[uu]
  grind
noncomputable def tW:Pl->Int
 | .dq _ ws=>Wq.bS ws
 | _=>1
noncomputable def PT:List Pl->Int
 | []=>1
 | q::b=>tW q*PT b
theorem IV {n:Nat} {q:Pl} (h:uj n q):1<=tW q/\tW q<=1000000:=by
 cases q with
 | fin g=>exact⟨aaH _,by show(1:Int)<=_;decide⟩
 | cC w to=>exact⟨aaH _,by show(1:Int)<=_;decide⟩
 | dq g ws=>
  have K9:Dg.tt ws=Wq.bS ws:=by unfold Dg.tt;rw[if_neg (λz=>by have:=h.2.1;rw[z] at this;cases this)]
  obtain⟨t1,t9⟩:=h.2.2.tt
  show 1<=Wq.bS ws/\Wq.bS ws<=_
  omega
theorem AZ {n:Nat}:∀{b:List Pl},(∀q∈b,uj n q)->0<PT b/\PT b<=1000000^b.length/\∀q∈b,tW q∣PT b
 | [],_=>⟨Int.one_pos,aaH _,by simp⟩
 | q::b,h=>by
  obtain⟨i1,i2,i3⟩:=AZ (b:=b) λx hx=>h x (aak _ hx)
  obtain⟨a1,a2⟩:=IV (h q aaj)
  refine⟨aaG (by omega) i1,?_,λx hx=>?_⟩
  ·show tW q*PT b<=1000000^ (b.length+1)
   rw[Int.pow_succ,aaB]
   exact Int.mul_le_mul i2 a2 (by omega) (Int.pow_nonneg (by decide))
  ·rcases List.mem_cons.mp hx with rfl | hx
   ·exact Int.dvd_mul_right _ _
   ·exact Int.dvd_trans (i3 x hx) (Int.dvd_mul_left _ _)
structure yz (Z:Int) (n:Nat) (s:Sd):Prop where
 sz:jh Z 1 s.1
 nn:0<=s.1.1
 pl:0<=s.2.1/\s.2.1< (n:Int)
 me:0<=s.2.2/\s.2.2<1000003
theorem A0 {w d:Int} (w0:0<=w) (w1:w<=d) (d0:0<d):jh d 1 (Wq.low w d)/\0<=(Wq.low w d).1:=by
 obtain⟨dv,e⟩:=Wq.qU (a:=w) (s:=w) d0 d0 rfl
 have lw:=Wq.iV (a:=w) d0
 refine⟨⟨lw,dv,(Wq.kG lw.1 d0 dv).mpr ?_⟩,?_⟩
 ·rw[e];omega
 ·have e1:(Wq.low w d).1=w / Nm.g w d:=(Nm.nh d0).1
  rw[e1]
  exact Int.ediv_nonneg w0 (Int.le_of_lt (Nm.iC (by omega)))
theorem IW {x y:Wq.Sh} (x0:0<=x.1) (y0:0<=y.1) (hx:0<x.2) (hy:0<y.2):0<=(Wq.tm x y).1:=by
 have b0:=aaG hx hy
 have e1:(Wq.tm x y).1=x.1*y.1 / Nm.g (x.1*y.1) (x.2*y.2):=(Nm.nh b0).1
 rw[e1]
 exact Int.ediv_nonneg (Int.mul_nonneg x0 y0) (Int.le_of_lt (Nm.iC (by omega)))
structure fb (b:List Pl) (S:Dg.Bk) (ks:List (Option Int)):Prop where
 sz:Dg.Sz b.length 974 S
 dv:gB b∣S.2
 bq:∀p:Nat,p<b.length->C4 b p (Dg.val S)
 bp:∀p q,b[p]?=some q->ks[p]?=some (IT (gI S) p q)
theorem fb.MJ {b:List Pl} {rk:Int->Nat} {S:Dg.Bk} {ks:List (Option Int)} (B:kI b rk) (I:fb b S ks) {p:Nat} {who:Int} {to:List Int} (e:b[p]?=some (.cC who to)):∃k:Nat,ks[p]?=some (some (k:Int))/\k<to.length/\Dg.val S (to.getD k 0)=Dg.val S (p:Int):=by
 have hp:=(List.getElem?_eq_some_iff.mp e).1
 have pq:=B.ok _ (aag e)
 obtain⟨⟨t,m,et⟩,_⟩:=I.bq p hp _ e
 have at_:∀x:Int,0<=x->x< (b.length:Int)->Wq.Lw (Wq.fh (gI S) x)/\Dg.vl (Wq.fh (gI S) x)=Dg.val S x:=λx x0 x1=>by
  obtain⟨_,h2,h3⟩:=vR I.sz x0 x1
  exact⟨h2.1,h3⟩
 obtain⟨lp,vp⟩:=at_ (p:Int) (by omega) (by omega)
 obtain⟨lt,vt⟩:=at_ t (pq.2.2.2 t m).1 (pq.2.2.2 t m).2
 have mem:Wq.fh (gI S) (p:Int)∈to.map (Wq.fh (gI S)):=List.mem_map.mpr ⟨t,m,Dg.vE lt lp (by rw[vp,vt];exact et.symm)⟩
 have lt':=aaR mem
 refine⟨_,I.bp p _ e,by rw[aac] at lt';exact lt',?_⟩
 have eg:=aaX lt'
 rw[List.getElem_map] at eg
 rw[aac] at lt'
 rw[aae,aad lt',Option.getD_some]
 have mk:=aao lt'
 generalize to[List.idxOf (Wq.fh (gI S) (p:Int)) (List.map (Wq.fh (gI S)) to)]=u at *
 rw[<-(at_ u (pq.2.2.2 u mk).1 (pq.2.2.2 u mk).2).2,eg,vp]
theorem fb.own {b:List Pl} {S:Dg.Bk} {ks:List (Option Int)} (I:fb b S ks) {p:Nat} {who:Int} {to:List Int} (e:b[p]?=some (.cC who to)) (hw:who=1\/who=2) {t:Int} (ht:t∈to):Rl who (Dg.val S t) (Dg.val S (p:Int)):=by
 have hp:=(List.getElem?_eq_some_iff.mp e).1
 obtain⟨_,u⟩:=I.bq p hp _ e
 have:=u t ht
 unfold G7 at this
 rcases hw with rfl | rfl
 ·rw[if_pos rfl] at this
  exact⟨λ_=>by grind,λh=>by omega,λh=>by omega⟩
 ·rw[if_neg (by decide)] at this
  exact⟨λh=>by omega,λ_=>by grind,λh=>by omega⟩
theorem fb.dq {b:List Pl} {rk:Int->Nat} {S:Dg.Bk} {ks:List (Option Int)} (B:kI b rk) (I:fb b S ks) {p:Nat} {g:Wq.Sh} {ws:Dg.Wy} (e:b[p]?=some (.dq g ws)):Dg.val S (p:Int)=Dg.vl g+Dg.cI (Wq.bS ws) (Dg.val S) ws:=by
 have hp:=(List.getElem?_eq_some_iff.mp e).1
 have pq:=B.ok _ (aag e)
 have a:=I.bq p hp _ e
 have K9:Dg.tt ws=Wq.bS ws:=by unfold Dg.tt;rw[if_neg (λz=>by have:=pq.2.1;rw[z] at this;cases this)]
 rw[<-K9]
 exact a
noncomputable def A2:Sp:=λvs H Q _=>∃(a tl:Addr) (p:Nat) (who me:Int) (b:List Pl) (rk:Int->Nat) (S:Dg.Bk) (ks:List (Option Int)) (w:Int) (to:List Int),vs=[.ref a,.int (p:Int),.ref tl,.int who,.int me]/\Rep H (qN b) (.ref a)/\kI b rk/\H tl=some (.lst (ks.map gE))/\fb b S ks/\b[p]?=some (.cC w to)/\
 ∀k:Nat,k<to.length->Rl who (Dg.val S (to.getD k 0)) (Dg.val S (p:Int))->Q (.int (k:Int)) H
noncomputable def A3:Sp:=λvs H Q _=>∃(a sl tl:Addr) (who:Int) (b:List Pl) (rk:Int->Nat) (S:Dg.Bk) (ks:List (Option Int)) (ss:List Sd) (k:Nat),vs=[.ref a,.ref sl,.ref tl,.int who]/\Rep H (qN b) (.ref a)/\kI b rk/\b.length<=7/\Rep H (.lst (ss.map C5)) (.ref sl)/\H tl=some (.lst (ks.map gE))/\fb b S ks/\(∀s∈ss,yz (PT b^k) b.length s)/\ss.length<=5^k/\k<4/\
 ∀t fl g (jj:List Sd) (gv:Wq.Sh) H',az H H'->H' t=some (.tup [.ref fl,.ref g])->Rep H' (.lst (jj.map C5)) (.ref fl)->H' g=some (.tup (Pr gv.1 gv.2))->(∀s∈jj,yz (PT b^ (k+1)) b.length s)->jj.length<=5^ (k+1)->jh (PT b^4*gB b) (125*2^40) gv->Rl who (eG (Dg.val S) jj+Dg.vl gv) (eG (Dg.val S) ss)->Q (.ref t) H'
noncomputable def C7:Sp:=λvs H Q _=>∃(a tl wl:Addr) (who:Int) (st tn:Nat) (me:Int) (b:List Pl) (rk:Int->Nat) (S:Dg.Bk) (ks:List (Option Int)),vs=[.ref a,.ref tl,.ref wl,.int who,.int (st:Int),.int (tn:Int),.int me]/\Rep H (qN b) (.ref a)/\kI b rk/\b.length<=7/\H tl=some (.lst (ks.map gE))/\Rep H (.lst ((gI S).map bB)) (.ref wl)/\fb b S ks/\st<b.length/\tn<=4/\0<=me/\me<1000003/\
 ∀r (x:Wq.Sh) H',az H H'->H' r=some (.tup (Pr x.1 x.2))->Wq.Lw x->Rm x->Rl who (Dg.vl x) (Dg.val S (st:Int))->Q (.ref r) H'
section
variable {P : Program} {w : World} {K : PySem.W.Frag} {mg : Str -> Option Value} {base : Heap}
variable {aB tc tp : Addr}
theorem A4 {H:Hp} {ws:List (Int×Int)} {xs:List V} (rl:bf H (ws.map bB) xs) {i:Nat} {x:V} (ex:xs[i]?=some x):∃p t,ws[i]?=some p/\x=.ref t/\H t=some (.tup [.int p.1,.int p.2]):=by
 obtain⟨d,ed,rd⟩:=rl.get ex
 rw[aaf] at ed
 obtain⟨p,ep,rfl⟩:=Option.map_eq_some_iff.mp ed
 obtain⟨t,rfl,ht⟩:=bQ.mp rd
 exact⟨p,t,ep,rfl,ht⟩
theorem uv:aO ["place"] ["place"] (af (top 1)):=⟨rfl,rfl,rfl,by decide +kernel,rfl,by decide +kernel,by decide +kernel⟩
theorem A5 (T:Txt K mg aB tc):bU P w K mg base (bL P w) 1 "goals" ["place"] tV:=by
 refine T.Cz.dZ (λ_ _ _ _ _ _=>iX λ_=>rfl) λf fd F=>F.d8 uv (λvs H Q E h=>?_) (λcD A outer s H vs Q E hr h=>?_)
 ·obtain⟨_,_,rfl,_⟩:=h;rfl
 ·refine(?_:let G_:Prop:=_;G_)
  intro G_
  obtain⟨v,q,rfl,rq,lq,kk⟩:=h
  dsimp only[G_]
  have nd:=uv.nd
  refine⟨_,(ae (b8 (aR cK (aG aL (pv 0) ag (λ_ _=>rfl)) c4 (aX _)) (au (aP (bX rfl (N:=["place"]) (so:=af (top 1)) (N':=["weight","to"]) (k:=2) (fr:=[]) rfl rfl ⟨rfl,by decide +kernel,by decide +kernel,by decide +kernel,rfl,by decide +kernel,by decide +kernel⟩ (bj (K:=K) (aG aL (pv 0) ag (λ_ _=>rfl))) (λ_ _ _ _ _=>(bP (K:=K) (n:=2) rfl (aN (aD (i:=0) (show(["weight","to"]:List Str).Nodup by decide +kernel) rfl (Or.inl rfl)) (aN (aD (i:=1) (show(["weight","to"]:List Str).Nodup by decide +kernel) rfl (Or.inl rfl)) bN)))) (λ_ _ _ _ _=>bO)
   (λ_ _ _ _ _=>(pv 1)))))
   bC)
  (ae (b8 (aR cK (aG aL (pv 0) ag (λ_ _=>rfl)) c4 (aX _)) (au (aP (hV (dH (K:=K)) (by rfl) T.z_list rfl (aa (aG aL (pv 0) ag (λ_ _=>rfl)) ao (se rfl)) (he:=se rfl) (hpl:=na rfl))))
   bC)
  (au (aP (cM ao))))),?_⟩
  refine(?_:let cq:TS:=_;let cu:TS:=_;let cv:TS:=_;tSeq cq (tSeq cu cv) _ _ _)
  intro cq cu cv
  cases q with
  | fin w=>
   refine(?_:let G_:Prop:=_;G_)
   intro G_
   obtain⟨p,r,rfl,hp,_⟩:=c6.mp rq
   dsimp only[G_]
   simp_all only[hp]
   rw[if_neg (by decide +kernel),if_neg (by decide +kernel)]
   exact⟨aar _,λl nl=>kk _ _ (ax nl) nl ar⟩
  | dq w ws=>
   refine(?_:let G_:Prop:=_;G_)
   intro G_
   obtain⟨p,r,l,xs,rfl,hp,_,hl,rl⟩:=cW.mp rq
   dsimp only[G_]
   simp_all only[hp]
   refine⟨⟨_,bo.of hl⟩,?_⟩
   have lx:=rl.length
   rw[aac] at lx
   have S:Src (uL K l) (az H) ws.length (λi x H H3=>H3=H/\xs[i]?=some x):=by rw[lx];exact src_list (λH' s'=>bo.of (s' _ _ hl))
   refine fS ws (λp=>some p.2) S (λ_ _ _ _ h=>h.1) (by rw[sizeLine_eq];have:ws.length<=100:=(by simpa [Lv.fU] using lq);omega) ?_ ?_
   ·rintro i p x ep ⟨_,ex⟩
    refine(?_:let G_:Prop:=_;G_)
    intro G_
    obtain⟨p',t,BP,rfl,ht⟩:=A4 rl ex
    dsimp only[G_]
    rw[ep] at BP
    cases BP
    refine⟨t,_,_,rfl,eL.of ht,λY N y1 _=>?_⟩
    simp_all only[gD]
    exact y1 _ rfl
   ·intro D n1 n2
    rw[dI]
    exact kk _ _ (ax n2) n2 ar
  | cC w to=>
   refine(?_:let G_:Prop:=_;G_)
   intro G_
   obtain⟨p,l,rfl,hp,hl⟩:=cF.mp rq
   dsimp only[G_]
   simp_all only[hp]
   rw[if_neg (by decide +kernel)]
   exact⟨_,.inl (bo.of hl),λm nm=>kk _ _ (ax nm) nm ar⟩
theorem C8 {fs:Lv.Fs} {q:Pl}:Lv.DR fs q=match q with | .dq _ _=>(Lv.fU q).any (λg=>(Lv.lk fs g).isSome) | _=>(Lv.fU q).all λg=>(Lv.lk fs g).isSome:=by
 cases q <;>rfl
theorem kJ:aO ["place","found","levelled"] ["place","found"] (af (top 2)):=⟨rfl,rfl,rfl,by decide +kernel,rfl,by decide +kernel,by decide +kernel⟩
theorem F1 (T:Txt K mg aB tc):bU P w K mg base (bL P w) 2 "is_ready" ["place","found"] zW:=by
 have rP:bU P w K mg base (bL P w) 1 "goals" ["place"] tV:=A5 T
 refine T.vo.dZ (λ_ _ _ _ _ _=>eE λ_ _=>rfl) λf fd F=>F.d8 kJ (λvs H Q E h=>?_) (λcD A outer s H vs Q E hr h=>?_)
 ·obtain⟨_,_,_,_,rfl,_⟩:=h;rfl
 ·refine(?_:let G_:Prop:=_;G_)
  intro G_
  obtain⟨v,q,ff,fs,rfl,rq,hf,lq,gq,kk⟩:=h
  dsimp only[G_]
  have nd:=kJ.nd
  refine⟨_,(ae (fR (i:=2) rfl nd rfl rfl (N:=["place","found","levelled"]) (so:=af (top 2)) (N':=["to","found"]) (k:=1) (fr:=[1]) rfl rfl ⟨rfl,by decide +kernel,by decide +kernel,by decide +kernel,rfl,by decide +kernel,by decide +kernel⟩ (bj (K:=K) (aI rP (hr.mono (by decide)) rfl aA.pass (aa (pv 0) ao (se rfl)) (he:=se rfl) (hpl:=na rfl))) (λ_ _ _ _ _=>(aD (i:=0) (show(["to","found"]:List Str).Nodup by decide +kernel) rfl (Or.inl rfl))) (λ_ _ _ _ _=>bO)
   (λ_ _ _ _ _=>(qB BX (aG aJ (pv 1) (pv 0) (λ_ _=>rfl)) eW (aX _))))
  (ae (b8 (aR cK (aG aL (pv 0) ag (λ_ _=>rfl)) c4 (aX _)) (au (aP (aY (tw (K:=K)) (by rfl) T.z_any rfl (aa (pv 2) ao (se rfl)) (he:=se rfl) (hpl:=na rfl))))
   bC)
  (au (aP (aY (tu (K:=K)) (by rfl) T.z_all rfl (aa (pv 2) ao (se rfl)) (he:=se rfl) (hpl:=na rfl)))))),?_⟩
  refine(?_:let cq:TS:=_;let cu:TS:=_;let cv:TS:=_;tSeq cq (tSeq cu cv) _ _ _)
  intro cq cu cv
  refine(?_:let G_:Prop:=_;G_)
  intro G_
  obtain⟨p,k,r,rfl,hp⟩:=E8 rq
  dsimp only[G_]
  simp_all only[tV]
  refine⟨q,rq,lq,λl H1 s1 nl hl=>⟨⟨_,bo.of hl⟩,?_⟩⟩
  have MK:=s1 _ _ hf
  have Vc:=s1 _ _ hp
  have S:Src (uL K l) (az H1) (Lv.fU q).length (λi x H H3=>H3=H/\(List.map V.int (Lv.fU q))[i]?=some x):=by
   have:=src_list (K:=K) (a:=l) (xs:=List.map V.int (Lv.fU q)) (Ok:=az H1) (λH' s'=>bo.of (s' _ _ hl))
   rw[aac] at this
   exact this
  refine pV (Lv.fU q) (λg=>some (.bl (Lv.lk fs g).isSome)) S (λ_ _ _ _ h=>h.1) (by rw[sizeLine_eq];omega) ?_ ?_
  ·rintro i g x eg ⟨_,ex⟩ Y N y1 _
   rw[aaf,eg] at ex
   cases ex
   have:=gq g (aag eg)
   simp_all only[gD,MK,DV this.1 this.2]
   have:=y1 _ rfl
   rw[show(!decide (gE (Lv.lk fs g)=V.cB))=(Lv.lk fs g).isSome from by cases Lv.lk fs g <;>simp [gE]]
   exact this
  ·intro D n1 n2
   rw[dI]
   have XX:List.map (λg=>V.bl (Lv.lk fs g).isSome) (Lv.fU q)=List.map V.bl ((Lv.fU q).map λg=>(Lv.lk fs g).isSome):=by rw[aaS];rfl
   rw[XX]
   have sD:=ax (o:=.lst (List.map V.bl ((Lv.fU q).map λg=>(Lv.lk fs g).isSome))) n2
   have fin:=kk _ (s1.trans sD)
   rw[C8] at fin
   cases q with
   | fin w=>
    refine(?_:let G_:Prop:=_;G_)
    intro G_
    obtain⟨p',r',e,jg,_⟩:=c6.mp rq
    dsimp only[G_]
    cases e
    have rY:=sD _ _ (s1 _ _ jg)
    simp only[rY,at0]
    refine⟨_,rfl,_,rfl,rfl,?_⟩
    rw[if_neg (by decide +kernel)]
    refine⟨_,bo.of ar,?_⟩
    rw[List.all_map]
    exact fin
   | dq w ws=>
    refine(?_:let G_:Prop:=_;G_)
    intro G_
    obtain⟨p',r',l',xs,e,jg,_⟩:=cW.mp rq
    dsimp only[G_]
    cases e
    have rY:=sD _ _ (s1 _ _ jg)
    simp only[rY,at0]
    refine⟨_,rfl,_,rfl,rfl,?_⟩
    rw[if_pos (by decide +kernel)]
    refine⟨_,bo.of ar,?_⟩
    rw[List.any_map]
    exact fin
   | cC w to=>
    refine(?_:let G_:Prop:=_;G_)
    intro G_
    obtain⟨p',l',e,jg,_⟩:=cF.mp rq
    dsimp only[G_]
    cases e
    have rY:=sD _ _ (s1 _ _ jg)
    simp only[rY,at0]
    refine⟨_,rfl,_,rfl,rfl,?_⟩
    rw[if_neg (by decide +kernel)]
    refine⟨_,bo.of ar,?_⟩
    rw[List.all_map]
    exact fin
theorem gh:aO ["board","found"] ["board","found"] (af (top 3)):=⟨rfl,rfl,rfl,by decide +kernel,rfl,by decide +kernel,by decide +kernel⟩
theorem F2 (T:Txt K mg aB tc):bU P w K mg base (bL P w) 3 "ready_places" ["board","found"] wM:=by
 have vT:bU P w K mg base (bL P w) 2 "is_ready" ["place","found"] zW:=F1 T
 refine T.nS.dZ (λ_ _ _ _ _ _=>eE λ_ _=>rfl) λf fd F=>F.d8 gh (λvs H Q E h=>?_) (λcD A outer s H vs Q E hr h=>?_)
 ·obtain⟨_,_,_,_,rfl,_⟩:=h;rfl
 ·refine(?_:let G_:Prop:=_;G_)
  intro G_
  obtain⟨a,b,ff,fs,rfl,rb,hf,lf,lb,gl,gb,kk⟩:=h
  dsimp only[G_]
  have nd:=gh.nd
  refine⟨_,(au (aP (bX rfl (N:=["board","found"]) (so:=af (top 3)) (N':=["number","place","found"]) (k:=2) (fr:=[1]) rfl rfl ⟨rfl,by decide +kernel,by decide +kernel,by decide +kernel,rfl,by decide +kernel,by decide +kernel⟩ (cL (K:=K) rfl T.z_enumerate (aa (pv 0) ao (se rfl))) (λ_ _ _ _ _=>(bP (K:=K) (n:=2) rfl (aN (aD (i:=0) (show(["number","place","found"]:List Str).Nodup by decide +kernel) rfl (Or.inl rfl)) (aN (aD (i:=1) (show(["number","place","found"]:List Str).Nodup by decide +kernel) rfl (Or.inl rfl)) bN)))) (λ_ _ _ _ _=>(mi (PW.pt (pw_and (aR uR (aG aJ (pv 2) (pv 0) (λ_ _=>rfl)) eW (aX _)) (pw_and1 (qz (aI vT (hr.mono (by decide)) rfl aA.pass (aa (pv 1) (aa (pv 2) ao (se rfl)) (se rfl)) (he:=se rfl) (hpl:=na rfl))))))))
   (λ_ _ _ _ _=>(pv 0))))),?_⟩
  refine(?_:let G_:Prop:=_;G_)
  intro G_
  obtain⟨_,xs,e,ha,rl⟩:=aQ.mp rb
  dsimp only[G_]
  cases e
  have lx:=rl.length
  rw[aac] at lx
  simp_all only[]
  refine⟨⟨_,bo.of ha⟩,?_⟩
  have S:Src (Ic K a) (az H) (List.range b.length).length (λi v H H3=>∃p x,H p=none/\v=.ref p/\xs[i]?=some x/\H3=upd H p (.tup [.int i,x])):=by rw[aaz,lx];exact fq (λH' s'=>bo.of (s' _ _ ha))
  refine pW (K:=K) (List.range b.length) (λi=>if Lv.gf b fs i=true then some (eK i) else none) S (λi u v _=>u=.int i/\xs[i]?=some v) ?_ (by rw[aaz,sizeLine_eq];omega) ?_ ?_
  ·intro i x H1 H2 hi s1 df
   refine(?_:let G_:Prop:=_;G_)
   intro G_
   obtain⟨p,v,np,rfl,ev,rfl⟩:=df
   dsimp only[G_]
   exact⟨ax np,p,_,_,rfl,eL.of ar,rfl,ev⟩
  ·rintro i j u v H3 ej s3 ⟨rfl,ev⟩ Y N y1 n1
   have:j=i:=by
    obtain⟨h1,h2⟩:=List.getElem?_eq_some_iff.mp ej
    rw[List.getElem_range] at h2
    exact h2.symm
   subst this
   refine(?_:let G_:Prop:=_;G_)
   intro G_
   obtain⟨q,eq,rq⟩:=dB rl ev
   dsimp only[G_]
   have hj:j<b.length:=(List.getElem?_eq_some_iff.mp eq).1
   have BG:=s3 _ _ hf
   have hq:=aag eq
   simp_all only[BG,DV (show(0:Int)<=(j:Int) by omega) (show(j:Int)< (fs.length:Nat) by omega),zW]
   have er:Lv.gf b fs j=((Lv.lk fs (j:Int)).isNone && Lv.DR fs q):=by
    unfold Lv.gf Lv.lk
    rw[eq,aai]
   by_cases c:Lv.lk fs (j:Int)=none
   ·rw[if_pos (nY.mpr c)]
    refine⟨q,rq.mono s3,fs,rfl,gl q hq,λg hg=>?_,λH4 s4=>?_⟩
    ·rw[lf];exact gb.oV q hq g hg
    ·by_cases c2:Lv.DR fs q=true
     ·rw[if_pos c2]
      exact y1 _ _ (by rw[if_pos (by rw[er,c,c2];rfl)];rfl) s4
     ·rw[if_neg c2]
      exact n1 _ (by rw[if_neg (by rw[er];simp [c2])]) s4
   ·rw[if_neg (λz=>c (nY.mp z))]
    have nr:¬Lv.gf b fs j=true:=by
     rw[er]
     cases h:Lv.lk fs (j:Int) with
     | none=>exact absurd h c
     | some u=>simp
    exact n1 _ (if_neg nr) (az.refl _)
  ·intro H2 s2 D n1 n2
   have e:List.filterMap (λi=>if Lv.gf b fs i=true then some (eK i) else none) (List.range b.length)=List.map eK (Lv.fresh b fs):=dD eK (Lv.gf b fs) _
   rw[e]
   exact kk _ _ (s2.trans (ax n2)) (none_of s2 n2) ar
theorem qv:aO ["board","found","level","fresh","number"] ["board"] (af (top 4)):=⟨rfl,rfl,rfl,by decide +kernel,rfl,by decide +kernel,by decide +kernel⟩
theorem F4 (T:Txt K mg aB tc):bU P w K mg base (bL P w) 4 "levels" ["board"] zX:=by
 have g5:bU P w K mg base (bL P w) 3 "ready_places" ["board","found"] wM:=F2 T
 refine T.zU.dZ (λ_ _ _ _ _ _=>iX λ_=>rfl) λf fd F=>F.d8 qv (λvs H Q E h=>?_) (λcD A outer s H vs Q E hr h=>?_)
 ·obtain⟨_,_,rfl,_⟩:=h;rfl
 ·refine(?_:let G_:Prop:=_;G_)
  intro G_
  obtain⟨a,b,rfl,rb,lb,gl,gb,kk⟩:=h
  dsimp only[G_]
  have nd:=qv.nd
  refine⟨_,(ae (fR (i:=1) rfl nd rfl rfl (N:=["board","found","level","fresh","number"]) (so:=af (top 4)) (N':=["place"]) (k:=1) (fr:=[]) rfl rfl ⟨rfl,by decide +kernel,by decide +kernel,by decide +kernel,rfl,by decide +kernel,by decide +kernel⟩ (bj (K:=K) (pv 0)) (λ_ _ _ _ _=>(aD (i:=0) (show(["place"]:List Str).Nodup by decide +kernel) rfl (Or.inl rfl))) (λ_ _ _ _ _=>bO)
   (λ_ _ _ _ _=>(gK (aR cK (aG aL (pv 0) ag (λ_ _=>rfl)) c4 (aX _)) ag eW)))
  (ae (aF (i:=2) nd rfl (Or.inl rfl) ag)
  (ae (aF (i:=3) nd rfl (Or.inl rfl) (aI g5 (hr.mono (by decide)) rfl aA.pass (aa (pv 0) (aa (pv 1) ao (se rfl)) (se rfl)) (he:=se rfl) (hpl:=na rfl)))
  (ae (gL PassesOwn.never (aR kr (aY bD (by rfl) T.z_len aaA (aa (pv 3) ao (se rfl)) (he:=se rfl) (hpl:=na rfl)) ag (aX _)) (ae (bY PassesOwn.never rfl (bj (K:=K) (pv 3)) (aD (i:=4) nd rfl (Or.inl rfl)) (au (dQ (pv 2) (fM (pv 1) (pv 4) set_list))))
  (ae (aF (i:=2) nd rfl (Or.inl rfl) (aE br (pv 2) ag))
  (au (aF (i:=3) nd rfl (Or.inl rfl) (aI g5 (hr.mono (by decide)) rfl aA.pass (aa (pv 0) (aa (pv 1) ao (se rfl)) (se rfl)) (he:=se rfl) (hpl:=na rfl)))))))
  (au (aP (pv 1))))))),?_⟩
  refine(?_:let cq:TS:=_;let cu:TS:=_;let cv:TS:=_;let dj:TS:=_;let iE:TS:=_;tSeq cq (tSeq cu (tSeq cv (tSeq dj iE))) _ _ _)
  intro cq cu cv dj iE
  refine(?_:let G_:Prop:=_;G_)
  intro G_
  obtain⟨_,xs,e,ha,rl⟩:=aQ.mp rb
  dsimp only[G_]
  cases e
  have lx:=rl.length
  rw[aac] at lx
  simp_all only[wM]
  refine⟨⟨_,bo.of ha⟩,?_⟩
  have S:Src (uL K a) (az H) b.length (λi x H H3=>H3=H/\xs[i]?=some x):=by rw[lx];exact src_list (λH' s'=>bo.of (s' _ _ ha))
  refine pV b (λq=>some (gE (Lv.Ij q))) S (λ_ _ _ _ h=>h.1) (by rw[sizeLine_eq];omega) ?_ ?_
  ·rintro i q x eq ⟨_,ex⟩ Y N y1 _
   refine(?_:let G_:Prop:=_;G_)
   intro G_
   obtain⟨q',Vd,rq⟩:=dB rl ex
   dsimp only[G_]
   rw[eq] at Vd
   cases Vd
   have:=y1 _ rfl
   cases q with
   | fin w=>
    refine(?_:let G_:Prop:=_;G_)
    intro G_
    obtain⟨p,r,rfl,hp,_⟩:=c6.mp rq
    dsimp only[G_]
    simp_all only[gD,hp]
    exact this
   | dq w ws=>
    refine(?_:let G_:Prop:=_;G_)
    intro G_
    obtain⟨p,r,l',ys,rfl,hp,_⟩:=cW.mp rq
    dsimp only[G_]
    simp_all only[gD,hp]
    rw[if_neg (by decide +kernel)]
    exact this
   | cC w to=>
    refine(?_:let G_:Prop:=_;G_)
    intro G_
    obtain⟨p,l',rfl,hp,_⟩:=cF.mp rq
    dsimp only[G_]
    simp_all only[gD,hp]
    rw[if_neg (by decide +kernel)]
    exact this
  ·intro ff n1 n2
   rw[dI,show List.map (λq=>gE (Lv.Ij q)) b=List.map gE (Lv.oR b) from by unfold Lv.oR;rw[aaS];rfl]
   have sD:=ax (o:=.lst (List.map gE (Lv.oR b))) n2
   refine⟨b,rb.mono sD,Lv.oR b,ar,by simp [Lv.oR],lb,gl,gb,λfr H1 s1 nf HU=>?_⟩
   have XY:H1 ff=some (.lst (List.map gE (Lv.oR b))):=s1 _ _ ar
   have sH:=sD.trans s1
   refine tz (XM H b a ff) (m:=b.length) ⟨_,_,_,_,rfl,XY,HU,(λz=>by rw[z,ar] at nf;cases nf),sH,by simp [Lv.oR],by have:=Lv.nG (Lv.oR b);simpa [Lv.oR] using this,rfl⟩ ?_ ?_
   ·intro m σ H2 IX
    refine(?_:let G_:Prop:=_;G_)
    intro G_
    obtain⟨fs,L,fr,z,rfl,hf,kj,ne,s2,lf,nm,er⟩:=IX
    dsimp only[G_]
    simp_all only[]
    refine⟨_,kj,?_⟩
    by_cases c:Lv.fresh b fs=[]
    ·rw[c,if_neg (by simp)]
     have:Lv.run b m fs L=fs:=by
      cases m with
      | zero=>rfl
      | succ m=>
       show(if Lv.fresh b fs=[] then fs else _)=fs
       rw[if_pos c]
     rw[this] at er
     subst er
     exact kk _ _ s2 n2 hf
    ·have l0:(0:Int)< ((List.map eK (Lv.fresh b fs)).length:Nat):=by
      rw[aac]
      have:=List.length_pos_iff.mpr c
      omega
     rw[if_pos l0]
     have lfr:(Lv.fresh b fs).length<=1000:=by
      have:(Lv.fresh b fs).length<=b.length:=by
       have:=List.length_filter_le (Lv.gf b fs) (List.range b.length)
       rwa [aaz] at this
      omega
     refine⟨⟨_,bo.of kj⟩,bJ (src_list (Ok:=λH'=>H' fr=some (.lst (List.map eK (Lv.fresh b fs)))) (λH' e=>bo.of e))
      (λj σ H'=>H' fr=some (.lst (List.map eK (Lv.fresh b fs)))/\H' ff=some (.lst (List.map gE (Lv.cJ fs ((Lv.fresh b fs).take j) L)))/\az H H'/\∃z,σ=[some (V.ref a),some (V.ref ff),some (V.int L),some (V.ref fr),z])
      ⟨kj,by rw[List.take_zero];exact hf,s2,_,rfl⟩ (λ_ _ _ _ h=>h.1) ?_ ?_⟩
     ·intro j x σ H3 H4 hj df dk
      refine(?_:let G_:Prop:=_;G_)
      intro G_
      obtain⟨h3,f3,s3,z,rfl⟩:=df
      obtain⟨rfl,hx⟩:=dk
      rw[aaf] at hx
      obtain⟨i,ei,rfl⟩:=Option.map_eq_some_iff.mp hx
      dsimp only[G_]
      have hi:=(Lv.ib.mp (aag ei)).1
      simp_all only[gSub,rSetL,eK]
      have ix:xW (List.map gE (Lv.cJ fs ((Lv.fresh b fs).take j) L)).length (i:Int)=some i:=by
       unfold xW
       rw[if_pos (by omega),aac,Lv.mv,if_pos (by omega)]
       congr 1
      refine⟨_,f3,i,ix,by rw[aH ne];exact h3,?_,ba s3 n2,_,rfl⟩
      rw[ar,aaC,ei]
      show some (HO.lst ((List.map gE _).set i (gE (some L))))=_
      rw[<-List.map_set]
      congr 3
      unfold Lv.cJ
      rw[List.foldl_append]
      rfl
     ·intro σ H3 bK
      refine(?_:let G_:Prop:=_;G_)
      intro G_
      obtain⟨h3,f3,s3,z,rfl⟩:=bK
      dsimp only[G_]
      rw[aac,aaE (aah _)] at f3
      simp_all only[wM]
      refine⟨b,rb.mono s3,_,f3,by rw[Lv.mv];exact lf,lb,gl,gb,λfr2 H4 s4 n4 h4=>?_⟩
      have lt:=Lv.jZ lf c L
      cases m with
      | zero=>omega
      | succ m=>
       refine⟨m,aaM _,_,_,_,_,rfl,s4 _ _ f3,h4,(λz=>by rw[z,f3] at n4;cases n4),s3.trans s4,by rw[Lv.mv];exact lf,by omega,?_⟩
       rw[<-er]
       show _=(if Lv.fresh b fs=[] then fs else _)
       rw[if_neg c]
   ·intro σ H1 Q1 Q2 hq hc
    simp only[L2.start,Pr,tRev,tD1,tDPop1,tSl,tNoPart,tPart,rSlL,tDIn,tDNotIn,gSub,rSetL,tLst,tDNewK,tComp,L2.stC,tFor_eq,iList,iTup,iRng1,iRng2,iZip,iEnum,iDict,iStr,tChain,tSumV,tBM,rJoin,tJoined,jNil,jLit,jInt,jStr,tRaise,tDGet,tDGet2,tDGet1,sDPut,Option.join_some,List.getElem?_nil,tSeq,tRet,tRetN,tIfS,tTest,tB,tOp,tUn,tVar,tC,tCB,tCons,tNil,tCall,tTupS,tAsg,gName,gNil,gCons,tPar,tNext,tDrop,tAnd,tOr,tNot,tAndV,tOrV,tNotV,tIf,rI,rI0,rU,rIxTH,rIxLH,rEqT,rNeT,rInT,rEq,rNe,scal_ss,scal_ii,scal_bb,scal_si,scal_is,CPow,at0,at1,at2,aav,aaP,aaq,abf,Nat.reduceSub,Nat.reduceAdd,aaV,abu,List.reduceReplicate,aa2,List.nil_append,abn,abo,abk,abh,abi,abp,exists_eq_left',exists_eq_left,V.ref.injEq,V.int.injEq,V.bl.injEq,V.str.injEq,V.ty.injEq,HO.tup.injEq,HO.lst.injEq,List.cons.injEq,and_true,true_and,and_assoc,exists_and_left,decide_eq_true_eq,Bool.not_eq_true',decide_eq_false_iff_not,ite_true,ite_false,if_true,if_false,Int.reduceToNat,eq_self_iff_true] at hc ⊢
    refine(?_:let G_:Prop:=_;G_)
    intro G_
    obtain⟨v,e1,ys,e2,xs,e3,q⟩:=hc
    dsimp only[G_]
    exact⟨v,e1,ys,e2,xs,e3,hq _ _ q⟩
theorem xy:aO ["board"] ["board"] (af (top 5)):=⟨rfl,rfl,rfl,by decide +kernel,rfl,by decide +kernel,by decide +kernel⟩
theorem C9 (T:Txt K mg aB tc):bU P w K mg base (bL P w) 5 "ring" ["board"] vB:=by
 have A6:bU P w K mg base (bL P w) 4 "levels" ["board"] zX:=F4 T
 refine T.Fn.dZ (λ_ _ _ _ _ _=>iX λ_=>rfl) λf fd F=>F.d8 xy (λvs H Q E h=>?_) (λcD A outer s H vs Q E hr h=>?_)
 ·obtain⟨_,_,rfl,_⟩:=h;rfl
 ·refine(?_:let G_:Prop:=_;G_)
  intro G_
  obtain⟨a,b,rfl,rb,B,kk⟩:=h
  dsimp only[G_]
  have nd:=xy.nd
  refine⟨_,(au (aP (bX rfl (N:=["board"]) (so:=af (top 5)) (N':=["number","level"]) (k:=2) (fr:=[]) rfl rfl ⟨rfl,by decide +kernel,by decide +kernel,by decide +kernel,rfl,by decide +kernel,by decide +kernel⟩ (cL (K:=K) rfl T.z_enumerate (aa (aI A6 (hr.mono (by decide)) rfl aA.pass (aa (pv 0) ao (se rfl)) (he:=se rfl) (hpl:=na rfl)) ao (se rfl))) (λ_ _ _ _ _=>(bP (K:=K) (n:=2) rfl (aN (aD (i:=0) (show(["number","level"]:List Str).Nodup by decide +kernel) rfl (Or.inl rfl)) (aN (aD (i:=1) (show(["number","level"]:List Str).Nodup by decide +kernel) rfl (Or.inl rfl)) bN)))) (λ_ _ _ _ _=>(mi (aR uR (pv 1) eW (aX _))))
   (λ_ _ _ _ _=>(pv 0))))),?_⟩
  simp_all only[zX]
  refine⟨b,rb,B.len,B.sY,B.good,λf1 H1 s1 nf hf=>⟨⟨_,bo.of hf⟩,?_⟩⟩
  have ll:=Lv.Cq B.good
  have bl:=B.len
  have S:Src (Ic K f1) (az H1) (List.range b.length).length (λi v H H3=>∃p x,H p=none/\v=.ref p/\(List.map gE (Lv.tE b))[i]?=some x/\H3=upd H p (.tup [.int i,x])):=by
   have:=fq (K:=K) (a:=f1) (xs:=List.map gE (Lv.tE b)) (Ok:=az H1) (λH' s'=>bo.of (s' _ _ hf))
   rw[aac,ll] at this
   rw[aaz]
   exact this
  refine pW (K:=K) (List.range b.length) (λi=>if (Lv.lk (Lv.tE b) (i:Int)).isNone=true then some (eK i) else none) S (λi u v _=>u=.int i/\v=gE (Lv.lk (Lv.tE b) (i:Int))) ?_ (by rw[aaz,sizeLine_eq];omega) ?_ ?_
  ·intro i x H2 H3 hi s2 df
   refine(?_:let G_:Prop:=_;G_)
   intro G_
   obtain⟨p,v,np,rfl,ev,rfl⟩:=df
   dsimp only[G_]
   refine⟨ax np,p,_,_,rfl,eL.of ar,rfl,?_⟩
   rw[aaf] at ev
   refine(?_:let G_:Prop:=_;G_)
   intro G_
   obtain⟨o,eo,rfl⟩:=Option.map_eq_some_iff.mp ev
   dsimp only[G_]
   unfold Lv.lk
   rw[aai,aae,eo]
   rfl
  ·rintro i j u v H3 ej s3 ⟨rfl,rfl⟩ Y N y1 n1
   have:j=i:=by
    obtain⟨h1,h2⟩:=List.getElem?_eq_some_iff.mp ej
    rw[List.getElem_range] at h2
    exact h2.symm
   subst this
   simp_all only[]
   cases h:Lv.lk (Lv.tE b) (j:Int) with
   | none=>
    rw[if_pos (nY.mpr rfl)]
    exact y1 _ _ (by rw[h];rfl) (az.refl _)
   | some x=>
    rw[if_neg (by simp [gE])]
    exact n1 _ (by rw[h];rfl) (az.refl _)
  ·intro H2 s2 D n1 n2
   have e:List.filterMap (fun(i:Nat)=>if (Lv.lk (Lv.tE b) (i:Int)).isNone=true then some (eK i) else none) (List.range b.length)=List.map eK (nZ b):=dD eK (fun(i:Nat)=>(Lv.lk (Lv.tE b) (i:Int)).isNone) _
   rw[e]
   exact kk _ _ (s1.trans (s2.trans (ax n2))) (none_of (s1.trans s2) n2) ar
theorem iF:aO ["board","start","steps","found","turn","here","way","to"] ["board","start"] (af (top 22)):=⟨rfl,rfl,rfl,by decide +kernel,rfl,by decide +kernel,by decide +kernel⟩
theorem F5 (T:Txt K mg aB tc):bU P w K mg base (bL P w) 2 "steps_from" ["board","start"] wN:=by
 have rP:bU P w K mg base (bL P w) 1 "goals" ["place"] tV:=A5 T
 refine T.qV.dZ (λ_ _ _ _ _ _=>eE λ_ _=>rfl) λf fd F=>F.d8 iF (λvs H Q E h=>?_) (λcD A outer s H vs Q E hr h=>?_)
 ·obtain⟨_,_,_,rfl,_⟩:=h;rfl
 ·refine(?_:let G_:Prop:=_;G_)
  intro G_
  obtain⟨a,b,st,rfl,rb,lb,sY,gb,h0,h1,kk⟩:=h
  dsimp only[G_]
  clear G_
  have nd:=iF.nd
  refine⟨_,(ae (aF (i:=2) nd rfl (Or.inl rfl) (Ik (pv 1) eW))
  (ae (aF (i:=3) nd rfl (Or.inl rfl) (cM (aa (pv 1) ao (se rfl))))
  (ae (aF (i:=4) nd rfl (Or.inl rfl) ag)
  (ae (gL PassesOwn.never (aR mW (pv 4) (aY bD (by rfl) T.z_len aaA (aa (pv 3) ao (se rfl)) (he:=se rfl) (hpl:=na rfl)) (aX _)) (ae (aF (i:=5) nd rfl (Or.inl rfl) (aG aJ (pv 3) (pv 4) (λ_ _=>rfl)))
  (ae (bY PassesOwn.never rfl (cL (K:=K) rfl T.z_enumerate (aa (aI rP (hr.mono (by decide)) rfl aA.pass (aa (aG aJ (pv 0) (pv 5) (λ_ _=>rfl)) ao (se rfl)) (he:=se rfl) (hpl:=na rfl)) ao (se rfl))) (bP (K:=K) (n:=2) rfl (aN (aD (i:=6) nd rfl (Or.inl rfl)) (aN (aD (i:=7) nd rfl (Or.inl rfl)) bN))) (au (b8 (uK (xZ (pS hr) (pv 7) (pv 2))) (ae (wj (pS hr) (pv 2) (pv 7) (bF (aa (pv 5) (aa (pv 6) ao (se rfl)) (se rfl))) rfl)
  (au (cN (dY aaL aaZ aa0 cm.r (pv 3) (aa (pv 7) ao (se rfl))))))
   bC)))
  (au (aF (i:=4) nd rfl (Or.inl rfl) (aE br (pv 4) ag))))))
  (au (aP (pv 2))))))),?_⟩
  refine(?_:let cq:TS:=_;let cu:TS:=_;let cv:TS:=_;let dj:TS:=_;let iE:TS:=_;tSeq cq (tSeq cu (tSeq cv (tSeq dj iE))) _ _ _)
  intro cq cu cv dj iE
  refine(?_:let G_:Prop:=_;G_)
  intro G_
  obtain⟨_,xs,e,ha,rl⟩:=aQ.mp rb
  dsimp only[G_]
  clear G_
  cases e
  have lx:=rl.length
  rw[aac] at lx
  simp_all only[]
  intro d ML
  refine⟨Sum.inl st,rfl,ar,by decide,λf1 nf=>?_⟩
  have XZ:upd (upd H d (.dK [])) d (.dK [(Sum.inl st,V.cB)])=upd H d (.dK [(Sum.inl st,V.cB)]):=BL
  rw[XZ] at nf ⊢
  have sd:=ax (o:=.dK [(Sum.inl st,V.cB)]) ML
  have sf:=ax (o:=.lst [V.int st]) nf
  have Ve:f1≠d:=λz=>by rw[z,ar] at nf;cases nf
  have X0:H f1=none:=none_of sd nf
  have D0:fx (upd (upd H d (.dK [(Sum.inl st,V.cB)])) f1 (.lst [V.int st])) d [(st,none,[])]:=by
   refine⟨_,sf _ _ ar,rfl,λi e he=>?_⟩
   match i,he with
   | 0,he=>cases he;exact⟨_,rfl,rfl⟩
  have MK:(upd (upd H d (.dK [(Sum.inl st,V.cB)])) f1 (.lst [V.int st])) f1=some (.lst [V.int st]):=ar
  have sH:=sd.trans sf
  generalize upd (upd H d (.dK [(Sum.inl st,V.cB)])) f1 (.lst [V.int st])=H1 at *
  refine tz (XN H b a d f1 st) (m:=b.length+1) ⟨0,[(st,none,[])],_,_,_,rfl,D0,MK,sH,Bf.zy h0 h1,rfl,by omega⟩ ?_ ?_
  ·intro m σ H2 IX
   refine(?_:let G_:Prop:=_;G_)
   intro G_
   obtain⟨t,es,z5,z6,z7,rfl,dr,hf,s2,I,eb,lt⟩:=IX
   dsimp only[G_]
   clear G_
   have lk:(Bf.keys es).length=es.length:=by unfold Bf.keys;rw[aac]
   have fw:=I.toCore.sY
   simp_all only[]
   refine⟨_,hf,?_⟩
   rw[aac,lk]
   by_cases c:t<es.length
   ·rw[if_pos (by omega)]
    have et:es[t]?=some es[t]:=aad c
    generalize es[t]=e at et
    have rg:=I.oV e (aag et)
    have ee:((e.1.toNat:Nat):Int)=e.1:=aby rg.1
    have hb:e.1.toNat<b.length:=by omega
    have Vf:b[e.1.toNat]?=some b[e.1.toNat]:=aad hb
    refine(?_:let G_:Prop:=_;G_)
    intro G_
    obtain⟨v,ev,rv⟩:=dC rl Vf
    dsimp only[G_]
    clear G_
    have hq:=aao hb
    generalize b[e.1.toNat]=q at *
    have ga:Bf.fg b e.1=Lv.fU q:=by unfold Bf.fg;rw[Vf]
    have av:fc xs e.1=some v:=by rw[<-ee];exact bA ev
    have ak:fc (List.map V.int (Bf.keys es)) (t:Int)=some (V.int e.1):=nE (by unfold Bf.keys;rw[aaf,et];rfl)
    simp only[hf,ak,s2 _ _ ha,av,abp,HO.lst.injEq,exists_eq_left',V.int.injEq,V.ref.injEq,tV]
    refine⟨v,q,rfl,rv.mono s2,sY q hq,λl H3 s3 nl hl=>⟨⟨_,bo.of hl⟩,?_⟩⟩
    have X1:=dr.mono s3
    have BG:=s3 _ _ hf
    have X2:l≠d:=λz=>by
     refine(?_:let G_:Prop:=_;G_)
     intro G_
     obtain⟨kvs,hd,_⟩:=dr.ex
     dsimp only[G_]
     rw[z,hd] at nl;cases nl
    have IY:l≠f1:=λz=>by rw[z,hf] at nl;cases nl
    refine bJ (fq (Ok:=λH'=>H' l=some (.lst (List.map V.int (Lv.fU q)))) (λH' e=>bo.of e)) (XO H a d f1 l st t e (Lv.fU q) es) ⟨⟨_,_,rfl⟩,X1,BG,hl,s2.trans s3⟩ (λ_ _ _ _ h=>h.hl) ?_ ?_
    ·intro i x σ H4 H5 hi df dk
     refine(?_:let G_:Prop:=_;G_)
     intro G_
     obtain⟨⟨z6,z7,rfl⟩,La,Dc,xA,s4⟩:=df
     obtain⟨p,y,np,rfl,ey,rfl⟩:=dk
     rw[aac] at hi
     rw[aaf] at ey
     obtain⟨g,eg,rfl⟩:=Option.map_eq_some_iff.mp ey
     dsimp only[G_]
     clear G_
     have s5:=ax (o:=.tup [.int i,.int g]) np
     refine⟨p,_,rfl,eL.of ar,rfl,?_⟩
     have MM:=La.mono s5
     have Vg:=s5 _ _ Dc
     have F6:=s5 _ _ xA
     have Vh:=s4.trans s5
     generalize upd H4 p (.tup [.int i,.int g])=H5 at *
     have M:=Bf.nH gb ((Lv.fU q).take i) 0 es (Bf.zB I et) λj x hx=>by
      rw[aaV,ga]
      have hj:=(List.getElem?_eq_some_iff.mp hx).1
      rw[aa3] at hj
      rwa [List.getElem?_take_of_lt (by omega)] at hx
     have tk:(Lv.fU q).take (i+1)=(Lv.fU q).take i++ [g]:=by rw[aaC,eg];rfl
     have X3:((Lv.fU q).take i).length=i:=by rw[aa3];omega
     have nx:=qd (here:=e.1) (path:=e.2.2) ((Lv.fU q).take i) 0 es g
     rw[<-tk,X3,aaV] at nx
     have X4:=M.toCore.sY
     generalize Bf.fV e.1 e.2.2 0 ((Lv.fU q).take i) es=ei at *
     refine(?_:let G_:Prop:=_;G_)
     intro G_
     obtain⟨o,go,ho⟩:=MM.has M.nd g
     dsimp only[G_]
     simp_all only[]
     refine⟨o,go,?_⟩
     rw[ho]
     by_cases cg:g∈Bf.keys ei
     ·rw[if_neg (by simpa using cg)]
      rw[if_pos cg] at nx
      exact⟨⟨_,_,rfl⟩,by rw[nx];exact MM,by rw[nx];exact Vg,F6,Vh⟩
     ·rw[if_pos (by simpa using cg)]
      rw[if_neg cg] at nx
      refine⟨by decide,λp6 H6 s6 np6 e6=>?_⟩
      obtain⟨o7,pt,X5⟩:=(MM.mono s6).put (par:=some (e.1,i)) (path:=e.2.2++ [i]) cg ⟨p6,rfl,e6⟩ (by rw[sizeLine_eq];omega)
      have IZ:=s6 _ _ Vg
      have Dd:=s6 _ _ F6
      have MN:upd H6 d o7 f1=some (.lst (List.map V.int (Bf.keys ei))):=by rw[aH Ve];exact IZ
      have lke:(Bf.keys ei).length=ei.length:=by unfold Bf.keys;rw[aac]
      refine⟨_,pt,.inl ⟨rfl,_,bo.of MN⟩,f1,_,_,rfl,rfl,MN,by rw[aac,sizeLine_eq];omega,?_⟩
      have sF:az H (upd (upd H6 d o7) f1 (.lst (List.map V.int (Bf.keys ei)++ [V.int g]))):=ba (ba (Vh.trans s6) ML) X0
      refine⟨⟨_,_,rfl⟩,?_,?_,?_,sF⟩
      ·rw[nx]
       refine(?_:let G_:Prop:=_;G_)
       intro G_
       obtain⟨kvs,k1,k2,k3⟩:=X5.ex
       dsimp only[G_]
       refine⟨kvs,by rw[aH (Ne.symm Ve)];exact k1,k2,λj x hx=>?_⟩
       refine(?_:let G_:Prop:=_;G_)
       intro G_
       obtain⟨v,v1,v2⟩:=k3 j x hx
       dsimp only[G_]
       exact⟨v,v1,v2.upd λys z=>by rw[MN] at z;cases z⟩
      ·rw[nx,ar]
       unfold Bf.keys
       rw[aaw,aaw]
       rfl
      ·rw[aH IY,aH X2]
       exact Dd
    ·intro σ H4 bK
     refine(?_:let G_:Prop:=_;G_)
     intro G_
     obtain⟨⟨z6,z7,rfl⟩,La,Dc,xA,s4⟩:=bK
     dsimp only[G_]
     rw[aac,aaE (aah _),<-ga] at La Dc
     simp_all only[]
     cases m with
     | zero=>omega
     | succ m=>
      refine⟨m,aaM _,⟨t+1,_,_,_,_,rfl,La,Dc,s4,Bf.turn gb I et,?_,by omega⟩⟩
      rw[<-eb]
      show _=(match es[t]? with | none=>es | some e=>Bf.BD b m (t+1) (Bf.fV e.1 e.2.2 0 (Bf.fg b e.1) es))
      rw[et]
   ·rw[if_neg (by omega)]
    have:Bf.BD b m t es=es:=by
     cases m with
     | zero=>rfl
     | succ m=>
      show(match es[t]? with | none=>es | some e=>Bf.BD b m (t+1) (Bf.fV e.1 e.2.2 0 (Bf.fg b e.1) es))=es
      rw[aas (by omega)]
    rw[this] at eb
    subst eb
    exact kk _ _ s2 ML dr
  ·intro σ H1 Q1 Q2 hq hc
   simp only[L2.start,Pr,tRev,tD1,tDPop1,tSl,tNoPart,tPart,rSlL,tDIn,tDNotIn,gSub,rSetL,tLst,tDNewK,tComp,L2.stC,tFor_eq,iList,iTup,iRng1,iRng2,iZip,iEnum,iDict,iStr,tChain,tSumV,tBM,rJoin,tJoined,jNil,jLit,jInt,jStr,tRaise,tDGet,tDGet2,tDGet1,sDPut,Option.join_some,List.getElem?_nil,tSeq,tRet,tRetN,tIfS,tTest,tB,tOp,tUn,tVar,tC,tCB,tCons,tNil,tCall,tTupS,tAsg,gName,gNil,gCons,tPar,tNext,tDrop,tAnd,tOr,tNot,tAndV,tOrV,tNotV,tIf,rI,rI0,rU,rIxTH,rIxLH,rEqT,rNeT,rInT,rEq,rNe,scal_ss,scal_ii,scal_bb,scal_si,scal_is,CPow,at0,at1,at2,aav,aaP,aaq,abf,Nat.reduceSub,Nat.reduceAdd,aaV,abu,List.reduceReplicate,aa2,List.nil_append,abn,abo,abk,abh,abi,abp,exists_eq_left',exists_eq_left,V.ref.injEq,V.int.injEq,V.bl.injEq,V.str.injEq,V.ty.injEq,HO.tup.injEq,HO.lst.injEq,List.cons.injEq,and_true,true_and,and_assoc,exists_and_left,decide_eq_true_eq,Bool.not_eq_true',decide_eq_false_iff_not,ite_true,ite_false,if_true,if_false,Int.reduceToNat,eq_self_iff_true] at hc ⊢
   refine(?_:let G_:Prop:=_;G_)
   intro G_
   obtain⟨v,e1,v1,e2,p,e3,x,e4,i,e5,q⟩:=hc
   dsimp only[G_]
   exact⟨v,e1,v1,e2,p,e3,x,e4,i,e5,hq _ _ q⟩
theorem xB (p:Int->Bool):∀l:List Int,l.filterMap (λo=>if p o=true then some o else none)=l.filter p
 | []=>rfl
 | x::l=>by
  rw[List.filterMap_cons,List.filter_cons,xB p l]
  by_cases c:p x=true
  ·simp [c]
  ·simp [c]
noncomputable def oE (H:Hp) (x:Addr):Int:=match H x with
 | some (.lst (.int j::_))=>j
 | _=>0
noncomputable def A7 (tp:Addr):Sp:=λvs H Q _=>∃a b,vs=[.ref a]/\Rep H (qN b) (.ref a)/\b.length<=63/\(∀q∈b,(Lv.fU q).length<=100)/\Lv.Good b/\H tp=some (.rX dsc)/\
 ∀l ps as H',Pr.Told b ps->az H H'->H l=none->H' l=some (.lst (List.map V.ref as))->Al (λp v=>∃x,v=.ref x/\H' x=some (.lst (List.map V.int (Pr.cZ b p)))/\H x=none) ps (as.map V.ref)->Q (.ref l) H'
theorem uw:aO ["board","reach","found","place","part"] ["board"] (af (top 23)):=⟨rfl,rfl,rfl,by decide +kernel,rfl,by decide +kernel,by decide +kernel⟩
theorem F7 (T:Txt K mg aB tc) (LB:o6 base mg tc tp):bU P w K mg base (bL P w) 3 "parts" ["board"] (A7 tp):=by
 have rQ:bU P w K mg base (bL P w) 2 "steps_from" ["board","start"] wN:=F5 T
 refine T.CC.MA T.CF (λ_ _ _ _ _ _=>iX λ_=>rfl) λf fd F hc=>F.XF hc uw (λvs H Q E h=>?_) (λA outer s H vs Q E hr h=>?_)
 ·obtain⟨_,_,rfl,_⟩:=h;rfl
 ·refine(?_:let G_:Prop:=_;G_)
  intro G_
  obtain⟨a,b,rfl,rb,lb,sY,gb,nO,kk⟩:=h
  dsimp only[G_]
  clear G_
  have nd:=uw.nd
  refine⟨_,(ae (aF (i:=1) nd rfl (Or.inr rfl) (bX rfl (N:=["board","reach","found","place","part"]) (so:=af (top 23)) (N':=["start","board"]) (k:=1) (fr:=[0]) rfl rfl ⟨rfl,by decide +kernel,by decide +kernel,by decide +kernel,rfl,by decide +kernel,by decide +kernel⟩ (cV rfl T.z_range (aa (aY bD (by rfl) T.z_len aaA (aa (pv 0) ao (se rfl)) (he:=se rfl) (hpl:=na rfl)) ao (se rfl))) (λ_ _ _ _ _=>(aD (i:=0) (show(["start","board"]:List Str).Nodup by decide +kernel) rfl (Or.inl rfl))) (λ_ _ _ _ _=>bO)
   (λ_ _ _ _ _=>(aI rQ (hr.mono (by decide)) rfl aA.pass (aa (pv 1) (aa (pv 0) ao (se rfl)) (se rfl)) (he:=se rfl) (hpl:=na rfl)))))
  (ae (aF (i:=2) nd rfl (Or.inl rfl) (cM ao))
  (ae (bY PassesOwn.never rfl (cV rfl T.z_range (aa (aY bD (by rfl) T.z_len aaA (aa (pv 0) ao (se rfl)) (he:=se rfl) (hpl:=na rfl)) ao (se rfl))) (aD (i:=3) nd rfl (Or.inr rfl)) (ae (fR (i:=4) rfl nd rfl rfl (N:=["board","reach","found","place","part"]) (so:=af (top 23)) (N':=["other","reach","place"]) (k:=1) (fr:=[1,3]) rfl rfl ⟨rfl,by decide +kernel,by decide +kernel,by decide +kernel,rfl,by decide +kernel,by decide +kernel⟩ (bj (K:=K) (aY nk (by rfl) T.z_sorted rfl (aa (aG aJ (pv 1) (pv 3) (λ_ _=>rfl)) ao (se rfl)) (he:=se rfl) (hpl:=na rfl))) (λ_ _ _ _ _=>(aD (i:=0) (show(["other","reach","place"]:List Str).Nodup by decide +kernel) rfl (Or.inl rfl))) (λ_ _ _ _ _=>(mi (uK (za (pS hr) (pv 2) (aG aJ (pv 1) (pv 0) (λ_ _=>rfl))))))
   (λ_ _ _ _ _=>(pv 0)))
  (au (b8 (aR cK (aG aJ (pv 4) ag (λ_ _=>rfl)) (pv 3) (aX _)) (au (cN (dY aaL aaZ aa0 cm.r (pv 2) (aa (pv 4) ao (se rfl)))))
   bC))))
  (au (aP (zQ (i:=1) (dsc:=dsc) (t0:=0) rfl T.z_sorted T.z_len LB rfl hr rfl (pv 2))))))),?_⟩
  refine(?_:let cq:TS:=_;let cu:TS:=_;let cv:TS:=_;let dj:TS:=_;tSeq cq (tSeq cu (tSeq cv dj)) _ _ _)
  intro cq cu cv dj
  have sl:=sizeLine_eq
  refine(?_:let G_:Prop:=_;G_)
  intro G_
  obtain⟨_,xs,e,ha,rl⟩:=aQ.mp rb
  dsimp only[G_]
  clear G_
  cases e
  have lx:=rl.length
  rw[aac] at lx
  change tSeq _ _ _ _ _
  refine aV (λσ' H1=>az H H1/\∃r ys,H1 r=some (.lst ys)/\ys.length=b.length/\(∀(i:Nat) y,ys[i]?=some y->∃d,y=.ref d/\fx H1 d (Bf.steps b (i:Int)))/\σ'=[some (.ref a),some (.ref r),none,none,none]) ?_ (λN hN=>?_)
  case refine_2=>
   simp_all only[wN]
   refine⟨_,ha,by omega,by omega,?_⟩
   refine comp_map src_range (λ_ _ _ _ h=>by rw[h.1];exact az.refl _) (by omega) (λi y H4=>∃d,y=.ref d/\fx H4 d (Bf.steps b (i:Int))) (λi y H4 H5 s5 ⟨d,e,h⟩=>⟨d,e,h.mono s5⟩) ?_ ?_
   ·rintro i x w0 H4 H5 Q2 hi s4 ⟨rfl,rfl⟩ kq
    simp_all only[wN,Int.zero_add]
    exact⟨b,rb.mono s4,by omega,sY,gb,by omega,by omega,λd H6 s6 n6 dr=>kq _ _ s6 ⟨d,rfl,dr⟩⟩
   ·intro ys H5 s5 ly hy D n1 n2
    refine hN _ _ ⟨s5.trans (ax n2),D,ys,ar,by omega,λi y e=>?_,rfl⟩
    refine(?_:let G_:Prop:=_;G_)
    intro G_
    obtain⟨d,e1,h1⟩:=hy i y e
    dsimp only[G_]
    exact⟨d,e1,h1.mono (ax n2)⟩
  intro _ H1 bK
  refine(?_:let G_:Prop:=_;G_)
  intro G_
  obtain⟨s1,r,ys,I0,ly,hy,rfl⟩:=bK
  dsimp only[G_]
  clear G_
  change tSeq _ _ _ _ _
  refine aV (λσ' H2=>∃fa,H1 fa=none/\az H1 H2/\H2 fa=some (.lst [])/\σ'=[some (.ref a),some (.ref r),some (.ref fa),none,none]) ?_ (λN hN=>?_)
  case refine_2=>
   simp_all only[]
   exact⟨aar _,λfa nf=>hN _ _ ⟨fa,nf,ax nf,ar,rfl⟩⟩
  intro _ H2 bK
  refine(?_:let G_:Prop:=_;G_)
  intro G_
  obtain⟨fa,nf,s2,Ja,rfl⟩:=bK
  dsimp only[G_]
  clear G_
  have F8:∀i:Nat,i<b.length->∃d kvs,ys[i]?=some (.ref d)/\fx H1 d (Bf.steps b (i:Int))/\H1 d=some (.dK kvs)/\gR kvs=Pr.kb b (i:Int)/\(∀p∈kvs,∃k,p.1=Sum.inl k)/\kvs.length=(Pr.kb b (i:Int)).length:=λi hi=>by
   refine(?_:let G_:Prop:=_;G_)
   intro G_
   obtain⟨d,e,dr⟩:=hy i _ (aad (by omega))
   obtain⟨kvs,hd,hk,_⟩:=dr.ex
   dsimp only[G_]
   refine⟨d,kvs,by rw[aad (by omega),e],dr,hd,?_,λp hp=>?_,?_⟩
   ·have:gR kvs=(kvs.map (·.1)).map (λk:Key=>match k with | .inl i=>i | .inr _=>(0:Int)):=by
     unfold gR
     rw[aaS]
     rfl
    rw[this,hk,aaS]
    unfold Pr.kb
    simp [Function.comp_def]
   ·have:p.1∈(Bf.keys (Bf.steps b (i:Int))).map Sum.inl:=by rw[<-hk];exact List.mem_map.mpr ⟨p,hp,rfl⟩
    refine(?_:let G_:Prop:=_;G_)
    intro G_
    obtain⟨k,_,e⟩:=List.mem_map.mp this
    dsimp only[G_]
    exact⟨k,e.symm⟩
   ·have:=congrArg List.length hk
    rw[aac,aac] at this
    exact this
  change tSeq _ _ _ _ _
  refine aV (λσ' H3=>az H1 H3/\∃as,H3 fa=some (.lst (List.map V.ref as))/\Al (λp v=>∃x,v=.ref x/\H3 x=some (.lst (List.map V.int (Pr.cZ b p)))/\H1 x=none) (Pr.lh b b.length) (as.map V.ref)/\∃z3 z4,σ'=[some (.ref a),some (.ref r),some (.ref fa),z3,z4]) ?_ (λN hN=>?_)
  case refine_2=>
   simp_all only[]
   refine⟨_,s2 _ _ (s1 _ _ ha),by omega,by omega,?_⟩
   refine bJ (src_range (Ok:=λ_=>True)) (λi σ H3=>az H1 H3/\∃as,H3 fa=some (.lst (List.map V.ref as))/\Al (λp v=>∃x,v=.ref x/\H3 x=some (.lst (List.map V.int (Pr.cZ b p)))/\H1 x=none/\x≠fa) (Pr.lh b i) (as.map V.ref)/\∃z3 z4,σ=[some (.ref a),some (.ref r),some (.ref fa),z3,z4]) ⟨s2,[],Ja,trivial,_,_,rfl⟩ (λ_ _ _ _ _=>trivial) ?_ ?_
   ·intro i x σ H3 H4 hi df dk
    refine(?_:let G_:Prop:=_;G_)
    intro G_
    obtain⟨s3,as,BG,al,z3,z4,rfl⟩:=df
    obtain⟨rfl,rfl⟩:=dk
    dsimp only[G_]
    clear G_
    simp_all only[Int.zero_add]
    have X6:i<b.length:=by omega
    have vU:Pr.In b (i:Int):=⟨by omega,by omega⟩
    refine(?_:let G_:Prop:=_;G_)
    intro G_
    obtain⟨d,kvs,ed,dr,hd,ek,ka,kl⟩:=F8 i X6
    dsimp only[G_]
    clear G_
    have kbl:=Pr.Ac gb vU
    refine⟨ys,s3 _ _ I0,.ref d,bA ed,d,rfl,kvs,.inl (s3 _ _ hd),ka,by omega,λl nl=>?_⟩
    rw[ek]
    have sL:=ax (o:=.lst (List.map V.int (Nm.ml (Pr.kb b (i:Int))))) nl
    have F6:(upd H4 l (.lst (List.map V.int (Nm.ml (Pr.kb b (i:Int)))))) l=some (.lst (List.map V.int (Nm.ml (Pr.kb b (i:Int))))):=ar
    generalize upd H4 l (.lst (List.map V.int (Nm.ml (Pr.kb b (i:Int)))))=H5 at *
    refine⟨⟨_,bo.of F6⟩,?_⟩
    have S:Src (uL K l) (az H5) (Nm.ml (Pr.kb b (i:Int))).length (λj x H H3=>H3=H/\(List.map V.int (Nm.ml (Pr.kb b (i:Int))))[j]?=some x):=by
     have:=src_list (K:=K) (a:=l) (xs:=List.map V.int (Nm.ml (Pr.kb b (i:Int)))) (Ok:=az H5) (λH' s'=>bo.of (s' _ _ F6))
     rw[aac] at this
     exact this
    refine dA (Nm.ml (Pr.kb b (i:Int))) (λo=>if decide ((i:Int)∈Pr.kb b o)=true then some o else none) S (λ_ _ _ _ h=>h.1) (by rw[Nm.nj];omega) ?_ ?_
    ·rintro j o x eo ⟨_,ex⟩ Y N1 y1 n1
     rw[aaf,eo] at ex
     cases ex
     have ho:=Nm.wA.mp (aag eo)
     obtain⟨Vi,X7⟩:=Pr.og gb vU ho
     obtain⟨o,rfl⟩:=aau Vi
     refine(?_:let G_:Prop:=_;G_)
     intro G_
     obtain⟨d2,X8,My,X9,hd2,ek2,ka2,kl2⟩:=F8 o (by omega)
     obtain⟨oo,g1,g2⟩:=(X9.mono (s3.trans sL)).has (Pr.oa gb ⟨Vi,X7⟩) (i:Int)
     dsimp only[G_]
     simp_all only[s3.trans sL _ _ I0,show fc ys (o:Int)=some (.ref d2) from bA My]
     refine⟨oo,g1,?_⟩
     rw[g2]
     exact gP (λc=>y1 _ (if_pos c)) (λc=>n1 (if_neg c))
    ·intro D n1 n2
     rw[xB]
     have ep:(Nm.ml (Pr.kb b (i:Int))).filter (λo=>decide ((i:Int)∈Pr.kb b o))=Pr.cZ b (i:Int):=rfl
     rw[ep]
     have ne:=Pr.iY gb vU
     have sD:=ax (o:=.lst (List.map V.int (Pr.cZ b (i:Int)))) n2
     have hD:(upd H5 D (.lst (List.map V.int (Pr.cZ b (i:Int))))) D=some (.lst (List.map V.int (Pr.cZ b (i:Int)))):=ar
     generalize upd H5 D (.lst (List.map V.int (Pr.cZ b (i:Int))))=H6 at *
     have F9:az H1 H6:=s3.trans (sL.trans sD)
     have IZ:H6 fa=some (.lst (List.map V.ref as)):=sD _ _ (sL _ _ BG)
     have nD:H1 D=none:=none_of (s3.trans sL) n2
     have Df:D≠fa:=λz=>by rw[z,sL _ _ BG] at n2;cases n2
     have Vj:Al (λp v=>∃x,v=V.ref x/\H6 x=some (.lst (List.map V.int (Pr.cZ b p)))/\H1 x=none/\x≠fa) (Pr.lh b i) (as.map V.ref):=al.imp λp v ⟨x,e,h1,h2,h3⟩=>⟨x,e,sD _ _ (sL _ _ h1),h2,h3⟩
     have vV:=al.length
     rw[aac] at vV
     have oS:=Pr.wR (b:=b) (n:=i)
     cases ec:Pr.cZ b (i:Int) with
     | nil=>exact absurd ec ne
     | cons x0 rest=>
      have Jb:Pr.rep b (i:Int)=x0:=by unfold Pr.rep;rw[ec];rfl
      refine⟨_,hD,.int x0,by rw[ec,aav];exact at0,rfl,?_⟩
      by_cases c:x0=(i:Int)
      ·rw[if_pos (by rw[c])]
       refine⟨.inl ⟨rfl,_,bo.of IZ⟩,fa,List.map V.ref as,.ref D,rfl,rfl,IZ,by rw[aac];omega,ba F9 nf,as++ [D],by rw[ar,aaw];rfl,?_,_,rfl⟩
       rw[Pr.tX,if_pos (by rw[Jb,c]),aaw]
       exact(Vj.imp λp v ⟨x,e,h1,h2,h3⟩=>⟨x,e,by rw[aH h3];exact h1,h2,h3⟩).append (.one ⟨D,rfl,by rw[aH Df];exact hD,nD,Df⟩)
      ·rw[if_neg (by intro z;exact c (by injection z))]
       refine⟨F9,as,IZ,?_,_,rfl⟩
       rw[Pr.tX,if_neg (by rw[Jb];exact c)]
       exact Vj
   ·intro σ H3 bK
    refine(?_:let G_:Prop:=_;G_)
    intro G_
    obtain⟨s3,as,BG,al,z3,z4,rfl⟩:=bK
    dsimp only[G_]
    rw[aai,<-lx] at al
    exact hN _ _ ⟨s3,as,BG,al.imp λp v ⟨x,e,h1,h2,_⟩=>⟨x,e,h1,h2⟩,_,_,rfl⟩
  intro _ H3 bK
  refine(?_:let G_:Prop:=_;G_)
  intro G_
  obtain⟨s3,as,BG,al,z3,z4,rfl⟩:=bK
  dsimp only[G_]
  simp_all only[zP]
  have each:∀x∈as,∃p,p∈Pr.lh b b.length/\H3 x=some (.lst (List.map V.int (Pr.cZ b p)))/\H1 x=none/\oE H3 x=p/\Pr.In b p:=λx hx=>by
   obtain⟨i,ei⟩:=aaD hx
   obtain⟨p,ep,x',e,h1,h2⟩:=al.get (show(as.map V.ref)[i]?=some (.ref x) by rw[aaf,ei];rfl)
   cases e
   have mp:=aag ep
   obtain⟨vU,er⟩:=Pr.ij.mp mp
   refine⟨p,mp,h1,h2,?_,vU⟩
   unfold oE
   rw[h1]
   unfold Pr.rep at er
   cases ec:Pr.cZ b p with
   | nil=>exact absurd ec (Pr.iY gb vU)
   | cons x0 r0=>rw[ec] at er;exact er
  have emap:as.map (oE H3)=Pr.lh b b.length:=by
   apply aa8
   intro i
   rw[aaf]
   cases ei:as[i]? with
   | none=>
    have l1:=al.length
    rw[aac] at l1
    have l2:=List.getElem?_eq_none_iff.mp ei
    rw[aas (by omega)]
    rfl
   | some x=>
    obtain⟨p,ep,x',e,h1,h2⟩:=al.get (show(as.map V.ref)[i]?=some (.ref x) by rw[aaf,ei];rfl)
    cases e
    obtain⟨vU,er⟩:=Pr.ij.mp (aag ep)
    rw[ep]
    show some (oE H3 x)=some p
    unfold oE
    rw[h1]
    unfold Pr.rep at er
    cases ec:Pr.cZ b p with
    | nil=>exact absurd ec (Pr.iY gb vU)
    | cons x0 r0=>rw[ec] at er;exact congrArg some er
  have vV:=al.length
  rw[aac] at vV
  have oS:=Pr.wR (b:=b) (n:=b.length)
  refine⟨as,BG,by omega,λx=>((Pr.kb b (oE H3 x)).length:Int),ys,s3 _ _ I0,s3 _ _ (s1 _ _ nO),λx hx=>?_,λp cs H4 s4 np hp pm pw=>?_⟩
  ·refine(?_:let G_:Prop:=_;G_)
   intro G_
   obtain⟨p,mp,h1,h2,h3,vU⟩:=each x hx
   obtain⟨i,rfl⟩:=aau vU.1
   have i1:=vU.2
   obtain⟨d,kvs,ed,dr,hd,ek,ka,kl⟩:=F8 i (by omega)
   dsimp only[G_]
   show ∃j xs,H3 x=some (HO.lst (V.int j::xs))/\0<=j/\j<1000000/\∃x_1,ys[j.toNat]?=some (V.ref x_1)/\∃x_2,H3 x_1=some (HO.dK x_2)/\((Pr.kb b (oE H3 x)).length:Int)=((x_2.length:Nat):Int)
   rw[h3]
   have er:=(Pr.ij.mp mp).2
   unfold Pr.rep at er
   cases ec:Pr.cZ b (i:Int) with
   | nil=>exact absurd ec (Pr.iY gb vU)
   | cons x0 r0=>
    rw[ec] at er h1
    have er:x0=(i:Int):=er
    subst er
    exact⟨(i:Int),_,h1,by omega,by omega,d,by rw[aai];exact ed,kvs,s3 _ _ hd,by rw[kl]⟩
  ·have MO:(cs.map (oE H3)).Perm (Pr.lh b b.length):=by rw[<-emap];exact pm.map _
   refine kk p (cs.map (oE H3)) cs H4 ⟨MO,?_⟩ ((s1.trans s3).trans s4) (none_of (s1.trans s3) np) hp ?_
   ·rw[List.pairwise_map]
    exact pw.imp λ{x y} (h:((Pr.kb b (oE H3 x)).length:Int)<=((Pr.kb b (oE H3 y)).length:Int))=>by omega
   ·refine Al.of (by rw[aac,aac]) λi v q e1 e2=>?_
    rw[aaf] at e1 e2
    refine(?_:let G_:Prop:=_;G_)
    intro G_
    obtain⟨x,ex,rfl⟩:=Option.map_eq_some_iff.mp e1
    dsimp only[G_]
    rw[ex] at e2
    cases e2
    refine(?_:let G_:Prop:=_;G_)
    intro G_
    obtain⟨q,mq,h1,h2,h3,vU⟩:=each x (pm.mem_iff.mp (aag ex))
    dsimp only[G_]
    rw[h3]
    exact⟨x,rfl,s4 _ _ h1,none_of s1 h2⟩
theorem fC:aO ["rows","start","spot"] ["rows","start"] (af (top 16)):=⟨rfl,rfl,rfl,by decide +kernel,rfl,by decide +kernel,by decide +kernel⟩
theorem Jc (T:Txt K mg aB tc):bU P w K mg base (bL P w) 1 "row_with_head" ["rows","start"] Fy:=by
 refine T.lB.dZ (λ_ _ _ _ _ _=>eE λ_ _=>rfl) λf fd F=>F.d8 fC (λvs H Q E h=>?_) (λcD A outer s H vs Q E hr h=>?_)
 ·obtain⟨_,_,_,rfl,_⟩:=h;rfl
 ·refine(?_:let G_:Prop:=_;G_)
  intro G_
  obtain⟨a,L,k,rfl,⟨xs,ha,al⟩,kn,MP,ne,kS,kN⟩:=h
  dsimp only[G_]
  have nd:=fC.nd
  refine⟨_,(ae (bY PassesOwn.never rfl (xQ rfl T.z_range (aa (pv 1) (aa (aY bD (by rfl) T.z_len aaA (aa (pv 0) ao (se rfl)) (he:=se rfl) (hpl:=na rfl)) ao (se rfl)) (se rfl))) (aD (i:=2) nd rfl (Or.inl rfl)) (au (b8 (aR sJ (aG aJ (aG aJ (pv 0) (pv 2) (λ_ _=>rfl)) ag (λ_ _=>rfl)) ag (aX _)) (au (aP (pv 2)))
   bC)))
  (au (aP eW))),?_⟩
  have lx:=al.length
  simp_all only[]
  refine⟨_,ha,by omega,by omega,by omega,by omega,bJ (src_range (Ok:=λ_=>True)) (λi σ H'=>H=H'/\(∀j:Nat,k<=j->j<k+i->(L.getD j []).headD 0=0)/\∃z,σ=[some (.ref a),some (.int (k:Int)),z]) ⟨rfl,λj h1 h2=>by omega,_,rfl⟩ (λ_ _ _ _ _=>trivial) ?_ ?_⟩
  ·intro i x σ H' H'' hi df dk
   refine(?_:let G_:Prop:=_;G_)
   intro G_
   obtain⟨rfl,hz,z,rfl⟩:=df
   obtain⟨rfl,rfl⟩:=dk
   have C0:k+i<L.length:=by omega
   have er:L[k+i]?=some L[k+i]:=aad C0
   obtain⟨q,eq,hq⟩:=ou al er
   dsimp only[G_]
   have eh:=jD (ne L[k+i] (aao C0))
   have eg:L.getD (k+i) []=L[k+i]:=by rw[aae,er];rfl
   have ei:((k:Int)+ (i:Int))=((k+i:Nat):Int):=by omega
   rw[ei]
   simp_all only[ha,eq,hq,eh]
   refine gP (λc=>?_) (λc=>?_)
   ·exact kS (k+i) (by omega) C0 (by rw[eg];exact c)
   ·refine⟨λj h1 h2=>?_,_,rfl⟩
    by_cases e:j=k+i
    ·rw[e,eg]
     exact Decidable.not_not.mp c
    ·exact hz j h1 (by omega)
  ·intro σ H' bK
   refine(?_:let G_:Prop:=_;G_)
   intro G_
   obtain⟨rfl,hz,z,rfl⟩:=bK
   dsimp only[G_]
   simp_all only[]
   exact kN λi h1 h2=>hz i h1 (by omega)
theorem oF:aO ["rows","one","other","turned"] ["rows","one","other"] (af (top 17)):=⟨rfl,rfl,rfl,by decide +kernel,rfl,by decide +kernel,by decide +kernel⟩
theorem Ga (T:Txt K mg aB tc):bU P w K mg base (bL P w) 1 "swapped" ["rows","one","other"] AB:=by
 refine T.yl.dZ (λ_ _ _ _ _ _=>tU λ_ _ _=>rfl) λf fd F=>F.d8 oF (λvs H Q E h=>?_) (λcD A outer s H vs Q E hr h=>?_)
 ·obtain⟨_,_,_,_,rfl,_⟩:=h;rfl
 ·refine(?_:let G_:Prop:=_;G_)
  intro G_
  obtain⟨a,L,i,j,rfl,⟨xs,ha,al⟩,hi,hj,MP,kk⟩:=h
  dsimp only[G_]
  clear G_
  have nd:=oF.nd
  refine⟨_,(ae (aF (i:=3) nd rfl (Or.inl rfl) (hV (dH (K:=K)) (by rfl) T.z_list rfl (aa (pv 0) ao (se rfl)) (he:=se rfl) (hpl:=na rfl)))
  (ae (dQ (aG aJ (pv 0) (pv 2) (λ_ _=>rfl)) (fM (pv 3) (pv 1) set_list))
  (ae (dQ (aG aJ (pv 0) (pv 1) (λ_ _=>rfl)) (fM (pv 3) (pv 2) set_list))
  (au (aP (pv 3)))))),?_⟩
  refine(?_:let cq:TS:=_;let cu:TS:=_;let cv:TS:=_;let dj:TS:=_;tSeq cq (tSeq cu (tSeq cv dj)) _ _ _)
  intro cq cu cv dj
  have lx:=al.length
  have ei:L[i]?=some (L.getD i []):=by rw[aae,aad hi];rfl
  have ej:L[j]?=some (L.getD j []):=by rw[aae,aad hj];rfl
  refine(?_:let G_:Prop:=_;G_)
  intro G_
  obtain⟨qi,ai,Yb⟩:=ou al ei
  obtain⟨qj,aj,Yc⟩:=ou al ej
  dsimp only[G_]
  clear G_
  simp_all only[ha]
  refine⟨_,.inl (bo.of ha),λm nm=>?_⟩
  have sm:=ax (o:=.lst xs) nm
  have hm:upd H m (.lst xs) m=some (.lst xs):=ar
  generalize upd H m (.lst xs)=H1 at *
  simp_all only[sm _ _ ha,aj]
  have am:a≠m:=λe=>by rw[e,nm] at ha;cases ha
  refine⟨_,hm,i,il (by omega),_,by rw[aH am];exact sm _ _ ha,_,ai,_,ar,j,il (by rw[aaU];omega),?_⟩
  have s2:=ba (o:=.lst ((xs.set i (V.ref qj)).set j (V.ref qi))) (ba (o:=.lst (xs.set i (V.ref qj))) sm nm) nm
  exact kk _ _ s2 ⟨_,ar,((al.imp λ_ _ h=>h.mono s2).set ⟨qj,rfl,s2 _ _ Yc⟩).set ⟨qi,rfl,s2 _ _ Yb⟩⟩
theorem de:aO ["rows","spot","last","head","tail","left","number","row","first"] ["rows","spot","last"] (af (top 18)):=⟨rfl,rfl,rfl,by decide +kernel,rfl,by decide +kernel,by decide +kernel⟩
theorem Jd (T:Txt K mg aB tc):bU P w K mg base (bL P w) 1 "without_first_column" ["rows","spot","last"] Fz:=by
 refine T.fX.dZ (λ_ _ _ _ _ _=>tU λ_ _ _=>rfl) λf fd F=>F.d8 de (λvs H Q E h=>?_) (λcD A outer s H vs Q E hr h=>?_)
 ·obtain⟨_,_,_,_,_,rfl,_⟩:=h;rfl
 ·refine(?_:let G_:Prop:=_;G_)
  intro G_
  obtain⟨a,L,s',l,m,rfl,⟨xs,ha,al⟩,hs,MP,MG,Vk,l0,bl,bx,kk⟩:=h
  dsimp only[G_]
  clear G_
  have nd:=de.nd
  refine⟨_,(ae (aF (i:=3) nd rfl (Or.inr rfl) (aG aJ (aG aJ (pv 0) (pv 1) (λ_ _=>rfl)) ag (λ_ _=>rfl)))
  (ae (aF (i:=4) nd rfl (Or.inl rfl) (sQ (tq (K:=K)) (aG aJ (pv 0) (pv 1) (λ_ _=>rfl)) (wc ag) wb))
  (ae (aF (i:=5) nd rfl (Or.inl rfl) (cM ao))
  (ae (bY PassesOwn.never rfl (cL (K:=K) rfl T.z_enumerate (aa (pv 0) ao (se rfl))) (bP (K:=K) (n:=2) rfl (aN (aD (i:=6) nd rfl (Or.inl rfl)) (aN (aD (i:=7) nd rfl (Or.inl rfl)) bN))) (au (b8 (aR cK (pv 6) (pv 1) (aX _)) (au (cN (dY aaL aaZ aa0 cm.r (pv 5) (aa (pv 4) ao (se rfl)))))
   (ae (aF (i:=8) nd rfl (Or.inr rfl) (aG aJ (pv 7) ag (λ_ _=>rfl)))
  (au (cN (dY aaL aaZ aa0 cm.r (pv 5) (aa (bX rfl (N:=["rows","spot","last","head","tail","left","number","row","first"]) (so:=af (top 18)) (N':=["one","other","last","head","first"]) (k:=2) (fr:=[2,3,8]) rfl rfl ⟨rfl,by decide +kernel,by decide +kernel,by decide +kernel,rfl,by decide +kernel,by decide +kernel⟩ (jx (K:=K) rfl T.z_zip (aa (sQ (tq (K:=K)) (pv 7) (wc ag) wb) (aa (pv 4) ao (se rfl)) (se rfl))) (λ_ _ _ _ _=>(bP (K:=K) (n:=2) rfl (aN (aD (i:=0) (show(["one","other","last","head","first"]:List Str).Nodup by decide +kernel) rfl (Or.inl rfl)) (aN (aD (i:=1) (show(["one","other","last","head","first"]:List Str).Nodup by decide +kernel) rfl (Or.inl rfl)) bN)))) (λ_ _ _ _ _=>bO)
   (λ_ _ _ _ _=>(aE ze (aE mV (aE aT (pv 3) (pv 0)) (aE aT (pv 4) (pv 1))) (pv 2)))) ao (se rfl)))))))))
  (au (aP (pv 5))))))),?_⟩
  refine(?_:let cq:TS:=_;let cu:TS:=_;let cv:TS:=_;let dj:TS:=_;let iE:TS:=_;tSeq cq (tSeq cu (tSeq cv (tSeq dj iE))) _ _ _)
  intro cq cu cv dj iE
  have sl:=sizeLine_eq
  have lx:=al.length
  have es:L[s']?=some (L.getD s' []):=by rw[aae,aad hs];rfl
  refine(?_:let G_:Prop:=_;G_)
  intro G_
  obtain⟨qs,Vl,Lb⟩:=ou al es
  dsimp only[G_]
  clear G_
  have ls:=Vk _ (aag es)
  have bs:=bx _ (aag es)
  have hh:=jD (r:=L.getD s' []) (by omega)
  have bh:Bt 4000 ((L.getD s' []).headD 0):=bs _ (by
   cases e:L.getD s' [] with
   | nil=>rw[e] at ls;cases ls
   | cons x r=>exact aaj ..)
  have hw:∀i:Nat,aS.pe L s' l i=if i=s' then (L.getD i []).tail else List.zipWith (λone other=>((L.getD s' []).headD 0*one - (L.getD i []).headD 0*other).fdiv l) (L.getD i []).tail (L.getD s' []).tail:=λi=>rfl
  generalize (L.getD s' []).headD 0=hd at *
  generalize L.getD s' []=R at *
  change tSeq _ _ _ _ _
  refine aV (λσ' H1=>H=H1/\σ'=[some (.ref a),some (.int (s':Int)),some (.int l),some (.int hd),none,none,none,none,none]) ?_ (λN hN=>?_)
  case refine_2=>
   simp_all only[ha,Vl,Lb,hh]
   exact hN _ _ ⟨rfl,rfl⟩
  rintro _ _ ⟨rfl,rfl⟩
  change tSeq _ _ _ _ _
  refine aV (λσ' H1=>az H H1/\∃tl,H1 tl=some (.lst (List.map V.int R.tail))/\σ'=[some (.ref a),some (.int (s':Int)),some (.int l),some (.int hd),some (.ref tl),none,none,none,none]) ?_ (λN hN=>?_)
  case refine_2=>
   simp_all only[ha,Vl]
   exact⟨_,bo.of Lb,λtl Yd=>hN _ _ ⟨ax Yd,tl,by rw[ar,ub],rfl⟩⟩
  intro _ H1 bK
  refine(?_:let G_:Prop:=_;G_)
  intro G_
  obtain⟨vW,tl,De,rfl⟩:=bK
  dsimp only[G_]
  clear G_
  change tSeq _ _ _ _ _
  refine aV (λσ' H2=>az H1 H2/\∃lf,H1 lf=none/\H2 lf=some (.lst [])/\σ'=[some (.ref a),some (.int (s':Int)),some (.int l),some (.int hd),some (.ref tl),some (.ref lf),none,none,none]) ?_ (λN hN=>?_)
  case refine_2=>
   simp_all only[]
   exact⟨aar _,λlf nl=>hN _ _ ⟨ax nl,lf,nl,ar,rfl⟩⟩
  intro _ H2 bK
  refine(?_:let G_:Prop:=_;G_)
  intro G_
  obtain⟨Vm,lf,IY,Ye,rfl⟩:=bK
  dsimp only[G_]
  clear G_
  have Yg:tl≠lf:=λe=>by rw[e,IY] at De;cases De
  change tSeq _ _ _ _ _
  refine aV (λσ' H3=>az H1 H3/\rK H3 lf (aS.K3 L s' l)/\∃z1 z2 z3,σ'=[some (.ref a),some (.int (s':Int)),some (.int l),some (.int hd),some (.ref tl),some (.ref lf),z1,z2,z3]) ?_ (λN hN=>?_)
  case refine_2=>
   simp_all only[]
   refine⟨⟨_,bo.of (Vm _ _ (vW _ _ ha))⟩,bJ (fq (Ok:=az H1) (λH' s=>bo.of (s _ _ (vW _ _ ha)))) (λi σ H3=>az H1 H3/\∃ys,H3 lf=some (.lst ys)/\Al (Rw (cE H3 lf)) ((List.range i).map (aS.pe L s' l)) ys/\∃z1 z2 z3,σ=[some (.ref a),some (.int (s':Int)),some (.int l),some (.int hd),some (.ref tl),some (.ref lf),z1,z2,z3]) ⟨Vm,[],Ye,trivial,_,_,_,rfl⟩ (λ_ _ _ _ h=>h.1) ?_ ?_⟩
   ·intro i x σ H3 H4 hi df dk
    refine(?_:let G_:Prop:=_;G_)
    intro G_
    obtain⟨Gb,ys,MQ,ay,z1,z2,z3,rfl⟩:=df
    obtain⟨p,y,np,rfl,ey,rfl⟩:=dk
    obtain⟨r,er,q,rfl,hq⟩:=al.get ey
    dsimp only[G_]
    clear G_
    have ly:=ay.length
    rw[aac,aaz] at ly
    have Yh:=Vk _ (aag er)
    have Vn:=bx _ (aag er)
    have gr:L.getD i []=r:=by rw[aae,er];rfl
    refine⟨p,_,rfl,eL.of ar,rfl,?_⟩
    have s4:=ax (o:=.tup [.int i,.ref q]) np
    generalize upd H3 p (.tup [.int i,.ref q])=H4 at *
    have Lc:=Gb.trans s4
    have xA:=s4 _ _ MQ
    have Vo:=Lc _ _ (vW _ _ hq)
    have Vp:=Lc _ _ De
    have Vq:=ay.imp λ_ _ h=>h.mono (bI (p:=lf) s4)
    have eR:(List.range (i+1)).map (aS.pe L s' l)=(List.range i).map (aS.pe L s' l)++ [aS.pe L s' l i]:=by rw[List.range_succ,aaw];rfl
    simp_all only[cO]
    by_cases c:i=s'
    ·rw[if_pos (by omega)]
     refine⟨.inl ⟨rfl,_,bo.of xA⟩,_,xA,by omega,ba Lc IY,_,ar,?_,_,rfl⟩
     rw[rL,eR]
     refine Vq.append (.one ⟨tl,rfl,?_⟩)
     have Yi:r=R:=by
      subst c
      rw[er] at es
      cases es
      rfl
     rw[bE Yg,Vp,hw,if_pos c,gr,Yi]
    ·rw[if_neg (by omega)]
     have Yj:=jD (r:=r) (by omega)
     simp_all only[Vo,Yj,cO]
     refine⟨.inl ⟨rfl,_,bo.of xA⟩,_,bo.of Vo,λp2 MR=>?_⟩
     have s5:=ax (o:=.lst (oY (List.map V.int r) (some 1) none)) MR
     have rY:upd H4 p2 (.lst (oY (List.map V.int r) (some 1) none)) p2=some (.lst (List.map V.int r.tail)):=by rw[ar,ub]
     generalize upd H4 p2 (.lst (oY (List.map V.int r) (some 1) none))=H5 at *
     have vX:=Lc.trans s5
     have Vr:=s5 _ _ Vp
     have Yk:Bt 4000 (r.headD 0):=Vn _ (by
      cases r with
      | nil=>cases Yh
      | cons x r=>exact aaj ..)
     refine⟨⟨_,bo.of rY⟩,⟨_,bo.of Vr⟩,?_⟩
     refine fm (K:=K) (jw (λH' s'=>bo.of (s' _ _ rY)) (λH' s'=>bo.of (s' _ _ Vr))) (λj u v _=>∃o1 o2,r.tail[j]?=some o1/\R.tail[j]?=some o2/\u=.int o1/\v=.int o2) ?_ (by rw[aac,aac,List.length_tail,List.length_tail];omega) (λj y _=>∀o1 o2,r.tail[j]?=some o1->R.tail[j]?=some o2->y=.int ((hd*o1 - r.headD 0*o2).fdiv l)) (λ_ _ _ _ _ h=>h) ?_ ?_
     ·intro j v H6 H7 hj s6 df
      refine(?_:let G_:Prop:=_;G_)
      intro G_
      obtain⟨t,x,y,nt,rfl,ex,Ib,rfl⟩:=df
      rw[aaf] at ex Ib
      obtain⟨o1,e1,rfl⟩:=Option.map_eq_some_iff.mp ex
      obtain⟨o2,e2,rfl⟩:=Option.map_eq_some_iff.mp Ib
      dsimp only[G_]
      exact⟨ax nt,t,_,_,rfl,eL.of ar,o1,o2,e1,e2,rfl,rfl⟩
     ·intro j u v H6 Q2 hj s6 dk kq
      refine(?_:let G_:Prop:=_;G_)
      intro G_
      obtain⟨o1,o2,e1,e2,rfl,rfl⟩:=dk
      dsimp only[G_]
      have b1:=Vn o1 (List.mem_of_mem_tail (aag e1))
      have b2:=bs o2 (List.mem_of_mem_tail (aag e2))
      simp_all only[]
      refine⟨bh.du b1,Yk.du b2,wm.of l0 bl,kq _ _ (az.refl _) λ_ _ f1 f2=>?_⟩
      rw[e1] at f1
      rw[e2] at f2
      cases f1
      cases f2
      rfl
     ·intro zs H6 s6 lz hz D n1 n2
      have ez:=AA (f:=λo1 o2=>(hd*o1 - r.headD 0*o2).fdiv l) lz hz
      have Dd:=s6 _ _ (s5 _ _ xA)
      refine⟨_,ax n2 _ _ Dd,by omega,ba ((vX.trans s6).trans (ax n2)) IY,_,ar,?_,_,rfl⟩
      rw[rL,eR]
      refine(Vq.imp λ_ _ h=>h.mono (bI ((s5.trans s6).trans (ax n2)))).append (.one ⟨D,rfl,?_⟩)
      rw[bE (λe=>by rw[e,Dd] at n2;cases n2),ar,hw,if_neg c,gr,ez]
   ·intro σ H3 bK
    refine(?_:let G_:Prop:=_;G_)
    intro G_
    obtain⟨Gb,ys,MQ,ay,z1,z2,z3,rfl⟩:=bK
    dsimp only[G_]
    rw[lx] at ay
    exact hN _ _ ⟨Gb,⟨ys,MQ,ay.imp λ_ _ h=>h.mono bV⟩,_,_,_,rfl⟩
  intro _ H3 bK
  refine(?_:let G_:Prop:=_;G_)
  intro G_
  obtain⟨Gb,hm,z1,z2,z3,rfl⟩:=bK
  dsimp only[G_]
  simp_all only[]
  exact kk _ _ (vW.trans Gb) hm
theorem ux:aO ["rows","columns","last","column","spot","head"] ["rows","columns"] (af (top 19)):=⟨rfl,rfl,rfl,by decide +kernel,rfl,by decide +kernel,by decide +kernel⟩
theorem Je (T:Txt K mg aB tc):bU P w K mg base (bL P w) 2 "swept" ["rows","columns"] FA:=by
 have lJ:bU P w K mg base (bL P w) 1 "row_with_head" ["rows","start"] Fy:=Jc T
 have yA:bU P w K mg base (bL P w) 1 "swapped" ["rows","one","other"] AB:=Ga T
 have fZ:bU P w K mg base (bL P w) 1 "without_first_column" ["rows","spot","last"] Fz:=Jd T
 refine T.CB.dZ (λ_ _ _ _ _ _=>eE λ_ _=>rfl) λf fd F=>F.d8 ux (λvs H Q E h=>?_) (λcD A outer s H vs Q E hr h=>?_)
 ·obtain⟨_,_,_,_,rfl,_⟩:=h;rfl
 ·refine(?_:let G_:Prop:=_;G_)
  intro G_
  obtain⟨a,L,n,m,rfl,hM,B,kk⟩:=h
  dsimp only[G_]
  have nd:=ux.nd
  refine⟨_,(ae (aF (i:=2) nd rfl (Or.inl rfl) ag)
  (ae (bY PassesOwn.never rfl (cV rfl T.z_range (aa (pv 1) ao (se rfl))) (aD (i:=3) nd rfl (Or.inl rfl)) (ae (aF (i:=4) nd rfl (Or.inl rfl) (aI lJ (hr.mono (by decide)) rfl aA.pass (aa (pv 0) (aa (pv 3) ao (se rfl)) (se rfl)) (he:=se rfl) (hpl:=na rfl)))
  (ae (b8 (aR uR (pv 4) eW (aX _)) (au (aP (bF (aa (pv 0) (aa (pv 3) (aa (pv 2) ao (se rfl)) (se rfl)) (se rfl)))))
   bC)
  (ae (aF (i:=0) nd rfl (Or.inl rfl) (aI yA (hr.mono (by decide)) rfl aA.pass (aa (pv 0) (aa (pv 3) (aa (pv 4) ao (se rfl)) (se rfl)) (se rfl)) (he:=se rfl) (hpl:=na rfl)))
  (ae (aF (i:=5) nd rfl (Or.inl rfl) (aG aJ (aG aJ (pv 0) (pv 3) (λ_ _=>rfl)) ag (λ_ _=>rfl)))
  (ae (aF (i:=0) nd rfl (Or.inl rfl) (aI fZ (hr.mono (by decide)) rfl aA.pass (aa (pv 0) (aa (pv 3) (aa (pv 2) ao (se rfl)) (se rfl)) (se rfl)) (he:=se rfl) (hpl:=na rfl)))
  (au (aF (i:=2) nd rfl (Or.inl rfl) (pv 5)))))))))
  (au (aP (bF (aa (pv 0) (aa (pv 1) (aa (pv 2) ao (se rfl)) (se rfl)) (se rfl))))))),?_⟩
  refine(?_:let cq:TS:=_;let cu:TS:=_;let cv:TS:=_;tSeq cq (tSeq cu cv) _ _ _)
  intro cq cu cv
  have sl:=sizeLine_eq
  have Bn:=B.nm
  have Bm:=B.MG
  have hlen:(L.map aS.fo).length=n:=by rw[aac,B.len]
  change tSeq _ _ _ _ _
  refine aV (λσ' H1=>H=H1/\σ'=[some (.ref a),some (.int (n:Int)),some (.int 1),none,none,none]) ?_ (λN hN=>?_)
  case refine_2=>
   simp_all only[]
   exact hN _ _ ⟨rfl,rfl⟩
  rintro _ _ ⟨rfl,rfl⟩
  change tSeq _ _ _ _ _
  refine aV (λσ' H1=>az H H1/\∃p rs W,aS.i4 (L.map aS.fo) n n rs W/\rK H1 p (W.map λv=>aS.bT v rs n m)/\∃z1 z2 z3,σ'=[some (.ref p),some (.int (n:Int)),some (.int (aS.D rs (aS.dn n))),z1,z2,z3]) ?_ (λN hN=>?_)
  case refine_2=>
   simp_all only[]
   refine⟨by omega,by omega,bJ (src_range (Ok:=λ_=>True)) (λi σ H1=>az H H1/\∃p rs W,aS.i4 (L.map aS.fo) n i rs W/\rK H1 p (W.map λv=>aS.bT v rs i m)/\∃z1 z2 z3,σ=[some (.ref p),some (.int (n:Int)),some (.int (aS.D rs (aS.dn i))),z1,z2,z3]) ?_ (λ_ _ _ _ _=>trivial) ?_ ?_⟩
   ·refine⟨az.refl _,a,[],L.map aS.fo,?_,?_,_,_,_,rfl⟩
    ·have:=aS.i4.start (U:=L.map aS.fo)
     rw[hlen] at this
     exact this
    ·rw[aS.vH B.row]
     exact hM
   ·intro k x σ H1 H2 hi df dk
    refine(?_:let G_:Prop:=_;G_)
    intro G_
    obtain⟨vW,p,rs,W,S,hW,z1,z2,z3,rfl⟩:=df
    obtain⟨rfl,rfl⟩:=dk
    dsimp only[G_]
    have lW:=S.len
    have hk:k<n:=by omega
    have MS:k<m:=by omega
    have rb:∀r∈W.map (λv=>aS.bT v rs k m),∀x∈r,Bt 4000 x:=λr hr x hx=>by
     refine(?_:let G_:Prop:=_;G_)
     intro G_
     obtain⟨v,hv,rfl⟩:=List.mem_map.mp hr
     dsimp only[G_]
     unfold aS.bT at hx
     refine(?_:let G_:Prop:=_;G_)
     intro G_
     obtain⟨t,_,rfl⟩:=List.mem_map.mp hx
     dsimp only[G_]
     exact(B.Bz _ _ _ S).2 v hv _
    have db:=(B.Bz _ _ _ S).1
    have Yl:(W.map λv=>aS.bT v rs k m).length=n:=by rw[aac,lW]
    have Gc:∀r∈W.map (λv=>aS.bT v rs k m),r.length=(m - (k+1))+1:=λr hr=>by
     refine(?_:let G_:Prop:=_;G_)
     intro G_
     obtain⟨v,_,rfl⟩:=List.mem_map.mp hr
     dsimp only[G_]
     rw[aS.di]
     omega
    have Vs:∀(i:Nat) (v:aS.Fm),W[i]?=some v->((W.map λv=>aS.bT v rs k m).getD i []).headD 0=aS.D (v::rs) (k::aS.dn k):=λi v e=>by
     rw[aS.getD_map e,aS.c9 MS]
     rfl
    change tSeq _ _ _ _ _
    rw[Int.zero_add]
    refine aV (λσ' H3=>H2=H3/\((aS.qh k rs W/\σ'=[some (.ref p),some (.int (n:Int)),some (.int (aS.D rs (aS.dn k))),some (.int (k:Int)),some .cB,z3])\/∃i u,k<=i/\i<n/\W[i]?=some u/\aS.D (u::rs) (k::aS.dn k)≠0/\σ'=[some (.ref p),some (.int (n:Int)),some (.int (aS.D rs (aS.dn k))),some (.int (k:Int)),some (.int (Nat.cast i)),z3])) ?_ (λN D7=>?_)
    case refine_2=>
     simp_all only[Fy]
     refine⟨_,k,rfl,hW,by omega,by omega,λr hr=>by rw[Gc r hr];omega,λi h1 h2 h3=>?_,λh=>?_⟩
     ·rw[Yl] at h2
      have ei:W[i]?=some W[i]:=aad (by omega)
      rw[Vs i _ ei] at h3
      exact D7 _ _ ⟨rfl,.inr ⟨i,_,h1,h2,ei,h3,rfl⟩⟩
     ·refine D7 _ _ ⟨rfl,.inl ⟨λu hu=>?_,rfl⟩⟩
      refine(?_:let G_:Prop:=_;G_)
      intro G_
      obtain⟨i,si,rfl⟩:=aaY hu
      dsimp only[G_]
      rw[List.length_drop] at si
      have ei:W[k+i]?=some W[k+i]:=aad (by omega)
      have:=h (k+i) (by omega) (by omega)
      rw[Vs _ _ ei] at this
      rw[List.getElem_drop]
      exact this
    rintro _ _ ⟨rfl,⟨yL,rfl⟩ | ⟨i,u,h1,h2,ei,Mi,rfl⟩⟩
    ·simp_all only[]
     exact⟨by decide,λt H3 s3 nt e3=>kk t p k rs W _ S (λ_=>yL) (vW.trans s3) e3 (hW.mono s3)⟩
    ·have ek:W[k]?=some W[k]:=aad (by omega)
     change tSeq _ _ _ _ _
     refine aV (λσ' H3=>H2=H3/\σ'=[some (.ref p),some (.int (n:Int)),some (.int (aS.D rs (aS.dn k))),some (.int (k:Int)),some (.int (Nat.cast i)),z3]) ?_ (λN D7=>?_)
     case refine_2=>
      simp_all only[]
      rw[if_neg (by simp)]
      exact D7 _ _ ⟨rfl,rfl⟩
     rintro _ _ ⟨rfl,rfl⟩
     change tSeq _ _ _ _ _
     refine aV (λσ' H3=>az H2 H3/\∃p2,rK H3 p2 ((aS.mH W k i u W[k]).map λv=>aS.bT v rs k m)/\σ'=[some (.ref p2),some (.int (n:Int)),some (.int (aS.D rs (aS.dn k))),some (.int (k:Int)),some (.int (Nat.cast i)),z3]) ?_ (λN D7=>?_)
     case refine_2=>
      simp_all only[AB]
      refine⟨_,k,rfl,i,rfl,hW,by omega,by omega,by omega,λp2 H3 s3 h3=>D7 _ _ ⟨s3,p2,?_,rfl⟩⟩
      rw[aS.CQ ei ek] at h3
      exact h3
     intro _ H3 bK
     refine(?_:let G_:Prop:=_;G_)
     intro G_
     obtain⟨Gb,p2,Vt,rfl⟩:=bK
     have Mc:=aS.Au ei ek
     have lsw:(aS.mH W k i u W[k]).length=n:=by unfold aS.mH;rw[aaU,aaU,lW]
     have Ym:∀v∈aS.mH W k i u W[k],v∈W:=λv hv=>by
      unfold aS.mH at hv
      rcases List.mem_or_eq_of_mem_set hv with h | h
      ·rcases List.mem_or_eq_of_mem_set h with h | h
       ·exact h
       ·rw[h];exact aag ei
      ·rw[h];exact aao _
     have Jf:∀r∈(aS.mH W k i u W[k]).map (λv=>aS.bT v rs k m),r.length=(m - (k+1))+1:=λr hr=>by
      obtain⟨v,_,rfl⟩:=List.mem_map.mp hr
      rw[aS.di]
      omega
     have Ld:∀r∈(aS.mH W k i u W[k]).map (λv=>aS.bT v rs k m),∀x∈r,Bt 4000 x:=λr hr x hx=>by
      obtain⟨v,hv,rfl⟩:=List.mem_map.mp hr
      exact rb _ (List.mem_map.mpr ⟨v,Ym v hv,rfl⟩) x hx
     have S2:=S.step hk h1 ei ek Mi
     have ew:=aS.Av (n:=n) S.good MS ei ek
     have e1:((aS.mH W k i u W[k]).map λv=>aS.bT v rs k m)[k]?=some (aS.bT u rs k m):=by rw[aaf,Mc];rfl
     obtain⟨xs,Yn,al⟩:=id Vt
     obtain⟨q,aq,hq⟩:=ou al e1
     dsimp only[G_]
     have ah:=jD (r:=aS.bT u rs k m) (by rw[aS.di];omega)
     have eh:(aS.bT u rs k m).headD 0=aS.D (u::rs) (k::aS.dn k):=by rw[aS.c9 MS];rfl
     rw[eh] at ah
     change tSeq _ _ _ _ _
     refine aV (λσ' H4=>H3=H4/\σ'=[some (.ref p2),some (.int (n:Int)),some (.int (aS.D rs (aS.dn k))),some (.int (k:Int)),some (.int (Nat.cast i)),some (.int (aS.D (u::rs) (k::aS.dn k)))]) ?_ (λN D7=>?_)
     case refine_2=>
      simp_all only[Yn,aq,hq,ah]
      exact D7 _ _ ⟨rfl,rfl⟩
     rintro _ _ ⟨rfl,rfl⟩
     simp_all only[Fz]
     refine⟨_,k,rfl,Vt,by rw[aac];omega,by rw[aac];omega,m - (k+1),by omega,Jf,S.good.ne,db,Ld,λp3 H4 s4 h4=>?_⟩
     rw[ew] at h4
     exact⟨vW.trans (Gb.trans s4),_,_,_,S2,h4,rfl,rfl,_,rfl⟩
   ·intro σ H1 bK
    refine(?_:let G_:Prop:=_;G_)
    intro G_
    obtain⟨vW,p,rs,W,S,hW,z1,z2,z3,rfl⟩:=bK
    dsimp only[G_]
    exact hN _ _ ⟨vW,p,rs,W,S,hW,_,_,_,rfl⟩
  intro _ H1 bK
  refine(?_:let G_:Prop:=_;G_)
  intro G_
  obtain⟨vW,p,rs,W,S,hW,z1,z2,z3,rfl⟩:=bK
  dsimp only[G_]
  simp_all only[]
  exact⟨by decide,λt H2 s2 nt e2=>kk t p n rs W _ S (λh=>absurd h (aaI _)) (vW.trans s2) e2 (hW.mono s2)⟩
theorem fE:aO ["rows","right","done","sign"] ["rows","right"] (af (top 20)):=⟨rfl,rfl,rfl,by decide +kernel,rfl,by decide +kernel,by decide +kernel⟩
theorem Jg (T:Txt K mg aB tc):bU P w K mg base (bL P w) 3 "whole_answers" ["rows","right"] FD:=by
 have Dh:bU P w K mg base (bL P w) 2 "swept" ["rows","columns"] FA:=Je T
 refine T.lC.dZ (λ_ _ _ _ _ _=>eE λ_ _=>rfl) λf fd F=>F.d8 fE (λvs H Q E h=>?_) (λcD A outer s H vs Q E hr h=>?_)
 ·obtain⟨_,_,_,_,_,rfl,_⟩:=h;rfl
 ·refine(?_:let G_:Prop:=_;G_)
  intro G_
  obtain⟨a,c,L,S,n,rfl,hM,hc,lS,sq,B,kN,kS⟩:=h
  dsimp only[G_]
  have nd:=fE.nd
  refine⟨_,(ae (aF (i:=2) nd rfl (Or.inl rfl) (aI Dh (hr.mono (by decide)) rfl aA.pass (aa (bX rfl (N:=["rows","right","done","sign"]) (so:=af (top 20)) (N':=["row","side"]) (k:=2) (fr:=[]) rfl rfl ⟨rfl,by decide +kernel,by decide +kernel,by decide +kernel,rfl,by decide +kernel,by decide +kernel⟩ (jx (K:=K) rfl T.z_zip (aa (pv 0) (aa (pv 1) ao (se rfl)) (se rfl))) (λ_ _ _ _ _=>(bP (K:=K) (n:=2) rfl (aN (aD (i:=0) (show(["row","side"]:List Str).Nodup by decide +kernel) rfl (Or.inl rfl)) (aN (aD (i:=1) (show(["row","side"]:List Str).Nodup by decide +kernel) rfl (Or.inl rfl)) bN)))) (λ_ _ _ _ _=>bO)
   (λ_ _ _ _ _=>(aE EK (pv 0) (cM (aa (pv 1) ao (se rfl)))))) (aa (aY bD (by rfl) T.z_len aaA (aa (pv 0) ao (se rfl)) (he:=se rfl) (hpl:=na rfl)) ao (se rfl)) (se rfl)) (he:=se rfl) (hpl:=na rfl)))
  (ae (b8 (aR mW (aG aL (pv 2) ag (λ_ _=>rfl)) (aY bD (by rfl) T.z_len aaA (aa (pv 0) ao (se rfl)) (he:=se rfl) (hpl:=na rfl)) (aX _)) (au (aP eW))
   bC)
  (ae (aF (i:=3) nd rfl (Or.inr rfl) (gK (aR kr (aG aL (pv 2) ag (λ_ _=>rfl)) ag (aX _)) ag (yR uP ag)))
  (au (aP (bF (aa (bX rfl (N:=["rows","right","done","sign"]) (so:=af (top 20)) (N':=["row","sign"]) (k:=1) (fr:=[3]) rfl rfl ⟨rfl,by decide +kernel,by decide +kernel,by decide +kernel,rfl,by decide +kernel,by decide +kernel⟩ (bj (K:=K) (aG aL (pv 2) ag (λ_ _=>rfl))) (λ_ _ _ _ _=>(aD (i:=0) (show(["row","sign"]:List Str).Nodup by decide +kernel) rfl (Or.inl rfl))) (λ_ _ _ _ _=>bO)
   (λ_ _ _ _ _=>(aE aT (aG aJ (pv 0) ag (λ_ _=>rfl)) (pv 1)))) (aa (aE aT (aG aL (pv 2) ag (λ_ _=>rfl)) (pv 3)) ao (se rfl)) (se rfl)))))))),?_⟩
  refine(?_:let cq:TS:=_;let cu:TS:=_;let cv:TS:=_;let dj:TS:=_;tSeq cq (tSeq cu (tSeq cv dj)) _ _ _)
  intro cq cu cv dj
  have sl:=sizeLine_eq
  refine(?_:let G_:Prop:=_;G_)
  intro G_
  obtain⟨xs,ha,al⟩:=id hM
  dsimp only[G_]
  have lx:=al.length
  have hl:=sq.len
  have MP:n+1<=64:=B.MG
  change tSeq _ _ _ _ _
  refine aV (λσ' H1=>az H H1/\∃t p k rs W,aS.i4 ((aS.aug L S).map aS.fo) n k rs W/\(k<n->aS.qh k rs W)/\H1 t=some (.tup [.ref p,.int (Nat.cast k),.int (aS.D rs (aS.dn k))])/\rK H1 p (W.map λv=>aS.bT v rs k (n+1))/\σ'=[some (.ref a),some (.ref c),some (.ref t),none]) ?_ (λN hN=>?_)
  case refine_2=>
   simp_all only[FA]
   refine⟨⟨_,bo.of ha⟩,⟨_,bo.of hc⟩,?_⟩
   refine fm (K:=K) (jw (λH' s'=>bo.of (s' _ _ ha)) (λH' s'=>bo.of (s' _ _ hc))) (λi u v _=>∃r x,L[i]?=some r/\S[i]?=some x/\Rw H r u/\v=.int x) ?_ (by rw[aac];omega) (λi y H'=>∀r x,L[i]?=some r->S[i]?=some x->Rw H' (r++ [x]) y) (λ_ _ _ _ s h r x e1 e2=>(h r x e1 e2).mono s) ?_ ?_
   ·intro i v H2 H3 hi s2 df
    refine(?_:let G_:Prop:=_;G_)
    intro G_
    obtain⟨t,x,y,nt,rfl,ex,ey,rfl⟩:=df
    rw[aaf] at ey
    obtain⟨z,ez,rfl⟩:=Option.map_eq_some_iff.mp ey
    obtain⟨r,er,hr⟩:=al.get ex
    dsimp only[G_]
    exact⟨ax nt,t,_,_,rfl,eL.of ar,r,z,er,ez,hr,rfl⟩
   ·intro i u v H2 Q2 hi s2 dk kq
    refine(?_:let G_:Prop:=_;G_)
    intro G_
    obtain⟨r,x,er,ex,⟨q,rfl,hq⟩,rfl⟩:=dk
    dsimp only[G_]
    have lr:=sq.row r (aag er)
    simp_all only[HK]
    refine⟨by decide,λm nm=>⟨_,ax nm _ _ (s2 _ _ hq),_,ar,by simp only[aac,aaq,abf];omega,λp np=>kq _ _ ((ax nm).trans (ax np)) λr' x' e1 e2=>?_⟩⟩
    rw[er] at e1
    rw[ex] at e2
    cases e1
    cases e2
    exact⟨p,rfl,by rw[ar,aaw];rfl⟩
   ·intro ys H2 s2 ly hy D n1 n2
    have s3:=s2.trans (ax (o:=.lst ys) n2)
    have hm:rK (upd H2 D (.lst ys)) D (aS.aug L S):=by
     rw[aac] at ly
     refine⟨ys,ar,Al.of (by rw[aS.jC hl lS];omega) λi y r e1 e2=>?_⟩
     have hi:=(List.getElem?_eq_some_iff.mp e1).1
     have er:L[i]?=some L[i]:=aad (by omega)
     have ex:S[i]?=some (S.getD i 0):=by rw[aae,aad (by omega)];rfl
     rw[aS.jB lS (by omega) er] at e2
     cases e2
     exact(hy i y e1 _ _ er ex).mono (ax n2)
    refine⟨_,s3 _ _ ha,aS.aug L S,n,by omega,hm,n+1,B,λt p k rs W H3 St yL s4 h4 h5=>hN _ _ ⟨s3.trans s4,t,p,k,rs,W,St,yL,h4,h5,rfl⟩⟩
  intro _ H1 bK
  refine(?_:let G_:Prop:=_;G_)
  intro G_
  obtain⟨vW,t,p,k,rs,W,St,yL,ht,hW,rfl⟩:=bK
  dsimp only[G_]
  have Yo:=vW _ _ ha
  have kn:=St.le
  change tSeq _ _ _ _ _
  refine aV (λσ' H2=>H1=H2/\k=n/\σ'=[some (.ref a),some (.ref c),some (.ref t),none]) ?_ (λN hN=>?_)
  case refine_2=>
   simp_all only[ht,Yo]
   exact gP (λh=>kN k rs W _ St (by omega) (yL (by omega)) vW) (λh=>hN _ _ ⟨rfl,by omega,rfl⟩)
  intro _ _ bK
  refine(?_:let G_:Prop:=_;G_)
  intro G_
  obtain⟨rfl,rfl,rfl⟩:=bK
  dsimp only[G_]
  have d0:=St.good.ne
  change tSeq _ _ _ _ _
  refine aV (λσ' H2=>H1=H2/\σ'=[some (.ref a),some (.ref c),some (.ref t),some (.int (rZ (aS.D rs (aS.dn k))))]) ?_ (λN hN=>?_)
  case refine_2=>
   simp_all only[ht]
   exact gP (λh=>hN _ _ ⟨rfl,by rw[rZ,if_pos h]⟩) (λh=>hN _ _ ⟨rfl,by rw[rZ,if_neg h]⟩)
  rintro _ _ ⟨rfl,rfl⟩
  refine(?_:let G_:Prop:=_;G_)
  intro G_
  obtain⟨ws,hp,aw⟩:=id hW
  dsimp only[G_]
  have lw:=aw.length
  have lW:=St.len
  rw[aac] at lw
  simp_all only[ht,hp]
  refine⟨⟨_,bo.of hp⟩,?_⟩
  have S':Src (uL K p) (az H1) W.length (λi x H H3=>H3=H/\ws[i]?=some x):=by
   have:=src_list (K:=K) (a:=p) (xs:=ws) (Ok:=az H1) (λH2 s2=>bo.of (s2 _ _ hp))
   rwa [lw] at this
  refine dA W (λv=>some (aS.D (v::rs) (k::aS.dn k)*rZ (aS.D rs (aS.dn k)))) S' (λ_ _ _ _ h=>h.1) (by omega) ?_ ?_
  ·rintro i v x ev ⟨_,ex⟩ Y N y1 _
   refine(?_:let G_:Prop:=_;G_)
   intro G_
   obtain⟨r',Vu,q,rfl,hq⟩:=aw.get ex
   dsimp only[G_]
   rw[aaf,ev] at Vu
   cases Vu
   have hh:=jD (r:=aS.bT v rs k (k+1)) (by rw[aS.di];omega)
   rw[show(aS.bT v rs k (k+1)).headD 0=aS.D (v::rs) (k::aS.dn k) from by rw[aS.c9 (aaM k)];rfl] at hh
   simp_all only[gD,hq,hh]
   exact⟨AE,y1 _ rfl⟩
  ·intro D n1 n2
   refine⟨_,ax n2 _ _ ht,_,at2,_,rfl,AE,by decide,λq H2 s2 nq e2=>kS rs W q D _ St (vW.trans ((ax n2).trans s2)) e2 ?_⟩
   rw[s2 _ _ ar,FC St]
theorem cP {H:Hp} {ws:List (Int×Int)} {xs:List V} {i:Nat} {a:Int×Int} (r:bf H (ws.map bB) xs) (e:ws[i]?=some a):∃p,xs[i]?=some (.ref p)/\H p=some (.tup [.int a.1,.int a.2]):=by
 obtain⟨x,ex,rx⟩:=r.at (d:=bB a) (i:=i) (by rw[aaf,e];rfl)
 obtain⟨p,rfl,hp⟩:=bQ.mp rx
 exact⟨p,ex,hp⟩
theorem gi:aO ["ways"] ["ways"] (af (top 31)):=⟨rfl,rfl,rfl,by decide +kernel,rfl,by decide +kernel,by decide +kernel⟩
theorem D8 (T:Txt K mg aB tc):bU P w K mg base (bL P w) 1 "total_weight" ["ways"] uf:=by
 refine T.nU.dZ (λ_ _ _ _ _ _=>iX λ_=>rfl) λf fd F=>F.d8 gi (λvs H Q E h=>?_) (λcD A outer s H vs Q E hr h=>?_)
 ·obtain⟨_,_,rfl,_⟩:=h;rfl
 ·refine(?_:let G_:Prop:=_;G_)
  intro G_
  obtain⟨a,ws,rfl,rf,l5,kk⟩:=h
  dsimp only[G_]
  have nd:=gi.nd
  refine⟨_,(au (aP (gK (aR kr (aY bD (by rfl) T.z_len aaA (aa (pv 0) ao (se rfl)) (he:=se rfl) (hpl:=na rfl)) ag (aX _)) (aY (gU (K:=K)) (by rfl) T.z_sum rfl (aa (bX rfl (N:=["ways"]) (so:=af (top 31)) (N':=["weight","to"]) (k:=2) (fr:=[]) rfl rfl ⟨rfl,by decide +kernel,by decide +kernel,by decide +kernel,rfl,by decide +kernel,by decide +kernel⟩ (bj (K:=K) (pv 0)) (λ_ _ _ _ _=>(bP (K:=K) (n:=2) rfl (aN (aD (i:=0) (show(["weight","to"]:List Str).Nodup by decide +kernel) rfl (Or.inl rfl)) (aN (aD (i:=1) (show(["weight","to"]:List Str).Nodup by decide +kernel) rfl (Or.inl rfl)) bN)))) (λ_ _ _ _ _=>bO)
   (λ_ _ _ _ _=>(pv 0))) ao (se rfl)) (he:=se rfl) (hpl:=na rfl)) ag))),?_⟩
  refine(?_:let G_:Prop:=_;G_)
  intro G_
  obtain⟨_,xs,e,ha,rl⟩:=aQ.mp rf
  dsimp only[G_]
  cases e
  have lx:=rl.length
  rw[aac] at lx
  simp_all only[]
  refine⟨xs,ha,?_⟩
  by_cases c:ws=[]
  ·subst c
   have l0:xs.length=0:=lx.symm
   rw[if_neg (by omega)]
   exact kk _ (az.refl _)
  ·have l0:=List.length_pos_iff.mpr c
   rw[if_pos (by omega)]
   refine⟨⟨_,bo.of ha⟩,?_⟩
   have S:Src (uL K a) (az H) ws.length (λi x H H3=>H3=H/\xs[i]?=some x):=by rw[lx];exact src_list (λH' s'=>bo.of (s' _ _ ha))
   refine fS ws (λp=>some p.1) S (λ_ _ _ _ h=>h.1) (by rw[sizeLine_eq];omega) ?_ ?_
   ·rintro i p x ep ⟨_,ex⟩
    refine(?_:let G_:Prop:=_;G_)
    intro G_
    obtain⟨t,et,ht⟩:=cP rl ep
    dsimp only[G_]
    rw[ex] at et
    cases et
    refine⟨t,_,_,rfl,eL.of ht,λY N y1 _=>?_⟩
    simp_all only[gD]
    exact y1 _ rfl
   ·intro D n1 n2
    rw[dI]
    have:=kk _ (ax (o:=.lst (List.map V.int (ws.map λp=>p.1))) n2)
    unfold Dg.tt at this
    rw[if_neg c] at this
    exact⟨_,bo.of ar,this⟩
theorem qw (q:Int) (ws:Dg.Wy) (x:Int×Int):Dg.iZ q (ws++ [x])=Dg.iZ q ws+if x.2=q then x.1 else 0:=by
 unfold Dg.iZ
 rw[aaw,List.sum_append]
 simp
theorem jI:aO ["part","ways","spots","spot","place","rows","row","weight","to"] ["part","ways"] (af (top 32)):=⟨rfl,rfl,rfl,by decide +kernel,rfl,by decide +kernel,by decide +kernel⟩
theorem Gd (T:Txt K mg aB tc):bU P w K mg base (bL P w) 2 "part_rows" ["part","ways"] AG:=by
 have eI:bU P w K mg base (bL P w) 1 "total_weight" ["ways"] uf:=D8 T
 refine T.tO.dZ (λ_ _ _ _ _ _=>eE λ_ _=>rfl) λf fd F=>F.d8 jI (λvs H Q E h=>?_) (λcD A outer s H vs Q E hr h=>?_)
 ·obtain⟨_,_,_,_,_,rfl,_⟩:=h;rfl
 ·refine(?_:let G_:Prop:=_;G_)
  intro G_
  obtain⟨x,wl,ps,xs,fK,rfl,hx,hw,rl,G8,l40,oV,w5,kk⟩:=h
  dsimp only[G_]
  clear G_
  have nd:=jI.nd
  refine⟨_,(ae (aF (i:=2) nd rfl (Or.inl rfl) zb)
  (ae (bY PassesOwn.never rfl (cL (K:=K) rfl T.z_enumerate (aa (pv 0) ao (se rfl))) (bP (K:=K) (n:=2) rfl (aN (aD (i:=3) nd rfl (Or.inl rfl)) (aN (aD (i:=4) nd rfl (Or.inl rfl)) bN))) (au (wj (pS hr) (pv 2) (pv 4) (pv 3) rfl)))
  (ae (aF (i:=5) nd rfl (Or.inl rfl) (cM ao))
  (ae (bY PassesOwn.never rfl (cL (K:=K) rfl T.z_enumerate (aa (pv 0) ao (se rfl))) (bP (K:=K) (n:=2) rfl (aN (aD (i:=3) nd rfl (Or.inl rfl)) (aN (aD (i:=4) nd rfl (Or.inl rfl)) bN))) (ae (aF (i:=6) nd rfl (Or.inl rfl) (aE u5 (cM (aa ag ao (se rfl))) (aY bD (by rfl) T.z_len aaA (aa (pv 0) ao (se rfl)) (he:=se rfl) (hpl:=na rfl))))
  (ae (dQ (aI eI (hr.mono (by decide)) rfl aA.pass (aa (aG aJ (pv 1) (pv 4) (λ_ _=>rfl)) ao (se rfl)) (he:=se rfl) (hpl:=na rfl)) (fM (pv 6) (pv 3) set_list))
  (ae (bY PassesOwn.never rfl (bj (K:=K) (aG aJ (pv 1) (pv 4) (λ_ _=>rfl))) (bP (K:=K) (n:=2) rfl (aN (aD (i:=7) nd rfl (Or.inl rfl)) (aN (aD (i:=8) nd rfl (Or.inl rfl)) bN))) (au (b8 (uK (za (pS hr) (pv 8) (pv 2))) (au (BV (pv 6) (Cc (pS hr) (pv 2) (pv 8) (λ_ _=>rfl)) zS (pv 7) EA set_list))
   bC)))
  (au (cN (dY aaL aaZ aa0 cm.r (pv 5) (aa (pv 6) ao (se rfl)))))))))
  (au (aP (pv 5))))))),?_⟩
  refine(?_:let cq:TS:=_;let cu:TS:=_;let cv:TS:=_;let dj:TS:=_;let iE:TS:=_;tSeq cq (tSeq cu (tSeq cv (tSeq dj iE))) _ _ _)
  intro cq cu cv dj iE
  have sl:=sizeLine_eq
  have lx:=rl.length
  rw[aac] at lx
  change tSeq _ _ _ _ _
  refine aV (λσ' H1=>∃d,az H H1/\H d=none/\H1 d=some (.dK [])/\σ'=[some (.ref x),some (.ref wl),some (.ref d),none,none,none,none,none,none]) ?_ (λN hN=>?_)
  case refine_2=>
   simp_all only[]
   exact λd n1=>hN _ _ ⟨d,ax n1,n1,ar,rfl⟩
  intro _ H1 bK
  refine(?_:let G_:Prop:=_;G_)
  intro G_
  obtain⟨d,s1,n1,hd,rfl⟩:=bK
  dsimp only[G_]
  clear G_
  change tSeq _ _ _ _ _
  refine aV (λσ' H2=>az H H2/\H2 d=some (.dK (gX ps))/\∃z3 z4,σ'=[some (.ref x),some (.ref wl),some (.ref d),z3,z4,none,none,none,none]) ?_ (λN hN=>?_)
  case refine_2=>
   simp_all only[]
   refine⟨⟨_,bo.of (s1 _ _ hx)⟩,bJ (fq (K:=K) (a:=x) (xs:=ps.map V.int) (Ok:=az H) (λH' s=>bo.of (s _ _ hx))) (λi σ H3=>az H H3/\H3 d=some (.dK (gX (ps.take i)))/\∃z3 z4,σ=[some (.ref x),some (.ref wl),some (.ref d),z3,z4,none,none,none,none]) ⟨s1,hd,_,_,rfl⟩ (λ_ _ _ _ h=>h.1) ?_ ?_⟩
   ·intro i y σ H3 H4 hi df dk
    refine(?_:let G_:Prop:=_;G_)
    intro G_
    obtain⟨s3,Le,z3,z4,rfl⟩:=df
    obtain⟨q,y,nq,rfl,ey,rfl⟩:=dk
    dsimp only[G_]
    clear G_
    rw[aac] at hi
    have ep:ps[i]?=some (ps.getD i 0):=by rw[aae,aad hi];rfl
    rw[aaf,ep] at ey
    cases ey
    refine⟨q,_,rfl,eL.of ar,rfl,?_⟩
    have s4:=ax (o:=.tup [.int (i:Int),.int (ps.getD i 0)]) nq
    generalize upd H3 q (.tup [.int (i:Int),.int (ps.getD i 0)])=H4 at *
    have MF:ps.getD i 0∉ps.take i:=by
     intro z
     refine(?_:let G_:Prop:=_;G_)
     intro G_
     obtain⟨j,hj,ej⟩:=aaY z
     dsimp only[G_]
     rw[aa3] at hj
     rw[List.getElem_take] at ej
     have eg:ps.getD i 0=ps[i]:=by rw[aae,aad hi];rfl
     have:=(abj G8).mp (ej.trans eg)
     omega
    have pt:=u6.k (k:=Sum.inl (ps.getD i 0)) (v:=.int (i:Int)) (s4 _ _ Le) (by unfold gX;rw[aac,aaz,aa3];omega)
    rw[sS _ (ug MF),<-yt hi] at pt
    simp_all only[]
    exact⟨_,pt,ba (s3.trans s4) n1,ar,_,rfl⟩
   ·intro σ H3 bK
    refine(?_:let G_:Prop:=_;G_)
    intro G_
    obtain⟨s3,Le,z3,z4,rfl⟩:=bK
    dsimp only[G_]
    rw[aac,aaE (aah _)] at Le
    exact hN _ _ ⟨s3,Le,_,_,rfl⟩
  intro _ H2 bK
  refine(?_:let G_:Prop:=_;G_)
  intro G_
  obtain⟨s2,hd2,z3,z4,rfl⟩:=bK
  dsimp only[G_]
  clear G_
  change tSeq _ _ _ _ _
  refine aV (λσ' H3=>∃r,az H2 H3/\H2 r=none/\H3 r=some (.lst [])/\σ'=[some (.ref x),some (.ref wl),some (.ref d),z3,z4,some (.ref r),none,none,none]) ?_ (λN hN=>?_)
  case refine_2=>
   simp_all only[]
   exact⟨aar _,λr n3=>hN _ _ ⟨r,ax n3,n3,ar,rfl⟩⟩
  intro _ H3 bK
  refine(?_:let G_:Prop:=_;G_)
  intro G_
  obtain⟨r,s3,nr,Yp,rfl⟩:=bK
  dsimp only[G_]
  clear G_
  change tSeq _ _ _ _ _
  refine aV (λσ' H4=>az H2 H4/\(∃L,rK H4 r L/\Dg.pf ps (cn fK) L)/\∃z3 z4 z6 z7 z8,σ'=[some (.ref x),some (.ref wl),some (.ref d),z3,z4,some (.ref r),z6,z7,z8]) ?_ (λN hN=>?_)
  case refine_2=>
   simp_all only[]
   refine⟨⟨_,bo.of (s3 _ _ (s2 _ _ hx))⟩,bJ (fq (K:=K) (a:=x) (xs:=ps.map V.int) (Ok:=az H2) (λH' s=>bo.of (s _ _ (s2 _ _ hx)))) (λi σ H4=>az H2 H4/\(∃(Ls:List (List Int)) (ys:List V),H4 r=some (.lst ys)/\Al (Rw (cE H4 r)) Ls ys/\Ls.length=i/\(∀row∈Ls,row.length=ps.length)/\∀a j,a<i->j<ps.length->(Ls.getD a []).getD j 0=(if a=j then Dg.tt (cn fK (ps.getD a 0)) else 0) - Dg.iZ (ps.getD j 0) (cn fK (ps.getD a 0)))/\∃z3 z4 z6 z7 z8,σ=[some (.ref x),some (.ref wl),some (.ref d),z3,z4,some (.ref r),z6,z7,z8]) ⟨s3,⟨[],[],Yp,trivial,rfl,by simp,λa j h=>absurd h (abg _)⟩,_,_,_,_,_,rfl⟩ (λ_ _ _ _ h=>h.1) ?_ ?_⟩
   ·intro i y σ H4 H5 hi df dk
    refine(?_:let G_:Prop:=_;G_)
    intro G_
    obtain⟨s4,⟨Ls,ys,BH,Lf,ll,Ge,Di⟩,z3,z4,z6,z7,z8,rfl⟩:=df
    obtain⟨q,y,nq,rfl,ey,rfl⟩:=dk
    dsimp only[G_]
    clear G_
    rw[aac] at hi
    have ep:ps[i]?=some (ps.getD i 0):=by rw[aae,aad hi];rfl
    rw[aaf,ep] at ey
    cases ey
    have mp:ps.getD i 0∈ps:=aag ep
    obtain⟨p0,p1⟩:=oV _ mp
    have ew:fK[(ps.getD i 0).toNat]?=some (cn fK (ps.getD i 0)):=by unfold cn;rw[aae (l:=fK),aad (show(ps.getD i 0).toNat<fK.length by omega)];rfl
    have Yq:=w5 _ (aag ew)
    generalize hp:ps.getD i 0=p at *
    generalize Jh:cn fK p=ws at *
    refine⟨q,_,rfl,eL.of ar,rfl,?_⟩
    have s5:=ax (o:=.tup [.int (i:Int),.int p]) nq
    generalize upd H4 q (.tup [.int (i:Int),.int p])=H5 at *
    obtain⟨v,ev,rv⟩:=rl.at (d:=qk ws) (i:=p.toNat) (by rw[aaf,ew];rfl)
    refine(?_:let G_:Prop:=_;G_)
    intro G_
    obtain⟨wv,us,rfl,Dj,ru⟩:=aQ.mp rv
    dsimp only[G_]
    clear G_
    have Gf:fc xs p=some (.ref wv):=by have:=bA ev;rwa [aby p0] at this
    have lu:=ru.length
    rw[aac] at lu
    simp_all only[B8,uf]
    have Ea:=s4.trans s5
    refine⟨by decide,λm1 k1=>?_⟩
    have s6:=ax (o:=.lst [.int 0]) k1
    have h6:upd H5 m1 (.lst [.int 0]) m1=some (.lst [.int 0]):=ar
    generalize upd H5 m1 (.lst [.int 0])=H6 at *
    have Vv:(ps.map V.int).length=ps.length:=aac ..
    refine⟨_,s6 _ _ (Ea _ _ (s2 _ _ hx)),_,h6,by omega,by omega,by rw[Vv,aai];show 1*ps.length<=_;omega,λro k2=>?_⟩
    rw[Vv,aai,List.flatten_replicate_singleton]
    have s7:=ax (o:=.lst (List.replicate ps.length (V.int 0))) k2
    have h7:upd H6 ro (.lst (List.replicate ps.length (V.int 0))) ro=some (.lst ((List.replicate ps.length 0).map V.int)):=by rw[ar,List.map_replicate]
    generalize upd H6 ro (.lst (List.replicate ps.length (V.int 0)))=H7 at *
    have yH:=Ea.trans s6
    have Vw:=yH.trans s7
    refine⟨_,Vw _ _ (s2 _ _ hw),_,Gf,wv,rfl,ws,rv.mono (s2.trans Vw),Yq,λH8 s8=>⟨_,s8 _ _ h7,i,il (by rw[aac,abe];exact hi),?_⟩⟩
    rw[<-List.map_set]
    have s9:az H6 (upd H8 ro (.lst (((List.replicate ps.length 0).set i (Dg.tt ws)).map V.int))):=ba (s7.trans s8) k2
    have h9:upd H8 ro (.lst (((List.replicate ps.length 0).set i (Dg.tt ws)).map V.int)) ro=some (.lst (((List.replicate ps.length 0).set i (Dg.tt ws)).map V.int)):=ar
    generalize upd H8 ro (.lst (((List.replicate ps.length 0).set i (Dg.tt ws)).map V.int))=H9 at *
    have Yr:=yH.trans s9
    have Vx:=s2.trans Yr
    refine⟨_,Vx _ _ hw,_,Gf,wv,rfl,⟨_,bo.of (Vx _ _ Dj)⟩,bJ (src_list (K:=K) (a:=wv) (xs:=us) (Ok:=az H6) (λH' s'=>bo.of ((s2.trans (yH.trans s')) _ _ Dj))) (λt σ HA=>az H6 HA/\(∃i5:List Int,HA ro=some (.lst (i5.map V.int))/\i5.length=ps.length/\∀j,j<ps.length->i5.getD j 0=(if i=j then Dg.tt ws else 0) - Dg.iZ (ps.getD j 0) (ws.take t))/\∃z7 z8,σ=[some (.ref x),some (.ref wl),some (.ref d),some (.int (i:Int)),some (.int p),some (.ref r),some (.ref ro),z7,z8]) ⟨s9,⟨_,h9,by rw[aaU,abe],λj hj=>?_⟩,_,_,rfl⟩ (λ_ _ _ _ h=>h.1) ?_ ?_⟩
    ·show _=_ - 0
     by_cases c:i=j
     ·subst c
      rw[Dg.gW (by rw[abe];exact hj),if_pos rfl]
      omega
     ·rw[Dg.eO c,if_neg c,aae,List.getElem?_replicate,if_pos hj]
      rfl
    ·intro t y σ HA HB ht df dk
     refine(?_:let G_:Prop:=_;G_)
     intro G_
     obtain⟨sA,⟨i5,Ji,Lg,ent⟩,z7,z8,rfl⟩:=df
     obtain⟨rfl,ey⟩:=dk
     have et:ws[t]?=some ws[t]:=aad (by omega)
     obtain⟨ta,eta,Ys⟩:=cP (ru.mono (s2.trans (yH.trans sA))) et
     dsimp only[G_]
     clear G_
     rw[ey] at eta
     cases eta
     refine⟨ta,_,rfl,eL.of Ys,rfl,?_⟩
     have tk:ws.take (t+1)=ws.take t++ [ws[t]]:=by rw[aaC,et];rfl
     generalize ws[t]=xw at *
     have Vy:=(yH.trans sA) _ _ hd2
     simp_all only[DC,Uw]
     by_cases c:xw.2∈ps
     ·have lt:=aaR c
      have MT:ps.getD (ps.idxOf xw.2) 0=xw.2:=by rw[aae,aad lt,aaX lt];rfl
      have sv:=AH G8 lt
      rw[MT] at sv
      have gt:jU HB d (.int xw.2) (some (.int (ps.idxOf xw.2:Nat))):=.inl ⟨_,Sum.inl xw.2,.inl Vy,rfl,sv.symm⟩
      refine⟨some (.int (ps.idxOf xw.2:Nat)),gt,?_⟩
      rw[if_pos (by rfl)]
      generalize hk:ps.idxOf xw.2=k at *
      have Yt:fc (i5.map V.int) (k:Int)=some (.int (i5.getD k 0)):=by have:=dM (ns:=i5) (i:=(k:Int)) (by omega) (by omega);rwa [aai] at this
      refine⟨_,gt,_,_,rfl,Ji,_,Yt,_,rfl,_,_,rfl,Ji,k,il (by rw[aac];omega),ba sA k2,⟨i5.set k (i5.getD k 0 - xw.1),by rw[ar,List.map_set],by rw[aaU];exact Lg,λj hj=>?_⟩,_,rfl⟩
      rw[tk,qw]
      by_cases cj:k=j
      ·subst cj
       rw[Dg.gW (by omega),ent k hj,if_pos MT.symm]
       omega
      ·rw[Dg.eO cj,ent j hj,if_neg (show ¬xw.2=ps.getD j 0 from λz=>cj ?_)]
       ·omega
       ·have ej:ps.getD j 0=ps[j]:=by rw[aae,aad hj];rfl
        have ek:ps.getD k 0=ps[k]:=by rw[aae,aad lt];rfl
        exact(abj G8).mp (by rw[<-ek,<-ej,MT,z])
     ·refine⟨none,.inl ⟨_,Sum.inl xw.2,.inl Vy,rfl,(ug c).symm⟩,?_⟩
      rw[if_neg (by simp)]
      refine⟨sA,⟨i5,Ji,Lg,λj hj=>?_⟩,_,rfl⟩
      have mj:ps.getD j 0∈ps:=by rw[aae,aad hj];exact aao hj
      rw[ent j hj,tk,qw,if_neg (show ¬xw.2=ps.getD j 0 from λz=>c (by rw[z];exact mj))]
      omega
    ·intro σ HA bK
     refine(?_:let G_:Prop:=_;G_)
     intro G_
     obtain⟨sA,⟨i5,Ji,Lg,ent⟩,z7,z8,rfl⟩:=bK
     dsimp only[G_]
     rw[aaE (by omega)] at ent
     simp_all only[cO]
     have Vz:=s5.trans (s6.trans sA)
     have VA:=Vz _ _ BH
     have Yu:ro≠r:=λz=>by rw[z,(s5.trans s6) _ _ BH] at k2;cases k2
     have ly:=Lf.length
     refine⟨.inl ⟨rfl,_,bo.of VA⟩,ys,VA,by omega,ba (yH.trans sA) nr,⟨Ls++ [i5],ys++ [.ref ro],ar,Rw.push (Lf.imp λ_ _ k=>k.mono (bI Vz)) Ji Yu,by rw[aaF,ll];rfl,λrow Gc=>?_,λa j ha hj=>?_⟩,_,rfl⟩
     ·rcases List.mem_append.mp Gc with h | h
      ·exact Ge row h
      ·rw[List.mem_singleton.mp h];exact Lg
     ·by_cases c:a=i
      ·subst c
       rw[show(Ls++ [i5]).getD a []=i5 from by rw[aae,aa4 (by omega),ll,Nat.sub_self];rfl,hp,Jh]
       exact ent j hj
      ·rw[show(Ls++ [i5]).getD a []=Ls.getD a [] from by rw[aae,aa5 (by omega),<-aae]]
       exact Di a j (by omega) hj
   ·intro σ H4 bK
    refine(?_:let G_:Prop:=_;G_)
    intro G_
    obtain⟨s4,⟨Ls,ys,BH,Lf,ll,Ge,Di⟩,z3,z4,z6,z7,z8,rfl⟩:=bK
    dsimp only[G_]
    rw[aac] at ll Di
    exact hN _ _ ⟨s4,⟨Ls,⟨ys,BH,Lf.imp λ_ _ k=>k.mono bV⟩,ll,Ge,Di⟩,_,_,_,_,_,rfl⟩
  intro _ H4 bK
  refine(?_:let G_:Prop:=_;G_)
  intro G_
  obtain⟨s4,⟨L,h1,h2⟩,z3,z4,z6,z7,z8,rfl⟩:=bK
  dsimp only[G_]
  simp_all only[]
  exact kk _ _ _ (s2.trans s4) h1 h2
theorem eQ:aO ["one","other","rest"] ["one","other"] (af (top 12)):=⟨rfl,rfl,rfl,by decide +kernel,rfl,by decide +kernel,by decide +kernel⟩
theorem Eb (T:Txt K mg aB tc):bU P w K mg base (bL P w) 1 "common_divisor" ["one","other"] yu:=by
 refine T.j5.dZ (λ_ _ _ _ _ _=>eE λ_ _=>rfl) λf fd F=>F.d8 eQ (λvs H Q E h=>?_) (λcD A outer s H vs Q E hr h=>?_)
 ·obtain⟨_,_,rfl,_⟩:=h;rfl
 ·refine(?_:let G_:Prop:=_;G_)
  intro G_
  obtain⟨a,b,rfl,k⟩:=h
  dsimp only[G_]
  have nd:=eQ.nd
  refine⟨_,(ae (aF (i:=0) nd rfl (Or.inl rfl) (aY mY (by rfl) T.z_abs rfl (aa (pv 0) ao (se rfl)) (he:=se rfl) (hpl:=na rfl)))
  (ae (aF (i:=1) nd rfl (Or.inl rfl) (aY mY (by rfl) T.z_abs rfl (aa (pv 1) ao (se rfl)) (he:=se rfl) (hpl:=na rfl)))
  (ae (gL PassesOwn.never (aR sJ (pv 1) ag (aX _)) (ae (aF (i:=2) nd rfl (Or.inl rfl) (aE cz (pv 0) (pv 1)))
  (ae (aF (i:=0) nd rfl (Or.inl rfl) (pv 1))
  (au (aF (i:=1) nd rfl (Or.inl rfl) (pv 2))))))
  (au (aP (pv 0)))))),?_⟩
  refine(?_:let cq:TS:=_;let cu:TS:=_;let cv:TS:=_;let dj:TS:=_;tSeq cq (tSeq cu (tSeq cv dj)) _ _ _)
  intro cq cu cv dj
  simp_all only[]
  refine sI (λσ H1=>H1=H/\∃(x y:Int) (z:Option V),σ=[some (.int x),some (.int y),z]/\0<=x/\0<=y/\Nm.g x y=Nm.g a b) (λσ _=>match σ with | [_,some (.int y),_]=>y.toNat | _=>0) ?_ ?_ ?_
  ·refine⟨rfl,_,_,_,rfl,?_,?_,?_⟩
   ·split <;>omega
   ·split <;>omega
   ·rw[show(if a<0 then -a else a)=(a.natAbs:Int) by split <;>omega,show(if b<0 then -b else b)=(b.natAbs:Int) by split <;>omega,Nm.zg,Nm.wo]
  ·intro σ H1 bK
   refine(?_:let G_:Prop:=_;G_)
   intro G_
   obtain⟨rfl,x,y,z,rfl,x0,y0,e⟩:=bK
   dsimp only[G_]
   simp_all only[]
   refine gP (λc=>?_) (λc=>?_)
   ·refine⟨by omega,y0,aaT _ (by omega),by rw[Nm.zh x0 (by omega),e],?_⟩
    have:=aa9 x (show 0<y by omega)
    have:=aaT x (show y≠0 by omega)
    omega
   ·have z:y=0:=by omega
    subst z
    rw[Nm.zi x0] at e
    rw[e]
    exact k
  ·intro σ H1 Q1 Q2 hq hc
   simp only[L2.start,Pr,tRev,tD1,tDPop1,tSl,tNoPart,tPart,rSlL,tDIn,tDNotIn,gSub,rSetL,tLst,tDNewK,tComp,L2.stC,tFor_eq,iList,iTup,iRng1,iRng2,iZip,iEnum,iDict,iStr,tChain,tSumV,tBM,rJoin,tJoined,jNil,jLit,jInt,jStr,tRaise,tDGet,tDGet2,tDGet1,sDPut,Option.join_some,List.getElem?_nil,tSeq,tRet,tRetN,tIfS,tTest,tB,tOp,tUn,tVar,tC,tCB,tCons,tNil,tCall,tTupS,tAsg,gName,gNil,gCons,tPar,tNext,tDrop,tAnd,tOr,tNot,tAndV,tOrV,tNotV,tIf,rI,rI0,rU,rIxTH,rIxLH,rEqT,rNeT,rInT,rEq,rNe,scal_ss,scal_ii,scal_bb,scal_si,scal_is,CPow,at0,at1,at2,aav,aaP,aaq,abf,Nat.reduceSub,Nat.reduceAdd,aaV,abu,List.reduceReplicate,aa2,List.nil_append,abn,abo,abk,abh,abi,abp,exists_eq_left',exists_eq_left,V.ref.injEq,V.int.injEq,V.bl.injEq,V.str.injEq,V.ty.injEq,HO.tup.injEq,HO.lst.injEq,List.cons.injEq,and_true,true_and,and_assoc,exists_and_left,decide_eq_true_eq,Bool.not_eq_true',decide_eq_false_iff_not,ite_true,ite_false,if_true,if_false,Int.reduceToNat,eq_self_iff_true] at hc ⊢
   refine(?_:let G_:Prop:=_;G_)
   intro G_
   obtain⟨v,e1,e2,q⟩:=hc
   dsimp only[G_]
   exact⟨v,e1,e2,hq _ _ q⟩
theorem fF:aO ["several","common","one"] ["several"] (af (top 14)):=⟨rfl,rfl,rfl,by decide +kernel,rfl,by decide +kernel,by decide +kernel⟩
theorem Jj (T:Txt K mg aB tc):bU P w K mg base (bL P w) 2 "common_bottom" ["several"] FH:=by
 have dG:bU P w K mg base (bL P w) 1 "common_divisor" ["one","other"] yu:=Eb T
 refine T.lA.dZ (λ_ _ _ _ _ _=>iX λ_=>rfl) λf fd F=>F.d8 fF (λvs H Q E h=>?_) (λcD A outer s H vs Q E hr h=>?_)
 ·obtain⟨_,_,_,rfl,_⟩:=h;rfl
 ·refine(?_:let G_:Prop:=_;G_)
  intro G_
  obtain⟨a,ws,Z,rfl,rf,lw,dv,Z0,bZ,kk⟩:=h
  dsimp only[G_]
  have nd:=fF.nd
  refine⟨_,(ae (aF (i:=1) nd rfl (Or.inl rfl) ag)
  (ae (bY PassesOwn.never rfl (bj (K:=K) (pv 0)) (aD (i:=2) nd rfl (Or.inl rfl)) (au (aF (i:=1) nd rfl (Or.inl rfl) (aE aT (aE dJ (pv 1) (aI dG (hr.mono (by decide)) rfl aA.pass (aa (pv 1) (aa (aG aL (pv 2) ag (λ_ _=>rfl)) ao (se rfl)) (se rfl)) (he:=se rfl) (hpl:=na rfl))) (aG aL (pv 2) ag (λ_ _=>rfl))))))
  (au (aP (pv 1))))),?_⟩
  refine(?_:let cq:TS:=_;let cu:TS:=_;let cv:TS:=_;tSeq cq (tSeq cu cv) _ _ _)
  intro cq cu cv
  refine(?_:let G_:Prop:=_;G_)
  intro G_
  obtain⟨_,xs,e,ha,rl⟩:=aQ.mp rf
  dsimp only[G_]
  cases e
  have lx:=rl.length
  rw[aac] at lx
  simp_all only[yu]
  refine⟨⟨_,bo.of ha⟩,bJ (src_list (Ok:=λH'=>H'=H) (λH2 s2=>by rw[s2];exact bo.of ha)) (λi σ H'=>H'=H/\∃z,σ=[some (V.ref a),some (V.int (Wq.eZ 1 (ws.take i))),z]) ⟨rfl,_,rfl⟩ (λ_ _ _ _ h=>h.1) ?_ ?_⟩
  ·intro i v σ H1 H2 hi df dk
   refine(?_:let G_:Prop:=_;G_)
   intro G_
   obtain⟨rfl,z,rfl⟩:=df
   obtain⟨rfl,ex⟩:=dk
   have si:i<ws.length:=by omega
   have ew:ws[i]?=some ws[i]:=aad si
   obtain⟨p,ep,hp⟩:=cP rl ew
   dsimp only[G_]
   rw[ex] at ep
   cases ep
   have tk:ws.take (i+1)=ws.take i++ [ws[i]]:=by rw[aaC,ew];rfl
   refine(?_:let G_:Prop:=_;G_)
   intro G_
   obtain⟨l1,l2,l3,l4⟩:=Wq.mB (xs:=ws.take i) (c:=1) (by decide) λx hx=>(dv x (List.mem_of_mem_take hx)).1
   dsimp only[G_]
   have lz:=l4 (Z:=Z) ⟨Z,by omega⟩ λx hx=>(dv x (List.mem_of_mem_take hx)).2
   have dw:=dv _ (aao si)
   have b1:Bt 2000 (Wq.eZ 1 (ws.take i)):=bZ.le (by have:=Int.le_of_dvd Z0 lz;omega)
   have b2:Bt 2000 (ws[i]).2:=bZ.le (by have:=Int.le_of_dvd Z0 dw.2;omega)
   have g0:0<Nm.g (Wq.eZ 1 (ws.take i)) (ws[i]).2:=Nm.iC (by omega)
   have bg:Bt 2000 (Nm.g (Wq.eZ 1 (ws.take i)) (ws[i]).2):=b2.le (by have:=Nm.ET (a:=Wq.eZ 1 (ws.take i)) dw.1;omega)
   simp_all only[yu,hp]
   exact⟨fk.of g0 bg,Bt.du (b1.le (Nm.dN g0 (Nm.jt _ _))) b2,by rw[tk,Wq.qc];rfl,_,rfl⟩
  ·intro σ H1 bK
   refine(?_:let G_:Prop:=_;G_)
   intro G_
   obtain⟨rfl,z,rfl⟩:=bK
   dsimp only[G_]
   simp_all only[]
   rw[aaE (by omega)]
   exact kk
theorem uy:aO ["top","bottom","divisor"] ["top","bottom"] (af (top 13)):=⟨rfl,rfl,rfl,by decide +kernel,rfl,by decide +kernel,by decide +kernel⟩
theorem Jk (T:Txt K mg aB tc):bU P w K mg base (bL P w) 2 "share" ["top","bottom"] FG:=by
 have dG:bU P w K mg base (bL P w) 1 "common_divisor" ["one","other"] yu:=Eb T
 refine T.CA.dZ (λ_ _ _ _ _ _=>eE λ_ _=>rfl) λf fd F=>F.d8 uy (λvs H Q E h=>?_) (λcD A outer s H vs Q E hr h=>?_)
 ·obtain⟨_,_,rfl,_⟩:=h;rfl
 ·refine(?_:let G_:Prop:=_;G_)
  intro G_
  obtain⟨a,b,rfl,bt,b0,kq⟩:=h
  dsimp only[G_]
  have nd:=uy.nd
  refine⟨_,(ae (b8 (aR cK (pv 1) ag (aX _)) (au mR)
   bC)
  (ae (aF (i:=2) nd rfl (Or.inl rfl) (aI dG (hr.mono (by decide)) rfl aA.pass (aa (pv 0) (aa (pv 1) ao (se rfl)) (se rfl)) (he:=se rfl) (hpl:=na rfl)))
  (ae (b8 (aR mW (pv 1) ag (aX _)) (au (aF (i:=2) nd rfl (Or.inl rfl) (yR uP (pv 2))))
   bC)
  (au (aP (bF (aa (aE dJ (pv 0) (pv 2)) (aa (aE dJ (pv 1) (pv 2)) ao (se rfl)) (se rfl)))))))),?_⟩
  refine(?_:let cq:TS:=_;let cu:TS:=_;let cv:TS:=_;let dj:TS:=_;tSeq cq (tSeq cu (tSeq cv dj)) _ _ _)
  intro cq cu cv dj
  have g0:0<Nm.g a b:=Nm.iC (by omega)
  have gb:Bt 5000 (Nm.g a b):=bt.le (by have:=Nm.zj (a:=a) (show b≠0 by omega);omega)
  unfold Nm.st Nm.sb at kq
  rw[if_neg (show ¬b<0 by omega),if_neg (show ¬b<0 by omega)] at kq
  simp_all only[yu]
  rw[if_neg (by omega),if_neg (by omega)]
  exact⟨fk.of g0 gb,fk.of g0 gb,by decide,λp H2 s1 n1 e=>kq p H2 s1 n1 e⟩
theorem oG:aO ["place"] ["place"] (af (top 34)):=⟨rfl,rfl,rfl,by decide +kernel,rfl,by decide +kernel,by decide +kernel⟩
theorem Jl (T:Txt K mg aB tc):bU P w K mg base (bL P w) 1 "gain_of" ["place"] FI:=by
 refine T.yn.dZ (λ_ _ _ _ _ _=>iX λ_=>rfl) λf fd F=>F.d8 oG (λvs H Q E h=>?_) (λcD A outer s H vs Q E hr h=>?_)
 ·obtain⟨_,_,rfl,_⟩:=h;rfl
 ·refine(?_:let G_:Prop:=_;G_)
  intro G_
  obtain⟨a,q,rfl,rq,kk⟩:=h
  dsimp only[G_]
  have nd:=oG.nd
  refine⟨_,(au (aP (gK (aR cK (aG aL (pv 0) ag (λ_ _=>rfl)) c4 (aX _)) (bF (aa ag (aa ag ao (se rfl)) (se rfl))) (aG aL (pv 0) ag (λ_ _=>rfl))))),?_⟩
  cases q with
  | fin g=>
   refine(?_:let G_:Prop:=_;G_)
   intro G_
   obtain⟨t',r,e,ph,kj⟩:=c6.mp rq
   dsimp only[G_]
   cases e
   simp_all only[ph]
   rw[if_neg (by decide +kernel)]
   exact kk _ _ (az.refl _) kj
  | dq g ws=>
   refine(?_:let G_:Prop:=_;G_)
   intro G_
   obtain⟨t',r,l,zs,e,ph,kj,oS,rz⟩:=cW.mp rq
   dsimp only[G_]
   cases e
   simp_all only[ph]
   rw[if_neg (by decide +kernel)]
   exact kk _ _ (az.refl _) kj
  | cC w to=>
   refine(?_:let G_:Prop:=_;G_)
   intro G_
   obtain⟨t',l,e,ph,oS⟩:=cF.mp rq
   dsimp only[G_]
   cases e
   simp_all only[ph]
   exact⟨by decide,λp H2 s2 _ e2=>kk _ _ s2 e2⟩
theorem fG:aO ["self","tops","bottom"] ["self","tops","bottom"] (af (inClass (top 33) 0)):=⟨rfl,rfl,rfl,by decide +kernel,rfl,by decide +kernel,by decide +kernel⟩
theorem A8 (T:Txt K mg aB tc):p9 P w K mg base (bL P w) 1 "Book" aB ["self","tops","bottom"] (CW aB):=by
 refine T.CD.dZ (λ_ _ _ _ _ _=>tU λ_ _ _=>rfl) λf fd F=>F.d8 fG (λvs H Q E h=>?_) (λcD A outer s H vs Q E hr h=>?_)
 ·obtain⟨_,_,_,_,_,rfl,_⟩:=h;rfl
 ·refine(?_:let G_:Prop:=_;G_)
  intro G_
  obtain⟨x,dx,l,ts,b,rfl,hx,hl,kk⟩:=h
  dsimp only[G_]
  have nd:=fG.nd
  refine⟨_,(ae (yW (pv 0) (hV (dH (K:=K)) (by rfl) T.z_list rfl (aa (pv 1) ao (se rfl)) (he:=se rfl) (hpl:=na rfl)) rfl)
  (au (yW (pv 0) (pv 2) rfl))),?_⟩
  simp_all only[Hz]
  refine⟨_,.inl (bo.of hl),λm nm=>?_⟩
  have mx:m≠x:=λz=>by rw[z,hx] at nm;cases nm
  have Yv:upd H m (.lst (ts.map V.int)) x=some (.ins aB dx []):=by rw[aH (Ne.symm mx)];exact hx
  refine⟨_,_,_,Yv,T.cA,T.na_Book_tops,by decide,_,_,_,ar,T.cA,T.na_Book_bottom,by show(1:Nat)<1000;decide,?_⟩
  refine kk m _ nm ?_ ?_ ?_
  ·rw[aH mx,aH mx,ar]
  ·rw[ar]
   show some (HO.ins aB dx (if Str.ofString "tops"=Str.ofString "bottom" then _ else _))=_
   rw[if_neg (by decide +kernel)]
   rfl
  ·intro y o ny hy
   have ym:y≠m:=λz=>by rw[z,nm] at hy;cases hy
   rw[aH ny,aH ny,aH ym]
   exact hy
theorem oH:aO ["several","bottom"] ["several"] (af (top 35)):=⟨rfl,rfl,rfl,by decide +kernel,rfl,by decide +kernel,by decide +kernel⟩
theorem Jm (T:Txt K mg aB tc):bU P w K mg base (bL P w) 3 "book_of" ["several"] (FJ aB):=by
 have lK:bU P w K mg base (bL P w) 2 "common_bottom" ["several"] FH:=Jj T
 have oI:p9 P w K mg base (bL P w) 1 "Book" aB ["self","tops","bottom"] (CW aB):=A8 T
 refine T.yo.dZ (λ_ _ _ _ _ _=>iX λ_=>rfl) λf fd F=>F.d8 oH (λvs H Q E h=>?_) (λcD A outer s H vs Q E hr h=>?_)
 ·obtain⟨_,_,_,rfl,_⟩:=h;rfl
 ·refine(?_:let G_:Prop:=_;G_)
  intro G_
  obtain⟨a,ws,Z,rfl,rf,lw,dv,Z0,bZ,kk⟩:=h
  dsimp only[G_]
  clear G_
  have nd:=oH.nd
  refine⟨_,(ae (aF (i:=1) nd rfl (Or.inr rfl) (aI lK (hr.mono (by decide)) rfl aA.pass (aa (pv 0) ao (se rfl)) (he:=se rfl) (hpl:=na rfl)))
  (au (aP (zJ oI (hr.mono (by decide)) rfl aA.pass (aa (bX rfl (N:=["several","bottom"]) (so:=af (top 35)) (N':=["one","bottom"]) (k:=1) (fr:=[1]) rfl rfl ⟨rfl,by decide +kernel,by decide +kernel,by decide +kernel,rfl,by decide +kernel,by decide +kernel⟩ (bj (K:=K) (pv 0)) (λ_ _ _ _ _=>(aD (i:=0) (show(["one","bottom"]:List Str).Nodup by decide +kernel) rfl (Or.inl rfl))) (λ_ _ _ _ _=>bO)
   (λ_ _ _ _ _=>(aE aT (aG aL (pv 0) ag (λ_ _=>rfl)) (aE dJ (pv 1) (aG aL (pv 0) ag (λ_ _=>rfl)))))) (aa (pv 1) ao (se rfl)) (se rfl)) (he:=se rfl) (hpl:=na rfl))))),?_⟩
  simp_all only[FH,sM]
  refine⟨ws,rf,lw,Z,λx hx=>⟨(dv x hx).1,(dv x hx).2.1⟩,Z0,bZ,?_⟩
  refine(?_:let G_:Prop:=_;G_)
  intro G_
  obtain⟨_,xs,e,ha,rl⟩:=aQ.mp rf
  dsimp only[G_]
  clear G_
  cases e
  have lx:=rl.length
  rw[aac] at lx
  refine⟨⟨_,bo.of ha⟩,?_⟩
  refine(?_:let G_:Prop:=_;G_)
  intro G_
  obtain⟨l1,l2,l3,l4⟩:=Wq.mB (xs:=ws) (c:=1) (by decide) λx hx=>(dv x hx).1
  dsimp only[G_]
  clear G_
  have lz:=l4 (Z:=Z) ⟨Z,by omega⟩ λx hx=>(dv x hx).2.1
  have b1:Bt 2000 (Wq.eZ 1 ws):=bZ.le (by have:=Int.le_of_dvd Z0 lz;omega)
  have S:Src (uL K a) (az H) ws.length (λi x H H3=>H3=H/\xs[i]?=some x):=by rw[lx];exact src_list (λH' s'=>bo.of (s' _ _ ha))
  refine dA ws (λx=>some (Wq.sc (Wq.eZ 1 ws) x)) S (λ_ _ _ _ h=>h.1) (by rw[sizeLine_eq];omega) ?_ ?_
  ·rintro i x v ep ⟨_,ex⟩ Y N y1 _
   refine(?_:let G_:Prop:=_;G_)
   intro G_
   obtain⟨t,et,ht⟩:=cP rl ep
   dsimp only[G_]
   rw[ex] at et
   cases et
   have dx:=dv x (aag ep)
   have b2:Bt 2000 x.2:=bZ.le (by have:=Int.le_of_dvd Z0 dx.2.1;omega)
   simp_all only[gD,ht]
   exact⟨fk.of dx.1 b2,Bt.du dx.2.2 (b1.le (Nm.dN dx.1 (l3 x (aag ep)))),y1 _ rfl⟩
  ·intro D n1 n2 x dx nx MU ne
   rw[dI] at nx MU ⊢
   have s1:=ax (H:=H) (o:=.lst (List.map V.int (ws.map (Wq.sc (Wq.eZ 1 ws))))) n2
   have hD:upd H D (.lst (List.map V.int (ws.map (Wq.sc (Wq.eZ 1 ws))))) D=some _:=ar
   have s2:=s1.trans (ax (o:=.own x) MU)
   have Jn:=ax (o:=.own x) MU _ _ hD
   generalize upd H D (.lst (List.map V.int (ws.map (Wq.sc (Wq.eZ 1 ws)))))=H1 at *
   have xD:D≠x:=λz=>by rw[z,nx] at hD;cases hD
   refine⟨x,dx,D,_,_,rfl,ar,by rw[aH xD];exact Jn,λm H' nm hm pI ky=>⟨rfl,kk x H' (λy o hy=>?_) ⟨dx,m,pI,hm⟩⟩⟩
   have yx:y≠x:=λz=>by have:=s1 _ _ hy;rw[z,nx] at this;cases this
   exact ky y o yx (by rw[aH yx];exact s2 _ _ hy)
theorem Jo {a b:V}:List.lookup (Str.ofString "scaled") [(("tops":Str),a),(("bottom":Str),b)]=none:=rfl
theorem kK {a b:V}:List.lookup (Str.ofString "tops") [(("tops":Str),a),(("bottom":Str),b)]=some a:=rfl
theorem uz {a b:V}:List.lookup (Str.ofString "bottom") [(("tops":Str),a),(("bottom":Str),b)]=some b:=rfl
theorem g7:aO ["self","factor"] ["self","factor"] (af (inClass (top 33) 1)):=⟨rfl,rfl,rfl,by decide +kernel,rfl,by decide +kernel,by decide +kernel⟩
theorem Gg (T:Txt K mg aB tc):nP P w K mg base (bL P w) 3 aB "scaled" ["self","factor"] (DX aB):=by
 have oI:p9 P w K mg base (bL P w) 1 "Book" aB ["self","tops","bottom"] (CW aB):=A8 T
 refine T.nX.dZ (λ_ _ _ _ _ _=>eE λ_ _=>rfl) λf fd F=>F.d8 g7 (λvs H Q E h=>?_) (λcD A outer s H vs Q E hr h=>?_)
 ·obtain⟨_,_,_,rfl,_⟩:=h;rfl
 ·refine(?_:let G_:Prop:=_;G_)
  intro G_
  obtain⟨x,S,d,rfl,⟨dx,m,hx,hm⟩,bd,bb,bt,ln,kk⟩:=h
  dsimp only[G_]
  clear G_
  have nd:=g7.nd
  refine⟨_,(au (aP (zJ oI (hr.mono (by decide)) rfl aA.pass (aa (bX rfl (N:=["self","factor"]) (so:=af (inClass (top 33) 1)) (N':=["top","factor"]) (k:=1) (fr:=[1]) rfl rfl ⟨rfl,by decide +kernel,by decide +kernel,by decide +kernel,rfl,by decide +kernel,by decide +kernel⟩ (bj (K:=K) (dR (pv 0) rfl)) (λ_ _ _ _ _=>(aD (i:=0) (show(["top","factor"]:List Str).Nodup by decide +kernel) rfl (Or.inl rfl))) (λ_ _ _ _ _=>bO)
   (λ_ _ _ _ _=>(aE aT (pv 0) (pv 1)))) (aa (aE aT (dR (pv 0) rfl) (pv 1)) ao (se rfl)) (se rfl)) (he:=se rfl) (hpl:=na rfl)))),?_⟩
  simp_all only[kU,sM]
  refine⟨_,_,_,hx,T.cA,T.na_Book_tops,_,kK,m,rfl,⟨_,bo.of hm⟩,?_⟩
  have S':Src (uL K m) (az H) S.1.length (λi x H H3=>H3=H/\(S.1.map V.int)[i]?=some x):=by
   have:=src_list (K:=K) (a:=m) (xs:=S.1.map V.int) (Ok:=az H) (λH' s'=>bo.of (s' _ _ hm))
   rwa [aac] at this
  refine dA S.1 (λt=>some (t*d)) S' (λ_ _ _ _ h=>h.1) (by rw[sizeLine_eq];omega) ?_ ?_
  ·rintro i t v et ⟨_,ex⟩ Y N y1 _
   rw[aaf,et] at ex
   cases ex
   simp_all only[gD]
   exact⟨(bt t (aag et)).du bd,y1 _ rfl⟩
  ·intro D n1 n2
   rw[dI]
   have s1:=ax (H:=H) (o:=.lst (List.map V.int (S.1.map (·*d)))) n2
   have hD:upd H D (.lst (List.map V.int (S.1.map (·*d)))) D=some (.lst (List.map V.int (S.1.map (·*d)))):=ar
   generalize upd H D (.lst (List.map V.int (S.1.map (·*d))))=H1 at *
   refine⟨_,_,_,s1 _ _ hx,T.cA,T.na_Book_bottom,_,uz,_,rfl,bb.du bd,λy dy ny Jp ne=>?_⟩
   have s2:=s1.trans (ax (o:=.own y) Jp)
   have Jn:=ax (o:=.own y) Jp _ _ hD
   have xD:D≠y:=λz=>by rw[z,ny] at hD;cases hD
   refine⟨y,dy,D,_,_,rfl,ar,by rw[aH xD];exact Jn,λm' H' nm Jq pI ky=>⟨rfl,kk y dy m' H' (λz o hz=>?_) (none_of s1 ny) ?_ pI Jq⟩⟩
   ·have yx:z≠y:=λe=>by have:=s1 _ _ hz;rw[e,ny] at this;cases this
    exact ky z o yx (by rw[aH yx];exact s2 _ _ hz)
   ·have my:m'≠y:=λe=>by rw[e,ar] at nm;cases nm
    rw[aH my] at nm
    exact none_of s2 nm
theorem eU:aO ["self"] ["self"] (af (inClass (top 33) 2)):=⟨rfl,rfl,rfl,by decide +kernel,rfl,by decide +kernel,by decide +kernel⟩
theorem Jr (T:Txt K mg aB tc):nP P w K mg base (bL P w) 3 aB "as_shares" ["self"] (IG aB):=by
 have Dk:bU P w K mg base (bL P w) 2 "share" ["top","bottom"] FG:=Jk T
 refine T.jz.dZ (λ_ _ _ _ _ _=>iX λ_=>rfl) λf fd F=>F.d8 eU (λvs H Q E h=>?_) (λcD A outer s H vs Q E hr h=>?_)
 ·obtain⟨_,_,rfl,_⟩:=h;rfl
 ·refine(?_:let G_:Prop:=_;G_)
  intro G_
  obtain⟨x,S,rfl,⟨dx,m,hx,hm⟩,b0,bb,ln,kk⟩:=h
  dsimp only[G_]
  have nd:=eU.nd
  refine⟨_,(au (aP (bX rfl (N:=["self"]) (so:=af (inClass (top 33) 2)) (N':=["top","self"]) (k:=1) (fr:=[0]) rfl rfl ⟨rfl,by decide +kernel,by decide +kernel,by decide +kernel,rfl,by decide +kernel,by decide +kernel⟩ (bj (K:=K) (dR (pv 0) rfl)) (λ_ _ _ _ _=>(aD (i:=0) (show(["top","self"]:List Str).Nodup by decide +kernel) rfl (Or.inl rfl))) (λ_ _ _ _ _=>bO)
   (λ_ _ _ _ _=>(aI Dk (hr.mono (by decide)) rfl aA.pass (aa (pv 0) (aa (wK (K:=K) (pv 1) rfl) ao (se rfl)) (se rfl)) (he:=se rfl) (hpl:=na rfl)))))),?_⟩
  simp_all only[kU]
  refine⟨_,_,_,hx,T.cA,T.na_Book_tops,_,kK,m,rfl,⟨_,bo.of hm⟩,?_⟩
  refine comp_map (src_list (K:=K) (a:=m) (xs:=S.1.map V.int) (Ok:=az H) (λH' s'=>bo.of (s' _ _ hm))) (λ_ _ _ _ h=>by rw[h.1];exact az.refl _) (by rw[aac,sizeLine_eq];omega) (λi y H4=>∀t,S.1[i]?=some t->∃p,y=.ref p/\H4 p=some (.tup (Pr (Wq.low t S.2).1 (Wq.low t S.2).2))) (λi y H4 H5 s5 h t e=>by obtain⟨p,e1,h1⟩:=h t e;exact⟨p,e1,s5 _ _ h1⟩) ?_ ?_
  ·rintro i v w0 H4 H5 Q2 hi s4 ⟨rfl,ex⟩ kq
   rw[aaf] at ex
   refine(?_:let G_:Prop:=_;G_)
   intro G_
   obtain⟨t,et,rfl⟩:=Option.map_eq_some_iff.mp ex
   dsimp only[G_]
   simp_all only[FG,kU]
   refine⟨_,_,_,s4 _ _ hx,T.cA,T.na_Book_bottom,_,uz,_,rfl,bb,b0,λp H6 s6 n6 h6=>kq _ _ s6 λt' e'=>?_⟩
   rw[et] at e'
   cases e'
   exact⟨p,rfl,h6⟩
  ·intro ys H5 s5 ly hy D n1 n2
   rw[aac] at ly
   refine kk D _ (s5.trans (ax n2)) (none_of s5 n2) (aQ.mpr ⟨D,ys,rfl,ar,dh (by rw[aac];exact ly) λi y ey q eq=>?_⟩)
   rw[aaf] at eq
   refine(?_:let G_:Prop:=_;G_)
   intro G_
   obtain⟨t,et,rfl⟩:=Option.map_eq_some_iff.mp eq
   obtain⟨p,e1,h1⟩:=hy i y ey t et
   dsimp only[G_]
   exact bQ.mpr ⟨p,e1,ax n2 _ _ h1⟩
theorem fH:aO ["board","part","product","place"] ["board","part"] (af (top 27)):=⟨rfl,rfl,rfl,by decide +kernel,rfl,by decide +kernel,by decide +kernel⟩
theorem Gh (T:Txt K mg aB tc):bU P w K mg base (bL P w) 1 "ways_of_picks" ["board","part"] vM:=by
 refine T.lD.dZ (λ_ _ _ _ _ _=>eE λ_ _=>rfl) λf fd F=>F.d8 fH (λvs H Q E h=>?_) (λcD A outer s H vs Q E hr h=>?_)
 ·obtain⟨_,_,_,_,rfl,_⟩:=h;rfl
 ·refine(?_:let G_:Prop:=_;G_)
  intro G_
  obtain⟨a,x,b,ps,rfl,rb,hx,vU,ok,yG,kk⟩:=h
  dsimp only[G_]
  clear G_
  have nd:=fH.nd
  refine⟨_,(ae (aF (i:=2) nd rfl (Or.inl rfl) ag)
  (ae (bY PassesOwn.never rfl (bj (K:=K) (pv 1)) (aD (i:=3) nd rfl (Or.inl rfl)) (au (b8 (aR cK (aG aL (aG aJ (pv 0) (pv 3) (λ_ _=>rfl)) ag (λ_ _=>rfl)) c4 (aX _)) (au (aF (i:=2) nd rfl (Or.inl rfl) (aE aT (pv 2) (aY bD (by rfl) T.z_len aaA (aa (aG aL (aG aJ (pv 0) (pv 3) (λ_ _=>rfl)) ag (λ_ _=>rfl)) ao (se rfl)) (he:=se rfl) (hpl:=na rfl)))))
   bC)))
  (au (aP (pv 2))))),?_⟩
  refine(?_:let cq:TS:=_;let cu:TS:=_;let cv:TS:=_;tSeq cq (tSeq cu cv) _ _ _)
  intro cq cu cv
  refine(?_:let G_:Prop:=_;G_)
  intro G_
  obtain⟨_,xs,e,ha,rl⟩:=aQ.mp rb
  dsimp only[G_]
  clear G_
  cases e
  simp_all only[]
  refine⟨⟨_,bo.of hx⟩,bJ (src_list (Ok:=λH'=>H'=H) (λH2 s2=>by rw[s2];exact bo.of hx)) (λi σ H'=>H'=H/\∃(k:Nat) (z:Option V),kc b k (ps.drop i)=kc b 1 ps/\σ=[some (V.ref a),some (V.ref x),some (V.int (k:Int)),z]) ⟨rfl,1,_,rfl,rfl⟩ (λ_ _ _ _ h=>h.1) ?_ ?_⟩
  ·intro i y σ H1 H2 hi df dk
   refine(?_:let G_:Prop:=_;G_)
   intro G_
   obtain⟨rfl,k,z,ki,rfl⟩:=df
   obtain⟨rfl,ex⟩:=dk
   dsimp only[G_]
   clear G_
   rw[aac] at hi
   rw[aaf,aad hi] at ex
   cases ex
   rw[List.drop_eq_getElem_cons hi] at ki
   have ip:=vU _ (aao hi)
   generalize ps[i]=p at *
   obtain⟨p,rfl⟩:=aau ip.1
   have hp:p<b.length:=by have:=ip.2;omega
   have eb:b[p]?=some b[p]:=aad hp
   refine(?_:let G_:Prop:=_;G_)
   intro G_
   obtain⟨v,ev,rv⟩:=dC rl eb
   dsimp only[G_]
   clear G_
   have ki:kc b (k*xm b (p:Int)) (ps.drop (i+1))=kc b 1 ps:=ki
   have ek:xm b (p:Int)=match b[p] with | .cC _ to=>to.length | _=>1:=by
    unfold xm
    rw[aai,eb]
    cases b[p] <;>rfl
   have k1:k<=4096:=by
    have:=xo ok (ps.drop (i+1)) (k*xm b (p:Int))
    have:=Nat.le_mul_of_pos_right k (vJ ok (p:Int)).1
    omega
   have pq:=ok _ (aao hp)
   rw[ek] at ki
   generalize b[p]=q at *
   cases q with
   | fin g=>
    refine(?_:let G_:Prop:=_;G_)
    intro G_
    obtain⟨t,r,rfl,ht,_⟩:=c6.mp rv
    dsimp only[G_]
    simp_all only[ha,show fc xs (p:Int)=some (.ref t) from bA ev,ht]
    rw[if_neg (by decide +kernel)]
    exact⟨k,by rw[<-ki,Nat.mul_one],rfl,_,rfl⟩
   | dq g ws=>
    refine(?_:let G_:Prop:=_;G_)
    intro G_
    obtain⟨t,r,l,zs,rfl,ht,_⟩:=cW.mp rv
    dsimp only[G_]
    simp_all only[ha,show fc xs (p:Int)=some (.ref t) from bA ev,ht]
    rw[if_neg (by decide +kernel)]
    exact⟨k,by rw[<-ki,Nat.mul_one],rfl,_,rfl⟩
   | cC who to=>
    refine(?_:let G_:Prop:=_;G_)
    intro G_
    obtain⟨t,l,rfl,ht,hl⟩:=cF.mp rv
    dsimp only[G_]
    simp_all only[ha,show fc xs (p:Int)=some (.ref t) from bA ev,ht,hl]
    have lt:(List.map V.int to).length=to.length:=aac ..
    have l4:=pq.2.2.1
    rw[lt]
    exact⟨(Bt.of (n:=13) 4096 (by omega) (by omega)).du (Bt.of (n:=3) 4 (by omega) (by omega)),k*to.length,ki,by rw[Int.natCast_mul],_,rfl⟩
  ·intro σ H1 bK
   refine(?_:let G_:Prop:=_;G_)
   intro G_
   obtain⟨rfl,k,z,ki,rfl⟩:=bK
   dsimp only[G_]
   rw[aac,List.drop_length] at ki
   have ki:k=kc b 1 ps:=ki
   simp_all only[]
   rw[ki]
   exact kk
theorem fI:aO ["board","left","found","part"] ["board"] (af (top 28)):=⟨rfl,rfl,rfl,by decide +kernel,rfl,by decide +kernel,by decide +kernel⟩
theorem Gi (T:Txt K mg aB tc) (LB:o6 base mg tc tp):bU P w K mg base (bL P w) 6 "checked_parts" ["board"] (vL tp):=by
 have Gj:bU P w K mg base (bL P w) 5 "ring" ["board"] vB:=C9 T
 have Dl:bU P w K mg base (bL P w) 3 "parts" ["board"] (A7 tp):=F7 T LB
 have lL:bU P w K mg base (bL P w) 1 "ways_of_picks" ["board","part"] vM:=Gh T
 refine T.lE.dZ (λ_ _ _ _ _ _=>iX λ_=>rfl) λf fd F=>F.d8 fI (λvs H Q E h=>?_) (λcD A outer s H vs Q E hr h=>?_)
 ·obtain⟨_,_,_,rfl,_⟩:=h;rfl
 ·refine(?_:let G_:Prop:=_;G_)
  intro G_
  obtain⟨a,b,rk,rfl,rb,B,nO,kk⟩:=h
  dsimp only[G_]
  have nd:=fI.nd
  refine⟨_,(ae (aF (i:=1) nd rfl (Or.inl rfl) (aI Gj (hr.mono (by decide)) rfl aA.pass (aa (pv 0) ao (se rfl)) (he:=se rfl) (hpl:=na rfl)))
  (ae (b8 (aR kr (aY bD (by rfl) T.z_len aaA (aa (pv 1) ao (se rfl)) (he:=se rfl) (hpl:=na rfl)) ag (aX _)) (au mR)
   bC)
  (ae (aF (i:=2) nd rfl (Or.inl rfl) (aI Dl (hr.mono (by decide)) rfl aA.pass (aa (pv 0) ao (se rfl)) (he:=se rfl) (hpl:=na rfl)))
  (ae (bY PassesOwn.never rfl (bj (K:=K) (pv 2)) (aD (i:=3) nd rfl (Or.inl rfl)) (au (b8 (PW.pt (pw_or (aR kr (aY bD (by rfl) T.z_len aaA (aa (pv 3) ao (se rfl)) (he:=se rfl) (hpl:=na rfl)) (tI rfl T.c_MOST_PLACES) (aX _)) (pw_or1 (aR kr (aI lL (hr.mono (by decide)) rfl aA.pass (aa (pv 0) (aa (pv 3) ao (se rfl)) (se rfl)) (he:=se rfl) (hpl:=na rfl)) (tI rfl T.c_MOST_PICKS) (aX _))))) (au mR)
   bC)))
  (au (aP (pv 2))))))),?_⟩
  refine(?_:let cq:TS:=_;let cu:TS:=_;let cv:TS:=_;let dj:TS:=_;let iE:TS:=_;tSeq cq (tSeq cu (tSeq cv (tSeq dj iE))) _ _ _)
  intro cq cu cv dj iE
  have bl:=B.len
  simp_all only[vB,A7]
  refine⟨b,rb,B.bd,λl H1 s1 n1 hl=>⟨_,hl,?_⟩⟩
  rw[B.lG.ring]
  rw[if_neg (by simp)]
  refine⟨b,rb.mono s1,by omega,B.sY,B.lG.good,s1 _ _ nO,λl2 ps as H2 td s2 n2 B7 al=>?_⟩
  have VB:Al (λp v=>∃x,v=.ref x/\H2 x=some (.lst ((Pr.cZ b p).map V.int))) ps (as.map V.ref):=by
   refine Al.of al.length λi v p ev ep=>?_
   refine(?_:let G_:Prop:=_;G_)
   intro G_
   obtain⟨p',BP,x,rfl,hx,_⟩:=al.get ev
   dsimp only[G_]
   rw[ep] at BP
   cases BP
   exact⟨x,rfl,hx⟩
  have Js:=s1.trans s2
  refine⟨⟨_,bo.of B7⟩,bJ (src_list (Ok:=λH'=>H'=H2) (λH3 s3=>by rw[s3];exact bo.of B7)) (λi σ H'=>H'=H2/\∃z,σ=[some (V.ref a),some (V.ref l),some (V.ref l2),z]) ⟨rfl,_,rfl⟩ (λ_ _ _ _ h=>h.1) ?_ ?_⟩
  ·intro i y σ H3 H4 hi df dk
   refine(?_:let G_:Prop:=_;G_)
   intro G_
   obtain⟨rfl,z,rfl⟩:=df
   obtain⟨rfl,ex⟩:=dk
   obtain⟨p,ep,x,rfl,hx⟩:=VB.get ex
   dsimp only[G_]
   have ip:=td.IA (aag ep)
   have lp:(Pr.cZ b p).length<=b.length:=by
    have:=Pr.sub_len (l:=Pr.cZ b p) (m:=Pr.kb b p) ((Pr.j6 B.lG.good ip).imp λh z=>by omega) λx hx=>(Pr.c7.mp hx).1
    have:=Pr.Ac B.lG.good ip
    omega
   simp_all only[vM,hx]
   rw[if_neg (by rw[aac];omega)]
   have cp:=B.yG p ip
   refine⟨b,rb.mono Js,Pr.cZ b p,rfl,λq hq=>Pr.eF B.lG.good ip hq,B.ok,cp,?_⟩
   rw[if_neg (by omega)]
   exact⟨_,rfl⟩
  ·intro σ H3 bK
   refine(?_:let G_:Prop:=_;G_)
   intro G_
   obtain⟨rfl,z,rfl⟩:=bK
   dsimp only[G_]
   simp_all only[]
   exact kk l2 ps as _ td Js (none_of s1 n2) B7 VB
theorem fJ:aO ["place","way"] ["place","way"] (af (top 29)):=⟨rfl,rfl,rfl,by decide +kernel,rfl,by decide +kernel,by decide +kernel⟩
theorem A9 (T:Txt K mg aB tc):bU P w K mg base (bL P w) 1 "weighted_ways" ["place","way"] uk:=by
 refine T.lF.dZ (λ_ _ _ _ _ _=>eE λ_ _=>rfl) λf fd F=>F.d8 fJ (λvs H Q E h=>?_) (λcD A outer s H vs Q E hr h=>?_)
 ·obtain⟨_,_,_,rfl,_⟩:=h;rfl
 ·refine(?_:let G_:Prop:=_;G_)
  intro G_
  obtain⟨v,q,k,rfl,rv,pk,kk⟩:=h
  dsimp only[G_]
  have nd:=fJ.nd
  refine⟨_,(ae (b8 (aR cK (aG aL (pv 0) ag (λ_ _=>rfl)) c4 (aX _)) (au (aP (aG aL (pv 0) ag (λ_ _=>rfl))))
   bC)
  (ae (b8 (aR cK (aG aL (pv 0) ag (λ_ _=>rfl)) c4 (aX _)) (au (aP (cM (aa (bF (aa ag (aa (aG aJ (aG aL (pv 0) ag (λ_ _=>rfl)) (pv 1) (λ_ _=>rfl)) ao (se rfl)) (se rfl))) ao (se rfl)))))
   bC)
  (au (aP (cM ao))))),?_⟩
  refine(?_:let cq:TS:=_;let cu:TS:=_;let cv:TS:=_;tSeq cq (tSeq cu cv) _ _ _)
  intro cq cu cv
  cases q with
  | fin g=>
   refine(?_:let G_:Prop:=_;G_)
   intro G_
   obtain⟨t,r,rfl,ht,_⟩:=c6.mp rv
   dsimp only[G_]
   simp_all only[ht]
   rw[if_neg (by decide +kernel),if_neg (by decide +kernel)]
   exact⟨aar _,λl nl=>kk l _ (ax nl) (aQ.mpr ⟨l,[],rfl,ar,rfl⟩)⟩
  | dq g ws=>
   refine(?_:let G_:Prop:=_;G_)
   intro G_
   obtain⟨t,r,l,zs,rfl,ht,_,hl,rz⟩:=cW.mp rv
   dsimp only[G_]
   simp_all only[ht]
   exact kk l _ (az.refl _) (aQ.mpr ⟨l,zs,rfl,hl,rz⟩)
  | cC who to=>
   refine(?_:let G_:Prop:=_;G_)
   intro G_
   obtain⟨t,l,rfl,ht,hl⟩:=cF.mp rv
   dsimp only[G_]
   cases k with
   | none=>exact pk.elim
   | some k=>
    obtain⟨k0,k1⟩:=pk
    have at1:fc (to.map V.int) k=some (.int (to.getD k.toNat 0)):=dM k0 k1
    simp_all only[gE,ht,hl,at1]
    rw[if_neg (by decide +kernel)]
    exact⟨by decide,λp H2 s2 np hp=>⟨by decide,λl2 nl=>kk l2 _ (s2.trans (ax nl)) (aQ.mpr ⟨l2,[.ref p],rfl,ar,⟨_,_,rfl,bQ.mpr ⟨p,rfl,ax nl _ _ hp⟩,rfl⟩⟩)⟩⟩
theorem dP:aO ["board","picks"] ["board","picks"] (af (top 30)):=⟨rfl,rfl,rfl,by decide +kernel,rfl,by decide +kernel,by decide +kernel⟩
theorem Jt (T:Txt K mg aB tc):bU P w K mg base (bL P w) 2 "all_weighted_ways" ["board","picks"] IK:=by
 have dX:bU P w K mg base (bL P w) 1 "weighted_ways" ["place","way"] uk:=A9 T
 refine T.iz.dZ (λ_ _ _ _ _ _=>eE λ_ _=>rfl) λf fd F=>F.d8 dP (λvs H Q E h=>?_) (λcD A outer s H vs Q E hr h=>?_)
 ·obtain⟨_,_,_,_,rfl,_⟩:=h;rfl
 ·refine(?_:let G_:Prop:=_;G_)
  intro G_
  obtain⟨a,c,b,ks,rfl,rb,lb,hc,⟨lk,pk⟩,kk⟩:=h
  dsimp only[G_]
  have nd:=dP.nd
  refine⟨_,(au (aP (bX rfl (N:=["board","picks"]) (so:=af (top 30)) (N':=["place","way"]) (k:=2) (fr:=[]) rfl rfl ⟨rfl,by decide +kernel,by decide +kernel,by decide +kernel,rfl,by decide +kernel,by decide +kernel⟩ (jx (K:=K) rfl T.z_zip (aa (pv 0) (aa (pv 1) ao (se rfl)) (se rfl))) (λ_ _ _ _ _=>(bP (K:=K) (n:=2) rfl (aN (aD (i:=0) (show(["place","way"]:List Str).Nodup by decide +kernel) rfl (Or.inl rfl)) (aN (aD (i:=1) (show(["place","way"]:List Str).Nodup by decide +kernel) rfl (Or.inl rfl)) bN)))) (λ_ _ _ _ _=>bO)
   (λ_ _ _ _ _=>(aI dX (hr.mono (by decide)) rfl aA.pass (aa (pv 0) (aa (pv 1) ao (se rfl)) (se rfl)) (he:=se rfl) (hpl:=na rfl)))))),?_⟩
  have sl:=sizeLine_eq
  refine(?_:let G_:Prop:=_;G_)
  intro G_
  obtain⟨_,xs,e,ha,rl⟩:=aQ.mp rb
  dsimp only[G_]
  cases e
  have lx:=rl.length
  rw[aac] at lx
  simp_all only[uk]
  refine⟨⟨_,bo.of ha⟩,⟨_,bo.of hc⟩,?_⟩
  refine fm (K:=K) (jw (λH' s'=>bo.of (s' _ _ ha)) (λH' s'=>bo.of (s' _ _ hc))) (λi u v H'=>∃q k,b[i]?=some q/\ks[i]?=some k/\Rep H (kY q) u/\v=gE k) ?_ (by rw[aac];omega) (λi y H'=>∃l,y=.ref l/\∀q k,b[i]?=some q->ks[i]?=some k->Rep H' (qk (uH q k)) (.ref l)) (λ_ _ _ _ s ⟨l,e,h⟩=>⟨l,e,λq k e1 e2=>(h q k e1 e2).mono s⟩) ?_ ?_
  ·intro i v H2 H3 hi s2 df
   refine(?_:let G_:Prop:=_;G_)
   intro G_
   obtain⟨t,x,y,nt,rfl,ex,ey,rfl⟩:=df
   rw[aaf] at ey
   obtain⟨k,ek,rfl⟩:=Option.map_eq_some_iff.mp ey
   obtain⟨q,eq,rq⟩:=dB rl ex
   dsimp only[G_]
   exact⟨ax nt,t,_,_,rfl,eL.of ar,q,k,eq,ek,rq,rfl⟩
  ·intro i u v H2 Q2 hi s2 dk kq
   refine(?_:let G_:Prop:=_;G_)
   intro G_
   obtain⟨q,k,eq,ek,rq,rfl⟩:=dk
   dsimp only[G_]
   simp_all only[uk]
   refine⟨q,k,rfl,rq.mono s2,pk i q k eq ek,λl H3 s3 r3=>kq _ _ s3 ⟨l,rfl,λq' k' e1 e2=>?_⟩⟩
   rw[eq] at e1
   rw[ek] at e2
   cases e1
   cases e2
   exact r3
  ·intro ys H2 s2 ly hy D n1 n2
   rw[aac] at ly
   have lz:(cw b ks).length=b.length:=by unfold cw;rw[abq];omega
   refine kk D ys _ (s2.trans (ax n2)) (none_of s2 n2) ar (dh (by rw[lz];omega) λi y ey ws ew=>?_)
   have hi:i<b.length:=by have:=(List.getElem?_eq_some_iff.mp ew).1;omega
   refine(?_:let G_:Prop:=_;G_)
   intro G_
   obtain⟨l,rfl,hl⟩:=hy i y ey
   dsimp only[G_]
   have e1:b[i]?=some b[i]:=aad hi
   have e2:ks[i]?=some ks[i]:=aad (by omega)
   have e3:ws=uH b[i] ks[i]:=by
    unfold cw at ew
    rw[abx,e1,e2] at ew
    exact(aax ew).symm
   rw[e3]
   exact(hl _ _ e1 e2).mono (λa o h=>by
    have:a≠D:=λz=>by rw[z,n2] at h;cases h
    rw[bE this,aH this]
    exact h)
theorem kL:aO ["board"] ["board"] (af (top 36)):=⟨rfl,rfl,rfl,by decide +kernel,rfl,by decide +kernel,by decide +kernel⟩
theorem Gk (T:Txt K mg aB tc):bU P w K mg base (bL P w) 4 "gains_of" ["board"] (AM aB):=by
 have yB:bU P w K mg base (bL P w) 1 "gain_of" ["place"] FI:=Jl T
 have yC:bU P w K mg base (bL P w) 3 "book_of" ["several"] (FJ aB):=Jm T
 refine T.vq.dZ (λ_ _ _ _ _ _=>iX λ_=>rfl) λf fd F=>F.d8 kL (λvs H Q E h=>?_) (λcD A outer s H vs Q E hr h=>?_)
 ·obtain⟨_,_,_,rfl,_⟩:=h;rfl
 ·refine(?_:let G_:Prop:=_;G_)
  intro G_
  obtain⟨a,b,rk,rfl,rb,B,kk⟩:=h
  dsimp only[G_]
  have nd:=kL.nd
  refine⟨_,(au (aP (aI yC (hr.mono (by decide)) rfl aA.pass (aa (bX rfl (N:=["board"]) (so:=af (top 36)) (N':=["place"]) (k:=1) (fr:=[]) rfl rfl ⟨rfl,by decide +kernel,by decide +kernel,by decide +kernel,rfl,by decide +kernel,by decide +kernel⟩ (bj (K:=K) (pv 0)) (λ_ _ _ _ _=>(aD (i:=0) (show(["place"]:List Str).Nodup by decide +kernel) rfl (Or.inl rfl))) (λ_ _ _ _ _=>bO)
   (λ_ _ _ _ _=>(aI yB (hr.mono (by decide)) rfl aA.pass (aa (pv 0) ao (se rfl)) (he:=se rfl) (hpl:=na rfl)))) ao (se rfl)) (he:=se rfl) (hpl:=na rfl)))),?_⟩
  simp_all only[FJ]
  refine(?_:let G_:Prop:=_;G_)
  intro G_
  obtain⟨_,xs,e,ha,rl⟩:=aQ.mp rb
  dsimp only[G_]
  cases e
  have lx:=rl.length
  rw[aac] at lx
  have bl:=B.len
  refine⟨⟨_,bo.of ha⟩,?_⟩
  refine comp_map (src_list (K:=K) (a:=a) (xs:=xs) (Ok:=az H) (λH' s'=>bo.of (s' _ _ ha))) (λ_ _ _ _ h=>by rw[h.1];exact az.refl _) (by rw[sizeLine_eq];omega) (λi y H4=>∀q,b[i]?=some q->∃p,y=.ref p/\H4 p=some (.tup (Pr (Wq.dz q).1 (Wq.dz q).2))) (λi y H4 H5 s5 h t e=>by obtain⟨p,e1,h1⟩:=h t e;exact⟨p,e1,s5 _ _ h1⟩) ?_ ?_
  ·rintro i v w0 H4 H5 Q2 hi s4 ⟨rfl,ex⟩ kq
   refine(?_:let G_:Prop:=_;G_)
   intro G_
   obtain⟨q,eq,rq⟩:=dB rl ex
   dsimp only[G_]
   simp_all only[FI]
   refine⟨q,rq.mono s4,λr H6 s6 Yw=>kq _ _ s6 λq' e'=>?_⟩
   rw[eq] at e'
   cases e'
   exact⟨r,rfl,Yw⟩
  ·intro ys H5 s5 ly hy D n1 n2
   refine(?_:let G_:Prop:=_;G_)
   intro G_
   obtain⟨p1,p2,p3⟩:=AK B.xp
   dsimp only[G_]
   rw[aac] at p2
   refine⟨b.map Wq.dz,aQ.mpr ⟨D,ys,rfl,ar,dh (by rw[aac];omega) λi y ey q eq=>?_⟩,by rw[aac];omega,pB (b.map Wq.dz),λx hx=>?_,p1,p2.mono (by omega),λx H6 s6 Yx=>kk x H6 (s5.trans ((ax n2).trans s6)) Yx⟩
   ·rw[aaf] at eq
    refine(?_:let G_:Prop:=_;G_)
    intro G_
    obtain⟨t,et,rfl⟩:=Option.map_eq_some_iff.mp eq
    obtain⟨p,e1,h1⟩:=hy i y ey t et
    dsimp only[G_]
    exact bQ.mpr ⟨p,e1,ax n2 _ _ h1⟩
   ·have g:=B.xp x hx
    exact⟨g.2.2.1,p3 x hx,g.1.mono (by decide)⟩
theorem gm:aO ["gains"] ["gains"] (af (top 37)):=⟨rfl,rfl,rfl,by decide +kernel,rfl,by decide +kernel,by decide +kernel⟩
theorem Ju (T:Txt K mg aB tc):bU P w K mg base (bL P w) 3 "blank_worths" ["gains"] (FK aB):=by
 have oI:p9 P w K mg base (bL P w) 1 "Book" aB ["self","tops","bottom"] (CW aB):=A8 T
 refine T.nV.dZ (λ_ _ _ _ _ _=>iX λ_=>rfl) λf fd F=>F.d8 gm (λvs H Q E h=>?_) (λcD A outer s H vs Q E hr h=>?_)
 ·obtain⟨_,_,rfl,_⟩:=h;rfl
 ·refine(?_:let G_:Prop:=_;G_)
  intro G_
  obtain⟨x,S,rfl,⟨dx,m,hx,hm⟩,ln,kk⟩:=h
  dsimp only[G_]
  clear G_
  have nd:=gm.nd
  refine⟨_,(au (aP (zJ oI (hr.mono (by decide)) rfl aA.pass (aa (aE u5 (cM (aa ag ao (se rfl))) (aY bD (by rfl) T.z_len aaA (aa (dR (pv 0) rfl) ao (se rfl)) (he:=se rfl) (hpl:=na rfl))) (aa (dR (pv 0) rfl) ao (se rfl)) (se rfl)) (he:=se rfl) (hpl:=na rfl)))),?_⟩
  simp_all only[kU,sM,B8]
  refine⟨by decide,λz nz=>?_⟩
  have s1:=ax (o:=.lst [V.int 0]) nz
  have hz:upd H z (.lst [V.int 0]) z=some (.lst [V.int 0]):=ar
  generalize upd H z (.lst [V.int 0])=H1 at *
  have ls:(S.1.map V.int).length=S.1.length:=aac ..
  have sl:=sizeLine_eq
  refine⟨_,_,_,s1 _ _ hx,T.cA,T.na_Book_tops,_,kK,_,rfl,_,s1 _ _ hm,_,hz,by omega,by omega,by rw[ls,aai];show 1*S.1.length<=_;omega,λD nD=>?_⟩
  rw[ls,aai,List.flatten_replicate_singleton] at *
  have s2:=s1.trans (ax (o:=.lst (List.replicate S.1.length (V.int 0))) nD)
  have hD:upd H1 D (.lst (List.replicate S.1.length (V.int 0))) D=some (.lst ((List.replicate S.1.length 0).map V.int)):=by rw[ar,List.map_replicate]
  generalize upd H1 D (.lst (List.replicate S.1.length (V.int 0)))=H2 at *
  refine⟨_,_,_,s2 _ _ hx,T.cA,T.na_Book_bottom,_,uz,λy dy ny Jp ne=>?_⟩
  have s3:=s2.trans (ax (o:=.own y) Jp)
  have Jn:=ax (o:=.own y) Jp _ _ hD
  have xD:D≠y:=λz=>by rw[z,ny] at hD;cases hD
  refine⟨y,dy,D,_,_,rfl,ar,by rw[aH xD];exact Jn,λm' H' nm Jq pI ky=>⟨rfl,kk y H' (λz o hz=>?_) ⟨dy,m',pI,Jq⟩⟩⟩
  have yx:z≠y:=λe=>by have:=s2 _ _ hz;rw[e,ny] at this;cases this
  exact ky z o yx (by rw[aH yx];exact s3 _ _ hz)
theorem g8:aO ["book","gains","part","ways","scale","right","place","gain","answers","told","top"] ["book","gains","part","ways"] (af (top 38)):=⟨rfl,rfl,rfl,by decide +kernel,rfl,by decide +kernel,by decide +kernel⟩
theorem Jv (T:Txt K mg aB tc):bU P w K mg base (bL P w) 4 "with_worths" ["book","gains","part","ways"] (D2 aB):=by
 have eI:bU P w K mg base (bL P w) 1 "total_weight" ["ways"] uf:=D8 T
 have lM:bU P w K mg base (bL P w) 3 "whole_answers" ["rows","right"] FD:=Jg T
 have uA:bU P w K mg base (bL P w) 2 "part_rows" ["part","ways"] AG:=Gd T
 have pA:nP P w K mg base (bL P w) 3 aB "scaled" ["self","factor"] (DX aB):=Gg T
 refine T.o8.dZ (λ_ _ _ _ _ _=>CG λ_ _ _ _=>rfl) λf fd F=>F.d8 g8 (λvs H Q E h=>?_) (λcD A outer s H vs Q E hr h=>?_)
 ·obtain⟨_,_,_,_,_,_,_,_,_,_,_,_,_,rfl,_⟩:=h;rfl
 ·refine(?_:let G_:Prop:=_;G_)
  intro G_
  obtain⟨bk,gn,pt,wl,S,gt,G,ps,n,M,xs,fK,lv,rfl,hb,hg,hp,hw,rl,lw,n16,Gm,p0,Jw,Ec,wk,dn,Z,M0,lg,G0,bG,dv,gb,zr,kk⟩:=h
  dsimp only[G_]
  clear G_
  have nd:=g8.nd
  refine⟨_,(ae (aF (i:=4) nd rfl (Or.inl rfl) (aE dJ (dR (pv 0) rfl) (dR (pv 1) rfl)))
  (ae (aF (i:=5) nd rfl (Or.inl rfl) (cM ao))
  (ae (bY PassesOwn.never rfl (bj (K:=K) (pv 2)) (aD (i:=6) nd rfl (Or.inl rfl)) (ae (aF (i:=7) nd rfl (Or.inl rfl) (aE aT (aE aT (aI eI (hr.mono (by decide)) rfl aA.pass (aa (aG aJ (pv 3) (pv 6) (λ_ _=>rfl)) ao (se rfl)) (he:=se rfl) (hpl:=na rfl)) (aG aJ (dR (pv 1) rfl) (pv 6) (λ_ _=>rfl))) (pv 4)))
  (au (cN (dY aaL aaZ aa0 cm.r (pv 5) (aa (aE br (pv 7) (aY (gU (K:=K)) (by rfl) T.z_sum rfl (aa (bX rfl (N:=["book","gains","part","ways","scale","right","place","gain","answers","told","top"]) (so:=af (top 38)) (N':=["weight","to","book"]) (k:=2) (fr:=[0]) rfl rfl ⟨rfl,by decide +kernel,by decide +kernel,by decide +kernel,rfl,by decide +kernel,by decide +kernel⟩ (bj (K:=K) (aG aJ (pv 3) (pv 6) (λ_ _=>rfl))) (λ_ _ _ _ _=>(bP (K:=K) (n:=2) rfl (aN (aD (i:=0) (show(["weight","to","book"]:List Str).Nodup by decide +kernel) rfl (Or.inl rfl)) (aN (aD (i:=1) (show(["weight","to","book"]:List Str).Nodup by decide +kernel) rfl (Or.inl rfl)) bN)))) (λ_ _ _ _ _=>bO)
   (λ_ _ _ _ _=>(aE aT (pv 0) (aG aJ (wK (K:=K) (pv 2) rfl) (pv 1) (λ_ _=>rfl))))) ao (se rfl)) (he:=se rfl) (hpl:=na rfl))) ao (se rfl)))))))
  (ae (aF (i:=8) nd rfl (Or.inl rfl) (aI lM (hr.mono (by decide)) rfl aA.pass (aa (aI uA (hr.mono (by decide)) rfl aA.pass (aa (pv 2) (aa (pv 3) ao (se rfl)) (se rfl)) (he:=se rfl) (hpl:=na rfl)) (aa (pv 5) ao (se rfl)) (se rfl)) (he:=se rfl) (hpl:=na rfl)))
  (ae (aF (i:=9) nd rfl (Or.inl rfl) (Iq pA T.cA (pv 0) (hr.mono (by decide)) aA.pass (aa (aG aL (pv 8) ag (λ_ _=>rfl)) ao (se rfl)) (hst:=se rfl) (hpl:=na rfl)))
  (ae (bY PassesOwn.never rfl (jx (K:=K) rfl T.z_zip (aa (pv 2) (aa (aG aL (pv 8) ag (λ_ _=>rfl)) ao (se rfl)) (se rfl))) (bP (K:=K) (n:=2) rfl (aN (aD (i:=6) nd rfl (Or.inl rfl)) (aN (aD (i:=10) nd rfl (Or.inl rfl)) bN))) (au (dQ (pv 10) (fM (dR (pv 9) rfl) (pv 6) set_list))))
  (au (aP (pv 9))))))))),?_⟩
  refine(?_:let cq:TS:=_;let cu:TS:=_;let cv:TS:=_;let dj:TS:=_;let iE:TS:=_;let Ba:TS:=_;let Ed:TS:=_;tSeq cq (tSeq cu (tSeq cv (tSeq dj (tSeq iE (tSeq Ba Ed))))) _ _ _)
  intro cq cu cv dj iE Ba Ed
  have sl:=sizeLine_eq
  refine(?_:let G_:Prop:=_;G_)
  intro G_
  obtain⟨dx,m,Lh,G1⟩:=hb
  obtain⟨dg,mg',VC,Yy⟩:=hg
  dsimp only[G_]
  clear G_
  have B0:=Z.pos
  have lS:=Z.len
  have Yz:Bt M (S.2 / G):=Z.bb.le (Nm.dN G0 dv)
  have MV:∀t∈S.1,Bt 4000 t:=λt ht=>by
   refine(?_:let G_:Prop:=_;G_)
   intro G_
   obtain⟨j,hj,rfl⟩:=aaY ht
   dsimp only[G_]
   have:=Z.bt j
   rw[aae,aad hj] at this
   exact Bt.mono this (by omega)
  have VD:∀p:Nat,(p:Int)∈ps->∃wv us,fc xs (p:Int)=some (.ref wv)/\Rep H (qk (cn fK (p:Int))) (.ref wv)/\H wv=some (.lst us)/\bf H ((cn fK (p:Int)).map bB) us/\us.length=(cn fK (p:Int)).length/\Dg.xc n (cn fK (p:Int)):=λp hp=>by
   have hl:p<fK.length:=by have:=(Ec _ hp).2;omega
   have ew:fK[p]?=some (cn fK (p:Int)):=by
    unfold cn
    rw[aai,aae,aad hl]
    rfl
   obtain⟨v,ev,rv⟩:=rl.at (d:=qk (cn fK (p:Int))) (i:=p) (by rw[aaf,ew];rfl)
   refine(?_:let G_:Prop:=_;G_)
   intro G_
   obtain⟨wv,us,rfl,Dj,ru⟩:=aQ.mp rv
   dsimp only[G_]
   have lu:=ru.length
   rw[aac] at lu
   exact⟨wv,us,bA ev,rv,Dj,ru,lu.symm,wk _ (aag ew)⟩
  have Li:∀p∈ps,Dg.xc n (cn fK p):=λp hp=>by
   obtain⟨p,rfl⟩:=aau (Ec p hp).1
   refine(?_:let G_:Prop:=_;G_)
   intro G_
   obtain⟨_,_,_,_,_,_,_,h⟩:=VD p hp
   dsimp only[G_]
   exact h
  have rs:∀p∈ps,_:=λp hp=>Dg.AJ (g:=gt.getD p.toNat 0) Z (Li p hp) G0 dv (gb _)
  generalize hR:(λp:Int=>Dg.tt (cn fK p)*gt.getD p.toNat 0* (S.2 / G)+Dg.gG S.1 (cn fK p))=R at *
  have Re:∀p,R p=Dg.tt (cn fK p)*gt.getD p.toNat 0* (S.2 / G)+Dg.gG S.1 (cn fK p):=λp=>by rw[<-hR]
  change tSeq _ _ _ _ _
  refine aV (λσ' H1=>H=H1/\σ'=[some (.ref bk),some (.ref gn),some (.ref pt),some (.ref wl),some (.int (S.2 / G)),none,none,none,none,none,none]) ?_ (λN hN=>?_)
  case refine_2=>
   simp_all only[kU]
   exact⟨_,_,_,Lh,T.cA,T.na_Book_bottom,_,uz,_,_,_,VC,T.cA,T.na_Book_bottom,_,uz,_,rfl,_,rfl,fk.of G0 bG,hN _ _ ⟨rfl,rfl⟩⟩
  rintro _ _ ⟨rfl,rfl⟩
  change tSeq _ _ _ _ _
  refine aV (λσ' H1=>∃r,az H H1/\H r=none/\H1 r=some (.lst [])/\σ'=[some (.ref bk),some (.ref gn),some (.ref pt),some (.ref wl),some (.int (S.2 / G)),some (.ref r),none,none,none,none,none]) ?_ (λN hN=>?_)
  case refine_2=>
   simp_all only[]
   exact⟨aar _,λr n3=>hN _ _ ⟨r,ax n3,n3,ar,rfl⟩⟩
  intro _ H1 bK
  refine(?_:let G_:Prop:=_;G_)
  intro G_
  obtain⟨r,s1,nr,I0,rfl⟩:=bK
  dsimp only[G_]
  clear G_
  change tSeq _ _ _ _ _
  refine aV (λσ' H2=>az H H2/\H2 r=some (.lst ((ps.map R).map V.int))/\∃z6 z7,σ'=[some (.ref bk),some (.ref gn),some (.ref pt),some (.ref wl),some (.int (S.2 / G)),some (.ref r),z6,z7,none,none,none]) ?_ (λN hN=>?_)
  case refine_2=>
   simp_all only[]
   refine⟨⟨_,bo.of (s1 _ _ hp)⟩,bJ (src_list (K:=K) (a:=pt) (xs:=ps.map V.int) (Ok:=az H) (λH' s=>bo.of (s _ _ hp))) (λj σ H2=>az H H2/\H2 r=some (.lst (((ps.take j).map R).map V.int))/\∃z6 z7,σ=[some (.ref bk),some (.ref gn),some (.ref pt),some (.ref wl),some (.int (S.2 / G)),some (.ref r),z6,z7,none,none,none]) ⟨s1,I0,_,_,rfl⟩ (λ_ _ _ _ h=>h.1) ?_ ?_⟩
   ·intro j y σ H2 H3 hj df dk
    refine(?_:let G_:Prop:=_;G_)
    intro G_
    obtain⟨s2,Dm,z6,z7,rfl⟩:=df
    obtain⟨rfl,ey⟩:=dk
    dsimp only[G_]
    clear G_
    rw[aac] at hj
    rw[aaf,aad hj] at ey
    cases ey
    have mp:=aao hj
    have tk:ps.take (j+1)=ps.take j++ [ps[j]]:=by rw[aaC,aad hj];rfl
    rw[tk]
    generalize ps[j]=p at *
    obtain⟨p,rfl⟩:=aau (Ec p mp).1
    refine(?_:let G_:Prop:=_;G_)
    intro G_
    obtain⟨wv,us,Gf,rv,Dj,ru,lu,Ee⟩:=VD p mp
    obtain⟨bR,_⟩:=rs _ mp
    dsimp only[G_]
    clear G_
    have Gn:fc (gt.map V.int) (p:Int)=some (.int (gt.getD p 0)):=by have:=dM (ns:=gt) (i:=(p:Int)) (by omega) (by have:=(Ec _ mp).2;omega);rwa [aai] at this
    have eR:=Re (p:Int)
    rw[aai] at bR eR
    generalize cn fK (p:Int)=ws at *
    obtain⟨d0,d1⟩:=Ee.tt
    have bd:Bt 20 (Dg.tt ws):=Bt.of 1000000 (by omega) (by omega)
    have w5:=Ee.1
    have bg:Bt 440 (gt.getD p 0):=by
     have h1:=gb p
     have h2:Bt 440 (2^40*G):=by
      have k:Bt 400 G:=bG
      unfold Bt at k ⊢
      rw[aaQ,show((2:Int)^40).natAbs=2^40 by decide,show 440=40+400 by decide,Nat.pow_add]
      exact Nat.mul_lt_mul_of_pos_left k (by decide)
     refine h2.le ?_
     rw[aaQ,show((2:Int)^40).natAbs=2^40 by decide,show G.natAbs=G.toNat by omega]
     exact h1
    simp_all only[uf,kU,cO]
    refine⟨_,s2 _ _ hw,_,Gf,wv,rfl,ws,rv.mono s2,w5,λH4 s4=>?_⟩
    have lN:=s2.trans s4
    refine⟨_,_,_,lN _ _ VC,T.cA,T.na_Book_tops,_,kK,_,rfl,_,lN _ _ Yy,_,Gn,_,rfl,bd.du bg,(bd.mul bg).du Yz (by omega),?_⟩
    refine⟨.inl ⟨rfl,_,bo.of (s4 _ _ Dm)⟩,_,lN _ _ hw,_,Gf,wv,rfl,⟨_,bo.of (lN _ _ Dj)⟩,?_⟩
    have S':Src (uL K wv) (az H4) ws.length (λi x H H3=>H3=H/\us[i]?=some x):=by rw[<-lu];exact src_list (λH' s'=>bo.of (s' _ _ (lN _ _ Dj)))
    refine fS ws (λx=>some (x.1*S.1.getD x.2.toNat 0)) S' (λ_ _ _ _ h=>h.1) (by omega) ?_ ?_
    ·rintro j x v0 ex ⟨_,ey⟩
     refine(?_:let G_:Prop:=_;G_)
     intro G_
     obtain⟨t,et,ht⟩:=cP (ru.mono lN) ex
     dsimp only[G_]
     rw[ey] at et
     cases et
     refine(?_:let G_:Prop:=_;G_)
     intro G_
     obtain⟨x1,x2,x3,x4⟩:=Ee.2 x (aag ex)
     dsimp only[G_]
     have YA:fc (S.1.map V.int) x.2=some (.int (S.1.getD x.2.toNat 0)):=dM x3 (by omega)
     refine⟨t,_,_,rfl,eL.of ht,λY N y1 _=>?_⟩
     simp_all only[gD,kU]
     exact⟨_,_,_,lN _ _ Lh,T.cA,T.na_Book_tops,_,kK,_,rfl,_,lN _ _ G1,_,YA,_,rfl,(Bt.of (n:=18) 200000 (by omega) (by omega)).du (Z.bt _) (by omega),y1 _ rfl⟩
    ·intro D n1 n2
     rw[dI]
     have eR:R (p:Int)=Dg.tt ws*gt.getD p 0* (S.2 / G)+ (ws.map λx=>x.1*S.1.getD x.2.toNat 0).sum:=eR
     refine⟨_,bo.of ar,_,ax n2 _ _ (s4 _ _ Dm),by rw[aac,aac,aa3];omega,ba (lN.trans (ax n2)) nr,?_,_,rfl⟩
     rw[ar,<-eR,aaw,aaw]
     rfl
   ·intro σ H2 bK
    refine(?_:let G_:Prop:=_;G_)
    intro G_
    obtain⟨s2,Dm,z6,z7,rfl⟩:=bK
    dsimp only[G_]
    rw[aac,List.take_length] at Dm
    exact hN _ _ ⟨s2,Dm,_,_,rfl⟩
  intro _ H2 bK
  refine(?_:let G_:Prop:=_;G_)
  intro G_
  obtain⟨s2,Dm,z6,z7,rfl⟩:=bK
  dsimp only[G_]
  clear G_
  have lR:(ps.map R).length=ps.length:=aac ..
  have bR:∀x∈ps.map R,x.natAbs<=2^ (M+61):=λx hx=>by
   refine(?_:let G_:Prop:=_;G_)
   intro G_
   obtain⟨p,hp,rfl⟩:=List.mem_map.mp hx
   dsimp only[G_]
   rw[Re]
   exact(rs p hp).2
  have b1:(1:Nat)<=2^20:=by decide
  have bc:(2:Nat)^20<=2^ (M+61):=aa6 (by decide) (by omega)
  have top:=Dg.AI ps.length M (by omega) p0
  have YB:(ps.length+1)^ (ps.length+1)* (2^ (M+61)* (2^20)^ps.length)<2^4000:=aat top (aa6 (by decide) (by omega))
  change tSeq _ _ _ _ _
  refine aV (λσ' H3=>∃u q d x L,az H2 H3/\H3 u=some (.tup [.ref q,.int d])/\H3 q=some (.lst (x.map V.int))/\Dg.pf ps (cn fK) L/\U8 L (ps.map R) ps.length x d/\d.natAbs<=(ps.length+1)^ (ps.length+1)* (2^20)^ps.length/\(∀v∈x,v.natAbs<=(ps.length+1)^ (ps.length+1)* (2^ (M+61)* (2^20)^ps.length))/\σ'=[some (.ref bk),some (.ref gn),some (.ref pt),some (.ref wl),some (.int (S.2 / G)),some (.ref r),z6,z7,some (.ref u),none,none]) ?_ (λN hN=>?_)
  case refine_2=>
   simp_all only[AG,FD]
   refine⟨ps,s2 _ _ hp,_,s2 _ _ hw,_,rl.mono s2,Gm,by omega,λp hp=>by have:=Ec p hp;omega,λws Jh=>(wk ws Jh).1,λr2 L H3 s3 mt rp=>?_⟩
   have sq:aS.Sq L ps.length:=⟨rp.1,rp.2.1⟩
   have hL:=rp.ent Li
   have sw:=CU sq lR (by omega) b1 bc hL bR YB
   refine⟨L,mt,_,s3 _ _ Dm,?_⟩
   rw[lR]
   refine⟨sq,sw,λk rs W H4 St hk st s4=>?_,λrs W t p H4 St s4 ht YC=>?_⟩
   ·exact absurd (aS.yr sq lR St hk st) (rp.Ay Gm (λp hp x hx=>((Li p hp).2 x hx).1) dn)
   ·obtain⟨z1,z2⟩:=FF sq lR b1 bc hL bR St
    exact hN _ _ ⟨t,p,_,_,L,s3.trans s4,ht,YC,rp,FE sq lR sw St,z1,z2,rfl⟩
  intro _ H3 bK
  refine(?_:let G_:Prop:=_;G_)
  intro G_
  obtain⟨u,q,d,x,L,s3,hu,hq,rp,so,zd,zx,rfl⟩:=bK
  dsimp only[G_]
  clear G_
  have BI:=s2.trans s3
  have d0:=so.pos
  have lx:=so.len
  have Ld:Bt (92*ps.length) d:=abb zd (Dg.CY _ (by omega) p0)
  change tSeq _ _ _ _ _
  refine aV (λσ' H4=>∃y dy m',az H3 H4/\H3 y=none/\H3 m'=none/\H4 y=some (.ins aB dy [("tops",.ref m'),("bottom",.int (S.2*d))])/\H4 m'=some (.lst ((S.1.map (·*d)).map V.int))/\σ'=[some (.ref bk),some (.ref gn),some (.ref pt),some (.ref wl),some (.int (S.2 / G)),some (.ref r),z6,z7,some (.ref u),some (.ref y),none]) ?_ (λN hN=>?_)
  case refine_2=>
   simp_all only[pJ,hu]
   refine⟨_,_,BI _ _ Lh,Jo,bk,S,_,rfl,⟨_,_,BI _ _ Lh,BI _ _ G1⟩,so.bd,Z.bb.mono (by omega),MV,by omega,λy dy m' H4 s4 ny nm hy hm=>hN _ _ ⟨y,dy,m',s4,ny,nm,hy,hm,rfl⟩⟩
  intro _ H4 bK
  refine(?_:let G_:Prop:=_;G_)
  intro G_
  obtain⟨y,dy,m',s4,ny,YD,hy,Jq,rfl⟩:=bK
  dsimp only[G_]
  clear G_
  change tSeq _ _ _ _ _
  refine aV (λσ' H5=>az H3 H5/\H5 y=some (.ins aB dy [("tops",.ref m'),("bottom",.int (S.2*d))])/\H5 m'=some (.lst ((Dg.putK ps x (S.1.map (·*d)) ps.length).map V.int))/\∃z6 jl,σ'=[some (.ref bk),some (.ref gn),some (.ref pt),some (.ref wl),some (.int (S.2 / G)),some (.ref r),z6,z7,some (.ref u),some (.ref y),jl]) ?_ (λN hN=>?_)
  case refine_2=>
   simp_all only[s4 _ _ hu]
   refine⟨⟨_,bo.of (s4 _ _ (BI _ _ hp))⟩,⟨_,bo.of (s4 _ _ hq)⟩,bJ (jw (K:=K) (Ok:=az H3) (λH' s=>bo.of (s _ _ (BI _ _ hp))) (λH' s=>bo.of (s _ _ hq))) (λj σ H5=>az H3 H5/\H5 y=some (.ins aB dy [("tops",.ref m'),("bottom",.int (S.2*d))])/\H5 m'=some (.lst ((Dg.putK ps x (S.1.map (·*d)) j).map V.int))/\∃z6 jl,σ=[some (.ref bk),some (.ref gn),some (.ref pt),some (.ref wl),some (.int (S.2 / G)),some (.ref r),z6,z7,some (.ref u),some (.ref y),jl]) ⟨s4,hy,Jq,_,_,rfl⟩ (λ_ _ _ _ h=>h.1) ?_ ?_⟩
   ·intro j v0 σ H5 H6 hj df dk
    refine(?_:let G_:Prop:=_;G_)
    intro G_
    obtain⟨s5,Ef,Gp,z6,jl,rfl⟩:=df
    obtain⟨t,x1,x2,nt,rfl,e1,e2,rfl⟩:=dk
    dsimp only[G_]
    clear G_
    have hj:j<ps.length:=by rw[aac,aac] at hj;omega
    have g1:ps.getD j 0=ps[j]:=by rw[aae,aad hj];rfl
    have g2:x.getD j 0=x[j]:=by rw[aae,aad (by omega)];rfl
    rw[aaf,aad hj] at e1
    rw[aaf,aad (show j<x.length by omega)] at e2
    cases e1
    cases e2
    have mp:=aao hj
    have pk:Dg.putK ps x (S.1.map (·*d)) (j+1)=(Dg.putK ps x (S.1.map (·*d)) j).set (ps[j]).toNat x[j]:=by
     rw[<-g1,<-g2]
     rfl
    have lk:(Dg.putK ps x (S.1.map (·*d)) j).length=n:=by rw[Dg.jF,aac,lS]
    rw[pk]
    generalize Dg.putK ps x (S.1.map (·*d)) j=ts at *
    generalize x[j]=xj at *
    generalize ps[j]=p at *
    have ip:=Ec p mp
    obtain⟨p,rfl⟩:=aau ip.1
    refine⟨t,_,rfl,eL.of ar,rfl,?_⟩
    have s6:=ax (o:=.tup [.int (p:Int),.int xj]) nt
    generalize upd H5 t (.tup [.int (p:Int),.int xj])=H6 at *
    simp_all only[kU]
    have ym:y≠m':=λz=>by rw[z,Gp] at Ef;cases Ef
    have lm:p< (ts.map V.int).length:=by rw[aac];omega
    refine⟨_,_,_,s6 _ _ Ef,T.cA,T.na_Book_tops,_,kK,_,rfl,_,s6 _ _ Gp,p,il lm,ba (s5.trans s6) YD,by rw[aH ym];exact s6 _ _ Ef,?_,_,rfl⟩
    rw[ar,aai,List.map_set]
   ·intro σ H5 bK
    refine(?_:let G_:Prop:=_;G_)
    intro G_
    obtain⟨s5,Ef,Gp,z6,jl,rfl⟩:=bK
    dsimp only[G_]
    have lm:min (List.map V.int ps).length (List.map V.int x).length=ps.length:=by rw[aac,aac];omega
    rw[lm] at Gp
    exact hN _ _ ⟨s5,Ef,Gp,_,_,rfl⟩
  intro _ H5 bK
  refine(?_:let G_:Prop:=_;G_)
  intro G_
  obtain⟨s5,Ef,Gp,z6,jl,rfl⟩:=bK
  dsimp only[G_]
  simp_all only[]
  have lT:(Dg.putK ps x (S.1.map (·*d)) ps.length).length=n:=by rw[Dg.jF,aac,lS]
  have out:∀q,0<=q->q∉ps->(Dg.putK ps x (S.1.map (·*d)) ps.length).getD q.toNat 0=S.1.getD q.toNat 0*d:=λq q0 hq=>by
   rw[Dg.uh q0 (λp hp=>(Ec p hp).1) hq _ (aah _),Dg.rG]
  have ins:∀j,j<ps.length->(Dg.putK ps x (S.1.map (·*d)) ps.length).getD (ps.getD j 0).toNat 0=x.getD j 0:=λj hj=>Dg.xg Gm Ec (by rw[aac,lS]) _ (aah _) hj
  have bM:Bt (M+92*ps.length) (S.2*d):=Z.bb.mul Ld
  refine kk y (Dg.putK ps x (S.1.map (·*d)) ps.length,S.2*d) H5 (BI.trans s5) ⟨dy,m',Ef,Gp⟩ ⟨d,d0,rfl,lT.trans lS.symm,out,λp hp=>?_⟩ ⟨lT,aaG B0 d0,bM,λk=>?_⟩
  ·refine(?_:let G_:Prop:=_;G_)
   intro G_
   obtain⟨i,hi,rfl⟩:=aaY hp
   dsimp only[G_]
   have g1:ps.getD i 0=ps[i]:=by rw[aae,aad hi];rfl
   have sl:=so.eq i hi
   rw[aae (l:=ps.map R),aaf,aad hi] at sl
   have e:=Dg.CV (S:=S.1) (T:=Dg.putK ps x (S.1.map (·*d)) ps.length) (x:=x) (d:=d) (r:=R ps[i]) rp Gm hi sl zr ins (λy hy hn=>out y.2 (by have:=(Li _ (by rw[g1];exact hp)).2 y hy;omega) hn)
   rw[g1] at e
   show Dg.tt _* (Dg.putK ps x (S.1.map (·*d)) ps.length).getD _ 0=_
   rw[e,Re,Int.add_mul]
   show _=_+Dg.gG (Dg.putK ps x (S.1.map (·*d)) ps.length) _
   omega
  ·show Bt _ ((Dg.putK ps x (S.1.map (·*d)) ps.length).getD k 0)
   by_cases c:(k:Int)∈ps
   ·refine(?_:let G_:Prop:=_;G_)
    intro G_
    obtain⟨j,hj,ej⟩:=aaY c
    dsimp only[G_]
    have g1:ps.getD j 0=(k:Int):=by rw[aae,aad hj,ej];rfl
    have e:=ins j hj
    rw[g1,aai] at e
    rw[e,aae,aad (by omega)]
    exact abb (zx _ (aao _)) top
   ·have e:=out (k:Int) (by omega) c
    rw[aai] at e
    rw[e]
    exact(Z.bt k).mul Ld
theorem dD (c:Int->Bool):∀l:List Int,l.filterMap (λx=>if c x=true then some x else none)=l.filter c
 | []=>rfl
 | x::l=>by
  rw[List.filterMap_cons,List.filter_cons,dD c l]
  cases c x <;>rfl
theorem iG:aO ["place","tops","sign","wanted"] ["place","tops"] (af (top 40)):=⟨rfl,rfl,rfl,by decide +kernel,rfl,by decide +kernel,by decide +kernel⟩
theorem Gq (T:Txt K mg aB tc):bU P w K mg base (bL P w) 1 "wanted_way" ["place","tops"] AV:=by
 refine T.qW.dZ (λ_ _ _ _ _ _=>eE λ_ _=>rfl) λf fd F=>F.d8 iG (λvs H Q E h=>?_) (λcD A outer s H vs Q E hr h=>?_)
 ·obtain⟨_,_,_,_,_,rfl,_⟩:=h;rfl
 ·refine(?_:let G_:Prop:=_;G_)
  intro G_
  obtain⟨v,m,who,to,ts,rfl,rv,hm,l0,l3,oV,bt,kk⟩:=h
  dsimp only[G_]
  clear G_
  have nd:=iG.nd
  refine⟨_,(ae (aF (i:=2) nd rfl (Or.inr rfl) (gK (aR cK (aG aL (pv 0) ag (λ_ _=>rfl)) ag (aX _)) ag (yR uP ag)))
  (ae (fR (i:=3) rfl nd rfl rfl (N:=["place","tops","sign","wanted"]) (so:=af (top 40)) (N':=["to","tops","sign"]) (k:=1) (fr:=[1,2]) rfl rfl ⟨rfl,by decide +kernel,by decide +kernel,by decide +kernel,rfl,by decide +kernel,by decide +kernel⟩ (bj (K:=K) (aG aL (pv 0) ag (λ_ _=>rfl))) (λ_ _ _ _ _=>(aD (i:=0) (show(["to","tops","sign"]:List Str).Nodup by decide +kernel) rfl (Or.inl rfl))) (λ_ _ _ _ _=>bO)
   (λ_ _ _ _ _=>(aE aT (pv 2) (aG aJ (pv 1) (pv 0) (λ_ _=>rfl)))))
  (au (aP (dY aaL PySem.F.slot_list_index PySem.F.type_list_index (vm (K:=K)) (pv 3) (aa (aY (tD (K:=K)) (by rfl) T.z_max rfl (aa (pv 3) ao (se rfl)) (he:=se rfl) (hpl:=na rfl)) ao (se rfl))))))),?_⟩
  refine(?_:let cq:TS:=_;let cu:TS:=_;let cv:TS:=_;tSeq cq (tSeq cu cv) _ _ _)
  intro cq cu cv
  have sl:=sizeLine_eq
  refine(?_:let G_:Prop:=_;G_)
  intro G_
  obtain⟨t,l,rfl,ht,hl⟩:=cF.mp rv
  dsimp only[G_]
  clear G_
  change tSeq _ _ _ _ _
  refine aV (λσ' H1=>H=H1/\σ'=[some (.ref t),some (.ref m),some (.int (sgn who)),none]) ?_ (λN hN=>?_)
  case refine_2=>
   simp_all only[ht]
   refine gP (λc=>hN _ _ ⟨rfl,by unfold sgn;rw[if_pos c]⟩) (λc=>hN _ _ ⟨rfl,by unfold sgn;rw[if_neg c]⟩)
  rintro _ _ ⟨rfl,rfl⟩
  have sg:=FX who
  generalize hu:sgn who=u at *
  change tSeq _ _ _ _ _
  refine aV (λσ' H1=>∃d,az H H1/\H1 d=some (.lst (List.map V.int (to.map λg=>u*ts.getD g.toNat 0)))/\σ'=[some (.ref t),some (.ref m),some (.int u),some (.ref d)]) ?_ (λN hN=>?_)
  case refine_2=>
   simp_all only[ht]
   refine⟨⟨_,bo.of hl⟩,?_⟩
   have S':Src (uL K l) (az H) to.length (λi x H H3=>H3=H/\(to.map V.int)[i]?=some x):=by
    have:=src_list (K:=K) (a:=l) (xs:=to.map V.int) (Ok:=az H) (λH' s'=>bo.of (s' _ _ hl))
    rwa [aac] at this
   refine dA to (λg=>some (u*ts.getD g.toNat 0)) S' (λ_ _ _ _ h=>h.1) (by omega) ?_ ?_
   ·rintro i g x eg ⟨_,ex⟩ Y N y1 _
    rw[aaf,eg] at ex
    cases ex
    obtain⟨g0,g1⟩:=oV g (aag eg)
    have Gn:fc (ts.map V.int) g=some (.int (ts.getD g.toNat 0)):=dM g0 g1
    have hg:g.toNat<ts.length:=by omega
    have bg:Bt 4000 (ts.getD g.toNat 0):=bt _ (by rw[aae,aad hg];exact aao hg)
    simp_all only[gD,hm,Gn]
    exact⟨(Bt.of (n:=1) 1 (by omega) (by omega)).du bg,y1 _ rfl⟩
   ·intro D n1 n2
    rw[dI]
    exact hN _ _ ⟨D,ax n2,ar,rfl⟩
  intro _ H1 bK
  refine(?_:let G_:Prop:=_;G_)
  intro G_
  obtain⟨d,s1,hd,rfl⟩:=bK
  dsimp only[G_]
  clear G_
  simp_all only[Fh]
  refine⟨.inl ⟨rfl,_,bo.of hd⟩,_,bo.of hd,by rw[aac];exact l0,λM mM gM=>⟨_,bo.of hd,mM,by rw[aac];omega,?_⟩⟩
  have lt:=aaR mM
  have eg:=aaX lt
  rw[aac] at lt
  generalize List.idxOf M (to.map λg=>u*ts.getD g.toNat 0)=w' at *
  rw[List.getElem_map] at eg
  refine kk w' _ s1 lt λg hg=>?_
  have e2:to.getD w' 0=to[w']:=by rw[aae,aad lt];rfl
  rw[e2,hu,eg]
  exact gM _ (List.mem_map.mpr ⟨g,hg,rfl⟩)
theorem hG:aO ["board","places","ways","tops","found","place","way","picked"] ["board","places","ways","tops"] (af (top 41)):=⟨rfl,rfl,rfl,by decide +kernel,rfl,by decide +kernel,by decide +kernel⟩
theorem Jx (T:Txt K mg aB tc):bU P w K mg base (bL P w) 2 "better_ways" ["board","places","ways","tops"] AW:=by
 have rR:bU P w K mg base (bL P w) 1 "wanted_way" ["place","tops"] AV:=Gq T
 refine T.o9.dZ (λ_ _ _ _ _ _=>CG λ_ _ _ _=>rfl) λf fd F=>F.d8 hG (λvs H Q E h=>?_) (λcD A outer s H vs Q E hr h=>?_)
 ·obtain⟨_,_,_,_,_,_,_,_,_,_,rfl,_⟩:=h;rfl
 ·refine(?_:let G_:Prop:=_;G_)
  intro G_
  obtain⟨bl,ql,wl,m,b,ks,who,ts,qs,xs,rfl,rb,VE,hw,rl,hm,YE,bt,ko,G5,Lb,l16,kk⟩:=h
  dsimp only[G_]
  clear G_
  have nd:=hG.nd
  refine⟨_,(ae (aF (i:=4) nd rfl (Or.inl rfl) (cM ao))
  (ae (bY PassesOwn.never rfl (bj (K:=K) (pv 1)) (aD (i:=5) nd rfl (Or.inl rfl)) (ae (aF (i:=6) nd rfl (Or.inl rfl) (aI rR (hr.mono (by decide)) rfl aA.pass (aa (aG aJ (pv 0) (pv 5) (λ_ _=>rfl)) (aa (pv 3) ao (se rfl)) (se rfl)) (he:=se rfl) (hpl:=na rfl)))
  (ae (aF (i:=7) nd rfl (Or.inl rfl) (aG aL (aG aJ (aG aJ (pv 2) (pv 5) (λ_ _=>rfl)) ag (λ_ _=>rfl)) ag (λ_ _=>rfl)))
  (au (b8 (aR sJ (aG aJ (pv 3) (aG aJ (aG aL (aG aJ (pv 0) (pv 5) (λ_ _=>rfl)) ag (λ_ _=>rfl)) (pv 6) (λ_ _=>rfl)) (λ_ _=>rfl)) (aG aJ (pv 3) (pv 7) (λ_ _=>rfl)) (aX _)) (au (cN (dY aaL aaZ aa0 cm.r (pv 4) (aa (bF (aa (pv 5) (aa (pv 6) ao (se rfl)) (se rfl))) ao (se rfl)))))
   bC)))))
  (au (aP (pv 4))))),?_⟩
  refine(?_:let cq:TS:=_;let cu:TS:=_;let cv:TS:=_;tSeq cq (tSeq cu cv) _ _ _)
  intro cq cu cv
  have sl:=sizeLine_eq
  refine(?_:let G_:Prop:=_;G_)
  intro G_
  obtain⟨_,xb,e,G9,Ha⟩:=aQ.mp rb
  dsimp only[G_]
  clear G_
  cases e
  simp_all only[]
  refine⟨aar _,λfo nf=>?_⟩
  have s1:=ax (o:=.lst []) nf
  have h1:upd H fo (.lst []) fo=some (.lst []):=ar
  generalize upd H fo (.lst [])=H1 at *
  refine⟨⟨_,bo.of (s1 _ _ VE)⟩,bJ (src_list (K:=K) (a:=ql) (xs:=qs.map V.int) (Ok:=az H) (λH2 s2=>bo.of (s2 _ _ VE))) (λi σ H'=>az H H'/\∃(bs:List (Int×Int)) (ys:List V) (z5 z6 z7:Option V),H' fo=some (.lst ys)/\bf (cE H' fo) (bs.map bB) ys/\iA b ks who ts (qs.take i) bs/\σ=[some (.ref bl),some (.ref ql),some (.ref wl),some (.ref m),some (.ref fo),z5,z6,z7]) ⟨s1,[],[],_,_,_,h1,rfl,iA.start,rfl⟩ (λ_ _ _ _ h=>h.1) ?_ ?_⟩
  ·intro i y σ H2 H3 hi df dk
   refine(?_:let G_:Prop:=_;G_)
   intro G_
   obtain⟨s2,bs,ys,z5,z6,z7,Ja,ry,W,rfl⟩:=df
   obtain⟨rfl,ey⟩:=dk
   dsimp only[G_]
   clear G_
   rw[aac] at hi
   rw[aaf,aad hi] at ey
   cases ey
   have tk:qs.take (i+1)=qs.take i++ [qs[i]]:=by rw[aaC,aad hi];rfl
   refine(?_:let G_:Prop:=_;G_)
   intro G_
   obtain⟨p0,to,eb⟩:=Lb _ (aao hi)
   dsimp only[G_]
   clear G_
   have ly:=ry.length
   have lb:=W.sub.length_le
   rw[aac,aa3] at lb
   rw[aac] at ly
   rw[tk]
   generalize qs[i]=p at *
   obtain⟨p,rfl⟩:=aau p0
   rw[aai] at eb
   have hp:=(List.getElem?_eq_some_iff.mp eb).1
   have pq:=G5 _ (aag eb)
   refine(?_:let G_:Prop:=_;G_)
   intro G_
   obtain⟨k,ek,k0,k1,ew,et,mt⟩:=oC ko eb
   obtain⟨v,ev,rv⟩:=dC Ha eb
   have Lj:p< (cw b ks).length:=by unfold cw;rw[abq,ko.len];omega
   have YF:(cw b ks)[p]?=some [(1,to.getD k.toNat 0)]:=by
    rw[<-ew]
    unfold cn
    rw[aai,aae,aad Lj]
    rfl
   obtain⟨YG,tk1⟩:=pq.2.2.2 _ mt
   dsimp only[G_]
   clear G_
   generalize to.getD k.toNat 0=tg at *
   obtain⟨vw,YH,YI⟩:=rl.at (d:=qk [(1,tg)]) (i:=p) (by rw[aaf,YF];rfl)
   refine(?_:let G_:Prop:=_;G_)
   intro G_
   obtain⟨wv,us,rfl,Dj,ru⟩:=aQ.mp YI
   obtain⟨t0,YJ,Hb⟩:=cP (i:=0) ru rfl
   obtain⟨t,l,rfl,ht,hl⟩:=cF.mp rv
   dsimp only[G_]
   simp_all only[AV,s2 _ _ G9,show fc xb (p:Int)=some (.ref t) from bA ev]
   refine⟨who,to,rv.mono s2,ts,s2 _ _ hm,pq.2.1,pq.2.2.1,by rw[YE];exact pq.2.2.2,bt,λw H4 s4 MW best=>?_⟩
   have lN:=s2.trans s4
   have MX:fc us 0=some (.ref t0):=bA (j:=0) YJ
   simp only[lN _ _ hw,show fc xs (p:Int)=some (.ref wv) from bA YH,lN _ _ Dj,MX,lN _ _ Hb,L2.start,Pr,tRev,tD1,tDPop1,tSl,tNoPart,tPart,rSlL,tDIn,tDNotIn,gSub,rSetL,tLst,tDNewK,tComp,L2.stC,tFor_eq,iList,iTup,iRng1,iRng2,iZip,iEnum,iDict,iStr,tChain,tSumV,tBM,rJoin,tJoined,jNil,jLit,jInt,jStr,tRaise,tDGet,tDGet2,tDGet1,sDPut,Option.join_some,List.getElem?_nil,tSeq,tRet,tRetN,tIfS,tTest,tB,tOp,tUn,tVar,tC,tCB,tCons,tNil,tCall,tTupS,tAsg,gName,gNil,gCons,tPar,tNext,tDrop,tAnd,tOr,tNot,tAndV,tOrV,tNotV,tIf,rI,rI0,rU,rIxTH,rIxLH,rEqT,rNeT,rInT,rEq,rNe,scal_ss,scal_ii,scal_bb,scal_si,scal_is,CPow,at0,at1,at2,aav,aaP,aaq,abf,Nat.reduceSub,Nat.reduceAdd,aaV,abu,List.reduceReplicate,aa2,List.nil_append,abn,abo,abk,abh,abi,abp,exists_eq_left',exists_eq_left,V.ref.injEq,V.int.injEq,V.bl.injEq,V.str.injEq,V.ty.injEq,HO.tup.injEq,HO.lst.injEq,List.cons.injEq,and_true,true_and,and_assoc,exists_and_left,decide_eq_true_eq,Bool.not_eq_true',decide_eq_false_iff_not,ite_true,ite_false,if_true,if_false,Int.reduceToNat,eq_self_iff_true]
   have VF:to.getD w 0=to[w]:=by rw[aae,aad MW];rfl
   obtain⟨g0,g1⟩:=pq.2.2.2 _ (aao MW)
   have Gf:fc (to.map V.int) (w:Int)=some (.int to[w]):=nE (f:=V.int) (aad MW)
   have Gn:fc (ts.map V.int) to[w]=some (.int (ts.getD (to[w]).toNat 0)):=dM g0 (by omega)
   have YK:fc (ts.map V.int) tg=some (.int (ts.getD tg.toNat 0)):=dM YG (by omega)
   refine⟨_,lN _ _ G9,_,bA ev,t,rfl,_,lN _ _ ht,_,at2,l,rfl,_,lN _ _ hl,_,Gf,_,_,rfl,lN _ _ hm,_,Gn,_,lN _ _ hm,_,YK,rfl,?_⟩
   have Dc:=s4 _ _ Ja
   by_cases ce:ts.getD (to[w]).toNat 0=ts.getD tg.toNat 0
   ·rw[if_neg (by rw[ce];simp)]
    refine⟨lN,bs,ys,Dc,ry.mono (bI s4),⟨λx hx=>⟨abr _ (W.mem x hx).1,(W.mem x hx).2⟩,λp' jg nb MY Jy=>?_,List.Sublist.trans W.sub (List.sublist_append_left _ _)⟩,_,rfl⟩
    rcases List.mem_append.mp jg with jg | jg
    ·exact W.cB p' jg nb MY Jy
    ·rw[List.mem_singleton.mp jg,aai,eb] at Jy
     cases Jy
     rw[List.mem_singleton.mp jg,et,<-ce,<-VF]
     exact best
   ·rw[if_pos (λz=>ce (by injection z))]
    refine⟨.inl ⟨rfl,_,bo.of Dc⟩,by decide,λt5 H5 s5 n5 h5=>?_⟩
    simp only[cO,L2.start,Pr,tRev,tD1,tDPop1,tSl,tNoPart,tPart,rSlL,tDIn,tDNotIn,gSub,rSetL,tLst,tDNewK,tComp,L2.stC,tFor_eq,iList,iTup,iRng1,iRng2,iZip,iEnum,iDict,iStr,tChain,tSumV,tBM,rJoin,tJoined,jNil,jLit,jInt,jStr,tRaise,tDGet,tDGet2,tDGet1,sDPut,Option.join_some,List.getElem?_nil,tSeq,tRet,tRetN,tIfS,tTest,tB,tOp,tUn,tVar,tC,tCB,tCons,tNil,tCall,tTupS,tAsg,gName,gNil,gCons,tPar,tNext,tDrop,tAnd,tOr,tNot,tAndV,tOrV,tNotV,tIf,rI,rI0,rU,rIxTH,rIxLH,rEqT,rNeT,rInT,rEq,rNe,scal_ss,scal_ii,scal_bb,scal_si,scal_is,CPow,at0,at1,at2,aav,aaP,aaq,abf,Nat.reduceSub,Nat.reduceAdd,aaV,abu,List.reduceReplicate,aa2,List.nil_append,abn,abo,abk,abh,abi,abp,exists_eq_left',exists_eq_left,V.ref.injEq,V.int.injEq,V.bl.injEq,V.str.injEq,V.ty.injEq,HO.tup.injEq,HO.lst.injEq,List.cons.injEq,and_true,true_and,and_assoc,exists_and_left,decide_eq_true_eq,Bool.not_eq_true',decide_eq_false_iff_not,ite_true,ite_false,if_true,if_false,Int.reduceToNat,eq_self_iff_true]
    have YL:t5≠fo:=λz=>by rw[z,Dc] at n5;cases n5
    refine⟨_,s5 _ _ Dc,by omega,ba (lN.trans s5) nf,bs++ [((p:Int),(w:Int))],_,ar,?_,⟨λx hx=>?_,λp' jg nb MY Jy=>?_,?_⟩,_,rfl⟩
    ·rw[aaw]
     exact jy (ry.mono (bI (s4.trans s5))) (bQ.mpr ⟨t5,rfl,by rw[bE YL];exact h5⟩)
    ·rcases List.mem_append.mp hx with hx | hx
     ·exact⟨abr _ (W.mem x hx).1,(W.mem x hx).2⟩
     ·rw[List.mem_singleton.mp hx]
      refine⟨aaJ _ (List.mem_singleton.mpr rfl),to,by rw[aai];exact eb,by show(0:Int)<=(w:Int);omega,by show(w:Int)<_;omega,by show AS who to ts (w:Int).toNat;rw[aai];exact best,?_⟩
      show ts.getD (to.getD (w:Int).toNat 0).toNat 0≠ts.getD (yw b ks (p:Int)).toNat 0
      rw[aai,et,VF]
      exact ce
    ·rw[aaw,List.mem_append] at nb
     rcases List.mem_append.mp jg with jg | jg
     ·exact W.cB p' jg (λz=>nb (.inl z)) MY Jy
     ·exact absurd (.inr (by rw[List.mem_singleton.mp jg];exact List.mem_singleton.mpr rfl)) nb
    ·rw[aaw]
     exact W.sub.append (List.Sublist.refl _)
  ·intro σ H2 bK
   refine(?_:let G_:Prop:=_;G_)
   intro G_
   obtain⟨s2,bs,ys,z5,z6,z7,Ja,ry,W,rfl⟩:=bK
   dsimp only[G_]
   rw[aac,List.take_length] at W
   simp_all only[]
   exact kk fo bs _ s2 nf (aQ.mpr ⟨fo,ys,rfl,Ja,ry.mono bV⟩) W
theorem kM:aO ["board","part","who"] ["board","part","who"] (af (top 42)):=⟨rfl,rfl,rfl,by decide +kernel,rfl,by decide +kernel,by decide +kernel⟩
theorem Jz (T:Txt K mg aB tc):bU P w K mg base (bL P w) 1 "picks_of" ["board","part","who"] xv:=by
 refine T.vv.dZ (λ_ _ _ _ _ _=>tU λ_ _ _=>rfl) λf fd F=>F.d8 kM (λvs H Q E h=>?_) (λcD A outer s H vs Q E hr h=>?_)
 ·obtain⟨_,_,_,_,_,rfl,_⟩:=h;rfl
 ·refine(?_:let G_:Prop:=_;G_)
  intro G_
  obtain⟨bl,pt,who,b,ps,rfl,rb,BB,fi,l16,kk⟩:=h
  dsimp only[G_]
  clear G_
  have nd:=kM.nd
  refine⟨_,(au (aP (bX rfl (N:=["board","part","who"]) (so:=af (top 42)) (N':=["place","board","who"]) (k:=1) (fr:=[0,2]) rfl rfl ⟨rfl,by decide +kernel,by decide +kernel,by decide +kernel,rfl,by decide +kernel,by decide +kernel⟩ (bj (K:=K) (pv 1)) (λ_ _ _ _ _=>(aD (i:=0) (show(["place","board","who"]:List Str).Nodup by decide +kernel) rfl (Or.inl rfl))) (λ_ _ _ _ _=>(mi (PW.pt (pw_and (aR cK (aG aL (aG aJ (pv 1) (pv 0) (λ_ _=>rfl)) ag (λ_ _=>rfl)) c4 (aX _)) (pw_and1 (aR cK (aG aL (aG aJ (pv 1) (pv 0) (λ_ _=>rfl)) ag (λ_ _=>rfl)) (pv 2) (aX _)))))))
   (λ_ _ _ _ _=>(pv 0))))),?_⟩
  have sl:=sizeLine_eq
  refine(?_:let G_:Prop:=_;G_)
  intro G_
  obtain⟨_,xb,e,G9,Ha⟩:=aQ.mp rb
  dsimp only[G_]
  clear G_
  cases e
  simp_all only[]
  refine⟨⟨_,bo.of BB⟩,?_⟩
  have S':Src (uL K pt) (az H) ps.length (λi x H H3=>H3=H/\(ps.map V.int)[i]?=some x):=by
   have:=src_list (K:=K) (a:=pt) (xs:=ps.map V.int) (Ok:=az H) (λH2 s2=>bo.of (s2 _ _ BB))
   rwa [aac] at this
  refine dA ps (λx=>if (match b[x.toNat]? with | some q=>K6 q who | none=>false)=true then some x else none) S' (λ_ _ _ _ h=>h.1) (by omega) ?_ ?_
  ·rintro i x v0 ex ⟨_,ey⟩ Y N y1 n1
   rw[aaf,ex] at ey
   cases ey
   have ip:=fi x (aag ex)
   obtain⟨p,rfl⟩:=aau ip.1
   have hp:p<b.length:=by have:=ip.2;omega
   have eb:b[p]?=some b[p]:=aad hp
   refine(?_:let G_:Prop:=_;G_)
   intro G_
   obtain⟨v,ev,rv⟩:=dC Ha eb
   dsimp only[G_]
   clear G_
   have MZ:fc xb (p:Int)=some v:=bA ev
   rw[aai,eb] at y1 n1
   generalize b[p]=q at *
   cases q with
   | fin g=>
    refine(?_:let G_:Prop:=_;G_)
    intro G_
    obtain⟨t,r,rfl,ht,_⟩:=c6.mp rv
    dsimp only[G_]
    simp_all only[G9,MZ,ht]
    rw[if_neg (by decide +kernel),if_neg (by decide)]
    exact n1 rfl
   | dq g ws=>
    refine(?_:let G_:Prop:=_;G_)
    intro G_
    obtain⟨t,r,l',zs,rfl,ht,_⟩:=cW.mp rv
    dsimp only[G_]
    simp_all only[G9,MZ,ht]
    rw[if_neg (by decide +kernel),if_neg (by decide)]
    exact n1 rfl
   | cC w' to=>
    refine(?_:let G_:Prop:=_;G_)
    intro G_
    obtain⟨t,l',rfl,ht,oS⟩:=cF.mp rv
    dsimp only[G_]
    simp_all only[G9,MZ,ht]
    have ei:K6 (.cC w' to) who=decide (w'=who):=rfl
    exact gP (λc=>y1 _ (if_pos (by dsimp only;rw[ei];exact decide_eq_true c))) (λc=>n1 (if_neg (by dsimp only;rw[ei,decide_eq_false c];decide)))
  ·intro D n1 n2
   refine kk D _ (ax n2) n2 ?_
   rw[ar]
   rw[dD]
   rfl
theorem uB {H:Hp} {d:Dat} {v:V}:∀{ds:List Dat} {xs:List V} {i:Nat},bf H ds xs->Rep H d v->bf H (ds.set i d) (xs.set i v)
 | [],xs,i,r,_=>by
  have:xs=[]:=r
  subst this
  exact r
 | e::ds,xs,i,r,h=>by
  obtain⟨w,ws,rfl,r1,r2⟩:=r
  cases i with
  | zero=>exact⟨_,_,rfl,h,r2⟩
  | succ i=>exact⟨_,_,rfl,r1,uB r2 h⟩
theorem Dp {c:TT} {tb:TS} {D:Ends} {σ:L2.St} {H:Hp} (Pv:Nat->L2.St->Hp->Prop) {m:Nat} (h0:Pv m σ H)
  (hs:∀m σ H,Pv m σ H->∃b:Bool,(∀Q:Bool->Hp->Prop,Q b H->c σ H Q)/\if b=true then tb {D with nx:=λσ' H'=>∃m',m'<m/\Pv m' σ' H',ct:=λσ' H'=>∃m',m'<m/\Pv m' σ' H',bk:=D.nx} σ H else D.nx σ H):qA c tb D σ H:=by
 refine⟨Pv,⟨m,h0⟩,?_⟩
 intro m σ H p
 obtain⟨b,k,q⟩:=hs m σ H p
 refine k _ ?_
 cases b with
 | true=>exact⟨_,λσ' H' h=>h,q⟩
 | false=>exact q
theorem Dq {b:List Pl} {ks:List (Option Int)} {p:Nat} {q:Pl} {k:Option Int} (e:b[p]?=some q) (lk:ks.length=b.length):cw b (ks.set p k)=(cw b ks).set p (uH q k):=by
 have hp:=(List.getElem?_eq_some_iff.mp e).1
 apply aa8
 intro i
 unfold cw
 by_cases c:p=i
 ·subst c
  rw[abx,e,aa1 (by omega),aa1 (by rw[abq];omega)]
 ·rw[abx,aaO c,aaO c,abx]
theorem uC {H:Hp} {p:Addr} {o:HO}:cE (upd H p o) p=cE H p:=by
 funext a
 unfold cE
 by_cases h:a=p
 ·rw[if_pos h,if_pos h]
 ·rw[if_neg h,if_neg h,aH h]
theorem d6:aO ["book","gains","part","board","ways","first","second","told","better","place","way"] ["book","gains","part","board","ways"] (af (top 43)):=⟨rfl,rfl,rfl,by decide +kernel,rfl,by decide +kernel,by decide +kernel⟩
theorem JA (T:Txt K mg aB tc):bU P w K mg base (bL P w) 5 "with_best_worths" ["book","gains","part","board","ways"] (D4 aB):=by
 have oJ:bU P w K mg base (bL P w) 1 "picks_of" ["board","part","who"] xv:=Jz T
 have pC:bU P w K mg base (bL P w) 4 "with_worths" ["book","gains","part","ways"] (D2 aB):=Jv T
 have iH:bU P w K mg base (bL P w) 2 "better_ways" ["board","places","ways","tops"] AW:=Jx T
 have dX:bU P w K mg base (bL P w) 1 "weighted_ways" ["place","way"] uk:=A9 T
 refine T.iW.dZ (λ_ _ _ _ _ _=>Iy λ_ _ _ _ _=>rfl) λf fd F=>F.d8 d6 (λvs H Q E h=>?_) (λcD A outer s H vs Q E hr h=>?_)
 ·obtain⟨_,_,_,_,_,_,_,_,_,_,_,_,rfl,_⟩:=h;rfl
 ·refine(?_:let G_:Prop:=_;G_)
  intro G_
  obtain⟨bk,gn,pt,bl,wl,S,b,rk,ks,ps,M,xs,rfl,hb,hg,BB,rb,B,hw,rl,K0,Gm,p0,Jw,fi,Z,M0,dv,zr,kk⟩:=h
  dsimp only[G_]
  clear G_
  have nd:=d6.nd
  refine⟨_,(ae (aF (i:=5) nd rfl (Or.inl rfl) (aI oJ (hr.mono (by decide)) rfl aA.pass (aa (pv 3) (aa (pv 2) (aa ag ao (se rfl)) (se rfl)) (se rfl)) (he:=se rfl) (hpl:=na rfl)))
  (ae (aF (i:=6) nd rfl (Or.inl rfl) (aI oJ (hr.mono (by decide)) rfl aA.pass (aa (pv 3) (aa (pv 2) (aa ag ao (se rfl)) (se rfl)) (se rfl)) (he:=se rfl) (hpl:=na rfl)))
  (au (gL PassesOwn.never (qz Dz) (ae (aF (i:=7) nd rfl (Or.inl rfl) (aI pC (hr.mono (by decide)) rfl aA.pass (aa (pv 0) (aa (pv 1) (aa (pv 2) (aa (pv 4) ao (se rfl)) (se rfl)) (se rfl)) (se rfl)) (he:=se rfl) (hpl:=na rfl)))
  (ae (aF (i:=8) nd rfl (Or.inl rfl) (aI iH (hr.mono (by decide)) rfl aA.pass (aa (pv 3) (aa (pv 6) (aa (pv 4) (aa (dR (pv 7) rfl) ao (se rfl)) (se rfl)) (se rfl)) (se rfl)) (he:=se rfl) (hpl:=na rfl)))
  (ae (b8 (aR cK (aY bD (by rfl) T.z_len aaA (aa (pv 8) ao (se rfl)) (he:=se rfl) (hpl:=na rfl)) ag (aX _)) (au (aF (i:=8) nd rfl (Or.inl rfl) (aI iH (hr.mono (by decide)) rfl aA.pass (aa (pv 3) (aa (pv 5) (aa (pv 4) (aa (dR (pv 7) rfl) ao (se rfl)) (se rfl)) (se rfl)) (se rfl)) (he:=se rfl) (hpl:=na rfl))))
   bC)
  (ae (b8 (aR cK (aY bD (by rfl) T.z_len aaA (aa (pv 8) ao (se rfl)) (he:=se rfl) (hpl:=na rfl)) ag (aX _)) (au (aP (pv 7)))
   bC)
  (au (bY PassesOwn.never rfl (bj (K:=K) (pv 8)) (bP (K:=K) (n:=2) rfl (aN (aD (i:=9) nd rfl (Or.inl rfl)) (aN (aD (i:=10) nd rfl (Or.inl rfl)) bN))) (au (dQ (aI dX (hr.mono (by decide)) rfl aA.pass (aa (aG aJ (pv 3) (pv 9) (λ_ _=>rfl)) (aa (pv 10) ao (se rfl)) (se rfl)) (he:=se rfl) (hpl:=na rfl)) (fM (pv 4) (pv 9) set_list))))))))))))),?_⟩
  refine(?_:let cq:TS:=_;let cu:TS:=_;let cv:TS:=_;tSeq cq (tSeq cu cv) _ _ _)
  intro cq cu cv
  have sl:=sizeLine_eq
  have YM:=B.len
  refine(?_:let G_:Prop:=_;G_)
  intro G_
  obtain⟨g0,g1,g2⟩:=B.bot
  dsimp only[G_]
  clear G_
  have M3:(gT b).length=b.length:=by unfold gT;rw[aac,aac]
  have M4:∀{ks:List (Option Int)},dU b ks->(cw b ks).length=b.length:=λ{ks} h=>by unfold cw;rw[abq,h.len];omega
  have s0:az (cE H wl) H:=bV
  have VG:=rb.mono s0
  have YN:∀{ks:List (Option Int)},dU b ks->∀ws∈cw b ks,Dg.xc b.length ws:=λ{ks} h ws Jh=>by
   refine(?_:let G_:Prop:=_;G_)
   intro G_
   obtain⟨j,hj,rfl⟩:=aaY Jh
   dsimp only[G_]
   have IH:j<b.length:=by rw[M4 h] at hj;exact hj
   have:=(B.wk h (p:=(j:Int)) ⟨by omega,by omega⟩).1
   unfold cn at this
   rw[aai,aae,aad hj] at this
   exact this
  change tSeq _ _ _ _ _
  refine aV (λσ' H1=>∃l1,az H H1/\H l1=none/\H1 l1=some (.lst ((gH b 1 ps).map V.int))/\σ'=[some (.ref bk),some (.ref gn),some (.ref pt),some (.ref bl),some (.ref wl),some (.ref l1),none,none,none,none,none]) ?_ (λN hN=>?_)
  case refine_2=>
   simp_all only[xv]
   exact⟨b,VG,ps,s0 _ _ BB,fi,Jw,λl1 H1 s1 n1 h1=>hN _ _ ⟨l1,s1,n1,h1,rfl⟩⟩
  intro _ H1 bK
  refine(?_:let G_:Prop:=_;G_)
  intro G_
  obtain⟨l1,s1,n1,h1,rfl⟩:=bK
  dsimp only[G_]
  clear G_
  change tSeq _ _ _ _ _
  refine aV (λσ' H2=>∃l2,az H1 H2/\H1 l2=none/\H2 l2=some (.lst ((gH b 2 ps).map V.int))/\σ'=[some (.ref bk),some (.ref gn),some (.ref pt),some (.ref bl),some (.ref wl),some (.ref l1),some (.ref l2),none,none,none,none]) ?_ (λN hN=>?_)
  case refine_2=>
   simp_all only[xv]
   exact⟨b,VG.mono s1,ps,s1 _ _ (s0 _ _ BB),fi,Jw,λl2 H2 s2 n2 h2=>hN _ _ ⟨l2,s2,n2,h2,rfl⟩⟩
  intro _ H2 bK
  refine(?_:let G_:Prop:=_;G_)
  intro G_
  obtain⟨l2,s2,n2,h2,rfl⟩:=bK
  dsimp only[G_]
  clear G_
  have Js:=s1.trans s2
  have w1:l1≠wl:=λz=>by rw[z,hw] at n1;cases n1
  have w2:l2≠wl:=λz=>by rw[z,s1 _ _ hw] at n2;cases n2
  have JB:az (cE H wl) (cE H2 wl):=bI Js
  simp_all only[]
  refine Dp (λmm σ HX=>∃(dE:List (Option Int)) (iD:List V) (dF:List (List (Option Int))) (fl:Option (Int->Rat)) (z7 z8 z9 jl:Option V),mm+dF.length=(yv b).length/\uo b ps (λp=>((gT b).getD p.toNat 0:Rat) / (gB b:Rat)) (Dg.val S) dE dF fl/\az (cE H wl) (cE HX wl)/\cE HX wl l1=some (.lst ((gH b 1 ps).map V.int))/\cE HX wl l2=some (.lst ((gH b 2 ps).map V.int))/\HX wl=some (.lst iD)/\bf (cE HX wl) ((cw b dE).map qk) iD/\σ=[some (.ref bk),some (.ref gn),some (.ref pt),some (.ref bl),some (.ref wl),some (.ref l1),some (.ref l2),z7,z8,z9,jl]) (m:=(yv b).length) ⟨ks,xs,[],none,_,_,_,_,rfl,uo.start K0,JB,by rw[bE w1];exact s2 _ _ h1,by rw[bE w2];exact h2,Js _ _ hw,rl.mono JB,rfl⟩ ?_
  intro mm σ HX IX
  refine(?_:let G_:Prop:=_;G_)
  intro G_
  obtain⟨dE,iD,dF,fl,z7,z8,z9,jl,em,hi,sX,JC,B7,Gr,JD,rfl⟩:=IX
  dsimp only[G_]
  clear G_
  refine⟨true,λQQ YO=>by simp_all only[];exact YO,?_⟩
  rw[if_pos rfl]
  have sh:az (cE HX wl) HX:=bV
  have K':=hi.ok
  have YQ:=JD.length
  rw[aac,M4 K'.pk] at YQ
  have YR:=B.pos
  have M5:∀y∈iD,∃a us,y=V.ref a/\cE HX wl a=some (.lst us):=λy hy=>by
   obtain⟨j,ej⟩:=aaD hy
   refine(?_:let G_:Prop:=_;G_)
   intro G_
   obtain⟨d,ed,rr⟩:=JD.get ej
   rw[aaf] at ed
   obtain⟨ws,_,rfl⟩:=Option.map_eq_some_iff.mp ed
   obtain⟨a,us,e,h,_⟩:=aQ.mp rr
   dsimp only[G_]
   exact⟨a,us,e,h⟩
  change tSeq _ _ _ _ _
  refine aV (λσ' H3=>∃x T,az HX H3/\mI aB (cE H3 wl) x T/\Dg.CZ ps (cn (cw b dE)) (gT b) (gB b) S T/\Dg.Sz b.length (M+92*ps.length) T/\σ'=[some (.ref bk),some (.ref gn),some (.ref pt),some (.ref bl),some (.ref wl),some (.ref l1),some (.ref l2),some (.ref x),z8,z9,jl]) ?_ (λN hN=>?_)
  case refine_2=>
   simp_all only[]
   refine⟨bk,gn,pt,wl,S,gT b,gB b,ps,b.length,M,iD,cw b dE,rk,rfl,(hb.mono sX).mono sh,(hg.mono sX).mono sh,sh _ _ (sX _ _ BB),Gr,JD.mono sh,M4 K'.pk,YM,Gm,p0,Jw,fi,YN K'.pk,λp hp=>B.dn K'.pk (fi p hp),Z,M0,M3,g0,g1.mono (by decide),dv,B.top,zr,λx T2 H3 s3 h3 st sz=>hN _ _ ⟨x,T2,s3,?_,st,sz,rfl⟩⟩
   refine(?_:let G_:Prop:=_;G_)
   intro G_
   obtain⟨dx,YS,Hc,JE⟩:=h3
   dsimp only[G_]
   refine⟨dx,YS,by rw[bE (λz=>by rw[z,s3 _ _ Gr] at Hc;cases Hc)];exact Hc,?_⟩
   rw[bE]
   ·exact JE
   ·intro z
    rw[z,s3 _ _ Gr] at JE
    have e:iD=T2.1.map V.int:=by injection JE with h;injection h
    have fQ:0<iD.length:=by omega
    refine(?_:let G_:Prop:=_;G_)
    intro G_
    obtain⟨a,_,ea,_⟩:=M5 iD[0] (aao fQ)
    have:iD[0]?=some iD[0]:=aad fQ
    rw[ea,e,aaf] at this
    obtain⟨_,_,e2⟩:=Option.map_eq_some_iff.mp this
    dsimp only[G_]
    cases e2
  intro _ H3 bK
  refine(?_:let G_:Prop:=_;G_)
  intro G_
  obtain⟨x,T2,s3,Hc,st,sz,rfl⟩:=bK
  obtain⟨dx,mt,VH,YT⟩:=id Hc
  dsimp only[G_]
  clear G_
  have Lk:az (cE H3 wl) H3:=bV
  have JF:=bI (p:=wl) s3
  have MV:∀t∈T2.1,Bt 4000 t:=λt ht=>by
   refine(?_:let G_:Prop:=_;G_)
   intro G_
   obtain⟨j,hj,rfl⟩:=aaY ht
   dsimp only[G_]
   have:=sz.bt j
   rw[aae,aad hj] at this
   exact Bt.mono this (by omega)
  have hv:=FY B K'.pk fi Z.pos dv st
  have pin:∀who,∀p∈gH b who ps,0<=p/\∃to,b[p.toNat]?=some (.cC who to):=λwho p hp=>⟨(fi p (dO.mp hp).1).1,(dO.mp hp).2⟩
  have M6:∀who,(gH b who ps).length<=16:=λwho=>aap (List.length_filter_le _ _) Jw
  have Eg:∀(lp:Addr) (who:Int) (HH:Hp),az H3 HH->cE HX wl lp=some (.lst ((gH b who ps).map V.int))->∀QQ:VK,(∀l bs H',az HH H'->Rep (cE H' wl) (.lst (bs.map bB)) (.ref l)->iA b dE who T2.1 (gH b who ps) bs->QQ (.ref l) H')->AW [.ref bl,.ref lp,.ref wl,.ref mt] HH QQ E0:=λlp who HH JG YU QQ kq=>by
   have M7:=JF.trans (Lk.trans JG)
   refine⟨bl,lp,wl,mt,b,dE,who,T2.1,gH b who ps,iD,rfl,(rb.mono sX).mono M7,M7 _ _ YU,JG _ _ (s3 _ _ Gr),JD.mono M7,(Lk.trans JG) _ _ YT,sz.len,MV,K'.pk,B.ok,pin who,M6 who,λl bs H' s' nl r' W=>kq l bs H' s' ?_ W⟩
   have YV:l≠wl:=λz=>by rw[z,JG _ _ (s3 _ _ Gr)] at nl;cases nl
   have M8:=s' _ _ (JG _ _ (s3 _ _ Gr))
   exact qr r' (λxs hx=>by rw[bE YV];exact hx) (λy vs hy=>by rw[bE (λz=>by rw[z,M8] at hy;cases hy)];exact hy)
  change tSeq _ _ _ _ _
  refine aV (λσ' H4=>∃lb bs,az H3 H4/\Rep (cE H4 wl) (.lst (bs.map bB)) (.ref lb)/\iA b dE 2 T2.1 (gH b 2 ps) bs/\σ'=[some (.ref bk),some (.ref gn),some (.ref pt),some (.ref bl),some (.ref wl),some (.ref l1),some (.ref l2),some (.ref x),some (.ref lb),z9,jl]) ?_ (λN hN=>?_)
  case refine_2=>
   simp_all only[kU]
   exact⟨_,_,_,Lk _ _ VH,T.cA,T.na_Book_tops,_,kK,Eg l2 2 H3 (az.refl _) B7 _ λl bs H' s' r' W=>hN _ _ ⟨l,bs,s',r',W,rfl⟩⟩
  intro _ H4 bK
  refine(?_:let G_:Prop:=_;G_)
  intro G_
  obtain⟨lb,bs,s4,VI,W2,rfl⟩:=bK
  dsimp only[G_]
  clear G_
  change tSeq _ _ _ _ _
  refine aV (λσ' H5=>∃(lb:Addr) (bs:List (Int×Int)) (who:Int),az H3 H5/\Rep (cE H5 wl) (.lst (bs.map bB)) (.ref lb)/\((who=2/\bs≠[]/\iA b dE 2 T2.1 (gH b 2 ps) bs)\/(who=1/\iA b dE 2 T2.1 (gH b 2 ps) []/\iA b dE 1 T2.1 (gH b 1 ps) bs))/\σ'=[some (.ref bk),some (.ref gn),some (.ref pt),some (.ref bl),some (.ref wl),some (.ref l1),some (.ref l2),some (.ref x),some (.ref lb),z9,jl]) ?_ (λN hN=>?_)
  case refine_2=>
   simp_all only[kU]
   refine(?_:let G_:Prop:=_;G_)
   intro G_
   obtain⟨_,ys,ey,JH,Ll⟩:=aQ.mp VI
   dsimp only[G_]
   cases ey
   have ly:=Ll.length
   rw[aac] at ly
   refine⟨ys,bV _ _ JH,?_⟩
   by_cases c:bs=[]
   ·subst c
    rw[if_pos (by rw[<-ly];rfl)]
    exact⟨_,_,_,s4 _ _ (Lk _ _ VH),T.cA,T.na_Book_tops,_,kK,Eg l1 1 H4 s4 JC _ λl YW H' s' r' W1=>hN _ _ ⟨l,YW,1,s4.trans s',r',.inr ⟨rfl,W2,W1⟩,rfl⟩⟩
   ·rw[if_neg (by have:=List.length_pos_iff.mpr c;omega)]
    exact hN _ _ ⟨lb,bs,2,s4,VI,.inl ⟨rfl,c,W2⟩,rfl⟩
  intro _ H5 bK
  refine(?_:let G_:Prop:=_;G_)
  intro G_
  obtain⟨lb,bs,who,s5,M9,cs,rfl⟩:=bK
  obtain⟨_,ys,ey,JH,Ll⟩:=aQ.mp M9
  dsimp only[G_]
  clear G_
  cases ey
  have ly:=Ll.length
  rw[aac] at ly
  have Na:az (cE H wl) (cE H5 wl):=sX.trans (JF.trans (bI s5))
  have VJ:=s5 _ _ (s3 _ _ Gr)
  have JI:=JD.mono (JF.trans (bI (p:=wl) s5))
  change tSeq _ _ _ _ _
  refine aV (λσ' H6=>H5=H6/\bs≠[]/\σ'=[some (.ref bk),some (.ref gn),some (.ref pt),some (.ref bl),some (.ref wl),some (.ref l1),some (.ref l2),some (.ref x),some (.ref lb),z9,jl]) ?_ (λN hN=>?_)
  case refine_2=>
   simp_all only[]
   refine⟨ys,bV _ _ JH,?_⟩
   by_cases c:bs=[]
   ·subst c
    rw[if_pos (by rw[<-ly];rfl)]
    rcases cs with ⟨_,ne,_⟩ | ⟨_,V2,V1⟩
    ·exact absurd rfl ne
    refine kk x T2 dE iD H5 Na VJ JI K' st sz (Hc.mono (bI s5)) λp hp YX to eb t ht=>?_
    rcases(B.ok _ (aag eb)).1 with e1 | e1
    ·subst e1
     exact V1.cB _ (dO.mpr ⟨hp,to,by rw[aai];exact eb⟩) (by simp) to (by rw[aai];exact eb) t ht
    ·subst e1
     exact V2.cB _ (dO.mpr ⟨hp,to,by rw[aai];exact eb⟩) (by simp) to (by rw[aai];exact eb) t ht
   ·rw[if_neg (by have:=List.length_pos_iff.mpr c;omega)]
    exact hN _ _ ⟨rfl,c,rfl⟩
  intro _ _ bK
  refine(?_:let G_:Prop:=_;G_)
  intro G_
  obtain⟨rfl,VL,rfl⟩:=bK
  have G8:∀who,(gH b who ps).Nodup:=λwho=>Gm.filter _
  have Wa:iA b dE who T2.1 (gH b who ps) bs:=by
   rcases cs with ⟨rfl,_,V⟩ | ⟨rfl,_,V⟩
   ·exact V
   ·exact V
  have C0:∃G6,uo b ps (λp=>((gT b).getD p.toNat 0:Rat) / (gB b:Rat)) (Dg.val S) (d9 bs dE bs.length) (dE::dF) G6:=by
   rcases cs with ⟨_,_,V⟩ | ⟨_,V2,V1⟩
   ·exact⟨_,uq B fi sz.pos hi hv (λp hp=>(dO.mp hp).1) (G8 2) V VL⟩
   ·exact⟨_,vQ B fi sz.pos hi hv (λp hp=>(dO.mp hp).1) (G8 1) V1 VL V2 λp hp to eb=>dO.mpr ⟨hp,to,by rw[aai];exact eb⟩⟩
  obtain⟨G6,C0⟩:=C0
  have left:=hi.left
  have YY:=rb.mono Na
  obtain⟨_,xb,YZ,Nb,Nc⟩:=aQ.mp YY
  dsimp only[G_]
  clear G_
  cases YZ
  simp_all only[]
  refine⟨⟨_,bo.of (bV _ _ JH)⟩,bJ (src_list (K:=K) (a:=lb) (xs:=ys) (Ok:=λH'=>az (cE H5 wl) (cE H' wl)) (λH' s=>bo.of (bV _ _ (s _ _ JH)))) (λj σ H6=>az (cE H5 wl) (cE H6 wl)/\∃(Dr:List V) (z9 jl:Option V),H6 wl=some (.lst Dr)/\bf (cE H6 wl) ((cw b (d9 bs dE j)).map qk) Dr/\σ=[some (.ref bk),some (.ref gn),some (.ref pt),some (.ref bl),some (.ref wl),some (.ref l1),some (.ref l2),some (.ref x),some (.ref lb),z9,jl]) ⟨az.refl _,iD,_,_,VJ,JI,rfl⟩ (λ_ _ _ _ h=>h.1) ?_ ?_⟩
  ·intro j y σ H6 H7 hj df dk
   refine(?_:let G_:Prop:=_;G_)
   intro G_
   obtain⟨s6,Dr,z9,jl,Nd,He,rfl⟩:=df
   obtain⟨rfl,ey⟩:=dk
   have IH:j<bs.length:=by omega
   have ej:bs[j]?=some bs[j]:=aad IH
   obtain⟨t,et,ht⟩:=cP Ll ej
   dsimp only[G_]
   clear G_
   rw[ey] at et
   cases et
   have gj:bs.getD j (0,0)=bs[j]:=by rw[aae,ej];rfl
   have pj:d9 bs dE (j+1)=(d9 bs dE j).set (bs[j]).1.toNat (some (bs[j]).2):=by rw[<-gj];rfl
   refine(?_:let G_:Prop:=_;G_)
   intro G_
   obtain⟨mq,to,eb,w0,w1,_,_⟩:=Wa.mem _ (aao IH)
   dsimp only[G_]
   clear G_
   have Y0:=(fi _ (dO.mp mq).1).1
   have VM:(d9 bs dE j).length=b.length:=by rw[jH];exact K'.pk.len
   have Y1:=He.length
   have Y2:(cw b (d9 bs dE j)).length=b.length:=by unfold cw;rw[abq,VM];omega
   rw[aac,Y2] at Y1
   refine⟨t,_,rfl,eL.of (bV _ _ (s6 _ _ ht)),rfl,?_⟩
   generalize bs[j]=bw at *
   obtain⟨p,Gs⟩:=aau Y0
   rw[Gs,aai] at eb pj
   rw[Gs] at ht ⊢
   have hp:=(List.getElem?_eq_some_iff.mp eb).1
   refine(?_:let G_:Prop:=_;G_)
   intro G_
   obtain⟨v,ev,rv⟩:=dC Nc eb
   dsimp only[G_]
   have Y3:fc xb (p:Int)=some v:=bA ev
   have VN:az (cE H7 wl) H7:=bV
   simp_all only[VN _ _ (s6 _ _ Nb),Y3]
   refine⟨v,.cC who to,some bw.2,rfl,(rv.mono s6).mono VN,⟨w0,w1⟩,λl' H8 s8 r8=>?_⟩
   have Nf:=s8 _ _ Nd
   have nl:l'≠wl:=λz=>by
    subst z
    refine(?_:let G_:Prop:=_;G_)
    intro G_
    obtain⟨_,us,e,VO,Y4⟩:=aQ.mp r8
    dsimp only[G_]
    cases e
    rw[Nf] at VO
    have Y5:Dr=us:=by injection VO with h;injection h
    refine(?_:let G_:Prop:=_;G_)
    intro G_
    obtain⟨t1,Y6,VP⟩:=cP (i:=0) Y4 rfl
    dsimp only[G_]
    have h0:0<Dr.length:=by omega
    refine(?_:let G_:Prop:=_;G_)
    intro G_
    obtain⟨d,ed,rr⟩:=He.get (aad h0)
    rw[aaf] at ed
    obtain⟨ws,_,rfl⟩:=Option.map_eq_some_iff.mp ed
    obtain⟨a',us',e',h',_⟩:=aQ.mp rr
    dsimp only[G_]
    have:Dr[0]?=some (V.ref a'):=by rw[aad h0,e']
    rw[Y5,Y6] at this
    cases this
    rw[s8 _ _ (bV _ _ h')] at VP
    cases VP
   have Y7:Rep (cE H8 wl) (qk (uH (.cC who to) (some bw.2))) (.ref l'):=qr r8 (λxs hx=>by rw[bE nl];exact hx) (λy vs hy=>by rw[bE (λz=>by rw[z,Nf] at hy;cases hy)];exact hy)
   refine⟨Dr,Nf,p,il (by omega),?_,_,ar,?_,_,rfl⟩
   ·rw[uC]
    exact s6.trans (bI s8)
   ·rw[uC,pj,Dq eb VM,List.map_set]
    exact uB (He.mono (bI s8)) Y7
  ·intro σ H6 bK
   refine(?_:let G_:Prop:=_;G_)
   intro G_
   obtain⟨s6,Dr,z9,jl,Nd,He,rfl⟩:=bK
   dsimp only[G_]
   rw[<-ly] at He
   exact⟨mm - 1,by omega,_,Dr,dE::dF,by rw[aaq];omega,G6,C0,Na.trans s6,s6 _ _ (bI s5 _ _ (JF _ _ JC)),s6 _ _ (bI s5 _ _ (JF _ _ B7)),Nd,He,_,_,_,_,rfl⟩
theorem JJ {a b:V}:List.lookup (Str.ofString "as_shares") [(("tops":Str),a),(("bottom":Str),b)]=none:=rfl
theorem Bb (x:Int×Int):Ke (bB x):=⟨rfl,by show(toP (bB x)).depth<=8;simp [bB,toP,toPL,PyData.depth,PyData.depthAll]⟩
theorem jJ:aO ["place","worth","worths"] ["place","worth","worths"] (af (top 44)):=⟨rfl,rfl,rfl,by decide +kernel,rfl,by decide +kernel,by decide +kernel⟩
theorem JK (T:Txt K mg aB tc):bU P w K mg base (bL P w) 1 "best_pick" ["place","worth","worths"] IU:=by
 refine T.tP.dZ (λ_ _ _ _ _ _=>tU λ_ _ _=>rfl) λf fd F=>F.d8 jJ (λvs H Q E h=>?_) (λcD A outer s H vs Q E hr h=>?_)
 ·obtain⟨_,_,_,_,_,_,_,rfl,_⟩:=h;rfl
 ·refine(?_:let G_:Prop:=_;G_)
  intro G_
  obtain⟨v,x,wl,q,n,p,ss,rfl,rv,pq,ls,hp,hx,mS,mem,kk⟩:=h
  dsimp only[G_]
  clear G_
  have nd:=jJ.nd
  refine⟨_,(ae (b8 (aR sJ (aG aL (pv 0) ag (λ_ _=>rfl)) c4 (aX _)) (au (aP eW))
   bC)
  (au (aP (dY aaL PySem.F.slot_list_index PySem.F.type_list_index (yk hr.units) (bX rfl (N:=["place","worth","worths"]) (so:=af (top 44)) (N':=["to","worths"]) (k:=1) (fr:=[2]) rfl rfl ⟨rfl,by decide +kernel,by decide +kernel,by decide +kernel,rfl,by decide +kernel,by decide +kernel⟩ (bj (K:=K) (aG aL (pv 0) ag (λ_ _=>rfl))) (λ_ _ _ _ _=>(aD (i:=0) (show(["to","worths"]:List Str).Nodup by decide +kernel) rfl (Or.inl rfl))) (λ_ _ _ _ _=>bO)
   (λ_ _ _ _ _=>(aG aJ (pv 1) (pv 0) (λ_ _=>rfl)))) (aa (pv 1) ao (se rfl)))))),?_⟩
  have sl:=sizeLine_eq
  cases q with
  | fin g=>
   refine(?_:let G_:Prop:=_;G_)
   intro G_
   obtain⟨t,r,rfl,ht,_⟩:=c6.mp rv
   dsimp only[G_]
   simp_all only[ht]
   rw[if_pos (by decide +kernel)]
   exact kk _ (az.refl _)
  | dq g ws=>
   refine(?_:let G_:Prop:=_;G_)
   intro G_
   obtain⟨t,r,l',zs,rfl,ht,_⟩:=cW.mp rv
   dsimp only[G_]
   simp_all only[ht]
   rw[if_pos (by decide +kernel)]
   exact kk _ (az.refl _)
  | cC who to=>
   refine(?_:let G_:Prop:=_;G_)
   intro G_
   obtain⟨t,l',rfl,ht,oS⟩:=cF.mp rv
   dsimp only[G_]
   clear G_
   simp_all only[ht]
   rw[if_neg (by simp)]
   refine(?_:let G_:Prop:=_;G_)
   intro G_
   obtain⟨_,us,e,zc,ru⟩:=aQ.mp mS
   dsimp only[G_]
   clear G_
   cases e
   have lu:=ru.length
   rw[aac] at lu
   have l3:=pq.2.2.1
   refine⟨⟨_,bo.of oS⟩,?_⟩
   refine comp_map (src_list (K:=K) (a:=l') (xs:=to.map V.int) (Ok:=az H) (λH' s'=>bo.of (s' _ _ oS))) (λ_ _ _ _ h=>by rw[h.1];exact az.refl _) (by rw[aac];omega) (λi y H4=>∀g,to[i]?=some g->Rep H4 (bB (Wq.fh ss g)) y) (λi y H4 H5 s5 h g e=>(h g e).mono s5) ?_ ?_
   ·rintro i v0 w0 H4 H5 Q2 hi s4 ⟨rfl,ex⟩ kq
    rw[aaf] at ex
    refine(?_:let G_:Prop:=_;G_)
    intro G_
    obtain⟨g,eg,rfl⟩:=Option.map_eq_some_iff.mp ex
    obtain⟨g0,g1⟩:=pq.2.2.2 g (aag eg)
    have JL:ss[g.toNat]?=some (Wq.fh ss g):=by
     unfold Wq.fh
     rw[aae,aad (show g.toNat<ss.length by omega)]
     rfl
    obtain⟨pr,Y8,Y9⟩:=cP ru JL
    dsimp only[G_]
    have Gn:fc us g=some (.ref pr):=by have:=bA Y8;rwa [aby g0] at this
    simp_all only[s4 _ _ zc,Gn]
    refine kq _ _ (az.refl _) λg' e'=>?_
    rw[eg] at e'
    cases e'
    exact bQ.mpr ⟨pr,rfl,s4 _ _ Y9⟩
   ·intro ys H5 s5 ly hy D n1 n2
    rw[aac] at ly
    have sD:=ax (o:=.lst ys) n2
    have hD:upd H5 D (.lst ys) D=some (.lst ys):=ar
    generalize upd H5 D (.lst ys)=H6 at *
    have rD:bf H6 ((to.map (Wq.fh ss)).map bB) ys:=dh (by rw[aac];exact ly) λi y ey x' BM=>by
     rw[aaf] at BM
     refine(?_:let G_:Prop:=_;G_)
     intro G_
     obtain⟨g,eg,rfl⟩:=Option.map_eq_some_iff.mp BM
     dsimp only[G_]
     exact(hy i y ey g eg).mono sD
    refine(?_:let G_:Prop:=_;G_)
    intro G_
    obtain⟨tm,mt,et⟩:=mem who to rfl
    dsimp only[G_]
    have mm:Wq.fh ss (p:Int)∈to.map (Wq.fh ss):=List.mem_map.mpr ⟨tm,mt,et.symm⟩
    have lt:=aaR mm
    have eg:=aaX lt
    have inj:∀u v:Wq.Sh,toP (bB u)=toP (bB v)->u=v:=λu v h=>by
     simp [bB,toP,toPL] at h
     exact Prod.ext h.1 h.2
    refine⟨.inl ⟨rfl,_,bo.of hD⟩,D,ys,(to.map (Wq.fh ss)).map bB,.ref x,bB (Wq.fh ss (p:Int)),(to.map (Wq.fh ss)).idxOf (Wq.fh ss (p:Int)),rfl,rfl,hD,rD,λe he=>?_,bQ.mpr ⟨x,rfl,(s5.trans sD) _ _ hx⟩,Bb _,?_,λj hj z=>?_,?_,kk _ (s5.trans sD)⟩
    ·refine(?_:let G_:Prop:=_;G_)
     intro G_
     obtain⟨u,_,rfl⟩:=List.mem_map.mp he
     dsimp only[G_]
     exact Bb u
    ·rw[aaf,aaf,aad lt,eg]
     rfl
    ·have:=List.not_of_lt_findIdx (xs:=to.map (Wq.fh ss)) (p:=λy=>y==Wq.fh ss (p:Int)) hj
     rw[aaf,aaf,aad (Nat.lt_trans hj lt)] at z
     have:=inj _ _ (aax z)
     simp_all
    ·rw[aac] at lt
     omega
theorem Bc {C:Addr} {H:Hp} {x wl:Addr} {S:Dg.Bk} {xs:List V} (h:mI C H x S) (hw:H wl=some (.lst xs)) (xr:∀y∈xs,∃a,y=V.ref a) (l0:0<xs.length):mI C (cE H wl) x S:=by
 obtain⟨dx,m,hx,hm⟩:=h
 refine⟨dx,m,by rw[bE (λz=>by rw[z,hw] at hx;cases hx)];exact hx,?_⟩
 rw[bE]
 ·exact hm
 ·intro z
  rw[z,hw] at hm
  have e:xs=S.1.map V.int:=by injection hm with h;injection h
  obtain⟨a,ea⟩:=xr xs[0] (aao l0)
  have:xs[0]?=some xs[0]:=aad l0
  rw[ea,e,aaf] at this
  obtain⟨_,_,e2⟩:=Option.map_eq_some_iff.mp this
  cases e2
theorem xC {H:Hp} {fK:List Dg.Wy} {xs:List V} (r:bf H (fK.map qk) xs):∀y∈xs,∃a,y=V.ref a:=λy hy=>by
 obtain⟨j,ej⟩:=aaD hy
 obtain⟨C6,_,rr⟩:=Aa r ej
 obtain⟨a,_,e,_⟩:=aQ.mp rr
 exact⟨a,e⟩
theorem Be {H:Hp} {b:List Pl} {xs:List V} (r:bf H ((cw b (List.replicate b.length (some (0:Int)))).map qk) xs) (h:0<b.length):0<xs.length:=by
 have:=r.length
 unfold cw at this
 rw[aac,abq,abe] at this
 omega
theorem xE:aO ["board","found","ways","gains","book","part","worths"] ["board"] (af (top 45)):=⟨rfl,rfl,rfl,by decide +kernel,rfl,by decide +kernel,by decide +kernel⟩
theorem JM (T:Txt K mg aB tc) (LB:o6 base mg tc tp):bU P w K mg base (bL P w) 7 "best" ["board"] (AX tp):=by
 have lO:bU P w K mg base (bL P w) 6 "checked_parts" ["board"] (vL tp):=Gi T LB
 have iB:bU P w K mg base (bL P w) 2 "all_weighted_ways" ["board","picks"] IK:=Jt T
 have vY:bU P w K mg base (bL P w) 4 "gains_of" ["board"] (AM aB):=Gk T
 have oK:bU P w K mg base (bL P w) 3 "blank_worths" ["gains"] (FK aB):=Ju T
 have i7:bU P w K mg base (bL P w) 5 "with_best_worths" ["book","gains","part","board","ways"] (D4 aB):=JA T
 have km:nP P w K mg base (bL P w) 3 aB "as_shares" ["self"] (IG aB):=Jr T
 have uD:bU P w K mg base (bL P w) 1 "best_pick" ["place","worth","worths"] IU:=JK T
 refine T.Fo.dZ (λ_ _ _ _ _ _=>iX λ_=>rfl) λf fd F=>F.d8 xE (λvs H Q E h=>?_) (λcD A outer s H vs Q E hr h=>?_)
 ·obtain⟨_,_,_,rfl,_⟩:=h;rfl
 ·refine(?_:let G_:Prop:=_;G_)
  intro G_
  obtain⟨a,b,rk,rfl,rb,B,nO,kk⟩:=h
  dsimp only[G_]
  clear G_
  have nd:=xE.nd
  refine⟨_,(ae (aF (i:=1) nd rfl (Or.inl rfl) (aI lO (hr.mono (by decide)) rfl aA.pass (aa (pv 0) ao (se rfl)) (he:=se rfl) (hpl:=na rfl)))
  (ae (aF (i:=2) nd rfl (Or.inl rfl) (aI iB (hr.mono (by decide)) rfl aA.pass (aa (pv 0) (aa (aE u5 (cM (aa ag ao (se rfl))) (aY bD (by rfl) T.z_len aaA (aa (pv 0) ao (se rfl)) (he:=se rfl) (hpl:=na rfl))) ao (se rfl)) (se rfl)) (he:=se rfl) (hpl:=na rfl)))
  (ae (aF (i:=3) nd rfl (Or.inl rfl) (aI vY (hr.mono (by decide)) rfl aA.pass (aa (pv 0) ao (se rfl)) (he:=se rfl) (hpl:=na rfl)))
  (ae (aF (i:=4) nd rfl (Or.inl rfl) (aI oK (hr.mono (by decide)) rfl aA.pass (aa (pv 3) ao (se rfl)) (he:=se rfl) (hpl:=na rfl)))
  (ae (bY PassesOwn.never rfl (bj (K:=K) (pv 1)) (aD (i:=5) nd rfl (Or.inl rfl)) (au (aF (i:=4) nd rfl (Or.inl rfl) (aI i7 (hr.mono (by decide)) rfl aA.pass (aa (pv 4) (aa (pv 3) (aa (pv 5) (aa (pv 0) (aa (pv 2) ao (se rfl)) (se rfl)) (se rfl)) (se rfl)) (se rfl)) (he:=se rfl) (hpl:=na rfl)))))
  (ae (aF (i:=6) nd rfl (Or.inr rfl) (Fj km T.cA (pv 4) (hr.mono (by decide)) aA.pass))
  (au (aP (bF (aa (pv 6) (aa (bX rfl (N:=["board","found","ways","gains","book","part","worths"]) (so:=af (top 45)) (N':=["place","worth","worths"]) (k:=2) (fr:=[6]) rfl rfl ⟨rfl,by decide +kernel,by decide +kernel,by decide +kernel,rfl,by decide +kernel,by decide +kernel⟩ (jx (K:=K) rfl T.z_zip (aa (pv 0) (aa (pv 6) ao (se rfl)) (se rfl))) (λ_ _ _ _ _=>(bP (K:=K) (n:=2) rfl (aN (aD (i:=0) (show(["place","worth","worths"]:List Str).Nodup by decide +kernel) rfl (Or.inl rfl)) (aN (aD (i:=1) (show(["place","worth","worths"]:List Str).Nodup by decide +kernel) rfl (Or.inl rfl)) bN)))) (λ_ _ _ _ _=>bO)
   (λ_ _ _ _ _=>(aI uD (hr.mono (by decide)) rfl aA.pass (aa (pv 0) (aa (pv 1) (aa (pv 2) ao (se rfl)) (se rfl)) (se rfl)) (he:=se rfl) (hpl:=na rfl)))) ao (se rfl)) (se rfl))))))))))),?_⟩
  refine(?_:let cq:TS:=_;let cu:TS:=_;let cv:TS:=_;let dj:TS:=_;let iE:TS:=_;let Ba:TS:=_;let Ed:TS:=_;tSeq cq (tSeq cu (tSeq cv (tSeq dj (tSeq iE (tSeq Ba Ed))))) _ _ _)
  intro cq cu cv dj iE Ba Ed
  have sl:=sizeLine_eq
  have bl:=B.len
  refine(?_:let G_:Prop:=_;G_)
  intro G_
  obtain⟨g0,g1,g2⟩:=B.bot
  have M3:(gT b).length=b.length:=by unfold gT;rw[aac,aac]
  obtain⟨_,xb,e,ha,Ha⟩:=aQ.mp rb
  dsimp only[G_]
  clear G_
  cases e
  have lx:=Ha.length
  rw[aac] at lx
  change tSeq _ _ _ _ _
  refine aV (λσ' H1=>∃l ps as,Pr.Told b ps/\az H H1/\H1 l=some (.lst (List.map V.ref as))/\Al (λp v=>∃x,v=.ref x/\H1 x=some (.lst ((Pr.cZ b p).map V.int))) ps (as.map V.ref)/\σ'=[some (.ref a),some (.ref l),none,none,none,none,none]) ?_ (λN hN=>?_)
  case refine_2=>
   simp_all only[vL]
   exact⟨b,rb,rk,B,nO,λl ps as H1 td s1 nl hl al=>hN _ _ ⟨l,ps,as,td,s1,hl,al,rfl⟩⟩
  intro _ H1 bK
  refine(?_:let G_:Prop:=_;G_)
  intro G_
  obtain⟨l,ps,as,td,s1,hl,al,rfl⟩:=bK
  dsimp only[G_]
  clear G_
  have VQ:∀(i:Nat) q k,b[i]?=some q->(List.replicate b.length (some (0:Int)))[i]?=some k->G4 q k:=λi q k e ek=>by
   rw[List.eq_of_mem_replicate (aag ek)]
   have:=B.ok q (aag e)
   cases q with
   | fin g=>trivial
   | dq g ws=>trivial
   | cC who to=>exact⟨aaH _,by have:=this.2.1;omega⟩
  change tSeq _ _ _ _ _
  refine aV (λσ' H2=>∃wl xs,az H1 H2/\H1 wl=none/\H2 wl=some (.lst xs)/\bf (cE H2 wl) ((cw b (List.replicate b.length (some (0:Int)))).map qk) xs/\σ'=[some (.ref a),some (.ref l),some (.ref wl),none,none,none,none]) ?_ (λN hN=>?_)
  case refine_2=>
   simp_all only[B8]
   refine⟨by decide,λz nz=>?_⟩
   have s3:=ax (o:=.lst [V.int 0]) nz
   have hz:upd H1 z (.lst [V.int 0]) z=some (.lst [V.int 0]):=ar
   generalize upd H1 z (.lst [V.int 0])=H3 at *
   refine⟨_,(s1.trans s3) _ _ ha,_,hz,by omega,by omega,by rw[aai];show 1*xb.length<=_;omega,λD nD=>?_⟩
   rw[aai,List.flatten_replicate_singleton,<-lx] at *
   have s4:=s3.trans (ax (o:=.lst (List.replicate b.length (V.int 0))) nD)
   have hD:upd H3 D (.lst (List.replicate b.length (V.int 0))) D=some (.lst ((List.replicate b.length (some (0:Int))).map gE)):=by rw[ar,List.map_replicate];rfl
   generalize upd H3 D (.lst (List.replicate b.length (V.int 0)))=H4 at *
   exact⟨a,D,b,_,rfl,rb.mono (s1.trans s4),by omega,hD,⟨abe,VQ⟩,λwl xs H5 s5 nw hw mS=>hN _ _ ⟨wl,xs,s4.trans s5,none_of s4 nw,hw,mS,rfl⟩⟩
  intro _ H2 bK
  refine(?_:let G_:Prop:=_;G_)
  intro G_
  obtain⟨wl,xs,s2,VR,zc,JN,rfl⟩:=bK
  dsimp only[G_]
  clear G_
  have Za:az H1 (cE H2 wl):=eC s2 VR
  change tSeq _ _ _ _ _
  refine aV (λσ' H3=>∃gn,az H2 H3/\mI aB (cE H3 wl) gn (gT b,gB b)/\σ'=[some (.ref a),some (.ref l),some (.ref wl),some (.ref gn),none,none,none]) ?_ (λN hN=>?_)
  case refine_2=>
   simp_all only[AM]
   exact⟨b,(rb.mono (s1.trans Za)).mono bV,rk,B,λgn H3 s3 hg=>hN _ _ ⟨gn,s3,Bc hg (s3 _ _ zc) (xC JN) (Be JN B.pos),rfl⟩⟩
  intro _ H3 bK
  refine(?_:let G_:Prop:=_;G_)
  intro G_
  obtain⟨gn,s3,hg,rfl⟩:=bK
  dsimp only[G_]
  clear G_
  change tSeq _ _ _ _ _
  refine aV (λσ' H4=>∃bk,az H3 H4/\mI aB (cE H4 wl) bk (List.replicate b.length 0,gB b)/\σ'=[some (.ref a),some (.ref l),some (.ref wl),some (.ref gn),some (.ref bk),none,none]) ?_ (λN hN=>?_)
  case refine_2=>
   simp_all only[FK]
   refine⟨_,hg.mono bV,by show(gT b).length<=60;omega,λbk H4 s4 hb=>hN _ _ ⟨bk,s4,?_,rfl⟩⟩
   have:mI aB H4 bk (List.replicate b.length 0,gB b):=by rw[<-M3];exact hb
   exact Bc this (s4 _ _ (s3 _ _ zc)) (xC JN) (Be JN B.pos)
  intro _ H4 bK
  refine(?_:let G_:Prop:=_;G_)
  intro G_
  obtain⟨bk,s4,hb,rfl⟩:=bK
  dsimp only[G_]
  clear G_
  have lN:=s3.trans s4
  have la:=al.length
  rw[aac] at la
  have K0:vN b (List.replicate b.length (some (0:Int))):=⟨⟨abe,VQ⟩,λi q k e ek _=>List.eq_of_mem_replicate (aag ek)⟩
  have Ng:az H1 (cE H4 wl):=eC (s2.trans lN) VR
  change tSeq _ _ _ _ _
  refine aV (λσ' H5=>az H1 H5/\∃(bk:Addr) (S:Dg.Bk) (z:Option V),mI aB H5 bk S/\ur b ps ps.length S/\σ'=[some (.ref a),some (.ref l),some (.ref wl),some (.ref gn),some (.ref bk),z,none]) ?_ (λN hN=>?_)
  case refine_2=>
   simp_all only[]
   refine⟨⟨_,bo.of (lN _ _ (s2 _ _ hl))⟩,bJ (src_list (K:=K) (a:=l) (xs:=as.map V.ref) (Ok:=λH'=>az H1 (cE H' wl)) (λH' s=>bo.of (bV _ _ (s _ _ hl)))) (λi σ H5=>az H1 (cE H5 wl)/\∃(bk:Addr) (S:Dg.Bk) (ks:List (Option Int)) (xs:List V) (z:Option V),mI aB (cE H5 wl) gn (gT b,gB b)/\mI aB (cE H5 wl) bk S/\H5 wl=some (.lst xs)/\bf (cE H5 wl) ((cw b ks).map qk) xs/\vN b ks/\ur b ps i S/\σ=[some (.ref a),some (.ref l),some (.ref wl),some (.ref gn),some (.ref bk),z,none]) ⟨Ng,bk,_,_,xs,_,hg.mono (bI s4),hb,lN _ _ zc,JN.mono (bI lN),K0,ur.start B,rfl⟩ (λ_ _ _ _ h=>h.1) ?_ ?_⟩
   ·intro i y σ H5 H6 hi df dk
    refine(?_:let G_:Prop:=_;G_)
    intro G_
    obtain⟨s5,bk,S,ks,xs,z,Nh,Hf,JO,JI,K5,I,rfl⟩:=df
    obtain⟨rfl,ex⟩:=dk
    rw[aac] at hi
    obtain⟨p,ep,x,rfl,hx⟩:=al.get ex
    dsimp only[G_]
    have ip:=td.IA (aag ep)
    have fi:∀q∈Pr.cZ b p,Pr.In b q:=λq hq=>Pr.eF B.lG.good ip hq
    have lp:0< (Pr.cZ b p).length:=List.length_pos_iff.mpr (Pr.iY B.lG.good ip)
    have o1:=AL B td (i:=i+1) (by omega)
    rw[Pr.oj ep] at o1
    simp_all only[]
    refine⟨bk,gn,x,a,wl,S,b,rk,ks,Pr.cZ b p,330+92*Pr.off b ps i,xs,rfl,Hf,Nh,s5 _ _ hx,rb.mono (s1.trans s5),B,JO,JI,K5,(Pr.j6 B.lG.good ip).imp (λh z=>by omega),lp,by omega,fi,I.sz,by omega,I.dv,λq hq=>I.zr q (fi q hq) (by rw[vK B td ep hq];exact aah _),λx2 T2 Zc Zd H7 s7 h7 r7 K7 st sz Ze Zf=>?_⟩
    exact⟨s5.trans s7,Nh.mono s7,x2,T2,Ze,Zc,Zd,h7,r7,K7,I.step B td K7.pk ep st sz Zf,rfl,_,rfl⟩
   ·intro σ H5 bK
    refine(?_:let G_:Prop:=_;G_)
    intro G_
    obtain⟨s5,bk,S,ks,xs,z,Nh,Hf,JO,JI,K5,I,rfl⟩:=bK
    dsimp only[G_]
    rw[aac,la] at I
    exact hN _ _ ⟨s5.trans bV,bk,S,z,Hf.mono bV,I,rfl⟩
  intro _ H5 bK
  refine(?_:let G_:Prop:=_;G_)
  intro G_
  obtain⟨s5,bk,S,z,Hf,I,rfl⟩:=bK
  dsimp only[G_]
  clear G_
  have W0:=I.sz.pos
  have o1:=AL B td (i:=ps.length) (aah _)
  have sz:=I.sz.up (M':=330+92*b.length) (by omega)
  have Zg:=sz.len
  have lv:∀q:Int,0<=q->q< (b.length:Int)->Dg.vl (Wq.fh (gI S) q)=Dg.val S q:=λq q0 q1=>xt W0 q (by omega)
  have bq:∀p:Nat,p<b.length->C4 b p (Dg.val S):=λp hp=>I.eq p hp (IJ B td ⟨by omega,by omega⟩)
  change tSeq _ _ _ _ _
  refine aV (λσ' H6=>∃l6,az H5 H6/\H5 l6=none/\Rep H6 (.lst ((gI S).map bB)) (.ref l6)/\σ'=[some (.ref a),some (.ref l),some (.ref wl),some (.ref gn),some (.ref bk),z,some (.ref l6)]) ?_ (λN hN=>?_)
  case refine_2=>
   simp_all only[pJ]
   refine(?_:let G_:Prop:=_;G_)
   intro G_
   obtain⟨dx,m,hx,hm⟩:=id Hf
   dsimp only[G_]
   exact⟨_,_,hx,JJ,bk,S,rfl,Hf,W0,sz.bb.mono (by omega),by omega,λl6 H6 s6 n6 r6=>hN _ _ ⟨l6,s6,n6,r6,rfl⟩⟩
  intro _ H6 bK
  refine(?_:let G_:Prop:=_;G_)
  intro G_
  obtain⟨l6,s6,n6,r6,rfl⟩:=bK
  have Zh:(gI S).length=b.length:=by unfold gI;rw[aac];exact Zg
  have Lj:=xx sz
  obtain⟨_,us,e,Dd,ru⟩:=aQ.mp r6
  dsimp only[G_]
  clear G_
  cases e
  have lu:=ru.length
  rw[aac] at lu
  have JP:=s1.trans (s5.trans s6)
  simp_all only[]
  refine⟨⟨_,bo.of (JP _ _ ha)⟩,⟨_,bo.of Dd⟩,?_⟩
  have JL:∀{i:Nat},i<b.length->(gI S)[i]?=some (Wq.fh (gI S) (i:Int)):=λ{i} hi=>by
   unfold Wq.fh
   rw[aai,aae,aad (by omega)]
   rfl
  refine fm (K:=K) (jw (λH' s'=>bo.of (s' _ _ (JP _ _ ha))) (λH' s'=>bo.of (s' _ _ Dd))) (λi u v _=>∃q x,b[i]?=some q/\Rep H (kY q) u/\v=.ref x/\H6 x=some (.tup (Pr (Wq.fh (gI S) (i:Int)).1 (Wq.fh (gI S) (i:Int)).2))) ?_ (by omega) (λi y H'=>∀q,b[i]?=some q->y=gE (IT (gI S) i q)) (λ_ _ _ _ _ h=>h) ?_ ?_
  ·intro i v H7 H8 hi s7 df
   refine(?_:let G_:Prop:=_;G_)
   intro G_
   obtain⟨t,x,y,nt,rfl,ex,ey,rfl⟩:=df
   obtain⟨q,eq,rq⟩:=dB Ha ex
   have si:=(List.getElem?_eq_some_iff.mp eq).1
   obtain⟨px,VS,Zi⟩:=cP ru (JL si)
   dsimp only[G_]
   rw[ey] at VS
   cases VS
   exact⟨ax nt,t,_,_,rfl,eL.of ar,q,px,eq,rq,rfl,Zi⟩
  ·intro i u v H7 Q2 hi s7 dk kq
   refine(?_:let G_:Prop:=_;G_)
   intro G_
   obtain⟨q,x,eq,rq,rfl,hx⟩:=dk
   dsimp only[G_]
   have si:=(List.getElem?_eq_some_iff.mp eq).1
   simp_all only[]
   refine⟨u,x,l6,q,b.length,i,gI S,rfl,rq.mono (JP.trans s7),B.ok _ (aag eq),Zh,si,s7 _ _ hx,r6.mono s7,λwho to e=>?_,λH8 s8=>kq _ _ s8 λq' e'=>?_⟩
   ·subst e
    refine(?_:let G_:Prop:=_;G_)
    intro G_
    obtain⟨⟨t,mt,et⟩,_⟩:=bq i si _ eq
    dsimp only[G_]
    have rg:=B.lG.good.oV _ (aag eq) t mt
    refine⟨t,mt,Dg.vE (Lj _ (aag (JL si))).1 (Lj _ ?_).1 (by rw[lv _ (by omega) (by omega),lv t rg.1 rg.2];exact et)⟩
    have:=JL (i:=t.toNat) (by omega)
    rw[aby rg.1] at this
    exact aag this
   ·rw[eq] at e'
    cases e'
    rfl
  ·intro ys H7 s7 ly hy D n1 n2
   have Zj:ys=((List.range b.length).map λi=>IT (gI S) i (b.getD i (.fin (0,1)))).map gE:=by
    apply aa8
    intro i
    by_cases hi:i<b.length
    ·have ey:ys[i]?=some ys[i]:=aad (by omega)
     rw[ey,hy i _ ey _ (aad hi),aaf,aaf,aaW hi]
     simp [aae,aad hi]
    ·rw[aas (by omega),aas (by rw[aac,aac,aaz];omega)]
   have sD:=ax (o:=.lst ys) n2
   have hD:upd H7 D (.lst ys) D=some (.lst ys):=ar
   generalize upd H7 D (.lst ys)=H8 at *
   refine⟨by decide,λt H9 s9 n9 h9=>kk t l6 D S _ H9 (JP.trans (s7.trans (sD.trans s9))) h9 (none_of (s1.trans s5) n6) (none_of (JP.trans s7) n2) (r6.mono (s7.trans (sD.trans s9))) (by rw[s9 _ _ hD,Zj]) sz I.dv bq (λp q e=>?_) (by rw[aac,aaz])⟩
   have hp:=(List.getElem?_eq_some_iff.mp e).1
   rw[aaf,aaW hp]
   simp [aae,e]
theorem jK:aO ["_law_script","_law_k","_law_number"] ["_law_script","_law_k"] (af (top 47)):=⟨rfl,rfl,rfl,by decide +kernel,rfl,by decide +kernel,by decide +kernel⟩
theorem xF (T:Txt K mg aB tc):bU P w K mg base (bL P w) 1 "_law_cell" ["_law_script","_law_k"] (FQ K):=by
 refine T.tQ.dZ (λ_ _ _ _ _ _=>eE λ_ _=>rfl) λf fd F=>F.d8 jK (λvs H Q E h=>?_) (λcD A outer s H vs Q E hr h=>?_)
 ·obtain⟨_,_,_,rfl,_⟩:=h;rfl
 ·refine(?_:let G_:Prop:=_;G_)
  intro G_
  obtain⟨a,ns,k,rfl,hS,k0,k1,kk⟩:=h
  dsimp only[G_]
  have nd:=jK.nd
  refine⟨_,(ae (b8 (aR mW (pv 1) (aY (iT (K:=K)) (by rfl) T.z_len aaA (aa (pv 0) ao (se rfl)) (he:=se rfl) (hpl:=na rfl)) (aX _)) (au (aP (aG (pU (K:=K)) (pv 0) (pv 1) (λ_ _=>rfl))))
   bC)
  (ae (aF (i:=2) nd rfl (Or.inl rfl) (aE br (aE aT (pv 1) ag) ag))
  (ae (b8 (aR kr (aY (iT (K:=K)) (by rfl) T.z_len aaA (aa (pv 0) ao (se rfl)) (he:=se rfl) (hpl:=na rfl)) ag (aX _)) (au (aF (i:=2) nd rfl (Or.inl rfl) (aE br (aE aT (aE cz (aG (pU (K:=K)) (pv 0) (aE cz (aE aT (pv 1) ag) (aY (iT (K:=K)) (by rfl) T.z_len aaA (aa (pv 0) ao (se rfl)) (he:=se rfl) (hpl:=na rfl))) (λ_ _=>rfl)) ag) ag) (aE aT (aE aT (pv 1) (pv 1)) ag))))
   bC)
  (au (aP (aE cz (aE aT (pv 2) (pv 2)) ag)))))),?_⟩
  refine(?_:let cq:TS:=_;let cu:TS:=_;let cv:TS:=_;let dj:TS:=_;tSeq cq (tSeq cu (tSeq cv dj)) _ _ _)
  intro cq cu cv dj
  simp_all only[ER]
  have j2:k*k<=1000000:=Int.le_trans (Int.mul_le_mul (show k<=1000 by omega) (show k<=1000 by omega) k0 (by decide)) (by decide)
  have j3:0<=k*k:=Int.mul_nonneg k0 k0
  refine⟨ns,hS,gP (λc=>⟨ns,hS,k0,c,kk _⟩) (λc=>⟨cH (by omega) (by omega),ns,hS,gP (λz=>?_) (λz=>?_)⟩)⟩
  ·have m1:=aaT (ns.getD (k*5 % (ns.length:Int)).toNat 0) (show(2147483647:Int)≠0 by decide)
   have m2:=aa9 (ns.getD (k*5 % (ns.length:Int)).toNat 0) (show(0:Int)<2147483647 by decide)
   exact⟨cH (by omega) (by omega),ns,hS,z,ns,hS,aaT _ (by omega),aa9 _ z,by decide,iQ,cH (by omega) (by omega),cH (by omega) (by omega),cH (by omega) (by omega),by decide,kk _⟩
  ·exact⟨cH (by omega) (by omega),by decide,kk _⟩
theorem iI:aO ["_law_cell_here","_law_many"] ["_law_cell_here","_law_many"] (af (top 48)):=⟨rfl,rfl,rfl,by decide +kernel,rfl,by decide +kernel,by decide +kernel⟩
theorem oM (T:Txt K mg aB tc):bU P w K mg base (bL P w) 1 "_law_mixed" ["_law_cell_here","_law_many"] eP:=by
 refine T.qX.dZ (λ_ _ _ _ _ _=>eE λ_ _=>rfl) λf fd F=>F.d8 iI (λvs H Q E h=>?_) (λcD A outer s H vs Q E hr h=>?_)
 ·obtain⟨_,_,rfl,_⟩:=h;rfl
 ·refine(?_:let G_:Prop:=_;G_)
  intro G_
  obtain⟨c,m,rfl,m0,kk⟩:=h
  dsimp only[G_]
  have nd:=iI.nd
  refine⟨_,(au (aP (aE cz (aE dJ (aE cz (aE aT (aE cz (pv 0) (aE iP ag ag)) ag) (aE iP ag ag)) (aE iP ag ag)) (pv 1)))),?_⟩
  simp_all only[]
  have h1:=aaT c (show((2:Int)^64)≠0 by decide)
  have h2:=aa9 c (show(0:Int)<2^64 by decide)
  exact⟨by decide,by decide,by decide,by decide,cH (by omega) (by omega),by decide,by decide,by decide,by decide,by decide,by decide,by decide,fk.lit,m0,kk _ (aaT _ (by omega)) (aa9 _ m0)⟩
theorem kO:aO ["_law_top","_law_bottom","_law_one","_law_other"] ["_law_top","_law_bottom"] (af (top 49)):=⟨rfl,rfl,rfl,by decide +kernel,rfl,by decide +kernel,by decide +kernel⟩
theorem rS (T:Txt K mg aB tc):bU P w K mg base (bL P w) 1 "_law_low" ["_law_top","_law_bottom"] jG:=by
 refine T.vx.dZ (λ_ _ _ _ _ _=>eE λ_ _=>rfl) λf fd F=>F.d8 kO (λvs H Q E h=>?_) (λcD A outer s H vs Q E hr h=>?_)
 ·obtain⟨_,_,rfl,_⟩:=h;rfl
 ·refine(?_:let G_:Prop:=_;G_)
  intro G_
  obtain⟨a,b,rfl,b0,bb,k⟩:=h
  dsimp only[G_]
  have nd:=kO.nd
  refine⟨_,(ae (aF (i:=2) nd rfl (Or.inl rfl) (aY mY (by rfl) T.z_abs rfl (aa (pv 0) ao (se rfl)) (he:=se rfl) (hpl:=na rfl)))
  (ae (aF (i:=3) nd rfl (Or.inl rfl) (pv 1))
  (ae (gL PassesOwn.never (aR kr (pv 3) ag (aX _)) (au (Ez (i:=2) (j:=3) rfl nd rfl rfl (by decide) rfl rfl (aa (pv 3) (aa (aE cz (pv 2) (pv 3)) ao (se rfl)) (se rfl)) rfl)))
  (au (aP (bF (aa (aE dJ (pv 0) (pv 2)) (aa (aE dJ (pv 1) (pv 2)) ao (se rfl)) (se rfl)))))))),?_⟩
  refine(?_:let cq:TS:=_;let cu:TS:=_;let cv:TS:=_;let dj:TS:=_;tSeq cq (tSeq cu (tSeq cv dj)) _ _ _)
  intro cq cu cv dj
  simp_all only[]
  refine sI (λσ H1=>H1=H/\∃x y:Int,σ=[some (.int a),some (.int b),some (.int x),some (.int y)]/\0<=x/\0<=y/\Nm.g x y=Nm.g a b) (λσ _=>match σ with | [_,_,_,some (.int y)]=>y.toNat | _=>0) ?_ ?_ ?_
  ·refine⟨rfl,_,_,rfl,?_,by omega,?_⟩
   ·split <;>omega
   ·rw[show(if a<0 then -a else a)=(a.natAbs:Int) by split <;>omega,Nm.zg]
  ·intro σ H1 bK
   refine(?_:let G_:Prop:=_;G_)
   intro G_
   obtain⟨rfl,x,y,rfl,x0,y0,e⟩:=bK
   dsimp only[G_]
   simp_all only[]
   refine gP (λc=>?_) (λc=>?_)
   ·refine⟨c,y0,aaT _ (by omega),by rw[Nm.zh x0 c,e],?_⟩
    have:=aa9 x c
    have:=aaT x (show y≠0 by omega)
    omega
   ·have z:y=0:=by omega
    subst z
    rw[Nm.zi x0] at e
    rw[e]
    have g0:0<Nm.g a b:=Nm.iC (by omega)
    have gb:Bt 8900 (Nm.g a b):=bb.le (by have:=Nm.ET (a:=a) b0;omega)
    obtain⟨e1,e2⟩:=Nm.nh (a:=a) b0
    rw[e1,e2] at k
    exact⟨fk.of g0 gb,fk.of g0 gb,by decide,λp H2 s1 n1 e=>k p H2 s1 n1 e⟩
  ·intro σ H1 Q1 Q2 hq hc
   simp only[L2.start,Pr,tRev,tD1,tDPop1,tSl,tNoPart,tPart,rSlL,tDIn,tDNotIn,gSub,rSetL,tLst,tDNewK,tComp,L2.stC,tFor_eq,iList,iTup,iRng1,iRng2,iZip,iEnum,iDict,iStr,tChain,tSumV,tBM,rJoin,tJoined,jNil,jLit,jInt,jStr,tRaise,tDGet,tDGet2,tDGet1,sDPut,Option.join_some,List.getElem?_nil,tSeq,tRet,tRetN,tIfS,tTest,tB,tOp,tUn,tVar,tC,tCB,tCons,tNil,tCall,tTupS,tAsg,gName,gNil,gCons,tPar,tNext,tDrop,tAnd,tOr,tNot,tAndV,tOrV,tNotV,tIf,rI,rI0,rU,rIxTH,rIxLH,rEqT,rNeT,rInT,rEq,rNe,scal_ss,scal_ii,scal_bb,scal_si,scal_is,CPow,at0,at1,at2,aav,aaP,aaq,abf,Nat.reduceSub,Nat.reduceAdd,aaV,abu,List.reduceReplicate,aa2,List.nil_append,abn,abo,abk,abh,abi,abp,exists_eq_left',exists_eq_left,V.ref.injEq,V.int.injEq,V.bl.injEq,V.str.injEq,V.ty.injEq,HO.tup.injEq,HO.lst.injEq,List.cons.injEq,and_true,true_and,and_assoc,exists_and_left,decide_eq_true_eq,Bool.not_eq_true',decide_eq_false_iff_not,ite_true,ite_false,if_true,if_false,Int.reduceToNat,eq_self_iff_true] at hc ⊢
   refine(?_:let G_:Prop:=_;G_)
   intro G_
   obtain⟨v,e1,i,e2,q⟩:=hc
   dsimp only[G_]
   exact⟨v,e1,i,e2,hq _ _ q⟩
theorem jL:aO ["_law_one","_law_other"] ["_law_one","_law_other"] (af (top 50)):=⟨rfl,rfl,rfl,by decide +kernel,rfl,by decide +kernel,by decide +kernel⟩
theorem Bg (T:Txt K mg aB tc):bU P w K mg base (bL P w) 2 "_law_plus" ["_law_one","_law_other"] qp:=by
 have dc:bU P w K mg base (bL P w) 1 "_law_low" ["_law_top","_law_bottom"] jG:=rS T
 refine T.tR.dZ (λ_ _ _ _ _ _=>eE λ_ _=>rfl) λf fd F=>F.d8 jL (λvs H Q E h=>?_) (λcD A outer s H vs Q E hr h=>?_)
 ·obtain⟨_,_,_,_,rfl,_⟩:=h;rfl
 ·refine(?_:let G_:Prop:=_;G_)
  intro G_
  obtain⟨p,q,a,b,rfl,hp,hq,ga,gb,k⟩:=h
  dsimp only[G_]
  have nd:=jL.nd
  refine⟨_,(au (aP (aI dc (hr.mono (by decide)) rfl aA.pass (aa (aE br (aE aT (aG aL (pv 0) ag (λ_ _=>rfl)) (aG aL (pv 1) ag (λ_ _=>rfl))) (aE aT (aG aL (pv 1) ag (λ_ _=>rfl)) (aG aL (pv 0) ag (λ_ _=>rfl)))) (aa (aE aT (aG aL (pv 0) ag (λ_ _=>rfl)) (aG aL (pv 1) ag (λ_ _=>rfl))) ao (se rfl)) (se rfl)) (he:=se rfl) (hpl:=na rfl)))),?_⟩
  simp only[Pr] at hp hq
  simp_all only[jG,hp,hq]
  refine⟨ga.1.du gb.2.1,gb.1.du ga.2.1,ga.2.1.du gb.2.1,?_⟩
  exact⟨aaG ga.2.2 gb.2.2,(ga.2.1.mul gb.2.1).mono (by decide),λr H' s' n' e=>k r H' s' n' e⟩
theorem jM:aO ["_law_one","_law_other"] ["_law_one","_law_other"] (af (top 60)):=⟨rfl,rfl,rfl,by decide +kernel,rfl,by decide +kernel,by decide +kernel⟩
theorem Gu (T:Txt K mg aB tc):bU P w K mg base (bL P w) 1 "_law_less" ["_law_one","_law_other"] D6:=by
 refine T.tT.dZ (λ_ _ _ _ _ _=>eE λ_ _=>rfl) λf fd F=>F.d8 jM (λvs H Q E h=>?_) (λcD A outer s H vs Q E hr h=>?_)
 ·obtain⟨_,_,_,_,rfl,_⟩:=h;rfl
 ·refine(?_:let G_:Prop:=_;G_)
  intro G_
  obtain⟨p,q,a,b,rfl,hp,hq,ga,gb,k⟩:=h
  dsimp only[G_]
  have nd:=jM.nd
  refine⟨_,(au (aP (qB mW (aE aT (aG aL (pv 0) ag (λ_ _=>rfl)) (aG aL (pv 1) ag (λ_ _=>rfl))) (aE aT (aG aL (pv 1) ag (λ_ _=>rfl)) (aG aL (pv 0) ag (λ_ _=>rfl))) (aX _)))),?_⟩
  simp only[Pr] at hp hq
  simp_all only[hp,hq]
  exact⟨ga.1.du gb.2.1,gb.1.du ga.2.1,k⟩
theorem iJ:aO ["_law_one","_law_other"] ["_law_one","_law_other"] (af (top 51)):=⟨rfl,rfl,rfl,by decide +kernel,rfl,by decide +kernel,by decide +kernel⟩
theorem Bh (T:Txt K mg aB tc):bU P w K mg base (bL P w) 2 "_law_times" ["_law_one","_law_other"] qq:=by
 have dc:bU P w K mg base (bL P w) 1 "_law_low" ["_law_top","_law_bottom"] jG:=rS T
 refine T.qY.dZ (λ_ _ _ _ _ _=>eE λ_ _=>rfl) λf fd F=>F.d8 iJ (λvs H Q E h=>?_) (λcD A outer s H vs Q E hr h=>?_)
 ·obtain⟨_,_,_,_,rfl,_⟩:=h;rfl
 ·refine(?_:let G_:Prop:=_;G_)
  intro G_
  obtain⟨p,q,a,b,rfl,hp,hq,ga,gb,k⟩:=h
  dsimp only[G_]
  have nd:=iJ.nd
  refine⟨_,(au (aP (aI dc (hr.mono (by decide)) rfl aA.pass (aa (aE aT (aG aL (pv 0) ag (λ_ _=>rfl)) (aG aL (pv 1) ag (λ_ _=>rfl))) (aa (aE aT (aG aL (pv 0) ag (λ_ _=>rfl)) (aG aL (pv 1) ag (λ_ _=>rfl))) ao (se rfl)) (se rfl)) (he:=se rfl) (hpl:=na rfl)))),?_⟩
  simp only[Pr] at hp hq
  simp_all only[jG,hp,hq]
  refine⟨ga.1.du gb.1,ga.2.1.du gb.2.1,?_⟩
  exact⟨aaG ga.2.2 gb.2.2,(ga.2.1.mul gb.2.1).mono (by decide),λr H' s' n' e=>k r H' s' n' e⟩
theorem iK:aO ["_law_cell_here","_law_k","_law_way","_law_top","_law_bottom"] ["_law_cell_here","_law_k"] (af (top 52)):=⟨rfl,rfl,rfl,by decide +kernel,rfl,by decide +kernel,by decide +kernel⟩
theorem Gv (T:Txt K mg aB tc):bU P w K mg base (bL P w) 2 "_law_share" ["_law_cell_here","_law_k"] AQ:=by
 have dc:bU P w K mg base (bL P w) 1 "_law_low" ["_law_top","_law_bottom"] jG:=rS T
 have aW:bU P w K mg base (bL P w) 1 "_law_mixed" ["_law_cell_here","_law_many"] eP:=oM T
 refine T.qZ.dZ (λ_ _ _ _ _ _=>eE λ_ _=>rfl) λf fd F=>F.d8 iK (λvs H Q E h=>?_) (λcD A outer s H vs Q E hr h=>?_)
 ·obtain⟨_,_,rfl,_⟩:=h;rfl
 ·refine(?_:let G_:Prop:=_;G_)
  intro G_
  obtain⟨c,k,rfl,k0,k1,kk⟩:=h
  dsimp only[G_]
  have nd:=iK.nd
  refine⟨_,(ae (aF (i:=2) nd rfl (Or.inl rfl) (aI aW (hr.mono (by decide)) rfl aA.pass (aa (aE br (pv 0) (aE aT ag (pv 1))) (aa ag ao (se rfl)) (se rfl)) (he:=se rfl) (hpl:=na rfl)))
  (ae (aF (i:=3) nd rfl (Or.inl rfl) (aE mV (aI aW (hr.mono (by decide)) rfl aA.pass (aa (aE br (aE br (pv 0) (aE aT ag (pv 1))) ag) (aa ag ao (se rfl)) (se rfl)) (he:=se rfl) (hpl:=na rfl)) ag))
  (ae (aF (i:=4) nd rfl (Or.inl rfl) ag)
  (ae (b8 (aR mW (pv 2) ag (aX _)) (au (aF (i:=4) nd rfl (Or.inl rfl) (aE br ag (aI aW (hr.mono (by decide)) rfl aA.pass (aa (aE br (aE br (pv 0) (aE aT ag (pv 1))) ag) (aa ag ao (se rfl)) (se rfl)) (he:=se rfl) (hpl:=na rfl)))))
   bC)
  (ae (b8 (aR cK (pv 2) ag (aX _)) (ae (aF (i:=3) nd rfl (Or.inl rfl) (aE mV (aE cz (aE aT (aE br (pv 0) ag) (aE br (aE aT (pv 1) (pv 1)) ag)) (aE mV (aE aT ag (aE iP ag ag)) ag)) (aE mV (aE iP ag ag) ag)))
  (au (aF (i:=4) nd rfl (Or.inl rfl) (aE br ag (aE cz (aE aT (aE br (pv 0) ag) (aE br (aE aT (pv 1) (pv 1)) ag)) (aE iP ag ag))))))
   bC)
  (au (aP (aI dc (hr.mono (by decide)) rfl aA.pass (aa (pv 3) (aa (pv 4) ao (se rfl)) (se rfl)) (he:=se rfl) (hpl:=na rfl))))))))),?_⟩
  refine(?_:let cq:TS:=_;let cu:TS:=_;let cv:TS:=_;let dj:TS:=_;let iE:TS:=_;let Ba:TS:=_;tSeq cq (tSeq cu (tSeq cv (tSeq dj (tSeq iE Ba)))) _ _ _)
  intro cq cu cv dj iE Ba
  have j2:k*k<=1000000:=Int.le_trans (Int.mul_le_mul (show k<=1000 by omega) (show k<=1000 by omega) k0 (by decide)) (by decide)
  have j3:0<=k*k:=Int.mul_nonneg k0 k0
  have fin:∀x y:Int,Bt 40 x->Bt 20 y->0<y->0<y/\Bt 8900 y/\∀p H',az H H'->H p=none->H' p=some (.tup [V.int (Nm.st x y),V.int (Nm.sb x y)])->Q (.ref p) H':=λx y bx VT y0=>
   ⟨y0,VT.mono (by decide),λp H' s' n' e=>kk p H' (Nm.st x y,Nm.sb x y) s' n' e ⟨bx.le (Nm.EU (by omega)),VT.le (Nm.EV (by omega)),Nm.zk (by omega),Nm.zm (by omega)⟩⟩
  have Bz:∀c1 c2:Int,Bt 40 (c1 % (2*10^12 - 1) - (10^12 - 1))/\Bt 20 (1+c2 % 10^6)/\0<1+c2 % 10^6:=λc1 c2=>by
   have h1:=aaT c1 (show(2*10^12 - 1:Int)≠0 by decide)
   have h2:=aa9 c1 (show(0:Int)<2*10^12 - 1 by decide)
   have h3:=aaT c2 (show(10^6:Int)≠0 by decide)
   have h4:=aa9 c2 (show(0:Int)<10^6 by decide)
   exact⟨Bt.of (10^12) (by omega) (by omega),Bt.of (10^6) (by omega) (by omega),by omega⟩
  simp_all only[jG,eP]
  have bs:∀{t r:Int},0<=t->t<19->0<=r->r<12->Bt 40 (t - 9)/\Bt 20 (1+r):=λa b c d=>⟨Bt.of 60 (by omega) (by omega),Bt.of 60 (by omega) (by omega)⟩
  refine⟨cH,by decide,λwy w0 w1=>⟨cH,by decide,λt t0 t1=>gP (λc1=>⟨cH,by decide,λr r0 r1=>gP (λc2=>?_) (λc2=>?_)⟩) (λc1=>gP (λc2=>?_) (λc2=>?_))⟩⟩
  ·exfalso
   omega
  ·exact fin (t - 9) (1+r) (bs t0 t1 r0 r1).1 (bs t0 t1 r0 r1).2 (by omega)
  ·have bg:=Bz ((c+1)* (k*k+71)) ((c+3)* (k*k+5))
   exact⟨cH (by omega) (by omega),iQ (by omega) (by omega),by decide,by decide,by decide,cH,by decide,by decide,by decide,by decide,cH (by omega) (by omega),iQ (by omega) (by omega),by decide,by decide,by decide,by decide,fin _ _ bg.1 bg.2.1 bg.2.2⟩
  ·exact fin (t - 9) 1 (bs t0 t1 (aaH 0) (by decide)).1 (Bt.of 60 (by omega) (by omega)) (by decide)
theorem hJ:aO ["_law_cell_here","_law_n","_law_first","_law_keyed"] ["_law_cell_here","_law_n"] (af (top 53)):=⟨rfl,rfl,rfl,by decide +kernel,rfl,by decide +kernel,by decide +kernel⟩
theorem Gw (T:Txt K mg aB tc):bU P w K mg base (bL P w) 2 "_law_turned" ["_law_cell_here","_law_n"] AN:=by
 have aW:bU P w K mg base (bL P w) 1 "_law_mixed" ["_law_cell_here","_law_many"] eP:=oM T
 refine T.pb.dZ (λ_ _ _ _ _ _=>eE λ_ _=>rfl) λf fd F=>F.d8 hJ (λvs H Q E h=>?_) (λcD A outer s H vs Q E hr h=>?_)
 ·obtain⟨_,_,rfl,_⟩:=h;rfl
 ·refine(?_:let G_:Prop:=_;G_)
  intro G_
  obtain⟨c,n,rfl,n0,n1,kk⟩:=h
  dsimp only[G_]
  clear G_
  have nd:=hJ.nd
  refine⟨_,(ae (aF (i:=2) nd rfl (Or.inr rfl) (aE cz (pv 0) ag))
  (ae (aF (i:=3) nd rfl (Or.inl rfl) (aY (nJ (K:=K)) (by rfl) T.z_sorted rfl (aa (bX rfl (N:=["_law_cell_here","_law_n","_law_first","_law_keyed"]) (so:=af (top 53)) (N':=["_law_k","_law_first"]) (k:=1) (fr:=[2]) rfl rfl ⟨rfl,by decide +kernel,by decide +kernel,by decide +kernel,rfl,by decide +kernel,by decide +kernel⟩ (cV rfl T.z_range (aa (pv 1) ao (se rfl))) (λ_ _ _ _ _=>(aD (i:=0) (show(["_law_k","_law_first"]:List Str).Nodup by decide +kernel) rfl (Or.inl rfl))) (λ_ _ _ _ _=>bO)
   (λ_ _ _ _ _=>(bF (aa (aI aW (hr.mono (by decide)) rfl aA.pass (aa (aE br (aE aT (pv 1) (aE br (aE aT (pv 0) (pv 0)) ag)) (pv 0)) (aa (aE iP ag ag) ao (se rfl)) (se rfl)) (he:=se rfl) (hpl:=na rfl)) (aa (pv 0) ao (se rfl)) (se rfl))))) ao (se rfl)) (he:=se rfl) (hpl:=na rfl)))
  (au (aP (bX rfl (N:=["_law_cell_here","_law_n","_law_first","_law_keyed"]) (so:=af (top 53)) (N':=["_law_pair"]) (k:=1) (fr:=[]) rfl rfl ⟨rfl,by decide +kernel,by decide +kernel,by decide +kernel,rfl,by decide +kernel,by decide +kernel⟩ (bj (K:=K) (pv 3)) (λ_ _ _ _ _=>(aD (i:=0) (show(["_law_pair"]:List Str).Nodup by decide +kernel) rfl (Or.inl rfl))) (λ_ _ _ _ _=>bO)
   (λ_ _ _ _ _=>(aG aL (pv 0) ag (λ_ _=>rfl)))))))),?_⟩
  refine(?_:let cq:TS:=_;let cu:TS:=_;let cv:TS:=_;tSeq cq (tSeq cu cv) _ _ _)
  intro cq cu cv
  simp_all only[]
  obtain⟨N,rfl⟩:=aau (Int.le_of_lt n0)
  rw[aai] at kk
  refine⟨by decide,by omega,by omega,?_⟩
  refine comp_map src_range (λ_ _ _ _ h=>by rw[h.1];exact az.refl _) (by rw[sizeLine_eq];omega) (λi y H4=>∃tt a,y=.ref tt/\H4 tt=some (.tup [.int a,.int ((i:Nat):Int)])) (λi y H4 H5 s5 ⟨tt,a,e,h⟩=>⟨tt,a,e,s5 _ _ h⟩) ?_ ?_
  ·rintro i x w0 H9 Ds Q2 hi s9 ⟨rfl,rfl⟩ kq
   simp_all only[eP]
   have ii:(0:Int)+ (i:Int)=(i:Int):=Int.zero_add _
   rw[ii]
   have j0:(0:Int)<=(i:Int):=by omega
   have jq:IntMulOk (i:Int) (i:Int):=cH (by omega) (by omega)
   have j2:(i:Int)* (i:Int)<=40000:=Int.le_trans (Int.mul_le_mul (show(i:Int)<=200 by omega) (show(i:Int)<=200 by omega) j0 (by decide)) (by decide)
   have j3:0<=(i:Int)* (i:Int):=Int.mul_nonneg j0 j0
   exact⟨jq,iQ (by omega) (by omega),by decide,by decide,by decide,by decide,λr r0 r1=>⟨by decide,λq5 Zk Lm JQ e11=>kq _ _ Lm ⟨q5,r,rfl,e11⟩⟩⟩
  intro ys H9 s9 ly hy D9 Ln JQ
  have Zl:=s9.trans (ax (o:=.lst ys) JQ)
  have Zm:(upd H9 D9 (.lst ys)) D9=some (.lst ys):=ar
  have Ni:∀(i:Nat) y,ys[i]?=some y->∃tt a,y=.ref tt/\(upd H9 D9 (.lst ys)) tt=some (.tup [.int a,.int ((i:Nat):Int)]):=λi y e=>by
   refine(?_:let G_:Prop:=_;G_)
   intro G_
   obtain⟨tt,a,e1,e2⟩:=hy i y e
   dsimp only[G_]
   exact⟨tt,a,e1,ax JQ _ _ e2⟩
  generalize upd H9 D9 (.lst ys)=Ds at *
  have each:∀y∈ys,∃tt a b',y=.ref tt/\Ds tt=some (.tup [.int a,.int b']):=λy Zn=>by
   obtain⟨i,ei⟩:=aaD Zn
   refine(?_:let G_:Prop:=_;G_)
   intro G_
   obtain⟨tt,a,e1,e2⟩:=Ni i y ei
   dsimp only[G_]
   exact⟨tt,a,_,e1,e2⟩
  have ly:ys.length=N:=by simpa using ly
  refine⟨ys,bo.of Zm,by omega,each,λl11 zs Zo pz=>?_⟩
  have hg:∃g:V->Nat,g=λv=>match v with | .ref tt=>(match Ds tt with | some (.tup [_,.int i])=>i.toNat | _=>0) | _=>0:=⟨_,rfl⟩
  obtain⟨g,hg⟩:=hg
  have gy:∀(i:Nat) y,ys[i]?=some y->g y=i:=λi y e=>by
   refine(?_:let G_:Prop:=_;G_)
   intro G_
   obtain⟨tt,a,rfl,e2⟩:=Ni i y e
   dsimp only[G_]
   rw[hg]
   simp only[e2,aai]
  have mg:ys.map g=List.range N:=by
   apply aa8
   intro i
   rw[aaf]
   by_cases hi:i<N
   ·rw[aaW hi,aad (show i<ys.length by omega)]
    show some (g _)=_
    rw[gy i _ (aad (by omega))]
   ·rw[aas (show(List.range N).length<=i by rw[aaz];omega),aas (show ys.length<=i by omega)]
    rfl
  have pm:(zs.map g).Perm (List.range N):=by rw[<-mg];exact pz.map g
  have zl:zs.length=N:=by rw[pz.length_eq];omega
  have ez:∀z∈zs,∃tt a,z=.ref tt/\Ds tt=some (.tup [.int a,.int ((g z:Nat):Int)]):=λz hz=>by
   obtain⟨i,ei⟩:=aaD (pz.mem_iff.mp hz)
   refine(?_:let G_:Prop:=_;G_)
   intro G_
   obtain⟨tt,a,e1,e2⟩:=Ni i z ei
   dsimp only[G_]
   exact⟨tt,a,e1,by rw[gy i z ei];exact e2⟩
  have Lm:=ax (o:=.lst zs) Zo
  have VU:(upd Ds l11 (.lst zs)) l11=some (.lst zs):=ar
  generalize upd Ds l11 (.lst zs)=Zk at *
  refine⟨⟨_,bo.of VU⟩,?_⟩
  refine dA zs (λz=>some ((g z:Nat):Int)) (src_list (K:=K) (λH' s'=>bo.of (s' _ _ VU))) (λ_ _ _ _ h=>h.1) (by rw[sizeLine_eq];omega) ?_ ?_
  ·rintro i1 z x eg ⟨_,ex⟩ Y N1 y1 n1
   rw[eg] at ex
   cases ex
   refine(?_:let G_:Prop:=_;G_)
   intro G_
   obtain⟨tt,a,rfl,e2⟩:=ez z (aag eg)
   dsimp only[G_]
   simp_all only[gD,Lm _ _ e2]
   exact y1 _ rfl
  intro D12 n13 VW
  rw[dI]
  have e12:List.map V.int (zs.map λz=>((g z:Nat):Int))=List.map eK (zs.map g):=by rw[aaS,aaS];rfl
  rw[e12]
  have VX:=Zl.trans Lm
  exact kk _ _ _ (VX.trans (ax VW)) (none_of VX VW) ar pm
theorem iL:aO ["_law_cell_here","_law_k","_law_n","_law_ways_here","_law_j","_law_weight","_law_sure"] ["_law_cell_here","_law_k","_law_n"] (af (top 54)):=⟨rfl,rfl,rfl,by decide +kernel,rfl,by decide +kernel,by decide +kernel⟩
theorem Gx (T:Txt K mg aB tc):bU P w K mg base (bL P w) 2 "_law_throw" ["_law_cell_here","_law_k","_law_n"] AR:=by
 have aW:bU P w K mg base (bL P w) 1 "_law_mixed" ["_law_cell_here","_law_many"] eP:=oM T
 refine T.q9.dZ (λ_ _ _ _ _ _=>tU λ_ _ _=>rfl) λf fd F=>F.d8 iL (λvs H Q E h=>?_) (λcD A outer s H vs Q E hr h=>?_)
 ·obtain⟨_,_,_,rfl,_⟩:=h;rfl
 ·refine(?_:let G_:Prop:=_;G_)
  intro G_
  obtain⟨c,k,n,rfl,k0,kn,kk⟩:=h
  dsimp only[G_]
  have nd:=iL.nd
  refine⟨_,(ae (aF (i:=3) nd rfl (Or.inl rfl) (cM ao))
  (ae (bY PassesOwn.never rfl (cV rfl T.z_range (aa (aI aW (hr.mono (by decide)) rfl aA.pass (aa (aE br (pv 0) ag) (aa ag ao (se rfl)) (se rfl)) (he:=se rfl) (hpl:=na rfl)) ao (se rfl))) (aD (i:=4) nd rfl (Or.inl rfl)) (ae (aF (i:=5) nd rfl (Or.inl rfl) (aE br ag (aI aW (hr.mono (by decide)) rfl aA.pass (aa (aE br (pv 0) (aE aT ag (pv 4))) (aa ag ao (se rfl)) (se rfl)) (he:=se rfl) (hpl:=na rfl))))
  (ae (b8 (aR cK (aI aW (hr.mono (by decide)) rfl aA.pass (aa (aE br (pv 0) ag) (aa ag ao (se rfl)) (se rfl)) (he:=se rfl) (hpl:=na rfl)) ag (aX _)) (au (aF (i:=5) nd rfl (Or.inl rfl) (aE br ag (aI aW (hr.mono (by decide)) rfl aA.pass (aa (aE br (pv 0) (aE aT ag (pv 4))) (aa ag ao (se rfl)) (se rfl)) (he:=se rfl) (hpl:=na rfl)))))
   bC)
  (au (cN (dY aaL aaZ aa0 cm.r (pv 3) (aa (bF (aa (pv 5) (aa (aI aW (hr.mono (by decide)) rfl aA.pass (aa (aE br (aE br (pv 0) (aE aT ag (pv 4))) ag) (aa (pv 2) ao (se rfl)) (se rfl)) (he:=se rfl) (hpl:=na rfl)) ao (se rfl)) (se rfl))) ao (se rfl))))))))
  (ae (aF (i:=6) nd rfl (Or.inl rfl) (bF (aa (aE br ag (aI aW (hr.mono (by decide)) rfl aA.pass (aa (aE br (pv 0) ag) (aa ag ao (se rfl)) (se rfl)) (he:=se rfl) (hpl:=na rfl))) (aa (aI aW (hr.mono (by decide)) rfl aA.pass (aa (aE br (pv 0) ag) (aa (pv 1) ao (se rfl)) (se rfl)) (he:=se rfl) (hpl:=na rfl)) ao (se rfl)) (se rfl))))
  (ae (cN (dY aaL PySem.F.slot_list_insert PySem.F.type_list_insert yg.r (pv 3) (aa (aI aW (hr.mono (by decide)) rfl aA.pass (aa (aE br (pv 0) ag) (aa (aE br (aY bD (by rfl) T.z_len aaA (aa (pv 3) ao (se rfl)) (he:=se rfl) (hpl:=na rfl)) ag) ao (se rfl)) (se rfl)) (he:=se rfl) (hpl:=na rfl)) (aa (pv 6) ao (se rfl)) (se rfl))))
  (au (aP (pv 3))))))),?_⟩
  refine(?_:let cq:TS:=_;let cu:TS:=_;let cv:TS:=_;let dj:TS:=_;let iE:TS:=_;tSeq cq (tSeq cu (tSeq cv (tSeq dj iE))) _ _ _)
  intro cq cu cv dj iE
  simp_all only[eP]
  refine⟨aar _,λp np=>⟨by decide,λr r0 r1=>⟨by omega,by omega,?_⟩⟩⟩
  refine bJ (src_range (Ok:=λ_=>True)) (λi σ H'=>az H H'/\∃xs z4 z5,H' p=some (.lst xs)/\xs.length=i/\(∀x∈xs,WT H' n x)/\σ=[some (.int c),some (.int k),some (.int n),some (V.ref p),z4,z5,none])
   ⟨ax np,[],_,_,ar,rfl,by simp,rfl⟩ (λ_ _ _ _ _=>trivial) ?_ ?_
  ·intro i x σ H1 H2 hi df dk
   refine(?_:let G_:Prop:=_;G_)
   intro G_
   obtain⟨sm,xs,z4,z5,hp,lx,wx,rfl⟩:=df
   obtain⟨rfl,rfl⟩:=dk
   dsimp only[G_]
   simp_all only[eP]
   have sz:xs.length<sizeLine:=by rw[sizeLine_eq];omega
   have fin:∀w t p1 H3,az H2 H3->H2 p1=none->H3 p1=some (.tup [.int w,.int t])->(1<=w/\w<=200000)->0<=t->t<n->az H (upd H3 p (.lst (xs++ [V.ref p1])))/\∃iD,upd H3 p (.lst (xs++ [V.ref p1])) p=some (.lst iD)/\iD.length=i+1/\(∀x∈iD,WT (upd H3 p (.lst (xs++ [V.ref p1]))) n x):=λw t p1 H3 s3 n3 e3 w0 t0 t1=>by
    refine⟨ba (sm.trans s3) np,_,ar,by simp [lx],λx hx=>?_⟩
    have VY:=s3 _ _ hp
    rcases List.mem_append.mp hx with hx | hx
    ·exact((wx x hx).mono s3).put VY
    ·rw[List.mem_singleton.mp hx]
     exact WT.put VY ⟨p1,w,t,rfl,e3,w0,t0,t1⟩
   have go:∀w:Int,(1<=w/\w<=200000)->LU K "list" (V.ref p) H2/\IntMulOk 29 (0+ (i:Int))/\0<n/\∀t,0<=t->t<n->2<=sizeLine/\∀p1 H3,az H2 H3->H2 p1=none->H3 p1=some (.tup [.int w,.int t])->cO (V.ref p) [V.ref p1] H3 λ_ H'=>az H H'/\∃iD,H' p=some (.lst iD)/\iD.length=i+1/\(∀x∈iD,WT H' n x)/\∃x,some (V.int w)=x:=λw w0=>
    ⟨.inl ⟨rfl,_,bo.of hp⟩,cH,by omega,λt t0 t1=>⟨by decide,λp1 H3 s3 n3 e3=>⟨p,xs,_,rfl,rfl,s3 _ _ hp,sz,let ⟨a,iD,b,c,d⟩:=fin w t p1 H3 s3 n3 e3 w0 t0 t1;⟨a,iD,b,c,d,_,rfl⟩⟩⟩⟩
   refine⟨cH,by decide,λr r0 r1=>⟨by decide,λr2 _ _=>gP (λ_=>⟨cH,by decide,λr3 r30 r31=>?_⟩) (λ_=>?_)⟩⟩
   ·exact go _ ⟨by omega,by omega⟩
   ·exact go _ ⟨by omega,by omega⟩
  ·intro σ H1 bK
   refine(?_:let G_:Prop:=_;G_)
   intro G_
   obtain⟨sm,xs,z4,z5,hp,lx,wx,rfl⟩:=bK
   dsimp only[G_]
   simp_all only[eP,Im,tBM]
   have sz:xs.length<sizeLine:=by rw[sizeLine_eq];omega
   refine⟨by decide,λw w0 w1=>⟨k0,λt t0 t1=>⟨by decide,λp1 H2 s2 n2 e2=>?_⟩⟩⟩
   have rY:=s2 _ _ hp
   refine⟨.inl ⟨rfl,_,bo.of rY⟩,xs,rY,by omega,λr r0 r1=>⟨xs,rY,r0,by omega,sz,kk p _ _ (ba (sm.trans s2) np) ar (λx hx=>?_) ⟨_,aaJ _ aaj,WT.put rY ⟨p1,_,t,rfl,e2,⟨by omega,by omega⟩,t0,t1⟩⟩ (by rw[aaF,aaq];omega) (by simp;omega)⟩⟩
   rcases List.mem_append.mp hx with hx | hx
   ·exact((wx x (List.mem_of_mem_take hx)).mono s2).put rY
   ·rcases List.mem_cons.mp hx with rfl | hx
    ·exact WT.put rY ⟨p1,_,t,rfl,e2,⟨by omega,by omega⟩,t0,by omega⟩
    ·exact((wx x (List.mem_of_mem_drop hx)).mono s2).put rY
theorem jN:aO ["_law_board_here","_law_found","_law_what"] ["_law_board_here"] (af (top 57)):=⟨rfl,rfl,rfl,by decide +kernel,rfl,by decide +kernel,by decide +kernel⟩
theorem Gy (T:Txt K mg aB tc):bU P w K mg base (bL P w) 1 "_law_copy" ["_law_board_here"] vS:=by
 refine T.tS.dZ (λ_ _ _ _ _ _=>iX λ_=>rfl) λf fd F=>F.d8 jN (λvs H Q E h=>?_) (λcD A outer s H vs Q E hr h=>?_)
 ·obtain⟨_,_,rfl,_⟩:=h;rfl
 ·refine(?_:let G_:Prop:=_;G_)
  intro G_
  obtain⟨a,b,rfl,rb,bl,kk⟩:=h
  dsimp only[G_]
  have nd:=jN.nd
  refine⟨_,(ae (aF (i:=1) nd rfl (Or.inl rfl) (cM ao))
  (ae (bY PassesOwn.never rfl (bj (K:=K) (pv 0)) (aD (i:=2) nd rfl (Or.inl rfl)) (au (b8 (aR cK (aG aL (pv 2) ag (λ_ _=>rfl)) c4 (aX _)) (au (cN (dY aaL aaZ aa0 cm.r (pv 1) (aa (pv 2) ao (se rfl)))))
   (au (cN (dY aaL aaZ aa0 cm.r (pv 1) (aa (bF (aa (aG aL (pv 2) ag (λ_ _=>rfl)) (aa (aG aL (pv 2) ag (λ_ _=>rfl)) (aa (hV (dH (K:=K)) (by rfl) T.z_list rfl (aa (aG aL (pv 2) ag (λ_ _=>rfl)) ao (se rfl)) (he:=se rfl) (hpl:=na rfl)) ao (se rfl)) (se rfl)) (se rfl))) ao (se rfl))))))))
  (au (aP (pv 1))))),?_⟩
  refine(?_:let cq:TS:=_;let cu:TS:=_;let cv:TS:=_;tSeq cq (tSeq cu cv) _ _ _)
  intro cq cu cv
  refine(?_:let G_:Prop:=_;G_)
  intro G_
  obtain⟨_,xs,e,ha,rl⟩:=aQ.mp rb
  dsimp only[G_]
  cases e
  have lx:=rl.length
  rw[aac] at lx
  simp_all only[]
  refine⟨aar _,λp np=>?_⟩
  have s0:=ax (o:=.lst []) np
  refine⟨⟨_,bo.of (s0 _ _ ha)⟩,bJ (src_list (Ok:=az H) (λH2 s2=>bo.of (s2 _ _ ha)))
   (λi σ H'=>az H H'/\∃ys z2,H' p=some (.lst ys)/\bf (cE H' p) ((b.take i).map kY) ys/\σ=[some (V.ref a),some (V.ref p),z2])
   ⟨s0,[],_,ar,by simp [bf],rfl⟩ (λ_ _ _ _ h=>h.1) ?_ ?_⟩
  ·intro i v σ H1 H2 hi df dk
   refine(?_:let G_:Prop:=_;G_)
   intro G_
   obtain⟨sm,ys,z2,hp,ry,rfl⟩:=df
   obtain⟨rfl,ex⟩:=dk
   obtain⟨q,eq,rq⟩:=dB rl ex
   dsimp only[G_]
   have ly:=ry.length
   rw[aac,aa3] at ly
   have tk:b.take (i+1)=b.take i++ [q]:=by rw[aaC,eq];rfl
   have sz:ys.length<sizeLine:=by rw[sizeLine_eq];omega
   have fin:∀H3 v',az H2 H3->Rep (cE H3 p) (kY q) v'->az H (upd H3 p (.lst (ys++ [v'])))/\∃BC,upd H3 p (.lst (ys++ [v'])) p=some (.lst BC)/\bf (cE (upd H3 p (.lst (ys++ [v']))) p) ((b.take (i+1)).map kY) BC/\∃x,some v=x:=λH3 v' s3 r3=>by
    refine⟨ba (sm.trans s3) np,_,ar,?_,_,rfl⟩
    rw[tk,aaw,aav,aaP]
    exact jy (ry.mono (bI s3)) r3
   have rx:=rq.mono sm
   cases q with
   | fin w=>
    refine(?_:let G_:Prop:=_;G_)
    intro G_
    obtain⟨t',r,rfl,ph,_⟩:=c6.mp rx
    dsimp only[G_]
    simp_all only[ph,cO,tBM]
    exact⟨.inl ⟨rfl,_,bo.of hp⟩,_,hp,sz,fin H2 _ (az.refl _) (rq.mono (eC sm np))⟩
   | dq w ws=>
    refine(?_:let G_:Prop:=_;G_)
    intro G_
    obtain⟨t',r,l,zs,rfl,Hb,kj,DL,rz⟩:=cW.mp rq
    dsimp only[G_]
    have ph:=sm _ _ Hb
    have oS:=sm _ _ DL
    simp_all only[ph]
    rw[if_neg (by decide +kernel)]
    simp_all only[cO,tBM,ph]
    refine⟨.inl ⟨rfl,_,bo.of hp⟩,_,.inl (bo.of oS),λm nm=>⟨by decide,λu H4 s4 nu eu=>?_⟩⟩
    have s3:=(ax (o:=.lst zs) nm).trans s4
    have JR:m≠p:=λz=>by rw[z,hp] at nm;cases nm
    have Nj:u≠p:=λz=>by rw[z,ax (o:=.lst zs) nm _ _ hp] at nu;cases nu
    have sh:=eC (sm.trans s3) np
    exact⟨_,s3 _ _ hp,sz,fin H4 _ s3 (cW.mpr ⟨u,r,m,zs,rfl,by rw[bE Nj];exact eu,sh _ _ kj,by rw[bE JR];exact s4 _ _ ar,rz.mono sh⟩)⟩
   | cC w to=>
    refine(?_:let G_:Prop:=_;G_)
    intro G_
    obtain⟨t',l,rfl,ph,oS⟩:=cF.mp rx
    dsimp only[G_]
    simp_all only[ph]
    rw[if_neg (by decide +kernel)]
    simp_all only[cO,tBM,ph]
    refine⟨.inl ⟨rfl,_,bo.of hp⟩,_,.inl (bo.of oS),λm nm=>⟨by decide,λu H4 s4 nu eu=>?_⟩⟩
    have s3:=(ax (o:=.lst (List.map V.int to)) nm).trans s4
    have JR:m≠p:=λz=>by rw[z,hp] at nm;cases nm
    have Nj:u≠p:=λz=>by rw[z,ax (o:=.lst (List.map V.int to)) nm _ _ hp] at nu;cases nu
    exact⟨_,s3 _ _ hp,sz,fin H4 _ s3 (cF.mpr ⟨u,m,rfl,by rw[bE Nj];exact eu,by rw[bE JR];exact s4 _ _ ar⟩)⟩
  ·intro σ H1 bK
   refine(?_:let G_:Prop:=_;G_)
   intro G_
   obtain⟨sm,ys,z2,hp,ry,rfl⟩:=bK
   dsimp only[G_]
   simp_all only[]
   rw[aaE (by omega)] at ry
   exact kk p ys H1 sm np hp ry
theorem iM:aO ["_law_script","_law_at","_law_n","_law_turned_here","_law_board_here","_law_k","_law_cell_here","_law_kind","_law_ways_here"] ["_law_script","_law_at","_law_n"] (af (top 55)):=⟨rfl,rfl,rfl,by decide +kernel,rfl,by decide +kernel,by decide +kernel⟩
theorem Gz (T:Txt K mg aB tc):bU P w K mg base (bL P w) 3 "_law_board" ["_law_script","_law_at","_law_n"] (D3 K):=by
 have cS:bU P w K mg base (bL P w) 1 "_law_cell" ["_law_script","_law_k"] (FQ K):=xF T
 have aW:bU P w K mg base (bL P w) 1 "_law_mixed" ["_law_cell_here","_law_many"] eP:=oM T
 have jO:bU P w K mg base (bL P w) 2 "_law_share" ["_law_cell_here","_law_k"] AQ:=Gv T
 have pE:bU P w K mg base (bL P w) 2 "_law_turned" ["_law_cell_here","_law_n"] AN:=Gw T
 have rT:bU P w K mg base (bL P w) 2 "_law_throw" ["_law_cell_here","_law_k","_law_n"] AR:=Gx T
 refine T.rh.dZ (λ_ _ _ _ _ _=>tU λ_ _ _=>rfl) λf fd F=>F.d8 iM (λvs H Q E h=>?_) (λcD A outer s H vs Q E hr h=>?_)
 ·obtain⟨_,_,_,rfl,_⟩:=h;rfl
 ·refine(?_:let G_:Prop:=_;G_)
  intro G_
  obtain⟨a,ns,n,rfl,hS,n0,n8,kk⟩:=h
  dsimp only[G_]
  clear G_
  have nd:=iM.nd
  refine⟨_,(ae (aF (i:=3) nd rfl (Or.inr rfl) (aI pE (hr.mono (by decide)) rfl aA.pass (aa (aI cS (hr.mono (by decide)) rfl aA.pass (aa (pv 0) (aa (pv 1) ao (se rfl)) (se rfl)) (he:=se rfl) (hpl:=na rfl)) (aa (pv 2) ao (se rfl)) (se rfl)) (he:=se rfl) (hpl:=na rfl)))
  (ae (fR (i:=4) rfl nd rfl rfl (N:=["_law_script","_law_at","_law_n","_law_turned_here","_law_board_here","_law_k","_law_cell_here","_law_kind","_law_ways_here"]) (so:=af (top 55)) (N':=["_law_place"]) (k:=1) (fr:=[]) rfl rfl ⟨rfl,by decide +kernel,by decide +kernel,by decide +kernel,rfl,by decide +kernel,by decide +kernel⟩ (bj (K:=K) (pv 3)) (λ_ _ _ _ _=>(aD (i:=0) (show(["_law_place"]:List Str).Nodup by decide +kernel) rfl (Or.inl rfl))) (λ_ _ _ _ _=>bO)
   (λ_ _ _ _ _=>eW))
  (ae (bY PassesOwn.never rfl (cV rfl T.z_range (aa (pv 2) ao (se rfl))) (aD (i:=5) nd rfl (Or.inr rfl)) (ae (aF (i:=6) nd rfl (Or.inr rfl) (aI cS (hr.mono (by decide)) rfl aA.pass (aa (pv 0) (aa (aE br (aE br (pv 1) ag) (pv 5)) ao (se rfl)) (se rfl)) (he:=se rfl) (hpl:=na rfl)))
  (ae (aF (i:=7) nd rfl (Or.inl rfl) (aI aW (hr.mono (by decide)) rfl aA.pass (aa (aE br (pv 6) ag) (aa ag ao (se rfl)) (se rfl)) (he:=se rfl) (hpl:=na rfl)))
  (au (b8 (PW.pt (pw_or (aR cK (pv 5) ag (aX _)) (pw_or1 (aR cK (pv 7) ag (aX _))))) (au (dQ (bF (aa c4 (aa (aI jO (hr.mono (by decide)) rfl aA.pass (aa (pv 6) (aa (pv 5) ao (se rfl)) (se rfl)) (he:=se rfl) (hpl:=na rfl)) ao (se rfl)) (se rfl))) (fM (pv 4) (aG aJ (pv 3) (pv 5) (λ_ _=>rfl)) set_list)))
   (au (b8 (aR mW (pv 7) ag (aX _)) (ae (fR (i:=8) rfl nd rfl rfl (N:=["_law_script","_law_at","_law_n","_law_turned_here","_law_board_here","_law_k","_law_cell_here","_law_kind","_law_ways_here"]) (so:=af (top 55)) (N':=["_law_weight","_law_to","_law_turned_here"]) (k:=2) (fr:=[3]) rfl rfl ⟨rfl,by decide +kernel,by decide +kernel,by decide +kernel,rfl,by decide +kernel,by decide +kernel⟩ (bj (K:=K) (aI rT (hr.mono (by decide)) rfl aA.pass (aa (pv 6) (aa (pv 5) (aa (pv 2) ao (se rfl)) (se rfl)) (se rfl)) (he:=se rfl) (hpl:=na rfl))) (λ_ _ _ _ _=>(bP (K:=K) (n:=2) rfl (aN (aD (i:=0) (show(["_law_weight","_law_to","_law_turned_here"]:List Str).Nodup by decide +kernel) rfl (Or.inl rfl)) (aN (aD (i:=1) (show(["_law_weight","_law_to","_law_turned_here"]:List Str).Nodup by decide +kernel) rfl (Or.inl rfl)) bN)))) (λ_ _ _ _ _=>bO)
   (λ_ _ _ _ _=>(bF (aa (pv 0) (aa (aG aJ (pv 2) (pv 1) (λ_ _=>rfl)) ao (se rfl)) (se rfl)))))
  (au (dQ (bF (aa c4 (aa (aI jO (hr.mono (by decide)) rfl aA.pass (aa (pv 6) (aa (pv 5) ao (se rfl)) (se rfl)) (he:=se rfl) (hpl:=na rfl)) (aa (pv 8) ao (se rfl)) (se rfl)) (se rfl))) (fM (pv 4) (aG aJ (pv 3) (pv 5) (λ_ _=>rfl)) set_list))))
   (ae (fR (i:=8) rfl nd rfl rfl (N:=["_law_script","_law_at","_law_n","_law_turned_here","_law_board_here","_law_k","_law_cell_here","_law_kind","_law_ways_here"]) (so:=af (top 55)) (N':=["_law_j","_law_turned_here","_law_k","_law_cell_here"]) (k:=1) (fr:=[3,5,6]) rfl rfl ⟨rfl,by decide +kernel,by decide +kernel,by decide +kernel,rfl,by decide +kernel,by decide +kernel⟩ (cV rfl T.z_range (aa (aE br ag (aI aW (hr.mono (by decide)) rfl aA.pass (aa (aE br (pv 6) ag) (aa ag ao (se rfl)) (se rfl)) (he:=se rfl) (hpl:=na rfl))) ao (se rfl))) (λ_ _ _ _ _=>(aD (i:=0) (show(["_law_j","_law_turned_here","_law_k","_law_cell_here"]:List Str).Nodup by decide +kernel) rfl (Or.inl rfl))) (λ_ _ _ _ _=>bO)
   (λ_ _ _ _ _=>(aG aJ (pv 1) (aI aW (hr.mono (by decide)) rfl aA.pass (aa (aE br (pv 3) (aE aT ag (pv 0))) (aa (pv 2) ao (se rfl)) (se rfl)) (he:=se rfl) (hpl:=na rfl)) (λ_ _=>rfl))))
  (au (dQ (bF (aa c4 (aa (aE br ag (aI aW (hr.mono (by decide)) rfl aA.pass (aa (aE br (pv 6) ag) (aa ag ao (se rfl)) (se rfl)) (he:=se rfl) (hpl:=na rfl))) (aa (pv 8) ao (se rfl)) (se rfl)) (se rfl))) (fM (pv 4) (aG aJ (pv 3) (pv 5) (λ_ _=>rfl)) set_list)))))))))))
  (au (aP (pv 4)))))),?_⟩
  refine(?_:let cq:TS:=_;let cu:TS:=_;let cv:TS:=_;let dj:TS:=_;tSeq cq (tSeq cu (tSeq cv dj)) _ _ _)
  intro cq cu cv dj
  simp_all only[FQ,AN]
  refine⟨ns,hS,by decide,by decide,λc=>⟨by omega,by omega,λl H1 sg s1 nl hl pm=>⟨⟨_,bo.of hl⟩,?_⟩⟩⟩
  rw[aai] at pm
  have sl:sg.length=n:=by rw[pm.length_eq,aaz]
  subst sl
  refine comp_map (src_list (Ok:=az H1) (λH' s'=>bo.of (s' _ _ hl))) (λ_ _ _ _ h=>by rw[h.1];exact az.refl _) (by rw[sizeLine_eq,aac];omega) (λi y H4=>y=.cB) (λi y H4 H5 s5 h=>h) ?_ ?_
  ·rintro i x w0 H4 H5 Q2 hi s4 ⟨rfl,ex⟩ kq
   simp_all only[]
   exact kq _ _ (az.refl _) rfl
  intro ys H2 s2 ly hy m n1 n2
  rw[aac] at ly
  have s3:az H1 (upd H2 m (.lst ys)):=s2.trans (ax n2)
  have nm:H m=none:=none_of (s1.trans s2) n2
  have JE:(upd H2 m (.lst ys)) m=some (.lst ys):=ar
  generalize upd H2 m (.lst ys)=H3 at *
  refine⟨by omega,by omega,bJ (src_range (Ok:=λ_=>True)) (λi σ H'=>az H1 H'/\∃xs z5 z6 z7 z8,H' m=some (.lst xs)/\xs.length=sg.length/\(∃qs:Nat->Pl,∀j k,j<i->sg[j]?=some k->AO sg j (qs k)/\∃v,xs[k]?=some v/\Rep (cE H' m) (kY (qs k)) v)/\σ=[some (V.ref a),some (V.int 2),some (V.int (sg.length:Int)),some (V.ref l),some (V.ref m),z5,z6,z7,z8])
   ⟨s3,ys,_,_,_,_,JE,by omega,⟨λ_=>.fin (0,1),λj k hj=>absurd hj (abg _)⟩,rfl⟩ (λ_ _ _ _ _=>trivial) ?_ ?_⟩
  ·intro i x σ H4 H5 hi df dk
   refine(?_:let G_:Prop:=_;G_)
   intro G_
   obtain⟨s4,xs,z5,z6,z7,z8,hm,lx,⟨qs,gx⟩,rfl⟩:=df
   obtain⟨rfl,rfl⟩:=dk
   dsimp only[G_]
   have hi:i<sg.length:=by have:i< ((sg.length:Nat):Int).toNat:=hi;omega
   obtain⟨k,hk⟩:∃k,sg[i]?=some k:=⟨_,aad hi⟩
   have kn:k<sg.length:=List.mem_range.mp (pm.mem_iff.mp (aag hk))
   have at_:∀t:Int,0<=t->t< (sg.length:Int)->∃k':Nat,k'<sg.length/\sg[t.toNat]?=some k'/\fc (List.map eK sg) t=some (V.int (k':Int)):=λt t0 t1=>by
    obtain⟨j,rfl⟩:=aau t0
    obtain⟨k',Eh⟩:∃k',sg[j]?=some k':=⟨_,aad (by omega)⟩
    exact⟨k',List.mem_range.mp (pm.mem_iff.mp (aag Eh)),by rw[aai];exact Eh,nE (f:=eK) Eh⟩
   have ak:fc (List.map eK sg) ((0:Int)+ (i:Int))=some (V.int (k:Int)):=by rw[Int.zero_add];exact nE (f:=eK) hk
   have kx:xW xs.length (k:Int)=some k:=by
    unfold xW
    rw[if_pos (by omega),if_pos (by omega)]
    simp
   have xA:=s4 _ _ hl
   have fin:∀H6 v q,az H5 H6->Rep (cE H6 m) (kY q) v->AO sg i q->az H1 (upd H6 m (.lst (xs.set k v)))/\∃iD,upd H6 m (.lst (xs.set k v)) m=some (.lst iD)/\iD.length=sg.length/\(∃qs:Nat->Pl,∀j k',j<i+1->sg[j]?=some k'->AO sg j (qs k')/\∃v',iD[k']?=some v'/\Rep (cE (upd H6 m (.lst (xs.set k v))) m) (kY (qs k')) v'):=λH6 v q s6 r6 g6=>by
    have sh:az (cE H6 m) (cE (upd H6 m (.lst (xs.set k v))) m):=eC qO (if_pos rfl)
    refine⟨ba (s4.trans s6) (none_of s2 n2),_,ar,by rw[aaU];exact lx,λk'=>if k'=k then q else qs k',λj k' hj Eh=>?_⟩
    by_cases ck:k'=k
    ·subst ck
     have ji:j=i:=Lv.zI pm Eh hk
     subst ji
     dsimp only
     rw[if_pos rfl]
     exact⟨g6,v,by rw[aa1 (by omega)],r6.mono sh⟩
    ·have:j<i:=by
      by_cases cj:j=i
      ·subst cj
       rw[hk] at Eh
       cases Eh
       exact absurd rfl ck
      ·omega
     dsimp only
     rw[if_neg ck]
     refine(?_:let G_:Prop:=_;G_)
     intro G_
     obtain⟨g',v',e',r'⟩:=gx j k' this Eh
     dsimp only[G_]
     exact⟨g',v',by rw[aaO (Ne.symm ck)];exact e',(r'.mono (bI s6)).mono sh⟩
   have GA:∀{H6:Hp} {p:Addr},az H5 H6->H6 p=none->p≠m:=λs6 np z=>by rw[z,s6 _ _ hm] at np;cases np
   simp_all only[FQ,eP,AQ,AR]
   refine⟨ns,(s1.trans s4).seq hS,by omega,by omega,λcc=>⟨by decide,λkd kd0 kd1=>?_⟩⟩
   have si:(0:Int)+ (i:Int)< (sg.length:Int):=by omega
   have fe:∀(p:Addr) (H':Hp) (a:Int×Int),az H5 H'->H5 p=none->H' p=some (HO.tup [V.int a.fst,V.int a.snd])->GS a->∀(p1:Addr) (H6:Hp),az H' H6->H' p1=none->H6 p1=some (HO.tup [V.str (Str.ofString "end"),V.ref p])->Rep (cE H6 m) (kY (.fin a)) (.ref p1):=λp H' a s' n' e' _ p1 H6 s6 n6 e6=>by
    refine c6.mpr ⟨p1,p,rfl,?_,?_⟩
    ·rw[bE (GA s' n6)];exact e6
    ·rw[bE (GA (az.refl _) n')];exact s6 _ _ e'
   refine gP (λ_=>?_) (λc0=>gP (λ_=>?_) (λ_=>gP (λ_=>?_) (λ_=>?_)))
   ·refine⟨by omega,by omega,λp H6 w s6 n6 e6 g6=>⟨by decide,λp1 H7 s7 n7 e7=>?_⟩⟩
    refine(?_:let G_:Prop:=_;G_)
    intro G_
    obtain⟨x1,x2,x3,x4,x5⟩:=fin H7 (.ref p1) (.fin w) (s6.trans s7) (fe p H6 w s6 n6 e6 g6 p1 H7 s7 n7 e7) ⟨g6,trivial⟩
    dsimp only[G_]
    exact⟨_,(s6.trans s7) _ _ xA,_,ak,_,_,rfl,(s6.trans s7) _ _ hm,k,kx,x1,x2,x3,x4,x5,_,rfl⟩
   ·refine⟨by omega,by omega,λp H6 w s6 n6 e6 g6=>⟨by decide,λp1 H7 s7 n7 e7=>?_⟩⟩
    refine(?_:let G_:Prop:=_;G_)
    intro G_
    obtain⟨x1,x2,x3,x4,x5⟩:=fin H7 (.ref p1) (.fin w) (s6.trans s7) (fe p H6 w s6 n6 e6 g6 p1 H7 s7 n7 e7) ⟨g6,trivial⟩
    dsimp only[G_]
    exact⟨_,(s6.trans s7) _ _ xA,_,ak,_,_,rfl,(s6.trans s7) _ _ hm,k,kx,x1,x2,x3,x4,x5,_,rfl⟩
   ·refine⟨by omega,si,λt H6 ts s6 e6 w6 sure l0 l6=>⟨⟨_,bo.of e6⟩,?_⟩⟩
    have Dd:=s6 _ _ xA
    refine(?_:let G_:Prop:=_;G_)
    intro G_
    obtain⟨x0,Zq,Zr⟩:=sure
    dsimp only[G_]
    obtain⟨i0,VZ⟩:=aaD Zq
    refine fm (K:=K) (src_list (Ok:=az H6) (λH' s'=>bo.of (s' _ _ e6))) (λj a b H3=>∃w t,a=.int w/\b=.int t/\(1<=w/\w<=200000)/\0<=t/\t< (sg.length:Int)/\(j=i0->t< (i:Int))) (λj x H7 H8 hj s7 ⟨e,ex⟩=>?_) (by rw[sizeLine_eq];omega) (λj y H7=>∃q:Int×Int,Rep H7 (bB q) y/\(1<=q.1/\q.1<=200000/\0<=q.2/\q.2< (sg.length:Int))/\(j=i0->∃j',j'<i/\sg[j']?=some q.2.toNat)) (λj y H7 H8 s8 ⟨q,r,z⟩=>⟨q,r.mono s8,z⟩) ?_ ?_
    ·subst e
     refine(?_:let G_:Prop:=_;G_)
     intro G_
     obtain⟨q,w,t',rfl,hq,w0,t0,t1⟩:=w6 x (aag ex)
     dsimp only[G_]
     refine⟨az.refl _,q,_,_,rfl,eL.of (s7 _ _ hq),w,t',rfl,rfl,w0,t0,t1,λz=>?_⟩
     subst z
     rw[VZ] at ex
     cases ex
     refine(?_:let G_:Prop:=_;G_)
     intro G_
     obtain⟨q2,w2,t2,e2,zq,_,_,t12⟩:=Zr
     dsimp only[G_]
     cases e2
     rw[hq] at zq
     cases zq
     omega
    ·intro j a b H7 Q7 hj s7 dk kq
     refine(?_:let G_:Prop:=_;G_)
     intro G_
     obtain⟨w,t',rfl,rfl,w0,t0,t1,t2⟩:=dk
     obtain⟨k',k1',zG,Nk⟩:=at_ t' t0 t1
     dsimp only[G_]
     simp_all only[s7 _ _ Dd,Nk]
     exact⟨by decide,λq H8 s8 n8 e8=>kq _ _ s8 ⟨(w,(k':Int)),bQ.mpr ⟨q,rfl,e8⟩,⟨w0.1,w0.2,by show(0:Int)<=(k':Int);omega,by show(k':Int)< (sg.length:Int);omega⟩,λz=>⟨t'.toNat,by have:=t2 z;omega,zG⟩⟩⟩
    ·intro us H7 s7 lu hu D n8 n9
     refine(?_:let G_:Prop:=_;G_)
     intro G_
     obtain⟨ws,mS,lw,V0⟩:=C3 (f:=bB) (P:=λj (q:Int×Int)=>(1<=q.1/\q.1<=200000/\0<=q.2/\q.2< (sg.length:Int))/\(j=i0->∃j',j'<i/\sg[j']?=some q.2.toNat)) (H:=H7) (xs:=us) λj x ex=>hu j x ex
     dsimp only[G_]
     refine⟨by omega,by omega,λp H9 w s9 Ln e9 g9=>⟨by decide,λp1 Ds Lo JQ e10=>?_⟩⟩
     have V3:=s6.trans (s7.trans ((ax (o:=.lst us) n9).trans s9))
     have GB:=V3.trans Lo
     have mD:D≠m:=GA (s6.trans s7) n9
     have mp:p≠m:=GA (s6.trans (s7.trans (ax (o:=.lst us) n9))) Ln
     have Nl:p1≠m:=GA V3 JQ
     have rm:bf (cE Ds m) (ws.map bB) us:=by
      refine dh lw.symm λj y ey q eq=>?_
      refine(?_:let G_:Prop:=_;G_)
      intro G_
      obtain⟨d,ed,rd⟩:=mS.get ey
      dsimp only[G_]
      rw[aaf,eq] at ed
      cases ed
      refine(?_:let G_:Prop:=_;G_)
      intro G_
      obtain⟨tt,rfl,GC⟩:=bQ.mp rd
      dsimp only[G_]
      refine bQ.mpr ⟨tt,rfl,?_⟩
      have h1:=(s6.trans s7) _ _ hm
      rw[bE (λz=>by rw[z,h1] at GC;cases GC)]
      exact Lo _ _ (s9 _ _ (ax n9 _ _ GC))
     have li:i0<ws.length:=by have:=(List.getElem?_eq_some_iff.mp VZ).1;omega
     have ld:AO sg i (.dq w ws):=by
      refine⟨⟨g9,by omega,by omega,λx hx=>?_⟩,ws[i0],aao li,(V0 i0 _ (aad li)).2 rfl⟩
      obtain⟨j,ej⟩:=aaD hx
      exact(V0 j x ej).1
     obtain⟨x1,x2,x3,x4,x5⟩:=fin Ds (.ref p1) (.dq w ws) GB (cW.mpr ⟨p1,p,D,us,rfl,by rw[bE Nl];exact e10,by rw[bE mp];exact Lo _ _ e9,by rw[bE mD];exact Lo _ _ (s9 _ _ ar),rm⟩) ld
     exact⟨_,GB _ _ xA,_,ak,_,_,rfl,GB _ _ hm,k,kx,x1,x2,x3,x4,x5,_,rfl⟩
   ·refine⟨by decide,λr r0 r1=>⟨by omega,by omega,?_⟩⟩
    refine comp_map src_range (λ_ _ _ _ h=>by rw[h.1];exact az.refl _) (by rw[sizeLine_eq];omega) (λj y H4=>∃t,y=.int t/\0<=t/\t< (sg.length:Int)/\∃j',j'<i/\sg[j']?=some t.toNat) (λi y H4 H5 s5 h=>h) ?_ ?_
    ·rintro j x w0 H6 H7 Q7 hj s6 ⟨rfl,rfl⟩ kq
     simp_all only[eP,s6 _ _ xA]
     refine⟨cH,by omega,λt t0 t1=>?_⟩
     refine(?_:let G_:Prop:=_;G_)
     intro G_
     obtain⟨k',k1,zG,Nk⟩:=at_ t t0 (by omega)
     dsimp only[G_]
     exact⟨_,Nk,kq _ _ (az.refl _) ⟨_,rfl,by omega,by omega,t.toNat,by omega,by rw[aai];exact zG⟩⟩
    ·intro us H6 s6 lu hu D n8 n9
     obtain⟨to,rfl⟩:∃to:List Int,us=to.map V.int:=by
      refine⟨us.map λv=>match v with | .int t=>t | _=>0,?_⟩
      rw[aaS]
      apply aa8
      intro j
      rw[aaf]
      cases ej:us[j]? with
      | none=>rfl
      | some y=>
       refine(?_:let G_:Prop:=_;G_)
       intro G_
       obtain⟨t,rfl,_⟩:=hu j y ej
       dsimp only[G_]
       rfl
     refine⟨by decide,λr' r0' r1'=>⟨by decide,λp1 H7 s7 Ln e7=>?_⟩⟩
     have Nn:=s6.trans ((ax (o:=.lst (List.map V.int to)) n9).trans s7)
     have mD:D≠m:=GA s6 n9
     have Nl:p1≠m:=GA (s6.trans (ax (o:=.lst (List.map V.int to)) n9)) Ln
     rw[aac] at lu
     have gt:∀g∈to,0<=g/\g< (sg.length:Int)/\∃j',j'<i/\sg[j']?=some g.toNat:=λg hg=>by
      obtain⟨j,ej⟩:=aaD hg
      obtain⟨t,e,t0,t1,t2⟩:=hu j (.int g) (by rw[aaf,ej];rfl)
      cases e
      exact⟨t0,t1,t2⟩
     obtain⟨x1,x2,x3,x4,x5⟩:=fin H7 (.ref p1) (.cC (1+r') to) Nn (cF.mpr ⟨p1,D,rfl,by rw[bE Nl];exact e7,by rw[bE mD];exact s7 _ _ ar⟩) ⟨⟨by omega,by omega,by omega,λg hg=>⟨(gt g hg).1,(gt g hg).2.1⟩⟩,λg hg=>(gt g hg).2.2⟩
     exact⟨_,Nn _ _ xA,_,ak,_,_,rfl,Nn _ _ hm,k,kx,x1,x2,x3,x4,x5,_,rfl⟩
  ·intro σ H4 bK
   refine(?_:let G_:Prop:=_;G_)
   intro G_
   obtain⟨s4,xs,z5,z6,z7,z8,hm,lx,⟨qs,gx⟩,rfl⟩:=bK
   dsimp only[G_]
   simp_all only[]
   have oV:∀x∈sg,x<sg.length:=λx hx=>List.mem_range.mp (pm.mem_iff.mp hx)
   have lq:((List.range sg.length).map qs).length=sg.length:=by rw[aac,aaz]
   refine kk m H4 ((List.range sg.length).map qs) _ (s1.trans s4) nm (aQ.mpr ⟨m,xs,rfl,hm,dh (by rw[lq];exact lx) λp y ey q eq=>?_⟩) lq (IL pm n0 n8 lq λk p q ek eq=>?_)
   ·have hp:p<sg.length:=by have:=(List.getElem?_eq_some_iff.mp ey).1;omega
    rw[aaf,aaW hp] at eq
    cases eq
    obtain⟨j,ej⟩:=aaD (pm.mem_iff.mpr (List.mem_range.mpr hp))
    obtain⟨_,v,ev,rv⟩:=gx j p (by have:=(List.getElem?_eq_some_iff.mp ej).1;simpa using this) ej
    rw[ey] at ev
    cases ev
    exact rv.mono bV
   ·have hp:=oV p (aag ek)
    rw[aaf,aaW hp] at eq
    cases eq
    exact(gx k p (by have:=(List.getElem?_eq_some_iff.mp ek).1;simpa using this) ek).1
theorem oN {n:Nat} {b:List Pl} (h:∀q∈b,uj n q) (l7:b.length<=7) {k:Nat} (k4:k<=4):0<PT b^k/\Bt 564 (PT b^k)/\PT b^k∣PT b^4:=by
 obtain⟨p0,p1,_⟩:=AZ h
 refine⟨Int.pow_pos p0,?_,⟨PT b^ (4 - k),by rw[<-Int.pow_add];congr 1;omega⟩⟩
 have b1:(PT b).natAbs<=2^140:=by
  have e:(1000000:Int)^b.length=((1000000^b.length:Nat):Int):=by rw[Int.natCast_pow];rfl
  have l:(1000000:Nat)^b.length<=1000000^7:=aa6 (by decide) l7
  have m:(1000000:Nat)^7<=2^140:=by decide +kernel
  rw[e] at p1
  omega
 unfold Bt
 rw[Int.natAbs_pow]
 have h1:(PT b).natAbs^k<=(2^140)^k:=Nat.pow_le_pow_left b1 k
 have h2:((2:Nat)^140)^k<=(2^140)^4:=aa6 (by decide +kernel) k4
 have h3:((2:Nat)^140)^4<2^564:=by decide +kernel
 exact abb (aap h1 h2) h3
theorem yz.up {Z Z':Int} {n:Nat} {s:Sd} (h:yz Z n s) (d:Z∣Z'):yz Z' n s:=⟨h.sz.up d (aaH _),h.nn,h.pl,h.me⟩
theorem yz.rm {n:Nat} {b:List Pl} {s:Sd} (ok:∀q∈b,uj n q) (l7:b.length<=7) {k m:Nat} (k4:k<=4) (h:yz (PT b^k) m s):Rm s.1:=by
 obtain⟨p0,p1,_⟩:=oN ok l7 k4
 exact h.sz.rm p0 (p1.mono (by decide)) (by decide) (Bt.mono (m:=1) (Bt.of 1 (by decide) (by decide)) (by decide))
theorem JS {x:Wq.Sh} (a:0<=x.1) (b:0<x.2):0<=Dg.vl x:=by
 have h:=D5 (x:=(0,1)) (y:=x) (by decide) b
 rw[show Dg.vl (0,1)=0 from Dg.IC] at h
 refine Rat.not_lt.mp λz=>?_
 have:=h.mpr z
 simp at this
 omega
theorem gp:aO ["_law_board_here","_law_place","_law_told","_law_who","_law_memory"] ["_law_board_here","_law_place","_law_told","_law_who","_law_memory"] (af (top 61)):=⟨rfl,rfl,rfl,by decide +kernel,rfl,by decide +kernel,by decide +kernel⟩
theorem GD (T:Txt K mg aB tc):bU P w K mg base (bL P w) 2 "_law_pick_at" ["_law_board_here","_law_place","_law_told","_law_who","_law_memory"] A2:=by
 have aW:bU P w K mg base (bL P w) 1 "_law_mixed" ["_law_cell_here","_law_many"] eP:=oM T
 refine T.nW.dZ (λ_ _ _ _ _ _=>Iy λ_ _ _ _ _=>rfl) λf fd F=>F.d8 gp (λvs H Q E h=>?_) (λcD A outer s H vs Q E hr h=>?_)
 ·obtain⟨_,_,_,_,_,_,_,_,_,_,_,rfl,_⟩:=h;rfl
 ·refine(?_:let G_:Prop:=_;G_)
  intro G_
  obtain⟨a,tl,p,who,me,b,rk,S,ks,w,to,rfl,rb,B,De,I,eb,kk⟩:=h
  dsimp only[G_]
  have nd:=gp.nd
  refine⟨_,(ae (b8 (aR sJ (aG aL (aG aJ (pv 0) (pv 1) (λ_ _=>rfl)) ag (λ_ _=>rfl)) (pv 3) (aX _)) (au (aP (aG aJ (pv 2) (pv 1) (λ_ _=>rfl))))
   bC)
  (au (aP (aI aW (hr.mono (by decide)) rfl aA.pass (aa (aE br (pv 4) (aE aT ag (pv 1))) (aa (aY bD (by rfl) T.z_len aaA (aa (aG aL (aG aJ (pv 0) (pv 1) (λ_ _=>rfl)) ag (λ_ _=>rfl)) ao (se rfl)) (he:=se rfl) (hpl:=na rfl)) ao (se rfl)) (se rfl)) (he:=se rfl) (hpl:=na rfl))))),?_⟩
  refine(?_:let G_:Prop:=_;G_)
  intro G_
  obtain⟨_,xs,e,ha,rl⟩:=aQ.mp rb
  dsimp only[G_]
  cases e
  refine(?_:let G_:Prop:=_;G_)
  intro G_
  obtain⟨v,ev,rq⟩:=dC rl eb
  have av:fc xs (p:Int)=some v:=bA ev
  obtain⟨t,l,rfl,ht,hl⟩:=cF.mp rq
  have pq:=B.ok _ (aag eb)
  obtain⟨k,ek,lk,vk⟩:=I.MJ B eb
  dsimp only[G_]
  simp_all only[ha,av,ht,hl,De,eP]
  by_cases c:w=who
  ·rw[if_neg (by simpa using c)]
   have l3:=pq.2.2.1
   refine⟨cH,by rw[aac];omega,λr r0 r1=>?_⟩
   obtain⟨j,rfl⟩:=aau r0
   rw[aac] at r1
   have lj:j<to.length:=by omega
   refine kk j lj ?_
   rw[aae,aad lj,Option.getD_some]
   subst c
   exact I.own eb pq.1 (aao lj)
  ·rw[if_pos c]
   exact⟨V.int (k:Int),bA (by rw[aaf,ek];rfl),kk k lk (Rl.eq vk)⟩
theorem iN:aO ["_law_board_here","_law_stands","_law_told","_law_who","_law_fresh","_law_got_here","_law_part","_law_place","_law_memory","_law_what","_law_to","_law_total","_law_k","_law_weight","_law_onward"] ["_law_board_here","_law_stands","_law_told","_law_who"] (af (top 62)):=⟨rfl,rfl,rfl,by decide +kernel,rfl,by decide +kernel,by decide +kernel⟩
theorem GF (T:Txt K mg aB tc):bU P w K mg base (bL P w) 3 "_law_round" ["_law_board_here","_law_stands","_law_told","_law_who"] A3:=by
 have oO:bU P w K mg base (bL P w) 2 "_law_pick_at" ["_law_board_here","_law_place","_law_told","_law_who","_law_memory"] A2:=GD T
 have dc:bU P w K mg base (bL P w) 1 "_law_low" ["_law_top","_law_bottom"] jG:=rS T
 have eV:bU P w K mg base (bL P w) 2 "_law_plus" ["_law_one","_law_other"] qp:=Bg T
 have el:bU P w K mg base (bL P w) 2 "_law_times" ["_law_one","_law_other"] qq:=Bh T
 refine T.rj.dZ (λ_ _ _ _ _ _=>CG λ_ _ _ _=>rfl) λf fd F=>F.d8 iN (λvs H Q E h=>?_) (λcD A outer s H vs Q E hr h=>?_)
 ·obtain⟨_,_,_,_,_,_,_,_,_,_,rfl,_⟩:=h;rfl
 ·refine(?_:let G_:Prop:=_;G_)
  intro G_
  obtain⟨a,sl,tl,who,b,rk,S,ks,ss,k,rfl,rb,B,l7,JT,De,I,gs,ls,k4,kk⟩:=h
  dsimp only[G_]
  clear G_
  have nd:=iN.nd
  refine⟨_,(ae (aF (i:=4) nd rfl (Or.inl rfl) (cM ao))
  (ae (aF (i:=5) nd rfl (Or.inl rfl) (bF (aa ag (aa ag ao (se rfl)) (se rfl))))
  (ae (bY PassesOwn.never rfl (bj (K:=K) (pv 1)) (bP (K:=K) (n:=3) rfl (aN (aD (i:=6) nd rfl (Or.inl rfl)) (aN (aD (i:=7) nd rfl (Or.inl rfl)) (aN (aD (i:=8) nd rfl (Or.inl rfl)) bN)))) (ae (aF (i:=9) nd rfl (Or.inl rfl) (aG aJ (pv 0) (pv 7) (λ_ _=>rfl)))
  (au (b8 (aR cK (aG aL (pv 9) ag (λ_ _=>rfl)) c4 (aX _)) (au (cN (dY aaL aaZ aa0 cm.r (pv 4) (aa (bF (aa (pv 6) (aa (pv 7) (aa (pv 8) ao (se rfl)) (se rfl)) (se rfl))) ao (se rfl)))))
   (au (b8 (aR cK (aG aL (pv 9) ag (λ_ _=>rfl)) c4 (aX _)) (ae (aF (i:=10) nd rfl (Or.inl rfl) (aG aJ (aG aL (pv 9) ag (λ_ _=>rfl)) (aI oO (hr.mono (by decide)) rfl aA.pass (aa (pv 0) (aa (pv 7) (aa (pv 2) (aa (pv 3) (aa (pv 8) ao (se rfl)) (se rfl)) (se rfl)) (se rfl)) (se rfl)) (he:=se rfl) (hpl:=na rfl)) (λ_ _=>rfl)))
  (au (cN (dY aaL aaZ aa0 cm.r (pv 4) (aa (bF (aa (pv 6) (aa (pv 10) (aa (aE cz (aE br (aE aT (pv 8) ag) (pv 7)) ag) ao (se rfl)) (se rfl)) (se rfl))) ao (se rfl))))))
   (ae (aF (i:=5) nd rfl (Or.inl rfl) (aI eV (hr.mono (by decide)) rfl aA.pass (aa (pv 5) (aa (aI el (hr.mono (by decide)) rfl aA.pass (aa (pv 6) (aa (aG aL (pv 9) ag (λ_ _=>rfl)) ao (se rfl)) (se rfl)) (he:=se rfl) (hpl:=na rfl)) ao (se rfl)) (se rfl)) (he:=se rfl) (hpl:=na rfl)))
  (ae (aF (i:=11) nd rfl (Or.inl rfl) (aY (gU (K:=K)) (by rfl) T.z_sum rfl (aa (bX rfl (N:=["_law_board_here","_law_stands","_law_told","_law_who","_law_fresh","_law_got_here","_law_part","_law_place","_law_memory","_law_what","_law_to","_law_total","_law_k","_law_weight","_law_onward"]) (so:=af (top 62)) (N':=["_law_weight","_law_to"]) (k:=2) (fr:=[]) rfl rfl ⟨rfl,by decide +kernel,by decide +kernel,by decide +kernel,rfl,by decide +kernel,by decide +kernel⟩ (bj (K:=K) (aG aL (pv 9) ag (λ_ _=>rfl))) (λ_ _ _ _ _=>(bP (K:=K) (n:=2) rfl (aN (aD (i:=0) (show(["_law_weight","_law_to"]:List Str).Nodup by decide +kernel) rfl (Or.inl rfl)) (aN (aD (i:=1) (show(["_law_weight","_law_to"]:List Str).Nodup by decide +kernel) rfl (Or.inl rfl)) bN)))) (λ_ _ _ _ _=>bO)
   (λ_ _ _ _ _=>(pv 0))) ao (se rfl)) (he:=se rfl) (hpl:=na rfl)))
  (au (bY PassesOwn.never rfl (cV rfl T.z_range (aa (aY bD (by rfl) T.z_len aaA (aa (aG aL (pv 9) ag (λ_ _=>rfl)) ao (se rfl)) (he:=se rfl) (hpl:=na rfl)) ao (se rfl))) (aD (i:=12) nd rfl (Or.inl rfl)) (ae (dQ (aG aJ (aG aL (pv 9) ag (λ_ _=>rfl)) (pv 12) (λ_ _=>rfl)) (bP (K:=K) (n:=2) rfl (aN (aD (i:=13) nd rfl (Or.inl rfl)) (aN (aD (i:=10) nd rfl (Or.inl rfl)) bN))))
  (ae (aF (i:=14) nd rfl (Or.inl rfl) (aE cz (aE br (aE br (aE aT (pv 8) ag) (aE aT ag (pv 12))) (pv 7)) ag))
  (au (cN (dY aaL aaZ aa0 cm.r (pv 4) (aa (bF (aa (aI el (hr.mono (by decide)) rfl aA.pass (aa (pv 6) (aa (aI dc (hr.mono (by decide)) rfl aA.pass (aa (pv 13) (aa (pv 11) ao (se rfl)) (se rfl)) (he:=se rfl) (hpl:=na rfl)) ao (se rfl)) (se rfl)) (he:=se rfl) (hpl:=na rfl)) (aa (pv 10) (aa (pv 14) ao (se rfl)) (se rfl)) (se rfl))) ao (se rfl)))))))))))))))))
  (au (aP (bF (aa (pv 4) (aa (pv 5) ao (se rfl)) (se rfl)))))))),?_⟩
  refine(?_:let cq:TS:=_;let cu:TS:=_;let cv:TS:=_;let dj:TS:=_;tSeq cq (tSeq cu (tSeq cv dj)) _ _ _)
  intro cq cu cv dj
  have sz:=sizeLine_eq
  refine(?_:let G_:Prop:=_;G_)
  intro G_
  obtain⟨_,xs,e,ha,rl⟩:=aQ.mp rb
  dsimp only[G_]
  clear G_
  cases e
  have lx:=rl.length
  rw[aac] at lx
  refine(?_:let G_:Prop:=_;G_)
  intro G_
  obtain⟨_,zs,e,JU,rz⟩:=aQ.mp JT
  dsimp only[G_]
  clear G_
  cases e
  have lz:=rz.length
  rw[aac] at lz
  simp_all only[]
  refine(?_:let G_:Prop:=_;G_)
  intro G_
  obtain⟨g0,gb,gd⟩:=B.bot
  obtain⟨P0,Pb,Pd⟩:=oN B.ok l7 (Nat.le_of_lt k4)
  obtain⟨Q0,Qb,_⟩:=oN B.ok l7 (k:=4) (aah _)
  dsimp only[G_]
  clear G_
  have Zs:(5:Nat)^k<=125:=aap (aa6 (by decide) (show k<=3 by omega)) (by decide)
  have Zp:0<PT b^4*gB b:=aaG Q0 g0
  have Zb:Bt 1950 (PT b^4*gB b):=(Qb.mul gb).mono (by decide)
  have V4:∀{i:Nat} {x:Wq.Sh},i<=125->jh (PT b^4*gB b) ((i:Int)*2^40) x->Rm x:=λ{i x} hi h=>h.rm Zp Zb (by omega) (Bt.mono (m:=47) (Bt.of (125*2^40) (by omega) (by omega)) (by decide))
  have Zt:jh (PT b^4*gB b) ((0:Nat)*2^40) (0,1):=⟨⟨by decide,by decide⟩,Int.one_dvd _,by unfold Wq.Vb;simp⟩
  refine⟨aar _,λp np=>⟨by decide,λgA H1 s1 ngA BJ=>?_⟩⟩
  have V5:=(ax (o:=.lst []) np).trans s1
  have Vc:=s1 _ _ (ar (H:=H) (a:=p) (o:=.lst []))
  refine⟨⟨_,bo.of (V5 _ _ JU)⟩,bJ (src_list (Ok:=az H) (λH2 s2=>bo.of (s2 _ _ JU)))
   (λi σ H'=>az H H'/\∃(ys:List V) (jj:List Sd) (gA:Addr) (gv:Wq.Sh) (z6 z7 z8 z9 jl GG Bi GH GI:Option V),H' p=some (.lst ys)/\bf (cE H' p) (jj.map C5) ys/\H' gA=some (.tup (Pr gv.1 gv.2))/\(∀s∈jj,yz (PT b^ (k+1)) b.length s)/\jj.length<=5*i/\jh (PT b^4*gB b) ((i:Int)*2^40) gv/\Rl who (eG (Dg.val S) jj+Dg.vl gv) (eG (Dg.val S) (ss.take i))/\σ=[some (V.ref a),some (V.ref sl),some (V.ref tl),some (V.int who),some (V.ref p),some (V.ref gA),z6,z7,z8,z9,jl,GG,Bi,GH,GI])
   ⟨V5,[],[],gA,(0,1),_,_,_,_,_,_,_,_,_,Vc,by simp [bf],BJ,(λs hs=>by simp at hs),aar _,Zt,Rl.eq (by show(0:Rat)+Dg.vl (0,1)=0;rw[show Dg.vl (0,1)=0 from Dg.IC];grind),rfl⟩ (λ_ _ _ _ h=>h.1) ?_ ?_⟩
  ·intro i v σ H2 H3 hi df dk
   refine(?_:let G_:Prop:=_;G_)
   intro G_
   obtain⟨sm,ys,jj,gA,gv,z6,z7,z8,z9,jl,GG,Bi,GH,GI,hp,ry,BJ,Hg,Np,BK,rel,rfl⟩:=df
   obtain⟨rfl,ex⟩:=dk
   obtain⟨d,ed,rd⟩:=rz.get ex
   rw[aaf] at ed
   obtain⟨sd,es,rfl⟩:=Option.map_eq_some_iff.mp ed
   obtain⟨t,r,rfl,ht,kj⟩:=kh.mp rd
   have oU:=gs sd (aag es)
   have Lp:=oU.rm B.ok l7 (Nat.le_of_lt k4)
   have tk:ss.take (i+1)=ss.take i++ [sd]:=by rw[aaC,es];rfl
   have si:=(List.getElem?_eq_some_iff.mp es).1
   have ly:=ry.length
   rw[aac] at ly
   obtain⟨part,pl,me⟩:=sd
   obtain⟨pn,Nq⟩:=aau oU.pl.1
   have Nq:pl=(pn:Int):=Nq
   subst Nq
   dsimp only[G_]
   clear G_
   have Zu:pn<b.length:=by have:=oU.pl.2;simp at this;omega
   obtain⟨q,eq⟩:∃q,b[pn]?=some q:=⟨_,aad Zu⟩
   refine(?_:let G_:Prop:=_;G_)
   intro G_
   obtain⟨v,ev,rq⟩:=dC rl eq
   dsimp only[G_]
   clear G_
   have av:fc xs (pn:Int)=some v:=bA ev
   have pq:=B.ok _ (aag eq)
   have rx:=rq.mono sm
   have V6:=oU.me
   have V7:0<=me:=V6.1
   have V8:me<1000003:=V6.2
   have Zv:0<=Dg.vl part:=JS oU.nn oU.sz.1.1
   have V9:ys.length<sizeLine:=by omega
   have d1:PT b^k∣PT b^ (k+1):=⟨PT b,by rw[Int.pow_succ]⟩
   have Wb:jh (PT b^4*gB b) (((i+1:Nat):Int)*2^40) gv:=BK.up (abc _) (by omega)
   have one:∀H4 v' s',az H3 H4->Rep (cE H4 p) (C5 s') v'->yz (PT b^ (k+1)) b.length s'->Rl who (Dg.vl s'.1*Dg.val S s'.2.1) (Dg.vl part*Dg.val S (pn:Int))->az H (upd H4 p (.lst (ys++ [v'])))/\∃BC,upd H4 p (.lst (ys++ [v'])) p=some (.lst BC)/\∃yD:List Sd,bf (cE (upd H4 p (.lst (ys++ [v']))) p) (yD.map C5) BC/\upd H4 p (.lst (ys++ [v'])) gA=some (.tup (Pr gv.1 gv.2))/\(∀s∈yD,yz (PT b^ (k+1)) b.length s)/\yD.length<=5* (i+1)/\Rl who (eG (Dg.val S) yD+Dg.vl gv) (eG (Dg.val S) (ss.take (i+1))):=λH4 v' s' s4 r4 g4 Zw=>by
    refine⟨ba (sm.trans s4) np,_,ar,jj++ [s'],?_,?_,λs hs=>?_,by rw[aaF];simp;omega,?_⟩
    ·rw[aaw,aav,aaP]
     exact jy (ry.mono (bI s4)) r4
    ·rw[aH (λzz=>by rw[zz,hp] at BJ;cases BJ)]
     exact s4 _ _ BJ
    ·rcases List.mem_append.mp hs with h | h
     ·exact Hg s h
     ·rw[List.mem_singleton.mp h];exact g4
    ·rw[tk,fA,fA,fB,fB]
     have:=rel.add Zw
     refine Rl.trans (Rl.eq ?_) this
     grind
   refine⟨t,_,rfl,eL.of (sm _ _ ht),rfl,?_⟩
   cases q with
   | fin g=>
    refine(?_:let G_:Prop:=_;G_)
    intro G_
    obtain⟨t',r2,rfl,ph,_⟩:=c6.mp rx
    dsimp only[G_]
    simp_all only[sm _ _ ha,av,ph,cO,tBM]
    refine⟨.inl ⟨rfl,_,bo.of hp⟩,by decide,λp1 H4 s4 n4 h4=>?_⟩
    have Nr:p1≠p:=λzz=>by rw[zz,hp] at n4;cases n4
    have Nt:r≠p:=λzz=>by rw[zz] at kj;rw[np] at kj;cases kj
    obtain⟨x1,BC,x2,Nu,x3,x4,x5,x6,x7⟩:=one H4 (.ref p1) (part,(pn:Int),me) s4 (kh.mpr ⟨p1,r,rfl,by rw[bE Nr];exact h4,by rw[bE Nt];exact s4 _ _ (sm _ _ kj)⟩) (oU.up d1) (Rl.eq rfl)
    exact⟨_,s4 _ _ hp,V9,x1,BC,x2,Nu,x3,gA,gv,x4,x5,x6,Wb,x7,rfl,_,rfl⟩
   | cC w to=>
    refine(?_:let G_:Prop:=_;G_)
    intro G_
    obtain⟨t',l',rfl,ph,oS⟩:=cF.mp rx
    dsimp only[G_]
    simp_all only[sm _ _ ha,av,ph,oS,cO,tBM,A2]
    rw[if_neg (by decide +kernel)]
    refine⟨tl,pn,rfl,rfl,b,rb.mono sm,rk,B,S,ks,sm _ _ De,I,w,to,eq,λj lj Zx=>?_⟩
    have mj:to[j]?=some (to.getD j 0):=by rw[aae,aad lj];rfl
    have gj:=pq.2.2.2 _ (aag mj)
    refine⟨_,bA (by rw[aaf,mj];rfl),.inl ⟨rfl,_,bo.of hp⟩,iQ,by decide,by decide,λp1 H4 s4 n4 h4=>?_⟩
    have Nr:p1≠p:=λzz=>by rw[zz,hp] at n4;cases n4
    have Nt:r≠p:=λzz=>by rw[zz] at kj;rw[np] at kj;cases kj
    obtain⟨x1,BC,x2,Nu,x3,x4,x5,x6,x7⟩:=one H4 (.ref p1) (part,to.getD j 0,(me*31+ (pn:Int)) % 1000003) s4 (kh.mpr ⟨p1,r,rfl,by rw[bE Nr];exact h4,by rw[bE Nt];exact s4 _ _ (sm _ _ kj)⟩) ⟨(oU.up d1).sz,oU.nn,gj,aaT _ (by decide),aa9 _ (by decide)⟩ (Zx.mul Zv)
    exact⟨_,s4 _ _ hp,V9,x1,BC,x2,Nu,x3,gA,gv,x4,x5,x6,Wb,x7,rfl,_,rfl⟩
   | dq g ws=>
    refine(?_:let G_:Prop:=_;G_)
    intro G_
    obtain⟨t',r2,l',us,rfl,Hb,Nv,DL,ru⟩:=cW.mp rq
    dsimp only[G_]
    clear G_
    have ph:=sm _ _ Hb
    have Dm:=sm _ _ Nv
    have oS:=sm _ _ DL
    simp_all only[sm _ _ ha,av,ph,oS,cO,tBM,qq,qp]
    rw[if_neg (by decide +kernel)]
    rw[if_neg (by decide +kernel)]
    have gg:=mJ pq
    have sg:jh (gB b) (2^40) g:=⟨gg.2.2,gd _ (aag eq),IQ gg⟩
    have Nw:jh (PT b^4*gB b) (((1:Nat):Int)*2^40) (Wq.tm part g):=(oU.sz.mul sg P0 g0).up (Int.mul_dvd_mul Pd (abc _)) (aaH _)
    refine⟨part,sm _ _ kj,g,Dm,Lp,⟨gg.1.mono (by decide),gg.2.1.mono (by decide),gg.2.2.1⟩,λr3 H4 s4 n4 h4=>⟨gv,s4 _ _ BJ,Wq.tm part g,h4,V4 (by omega) BK,V4 (by decide) Nw,λr4 H5 s5 n5 h5=>⟨_,(s4.trans s5) _ _ ph,_,rfl,l',rfl,⟨_,bo.of ((s4.trans s5) _ _ oS)⟩,?_⟩⟩⟩
    have Lq:=s4.trans s5
    have F6:=Lq _ _ oS
    refine(?_:let G_:Prop:=_;G_)
    intro G_
    obtain⟨gw,l0,Ee⟩:=pq
    have w3:=Ee.1
    obtain⟨t1,t9⟩:=Ee.tt
    dsimp only[G_]
    clear G_
    have K9:Dg.tt ws=Wq.bS ws:=by unfold Dg.tt;rw[if_neg (λz=>by rw[z] at l0;cases l0)]
    have lu:=ru.length
    rw[aac] at lu
    have SS:Src (uL K l') (az H5) ws.length (λi x H H3=>H3=H/\us[i]?=some x):=by rw[lu];exact src_list (λH' s'=>bo.of (s' _ _ F6))
    refine fS ws (λp=>some p.1) SS (λ_ _ _ _ h=>h.1) (by rw[sizeLine_eq];omega) ?_ ?_
    ·rintro i p x ep ⟨_,ex⟩
     refine(?_:let G_:Prop:=_;G_)
     intro G_
     obtain⟨tt,et,GC⟩:=cP ru ep
     dsimp only[G_]
     rw[ex] at et
     cases et
     refine⟨tt,_,_,rfl,eL.of (Lq _ _ (sm _ _ GC)),λY N y1 _=>?_⟩
     simp_all only[gD]
     exact y1 _ rfl
    intro D nD1 Zy
    rw[dI]
    have sD:=ax (o:=.lst (List.map V.int (ws.map (·.1)))) Zy
    refine⟨_,bo.of ar,_,sD _ _ (Lq _ _ ph),_,rfl,?_⟩
    have F9:=Lq.trans sD
    generalize upd H5 D (.lst (List.map V.int (ws.map (·.1))))=H6 at *
    have Zz:=F9 _ _ hp
    have ZA:=sm.trans F9
    have ZC:Dg.vl (Wq.pl gv (Wq.tm part g))=Dg.vl gv+Dg.vl part*Dg.vl g:=by rw[Dg.Ae BK.1.1 Nw.1.1,Dg.Af (x:=part) (y:=g) oU.sz.1.1 gg.2.2.1]
    have sgn:jh (PT b^4*gB b) (((i+1:Nat):Int)*2^40) (Wq.pl gv (Wq.tm part g)):=(BK.add Nw Zp).up (abc _) (by omega)
    generalize Wq.pl gv (Wq.tm part g)=Nx at *
    have W0:0<Wq.bS ws:=by omega
    have dW:Wq.bS ws∣PT b:=(AZ B.ok).2.2 _ (aag eq)
    refine⟨l',rfl,us,F9 _ _ oS,by omega,by omega,bJ (src_range (Ok:=λ_=>True))
     (λj σ H'=>az H H'/\∃(Hh:List V) (yD:List Sd) (jl Bi GH GI:Option V),H' p=some (.lst Hh)/\bf (cE H' p) (yD.map C5) Hh/\H' r4=some (.tup (Pr Nx.1 Nx.2))/\(∀s∈yD,yz (PT b^ (k+1)) b.length s)/\yD.length=jj.length+j/\eG (Dg.val S) yD=eG (Dg.val S) jj+Dg.vl part*Dg.cI (Wq.bS ws) (Dg.val S) (ws.take j)/\σ=[some (V.ref a),some (V.ref sl),some (V.ref tl),some (V.int who),some (V.ref p),some (V.ref r4),some (V.ref r),some (V.int (pn:Int)),some (V.int me),some (V.ref t'),jl,some (V.int (Wq.bS ws)),Bi,GH,GI])
     ⟨ZA,ys,jj,_,_,_,_,Zz,ry.mono (bI F9),sD _ _ h5,Hg,rfl,by show eG (Dg.val S) jj=eG (Dg.val S) jj+Dg.vl part*0;grind,rfl⟩ (λ_ _ _ _ _=>trivial) ?_ ?_⟩
    ·intro j v σ H7 H8 hj df dk
     refine(?_:let G_:Prop:=_;G_)
     intro G_
     obtain⟨GJ,Hh,yD,jl,Bi,GH,GI,GK,Lr,BH,Ny,Nz,sum2,rfl⟩:=df
     obtain⟨rfl,rfl⟩:=dk
     dsimp only[G_]
     clear G_
     have hj:j<us.length:=by simpa using hj
     obtain⟨y,ey⟩:∃y,ws[j]?=some y:=⟨_,aad (by omega)⟩
     refine(?_:let G_:Prop:=_;G_)
     intro G_
     obtain⟨tt,et,GC⟩:=cP ru ey
     obtain⟨wt,to⟩:=y
     obtain⟨y1,y2,y3⟩:=Ee.2 _ (aag ey)
     dsimp only[G_]
     clear G_
     have y1:1<=wt:=y1
     have y2:wt<=200000:=y2
     have ZD:wt<=Wq.bS ws:=by rw[<-K9];exact IP (λy hy=>(Ee.2 y hy).1) (aag ey)
     have z0:(0:Int)+ (j:Int)=(j:Int):=Int.zero_add _
     have ZE:=bA et
     have ZF:=Lr.length
     rw[aac] at ZF
     simp_all only[GJ _ _ Hb,GJ _ _ DL,z0,ZE]
     refine⟨tt,_,rfl,eL.of (GJ _ _ GC),rfl,?_⟩
     simp_all only[cO,tBM,qq,jG]
     obtain⟨lp,ln⟩:=A0 (w:=wt) (d:=Wq.bS ws) (by omega) ZD W0
     have ZG:=FR (w:=wt) (d:=Wq.bS ws) (by omega) (by omega) W0 (by omega)
     refine⟨iQ,cH,by decide,.inl ⟨rfl,_,bo.of GK⟩,W0,Bt.mono (m:=20) (Bt.of 1000000 (by omega) (by omega)) (by decide),λq1 H9 s9 n9 h9=>⟨part,s9 _ _ (GJ _ _ kj),Wq.low wt (Wq.bS ws),h9,Lp,ZG,λq2 HA sA nA hA=>⟨by decide,λq3 HB sB nB hB=>?_⟩⟩⟩
     have Lu:=s9.trans (sA.trans sB)
     have MR:q2≠p:=λzz=>by rw[zz,s9 _ _ GK] at nA;cases nA
     have JR:q3≠p:=λzz=>by rw[zz,sA _ _ (s9 _ _ GK)] at nB;cases nB
     have NA:yz (PT b^ (k+1)) b.length (Wq.tm part (Wq.low wt (Wq.bS ws)),to,(me*31+7* (j:Int)+ (pn:Int)) % 1000003):=by
      refine⟨(oU.sz.mul lp P0 W0).up ?_ (aaH _),IW oU.nn ln oU.sz.1.1 lp.1.1,y3,aaT _ (by decide),aa9 _ (by decide)⟩
      rw[Int.pow_succ]
      exact Int.mul_dvd_mul (abc _) dW
     refine⟨Hh,Lu _ _ GK,by omega,ba (GJ.trans Lu) np,_,ar,yD++ [(Wq.tm part (Wq.low wt (Wq.bS ws)),to,(me*31+7* (j:Int)+ (pn:Int)) % 1000003)],?_,?_,λs hs=>?_,by rw[aaF,Nz];rfl,?_,_,rfl⟩
     ·rw[aaw,aav,aaP]
      exact jy (Lr.mono (bI Lu)) (kh.mpr ⟨q3,q2,rfl,by rw[bE JR];exact hB,by rw[bE MR];exact sB _ _ hA⟩)
     ·rw[aH (λzz=>by rw[zz,GK] at BH;cases BH)]
      exact Lu _ _ BH
     ·rcases List.mem_append.mp hs with h | h
      ·exact Ny s h
      ·rw[List.mem_singleton.mp h];exact NA
     ·rw[fA,fB,sum2,aaC,ey]
      show _+Dg.vl (Wq.tm part (Wq.low wt (Wq.bS ws)))*Dg.val S to=_+_*Dg.cI _ _ (ws.take j++ [(wt,to)])
      rw[uu,Dg.Af (x:=part) oU.sz.1.1 lp.1.1,Dg.rF W0]
      show _=_+_* (_+ ((wt:Rat) / ((Wq.bS ws:Int):Rat)*Dg.val S to+0))
      generalize (wt:Rat) / ((Wq.bS ws:Int):Rat)=u
      grind
    ·intro σ H7 bK
     refine(?_:let G_:Prop:=_;G_)
     intro G_
     obtain⟨GJ,Hh,yD,jl,Bi,GH,GI,GK,Lr,BH,Ny,Nz,sum2,rfl⟩:=bK
     dsimp only[G_]
     rw[aaE (by rw[aai];omega)] at sum2
     refine⟨GJ,Hh,GK,yD,Lr,r4,Nx,BH,Ny,by rw[Nz,aai];omega,sgn,?_,_,_,_,_,_,_,_,_,_,rfl⟩
     rw[tk,fA,fB,sum2,ZC]
     refine Rl.trans (Rl.eq ?_) (rel.add (Rl.eq rfl))
     show _=eG (Dg.val S) jj+Dg.vl gv+Dg.vl part*Dg.val S (pn:Int)
     rw[I.dq B eq]
     grind
  ·intro σ H2 bK
   refine(?_:let G_:Prop:=_;G_)
   intro G_
   obtain⟨sm,ys,jj,gA,gv,z6,z7,z8,z9,jl,GG,Bi,GH,GI,hp,ry,BJ,Hg,Np,BK,rel,rfl⟩:=bK
   dsimp only[G_]
   simp_all only[]
   rw[aaE (by omega)] at rel
   refine⟨by decide,λt H3 s3 n3 h3=>kk t p gA jj gv H3 (sm.trans s3) h3 (aQ.mpr ⟨p,ys,rfl,s3 _ _ hp,(ry.mono bV).mono s3⟩) (s3 _ _ BJ) Hg ?_ (BK.up (abc _) (by omega)) rel⟩
   rw[Nat.pow_succ]
   omega
theorem kP:aO ["_law_board_here","_law_told","_law_worths","_law_who","_law_start","_law_turns","_law_memory","_law_stands","_law_total","_law_turn","_law_got_here","_law_part","_law_place"] ["_law_board_here","_law_told","_law_worths","_law_who","_law_start","_law_turns","_law_memory"] (af (top 63)):=⟨rfl,rfl,rfl,by decide +kernel,rfl,by decide +kernel,by decide +kernel⟩
theorem JV (T:Txt K mg aB tc):bU P w K mg base (bL P w) 4 "_law_sum" ["_law_board_here","_law_told","_law_worths","_law_who","_law_start","_law_turns","_law_memory"] C7:=by
 have rV:bU P w K mg base (bL P w) 3 "_law_round" ["_law_board_here","_law_stands","_law_told","_law_who"] A3:=GF T
 have eV:bU P w K mg base (bL P w) 2 "_law_plus" ["_law_one","_law_other"] qp:=Bg T
 have el:bU P w K mg base (bL P w) 2 "_law_times" ["_law_one","_law_other"] qq:=Bh T
 refine T.vA.dZ (λ_ _ _ _ _ _ us hl=>match us,hl with | [_,_,_,_,_,_,_],_=>rfl) λf fd F=>F.d8 kP (λvs H Q E h=>?_) (λcD A outer s H vs Q E hr h=>?_)
 ·obtain⟨_,_,_,_,_,_,_,_,_,_,_,rfl,_⟩:=h;rfl
 ·refine(?_:let G_:Prop:=_;G_)
  intro G_
  obtain⟨a,tl,wl,who,st,tn,me,b,rk,S,ks,rfl,rb,B,l7,De,ZH,I,hst,Hi,V7,V8,kk⟩:=h
  dsimp only[G_]
  clear G_
  have nd:=kP.nd
  refine⟨_,(ae (aF (i:=7) nd rfl (Or.inl rfl) (cM (aa (bF (aa (bF (aa ag (aa ag ao (se rfl)) (se rfl))) (aa (pv 4) (aa (pv 6) ao (se rfl)) (se rfl)) (se rfl))) ao (se rfl))))
  (ae (aF (i:=8) nd rfl (Or.inl rfl) (bF (aa ag (aa ag ao (se rfl)) (se rfl))))
  (ae (bY PassesOwn.never rfl (cV rfl T.z_range (aa (pv 5) ao (se rfl))) (aD (i:=9) nd rfl (Or.inl rfl)) (ae (dQ (aI rV (hr.mono (by decide)) rfl aA.pass (aa (pv 0) (aa (pv 7) (aa (pv 1) (aa (pv 3) ao (se rfl)) (se rfl)) (se rfl)) (se rfl)) (he:=se rfl) (hpl:=na rfl)) (bP (K:=K) (n:=2) rfl (aN (aD (i:=7) nd rfl (Or.inl rfl)) (aN (aD (i:=10) nd rfl (Or.inl rfl)) bN))))
  (au (aF (i:=8) nd rfl (Or.inl rfl) (aI eV (hr.mono (by decide)) rfl aA.pass (aa (pv 8) (aa (pv 10) ao (se rfl)) (se rfl)) (he:=se rfl) (hpl:=na rfl))))))
  (ae (bY PassesOwn.never rfl (bj (K:=K) (pv 7)) (bP (K:=K) (n:=3) rfl (aN (aD (i:=11) nd rfl (Or.inl rfl)) (aN (aD (i:=12) nd rfl (Or.inl rfl)) (aN (aD (i:=6) nd rfl (Or.inl rfl)) bN)))) (au (aF (i:=8) nd rfl (Or.inl rfl) (aI eV (hr.mono (by decide)) rfl aA.pass (aa (pv 8) (aa (aI el (hr.mono (by decide)) rfl aA.pass (aa (pv 11) (aa (aG aJ (pv 2) (pv 12) (λ_ _=>rfl)) ao (se rfl)) (se rfl)) (he:=se rfl) (hpl:=na rfl)) ao (se rfl)) (se rfl)) (he:=se rfl) (hpl:=na rfl)))))
  (au (aP (pv 8))))))),?_⟩
  refine(?_:let cq:TS:=_;let cu:TS:=_;let cv:TS:=_;let dj:TS:=_;let iE:TS:=_;tSeq cq (tSeq cu (tSeq cv (tSeq dj iE))) _ _ _)
  intro cq cu cv dj iE
  have sz:=sizeLine_eq
  simp_all only[]
  refine(?_:let G_:Prop:=_;G_)
  intro G_
  obtain⟨g0,gb,gd⟩:=B.bot
  obtain⟨Q0,Qb,_⟩:=oN B.ok l7 (k:=4) (aah _)
  have S0:=I.sz.pos
  have Zp:0<PT b^4*S.2:=aaG Q0 S0
  have Zb:Bt 1950 (PT b^4*S.2):=(Qb.mul I.sz.bb).mono (by decide)
  have gS:PT b^4*gB b∣PT b^4*S.2:=Int.mul_dvd_mul (abc _) I.dv
  have Bz:(625*2^974+500*2^40:Nat)<2^1000:=by decide +kernel
  have JW:(2:Int)^974=((2^974:Nat):Int):=by rw[Int.natCast_pow];rfl
  have JX:∀{i j:Nat} {x:Wq.Sh},i<=625->j<=500->jh (PT b^4*S.2) ((i:Int)*2^974+ (j:Int)*2^40) x->Rm x:=λ{i j x} hi hj h=>by
   have m1:i*2^974<=625*2^974:=abw _ hi
   refine h.rm Zp Zb (Int.add_nonneg (Int.mul_nonneg (by omega) (Int.pow_nonneg (by decide))) (by omega)) ?_
   have e:(i:Int)*2^974=((i*2^974:Nat):Int):=by rw[JW,Int.natCast_mul]
   rw[e]
   refine Bt.mono (m:=1000) ?_ (by decide)
   unfold Bt
   generalize i*2^974=u at *
   generalize (2:Nat)^1000=z at *
   generalize 625* (2:Nat)^974=y at *
   omega
  obtain⟨_,ws,e,zc,mS⟩:=aQ.mp ZH
  dsimp only[G_]
  clear G_
  cases e
  refine⟨by decide,λq1 H1 s1 n1 h1=>⟨by decide,λq2 H2 s2 n2 h2=>⟨by decide,λsl ZI=>⟨by decide,λtA H3 s3 n3 h3=>⟨by omega,by omega,?_⟩⟩⟩⟩⟩
  have BI:=(ax (o:=.lst [V.ref q2]) ZI).trans s3
  have ZJ:=s1.trans (s2.trans BI)
  have NB:=s3 _ _ (ar (H:=H2) (a:=sl) (o:=.lst [V.ref q2]))
  have IB:Dg.vl (1,1)=1:=by show((1:Int):Rat) / ((1:Int):Rat)=1;exact Dg.IB
  refine bJ (src_range (Ok:=λ_=>True))
   (λi σ H'=>az H H'/\∃(sl tA:Addr) (ss:List Sd) (x:Wq.Sh) (z9 jl:Option V),Rep H' (.lst (ss.map C5)) (.ref sl)/\H' tA=some (.tup (Pr x.1 x.2))/\(∀s∈ss,yz (PT b^i) b.length s)/\ss.length<=5^i/\jh (PT b^4*gB b) (((125*i:Nat):Int)*2^40) x/\Rl who (eG (Dg.val S) ss+Dg.vl x) (Dg.val S (st:Int))/\σ=[some (V.ref a),some (V.ref tl),some (V.ref wl),some (V.int who),some (V.int (st:Int)),some (V.int (tn:Int)),some (V.int me),some (V.ref sl),some (V.ref tA),z9,jl,none,none])
   ⟨ZJ,sl,tA,[((1,1),(st:Int),me)],(0,1),_,_,aQ.mpr ⟨sl,_,rfl,NB,dh rfl λi y ey a ea=>?_⟩,h3,λs hs=>?_,aah 1,⟨⟨by decide,by decide⟩,Int.one_dvd _,by unfold Wq.Vb;simp⟩,Rl.eq ?_,rfl⟩ (λ_ _ _ _ _=>trivial) ?_ ?_
  ·have:i<1:=(List.getElem?_eq_some_iff.mp ey).1
   rw[show i=0 by omega] at ey ea
   cases ey
   cases ea
   exact kh.mpr ⟨q2,q1,rfl,BI _ _ h2,(s2.trans BI) _ _ h1⟩
  ·rw[List.mem_singleton.mp hs]
   exact⟨⟨⟨by show(0:Int)<1;decide,by show Nm.g 1 1=1;decide⟩,Int.one_dvd _,by show -(1*1:Int)<=1/\(1:Int)<=1*1;decide⟩,by show(0:Int)<=1;decide,⟨by show(0:Int)<=(st:Int);omega,by show(st:Int)< (b.length:Int);omega⟩,V7,V8⟩
  ·rw[fB]
   show Dg.vl (1,1)*Dg.val S (st:Int)+Dg.vl (0,1)=_
   rw[IB,show Dg.vl (0,1)=0 from Dg.IC]
   grind
  ·intro i v σ H4 H5 hi df dk
   refine(?_:let G_:Prop:=_;G_)
   intro G_
   obtain⟨sm,sl,tA,ss,x,z9,jl,JT,NC,gs,ls,sx,rel,rfl⟩:=df
   obtain⟨rfl,rfl⟩:=dk
   dsimp only[G_]
   have hi:i<tn:=by simpa using hi
   simp_all only[A3]
   refine⟨b,rb.mono sm,rk,B,l7,S,ks,ss,JT,sm _ _ De,I,i,gs,ls,by omega,λt fl gA jj gv H6 s6 ht ND BJ Hg Np BK NF=>⟨t,_,rfl,eL.of ht,rfl,?_⟩⟩
   simp_all only[qp]
   have ZK:=sx.up gS (aaH _)
   have NG:=BK.up gS (aaH _)
   have rx:Rm x:=JX (i:=0) (j:=125*i) (by decide) (by omega) (by simpa using ZK)
   have rg:Rm gv:=JX (i:=0) (j:=125) (by decide) (by decide) (by simpa using NG)
   refine⟨x,s6 _ _ NC,gv,BJ,rx,rg,λr H7 s7 n7 h7=>⟨sm.trans (s6.trans s7),fl,r,jj,ND.mono s7,Wq.pl x gv,h7,Hg,Np,(sx.add BK (aaG Q0 g0)).up (abc _) (by omega),?_,rfl,rfl,_,rfl⟩⟩
   rw[Dg.Ae sx.1.1 BK.1.1]
   have:=NF.add (Rl.eq (who:=who) (x:=Dg.vl x) rfl)
   refine Rl.trans (Rl.eq ?_) (Rl.trans this rel)
   grind
  ·intro σ H4 bK
   refine(?_:let G_:Prop:=_;G_)
   intro G_
   obtain⟨sm,sl,tA,ss,x,z9,jl,JT,NC,gs,ls,sx,rel,rfl⟩:=bK
   rw[aai] at gs ls sx
   have P4:PT b^tn∣PT b^4:=(oN B.ok l7 Hi).2.2
   obtain⟨_,zs,e,JU,rz⟩:=aQ.mp JT
   dsimp only[G_]
   clear G_
   cases e
   have lz:=rz.length
   rw[aac] at lz
   have ZL:ss.length<=625:=aap ls (aap (aa6 (by decide) Hi) (by decide))
   simp_all only[]
   have ZM:jh (PT b^4*S.2) (((0:Nat):Int)*2^974+ ((500:Nat):Int)*2^40) x:=sx.up gS (by omega)
   refine⟨⟨_,bo.of JU⟩,bJ (src_list (Ok:=az H4) (λH2 s2=>bo.of (s2 _ _ JU)))
    (λi σ H'=>az H4 H'/\∃(tB:Addr) (y:Wq.Sh) (z6 GG Bi:Option V),H' tB=some (.tup (Pr y.1 y.2))/\jh (PT b^4*S.2) ((i:Int)*2^974+ ((500:Nat):Int)*2^40) y/\Dg.vl y=Dg.vl x+eG (Dg.val S) (ss.take i)/\σ=[some (V.ref a),some (V.ref tl),some (V.ref wl),some (V.int who),some (V.int (st:Int)),some (V.int (tn:Int)),z6,some (V.ref sl),some (V.ref tB),z9,jl,GG,Bi])
    ⟨az.refl _,tA,x,_,_,_,NC,ZM,by show _=Dg.vl x+0;grind,rfl⟩ (λ_ _ _ _ h=>h.1) ?_ ?_⟩
   ·intro i v σ H5 H6 hi df dk
    refine(?_:let G_:Prop:=_;G_)
    intro G_
    obtain⟨vX,tB,y,z6,GG,Bi,NH,sy,vy,rfl⟩:=df
    obtain⟨rfl,ex⟩:=dk
    obtain⟨d,ed,rd⟩:=rz.get ex
    rw[aaf] at ed
    obtain⟨sd,es,rfl⟩:=Option.map_eq_some_iff.mp ed
    obtain⟨t,r,rfl,ht,kj⟩:=kh.mp rd
    have oU:=gs sd (aag es)
    have Lp:=oU.rm B.ok l7 Hi
    have tk:ss.take (i+1)=ss.take i++ [sd]:=by rw[aaC,es];rfl
    have si:=(List.getElem?_eq_some_iff.mp es).1
    obtain⟨e1,sw,vw⟩:=vR I.sz (q:=sd.2.1) oU.pl.1 oU.pl.2
    obtain⟨pw,ep,Gs⟩:=cP mS e1
    dsimp only[G_]
    clear G_
    have Hj:=bA ep
    rw[aby oU.pl.1] at Hj
    have sT:jh (PT b^4*S.2) (((1:Nat):Int)*2^974+ ((0:Nat):Int)*2^40) (Wq.tm sd.1 (Wq.fh (gI S) sd.2.1)):=((oU.sz.up P4 (aaH _)).mul sw Q0 S0).up (abc _) (by omega)
    refine⟨t,_,rfl,eL.of (vX _ _ ht),rfl,?_⟩
    simp_all only[qq,qp,(sm.trans vX) _ _ zc,Hj]
    refine⟨sd.1,vX _ _ kj,Wq.fh (gI S) sd.2.1,(sm.trans vX) _ _ Gs,Lp,sw.rm S0 (I.sz.bb.mono (by decide)) (Int.pow_nonneg (by decide)) (by unfold Bt;decide +kernel),λr1 H7 s7 n7 h7=>⟨y,s7 _ _ NH,Wq.tm sd.1 (Wq.fh (gI S) sd.2.1),h7,JX (by omega) (by decide) sy,JX (by decide) (by decide) sT,λr2 H8 s8 n8 h8=>⟨vX.trans (s7.trans s8),r2,Wq.pl y (Wq.tm sd.1 (Wq.fh (gI S) sd.2.1)),h8,(sy.add sT Zp).up (abc _) ?_,?_,rfl,_,rfl⟩⟩⟩
    ·rw[JW]
     generalize (2:Nat)^974=u
     rw[Int.natCast_add,Int.add_mul]
     omega
    ·rw[Dg.Ae sy.1.1 sT.1.1,Dg.Af oU.sz.1.1 sw.1.1,vw,vy,tk,fA,fB]
     grind
   ·intro σ H5 bK
    refine(?_:let G_:Prop:=_;G_)
    intro G_
    obtain⟨vX,tB,y,z6,GG,Bi,NH,sy,vy,rfl⟩:=bK
    dsimp only[G_]
    simp_all only[]
    rw[aaE (by omega)] at vy
    refine kk tB y H5 (sm.trans vX) NH sy.1 (JX (by omega) (by decide) sy) ?_
    rw[vy]
    refine Rl.trans (Rl.eq ?_) rel
    grind
theorem Bj:aO ["_law_script","_law_n","_law_board_here","_law_worths","_law_told","_law_turns","_law_start","_law_memory","_law_who","_law_total"] ["_law_script"] (af (top 64)):=⟨rfl,rfl,rfl,by decide +kernel,rfl,by decide +kernel,by decide +kernel⟩
theorem GL (T:Txt K mg aB tc) (LB:o6 base mg tc tp) {f:Addr} {fd:FuncData} (F:u7 K "law" "law" (top 64) f fd):d7 P w K mg base (bL P w) 8 f fd ["_law_script"] (xu K tp):=by
 have cS:bU P w K mg base (bL P w) 1 "_law_cell" ["_law_script","_law_k"] (FQ K):=xF T
 have rW:bU P w K mg base (bL P w) 3 "_law_board" ["_law_script","_law_at","_law_n"] (D3 K):=Gz T
 have uE:bU P w K mg base (bL P w) 1 "_law_copy" ["_law_board_here"] vS:=Gy T
 have oP:bU P w K mg base (bL P w) 4 "_law_sum" ["_law_board_here","_law_told","_law_worths","_law_who","_law_start","_law_turns","_law_memory"] C7:=JV T
 have kQ:bU P w K mg base (bL P w) 1 "_law_less" ["_law_one","_law_other"] D6:=Gu T
 have GN:bU P w K mg base (bL P w) 7 "best" ["board"] (AX tp):=JM T LB
 refine F.d8 Bj (λvs H Q E h=>?_) (λcD A outer s H vs Q E hr h=>?_)
 ·obtain⟨_,_,rfl,_⟩:=h;rfl
 ·refine(?_:let G_:Prop:=_;G_)
  intro G_
  obtain⟨sa,ns,rfl,nO,hS,hlen,kk⟩:=h
  dsimp only[G_]
  clear G_
  have nd:=Bj.nd
  refine⟨_,(ae (aF (i:=1) nd rfl (Or.inl rfl) (aE br ag (aE cz (aI cS (hr.mono (by decide)) rfl aA.pass (aa (pv 0) (aa ag ao (se rfl)) (se rfl)) (he:=se rfl) (hpl:=na rfl)) ag)))
  (ae (aF (i:=2) nd rfl (Or.inl rfl) (aI rW (hr.mono (by decide)) rfl aA.pass (aa (pv 0) (aa ag (aa (pv 1) ao (se rfl)) (se rfl)) (se rfl)) (he:=se rfl) (hpl:=na rfl)))
  (ae (dQ (aI GN (hr.mono (by decide)) rfl aA.pass (aa (aI uE (hr.mono (by decide)) rfl aA.pass (aa (pv 2) ao (se rfl)) (he:=se rfl) (hpl:=na rfl)) ao (se rfl)) (he:=se rfl) (hpl:=na rfl)) (bP (K:=K) (n:=2) rfl (aN (aD (i:=3) nd rfl (Or.inl rfl)) (aN (aD (i:=4) nd rfl (Or.inl rfl)) bN))))
  (ae (aF (i:=5) nd rfl (Or.inl rfl) (aE br ag (aE cz (aI cS (hr.mono (by decide)) rfl aA.pass (aa (pv 0) (aa ag ao (se rfl)) (se rfl)) (he:=se rfl) (hpl:=na rfl)) ag)))
  (ae (aF (i:=6) nd rfl (Or.inl rfl) (aE cz (aI cS (hr.mono (by decide)) rfl aA.pass (aa (pv 0) (aa ag ao (se rfl)) (se rfl)) (he:=se rfl) (hpl:=na rfl)) (pv 1)))
  (ae (aF (i:=7) nd rfl (Or.inl rfl) (aE cz (aI cS (hr.mono (by decide)) rfl aA.pass (aa (pv 0) (aa ag ao (se rfl)) (se rfl)) (he:=se rfl) (hpl:=na rfl)) ag))
  (ae (bY PassesOwn.never rfl (bj (K:=K) (cM (aa ag (aa ag ao (se rfl)) (se rfl)))) (aD (i:=8) nd rfl (Or.inl rfl)) (ae (aF (i:=9) nd rfl (Or.inl rfl) (aI oP (hr.mono (by decide)) rfl aA.pass (aa (pv 2) (aa (pv 4) (aa (pv 3) (aa (pv 8) (aa (pv 6) (aa (pv 5) (aa (pv 7) ao (se rfl)) (se rfl)) (se rfl)) (se rfl)) (se rfl)) (se rfl)) (se rfl)) (he:=se rfl) (hpl:=na rfl)))
  (au (b8 (PW.pt (pw_or (PW.pt (pw_and (aR cK (pv 8) ag (aX _)) (pw_and1 (qz (aI kQ (hr.mono (by decide)) rfl aA.pass (aa (aG aJ (pv 3) (pv 6) (λ_ _=>rfl)) (aa (pv 9) ao (se rfl)) (se rfl)) (he:=se rfl) (hpl:=na rfl)))))) (pw_or1 (PW.pt (pw_and (aR cK (pv 8) ag (aX _)) (pw_and1 (qz (aI kQ (hr.mono (by decide)) rfl aA.pass (aa (pv 9) (aa (aG aJ (pv 3) (pv 6) (λ_ _=>rfl)) ao (se rfl)) (se rfl)) (he:=se rfl) (hpl:=na rfl))))))))) (au (aP Dz))
   bC))))
  (au (aP (qB (E6 hr.units) (aI oP (hr.mono (by decide)) rfl aA.pass (aa (pv 2) (aa (pv 4) (aa (pv 3) (aa ag (aa (pv 6) (aa (pv 5) (aa (pv 7) ao (se rfl)) (se rfl)) (se rfl)) (se rfl)) (se rfl)) (se rfl)) (se rfl)) (he:=se rfl) (hpl:=na rfl)) (aG aJ (pv 3) (pv 6) (λ_ _=>rfl)) (aX _))))))))))),?_⟩
  refine(?_:let cq:TS:=_;let cu:TS:=_;let cv:TS:=_;let dj:TS:=_;let iE:TS:=_;let Ba:TS:=_;let Ed:TS:=_;let Wc:TS:=_;tSeq cq (tSeq cu (tSeq cv (tSeq dj (tSeq iE (tSeq Ba (tSeq Ed Wc)))))) _ _ _)
  intro cq cu cv dj iE Ba Ed Wc
  have sl:=sizeLine_eq
  change tSeq _ _ _ _ _
  refine aV (λσ' H1=>H=H1/\∃n:Nat,0<n/\n<=7/\σ'=[some (.ref sa),some (.int (n:Int)),none,none,none,none,none,none,none,none]) ?_ (λN hN=>?_)
  case refine_2=>
   simp_all only[FQ]
   exact⟨ns,hS,by decide,by decide,λc=>⟨by decide,hN _ _ ⟨rfl,(1+c % 7).toNat,by omega,by omega,by rw[aby (by omega)]⟩⟩⟩
  intro _ _ bK
  refine(?_:let G_:Prop:=_;G_)
  intro G_
  obtain⟨rfl,n,n0,n8,rfl⟩:=bK
  dsimp only[G_]
  clear G_
  change tSeq _ _ _ _ _
  refine aV (λσ' H1=>∃bl b rk,az H H1/\Rep H1 (qN b) (.ref bl)/\b.length=n/\kI b rk/\σ'=[some (.ref sa),some (.int (n:Int)),some (.ref bl),none,none,none,none,none,none,none]) ?_ (λN hN=>?_)
  case refine_2=>
   simp_all only[]
   exact⟨sa,ns,n,rfl,hS,n0,by omega,λl H1 b rk s1 nl rb lb B=>hN _ _ ⟨l,b,rk,s1,rb,lb,B,rfl⟩⟩
  intro _ H1 bK
  refine(?_:let G_:Prop:=_;G_)
  intro G_
  obtain⟨bl,b,rk,s1,rb,lb,B,rfl⟩:=bK
  dsimp only[G_]
  clear G_
  change tSeq _ _ _ _ _
  refine aV (λσ' H2=>∃(l1 l2:Addr) (S:Dg.Bk) (ks:List (Option Int)),az H1 H2/\Rep H2 (.lst ((gI S).map bB)) (.ref l1)/\H2 l2=some (.lst (ks.map gE))/\fb b S ks/\σ'=[some (.ref sa),some (.int (n:Int)),some (.ref bl),some (.ref l1),some (.ref l2),none,none,none,none,none]) ?_ (λN hN=>?_)
  case refine_2=>
   simp_all only[vS,AX]
   refine⟨b,rb,by omega,λl xh H2 s2 n2 h2 r2=>⟨b,aQ.mpr ⟨l,xh,rfl,h2,r2.mono bV⟩,rk,B,(s1.trans s2) _ _ nO,λt l1 l2 S ks H3 s3 ht n1 n2 r1 h2 z dv bq bp lk=>?_⟩⟩
   refine⟨t,_,rfl,eL.of ht,rfl,?_⟩
   simp_all only[]
   exact hN _ _ ⟨l1,l2,S,ks,s2.trans s3,r1,h2,⟨z.up (by omega),dv,bq,bp⟩,rfl⟩
  intro _ H2 bK
  refine(?_:let G_:Prop:=_;G_)
  intro G_
  obtain⟨l1,l2,S,ks,s2,r1,h2,I,rfl⟩:=bK
  dsimp only[G_]
  clear G_
  simp_all only[FQ]
  refine(?_:let G_:Prop:=_;G_)
  intro G_
  obtain⟨_,ws,e,JC,mS⟩:=aQ.mp r1
  dsimp only[G_]
  clear G_
  cases e
  refine⟨ns,(s1.trans s2).seq hS,by decide,by decide,λWd=>⟨by decide,ns,(s1.trans s2).seq hS,by decide,by decide,λWe=>⟨by omega,ns,(s1.trans s2).seq hS,by decide,by decide,λNI=>⟨by decide,by decide,λp np=>?_⟩⟩⟩⟩
  have e3:=aaT We (show(n:Int)≠0 by omega)
  have e4:=aa9 We (show(0:Int)<n by omega)
  have e1:=aaT NI (show(1000003:Int)≠0 by decide)
  have e2:=aa9 NI (show(0:Int)<1000003 by decide)
  obtain⟨st,ZN⟩:=aau e3
  obtain⟨tn,ZO⟩:∃tn:Nat,2+Wd % 3=(tn:Int):=⟨(2+Wd % 3).toNat,by omega⟩
  rw[ZN,ZO]
  generalize NI % 1000003=me at *
  have Hi:tn<=4:=by omega
  have hst:st<b.length:=by omega
  have sp:=ax (o:=.lst [V.int 1,V.int 2]) np
  have hp:upd H2 p (.lst [V.int 1,V.int 2]) p=some (.lst [V.int 1,V.int 2]):=ar
  generalize upd H2 p (.lst [V.int 1,V.int 2])=H3 at *
  refine(?_:let G_:Prop:=_;G_)
  intro G_
  obtain⟨a1,a2,a3⟩:=vR I.sz (q:=(st:Int)) (by omega) (by omega)
  rw[aai] at a1
  obtain⟨pw,ep,Gs⟩:=cP mS a1
  dsimp only[G_]
  have Hj:=bA ep
  have Wf:Rm (Wq.fh (gI S) (st:Int)):=a2.rm I.sz.pos (I.sz.bb.mono (by decide)) (Int.pow_nonneg (by decide)) (by unfold Bt;decide +kernel)
  have nl:∀{x y:Wq.Sh},0<x.2->0<y.2->Dg.vl y<=Dg.vl x->¬Wq.wL x y=true:=λhx hy l z=>Rat.not_lt.mpr l ((AY hx hy).mp z)
  refine⟨⟨_,bo.of hp⟩,bJ (src_list (Ok:=az H3) (λH2 s2=>bo.of (s2 _ _ hp)))
   (λi σ H'=>az H3 H'/\∃z8 z9,σ=[some (V.ref sa),some (V.int (n:Int)),some (V.ref bl),some (V.ref l1),some (V.ref l2),some (V.int (tn:Int)),some (V.int (st:Int)),some (V.int me),z8,z9])
   ⟨az.refl _,_,_,rfl⟩ (λ_ _ _ _ h=>h.1) ?_ ?_⟩
  ·intro i v σ H5 H6 hi df dk
   refine(?_:let G_:Prop:=_;G_)
   intro G_
   obtain⟨vX,z8,z9,rfl⟩:=df
   obtain⟨rfl,ex⟩:=dk
   have yH:=sp.trans vX
   obtain⟨who,rfl,hw⟩:∃who:Int,v=.int who/\(who=1\/who=2):=by
    match i,ex with
    | 0,ex=>exact⟨1,by simpa using ex.symm,.inl rfl⟩
    | 1,ex=>exact⟨2,by simpa using ex.symm,.inr rfl⟩
   dsimp only[G_]
   simp_all only[C7]
   refine⟨st,rfl,tn,rfl,b,rb.mono (s2.trans yH),rk,B,by omega,S,ks,yH _ _ h2,r1.mono yH,I,hst,Hi,e1,e2,λr x H7 s7 kj lx NJ rel=>?_⟩
   have Wg:=(yH.trans s7) _ _ JC
   have JY:=(yH.trans s7) _ _ Gs
   rcases hw with rfl | rfl
   ·rw[if_pos rfl]
    refine⟨_,Wg,_,Hj,pw,r,_,x,rfl,JY,kj,Wf,NJ,_,rfl,?_⟩
    rw[if_neg (nl a2.1.1 lx.1 (by rw[a3];exact rel.1 rfl)),if_neg (by decide),if_neg aay]
    exact⟨vX.trans s7,_,rfl⟩
   ·rw[if_neg (by decide),if_neg aay,if_pos rfl]
    refine⟨_,Wg,_,Hj,r,pw,x,_,rfl,kj,JY,NJ,Wf,_,rfl,?_⟩
    rw[if_neg (nl lx.1 a2.1.1 (by rw[a3];exact rel.2.1 rfl))]
    exact⟨vX.trans s7,_,rfl⟩
  ·intro σ H5 bK
   refine(?_:let G_:Prop:=_;G_)
   intro G_
   obtain⟨vX,z8,z9,rfl⟩:=bK
   dsimp only[G_]
   simp_all only[C7,Ih]
   have Ea:=sp.trans vX
   refine⟨st,rfl,tn,rfl,b,rb.mono (s2.trans Ea),rk,B,by omega,S,ks,Ea _ _ h2,r1.mono Ea,I,hst,Hi,e1,e2,λr x H7 s7 kj lx NJ rel=>?_⟩
   have ex:x=Wq.fh (gI S) (st:Int):=Dg.vE lx a2.1 (by rw[a3];exact rel.2.2 rfl)
   subst ex
   exact⟨_,(Ea.trans s7) _ _ JC,_,Hj,bB _,bQ.mpr ⟨r,rfl,kj⟩,bQ.mpr ⟨pw,rfl,(Ea.trans s7) _ _ Gs⟩,⟨_,rfl⟩,by rw[vg];decide,kk _⟩
end
theorem all_mk {l:PySem.W.OpenLaw} {w:World} {K:PySem.W.Frag} {h:Heap} {mg:Str->Option Value} {fa:Addr} (X:K.In h) (G:h.Ns mainGlobals mg) (ZP:mg "law"=some (.ref fa))
  {f0:Addr} {ZQ ZR:Option Addr} {ZS:Array (Option Value)} {ZT ZU ZV ZW Wh ZX:Value} {f1:Addr} {ZY ZZ:Option Addr} {Z1:Array (Option Value)} {Z2 Z3 Z4 Z5 Wi Z6:Value} {f2:Addr} {Z7 Z8:Option Addr} {Z9:Array (Option Value)} {oc2 kV2 dc2 MO Wj ct2:Value} {f3:Addr} {od3 an3:Option Addr} {sl3:Array (Option Value)} {oc3 kV3 dc3 pm3 Wk ct3:Value} {f4:Addr} {od4 an4:Option Addr} {sl4:Array (Option Value)} {oc4 kV4 dc4 pm4 Wl ct4:Value} {f5:Addr} {od5 an5:Option Addr} {sl5:Array (Option Value)} {oc5 kV5 dc5 pm5 Wm ct5:Value} {f6:Addr} {od6 an6:Option Addr} {sl6:Array (Option Value)} {oc6 kV6 dc6 pm6 Wn ct6:Value} {f7:Addr} {od7 an7:Option Addr} {sl7:Array (Option Value)} {oc7 kV7 dc7 pm7 Wo ct7:Value} {f8:Addr} {od8 an8:Option Addr} {sl8:Array (Option Value)} {oc8 kV8 dc8 pm8 Wp ct8:Value} {f9:Addr} {od9 an9:Option Addr} {sl9:Array (Option Value)} {oc9 kV9 dc9 pm9 Wr ct9:Value} {NK:Addr} {NL NM:Option Addr} {NN:Array (Option Value)} {NO NP NQ NR JZ NS:Value} {NT:Addr} {NU NV:Option Addr} {NW:Array (Option Value)} {NX NY NZ N0 J0 N2:Value} {N4:Addr} {N5 N6:Option Addr} {N7:Array (Option Value)} {N8 N9 Oa Ob J1 Oc:Value} {Od:Addr} {Oe Of:Option Addr} {Og:Array (Option Value)} {Oh Oi Oj Ol J2 Om:Value} {Oo:Addr} {Oq Ot:Option Addr} {Ou:Array (Option Value)} {Ov Ow Ox Oy Oz:Value} {OA:Addr} {OB OC:Option Addr} {OD:Array (Option Value)} {OE OF OG OH J3 OI:Value} {OJ:Addr} {OK OL:Option Addr} {OM:Array (Option Value)} {ON OO OP OQ J4 OR:Value} {OS:Addr} {OT OU:Option Addr} {OV:Array (Option Value)} {OW OX OY OZ J5 O0:Value} {O1:Addr} {O2 O3:Option Addr} {O4:Array (Option Value)} {O5 O6 O7 O8 J6 O9:Value} {Pa:Addr} {Pc Pe:Option Addr} {Pf:Array (Option Value)} {Pg Ph Pj Pk J7 Pn:Value} {Po:Addr} {Pp Pq:Option Addr} {Pt:Array (Option Value)} {Pu Pw Px Py J8 Pz:Value} {PB:Addr} {PD PF:Option Addr} {PJ:Array (Option Value)} {PK PL PM PN J9 PQ:Value} {PR:Addr} {PU PV:Option Addr} {PX:Array (Option Value)} {PY PZ P1 P2 Ka P5:Value} {P6:Addr} {P7 P8:Option Addr} {P9:Array (Option Value)} {Qa Qc Qd Qe Kb Qf:Value} {Qg:Addr} {Qh Qi:Option Addr} {Qj:Array (Option Value)} {Qk Ql Qm Qn Kc Qo:Value} {Qp:Addr} {Qq Qr:Option Addr} {Qs:Array (Option Value)} {Qt Qu Qv Qw Kd Qx:Value} {Qy:Addr} {Qz QA:Option Addr} {QB:Array (Option Value)} {QC QD QE QF Kf QG:Value} {QH:Addr} {QI QJ:Option Addr} {QK:Array (Option Value)} {QL QM QN QO Kg QP:Value} {QR:Addr} {QS QT:Option Addr} {QU:Array (Option Value)} {QV QW QX QY Kh QZ:Value} {Q4:Addr} {Q5 Q6:Option Addr} {Q8:Array (Option Value)} {Ra Rb Rc Rf Ki Rg:Value} {Rh:Addr} {Ri Rj:Option Addr} {Rk:Array (Option Value)} {Rn Ro Rp Rq Kj Rr:Value} {Rt:Addr} {Ru Rv:Option Addr} {Rx:Array (Option Value)} {Ry Rz RA RB Kk RC:Value} {RD:Addr} {RE RF:Option Addr} {RG:Array (Option Value)} {RH RI RJ RK Kl RL:Value} {RM:Addr} {RN RO:Option Addr} {RP:Array (Option Value)} {RQ RS RT RU Km RV:Value} {RW:Addr} {RX RY:Option Addr} {RZ:Array (Option Value)} {R1 R3 R4 R5 Kn R6:Value} {R7:Addr} {R8 R9:Option Addr} {Sa:Array (Option Value)} {Sb Se Sf Sg Ko Si:Value} {Sj:Addr} {Sk Sl:Option Addr} {Sm:Array (Option Value)} {Sn So Sr Ss Kp Su:Value} {Sv:Addr} {Sw Sx:Option Addr} {Sy:Array (Option Value)} {SA SD SE SF Kq SG:Value} {SH:Addr} {SI SJ:Option Addr} {SK:Array (Option Value)} {SM SN SO SQ Kr SR:Value} {SU:Addr} {SV SW:Option Addr} {SX:Array (Option Value)} {SY S1 S3 S4 Ks S5:Value} {S6:Addr} {S7 S8:Option Addr} {S9:Array (Option Value)} {Ta Tb Tc Td Kt Te:Value} {Tf:Addr} {Tg Th:Option Addr} {Ti:Array (Option Value)} {Tj Tn To Tp Ku Tq:Value} {Tr:Addr} {Ts Tt:Option Addr} {Tu:Array (Option Value)} {Tv Tw Tx Tz Kv TB:Value} {TC:Addr} {TF TH:Option Addr} {TK:Array (Option Value)} {TL TM TN TQ Kw TR:Value} {TU:Addr} {TV TX:Option Addr} {TY:Array (Option Value)} {TZ T1 T3 T4 Kx T5:Value} {T6:Addr} {T7 T8:Option Addr} {T9:Array (Option Value)} {Ua Ub Uc Ud Ky Ue:Value} {Ug:Addr} {Uh Ui:Option Addr} {Uj:Array (Option Value)} {Uk Ul Um Uo Kz Up:Value} {oQ:Tok} {pF:Tok} {aB tc tp:Addr} {mK:Addr} {Bl Bo:Option Addr} {Bp:Array (Option Value)} {Bq Br Bs Bu uF Bv:Value} {cQ:Addr} {i8 i9:Option Addr} {ja:Array (Option Value)} {jb jc jd je eJ jf:Value} {dm:Addr} {lP lQ:Option Addr} {lU:Array (Option Value)} {lV lX lY lZ gu ma:Value}
  (a0:PySem.W.nsIn K mainGlobals "goals"=some (some (.ref f0))) (l0:K.lookup f0=some ⟨ZT,ZQ,.func (PySem.W.fnOf "goals" "goals" (aM (top 1)) (aK (top 1)) (af (top 1)) .none ZU ZV ZW ZR Wh ZX),ZS⟩) (e0:PySem.W.codeIn K Wh "goals"=true) (k0:PySem.W.keepIn K (.ref f0)=true)
  (a1:PySem.W.nsIn K mainGlobals "is_ready"=some (some (.ref f1))) (l1:K.lookup f1=some ⟨Z2,ZY,.func (PySem.W.fnOf "is_ready" "is_ready" (aM (top 2)) (aK (top 2)) (af (top 2)) .none Z3 Z4 Z5 ZZ Wi Z6),Z1⟩) (e1:PySem.W.codeIn K Wi "is_ready"=true) (k1:PySem.W.keepIn K (.ref f1)=true)
  (a2:PySem.W.nsIn K mainGlobals "ready_places"=some (some (.ref f2))) (l2:K.lookup f2=some ⟨oc2,Z7,.func (PySem.W.fnOf "ready_places" "ready_places" (aM (top 3)) (aK (top 3)) (af (top 3)) .none kV2 dc2 MO Z8 Wj ct2),Z9⟩) (e2:PySem.W.codeIn K Wj "ready_places"=true) (k2:PySem.W.keepIn K (.ref f2)=true)
  (a3:PySem.W.nsIn K mainGlobals "levels"=some (some (.ref f3))) (l3:K.lookup f3=some ⟨oc3,od3,.func (PySem.W.fnOf "levels" "levels" (aM (top 4)) (aK (top 4)) (af (top 4)) .none kV3 dc3 pm3 an3 Wk ct3),sl3⟩) (e3:PySem.W.codeIn K Wk "levels"=true) (k3:PySem.W.keepIn K (.ref f3)=true)
  (a4:PySem.W.nsIn K mainGlobals "ring"=some (some (.ref f4))) (l4:K.lookup f4=some ⟨oc4,od4,.func (PySem.W.fnOf "ring" "ring" (aM (top 5)) (aK (top 5)) (af (top 5)) .none kV4 dc4 pm4 an4 Wl ct4),sl4⟩) (e4:PySem.W.codeIn K Wl "ring"=true) (k4:PySem.W.keepIn K (.ref f4)=true)
  (a5:PySem.W.nsIn K mainGlobals "common_divisor"=some (some (.ref f5))) (l5:K.lookup f5=some ⟨oc5,od5,.func (PySem.W.fnOf "common_divisor" "common_divisor" (aM (top 12)) (aK (top 12)) (af (top 12)) .none kV5 dc5 pm5 an5 Wm ct5),sl5⟩) (e5:PySem.W.codeIn K Wm "common_divisor"=true) (k5:PySem.W.keepIn K (.ref f5)=true)
  (a6:PySem.W.nsIn K mainGlobals "share"=some (some (.ref f6))) (l6:K.lookup f6=some ⟨oc6,od6,.func (PySem.W.fnOf "share" "share" (aM (top 13)) (aK (top 13)) (af (top 13)) .none kV6 dc6 pm6 an6 Wn ct6),sl6⟩) (e6:PySem.W.codeIn K Wn "share"=true) (k6:PySem.W.keepIn K (.ref f6)=true)
  (a7:PySem.W.nsIn K mainGlobals "common_bottom"=some (some (.ref f7))) (l7:K.lookup f7=some ⟨oc7,od7,.func (PySem.W.fnOf "common_bottom" "common_bottom" (aM (top 14)) (aK (top 14)) (af (top 14)) .none kV7 dc7 pm7 an7 Wo ct7),sl7⟩) (e7:PySem.W.codeIn K Wo "common_bottom"=true) (k7:PySem.W.keepIn K (.ref f7)=true)
  (a8:PySem.W.nsIn K mainGlobals "row_with_head"=some (some (.ref f8))) (l8:K.lookup f8=some ⟨oc8,od8,.func (PySem.W.fnOf "row_with_head" "row_with_head" (aM (top 16)) (aK (top 16)) (af (top 16)) .none kV8 dc8 pm8 an8 Wp ct8),sl8⟩) (e8:PySem.W.codeIn K Wp "row_with_head"=true) (k8:PySem.W.keepIn K (.ref f8)=true)
  (a9:PySem.W.nsIn K mainGlobals "swapped"=some (some (.ref f9))) (l9:K.lookup f9=some ⟨oc9,od9,.func (PySem.W.fnOf "swapped" "swapped" (aM (top 17)) (aK (top 17)) (af (top 17)) .none kV9 dc9 pm9 an9 Wr ct9),sl9⟩) (e9:PySem.W.codeIn K Wr "swapped"=true) (k9:PySem.W.keepIn K (.ref f9)=true)
  (a10:PySem.W.nsIn K mainGlobals "without_first_column"=some (some (.ref NK))) (l10:K.lookup NK=some ⟨NO,NL,.func (PySem.W.fnOf "without_first_column" "without_first_column" (aM (top 18)) (aK (top 18)) (af (top 18)) .none NP NQ NR NM JZ NS),NN⟩) (e10:PySem.W.codeIn K JZ "without_first_column"=true) (k10:PySem.W.keepIn K (.ref NK)=true)
  (a11:PySem.W.nsIn K mainGlobals "swept"=some (some (.ref NT))) (l11:K.lookup NT=some ⟨NX,NU,.func (PySem.W.fnOf "swept" "swept" (aM (top 19)) (aK (top 19)) (af (top 19)) .none NY NZ N0 NV J0 N2),NW⟩) (e11:PySem.W.codeIn K J0 "swept"=true) (k11:PySem.W.keepIn K (.ref NT)=true)
  (a12:PySem.W.nsIn K mainGlobals "whole_answers"=some (some (.ref N4))) (l12:K.lookup N4=some ⟨N8,N5,.func (PySem.W.fnOf "whole_answers" "whole_answers" (aM (top 20)) (aK (top 20)) (af (top 20)) .none N9 Oa Ob N6 J1 Oc),N7⟩) (e12:PySem.W.codeIn K J1 "whole_answers"=true) (k12:PySem.W.keepIn K (.ref N4)=true)
  (a13:PySem.W.nsIn K mainGlobals "steps_from"=some (some (.ref Od))) (l13:K.lookup Od=some ⟨Oh,Oe,.func (PySem.W.fnOf "steps_from" "steps_from" (aM (top 22)) (aK (top 22)) (af (top 22)) .none Oi Oj Ol Of J2 Om),Og⟩) (e13:PySem.W.codeIn K J2 "steps_from"=true) (k13:PySem.W.keepIn K (.ref Od)=true)
  (a14:PySem.W.nsIn K mainGlobals "parts"=some (some (.ref Oo))) (l14:K.lookup Oo=some ⟨Ov,Oq,.func (PySem.W.fnOf "parts" "parts" (aM (top 23)) (aK (top 23)) (af (top 23)) .none Ow Ox Oy Ot (Value.ref tc) Oz),Ou⟩) (e14:PySem.W.codeIn K (Value.ref tc) "parts"=true) (k14:PySem.W.keepIn K (.ref Oo)=true)
  (a15:PySem.W.nsIn K mainGlobals "ways_of_picks"=some (some (.ref OA))) (l15:K.lookup OA=some ⟨OE,OB,.func (PySem.W.fnOf "ways_of_picks" "ways_of_picks" (aM (top 27)) (aK (top 27)) (af (top 27)) .none OF OG OH OC J3 OI),OD⟩) (e15:PySem.W.codeIn K J3 "ways_of_picks"=true) (k15:PySem.W.keepIn K (.ref OA)=true)
  (a16:PySem.W.nsIn K mainGlobals "checked_parts"=some (some (.ref OJ))) (l16:K.lookup OJ=some ⟨ON,OK,.func (PySem.W.fnOf "checked_parts" "checked_parts" (aM (top 28)) (aK (top 28)) (af (top 28)) .none OO OP OQ OL J4 OR),OM⟩) (e16:PySem.W.codeIn K J4 "checked_parts"=true) (k16:PySem.W.keepIn K (.ref OJ)=true)
  (a17:PySem.W.nsIn K mainGlobals "weighted_ways"=some (some (.ref OS))) (l17:K.lookup OS=some ⟨OW,OT,.func (PySem.W.fnOf "weighted_ways" "weighted_ways" (aM (top 29)) (aK (top 29)) (af (top 29)) .none OX OY OZ OU J5 O0),OV⟩) (e17:PySem.W.codeIn K J5 "weighted_ways"=true) (k17:PySem.W.keepIn K (.ref OS)=true)
  (a18:PySem.W.nsIn K mainGlobals "all_weighted_ways"=some (some (.ref O1))) (l18:K.lookup O1=some ⟨O5,O2,.func (PySem.W.fnOf "all_weighted_ways" "all_weighted_ways" (aM (top 30)) (aK (top 30)) (af (top 30)) .none O6 O7 O8 O3 J6 O9),O4⟩) (e18:PySem.W.codeIn K J6 "all_weighted_ways"=true) (k18:PySem.W.keepIn K (.ref O1)=true)
  (a19:PySem.W.nsIn K mainGlobals "total_weight"=some (some (.ref Pa))) (l19:K.lookup Pa=some ⟨Pg,Pc,.func (PySem.W.fnOf "total_weight" "total_weight" (aM (top 31)) (aK (top 31)) (af (top 31)) .none Ph Pj Pk Pe J7 Pn),Pf⟩) (e19:PySem.W.codeIn K J7 "total_weight"=true) (k19:PySem.W.keepIn K (.ref Pa)=true)
  (a20:PySem.W.nsIn K mainGlobals "part_rows"=some (some (.ref Po))) (l20:K.lookup Po=some ⟨Pu,Pp,.func (PySem.W.fnOf "part_rows" "part_rows" (aM (top 32)) (aK (top 32)) (af (top 32)) .none Pw Px Py Pq J8 Pz),Pt⟩) (e20:PySem.W.codeIn K J8 "part_rows"=true) (k20:PySem.W.keepIn K (.ref Po)=true)
  (a21:PySem.W.nsIn K mainGlobals "gain_of"=some (some (.ref PB))) (l21:K.lookup PB=some ⟨PK,PD,.func (PySem.W.fnOf "gain_of" "gain_of" (aM (top 34)) (aK (top 34)) (af (top 34)) .none PL PM PN PF J9 PQ),PJ⟩) (e21:PySem.W.codeIn K J9 "gain_of"=true) (k21:PySem.W.keepIn K (.ref PB)=true)
  (a22:PySem.W.nsIn K mainGlobals "book_of"=some (some (.ref PR))) (l22:K.lookup PR=some ⟨PY,PU,.func (PySem.W.fnOf "book_of" "book_of" (aM (top 35)) (aK (top 35)) (af (top 35)) .none PZ P1 P2 PV Ka P5),PX⟩) (e22:PySem.W.codeIn K Ka "book_of"=true) (k22:PySem.W.keepIn K (.ref PR)=true)
  (a23:PySem.W.nsIn K mainGlobals "gains_of"=some (some (.ref P6))) (l23:K.lookup P6=some ⟨Qa,P7,.func (PySem.W.fnOf "gains_of" "gains_of" (aM (top 36)) (aK (top 36)) (af (top 36)) .none Qc Qd Qe P8 Kb Qf),P9⟩) (e23:PySem.W.codeIn K Kb "gains_of"=true) (k23:PySem.W.keepIn K (.ref P6)=true)
  (a24:PySem.W.nsIn K mainGlobals "blank_worths"=some (some (.ref Qg))) (l24:K.lookup Qg=some ⟨Qk,Qh,.func (PySem.W.fnOf "blank_worths" "blank_worths" (aM (top 37)) (aK (top 37)) (af (top 37)) .none Ql Qm Qn Qi Kc Qo),Qj⟩) (e24:PySem.W.codeIn K Kc "blank_worths"=true) (k24:PySem.W.keepIn K (.ref Qg)=true)
  (a25:PySem.W.nsIn K mainGlobals "with_worths"=some (some (.ref Qp))) (l25:K.lookup Qp=some ⟨Qt,Qq,.func (PySem.W.fnOf "with_worths" "with_worths" (aM (top 38)) (aK (top 38)) (af (top 38)) .none Qu Qv Qw Qr Kd Qx),Qs⟩) (e25:PySem.W.codeIn K Kd "with_worths"=true) (k25:PySem.W.keepIn K (.ref Qp)=true)
  (a26:PySem.W.nsIn K mainGlobals "wanted_way"=some (some (.ref Qy))) (l26:K.lookup Qy=some ⟨QC,Qz,.func (PySem.W.fnOf "wanted_way" "wanted_way" (aM (top 40)) (aK (top 40)) (af (top 40)) .none QD QE QF QA Kf QG),QB⟩) (e26:PySem.W.codeIn K Kf "wanted_way"=true) (k26:PySem.W.keepIn K (.ref Qy)=true)
  (a27:PySem.W.nsIn K mainGlobals "better_ways"=some (some (.ref QH))) (l27:K.lookup QH=some ⟨QL,QI,.func (PySem.W.fnOf "better_ways" "better_ways" (aM (top 41)) (aK (top 41)) (af (top 41)) .none QM QN QO QJ Kg QP),QK⟩) (e27:PySem.W.codeIn K Kg "better_ways"=true) (k27:PySem.W.keepIn K (.ref QH)=true)
  (a28:PySem.W.nsIn K mainGlobals "picks_of"=some (some (.ref QR))) (l28:K.lookup QR=some ⟨QV,QS,.func (PySem.W.fnOf "picks_of" "picks_of" (aM (top 42)) (aK (top 42)) (af (top 42)) .none QW QX QY QT Kh QZ),QU⟩) (e28:PySem.W.codeIn K Kh "picks_of"=true) (k28:PySem.W.keepIn K (.ref QR)=true)
  (a29:PySem.W.nsIn K mainGlobals "with_best_worths"=some (some (.ref Q4))) (l29:K.lookup Q4=some ⟨Ra,Q5,.func (PySem.W.fnOf "with_best_worths" "with_best_worths" (aM (top 43)) (aK (top 43)) (af (top 43)) .none Rb Rc Rf Q6 Ki Rg),Q8⟩) (e29:PySem.W.codeIn K Ki "with_best_worths"=true) (k29:PySem.W.keepIn K (.ref Q4)=true)
  (a30:PySem.W.nsIn K mainGlobals "best_pick"=some (some (.ref Rh))) (l30:K.lookup Rh=some ⟨Rn,Ri,.func (PySem.W.fnOf "best_pick" "best_pick" (aM (top 44)) (aK (top 44)) (af (top 44)) .none Ro Rp Rq Rj Kj Rr),Rk⟩) (e30:PySem.W.codeIn K Kj "best_pick"=true) (k30:PySem.W.keepIn K (.ref Rh)=true)
  (a31:PySem.W.nsIn K mainGlobals "best"=some (some (.ref Rt))) (l31:K.lookup Rt=some ⟨Ry,Ru,.func (PySem.W.fnOf "best" "best" (aM (top 45)) (aK (top 45)) (af (top 45)) .none Rz RA RB Rv Kk RC),Rx⟩) (e31:PySem.W.codeIn K Kk "best"=true) (k31:PySem.W.keepIn K (.ref Rt)=true)
  (a32:PySem.W.nsIn K mainGlobals "_law_cell"=some (some (.ref RD))) (l32:K.lookup RD=some ⟨RH,RE,.func (PySem.W.fnOf "_law_cell" "_law_cell" (aM (top 47)) (aK (top 47)) (af (top 47)) .none RI RJ RK RF Kl RL),RG⟩) (e32:PySem.W.codeIn K Kl "_law_cell"=true) (k32:PySem.W.keepIn K (.ref RD)=true)
  (a33:PySem.W.nsIn K mainGlobals "_law_mixed"=some (some (.ref RM))) (l33:K.lookup RM=some ⟨RQ,RN,.func (PySem.W.fnOf "_law_mixed" "_law_mixed" (aM (top 48)) (aK (top 48)) (af (top 48)) .none RS RT RU RO Km RV),RP⟩) (e33:PySem.W.codeIn K Km "_law_mixed"=true) (k33:PySem.W.keepIn K (.ref RM)=true)
  (a34:PySem.W.nsIn K mainGlobals "_law_low"=some (some (.ref RW))) (l34:K.lookup RW=some ⟨R1,RX,.func (PySem.W.fnOf "_law_low" "_law_low" (aM (top 49)) (aK (top 49)) (af (top 49)) .none R3 R4 R5 RY Kn R6),RZ⟩) (e34:PySem.W.codeIn K Kn "_law_low"=true) (k34:PySem.W.keepIn K (.ref RW)=true)
  (a35:PySem.W.nsIn K mainGlobals "_law_plus"=some (some (.ref R7))) (l35:K.lookup R7=some ⟨Sb,R8,.func (PySem.W.fnOf "_law_plus" "_law_plus" (aM (top 50)) (aK (top 50)) (af (top 50)) .none Se Sf Sg R9 Ko Si),Sa⟩) (e35:PySem.W.codeIn K Ko "_law_plus"=true) (k35:PySem.W.keepIn K (.ref R7)=true)
  (a36:PySem.W.nsIn K mainGlobals "_law_times"=some (some (.ref Sj))) (l36:K.lookup Sj=some ⟨Sn,Sk,.func (PySem.W.fnOf "_law_times" "_law_times" (aM (top 51)) (aK (top 51)) (af (top 51)) .none So Sr Ss Sl Kp Su),Sm⟩) (e36:PySem.W.codeIn K Kp "_law_times"=true) (k36:PySem.W.keepIn K (.ref Sj)=true)
  (a37:PySem.W.nsIn K mainGlobals "_law_share"=some (some (.ref Sv))) (l37:K.lookup Sv=some ⟨SA,Sw,.func (PySem.W.fnOf "_law_share" "_law_share" (aM (top 52)) (aK (top 52)) (af (top 52)) .none SD SE SF Sx Kq SG),Sy⟩) (e37:PySem.W.codeIn K Kq "_law_share"=true) (k37:PySem.W.keepIn K (.ref Sv)=true)
  (a38:PySem.W.nsIn K mainGlobals "_law_turned"=some (some (.ref SH))) (l38:K.lookup SH=some ⟨SM,SI,.func (PySem.W.fnOf "_law_turned" "_law_turned" (aM (top 53)) (aK (top 53)) (af (top 53)) .none SN SO SQ SJ Kr SR),SK⟩) (e38:PySem.W.codeIn K Kr "_law_turned"=true) (k38:PySem.W.keepIn K (.ref SH)=true)
  (a39:PySem.W.nsIn K mainGlobals "_law_throw"=some (some (.ref SU))) (l39:K.lookup SU=some ⟨SY,SV,.func (PySem.W.fnOf "_law_throw" "_law_throw" (aM (top 54)) (aK (top 54)) (af (top 54)) .none S1 S3 S4 SW Ks S5),SX⟩) (e39:PySem.W.codeIn K Ks "_law_throw"=true) (k39:PySem.W.keepIn K (.ref SU)=true)
  (a40:PySem.W.nsIn K mainGlobals "_law_board"=some (some (.ref S6))) (l40:K.lookup S6=some ⟨Ta,S7,.func (PySem.W.fnOf "_law_board" "_law_board" (aM (top 55)) (aK (top 55)) (af (top 55)) .none Tb Tc Td S8 Kt Te),S9⟩) (e40:PySem.W.codeIn K Kt "_law_board"=true) (k40:PySem.W.keepIn K (.ref S6)=true)
  (a41:PySem.W.nsIn K mainGlobals "_law_copy"=some (some (.ref Tf))) (l41:K.lookup Tf=some ⟨Tj,Tg,.func (PySem.W.fnOf "_law_copy" "_law_copy" (aM (top 57)) (aK (top 57)) (af (top 57)) .none Tn To Tp Th Ku Tq),Ti⟩) (e41:PySem.W.codeIn K Ku "_law_copy"=true) (k41:PySem.W.keepIn K (.ref Tf)=true)
  (a42:PySem.W.nsIn K mainGlobals "_law_less"=some (some (.ref Tr))) (l42:K.lookup Tr=some ⟨Tv,Ts,.func (PySem.W.fnOf "_law_less" "_law_less" (aM (top 60)) (aK (top 60)) (af (top 60)) .none Tw Tx Tz Tt Kv TB),Tu⟩) (e42:PySem.W.codeIn K Kv "_law_less"=true) (k42:PySem.W.keepIn K (.ref Tr)=true)
  (a43:PySem.W.nsIn K mainGlobals "_law_pick_at"=some (some (.ref TC))) (l43:K.lookup TC=some ⟨TL,TF,.func (PySem.W.fnOf "_law_pick_at" "_law_pick_at" (aM (top 61)) (aK (top 61)) (af (top 61)) .none TM TN TQ TH Kw TR),TK⟩) (e43:PySem.W.codeIn K Kw "_law_pick_at"=true) (k43:PySem.W.keepIn K (.ref TC)=true)
  (a44:PySem.W.nsIn K mainGlobals "_law_round"=some (some (.ref TU))) (l44:K.lookup TU=some ⟨TZ,TV,.func (PySem.W.fnOf "_law_round" "_law_round" (aM (top 62)) (aK (top 62)) (af (top 62)) .none T1 T3 T4 TX Kx T5),TY⟩) (e44:PySem.W.codeIn K Kx "_law_round"=true) (k44:PySem.W.keepIn K (.ref TU)=true)
  (a45:PySem.W.nsIn K mainGlobals "_law_sum"=some (some (.ref T6))) (l45:K.lookup T6=some ⟨Ua,T7,.func (PySem.W.fnOf "_law_sum" "_law_sum" (aM (top 63)) (aK (top 63)) (af (top 63)) .none Ub Uc Ud T8 Ky Ue),T9⟩) (e45:PySem.W.codeIn K Ky "_law_sum"=true) (k45:PySem.W.keepIn K (.ref T6)=true)
  (a46:PySem.W.nsIn K mainGlobals "law"=some (some (.ref Ug))) (l46:K.lookup Ug=some ⟨Uk,Uh,.func (PySem.W.fnOf "law" "law" (aM (top 64)) (aK (top 64)) (af (top 64)) .none Ul Um Uo Ui Kz Up),Uj⟩) (e46:PySem.W.codeIn K Kz "law"=true) (k46:PySem.W.keepIn K (.ref Ug)=true)
  (z_abs:PySem.W.nsIn K mainGlobals "abs"=some none)
  (z_all:PySem.W.nsIn K mainGlobals "all"=some none)
  (z_any:PySem.W.nsIn K mainGlobals "any"=some none)
  (z_enumerate:PySem.W.nsIn K mainGlobals "enumerate"=some none)
  (z_len:PySem.W.nsIn K mainGlobals "len"=some none)
  (z_list:PySem.W.nsIn K mainGlobals "list"=some none)
  (z_max:PySem.W.nsIn K mainGlobals "max"=some none)
  (z_range:PySem.W.nsIn K mainGlobals "range"=some none)
  (z_sorted:PySem.W.nsIn K mainGlobals "sorted"=some none)
  (z_sum:PySem.W.nsIn K mainGlobals "sum"=some none)
  (z_zip:PySem.W.nsIn K mainGlobals "zip"=some none)
  (c_MOST_PLACES:PySem.W.nsIn K mainGlobals "MOST_PLACES"=some (some (.int 40 oQ)))
  (c_MOST_PICKS:PySem.W.nsIn K mainGlobals "MOST_PICKS"=some (some (.int 4096 pF)))
  (k_Book:PySem.W.nsIn K mainGlobals "Book"=some (some (.ref aB)))
  (cl_Bookpg:PySem.W.plainGet K aB Str.empty=true)
  (cl_Bookhd:PySem.W.hasDictIn K aB=true)
  (cl_Bookpo:PySem.W.plainOver K aB=true)
  (cl_Booksa:PySem.W.findIn K (.ref aB) "__setattr__"=some (some (.builtin "object.__setattr__")))
  (na_Book_bottom:PySem.W.findIn K (.ref aB) "bottom"=some none)
  (na_Book_tops:PySem.W.findIn K (.ref aB) "tops"=some none)
  (dia_Book:PySem.W.findIn K (.ref aB) "__init__"=some (some (.ref mK)))
  (dii_Book:PySem.W.isFn K (.ref mK)=true)
  (dil_Book:K.lookup mK=some ⟨Bq,Bl,.func (PySem.W.fnOf "__init__" "Book.__init__" (aM (inClass (top 33) 0)) (aK (inClass (top 33) 0)) (af (inClass (top 33) 0)) .none Br Bs Bu Bo uF Bv),Bp⟩)
  (dic_Book:PySem.W.codeIn K uF "Book.__init__"=true)
  (dik_Book:PySem.W.keepIn K (.ref mK)=true)
  (dim_Book:PySem.W.makesIn K aB=true)
  (diq_Book:PySem.W.keepIn K (.ref aB)=true)
  (dma_Book_as_shares:PySem.W.findIn K (.ref aB) "as_shares"=some (some (.ref cQ)))
  (dmi_Book_as_shares:PySem.W.isFn K (.ref cQ)=true)
  (dml_Book_as_shares:K.lookup cQ=some ⟨jb,i8,.func (PySem.W.fnOf "as_shares" "Book.as_shares" (aM (inClass (top 33) 2)) (aK (inClass (top 33) 2)) (af (inClass (top 33) 2)) .none jc jd je i9 eJ jf),ja⟩)
  (dmc_Book_as_shares:PySem.W.codeIn K eJ "Book.as_shares"=true)
  (dmk_Book_as_shares:PySem.W.keepIn K (.ref cQ)=true)
  (dma_Book_scaled:PySem.W.findIn K (.ref aB) "scaled"=some (some (.ref dm)))
  (dmi_Book_scaled:PySem.W.isFn K (.ref dm)=true)
  (dml_Book_scaled:K.lookup dm=some ⟨lV,lP,.func (PySem.W.fnOf "scaled" "Book.scaled" (aM (inClass (top 33) 1)) (aK (inClass (top 33) 1)) (af (inClass (top 33) 1)) .none lX lY lZ lQ gu ma),lU⟩)
  (dmc_Book_scaled:PySem.W.codeIn K gu "Book.scaled"=true)
  (dmk_Book_scaled:PySem.W.keepIn K (.ref dm)=true)
  :∃fd:FuncData,(∀(s:Shared) (v:Value),BindsTo s fd ⟨[v],[]⟩ [("_law_script",v)])/\∀base:Heap,K.In base->base.Ns mainGlobals mg->o6 base mg tc tp->d7 l.prog w K mg base (bL l.prog w) 30 fa fd ["_law_script"] (xu K tp):=by
 have e:=ZP.symm.trans (aal X G a46)
 cases e
 have T:Txt K mg aB tc:=⟨abd X G z_abs,abd X G z_all,abd X G z_any,abd X G z_enumerate,abd X G z_len,abd X G z_list,abd X G z_max,abd X G z_range,abd X G z_sorted,abd X G z_sum,abd X G z_zip,⟨_,_,aZ l0 e0 k0,aal X G a0⟩,⟨_,_,aZ l1 e1 k1,aal X G a1⟩,⟨_,_,aZ l2 e2 k2,aal X G a2⟩,⟨_,_,aZ l3 e3 k3,aal X G a3⟩,⟨_,_,aZ l4 e4 k4,aal X G a4⟩,⟨_,_,aZ l5 e5 k5,aal X G a5⟩,⟨_,_,aZ l6 e6 k6,aal X G a6⟩,⟨_,_,aZ l7 e7 k7,aal X G a7⟩,⟨_,_,aZ l8 e8 k8,aal X G a8⟩,⟨_,_,aZ l9 e9 k9,aal X G a9⟩,⟨_,_,aZ l10 e10 k10,aal X G a10⟩,⟨_,_,aZ l11 e11 k11,aal X G a11⟩,⟨_,_,aZ l12 e12 k12,aal X G a12⟩,⟨_,_,aZ l13 e13 k13,aal X G a13⟩,⟨_,_,aZ l14 e14 k14,aal X G a14⟩,⟨_,_,aZ l15 e15 k15,aal X G a15⟩,⟨_,_,aZ l16 e16 k16,aal X G a16⟩,⟨_,_,aZ l17 e17 k17,aal X G a17⟩,⟨_,_,aZ l18 e18 k18,aal X G a18⟩,⟨_,_,aZ l19 e19 k19,aal X G a19⟩,⟨_,_,aZ l20 e20 k20,aal X G a20⟩,⟨_,_,aZ l21 e21 k21,aal X G a21⟩,⟨_,_,aZ l22 e22 k22,aal X G a22⟩,⟨_,_,aZ l23 e23 k23,aal X G a23⟩,⟨_,_,aZ l24 e24 k24,aal X G a24⟩,⟨_,_,aZ l25 e25 k25,aal X G a25⟩,⟨_,_,aZ l26 e26 k26,aal X G a26⟩,⟨_,_,aZ l27 e27 k27,aal X G a27⟩,⟨_,_,aZ l28 e28 k28,aal X G a28⟩,⟨_,_,aZ l29 e29 k29,aal X G a29⟩,⟨_,_,aZ l30 e30 k30,aal X G a30⟩,⟨_,_,aZ l31 e31 k31,aal X G a31⟩,⟨_,_,aZ l32 e32 k32,aal X G a32⟩,⟨_,_,aZ l33 e33 k33,aal X G a33⟩,⟨_,_,aZ l34 e34 k34,aal X G a34⟩,⟨_,_,aZ l35 e35 k35,aal X G a35⟩,⟨_,_,aZ l36 e36 k36,aal X G a36⟩,⟨_,_,aZ l37 e37 k37,aal X G a37⟩,⟨_,_,aZ l38 e38 k38,aal X G a38⟩,⟨_,_,aZ l39 e39 k39,aal X G a39⟩,⟨_,_,aZ l40 e40 k40,aal X G a40⟩,⟨_,_,aZ l41 e41 k41,aal X G a41⟩,⟨_,_,aZ l42 e42 k42,aal X G a42⟩,⟨_,_,aZ l43 e43 k43,aal X G a43⟩,⟨_,_,aZ l44 e44 k44,aal X G a44⟩,⟨_,_,aZ l45 e45 k45,aal X G a45⟩,⟨_,aal X G c_MOST_PLACES⟩,⟨_,aal X G c_MOST_PICKS⟩,aal X G k_Book,⟨cl_Bookpg,cl_Bookhd,cl_Bookpo,cl_Booksa⟩,na_Book_bottom,na_Book_tops,⟨_,_,aZ dil_Book dic_Book dik_Book,⟨dim_Book,dia_Book,dii_Book,diq_Book⟩,aal X G k_Book⟩,⟨_,_,aZ dml_Book_as_shares dmc_Book_as_shares dmk_Book_as_shares,⟨dma_Book_as_shares,dmi_Book_as_shares,dmk_Book_as_shares⟩⟩,⟨_,_,aZ dml_Book_scaled dmc_Book_scaled dmk_Book_scaled,⟨dma_Book_scaled,dmi_Book_scaled,dmk_Book_scaled⟩⟩,⟨_,_,_,_,_,aal X G a14,l14,rfl⟩⟩
 exact⟨_,λs v=>.of_eq rfl,λbase _ _ LB=>(GL T LB (aZ l46 e46 k46)).mono (by decide)⟩
theorem walk {tc tp:Addr} {l:PySem.W.OpenLaw} {q:Program} {loose:List Str} {XP:(Str->Option Value)->Heap->Prop} {YP:World->Heap->Prop} {d:DefRec} {K:Params->PySem.W.Frag} (hn:l.most=some 63) (HQ:d.params.defaults=[])
  (hY:∀(w:World) (h:Heap),YP w h->(K w.params).In h) (Mr:∀(w:World) (h:Heap),YP w h->h.get? tp=some (PySem.W.tabObj #[])/\PySem.W.CodeHd h tc tp/\(K w.params).lookup tp=none)
  (F:∀(w:World) (mg:Str->Option Value) (fa:Addr) (h:Heap),(K w.params).In h->h.Ns mainGlobals mg->mg d.name=some (.ref fa)->
   ∃fd:FuncData,(∀(s:Shared) (u:Value),BindsTo s fd ⟨[u],[]⟩ [("_law_script",u)])/\∀base:Heap,(K w.params).In base->base.Ns mainGlobals mg->o6 base mg tc tp->d7 l.prog w (K w.params) mg base (bL l.prog w) 30 fa fd ["_law_script"] (xu (K w.params) tp)):
  PySem.W.WalkO q loose XP YP l.row.toRowW d [] (λf vs=>PySem.call f vs):=
 L2.zN (tc:=tc) (tp:=tp) (dsc:=dsc) (n:=63) (k:=30) (x:="_law_script") (CX:=λw=>bL l.prog w) (sp:=λw=>xu (K w.params) tp) hn (by decide) HQ ⟨rfl,by decide,by decide⟩ hY Mr F (λ_ _ a ns hl hT hS=>⟨a,ns,rfl,hT,hS,hl,λ_=>rfl⟩) λ_ _ _ _ _ z=>(wq _ _) _ _ _ _ _ z
end K44
open PySem PySem.W PyProof.Rows
set_option maxRecDepth 100000 in
set_option maxHeartbeats 0 in
theorem PySem.Challenge.cw_pressluck_k44_whole_none_better_holds : PySem.Challenge.rw_pressluck_k44_whole_none_better.Holds := by
  w_on; refine holds_law (by decide +kernel) fun aaa => ?_
  refine holds_open (q := K44.vw) (loose := []) (Xt := (fun s => xlAt K44.vw [] s && recOk (RowW.records (OpenRow.toRowW (PySem.W.OpenLaw.row PySem.Challenge.rw_pressluck_k44_whole_none_better))) s)) (XP := XL K44.vw []) (Yf := Hook.obs (PySem.W.kmHook K44.pre.heap_1 K44.Dt K44.Ei [156])) (Ya := Hook.val (PySem.W.kmHook K44.pre.heap_1 K44.Dt K44.Ei [156])) (YP := Hook.says (PySem.W.kmHook K44.pre.heap_1 K44.Dt K44.Ei [156])) (N := 5564) (Hd.xH (by kernel_rfl) (by decide) (fun s => by kernel_rfl) K44.run) (Hook.of (PySem.W.kmHook K44.pre.heap_1 K44.Dt K44.Ei [156])) (Hook.keeps (PySem.W.kmHook K44.pre.heap_1 K44.Dt K44.Ei [156])) (fun s e => xl_of s (Bool.and_eq_true_iff.mp e).1) XL.keeps (by rfl) (by rfl) (by rfl) (fun s e => recFacts_of (Bool.and_eq_true_iff.mp e).2) (by rfl) (by first | assumption | decide +kernel) (by decide +kernel) ⟨rfl, rfl, rfl, rfl, rfl, by decide +kernel⟩ ?hw ?hc
  (case hw => w_witness2)
  k_fill
  refine K44.walk (tc := 158) (tp := 156) (l := PySem.Challenge.rw_pressluck_k44_whole_none_better) rfl rfl (fun w h Y => PySem.W.km_in_of Y) (fun w h Y => ⟨PySem.W.km_tabs_of Y _ (.head _), PySem.W.codeHd_of_K (PySem.W.km_in_of Y) (by kernel_rfl), by kernel_rfl⟩) ?F
  case F =>
    intro w mg fa h KX G HR
    refine' K44.all_mk (tc := 158) (tp := 156) KX G HR ?a0 ?l0 ?e0 ?k0 ?a1 ?l1 ?e1 ?k1 ?a2 ?l2 ?e2 ?k2 ?a3 ?l3 ?e3 ?k3 ?a4 ?l4 ?e4 ?k4 ?a5 ?l5 ?e5 ?k5 ?a6 ?l6 ?e6 ?k6 ?a7 ?l7 ?e7 ?k7 ?a8 ?l8 ?e8 ?k8 ?a9 ?l9 ?e9 ?k9 ?a10 ?l10 ?e10 ?k10 ?a11 ?l11 ?e11 ?k11 ?a12 ?l12 ?e12 ?k12 ?a13 ?l13 ?e13 ?k13 ?a14 ?l14 ?e14 ?k14 ?a15 ?l15 ?e15 ?k15 ?a16 ?l16 ?e16 ?k16 ?a17 ?l17 ?e17 ?k17 ?a18 ?l18 ?e18 ?k18 ?a19 ?l19 ?e19 ?k19 ?a20 ?l20 ?e20 ?k20 ?a21 ?l21 ?e21 ?k21 ?a22 ?l22 ?e22 ?k22 ?a23 ?l23 ?e23 ?k23 ?a24 ?l24 ?e24 ?k24 ?a25 ?l25 ?e25 ?k25 ?a26 ?l26 ?e26 ?k26 ?a27 ?l27 ?e27 ?k27 ?a28 ?l28 ?e28 ?k28 ?a29 ?l29 ?e29 ?k29 ?a30 ?l30 ?e30 ?k30 ?a31 ?l31 ?e31 ?k31 ?a32 ?l32 ?e32 ?k32 ?a33 ?l33 ?e33 ?k33 ?a34 ?l34 ?e34 ?k34 ?a35 ?l35 ?e35 ?k35 ?a36 ?l36 ?e36 ?k36 ?a37 ?l37 ?e37 ?k37 ?a38 ?l38 ?e38 ?k38 ?a39 ?l39 ?e39 ?k39 ?a40 ?l40 ?e40 ?k40 ?a41 ?l41 ?e41 ?k41 ?a42 ?l42 ?e42 ?k42 ?a43 ?l43 ?e43 ?k43 ?a44 ?l44 ?e44 ?k44 ?a45 ?l45 ?e45 ?k45 ?a46 ?l46 ?e46 ?k46 ?z_abs ?z_all ?z_any ?z_enumerate ?z_len ?z_list ?z_max ?z_range ?z_sorted ?z_sum ?z_zip ?c_MOST_PLACES ?c_MOST_PICKS ?k_Book ?cl_Bookpg ?cl_Bookhd ?cl_Bookpo ?cl_Booksa ?na_Book_bottom ?na_Book_tops ?dia_Book ?dii_Book ?dil_Book ?dic_Book ?dik_Book ?dim_Book ?diq_Book ?dma_Book_as_shares ?dmi_Book_as_shares ?dml_Book_as_shares ?dmc_Book_as_shares ?dmk_Book_as_shares ?dma_Book_scaled ?dmi_Book_scaled ?dml_Book_scaled ?dmc_Book_scaled ?dmk_Book_scaled
    (case a0 => k_is)
    (case l0 => k_is)
    (case e0 => k_is)
    (case k0 => k_is)
    (case a1 => k_is)
    (case l1 => k_is)
    (case e1 => k_is)
    (case k1 => k_is)
    (case a2 => k_is)
    (case l2 => k_is)
    (case e2 => k_is)
    (case k2 => k_is)
    (case a3 => k_is)
    (case l3 => k_is)
    (case e3 => k_is)
    (case k3 => k_is)
    (case a4 => k_is)
    (case l4 => k_is)
    (case e4 => k_is)
    (case k4 => k_is)
    (case a5 => k_is)
    (case l5 => k_is)
    (case e5 => k_is)
    (case k5 => k_is)
    (case a6 => k_is)
    (case l6 => k_is)
    (case e6 => k_is)
    (case k6 => k_is)
    (case a7 => k_is)
    (case l7 => k_is)
    (case e7 => k_is)
    (case k7 => k_is)
    (case a8 => k_is)
    (case l8 => k_is)
    (case e8 => k_is)
    (case k8 => k_is)
    (case a9 => k_is)
    (case l9 => k_is)
    (case e9 => k_is)
    (case k9 => k_is)
    (case a10 => k_is)
    (case l10 => k_is)
    (case e10 => k_is)
    (case k10 => k_is)
    (case a11 => k_is)
    (case l11 => k_is)
    (case e11 => k_is)
    (case k11 => k_is)
    (case a12 => k_is)
    (case l12 => k_is)
    (case e12 => k_is)
    (case k12 => k_is)
    (case a13 => k_is)
    (case l13 => k_is)
    (case e13 => k_is)
    (case k13 => k_is)
    (case a14 => k_is)
    (case l14 => k_is)
    (case e14 => k_is)
    (case k14 => k_is)
    (case a15 => k_is)
    (case l15 => k_is)
    (case e15 => k_is)
    (case k15 => k_is)
    (case a16 => k_is)
    (case l16 => k_is)
    (case e16 => k_is)
    (case k16 => k_is)
    (case a17 => k_is)
    (case l17 => k_is)
    (case e17 => k_is)
    (case k17 => k_is)
    (case a18 => k_is)
    (case l18 => k_is)
    (case e18 => k_is)
    (case k18 => k_is)
    (case a19 => k_is)
    (case l19 => k_is)
    (case e19 => k_is)
    (case k19 => k_is)
    (case a20 => k_is)
    (case l20 => k_is)
    (case e20 => k_is)
    (case k20 => k_is)
    (case a21 => k_is)
    (case l21 => k_is)
    (case e21 => k_is)
    (case k21 => k_is)
    (case a22 => k_is)
    (case l22 => k_is)
    (case e22 => k_is)
    (case k22 => k_is)
    (case a23 => k_is)
    (case l23 => k_is)
    (case e23 => k_is)
    (case k23 => k_is)
    (case a24 => k_is)
    (case l24 => k_is)
    (case e24 => k_is)
    (case k24 => k_is)
    (case a25 => k_is)
    (case l25 => k_is)
    (case e25 => k_is)
    (case k25 => k_is)
    (case a26 => k_is)
    (case l26 => k_is)
    (case e26 => k_is)
    (case k26 => k_is)
    (case a27 => k_is)
    (case l27 => k_is)
    (case e27 => k_is)
    (case k27 => k_is)
    (case a28 => k_is)
    (case l28 => k_is)
    (case e28 => k_is)
    (case k28 => k_is)
    (case a29 => k_is)
    (case l29 => k_is)
    (case e29 => k_is)
    (case k29 => k_is)
    (case a30 => k_is)
    (case l30 => k_is)
    (case e30 => k_is)
    (case k30 => k_is)
    (case a31 => k_is)
    (case l31 => k_is)
    (case e31 => k_is)
    (case k31 => k_is)
    (case a32 => k_is)
    (case l32 => k_is)
    (case e32 => k_is)
    (case k32 => k_is)
    (case a33 => k_is)
    (case l33 => k_is)
    (case e33 => k_is)
    (case k33 => k_is)
    (case a34 => k_is)
    (case l34 => k_is)
    (case e34 => k_is)
    (case k34 => k_is)
    (case a35 => k_is)
    (case l35 => k_is)
    (case e35 => k_is)
    (case k35 => k_is)
    (case a36 => k_is)
    (case l36 => k_is)
    (case e36 => k_is)
    (case k36 => k_is)
    (case a37 => k_is)
    (case l37 => k_is)
    (case e37 => k_is)
    (case k37 => k_is)
    (case a38 => k_is)
    (case l38 => k_is)
    (case e38 => k_is)
    (case k38 => k_is)
    (case a39 => k_is)
    (case l39 => k_is)
    (case e39 => k_is)
    (case k39 => k_is)
    (case a40 => k_is)
    (case l40 => k_is)
    (case e40 => k_is)
    (case k40 => k_is)
    (case a41 => k_is)
    (case l41 => k_is)
    (case e41 => k_is)
    (case k41 => k_is)
    (case a42 => k_is)
    (case l42 => k_is)
    (case e42 => k_is)
    (case k42 => k_is)
    (case a43 => k_is)
    (case l43 => k_is)
    (case e43 => k_is)
    (case k43 => k_is)
    (case a44 => k_is)
    (case l44 => k_is)
    (case e44 => k_is)
    (case k44 => k_is)
    (case a45 => k_is)
    (case l45 => k_is)
    (case e45 => k_is)
    (case k45 => k_is)
    (case a46 => k_is)
    (case l46 => k_is)
    (case e46 => k_is)
    (case k46 => k_is)
    (case z_abs => k_is)
    (case z_all => k_is)
    (case z_any => k_is)
    (case z_enumerate => k_is)
    (case z_len => k_is)
    (case z_list => k_is)
    (case z_max => k_is)
    (case z_range => k_is)
    (case z_sorted => k_is)
    (case z_sum => k_is)
    (case z_zip => k_is)
    (case c_MOST_PLACES => k_is)
    (case c_MOST_PICKS => k_is)
    (case k_Book => k_is)
    (case cl_Bookpg => k_is)
    (case cl_Bookhd => k_is)
    (case cl_Bookpo => k_is)
    (case cl_Booksa => k_is)
    (case na_Book_bottom => k_is)
    (case na_Book_tops => k_is)
    (case dia_Book => k_is)
    (case dii_Book => k_is)
    (case dil_Book => k_is)
    (case dic_Book => k_is)
    (case dik_Book => k_is)
    (case dim_Book => k_is)
    (case diq_Book => k_is)
    (case dma_Book_as_shares => k_is)
    (case dmi_Book_as_shares => k_is)
    (case dml_Book_as_shares => k_is)
    (case dmc_Book_as_shares => k_is)
    (case dmk_Book_as_shares => k_is)
    (case dma_Book_scaled => k_is)
    (case dmi_Book_scaled => k_is)
    (case dml_Book_scaled => k_is)
    (case dmc_Book_scaled => k_is)
    (case dmk_Book_scaled => k_is)
