import PyProof.Rows.All
import Wide.All
import OpenK.AllK
import Wide.FinOn
import Lean
import PyProof.EqAt
import PyProof.EqKinds
import PyProof.TupleCall
import PyProof.NeKinds
import PySem.Challenge.RW_pressluck_k45_ends_raised
set_option Elab.async false
set_option linter.all false
set_option maxRecDepth 100000
theorem aac : type_of% @List.length_map := @List.length_map
theorem aad : type_of% @List.getElem?_eq_getElem := @List.getElem?_eq_getElem
theorem aae : type_of% @List.mem_of_getElem? := @List.mem_of_getElem?
theorem aaf : type_of% @List.getD_eq_getElem?_getD := @List.getD_eq_getElem?_getD
theorem aag : type_of% @List.getElem?_map := @List.getElem?_map
theorem aah : type_of% @Nat.le_refl := @Nat.le_refl
theorem aai : type_of% @Int.toNat_natCast := @Int.toNat_natCast
theorem aaj : type_of% @List.mem_cons_self := @List.mem_cons_self
theorem aak : type_of% @List.mem_cons_of_mem := @List.mem_cons_of_mem
theorem aal : type_of% @PySem.W.mg_of := @PySem.W.mg_of
theorem aam : type_of% @List.size_toArray := @List.size_toArray
theorem aan : type_of% @Nat.ne_of_lt := @Nat.ne_of_lt
theorem aao : type_of% @List.getElem_mem := @List.getElem_mem
theorem aap : type_of% @Nat.le_trans := @Nat.le_trans
theorem aaq : type_of% @List.getElem?_eq_none := @List.getElem?_eq_none
theorem aar : type_of% @List.length_cons := @List.length_cons
theorem aas : type_of% @Nat.zero_le := @Nat.zero_le
theorem aat : type_of% @List.map_cons := @List.map_cons
theorem aau : type_of% @Int.eq_ofNat_of_zero_le := @Int.eq_ofNat_of_zero_le
theorem aav : type_of% @Nat.lt_of_lt_of_le := @Nat.lt_of_lt_of_le
theorem aaw : type_of% @List.getElem?_of_mem := @List.getElem?_of_mem
theorem aax : type_of% @List.map_append := @List.map_append
theorem aay : type_of% @Option.some.inj := @Option.some.inj
theorem aaz : type_of% @Bool.false_ne_true := @Bool.false_ne_true
theorem aaA : type_of% @List.length_range := @List.length_range
theorem aaB : type_of% @PySem.boot_len := @PySem.boot_len
theorem aaC : type_of% @Int.mul_comm := @Int.mul_comm
theorem aaD : type_of% @List.length_append := @List.length_append
theorem aaE : type_of% @List.take_add_one := @List.take_add_one
theorem aaF : type_of% @Nat.lt_irrefl := @Nat.lt_irrefl
theorem aaG : type_of% @Int.emod_nonneg := @Int.emod_nonneg
theorem aaH : type_of% @List.getElem?_set_ne := @List.getElem?_set_ne
theorem aaI : type_of% @List.mem_append_right := @List.mem_append_right
theorem aaJ : type_of% @List.take_of_length_le := @List.take_of_length_le
theorem aaK : type_of% @Nat.lt_succ_self := @Nat.lt_succ_self
theorem aaL : type_of% @Int.natAbs_mul := @Int.natAbs_mul
theorem aaM : type_of% @List.lookup_cons := @List.lookup_cons
theorem aaN : type_of% @List.ext_getElem? := @List.ext_getElem?
theorem aaO : type_of% @List.map_map := @List.map_map
theorem aaP : type_of% @PySem.F.plainAttrs_list := @PySem.F.plainAttrs_list
theorem aaQ : type_of% @Int.emod_lt_of_pos := @Int.emod_lt_of_pos
theorem aaR : type_of% @List.length_replicate := @List.length_replicate
theorem aaS : type_of% @Bool.and_eq_true := @Bool.and_eq_true
theorem aaT : type_of% @List.length_set := @List.length_set
theorem aaU : type_of% @Int.mul_assoc := @Int.mul_assoc
theorem aaV : type_of% @List.length_zipWith := @List.length_zipWith
theorem aaW : type_of% @List.getElem?_set_self := @List.getElem?_set_self
theorem aaX : type_of% @List.length_take := @List.length_take
theorem aaY : type_of% @List.getElem?_append_right := @List.getElem?_append_right
theorem aaZ : type_of% @List.getElem?_append_left := @List.getElem?_append_left
theorem aa0 : type_of% @List.map_nil := @List.map_nil
theorem aa1 : type_of% @Nat.zero_add := @Nat.zero_add
theorem aa2 : type_of% @List.getElem?_range := @List.getElem?_range
theorem aa3 : type_of% @List.idxOf_lt_length_of_mem := @List.idxOf_lt_length_of_mem
theorem aa4 : type_of% @Int.le_refl := @Int.le_refl
theorem aa5 : type_of% @List.getElem_of_mem := @List.getElem_of_mem
theorem aa6 : type_of% @List.append_nil := @List.append_nil
theorem aa7 : type_of% @Int.mul_pos := @Int.mul_pos
theorem aa8 : type_of% @List.getElem_idxOf := @List.getElem_idxOf
theorem aa9 : type_of% @PySem.F.slot_list_append := @PySem.F.slot_list_append
theorem aba : type_of% @PySem.F.type_list_append := @PySem.F.type_list_append
theorem abb : type_of% @PySem.mem_of_lookup := @PySem.mem_of_lookup
theorem abc : type_of% @Nat.not_lt_zero := @Nat.not_lt_zero
theorem abd : type_of% @PySem.W.mg_none_of := @PySem.W.mg_none_of
theorem abe : type_of% @List.length_nil := @List.length_nil
theorem abf : type_of% @Nat.lt_of_le_of_lt := @Nat.lt_of_le_of_lt
theorem abg : type_of% @List.set_cons_zero := @List.set_cons_zero
theorem abh : type_of% @List.set_cons_succ := @List.set_cons_succ
theorem abi : type_of% @Nat.mul_le_mul := @Nat.mul_le_mul
theorem abj : type_of% @List.getElem_inj := @List.getElem_inj
theorem abk : type_of% @List.getElem?_cons_succ := @List.getElem?_cons_succ
theorem abl : type_of% @List.getElem?_zipWith := @List.getElem?_zipWith
theorem abm : type_of% @Array.length_toList := @Array.length_toList
theorem abn : type_of% @List.replicate_succ := @List.replicate_succ
theorem abo : type_of% @Nat.pow_le_pow_right := @Nat.pow_le_pow_right
theorem abp : type_of% @Nat.lt_succ_of_lt := @Nat.lt_succ_of_lt
theorem abq : type_of% @List.filterMap_append := @List.filterMap_append
theorem abr : type_of% @List.cons_append := @List.cons_append
theorem abt : type_of% @List.getElem?_cons_zero := @List.getElem?_cons_zero
theorem abu : type_of% @Option.some.injEq := @Option.some.injEq
theorem abv : type_of% @List.mem_append_left := @List.mem_append_left
theorem abw : type_of% @List.map_congr_left := @List.map_congr_left
theorem abx : type_of% @List.replicate_zero := @List.replicate_zero
theorem aby : type_of% @Nat.mul_le_mul_left := @Nat.mul_le_mul_left
theorem abz : type_of% @List.eq_of_mem_replicate := @List.eq_of_mem_replicate
namespace Hd
open PySem PySem.W PyProof.Rows
noncomputable def vP (ok:Thread->Bool) (st:SharedT->Thread->Option (SharedT×Thread)) (n:Nat):SharedT->Thread->Option SharedT:=
 @Nat.rec (λ_=>SharedT->Thread->Option SharedT) (λ_ _=>none)
  (λ_ ih s t=>@Bool.rec (λ_=>Option SharedT) (@Bool.rec (λ_=>Option SharedT) none (@Option.rec (SharedT×Thread) (λ_=>Option SharedT) none (λr=>@Prod.rec _ _ (λ_=>Option SharedT) (λa b=>ih a b) r) (st s t)) (ok t)) (some s) (through t)) n
theorem mI {tb:String->Option Builtin} {p:Program} {w:World} {n₀:Nat} {ann:Option Value}:∀(n:Nat) (s:SharedT) (t:Thread) (s':SharedT),vP (stepOk n₀ ann) (stepT (denote tb) p w) n s t=some s'->topRun tb p w n₀ ann n s.abs t=some s'.abs
 | 0,_,_,_,h=>by cases h
 | n+1,s,t,s',h=>by
  unfold topRun
  replace h:@Bool.rec (λ_=>Option SharedT) (@Bool.rec (λ_=>Option SharedT) none (@Option.rec (SharedT×Thread) (λ_=>Option SharedT) none (λr=>@Prod.rec _ _ (λ_=>Option SharedT) (λa b=>vP (stepOk n₀ ann) (stepT (denote tb) p w) n a b) r) (stepT (denote tb) p w s t)) (stepOk n₀ ann t)) (some s) (through t)=some s':=h
  cases ht:through t with
  | true=>rw[ht] at h;cases h;rfl
  | false=>
   rw[ht] at h
   cases hk:stepOk n₀ ann t with
   | false=>rw[hk] at h;cases h
   | true=>
    rw[hk] at h
    cases hs:stepT (denote tb) p w s t with
    | none=>rw[hs] at h;cases h
    | some r=>obtain⟨s₂,t₂⟩:=r;rw[hs] at h;rw[stepT_spec hs];exact mI n s₂ t₂ s' h
noncomputable def bt (P:Params):BT:=((boot_heap P).objs.toList.foldl (fun(x:BT×Nat) o=>(x.1.ins x.2 o,x.2+1)) (.nil,0)).1
noncomputable def yH (w:World) (os:OsState):SharedT:=⟨bt w.params,11,{},Array.mk [],boot_drawn,boot_toks,os⟩
theorem xC (w:World) (os:OsState):(yH w os).abs=⟨boot_heap w.params,Array.mk [],boot_drawn,boot_toks,os⟩:=by kernel_rfl
theorem uE (w:World):((boot_heap w.params).isNs mainGlobals && (Array.mk []:Array GenState).size==0,(boot_heap w.params).objs.size,(boot_heap w.params).nsMap mainGlobals "__annotations__")=(true,11,some (.ref 6)):=by kernel_rfl
theorem yI {p q:Program} {loose:List Str} {Xt:Shared->Bool} {α:Type} {Yf:Shared->α} {Ya:World->α} {N:Nat} {g0:Bool}
  (Hk:∀w:World,(fencedOpening treeTable p w N).map (λs=>(s.heap,s.gens,s.drawn,s.toks))=some (boot_heap w.params,Array.mk [],boot_drawn,boot_toks))
  (run:∀(w:World) (os:OsState),(vP (stepOk 11 (some (.ref 6))) (stepT (denote treeTable) p w) N (yH w os) (topStub p)).map (λs=>((staticsOk (importedModules p.main.body) (boot_heap w.params) s.abs.heap && namesBound p s.abs.heap && gensDone s.abs && laidKept (boot_heap w.params) s.abs.heap),openSeen q loose (importedModules p.main.body) Xt g0 s.abs,Yf s.abs))=some (true,openGood q loose,Ya w)):
  LeftO p q loose Xt Yf Ya N g0:=λw=>by
 obtain⟨⟨h,gs,d,k,os⟩,e,e'⟩:=Option.map_eq_some_iff.mp (Hk w)
 obtain⟨rfl,rfl,rfl,rfl⟩:h=boot_heap w.params/\gs=Array.mk []/\d=boot_drawn/\k=boot_toks:=by simpa using e'
 obtain⟨z1,z2,z3⟩:_/\_/\_:=by simpa only[Prod.mk.injEq] using uE w
 obtain⟨s,r,l⟩:=Option.map_eq_some_iff.mp (run w os)
 obtain⟨l1,l2,l3⟩:_/\_/\_:=by simpa only[Prod.mk.injEq] using l
 have r:=mI _ _ _ _ r
 rw[xC] at r
 have t:topFrom treeTable p w N ⟨boot_heap w.params,Array.mk [],boot_drawn,boot_toks,os⟩=some s.abs:=by
  unfold topFrom
  dsimp only
  rw[z1,z2,z3,r]
  show(match staticsOk (importedModules p.main.body) (boot_heap w.params) s.abs.heap && namesBound p s.abs.heap && gensDone s.abs && laidKept (boot_heap w.params) s.abs.heap with | true=>_ | false=>_)=_
  rw[l1]
 unfold openEnds
 rw[e]
 show((topFrom treeTable p w N ⟨boot_heap w.params,Array.mk [],boot_drawn,boot_toks,os⟩)).map _=_
 rw[t]
 show some (_,_)=_
 rw[l2,l3]
noncomputable def Runs (p q:Program) (loose:List Str) (Xt:Shared->Bool) {α:Type} (Yf:Shared->α) (Ya:World->α) (N:Nat) (g0:Bool) (w:World):Prop:=
 ∀os:OsState,(vP (PySem.W.Fast.tw6613529449190102663 11 (some (.ref 6))) (PySem.W.Fast.tw10156331382660048174 (PySem.W.Fast.tw11892475500146522536 PySem.W.Fast.tw14364793385576792824) p w) N (yH w os) (topStub p)).map (λs=>((staticsOk (importedModules p.main.body) (boot_heap w.params) s.abs.heap && namesBound p s.abs.heap && gensDone s.abs && laidKept (boot_heap w.params) s.abs.heap),PySem.W.Fast.tw4187177175401517315 q loose (importedModules p.main.body) Xt g0 s.abs,Yf s.abs))=some (true,openGood q loose,Ya w)
theorem xE {p q:Program} {loose:List Str} {Xt:Shared->Bool} {α:Type} {Yf:Shared->α} {Ya:World->α} {N:Nat} {g0:Bool}
  (e:opening p=plainProg p.main.scope.names) (hN:Nat.ble 600 N=true) (f:∀s,fenceModules? p s=some s)
  (run:∀w:World,Runs p q loose Xt Yf Ya N g0 w):
  LeftO p q loose Xt Yf Ya N g0:=by
 refine yI (boot_open e hN f) ?_
 unfold Runs at run
 rw[PySem.W.Fast.te6613529449190102663,PySem.W.Fast.te10156331382660048174,PySem.W.Fast.te11892475500146522536,PySem.W.Fast.te14364793385576792824,PySem.W.Fast.te4187177175401517315]
 exact run
end Hd
namespace K45
open PySem PySem.Spec PyProof.Rows
noncomputable def top (i:Nat):Stmt:=PySem.Challenge.pw_pressluck_k45_ends_raised.main.body.getD i (.Pass ⟨0,0,0,0⟩)
end K45
section LJ
open PySem PySem.W PyProof.Rows
local macro_rules | `(tactic| o_head $H) => `(tactic| (refine (fun (_ : PySem.W.Hook) => ?_) $H; assumption))
theorem K45.pre (h:PySem.W.OpenRow.Holds (PySem.W.OpenLaw.row PySem.Challenge.rw_pressluck_k45_ends_raised)):PySem.W.OpenRow.Holds (PySem.W.OpenLaw.row PySem.Challenge.rw_pressluck_k45_ends_raised):=by
 k_head
noncomputable def K45.Du:List Addr:=[2,3,15,18,19,20,23,24,25,28,29,30,33,34,35,38,39,40,47,48,49,50,53,60,61,62,65,72,74,75,77,78,79,80,81,84,91,92,93,96,98,99,101,102,103,105,106,108,109,110,112,113,115,116,117,119,120,122,123,124,126,127,129,130,131,134,135,136,138,139,141,142,143,146,147,148,150,151,153,154,155,158,159,160,162,163,165,166,167,169,170,172,173,174,176,177,179,180,181,184,185,186,189,190,191,193,194,196,197,205,207,208,210,211,212,215,216,217,220,221,222,223,224,225,226,229,231,232,234,235,236,239,240,241,244,245,246,248,249,251,252,253,256,257,258,261,262,263,265,266,268,269,270,273,274,275,277,278,280,281,282,285,286,287,290,291,292,294,295,297,298,299,301,302,304,305,306,308,309,311,312,313,315,316,318,319,320,322,323,325,326,327,329,330,332,333,334,337,338,339,341,342,344,345,346,349,350,358,360,361,363,364,377,379,380,382,383,384,386,387,389,390,391,393,394,396,397,398,401,402]
theorem K45.Ei (P:PySem.Params):K45.Du=(K45.pre.heap_1 P).map (·.1):=by kernel_rfl
noncomputable def K45.vw:PySem.Program:={PySem.Challenge.pw_pressluck_k45_ends_raised with main:={PySem.Challenge.pw_pressluck_k45_ends_raised.main with body:=[K45.top 1,K45.top 2,K45.top 3,K45.top 4,K45.top 5,K45.top 7,K45.top 8,K45.top 9,K45.top 10,K45.top 12,K45.top 13,K45.top 14,K45.top 16,K45.top 17,K45.top 18,K45.top 19,K45.top 20,K45.top 22,K45.top 23,K45.top 25,K45.top 26,K45.top 27,K45.top 28,K45.top 29,K45.top 30,K45.top 31,K45.top 32,K45.top 33,K45.top 34,K45.top 35,K45.top 36,K45.top 37,K45.top 38,K45.top 40,K45.top 41,K45.top 42,K45.top 43,K45.top 44,K45.top 45,K45.top 47,K45.top 48,K45.top 49,K45.top 50,K45.top 51,K45.top 52,K45.top 53,K45.top 54,K45.top 55,K45.top 56,K45.top 57,K45.top 58,K45.top 59,K45.top 60,K45.top 61,K45.top 62,K45.top 63]}}
theorem K45.run (w:World):Hd.Runs (RowW.prog (OpenRow.toRowW (PySem.W.OpenLaw.row PySem.Challenge.rw_pressluck_k45_ends_raised))) K45.vw [] (λs=>xlAt K45.vw [] s && recOk (RowW.records (OpenRow.toRowW (PySem.W.OpenLaw.row PySem.Challenge.rw_pressluck_k45_ends_raised))) s) (Hook.obs (PySem.W.kmHook K45.pre.heap_1 K45.Du K45.Ei [156])) (Hook.val (PySem.W.kmHook K45.pre.heap_1 K45.Du K45.Ei [156])) 5468 true w:=λos=>by kernel_rfl
end LJ
set_option tactic.hygienic false
set_option compiler.extract_closed false
local macro_rules | `(tactic| omega) => `(tactic| lia)
namespace L2
open PySem PySem.Spec PyProof.Rows
abbrev Key:=Sum Int Str
noncomputable def mJ:Key->Value->Bool
 | .inl k,v=>Value.isInt k v
 | .inr x,v=>Value.isStrOf x v
noncomputable def Ej (w:World):Key->Int
 | .inl k=>hashInt k
 | .inr x=>hashStr w x
theorem b9:∀{k:Key} {v:Value},mJ k v=true->(∃i t,k=Sum.inl i/\v=Value.int i t)\/(∃x t,k=Sum.inr x/\v=Value.str x t)
 | .inl i,v,h=>by
  obtain⟨t,e⟩:=Value.isInt_shape (k:=i) (v:=v) h
  exact .inl ⟨i,t,rfl,e⟩
 | .inr x,v,h=>by
  obtain⟨t,e⟩:=Value.isStrOf_shape (x:=x) (v:=v) h
  exact .inr ⟨x,t,rfl,e⟩
theorem xF (i:Int) (t:Tok):mJ (.inl i) (.int i t)=true:=by simp [mJ,Value.isInt]
theorem xG (x:Str) (t:Tok):mJ (.inr x) (.str x t)=true:=by simp [mJ,Value.isStrOf]
theorem Ek (a b:Int):decide ((Sum.inl a:Key)=Sum.inl b)=(a==b):=by
 by_cases e:a=b
 ·subst e;simp
 ·have h:¬(Sum.inl a:Key)=Sum.inl b:=λq=>e (Sum.inl.inj q)
  rw[decide_eq_false h]
  exact(beq_eq_false_iff_ne.mpr e).symm
theorem El (a b:Str):decide ((Sum.inr a:Key)=Sum.inr b)=decide (a=b):=by
 by_cases e:a=b
 ·subst e;simp
 ·have h:¬(Sum.inr a:Key)=Sum.inr b:=λq=>e (Sum.inr.inj q)
  rw[decide_eq_false h,decide_eq_false e]
theorem Em (a:Int) (b:Str):decide ((Sum.inl a:Key)=Sum.inr b)=false:=decide_eq_false (λq=>nomatch q)
theorem Eo (a:Str) (b:Int):decide ((Sum.inr a:Key)=Sum.inl b)=false:=decide_eq_false (λq=>nomatch q)
noncomputable def bX (prog:Program) (w:World):PySem.KeyKind prog w Key where
 is:=mJ
 hash:=Ej w
 inj:=λv a b ha hb=>by
  rcases b9 ha with ⟨i,t,rfl,rfl⟩ | ⟨x,t,rfl,rfl⟩
  ·rcases b9 hb with ⟨j,u,rfl,e⟩ | ⟨y,u,rfl,e⟩
   ·injection e with e1 _;rw[e1]
   ·exact nomatch e
  ·rcases b9 hb with ⟨j,u,rfl,e⟩ | ⟨y,u,rfl,e⟩
   ·exact nomatch e
   ·injection e with e1 _;rw[e1]
 byValue:=λk v h=>by
  rcases b9 h with ⟨i,t,rfl,rfl⟩ | ⟨x,t,rfl,rfl⟩ <;>rfl
 pyHash:=λhv h=>by
  rcases b9 hv with ⟨i,t,rfl,rfl⟩ | ⟨x,t,rfl,rfl⟩
  ·exact wpAny_pyHash_int h
  ·exact wpAny_pyHash_str h
 eqBool:=λhu hv h=>by
  rcases b9 hu with ⟨i,t,rfl,rfl⟩ | ⟨x,t,rfl,rfl⟩
  ·rcases b9 hv with ⟨j,u,rfl,rfl⟩ | ⟨y,u,rfl,rfl⟩
   ·rw[Ek] at h;exact wpAny_eqBool_int h
   ·rw[Em] at h;exact SeqAt.EqAt.int_str i t y u _ _ _ _ h
  ·rcases b9 hv with ⟨j,u,rfl,rfl⟩ | ⟨y,u,rfl,rfl⟩
   ·rw[Eo] at h;exact SeqAt.EqAt.str_int x t j u _ _ _ _ h
   ·rw[El] at h;exact wpAny_eqBool_str h
 «strs»:=λk x t v h=>by
  rcases b9 h with ⟨i,u,rfl,e⟩ | ⟨y,u,rfl,e⟩
  ·exact nomatch e
  ·injection e with e1 _
   subst e1
   cases v <;>rfl
theorem sr (prog:Program) (w:World) (i:Int) (t:Tok):(bX prog w).is (.inl i) (.int i t)=true:=xF i t
theorem su (prog:Program) (w:World) (x:Str) (t:Tok):(bX prog w).is (.inr x) (.str x t)=true:=xG x t
end L2
namespace L2
open PySem PySem.Spec PyProof.Rows
inductive V where
 | cE | bl (b:Bool) | int (i:Int) | str (x:Str) | yD (b:Array UInt8) | GO (b:UInt64) | ref (a:Addr) | ty (n:String)
 deriving DecidableEq
noncomputable def RelV:V->Value->Prop
 | .cE,u=>u=Value.none
 | .bl b,u=>u=Value.bool b
 | .int i,u=>∃t,u=Value.int i t
 | .str x,u=>∃t,u=Value.str x t
 | .yD b,u=>∃t,u=Value.bytes b t
 | .GO b,u=>∃t,u=Value.float b t
 | .ref a,u=>u=Value.ref a
 | .ty n,u=>u=Value.type n
abbrev bu:List V->List Value->Prop:=Paired RelV
theorem bu.length {xs:List V} {us:List Value} (r:bu xs us):xs.length=us.length:=Paired.length r
theorem bu.get:∀{xs:List V} {us:List Value} {i:Nat} {x:V},bu xs us->xs[i]?=some x->∃u,us[i]?=some u/\RelV x u
 | _,_,_,_,.nil,e=>by simp at e
 | _,_,0,_,.cons r _,e=>by simp at e;subst e;exact⟨_,rfl,r⟩
 | _,_,i+1,x,.cons _ t,e=>by
  obtain⟨u,h1,h2⟩:=bu.get (i:=i) (x:=x) t (by simpa using e)
  exact⟨u,by simpa using h1,h2⟩
theorem bu.set {x:V} {u:Value} (r:RelV x u):∀{xs:List V} {us:List Value} (i:Nat),bu xs us->bu (xs.set i x) (us.set i u)
 | _,_,_,.nil=>.nil
 | _,_,0,.cons _ t=>.cons r t
 | _,_,i+1,.cons q t=>.cons q (bu.set r i t)
theorem bu.append:∀{xs ys:List V} {us ws:List Value},bu xs us->bu ys ws->bu (xs++ys) (us++ws)
 | _,_,_,_,.nil,s=>s
 | _,_,_,_,.cons r t,s=>.cons r (bu.append t s)
theorem bu.take:∀{xs:List V} {us:List Value} (n:Nat),bu xs us->bu (xs.take n) (us.take n)
 | _,_,0,_=>.nil
 | _,_,_+1,.nil=>.nil
 | _,_,n+1,.cons r t=>.cons r (bu.take n t)
theorem bu.drop:∀{xs:List V} {us:List Value} (n:Nat),bu xs us->bu (xs.drop n) (us.drop n)
 | _,_,0,r=>r
 | _,_,_+1,.nil=>.nil
 | _,_,n+1,.cons _ t=>bu.drop n t
noncomputable def iy:Option V->Option Value->Prop
 | some v,some u=>RelV v u
 | none,none=>True
 | _,_=>False
noncomputable def KV {κ:Type}:List (κ×V)->List (κ×Value)->Prop:=Paired fun(p:κ×V) (q:κ×Value)=>p.1=q.1/\RelV p.2 q.2
noncomputable def kV:Key->V
 | .inl i=>.int i
 | .inr x=>.str x
inductive HO where
 | lst (xs:List V)
 | tup (xs:List V)
 | dK (kvs:List (Key×V)) | dT (kvs:List (List Key×V))
 | set (S:Int->Bool) (n:Nat)
 | ins (C dx:Addr) (fs:List (Str×V))
 | own (x:Addr)
 | xd (fs:List (Str×V))
 | met (f x:Addr)
 | lZ (lo hi:Int)
 | uy (o:Obj) (u:HO)
 | rZ (ps:Array Value)
 | ext (φ:Heap->Prop)
abbrev Hp:=Addr->Option HO
noncomputable def upd (H:Hp) (a:Addr) (o:HO):Hp:=λb=>if b=a then some o else H b
theorem ar {H:Hp} {a:Addr} {o:HO}:upd H a o a=some o:=by unfold upd;rw[if_pos rfl]
theorem aI {H:Hp} {a b:Addr} {o:HO} (h:b≠a):upd H a o b=H b:=by unfold upd;rw[if_neg h]
theorem BL {H:Hp} {a:Addr} {o u:HO}:upd (upd H a o) a u=upd H a u:=by
 funext b;unfold upd;split <;>rfl
theorem Hl {H:Hp} {a b:Addr} {o u:HO} (h:H a=some o) (h':H b=some u) (d:o≠u):a≠b:=by
 intro e;subst e;rw[h] at h';exact d (aay h')
theorem bA {H:Hp} {a b:Addr} {o:HO} (h:H a=some o) (h':H b=none):a≠b:=by
 intro e;subst e;rw[h] at h';cases h'
noncomputable def TabAt (H:Hp) (h:Heap) (a:Addr) (ps:Array Value):Prop:=∃mo:Array Value,h.get? a=some {cls:=.none,data:=.fields mo}/\
 (mo=#[]\/∃(l c:Value) (c1:Addr) (q:Str) (t:Tok),ps=#[l,c,.str q t]/\mo=#[l,c,.ref c1]/\H c1=some (.own a)/\h.CodeRec (.ref c1) q)
section
variable (P : Program) (w : World)
noncomputable def cK (H:Hp) (h:Heap) (a:Addr):HO->Prop
 | .lst xs=>xs.length<=sizeLine/\∃(aU:List Value) (n:Nat),bu xs aU/\h.get? a=some {cls:=.type "list",data:=.seq aU.toArray n}
 | .tup xs=>xs.length<=sizeLine/\∃aU:List Value,bu xs aU/\IsTup h a aU.toArray
 | .dK kvs=>kvs.length<=sizeLine/\(a==sysModules)=false/\∃vs,KV kvs vs/\h.DictOf (bX P w) a vs
 | .dT kvs=>kvs.length<=sizeLine/\(a==sysModules)=false/\∃xs:List (List Key×Addr×Value),
   Paired (fun(p:List Key×V) (q:List Key×Addr×Value)=>p.1=q.1/\H q.2.1=some (.tup (p.1.map kV))/\RelV p.2 q.2.2) kvs xs/\
   ∃o es ep,h.get? a=some o/\o.ExactDict/\o.data=.dict es ep/\es.toList=xs.map (entryOfKey (tupleKind (bX P w)))/\(xs.map (·.1)).Nodup
 | .set S n=>h.SetOf (intKind P w) a S n
 | .ins C dx fs=>H dx=some (.own a)/\fs.length<=1000/\dx≠a/\h.get? a=some (PySem.W.instObj C dx)/\
   ∃mA,h.Ns1 dx mA/\(∀f,iy (fs.lookup f) (mA f))/\PySem.Within mA (fs.map (·.1))
 | .own _=>∃o,h.get? a=some o
 | .xd fs=>∃mA,h.Ns1 a mA/\∀f,iy (fs.lookup f) (mA f)
 | .lZ lo hi=>∃t u v,h.get? a=some {cls:=.type "range",data:=.fields #[.int lo t,.int hi u,.int 1 v]}
 | .uy o u=>h.get? a=some o/\cK H h a u
 | .rZ ps=>TabAt H h a ps
 | .met f x=>h.get? a=some (PySem.W.methodObj (.ref f) (.ref x))
 | .ext φ=>φ h/\(∃o,h.get? a=some o)/\∀h1 h2:Heap,φ h1->(∀o,h1.get? a=some o->h2.get? a=some o)->φ h2
noncomputable def gz (H:Hp) (h:Heap):Prop:=∀a o,H a=some o->cK P w H h a o
end
section
variable {P : Program} {w : World} {H H' : Hp} {h h' : Heap} {a : Addr} {o : HO}
theorem cK.lt (x:cK P w H h a o):a<h.objs.size:=by
 cases o with
 | lst xs=>obtain⟨_,_,_,_,e⟩:=x;exact Heap.lt_size e
 | tup xs=>obtain⟨_,_,_,p⟩:=x;exact p.lt
 | dK kvs=>obtain⟨_,_,_,_,o,_,_,e,_⟩:=x;exact Heap.lt_size e
 | dT kvs=>obtain⟨_,_,_,_,o,_,_,e,_⟩:=x;exact Heap.lt_size e
 | set S n=>obtain⟨o,_,_,_,e,_⟩:=x;exact Heap.lt_size e
 | ins C dx fs=>obtain⟨_,_,_,e,_⟩:=x;exact Heap.lt_size e
 | own y=>obtain⟨_,e⟩:=x;exact Heap.lt_size e
 | xd fs=>obtain⟨_,⟨_,_,_,e,_⟩,_⟩:=x;exact Heap.lt_size e
 | lZ lo hi=>obtain⟨_,_,_,e⟩:=x;exact Heap.lt_size e
 | uy ob u=>obtain⟨e,_⟩:=x;exact Heap.lt_size e
 | rZ ps=>obtain⟨_,e,_⟩:=x;exact Heap.lt_size e
 | met f y=>exact Heap.lt_size (show h.get? a=some _ from x)
 | ext φ=>obtain⟨_,⟨_,e⟩,_⟩:=x;exact Heap.lt_size e
theorem Paired.Ep {α β:Type} {F G:α->β->Prop}:∀{l₁:List α} {l₂:List β},Paired F l₁ l₂->(∀a b,F a b->G a b)->Paired G l₁ l₂
 | _,_,.nil,_=>.nil
 | _,_,.cons r t,f=>.cons (f _ _ r) (Paired.Ep t f)
theorem cK.oS (x:cK P w H h a o) (k:∀b u,(b=a\/H b=some (.own a))->h.get? b=some u->h'.get? b=some u)
  (ho:∀b,H b=some (.own a)->H' b=some (.own a)) (ht:∀b xs,H b=some (.tup xs)->H' b=some (.tup xs)):cK P w H' h' a o:=by
 induction o with
 | lst xs=>obtain⟨z,aU,n,r,e⟩:=x;exact⟨z,aU,n,r,k _ _ (.inl rfl) e⟩
 | tup xs=>obtain⟨z,aU,r,ob,e,c⟩:=x;exact⟨z,aU,r,ob,k _ _ (.inl rfl) e,c⟩
 | dK kvs=>obtain⟨z,y,vs,r,ob,es,ep,e,c⟩:=x;exact⟨z,y,vs,r,ob,es,ep,k _ _ (.inl rfl) e,c⟩
 | dT kvs=>
  obtain⟨z,y,xs,r,ob,es,ep,e,c⟩:=x
  exact⟨z,y,xs,Paired.Ep r λp q z=>⟨z.1,ht _ _ z.2.1,z.2.2⟩,ob,es,ep,k _ _ (.inl rfl) e,c⟩
 | set S n=>obtain⟨ob,es,ep,t,e,c⟩:=x;exact⟨ob,es,ep,t,k _ _ (.inl rfl) e,c⟩
 | ins C dx fs=>
  obtain⟨d,z,ne,e,mA,⟨od,es,ep,e2,c⟩,r⟩:=x
  exact⟨ho _ d,z,ne,k _ _ (.inl rfl) e,mA,⟨od,es,ep,k _ _ (.inr d) e2,c⟩,r⟩
 | own y=>obtain⟨ob,e⟩:=x;exact⟨ob,k _ _ (.inl rfl) e⟩
 | xd fs=>obtain⟨mA,⟨od,es,ep,e,c⟩,r⟩:=x;exact⟨mA,⟨od,es,ep,k _ _ (.inl rfl) e,c⟩,r⟩
 | lZ lo hi=>obtain⟨t,u,v,e⟩:=x;exact⟨t,u,v,k _ _ (.inl rfl) e⟩
 | uy ob u ih=>obtain⟨e,q⟩:=x;exact⟨k _ _ (.inl rfl) e,ih q⟩
 | rZ ps=>
  obtain⟨mo,e,q⟩:=x
  refine⟨mo,k _ _ (.inl rfl) e,?_⟩
  rcases q with q | ⟨l,c,c1,qn,t,e1,e2,e3,c2,o2,LK,t2,f1,f2,f3,f4⟩
  ·exact .inl q
  ·cases f1
   exact .inr ⟨l,c,c1,qn,t,e1,e2,ho _ e3,c1,o2,LK,t2,rfl,k _ _ (.inr e3) f2,f3,f4⟩
 | met f y=>
  have e:h.get? a=some (PySem.W.methodObj (.ref f) (.ref y)):=x
  show h'.get? a=some (PySem.W.methodObj (.ref f) (.ref y))
  exact k a _ (.inl rfl) e
 | ext φ=>obtain⟨p,⟨o,e⟩,st⟩:=x;exact⟨st _ _ p λo q=>k _ _ (.inl rfl) q,⟨o,k _ _ (.inl rfl) e⟩,st⟩
theorem gz.lt (x:gz P w H h) (e:H a=some o):a<h.objs.size:=(x a o e).lt
theorem gz.fresh (x:gz P w H h) (e:h.objs.size<=a):H a=none:=by
 cases q:H a with
 | none=>rfl
 | some u=>exact absurd (aav (x.lt q) e) (aaF _)
theorem gz.kept (x:gz P w H h) (k:∀b u,h.get? b=some u->h'.get? b=some u):gz P w H h':=λa o e=>
 (x a o e).oS (λb u _ q=>k b u q) (λ_ q=>q) λ_ _ q=>q
theorem gz.laid (x:gz P w H h) (k:∀b u,h.get? b=some u->h'.get? b=some u) (hp:h.objs.size<=a) (new:cK P w (upd H a o) h' a o):gz P w (upd H a o) h':=λb u e=>by
 have hn:=x.fresh hp
 by_cases hb:b=a
 ·subst hb;rw[ar] at e;cases e;exact new
 ·rw[aI hb] at e
  exact(x b u e).oS (λc v _ q=>k c v q) (λc q=>by rw[aI (bA q hn)];exact q) λc xs q=>by rw[aI (bA q hn)];exact q
end
noncomputable def Rd (H:Hp) (a:Addr) (u:HO):Prop:=H a=some u\/∃o,H a=some (.uy o u)
theorem Rd.ok {P:Program} {w:World} {H:Hp} {h:Heap} {a:Addr} {u:HO} (r:Rd H a u) (x:gz P w H h):cK P w H h a u:=by
 rcases r with r | ⟨o,r⟩
 ·exact x a u r
 ·obtain⟨_,q⟩:=x a _ r
  exact q
noncomputable def Hm:Option HO->Prop
 | some (.lst _)=>True
 | some (.dK _)=>True
 | some (.dT _)=>True
 | some (.set _ _)=>True
 | some (.ins _ _ _)=>True
 | some (.ext _)=>True
 | _=>False
section
variable {P : Program} {w : World} {H : Hp} {h h' : Heap} {x e : Addr} {o' : HO}
theorem gz.write (ok:gz P w H h) (mu:Hm (H x)) (he:e=x\/H e=some (.own x)) (k:∀b u,b≠e->h.get? b=some u->h'.get? b=some u) (GP:∃u,h'.get? e=some u)
  (new:cK P w (upd H x o') h' x o'):gz P w (upd H x o') h':=λb u q=>by
 have Hn:∀c y,H c=some (.own y)->c≠x:=λc y r z=>by subst z;rw[r] at mu;exact mu
 have LL:∀c xs,H c=some (.tup xs)->c≠x:=λc xs r z=>by subst z;rw[r] at mu;exact mu
 by_cases hb:b=x
 ·subst hb;rw[ar] at q;cases q;exact new
 ·rw[aI hb] at q
  by_cases Er:b=e
  ·have q':H b=some (.own x):=by
    rcases he with z | z
    ·exact absurd (Er.trans z) hb
    ·rw[Er];exact z
   rw[q] at q';cases q'
   obtain⟨v,hv⟩:=GP
   exact⟨v,by rw[Er];exact hv⟩
  ·refine(ok b u q).oS (λc v hc r=>k c v ?_ r) (λc r=>by rw[aI (Hn c b r)];exact r) λc xs r=>by rw[aI (LL c xs r)];exact r
   rcases hc with rfl | hc
   ·exact Er
   ·rintro rfl
    rcases he with z | z
    ·exact Hn c b hc z
    ·rw[hc] at z;cases z;exact hb rfl
end
structure Un (fs ex:List Addr) (H H':Hp) (h h':Heap):Prop where
 keep:∀b o,h.get? b=some o->H b=none->b∉fs->b∉ex->h'.get? b=some o
 slot:∀b o,h.get? b=some o->H b=none->b∈fs->b∉ex->∃sl,h'.get? b=some {o with slots:=sl}
 free:∀b o,h.get? b=some o->H b=none->b∉ex->H' b=none
 there:∀b o,h.get? b=some o->b∉ex->∃o',h'.get? b=some o'
 kR:∀b xs,H b=some (.tup xs)->H' b=some (.tup xs)
 mK:∀b o u,H b=some (.uy o u)->H' b=some (.uy o u)
 mL:∀b ps,H b=some (.rZ ps)->∃more,H' b=some (.rZ (ps++more))
section
variable {fs Wb ex BM : List Addr} {H H1 H2 : Hp} {h h1 h2 h' : Heap} {a x e : Addr} {o : HO}
theorem Un.any (u:Un fs ex H H1 h h1) {b:Addr} {ob:Obj} (q:h.get? b=some ob) (n:H b=none) (hx:b∉ex):∃sl,h1.get? b=some {ob with slots:=sl}:=by
 by_cases hb:b∈fs
 ·exact u.slot b ob q n hb hx
 ·exact⟨ob.slots,u.keep b ob q n hb hx⟩
theorem Un.kept (k:∀b u,h.get? b=some u->h'.get? b=some u):Un fs ex H H h h':=
 ⟨λb ob q _ _ _=>k b ob q,λb ob q _ _ _=>⟨ob.slots,k b ob q⟩,λ_ _ _ n _=>n,λb ob q _=>⟨ob,k b ob q⟩,λ_ _ q=>q,λ_ _ _ q=>q,λ_ ps q=>⟨#[],by rw[q];simp⟩⟩
theorem Un.refl:Un fs ex H H h h:=Un.kept λ_ _ q=>q
theorem Un.laid (k:∀b u,h.get? b=some u->h'.get? b=some u) (hp:h.objs.size<=a) (hn:H a=none):Un fs ex H (upd H a o) h h' where
 keep:=λb u q _ _ _=>k b u q
 slot:=λb u q _ _ _=>⟨u.slots,k b u q⟩
 free:=λb u q n _=>by rw[aI (aan (aav (Heap.lt_size q) hp))];exact n
 there:=λb u q _=>⟨u,k b u q⟩
 kR:=λb xs q=>by rw[aI (bA q hn)];exact q
 mK:=λb u xs q=>by rw[aI (bA q hn)];exact q
 mL:=λb ps q=>⟨#[],by rw[aI (bA q hn),q];simp⟩
theorem Un.write (mu:Hm (H x)) (he:e=x\/H e=some (.own x)) (k:∀b u,b≠e->h.get? b=some u->h'.get? b=some u) (GP:∃u,h'.get? e=some u):Un fs ex H (upd H x o) h h':=by
 have hx:∀b,H b=none->b≠x:=λb n z=>by subst z;rw[n] at mu;exact mu
 have hb:∀b,H b=none->b≠e:=λb n z=>by
  subst z
  rcases he with r | r
  ·exact hx b n r
  ·rw[n] at r;cases r
 have hm:∀b u,H b=some u->¬Hm (some u)->b≠x:=λb u q nm z=>by subst z;rw[q] at mu;exact nm mu
 refine⟨λb u q n _ _=>k b u (hb b n) q,λb u q n _ _=>⟨u.slots,k b u (hb b n) q⟩,λb u q n _=>by rw[aI (hx b n)];exact n,λb u q _=>?_,
  λb xs q=>by rw[aI (hm b _ q λz=>z)];exact q,λb u xs q=>by rw[aI (hm b _ q λz=>z)];exact q,λb ps q=>⟨#[],by rw[aI (hm b _ q λz=>z),q];simp⟩⟩
 by_cases Er:b=e
 ·subst Er;exact GP
 ·exact⟨u,k b u Er q⟩
end
noncomputable def KD (h:Heap) (H:Hp):List Addr:=(List.range h.objs.size).filter λa=>(H a).isSome
noncomputable def mN (h:Heap) (H:Hp):Heap:=PySem.W.hideAll h (KD h H)
theorem xH (h:Heap) (H:Hp):(mN h H).objs.size=h.objs.size:=PySem.W.hideAll_size _ _
theorem yJ {h:Heap} {H:Hp} {b:Addr} {o:Obj} (e:h.get? b=some o) (n:H b=none):(mN h H).get? b=some o:=
 PySem.W.hideAll_get _ e λhm=>by
  have q:(H b).isSome=true:=(List.mem_filter.mp hm).2
  rw[n] at q;simp at q
theorem BN {h:Heap} {H:Hp} {b:Addr} {o:Obj} (e:(mN h H).get? b=some o):h.get? b=some o/\H b=none:=by
 have e':h.get? b=some o:=PySem.W.of_hideAll (KD h H) e
 refine⟨e',?_⟩
 cases q:H b with
 | none=>rfl
 | some x=>
  have hm:b∈KD h H:=List.mem_filter.mpr ⟨List.mem_range.mpr (Heap.lt_size e'),by simp [q]⟩
  have z:(mN h H).get? b=none:=PySem.W.hideAll_none (KD h H) hm
  rw[z] at e;cases e
noncomputable def BO (g h:Heap) (L:Addr):List (Addr×Obj):=(List.range h.objs.size).filterMap λa=>if a=L\/(g.get? a).isSome=true then none else (h.get? a).map λo=>(a,o)
noncomputable def rest (g h:Heap) (L d:Addr):List (Addr×Obj):=(BO g h L).filter λp=>decide (p.1≠d)
end L2
namespace L2
open PySem PySem.Spec PyProof.Rows
structure Mod (K:PySem.W.Frag) (mg:Str->Option Value) (base:Heap):Prop where
 Ho:K.In base
 glob:base.Ns mainGlobals mg
 blt:∃mb,base.Ns builtinsNs mb/\∀x:Str,x≠"__name__"->mb x=bootBuiltins x
 nolimit:base.NoLimit
structure Cx where
 prog:Program
 w:World
 K:PySem.W.Frag
 mg:Str->Option Value
 base:Heap
 A:Around
 N:List Str
 s₀:Shared
 H₀:Hp
 env:Env
 outer:List Env
 stack:List Env
 ex:List Addr
 fn:Str->Bool
 calm:Bool
 pn:List (Addr×Obj)
 xe:Value->Shared->Prop
def sx (l:List Env):List Addr:=l.filterMap (·.frame)
abbrev Cx.fs (X:Cx):List Addr:=sx X.outer
noncomputable def LM (sc:Scope) (x:Str):Prop:=sc.names.lookup x=some .local\/sc.names.lookup x=some .cell\/sc.names.lookup x=some .free
noncomputable def Loc (sc:Scope) (x:Str):Prop:=sc.names.lookup x=some .local\/sc.names.lookup x=some .cell
noncomputable def Look (env:Env) (h:Heap) (m:Str->Option Value) (x:Str) (u:Value):Prop:=
 (env.kindOf x=some .local/\m x=some u)\/((env.kindOf x=some .cell\/env.kindOf x=some .free)/\∃c,env.cells.lookup x=some c/\h.IsCell c (some u))
structure Cx.Ok (X:Cx):Prop where
 mod:Mod X.K X.mg X.base
 kind:X.env.scope.kind=.function
 glob:X.env.globals=mainGlobals
 blt:X.env.builtins=builtinsNs
 above:X.s₀.heap.objs.size<=X.env.locals
 inj:∀x y c,X.env.cells.lookup x=some c->X.env.cells.lookup y=some c->x=y
 has:∀x,(X.env.kindOf x=some .cell\/X.env.kindOf x=some .free)->∃c,X.env.cells.lookup x=some c
 GQ:∀x c,X.fn x=true->X.env.cells.lookup x=some c->X.s₀.heap.objs.size<=c
 hd:X.calm=true->X.A.handled=none
 frames:X.A.frames=some X.stack
 yK:X.stack=X.outer\/(X.stack=X.env::X.outer/\X.env.frame=some X.env.locals)
 LN:∀b∈X.ex,b≠X.env.locals/\∀x c,X.env.cells.lookup x=some c->c≠b
 bs:∀b o,X.base.get? b=some o->X.s₀.heap.get? b=some o/\X.H₀ b=none
 yL:X.base.objs.size<=X.s₀.heap.objs.size
 xI:∀b o,X.base.get? b=some o->b∉X.ex
 yM:∀b∈X.ex,b∉X.fs
 jO:X.s₀.heap.FunFrames X.base X.outer
 Dv:∀b∈X.fs,X.H₀ b=none
structure Inv (X:Cx) (pins:List (Addr×Obj)) (σ:List (Option V)) (H:Hp) (s:Shared):Prop where
 ok:X.Ok
 os:s.os=X.s₀.os
 bare:AllBare s.gens
 base:Un X.fs X.ex X.H₀ H X.s₀.heap s.heap
 loc:∃m,s.heap.Ns X.env.locals m/\∀(i:Nat) (x:Str) (v:V),X.N[i]?=some x->σ[i]?=some (some v)->LM X.env.scope x->∃u,RelV v u/\Look X.env s.heap m x u
 cell:∀x c,X.env.cells.lookup x=some c->∃v,s.heap.IsCell c v
 free:H X.env.locals=none
 gI:∀x c,X.env.cells.lookup x=some c->H c=none
 pin:∀p∈X.pn++pins,s.heap.get? p.1=some p.2/\H p.1=none/\p.1≠X.env.locals/\p.1∉X.fs/\∀v,p.2.data≠.cell v
 bT:gz X.prog X.w H s.heap
 len:σ.length=X.N.length
section
variable {X : Cx} {pins : List (Addr × Obj)} {σ : List (Option V)} {H H' : Hp} {s : Shared} {h' : Heap}
theorem Cx.Ok.LO (ok:X.Ok) {b:Addr} {o:Obj} (e:X.base.get? b=some o):b∉X.fs:=λhb=>by
 have:=(ok.jO.mem hb).1
 rw[e] at this;cases this
theorem Inv.bs (I:Inv X pins σ H s):∀b o,X.base.get? b=some o->s.heap.get? b=some o/\H b=none:=λb o e=>
 ⟨I.base.keep b o (I.ok.bs b o e).1 (I.ok.bs b o e).2 (I.ok.LO e) (I.ok.xI b o e),I.base.free b o (I.ok.bs b o e).1 (I.ok.bs b o e).2 (I.ok.xI b o e)⟩
theorem Inv.bk (I:Inv X pins σ H s):∀b o,X.base.get? b=some o->s.heap.get? b=some o:=λb o e=>(I.bs b o e).1
theorem Inv.mod (I:Inv X pins σ H s):Mod X.K X.mg X.base:=I.ok.mod
theorem Inv.vQ (I:Inv X pins σ H s):X.K.In s.heap:=I.ok.mod.Ho.keeps I.bk
theorem Inv.lt (I:Inv X pins σ H s):X.env.locals<s.heap.objs.size:=let ⟨_,hn,_⟩:=I.loc;hn.lt
theorem Inv.sz (I:Inv X pins σ H s):X.s₀.heap.objs.size<=s.heap.objs.size:=aap I.ok.above (Nat.le_of_lt I.lt)
theorem Inv.LP (I:Inv X pins σ H s) {a:Addr} (h:s.heap.objs.size<=a):a∉X.fs:=λhb=>by
 obtain⟨_,o,ho,_⟩:=I.ok.jO.mem hb
 exact absurd (aav (Heap.lt_size ho) (aap I.sz h)) (aaF _)
theorem Inv.Es (I:Inv X pins σ H s):∀x c,X.env.cells.lookup x=some c->c≠X.env.locals:=λx c e z=>by
 obtain⟨v,o,ho,hd⟩:=I.cell x c e
 obtain⟨m,⟨o',es,ep,Et,Hq,_⟩,_⟩:=I.loc
 rw[z,Et] at ho;cases ho;rw[Hq] at hd;cases hd
theorem Inv.jO (I:Inv X pins σ H s):s.heap.FunFrames X.base X.outer:=by
 have all:∀(l:List Env),(∀b∈sx l,b∈X.fs)->X.s₀.heap.FunFrames X.base l->s.heap.FunFrames X.base l:=by
  intro l
  induction l with
  | nil=>intro _ _;trivial
  | cons env r ih=>
   intro hs hl
   obtain⟨hk,⟨L,o,hf,hn,ho,hd⟩,hr⟩:=hl
   have hL:L∈X.fs:=hs L (by unfold sx;rw[List.filterMap_cons,hf];exact aaj)
   obtain⟨sl,e⟩:=I.base.slot L o ho (I.ok.Dv L hL) hL λz=>I.ok.yM L z hL
   exact⟨hk,⟨L,_,hf,hn,e,hd⟩,ih (λb hb=>hs b (by unfold sx;rw[List.filterMap_cons,hf];exact aak _ hb)) hr⟩
 exact all X.outer (λ_ hb=>hb) I.ok.jO
theorem Inv.stack (I:Inv X pins σ H s):s.heap.FunFrames X.base X.stack:=by
 rcases I.ok.yK with e | ⟨e,hf⟩
 ·rw[e];exact I.jO
 ·rw[e]
  obtain⟨m,hn,_⟩:=I.loc
  refine .cons (by rw[I.ok.kind];decide) hf hn ?_ I.jO
  exact Heap.get?_none_of_le (aap I.ok.yL I.ok.above)
theorem Inv.qt (I:Inv X pins σ H s):∀b∈sx X.stack,b∈X.env.locals::X.fs:=λb hb=>by
 rcases I.ok.yK with e | ⟨e,hf⟩
 ·rw[e] at hb;exact aak _ hb
 ·rw[e] at hb
  unfold sx at hb
  rw[List.filterMap_cons,hf] at hb
  exact hb
theorem Inv.vR (I:Inv X pins σ H s):∀b∈sx X.stack,H b=none:=λb hb=>by
 rcases List.mem_cons.mp (I.qt b hb) with e | hb
 ·rw[e];exact I.free
 ·obtain⟨_,o,ho,_⟩:=I.ok.jO.mem hb
  exact I.base.free b o ho (I.ok.Dv b hb) λz=>I.ok.yM b z hb
theorem Inv.step {g':Array GenState} {t':Nat} {d':Drawn} {ch:List Addr} (I:Inv X pins σ H s)
  (By:∀b∈ch,(b∈X.ex\/X.s₀.heap.objs.size<=b)/\b≠X.env.locals/\(∀x c,X.env.cells.lookup x=some c->c≠b)/\∀p∈X.pn++pins,p.1≠b)
  (keep:∀b o,b≠X.env.locals->b∉X.fs->b∉ch->s.heap.get? b=some o->H b=none->h'.get? b=some o)
  (slot:∀b o,b≠X.env.locals->b∈X.fs->b∉ch->s.heap.get? b=some o->H b=none->∃sl,h'.get? b=some {o with slots:=sl}) (free:∀b o,b∉ch->s.heap.get? b=some o->H b=none->H' b=none)
  (there:∀b o,b∉ch->s.heap.get? b=some o->∃o',h'.get? b=some o')
  (kR:∀b xs,H b=some (.tup xs)->H' b=some (.tup xs)) (mK:∀b o u,H b=some (.uy o u)->H' b=some (.uy o u)) (mL:∀b ps,H b=some (.rZ ps)->∃more,H' b=some (.rZ (ps++more)))
  (ns:∀m,s.heap.Ns X.env.locals m->h'.Ns X.env.locals m) (bT:gz X.prog X.w H' h') (hg:AllBare g'):
  Inv X pins σ H' {s with heap:=h',gens:=g',drawn:=d',toks:=t'}:=by
 have T7:∀b o,X.s₀.heap.get? b=some o->b≠X.env.locals:=λb o e=>aan (aav (Heap.lt_size e) I.ok.above)
 have KE:∀b o,X.s₀.heap.get? b=some o->b∉X.ex->b∉ch:=λb o e hx hb=>by
  rcases(By b hb).1 with z | z
  ·exact hx z
  ·exact absurd (aav (Heap.lt_size e) z) (aaF _)
 have cellK:∀x c,X.env.cells.lookup x=some c->∀v,s.heap.IsCell c v->h'.IsCell c v:=λx c e v ⟨o,ho,hd⟩=>by
  have Dw:c∉ch:=λz=>(By c z).2.2.1 x c e rfl
  by_cases hc:c∈X.fs
  ·obtain⟨sl,q⟩:=slot c o (I.Es x c e) hc Dw ho (I.gI x c e)
   exact⟨_,q,hd⟩
  ·exact⟨o,keep c o (I.Es x c e) hc Dw ho (I.gI x c e),hd⟩
 refine⟨I.ok,I.os,hg,⟨λb o e n hb hx=>?_,λb o e n hb hx=>?_,λb o e n hx=>?_,λb o e hx=>?_,λb xs e=>kR b xs (I.base.kR b xs e),λb o xs e=>mK b o xs (I.base.mK b o xs e),λb ps e=>?_⟩,?_,λx c e=>?_,?_,λx c e=>?_,λp hp=>?_,bT,I.len⟩
 ·exact keep b o (T7 b o e) hb (KE b o e hx) (I.base.keep b o e n hb hx) (I.base.free b o e n hx)
 ·obtain⟨sl,e1⟩:=I.base.slot b o e n hb hx
  obtain⟨GR,e2⟩:=slot b _ (T7 b o e) hb (KE b o e hx) e1 (I.base.free b o e n hx)
  exact⟨GR,e2⟩
 ·obtain⟨o',e1⟩:=I.base.there b o e hx
  exact free b o' (KE b o e hx) e1 (I.base.free b o e n hx)
 ·obtain⟨o',e1⟩:=I.base.there b o e hx
  exact there b o' (KE b o e hx) e1
 ·obtain⟨m1,e1⟩:=I.base.mL b ps e
  obtain⟨m2,e2⟩:=mL b _ e1
  exact⟨m1++m2,by rw[e2,Array.append_assoc]⟩
 ·obtain⟨m,hn,hl⟩:=I.loc
  refine⟨m,ns m hn,λi x v e1 e2 e3=>?_⟩
  obtain⟨u,r,l⟩:=hl i x v e1 e2 e3
  refine⟨u,r,?_⟩
  rcases l with l | ⟨k,c,e,z⟩
  ·exact .inl l
  ·exact .inr ⟨k,c,e,cellK x c e _ z⟩
 ·obtain⟨v,z⟩:=I.cell x c e
  exact⟨v,cellK x c e v z⟩
 ·obtain⟨m,⟨o,_,_,ho,_⟩,_⟩:=I.loc
  exact free _ o (λz=>(By _ z).2.1 rfl) ho I.free
 ·obtain⟨v,o,ho,hd⟩:=I.cell x c e
  exact free c o (λz=>(By c z).2.2.1 x c e rfl) ho (I.gI x c e)
 ·obtain⟨e,n,ne,nf,d⟩:=I.pin p hp
  have Dw:p.1∉ch:=λz=>(By p.1 z).2.2.2 p hp rfl
  exact⟨keep p.1 p.2 ne nf Dw e n,free p.1 p.2 Dw e n,ne,nf,d⟩
theorem Inv.un {t':Nat} (I:Inv X pins σ H s) (u:Un X.fs [] H H' s.heap h') (bT:gz X.prog X.w H' h'):Inv X pins σ H' {s with heap:=h',toks:=t'}:=by
 obtain⟨m,⟨o,es,ep,ho,r⟩,_⟩:=id I.loc
 obtain⟨sl,hL⟩:=u.any ho I.free (by simp)
 exact I.step (g':=s.gens) (d':=s.drawn) (ch:=[]) (λ_ z=>nomatch z) (λb o _ hb _ e n=>u.keep b o e n hb (by simp)) (λb o _ hb _ e n=>u.slot b o e n hb (by simp)) (λb o _ e n=>u.free b o e n (by simp)) (λb o _ e=>u.there b o e (by simp)) u.kR u.mK u.mL (λm' hm=>by
  obtain⟨o',LQ,BP,Et,r'⟩:=hm
  rw[ho] at Et;cases Et
  exact⟨_,LQ,BP,hL,r'⟩) bT I.bare
theorem Inv.call {g':Array GenState} {t':Nat} {d':Drawn} {ch:List Addr} (I:Inv X pins σ H s) (u:Un (sx X.stack) ch H H' s.heap h') (bT:gz X.prog X.w H' h') (hg:AllBare g')
  (By:∀b∈ch,(b∈X.ex\/X.s₀.heap.objs.size<=b)/\b≠X.env.locals/\(∀x c,X.env.cells.lookup x=some c->c≠b)/\∀p∈X.pn++pins,p.1≠b):
  Inv X pins σ H' {s with heap:=h',gens:=g',drawn:=d',toks:=t'}:=by
 obtain⟨m,⟨o,es,ep,ho,r⟩,_⟩:=id I.loc
 obtain⟨sl,hL⟩:=u.any ho I.free λz=>(By _ z).2.1 rfl
 exact I.step (ch:=ch) By (λb o hL hb hc e n=>u.keep b o e n (λz=>(List.mem_cons.mp (I.qt b z)).elim hL hb) hc) (λb o _ _ hc e n=>u.any e n hc) (λb o hc e n=>u.free b o e n hc) (λb o hc e=>u.there b o e hc) u.kR u.mK u.mL (λm' hm=>by
  obtain⟨o',LQ,BP,Et,r'⟩:=hm
  rw[ho] at Et;cases Et
  exact⟨_,LQ,BP,hL,r'⟩) bT hg
theorem Inv.turned {t':Nat} {it:Addr} (I:Inv X pins σ H s) (k:∀b o,b≠it->s.heap.get? b=some o->h'.get? b=some o) (hn:H it=none) (hL:it≠X.env.locals)
  (h1:it∈X.ex\/X.s₀.heap.objs.size<=it) (h2:∀x c,X.env.cells.lookup x=some c->c≠it) (h3:∀p∈X.pn++pins,p.1≠it):Inv X pins σ H {s with heap:=h',toks:=t'}:=by
 have T8:∀b u,H b=some u->b≠it:=λb u e z=>by rw[z,hn] at e;cases e
 refine I.step (g':=s.gens) (d':=s.drawn) (ch:=[it]) (λb hb=>?_) (λb o _ _ hc e _=>k b o (λz=>hc (by simp [z])) e) (λb o _ _ hc e _=>⟨o.slots,k b o (λz=>hc (by simp [z])) e⟩) (λ_ _ _ _ n=>n)
  (λb o hc e=>⟨o,k b o (λz=>hc (by simp [z])) e⟩) (λ_ _ e=>e) (λ_ _ _ e=>e) (λb ps e=>⟨#[],by rw[e];simp⟩) (λm hm=>?_) (λb u e=>?_) I.bare
 ·have e:b=it:=by simpa using hb
  subst e
  exact⟨h1,hL,h2,h3⟩
 ·obtain⟨o,es,ep,ho,r⟩:=hm
  exact⟨o,es,ep,k _ o (Ne.symm hL) ho,r⟩
 ·refine(I.bT b u e).oS (λc v hc q=>k c v ?_ q) (λ_ q=>q) λ_ _ q=>q
  rcases hc with z | z
  ·rw[z];exact T8 b u e
  ·exact T8 c _ z
theorem Inv.tok (I:Inv X pins σ H s) (t:Nat):Inv X pins σ H {s with toks:=t}:=I.un (h':=s.heap) (t':=t) Un.refl I.bT
theorem Inv.kept {t':Nat} (I:Inv X pins σ H s) (k:∀b u,s.heap.get? b=some u->h'.get? b=some u):Inv X pins σ H {s with heap:=h',toks:=t'}:=I.un (Un.kept k) (I.bT.kept k)
theorem Inv.laid {a:Addr} {o:HO} {t':Nat} (I:Inv X pins σ H s) (k:∀b u,s.heap.get? b=some u->h'.get? b=some u) (hp:s.heap.objs.size<=a) (new:cK X.prog X.w (upd H a o) h' a o):
  Inv X pins σ (upd H a o) {s with heap:=h',toks:=t'}:=I.un (Un.laid k hp (I.bT.fresh hp)) (I.bT.laid k hp new)
theorem Inv.write {x e:Addr} {o:HO} {t':Nat} (I:Inv X pins σ H s) (mu:Hm (H x)) (he:e=x\/H e=some (.own x)) (k:∀b u,b≠e->s.heap.get? b=some u->h'.get? b=some u) (GP:∃u,h'.get? e=some u)
  (new:cK X.prog X.w (upd H x o) h' x o):Inv X pins σ (upd H x o) {s with heap:=h',toks:=t'}:=I.un (Un.write mu he k GP) (I.bT.write mu he k GP new)
theorem Inv.jj {Dx:List (Addr×Obj)} (I:Inv X pins σ H s) (h:∀p∈Dx,s.heap.get? p.1=some p.2/\H p.1=none/\p.1≠X.env.locals/\p.1∉X.fs/\∀v,p.2.data≠.cell v):Inv X Dx σ H s:=
 ⟨I.ok,I.os,I.bare,I.base,I.loc,I.cell,I.free,I.gI,λp hp=>(List.mem_append.mp hp).elim (λz=>I.pin p (abv _ z)) (h p),I.bT,I.len⟩
theorem sy {N:List Str} (hN:N.Nodup) {i j:Nat} {x:Str} (a:N[i]?=some x) (b:N[j]?=some x):i=j:=by
 obtain⟨h1,e1⟩:=List.getElem?_eq_some_iff.mp a
 obtain⟨h2,e2⟩:=List.getElem?_eq_some_iff.mp b
 exact(abj hN).mp (e1.trans e2.symm)
theorem pA {M:Model} {A:Around} {E:Value->Shared->Prop} {i:Nat} {x:Str} {v:V} {u:Value} {Q:Unit->Shared->Prop} (I:Inv X pins σ H s) (hN:X.N.Nodup) (hi:X.N[i]?=some x) (hx:Loc X.env.scope x) (r:RelV v u)
  (h:∀s',Inv X pins (σ.set i (some v)) H s'->(∃a,Heap.SameBut a s.heap s'.heap/\(a=X.env.locals\/X.env.cells.lookup x=some a))->Q () s') (hf:X.fn x=true\/X.env.scope.names.lookup x=some .local:=by first | exact .inl rfl | exact .inr rfl | assumption):wpAny M A (storeName X.env x u) Q E s:=by
 obtain⟨m,hn,hl⟩:=id I.loc
 have LR:(X.env.scope.kind==.class || (X.env.scope.kind==.module && X.env.locals !=X.env.globals))=false:=by rw[I.ok.kind];rfl
 have T9:i<σ.length:=by rw[I.len];exact(List.getElem?_eq_some_iff.mp hi).1
 have Es:=I.Es
 have tracked:∀{a:Addr} {h':Heap},(∃o,s.heap.get? a=some o/\H a=none)->Heap.SameBut a s.heap h'->gz X.prog X.w H h':=λ{a h'} ha hs b ob e=>by
  obtain⟨_,_,Dy⟩:=ha
  refine(I.bT b ob e).oS (λc w' hc q=>(hs.2 c ?_).trans q) (λ_ q=>q) λ_ _ q=>q
  rintro rfl
  rcases hc with rfl | hc
  ·rw[Dy] at e;cases e
  ·rw[Dy] at hc;cases hc
 rcases hx with hk | hk
 ·refine wpAny_storeName_local hk hn (λh' Wc hs=>?_) LR
  obtain⟨oL,_,_,Dz,_⟩:=id hn
  refine h _ ⟨I.ok,I.os,I.bare,⟨λb o e n hb hx=>?_,λb o e n hb hx=>?_,I.base.free,λb o e hx=>?_,I.base.kR,I.base.mK,I.base.mL⟩,⟨_,Wc,λj y v' e1 e2 e3=>?_⟩,λy c e=>?_,I.free,I.gI,λp hp=>?_,tracked ⟨oL,Dz,I.free⟩ hs,by simpa using I.len⟩ ⟨_,hs,.inl rfl⟩
  ·exact(hs.2 b (aan (aav (Heap.lt_size e) I.ok.above))).trans (I.base.keep b o e n hb hx)
  ·obtain⟨sl,e1⟩:=I.base.slot b o e n hb hx
   exact⟨sl,(hs.2 b (aan (aav (Heap.lt_size e) I.ok.above))).trans e1⟩
  ·obtain⟨o',e1⟩:=I.base.there b o e hx
   exact⟨o',(hs.2 b (aan (aav (Heap.lt_size e) I.ok.above))).trans e1⟩
  ·by_cases hj:j=i
   ·subst hj
    rw[hi] at e1;cases e1
    rw[aaW T9] at e2
    cases e2
    exact⟨u,r,.inl ⟨hk,by simp⟩⟩
   ·rw[aaH (Ne.symm hj)] at e2
    obtain⟨u',r',q⟩:=hl j y v' e1 e2 e3
    refine⟨u',r',?_⟩
    rcases q with ⟨k,e⟩ | ⟨k,c,e,z⟩
    ·refine .inl ⟨k,?_⟩
     have:y≠x:=λe=>hj (sy hN e1 (e▸hi))
     simp [this,e]
    ·exact .inr ⟨k,c,e,z.sameBut hs (Es y c e)⟩
  ·obtain⟨w',z⟩:=I.cell y c e
   exact⟨w',z.sameBut hs (Es y c e)⟩
  ·obtain⟨e,n,ne,nf,d⟩:=I.pin p hp
   exact⟨(hs.2 p.1 ne).trans e,n,ne,nf,d⟩
 ·have LS:X.fn x=true:=by
   rcases hf with z | z
   ·exact z
   ·rw[z] at hk;cases hk
  obtain⟨c,hc⟩:=I.ok.has x (.inl hk)
  obtain⟨w',z⟩:=I.cell x c hc
  refine wpAny_storeName_cell I.ok.kind hk hc z (λh' Ua hs=>?_)
  obtain⟨oc,Ub,LU⟩:=id z
  refine h {s with heap:=h'} ⟨I.ok,I.os,I.bare,⟨λb o e n hb hx=>?_,λb o e n hb hx=>?_,I.base.free,λb o e hx=>?_,I.base.kR,I.base.mK,I.base.mL⟩,⟨m,hn.sameBut hs (Ne.symm (Es x c hc)),λj y v' e1 e2 e3=>?_⟩,λy c' e=>?_,I.free,I.gI,λp hp=>?_,tracked ⟨oc,Ub,I.gI x c hc⟩ hs,by simpa using I.len⟩ ⟨c,hs,.inr hc⟩
  ·exact(hs.2 b (aan (aav (Heap.lt_size e) (I.ok.GQ x c LS hc)))).trans (I.base.keep b o e n hb hx)
  ·obtain⟨sl,e1⟩:=I.base.slot b o e n hb hx
   exact⟨sl,(hs.2 b (aan (aav (Heap.lt_size e) (I.ok.GQ x c LS hc)))).trans e1⟩
  ·obtain⟨o',e1⟩:=I.base.there b o e hx
   exact⟨o',(hs.2 b (aan (aav (Heap.lt_size e) (I.ok.GQ x c LS hc)))).trans e1⟩
  ·by_cases hj:j=i
   ·subst hj
    rw[hi] at e1;cases e1
    rw[aaW T9] at e2
    cases e2
    exact⟨u,r,.inr ⟨.inl hk,c,hc,Ua⟩⟩
   ·rw[aaH (Ne.symm hj)] at e2
    obtain⟨u',r',q⟩:=hl j y v' e1 e2 e3
    refine⟨u',r',?_⟩
    rcases q with q | ⟨k,c',e,z'⟩
    ·exact .inl q
    ·refine .inr ⟨k,c',e,z'.sameBut hs ?_⟩
     rintro rfl
     exact hj (sy hN e1 (I.ok.inj _ _ _ e hc▸hi))
  ·by_cases KG:c'=c
   ·subst KG;exact⟨_,Ua⟩
   ·obtain⟨w2,z2⟩:=I.cell y c' e
    exact⟨w2,z2.sameBut hs KG⟩
  ·obtain⟨e,n,ne,nf,d⟩:=I.pin p hp
   refine⟨(hs.2 p.1 ?_).trans e,n,ne,nf,d⟩
   intro q
   rw[q,Ub] at e
   have q':oc=p.2:=aay e
   exact d w' (by rw[<-q'];exact LU)
theorem jl {M:Model} {A:Around} {E:Value->Shared->Prop} {i:Nat} {x:Str} {v:V} {u:Value} {Q:Unit->Shared->Prop} (I:Inv X pins σ H s) (hN:X.N.Nodup) (hi:X.N[i]?=some x) (hx:Loc X.env.scope x) (r:RelV v u)
  (h:∀s',Inv X pins (σ.set i (some v)) H s'->Q () s') (hf:X.fn x=true\/X.env.scope.names.lookup x=some .local:=by first | exact .inl rfl | exact .inr rfl | assumption):wpAny M A (storeName X.env x u) Q E s:=
 pA I hN hi hx r (λs' I' _=>h s' I') hf
theorem Inv.Hr {s':Shared} {ch:List Addr} (I:Inv X pins σ H s) (ho:s'.os=s.os) (u:Un (sx X.stack) ch H H' s.heap s'.heap) (bT:gz X.prog X.w H' s'.heap) (hg:AllBare s'.gens)
  (By:∀b∈ch,(b∈X.ex\/X.s₀.heap.objs.size<=b)/\b≠X.env.locals/\(∀x c,X.env.cells.lookup x=some c->c≠b)/\∀p∈X.pn++pins,p.1≠b):Inv X pins σ H' s':=by
 obtain⟨h',g',d',t',o'⟩:=s'
 have e:o'=s.os:=ho
 subst e
 exact I.call (g':=g') (t':=t') (d':=d') u bT hg By
end
abbrev XK:=Value->Option Addr->Hp->Prop
abbrev St:=List (Option V)
abbrev VK:=V->Hp->Prop
abbrev TE:=St->Hp->VK->Prop
abbrev TT:=St->Hp->(Bool->Hp->Prop)->Prop
abbrev TA:=St->Hp->(List V->Hp->Prop)->Prop
structure Ends where
 nx:St->Hp->Prop
 rt:VK
 bk:St->Hp->Prop:=λ_ _=>False
 ct:St->Hp->Prop:=λ_ _=>False
abbrev TS:=Ends->St->Hp->Prop
noncomputable def EP (X:Cx) (pins:List (Addr×Obj)) (σ:St) (Q:VK) (u:Value) (s':Shared):Prop:=∃v H',Inv X pins σ H' s'/\RelV v u/\Q v H'
noncomputable def TP (X:Cx) (pins:List (Addr×Obj)) (σ:St) (Q:Bool->Hp->Prop) (b:Bool) (s':Shared):Prop:=∃H',Inv X pins σ H' s'/\Q b H'
noncomputable def AP (X:Cx) (pins:List (Addr×Obj)) (σ:St) (Q:List V->Hp->Prop) (us:List Value) (s':Shared):Prop:=∃vs H',Inv X pins σ H' s'/\bu vs us/\Q vs H'
noncomputable def SP (X:Cx) (pins:List (Addr×Obj)) (D:Ends) (f:Flow) (s':Shared):Prop:=
 match f with
 | .next=>∃σ' H',Inv X pins σ' H' s'/\D.nx σ' H'
 | .brk=>∃σ' H',Inv X pins σ' H' s'/\D.bk σ' H'
 | .cont=>∃σ' H',Inv X pins σ' H' s'/\D.ct σ' H'
 | .ret u=>∃v σ' H',Inv X pins σ' H' s'/\RelV v u/\D.rt v H'
noncomputable def PE (X:Cx) (e:Expr) (t:TE):Prop:=
 ∀(pins:List (Addr×Obj)) (s:Shared) (σ:St) (H:Hp) (Q:VK),Inv X pins σ H s->t σ H Q->wpAny (model X.prog X.w) X.A (eval e X.env) (EP X pins σ Q) X.xe s
noncomputable def PT (X:Cx) (e:Expr) (t:TT):Prop:=
 ∀(pins:List (Addr×Obj)) (s:Shared) (σ:St) (H:Hp) (Q:Bool->Hp->Prop),Inv X pins σ H s->t σ H Q->wpAny (model X.prog X.w) X.A (isTrue e X.env (eval e X.env)) (TP X pins σ Q) X.xe s
noncomputable def PW (X:Cx) (e:Expr) (t:TT):Prop:=
 ∀(whole:Sem Value) (pins:List (Addr×Obj)) (s:Shared) (σ:St) (H:Hp) (Q:Bool->Hp->Prop),Inv X pins σ H s->t σ H Q->wpAny (model X.prog X.w) X.A (isTrue e X.env whole) (TP X pins σ Q) X.xe s
theorem PW.pt {X:Cx} {e:Expr} {t:TT} (h:PW X e t):PT X e t:=h _
noncomputable def PA (X:Cx) (es:List Expr) (t:TA):Prop:=
 ∀(pos:Pos) (pins:List (Addr×Obj)) (s:Shared) (σ:St) (H:Hp) (Q:List V->Hp->Prop),Inv X pins σ H s->t σ H Q->wpAny (model X.prog X.w) X.A (spliced (backTo pos (starEach es X.env))) (AP X pins σ Q) X.xe s
noncomputable def PS (X:Cx) (st:Stmt) (t:TS):Prop:=
 ∀(pins:List (Addr×Obj)) (s:Shared) (σ:St) (H:Hp) (D:Ends),Inv X pins σ H s->t D σ H->wpAny (model X.prog X.w) X.A (exec st X.env) (SP X pins D) X.xe s
noncomputable def uF (X:Cx) (st:List Stmt) (t:TS):Prop:=
 ∀(pins:List (Addr×Obj)) (s:Shared) (σ:St) (H:Hp) (D:Ends),Inv X pins σ H s->t D σ H->wpAny (model X.prog X.w) X.A (execs st X.env) (SP X pins D) X.xe s
theorem cA {α:Type} {t:Sem α} {Q Q':α->Shared->Prop} {M:Model} {A:Around} {E:Value->Shared->Prop} {s:Shared} (h:wpAny M A t Q E s) (hQ:∀a s,Q a s->Q' a s):wpAny M A t Q' E s:=wpAny_mono h hQ λ_ _ x=>x
end L2
namespace L2
open PySem PySem.Spec PyProof.Rows
section
variable {X : Cx}
noncomputable def tVar (i:Nat):TE:=λσ H Q=>∃v,σ[i]?=some (some v)/\Q v H
noncomputable def tC (v:V):TE:=λ_ H Q=>Q v H
theorem Eu {i:Nat} {x:Str} {pos:Pos} (hN:X.N[i]?=some x) (hv:LM X.env.scope x) (hd:(x==("__debug__":Str))=false:=by decide) (sE:(x==("__classdict__":Str))=false:=by decide):PE X (.Name x pos) (tVar i):=by
 intro pins s σ H Q I h
 obtain⟨v,e,h⟩:=h
 obtain⟨m,hn,hl⟩:=I.loc
 obtain⟨u,r,l⟩:=hl i x v hN e hv
 have fin:EP X pins σ Q u s:=⟨v,H,I,r,h⟩
 rcases l with ⟨hk,hm⟩ | ⟨hk,c,hc,pC⟩
 ·exact wpAny_Name (wpAny_loadName_local I.ok.kind hk hn hm fin) hd
 ·rcases hk with hk | hk
  ·exact wpAny_Name (wpAny_loadName_cell I.ok.kind hk hc pC fin) hd
  ·exact wpAny_Name (wpAny_loadName_free I.ok.kind hk hc pC fin sE) hd
theorem ag {i j pos}:PE X (.Constant (.int i) j pos) (tC (.int i)):=λ_ _ _ H _ I h=>wpAny_Constant_int ⟨.int i,H,I.tok _,⟨_,rfl⟩,h⟩
theorem yN {b j pos}:PE X (.Constant (.bool b) j pos) (tC (.bl b)):=λ_ _ _ H _ I h=>Constant_bool ⟨.bl b,H,I,rfl,h⟩
theorem fb {j pos}:PE X (.Constant .none j pos) (tC .cE):=λ_ _ _ H _ I h=>Constant_none ⟨.cE,H,I,rfl,h⟩
theorem cX {x j pos}:PE X (.Constant (.str x) j pos) (tC (.str x)):=λ_ _ _ H _ I h=>Calls.Constant_str ⟨.str x,H,I.tok _,⟨_,rfl⟩,h⟩
noncomputable def Gl (X:Cx) (x:Str):Prop:=X.env.kindOf x=some .globalImplicit
theorem qu {E:Value->Shared->Prop} {pins:List (Addr×Obj)} {s:Shared} {σ:St} {H:Hp} {x:Str} {u:Value} {pos:Pos} {Q:Value->Shared->Prop} (I:Inv X pins σ H s) (hg:Gl X x) (hm:X.mg x=some u) (h:Q u s)
  (hd:(x==("__debug__":Str))=false:=by decide):wpAny (model X.prog X.w) X.A (eval (.Name x pos) X.env) Q E s:=
 Calls.Name_function_global I.ok.kind hg (Calls.loadGlobal_global (by rw[I.ok.glob];exact I.mod.glob.keeps I.bk) hm h) hd
theorem iS {E:Value->Shared->Prop} {pins:List (Addr×Obj)} {s:Shared} {σ:St} {H:Hp} {x:Str} {u:Value} {pos:Pos} {Q:Value->Shared->Prop} (I:Inv X pins σ H s) (hg:Gl X x) (hm:X.mg x=none) (hv:bootBuiltins x=some u) (h:Q u s)
  (hn:x≠"__name__":=by decide) (hd:(x==("__debug__":Str))=false:=by decide):wpAny (model X.prog X.w) X.A (eval (.Name x pos) X.env) Q E s:=by
 obtain⟨mb,h1,h2⟩:=I.mod.blt
 exact Calls.Name_function_global I.ok.kind hg (Calls.loadGlobal_builtin (by rw[I.ok.glob];exact I.mod.glob.keeps I.bk) hm (by rw[I.ok.blt];exact h1.keeps I.bk) ((h2 x hn).trans hv) h) hd
theorem BQ {x:Str} {v:V} {u:Value} {pos:Pos} (hg:Gl X x) (hm:X.mg x=some u) (r:RelV v u) (hd:(x==("__debug__":Str))=false:=by decide):PE X (.Name x pos) (tC v):=
 λ_ _ _ H _ I h=>qu I hg hm ⟨v,H,I,r,h⟩ hd
noncomputable def Wd (ta tb:TE) (k:Int->Int->Hp->Prop):St->Hp->Prop:=λσ H=>ta σ H λx H1=>tb σ H1 λy H2=>∃i j,x=.int i/\y=.int j/\k i j H2
variable {a b : Expr} {ta tb : TE} {pos : Pos}
noncomputable def PC (X:Cx) (op:CmpOp) (a b:Expr) (t:TE):Prop:=
 ∀(pins:List (Addr×Obj)) (s:Shared) (σ:St) (H:Hp) (Q:VK),Inv X pins σ H s->t σ H Q->
  wpAny (model X.prog X.w) X.A (eval a X.env) (λv s₁=>wpAny (model X.prog X.w) X.A (eval b X.env) (λu s₂=>wpAny (model X.prog X.w) X.A (compareOp op v u) (EP X pins σ Q) X.xe s₂) X.xe s₁) X.xe s
theorem yO (b:Expr) {op:CmpOp} (h:op≠.In) (h2:op≠.NotIn):behindInMarks op b=false:=by
 have e1:(op==CmpOp.In)=false:=by cases op <;>first | rfl | exact absurd rfl h
 have e2:(op==CmpOp.NotIn)=false:=by cases op <;>first | rfl | exact absurd rfl h2
 cases b <;>simp [behindInMarks,e1,e2]
noncomputable def xJ (p:Int->Int->Bool) (ta tb:TE):TE:=λσ H Q=>Wd ta tb (λi j H2=>Q (.bl (p i j)) H2) σ H
abbrev tLt:TE->TE->TE:=xJ λi j=>decide (i<j)
abbrev tLe:TE->TE->TE:=xJ λi j=>decide (i<=j)
abbrev tGt:TE->TE->TE:=xJ λi j=>decide (j<i)
abbrev tGe:TE->TE->TE:=xJ λi j=>decide (j<=i)
abbrev We:TE->TE->TE:=xJ λi j=>decide (i=j)
abbrev Wf:TE->TE->TE:=xJ λi j=>!decide (i=j)
noncomputable def tB (t:TE):TT:=λσ H Q=>t σ H λx H1=>∃c,x=.bl c/\Q c H1
theorem uG {op:CmpOp} {t:TE} (h:PC X op a b t) (h1:behindInMarks op b=false:=by first | exact yO _ (by decide) (by decide) | rfl):PT X (.Compare a [op] [b] pos) (tB t):=by
 intro pins s σ H Q I hw
 refine wpAny_isTrue_Compare1 (cA (h pins s σ H _ I hw) λv s1 h1=>cA h1 λu s2 h2=>cA h2 λc s3 c6=>?_) h1
 obtain⟨x,H1,I1,r1,q1⟩:=c6
 obtain⟨d,rfl,q⟩:=q1
 cases r1
 exact wpAny_truthy_bool ⟨H1,I1,q⟩
theorem qv {e:Expr} {t:TE} (h:PE X e t) (he:∀whole,isTrue e X.env whole=(do let v <-whole;standAt e.pos;holding [v] (truthy v)):=by intro _;rfl):PT X e (tB t):=by
 intro pins s σ H Q I hw
 refine isTrue_plain (cA (h pins s σ H _ I hw) λv s1 c6=>?_) (he _)
 obtain⟨x,H1,I1,r1,q1⟩:=c6
 obtain⟨d,rfl,q⟩:=q1
 cases r1
 exact wpAny_truthy_bool ⟨H1,I1,q⟩
variable {tA KH : TT} {rest : List Expr}
noncomputable def tAnd (t u:TT):TT:=λσ H Q=>t σ H λc H1=>if c=true then u σ H1 Q else Q false H1
noncomputable def tOr (t u:TT):TT:=λσ H Q=>t σ H λc H1=>if c=true then Q true H1 else u σ H1 Q
noncomputable def tNot (t:TT):TT:=λσ H Q=>t σ H λc H1=>Q (!c) H1
theorem pw_and1 (ha:PT X a tA):PW X (.BoolOp .And [a] pos) tA:=by
 intro wh pins s σ H Q I h
 refine isTrue_and (cA (ha pins s σ H Q I h) λc s1 e=>?_)
 cases c with
 | true=>exact isTrue_and_nil e
 | false=>exact e
theorem pw_or1 (ha:PT X a tA):PW X (.BoolOp .Or [a] pos) tA:=by
 intro wh pins s σ H Q I h
 refine isTrue_or (cA (ha pins s σ H Q I h) λc s1 e=>?_)
 cases c with
 | false=>exact isTrue_or_nil e
 | true=>exact e
theorem pw_and (ha:PT X a tA) (hb:PW X (.BoolOp .And (b::rest) pos) KH):PW X (.BoolOp .And (a::b::rest) pos) (tAnd tA KH):=by
 intro wh pins s σ H Q I h
 refine isTrue_and (cA (ha pins s σ H _ I h) λc s1 ⟨H1,I1,q1⟩=>?_)
 cases c with
 | true=>exact hb wh pins s1 σ H1 Q I1 q1
 | false=>exact⟨H1,I1,q1⟩
theorem pw_or (ha:PT X a tA) (hb:PW X (.BoolOp .Or (b::rest) pos) KH):PW X (.BoolOp .Or (a::b::rest) pos) (tOr tA KH):=by
 intro wh pins s σ H Q I h
 refine isTrue_or (cA (ha pins s σ H _ I h) λc s1 ⟨H1,I1,q1⟩=>?_)
 cases c with
 | true=>exact⟨H1,I1,q1⟩
 | false=>exact hb wh pins s1 σ H1 Q I1 q1
noncomputable def tAndV (ta tb:TE):TE:=λσ H Q=>ta σ H λx H1=>∃c,x=.bl c/\if c=true then tb σ H1 Q else Q (.bl false) H1
noncomputable def tOrV (ta tb:TE):TE:=λσ H Q=>ta σ H λx H1=>∃c,x=.bl c/\if c=true then Q (.bl true) H1 else tb σ H1 Q
noncomputable def tNotV (ta:TE):TE:=λσ H Q=>ta σ H λx H1=>∃c,x=.bl c/\Q (.bl (!c)) H1
noncomputable def tIf (t:TT) (ta tb:TE):TE:=λσ H Q=>t σ H λc H1=>if c=true then ta σ H1 Q else tb σ H1 Q
theorem gJ {c:Expr} (hc:PT X c tA) (ha:PE X a ta) (hb:PE X b tb):PE X (.IfExp c a b pos) (tIf tA ta tb):=by
 intro pins s σ H Q I h
 refine wpAny_IfExp (cA (hc pins s σ H _ I h) λd s1 ⟨H1,I1,q1⟩=>?_)
 cases d with
 | true=>exact ha pins s1 σ H1 Q I1 q1
 | false=>exact hb pins s1 σ H1 Q I1 q1
end
end L2
namespace L2
open PySem PySem.Spec PyProof.Rows
noncomputable def bj (K:PySem.W.Frag) (H:Hp) (a:Addr) (xs:List V):Prop:=
 Rd H a (.lst xs)\/
  ∃(o:Obj) (aU:Array Value) (n:Nat),K.lookup a=some o/\o.cls=.type "list"/\o.dict=none/\o.data=.seq aU n/\aU.size<=sizeLine/\bu xs aU.toList
noncomputable def d7 (K:PySem.W.Frag) (H:Hp) (a:Addr) (xs:List V):Prop:=
 Rd H a (.tup xs)\/
  ∃(o:Obj) (aU:Array Value) (n:Nat),K.lookup a=some o/\o.cls=.type "tuple"/\o.data=.seq aU n/\aU.size<=sizeLine/\bu xs aU.toList
noncomputable def LV:Value->Option V
 | .none=>some .cE
 | .bool b=>some (.bl b)
 | .int i _=>some (.int i)
 | .str x _=>some (.str x)
 | .bytes b _=>some (.yD b)
 | .float b _=>some (.GO b)
 | .ref a=>some (.ref a)
 | .type n=>some (.ty n)
 | _=>none
theorem RelV.abs {x:V} {u:Value} (r:RelV x u):LV u=some x:=by
 cases x with
 | cE=>cases r;rfl
 | bl _=>cases r;rfl
 | int _=>obtain⟨t,rfl⟩:=r;rfl
 | str _=>obtain⟨t,rfl⟩:=r;rfl
 | yD _=>obtain⟨t,rfl⟩:=r;rfl
 | GO _=>obtain⟨t,rfl⟩:=r;rfl
 | ref _=>cases r;rfl
 | ty _=>cases r;rfl
theorem RelV.inj {x y:V} {u:Value} (r:RelV x u) (q:RelV y u):x=y:=aay (r.abs.symm.trans q.abs)
theorem bu.inj:∀{xs ys:List V} {us:List Value},bu xs us->bu ys us->xs=ys
 | _,_,_,.nil,.nil=>rfl
 | _,_,_,.cons r t,.cons r' t'=>by rw[r.inj r',bu.inj t t']
section
variable {X : Cx} {pins : List (Addr × Obj)} {σ : St} {H : Hp} {s : Shared} {a : Addr} {xs ys : List V}
theorem bj.of {K:PySem.W.Frag} (h:H a=some (.lst xs)):bj K H a xs:=.inl (.inl h)
theorem d7.of {K:PySem.W.Frag} (h:H a=some (.tup xs)):d7 K H a xs:=.inl (.inl h)
theorem Inv.list (I:Inv X pins σ H s) (h:bj X.K H a xs):∃aU:List Value,bu xs aU/\PlainL s.heap a aU.toArray/\xs.length<=sizeLine:=by
 rcases h with h | ⟨o,aU,n,hk,hc,hd,hs,hz,r⟩
 ·obtain⟨z,aU,n,r,e⟩:=h.ok I.bT
  exact⟨aU,r,⟨_,n,e,rfl,rfl,rfl⟩,z⟩
 ·refine⟨aU.toList,r,⟨o,n,I.vQ a o hk,hc,hd,by simpa using hs⟩,?_⟩
  have e:=r.length
  simp only[abm] at e
  omega
theorem Inv.tuple (I:Inv X pins σ H s) (h:d7 X.K H a xs):∃aU:List Value,bu xs aU/\IsTup s.heap a aU.toArray/\xs.length<=sizeLine:=by
 rcases h with h | ⟨o,aU,n,hk,hc,hs,hz,r⟩
 ·obtain⟨z,aU,r,p⟩:=h.ok I.bT
  exact⟨aU,r,p,z⟩
 ·refine⟨aU.toList,r,⟨o,I.vQ a o hk,hc,n,by simpa using hs⟩,?_⟩
  have e:=r.length
  simp only[abm] at e
  omega
theorem Inv.jm (I:Inv X pins σ H s) (h:bj X.K H a xs) (h':bj X.K H a ys):xs=ys:=by
 obtain⟨aU,r,⟨o,n,e,_,_,d⟩,_⟩:=I.list h
 obtain⟨its',r',⟨o',n',e',_,_,d'⟩,_⟩:=I.list h'
 rw[e] at e';cases e'
 rw[d] at d'
 injection d' with d1 _
 have:aU=its':=by simpa using congrArg Array.toList d1
 subst this
 exact r.inj r'
end
abbrev Cx.jP (X:Cx) (E:Value->Shared->Prop):Cx:={X with xe:=E}
abbrev Cx.GU (X:Cx):Cx:=X.jP λ_ _=>False
theorem Cx.Ok.jP {X:Cx} (ok:X.Ok) (E:Value->Shared->Prop):(X.jP E).Ok:=
 ⟨ok.mod,ok.kind,ok.glob,ok.blt,ok.above,ok.inj,ok.has,ok.GQ,ok.hd,ok.frames,ok.yK,ok.LN,ok.bs,ok.yL,ok.xI,ok.yM,ok.jO,ok.Dv⟩
theorem Cx.Ok.fP {X:Cx} {E:Value->Shared->Prop} (ok:(X.jP E).Ok):X.Ok:=
 ⟨ok.mod,ok.kind,ok.glob,ok.blt,ok.above,ok.inj,ok.has,ok.GQ,ok.hd,ok.frames,ok.yK,ok.LN,ok.bs,ok.yL,ok.xI,ok.yM,ok.jO,ok.Dv⟩
section
variable {X : Cx} {pins : List (Addr × Obj)} {σ : St} {H : Hp} {s : Shared} {E : Value -> Shared -> Prop}
theorem Inv.jP (I:Inv X pins σ H s) (E:Value->Shared->Prop):Inv (X.jP E) pins σ H s:=⟨I.ok.jP E,I.os,I.bare,I.base,I.loc,I.cell,I.free,I.gI,I.pin,I.bT,I.len⟩
theorem Inv.fP (I:Inv (X.jP E) pins σ H s):Inv X pins σ H s:=⟨I.ok.fP,I.os,I.bare,I.base,I.loc,I.cell,I.free,I.gI,I.pin,I.bT,I.len⟩
theorem SP.fP {D:Ends} {f:Flow} {s':Shared} (h:SP (X.jP E) pins D f s'):SP X pins D f s':=by
 cases f with
 | next=>obtain⟨σ',H',I,q⟩:=h;exact⟨σ',H',I.fP,q⟩
 | brk=>obtain⟨σ',H',I,q⟩:=h;exact⟨σ',H',I.fP,q⟩
 | cont=>obtain⟨σ',H',I,q⟩:=h;exact⟨σ',H',I.fP,q⟩
 | ret u=>obtain⟨v,σ',H',I,r,q⟩:=h;exact⟨v,σ',H',I.fP,r,q⟩
theorem uF.GU {st:List Stmt} {t:TS} (h:uF X.GU st t):uF X st t:=λpins s σ H D I hw=>
 wpAny_mono (h pins s σ H D (I.jP _) hw) (λ_ _ q=>q.fP) λ_ _ z=>False.elim z
end
section
variable {X : Cx} {st : Stmt} {rest : List Stmt} {t u : TS} {e : Expr} {te : TE} {pos : Pos}
noncomputable def tNext:TS:=λD σ H=>D.nx σ H
noncomputable def tSeq (t u:TS):TS:=λD σ H=>t {D with nx:=u D} σ H
theorem bB:uF X [] tNext:=λ_ _ σ H _ I h=>wpAny_execs_nil ⟨σ,H,I,h⟩
theorem af (h1:PS X st t) (h2:uF X rest u):uF X (st::rest) (tSeq t u):=by
 intro pins s σ H D I h
 refine wpAny_execs_cons (cA (h1 pins s σ H {D with nx:=u D} I h) λf s1 q=>?_)
 cases f with
 | next=>
  obtain⟨σ',H',I',q⟩:=q
  exact h2 pins s1 σ' H' D I' q
 | ret v=>exact q
 | brk=>exact q
 | cont=>exact q
theorem ax (h1:PS X st t):uF X [st] t:=by
 intro pins s σ H D I h
 refine wpAny_execs_cons (cA (h1 pins s σ H D I h) λf s1 q=>?_)
 cases f with
 | next=>exact wpAny_execs_nil q
 | ret v=>exact q
 | brk=>exact q
 | cont=>exact q
theorem Inv.quiet {pins:List (Addr×Obj)} {σ:St} {H:Hp} {s:Shared} (I:Inv X pins σ H s):interactive X.env=false:=by simp [interactive,I.ok.kind]
noncomputable def tDrop (te:TE):TS:=λD σ H=>te σ H λ_ H1=>D.nx σ H1
theorem c7 (he:PE X e te) (hs:swapsWith e none pos.line X.env=pure false:=by rfl):PS X (.Expr e pos) (tDrop te):=by
 intro pins s σ H D I h
 exact wpAny_Expr_any (cA (he pins s σ H _ I h) λv s1 ⟨x,H1,I1,r1,q1⟩=>⟨σ,H1,I1,q1⟩) I.quiet hs
noncomputable def tRet (te:TE):TS:=λD σ H=>te σ H D.rt
theorem aQ (he:PE X e te):PS X (.Return (some e) pos) (tRet te):=by
 intro pins s σ H D I h
 exact wpAny_Return_some (cA (he pins s σ H _ I h) λv s1 ⟨x,H1,I1,r1,q1⟩=>⟨x,σ,H1,I1,r1,q1⟩)
noncomputable def tRetN:TS:=λD _ H=>D.rt .cE H
noncomputable def tIfS (c:TT) (t u:TS):TS:=λD σ H=>c σ H λb H1=>if b=true then t D σ H1 else u D σ H1
theorem bU {c:Expr} {a b:List Stmt} {tc:TT} (hc:PT X c tc) (ha:uF X a t) (hb:uF X b u):PS X (.If c a b pos) (tIfS tc t u):=by
 intro pins s σ H D I h
 refine wpAny_If (cA (hc pins s σ H _ I h) λd s1 ⟨H1,I1,q1⟩=>?_)
 cases d with
 | true=>exact ha pins s1 σ H1 D I1 q1
 | false=>exact hb pins s1 σ H1 D I1 q1
noncomputable def Ew:TS:=λ_ _ _=>False
theorem mO:PS X st Ew:=λ_ _ _ _ _ _ h=>h.elim
end
abbrev TG:=V->St->Hp->(St->Hp->Prop)->Prop
abbrev DB:=List V->St->Hp->(St->Hp->Prop)->Prop
noncomputable def PG (X:Cx) (target:Expr) (t:TG):Prop:=
 ∀(pins:List (Addr×Obj)) (s:Shared) (σ:St) (H:Hp) (v:V) (u:Value) (Q:St->Hp->Prop),Inv X pins σ H s->RelV v u->t v σ H Q->
  wpAny (model X.prog X.w) X.A (assign target X.env u) (λ_ s'=>∃σ' H',Inv X pins σ' H' s'/\Q σ' H') X.xe s
noncomputable def GV (X:Cx) (ts:List Expr) (t:DB):Prop:=
 ∀(pins:List (Addr×Obj)) (s:Shared) (σ:St) (H:Hp) (vs:List V) (us:List Value) (Q:St->Hp->Prop),Inv X pins σ H s->bu vs us->t vs σ H Q->
  wpAny (model X.prog X.w) X.A (assignInOrder ((assignEach ts X.env).map (·.2)) us) (λ_ s'=>∃σ' H',Inv X pins σ' H' s'/\Q σ' H') X.xe s
abbrev yP:=V->V->V->Hp->(Hp->Prop)->Prop
noncomputable def Ex (X:Cx) (t:yP):Prop:=
 ∀(pins:List (Addr×Obj)) (s:Shared) (σ:St) (H:Hp) (o i v:V) (ov iv u:Value) (Q:Hp->Prop),Inv X pins σ H s->RelV o ov->RelV i iv->RelV v u->t o i v H Q->
  wpAny (model X.prog X.w) X.A (setItem ov iv u) (λ_ s'=>∃H',Inv X pins σ H' s'/\Q H') X.xe s
abbrev KI:=V->V->Hp->VK->Prop
noncomputable def Uc (X:Cx) (op:Operator) (t:KI):Prop:=
 ∀(pins:List (Addr×Obj)) (s:Shared) (σ:St) (H:Hp) (x y:V) (v u:Value) (Q:VK),Inv X pins σ H s->RelV x v->RelV y u->t x y H Q->
  wpAny (model X.prog X.w) X.A (inplaceOp op v u) (EP X pins σ Q) X.xe s
section
variable {X : Cx} {pos : Pos}
noncomputable def gName (i:Nat):TG:=λv σ H Q=>Q (σ.set i (some v)) H
theorem aE {i:Nat} {x:Str} (hN:X.N.Nodup) (hi:X.N[i]?=some x) (hx:Loc X.env.scope x) (hf:X.fn x=true\/X.env.scope.names.lookup x=some .local:=by first | exact .inl rfl | exact .inr rfl | assumption):PG X (.Name x pos) (gName i):=by
 intro pins s σ H v u Q I r h
 exact wpAny_assign_Name (jl I hN hi hx r (λs' I'=>⟨_,H,I',h⟩) hf)
noncomputable def gNil:DB:=λvs σ H Q=>vs=[]/\Q σ H
noncomputable def gCons (t:TG) (u:DB):DB:=λvs σ H Q=>∃v r,vs=v::r/\t v σ H λσ' H'=>u r σ' H' Q
theorem bY:GV X [] gNil:=by
 intro pins s σ H vs us Q I r h
 obtain⟨e,h⟩:=h
 subst e
 cases r
 exact assignInOrder_nil ⟨σ,H,I,h⟩
theorem aT {e:Expr} {es:List Expr} {t:TG} {u:DB} (h1:PG X e t) (h2:GV X es u)
  (hs:(assignEach (e::es) X.env).map (·.2)=assign e X.env::(assignEach es X.env).map (·.2):=by rfl):GV X (e::es) (gCons t u):=by
 intro pins s σ H vs us Q I r h
 obtain⟨v,vr,e1,h⟩:=h
 subst e1
 cases r with
 | cons r rr=>
  rw[hs]
  refine assignInOrder_cons (cA (h1 pins s σ H _ _ _ I r h) λ_ s1 ⟨σ1,H1,I1,q1⟩=>?_)
  exact h2 pins s1 σ1 H1 _ _ Q I1 rr q1
noncomputable def yQ (K:PySem.W.Frag) (n:Nat) (t:DB):TG:=λv σ H Q=>∃a xs,v=.ref a/\d7 K H a xs/\xs.length=n/\t xs σ H Q
theorem Ey {es:List Expr} {k:Nat} {t:DB} {n:Nat} (hc:X.calm=true) (h:GV X es t)
  (hn:(assignEach es X.env).length=n:=by rfl) (hst:(assignEach es X.env).findIdx? (·.1)=none:=by rfl):PG X (.Tuple es k pos) (yQ X.K n t):=by
 intro pins s σ H v u Q I r hw
 obtain⟨a,xs,e1,hq,hl,hw⟩:=hw
 subst e1
 cases r
 obtain⟨aU,rv,ht,hz⟩:=I.tuple hq
 refine assign_Tuple_tuple (I.ok.hd hc) ht (by simp [hn,<-hl,rv.length]) hst λh' hx=>?_
 have I1:Inv X pins σ H {s with heap:=h'}:=I.kept (t':=s.toks) λb o e=>hx b o (aan (Heap.lt_size e)) e
 exact h pins _ σ H xs _ Q I1 (by simpa using rv) hw
noncomputable def gSub (to ti:TE) (t:yP):TG:=λv σ H Q=>to σ H λo H1=>ti σ H1 λi H2=>t o i v H2 λH3=>Q σ H3
theorem fc {o i:Expr} {to ti:TE} {t:yP} (ho:PE X o to) (hi:PE X i ti) (hs:Ex X t)
  (ha:∀v,assign (.Subscript o i pos) X.env v=(do
   let ov <-holding [v] (eval o X.env)
   let iv <-holding [v,ov] (eval i X.env)
   standAt pos
   holding [v,ov,iv] (setItem ov iv v)
   release [v,ov,iv] []):=by intro _;rfl):PG X (.Subscript o i pos) (gSub to ti t):=by
 intro pins s σ H v u Q I r h
 rw[ha]
 refine wpAny_bind (wpAny_holding (cA (ho pins s σ H _ I h) λov s1 c6=>?_))
 obtain⟨x,H1,I1,r1,q1⟩:=c6
 refine wpAny_bind (wpAny_holding (cA (hi pins s1 σ H1 _ I1 q1) λiv s2 c6=>?_))
 obtain⟨y,H2,I2,r2,q2⟩:=c6
 refine wpAny_bind (wpAny_standAt (wpAny_bind (wpAny_holding (cA (hs pins s2 σ H2 x y v ov iv u _ I2 r1 r2 r q2) λ_ s3 ⟨H3,I3,q3⟩=>?_))))
 exact wpAny_release ⟨σ,H3,I3,q3⟩
noncomputable def tAsg (te:TE) (g:TG):TS:=λD σ H=>te σ H λx H1=>g x σ H1 D.nx
theorem dU {tg e:Expr} {te:TE} {g:TG} (he:PE X e te) (hg:PG X tg g) (hs:swapsWithSole [tg] e pos.line X.env=pure false:=by rfl) (hw:swappedStores [tg] e X.env=pure none:=by rfl)
  (h1:(assignEach [tg] X.env).map (·.2)=[assign tg X.env]:=by rfl):PS X (.Assign [tg] e pos) (tAsg te g):=by
 intro pins s σ H D I h
 refine wpAny_Assign_stores (cA (he pins s σ H _ I h) λv s1 c6=>?_) hs hw
 obtain⟨x,H1,I1,r1,q1⟩:=c6
 rw[h1]
 exact cA (hg pins s1 σ H1 x v _ I1 r1 q1) λ_ s2 q=>q
theorem aF {i:Nat} {x:Str} {e:Expr} {te:TE} {pos':Pos} (hN:X.N.Nodup) (hi:X.N[i]?=some x) (hx:Loc X.env.scope x) (he:PE X e te) (hs:swapsWith e (some (.Name x pos')) pos.line X.env=pure false:=by rfl) (hf:X.fn x=true\/X.env.scope.names.lookup x=some .local:=by first | exact .inl rfl | exact .inr rfl | assumption):
  PS X (.Assign [.Name x pos'] e pos) (tAsg te (gName i)):=by
 intro pins s σ H D I h
 refine wpAny_Assign_Name (cA (he pins s σ H _ I h) λv s1 c6=>?_) hs
 obtain⟨y,H1,I1,r1,q1⟩:=c6
 exact jl I1 hN hi hx r1 (λs2 I2=>⟨_,H1,I2,q1⟩) hf
noncomputable def tPar (i j:Nat) (ta:TA):TS:=λD σ H=>ta σ H λvs H1=>∃v w,vs=[v,w]/\D.nx ((σ.set i (some v)).set j (some w)) H1
theorem Ez {i j:Nat} {x y:Str} {a b:Expr} {ta:TA} {px py pt:Pos} {kt k2 LW} (hc:X.calm=true) (hN:X.N.Nodup) (hi:X.N[i]?=some x) (hj:X.N[j]?=some y) (LX:i≠j)
  (hx:X.env.scope.names.lookup x=some .local) (hy:X.env.scope.names.lookup y=some .local) (ha:PA X [a,b] ta)
  (hw:swappedStores [.Tuple [.Name x px,.Name y py] kt pt] (.Tuple [a,b] k2 LW) X.env=pure (some [x,y]))
  (hs:swapsWithSole [.Tuple [.Name x px,.Name y py] kt pt] (.Tuple [a,b] k2 LW) pos.line X.env=pure false:=by rfl):
  PS X (.Assign [.Tuple [.Name x px,.Name y py] kt pt] (.Tuple [a,b] k2 LW) pos) (tPar i j ta):=by
 intro pins s σ H D I h
 rw[exec_Assign_arm]
 refine wpAny_bind (wpAny_standAt ?_)
 rw[hs]
 refine wpAny_bind (wpAny_pure ?_)
 rw[if_neg (by decide)]
 refine wpAny_bind (Tuple_ (cA (ha _ pins s σ H _ I h) λus s1 c6=>?_))
 obtain⟨vs,H1,I1,r1,q1⟩:=c6
 obtain⟨v,w,e1,q1⟩:=q1
 subst e1
 obtain⟨u1,u2,rfl,rv,qw⟩:∃u1 u2,us=[u1,u2]/\RelV v u1/\RelV w u2:=by
  cases r1 with
  | cons p q=>
   cases q with
   | cons p' q'=>
    cases q'
    exact⟨_,_,rfl,p,p'⟩
 refine wpAny_newObj_type ?_ (by show 2<=sizeLine;decide)
 have I2:Inv X pins σ H1 {s1 with heap:=s1.heap.push {cls:=.type "tuple",data:=.seq [u1,u2].toArray}}:=I1.kept (t':=s1.toks) λb o e=>Heap.get?_push_of_some _ e
 rw[hw]
 refine wpAny_bind (wpAny_pure ?_)
 show wpAny (model X.prog X.w) X.A (do rule "assign.swapped-stores";let items <-unpackItems (.ref s1.heap.objs.size) 2 none;assignInOrder [λv=>bindName X.env y v,λv=>bindName X.env x v] items.reverse;pure Flow.next) _ _ _
 refine wpAny_bind (wpAny_rule (wpAny_bind (unpackItems_tuple (items:=#[u1,u2]) (I.ok.hd hc) (IsTup.new s1.heap _) λh' pE=>?_)))
 have I3:=I2.kept (h':=h') (t':=s1.toks) λb o e=>pE b o (aan (Heap.lt_size e)) e
 show wpAny _ _ (assignInOrder [λv=>bindName X.env y v,λv=>bindName X.env x v] [u2,u1] >>=λ_=>pure Flow.next) _ _ _
 refine wpAny_bind (assignInOrder_cons (wpAny_bindName (jl I3 hN hj (.inl hy) qw (λs2 I4=>?_) (.inr hy))))
 refine assignInOrder_cons (wpAny_bindName (jl I4 hN hi (.inl hx) rv (λs3 I5=>assignInOrder_nil (wpAny_pure ?_)) (.inr hx)))
 rw[List.set_comm _ _ (Ne.symm LX)] at I5
 exact⟨_,H1,I5,q1⟩
noncomputable def DC (to ti te:TE) (BR:V->V->Hp->VK->Prop) (KJ:KI) (BU:yP):TS:=λD σ H=>to σ H λo H1=>ti σ H1 λi H2=>BR o i H2 λx H3=>te σ H3 λy H4=>KJ x y H4 λz H5=>BU o i z H5 λH6=>D.nx σ H6
noncomputable def Hs (X:Cx) (t:V->V->Hp->VK->Prop):Prop:=
 ∀(pins:List (Addr×Obj)) (s:Shared) (σ:St) (H:Hp) (o i:V) (ov iv:Value) (Q:VK),Inv X pins σ H s->RelV o ov->RelV i iv->t o i H Q->
  wpAny (model X.prog X.w) X.A (getItem ov iv) (EP X pins σ Q) X.xe s
theorem BV {o i e:Expr} {to ti te:TE} {BR:V->V->Hp->VK->Prop} {KJ:KI} {BU:yP} {op:Operator} {kT:Pos} (ho:PE X o to) (hi:PE X i ti) (hg:Hs X BR) (he:PE X e te) (hp:Uc X op KJ) (hs:Ex X BU)
  (ha:∀ov iv new,augStore i ov iv new=(do holding [new,ov,iv] (setItem ov iv new);release [new,ov,iv] [];pure .next):=by intros;rfl):PS X (.AugAssign (.Subscript o i kT) op e pos) (DC to ti te BR KJ BU):=by
 intro pins s σ H D I h
 refine wpAny_AugAssign_SubscriptAny (cA (ho pins s σ H _ I h) λov s1 c6=>?_) ha
 obtain⟨x1,H1,I1,r1,q1⟩:=c6
 refine cA (hi pins s1 σ H1 _ I1 q1) λiv s2 c6=>?_
 obtain⟨x2,H2,I2,r2,q2⟩:=c6
 refine cA (hg pins s2 σ H2 x1 x2 ov iv _ I2 r1 r2 q2) λold s3 c6=>?_
 obtain⟨x3,H3,I3,r3,q3⟩:=c6
 refine cA (he pins s3 σ H3 _ I3 q3) λv s4 c6=>?_
 obtain⟨x4,H4,I4,r4,q4⟩:=c6
 refine cA (hp pins s4 σ H4 x3 x4 old v _ I4 r3 r4 q4) λnew s5 c6=>?_
 obtain⟨x5,H5,I5,r5,q5⟩:=c6
 exact cA (hs pins s5 σ H5 x1 x2 x5 ov iv new _ I5 r1 r2 r5 q5) λ_ s6 ⟨H6,I6,q6⟩=>⟨σ,H6,I6,q6⟩
noncomputable def Ud (f:Int->Int->Int):KI:=λx y H Q=>∃i j,x=.int i/\y=.int j/\Q (.int (f i j)) H
theorem EA:Uc X .Sub (Ud λi j=>i - j):=by
 intro pins s σ H x y v u Q I r1 r2 h
 obtain⟨i,j,e1,e2,q⟩:=h
 subst e1;subst e2
 obtain⟨t,rfl⟩:=r1
 obtain⟨t',rfl⟩:=r2
 exact isub_int ⟨.int _,H,I.tok _,⟨_,rfl⟩,q⟩
end
section
variable {X : Cx} {pos : Pos}
noncomputable def qx (c:TT) (tb:TS):TS:=λD σ H=>∃W:Nat->St->Hp->Prop,(∃m,W m σ H)/\∀m σ H,W m σ H->
 c σ H λb H1=>if b=true then ∃N:St->Hp->Prop,(∀σ' H',N σ' H'->∃m',m'<m/\W m' σ' H')/\tb {D with nx:=N,ct:=N,bk:=D.nx} σ H1 else D.nx σ H1
theorem gK {c:Expr} {body:List Stmt} {tc:TT} {tb:TS} (hp:PassesOwn (model X.prog X.w) X.A X.env X.xe) (hc:PT X c tc) (hb:uF X body tb):PS X (.While c body [] pos) (qx tc tb):=by
 intro pins s σ H D I h
 obtain⟨W,⟨m0,w0⟩,turn⟩:=h
 refine wpAny_While (codeAny_whileLoop (λn s'=>∃σ' H',Inv X pins σ' H' s'/\W n σ' H') ?_ m0 ⟨σ,H,I,w0⟩)
 rintro n s1 ⟨σ1,H1,I1,w1⟩
 refine wpAny_passesOwn hp (cA (hc pins s1 σ1 H1 _ I1 (turn n σ1 H1 w1)) λb s2 ⟨H2,I2,q2⟩=>?_)
 cases b with
 | true=>
  obtain⟨N,hN,q2⟩:=q2
  rw[if_pos rfl]
  refine wpAny_passesOwn hp (cA (hb pins s2 σ1 H2 _ I2 q2) λf s3 q3=>?_)
  cases f with
  | next=>
   obtain⟨σ3,H3,I3,n3⟩:=q3
   obtain⟨m',hm,w3⟩:=hN σ3 H3 n3
   exact⟨m',hm,σ3,H3,I3,w3⟩
  | cont=>
   obtain⟨σ3,H3,I3,n3⟩:=q3
   obtain⟨m',hm,w3⟩:=hN σ3 H3 n3
   exact⟨m',hm,σ3,H3,I3,w3⟩
  | brk=>exact q3
  | ret v=>exact q3
 | false=>
  rw[if_neg aaz]
  exact wpAny_execs_nil ⟨σ1,H2,I2,q2⟩
end
structure It where
 go:Nat->Hp->Prop
 vS:Nat->Hp->V->Hp->Prop
 stop:Nat->Hp->Prop
noncomputable def iz (X:Cx) (pins:List (Addr×Obj)) (H:Hp) (b:Addr):Prop:=
 H b=none/\b≠X.env.locals/\b∉X.fs/\(b∈X.ex\/X.s₀.heap.objs.size<=b)/\(∀x c,X.env.cells.lookup x=some c->c≠b)/\∀p∈X.pn++pins,p.1≠b
theorem Inv.xK {X:Cx} {pins:List (Addr×Obj)} {σ:St} {H H':Hp} {s:Shared} {b:Addr} (I:Inv X pins σ H s) (hb:s.heap.objs.size<=b) (hn:H' b=none):iz X pins H' b:=by
 refine⟨hn,Nat.ne_of_gt (aav I.lt hb),I.LP hb,.inr (aap I.sz hb),λx c e z=>?_,λp hp z=>?_⟩
 ·obtain⟨v,q⟩:=I.cell x c e
  exact absurd (aav q.lt (by rw[z];exact hb)) (aaF _)
 ·exact absurd (aav (Heap.lt_size (I.pin p hp).1) (by rw[z];exact hb)) (aaF _)
structure Turn (P:Program) (w:World) (K:PySem.W.Frag) (tg:Expr) (J:It) (fp:List Addr) (it:Addr) (tn:Nat->Heap->Prop):Prop where
 mem:it∈fp
 obj:∀i h,tn i h->∀b∈fp,∃o,h.get? b=some o/\∀v,o.data≠.cell v
 keep:∀i h h',tn i h->(∀b∈fp,∀o,h.get? b=some o->h'.get? b=some o)->tn i h'
 item:∀(X:Cx),X.prog=P->X.w=w->X.K=K->X.calm=true->∀(i:Nat) (pins:List (Addr×Obj)) (s:Shared) (σ:St) (H:Hp) (E:Value->Shared->Prop),Inv X pins σ H s->(∀b∈fp,iz X pins H b)->tn i s.heap->J.go i H->
  wpAny (model P w) X.A (pyNext (.ref it)) (λr s1=>∃u,r=some u/\
   wpAny (model P w) X.A (letOwnedTupleGo tg (.ref it) u) (λ_ s2=>∃x H',Inv X pins σ H' s2/\RelV x u/\J.vS i H x H'/\tn (i+1) s2.heap/\∀b∈fp,H' b=none) E s1) E s
 done:∀(X:Cx),X.prog=P->X.w=w->X.K=K->X.calm=true->∀(i:Nat) (pins:List (Addr×Obj)) (s:Shared) (σ:St) (H:Hp) (E:Value->Shared->Prop),Inv X pins σ H s->(∀b∈fp,iz X pins H b)->tn i s.heap->J.stop i H->
  wpAny (model P w) X.A (pyNext (.ref it)) (λr s1=>r=none/\Inv X pins σ H s1) E s
 self:∀(A:Around) (i:Nat) (s:Shared) (Q:Value->Shared->Prop) (E:Value->Shared->Prop),tn i s.heap->Q (.ref it) s->wpAny (model P w) A (pyIter (.ref it)) Q E s
abbrev TI:=St->Hp->(It->Hp->Prop)->Prop
noncomputable def Ue (X:Cx) (pins:List (Addr×Obj)) (σ:St) (tg:Expr) (R:It->Hp->Prop) (DD:Value) (s2:Shared):Prop:=
 ∃(it:Addr) (fp:List Addr) (tn:Nat->Heap->Prop) (J:It) (H':Hp),DD=.ref it/\Inv X pins σ H' s2/\Turn X.prog X.w X.K tg J fp it tn/\tn 0 s2.heap/\(∀b∈fp,iz X pins H' b)/\R J H'
noncomputable def PI (X:Cx) (tg iter:Expr) (wi:TI):Prop:=
 ∀(pins:List (Addr×Obj)) (s:Shared) (σ:St) (H:Hp) (R:It->Hp->Prop),Inv X pins σ H s->wi σ H R->
  wpAny (model X.prog X.w) X.A (eval iter X.env) (λv s1=>wpAny (model X.prog X.w) X.A (pyIter v) (Ue X pins σ tg R) X.xe s1) X.xe s
theorem DE {M:Model} {A:Around} {E:Value->Shared->Prop} {s:Shared} {tg:Expr} {it:Addr} {u:Value} {o:Obj} {n:String} {vs:Array Value} {Q:Unit->Shared->Prop} (ho:s.heap.get? it=some o) (hc:o.cls=.type n) (hd:o.data=.fields vs)
  (hn:["enumerate","zip","dict_itemiterator","dict_reverseitemiterator","odict_iterator","itertools.zip_longest","itertools.pairwise"].contains n=false) (hQ:Q () s):wpAny M A (letOwnedTupleGo tg (.ref it) u) Q E s:=by
 unfold letOwnedTupleGo
 cases tg <;>first
  | exact wpAny_pure hQ
  | (cases u <;>first
    | exact wpAny_pure hQ
    | (refine wpAny_bind (wpAny_load ho ?_)
       rw[hc,hd]
       show wpAny M A (if (["enumerate","zip","dict_itemiterator","dict_reverseitemiterator","odict_iterator","itertools.zip_longest","itertools.pairwise"].contains n && vs[0]?==some (rawInt _))=true then _ else _) Q E s
       rw[if_neg (by intro h;rw[hn,Bool.false_and] at h;cases h)]
       exact wpAny_pure hQ))
noncomputable def vT (K:PySem.W.Frag) (a:Addr):It:=
 ⟨λi H=>∃xs x,bj K H a xs/\xs[i]?=some x,λi H x H'=>H'=H/\∀xs,bj K H a xs->xs[i]?=some x,λi H=>∃xs,bj K H a xs/\xs.length<=i⟩
noncomputable def Wg (K:PySem.W.Frag) (a:Addr):It:=
 ⟨λi H=>∃xs x,d7 K H a xs/\xs[i]?=some x,λi H x H'=>H'=H/\∀xs,d7 K H a xs->xs[i]?=some x,λi H=>∃xs,d7 K H a xs/\xs.length<=i⟩
noncomputable def Ht (lo:Int) (n:Nat):It:=⟨λi _=>i<n,λi H x H'=>H'=H/\x=.int (lo+i),λi _=>n<=i⟩
theorem xM {P:Program} {w:World} {K:PySem.W.Frag} {tg:Expr} (a it:Addr):Turn P w K tg (vT K a) [it] it (λi h=>h.IsListIter it a i) where
 mem:=by simp
 obj:=λi h st b hb=>by
  have e:b=it:=by simpa using hb
  subst e
  obtain⟨o,e,c,d⟩:=st
  exact⟨o,e,λv z=>by rw[d] at z;cases z⟩
 keep:=λi h h' st k=>st.at λo e=>k it (by simp) o e
 item:=by
  intro X hP hw hK hc i pins s σ H E I hf st hg
  subst hP hw hK
  obtain⟨xs,x,hq,hx⟩:=hg
  obtain⟨aU,rv,p,hz⟩:=I.list hq
  obtain⟨u,hu,ru⟩:=rv.get hx
  obtain⟨f0,f1,f2,f3,f4,f5⟩:=hf it (by simp)
  refine wpAny_pyNext_list_item st p.isList (x:=u) (by simpa using hu) λh' Bz sb=>?_
  have I1:Inv X pins σ H {s with heap:=h'}:=I.turned (t':=s.toks) (λb o hb e=>(sb.2 b hb).trans e) f0 f1 f3 f4 f5
  obtain⟨o,e,c,d⟩:=id Bz
  exact⟨u,rfl,DE (s:={s with heap:=h'}) e c d (by decide) ⟨x,H,I1,ru,⟨rfl,λys hy=>by rw[I.jm hy hq];exact hx⟩,Bz,λb hb=>(hf b hb).1⟩⟩
 done:=by
  intro X hP hw hK hc i pins s σ H E I hf st hg
  subst hP hw hK
  obtain⟨xs,hq,hx⟩:=hg
  obtain⟨aU,rv,p,hz⟩:=I.list hq
  obtain⟨f0,f1,f2,f3,f4,f5⟩:=hf it (by simp)
  have hl:=rv.length
  exact wpAny_pyNext_list_end (I.ok.hd hc) st p.isList (by simp;omega) λh' eb=>⟨rfl,I.turned (t':=s.toks) (λb o hb e=>eb b o hb e) f0 f1 f3 f4 f5⟩
 self:=λ_ _ _ _ _ st h=>wpAny_pyIter_listiter st h
theorem uH {P:Program} {w:World} {K:PySem.W.Frag} {tg:Expr} (it:Addr) (lo:Int) (n:Nat):Turn P w K tg (Ht lo n) [it] it (λi h=>IsRangeIter h it (lo+ (i:Nat)*1) ((n:Int) - (i:Nat)) 1) where
 mem:=by simp
 obj:=λi h st b hb=>by
  have e:b=it:=by simpa using hb
  subst e
  exact⟨_,st,λv z=>by
   have z':Data.fields _=Data.cell v:=z
   cases z'⟩
 keep:=λi h h' st k=>k it (by simp) _ st
 item:=by
  intro X hP hw hK hc i pins s σ H E I hf st hg
  subst hP hw hK
  obtain⟨f0,f1,f2,f3,f4,f5⟩:=hf it (by simp)
  have W:=Walks.range (prog:=X.prog) (w:=X.w) (I.ok.hd hc) it lo 1 n
  refine W.item i s _ _ hg st λv h' tk hv Bz kk=>?_
  obtain⟨t,rfl⟩:=hv
  have I1:Inv X pins σ H {s with heap:=h',toks:=tk}:=I.turned (λb o hb e=>kk b o (by simpa using hb) e) f0 f1 f3 f4 f5
  refine⟨_,rfl,DE (s:={s with heap:=h',toks:=tk}) (n:="range_iterator") Bz rfl rfl (by decide) ⟨.int (lo+i),H,I1,⟨t,?_⟩,⟨rfl,rfl⟩,Bz,λb hb=>(hf b hb).1⟩⟩
  rw[Int.mul_one]
 done:=by
  intro X hP hw hK hc i pins s σ H E I hf st hg
  subst hP hw hK
  obtain⟨f0,f1,f2,f3,f4,f5⟩:=hf it (by simp)
  exact wpAny_pyNext_range_end (I.ok.hd hc) st (by have:n<=i:=hg;omega) λh' eb=>⟨rfl,I.turned (t':=s.toks) (λb o hb e=>eb b o hb e) f0 f1 f3 f4 f5⟩
 self:=λ_ _ _ _ _ st h=>wpAny_pyIter_rangeiter st h
end L2
namespace L2
open PySem PySem.Spec PyProof.Rows
section
variable {X : Cx} {tg : Expr}
noncomputable def iList (K:PySem.W.Frag) (tl:TE):TI:=λσ H R=>tl σ H λx H1=>∃a,x=.ref a/\(∃xs,bj K H1 a xs)/\R (vT K a) H1
noncomputable def iTup (K:PySem.W.Frag) (tl:TE):TI:=λσ H R=>tl σ H λx H1=>∃a,x=.ref a/\(∃xs,d7 K H1 a xs)/\R (Wg K a) H1
theorem BW {l:Expr} {tl:TE} (hl:PE X l tl):PI X tg l (iList X.K tl):=by
 intro pins s σ H R I h
 refine cA (hl pins s σ H _ I h) λv s1 c6=>?_
 obtain⟨x,H1,I1,r1,q1⟩:=c6
 obtain⟨a,e,⟨xs,hq⟩,q⟩:=q1
 subst e
 cases r1
 obtain⟨aU,rv,p,hz⟩:=I1.list hq
 refine wpAny_pyIter_list p.isList ?_
 refine⟨s1.heap.objs.size,[s1.heap.objs.size],_,_,H1,rfl,I1.kept (t':=s1.toks) λb o e=>Heap.get?_push_of_some _ e,xM a _,⟨_,Heap.get?_push_size _ rfl,rfl,rfl⟩,λb hb=>?_,q⟩
 have e:b=s1.heap.objs.size:=by simpa using hb
 subst e
 exact I1.xK (aah _) (I1.bT.fresh (aah _))
theorem sG {pins:List (Addr×Obj)} {σ:St} {H:Hp} {s:Shared} {R:It->Hp->Prop} {E:Value->Shared->Prop} {lo hi:Int} {t u v:Tok} {tk:Nat} (I:Inv X pins σ H s) (h1:-(2^62)<=lo) (h2:lo<2^62) (h3:-(2^62)<=hi) (h4:hi<2^62)
  (q:R (Ht lo (hi - lo).toNat) H):wpAny (model X.prog X.w) X.A (pyIter (.ref s.heap.objs.size)) (Ue X pins σ tg R) E {s with heap:=s.heap.push {cls:=.type "range",data:=.fields #[.int lo t,.int hi u,.int 1 v]},toks:=tk}:=by
 refine wpAny_pyIter_range (IsRange.new ..) (small_one h1 h2 h3 h4) ?_
 have I1:Inv X pins σ H {s with heap:=s.heap.push {cls:=.type "range",data:=.fields #[.int lo t,.int hi u,.int 1 v]},toks:=tk}:=I.kept λb o e=>Heap.get?_push_of_some _ e
 refine⟨(s.heap.push {cls:=.type "range",data:=.fields #[.int lo t,.int hi u,.int 1 v]}).objs.size,[(s.heap.push {cls:=.type "range",data:=.fields #[.int lo t,.int hi u,.int 1 v]}).objs.size],_,_,H,rfl,
  I1.kept (t':=tk) λb o e=>Heap.get?_push_of_some _ e,uH _ lo (hi - lo).toNat,?_,λb hb=>?_,q⟩
 ·have e1:lo+ ((0:Nat):Int)*1=lo:=by simp
  have e2:(((hi - lo).toNat:Nat):Int) - ((0:Nat):Int)=Builtin.Range.rangeSize lo hi 1:=by rw[rangeSize_one];split <;>omega
  show IsRangeIter _ _ (lo+ ((0:Nat):Int)*1) ((((hi - lo).toNat:Nat):Int) - ((0:Nat):Int)) 1
  rw[e1,e2]
  exact Heap.get?_push_size _ rfl
 ·have e:b=(s.heap.push {cls:=.type "range",data:=.fields #[.int lo t,.int hi u,.int 1 v]}).objs.size:=by simpa using hb
  subst e
  exact I1.xK (aah _) (I1.bT.fresh (aah _))
noncomputable def iRng1 (ta:TA):TI:=λσ H R=>ta σ H λvs H1=>∃j:Int,vs=[.int j]/\-(2^62)<=j/\j<2^62/\R (Ht 0 j.toNat) H1
noncomputable def iRng2 (ta:TA):TI:=λσ H R=>ta σ H λvs H1=>∃i j:Int,vs=[.int i,.int j]/\(-(2^62)<=i/\i<2^62/\-(2^62)<=j/\j<2^62)/\R (Ht i (j - i).toNat) H1
theorem cR {a:Expr} {ta:TA} {p pos:Pos} (hg:Gl X "range") (hm:X.mg "range"=none) (ha:PA X [a] ta) (hs:starEach [a] X.env=[(false,eval a X.env)]:=by rfl):PI X tg (.Call (.Name "range" p) [a] [] pos) (iRng1 ta):=by
 intro pins s σ H R I h
 refine Call_ (iS I hg hm boot_range (PyProof.Rows.callWith_type1 (cA (ha pos pins s σ H _ I h) λus s1 c6=>?_) hs rfl))
 obtain⟨vs,H1,I1,r1,q1⟩:=c6
 obtain⟨j,e,q1,q2,q⟩:=q1
 subst e
 cases r1 with
 | cons r rr=>
  cases rr
  obtain⟨t,rfl⟩:=r
  exact call_range_1 (sG I1 (by omega) (by omega) q1 q2 (by simpa using q))
theorem xN {a b:Expr} {ta:TA} {p pos:Pos} (hg:Gl X "range") (hm:X.mg "range"=none) (ha:PA X [a,b] ta) (hs:starEach [a,b] X.env=[(false,eval a X.env),(false,eval b X.env)]:=by rfl) (DF:starEach [b] X.env=[(false,eval b X.env)]:=by rfl):
  PI X tg (.Call (.Name "range" p) [a,b] [] pos) (iRng2 ta):=by
 intro pins s σ H R I h
 refine Call_ (iS I hg hm boot_range (PyProof.Rows.callWith_type1 (cA (ha pos pins s σ H _ I h) λus s1 c6=>?_) (by rw[hs,DF]) (by rw[DF];rfl)))
 obtain⟨vs,H1,I1,r1,q1⟩:=c6
 obtain⟨i,j,e,⟨q1,q2,q3,q4⟩,q⟩:=q1
 subst e
 cases r1 with
 | cons r rr=>
  cases rr with
  | cons r' rr=>
   cases rr
   obtain⟨t,rfl⟩:=r
   obtain⟨t',rfl⟩:=r'
   exact call_range_2 (sG I1 q1 q2 q3 q4 q)
noncomputable def Hu (wi:TI) (g:TG) (tb:TS):TS:=λD σ H=>wi σ H λJ H1=>∃W:Nat->Nat->St->Hp->Prop,(∃m,W 0 m σ H1)/\∀i m σ H,W i m σ H->
 (J.stop i H/\D.nx σ H)\/(J.go i H/\∃N:St->Hp->Prop,(∀σ' H',N σ' H'->∃m',m'<m/\W (i+1) m' σ' H')/\∀x H',J.vS i H x H'->g x σ H' λσ2 H2=>tb {D with nx:=N,ct:=N,bk:=D.nx} σ2 H2)
noncomputable def mP (fp:List Addr) (h:Heap):List (Addr×Obj):=fp.filterMap λb=>(h.get? b).map λo=>(b,o)
theorem fQ {fp:List Addr} {h:Heap} {b:Addr} {o:Obj} (hb:b∈fp) (e:h.get? b=some o):(b,o)∈mP fp h:=List.mem_filterMap.mpr ⟨b,hb,by rw[e];rfl⟩
theorem xO {fp:List Addr} {h:Heap} {p:Addr×Obj} (hp:p∈mP fp h):p.1∈fp/\h.get? p.1=some p.2:=by
 obtain⟨b,hb,e⟩:=List.mem_filterMap.mp hp
 cases q:h.get? b with
 | none=>rw[q] at e;cases e
 | some o=>
  rw[q] at e
  have e':(b,o)=p:=aay e
  subst e'
  exact⟨hb,q⟩
theorem Inv.pinned {pins:List (Addr×Obj)} {σ:St} {H:Hp} {s:Shared} {fp:List Addr} (I:Inv X pins σ H s) (hf:∀b∈fp,iz X pins H b) (ho:∀b∈fp,∃o,s.heap.get? b=some o/\∀v,o.data≠.cell v):Inv X (pins++mP fp s.heap) σ H s:=
 I.jj λp hp=>(List.mem_append.mp hp).elim (λz=>I.pin p (aaI _ z)) λz=>by
  obtain⟨hb,e⟩:=xO z
  obtain⟨f0,f1,f2,_⟩:=hf p.1 hb
  obtain⟨o,e',d⟩:=ho p.1 hb
  rw[e] at e';cases e'
  exact⟨e,f0,f1,f2,d⟩
theorem Inv.mQ {pins pl:List (Addr×Obj)} {σ:St} {H:Hp} {s:Shared} (I:Inv X (pins++pl) σ H s):Inv X pins σ H s:=I.jj λp hp=>I.pin p (aaI _ (abv _ hp))
theorem cf {iter:Expr} {body:List Stmt} {wi:TI} {g:TG} {tb:TS} {pos:Pos} (hp:PassesOwn (model X.prog X.w) X.A X.env X.xe) (hc:X.calm=true) (hi:PI X tg iter wi) (hg:PG X tg g) (hb:uF X body tb)
  (hs:∀x,foldedSetIterable iter X.env x=pure x:=by intro _;rfl):PS X (.For tg iter body [] pos) (Hu wi g tb):=by
 intro pins s σ H D I h
 refine wpAny_For (cA (hi pins s σ H _ I h) λv s1 h1=>cA h1 λDD s2 h2=>?_) hs
 obtain⟨it,fp,tn,J,H2,e,I2,T,uI,f2,W,⟨m0,w0⟩,turn⟩:=h2
 subst e
 have uJ:∀{H':Hp},(∀b∈fp,H' b=none)->∀b∈fp,iz X pins H' b:=λhn b hb=>⟨hn b hb,(f2 b hb).2⟩
 refine codeAny_forLoop_any (λn s'=>∃i σ' H',Inv X pins σ' H' s'/\tn i s'.heap/\(∀b∈fp,H' b=none)/\W i n σ' H') ?_ m0 ⟨0,σ,H2,I2,uI,λb hb=>(f2 b hb).1,w0⟩
 rintro n s3 ⟨i,σ3,H3,I3,Ug,Uh,w3⟩
 rcases turn i n σ3 H3 w3 with ⟨stop,qn⟩ | ⟨go,N,hN,step⟩
 ·refine wpAny_passesOwn hp (cA (T.done X rfl rfl rfl hc i pins s3 σ3 H3 X.xe I3 (uJ Uh) Ug stop) λr s4 ⟨hr,I4⟩=>?_)
  subst hr
  exact wpAny_execs_nil ⟨σ3,H3,I4,qn⟩
 ·refine wpAny_passesOwn hp (cA (T.item X rfl rfl rfl hc i pins s3 σ3 H3 X.xe I3 (uJ Uh) Ug go) λr s4 ⟨u,hr,h4⟩=>?_)
  subst hr
  refine wpAny_passesOwn hp (cA h4 λ_ s5 c6=>?_)
  obtain⟨x,H5,I5,r5,y5,LY,Wh⟩:=c6
  have Wi:=I5.pinned (uJ Wh) (T.obj _ _ LY)
  refine wpAny_passesOwn hp (cA (hg _ s5 σ3 H5 x u _ Wi r5 (step x H5 y5)) λ_ s6 ⟨σ6,H6,I6,q6⟩=>?_)
  refine wpAny_passesOwn hp (cA (hb _ s6 σ6 H6 _ I6 q6) λf s7 q7=>?_)
  have again:∀{σ7:St} {H7:Hp},Inv X (pins++mP fp s5.heap) σ7 H7 s7->N σ7 H7->∃m,m<n/\∃i σ' H',Inv X pins σ' H' s7/\tn i s7.heap/\(∀b∈fp,H' b=none)/\W i m σ' H':=λ{σ7 H7} I7 n7=>by
   obtain⟨m',hm,w7⟩:=hN σ7 H7 n7
   refine⟨m',hm,i+1,σ7,H7,I7.mQ,T.keep _ _ _ LY λb hb o e=>(I7.pin (b,o) (aaI _ (aaI _ (fQ hb e)))).1,λb hb=>?_,w7⟩
   obtain⟨o,e,d⟩:=T.obj _ _ LY b hb
   exact(I7.pin (b,o) (aaI _ (aaI _ (fQ hb e)))).2.1
  cases f with
  | next=>obtain⟨σ7,H7,I7,n7⟩:=q7;exact again I7 n7
  | cont=>obtain⟨σ7,H7,I7,n7⟩:=q7;exact again I7 n7
  | brk=>obtain⟨σ7,H7,I7,q7⟩:=q7;exact⟨σ7,H7,I7.mQ,q7⟩
  | ret v=>obtain⟨x7,σ7,H7,I7,r7,q7⟩:=q7;exact⟨x7,σ7,H7,I7.mQ,r7,q7⟩
end
theorem sI {c:TT} {tb:TS} {D:Ends} {σ:St} {H:Hp} (Pv:St->Hp->Prop) (μ:St->Hp->Nat) (h0:Pv σ H)
  (hs:∀σ H,Pv σ H->c σ H λb H1=>if b=true then tb {D with nx:=λσ' H'=>Pv σ' H'/\μ σ' H'<μ σ H,ct:=λσ' H'=>Pv σ' H'/\μ σ' H'<μ σ H,bk:=D.nx} σ H1 else D.nx σ H1)
  (mono:∀σ H Q Q',(∀b H1,Q b H1->Q' b H1)->c σ H Q->c σ H Q'):qx c tb D σ H:=by
 refine⟨λm σ H=>m=μ σ H/\Pv σ H,⟨_,rfl,h0⟩,?_⟩
 rintro m σ H ⟨rfl,p⟩
 refine mono σ H _ _ (λb H1 q=>?_) (hs σ H p)
 cases b with
 | true=>exact⟨_,λσ' H' ⟨p',l⟩=>⟨_,l,rfl,p'⟩,q⟩
 | false=>exact q
end L2
namespace L2
open PySem PySem.Spec PyProof.Rows
abbrev R2:=V->V->Hp->VK->Prop
noncomputable def kr (X:Cx) (f:Value->Value->Sem Value) (r:R2):Prop:=
 ∀(pins:List (Addr×Obj)) (s:Shared) (σ:St) (H:Hp) (x y:V) (v u:Value) (Q:VK),Inv X pins σ H s->RelV x v->RelV y u->r x y H Q->
  wpAny (model X.prog X.w) X.A (f v u) (EP X pins σ Q) X.xe s
noncomputable def KL (X:Cx) (f:Value->Sem Value) (r:V->Hp->VK->Prop):Prop:=
 ∀(pins:List (Addr×Obj)) (s:Shared) (σ:St) (H:Hp) (x:V) (v:Value) (Q:VK),Inv X pins σ H s->RelV x v->r x H Q->
  wpAny (model X.prog X.w) X.A (f v) (EP X pins σ Q) X.xe s
noncomputable def c9 (X:Cx) (f:Value) (r:List V->Hp->VK->Prop):Prop:=
 ∀(pins:List (Addr×Obj)) (s:Shared) (σ:St) (H:Hp) (xs:List V) (us:List Value) (Q:VK),Inv X pins σ H s->bu xs us->r xs H Q->
  wpAny (model X.prog X.w) X.A (call f us) (EP X pins σ Q) X.xe s
noncomputable def tOp (r:R2) (ta tb:TE):TE:=λσ H Q=>ta σ H λx H1=>tb σ H1 λy H2=>r x y H2 Q
noncomputable def tUn (r:V->Hp->VK->Prop) (ta:TE):TE:=λσ H Q=>ta σ H λx H1=>r x H1 Q
noncomputable def rI (C:Int->Int->Prop) (g:Int->Int->V):R2:=λx y H Q=>∃i j,x=.int i/\y=.int j/\C i j/\Q (g i j) H
noncomputable def rI0 (g:Int->Int->V):R2:=λx y H Q=>∃i j,x=.int i/\y=.int j/\Q (g i j) H
noncomputable def rU (g:Int->V):V->Hp->VK->Prop:=λx H Q=>∃i,x=.int i/\Q (g i) H
section
variable {X : Cx} {a b c : Expr} {ta tb tc : TE} {pos : Pos}
theorem EB (ha:PE X a ta) (hb:PE X b tb) {pins:List (Addr×Obj)} {s:Shared} {σ:St} {H:Hp} {R:V->V->Hp->Prop} (I:Inv X pins σ H s)
  (h:ta σ H λx H1=>tb σ H1 λy H2=>R x y H2) {Q:Value->Shared->Prop} {f:Value->Value->Sem Value}
  (hf:∀v u s2 x y H2,Inv X pins σ H2 s2->RelV x v->RelV y u->R x y H2->wpAny (model X.prog X.w) X.A (f v u) Q X.xe s2):
  wpAny (model X.prog X.w) X.A (eval a X.env) (λv s₁=>wpAny (model X.prog X.w) X.A (eval b X.env) (λu s₂=>wpAny (model X.prog X.w) X.A (f v u) Q X.xe s₂) X.xe s₁) X.xe s:=by
 refine cA (ha pins s σ H _ I h) λv s1 c6=>?_
 obtain⟨x,H1,I1,r1,q1⟩:=c6
 refine cA (hb pins s1 σ H1 _ I1 q1) λu s2 c6=>?_
 obtain⟨y,H2,I2,r2,q2⟩:=c6
 exact hf v u s2 x y H2 I2 r1 r2 q2
theorem aD {op:Operator} {r:R2} (ho:kr X (binaryOp op) r) (ha:PE X a ta) (hb:PE X b tb):PE X (.BinOp a op b pos) (tOp r ta tb):=by
 intro pins s σ H Q I h
 exact wpAny_BinOp (EB ha hb I h λv u s2 x y H2 I2 rx ry q=>ho pins s2 σ H2 x y v u Q I2 rx ry q)
theorem yR {op:UnaryOp} {r:V->Hp->VK->Prop} (ho:KL X (unaryOp op) r) (ha:PE X a ta):PE X (.UnaryOp op a pos) (tUn r ta):=by
 intro pins s σ H Q I h
 exact UnaryOp_ (cA (ha pins s σ H _ I h) λv s1 ⟨x,H1,I1,r1,q1⟩=>ho pins s1 σ H1 x v Q I1 r1 q1)
theorem Hv {f:Value->Value->Sem Value} {C:Int->Int->Prop} {g:Int->Int->Int}
  (rule:∀(i j:Int) (t u:Tok) (s:Shared) (Q:Value->Shared->Prop) (E:Value->Shared->Prop),C i j->Q (.int (g i j) s.toks) {s with toks:=s.toks+1}->wpAny (model X.prog X.w) X.A (f (.int i t) (.int j u)) Q E s):
  kr X f (rI C λi j=>.int (g i j)):=by
 intro pins s σ H x y v u Q I rx ry h
 obtain⟨i,j,rfl,rfl,hc,q⟩:=h
 obtain⟨t,rfl⟩:=rx
 obtain⟨t',rfl⟩:=ry
 exact rule i j t t' s _ _ hc ⟨.int (g i j),H,I.tok _,⟨_,rfl⟩,q⟩
theorem Hw {f:Value->Value->Sem Value} {g:Int->Int->Int}
  (rule:∀(i j:Int) (t u:Tok) (s:Shared) (Q:Value->Shared->Prop) (E:Value->Shared->Prop),Q (.int (g i j) s.toks) {s with toks:=s.toks+1}->wpAny (model X.prog X.w) X.A (f (.int i t) (.int j u)) Q E s):
  kr X f (rI0 λi j=>.int (g i j)):=by
 intro pins s σ H x y v u Q I rx ry h
 obtain⟨i,j,rfl,rfl,q⟩:=h
 obtain⟨t,rfl⟩:=rx
 obtain⟨t',rfl⟩:=ry
 exact rule i j t t' s _ _ ⟨.int (g i j),H,I.tok _,⟨_,rfl⟩,q⟩
theorem Hx {f:Value->Value->Sem Value} {g:Int->Int->Bool}
  (rule:∀(i j:Int) (t u:Tok) (s:Shared) (Q:Value->Shared->Prop) (E:Value->Shared->Prop),Q (.bool (g i j)) s->wpAny (model X.prog X.w) X.A (f (.int i t) (.int j u)) Q E s):
  kr X f (rI0 λi j=>.bl (g i j)):=by
 intro pins s σ H x y v u Q I rx ry h
 obtain⟨i,j,rfl,rfl,q⟩:=h
 obtain⟨t,rfl⟩:=rx
 obtain⟨t',rfl⟩:=ry
 exact rule i j t t' s _ _ ⟨.bl (g i j),H,I,rfl,q⟩
noncomputable def CPow (i j:Int):Prop:=0<=j/\j<=1000000/\i.natAbs<2^64
theorem bo:kr X (binaryOp .Add) (rI0 λi j=>.int (i+j)):=Hw λ_ _ _ _ _ _ _ q=>add_int q
theorem jQ:kr X (binaryOp .Sub) (rI0 λi j=>.int (i - j)):=Hw λ_ _ _ _ _ _ _ q=>sub_int q
theorem EC:kr X (binaryOp .Mod) (rI (λ_ j=>0<j) λi j=>.int (i % j)):=Hv λi j _ _ _ _ _ hc q=>by
 have h1:(0:Int)<j:=hc
 exact mod_int' (by omega) (by rw[Int.fmod_eq_emod_of_nonneg i (by omega)];exact q)
theorem gL:kr X (binaryOp .Pow) (rI CPow λi j=>.int (i^j.toNat)):=Hv λ_ _ _ _ _ _ _ hc q=>pow_int_small hc.1 hc.2.1 hc.2.2 q
theorem Wj {f:Value->Sem Value} {g:Int->Int}
  (rule:∀(i:Int) (t:Tok) (s:Shared) (Q:Value->Shared->Prop) (E:Value->Shared->Prop),Q (.int (g i) s.toks) {s with toks:=s.toks+1}->wpAny (model X.prog X.w) X.A (f (.int i t)) Q E s):
  KL X f (rU λi=>.int (g i)):=by
 intro pins s σ H x v Q I rx h
 obtain⟨i,rfl,q⟩:=h
 obtain⟨t,rfl⟩:=rx
 exact rule i t s _ _ ⟨.int (g i),H,I.tok _,⟨_,rfl⟩,q⟩
theorem uK:KL X (unaryOp .USub) (rU λi=>.int (-i)):=Wj λ_ _ _ _ _ q=>neg_int q
end
noncomputable def uL:V->V->Bool
 | .cE,.cE=>true | .cE,.int _=>true | .int _,.cE=>true | .cE,.bl _=>true | .bl _,.cE=>true | .cE,.str _=>true | .str _,.cE=>true
 | .int _,.int _=>true | .bl _,.bl _=>true | .str _,.str _=>true | .yD _,.yD _=>true
 | .int _,.str _=>true | .str _,.int _=>true | .bl _,.str _=>true | .str _,.bl _=>true
 | _,_=>false
noncomputable def rEq:R2:=λx y H Q=>uL x y=true/\Q (.bl (decide (x=y))) H
noncomputable def rNe:R2:=λx y H Q=>uL x y=true/\Q (.bl (!decide (x=y))) H
theorem vU {i j:Int}:decide (V.int i=V.int j)=(i==j):=by
 rw[Bool.eq_iff_iff]
 simp
theorem yS {i j:Bool}:decide (V.bl i=V.bl j)=(i==j):=by
 rw[Bool.eq_iff_iff]
 simp
theorem vV {i j:Str}:decide (V.str i=V.str j)=(i==j):=by
 rw[Bool.eq_iff_iff]
 simp
theorem vW {i j:Array UInt8}:decide (V.yD i=V.yD j)=(i.toList==j.toList):=by
 rw[Bool.eq_iff_iff]
 cases i
 cases j
 simp
section
variable {X : Cx} {a b c : Expr} {ta tb tc : TE} {pos : Pos}
theorem bF {pins:List (Addr×Obj)} {σ:St} {H:Hp} {s:Shared} {Q:VK} {k k':Bool} (I:Inv X pins σ H s) (q:Q (.bl k) H) (e:k=k'):EP X pins σ Q (.bool k') s:=by
 subst e
 exact⟨.bl k,H,I,rfl,q⟩
theorem cQ:kr X (compareOp .Eq) rEq:=by
 intro pins s σ H x y v u Q I rx ry h
 obtain⟨hs,q⟩:=h
 cases x with
 | cE=>
  cases rx
  cases y with
  | cE=>cases ry;exact PySem.EqNone.eq_none_none (bF I q (by simp))
  | bl j=>cases ry;exact PySem.EqNone.eq_none_bool (bF I q (by simp))
  | int j=>obtain⟨t',rfl⟩:=ry;exact PySem.EqNone.eq_none_int (bF I q (by simp))
  | str j=>obtain⟨t',rfl⟩:=ry;exact PySem.EqNone.eq_none_str (bF I q (by simp))
  | _=>exact absurd (show false=true from hs) aaz
 | bl i=>
  cases rx
  cases y with
  | cE=>cases ry;exact PySem.EqNone.eq_bool_none (bF I q (by simp))
  | bl j=>cases ry;exact eq_bool (bF I q yS)
  | str j=>obtain⟨t',rfl⟩:=ry;exact PySem.EqMixed.eq_bool_str (bF I q (by simp))
  | _=>exact absurd (show false=true from hs) aaz
 | int i=>
  obtain⟨t,rfl⟩:=rx
  cases y with
  | cE=>cases ry;exact PySem.EqNone.eq_int_none (bF I q (by simp))
  | int j=>obtain⟨t',rfl⟩:=ry;exact eq_int (bF I q vU)
  | str j=>obtain⟨t',rfl⟩:=ry;exact PySem.EqMixed.eq_int_str (bF I q (by simp))
  | _=>exact absurd (show false=true from hs) aaz
 | str i=>
  obtain⟨t,rfl⟩:=rx
  cases y with
  | cE=>cases ry;exact PySem.EqNone.eq_str_none (bF I q (by simp))
  | bl j=>cases ry;exact PySem.EqMixed.eq_str_bool (bF I q (by simp))
  | int j=>obtain⟨t',rfl⟩:=ry;exact PySem.EqMixed.eq_str_int (bF I q (by simp))
  | str j=>obtain⟨t',rfl⟩:=ry;exact eq_str (bF I q vV)
  | _=>exact absurd (show false=true from hs) aaz
 | yD i=>
  obtain⟨t,rfl⟩:=rx
  cases y with
  | yD j=>obtain⟨t',rfl⟩:=ry;exact PySem.W.eq_bytes (bF I q vW)
  | _=>exact absurd (show false=true from hs) aaz
 | _=>cases y <;>exact absurd (show false=true from hs) aaz
theorem vX:kr X (compareOp .NotEq) rNe:=by
 intro pins s σ H x y v u Q I rx ry h
 obtain⟨hs,q⟩:=h
 cases x with
 | cE=>
  cases rx
  cases y with
  | cE=>cases ry;exact PySem.EqNone.ne_none_none (bF I q (by simp))
  | bl j=>cases ry;exact PySem.EqNone.ne_none_bool (bF I q (by simp))
  | int j=>obtain⟨t',rfl⟩:=ry;exact PySem.EqNone.ne_none_int (bF I q (by simp))
  | str j=>obtain⟨t',rfl⟩:=ry;exact PySem.EqNone.ne_none_str (bF I q (by simp))
  | _=>exact absurd (show false=true from hs) aaz
 | bl i=>
  cases rx
  cases y with
  | cE=>cases ry;exact PySem.EqNone.ne_bool_none (bF I q (by simp))
  | bl j=>cases ry;exact ne_bool (bF I q (congrArg not yS))
  | str j=>obtain⟨t',rfl⟩:=ry;exact PySem.EqMixed.ne_bool_str (bF I q (by simp))
  | _=>exact absurd (show false=true from hs) aaz
 | int i=>
  obtain⟨t,rfl⟩:=rx
  cases y with
  | cE=>cases ry;exact PySem.EqNone.ne_int_none (bF I q (by simp))
  | int j=>obtain⟨t',rfl⟩:=ry;exact ne_int (bF I q (congrArg not vU))
  | str j=>obtain⟨t',rfl⟩:=ry;exact PySem.EqMixed.ne_int_str (bF I q (by simp))
  | _=>exact absurd (show false=true from hs) aaz
 | str i=>
  obtain⟨t,rfl⟩:=rx
  cases y with
  | cE=>cases ry;exact PySem.EqNone.ne_str_none (bF I q (by simp))
  | bl j=>cases ry;exact PySem.EqMixed.ne_str_bool (bF I q (by simp))
  | int j=>obtain⟨t',rfl⟩:=ry;exact PySem.EqMixed.ne_str_int (bF I q (by simp))
  | str j=>obtain⟨t',rfl⟩:=ry;exact ne_str (bF I q (congrArg not vV))
  | _=>exact absurd (show false=true from hs) aaz
 | yD i=>
  obtain⟨t,rfl⟩:=rx
  cases y with
  | yD j=>obtain⟨t',rfl⟩:=ry;exact PySem.W.ne_bytes (bF I q (congrArg not vW))
  | _=>exact absurd (show false=true from hs) aaz
 | _=>cases y <;>exact absurd (show false=true from hs) aaz
theorem mR:kr X (compareOp .Lt) (rI0 λi j=>.bl (decide (i<j))):=Hx λ_ _ _ _ _ _ _ q=>lt_int q
theorem kA:kr X (compareOp .Gt) (rI0 λi j=>.bl (decide (j<i))):=Hx λ_ _ _ _ _ _ _ q=>gt_int q
theorem uM:kr X (compareOp .Is) (λx y H Q=>y=.cE/\Q (.bl (decide (x=.cE))) H):=by
 intro pins s σ H x y v u Q I rx ry h
 obtain⟨rfl,q⟩:=h
 cases ry
 refine is_none_gen (bF I q ?_)
 cases x <;>first
  | (cases rx;rfl)
  | (obtain⟨t,rfl⟩:=rx;rfl)
theorem BX:kr X (compareOp .IsNot) (λx y H Q=>y=.cE/\Q (.bl (!decide (x=.cE))) H):=by
 intro pins s σ H x y v u Q I rx ry h
 obtain⟨rfl,q⟩:=h
 cases ry
 refine isnot_none_gen (bF I q ?_)
 cases x <;>first
  | (cases rx;rfl)
  | (obtain⟨t,rfl⟩:=rx;rfl)
theorem aX (b:Expr) {op:CmpOp} (h:op≠.In:=by decide) (h2:op≠.NotIn:=by decide):behindInMarks op b=false:=by
 have e1:(op==CmpOp.In)=false:=by cases op <;>first | rfl | exact absurd rfl h
 have e2:(op==CmpOp.NotIn)=false:=by cases op <;>first | rfl | exact absurd rfl h2
 cases b <;>simp [behindInMarks,e1,e2]
theorem qy {op:CmpOp} {r:R2} (ho:kr X (compareOp op) r) (ha:PE X a ta) (hb:PE X b tb) (hm:behindInMarks op b=false):PE X (.Compare a [op] [b] pos) (tOp r ta tb):=by
 intro pins s σ H Q I h
 exact wpAny_Compare1 (EB ha hb I h λv u s2 x y H2 I2 rx ry q=>ho pins s2 σ H2 x y v u Q I2 rx ry q) hm
noncomputable def tTest (t:TE):TT:=λσ H Q=>t σ H λx H'=>∃k,x=.bl k/\Q k H'
theorem aR {op:CmpOp} {r:R2} (ho:kr X (compareOp op) r) (ha:PE X a ta) (hb:PE X b tb) (hm:behindInMarks op b=false):PT X (.Compare a [op] [b] pos) (tTest (tOp r ta tb)):=by
 intro pins s σ H Q I h
 refine wpAny_isTrue_Compare1 (cA (ha pins s σ H _ I h) λv s1 ⟨x,H1,I1,r1,q1⟩=>cA (hb pins s1 σ H1 _ I1 q1) λu s2 ⟨y,H2,I2,r2,q2⟩=>
  cA (ho pins s2 σ H2 x y v u _ I2 r1 r2 q2) λc s3 ⟨z,H3,I3,r3,k,e,q3⟩=>?_) hm
 subst e
 cases r3
 exact wpAny_truthy_bool ⟨H3,I3,q3⟩
noncomputable def tChain (r r':R2) (ta tb tc:TE):TE:=λσ H Q=>ta σ H λx H1=>tb σ H1 λy H2=>r x y H2 λz H3=>∃k,z=.bl k/\
 (if k=true then tc σ H3 λw' H4=>r' y w' H4 Q else Q (.bl false) H3)
theorem mS:(sizeLine:Nat)<2^63:=by rw[sizeLine_eq];decide
theorem vals1 {x:V} {us:List Value} (r:bu [x] us):∃u,us=[u]/\RelV x u:=by
 cases r with
 | cons r1 r2=>cases r2;exact⟨_,rfl,r1⟩
theorem vals2 {x y:V} {us:List Value} (r:bu [x,y] us):∃u w',us=[u,w']/\RelV x u/\RelV y w':=by
 cases r with
 | cons r1 r2=>
  cases r2 with
  | cons r3 r4=>cases r4;exact⟨_,_,rfl,r1,r3⟩
theorem mT:c9 X (.builtin "abs") (λxs H Q=>∃i,xs=[.int i]/\Q (.int (if i<0 then -i else i)) H):=by
 intro pins s σ H xs us Q I r h
 obtain⟨i,rfl,q⟩:=h
 obtain⟨u,rfl,t,rfl⟩:=vals1 r
 exact call_abs_int λu tk=>⟨.int (if i<0 then -i else i),H,I.tok _,⟨_,rfl⟩,q⟩
end
end L2
namespace L2
open PySem PySem.Spec PyProof.Rows
structure uN (h:Heap) (x dx C:Addr) (mA:Str->Option Value):Prop where
 obj:h.get? x=some (PySem.W.instObj C dx)
 ns:h.Ns1 dx mA
 ne:dx≠x
set_option tactic.hygienic true in
theorem xP {h:Heap} {dx:Addr} {mA:Str->Option Value} (n:h.Ns1 dx mA):∃od,h.get? dx=some od/\∀name,PySem.W.lookIn name od=some (mA name):=by
 obtain⟨o,es,ep,ho,hd,hk,_,hm⟩:=n
 refine⟨o,ho,λname=>?_⟩
 have e:=hm name
 unfold nsFind findBy at e
 rw[<-Array.find?_toList] at e
 unfold PySem.W.lookIn
 rw[hd]
 dsimp only
 split
 ·rename_i y q
  rw[q] at e
  exact congrArg some e
 ·rename_i q
  rw[q] at e
  have a:es.toList.any (·.refKey)=false:=by
   rw[List.any_eq_false]
   intro y hy
   obtain⟨z,t,LZ⟩:=hk y (Array.mem_toList_iff.mp hy)
   simp [DictEntry.refKey,LZ]
  have a':¬es.toList.any (·.refKey)=true:=by rw[a];exact aaz
  rw[if_neg a']
  exact congrArg some e
theorem uN.look {h:Heap} {x dx C:Addr} {mA:Str->Option Value} (I:uN h x dx C mA):∃od,PySem.W.InstAt h x (PySem.W.instObj C dx) C (some od)/\∀name,PySem.W.lookIn name od=some (mA name):=
 let ⟨od,ho,hl⟩:=xP I.ns
 ⟨od,⟨I.obj,rfl,rfl,ho⟩,hl⟩
section
variable {prog : Program} {w : World} {A : Around} {E : Value -> Shared -> Prop} {s : Shared} {K : PySem.W.Frag} {x dx C f : Addr} {mA : Str -> Option Value} {name : Str} {v : Value}
theorem get_map {expr:Bool} {Q:Value->Shared->Prop} (X:K.In s.heap) (I:uN s.heap x dx C mA) (hg:PySem.W.plainGet K C name=true) (hh:PySem.W.hasDictIn K C=true)
  (ha:PySem.W.findIn K (.ref C) name=some none) (hv:mA name=some v) (ED:PySem.W.handedIn v=true) (h:Q v {s with toks:=s.toks+1}):
  wpAny (model prog w) A (getAttr (.ref x) name expr) Q E s:=by
 obtain⟨od,J,hl⟩:=I.look
 exact PySem.W.get_value X J (PySem.W.plainGet_of hg).1 (PySem.W.findObj_own hh ha rfl (by rw[hl,hv])) ED h
theorem yT {pl:Sem Bool} {Q:Value×List Value->Shared->Prop} (X:K.In s.heap) (I:uN s.heap x dx C mA) (hg:PySem.W.plainGet K C name=true)
  (hf:PySem.W.findIn K (.ref C) name=some (some (.ref f))) (ht:PySem.W.isFn K (.ref f)=true) (hv:mA name=none) (h:Q (.ref f,[.ref x]) s):
  wpAny (model prog w) A (getMethod (.ref x) name pl) Q E s:=by
 obtain⟨od,J,hl⟩:=I.look
 exact PySem.W.method_fn X J (PySem.W.plainGet_of hg).1 (PySem.W.plainGet_of hg).2 hf (beq_iff_eq.mp ht) (by show(PySem.W.lookIn name od).map (·.isSome)=some false;rw[hl,hv];rfl) h
theorem BY {ns:List Str} {Q:Unit->Shared->Prop} (X:K.In s.heap) (I:uN s.heap x dx C mA)
  (hs:PySem.W.findIn K (.ref C) "__setattr__"=some (some (.builtin "object.__setattr__"))) (hp:PySem.W.plainOver K C=true) (ht:PySem.W.takerIn K C name=some none) (hh:PySem.W.hasDictIn K C=true)
  (hw:PySem.Within mA ns) (hsz:ns.length<=sizeLine)
  (h:∀h',uN h' x dx C (λy=>if y=name then some v else mA y)->Heap.SameBut dx s.heap h'->Q () {s with heap:=h',toks:=s.toks+2}):
  wpAny (model prog w) A (setAttr (.ref x) name v) Q E s:=by
 obtain⟨od,J,hl⟩:=I.look
 refine PySem.W.set_plain X J hs (PySem.W.osa_open (s:={s with toks:=s.toks+1}) (r:=none) X J hp ht λb=>?_)
 obtain⟨cd,hc,Hq⟩:=PySem.W.any_some hh
 have hx:s.heap.get? x=some ⟨.ref C,some dx,.plain,#[]⟩:=I.obj
 refine wpAny_bind (wpAny_pure (wpAny_bind (wpAny_bind (wpAny_loadPart hx (wpAny_bind (PySem.W.Looks.here (s:={s with toks:=s.toks+1}) (PySem.W.looks_clsIn X hc) ?_))))))
 rw[Hq]
 refine wpAny_pure (a:=some dx) (wpAny_bind (wpAny_pure (wpAny_bind ?_)))
 refine wpAny_nsSet1 (s:={s with toks:=s.toks+1}) I.ns λh' KN DF=>?_
 obtain⟨oD,esD,epD,Wk,Wl,Wm⟩:=KN.count (PySem.Within.cons name v hw)
 refine wpAny_bind (wpAny_lookBehind Wk (by rw[Wl];exact pastItsLine_dict (aap Wm (by rw[aar];omega))) ?_)
 exact wpAny_pure (h _ ⟨(DF.2 _ (Ne.symm I.ne)).trans I.obj,KN,I.ne⟩ DF)
theorem yU {R:Result->Shared->Prop} {vs:List Value} {kw:List (Str×Value)} (X:K.In s.heap) (hm:PySem.W.makesIn K C=true)
  (hi:PySem.W.findIn K (.ref C) "__init__"=some (some (.ref f))) (hf:PySem.W.typeIn K (.ref f)=some (.type "function"))
  (h:codeAny (model prog w) (A.under (.builtin "type.__call__" ⟨.ref C::vs,kw⟩)) (.call (.ref f) ⟨.ref (s.heap.objs.size+1)::vs,kw⟩) (PySem.W.InitBack (s.heap.objs.size+1) R)
   {s with heap:=(s.heap.push PySem.W.emptyDict).push (PySem.W.instObj C s.heap.objs.size)}):
  codeAny (model prog w) A (.call (.ref C) ⟨vs,kw⟩) R s:=by
 obtain⟨hh,g,d,t,os⟩:=s
 exact PySem.W.make_core (PySem.W.makes_of X hm) (PySem.W.looks_findIn X hi) (λself=>PySem.W.bind_fn X self hf) (.inl rfl) h
end
noncomputable def iA (f:Str) (v:V):List (Str×V)->List (Str×V)
 | []=>[(f,v)]
 | (g,x)::r=>if g=f then (g,v)::r else (g,x)::iA f v r
theorem kB (f g:Str) (v:V):∀fs:List (Str×V),(iA f v fs).lookup g=if g=f then some v else fs.lookup g
 | []=>by
  show List.lookup g [(f,v)]=_
  by_cases h:g=f
  ·have hb:(g==f)=true:=beq_iff_eq.mpr h
   simp only[List.lookup,hb,if_pos h]
  ·have hb:(g==f)=false:=beq_eq_false_iff_ne.mpr h
   simp only[List.lookup,hb,if_neg h]
 | (k,x)::r=>by
  have ih:=kB f g v r
  rw[show iA f v ((k,x)::r)=(if k=f then (k,v)::r else (k,x)::iA f v r) from rfl]
  by_cases hk:k=f
  ·rw[if_pos hk]
   by_cases h:g=k
   ·have hb:(g==k)=true:=beq_iff_eq.mpr h
    simp only[List.lookup,hb,if_pos (h.trans hk)]
   ·have hb:(g==k)=false:=beq_eq_false_iff_ne.mpr h
    simp only[List.lookup,hb,if_neg (λe:g=f=>h (e.trans hk.symm))]
  ·rw[if_neg hk]
   by_cases h:g=k
   ·have hb:(g==k)=true:=beq_iff_eq.mpr h
    simp only[List.lookup,hb,if_neg (λe:g=f=>hk (h.symm.trans e))]
   ·have hb:(g==k)=false:=beq_eq_false_iff_ne.mpr h
    simp only[List.lookup,hb]
    exact ih
theorem jR (f:Str) (v:V):∀fs:List (Str×V),f∈(iA f v fs).map (·.1)/\∀g,g∈fs.map (·.1)->g∈(iA f v fs).map (·.1)
 | []=>⟨by simp [iA],λg h=>by simp at h⟩
 | (k,x)::r=>by
  obtain⟨i1,i2⟩:=jR f v r
  rw[show iA f v ((k,x)::r)=(if k=f then (k,v)::r else (k,x)::iA f v r) from rfl]
  by_cases hk:k=f
  ·rw[if_pos hk]
   subst hk
   exact⟨by simp,λg h=>by simpa using h⟩
  ·rw[if_neg hk]
   refine⟨?_,λg h=>?_⟩
   ·rw[aat]
    exact aak _ i1
   ·rw[aat] at h ⊢
    rcases List.mem_cons.mp h with e | e
    ·exact List.mem_cons.mpr (.inl e)
    ·exact aak _ (i2 g e)
theorem kC (f:Str) (v:V):∀fs:List (Str×V),(iA f v fs).length<=fs.length+1
 | []=>by simp [iA]
 | (k,x)::r=>by
  have ih:=kC f v r
  rw[show iA f v ((k,x)::r)=(if k=f then (k,v)::r else (k,x)::iA f v r) from rfl]
  by_cases hk:k=f
  ·rw[if_pos hk,aar,aar];omega
  ·rw[if_neg hk,aar,aar];omega
theorem iy.some_of {v:V} {o:Option Value} (r:iy (some v) o):∃u,o=some u/\RelV v u:=by
 cases o with
 | none=>exact(show False from r).elim
 | some u=>exact⟨u,rfl,r⟩
theorem iy.none_of {o:Option Value} (r:iy none o):o=none:=by
 cases o with
 | none=>rfl
 | some u=>exact(show False from r).elim
theorem xQ {v:V} {u:Value} (r:RelV v u):PySem.W.handedIn u=true:=by
 cases v with
 | cE=>cases (show u=Value.none from r);rfl
 | bl b=>cases (show u=Value.bool b from r);rfl
 | int i=>obtain⟨t,e⟩:=(show ∃t,u=Value.int i t from r);cases e;rfl
 | str x=>obtain⟨t,e⟩:=(show ∃t,u=Value.str x t from r);cases e;rfl
 | yD b=>obtain⟨t,e⟩:=(show ∃t,u=Value.bytes b t from r);cases e;rfl
 | GO b=>obtain⟨t,e⟩:=(show ∃t,u=Value.float b t from r);cases e;rfl
 | ref a=>cases (show u=Value.ref a from r);rfl
 | ty n=>cases (show u=Value.type n from r);rfl
section
variable {P : Program} {w : World} {H H' : Hp} {h h' : Heap} {a C dx : Addr} {fs Wb : List (Str × V)}
theorem qz (bT:gz P w H h) (e:H a=some (.ins C dx fs)):∃mA,uN h a dx C mA/\(∀f,iy (fs.lookup f) (mA f))/\PySem.Within mA (fs.map (·.1))/\fs.length<=1000/\H dx=some (.own a):=by
 obtain⟨d,z,ne,ob,mA,n,r,q⟩:=(show cK P w H h a (.ins C dx fs) from bT a _ e)
 exact⟨mA,⟨ob,n,ne⟩,r,q,z,d⟩
end
structure xR (K:PySem.W.Frag) (C:Addr):Prop where
 pg:PySem.W.plainGet K C Str.empty=true
 hd:PySem.W.hasDictIn K C=true
 po:PySem.W.plainOver K C=true
 sa:PySem.W.findIn K (.ref C) "__setattr__"=some (some (.builtin "object.__setattr__"))
theorem xR.get {K:PySem.W.Frag} {C:Addr} (c:xR K C) (f:Str):PySem.W.plainGet K C f=true:=c.pg
noncomputable def jS (K:PySem.W.Frag) (C:Addr) (f:Str):Prop:=PySem.W.findIn K (.ref C) f=some none
theorem jS.Hy {K:PySem.W.Frag} {C:Addr} {f:Str} (n:jS K C f):PySem.W.takerIn K C f=some none:=by
 unfold PySem.W.takerIn
 rw[show PySem.W.findIn K (.ref C) f=some none from n]
 rfl
structure Con (K:PySem.W.Frag) (C:Addr) (f:Str) (v:V) (u:Value):Prop where
 at_:PySem.W.findIn K (.ref C) f=some (some u)
 rel:RelV v u
 get:PySem.W.specialIn K u "__get__"=some none
 cp:PySem.W.copiedNames.contains f=false
structure yV (K:PySem.W.Frag) (C:Addr) (m:Str) (f:Addr):Prop where
 at_:PySem.W.findIn K (.ref C) m=some (some (.ref f))
 fn:PySem.W.isFn K (.ref f)=true
 kp:PySem.W.keepIn K (.ref f)=true
section
variable {X : Cx} {pins : List (Addr × Obj)} {σ : St} {H : Hp} {s : Shared} {a C dx : Addr} {fs : List (Str × V)} {f : Str} {v : V} {A : Around} {E : Value -> Shared -> Prop}
theorem uO {b:Bool} {Q:Value->Shared->Prop} (I:Inv X pins σ H s) (e:H a=some (.ins C dx fs)) (c:xR X.K C) (n:jS X.K C f) (l:fs.lookup f=some v)
  (h:∀u s',Inv X pins σ H s'->RelV v u->Q u s'):wpAny (model X.prog X.w) A (getAttr (.ref a) f b) Q E s:=by
 obtain⟨mA,O,r,_,_,_⟩:=qz I.bT e
 obtain⟨u,hu,ru⟩:=iy.some_of (v:=v) (o:=mA f) (by rw[<-l];exact r f)
 exact get_map I.vQ O (c.get f) c.hd n hu (xQ ru) (h u _ (I.tok _) ru)
theorem mU {m:Str} {g:Addr} {pl:Sem Bool} {Q:Value×List Value->Shared->Prop} (I:Inv X pins σ H s) (e:H a=some (.ins C dx fs)) (c:xR X.K C) (k:yV X.K C m g) (l:fs.lookup m=none)
  (h:Q (.ref g,[.ref a]) s):wpAny (model X.prog X.w) A (getMethod (.ref a) m pl) Q E s:=by
 obtain⟨mA,O,r,_,_,_⟩:=qz I.bT e
 have hn:mA m=none:=iy.none_of (by rw[<-l];exact r m)
 exact yT I.vQ O (c.get m) k.at_ k.fn hn h
theorem uP {y:V} {u:Value} {Q:Unit->Shared->Prop} (I:Inv X pins σ H s) (e:H a=some (.ins C dx fs)) (c:xR X.K C) (n:jS X.K C f) (hl:fs.length<1000) (ry:RelV y u)
  (h:∀s',Inv X pins σ (upd H a (.ins C dx (iA f y fs))) s'->Q () s'):wpAny (model X.prog X.w) A (setAttr (.ref a) f u) Q E s:=by
 obtain⟨mA,O,r,wi,_,ho⟩:=qz I.bT e
 have hz:(fs.map (·.1)).length<=sizeLine:=by rw[aac,sizeLine_eq];omega
 refine BY I.vQ O c.sa c.po n.Hy c.hd wi hz λh' O' sb=>h _ ?_
 have hd:∃o,h'.get? dx=some o:=let ⟨o,_,_,e',_⟩:=O'.ns;⟨o,e'⟩
 refine I.write (x:=a) (e:=dx) (by rw[e];exact True.intro) (.inr ho) (λb q hb z=>(sb.2 b hb).trans z) hd ?_
 refine⟨by rw[aI O.ne];exact ho,?_,O.ne,O'.obj,_,O'.ns,λg=>?_,λg hg=>?_⟩
 ·have:=kC f y fs;omega
 ·show iy ((iA f y fs).lookup g) (if g=f then some u else mA g)
  rw[kB]
  by_cases q:g=f
  ·rw[if_pos q,if_pos q];exact ry
  ·rw[if_neg q,if_neg q];exact r g
 ·by_cases q:g=f
  ·rw[q];exact(jR f y fs).1
  ·refine(jR f y fs).2 g (wi g λz=>hg ?_)
   show(if g=f then some u else mA g)=none
   rw[if_neg q];exact z
theorem Inv.made (I:Inv X pins σ H s):Inv X pins σ (upd (upd H s.heap.objs.size (.own (s.heap.objs.size+1))) (s.heap.objs.size+1) (.ins C s.heap.objs.size []))
  {s with heap:=(s.heap.push PySem.W.emptyDict).push (PySem.W.instObj C s.heap.objs.size)}:=by
 have e1:(s.heap.push PySem.W.emptyDict).get? s.heap.objs.size=some PySem.W.emptyDict:=Heap.get?_push_size s.heap rfl
 have e2:((s.heap.push PySem.W.emptyDict).push (PySem.W.instObj C s.heap.objs.size)).get? (s.heap.objs.size+1)=some (PySem.W.instObj C s.heap.objs.size):=by
  have:=Heap.get?_push_size (s.heap.push PySem.W.emptyDict) (o:=PySem.W.instObj C s.heap.objs.size) rfl
  rwa [Heap.size_push] at this
 have e3:(s.heap.push PySem.W.emptyDict).Ns s.heap.objs.size (λ_=>none):=⟨PySem.W.emptyDict,#[],_,e1,rfl,(λe he=>absurd he (by simp)),λ_=>rfl⟩
 have I1:=I.laid (a:=s.heap.objs.size) (o:=.own (s.heap.objs.size+1)) (h':=s.heap.push PySem.W.emptyDict) (t':=s.toks) (λb u q=>Heap.get?_push_of_some _ q) (aah _) ⟨_,e1⟩
 refine I1.laid (a:=s.heap.objs.size+1) (o:=.ins C s.heap.objs.size []) (t':=s.toks) (λb u q=>Heap.get?_push_of_some _ q) (Nat.le_of_eq (Heap.size_push _ _)) ?_
 have ne:s.heap.objs.size≠s.heap.objs.size+1:=aan (aaK _)
 refine⟨by rw[aI ne,ar],aas _,ne,e2,λ_=>none,(Heap.Ns1.of_empty e3).at λo q=>Heap.get?_push_of_some _ q,λ_=>True.intro,λy hy=>absurd rfl hy⟩
theorem BZ {prog:Program} {w:World} {env:Env} {e:Expr} {f:Str} {pos:Pos} {s:Shared} {Q:Value->Shared->Prop} (hb:attributeBase e f env (eval e env)=eval e env)
  (h:wpAny (model prog w) A (eval e env) (λo s₁=>wpAny (model prog w) A (getAttr o f true) Q E s₁) E s):wpAny (model prog w) A (eval (.Attribute e f pos) env) Q E s:=
 Attribute_any_ h (by rw[arm_eval_Attribute,hb])
end
noncomputable def kU (K:PySem.W.Frag) (ta:TE) (f:Str):TE:=λσ H Q=>ta σ H λx H1=>∃a C dx fs v,x=.ref a/\H1 a=some (.ins C dx fs)/\xR K C/\jS K C f/\fs.lookup f=some v/\Q v H1
noncomputable def Hz (K:PySem.W.Frag) (ta tv:TE) (f:Str):TS:=λD σ H=>tv σ H λy H1=>ta σ H1 λx H2=>∃a C dx fs,x=.ref a/\H2 a=some (.ins C dx fs)/\xR K C/\jS K C f/\fs.length<1000/\
 D.nx σ (upd H2 a (.ins C dx (iA f y fs)))
section
variable {X : Cx} {o e value : Expr} {f : Str} {pos pos' kT : Pos} {ta tv : TE}
theorem dW (he:PE X e ta) (hb:attributeBase e f X.env (eval e X.env)=eval e X.env):PE X (.Attribute e f pos) (kU X.K ta f):=by
 intro pins s σ H Q I h
 refine BZ hb (cA (he pins s σ H _ I h) λu s1 c6=>?_)
 obtain⟨x,H1,I1,rx,a,C,dx,fs,v,ex,ea,c,n,l,q⟩:=c6
 subst ex
 obtain rfl:u=Value.ref a:=rx
 exact uO I1 ea c n l λu' s2 I2 ru=>⟨v,H1,I2,ru,q⟩
theorem yW (ha:PE X o ta) (hv:PE X value tv) (hs:swapsWith value (some (.Attribute o f pos')) pos.line X.env=pure false):PS X (.Assign [.Attribute o f pos'] value pos) (Hz X.K ta tv f):=by
 intro pins s σ H D I h
 refine plainObj_wpAny_Assign_Attribute (cA (hv pins s σ H _ I h) λu s1 ⟨y,H1,I1,ry,q⟩=>cA (ha pins s1 σ H1 _ I1 q) λov s2 c6=>?_) hs
 obtain⟨x,H2,I2,rx,a,C,dx,fs,ex,ea,c,n,l,q2⟩:=c6
 subst ex
 obtain rfl:ov=Value.ref a:=rx
 exact uP I2 ea c n l ry λs3 I3=>⟨σ,_,I3,q2⟩
end
section
variable {X : Cx} {pins : List (Addr × Obj)} {σ : St} {H : Hp} {s : Shared} {A : Around} {E : Value -> Shared -> Prop} {Q : Value -> Shared -> Prop} {c : Value} {b : Bool}
inductive mV (K:PySem.W.Frag) (H:Hp):V->Value->Prop where
 | cE:mV K H .cE (.type "NoneType")
 | bl (x:Bool):mV K H (.bl x) (.type "bool")
 | int (i:Int):mV K H (.int i) (.type "int")
 | str (x:Str):mV K H (.str x) (.type "str")
 | GO (x:UInt64):mV K H (.GO x) (.type "float")
 | lst {a:Addr} {xs:List V} (e:H a=some (.lst xs)):mV K H (.ref a) (.type "list")
 | uy {a:Addr} {o:Obj} {xs:List V} (e:H a=some (.uy o (.lst xs))):mV K H (.ref a) (.type "list")
 | tup {a:Addr} {xs:List V} (e:H a=some (.tup xs)):mV K H (.ref a) (.type "tuple")
 | dK {a:Addr} {kvs:List (Key×V)} (e:H a=some (.dK kvs)):mV K H (.ref a) (.type "dict")
 | dT {a:Addr} {kvs:List (List Key×V)} (e:H a=some (.dT kvs)):mV K H (.ref a) (.type "dict")
 | ins {a C dx:Addr} {fs:List (Str×V)} (e:H a=some (.ins C dx fs)) (cl:xR K C) (ha:PySem.W.findIn K (.ref C) "__class__"=some (some (.builtin "object.__class__")))
   (hn:PySem.W.specialIn K (.builtin "object.__class__") "__get__"=some (some (.builtin "getset_descriptor.__get__"))) (htk:PySem.W.takesIn K (.builtin "object.__class__")=some true)
   (hm:PySem.W.mroIn K C (.type "object")=some true):mV K H (.ref a) (.ref C)
end
end L2
namespace L2
open PySem PySem.Spec PyProof.Rows
structure di (k:Nat) (A:Around):Prop where
 hd:A.handled=none
 dp:A.depth+3*k+5<recursionLimit
 un:A.units+16*k+200<cLine
theorem di.mono {j k:Nat} {A:Around} (r:di k A) (h:j<=k):di j A:=⟨r.hd,by have:=r.dp;omega,by have:=r.un;omega⟩
theorem di.deeper {k:Nat} {A:Around} (r:di (k+1) A) (env:Env):di k (A.deeper env):=
 ⟨r.hd,by have:=r.dp;show A.depth+1+3*k+5<_;omega,by have:=r.un;show A.units+3+16*k+200<_;omega⟩
theorem uQ {A:Around} {C:Addr} {us:List Value} {kw:List (Str×Value)}:(A.under (.builtin "type.__call__" ⟨.ref C::us,kw⟩)).depth=A.depth+1:=by
 first | rfl | simp [Around.under,Code.weight,Code.isCreation,Code.isGuard,Code.isCaller,Code.frames,Code.isFrame,guardIds]
theorem uR {A:Around} {C:Addr} {us:List Value} {kw:List (Str×Value)}:(A.under (.builtin "type.__call__" ⟨.ref C::us,kw⟩)).units=A.units+1:=by
 first | rfl | simp [Around.under,Code.cUnits,Code.frames,Code.isFrame]
theorem di.make {k:Nat} {A:Around} (r:di (k+1) A) (C:Addr) (us:List Value) (kw:List (Str×Value)):di k (A.under (.builtin "type.__call__" ⟨.ref C::us,kw⟩)):=
 ⟨r.hd,by have:=r.dp;rw[uQ];omega,by have:=r.un;rw[uR];omega⟩
theorem di.depth {k:Nat} {A:Around} (r:di k A):A.depth<recursionLimit:=by have:=r.dp;omega
theorem di.units {k:Nat} {A:Around} (r:di k A):A.units+64<cLine:=by have:=r.un;omega
noncomputable def tNil:TA:=λ_ H Q=>Q [] H
noncomputable def tCons (ta:TE) (tr:TA):TA:=λσ H Q=>ta σ H λx H1=>tr σ H1 λxs H2=>Q (x::xs) H2
section
variable {X : Cx} {e : Expr} {es : List Expr} {te : TE} {t : TA} {pos : Pos}
theorem ao:PA X [] tNil:=λ_ _ _ _ H Q I h=>Calls.spliced_nil ⟨[],H,I,.nil,h⟩
theorem aa (ha:PE X e te) (hr:PA X es t) (hs:starEach (e::es) X.env=(false,eval e X.env)::starEach es X.env:=by rfl):PA X (e::es) (tCons te t):=by
 intro pos pins s σ H Q I h
 rw[hs]
 show wpAny _ _ (spliced ((false,eval e X.env)::backTo pos (starEach es X.env))) _ _ s
 refine Calls.spliced_cons (cA (ha pins s σ H _ I h) λu s1 c6=>?_)
 obtain⟨x,H1,I1,r1,q1⟩:=c6
 exact cA (hr pos pins s1 σ H1 _ I1 q1) λus s2 ⟨xs,H2,I2,r2,q2⟩=>⟨x::xs,H2,I2,.cons r1 r2,q2⟩
noncomputable def tLst (t:TA):TE:=λσ H Q=>t σ H λxs H1=>xs.length<=sizeLine/\∀p,H1 p=none->Q (.ref p) (upd H1 p (.lst xs))
theorem cY (h:PA X es t):PE X (.List es pos) (tLst t):=by
 intro pins s σ H Q I hq
 refine wpAny_List_spliced (cA (h pos pins s σ H _ I hq) λus s1 ⟨xs,H1,I1,r,z,q⟩=>⟨by rw[<-r.length];exact z,?_⟩)
 have hf:H1 s1.heap.objs.size=none:=I1.bT.fresh (aah _)
 refine⟨.ref s1.heap.objs.size,upd H1 s1.heap.objs.size (.lst xs),I1.laid (t':=s1.toks) (λb u e=>Heap.get?_push_of_some _ e) (aah _) ?_,rfl,q _ hf⟩
 exact⟨z,us,0,r,Heap.get?_push_size _ rfl⟩
end
abbrev Sp:=List V->Hp->VK->XK->Prop
abbrev jT:=List Env->Hp->Shared->XK->Value->Shared->Prop
structure uS (P:Program) (w:World) (K:PySem.W.Frag) (mg:Str->Option Value) (base:Heap) (A:Around) (outer:List Env) (s:Shared) (H:Hp):Prop where
 frames:A.frames=some outer
 mod:Mod K mg base
 bs:∀b o,base.get? b=some o->s.heap.get? b=some o/\H b=none
 yL:base.objs.size<=s.heap.objs.size
 jO:s.heap.FunFrames base outer
 Dv:∀b∈sx outer,H b=none
 bT:gz P w H s.heap
 bare:AllBare s.gens
noncomputable def CE (outer:List Env) (P:Program) (w:World) (H:Hp) (s:Shared) (Q:VK) (u:Value) (s':Shared):Prop:=
 ∃v H',s'.os=s.os/\AllBare s'.gens/\Un (sx outer) [] H H' s.heap s'.heap/\gz P w H' s'.heap/\RelV v u/\Q v H'
noncomputable def CR (CX:jT) (outer:List Env) (P:Program) (w:World) (H:Hp) (s:Shared) (Q:VK) (E:XK) (r:Result) (s':Shared):Prop:=
 match r with
 | .ok (.ret u)=>CE outer P w H s Q u s'
 | .ok _=>False
 | .error e=>CX outer H s E e s'
structure d8 (P:Program) (w:World) (K:PySem.W.Frag) (mg:Str->Option Value) (base:Heap) (CX:jT) (k:Nat) (f:Addr) (fd:FuncData) (ps:List Str) (sp:Sp):Prop where
 len:∀vs H Q E,sp vs H Q E->vs.length=ps.length
 run:∀(A:Around) (outer:List Env) (s:Shared) (H:Hp) (args:Args) (us:List Value) (vs:List V) (Q:VK) (E:XK),di k A->uS P w K mg base A outer s H->BindsTo s fd args (ps.zip us)->bu vs us->sp vs H Q E->
  codeAny (model P w) A (.call (.ref f) args) (CR CX outer P w H s Q E) s
theorem d8.mono {P:Program} {w:World} {K:PySem.W.Frag} {mg:Str->Option Value} {base:Heap} {CX:jT} {j k:Nat} {f:Addr} {fd:FuncData} {ps:List Str} {sp:Sp} (F:d8 P w K mg base CX j f fd ps sp) (h:j<=k):
  d8 P w K mg base CX k f fd ps sp:=⟨F.len,λA outer s H args us vs Q E hr=>F.run A outer s H args us vs Q E (hr.mono h)⟩
theorem uS.make {P:Program} {w:World} {K:PySem.W.Frag} {mg:Str->Option Value} {base:Heap} {A:Around} {outer:List Env} {s:Shared} {H:Hp} (e:uS P w K mg base A outer s H) (C:Addr) (us:List Value) (kw:List (Str×Value)):
  uS P w K mg base (A.under (.builtin "type.__call__" ⟨.ref C::us,kw⟩)) outer s H:=⟨by first | exact e.frames | (simpa [Around.under,Code.envs,Code.isFrame,pushEnvs] using e.frames),e.mod,e.bs,e.yL,e.jO,e.Dv,e.bT,e.bare⟩
section
variable {X : Cx} {pins : List (Addr × Obj)} {σ : St} {H : Hp} {s s' : Shared}
theorem Inv.HD (I:Inv X pins σ H s):uS X.prog X.w X.K X.mg X.base X.A X.stack s H:=
 ⟨I.ok.frames,I.ok.mod,I.bs,aap I.ok.yL I.sz,I.stack,I.vR,I.bT,I.bare⟩
theorem Inv.after {Q:VK} {u:Value} (I:Inv X pins σ H s) (h:CE X.stack X.prog X.w H s Q u s'):EP X pins σ Q u s':=by
 obtain⟨v,H',os,bare,un,bT,r,q⟩:=h
 obtain⟨hh,g,d,t,Wn⟩:=s'
 obtain rfl:Wn=s.os:=os
 exact⟨v,H',I.call (h':=hh) (g':=g) (d':=d) (t':=t) (ch:=[]) un bT bare (λb z=>absurd z (by simp)),r,q⟩
end
noncomputable def tCall (sp:Sp) (oU:List V) (E:XK) (t:TA):TE:=λσ H Q=>t σ H λvs H1=>sp (vs++oU) H1 Q E
noncomputable def pF (C:Addr) (m:Str) (sp:Sp) (oU:List V) (E:XK) (ta:TE) (t:TA):TE:=λσ H Q=>ta σ H λx H1=>∃a dx fs,x=.ref a/\H1 a=some (.ins C dx fs)/\fs.lookup m=none/\
 t σ H1 λvs H2=>sp (x::(vs++oU)) H2 Q E
noncomputable def sJ (C:Addr) (sp:Sp) (oU:List V) (E:XK) (t:TA):TE:=λσ H Q=>t σ H λvs H1=>∀x dx,H1 x=none->H1 dx=none->dx≠x->
 sp (.ref x::(vs++oU)) (upd (upd H1 dx (.own x)) x (.ins C dx [])) (λv H2=>v=.cE/\Q (.ref x) H2) E
noncomputable def Binds (K:PySem.W.Frag) (fd:FuncData) (ps:List Str) (ds:List Value):Prop:=
 ∀(s:Shared) (us:List Value),K.In s.heap->(us++ds).length=ps.length->BindsTo s fd ⟨us,[]⟩ (ps.zip (us++ds))
theorem Binds.all {K:PySem.W.Frag} {fd:FuncData} {ps:List Str} (h:∀us:List Value,us.length=ps.length->bindArgs fd ⟨us,[]⟩=pure (ps.zip us)):Binds K fd ps []:=λs us _ hl=>by
 rw[aa6] at hl ⊢
 exact .of_eq (h us hl)
noncomputable def eE (CX:jT) (X:Cx) (E:XK):Prop:=∀(pins:List (Addr×Obj)) (σ:St) (H:Hp) (s:Shared) (e:Value) (s':Shared),Inv X pins σ H s->CX X.stack H s E e s'->X.xe e s'
section
variable {X : Cx} {CX : jT} {k : Nat} {f C : Addr} {fd : FuncData} {ps : List Str} {sp : Sp} {oU : List V} {ds : List Value} {E : XK} {x m : Str} {p pos apos : Pos} {e o : Expr} {es : List Expr} {ta : TE} {t : TA}
theorem uT {pins:List (Addr×Obj)} {σ:St} {H:Hp} {s:Shared} {Q:VK} {us:List Value} {vs:List V} (F:d8 X.prog X.w X.K X.mg X.base CX k f fd ps sp) (hr:di k X.A) (hb:Binds X.K fd ps ds) (hd:bu oU ds) (hx:eE CX X E)
  (I:Inv X pins σ H s) (r:bu vs us) (h:sp (vs++oU) H Q E):wpAny (model X.prog X.w) X.A (call (.ref f) us) (EP X pins σ Q) X.xe s:=by
 have r2:bu (vs++oU) (us++ds):=r.append hd
 have hl:(us++ds).length=ps.length:=by rw[<-r2.length];exact F.len _ _ _ _ h
 refine wpAny_call (codeAny_mono (F.run X.A X.stack s H ⟨us,[]⟩ (us++ds) (vs++oU) Q E hr I.HD (hb s us I.vQ hl) r2 h) λr s' hq=>?_)
 cases r with
 | error e=>exact hx pins σ H s e s' I hq
 | ok fl=>
  cases fl with
  | ret u=>exact I.after hq
  | next=>exact False.elim hq
  | brk=>exact False.elim hq
  | cont=>exact False.elim hq
theorem B1 (F:d8 X.prog X.w X.K X.mg X.base CX k f fd ps sp) (hr:di k X.A) (hg:Gl X x) (hm:X.mg x=some (.ref f)) (hk:PySem.W.keepIn X.K (.ref f)=true) (hb:Binds X.K fd ps ds) (hd:bu oU ds) (hx:eE CX X E)
  (ha:PA X (e::es) t) (yX:(x==("__debug__":Str))=false:=by decide) (he:starEach (e::es) X.env=(false,eval e X.env)::starEach es X.env:=by rfl) (hpl:(backTo pos (starEach es X.env)).any (·.1)=false:=by rfl):
  PE X (.Call (.Name x p) (e::es) [] pos) (tCall sp oU E t):=by
 intro pins s σ H Q I h
 refine wpAny_Call_Name_kw (qu I hg hm ?_ yX)
 refine PySem.W.callWith_K (h₀:=X.base) I.ok.mod.Ho hk (cA (ha pos pins s σ H _ I h) λus s1 ⟨vs,H1,I1,r,q⟩=>⟨I1.vQ,?_⟩) he hpl
 exact uT F hr hb hd hx I1 r q
theorem B3 {pl:Sem Bool} (he:PE X o ta) (c:xR X.K C) (hm:yV X.K C m f) (F:d8 X.prog X.w X.K X.mg X.base CX k f fd ps sp) (hr:di k X.A) (hb:Binds X.K fd ps ds) (hd:bu oU ds) (hx:eE CX X E) (ha:PA X (e::es) t)
  (hst:starEach (e::es) X.env=(false,eval e X.env)::starEach es X.env:=by rfl) (hpl:(backTo pos (starEach es X.env)).any (·.1)=false:=by rfl)
  (ht:eval (.Call (.Attribute o m apos) (e::es) [] pos) X.env=(do
   let ov <-eval o X.env
   standAt apos.atName
   let (f,first) <-holding [ov] (getMethod ov m pl)
   callWith pos f first (backTo pos (starEach (e::es) X.env)) (backToKw pos (keywordEach [] X.env))):=by rfl):
  PE X (.Call (.Attribute o m apos) (e::es) [] pos) (pF C m sp oU E ta t):=by
 intro pins s σ H Q I h
 refine PySem.W.methodCall_KW (pl:=pl) (cA (he pins s σ H _ I h) λu s1 c6=>?_) ht
 obtain⟨x,H1,I1,rx,a,dx,fs,ex,ea,l,q⟩:=c6
 subst ex
 obtain rfl:u=Value.ref a:=rx
 refine mU I1 ea c hm l ?_
 refine PySem.W.callWith_K (first:=[.ref a]) (h₀:=X.base) I.ok.mod.Ho hm.kp (cA (ha pos pins s1 σ H1 _ I1 q) λus s2 ⟨vs,H2,I2,r,q2⟩=>⟨I2.vQ,?_⟩) hst hpl
 exact uT (us:=.ref a::us) (vs:=.ref a::vs) F hr hb hd hx I2 (.cons rfl r) q2
theorem yY {pl:Sem Bool} (he:PE X o ta) (c:xR X.K C) (hm:yV X.K C m f) (F:d8 X.prog X.w X.K X.mg X.base CX k f fd ps sp) (hr:di k X.A) (hb:Binds X.K fd ps ds) (hd:bu oU ds) (hx:eE CX X E)
  (ht:eval (.Call (.Attribute o m apos) [] [] pos) X.env=(do
   let ov <-eval o X.env
   standAt apos.atName
   let (f,first) <-holding [ov] (getMethod ov m pl)
   callWith pos f first (backTo pos (starEach [] X.env)) (backToKw pos (keywordEach [] X.env))):=by rfl):
  PE X (.Call (.Attribute o m apos) [] [] pos) (pF C m sp oU E ta tNil):=by
 intro pins s σ H Q I h
 refine PySem.W.methodCall_KW (pl:=pl) (cA (he pins s σ H _ I h) λu s1 c6=>?_) ht
 obtain⟨x,H1,I1,rx,a,dx,fs,ex,ea,l,q⟩:=c6
 subst ex
 obtain rfl:u=Value.ref a:=rx
 refine mU I1 ea c hm l ?_
 exact PySem.W.callWith_K0 (first:=[.ref a]) I1.vQ hm.kp (uT (us:=[.ref a]) (vs:=[.ref a]) F hr hb hd hx I1 (.cons rfl .nil) q)
structure Mk (K:PySem.W.Frag) (C f:Addr):Prop where
 makes:PySem.W.makesIn K C=true
 init:PySem.W.findIn K (.ref C) "__init__"=some (some (.ref f))
 fn:PySem.W.isFn K (.ref f)=true
 kp:PySem.W.keepIn K (.ref C)=true
theorem yZ {pins:List (Addr×Obj)} {σ:St} {H:Hp} {s:Shared} {Q:VK} {us:List Value} {vs:List V} (M:Mk X.K C f) (F:d8 X.prog X.w X.K X.mg X.base CX k f fd ps sp) (hr:di (k+1) X.A) (hb:Binds X.K fd ps ds) (hd:bu oU ds)
  (hx:eE CX X E) (I:Inv X pins σ H s) (r:bu vs us)
  (h:∀x dx,H x=none->H dx=none->dx≠x->sp (.ref x::(vs++oU)) (upd (upd H dx (.own x)) x (.ins C dx [])) (λv H2=>v=.cE/\Q (.ref x) H2) E):
  wpAny (model X.prog X.w) X.A (call (.ref C) us) (EP X pins σ Q) X.xe s:=by
 have hq:=h (s.heap.objs.size+1) s.heap.objs.size (I.bT.fresh (Nat.le_succ _)) (I.bT.fresh (aah _)) (aan (aaK _))
 have I2:=Inv.made (C:=C) I
 have r2:bu (V.ref (s.heap.objs.size+1)::(vs++oU)) (Value.ref (s.heap.objs.size+1)::(us++ds)):=.cons rfl (r.append hd)
 have hl:(Value.ref (s.heap.objs.size+1)::us++ds).length=ps.length:=by
  have e:=r2.length
  rw[F.len _ _ _ _ hq] at e
  exact e.symm
 refine wpAny_call (yU (f:=f) I.vQ M.makes M.init (beq_iff_eq.mp M.fn) (codeAny_mono (F.run _ X.stack _ _ ⟨Value.ref (s.heap.objs.size+1)::us,[]⟩ (Value.ref (s.heap.objs.size+1)::(us++ds)) _ _ E (hr.make C us [])
  (I2.HD.make C us []) (hb _ (Value.ref (s.heap.objs.size+1)::us) I2.vQ hl) r2 hq) λr s' HE=>?_))
 cases r with
 | error e=>exact hx pins σ _ _ e s' I2 HE
 | ok fl=>
  cases fl with
  | ret u=>
   obtain⟨v,H',I3,rv,ev,q3⟩:=I2.after HE
   subst ev
   exact⟨rv,⟨V.ref (s.heap.objs.size+1),H',I3,rfl,q3⟩⟩
  | next=>exact False.elim HE
  | brk=>exact False.elim HE
  | cont=>exact False.elim HE
theorem B4 (M:Mk X.K C f) (F:d8 X.prog X.w X.K X.mg X.base CX k f fd ps sp) (hr:di (k+1) X.A) (hg:Gl X x) (hm:X.mg x=some (.ref C)) (hb:Binds X.K fd ps ds) (hd:bu oU ds) (hx:eE CX X E)
  (ha:PA X (e::es) t) (yX:(x==("__debug__":Str))=false:=by decide) (he:starEach (e::es) X.env=(false,eval e X.env)::starEach es X.env:=by rfl) (hpl:(backTo pos (starEach es X.env)).any (·.1)=false:=by rfl):
  PE X (.Call (.Name x p) (e::es) [] pos) (sJ C sp oU E t):=by
 intro pins s σ H Q I h
 refine wpAny_Call_Name_kw (qu I hg hm ?_ yX)
 refine PySem.W.callWith_K (h₀:=X.base) I.ok.mod.Ho M.kp (cA (ha pos pins s σ H _ I h) λus s1 ⟨vs,H1,I1,r,q⟩=>⟨I1.vQ,?_⟩) he hpl
 exact yZ M F hr hb hd hx I1 r q
end
section
variable {X : Cx} {CX : jT} {k : Nat} {f C : Addr} {fd : FuncData} {ps ks : List Str} {sp : Sp} {E : XK} {x m : Str} {p pos apos Wo : Pos} {e o : Expr} {es : List Expr} {kws : List Keyword} {te ta : TE} {t tk : TA} {nm : Option Str}
structure L3 (K:PySem.W.Frag) (fd:FuncData) (ps ks:List Str) (g:List Value->List Value->List Value) (gV:List V->List V->List V):Prop where
 to:∀(s:Shared) (us ws:List Value),K.In s.heap->(g us ws).length=ps.length->BindsTo s fd ⟨us,ks.zip ws⟩ (ps.zip (g us ws))
 rel:∀{vs:List V} {us:List Value} {zs:List V} {ws:List Value},bu vs us->bu zs ws->bu (gV vs zs) (g us ws)
variable {g : List Value -> List Value -> List Value} {gV : List V -> List V -> List V}
end
structure aN (N P:List Str) (sc:Scope):Prop where
 kind:sc.kind=.function
 co:sc.isCoroutine=false
 gen:sc.isGenerator=false
 nd:N.Nodup
 pre:N.take P.length=P
 par:∀x∈P,sc.names.lookup x=some .local\/sc.names.lookup x=some .cell
 EE:∀y∈sc.names,y.2≠.free
theorem pG {kindOf:Str->Option NameKind} {x:Str}:∀{binds:List (Str×Value)} {m:Str->Option Value},(∀v,(x,v)∉binds)->bindL kindOf binds m x=m x
 | [],_,_=>rfl
 | (n,v)::r,m,h=>by
  unfold bindL
  rw[pG λw hw=>h w (aak _ hw)]
  split
  ·have:x≠n:=by rintro rfl;exact h v aaj
   simp [this]
  ·rfl
theorem pH {kindOf:Str->Option NameKind} {x:Str}:∀{binds:List (Str×Value)} {m:Str->Option Value},(∀v,(x,v)∉binds)->bindC kindOf binds m x=m x
 | [],_,_=>rfl
 | (n,v)::r,m,h=>by
  unfold bindC
  rw[pH λw hw=>h w (aak _ hw)]
  split
  ·rfl
  ·have:x≠n:=by rintro rfl;exact h v aaj
   simp [this]
theorem pI {kindOf:Str->Option NameKind} {x:Str} {v:Value}:∀{P:List Str} {vs:List Value} {i:Nat} {m:Str->Option Value},P.Nodup->P[i]?=some x->vs[i]?=some v->kindOf x=some .local->
  bindL kindOf (P.zip vs) m x=some v
 | [],_,_,_,_,h,_,_=>by simp at h
 | _::_,[],_,_,_,_,h,_=>by simp at h
 | p::P,w::vs,0,m,nd,h1,h2,hk=>by
  simp at h1 h2;subst h1;subst h2
  show bindL kindOf ((p,w)::P.zip vs) m p=_
  unfold bindL
  rw[pG λv hv=>(List.nodup_cons.mp nd).1 (List.of_mem_zip hv).1,if_pos hk]
  simp
 | p::P,w::vs,i+1,m,nd,h1,h2,hk=>by
  show bindL kindOf ((p,w)::P.zip vs) m x=_
  unfold bindL
  exact pI (i:=i) (List.nodup_cons.mp nd).2 (by simpa using h1) (by simpa using h2) hk
theorem pJ {kindOf:Str->Option NameKind} {x:Str} {v:Value}:∀{P:List Str} {vs:List Value} {i:Nat} {m:Str->Option Value},P.Nodup->P[i]?=some x->vs[i]?=some v->kindOf x≠some .local->
  bindC kindOf (P.zip vs) m x=some v
 | [],_,_,_,_,h,_,_=>by simp at h
 | _::_,[],_,_,_,_,h,_=>by simp at h
 | p::P,w::vs,0,m,nd,h1,h2,hk=>by
  simp at h1 h2;subst h1;subst h2
  show bindC kindOf ((p,w)::P.zip vs) m p=_
  unfold bindC
  rw[pH λv hv=>(List.nodup_cons.mp nd).1 (List.of_mem_zip hv).1,if_neg hk]
  simp
 | p::P,w::vs,i+1,m,nd,h1,h2,hk=>by
  show bindC kindOf ((p,w)::P.zip vs) m x=_
  unfold bindC
  exact pJ (i:=i) (List.nodup_cons.mp nd).2 (by simpa using h1) (by simpa using h2) hk
noncomputable def start (N:List Str) (vs:List V):St:=vs.map some++List.replicate (N.length - vs.length) none
noncomputable def uU (CX:jT) (P:Program) (w:World) (K:PySem.W.Frag) (mg:Str->Option Value) (base:Heap) (N:List Str) (qual:Str) (scope:Scope) (f:Addr) (cd:Value) (A:Around) (outer:List Env) (s:Shared) (H:Hp) (E:XK):Cx where
 prog:=P
 w:=w
 K:=K
 mg:=mg
 base:=base
 A:=A.deeper (envOfC qual scope s.heap.objs.size f cd)
 N:=N
 s₀:=s
 H₀:=H
 env:=envOfC qual scope s.heap.objs.size f cd
 outer:=outer
 stack:=envOfC qual scope s.heap.objs.size f cd::outer
 ex:=[]
 calm:=true
 fn:=λ_=>true
 pn:=[]
 xe:=λe s'=>wpAny (model P w) (A.deeper (envOfC qual scope s.heap.objs.size f cd)) (leaving (envOfC qual scope s.heap.objs.size f cd) e) (λ_ EF=>CX outer H s E e EF) (λe' EF=>CX outer H s E e' EF) s'
theorem sM {sc:Scope} {n:Nat} {x:Str} (h:sc.names.lookup x=some .cell):∃c,(cellsFrom n sc.names []).lookup x=some c:=by
 have q:=PySem.W.cellsFrom_some sc.names n [] (.inl h)
 exact Option.isSome_iff_exists.mp q
theorem xS {CX:jT} {P:Program} {w:World} {K:PySem.W.Frag} {mg:Str->Option Value} {base:Heap} {N ps:List Str} {qual:Str} {scope:Scope} {f:Addr} {cd:Value} {A:Around} {outer:List Env} {s s1:Shared} {H:Hp} {E:XK} {us:List Value} {vs:List V}
  (S:aN N ps scope) (hd:A.handled=none) (e0:uS P w K mg base A outer s H) (hl:vs.length=ps.length) (r:bu vs us)
  (x:InCallC s s.heap.objs.size (bindL (envOfC qual scope s.heap.objs.size f cd).kindOf (ps.zip us) λ_=>none) (cellsFrom (s.heap.objs.size+1) scope.names []) (bindC (envOfC qual scope s.heap.objs.size f cd).kindOf (ps.zip us) λ_=>none) s1):
  Inv (uU CX P w K mg base N qual scope f cd A outer s H E) [] (start N vs) H s1:=by
 have hpl:ps.length<=N.length:=by have:=congrArg List.length S.pre;rw[aaX] at this;omega
 obtain⟨h1,tk,rfl,hk⟩:=x.done
 have HF:∀b:Addr,b∉(uU CX P w K mg base N qual scope f cd A outer s H E).ex:=λb z=>absurd (show b∈([]:List Addr) from z) (by simp)
 refine⟨⟨e0.mod,S.kind,rfl,rfl,aah _,λy z c h1 h2=>?_,λy hy=>?_,λy c _ h=>?_,λ_=>hd,Around.frames_deeper e0.frames,.inr ⟨rfl,rfl⟩,λb z=>absurd z (HF b),e0.bs,e0.yL,λb _ _=>HF b,λb z=>absurd z (HF b),e0.jO,e0.Dv⟩,
  rfl,e0.bare,Un.kept hk,⟨_,x.toInCall.ns,λi y v h1 h2 h3=>?_⟩,λy c h=>⟨_,x.cell y c h⟩,e0.bT.fresh (aah _),λy c h=>?_,λp hp=>absurd (show p∈([]:List (Addr×Obj)) from hp) (by simp),e0.bT.kept hk,?_⟩
 ·exact name_of_addr x.apart (abb h1) (abb h2)
 ·have hy:scope.names.lookup y=some .cell\/scope.names.lookup y=some .free:=hy
  rcases hy with hy | hy
  ·exact sM hy
  ·exact absurd rfl (S.EE _ (abb hy))
 ·exact Nat.le_of_lt (x.above y c (abb h))
 ·have hi:i<vs.length:=by
   unfold start at h2
   by_cases hi:i<vs.length
   ·exact hi
   ·rw[aaY (by simpa using hi)] at h2
    rw[List.getElem?_replicate] at h2
    split at h2 <;>cases h2
  have ha:vs[i]?=some v:=by
   unfold start at h2
   rw[aaZ (by simpa using hi),aag] at h2
   cases e:vs[i]? with
   | none=>rw[e] at h2;cases h2
   | some a=>rw[e] at h2;cases h2;rfl
  obtain⟨u,hu,rv⟩:=r.get ha
  have hp:ps[i]?=some y:=by
   rw[<-S.pre,List.getElem?_take_of_lt (by omega)];exact h1
  have Ui:ps.Nodup:=by rw[<-S.pre];exact S.nd.sublist (List.take_sublist _ _)
  refine⟨u,rv,?_⟩
  rcases S.par y (aae hp) with k | k
  ·exact .inl ⟨k,pI Ui hp hu k⟩
  ·obtain⟨c,e⟩:=sM (n:=s.heap.objs.size+1) k
   refine .inr ⟨.inl k,c,e,?_⟩
   have q:=x.cell y c e
   rw[pJ Ui hp hu (by show scope.names.lookup y≠_;rw[k];decide)] at q
   exact q
 ·exact e0.bT.fresh (Nat.le_of_lt (x.above y c (abb h)))
 ·unfold start
  show _=N.length
  rw[aaD,aac,aaR]
  omega
theorem DG {CX:jT} {P:Program} {w:World} {K:PySem.W.Frag} {mg:Str->Option Value} {base:Heap} {k:Nat} {f:Addr} {name qual:Str} {params:Arguments} {body:List Stmt} {scope:Scope} {dV kV doc pm cG ct oc:Value} {an od:Option Addr}
  {yE:Array (Option Value)} {N ps:List Str} {sp:Sp} (lk:K.lookup f=some ⟨oc,od,.func (PySem.W.fnOf name qual params body scope dV kV doc pm an cG ct),yE⟩) (sE:PySem.W.codeIn K cG qual=true) (S:aN N ps scope)
  (len:∀vs H Q E,sp vs H Q E->vs.length=ps.length)
  (sN:∀(A:Around) (outer:List Env) (s:Shared) (H:Hp) (vs:List V) (Q:VK) (E:XK),di k (A.deeper (envOfC qual scope s.heap.objs.size f cG))->sp vs H Q E->
   ∃t,uF (uU CX P w K mg base N qual scope f cG A outer s H E) body t/\t {nx:=λ_ H'=>Q .cE H',rt:=Q} (start N vs) H):
  d8 P w K mg base CX (k+1) f (PySem.W.fnOf name qual params body scope dV kV doc pm an cG ct) ps sp:=by
 refine⟨len,λA outer s H args us vs Q E hr e0 hb r BA=>?_⟩
 have hl:=len _ _ _ _ BA
 have KX:K.In s.heap:=e0.mod.Ho.keeps λb o e=>(e0.bs b o e).1
 have lim:s.heap.NoLimit:=e0.mod.nolimit.keeps λb o e=>(e0.bs b o e).1
 have mW:∀y∈ps.zip us,scope.names.lookup y.1=some .local\/(scope.names.lookup y.1=some .cell/\((cellsFrom (s.heap.objs.size+1) scope.names []).lookup y.1).isSome=true):=fun⟨n,v⟩ hy=>by
  rcases S.par n (List.of_mem_zip hy).1 with q | q
  ·exact .inl q
  ·exact .inr ⟨q,PySem.W.cellsFrom_some _ _ _ (.inl q)⟩
 refine codeAny_call_function hr.depth (KX _ _ lk) rfl S.co S.gen rfl (PySem.W.codeRec_of KX sE) (hb _ _ _ _ ?_)
 refine wpAny_newFunctionEnv_cells S.kind mW λenv he s1 x=>?_
 subst he
 refine⟨lim.keeps x.toInCall.keep,codeAny_func ?_⟩
 obtain⟨t,ht,hq⟩:=sN A outer s H vs Q E (hr.deeper _) BA
 have I:Inv (uU CX P w K mg base N qual scope f cG A outer s H E) [] (start N vs) H s1:=xS S hr.hd e0 hl r x
 refine wpAny_mono (ht [] s1 (start N vs) H _ I hq) (λfl s' hs=>?_) λe s' hs=>hs
 have fin:∀{σ':St} {H':Hp} {v:V} {u:Value},Inv (uU CX P w K mg base N qual scope f cG A outer s H E) [] σ' H' s'->RelV v u->Q v H'->CE outer P w H s Q u s':=
  λ{σ' H' v u} J rv q=>⟨v,H',J.os,J.bare,J.base,J.bT,rv,q⟩
 cases fl with
 | ret u=>
  obtain⟨v,σ',H',J,rv,q⟩:=hs
  exact fin J rv q
 | next=>
  obtain⟨σ',H',J,q⟩:=hs
  exact fin (v:=V.cE) (u:=Value.none) J rfl q
 | brk=>
  obtain⟨_,_,_,q⟩:=hs
  exact False.elim q
 | cont=>
  obtain⟨_,_,_,q⟩:=hs
  exact False.elim q
end L2
namespace L2
open PySem PySem.Spec PyProof.Rows
section
variable {X : Cx} {x : Str} {p pos : Pos} {e : Expr} {es : List Expr} {t : TA} {id T : String} {r : List V -> Hp -> VK -> Prop}
noncomputable def tCB (r:List V->Hp->VK->Prop) (t:TA):TE:=λσ H Q=>t σ H λvs H1=>r vs H1 Q
theorem aZ (hc:c9 X (.builtin id) r) (hg:Gl X x) (hm:X.mg x=none) (hv:bootBuiltins x=some (.builtin id)) (ha:PA X (e::es) t) (hn:x≠"__name__":=by decide) (yX:(x==("__debug__":Str))=false:=by decide)
  (he:starEach (e::es) X.env=(false,eval e X.env)::starEach es X.env:=by rfl) (hpl:(backTo pos (starEach es X.env)).any (·.1)=false:=by rfl):PE X (.Call (.Name x p) (e::es) [] pos) (tCB r t):=by
 intro pins s σ H Q I h
 refine wpAny_Call_Name_kw (iS I hg hm hv ?_ hn yX)
 exact PyProof.Rows.callWith_builtin1 (cA (ha pos pins s σ H _ I h) λus s1 ⟨vs,H1,I1,r1,q1⟩=>hc pins s1 σ H1 vs us Q I1 r1 q1) he hpl
theorem ia (hc:c9 X (.type T) r) (hg:Gl X x) (hm:X.mg x=none) (hv:bootBuiltins x=some (.type T)) (ha:PA X (e::es) t) (hn:x≠"__name__":=by decide) (yX:(x==("__debug__":Str))=false:=by decide)
  (he:starEach (e::es) X.env=(false,eval e X.env)::starEach es X.env:=by rfl) (hpl:(backTo pos (starEach es X.env)).any (·.1)=false:=by rfl):PE X (.Call (.Name x p) (e::es) [] pos) (tCB r t):=by
 intro pins s σ H Q I h
 refine wpAny_Call_Name_kw (iS I hg hm hv ?_ hn yX)
 exact PyProof.Rows.callWith_type1 (cA (ha pos pins s σ H _ I h) λus s1 ⟨vs,H1,I1,r1,q1⟩=>hc pins s1 σ H1 vs us Q I1 r1 q1) he hpl
end
end L2
namespace HT
open PySem PyProof.Rows
section
open PySem.SeqAt
open PySem.AutoSeq1 (wpAny_loadPart')
open PySem.MeetsSeq PySem.MeetsSeq2 PySem.MeetsSeq3
end
section
variable {prog : Program} {w : World} {A : Around} {E : Value -> Shared -> Prop} {s : Shared}
theorem B5 {t b:Addr} {vs ws:List Value} {Q:Value->Shared->Prop} (ht:IsTup s.heap t vs.toArray) (hb:IsTup s.heap b ws.toArray) (hv:vs≠[])
  (h1:ws=[]->Q (.ref t) s) (h2:ws≠[]->Q (.ref s.heap.objs.size) {s with heap:=s.heap.push {cls:=.type "tuple",data:=.seq (vs++ws).toArray}})
  (hsz:vs.length+ws.length<=sizeLine):wpAny (model prog w) A (binaryOp .Add (.ref t) (.ref b)) Q E s:=by
 obtain⟨⟨cls,dd,data,sl⟩,ho,hc,n,hd⟩:=id ht
 obtain⟨⟨Wp,Uj,data2,KO⟩,KP,Uk,n2,hd2⟩:=id hb
 simp only at hc hd Uk hd2
 subst hc hd Uk hd2
 have e:vs.toArray++ws.toArray=(vs++ws).toArray:=by simp
 by_cases hw:ws=[]
 ·exact concat_meets ⟨_,ho,rfl⟩ ⟨_,KP,rfl⟩ noFill_tuple_add seq_tuple_add PySem.F.slot_tuple_add PySem.F.entry_tuple_add (PySem.F.args_tuple_add_2 _ _)
   (tuple_addW1 t b vs.toArray ws.toArray n n2 dd Uj sl KO (by simpa using hv) (by simp [hw])) ⟨ho,KP,h1 hw⟩
 ·refine concat_meets ⟨_,ho,rfl⟩ ⟨_,KP,rfl⟩ noFill_tuple_add seq_tuple_add PySem.F.slot_tuple_add PySem.F.entry_tuple_add (PySem.F.args_tuple_add_2 _ _)
   (tuple_addW2 t b vs.toArray ws.toArray n n2 dd Uj sl KO (by simpa using hv) (by simpa using hw) (by rw[aam,aam];exact hsz)) ⟨ho,KP,?_⟩
  rw[e]
  exact h2 hw
noncomputable def dA (n d:Nat):Option Int->Nat
 | none=>d
 | some v=>if v<0 then (v+ (n:Int)).toNat else min v.toNat n
theorem y2 (n d:Nat):dA n d none=d:=rfl
theorem B6 (n d k:Nat):dA n d (some (k:Int))=min k n:=by
 show(if (k:Int)<0 then ((k:Int)+ (n:Int)).toNat else min (k:Int).toNat n)=min k n
 rw[if_neg (by omega),aai]
theorem EG (n d:Nat) (hd:d<=n) (o:Option Int):dA n d o<=n:=by
 cases o with
 | none=>exact hd
 | some v=>
  show(if v<0 then (v+ (n:Int)).toNat else min v.toNat n)<=n
  by_cases hv:v<0
  ·rw[if_pos hv];omega
  ·rw[if_neg hv];exact Nat.min_le_right _ _
theorem vY (v:Int) (n d:Nat):(if v<0 then max (v+ (n:Int)) 0 else min v (n:Int))=((dA n d (some v):Nat):Int):=by
 show(if v<0 then max (v+ (n:Int)) 0 else min v (n:Int))=(((if v<0 then (v+ (n:Int)).toNat else min v.toNat n):Nat):Int)
 by_cases hv:v<0
 ·simp only[if_pos hv];omega
 ·simp only[if_neg hv];omega
theorem uV (lo hi:Option Int) (n:Nat):Builtin.Slice.sliceAdjust lo hi 1 (n:Int)=(((dA n 0 lo:Nat):Int),((dA n n hi:Nat):Int)):=by
 have h1:¬((1:Int)<0):=by omega
 unfold Builtin.Slice.sliceAdjust
 simp only[h1,if_false]
 refine Prod.ext ?_ ?_
 ·cases lo with
  | none=>rfl
  | some v=>exact vY v n 0
 ·cases hi with
  | none=>rfl
  | some v=>exact vY v n n
theorem uW (i j:Nat):Builtin.Slice.slicePlaces (i:Int) (j:Int) 1=j - i:=by
 unfold Builtin.Slice.slicePlaces
 have h1:(1:Int) >0:=by omega
 simp only[h1,if_true,Int.ediv_one]
 split <;>omega
theorem mX {v:Value} {o:Option Int} {Q:Option Int->Shared->Prop} (p:IsPart v o) (h:Q o s):wpAny (model prog w) A (Builtin.Slice.slicePartIndex v) Q E s:=by
 cases p with
 | none=>exact slicePart_none h
 | int i t=>exact slicePart_int h
theorem jU {sl:Addr} {vl vu:Value} {lo hi:Option Int} {n:Nat} {Q:Int×Int×Nat->Shared->Prop} (hs:s.heap.IsSliceOf sl vl vu .none) (pl:IsPart vl lo) (pu:IsPart vu hi)
  (h:Q (((dA n 0 lo:Nat):Int),1,dA n n hi - dA n 0 lo) s):wpAny (model prog w) A (Builtin.Slice.sliceApplied (.ref sl) (pure (n:Int))) Q E s:=by
 obtain⟨os,HG,DH,jg⟩:=id hs
 unfold Builtin.Slice.sliceApplied Builtin.Slice.sliceFields
 refine wpAny_bind (wpAny_bind (wpAny_field HG jg (x:=vl) rfl (wpAny_bind (wpAny_field HG jg (x:=vu) rfl (wpAny_bind (wpAny_field HG jg (x:=.none) rfl (wpAny_pure ?_)))))))
 refine wpAny_bind (slicePart_none ?_)
 show wpAny _ _ (if ((1:Int)==0)=true then _ else _) _ _ s
 rw[if_neg (by decide)]
 refine wpAny_bind (mX pl (wpAny_bind (mX pu (wpAny_bind (wpAny_pure ?_)))))
 show wpAny _ _ (match Builtin.Slice.sliceAdjust lo hi 1 (n:Int) with | (lo,hi)=>pure (lo,(1:Int),Builtin.Slice.slicePlaces lo hi 1)) _ _ s
 rw[uV lo hi n]
 show wpAny _ _ (pure (((dA n 0 lo:Nat):Int),(1:Int),Builtin.Slice.slicePlaces ((dA n 0 lo:Nat):Int) ((dA n n hi:Nat):Int) 1)) _ _ s
 rw[uW]
 exact wpAny_pure h
theorem y3 (xs:Array Value) (i k:Nat):((List.range k).filterMap fun(m:Nat)=>xs[((i:Int)+ (m:Int)*1).toNat]?).toArray=((xs.toList.drop i).take k).toArray:=by
 have e:(fun(m:Nat)=>xs[((i:Int)+ (m:Int)*1).toNat]?)=λm=>xs[i+m]?:=by
  funext m
  have:((i:Int)+ (m:Int)*1).toNat=i+m:=by omega
  rw[this]
 rw[e]
 have:=pick_run xs i k
 rw[List.filterMap_map] at this
 have e2:((λx=>xs[x]?) ∘λx=>i+x)=λm=>xs[i+m]?:=rfl
 rw[e2] at this
 rw[this]
theorem jn {t sl:Addr} {items:Array Value} {vl vu:Value} {lo hi:Option Int} {Q:Value->Shared->Prop} (ht:IsTup s.heap t items) (hs:s.heap.IsSliceOf sl vl vu .none) (pl:IsPart vl lo) (pu:IsPart vu hi)
  (hw:¬(dA items.size 0 lo=0/\dA items.size items.size hi=items.size))
  (h:Q (.ref s.heap.objs.size) {s with heap:=s.heap.push {cls:=.type "tuple",data:=.seq ((items.toList.drop (dA items.size 0 lo)).take (dA items.size items.size hi - dA items.size 0 lo)).toArray}})
  (hsz:items.size<=sizeLine):wpAny (model prog w) A (getItem (.ref t) (.ref sl)) Q E s:=by
 have vZ:sizeOk (.seq ((items.toList.drop (dA items.size 0 lo)).take (dA items.size items.size hi - dA items.size 0 lo)).toArray):=by
  show((items.toList.drop (dA items.size 0 lo)).take (dA items.size items.size hi - dA items.size 0 lo)).toArray.size<=sizeLine
  rw[aam,aaX,List.length_drop,abm]
  omega
 have hj:dA items.size items.size hi<=items.size:=EG _ _ (aah _) hi
 obtain⟨os,HG,DH,jg⟩:=id hs
 have Wr:s.TypeIs (.ref sl) "slice":=⟨os,HG,DH⟩
 unfold getItem
 try with_reducible refine wpAny_holding ?_
 first | refine wpAny_bind (wpAny_pure ?_) | skip
 refine wpAny_bind (wpAny_sequenceKey ht.typeIs (by decide) ?_)
 refine wpAny_bind (wpAny_callSpecial?_slot (name:=Str.ofString "__getitem__") ht.typeIs PyProof.Rows.slot_tuple_getitem
  (wpAny_call_entry PyProof.Rows.slot_tuple_getitem ht.typeIs entry_tuple_getitem ?_ (args_tuple_getitem _ _)))
 show wpAny _ _ (Builtin.Tuple.tupleItemsOf (.ref t) >>=_) _ _ s
 refine wpAny_bind (tupleItemsOf_ ht ?_)
 refine wpAny_bind (wpAny_typeOf Wr ?_)
 rw[if_pos (by decide)]
 refine wpAny_bind (jU hs pl pu ?_)
 have L4:¬((((dA items.size 0 lo:Nat):Int)==0 && (1:Int)==1 && (dA items.size items.size hi - dA items.size 0 lo)==items.size)=true):=by
  intro q
  rw[aaS,aaS] at q
  have q1:((dA items.size 0 lo:Nat):Int)=0:=eq_of_beq q.1.1
  have q2:dA items.size items.size hi - dA items.size 0 lo=items.size:=eq_of_beq q.2
  exact hw ⟨by omega,by omega⟩
 show wpAny _ _ (if (((dA items.size 0 lo:Nat):Int)==0 && (1:Int)==1 && (dA items.size items.size hi - dA items.size 0 lo)==items.size)=true then _ else _) _ _ s
 rw[if_neg L4,y3]
 first
  | exact wpAny_bind (m:=Builtin.Tuple.tupleExact _) (wpAny_newObj_type (wpAny_pure ⟨_,rfl,wpAny_pure h⟩) vZ)
  | exact wpAny_bind (m:=Builtin.Tuple.tupleExact _) (wpAny_newObj_type (wpAny_bind (wpAny_pure (wpAny_pure ⟨_,rfl,wpAny_pure h⟩))) vZ)
  | exact wpAny_bind (wpAny_bind (m:=Builtin.Tuple.tupleExact _) (wpAny_newObj_type (wpAny_pure (wpAny_pure ⟨_,rfl,wpAny_pure h⟩)) vZ))
  | exact wpAny_bind (wpAny_bind (m:=Builtin.Tuple.tupleExact _) (wpAny_newObj_type (wpAny_pure ⟨_,rfl,wpAny_pure h⟩) vZ))
end
end HT
namespace L2
open PySem PySem.Spec PyProof.Rows
abbrev TO:=St->Hp->(Option Int->Hp->Prop)->Prop
noncomputable def PO (X:Cx) (e:Option Expr) (t:TO):Prop:=
 ∀(pins:List (Addr×Obj)) (s:Shared) (σ:St) (H:Hp) (Q:Option Int->Hp->Prop),Inv X pins σ H s->t σ H Q->
  wpAny (model X.prog X.w) X.A (evalPart e X.env) (λu s'=>∃o H',Inv X pins σ H' s'/\IsPart u o/\Q o H') X.xe s
noncomputable def tNoPart:TO:=λ_ H Q=>Q none H
noncomputable def tPart (t:TE):TO:=λσ H Q=>t σ H λx H1=>∃i,x=.int i/\Q (some i) H1
theorem intsAre_of {ns:List Int}:∀{us:List Value},bu (ns.map V.int) us->IntsAre us ns:=by
 induction ns with
 | nil=>intro us r;rw[aa0] at r;cases r;exact .nil
 | cons n ns ih=>
  intro us r
  rw[aat] at r
  cases r with
  | cons r1 r2=>
   obtain⟨t,e⟩:=r1
   subst e
   exact .cons n t (ih r2)
section
variable {X : Cx} {e : Expr} {te : TE} {lo hi : Option Expr} {tl th : TO} {pos p2 : Pos}
theorem qA:PO X none tNoPart:=by
 intro pins s σ H Q I h
 rw[evalPart_none]
 exact wpAny_pure ⟨none,H,I,.none,h⟩
theorem qB (h:PE X e te):PO X (some e) (tPart te):=by
 intro pins s σ H Q I hw
 rw[evalPart_some]
 refine cA (h pins s σ H _ I hw) λu s1 c6=>?_
 obtain⟨x,H1,I1,r1,q1⟩:=c6
 obtain⟨i,rfl,q⟩:=q1
 obtain⟨t,rfl⟩:=r1
 exact⟨some i,H1,I1,.int i t,q⟩
noncomputable def HI (X:Cx) (r:V->Option Int->Option Int->Hp->VK->Prop):Prop:=
 ∀(pins:List (Addr×Obj)) (s:Shared) (σ:St) (H:Hp) (x:V) (v vl vu:Value) (lo hi:Option Int) (sl:Addr) (Q:VK),Inv X pins σ H s->RelV x v->s.heap.IsSliceOf sl vl vu .none->IsPart vl lo->IsPart vu hi->r x lo hi H Q->
  ∃T id,typeLookup (.type T) "__getitem__"=pure (some (.builtin id))/\s.TypeIs v T/\wpAny (model X.prog X.w) X.A (getItem v (.ref sl)) (EP X pins σ Q) X.xe s
noncomputable def tSl (r:V->Option Int->Option Int->Hp->VK->Prop) (te:TE) (tl th:TO):TE:=λσ H Q=>te σ H λx H1=>tl σ H1 λl H2=>th σ H2 λu H3=>r x l u H3 Q
theorem mY {r:V->Option Int->Option Int->Hp->VK->Prop} (hr:HI X r) (he:PE X e te) (hl:PO X lo tl) (hu:PO X hi th):PE X (.Subscript e (.Slice lo hi none p2) pos) (tSl r te tl th):=by
 intro pins s σ H Q I h
 refine Subscript_ (cA (he pins s σ H _ I h) λv s1 c6=>?_)
 obtain⟨x,H1,I1,r1,q1⟩:=c6
 refine wpAny_Slice (cA (hl pins s1 σ H1 _ I1 q1) λvl s2 ⟨l,H2,I2,pl,q2⟩=>cA (hu pins s2 σ H2 _ I2 q2) λvu s3 c6=>?_)
 obtain⟨u,H3,I3,pu,q3⟩:=c6
 rw[evalPart_none]
 refine wpAny_pure ?_
 have I4:Inv X pins σ H3 {s3 with heap:=s3.heap.push {cls:=.type "slice",data:=.fields #[vl,vu,.none]}}:=I3.kept (t':=s3.toks) λb ob q=>Heap.get?_push_of_some _ q
 obtain⟨T,id,hT,ht,hg⟩:=hr pins {s3 with heap:=s3.heap.push {cls:=.type "slice",data:=.fields #[vl,vu,.none]}} σ H3 x v vl vu l u s3.heap.objs.size Q I4 r1 (Heap.IsSliceOf.new ..) pl pu q3
 show wpAny (model X.prog X.w) X.A (subscriptTail e (.Slice lo hi none p2) v (.ref s3.heap.objs.size)) (EP X pins σ Q) X.xe {s3 with heap:=s3.heap.push {cls:=.type "slice",data:=.fields #[vl,vu,.none]}}
 exact tail_any (ops:=[.ref s3.heap.objs.size,v]) ht hT hg (by with_unfolding_all rfl)
noncomputable def iT (xs:List V) (lo hi:Option Int):List V:=(xs.drop (HT.dA xs.length 0 lo)).take (HT.dA xs.length xs.length hi - HT.dA xs.length 0 lo)
theorem kD (xs:List V) (lo hi:Option Int):(iT xs lo hi).length<=xs.length:=by
 unfold iT
 rw[aaX,List.length_drop]
 omega
noncomputable def L5 (K:PySem.W.Frag):V->Option Int->Option Int->Hp->VK->Prop:=λx lo hi H Q=>∃a xs,x=.ref a/\d7 K H a xs/\
 ¬(HT.dA xs.length 0 lo=0/\HT.dA xs.length xs.length hi=xs.length)/\∀p,H p=none->Q (.ref p) (upd H p (.tup (iT xs lo hi)))
theorem EH:HI X (L5 X.K):=by
 intro pins s σ H x v vl vu lo hi sl Q I rx hs pl pu h
 obtain⟨a,xs,rfl,hx,hw,q⟩:=h
 cases rx
 obtain⟨aU,r,ht,hz⟩:=I.tuple hx
 have hlen:aU.toArray.size=xs.length:=by rw[aam];exact r.length.symm
 refine⟨"tuple",_,PyProof.Rows.slot_tuple_getitem.lookup,ht.typeIs,?_⟩
 refine HT.jn ht hs pl pu (by rw[hlen];exact hw) ?_ (by rw[hlen];exact hz)
 rw[hlen]
 refine⟨.ref s.heap.objs.size,_,I.laid (t':=s.toks) (o:=.tup (iT xs lo hi)) (λb ob q=>Heap.get?_push_of_some _ q) (aah _) ?_,rfl,q _ (I.bT.fresh (aah _))⟩
 exact⟨aap (kD xs lo hi) hz,_,(r.drop (HT.dA xs.length 0 lo)).take (HT.dA xs.length xs.length hi - HT.dA xs.length 0 lo),IsTup.new _ _⟩
noncomputable def DI (K:PySem.W.Frag):R2:=λx y H Q=>∃a b xs ys,x=.ref a/\y=.ref b/\d7 K H a xs/\d7 K H b ys/\xs≠[]/\xs.length+ys.length<=sizeLine/\
 (ys=[]->Q (.ref a) H)/\(ys≠[]->∀p,H p=none->Q (.ref p) (upd H p (.tup (xs++ys))))
theorem bu.qC {xs:List V} {us:List Value} (r:bu xs us):us=[]↔xs=[]:=by
 cases r with
 | nil=>simp
 | cons _ _=>simp
theorem B7:kr X (binaryOp .Add) (DI X.K):=by
 intro pins s σ H x y v u Q I rx ry h
 obtain⟨a,b,xs,ys,rfl,rfl,ha,hb,hx,hz,q1,q2⟩:=h
 cases rx
 cases ry
 obtain⟨aU,r1,p1,_⟩:=I.tuple ha
 obtain⟨mZ,r2,p2,_⟩:=I.tuple hb
 refine HT.B5 p1 p2 (λz=>hx (r1.qC.mp z)) (λz=>⟨.ref a,H,I,rfl,q1 (r2.qC.mp z)⟩) (λz=>?_) (by rw[<-r1.length,<-r2.length];exact hz)
 refine⟨.ref s.heap.objs.size,_,I.laid (t':=s.toks) (o:=.tup (xs++ys)) (λb ob q=>Heap.get?_push_of_some _ q) (aah _) ?_,rfl,q2 (λw=>z (r2.qC.mpr w)) _ (I.bT.fresh (aah _))⟩
 exact⟨by rw[aaD];exact hz,_,r1.append r2,IsTup.new _ _⟩
end
end L2
namespace L2
open PySem PySem.Spec PyProof.Rows
noncomputable def xT (n:Nat) (i:Int):Option Nat:=if 0<=i then (if i<n then some i.toNat else none) else if -(n:Int)<=i then some (i+n).toNat else none
noncomputable def fK {α:Type} (xs:List α) (i:Int):Option α:=(xT xs.length i).bind λj=>xs[j]?
theorem v3 {n:Nat} {i:Int} {j:Nat} (h:xT n i=some j):seqIndex? i n=some j/\j<n/\-(n:Int)<=i/\i<n:=by
 unfold xT at h
 by_cases h0:0<=i
 ·rw[if_pos h0] at h
  by_cases h1:i<n
  ·rw[if_pos h1] at h
   have e:i.toNat=j:=aay h
   exact⟨by rw[seqIndex_of h0 h1,e],by omega,by omega,h1⟩
  ·rw[if_neg h1] at h;cases h
 ·rw[if_neg h0] at h
  by_cases h1:-(n:Int)<=i
  ·rw[if_pos h1] at h
   have e:(i+n).toNat=j:=aay h
   exact⟨by rw[seqIndex_neg (by omega) h1,e],by omega,h1,by omega⟩
  ·rw[if_neg h1] at h;cases h
theorem qD {α:Type} {xs:List α} {i:Int} {v:α} (h:fK xs i=some v):∃j,seqIndex? i xs.length=some j/\xs[j]?=some v/\j<xs.length/\-(xs.length:Int)<=i/\i<xs.length:=by
 unfold fK at h
 cases e:xT xs.length i with
 | none=>rw[e] at h;cases h
 | some j=>
  rw[e] at h
  obtain⟨h1,h2,h3,h4⟩:=v3 e
  exact⟨j,h1,h,h2,h3,h4⟩
theorem bC {α:Type} {xs:List α} {j:Nat} {v:α} (h:xs[j]?=some v):fK xs (j:Int)=some v:=by
 have hj:j<xs.length:=(List.getElem?_eq_some_iff.mp h).1
 have e:xT xs.length (j:Int)=some j:=by
  unfold xT
  rw[if_pos (by omega),if_pos (by omega)];simp
 unfold fK;rw[e];exact h
noncomputable def B8 (b:Expr):Prop:=∀o i,subscripted b false o i=operate [o,i] (getItem o i)
noncomputable def DJ (X:Cx) (r:R2):Prop:=
 ∀(value slice:Expr) (pins:List (Addr×Obj)) (s:Shared) (σ:St) (H:Hp) (x y:V) (v u:Value) (Q:VK),Inv X pins σ H s->RelV x v->RelV y u->r x y H Q->
  subscripted slice false v u=operate [v,u] (getItem v u)->wpAny (model X.prog X.w) X.A (subscriptTail value slice v u) (EP X pins σ Q) X.xe s
noncomputable def GW (X:Cx) (id:String) (r:V->List V->Hp->VK->Prop):Prop:=
 ∀(pins:List (Addr×Obj)) (s:Shared) (σ:St) (H:Hp) (x:V) (xs:List V) (v:Value) (us:List Value) (Q:VK),Inv X pins σ H s->RelV x v->bu xs us->r x xs H Q->
  wpAny (model X.prog X.w) X.A (call (.builtin id) (v::us)) (EP X pins σ Q) X.xe s
section
variable {X : Cx} {a b : Expr} {ta tb : TE} {pos : Pos}
theorem aH {r:R2} (hr:DJ X r) (ha:PE X a ta) (hb:PE X b tb) (hs:B8 b):PE X (.Subscript a b pos) (tOp r ta tb):=by
 intro pins s σ H Q I h
 exact Subscript_ (EB ha hb I h λv u s2 x y H2 I2 rx ry q=>hr a b pins s2 σ H2 x y v u Q I2 rx ry q (hs _ _))
noncomputable def L6 (K:PySem.W.Frag):R2:=λx y H Q=>∃p xs i v,x=.ref p/\y=.int i/\bj K H p xs/\fK xs i=some v/\Q v H
noncomputable def L7 (K:PySem.W.Frag):R2:=λx y H Q=>∃p xs i v,x=.ref p/\y=.int i/\d7 K H p xs/\fK xs i=some v/\Q v H
theorem v5:DJ X (L6 X.K):=by
 intro value slice pins s σ H x y v u Q I rx ry h hs
 obtain⟨p,xs,i,z,rfl,rfl,hq,he,q⟩:=h
 cases rx
 obtain⟨t,rfl⟩:=ry
 obtain⟨aU,r,pl,hz⟩:=I.list hq
 obtain⟨j,h1,h2,h3,h4,h5⟩:=qD he
 obtain⟨w,ew,qw⟩:=r.get h2
 have hl:=r.length
 have hn:=mS
 have fin:EP X pins σ Q w s:=⟨z,H,I,qw,q⟩
 by_cases h0:0<=i
 ·have hj:i.toNat=j:=by
   rw[seqIndex_of h0 h5] at h1
   exact aay h1
  exact item_listR pl.isList h0 (by omega) (by rw[hj];simpa using ew) fin hs
 ·have hj:(i+ (aU.toArray.size:Int)).toNat=j:=by
   rw[seqIndex_neg (by omega) h4] at h1
   rw[aam,<-hl]
   exact aay h1
  exact subscriptTail_builtinR (x:=w) pl.isList.typeIs slot_list_getitem.lookup
   (wpAny_getItem_list_neg (Q:=λr s'=>r=w/\EP X pins σ Q r s') pl.isList (by omega) (by rw[aam] <;>omega) (by omega) (by rw[hj];simpa using ew) ⟨rfl,fin⟩) hs
theorem EI:DJ X (L7 X.K):=by
 intro value slice pins s σ H x y v u Q I rx ry h hs
 obtain⟨p,xs,i,z,rfl,rfl,hq,he,q⟩:=h
 cases rx
 obtain⟨t,rfl⟩:=ry
 obtain⟨aU,r,pl,hz⟩:=I.tuple hq
 obtain⟨j,h1,h2,h3,h4,h5⟩:=qD he
 obtain⟨w,ew,qw⟩:=r.get h2
 have hl:=r.length
 have hn:=mS
 have fin:EP X pins σ Q w s:=⟨z,H,I,qw,q⟩
 exact subscriptTail_builtinR (x:=w) pl.typeIs slot_tuple_getitem.lookup
  (getItem_tuple (j:=j) (Q:=λr s'=>r=w/\EP X pins σ Q r s') pl (by omega) (by omega) (by rw[aam,<-hl];exact h1) (by simpa using ew) ⟨rfl,fin⟩) hs
theorem uX (aU:List Value) (n j:Nat) (u:Value):Obj.mapSeq (·.setIfInBounds j u) {cls:=.type "list",data:=.seq aU.toArray n}={cls:=.type "list",data:=.seq (aU.set j u).toArray n}:=by
 simp [Obj.mapSeq]
theorem Inv.lst {pins:List (Addr×Obj)} {σ:St} {H:Hp} {s:Shared} {p:Addr} {xs:List V} (I:Inv X pins σ H s) (h:H p=some (.lst xs)):
  ∃(aU:List Value) (n:Nat),bu xs aU/\s.heap.get? p=some {cls:=.type "list",data:=.seq aU.toArray n}/\xs.length<=sizeLine:=by
 obtain⟨z,aU,n,r,e⟩:=I.bT p _ h
 exact⟨aU,n,r,e,z⟩
theorem Inv.EJ {pins:List (Addr×Obj)} {σ:St} {H:Hp} {s:Shared} {p:Addr} {xs ys:List V} {aU its':List Value} {n n':Nat} {f:Obj->Obj} (I:Inv X pins σ H s) (h:H p=some (.lst xs))
  (ho:s.heap.get? p=some {cls:=.type "list",data:=.seq aU.toArray n}) (hf:f {cls:=.type "list",data:=.seq aU.toArray n}={cls:=.type "list",data:=.seq its'.toArray n'}) (r:bu ys its') (hz:ys.length<=sizeLine) (t:Nat):
  Inv X pins σ (upd H p (.lst ys)) {s with heap:=s.heap.update p f,toks:=t}:=by
 have e:(s.heap.update p f).get? p=some {cls:=.type "list",data:=.seq its'.toArray n'}:=by
  rw[Heap.get?_update_self f ho (by rw[hf] <;>rfl),hf]
 refine I.write (x:=p) (e:=p) (by rw[h];trivial) (.inl rfl) (λb u hb q=>(Heap.get?_update_other _ _ (Ne.symm hb)).trans q) ⟨_,e⟩ ?_
 exact⟨hz,its',n',r,e⟩
noncomputable def rSetL:V->V->V->Hp->(Hp->Prop)->Prop:=λo i v H Q=>∃p xs k j,o=.ref p/\i=.int k/\H p=some (.lst xs)/\xT xs.length k=some j/\Q (upd H p (.lst (xs.set j v)))
theorem set_list:Ex X rSetL:=by
 intro pins s σ H o i v ov iv u Q I ro ri rv h
 obtain⟨p,xs,k,j,rfl,rfl,hp,hj,q⟩:=h
 cases ro
 obtain⟨t,rfl⟩:=ri
 obtain⟨aU,n,r,ho,hz⟩:=I.lst hp
 obtain⟨h1,h2,h3,h4⟩:=v3 hj
 have hl:=r.length
 have hn:=mS
 have I':Inv X pins σ (upd H p (.lst (xs.set j v))) {s with heap:=s.heap.update p (Obj.mapSeq (·.setIfInBounds j u))}:=
  I.EJ hp ho (uX aU n j u) (r.set rv j) (by rw[aaT];exact hz) s.toks
 by_cases h0:0<=k
 ·have hk:k.toNat=j:=by
   rw[seqIndex_of h0 h4] at h1
   exact aay h1
  exact PySem.W.ki_setAt ho h0 (by omega) (by rw[aam,<-hl];exact h4) (by rw[hk];exact⟨_,I',q⟩)
 ·have hk:(k+ (aU.toArray.size:Int)).toNat=j:=by
   rw[seqIndex_neg (by omega) h3] at h1
   rw[aam,<-hl]
   exact aay h1
  exact PySem.W.ki_setBack ho (by omega) (by rw[aam,<-hl];exact h3) (by omega) (by rw[hk];exact⟨_,I',q⟩)
theorem qE (lo hi:Option Int) (n:Nat):(sliceBounds lo hi none n).1=((HT.dA n 0 lo:Nat):Int)/\(sliceBounds lo hi none n).2.1=((HT.dA n n hi:Nat):Int)/\(sliceBounds lo hi none n).2.2=1:=by
 refine⟨?_,?_,rfl⟩
 ·cases lo with
  | none=>simp [sliceBounds,HT.dA]
  | some i=>
   simp only[sliceBounds,HT.dA,Option.getD_none,show(1:Int) >0 by decide,if_true]
   by_cases h:i<0
   ·simp only[h,if_true] <;>omega
   ·simp only[h,if_false] <;>omega
 ·cases hi with
  | none=>simp [sliceBounds,HT.dA]
  | some i=>
   simp only[sliceBounds,HT.dA,Option.getD_none,show(1:Int) >0 by decide,if_true]
   by_cases h:i<0
   ·simp only[h,if_true] <;>omega
   ·simp only[h,if_false] <;>omega
theorem oV (aU:List Value) (lo hi:Option Int):slicePick aU.toArray lo hi none=((aU.drop (HT.dA aU.length 0 lo)).take (HT.dA aU.length aU.length hi - HT.dA aU.length 0 lo)).toArray:=by
 obtain⟨h1,h2,h3⟩:=qE lo hi aU.toArray.size
 unfold slicePick
 rw[h1,h2,h3]
 simp only[sliceRange_one,pick_run,aam] <;>rfl
noncomputable def rSlL (K:PySem.W.Frag):V->Option Int->Option Int->Hp->VK->Prop:=λx lo hi H Q=>∃a xs,x=.ref a/\bj K H a xs/\∀p,H p=none->Q (.ref p) (upd H p (.lst (iT xs lo hi)))
theorem B9:HI X (rSlL X.K):=by
 intro pins s σ H x v vl vu lo hi sl Q I rx hs pl pu h
 obtain⟨a,xs,rfl,hx,q⟩:=h
 cases rx
 obtain⟨aU,r,ht,hz⟩:=I.list hx
 have hlen:=r.length
 refine⟨"list",_,slot_list_getitem.lookup,ht.isList.typeIs,?_⟩
 refine wpAny_getItem_list_slice ht.isList hs pl pu .none (by simp) ?_ (by rw[aam] <;>omega)
 rw[oV,<-hlen]
 refine⟨.ref s.heap.objs.size,_,I.laid (t':=s.toks) (o:=.lst (iT xs lo hi)) (λb ob q=>Heap.get?_push_of_some _ q) (aah _) ?_,rfl,q _ (I.bT.fresh (aah _))⟩
 exact⟨aap (kD xs lo hi) hz,_,0,(r.drop (HT.dA xs.length 0 lo)).take (HT.dA xs.length xs.length hi - HT.dA xs.length 0 lo),Heap.get?_push_size _ rfl⟩
noncomputable def pK:V->Bool
 | .cE=>true
 | .bl _=>true
 | .int _=>true
 | .str _=>true
 | _=>false
noncomputable def Ul:V->V->Bool
 | .cE,.cE=>true
 | .bl a,.bl b=>a==b
 | .bl a,.int b=>(if a then 1 else 0)==b
 | .int a,.bl b=>a==(if b then 1 else 0)
 | .int a,.int b=>a==b
 | .str a,.str b=>a==b
 | _,_=>false
noncomputable def Wt (x:V) (xs:List V):Bool:=xs.any λy=>Ul y x
theorem jo:c9 X (.builtin "len") (λxs H Q=>∃p ys,xs=[.ref p]/\(bj X.K H p ys\/d7 X.K H p ys)/\Q (.int ys.length) H):=by
 intro pins s σ H xs us Q I r h
 obtain⟨p,ys,rfl,hq,q⟩:=h
 obtain⟨u,rfl,rx⟩:=vals1 r
 cases rx
 have hn:=mS
 rcases hq with hq | hq
 ·obtain⟨aU,r',pl,hz⟩:=I.list hq
  have hlen:=r'.length
  exact Calls.call_len_list pl.isList (by simp only[aam] <;>omega) ⟨.int ys.length,H,I.tok _,⟨s.toks+1,by rw[aam,hlen]⟩,q⟩
 ·obtain⟨aU,r',pl,hz⟩:=I.tuple hq
  have hlen:=r'.length
  exact len_tuple pl (by simp only[aam] <;>omega) ⟨.int ys.length,H,I.tok _,⟨s.toks+1,by rw[aam,hlen]⟩,q⟩
theorem qF:c9 X (.type "list") (λxs H Q=>∃p ys,xs=[.ref p]/\(bj X.K H p ys\/d7 X.K H p ys)/\∀l,H l=none->Q (.ref l) (upd H l (.lst ys))):=by
 intro pins s σ H xs us Q I r h
 obtain⟨p,ys,rfl,hq,q⟩:=h
 obtain⟨u,rfl,rx⟩:=vals1 r
 cases rx
 have fin:∀(aU:List Value),bu ys aU->ys.length<=sizeLine->∀(h':Heap) (c':Nat),(∀b o',s.heap.get? b=some o'->h'.get? b=some o')->
   h'.get? s.heap.objs.size=some {cls:=.type "list",dict:=none,data:=.seq aU.toArray c',slots:=#[]}->EP X pins σ Q (.ref s.heap.objs.size) {s with heap:=h'}:=λaU r' hz h' c' kp e=>
  ⟨.ref s.heap.objs.size,_,I.laid (t':=s.toks) kp (aah _) (show cK X.prog X.w _ h' _ (.lst ys) from⟨hz,aU,c',r',e⟩),rfl,q _ (I.bT.fresh (aah _))⟩
 rcases hq with hq | hq
 ·obtain⟨aU,r',pl,hz⟩:=I.list hq
  have hlen:=r'.length
  obtain⟨o,ho,hc,n,hd⟩:=pl.isList
  exact call_list_seq p (.inl rfl) ho hc hd (λh' c' kp e=>fin aU r' hz h' c' kp e) (by simp only[aam] <;>omega)
 ·obtain⟨aU,r',pl,hz⟩:=I.tuple hq
  have hlen:=r'.length
  obtain⟨o,ho,hc,n,hd⟩:=pl
  exact call_list_seq p (.inr rfl) ho hc hd (λh' c' kp e=>fin aU r' hz h' c' kp e) (by simp only[aam] <;>omega)
noncomputable def L8 (K:PySem.W.Frag) (T:String) (x:V) (H:Hp):Prop:=match x with
 | .str _=>T="str"
 | .int _=>T="int"
 | .ref p=>(T="list"/\∃xs,bj K H p xs)\/(T="tuple"/\∃o,K.lookup p=some o/\o.cls=.type "tuple"/\o.dict=none)\/
   (T="dict"/\((∃kvs,H p=some (.dK kvs))\/∃kvs,H p=some (.dT kvs)))\/(T="set"/\∃S n,H p=some (.set S n))
 | _=>False
theorem EK {pins:List (Addr×Obj)} {σ:St} {H:Hp} {s:Shared} {T:String} {x:V} {v:Value} (I:Inv X pins σ H s) (r:RelV x v) (ty:L8 X.K T x H):
  s.TypeIs v T/\∀a,v=.ref a->∃ob,s.heap.get? a=some ob/\ob.dict=none:=by
 cases x with
 | str z=>
  obtain⟨t,rfl⟩:=r
  cases (show T="str" from ty)
  exact⟨typeIs_str s z t,λ_ e=>nomatch e⟩
 | int i=>
  obtain⟨t,rfl⟩:=r
  cases (show T="int" from ty)
  exact⟨typeIs_int s i t,λ_ e=>nomatch e⟩
 | ref p=>
  cases r
  rcases ty with ⟨rfl,xs,hq⟩ | ⟨rfl,o,hk,hc,hd⟩ | ⟨rfl,hk⟩ | ⟨rfl,S,n,hk⟩
  ·obtain⟨aU,_,pl,_⟩:=I.list hq
   refine⟨pl.isList.typeIs,λa e=>?_⟩
   cases e
   obtain⟨o,n,e,c,hd,_⟩:=pl
   exact⟨o,e,hd⟩
  ·refine⟨⟨o,I.vQ p o hk,hc⟩,λa e=>?_⟩
   cases e
   exact⟨o,I.vQ _ o hk,hd⟩
  ·have z:∃o,s.heap.get? p=some o/\o.ExactDict:=by
    rcases hk with ⟨kvs,hk⟩ | ⟨kvs,hk⟩
    ·obtain⟨_,_,_,_,o,_,_,e,ex,_⟩:=I.bT p _ hk
     exact⟨o,e,ex⟩
    ·obtain⟨_,_,_,_,o,_,_,e,ex,_⟩:=I.bT p _ hk
     exact⟨o,e,ex⟩
   obtain⟨o,e,ex⟩:=z
   refine⟨⟨o,e,ex.1⟩,λa e2=>?_⟩
   cases e2
   exact⟨o,e,ex.2.1⟩
  ·obtain⟨o,_,_,_,e,ex,_⟩:=I.bT p _ hk
   refine⟨⟨o,e,ex.1⟩,λa e2=>?_⟩
   cases e2
   exact⟨o,e,ex.2.1⟩
 | _=>exact False.elim ty
noncomputable def tBM (K:PySem.W.Frag) (T:String) (r:V->List V->Hp->VK->Prop) (to:TE) (t:TA):TE:=λσ H Q=>to σ H λx H1=>L8 K T x H1/\t σ H1 λxs H2=>r x xs H2 Q
variable {o e : Expr} {es : List Expr} {to : TE} {t : TA} {name : Str} {apos gA : Pos} {T id : String} {r : V -> List V -> Hp -> VK -> Prop}
theorem eF (pa:PlainAttrs T) (slot:Slot T name id) (Wu:typeOf (.builtin id)=pure (.type "method_descriptor")) (hm:GW X id r) (ho:PE X o to) (ha:PA X (e::es) t)
  (HJ:attributeBase o name X.env (eval o X.env)=eval o X.env:=by rfl)
  (L9:((backTo gA (starEach (e::es) X.env)).all (λx=>!x.1) && (backToKw gA (keywordEach [] X.env)).all (λx=>x.1.isSome)
   && decide ((e::es).length+ ([]:List Keyword).length+ (if ([]:List Keyword).isEmpty then 0 else 1)<30))=true:=by rfl)
  (HK:(apos.endLine==gA.line)=true:=by rfl) (hs:starEach (e::es) X.env=(false,eval e X.env)::starEach es X.env:=by rfl) (EL:(backTo gA (starEach es X.env)).any (·.1)=false:=by rfl):
  PE X (.Call (.Attribute o name apos) (e::es) [] gA) (tBM X.K T r to t):=by
 intro pins s σ H Q I h
 refine wpAny_Call_method_late HJ L9 HK rfl (cA (ho pins s σ H _ I h) λv s1 c6=>?_)
 obtain⟨x,H1,I1,r1,ty,q1⟩:=c6
 obtain⟨h1,h2⟩:=EK I1 r1 ty
 refine⟨T,id,pa,slot,Wu,h1,h2,?_⟩
 have hA:=ha gA pins s1 σ H1 _ I1 q1
 rw[hs] at hA ⊢
 refine Calls.callWith_builtin (by show(false || (backTo gA (starEach es X.env)).any (·.1))=false;rw[EL] <;>rfl) (Calls.evalArgs_plain ?_)
 exact cA hA λus s2 ⟨vs,H2,I2,r2,q2⟩=>hm pins s2 σ H2 x vs v us Q I2 r1 r2 q2
end
end L2
namespace L2
open PySem PySem.Spec PyProof.Rows
noncomputable def HL (X:Cx) (id:String) (r:V->List V->Hp->VK->Prop):Prop:=
 ∀(pins:List (Addr×Obj)) (s:Shared) (σ:St) (H:Hp) (x:V) (xs:List V) (v:Value) (us:List Value) (Q:VK),Inv X pins σ H s->RelV x v->bu xs us->r x xs H Q->
  wpAny (model X.prog X.w) X.A (call (.builtin id) (v::us)) (EP X pins σ Q) X.xe s
theorem bu.one:∀{x:V} {us:List Value},bu [x] us->∃u,us=[u]/\RelV x u
 | _,_,.cons r .nil=>⟨_,rfl,r⟩
theorem bu.rep {xs:List V} {us:List Value} (h:bu xs us):∀k:Nat,bu (List.replicate k xs).flatten (List.replicate k us).flatten
 | 0=>.nil
 | k+1=>by
  rw[abn,abn,List.flatten_cons,List.flatten_cons]
  exact bu.append h (bu.rep h k)
theorem foldl_rep (aU:List Value):∀(k:Nat) (acc:List Value),
  List.foldl (λx1 x2=>x1++x2) acc.toArray (List.replicate k aU.toArray)=(acc++ (List.replicate k aU).flatten).toArray
 | 0,acc=>by simp
 | k+1,acc=>by
  have e:acc.toArray++aU.toArray=(acc++aU).toArray:=by simp
  have e2:(acc++aU)++ (List.replicate k aU).flatten=acc++ (List.replicate (k+1) aU).flatten:=by
   rw[abn,List.flatten_cons,List.append_assoc]
  rw[<-e2,<-foldl_rep aU k (acc++aU),<-e,abn,List.foldl_cons]
section
variable {X : Cx} {pins : List (Addr × Obj)} {σ : St} {H : Hp} {s : Shared} {l b : Addr} {xs ys zs : List V}
theorem Inv.HM {aU its':List Value} {n:Nat} {f:Array Value->Array Value} {t':Nat} (I:Inv X pins σ H s) (hH:H l=some (.lst xs))
  (e:s.heap.get? l=some {cls:=.type "list",data:=.seq aU.toArray n}) (hf:f aU.toArray=its'.toArray) (hv:bu ys its') (hz:ys.length<=sizeLine):
  Inv X pins σ (upd H l (.lst ys)) {s with heap:=s.heap.update l (Obj.mapSeq f),toks:=t'}:=by
 have q:=PySem.IsL.update e f
 rw[hf] at q
 refine I.write (x:=l) (e:=l) (by rw[hH];exact trivial) (.inl rfl) (λb' u hb hu=>(Heap.get?_update_other s.heap (Obj.mapSeq f) (Ne.symm hb)).trans hu) ⟨_,q⟩ ?_
 exact⟨hz,its',_,hv,q⟩
theorem Inv.uY {aU:List Value} {t':Nat} (I:Inv X pins σ H s) (hv:bu ys aU) (hz:ys.length<=sizeLine):
  Inv X pins σ (upd H s.heap.objs.size (.lst ys)) {s with heap:=s.heap.push {cls:=.type "list",data:=.seq aU.toArray},toks:=t'}:=
 I.laid (λ_ _ q=>Heap.get?_push_of_some _ q) (aah _) ⟨hz,aU,0,hv,Heap.get?_push_size _ rfl⟩
theorem Inv.fresh (I:Inv X pins σ H s):H s.heap.objs.size=none:=I.bT.fresh (aah _)
theorem Inv.y4 (I:Inv X pins σ H s) (hH:H l=some (.lst xs)):xs.length<=sizeLine/\∃(aU:List Value) (n:Nat),bu xs aU/\xs.length=aU.length/\s.heap.get? l=some {cls:=.type "list",data:=.seq aU.toArray n}:=by
 obtain⟨z,aU,n,r,e⟩:=I.bT l _ hH
 exact⟨z,aU,n,r,r.length,e⟩
theorem y7 {n:Nat} (h:n<=sizeLine):Builtin.List.listTooLong n=false:=by
 unfold Builtin.List.listTooLong
 exact decide_eq_false (by omega)
end
section
variable {X : Cx}
noncomputable def c8:V->List V->Hp->VK->Prop:=λx vs H Q=>∃l xs y,x=.ref l/\vs=[y]/\H l=some (.lst xs)/\xs.length<sizeLine/\Q .cE (upd H l (.lst (xs++ [y])))
theorem cB:HL X "list.append" c8:=by
 intro pins s σ H x vs v us Q I rx rv h
 obtain⟨l,xs,y,rfl,rfl,hH,hz,q⟩:=h
 cases rx
 obtain⟨u,rfl,ru⟩:=rv.one
 obtain⟨z,aU,n,r,hl,e⟩:=I.y4 hH
 refine call_meets F.slot_list_append ⟨_,e,rfl⟩ F.entry_list_append (F.args_list_append_2 _ _) (PySem.list_append l aU.toArray n u (by rw[aam];omega)) ⟨e,?_⟩
 refine⟨.cE,_,I.HM (its':=aU++ [u]) hH e (by simp) (r.append (.cons ru .nil)) ?_,rfl,q⟩
 rw[aaD,List.length_singleton]
 omega
noncomputable def HN:R2:=λx y H Q=>∃l b xs zs,x=.ref l/\y=.ref b/\H l=some (.lst xs)/\H b=some (.lst zs)/\xs.length+zs.length<=sizeLine/\∀p,H p=none->Q (.ref p) (upd H p (.lst (xs++zs)))
theorem EM:kr X (binaryOp .Add) HN:=by
 intro pins s σ H x y v u Q I rx ry h
 obtain⟨l,b,xs,zs,rfl,rfl,hH,hB,hz,q⟩:=h
 cases rx
 cases ry
 obtain⟨z,aU,n,r,hl,e⟩:=I.y4 hH
 obtain⟨z2,mZ,n2,r2,Ca,e2⟩:=I.y4 hB
 refine PySem.P.add_list e e2 ?_ (by rw[aam,aam];omega)
 have ea:aU.toArray++mZ.toArray=(aU++mZ).toArray:=by simp
 rw[ea]
 exact⟨.ref _,_,I.uY (t':=s.toks) (r.append r2) (by rw[aaD];omega),rfl,q _ I.fresh⟩
noncomputable def y8:R2:=λx y H Q=>∃l k xs,x=.ref l/\y=.int k/\H l=some (.lst xs)/\-(2^63)<=k/\k<2^63/\xs.length*k.toNat<=sizeLine/\
 ∀p,H p=none->Q (.ref p) (upd H p (.lst (List.replicate k.toNat xs).flatten))
theorem len_rep {α:Type} (xs:List α) (k:Nat):(List.replicate k xs).flatten.length=k*xs.length:=by
 induction k with
 | zero=>simp
 | succ k ih=>rw[abn,List.flatten_cons,aaD,ih,Nat.succ_mul,Nat.add_comm]
theorem qG:kr X (binaryOp .Mult) y8:=by
 intro pins s σ H x y v u Q I rx ry h
 obtain⟨l,k,xs,rfl,rfl,hH,h1,h2,hz,q⟩:=h
 cases rx
 obtain⟨t,rfl⟩:=ry
 obtain⟨z,aU,n,r,hl,e⟩:=I.y4 hH
 have hlen:aU.toArray.size*k.toNat<=sizeLine:=by rw[aam,<-hl];exact hz
 have Ma:¬aU.toArray.size*k.toNat >(2^63 - 1) / 8:=by
  have:(sizeLine:Nat)<=(2^63 - 1) / 8:=by decide
  omega
 have EN:¬(!Builtin.List.listFitsIndex k)=true:=by
  rw[fitsIndex_both h1 h2]
  exact aaz
 have HP:¬Builtin.List.listTooLong (aU.toArray.size*k.toNat)=true:=by
  rw[y7 hlen]
  exact aaz
 have Mb:List.foldl (λx1 x2=>x1++x2) #[] (List.replicate (if aU.toArray.isEmpty=true then 0 else k.toNat) aU.toArray)=(List.replicate k.toNat aU).flatten.toArray:=by
  have f0:∀m:Nat,List.foldl (λx1 x2=>x1++x2) #[] (List.replicate m aU.toArray)=(List.replicate m aU).flatten.toArray:=λm=>by
   have:=foldl_rep aU m []
   rw[List.nil_append] at this
   exact this
  rw[f0]
  cases aU with
  | nil=>simp
  | cons a r'=>rw[if_neg (by simp)]
 refine wpAny_binaryOp_repeat_ref (T:="list") (U:="int") (by decide) ⟨_,e,rfl⟩ (λs'=>typeIs_int s' k t) noFill_list_mul F.fills_int_mul F.slot_int_rmul repeat_list F.slot_int_index.lookup
  (call_meets F.slot_int_rmul (typeIs_int s k t) F.entry_int_rmul (F.args_int_rmul_2 _ _) (int___rmul___int_list k t l aU.toArray n)
   ⟨e,rfl,⟨_,e,rfl⟩,call_meets F.slot_list_mul ⟨_,e,rfl⟩ F.entry_list_mul (F.args_list_mul_2 _ _) (AutoListH.list___mul___list_int_3 l aU.toArray n k t EN Ma HP) ⟨e,?_⟩⟩)
 rw[Mb]
 exact⟨.ref _,_,I.uY (t':=s.toks) (r.rep k.toNat) (by rw[len_rep,Nat.mul_comm];exact hz),rfl,q _ I.fresh⟩
end
section
variable {prog : Program} {w : World} {A : Around} {E : Value -> Shared -> Prop} {s : Shared}
end
section
variable {X : Cx}
end
end L2
namespace L2
open PySem PySem.Spec PyProof.Rows
section
variable {κ : Type} [DecidableEq κ]
noncomputable def gN (kvs:List (κ×V)) (k:κ):Option V:=(kvs.find? λkv=>decide (kv.1=k)).map (·.2)
noncomputable def putK (kvs:List (κ×V)) (k:κ) (v:V):List (κ×V):=
 if (kvs.any λkv=>decide (kv.1=k))=true then kvs.map (λkv=>if kv.1=k then (kv.1,v) else kv) else kvs++ [(k,v)]
noncomputable def HQ (kvs:List (κ×V)) (k:κ):List (κ×V):=kvs.filter λkv=>decide (kv.1≠k)
theorem jr {p:κ×V} {r:List (κ×V)} {k:κ} (e:p.1=k):gN (p::r) k=some p.2:=by simp [gN,List.find?_cons,e]
theorem gO {p:κ×V} {r:List (κ×V)} {k:κ} (e:¬p.1=k):gN (p::r) k=gN r k:=by simp [gN,List.find?_cons,e]
theorem m4 (k:κ):∀kvs:List (κ×V),(kvs.any λkv=>decide (kv.1=k))=(gN kvs k).isSome
 | []=>rfl
 | p::r=>by
  rw[List.any_cons]
  by_cases e:p.1=k
  ·simp only[jr e,decide_eq_true e,Bool.true_or,Option.isSome_some]
  ·rw[gO e,decide_eq_false e,Bool.false_or];exact m4 k r
theorem kE (kvs:List (κ×V)) (k:κ) (v:V):(putK kvs k v).length<=kvs.length+1:=by
 unfold putK
 split
 ·rw[aac];omega
 ·rw[aaD,aar,abe];omega
theorem sO {kvs:List (κ×V)} {k:κ} (v:V) (h:gN kvs k=none):putK kvs k v=kvs++ [(k,v)]:=by
 unfold putK
 rw[m4,h]
 exact if_neg (by decide)
theorem iy.fm {o:Option V} {u:Option Value} (r:iy o u):o.isSome=u.isSome:=by
 cases o with
 | none=>cases u with
  | none=>rfl
  | some _=>exact(show False from r).elim
 | some _=>cases u with
  | none=>exact(show False from r).elim
  | some _=>rfl
theorem KV.val {kvs:List (κ×V)} {vs:List (κ×Value)} (r:KV kvs vs) (k:κ):iy (gN kvs k) (valueAt vs k):=by
 unfold KV at r
 induction r with
 | nil=>exact True.intro
 | @cons p q ps qs h t ih=>
  obtain⟨h1,h2⟩:=h
  by_cases e:p.1=k
  ·have e':q.1=k:=h1.symm.trans e
   have b:valueAt (q::qs) k=some q.2:=by simp [valueAt,List.find?_cons,e']
   rw[jr e,b];exact h2
  ·have e':¬q.1=k:=λz=>e (h1.trans z)
   have b:valueAt (q::qs) k=valueAt qs k:=by simp [valueAt,List.find?_cons,e']
   rw[gO e,b];exact ih
theorem KV.any {kvs:List (κ×V)} {vs:List (κ×Value)} (r:KV kvs vs) (k:κ):(kvs.any λkv=>decide (kv.1=k))=vs.any λkv=>decide (kv.1=k):=by
 unfold KV at r
 induction r with
 | nil=>rfl
 | cons h t ih=>rw[List.any_cons,List.any_cons,ih,h.1]
theorem KV.EO {kvs:List (κ×V)} {vs:List (κ×Value)} (r:KV kvs vs) (k:κ) {y:V} {u:Value} (ry:RelV y u):
  KV (kvs.map λkv=>if kv.1=k then (kv.1,y) else kv) (vs.map λkv=>if kv.1=k then (kv.1,u) else kv):=by
 unfold KV at r ⊢
 induction r with
 | nil=>exact .nil
 | @cons p q ps qs h t ih=>
  rw[aat,aat]
  refine .cons ?_ ih
  obtain⟨h1,h2⟩:=h
  by_cases e:p.1=k
  ·rw[if_pos e,if_pos (h1.symm.trans e)];exact⟨h1,ry⟩
  ·rw[if_neg e,if_neg (λz=>e (h1.trans z))];exact⟨h1,h2⟩
theorem KV.put {kvs:List (κ×V)} {vs:List (κ×Value)} (r:KV kvs vs) (k:κ) {y:V} {u:Value} (ry:RelV y u):KV (putK kvs k y) (stored vs k u):=by
 unfold putK stored
 rw[r.any k]
 by_cases e:(vs.any λkv=>decide (kv.1=k))=true
 ·rw[if_pos e,if_pos e];exact r.EO k ry
 ·rw[if_neg e,if_neg e];exact Paired.snoc r ⟨rfl,ry⟩
theorem KV.length {kvs:List (κ×V)} {vs:List (κ×Value)} (r:KV kvs vs):kvs.length=vs.length:=Paired.length r
end
theorem kF {P:Program} {w:World} {k:Key} {u:Value} (r:RelV (kV k) u):(bX P w).is k u=true:=by
 cases k with
 | inl i=>obtain⟨t,e⟩:=(show ∃t,u=Value.int i t from r);subst e;exact sr P w i t
 | inr x=>obtain⟨t,e⟩:=(show ∃t,u=Value.str x t from r);subst e;exact su P w x t
theorem pL {P:Program} {w:World}:∀{ks:List Key} {us:List Value},bu (ks.map kV) us->ItemsAre (bX P w) ks us
 | [],_,r=>by rw[aa0] at r;cases r;exact .nil
 | k::ks,_,r=>by
  rw[aat] at r
  cases r with
  | cons h t=>exact .cons (kF h) (pL t)
abbrev KT (H:Hp):List (List Key×V)->List (List Key×Addr×Value)->Prop:=Paired λp q=>p.1=q.1/\H q.2.1=some (.tup (p.1.map kV))/\RelV p.2 q.2.2
theorem KT.val {H:Hp} {kvs:List (List Key×V)} {xs:List (List Key×Addr×Value)} (r:KT H kvs xs) (k:List Key):iy (gN kvs k) ((atKey xs k).map (·.2)):=by
 induction r with
 | nil=>exact True.intro
 | @cons p q ps qs h t ih=>
  obtain⟨h1,_,h2⟩:=h
  by_cases e:p.1=k
  ·have e':q.1=k:=h1.symm.trans e
   have b:atKey (q::qs) k=some q.2:=by simp [atKey,List.find?_cons,e']
   rw[jr e,b];exact h2
  ·have e':¬q.1=k:=λz=>e (h1.trans z)
   have b:atKey (q::qs) k=atKey qs k:=by simp [atKey,List.find?_cons,e']
   rw[gO e,b];exact ih
theorem KT.EO {H:Hp} {kvs:List (List Key×V)} {xs:List (List Key×Addr×Value)} (r:KT H kvs xs) (k:List Key) {y:V} {u:Value} (ry:RelV y u):
  KT H (kvs.map λkv=>if kv.1=k then (kv.1,y) else kv) (xs.map (putAt k u)):=by
 induction r with
 | nil=>exact .nil
 | @cons p q ps qs h t ih=>
  rw[aat,aat]
  refine .cons ?_ ih
  obtain⟨h1,h2,h3⟩:=h
  unfold putAt
  by_cases e:p.1=k
  ·rw[if_pos e,if_pos (h1.symm.trans e)];exact⟨h1,h2,ry⟩
  ·rw[if_neg e,if_neg (λz=>e (h1.trans z))];exact⟨h1,h2,h3⟩
theorem KT.put {H:Hp} {kvs:List (List Key×V)} {xs:List (List Key×Addr×Value)} (r:KT H kvs xs) (k:List Key) {b:Addr} {y:V} {u:Value} (hb:H b=some (.tup (k.map kV))) (ry:RelV y u):
  KT H (putK kvs k y) (storedH xs k b u):=by
 have e:(kvs.any λkv=>decide (kv.1=k))=(atKey xs k).isSome:=by
  rw[m4,(r.val k).fm,Option.isSome_map]
 unfold putK storedH
 rw[e]
 by_cases q:(atKey xs k).isSome=true
 ·rw[if_pos q,if_pos q];exact r.EO k ry
 ·rw[if_neg q,if_neg q];exact Paired.snoc r ⟨rfl,hb,ry⟩
theorem KT.keeps {H H':Hp} {kvs:List (List Key×V)} {xs:List (List Key×Addr×Value)} (r:KT H kvs xs) (ht:∀b ys,H b=some (.tup ys)->H' b=some (.tup ys)):KT H' kvs xs:=
 Paired.Ep r λ_ _ z=>⟨z.1,ht _ _ z.2.1,z.2.2⟩
section
variable {P : Program} {w : World} {H : Hp} {h : Heap} {a : Addr}
theorem DK {u:HO} (ok:gz P w H h) (e:Rd H a u):cK P w H h a u:=e.ok ok
theorem pM {kvs:List (Key×V)} (ok:gz P w H h) (e:Rd H a (.dK kvs)):kvs.length<=sizeLine/\(a==sysModules)=false/\∃vs,KV kvs vs/\h.DictOf (bX P w) a vs:=
 show cK P w H h a (.dK kvs) from DK ok e
theorem DL {kvs:List (Key×V)} (ok:gz P w H h) (e:H a=some (.dK kvs)):kvs.length<=sizeLine/\(a==sysModules)=false/\∃vs,KV kvs vs/\h.DictOf (bX P w) a vs:=pM ok (.inl e)
theorem m6 {ks:List Key} (ok:gz P w H h) (e:H a=some (.tup (ks.map kV))):(tupleKind (bX P w)).is h ks a:=by
 obtain⟨_,aU,r,o,h1,h2,n,h3⟩:=(show cK P w H h a (.tup (ks.map kV)) from ok a _ e)
 exact⟨o,aU.toArray,n,h1,h2,h3,by simpa using pL r⟩
theorem sP {kvs:List (List Key×V)} (ok:gz P w H h) (e:Rd H a (.dT kvs)):kvs.length<=sizeLine/\(a==sysModules)=false/\
  ∃xs,KT H kvs xs/\h.DictOfH (tupleKind (bX P w)) a xs:=by
 obtain⟨z,y,xs,r,o,es,ep,h1,h2,h3,h4,h5⟩:=(show cK P w H h a (.dT kvs) from DK ok e)
 refine⟨z,y,xs,r,o,es,ep,h1,h2,h3,h4,λx hx=>?_,h5⟩
 have all:∀{l:List (List Key×V)} {m:List (List Key×Addr×Value)},KT H l m->∀x∈m,(tupleKind (bX P w)).is h x.1 x.2.1:=by
  intro l m q
  induction q with
  | nil=>intro x hx;exact nomatch hx
  | @cons p q ps qs hq t ih=>
   intro x hx
   rcases List.mem_cons.mp hx with e | hx
   ·subst e
    exact m6 ok (by rw[<-hq.1];exact hq.2.1)
   ·exact ih x hx
 exact all r x hx
theorem HR {kvs:List (List Key×V)} (ok:gz P w H h) (e:H a=some (.dT kvs)):kvs.length<=sizeLine/\(a==sysModules)=false/\
  ∃xs,KT H kvs xs/\h.DictOfH (tupleKind (bX P w)) a xs:=sP ok (.inl e)
end
noncomputable def jV (H:Hp) (a:Addr) (y:V) (r:Option V):Prop:=
 (∃kvs k,Rd H a (.dK kvs)/\y=kV k/\r=gN kvs k)\/∃kvs k b,Rd H a (.dT kvs)/\y=.ref b/\H b=some (.tup (k.map kV))/\r=gN kvs k
noncomputable def uZ (H:Hp) (a:Addr) (y v:V) (H':Hp):Prop:=
 (∃kvs k,H a=some (.dK kvs)/\y=kV k/\kvs.length<sizeLine/\H'=upd H a (.dK (putK kvs k v)))\/
 ∃kvs k b,H a=some (.dT kvs)/\y=.ref b/\H b=some (.tup (k.map kV))/\kvs.length<sizeLine/\H'=upd H a (.dT (putK kvs k v))
theorem uZ.k {H:Hp} {a:Addr} {kvs:List (Key×V)} {k:Key} {v:V} (e:H a=some (.dK kvs)) (hl:kvs.length<sizeLine):uZ H a (kV k) v (upd H a (.dK (putK kvs k v))):=.inl ⟨kvs,k,e,rfl,hl,rfl⟩
section
variable {X : Cx} {pins : List (Addr × Obj)} {σ : St} {H : Hp} {s : Shared} {a : Addr} {y v : V} {u r : Value} {o : Option V} {A : Around} {E : Value -> Shared -> Prop}
theorem Inv.Cb (I:Inv X pins σ H s):sysModules<s.heap.objs.size:=by
 have h:mainGlobals<s.heap.objs.size:=(I.mod.glob.keeps I.bk).lt
 exact Nat.lt_trans (by decide) h
theorem xU {Q:Value->Shared->Prop} (hu:A.units+1<cLine) (I:Inv X pins σ H s) (g:jV H a y (some v)) (ry:RelV y u) (h:∀w' s',Inv X pins σ H s'->RelV v w'->Q w' s'):
  wpAny (model X.prog X.w) A (getItem (.ref a) u) Q E s:=by
 rcases g with ⟨kvs,k,e,ey,l⟩ | ⟨kvs,k,b,e,ey,eb,l⟩
 ·subst ey
  obtain⟨z,hd,vs,rel,dd⟩:=pM I.bT e
  obtain⟨w',hw,qw⟩:=iy.some_of (v:=v) (o:=valueAt vs k) (by rw[l];exact rel.val k)
  exact wpAny_getItem_of (kF ry) dd.mapOf hw (h w' _ (I.tok _) qw)
 ·subst ey
  cases (show u=Value.ref b from ry)
  obtain⟨z,hd,xs,rel,dd⟩:=sP I.bT e
  obtain⟨w',hw,qw⟩:=iy.some_of (v:=v) (o:=(atKey xs k).map (·.2)) (by rw[l];exact rel.val k)
  obtain⟨p,hp,pN⟩:=Option.map_eq_some_iff.mp hw
  refine wpAny_getItem_heap (tupleKind_room_in1 hu) (m6 I.bT eb) dd hp ?_
  rw[pN]
  exact h w' _ (I.tok _) qw
theorem Mc {Q:Value->Shared->Prop} (hu:A.units+1<cLine) (I:Inv X pins σ H s) (g:jV H a y o) (ry:RelV y u) (h:∀s',Inv X pins σ H s'->Q (.bool o.isSome) s'):
  wpAny (model X.prog X.w) A (compareOp .In u (.ref a)) Q E s:=by
 rcases g with ⟨kvs,k,e,ey,l⟩ | ⟨kvs,k,b,e,ey,eb,l⟩
 ·subst ey
  obtain⟨z,hd,vs,rel,dd⟩:=pM I.bT e
  refine wpAny_in_of (kF ry) hd dd.mapOf ?_
  rw[<-(rel.val k).fm,<-l]
  exact h _ (I.tok _)
 ·subst ey
  cases (show u=Value.ref b from ry)
  obtain⟨z,hd,xs,rel,dd⟩:=sP I.bT e
  refine wpAny_in_heap (tupleKind_room_in1 hu) (m6 I.bT eb) hd dd ?_
  have q:=(rel.val k).fm
  rw[Option.isSome_map] at q
  rw[<-q,<-l]
  exact h _ (I.tok _)
theorem Cc {Q:Value->Shared->Prop} (hu:A.units+1<cLine) (I:Inv X pins σ H s) (g:jV H a y o) (ry:RelV y u) (h:∀s',Inv X pins σ H s'->Q (.bool (!o.isSome)) s'):
  wpAny (model X.prog X.w) A (compareOp .NotIn u (.ref a)) Q E s:=by
 rcases g with ⟨kvs,k,e,ey,l⟩ | ⟨kvs,k,b,e,ey,eb,l⟩
 ·subst ey
  obtain⟨z,hd,vs,rel,dd⟩:=pM I.bT e
  refine wpAny_notIn_of (kF ry) hd dd.mapOf ?_
  rw[<-(rel.val k).fm,<-l]
  exact h _ (I.tok _)
 ·subst ey
  cases (show u=Value.ref b from ry)
  obtain⟨z,hd,xs,rel,dd⟩:=sP I.bT e
  refine wpAny_notIn_heap (tupleKind_room_in1 hu) (m6 I.bT eb) hd dd ?_
  have q:=(rel.val k).fm
  rw[Option.isSome_map] at q
  rw[<-q,<-l]
  exact h _ (I.tok _)
theorem qH {h':Heap} {t':Nat} {ob:HO} (I:Inv X pins σ H s) (mu:Hm (H a)) (hs:Heap.SameBut a s.heap h') (he:∃q,h'.get? a=some q) (new:cK X.prog X.w (upd H a ob) h' a ob):
  Inv X pins σ (upd H a ob) {s with heap:=h',toks:=t'}:=
 I.write (x:=a) (e:=a) mu (.inl rfl) (λb q hb z=>(hs.2 b hb).trans z) he new
theorem y9 {P:Program} {w:World} {H':Hp} {h':Heap} {kvs:List (Key×V)} {vs:List (Key×Value)} (z:kvs.length<=sizeLine) (hd:(a==sysModules)=false) (rel:KV kvs vs) (dd:h'.DictOf (bX P w) a vs):
  cK P w H' h' a (.dK kvs):=⟨z,hd,vs,rel,dd⟩
theorem xV {H':Hp} {Q:Unit->Shared->Prop} (hu:A.units+1<cLine) (I:Inv X pins σ H s) (g:uZ H a y v H') (ry:RelV y u) (rv:RelV v r) (h:∀s',Inv X pins σ H' s'->Q () s'):
  wpAny (model X.prog X.w) A (setItem (.ref a) u r) Q E s:=by
 rcases g with ⟨kvs,k,e,ey,l,eH⟩ | ⟨kvs,k,b,e,ey,eb,l,eH⟩
 ·subst ey eH
  obtain⟨z,hd,vs,rel,dd⟩:=DL I.bT e
  have hz:vs.length<=sizeLine:=by rw[<-rel.length];exact z
  have hl:(putK kvs k v).length<=sizeLine:=by have:=kE kvs k v;omega
  refine wpAny_setItem_pairs (hsz:=hz) (kF ry) dd λh' Cd hs=>h _ ?_
  have he:∃q,h'.get? a=some q:=let ⟨q,_,_,hq,_⟩:=Cd;⟨q,hq⟩
  exact qH I (by rw[e];exact True.intro) hs he (y9 hl hd (rel.put k rv) Cd)
 ·subst ey eH
  cases (show u=Value.ref b from ry)
  obtain⟨z,hd,xs,rel,dd⟩:=HR I.bT e
  have hz:xs.length<=sizeLine:=by rw[<-Paired.length rel];exact z
  have hl:(putK kvs k v).length<=sizeLine:=by have:=kE kvs k v;omega
  refine wpAny_setItem_heap (hsz:=hz) (tupleKind_room_in1 hu) (m6 I.bT eb) dd λh' Cd hs=>h _ ?_
  obtain⟨q,es,ep,hq,h2,h3,h4,_,h5⟩:=Cd
  refine qH I (by rw[e];exact True.intro) hs ⟨q,hq⟩ ⟨hl,hd,_,(rel.put k eb rv).keeps λc ys ec=>?_,q,es,ep,hq,h2,h3,h4,h5⟩
  rw[aI (Hl ec e (λz=>nomatch z))]
  exact ec
end
section
variable {X : Cx} {pins : List (Addr × Obj)} {σ : St} {H : Hp} {s : Shared} {a : Addr} {kvs : List (Key × V)} {k : Key} {u : Value} {A : Around} {E : Value -> Shared -> Prop}
end
noncomputable def HS (i:Expr):Prop:=∀ov iv,subscripted i false ov iv=operate [ov,iv] (getItem ov iv)
theorem Ce {prog:Program} {w:World} {A:Around} {E:Value->Shared->Prop} {s:Shared} {env:Env} {value slice:Expr} {pos:Pos} {T id:String} {Q:Value->Shared->Prop}
  (hl:typeLookup (.type T) "__getitem__"=pure (some (.builtin id))) (hs:HS slice)
  (h:wpAny (model prog w) A (eval value env) (λo s₁=>wpAny (model prog w) A (eval slice env) (λi s₂=>s₂.TypeIs o T/\wpAny (model prog w) A (getItem o i) Q E s₂) E s₁) E s):
  wpAny (model prog w) A (eval (.Subscript value slice pos) env) Q E s:=by
 refine Subscript_ (wpAny_mono h (λo s₁ h₁=>wpAny_mono h₁ (λi s₂ h₂=>?_) λ_ _ x=>x) λ_ _ x=>x)
 obtain⟨hT,h₂⟩:=h₂
 unfold subscriptTail
 refine wpAny_bind ?_
 rw[getitemInPython_of_ne hT.not_modules]
 refine wpAny_bind (wpAny_specialOf hT hl ?_)
 have fin:wpAny (model prog w) A (subscripted slice false o i) (λr s₃=>wpAny (model prog w) A (letTemporaryGo value o r >>=λ_=>pure r) Q E s₃) E s₂:=by
  rw[hs o i]
  exact wpAny_operating (wpAny_mono h₂ (λr s₃ h₃=>wpAny_bind (wpAny_letTemporaryGo (wpAny_pure h₃))) λ_ _ x=>x)
 first
  | exact wpAny_pure (wpAny_bind fin)
  | exact wpAny_bind (wpAny_pure (wpAny_bind fin))
  | exact wpAny_bind fin
theorem sQ {X:Cx} {pins:List (Addr×Obj)} {σ:St} {H:Hp} {s:Shared} {a:Addr} {y:V} {o:Option V} (I:Inv X pins σ H s) (g:jV H a y o):s.TypeIs (.ref a) "dict":=by
 rcases g with ⟨kvs,k,e,_,_⟩ | ⟨kvs,k,b,e,_,_,_⟩
 ·obtain⟨_,_,vs,_,dd⟩:=pM I.bT e
  exact dd.typeIs
 ·obtain⟨_,_,xs,_,dd⟩:=sP I.bT e
  exact dd.typeIs
noncomputable def tDGet (td ty:TE):TE:=λσ H Q=>td σ H λx H1=>ty σ H1 λy H2=>∃a v,x=.ref a/\jV H2 a y (some v)/\Q v H2
noncomputable def tDIn (ty td:TE):TE:=λσ H Q=>ty σ H λy H1=>td σ H1 λx H2=>∃a o,x=.ref a/\jV H2 a y o/\Q (.bl o.isSome) H2
noncomputable def tDNotIn (ty td:TE):TE:=λσ H Q=>ty σ H λy H1=>td σ H1 λx H2=>∃a o,x=.ref a/\jV H2 a y o/\Q (.bl (!o.isSome)) H2
noncomputable def sDPut (td ty tv:TE):TS:=λD σ H=>tv σ H λv H1=>td σ H1 λx H2=>ty σ H2 λy H3=>∃a H4,x=.ref a/\uZ H3 a y v H4/\D.nx σ H4
section
variable {X : Cx} {o i e value : Expr} {pos pos' kT : Pos} {td ty tv : TE}
theorem Cf (hu:X.A.units+1<cLine) (ho:PE X o td) (hi:PE X i ty) (hs:HS i):PE X (.Subscript o i pos) (tDGet td ty):=by
 intro pins s σ H Q I h
 refine Ce PySem.F.slot_dict_getitem.lookup hs (cA (ho pins s σ H _ I h) λu s1 ⟨x,H1,I1,rx,q1⟩=>cA (hi pins s1 σ H1 _ I1 q1) λiv s2 c6=>?_)
 obtain⟨y,H2,I2,ry,a,v,ex,g,q2⟩:=c6
 subst ex
 obtain rfl:u=Value.ref a:=rx
 exact⟨sQ I2 g,xU hu I2 g ry λw' s3 I3 qw=>⟨v,H2,I3,qw,q2⟩⟩
theorem za (hu:X.A.units+1<cLine) (hi:PE X i ty) (ho:PE X o td):PC X .In i o (tDIn ty td):=by
 intro pins s σ H Q I h
 refine cA (hi pins s σ H _ I h) λiv s1 ⟨y,H1,I1,ry,q1⟩=>cA (ho pins s1 σ H1 _ I1 q1) λu s2 c6=>?_
 obtain⟨x,H2,I2,rx,a,ov,ex,g,q2⟩:=c6
 subst ex
 obtain rfl:u=Value.ref a:=rx
 exact Mc hu I2 g ry λs3 I3=>⟨.bl ov.isSome,H2,I3,rfl,q2⟩
theorem xW (hu:X.A.units+1<cLine) (hi:PE X i ty) (ho:PE X o td):PC X .NotIn i o (tDNotIn ty td):=by
 intro pins s σ H Q I h
 refine cA (hi pins s σ H _ I h) λiv s1 ⟨y,H1,I1,ry,q1⟩=>cA (ho pins s1 σ H1 _ I1 q1) λu s2 c6=>?_
 obtain⟨x,H2,I2,rx,a,ov,ex,g,q2⟩:=c6
 subst ex
 obtain rfl:u=Value.ref a:=rx
 exact Cc hu I2 g ry λs3 I3=>⟨.bl (!ov.isSome),H2,I3,rfl,q2⟩
theorem v7 (hu:X.A.units+1<cLine) (ho:PE X o td) (hi:PE X i ty) (hv:PE X value tv) (hs:swapsWith value (some (.Subscript o i pos')) pos.line X.env=pure false):
  PS X (.Assign [.Subscript o i pos'] value pos) (sDPut td ty tv):=by
 intro pins s σ H D I h
 refine wpAny_Assign_Subscript (cA (hv pins s σ H _ I h) λr s1 ⟨v,H1,I1,rv,q1⟩=>cA (ho pins s1 σ H1 _ I1 q1) λu s2 ⟨x,H2,I2,rx,q2⟩=>cA (hi pins s2 σ H2 _ I2 q2) λiv s3 c6=>?_) hs
 obtain⟨y,H3,I3,ry,a,H4,ex,g,q3⟩:=c6
 subst ex
 obtain rfl:u=Value.ref a:=rx
 exact xV hu I3 g ry rv λs4 I4=>⟨σ,H4,I4,q3⟩
end
theorem sR {P:Program} {w:World} {H:Hp} (h:Heap) (hb:sysModules<h.objs.size):cK P w H (h.push {cls:=.type "dict",data:=.dict #[]}) h.objs.size (.dK []):=
 ⟨aas _,beq_eq_false_iff_ne.mpr (Ne.symm (aan hb)),[],.nil,Heap.DictOf.new h⟩
noncomputable def tDNewK:TE:=λ_ H Q=>∀p,H p=none->Q (.ref p) (upd H p (.dK []))
section
variable {X : Cx} {pos : Pos}
theorem zb:PE X (.Dict [] [] pos) tDNewK:=λpins s σ H Q I h=>
 wpAny_Dict_empty ⟨.ref s.heap.objs.size,_,I.laid (a:=s.heap.objs.size) (o:=.dK []) (t':=s.toks) (λ_ _ q=>Heap.get?_push_of_some _ q) (aah _) (sR s.heap I.Cb),rfl,h _ (I.bT.fresh (aah _))⟩
end
abbrev VV:List (V×V)->List (Value×Value)->Prop:=Paired λp q=>RelV p.1 q.1/\RelV p.2 q.2
structure M1 (X:Cx) (o:Expr) (m:Str) (apos:Pos) (e:Expr) (gA:Pos):Prop where
 base:attributeBase o m X.env (eval o X.env)=eval o X.env
 sS:((backTo gA (starEach [e] X.env)).all (λx=>!x.1) && (backToKw gA (keywordEach [] X.env)).all (λx=>x.1.isSome)
  && decide (([e]:List Expr).length+ ([]:List Keyword).length+ (if ([]:List Keyword).isEmpty then 0 else 1)<30))=true
 line:(apos.endLine==gA.line)=true
 trees:backTo gA (starEach [e] X.env)=[(false,eval e X.env)]
structure M2 (X:Cx) (o:Expr) (m:Str) (apos:Pos) (e f:Expr) (gA:Pos):Prop where
 base:attributeBase o m X.env (eval o X.env)=eval o X.env
 sS:((backTo gA (starEach [e,f] X.env)).all (λx=>!x.1) && (backToKw gA (keywordEach [] X.env)).all (λx=>x.1.isSome)
  && decide (([e,f]:List Expr).length+ ([]:List Keyword).length+ (if ([]:List Keyword).isEmpty then 0 else 1)<30))=true
 line:(apos.endLine==gA.line)=true
 trees:backTo gA (starEach [e,f] X.env)=[(false,eval e X.env),(false,eval f X.env)]
noncomputable def Md (H:Hp) (a:Addr):Prop:=(∃kvs,Rd H a (.dK kvs))\/∃kvs,Rd H a (.dT kvs)
section
variable {X : Cx} {pins : List (Addr × Obj)} {σ : St} {H : Hp} {s : Shared} {a : Addr} {y d : V} {u r : Value} {o : Option V} {A : Around} {E : Value -> Shared -> Prop}
end
noncomputable def tDGet1 (td ty:TE):TE:=λσ H Q=>td σ H λx H1=>∃a,x=.ref a/\Md H1 a/\ty σ H1 λy H2=>∃o,jV H2 a y o/\Q (o.getD .cE) H2
noncomputable def tDGet2 (td ty tx:TE):TE:=λσ H Q=>td σ H λx H1=>∃a,x=.ref a/\Md H1 a/\ty σ H1 λy H2=>tx σ H2 λz H3=>∃o,jV H3 a y o/\Q (o.getD z) H3
noncomputable def tDPop1 (td ty:TE):TE:=λσ H Q=>td σ H λx H1=>∃a,x=.ref a/\Md H1 a/\ty σ H1 λy H2=>∃kvs k v,H2 a=some (.dK kvs)/\y=kV k/\gN kvs k=some v/\Q v (upd H2 a (.dK (HQ kvs k)))
section
variable {X : Cx} {o e f : Expr} {apos gA : Pos} {td ty tx : TE}
end
section
variable {X : Cx} {pins : List (Addr × Obj)} {σ : St} {H : Hp} {s : Shared} {a : Addr} {kvs : List (Key × V)} {A : Around} {E : Value -> Shared -> Prop}
end
section
variable {X : Cx} {pins : List (Addr × Obj)} {σ : St} {H : Hp} {s : Shared} {a : Addr} {y : V} {u : Value} {A : Around} {E : Value -> Shared -> Prop}
end
end L2
namespace BB
open PySem PySem.W PySem.Calls PyProof.Rows
theorem kW {P:Params} {h:Heap}:∀(ns:List Int) (vs:List Value),WellAll P h vs (ns.map WData.int)->IntsAre vs ns:=by
 intro ns
 induction ns with
 | nil=>
  intro vs w
  rw[aa0] at w
  cases w
  exact .nil
 | cons n ns ih=>
  intro vs w
  rw[aat] at w
  cases w with
  | cons a b=>
   cases a
   exact .cons _ _ (ih _ b)
theorem xX {l:OpenLaw} {n:Nat} (hn:l.most=some n) {P:Params} {h:Heap} {args:List WData} {vals:List Value}
  (Cg:l.row.toRowW.claim.pre args=true) (Ci:WellAll P h vals args):
  ∃a vs ns,vals=[Value.ref a]/\args=[WData.list (ns.map WData.int)]/\h.get? a=some {cls:=.type "list",data:=.seq vs.toArray}/\IntsAre vs ns/\ns.length<=n:=by
 have gg:WShape.hasAll [] args [.list .int]=true:=(pre_splitW Cg).1
 have hc:l.pre.holds [] {args:=args}=true:=(pre_splitW Cg).2
 obtain⟨d,r,rfl,h1,h2⟩:=hasAllW_cons gg
 obtain rfl:=hasAllW_nil h2
 obtain⟨xs,rfl,h3⟩:=hasW_list h1
 obtain⟨ns,rfl⟩:=items_int h3
 have hlen:ns.length<=n:=by
  unfold OpenLaw.pre at hc
  have h4:(WTm.not (.lt (.lit (.int (n:Int))) (.len (.arg 0)))).holds [] {args:=[.list (ns.map .int)]}=true:=by
   have h4:=(holds_andW hc).1
   rw[hn] at h4
   exact h4
  have h5:=condW_of h4 (w_not (w_lt w_lit (w_len_list (w_arg rfl))))
  rw[aac] at h5
  refine Nat.le_of_not_lt λq=>?_
  have q':(n:Int)< ((ns.length:Nat):Int):=by omega
  first
   | (rw[decide_eq_true q'] at h5;exact absurd h5 (by decide))
   | (simp at h5;omega)
 cases Ci with
 | cons w1 w2=>
  cases w2
  cases w1 with
  | list ho xY=>exact⟨_,_,ns,rfl,rfl,ho,kW ns _ xY,hlen⟩
theorem xZ (l:OpenLaw) (args:List WData):l.row.toRowW.claim.post args (.bool true) args=true:=
 postW_of (r:=l.row.toRowW) (X:=(true==true))
  (show WShape.has [] (.bool true) .bool=true by first | rfl | decide | simp [WShape.has,WShape.arms,WShape.armsAll])
  (show(WTm.eq .res (.lit (.bool true))).value [] {args:=args,res:=some (.bool true),after:=args}=some (.bool (true==true)) from w_eq_bool (w_res rfl) w_lit) rfl
theorem sT {l:OpenLaw} {n:Nat} {q:Program} {loose:List Str} {XP:(Str->Option Value)->Heap->Prop} {YP:World->Heap->Prop} {d:DefRec}
  (hn:l.most=some n) (HU:d.params.defaults=[])
  (call:∀(w:World) (s₀ s₁:Shared) (mg mb:Str->Option Value) (fa:Addr) (o:Obj) (pm cd doc:Value) (a:Addr) (vs:List Value) (ns:List Int),
   Ground q loose [] XP w s₀ mg mb s₁.heap->YP w s₁.heap->
   s₁.heap.get? fa=some o->o.data=.func (docDef d.name d.params d.body d.scope pm cd doc)->s₁.heap.CodeRec cd d.name->mg d.name=some (.ref fa)->
   s₁.heap.get? a=some {cls:=.type "list",data:=.seq vs.toArray}->IntsAre vs ns->ns.length<=n->s₁.gens=#[]->
   codeAny (model l.prog w) callerA (.call (.ref fa) ⟨[.ref a],[]⟩) (λr s'=>r=.ok (.ret (.bool true))/\OldK s₁.heap s'.heap/\s'.os=s₁.os/\AllBare s'.gens) s₁):
  WalkO q loose XP YP l.row.toRowW d [] (λf vs=>PySem.call f vs):=by
 intro w s₀ s₁ mg mb G Y fa o pm cd doc dV kV ho hd sE hD HV hg args vals as Cg Wv hrd Ci hlo
 obtain rfl:dV=.none:=Dflts.none hD HU
 obtain rfl:kV=.none:=Dflts.noKw hD
 obtain⟨a,vs,ns,rfl,rfl,ER,hints,hlen⟩:=xX hn Cg Ci
 refine enter_call (codeAny_mono (call w s₀ s₁ mg mb fa o pm cd doc a vs ns G Y ho (fd_plain hd) sE HV ER hints hlen hg) λr s' hq=>?_)
 obtain⟨rfl,h2,h3,h4⟩:=hq
 exact⟨.inl ⟨.bool true,.bool true,[],rfl,λ_=>rfl,.bool true,xZ l _,λ_=>⟨List.Pairwise.nil,λ_ hm=>(nomatch hm)⟩⟩,h2,h3,h4⟩
section
variable {prog : Program} {w : World} {A : Around} {E : Value -> Shared -> Prop} {s : Shared} {K : Frag}
noncomputable def qI (h:Heap):Heap:={h with objs:=#[]}
theorem m7 (h:Heap) (b:Addr):(qI h).get? b=none:=by
 cases e:(qI h).get? b with
 | none=>rfl
 | some o=>exact absurd (Heap.lt_size e) (abc _)
noncomputable def ledger (h:Heap) (L d:Addr):List (Addr×Obj):=(List.range h.objs.size).filterMap λa=>if a=L\/a=d then none else (h.get? a).map λo=>(a,o)
set_option tactic.hygienic true in
theorem fR {h:Heap} {L d a:Addr} {o:Obj}:(a,o)∈ledger h L d↔a≠L/\a≠d/\h.get? a=some o:=by
 unfold ledger
 rw[List.mem_filterMap]
 constructor
 ·rintro⟨b,_,e⟩
  split at e
  ·cases e
  ·rename_i hb
   obtain⟨o',ho,e'⟩:=Option.map_eq_some_iff.mp e
   cases e'
   exact⟨λq=>hb (.inl q),λq=>hb (.inr q),ho⟩
 ·rintro⟨n1,n2,ho⟩
  refine⟨a,List.mem_range.mpr (Heap.lt_size ho),?_⟩
  rw[if_neg (show ¬(a=L\/a=d) from λq=>q.elim n1 n2),ho] <;>rfl
theorem ES {h:Heap} {L:Addr} {m:Str->Option Value} (n:h.Ns L m):Fr (qI h) L h m:=
 ⟨n,λb o e=>(by rw[m7] at e;cases e),aas _⟩
end
end BB
namespace L2
open PySem PySem.Spec PyProof.Rows
theorem pO:∀{vs:List Value} {ns:List Int},IntsAre vs ns->bu (ns.map V.int) vs
 | _,_,.nil=>.nil
 | _,_,.cons n t h=>.cons ⟨t,rfl⟩ (pO h)
end L2
namespace L2
open PySem PySem.Spec PyProof.Rows
abbrev KOf {K:PySem.W.Frag} {h:Heap} (_:K.In h):PySem.W.Frag:=K
end L2
namespace L2
open PySem PySem.Spec PyProof.Rows
noncomputable def inClass (s:Stmt) (j:Nat):Stmt:=match s with
 | .ClassDef _ _ _ body _ _ _ _ _ _ _=>body.getD j (.Pass ⟨0,0,0,0⟩)
 | _=>.Pass ⟨0,0,0,0⟩
noncomputable def aM (s:Stmt):Arguments:=match s with
 | .FunctionDef _ a _ _ _ _ _ _ _ _=>a
 | _=>{posonlyargs:=[],args:=[],vararg:=none,kwonlyargs:=[],kw_defaults:=[],kwarg:=none,defaults:=[]}
noncomputable def aL (s:Stmt):List Stmt:=match s with
 | .FunctionDef _ _ b _ _ _ _ _ _ _=>b
 | _=>[]
noncomputable def ae (s:Stmt):Scope:=match s with
 | .FunctionDef _ _ _ _ _ _ sc _ _ _=>sc
 | _=>{kind:=.function,names:=[],isGenerator:=false,isCoroutine:=false}
abbrev CX0:jT:=λ_ _ _ _ _ _=>False
abbrev E0:XK:=λ_ _ _=>False
structure u3 (K:PySem.W.Frag) (x qual:Str) (st:Stmt) (f:Addr) (fd:FuncData):Prop where
 ex:∃(oc:Value) (od:Option Addr) (kV doc pm:Value) (an:Option Addr) (cG ct:Value) (yE:Array (Option Value)),
  fd=PySem.W.fnOf x qual (aM st) (aL st) (ae st) .none kV doc pm an cG ct/\K.lookup f=some ⟨oc,od,.func fd,yE⟩/\PySem.W.codeIn K cG qual=true
 kp:PySem.W.keepIn K (.ref f)=true
section
variable {P : Program} {w : World} {K : PySem.W.Frag} {mg : Str -> Option Value} {base : Heap}
theorem u3.binds {x qual:Str} {st:Stmt} {f:Addr} {fd:FuncData} {ps:List Str} (F:u3 K x qual st f fd)
  (h:∀(kV doc pm:Value) (an:Option Addr) (cG ct:Value) (us:List Value),us.length=ps.length->bindArgs (PySem.W.fnOf x qual (aM st) (aL st) (ae st) .none kV doc pm an cG ct) ⟨us,[]⟩=pure (ps.zip us)):Binds K fd ps []:=by
 obtain⟨oc,od,kV,doc,pm,an,cG,ct,yE,rfl,lk,sE⟩:=F.ex
 exact .all (h kV doc pm an cG ct)
theorem aY {x qual:Str} {st:Stmt} {f:Addr} {oc:Value} {od an:Option Addr} {yE:Array (Option Value)} {kV doc pm cG ct:Value} (l:K.lookup f=some ⟨oc,od,.func (PySem.W.fnOf x qual (aM st) (aL st) (ae st) .none kV doc pm an cG ct),yE⟩)
  (c:PySem.W.codeIn K cG qual=true) (k:PySem.W.keepIn K (.ref f)=true):u3 K x qual st f (PySem.W.fnOf x qual (aM st) (aL st) (ae st) .none kV doc pm an cG ct):=⟨⟨oc,od,kV,doc,pm,an,cG,ct,yE,rfl,l,c⟩,k⟩
end
theorem pP {A:Around} {k:Nat} (hr:di k A):A.units+1<cLine:=abf (Nat.add_le_add_left (by decide:1<=64) _) hr.units
section
variable {X : Cx}
theorem pv (i:Nat) {x:Str} {pos:Pos} (hN:X.N[i]?=some x:=by rfl) (hv:LM X.env.scope x:=by first | exact Or.inl rfl | exact Or.inr (Or.inl rfl) | exact Or.inr (Or.inr rfl)) (hd:(x==("__debug__":Str))=false:=by decide)
  (sE:(x==("__classdict__":Str))=false:=by decide):PE X (.Name x pos) (tVar i):=Eu hN hv hd sE
end
theorem HW {A B:Prop} (h:A):if true=true then A else B:=by
 rw[if_pos rfl]
 exact h
theorem gC {c A B:Prop} [Decidable c] (h1:c->A) (h2:¬c->B):if c then A else B:=by
 by_cases h:c
 ·rw[if_pos h]
  exact h1 h
 ·rw[if_neg h]
  exact h2 h
noncomputable def az (H H':Hp):Prop:=∀b o,H b=some o->H' b=some o
theorem az.refl (H:Hp):az H H:=λ_ _ h=>h
theorem az.trans {H H1 H2:Hp} (a:az H H1) (b:az H1 H2):az H H2:=λc o h=>b c o (a c o h)
theorem az.seq {K:PySem.W.Frag} {H H':Hp} {a:Addr} {xs:List V} (e:az H H') (h:bj K H a xs):bj K H' a xs:=by
 rcases h with (h | ⟨o,h⟩) | h
 ·exact .inl (.inl (e _ _ h))
 ·exact .inl (.inr ⟨o,e _ _ h⟩)
 ·exact .inr h
end L2
namespace L2
open PySem PySem.Spec PyProof.Rows
section
variable {X : Cx}
end
section
variable {κ : Type} [DecidableEq κ]
end
end L2
namespace L2
open PySem PySem.Spec PyProof.Rows
noncomputable def Bt (n:Nat) (i:Int):Prop:=i.natAbs<2^n
theorem Bt.mono {m n:Nat} {i:Int} (h:Bt m i) (q:m<=n):Bt n i:=aav h (abo (by decide) q)
theorem Bt.bits {n:Nat} {i:Int} (h:Bt n i):Builtin.Int.intBits i<=n:=PyProof.Rows.intBits_le h
theorem Bt.mul {m n:Nat} {i j:Int} (h1:Bt m i) (h2:Bt n j):Bt (m+n) (i*j):=by
 unfold Bt at *
 rw[aaL,Nat.pow_add]
 exact Nat.mul_lt_mul_of_lt_of_lt h1 h2
theorem Bt.le {n:Nat} {i j:Int} (h:Bt n j) (q:i.natAbs<=j.natAbs):Bt n i:=abf q h
theorem Bt.of {n:Nat} {i:Int} (b:Nat) (h1:-(b:Int)<=i) (h2:i<=(b:Int)) (h:b<2^n:=by decide +kernel):Bt n i:=by
 unfold Bt
 exact abf (by omega) h
theorem Bt.log {n:Nat} {i:Int} (h:Bt n i) (q:n<=9000:=by decide):i.natAbs.log2<9000:=by
 by_cases z:i.natAbs=0
 ·rw[z];decide
 ·exact aav ((Nat.log2_lt z).mpr h) q
theorem Bt.dD {m n:Nat} {i j:Int} (h1:Bt m i) (h2:Bt n j) (q:m+n<=134217728:=by decide):IntMulOk i j:=mulOk_of_bits h1.bits h2.bits q
theorem cV {i j:Int} (h1:-(2^64)<i:=by decide) (h2:i<2^64:=by decide):IntMulOk i j:=.of_left (intBits_le_64 h1 h2)
theorem m8 {i j:Int} (h1:-(2^64)<j:=by decide) (h2:j<2^64:=by decide):IntMulOk i j:=.of_right (intBits_le_64 h1 h2)
section
variable {X : Cx}
theorem aW:kr X (binaryOp .Mult) (rI IntMulOk λi j=>.int (i*j)):=Hv λ_ _ _ _ _ _ _ hc q=>mul_int q hc
noncomputable def eO (_ j:Int):Prop:=0<j/\j.natAbs.log2<9000
theorem eO.of {i j:Int} {n:Nat} (h:0<j) (b:Bt n j) (q:n<=9000:=by decide):eO i j:=⟨h,b.log q⟩
theorem eO.lit {i j:Int} (h:0<j:=by decide) (q:j.natAbs.log2<9000:=by decide):eO i j:=⟨h,q⟩
theorem dq:kr X (binaryOp .FloorDiv) (rI eO λi j=>.int (i / j)):=Hv λi j _ _ _ _ _ hc q=>by
 have h1:(0:Int)<j:=hc.1
 exact floordiv_int (by omega) (by rw[Int.fdiv_eq_ediv_of_nonneg i (by omega)];exact q) (.inl (PyProof.noPylong_of_log2 hc.2))
noncomputable def v8 (_ j:Int):Prop:=j≠0/\j.natAbs.log2<9000
theorem v8.of {i j:Int} {n:Nat} (h:j≠0) (b:Bt n j) (q:n<=9000:=by decide):v8 i j:=⟨h,b.log q⟩
theorem zc:kr X (binaryOp .FloorDiv) (rI v8 λi j=>.int (i.fdiv j)):=Hv λ_ _ _ _ _ _ _ hc q=>floordiv_int hc.1 q (.inl (PyProof.noPylong_of_log2 hc.2))
theorem cn:kr X (binaryOp .Mod) (rI (λ_ j=>0<j) λi j=>.int (i % j)):=EC
noncomputable def rIxTH:R2:=λx y H Q=>∃p xs i v,x=.ref p/\y=.int i/\H p=some (.tup xs)/\fK xs i=some v/\Q v H
theorem aK:DJ X rIxTH:=λvalue slice pins s σ H x y v u Q I rx ry ⟨p,xs,i,z,e1,e2,e3,e4,q⟩ hs=>
 EI value slice pins s σ H x y v u Q I rx ry ⟨p,xs,i,z,e1,e2,d7.of e3,e4,q⟩ hs
noncomputable def rIxLH:R2:=λx y H Q=>∃p xs i v,x=.ref p/\y=.int i/\H p=some (.lst xs)/\fK xs i=some v/\Q v H
theorem aJ:DJ X rIxLH:=λvalue slice pins s σ H x y v u Q I rx ry ⟨p,xs,i,z,e1,e2,e3,e4,q⟩ hs=>
 v5 value slice pins s σ H x y v u Q I rx ry ⟨p,xs,i,z,e1,e2,bj.of e3,e4,q⟩ hs
noncomputable def tTupS (t:TA):TE:=λσ H Q=>t σ H λxs H1=>xs.length<=sizeLine/\∀p H2,az H1 H2->H1 p=none->H2 p=some (.tup xs)->Q (.ref p) H2
theorem au {H:Hp} {p:Addr} {o:HO} (h:H p=none):az H (upd H p o):=λb u e=>by
 rw[aI (bA e h)]
 exact e
theorem bV {es:List Expr} {t:TA} {x1} {pos:Pos} (h:PA X es t):PE X (.Tuple es x1 pos) (tTupS t):=λpins s σ H Q I hq=>
 cA (h:=wpAny_Tuple_spliced (cA (h pos pins s σ H _ I hq) λus s1 ⟨xs,H1,I1,r,z,q⟩=>⟨by rw[<-r.length];exact z,by
  have hf:H1 s1.heap.objs.size=none:=I1.bT.fresh (aah _)
  refine⟨.ref s1.heap.objs.size,upd H1 s1.heap.objs.size (.tup xs),I1.laid (t':=s1.toks) (λb u e=>Heap.get?_push_of_some _ e) (aah _) ?_,rfl,q _ _ (au hf) hf ar⟩
  exact⟨z,us,r,⟨_,Heap.get?_push_size _ rfl,rfl,_,rfl⟩⟩⟩)) λ_ _ z=>z
theorem bD:c9 X (.builtin "len") (λxs H Q=>∃p ys,xs=[.ref p]/\H p=some (.lst ys)/\Q (.int ys.length) H):=λpins s σ H xs us Q I r ⟨p,ys,e,h,q⟩=>
 jo pins s σ H xs us Q I r ⟨p,ys,e,.inl (bj.of h),q⟩
theorem x8:c9 X (.builtin "len") (λxs H Q=>∃p ns,xs=[.ref p]/\bj X.K H p (List.map V.int ns)/\Q (.int (List.length ns:Nat)) H):=λpins s σ H xs us Q I r ⟨p,ns,e,h,q⟩=>
 jo pins s σ H xs us Q I r ⟨p,_,e,.inl h,by rw[aac];exact q⟩
noncomputable def ET (K:PySem.W.Frag):R2:=λx y H Q=>∃p ns i,x=.ref p/\y=.int i/\bj K H p (List.map V.int ns)/\0<=i/\i< (List.length ns:Nat)/\Q (.int (ns.getD i.toNat 0)) H
theorem dN {ns:List Int} {i:Int} (h0:0<=i) (h1:i< (ns.length:Nat)):fK (ns.map V.int) i=some (.int (ns.getD i.toNat 0)):=by
 obtain⟨j,rfl⟩:=aau h0
 refine bC ?_
 have hj:j<ns.length:=by omega
 rw[aag,aad hj]
 simp [aaf,aad hj]
theorem ze:DJ X (ET X.K):=λvalue slice pins s σ H x y v u Q I rx ry ⟨p,ns,i,e1,e2,e3,h0,h1,q⟩ hs=>
 v5 value slice pins s σ H x y v u Q I rx ry ⟨p,_,i,_,e1,e2,e3,dN h0 h1,q⟩ hs
structure bS (P:Program) (w:World) (K:PySem.W.Frag) (mg:Str->Option Value) (base:Heap) (CX:jT) (k:Nat) (x:Str) (ps:List Str) (sp:Sp):Prop where
 ex:∃f fd,d8 P w K mg base CX k f fd ps sp/\mg x=some (.ref f)/\PySem.W.keepIn K (.ref f)=true/\Binds K fd ps []
theorem aG {CX:jT} {k:Nat} {x:Str} {ps:List Str} {sp:Sp} {E:XK} {e:Expr} {es:List Expr} {t:TA} {p pos:Pos} (C:bS X.prog X.w X.K X.mg X.base CX k x ps sp) (hr:di k X.A) (hg:Gl X x) (hx:eE CX X E) (ha:PA X (e::es) t)
  (yX:(x==("__debug__":Str))=false:=by decide) (he:starEach (e::es) X.env=(false,eval e X.env)::starEach es X.env:=by rfl) (hpl:(backTo pos (starEach es X.env)).any (·.1)=false:=by rfl):
  PE X (.Call (.Name x p) (e::es) [] pos) (tCall sp [] E t):=by
 obtain⟨f,fd,F,hm,hk,hb⟩:=C.ex
 exact B1 F hr hg hm hk hb .nil hx ha yX he hpl
end
noncomputable def qJ (CX:jT):Prop:=∀outer H s e s',¬CX outer H s (λ_ _ _=>False) e s'
theorem qJ.pass {CX:jT} (h:qJ CX) {X:Cx}:eE CX X E0:=λ_ _ H s e s' _ z=>(h _ H s e s' z).elim
section
variable {P : Program} {w : World} {K : PySem.W.Frag} {mg : Str -> Option Value} {base : Heap} {CX : jT}
theorem u3.eC {x qual:Str} {st:Stmt} {f:Addr} {fd:FuncData} {N ps:List Str} {k:Nat} {sp:Sp} (F:u3 K x qual st f fd) (S:aN N ps (ae st)) (len:∀vs H Q E,sp vs H Q E->vs.length=ps.length)
  (sN:∀(cG:Value) (A:Around) (outer:List Env) (s:Shared) (H:Hp) (vs:List V) (Q:VK) (E:XK),di k (A.deeper (envOfC qual (ae st) s.heap.objs.size f cG))->sp vs H Q E->
   ∃t,uF (uU CX P w K mg base N qual (ae st) f cG A outer s H E).GU (aL st) t/\t {nx:=λ_ H'=>Q .cE H',rt:=Q} (start N vs) H):d8 P w K mg base CX (k+1) f fd ps sp:=by
 obtain⟨oc,od,kV,doc,pm,an,cG,ct,yE,rfl,lk,sE⟩:=F.ex
 refine DG lk sE S len λA outer s H vs Q E hr BA=>?_
 obtain⟨t,h,q⟩:=sN cG A outer s H vs Q E hr BA
 exact⟨t,h.GU,q⟩
structure Dn (K:PySem.W.Frag) (mg:Str->Option Value) (x:Str) (st:Stmt):Prop where
 ex:∃f fd,u3 K x x st f fd/\mg x=some (.ref f)
theorem Dn.d9 {x:Str} {st:Stmt} {ps:List Str} {k:Nat} {sp:Sp} (D:Dn K mg x st)
  (hb:∀(kV doc pm:Value) (an:Option Addr) (cG ct:Value) (us:List Value),us.length=ps.length->bindArgs (PySem.W.fnOf x x (aM st) (aL st) (ae st) .none kV doc pm an cG ct) ⟨us,[]⟩=pure (ps.zip us))
  (h:∀f fd,u3 K x x st f fd->d8 P w K mg base CX k f fd ps sp):bS P w K mg base CX k x ps sp:=by
 obtain⟨f,fd,F,hm⟩:=D.ex
 exact⟨f,fd,h f fd F,hm,F.kp,F.binds hb⟩
end
section
variable {X : Cx}
noncomputable def Um (xs ys:List V):Bool:=(List.range (min xs.length ys.length)).all (λj=>Ul (xs.getD j .cE) (ys.getD j .cE)) && xs.length==ys.length
noncomputable def rEqT:R2:=λx y H Q=>∃p q xs ys,x=.ref p/\y=.ref q/\H p=some (.tup xs)/\H q=some (.tup ys)/\xs.all pK=true/\ys.all pK=true/\Q (.bl (Um xs ys)) H
noncomputable def rInT:R2:=λx y H Q=>∃p xs,y=.ref p/\H p=some (.tup xs)/\pK x=true/\xs.all pK=true/\Q (.bl (Wt x xs)) H
end
theorem at0 {α:Type} {x:α} {l:List α}:fK (x::l) 0=some x:=bC (j:=0) rfl
theorem at1 {α:Type} {x y:α} {l:List α}:fK (x::y::l) 1=some y:=bC (j:=1) rfl
theorem at2 {α:Type} {x y z:α} {l:List α}:fK (x::y::z::l) 2=some z:=bC (j:=2) rfl
noncomputable def Pr (a b:Int):List V:=[.int a,.int b]
end L2
namespace Nm
noncomputable def g (a b:Int):Int:=(Int.gcd a b:Nat)
theorem EU (a b:Int):0<=g a b:=Int.natCast_nonneg _
theorem iF {a b:Int} (h:b≠0):0<g a b:=by
 have:=Int.gcd_pos_of_ne_zero_right a h
 unfold g
 omega
theorem js (a b:Int):g a b∣a:=Int.gcd_dvd_left ..
theorem eP (a b:Int):g a b∣b:=Int.gcd_dvd_right ..
theorem qK (a b:Int):g a b=g b a:=by unfold g;rw[Int.gcd_comm]
theorem EV {a b:Int} (h:0<b):g a b<=b:=Int.le_of_dvd h (eP a b)
theorem zf (a b:Int):g (a.natAbs:Int) b=g a b:=by
 unfold g Int.gcd
 rw[Int.natAbs_natCast]
theorem v9 (a b:Int):g a (b.natAbs:Int)=g a b:=by
 rw[qK,zf,qK]
theorem DM (a b:Int):g (-a) b=g a b:=by
 unfold g Int.gcd
 rw[Int.natAbs_neg]
theorem zg {a b:Int} (ha:0<=a) (_hb:0<b):g b (a % b)=g a b:=by
 unfold g Int.gcd
 rw[Int.natAbs_emod_of_nonneg ha,Nat.gcd_comm b.natAbs,<-Nat.gcd_rec,Nat.gcd_comm]
theorem zh {a:Int} (ha:0<=a):g a 0=a:=by
 unfold g
 rw[Int.gcd_zero_right]
 omega
theorem zi {a b:Int} (h:b≠0):g a b<=(b.natAbs:Int):=by
 rw[<-v9]
 exact EV (by omega)
theorem Cj {a b:Int} (h:b≠0):g (a / g a b) (b / g a b)=1:=by
 have p:0<Int.gcd a b:=Int.gcd_pos_of_ne_zero_right a h
 unfold g
 rw[Int.gcd_ediv_gcd_ediv_gcd p]
 rfl
theorem Ck {a b:Int} (h:0<b):0<b / g a b:=Int.ediv_pos_of_pos_of_dvd h (EU a b) (eP a b)
theorem x9 (a b:Int):(a / g a b)*b=a* (b / g a b):=by
 rw[<-Int.mul_ediv_assoc _ (eP a b),aaC a b,Int.mul_ediv_assoc _ (js a b),aaC]
theorem ma {q a b:Int} (h:q∣a*b) (c:Int.gcd a q=1):q∣b:=by
 have h1:=(Int.dvd_gcd_mul_iff_dvd_mul (k:=q) (n:=a) (m:=b)).mpr h
 rw[Int.gcd_comm,c] at h1
 simpa using h1
theorem Cm {p q p' q':Int} (h:0<q) (h':0<q') (e:g p q=1) (e':g p' q'=1) (c:p*q'=p'*q):p=p'/\q=q':=by
 have c1:Int.gcd p q=1:=by unfold g at e;omega
 have c2:Int.gcd p' q'=1:=by unfold g at e';omega
 have d1:q∣q':=by
  have:q∣p*q':=⟨p',by rw[c,aaC]⟩
  exact ma this c1
 have d2:q'∣q:=by
  have:q'∣p'*q:=⟨p,by rw[<-c,aaC]⟩
  exact ma this c2
 have eq:q=q':=by
  have:=Int.le_of_dvd h' d1
  have:=Int.le_of_dvd h d2
  omega
 subst eq
 exact⟨Int.eq_of_mul_eq_mul_right (by omega) c,rfl⟩
theorem dO {a g:Int} (_h:0<g) (d:g∣a):(a / g).natAbs<=a.natAbs:=by
 rw[Int.natAbs_ediv_of_dvd d]
 exact Nat.div_le_self _ _
theorem back {a b c d p q x y:Int} (hq:0<q) (hd:0<d) (e:p* (b*d)=(a*d - c*b)*q) (f:x* (q*d)=(p*d+c*q)*y):x*b=a*y:=by
 have h:(x*b)* (q*d)=(a*y)* (q*d):=by grind
 exact Int.eq_of_mul_eq_mul_right (by have:=aa7 hq hd;omega) h
end Nm
namespace L2
open PySem PySem.Spec PyProof.Rows PySem.W
theorem cK.get {P:Program} {w:World} {H:Hp} {h:Heap} {a:Addr}:∀{o:HO},cK P w H h a o->∃ob,h.get? a=some ob
 | .lst _,x=>let ⟨_,_,_,_,e⟩:=x;⟨_,e⟩
 | .tup _,x=>let ⟨_,_,_,o,e,_⟩:=x;⟨o,e⟩
 | .dK _,x=>let ⟨_,_,_,_,o,_,_,e,_⟩:=x;⟨o,e⟩
 | .dT _,x=>let ⟨_,_,_,_,o,_,_,e,_⟩:=x;⟨o,e⟩
 | .set _ _,x=>by
  obtain⟨o,es,ep,t,e,_⟩:=x
  exact⟨o,e⟩
 | .ins _ _ _,x=>let ⟨_,_,_,e,_⟩:=x;⟨_,e⟩
 | .own _,x=>x
 | .xd _,x=>by
  obtain⟨mA,⟨o,es,ep,e,_⟩,_⟩:=x
  exact⟨o,e⟩
 | .lZ _ _,x=>let ⟨_,_,_,e⟩:=x;⟨_,e⟩
 | .uy _ _,x=>⟨_,x.1⟩
 | .rZ _,⟨_,x,_⟩=>⟨_,x⟩
 | .met _ _,x=>⟨_,x⟩
 | .ext _,x=>x.2.1
structure Ww (P:Program) (w:World) (l:List Env) (H:Hp) (s:Shared) (H':Hp) (ad:Addr) (cls:Value) (s':Shared):Prop where
 os:s'.os=s.os
 bare:AllBare s'.gens
 un:Un (sx l) [] H H' s.heap s'.heap
 bT:gz P w H' s'.heap
 fl:∃B a0,Heap.FlyingW B l ad cls a0 s'.heap/\(∀b o,s.heap.get? b=some o->H b=none->b∉sx l->B.get? b=some o)/\(∀b o,s.heap.get? b=some o->b∉sx l->∃o',B.get? b=some o')/\
  (∀b u o,H' b=some u->s'.heap.get? b=some o->B.get? b=some o)
noncomputable def bK (P:Program) (w:World):jT:=λl H s E e s'=>∃ad cls H',e=.ref ad/\Ww P w l H s H' ad cls s'/\E cls none H'
theorem wa (P:Program) (w:World):qJ (bK P w):=λ_ _ _ _ _ ⟨_,_,_,_,_,h⟩=>h
section
variable {P : Program} {w : World} {K : PySem.W.Frag} {mg : Str -> Option Value} {base : Heap} {N : List Str} {qual : Str} {scope : Scope} {f : Addr} {cG : Value} {A : Around} {outer : List Env} {s0 : Shared} {H0 : Hp} {E : XK}
end
end L2
namespace L2
open PySem PySem.Spec PyProof.Rows PySem.W
abbrev Wx:List Value:=[.type "ValueError",.type "Exception",.type "BaseException",.type "object"]
abbrev Uo:String:="ValueError.__new__"
noncomputable def tRaise (C:Addr) (E:XK) (t:TA):TS:=λ_ σ H=>t σ H λvs H1=>vs.length<=sizeLine/\E (.ref C) none H1
section
variable {P : Program} {w : World} {K : PySem.W.Frag} {mg : Str -> Option Value} {base : Heap} {N : List Str} {qual : Str} {scope : Scope} {f : Addr} {cG : Value} {A : Around} {outer : List Env} {s0 : Shared} {H0 : Hp} {E : XK}
end
section
variable {X : Cx} {pins : List (Addr × Obj)} {σ : St} {H H' : Hp} {s s' : Shared}
abbrev Cx.mark (X:Cx) (ad:Addr):Cx:={X with A:=X.A.mark (some (.ref ad)),calm:=false,xe:=λ_ _=>False}
end
section
variable {X : Cx} {CX : jT} {k : Nat} {x : Str} {ps : List Str} {sp : Sp} {E : XK} {e : Expr} {es : List Expr} {t : TA} {p pos : Pos}
variable {cx n : Str} {np Wz WA kT : Pos} {b₀ : Stmt} {Up : List Stmt} {i : Nat} {ts : TS} {C2 : Addr}
end
end L2
namespace Nm
noncomputable def st (a b:Int):Int:=if b<0 then -(a / g a b) else a / g a b
noncomputable def sb (a b:Int):Int:=if b<0 then -(b / g a b) else b / g a b
set_option tactic.hygienic true in
theorem zj {a b:Int} (h:b≠0):0<sb a b:=by
 have g0:=iF (a:=a) h
 unfold sb
 split
 ·rename_i hb
  have h1:0< (-b) / g a b:=Int.ediv_pos_of_pos_of_dvd (by omega) (EU a b) (Int.dvd_neg.mpr (eP a b))
  rw[Int.neg_ediv_of_dvd (eP a b)] at h1
  exact h1
 ·exact Ck (by omega)
theorem Cn (a b:Int):g a (-b)=g a b:=by rw[qK,DM,qK]
theorem zk {a b:Int} (h:b≠0):g (st a b) (sb a b)=1:=by
 have e:=Cj (a:=a) h
 unfold st sb
 split
 ·rw[DM,Cn];exact e
 ·exact e
theorem sU (a b:Int):st a b*b=a*sb a b:=by
 have e:=x9 a b
 unfold st sb
 split
 ·rw[Int.neg_mul,e,Int.mul_neg]
 ·exact e
theorem EW {a b:Int} (h:b≠0):(st a b).natAbs<=a.natAbs:=by
 have:=dO (iF (a:=a) h) (js a b)
 unfold st
 split <;>omega
theorem EX {a b:Int} (h:b≠0):(sb a b).natAbs<=b.natAbs:=by
 have:=dO (iF (a:=a) h) (eP a b)
 unfold sb
 split <;>omega
theorem m9 {a b:Int} (h:0<b):st a b=a / g a b/\sb a b=b / g a b:=by
 unfold st sb
 rw[if_neg (by omega),if_neg (by omega)]
 exact⟨rfl,rfl⟩
end Nm
namespace L2
open PySem PySem.Spec PyProof.Rows
section
variable {P : Program} {w : World} {K : PySem.W.Frag} {mg : Str -> Option Value} {base : Heap} {CX : jT}
end
noncomputable def noStar:Expr->Bool
 | .Starred _ _=>false
 | _=>true
theorem se {e:Expr} {es:List Expr} {env:Env} (h:noStar e=true):starEach (e::es) env=(false,eval e env)::starEach es env:=by
 cases e <;>first | rfl | exact absurd h aaz
theorem na {env:Env} {pos:Pos}:∀{es:List Expr},es.all noStar=true->(backTo pos (starEach es env)).any (·.1)=false
 | [],_=>rfl
 | e::es,h=>by
  rw[List.all_cons,aaS] at h
  rw[se h.1]
  show(false || (backTo pos (starEach es env)).any (·.1))=false
  rw[na h.2]
  rfl
end L2
namespace L2
open PySem PySem.Spec PyProof.Rows PySem.W
structure Me (K:PySem.W.Frag) (C:Addr):Prop where
 cls:(clsIn K C).isSome=true
 ga:findIn K (.ref C) "__getattribute__"=some (some (.builtin "BaseException.__getattribute__"))
 gt:findIn K (.ref C) "__getattr__"=some none
 cl:findIn K (.ref C) "__class__"=some (some (.builtin "object.__class__"))
 be:mroIn K C (.type "BaseException")=some true
 ob:mroIn K C (.type "object")=some true
section
variable {prog : Program} {w : World} {A : Around} {E : Value -> Shared -> Prop} {K : PySem.W.Frag} {h : Heap} {g : Array GenState} {d : Drawn} {t : Nat} {os : OsState} {a C : Addr} {o : Obj}
end
section
variable {X : Cx}
end
end L2
namespace L2
open PySem PySem.Spec PyProof.Rows
theorem iU {env:Env}:∀(names:List (Str×NameKind)) (cs:List (Str×Addr)),(∀n,(n,NameKind.free)∈names->∃c,env.cells.lookup n=some c)->(∀x c,cs.lookup x=some c->env.cells.lookup x=some c)->
  ∃cl,(forIn names cs fun(x:Str×NameKind) (r:List (Str×Addr))=>(if (x.2==NameKind.free)=true then do let c <-cellOf env x.1;pure (ForInStep.yield ((x.1,c)::r)) else pure (ForInStep.yield r):Sem (ForInStep (List (Str×Addr)))))=pure cl/\
   (∀x c,cl.lookup x=some c->env.cells.lookup x=some c)/\(∀n,((n,NameKind.free)∈names\/(cs.lookup n).isSome=true)->∃c,cl.lookup n=some c)/\(∀x c,(x,c)∈cl->(env.cells.lookup x=some c/\(x,NameKind.free)∈names)\/(x,c)∈cs)
 | [],cs,_,h=>⟨cs,rfl,h,(λn hn=>by
   rcases hn with hn | hn
   ·exact absurd hn (by simp)
   ·exact Option.isSome_iff_exists.mp hn),λx c m=>.inr m⟩
 | (n,k)::r,cs,hf,h=>by
  by_cases hk:k=.free
  ·subst hk
   obtain⟨c,hc⟩:=hf n aaj
   obtain⟨cl,e,h1,h2,h3⟩:=iU r ((n,c)::cs) (λm hm=>hf m (aak _ hm)) (λx c' hx=>by
    rw[aaM] at hx
    cases q:x==n with
    | true=>
     rw[q] at hx
     have e1:x=n:=by simpa using q
     cases hx
     rw[e1];exact hc
    | false=>rw[q] at hx;exact h x c' hx)
   refine⟨cl,?_,h1,λm hm=>h2 m ?_,λx c' m=>?_⟩
   rotate_left 2
   ·rcases h3 x c' m with ⟨q1,q2⟩ | m
    ·exact .inl ⟨q1,aak _ q2⟩
    ·rcases List.mem_cons.mp m with e | m
     ·cases e
      exact .inl ⟨hc,aaj⟩
     ·exact .inr m
   ·rw[List.forIn_cons]
    have WB:cellOf env n=pure c:=by unfold cellOf;rw[hc]
    simp only[beq_self_eq_true,if_true,WB,pure_bind]
    exact e
   ·rcases hm with hm | hm
    ·rcases List.mem_cons.mp hm with z | z
     ·cases z
      right
      rw[aaM]
      simp
     ·exact .inl z
    ·right
     rw[aaM]
     cases q:m==n with
     | true=>rfl
     | false=>exact hm
  ·obtain⟨cl,e,h1,h2,h3⟩:=iU r cs (λm hm=>hf m (aak _ hm)) h
   refine⟨cl,?_,h1,λm hm=>h2 m ?_,λx c' m=>(h3 x c' m).imp (λq=>⟨q.1,aak _ q.2⟩) id⟩
   ·rw[List.forIn_cons]
    have:(k==NameKind.free)=false:=by simpa using hk
    simp only[this,Bool.false_eq_true,if_false,pure_bind]
    exact e
   ·rcases hm with hm | hm
    ·rcases List.mem_cons.mp hm with z | z
     ·cases z;exact absurd rfl hk
     ·exact .inl z
    ·exact .inr hm
theorem fg {env:Env} {scope:Scope} (hf:∀n,(n,NameKind.free)∈scope.names->∃c,env.cells.lookup n=some c):
  ∃cl,closureFor scope env=pure cl/\(∀x c,cl.lookup x=some c->env.cells.lookup x=some c)/\(∀n,(n,NameKind.free)∈scope.names->∃c,cl.lookup n=some c)/\(∀x c,(x,c)∈cl->env.cells.lookup x=some c/\(x,NameKind.free)∈scope.names):=by
 obtain⟨cl,e,h1,h2,h3⟩:=iU (env:=env) scope.names [] hf (λx c h=>by simp at h)
 refine⟨cl,?_,h1,λn hn=>h2 n (.inl hn),λx c m=>(h3 x c m).elim id λz=>absurd z (by simp)⟩
 unfold closureFor
 simp only[bind_pure]
 exact e
structure eD (N:List Str) (so:Scope) (N':List Str) (scope:Scope) (k:Nat) (fr:List Nat):Prop where
 kind:scope.kind=.function
 EY:∀y∈scope.names,y.2=.cell->scope.names.lookup y.1=some .cell/\(y.1,NameKind.free)∉scope.names
 locs:∀y∈scope.names,y.2=.local->scope.names.lookup y.1=some .local
 outer:∀y∈scope.names,y.2=.free->(so.names.lookup y.1=some .cell\/so.names.lookup y.1=some .free)
 len:N'.length=k+fr.length
 at_:∀t,t<fr.length->(fr[t]?).bind (λj=>N[j]?)=N'[k+t]?
 Mf:∀x∈N'.drop k,scope.names.lookup x=some .free
noncomputable def stC (k:Nat) (fr:List Nat) (σ:St):St:=List.replicate k none++fr.map λj=>(σ[j]?).join
noncomputable def kX (X:Cx) (N:List Str) (scope:Scope) (cl:List (Str×Addr)) (C:Addr) (s:Shared) (H:Hp) (ex:List Addr):Cx where
 prog:=X.prog
 w:=X.w
 K:=X.K
 mg:=X.mg
 base:=X.base
 A:=X.A
 N:=N
 s₀:=s
 H₀:=H
 env:=compEnvC scope cl C X.env
 outer:=X.stack
 stack:=X.stack
 ex:=ex
 calm:=X.calm
 fn:=λx=>scope.names.lookup x==some .cell
 pn:=[]
 xe:=λ_ _=>False
theorem d3 {env:Env}:∀{names:List (Str×NameKind)} {x:Str},names.lookup x=some .free->
  (names.map fun(n,k)=>if (k==NameKind.free && env.scope.kind==.function && env.kindOf n==some .cell) then (n,NameKind.cell) else (n,k)).lookup x=some .cell\/
  (names.map fun(n,k)=>if (k==NameKind.free && env.scope.kind==.function && env.kindOf n==some .cell) then (n,NameKind.cell) else (n,k)).lookup x=some .free
 | [],_,h=>by simp at h
 | (n,k)::r,x,h=>by
  have ih:=@d3 env r x
  show List.lookup x ((if (k==NameKind.free && env.scope.kind==.function && env.kindOf n==some .cell)=true then (n,NameKind.cell) else (n,k))::_)=_\/List.lookup x ((if (k==NameKind.free && env.scope.kind==.function && env.kindOf n==some .cell)=true then (n,NameKind.cell) else (n,k))::_)=_
  cases hx:x==n with
  | true=>
   simp only[aaM,hx] at h
   cases h
   by_cases hc:(NameKind.free==NameKind.free && env.scope.kind==.function && env.kindOf n==some .cell)=true
   ·rw[if_pos hc];left;simp [aaM,hx]
   ·rw[if_neg hc];right;simp [aaM,hx]
  | false=>
   simp only[aaM,hx] at h
   by_cases hc:(k==NameKind.free && env.scope.kind==.function && env.kindOf n==some .cell)=true
   ·rw[if_pos hc];simp only[aaM,hx];exact ih h
   ·rw[if_neg hc];simp only[aaM,hx];exact ih h
theorem jt {env:Env}:∀{names:List (Str×NameKind)} {x:Str},
  ((names.map fun(n,k)=>if (k==NameKind.free && env.scope.kind==.function && env.kindOf n==some .cell) then (n,NameKind.cell) else (n,k)).lookup x=some .cell\/
  (names.map fun(n,k)=>if (k==NameKind.free && env.scope.kind==.function && env.kindOf n==some .cell) then (n,NameKind.cell) else (n,k)).lookup x=some .free)->(x,NameKind.free)∈names\/(x,NameKind.cell)∈names
 | [],_,h=>by simp at h
 | (n,k)::r,x,h=>by
  have ih:=@jt env r x
  have up:((x,NameKind.free)∈r\/(x,NameKind.cell)∈r)->((x,NameKind.free)∈(n,k)::r\/(x,NameKind.cell)∈(n,k)::r):=λz=>z.imp (aak _) (aak _)
  have h:List.lookup x ((if (k==NameKind.free && env.scope.kind==.function && env.kindOf n==some .cell)=true then (n,NameKind.cell) else (n,k))::_)=_\/List.lookup x ((if (k==NameKind.free && env.scope.kind==.function && env.kindOf n==some .cell)=true then (n,NameKind.cell) else (n,k))::_)=_:=h
  cases hx:x==n with
  | true=>
   have e1:x=n:=by simpa using hx
   subst e1
   by_cases hc:(k==NameKind.free && env.scope.kind==.function && env.kindOf x==some .cell)=true
   ·have:k=.free:=by
     simp only[aaS] at hc
     simpa using hc.1.1
    subst this
    exact .inl aaj
   ·rw[if_neg hc] at h
    simp only[aaM,hx] at h
    rcases h with h | h
    ·cases h;exact .inr aaj
    ·cases h;exact .inl aaj
  | false=>
   by_cases hc:(k==NameKind.free && env.scope.kind==.function && env.kindOf n==some .cell)=true
   ·rw[if_pos hc] at h;simp only[aaM,hx] at h;exact up (ih h)
   ·rw[if_neg hc] at h;simp only[aaM,hx] at h;exact up (ih h)
theorem jW:∀(names:List (Str×NameKind)) (h:Heap) (acc:List (Str×Addr)) (x:Str) (c:Addr),(x,c)∈cellsFrom h.objs.size names acc->
  (x,c)∈acc\/(h.objs.size<=c/\(pushCells h names).IsCell c none/\(x,NameKind.cell)∈names)
 | [],h,acc,x,c,m=>.inl m
 | (n,k)::r,h,acc,x,c,m=>by
  unfold cellsFrom at m
  unfold pushCells
  by_cases hk:(k==NameKind.cell)=true
  ·rw[if_pos hk] at m ⊢
   have ih:=jW r (h.push {cls:=.type "cell",data:=.cell none}) ((n,h.objs.size)::acc) x c
   rw[Heap.size_push] at ih
   rcases ih m with m | ⟨q1,q2,q3⟩
   ·rcases List.mem_cons.mp m with e | m
    ·cases e
     have hk:k=.cell:=by simpa using hk
     subst hk
     refine .inr ⟨aah _,?_,aaj⟩
     have q:(h.push {cls:=.type "cell",data:=.cell none}).IsCell h.objs.size none:=⟨_,Heap.get?_push_size _ rfl,rfl⟩
     exact q.keeps λb o e=>pushCells_keeps r _ b o e
    ·exact .inl m
   ·exact .inr ⟨by omega,q2,aak _ q3⟩
  ·rw[if_neg hk] at m ⊢
   rcases jW r h acc x c m with m | ⟨q1,q2,q3⟩
   ·exact .inl m
   ·exact .inr ⟨q1,q2,aak _ q3⟩
theorem jX:∀(names:List (Str×NameKind)) (n lo:Nat) (acc:List (Str×Addr)),(∀x c,(x,c)∈acc->c<n)->(∀x y c,lo<=c->(x,c)∈acc->(y,c)∈acc->x=y)->
  ∀x y c,lo<=c->(x,c)∈cellsFrom n names acc->(y,c)∈cellsFrom n names acc->x=y
 | [],n,lo,acc,h1,h2,x,y,c,hl,m1,m2=>h2 x y c hl m1 m2
 | (z,k)::r,n,lo,acc,h1,h2,x,y,c,hl,m1,m2=>by
  unfold cellsFrom at m1 m2
  by_cases hk:(k==NameKind.cell)=true
  ·rw[if_pos hk] at m1 m2
   refine jX r (n+1) lo _ (λx c m=>?_) (λx y c hl m1 m2=>?_) x y c hl m1 m2
   ·rcases List.mem_cons.mp m with e | m
    ·cases e;exact aaK _
    ·exact abp (h1 x c m)
   ·rcases List.mem_cons.mp m1 with e1 | m1 <;>rcases List.mem_cons.mp m2 with e2 | m2
    ·cases e1;cases e2;rfl
    ·cases e1;exact absurd (h1 _ _ m2) (aaF _)
    ·cases e2;exact absurd (h1 _ _ m1) (aaF _)
    ·exact h2 x y c hl m1 m2
  ·rw[if_neg hk] at m1 m2
   exact jX r n lo acc h1 h2 x y c hl m1 m2
theorem fS:∀(names:List (Str×NameKind)) (n:Nat) (acc:List (Str×Addr)) (x:Str),(x,NameKind.cell)∉names->(cellsFrom n names acc).lookup x=acc.lookup x
 | [],n,acc,x,_=>rfl
 | (z,k)::r,n,acc,x,h=>by
  have hr:(x,NameKind.cell)∉r:=λm=>h (aak _ m)
  unfold cellsFrom
  by_cases hk:(k==NameKind.cell)=true
  ·rw[if_pos hk,fS r _ _ x hr,aaM]
   have hk:k=.cell:=by simpa using hk
   subst hk
   have:(x==z)=false:=by
    cases q:x==z with
    | false=>rfl
    | true=>
     have e:x=z:=by simpa using q
     subst e
     exact absurd aaj h
   rw[this]
  ·rw[if_neg hk]
   exact fS r n acc x hr
theorem jY:∀(names:List (Str×NameKind)) (n:Nat) (acc:List (Str×Addr)) (x:Str),((x,NameKind.cell)∈names\/(acc.lookup x).isSome=true)->((cellsFrom n names acc).lookup x).isSome=true
 | [],n,acc,x,h=>by
  rcases h with h | h
  ·simp at h
  ·exact h
 | (z,k)::r,n,acc,x,h=>by
  unfold cellsFrom
  by_cases hk:(k==NameKind.cell)=true
  ·rw[if_pos hk]
   refine jY r _ _ x ?_
   rcases h with h | h
   ·rcases List.mem_cons.mp h with e | h
    ·cases e
     right
     rw[aaM]
     simp
    ·exact .inl h
   ·right
    rw[aaM]
    cases q:x==z with
    | true=>rfl
    | false=>exact h
  ·rw[if_neg hk]
   refine jY r _ _ x ?_
   rcases h with h | h
   ·rcases List.mem_cons.mp h with e | h
    ·cases e;exact absurd rfl hk
    ·exact .inl h
   ·exact .inr h
section
variable {M : Model} {A : Around} {E : Value -> Shared -> Prop} {s : Shared}
theorem ju {scope:Scope} {globals:Addr} {closure:List (Str×Addr)} {qual:Str} {func:Option Addr} {code:Value} {outer:Env} {Q:Env->Shared->Prop}
  (hQ:Q (newEnv scope s.heap.objs.size globals (cellsFrom (s.heap.objs.size+1) scope.names closure) qual func code (some outer) builtinsNs)
   {s with heap:=pushCells (s.heap.push {cls:=.type "dict",data:=.dict #[]}) scope.names}):
  wpAny M A (newFunctionEnv scope globals closure [] qual func code (some outer)) Q E s:=by
 simp only[newFunctionEnv,Option.isSome_some,if_true]
 refine wpAny_bind (wpAny_alloc ?_)
 refine wpAny_bind (wpAny_layCells _ (λname kind cells=>by cases WC:kind==NameKind.cell <;>simp [WC]) _ _ _ _ ?_)
 rw[show({s with heap:=s.heap.push {cls:=.type "dict",data:=.dict #[]}}:Shared).heap.objs.size=s.heap.objs.size+1 from Heap.size_push ..]
 refine wpAny_bind ?_
 rw[List.forIn_nil]
 exact wpAny_pure (wpAny_pure hQ)
end
structure EZ (X:Cx) (scope:Scope) (cl:List (Str×Addr)) (lo:Nat) (C:Addr) (h1:Heap):Prop where
 old:∀x c,cl.lookup x=some c->X.env.cells.lookup x=some c\/(lo<=c/\C<c/\h1.IsCell c none)
 inj:∀x y c,C<c->cl.lookup x=some c->cl.lookup y=some c->x=y
 has:∀n,(n,NameKind.free)∈scope.names\/(n,NameKind.cell)∈scope.names->∃c,cl.lookup n=some c
 Mf:∀n,scope.names.lookup n=some .free->∀c,cl.lookup n=some c->X.env.cells.lookup n=some c
 own:∀x c,scope.names.lookup x=some .cell->cl.lookup x=some c->lo<=c
section
variable {X : Cx} {pins : List (Addr × Obj)} {σ : St} {H : Hp} {s : Shared} {N' : List Str} {scope : Scope} {k : Nat} {fr : List Nat} {cl : List (Str × Addr)}
theorem E1 {C:Addr} {fp:List Addr} {h1:Heap} (I:Inv X pins σ H s) (S:eD X.N X.env.scope N' scope k fr) (B:EZ X scope cl s.heap.objs.size C h1)
  (hC:s.heap.objs.size<=C) (f2:∀b∈fp,iz X pins H b) (lt:∀b∈fp,b<s.heap.objs.size):(kX X N' scope cl C s H fp).Ok where
 mod:=I.ok.mod
 kind:=S.kind
 glob:=I.ok.glob
 blt:=I.ok.blt
 above:=hC
 inj:=λx y c h1 h2=>by
  rcases B.old _ _ h1 with o1 | o1 <;>rcases B.old _ _ h2 with o2 | o2
  ·exact I.ok.inj x y c o1 o2
  ·exact B.inj x y c o2.2.1 h1 h2
  ·exact B.inj x y c o1.2.1 h1 h2
  ·exact B.inj x y c o1.2.1 h1 h2
 has:=λx hx=>B.has x (jt hx)
 GQ:=λx c z e=>B.own x c (by
  have z:(scope.names.lookup x==some NameKind.cell)=true:=z
  simpa using z) e
 hd:=I.ok.hd
 frames:=I.ok.frames
 yK:=.inl rfl
 LN:=λb hb=>⟨aan (aav (lt b hb) hC),λx c e=>(B.old _ _ e).elim (λo=>(f2 b hb).2.2.2.2.1 x c o) λo=>Nat.ne_of_gt (aav (lt b hb) o.1)⟩
 bs:=I.bs
 yL:=aap I.ok.yL I.sz
 xI:=λb o e hb=>by
  rcases(f2 b hb).2.2.2.1 with z | z
  ·exact I.ok.xI b o e z
  ·exact absurd (aav (Heap.lt_size e) (aap I.ok.yL z)) (aaF _)
 yM:=λb hb z=>by
  rcases List.mem_cons.mp (I.qt b z) with q | q
  ·exact(f2 b hb).2.1 q
  ·exact(f2 b hb).2.2.1 q
 jO:=I.stack
 Dv:=I.vR
theorem Co {C:Addr} {fp:List Addr} {h1:Heap} {tk:Nat} {m:Str->Option Value} (I:Inv X pins σ H s) (S:eD X.N X.env.scope N' scope k fr) (B:EZ X scope cl s.heap.objs.size C h1)
  (hC:s.heap.objs.size<=C) (f2:∀b∈fp,iz X pins H b) (lt:∀b∈fp,b<s.heap.objs.size) (old:∀b o,s.heap.get? b=some o->h1.get? b=some o) (hn:h1.Ns C m):
  Inv (kX X N' scope cl C s H fp) [] (stC k fr σ) H {s with heap:=h1,toks:=tk}:=by
 refine⟨E1 I S B hC f2 lt,rfl,I.bare,Un.kept old,⟨m,hn,λi x v e1 e2 e3=>?_⟩,λx c e=>?_,I.bT.fresh hC,λx c e=>(B.old _ _ e).elim (λo=>I.gI x c o) λo=>I.bT.fresh o.1,λp hp=>absurd (show p∈([]:List (Addr×Obj)) from hp) (by simp),I.bT.kept old,?_⟩
 ·have e1:N'[i]?=some x:=e1
  unfold stC at e2
  by_cases hi:i<k
  ·rw[aaZ (by simpa using hi),List.getElem?_replicate,if_pos hi] at e2
   cases e2
  ·rw[aaY (by simpa using hi),aaR,aag] at e2
   cases q:fr[i - k]? with
   | none=>rw[q] at e2;cases e2
   | some j=>
    rw[q] at e2
    have e2:(σ[j]?).join=some v:=aay e2
    have ej:σ[j]?=some (some v):=by
     cases z:σ[j]? with
     | none=>rw[z] at e2;cases e2
     | some o=>rw[z] at e2;exact congrArg some e2
    have fU:i - k<fr.length:=(List.getElem?_eq_some_iff.mp q).1
    have GX:=S.at_ (i - k) fU
    rw[q,show k+ (i - k)=i by omega,e1] at GX
    have GX:X.N[j]?=some x:=GX
    have WD:x∈N'.drop k:=List.mem_iff_getElem?.mpr ⟨i - k,by rw[List.getElem?_drop,show k+ (i - k)=i by omega];exact e1⟩
    have HY:=S.Mf x WD
    have HZ:(x,NameKind.free)∈scope.names:=abb HY
    have Cp:=S.outer _ HZ rfl
    obtain⟨m0,hn0,E2⟩:=I.loc
    obtain⟨u,r,l⟩:=E2 j x v GX ej (.inr Cp)
    refine⟨u,r,.inr ⟨d3 HY,?_⟩⟩
    rcases l with ⟨kk,_⟩ | ⟨_,c,e,z⟩
    ·have kk:X.env.scope.names.lookup x=some .local:=kk
     rcases Cp with q1 | q1
     ·rw[kk] at q1;cases q1
     ·rw[kk] at q1;cases q1
    ·obtain⟨c',e'⟩:=B.has x (.inl HZ)
     have ec:=B.Mf x HY _ e'
     rw[e] at ec
     cases ec
     obtain⟨ob,ho,hd⟩:=z
     exact⟨c,e',ob,old _ _ ho,hd⟩
 ·rcases B.old _ _ e with o | o
  ·obtain⟨v,ob,ho,hd⟩:=I.cell x c o
   exact⟨v,ob,old _ _ ho,hd⟩
  ·exact⟨none,o.2.2⟩
 ·unfold stC
  rw[aaD,aaR,aac]
  exact S.len.symm
end
section
variable {prog : Program} {w : World} {A : Around} {E : Value -> Shared -> Prop} {R : Result -> Shared -> Prop} {s : Shared}
theorem gP {elt target iter:Expr} {ifs:List Expr} {scope:Scope} {pos:Pos} {it acc:Value} {env:Env} (I:Nat->Shared->Prop)
  (turn:∀n s,I n s->wpAny (model prog w) A (pyNext it) (λr s₁=>match r with
   | none=>R (.ok .next) s₁
   | some v=>wpAny (model prog w) A (letOwnedTupleGo target it v) (λ_ Uq=>wpAny (model prog w) A (assign target env v) (λ_ s₂=>
     wpAny (model prog w) A (forIn ifs true λc r=>if r=true then do let ok <-isTrue c env (eval c env);pure (ForInStep.yield ok) else pure (ForInStep.yield r)) (λok s₃=>
      if ok=true then wpAny (model prog w) A (eval elt env) (λx s₄=>
       wpAny (model prog w) A (call (.builtin "list.append") [acc,x]) (λ_ s₅=>∃m,m<n/\I m s₅) (λ_ _=>False) s₄) (notedBy (model prog w) A env λx s'=>R (.error x) s') s₃
      else ∃m,m<n/\I m s₃) (λ_ _=>False) s₂) (λ_ _=>False) Uq) (λ_ _=>False) s₁) (λ_ _=>False) s)
  (n:Nat) (h:I n s):
  codeAny (model prog w) A (.compLoop (.ListComp elt [⟨target,iter,ifs,0⟩] scope pos) 0 it acc env) R s:=by
 refine codeAny_loop rfl I (λn s hI=>?_) n h
 show wpAny _ A ((compTurn (.ListComp elt [⟨target,iter,ifs,0⟩] scope pos) 0 it acc env).onRaise (λx=>do noteFrame x env;theTreesLotGoes x)) _ _ s
 refine wpAny_noted ?_
 rw[compTurn_list]
 refine wpAny_bind (wpAny_standAt (wpAny_bind (wpAny_mono (turn n s hI) (λr s₁ h₁=>?_) λ_ _ h'=>h'.elim)))
 cases r with
 | none=>exact wpAny_pure h₁
 | some v=>
  refine wpAny_bind (wpAny_mono h₁ (λ_ Uq WG=>?_) λ_ _ h'=>h'.elim)
  refine wpAny_bind (wpAny_mono WG (λ_ s₂ h₂=>wpAny_bind (wpAny_mono h₂ (λok s₃ h₃=>?_) λ_ _ h'=>h'.elim)) λ_ _ h'=>h'.elim)
  cases ok with
  | false=>exact wpAny_pure ⟨rfl,h₃⟩
  | true=>
   exact wpAny_bind (wpAny_bind (wpAny_mono h₃ (λx s₄ h₄=>wpAny_bind (wpAny_mono h₄ (λ_ s₅ h₅=>wpAny_pure (wpAny_pure ⟨rfl,h₅⟩)) λ_ _ h'=>h'.elim)) λ_ _ h'=>h'))
end
noncomputable def E3 (X:Cx) (ifs:List Expr) (t:TT):Prop:=
 ∀(pins:List (Addr×Obj)) (s:Shared) (σ:St) (H:Hp) (Q:Bool->Hp->Prop),Inv X pins σ H s->t σ H Q->
  wpAny (model X.prog X.w) X.A (forIn ifs true λc r=>if r=true then do let ok <-isTrue c X.env (eval c X.env);pure (ForInStep.yield ok) else pure (ForInStep.yield r)) (TP X pins σ Q) X.xe s
noncomputable def gQ:TT:=λ_ H Q=>Q true H
theorem bJ {X:Cx}:E3 X [] gQ:=λ_ _ _ H _ I h=>wpAny_tests_nil ⟨H,I,h⟩
theorem md {X:Cx} {c:Expr} {t:TT} (h:PT X c t):E3 X [c] t:=λpins s σ H Q I hq=>wpAny_tests_one (h pins s σ H Q I hq)
section
variable {X : Cx}
noncomputable def fh (J:It) (g:TG) (tc:TT) (te:TE) (σ0:St) (H1:Hp) (fin:List V->Hp->Prop):Prop:=
 ∃W:Nat->Nat->List V->St->Hp->Prop,(∃m,W 0 m [] σ0 H1)/\∀i m ys σ2 H2,W i m ys σ2 H2->
  (J.stop i H2/\fin ys H2)\/
  (J.go i H2/\∀x H3,J.vS i H2 x H3->g x σ2 H3 λσ3 H4=>tc σ3 H4 λb H5=>if b=true then te σ3 H5 λy H6=>ys.length<sizeLine/\∃m',m'<m/\W (i+1) m' (ys++ [y]) σ3 H6 else ∃m',m'<m/\W (i+1) m' ys σ3 H5)
noncomputable def eG (aU:List Value) (n:Nat):Obj:={cls:=.type "list",data:=.seq aU.toArray n}
theorem zm {elt target iter:Expr} {ifs:List Expr} {scope:Scope} {pos:Pos} {g:TG} {tc:TT} {te:TE} {k:Nat} {fr:List Nat} {N':List Str} {cl:List (Str×Addr)} {pins:List (Addr×Obj)} {σ:St} {H2:Hp} {s2:Shared}
  {it:Addr} {fp:List Addr} {tn:Nat->Heap->Prop} {J:It} {fin:List V->Hp->Prop} {R0:Result->Shared->Prop} {XE:List (Str×Addr)->Addr->Shared->Hp->List Addr->Value->Shared->Prop}
  (hc:X.calm=true) (S:eD X.N X.env.scope N' scope k fr) (c1:∀x c,cl.lookup x=some c->X.env.cells.lookup x=some c) (c2:∀n,(n,NameKind.free)∈scope.names->∃c,cl.lookup n=some c) (cin:∀x c,(x,c)∈cl->∃y,X.env.cells.lookup y=some c) (KQ:∀x,(x,NameKind.cell)∈scope.names->∀c,(x,c)∉cl)
  (hg:∀cl C s H ex,PG (kX X N' scope cl C s H ex) target g) (ht:∀cl C s H ex,E3 (kX X N' scope cl C s H ex) ifs tc) (he:∀cl C s H ex,PE ((kX X N' scope cl C s H ex).jP (XE cl C s H ex)) elt te)
  (I2:Inv X pins σ H2 s2) (T:Turn X.prog X.w X.K target J fp it tn) (uI:tn 0 s2.heap) (f2:∀b∈fp,iz X pins H2 b) (hb:fh J g tc te (stC k fr σ) H2 fin)
  (hR:∀(C:Addr),C=(s2.heap.push {cls:=.type "list",dict:=none,data:=.seq ([]:List Value).toArray}).objs.size->∀(s':Shared) (m:Str->Option Value) (ys:List V) (aU:List Value) (n:Nat) (H':Hp),s2.heap.objs.size<C->s'.heap.Ns C m->bu ys aU->ys.length<=sizeLine->s'.heap.get? s2.heap.objs.size=some (eG aU n)->H' s2.heap.objs.size=none->H' C=none->fin ys H'->
   s'.os=s2.os->AllBare s'.gens->Un (sx X.stack) fp H2 H' s2.heap s'.heap->gz X.prog X.w H' s'.heap->R0 (.ok .next) s')
  (hE:∀cl C x s',C=(s2.heap.push {cls:=.type "list",dict:=none,data:=.seq ([]:List Value).toArray}).objs.size->s2.heap.objs.size<C->XE cl C s2 H2 fp x s'->notedBy (model X.prog X.w) X.A (compEnvC scope cl C X.env) (λy EF=>R0 (.error y) EF) x s'):
  codeAny (model X.prog X.w) X.A (.compStart (.ListComp elt [⟨target,iter,ifs,0⟩] scope pos) 0 (.ref it) (.ref s2.heap.objs.size) (compEnvC scope (cellsFrom ((s2.heap.push {cls:=.type "list",dict:=none,data:=.seq ([]:List Value).toArray}).objs.size+1) scope.names cl) (s2.heap.push {cls:=.type "list",dict:=none,data:=.seq ([]:List Value).toArray}).objs.size X.env)) R0 {s2 with heap:=pushCells ((s2.heap.push {cls:=.type "list",dict:=none,data:=.seq ([]:List Value).toArray}).push {cls:=.type "dict",data:=.dict #[]}) scope.names}:=by
 obtain⟨W,⟨m0,w0⟩,turn⟩:=hb
 have lt:∀b∈fp,b<s2.heap.objs.size:=λb hb=>by
  obtain⟨o,e,_⟩:=T.obj _ _ uI b hb
  exact Heap.lt_size e
 generalize Mg:s2.heap.push {cls:=.type "list",dict:=none,data:=.seq ([]:List Value).toArray}=G2 at hR hE ⊢
 have GY:G2.objs.size=s2.heap.objs.size+1:=by rw[<-Mg,Heap.size_push]
 have Ur:s2.heap.objs.size≠G2.objs.size:=by rw[GY];exact aan (aaK _)
 have hC:s2.heap.objs.size<=G2.objs.size:=by rw[GY];exact Nat.le_succ _
 have old:∀b o,s2.heap.get? b=some o->(pushCells (G2.push {cls:=.type "dict",data:=.dict #[]}) scope.names).get? b=some o:=λb o e=>by
  refine pushCells_keeps _ _ b o (Heap.get?_push_of_some _ ?_)
  rw[<-Mg]
  exact Heap.get?_push_of_some _ e
 have Cq:(pushCells (G2.push {cls:=.type "dict",data:=.dict #[]}) scope.names).get? s2.heap.objs.size=some (eG [] 0):=by
  refine pushCells_keeps _ _ _ _ (Heap.get?_push_of_some _ ?_)
  rw[<-Mg]
  exact Heap.get?_push_size _ rfl
 have Mh:(pushCells (G2.push {cls:=.type "dict",data:=.dict #[]}) scope.names).Ns G2.objs.size λ_=>none:=(Heap.Ns.new G2 (.type "dict")).keeps (pushCells_keeps _ _)
 have Us:∀x c,(x,c)∈cl->c<G2.objs.size+1:=λx c m=>by
  obtain⟨y,hy⟩:=cin x c m
  obtain⟨v,q⟩:=I2.cell y c hy
  rw[GY]
  exact abp (abp q.lt)
 have B:EZ X scope (cellsFrom (G2.objs.size+1) scope.names cl) s2.heap.objs.size G2.objs.size (pushCells (G2.push {cls:=.type "dict",data:=.dict #[]}) scope.names):=by
  have own:=jW scope.names (G2.push {cls:=.type "dict",data:=.dict #[]}) cl
  rw[Heap.size_push] at own
  refine⟨λx c e=>?_,λx y c hc h1 h2=>?_,λn hn=>?_,λn hn c e=>?_,λx c hx e=>?_⟩
  ·by_cases hx:(x,NameKind.cell)∈scope.names
   ·rcases own x c (abb e) with m | ⟨q1,q2,_⟩
    ·
     exfalso
     exact KQ x hx c m
    ·exact .inr ⟨aap hC (Nat.le_of_succ_le q1),q1,q2⟩
   ·rw[fS _ _ _ _ hx] at e
    exact .inl (c1 x c e)
  ·exact jX scope.names (G2.objs.size+1) (G2.objs.size+1) cl Us (λx y c hl m1 _=>absurd (Us x c m1) (Nat.not_lt.mpr hl)) x y c hc (abb h1) (abb h2)
  ·refine Option.isSome_iff_exists.mp (jY _ _ _ n ?_)
   rcases hn with hn | hn
   ·obtain⟨c,e⟩:=c2 n hn
    exact .inr (by rw[e];rfl)
   ·exact .inl hn
  ·have hx:(n,NameKind.cell)∉scope.names:=λm=>by
    have:=(S.EY _ m rfl).1
    rw[hn] at this
    cases this
   rw[fS _ _ _ _ hx] at e
   exact c1 n c e
  ·have hx:=abb hx
   rcases own x c (abb e) with m | ⟨q1,q2,_⟩
   ·exact absurd m (KQ x hx c)
   ·exact aap hC (Nat.le_of_succ_le q1)
 generalize pushCells (G2.push {cls:=.type "dict",data:=.dict #[]}) scope.names=h₁ at *
 generalize cellsFrom (G2.objs.size+1) scope.names cl=u4 at *
 generalize E4:s2.heap.objs.size=D at *
 generalize hCc:G2.objs.size=C at *
 have fD:H2 D=none:=by rw[<-E4];exact I2.bT.fresh (aah _)
 have cells:∀x c,u4.lookup x=some c->c≠D:=λx c e=>by
  rcases B.old _ _ e with o | o
  ·obtain⟨v,q⟩:=I2.cell x c o
   rw[<-E4]
   exact aan q.lt
  ·exact Nat.ne_of_gt (Nat.lt_trans (by rw[GY];exact aaK _) o.2.1)
 have loop:∀(DD:Addr) (s3:Shared),DD=it->(∃tk,s3={s2 with heap:=h₁,toks:=tk})->
   codeAny (model X.prog X.w) X.A (.compLoop (.ListComp elt [⟨target,iter,ifs,0⟩] scope pos) 0 (.ref DD) (.ref D) (compEnvC scope u4 C X.env)) R0 s3:=by
  rintro DD s3 rfl ⟨tk,rfl⟩
  have I3:Inv (kX X N' scope u4 C s2 H2 fp) [] (stC k fr σ) H2 {s2 with heap:=h₁,toks:=tk}:=Co I2 S (by rw[E4];exact B) (by rw[E4];exact hC) f2 (by rw[E4];exact lt) old Mh
  have uJ:∀{H':Hp} {o:Obj},(∀b∈fp,H' b=none)->∀b∈fp,iz (kX X N' scope u4 C s2 H2 fp) [(D,o)] H' b:=λ{H' o} hn b hb=>
   ⟨hn b hb,aan (aav (lt b hb) hC),λz=>by
    rcases List.mem_cons.mp (I2.qt b z) with q | q
    ·exact(f2 b hb).2.1 q
    ·exact(f2 b hb).2.2.1 q,.inl hb,λx c e=>(B.old _ _ e).elim (λo=>(f2 b hb).2.2.2.2.1 x c o) (λo=>Nat.ne_of_gt (aav (lt b hb) o.1)),λp hp=>by
    have e:p=(D,o):=by simpa [kX] using hp
    rw[e]
    exact Nat.ne_of_gt (lt b hb)⟩
  have Mi:∀{σ':St} {H':Hp} {s':Shared} {o:Obj},Inv (kX X N' scope u4 C s2 H2 fp) [] σ' H' s'->s'.heap.get? D=some o->H' D=none->(∀v,o.data≠.cell v)->Inv (kX X N' scope u4 C s2 H2 fp) [(D,o)] σ' H' s':=λ{σ' H' s' o} I' e n hd=>
   I'.jj λp hp=>by
    have q:p=(D,o):=by simpa using hp
    subst q
    refine⟨e,n,Ur,λz=>?_,hd⟩
    obtain⟨_,ob,ho,_⟩:=I2.stack.mem z
    exact absurd (Heap.lt_size ho) (by rw[E4];exact aaF _)
  have WH:∀{aU:List Value} {n:Nat} (v:Option Value),(eG aU n).data≠.cell v:=λv z=>by
   have z:Data.seq _ _=Data.cell v:=z
   cases z
  refine gP (λn s'=>∃i ys σ' H' aU yF,Inv (kX X N' scope u4 C s2 H2 fp) [] σ' H' s'/\tn i s'.heap/\(∀b∈fp,H' b=none)/\s'.heap.get? D=some (eG aU yF)/\H' D=none/\bu ys aU/\ys.length<=sizeLine/\W i n ys σ' H') ?_ m0
   ⟨0,[],_,H2,[],0,I3,T.keep _ _ _ uI (λb _ o e=>old b o e),λb hb=>(f2 b hb).1,Cq,fD,.nil,aas _,w0⟩
  rintro n s4 ⟨i,ys,σ4,H4,aU,yF,I4,Ut,Uu,WI,Uv,KR,Uw,w4⟩
  have Ux:=Mi I4 WI Uv WH
  rcases turn i n ys σ4 H4 w4 with ⟨stop,qf⟩ | ⟨go,step⟩
  ·refine cA (T.done (kX X N' scope u4 C s2 H2 fp) rfl rfl rfl hc i _ s4 σ4 H4 _ Ux (uJ Uu) Ut stop) λr s5 ⟨hr,I5⟩=>?_
   subst hr
   obtain⟨m5,WJ,_⟩:=I5.loc
   exact hR C rfl s5 m5 ys aU yF H4 (by rw[GY];exact aaK _) WJ KR Uw (I5.pin (D,eG aU yF) (aaI _ aaj)).1 Uv I5.free qf I5.os I5.bare I5.base I5.bT
  ·refine cA (T.item (kX X N' scope u4 C s2 H2 fp) rfl rfl rfl hc i _ s4 σ4 H4 _ Ux (uJ Uu) Ut go) λr s5 ⟨u,hr,h5⟩=>?_
   subst hr
   refine cA h5 λ_ s6 c6=>?_
   obtain⟨x,H6,I6,r6,y6,Mj,WK⟩:=c6
   have WL:=I6.pinned (uJ WK) (T.obj _ _ Mj)
   refine cA (hg u4 C s2 H2 fp _ s6 σ4 H6 x u _ WL r6 (step x H6 y6)) λ_ s7 ⟨σ7,H7,I7,q7⟩=>?_
   refine cA (ht u4 C s2 H2 fp _ s7 σ7 H7 _ I7 q7) λok s8 ⟨H8,I8,q8⟩=>?_
   have back:∀{σ':St} {H':Hp} {s':Shared},Inv (kX X N' scope u4 C s2 H2 fp) ([(D,eG aU yF)]++mP fp s6.heap) σ' H' s'->tn (i+1) s'.heap/\(∀b∈fp,H' b=none)/\s'.heap.get? D=some (eG aU yF)/\H' D=none:=λ{σ' H' s'} I'=>by
    have pD:=I'.pin (D,eG aU yF) (aaI _ (abv _ (by simp)))
    refine⟨T.keep _ _ _ Mj λb hb o e=>(I'.pin (b,o) (aaI _ (aaI _ (fQ hb e)))).1,λb hb=>?_,pD.1,pD.2.1⟩
    obtain⟨o,e,d⟩:=T.obj _ _ Mj b hb
    exact(I'.pin (b,o) (aaI _ (aaI _ (fQ hb e)))).2.1
   cases ok with
   | false=>
    rw[if_neg aaz]
    rw[if_neg aaz] at q8
    obtain⟨m',hm,w8⟩:=q8
    obtain⟨b1,b2,b3,b4⟩:=back I8
    exact⟨m',hm,i+1,ys,σ7,H8,aU,yF,I8.jj (λp hp=>absurd hp (by simp)),b1,b2,b3,b4,KR,Uw,w8⟩
   | true=>
    rw[if_pos rfl]
    rw[if_pos rfl] at q8
    refine wpAny_mono (he u4 C s2 H2 fp _ s8 σ7 H8 _ (I8.jP _) q8) (λy s9 ⟨z,H9,I9,r9,fU,m',hm,w9⟩=>?_) λx s' hx=>hE u4 C x s' rfl (by rw[GY];exact aaK _) hx
    have I9:=I9.fP
    obtain⟨b1,b2,b3,b4⟩:=back I9
    have hl:=KR.length
    refine call_meets F.slot_list_append ⟨_,b3,rfl⟩ F.entry_list_append (F.args_list_append_2 _ _) (PySem.list_append D aU.toArray yF y (by rw[aam];omega)) ⟨b3,?_⟩
    obtain⟨c',q⟩:∃c',(s9.heap.update D (Obj.mapSeq λx=>x.push y)).get? D=some (eG (aU++ [y]) c'):=by
     have q:=PySem.IsL.update b3 (λx=>x.push y)
     rw[show aU.toArray.push y=(aU++ [y]).toArray by simp] at q
     exact⟨_,q⟩
    have WM:Inv (kX X N' scope u4 C s2 H2 fp) [] σ7 H9 s9:=I9.jj (λp hp=>absurd hp (by simp))
    have kp:∀b o,b≠D->s9.heap.get? b=some o->(s9.heap.update D (Obj.mapSeq λx=>x.push y)).get? b=some o:=λb o hb e=>(Heap.get?_update_other s9.heap (Obj.mapSeq λx=>x.push y) (Ne.symm hb)).trans e
    have WN:=WM.turned (t':=s9.toks) (it:=D) (h':=s9.heap.update D (Obj.mapSeq λx=>x.push y)) kp b4 Ur (.inr (by show s2.heap.objs.size<=D;rw[E4];exact aah _)) (λx c e=>cells x c e) (λp hp=>absurd hp (by simp [kX]))
    refine⟨m',hm,i+1,ys++ [z],σ7,H9,aU++ [y],c',WN,T.keep _ _ _ b1 (λb hb o e=>kp b o (aan (lt b hb)) e),b2,q,b4,KR.append (.cons r9 .nil),?_,w9⟩
    ·rw[aaD,List.length_singleton]
     omega
 exact codeAny_compStart_list (loop it _ rfl ⟨_,rfl⟩) (T.self _ 0 _ _ _ (T.keep _ _ _ uI (λb _ o e=>old b o e)) (loop it _ rfl ⟨_,rfl⟩))
theorem pQ {elt target iter:Expr} {ifs:List Expr} {scope:Scope} {pos:Pos} {g:TG} {tc:TT} {te:TE} {k:Nat} {fr:List Nat} {N':List Str} {cl:List (Str×Addr)} {pins:List (Addr×Obj)} {σ:St} {H2:Hp} {s2:Shared}
  {it:Addr} {fp:List Addr} {tn:Nat->Heap->Prop} {J:It} {E:Value->Shared->Prop} {fin:List V->Hp->Prop} {RR:Value->Addr->Result->Shared->Prop} {XE:List (Str×Addr)->Addr->Shared->Hp->List Addr->Value->Shared->Prop}
  (hc:X.calm=true) (S:eD X.N X.env.scope N' scope k fr) (c1:∀x c,cl.lookup x=some c->X.env.cells.lookup x=some c) (c2:∀n,(n,NameKind.free)∈scope.names->∃c,cl.lookup n=some c) (cin:∀x c,(x,c)∈cl->∃y,X.env.cells.lookup y=some c) (KQ:∀x,(x,NameKind.cell)∈scope.names->∀c,(x,c)∉cl)
  (hg:∀cl C s H ex,PG (kX X N' scope cl C s H ex) target g) (ht:∀cl C s H ex,E3 (kX X N' scope cl C s H ex) ifs tc) (he:∀cl C s H ex,PE ((kX X N' scope cl C s H ex).jP (XE cl C s H ex)) elt te)
  (I2:Inv X pins σ H2 s2) (T:Turn X.prog X.w X.K target J fp it tn) (uI:tn 0 s2.heap) (f2:∀b∈fp,iz X pins H2 b) (hb:fh J g tc te (stC k fr σ) H2 fin)
  (hR:∀(C:Addr) (s':Shared) (m:Str->Option Value) (ys:List V) (aU:List Value) (n:Nat) (H':Hp),s2.heap.objs.size<C->s'.heap.Ns C m->bu ys aU->ys.length<=sizeLine->s'.heap.get? s2.heap.objs.size=some (eG aU n)->H' s2.heap.objs.size=none->H' C=none->fin ys H'->
   s'.os=s2.os->AllBare s'.gens->Un (sx X.stack) fp H2 H' s2.heap s'.heap->gz X.prog X.w H' s'.heap->RR (.ref s2.heap.objs.size) C (.ok .next) s')
  (hE:∀cl C x s',s2.heap.objs.size<C->XE cl C s2 H2 fp x s'->notedBy (model X.prog X.w) X.A (compEnvC scope cl C X.env) (λy EF=>RR (.ref s2.heap.objs.size) C (.error y) EF) x s'):
  wpAny (model X.prog X.w) X.A (newList []) (λacc s₃=>wpAny (model X.prog X.w) X.A (newFunctionEnv scope X.env.globals cl [] X.env.qual none .none (some X.env)) (λIa s₄=>
   codeAny (model X.prog X.w) X.A (.compStart (.ListComp elt [⟨target,iter,ifs,0⟩] scope pos) 0 (.ref it) acc {Ia with scope:=relabel scope X.env}) (RR acc Ia.locals) s₄) E s₃) E s2:=by
 refine wpAny_newObj_type (ju ?_)
 exact zm (R0:=RR _ _) hc S c1 c2 cin KQ hg ht he I2 T uI f2 hb (λC e=>by subst e;exact hR _) (λcl C x s' e=>by subst e;exact hE cl _ x s')
theorem comp_back {fp:List Addr} {pins:List (Addr×Obj)} {σ:St} {H2 H':Hp} {s2 s':Shared} {C:Addr} {ys:List V} {aU:List Value} {n:Nat} {h':Heap} (I2:Inv X pins σ H2 s2) (f2:∀b∈fp,iz X pins H2 b) (hC:s2.heap.objs.size<C)
  (vl:bu ys aU) (sz:ys.length<=sizeLine) (hD:s'.heap.get? s2.heap.objs.size=some (eG aU n)) (nD:H' s2.heap.objs.size=none) (nC:H' C=none)
  (os:s'.os=s2.os) (bare:AllBare s'.gens) (un:Un (sx X.stack) fp H2 H' s2.heap s'.heap) (bT:gz X.prog X.w H' s'.heap) (hs:Heap.SameBut C s'.heap h'):
  Inv X pins σ (upd H' s2.heap.objs.size (.lst ys)) {s' with heap:=h'}:=by
 have Ml:∀b o,s2.heap.get? b=some o->b≠C:=λb o e=>aan (Nat.lt_trans (Heap.lt_size e) hC)
 have WO:∀b o,s2.heap.get? b=some o->b≠s2.heap.objs.size:=λb o e=>aan (Heap.lt_size e)
 have tk:∀b u,H' b=some u->b≠s2.heap.objs.size:=λb u e z=>by rw[z,nD] at e;cases e
 have tC:∀b u,H' b=some u->b≠C:=λb u e z=>by rw[z,nC] at e;cases e
 have fD:H2 s2.heap.objs.size=none:=I2.bT.fresh (aah _)
 have t2:∀b u,H2 b=some u->b≠s2.heap.objs.size:=λb u e z=>by rw[z,fD] at e;cases e
 refine I2.Hr (s':={s' with heap:=h'}) (ch:=fp) os ⟨λb o e m hb hx=>?_,λb o e m hb hx=>?_,λb o e m hx=>?_,λb o e hx=>?_,λb xs e=>?_,λb o u e=>?_,λb ps e=>?_⟩ (λb u e=>?_) bare λb hb=>?_
 ·exact(hs.2 b (Ml b o e)).trans (un.keep b o e m hb hx)
 ·obtain⟨sl,q⟩:=un.slot b o e m hb hx
  exact⟨sl,(hs.2 b (Ml b o e)).trans q⟩
 ·rw[aI (WO b o e)]
  exact un.free b o e m hx
 ·obtain⟨o',q⟩:=un.there b o e hx
  exact⟨o',(hs.2 b (Ml b o e)).trans q⟩
 ·rw[aI (t2 b _ e)]
  exact un.kR b xs e
 ·rw[aI (t2 b _ e)]
  exact un.mK b o u e
 ·obtain⟨mo,q⟩:=un.mL b ps e
  exact⟨mo,by rw[aI (t2 b _ e)];exact q⟩
 ·by_cases hb:b=s2.heap.objs.size
  ·subst hb
   rw[ar] at e
   cases e
   exact⟨sz,aU,n,vl,(hs.2 _ (aan hC)).trans hD⟩
  ·rw[aI hb] at e
   exact(bT b u e).oS (λc v hc q=>(hs.2 c (by
    rcases hc with rfl | hc
    ·exact tC _ _ e
    ·exact tC _ _ hc)).trans q) (λc r=>by rw[aI (tk _ _ r)];exact r) λc xs r=>by rw[aI (tk _ _ r)];exact r
 ·exact⟨(f2 b hb).2.2.2.1,(f2 b hb).2.1,(f2 b hb).2.2.2.2.1,(f2 b hb).2.2.2.2.2⟩
noncomputable def tComp (wi:TI) (g:TG) (tc:TT) (te:TE) (k:Nat) (fr:List Nat):TE:=λσ H Q=>wi σ H λJ H1=>fh J g tc te (stC k fr σ) H1 λys H2=>∀D,H1 D=none->H2 D=none->Q (.ref D) (upd H2 D (.lst ys))
theorem bW {elt target iter:Expr} {ifs:List Expr} {scope so:Scope} {pos:Pos} {wi:TI} {g:TG} {tc:TT} {te:TE} {k:Nat} {fr:List Nat} {N N':List Str} (hc:X.calm=true) (hN:X.N=N) (Mm:X.env.scope=so) (S:eD N so N' scope k fr)
  (hi:PI X target iter wi) (hg:∀cl C s H ex,PG (kX X N' scope cl C s H ex) target g) (ht:∀cl C s H ex,E3 (kX X N' scope cl C s H ex) ifs tc) (he:∀cl C s H ex,PE (kX X N' scope cl C s H ex) elt te)
  (hs:∀x,foldedSetIterable iter X.env x=pure x:=by intro _;rfl):PE X (.ListComp elt [⟨target,iter,ifs,0⟩] scope pos) (tComp wi g tc te k fr):=by
 subst hN Mm
 intro pins s σ H Q I h
 rw[eval_ListComp]
 obtain⟨cl,Cr,c1,c2,c3⟩:=fg (env:=X.env) (scope:=scope) λn hn=>I.ok.has n (S.outer _ hn rfl)
 refine wpAny_comprehension_free (use:=none) (cl:=cl) rfl hs Cr S.kind S.locs ?_
 refine cA (hi pins s σ H _ I h) λv s1 h1=>cA h1 λDD s2 h2=>?_
 obtain⟨it,fp,tn,J,H2,rfl,I2,T,uI,f2,hb⟩:=h2
 refine pQ (RR:=λacc C=>compPost (model X.prog X.w) X.A X.xe none (EP X pins σ Q) acc C) hc S c1 c2 (λx c m=>⟨x,(c3 x c m).1⟩) (λx hx c m=>(S.EY _ hx rfl).2 (c3 x c m).2) (XE:=λ_ _ _ _ _ _ _=>False) hg ht he I2 T uI f2 hb ?_ (λ_ _ _ _ _ z=>False.elim z)
 intro C s' m ys aU n H' hC hn vl sz hD nD nC fin os bare un bT
 exact⟨m,hn,λh' Mn=>⟨.ref _,_,comp_back I2 f2 hC vl sz hD nD nC os bare un bT Mn,rfl,fin _ (I2.bT.fresh (aah _)) nD⟩⟩
theorem eQ {elt target iter:Expr} {ifs:List Expr} {scope so:Scope} {pos Ib py:Pos} {wi:TI} {g:TG} {tc:TT} {te:TE} {k:Nat} {fr:List Nat} {N N':List Str} {y:Str} {i:Nat} (hc:X.calm=true) (hN:X.N.Nodup) (hy:X.N[i]?=some y) (hl:X.env.scope.names.lookup y=some .local)
  (WQ:X.N=N) (Mm:X.env.scope=so) (S:eD N so N' scope k fr)
  (hi:PI X target iter wi) (hg:∀cl C s H ex,PG (kX X N' scope cl C s H ex) target g) (ht:∀cl C s H ex,E3 (kX X N' scope cl C s H ex) ifs tc) (he:∀cl C s H ex,PE (kX X N' scope cl C s H ex) elt te)
  (Mo:swapsWith (.ListComp elt [⟨target,iter,ifs,0⟩] scope pos) (some (.Name y py)) Ib.line X.env=pure true:=by rfl)
  (hs:∀x,foldedSetIterable iter X.env x=pure x:=by intro _;rfl):PS X (.Assign [.Name y py] (.ListComp elt [⟨target,iter,ifs,0⟩] scope pos) Ib) (tAsg (tComp wi g tc te k fr) (gName i)):=by
 subst WQ Mm
 intro pins s σ H D I h
 rw[exec_Assign_Name_used _ _ _ _ Mo]
 obtain⟨cl,Cr,c1,c2,c3⟩:=fg (env:=X.env) (scope:=scope) λn hn=>I.ok.has n (S.outer _ hn rfl)
 refine wpAny_bind (wpAny_standAt (wpAny_bind ?_))
 show wpAny _ X.A (do let _ <-comprehension (.ListComp elt [⟨target,iter,ifs,0⟩] scope pos) scope X.env _ (newList []) false (eval iter X.env) (some (assign (.Name y py) X.env))) _ _ s
 refine wpAny_bind (wpAny_mono (wpAny_comprehension_free (use:=some (assign (.Name y py) X.env)) (Q:=λ_ s'=>SP X pins D .next s') (cl:=cl) rfl hs Cr S.kind S.locs ?_) (λ_ s' hq=>wpAny_pure (wpAny_pure hq)) λ_ _ e=>e)
 refine cA (hi pins s σ H _ I h) λv s1 h1=>cA h1 λDD s2 h2=>?_
 obtain⟨it,fp,tn,J,H2,rfl,I2,T,uI,f2,hb⟩:=h2
 refine pQ (RR:=λacc C=>compPost (model X.prog X.w) X.A X.xe (some (assign (.Name y py) X.env)) (λ_ s'=>SP X pins D .next s') acc C) hc S c1 c2 (λx c m=>⟨x,(c3 x c m).1⟩) (λx hx c m=>(S.EY _ hx rfl).2 (c3 x c m).2) (XE:=λ_ _ _ _ _ _ _=>False) hg ht he I2 T uI f2 hb ?_ (λ_ _ _ _ _ z=>False.elim z)
 intro C s' m ys aU n H' hC hn vl sz hD nD nC fin os bare un bT
 have I3:Inv X pins σ (upd H' s2.heap.objs.size (.lst ys)) s':=comp_back (h':=s'.heap) I2 f2 hC vl sz hD nD nC os bare un bT (.refl ..)
 refine wpAny_assign_Name (pA (v:=.ref s2.heap.objs.size) I3 hN hy (.inl hl) rfl (λs4 I4 ch=>?_) (.inr hl))
 have Uy:X.env.locals<s2.heap.objs.size:=I2.lt
 obtain⟨a,WR,ha⟩:=ch
 have aC:a≠C:=by
  rcases ha with rfl | ha
  ·exact aan (Nat.lt_trans Uy hC)
  ·obtain⟨v,q⟩:=I2.cell _ _ ha
   exact aan (Nat.lt_trans q.lt hC)
 refine⟨m,hn.sameBut WR (Ne.symm aC),λh' Mn=>⟨_,_,?_,fin _ (I2.bT.fresh (aah _)) nD⟩⟩
 have WS:(upd H' s2.heap.objs.size (.lst ys)) C=none:=by rw[aI (Nat.ne_of_gt hC)];exact nC
 exact I4.turned (t':=s4.toks) (it:=C) (h':=h') (λb o hb e=>(Mn.2 b hb).trans e) WS (Nat.ne_of_gt (Nat.lt_trans Uy hC)) (.inr (aap I2.sz (Nat.le_of_lt hC))) (λx c e z=>by
  obtain⟨v,q⟩:=I2.cell x c e
  exact absurd (Nat.lt_trans q.lt hC) (by rw[z];exact aaF _)) (λp hp z=>by
  have:=Heap.lt_size (I2.pin p hp).1
  rw[z] at this
  exact absurd (Nat.lt_trans this hC) (aaF _))
end
structure Src (J:It) (Ok:Hp->Prop) (n:Nat) (Item:Nat->V->Hp->Hp->Prop):Prop where
 go:∀i H,i<n->Ok H->J.go i H
 vS:∀i H x H3,i<n->Ok H->J.vS i H x H3->Item i x H H3
 stop:∀H,Ok H->J.stop n H
theorem src_list {K:PySem.W.Frag} {a:Addr} {xs:List V} {Ok:Hp->Prop} (h:∀H,Ok H->bj K H a xs):Src (vT K a) Ok xs.length (λi x H H3=>H3=H/\xs[i]?=some x) where
 go:=λi H hi ok=>⟨xs,xs[i],h H ok,by simp [hi]⟩
 vS:=λi H x H3 hi ok ⟨e,y⟩=>⟨e,y xs (h H ok)⟩
 stop:=λH ok=>⟨xs,h H ok,aah _⟩
theorem src_range {lo:Int} {n:Nat} {Ok:Hp->Prop}:Src (Ht lo n) Ok n (λi x H H3=>H3=H/\x=.int (lo+i)) where
 go:=λ_ _ hi _=>hi
 vS:=λ_ _ _ _ _ _ y=>y
 stop:=λ_ _=>aah _
theorem ib {J:It} {g:TG} {tc:TT} {te:TE} {σ0:St} {H1:Hp} {fin:List V->Hp->Prop} {n:Nat} {Item:Nat->V->Hp->Hp->Prop} (S:Src J (az H1) n Item) (E5:St->Prop) (h0:E5 σ0) (P:Nat->List V->Hp->Prop) (p0:P 0 [] H1) (hz:n<=sizeLine)
  (hs:∀i x σ H ys H3 (Q:St->V->Hp->Prop) (N:St->Hp->Prop),i<n->az H1 H->P i ys H->ys.length<=i->E5 σ->Item i x H H3->
   (∀σ3 y H6,E5 σ3->az H1 H6->P (i+1) (ys++ [y]) H6->Q σ3 y H6)->(∀σ3 H5,E5 σ3->az H1 H5->P (i+1) ys H5->N σ3 H5)->
   g x σ H3 λσ3 H4=>tc σ3 H4 λb H5=>if b=true then te σ3 H5 λy H6=>Q σ3 y H6 else N σ3 H5)
  (jZ:∀ys H,az H1 H->P n ys H->ys.length<=n->fin ys H):fh J g tc te σ0 H1 fin:=by
 refine⟨λi m ys σ H=>m=n - i/\i<=n/\ys.length<=i/\E5 σ/\az H1 H/\P i ys H,⟨n,by simp,aas _,aah _,h0,az.refl _,p0⟩,?_⟩
 rintro i m ys σ H ⟨rfl,hi,hl,ow,sm,p⟩
 by_cases fU:i<n
 ·refine .inr ⟨S.go i H fU sm,λx H3 y=>hs i x σ H ys H3 (λσ3 y H6=>ys.length<sizeLine/\∃m',m'<n - i/\m'=n - (i+1)/\i+1<=n/\(ys++ [y]).length<=i+1/\E5 σ3/\az H1 H6/\P (i+1) (ys++ [y]) H6)
   (λσ3 H5=>∃m',m'<n - i/\m'=n - (i+1)/\i+1<=n/\ys.length<=i+1/\E5 σ3/\az H1 H5/\P (i+1) ys H5) fU sm p hl ow (S.vS i H x H3 fU sm y) (λσ3 y H6 o s6 q=>?_) (λσ3 H5 o s5 q=>?_)⟩
  ·exact⟨by omega,n - (i+1),by omega,rfl,fU,by rw[aaD,List.length_singleton];omega,o,s6,q⟩
  ·exact⟨n - (i+1),by omega,rfl,fU,by omega,o,s5,q⟩
 ·have e:i=n:=by omega
  subst e
  exact .inl ⟨S.stop H sm,jZ ys H sm p hl⟩
theorem comp_map {J:It} {te:TE} {tl:St} {H1:Hp} {fin:List V->Hp->Prop} {n:Nat} {Item:Nat->V->Hp->Hp->Prop} (S:Src J (az H1) n Item) (sub:∀i x H H3,Item i x H H3->az H H3) (hz:n<=sizeLine)
  (R:Nat->V->Hp->Prop) (mono:∀i y H H',az H H'->R i y H->R i y H')
  (hs:∀i x w H H3 (Q:VK),i<n->az H1 H->Item i x H H3->(∀y H6,az H3 H6->R i y H6->Q y H6)->te ((w::tl).set 0 (some x)) H3 Q)
  (jZ:∀ys H,az H1 H->ys.length=n->(∀i y,ys[i]?=some y->R i y H)->fin ys H):fh J (gName 0) gQ te (none::tl) H1 fin:=by
 refine⟨λi m ys σ H=>m=n - i/\i<=n/\ys.length=i/\(∃w,σ=w::tl)/\az H1 H/\∀j y,ys[j]?=some y->R j y H,⟨n,by simp,aas _,rfl,⟨_,rfl⟩,az.refl _,λj y e=>by simp at e⟩,?_⟩
 rintro i m ys σ H ⟨rfl,hi,hl,⟨w,rfl⟩,sm,p⟩
 by_cases fU:i<n
 ·refine .inr ⟨S.go i H fU sm,λx H3 y=>?_⟩
  have it:=S.vS i H x H3 fU sm y
  have s3:=sub i x H H3 it
  unfold gName gQ
  refine HW ?_
  refine hs i x w H H3 _ fU sm it λy H6 s6 r=>⟨by omega,n - (i+1),by omega,rfl,fU,by rw[aaD,List.length_singleton];omega,⟨_,rfl⟩,sm.trans (s3.trans s6),λj z e=>?_⟩
  by_cases hj:j<i
  ·rw[aaZ (by omega)] at e
   exact mono j z _ _ (s3.trans s6) (p j z e)
  ·rw[aaY (by omega)] at e
   have e2:j - ys.length=0:=by
    by_cases q:j - ys.length=0
    ·exact q
    ·rw[aaq (by simp;omega)] at e;cases e
   rw[e2] at e
   simp at e
   subst e
   have:j=i:=by omega
   subst this
   exact r
 ·have e:i=n:=by omega
  subst e
  exact .inl ⟨S.stop H sm,jZ ys H sm hl p⟩
noncomputable def DN (J:It) (g:TG) (tb:TS) (D:Ends) (σ:St) (H:Hp):Prop:=
 ∃W:Nat->Nat->St->Hp->Prop,(∃m,W 0 m σ H)/\∀i m σ H,W i m σ H->
  (J.stop i H/\D.nx σ H)\/(J.go i H/\∃N:St->Hp->Prop,(∀σ' H',N σ' H'->∃m',m'<m/\W (i+1) m' σ' H')/\∀x H',J.vS i H x H'->g x σ H' λσ2 H2=>tb {D with nx:=N,ct:=N,bk:=D.nx} σ2 H2)
theorem tFor_eq {wi:TI} {g:TG} {tb:TS} {D:Ends} {σ:St} {H:Hp}:Hu wi g tb D σ H=wi σ H λJ H1=>DN J g tb D σ H1:=rfl
theorem bL {J:It} {g:TG} {tb:TS} {D:Ends} {σ:St} {H:Hp} {n:Nat} {Item:Nat->V->Hp->Hp->Prop} {Ok:Hp->Prop} (S:Src J Ok n Item) (Pv:Nat->St->Hp->Prop) (h0:Pv 0 σ H) (bT:∀i σ H,i<=n->Pv i σ H->Ok H)
  (hs:∀i x σ H H3,i<n->Pv i σ H->Item i x H H3->g x σ H3 λσ2 H2=>tb {D with nx:=Pv (i+1),ct:=Pv (i+1),bk:=D.nx} σ2 H2) (hd:∀σ H,Pv n σ H->D.nx σ H):DN J g tb D σ H:=by
 refine⟨λi m σ H=>m=n - i/\i<=n/\Pv i σ H,⟨n,by simp,aas _,h0⟩,?_⟩
 rintro i m σ H ⟨rfl,hi,p⟩
 by_cases fU:i<n
 ·exact .inr ⟨S.go i H fU (bT i σ H hi p),Pv (i+1),λσ' H' p'=>⟨n - (i+1),by omega,rfl,fU,p'⟩,λx H' y=>hs i x σ H H' fU p (S.vS i H x H' fU (bT i σ H hi p) y)⟩
 ·have e:i=n:=by omega
  subst e
  exact .inl ⟨S.stop H (bT i σ H hi p),hd σ H p⟩
theorem fq {K:PySem.W.Frag} {J:It} {te:TE} {tl:St} {H1:Hp} {fin:List V->Hp->Prop} {n:Nat} {Item:Nat->V->Hp->Hp->Prop} (S:Src J (az H1) n Item) (Ic:Nat->V->V->Hp->Prop)
  (tp:∀i x H H3,i<n->az H1 H->Item i x H H3->az H H3/\∃p a b,x=.ref p/\d7 K H3 p [a,b]/\Ic i a b H3) (hz:n<=sizeLine)
  (R:Nat->V->Hp->Prop) (mono:∀i y H H',az H H'->R i y H->R i y H')
  (hs:∀i a b H3 (Q:VK),i<n->az H1 H3->Ic i a b H3->(∀y H6,az H3 H6->R i y H6->Q y H6)->te (some a::some b::tl) H3 Q)
  (jZ:∀ys H,az H1 H->ys.length=n->(∀(i:Nat) y,ys[i]?=some y->R i y H)->fin ys H):fh J (yQ K 2 (gCons (gName 0) (gCons (gName 1) gNil))) gQ te (none::none::tl) H1 fin:=by
 refine⟨λi m ys σ H=>m=n - i/\i<=n/\ys.length=i/\(∃w w',σ=w::w'::tl)/\az H1 H/\∀(j:Nat) y,ys[j]?=some y->R j y H,⟨n,by simp,aas _,rfl,⟨_,_,rfl⟩,az.refl _,λj y e=>by simp at e⟩,?_⟩
 rintro i m ys σ H ⟨rfl,hi,hl,⟨w,w',rfl⟩,sm,p⟩
 by_cases fU:i<n
 ·refine .inr ⟨S.go i H fU sm,λx H3 y=>?_⟩
  obtain⟨s3,q,a,b,rfl,sq,it⟩:=tp i x H H3 fU sm (S.vS i H x H3 fU sm y)
  refine⟨q,_,rfl,sq,rfl,_,_,rfl,_,_,rfl,rfl,?_⟩
  unfold gQ
  refine HW ?_
  refine hs i a b H3 _ fU (sm.trans s3) it λy H6 s6 r=>⟨by omega,n - (i+1),by omega,rfl,fU,by rw[aaD,List.length_singleton];omega,⟨_,_,rfl⟩,sm.trans (s3.trans s6),λj z e=>?_⟩
  by_cases hj:j<i
  ·rw[aaZ (by omega)] at e
   exact mono j z _ _ (s3.trans s6) (p j z e)
  ·rw[aaY (by omega)] at e
   have e2:j - ys.length=0:=by
    by_cases q:j - ys.length=0
    ·exact q
    ·rw[aaq (by simp;omega)] at e;cases e
   rw[e2] at e
   simp at e
   subst e
   have:j=i:=by omega
   subst this
   exact r
 ·have e:i=n:=by omega
  subst e
  exact .inl ⟨S.stop H sm,jZ ys H sm hl p⟩
end L2
namespace L2
open PySem PySem.Spec PyProof.Rows
section
variable {X : Cx} {pins : List (Addr × Obj)} {σ : St} {H : Hp} {s : Shared}
theorem Inv.moved {h':Heap} {t':Nat} {ch:List Addr} (I:Inv X pins σ H s) (f:∀b∈ch,iz X pins H b) (k:∀b o,b∉ch->s.heap.get? b=some o->h'.get? b=some o):Inv X pins σ H {s with heap:=h',toks:=t'}:=by
 have Dw:∀b u,H b=some u->b∉ch:=λb u e z=>by rw[(f b z).1] at e;cases e
 refine I.step (g':=s.gens) (d':=s.drawn) (ch:=ch) (λb hb=>⟨(f b hb).2.2.2.1,(f b hb).2.1,(f b hb).2.2.2.2.1,(f b hb).2.2.2.2.2⟩) (λb o _ _ hc e _=>k b o hc e) (λb o _ _ hc e _=>⟨o.slots,k b o hc e⟩) (λ_ _ _ _ n=>n)
  (λb o hc e=>⟨o,k b o hc e⟩) (λ_ _ e=>e) (λ_ _ _ e=>e) (λb ps e=>⟨#[],by rw[e];simp⟩) (λm hm=>?_) (λb u e=>?_) I.bare
 ·obtain⟨o,es,ep,ho,r⟩:=hm
  exact⟨o,es,ep,k _ o (λz=>(f _ z).2.1 rfl) ho,r⟩
 ·refine(I.bT b u e).oS (λc v hc q=>k c v ?_ q) (λ_ q=>q) λ_ _ q=>q
  rcases hc with z | z
  ·rw[z];exact Dw b u e
  ·exact Dw c _ z
theorem Inv.take {ad:Addr} {o:HO} (I:Inv X pins σ H s) (f:iz X pins H ad) (new:X.s₀.heap.objs.size<=ad) (ok:cK X.prog X.w (upd H ad o) s.heap ad o):Inv X pins σ (upd H ad o) s:=by
 obtain⟨hn,nL,nf,_,nc,np⟩:=f
 have tk:∀b u,H b=some u->b≠ad:=λb u e z=>by rw[z,hn] at e;cases e
 refine⟨I.ok,I.os,I.bare,⟨I.base.keep,I.base.slot,λb ob e m hx=>?_,I.base.there,λb xs e=>?_,λb ob u e=>?_,λb ps e=>?_⟩,I.loc,I.cell,?_,λx c e=>?_,λp hp=>?_,λb u e=>?_,I.len⟩
 ·rw[aI (aan (aav (Heap.lt_size e) new))]
  exact I.base.free b ob e m hx
 ·have q:=I.base.kR b xs e
  rw[aI (tk b _ q)];exact q
 ·have q:=I.base.mK b ob u e
  rw[aI (tk b _ q)];exact q
 ·obtain⟨mo,q⟩:=I.base.mL b ps e
  exact⟨mo,by rw[aI (tk b _ q)];exact q⟩
 ·rw[aI (Ne.symm nL)];exact I.free
 ·rw[aI (nc x c e)];exact I.gI x c e
 ·obtain⟨a,b,c⟩:=I.pin p hp
  exact⟨a,by rw[aI (np p hp)];exact b,c⟩
 ·by_cases hb:b=ad
  ·subst hb
   rw[ar] at e
   cases e
   exact ok
  ·rw[aI hb] at e
   exact(I.bT b u e).oS (λ_ _ _ q=>q) (λc r=>by rw[aI (tk _ _ r)];exact r) λc xs r=>by rw[aI (tk _ _ r)];exact r
end
noncomputable def Mp (K:PySem.W.Frag) (a b:Addr):It:=
 ⟨λi H=>∃xs ys x y,bj K H a xs/\bj K H b ys/\xs[i]?=some x/\ys[i]?=some y,
  λi H v H'=>∃p,H p=none/\v=.ref p/\∃x y,(∀xs,bj K H a xs->xs[i]?=some x)/\(∀ys,bj K H b ys->ys[i]?=some y)/\H'=upd H p (.tup [x,y]),
  λi H=>∃xs ys,bj K H a xs/\bj K H b ys/\(i=min xs.length ys.length)⟩
theorem zo {P:Program} {w:World} {K:PySem.W.Frag} {elts:List Expr} {k:Nat} {pos:Pos} (z TI TO i1 i2 a b:Addr) (D:ZipApart z TI TO i1 i2 a b):
  Turn P w K (.Tuple elts k pos) (Mp K a b) [z,TI,TO,i1,i2] z (λi h=>IsZip h z TI TO .none/\IsPair h TI (.ref i1) (.ref i2)/\(∃x y,IsPair h TO x y)/\h.IsListIter i1 a i/\h.IsListIter i2 b i) where
 mem:=by simp
 obj:=λi h st c hc=>by
  obtain⟨hz,DO,⟨x,y,DP⟩,⟨o1,e1,_,d1⟩,⟨o2,e2,_,d2⟩⟩:=st
  simp only[List.mem_cons,List.not_mem_nil,or_false] at hc
  rcases hc with rfl | rfl | rfl | rfl | rfl
  ·exact⟨_,hz,λv q=>by cases q⟩
  ·exact⟨_,DO,λv q=>by cases q⟩
  ·exact⟨_,DP,λv q=>by cases q⟩
  ·exact⟨_,e1,λv q=>by rw[d1] at q;cases q⟩
  ·exact⟨_,e2,λv q=>by rw[d2] at q;cases q⟩
 keep:=λi h h' st kp=>by
  obtain⟨hz,DO,⟨x,y,DP⟩,h1,h2⟩:=st
  exact⟨kp z (by simp) _ hz,kp TI (by simp) _ DO,⟨x,y,kp TO (by simp) _ DP⟩,h1.at λo e=>kp i1 (by simp) o e,h2.at λo e=>kp i2 (by simp) o e⟩
 item:=by
  intro X hP hw hK hc i pins s σ H E I hf st hg
  subst hP hw hK
  obtain⟨xs,ys,x,y,Cs,zp,hx,hy⟩:=hg
  obtain⟨iV,r1,p1,z1⟩:=I.list Cs
  obtain⟨mZ,r2,p2,z2⟩:=I.list zp
  obtain⟨u,eu,ru⟩:=r1.get hx
  obtain⟨v,ev,rv⟩:=r2.get hy
  obtain⟨hz,DO,⟨x0,y0,DP⟩,h1,h2⟩:=st
  have W:=WalksT.zip2 (prog:=X.prog) (w:=X.w) (I.ok.hd hc) z TI TO i1 i2 a b D iV.toArray mZ.toArray
  have li:i<min iV.toArray.size mZ.toArray.size:=by
   have a1:=(List.getElem?_eq_some_iff.mp eu).1
   have a2:=(List.getElem?_eq_some_iff.mp ev).1
   simp only[aam]
   omega
  refine W.item i s _ _ li ⟨hz,DO,⟨x0,y0,DP⟩,h1,h2,p1.isList,p2.isList⟩ λT vals h' tk BC hT hI hm kk=>?_
  have sub:∀c∈[z,TO,i1,i2],c∈[z,TI,TO,i1,i2]:=λc hc=>by simp at hc ⊢;rcases hc with rfl | rfl | rfl | rfl <;>simp
  have I1:Inv X pins σ H {s with heap:=h',toks:=tk}:=I.moved (ch:=[z,TO,i1,i2]) (λc hc=>hf c (sub c hc)) kk
  have fT:iz X pins H T:=I.xK hT (I.bT.fresh hT)
  refine⟨_,rfl,W.go elts k pos i T _ _ _ hm λuz uI Ie=>?_⟩
  have I2:Inv X pins σ H {s with heap:=uz,toks:=tk}:=I1.moved (s:={s with heap:=h',toks:=tk}) (t':=tk) (ch:=[z,TO,i1,i2]) (λc hc=>hf c (sub c hc)) Ie
  obtain⟨x',y',ex,ey,rfl⟩:=BC
  have BM:iV[i]?=some x':=by simpa using ex
  have Ig:mZ[i]?=some y':=by simpa using ey
  rw[eu] at BM;cases BM
  rw[ev] at Ig;cases Ig
  have Mq:=W.apart _ _ _ hm
  obtain⟨oT,eT,cT,nT,dT⟩:=hI
  have Mr:IsTup uz T #[u,v]:=⟨oT,Ie _ _ Mq eT,cT,nT,dT⟩
  have I3:Inv X pins σ (upd H T (.tup [x,y])) {s with heap:=uz,toks:=tk}:=
   I2.take fT (aap I.sz hT) ⟨by show 2<=sizeLine;decide,[u,v],.cons ru (.cons rv .nil),Mr⟩
  obtain⟨b1,b2,b3,b4,b5,_,_⟩:=uI
  refine⟨.ref T,_,I3,rfl,⟨T,fT.1,rfl,x,y,λiG q=>?_,λyG q=>?_,rfl⟩,⟨b1,b2,b3,b4,b5⟩,λc hc=>?_⟩
  ·rw[I.jm q Cs];exact hx
  ·rw[I.jm q zp];exact hy
  ·rw[aI (λq=>?_)]
   ·exact(hf c hc).1
   ·subst q
    obtain⟨o,e,_⟩:∃o,s.heap.get? c=some o/\True:=by
     simp only[List.mem_cons,List.not_mem_nil,or_false] at hc
     obtain⟨o1,e1,_⟩:=h1
     obtain⟨o2,e2,_⟩:=h2
     rcases hc with rfl | rfl | rfl | rfl | rfl
     ·exact⟨_,hz,trivial⟩
     ·exact⟨_,DO,trivial⟩
     ·exact⟨_,DP,trivial⟩
     ·exact⟨_,e1,trivial⟩
     ·exact⟨_,e2,trivial⟩
    exact absurd (Heap.lt_size e) (Nat.not_lt.mpr hT)
 done:=by
  intro X hP hw hK hc i pins s σ H E I hf st hg
  subst hP hw hK
  obtain⟨xs,ys,Cs,zp,hi⟩:=hg
  obtain⟨iV,r1,p1,z1⟩:=I.list Cs
  obtain⟨mZ,r2,p2,z2⟩:=I.list zp
  obtain⟨hz,DO,DP,h1,h2⟩:=st
  have W:=WalksT.zip2 (prog:=X.prog) (w:=X.w) (I.ok.hd hc) z TI TO i1 i2 a b D iV.toArray mZ.toArray
  have l1:=r1.length
  have l2:=r2.length
  have e:i=min iV.toArray.size mZ.toArray.size:=by simp only[aam];omega
  subst e
  have sub:∀c∈[z,TO,i1,i2],c∈[z,TI,TO,i1,i2]:=λc hc=>by simp at hc ⊢;rcases hc with rfl | rfl | rfl | rfl <;>simp
  exact W.done s _ _ ⟨hz,DO,DP,h1,h2,p1.isList,p2.isList⟩ λh' tk kk=>⟨rfl,I.moved (ch:=[z,TO,i1,i2]) (λc hc=>hf c (sub c hc)) kk⟩
 self:=λ_ _ _ _ _ st h=>wpAny_pyIter_zip st.1 h
noncomputable def Ih (K:PySem.W.Frag) (a:Addr):It:=
 ⟨λi H=>∃xs x,bj K H a xs/\xs[i]?=some x,
  λi H v H'=>∃p,H p=none/\v=.ref p/\∃x,(∀xs,bj K H a xs->xs[i]?=some x)/\H'=upd H p (.tup [.int i,x]),
  λi H=>∃xs,bj K H a xs/\xs.length=i⟩
theorem ya {P:Program} {w:World} {K:PySem.W.Frag} {elts:List Expr} {k:Nat} {pos:Pos} (e it a:Addr) (KU:e≠it) (hle:a≠e) (Uz:a≠it):
  Turn P w K (.Tuple elts k pos) (Ih K a) [e,it] e (λi h=>(∃old,IsEnum h e it i old)/\h.IsListIter it a i) where
 mem:=by simp
 obj:=λi h st c hc=>by
  obtain⟨⟨old,he⟩,⟨o1,e1,_,d1⟩⟩:=st
  simp only[List.mem_cons,List.not_mem_nil,or_false] at hc
  rcases hc with rfl | rfl
  ·exact⟨_,he,λv q=>by cases q⟩
  ·exact⟨_,e1,λv q=>by rw[d1] at q;cases q⟩
 keep:=λi h h' st kp=>by
  obtain⟨⟨old,he⟩,h1⟩:=st
  exact⟨⟨old,kp e (by simp) _ he⟩,h1.at λo q=>kp it (by simp) o q⟩
 item:=by
  intro X hP hw hK hc i pins s σ H E I hf st hg
  subst hP hw hK
  obtain⟨xs,x,Cs,hx⟩:=hg
  obtain⟨iV,r1,p1,z1⟩:=I.list Cs
  obtain⟨u,eu,ru⟩:=r1.get hx
  obtain⟨he,h1⟩:=st
  have W:=WalksT.enumerate (prog:=X.prog) (w:=X.w) (I.ok.hd hc) e it a KU hle Uz iV.toArray
  have li:i<iV.toArray.size:=by
   have a1:=(List.getElem?_eq_some_iff.mp eu).1
   simp only[aam]
   omega
  refine W.item i s _ _ li ⟨he,h1,p1.isList⟩ λT vals h' tk BC hT hI hm kk=>?_
  have I1:Inv X pins σ H {s with heap:=h',toks:=tk}:=I.moved (ch:=[e,it]) hf kk
  have fT:iz X pins H T:=I.xK hT (I.bT.fresh hT)
  refine⟨_,rfl,W.go elts k pos i T _ _ _ hm λuz uI Ie=>?_⟩
  have I2:Inv X pins σ H {s with heap:=uz,toks:=tk}:=I1.moved (s:={s with heap:=h',toks:=tk}) (t':=tk) (ch:=[e,it]) hf Ie
  obtain⟨t,x',ex,rfl⟩:=BC
  have BM:iV[i]?=some x':=by simpa using ex
  rw[eu] at BM;cases BM
  have Mq:=W.apart _ _ _ hm
  obtain⟨oT,eT,cT,nT,dT⟩:=hI
  have Mr:IsTup uz T #[.int i t,u]:=⟨oT,Ie _ _ Mq eT,cT,nT,dT⟩
  have I3:Inv X pins σ (upd H T (.tup [.int i,x])) {s with heap:=uz,toks:=tk}:=
   I2.take fT (aap I.sz hT) ⟨by show 2<=sizeLine;decide,[.int i t,u],.cons ⟨t,rfl⟩ (.cons ru .nil),Mr⟩
  obtain⟨b1,b2,_⟩:=uI
  refine⟨.ref T,_,I3,rfl,⟨T,fT.1,rfl,x,λiG q=>?_,rfl⟩,⟨b1,b2⟩,λc hc=>?_⟩
  ·rw[I.jm q Cs];exact hx
  ·rw[aI (λq=>?_)]
   ·exact(hf c hc).1
   ·subst q
    obtain⟨o,e,_⟩:∃o,s.heap.get? c=some o/\True:=by
     simp only[List.mem_cons,List.not_mem_nil,or_false] at hc
     obtain⟨old,he⟩:=he
     obtain⟨o1,e1,_⟩:=h1
     rcases hc with rfl | rfl
     ·exact⟨_,he,trivial⟩
     ·exact⟨_,e1,trivial⟩
    exact absurd (Heap.lt_size e) (Nat.not_lt.mpr hT)
 done:=by
  intro X hP hw hK hc i pins s σ H E I hf st hg
  subst hP hw hK
  obtain⟨xs,Cs,hi⟩:=hg
  obtain⟨iV,r1,p1,z1⟩:=I.list Cs
  obtain⟨he,h1⟩:=st
  have W:=WalksT.enumerate (prog:=X.prog) (w:=X.w) (I.ok.hd hc) e it a KU hle Uz iV.toArray
  have l1:=r1.length
  have e:i=iV.toArray.size:=by simp only[aam];omega
  subst e
  exact W.done s _ _ ⟨he,h1,p1.isList⟩ λh' tk kk=>⟨rfl,I.moved (ch:=[_,it]) hf kk⟩
 self:=λ_ _ _ _ _ st h=>by
  obtain⟨⟨old,he⟩,_⟩:=st
  exact wpAny_pyIter_enum he h
section
variable {X : Cx} {elts : List Expr} {kk : Nat} {kT : Pos}
noncomputable def iZip (K:PySem.W.Frag) (ta:TA):TI:=λσ H R=>ta σ H λvs H1=>∃a b,vs=[.ref a,.ref b]/\(∃xs,bj K H1 a xs)/\(∃ys,bj K H1 b ys)/\R (Mp K a b) H1
theorem E6 {a b:Expr} {ta:TA} {p pos:Pos} (hg:Gl X "zip") (hm:X.mg "zip"=none) (ha:PA X [a,b] ta) (hs:starEach [a,b] X.env=[(false,eval a X.env),(false,eval b X.env)]:=by rfl) (DF:starEach [b] X.env=[(false,eval b X.env)]:=by rfl):
  PI X (.Tuple elts kk kT) (.Call (.Name "zip" p) [a,b] [] pos) (iZip X.K ta):=by
 intro pins s σ H R I h
 refine Call_ (iS I hg hm rfl (PyProof.Rows.callWith_type1 (cA (ha pos pins s σ H _ I h) λus s1 c6=>?_) (by rw[hs,DF]) (by rw[DF];rfl)))
 obtain⟨vs,H1,I1,r1,q1⟩:=c6
 obtain⟨a,b,e,⟨xs,q1⟩,⟨ys,q2⟩,q⟩:=q1
 subst e
 obtain⟨u,u',rfl,ra,rb⟩:=vals2 r1
 cases ra
 cases rb
 obtain⟨iV,v1,p1,z1⟩:=I1.list q1
 obtain⟨mZ,v2,p2,z2⟩:=I1.list q2
 refine call_zip_2 p1.isList p2.isList λh' b1 b2 b3 b4 b5 b6 kp=>?_
 refine wpAny_pyIter_zip b1 ?_
 have I2:Inv X pins σ H1 {s1 with heap:=h'}:=I1.kept (t':=s1.toks) kp
 have la:a<s1.heap.objs.size:=by obtain⟨o,e,_⟩:=p1.isList;exact Heap.lt_size e
 have lb:b<s1.heap.objs.size:=by obtain⟨o,e,_⟩:=p2.isList;exact Heap.lt_size e
 refine⟨s1.heap.objs.size+4,[s1.heap.objs.size+4,s1.heap.objs.size+2,s1.heap.objs.size+3,s1.heap.objs.size,s1.heap.objs.size+1],_,_,H1,rfl,I2,
  zo (s1.heap.objs.size+4) (s1.heap.objs.size+2) (s1.heap.objs.size+3) s1.heap.objs.size (s1.heap.objs.size+1) a b (by constructor <;>(first | exact aan (by omega) | exact Nat.ne_of_gt (by omega) | exact aan la | exact aan lb | exact aan (aav la (Nat.le_add_right _ _)) | exact aan (aav lb (Nat.le_add_right _ _)))),⟨b1,b2,⟨_,_,b3⟩,b4,b5⟩,λc hc=>?_,q⟩
 have DQ:s1.heap.objs.size<=c:=by
  simp only[List.mem_cons,List.not_mem_nil,or_false] at hc
  rcases hc with rfl | rfl | rfl | rfl | rfl <;>omega
 exact I1.xK DQ (I1.bT.fresh DQ)
noncomputable def iEnum (K:PySem.W.Frag) (ta:TA):TI:=λσ H R=>ta σ H λvs H1=>∃a,vs=[.ref a]/\(∃xs,bj K H1 a xs)/\R (Ih K a) H1
theorem qL {a:Expr} {ta:TA} {p pos:Pos} (hg:Gl X "enumerate") (hm:X.mg "enumerate"=none) (ha:PA X [a] ta) (hs:starEach [a] X.env=[(false,eval a X.env)]:=by rfl):
  PI X (.Tuple elts kk kT) (.Call (.Name "enumerate" p) [a] [] pos) (iEnum X.K ta):=by
 intro pins s σ H R I h
 refine Call_ (iS I hg hm rfl (PyProof.Rows.callWith_type1 (cA (ha pos pins s σ H _ I h) λus s1 c6=>?_) hs rfl))
 obtain⟨vs,H1,I1,r1,q1⟩:=c6
 obtain⟨a,e,⟨xs,q1⟩,q⟩:=q1
 subst e
 obtain⟨u,rfl,ra⟩:=vals1 r1
 cases ra
 obtain⟨iV,v1,p1,z1⟩:=I1.list q1
 refine call_enumerate_list p1.isList λh' b1 b2 b3 kp=>?_
 refine wpAny_pyIter_enum b1 ?_
 have I2:Inv X pins σ H1 {s1 with heap:=h'}:=I1.kept (t':=s1.toks) kp
 have la:a<s1.heap.objs.size:=by obtain⟨o,e,_⟩:=p1.isList;exact Heap.lt_size e
 refine⟨s1.heap.objs.size+1,[s1.heap.objs.size+1,s1.heap.objs.size],_,_,H1,rfl,I2,
  ya (s1.heap.objs.size+1) s1.heap.objs.size a (Nat.ne_of_gt (aaK _)) (aan (abp la)) (aan la),⟨⟨_,b1⟩,b2⟩,λc hc=>?_,q⟩
 have DQ:s1.heap.objs.size<=c:=by
  simp only[List.mem_cons,List.not_mem_nil,or_false] at hc
  rcases hc with rfl | rfl <;>omega
 exact I1.xK DQ (I1.bT.fresh DQ)
end
theorem jv {K:PySem.W.Frag} {a b:Addr} {xs ys:List V} {Ok:Hp->Prop} (h1:∀H,Ok H->bj K H a xs) (h2:∀H,Ok H->bj K H b ys):
  Src (Mp K a b) Ok (min xs.length ys.length) (λi v H H3=>∃p x y,H p=none/\v=.ref p/\xs[i]?=some x/\ys[i]?=some y/\H3=upd H p (.tup [x,y])) where
 go:=λi H hi ok=>⟨xs,ys,xs[i]'(by omega),ys[i]'(by omega),h1 H ok,h2 H ok,by simp,by simp⟩
 vS:=λi H x H3 hi ok ⟨p,n,e,u,v,e1,e2,e3⟩=>⟨p,u,v,n,e,e1 xs (h1 H ok),e2 ys (h2 H ok),e3⟩
 stop:=λH ok=>⟨xs,ys,h1 H ok,h2 H ok,rfl⟩
theorem ft {K:PySem.W.Frag} {a:Addr} {xs:List V} {Ok:Hp->Prop} (h1:∀H,Ok H->bj K H a xs):
  Src (Ih K a) Ok xs.length (λi v H H3=>∃p x,H p=none/\v=.ref p/\xs[i]?=some x/\H3=upd H p (.tup [.int i,x])) where
 go:=λi H hi ok=>⟨xs,xs[i],h1 H ok,by simp [hi]⟩
 vS:=λi H x H3 hi ok ⟨p,n,e,u,e1,e3⟩=>⟨p,u,n,e,e1 xs (h1 H ok),e3⟩
 stop:=λH ok=>⟨xs,h1 H ok,rfl⟩
end L2
namespace L2
open PySem PySem.Spec PyProof.Rows
inductive Dat where
 | cE | bl (b:Bool) | int (i:Int) | str (x:Str) | tup (l:List Dat) | lst (l:List Dat)
mutual
noncomputable def Rep (H:Hp):Dat->V->Prop
 | .cE,v=>v=.cE
 | .bl b,v=>v=.bl b
 | .int i,v=>v=.int i
 | .str x,v=>v=.str x
 | .tup ds,v=>∃p vs,v=.ref p/\H p=some (.tup vs)/\bf H ds vs
 | .lst ds,v=>∃p vs,v=.ref p/\H p=some (.lst vs)/\bf H ds vs
noncomputable def bf (H:Hp):List Dat->List V->Prop
 | [],vs=>vs=[]
 | d::ds,vs=>∃v r,vs=v::r/\Rep H d v/\bf H ds r
end
mutual
theorem Rep.mono {H H':Hp} (s:az H H'):∀{d:Dat} {v:V},Rep H d v->Rep H' d v
 | .cE,_,h=>by rw[Rep] at *;exact h
 | .bl _,_,h=>by rw[Rep] at *;exact h
 | .int _,_,h=>by rw[Rep] at *;exact h
 | .str _,_,h=>by rw[Rep] at *;exact h
 | .tup _,_,h=>by
  rw[Rep] at *
  obtain⟨p,vs,e,hp,r⟩:=h
  exact⟨p,vs,e,s _ _ hp,bf.mono s r⟩
 | .lst _,_,h=>by
  rw[Rep] at *
  obtain⟨p,vs,e,hp,r⟩:=h
  exact⟨p,vs,e,s _ _ hp,bf.mono s r⟩
theorem bf.mono {H H':Hp} (s:az H H'):∀{ds:List Dat} {vs:List V},bf H ds vs->bf H' ds vs
 | [],_,h=>by rw[bf] at *;exact h
 | _::_,_,h=>by
  rw[bf] at *
  obtain⟨v,r,e,h1,h2⟩:=h
  exact⟨v,r,e,Rep.mono s h1,bf.mono s h2⟩
end
theorem bf.length {H:Hp}:∀{ds:List Dat} {vs:List V},bf H ds vs->ds.length=vs.length
 | [],_,h=>by rw[bf] at h;subst h;rfl
 | _::_,_,h=>by
  rw[bf] at h
  obtain⟨v,r,rfl,_,h2⟩:=h
  simp [h2.length]
theorem bf.get {H:Hp}:∀{ds:List Dat} {vs:List V} {i:Nat} {v:V},bf H ds vs->vs[i]?=some v->∃d,ds[i]?=some d/\Rep H d v
 | [],_,i,v,h,e=>by rw[bf] at h;subst h;simp at e
 | d::ds,_,i,v,h,e=>by
  rw[bf] at h
  obtain⟨v',r,rfl,h1,h2⟩:=h
  cases i with
  | zero=>simp at e;subst e;exact⟨d,rfl,h1⟩
  | succ i=>simp at e;obtain⟨d',e',r'⟩:=h2.get e;exact⟨d',by simpa using e',r'⟩
theorem bf.at {H:Hp}:∀{ds:List Dat} {vs:List V} {i:Nat} {d:Dat},bf H ds vs->ds[i]?=some d->∃v,vs[i]?=some v/\Rep H d v
 | [],_,i,v,h,e=>by simp at e
 | d::ds,_,i,d',h,e=>by
  rw[bf] at h
  obtain⟨v',r,rfl,h1,h2⟩:=h
  cases i with
  | zero=>simp at e;subst e;exact⟨v',rfl,h1⟩
  | succ i=>simp at e;obtain⟨v,e',r'⟩:=h2.at e;exact⟨v,by simpa using e',r'⟩
theorem bf.of {H:Hp}:∀{ds:List Dat} {vs:List V},ds.length=vs.length->(∀(i:Nat) d v,ds[i]?=some d->vs[i]?=some v->Rep H d v)->bf H ds vs
 | [],[],_,_=>by rw[bf]
 | [],_::_,h,_=>by simp at h
 | _::_,[],h,_=>by simp at h
 | d::ds,v::vs,h,k=>by
  rw[bf]
  exact⟨v,vs,rfl,k 0 d v rfl rfl,bf.of (by simpa using h) λi d' v' e1 e2=>k (i+1) d' v' (by simpa using e1) (by simpa using e2)⟩
theorem bf.append {H:Hp}:∀{as bs:List Dat} {us vs:List V},bf H as us->bf H bs vs->bf H (as++bs) (us++vs)
 | [],_,_,_,h,k=>by rw[bf] at h;subst h;exact k
 | _::_,_,_,_,h,k=>by
  rw[bf] at h
  obtain⟨v,r,rfl,h1,h2⟩:=h
  show bf H (_::(_++_)) (_::(_++_))
  rw[bf]
  exact⟨_,_,rfl,h1,h2.append k⟩
noncomputable def depth:Dat->Nat
 | .tup l=>1+dL l
 | .lst l=>1+dL l
 | _=>0
where dL:List Dat->Nat
 | []=>0
 | d::ds=>max (depth d) (dL ds)
theorem fu {d:Dat}:∀{ds:List Dat},d∈ds->depth d<=depth.dL ds
 | e::ds,h=>by
  rw[depth.dL]
  rcases List.mem_cons.mp h with rfl | h
  ·exact Nat.le_max_left _ _
  ·exact aap (fu h) (Nat.le_max_right _ _)
section
variable {X : Cx} {pins : List (Addr × Obj)} {σ : St} {H : Hp} {s : Shared}
theorem all_true (n:Nat):((List.range n).all λ_=>true)=true:=by simp
theorem zq (I:Inv X pins σ H s):∀(n:Nat) (d:Dat),depth d<=n->∀(v v':V) (u u':Value) (A:Around),Rep H d v->Rep H d v'->RelV v u->RelV v' u'->A.units+n<cLine->SeqAt.EqAt A s u u' true:=by
 intro n
 induction n with
 | zero=>
  intro d hd v v' u u' A h h' r r' hu
  cases d with
  | cE=>rw[Rep] at h h';subst h h';cases r;cases r';exact SeqAt.EqAt.same _
  | bl b=>rw[Rep] at h h';subst h h';cases r;cases r';exact SeqAt.EqAt.same _
  | int i=>rw[Rep] at h h';subst h h';obtain⟨t,rfl⟩:=r;obtain⟨t',rfl⟩:=r';have:=SeqAt.EqAt.int_int (A:=A) (s:=s) i t i t';simpa using this
  | str x=>rw[Rep] at h h';subst h h';obtain⟨t,rfl⟩:=r;obtain⟨t',rfl⟩:=r';have:=SeqAt.EqAt.str_str (A:=A) (s:=s) x t x t';simpa using this
  | tup l=>rw[depth] at hd;omega
  | lst l=>rw[depth] at hd;omega
 | succ n ih=>
  intro d hd v v' u u' A h h' r r' hu
  cases d with
  | cE=>rw[Rep] at h h';subst h h';cases r;cases r';exact SeqAt.EqAt.same _
  | bl b=>rw[Rep] at h h';subst h h';cases r;cases r';exact SeqAt.EqAt.same _
  | int i=>rw[Rep] at h h';subst h h';obtain⟨t,rfl⟩:=r;obtain⟨t',rfl⟩:=r';have:=SeqAt.EqAt.int_int (A:=A) (s:=s) i t i t';simpa using this
  | str x=>rw[Rep] at h h';subst h h';obtain⟨t,rfl⟩:=r;obtain⟨t',rfl⟩:=r';have:=SeqAt.EqAt.str_str (A:=A) (s:=s) x t x t';simpa using this
  | tup l=>
   rw[Rep] at h h'
   obtain⟨p,vs,rfl,hp,rl⟩:=h
   obtain⟨p',Ii,rfl,iH,zt⟩:=h'
   cases r
   cases r'
   rw[depth] at hd
   by_cases Ij:p=p'
   ·subst Ij;exact SeqAt.EqAt.same _
   obtain⟨aU,rv,pl,hz⟩:=I.tuple (d7.of hp)
   obtain⟨its',zu,E7,Ms⟩:=I.tuple (d7.of iH)
   have e1:=rl.length
   have e2:=zt.length
   have l1:=rv.length
   have l2:=zu.length
   have R:=SeqAt.RcAt.tuples (A:=A) (e:=λ_=>true) pl E7 (by omega) (λj h1 h2=>?_)
   ·simp only[aam,all_true,Bool.true_and] at R
    rw[show(aU.length==its'.length)=true by simp;omega] at R
    exact .of_refs Ij R
   ·rw[aam] at h1 h2
    obtain⟨d,ed⟩:∃d,l[j]?=some d:=⟨l[j]'(by omega),by simp⟩
    obtain⟨v1,f1,q1⟩:=rl.at ed
    obtain⟨v2,f2,q2⟩:=zt.at ed
    obtain⟨u1,g1,w1⟩:=rv.get f1
    obtain⟨u2,g2,w2⟩:=zu.get f2
    have a1:aU.toArray[j]=u1:=by simpa [aad h1] using g1
    have a2:its'.toArray[j]=u2:=by simpa [aad h2] using g2
    rw[a1,a2]
    have:=fu (aae ed)
    exact ih d (by omega) v1 v2 u1 u2 A.in1 q1 q2 w1 w2 (by show A.units+1+n<cLine;omega)
  | lst l=>
   rw[Rep] at h h'
   obtain⟨p,vs,rfl,hp,rl⟩:=h
   obtain⟨p',Ii,rfl,iH,zt⟩:=h'
   cases r
   cases r'
   rw[depth] at hd
   by_cases Ij:p=p'
   ·subst Ij;exact SeqAt.EqAt.same _
   obtain⟨aU,rv,pl,hz⟩:=I.list (bj.of hp)
   obtain⟨its',zu,E7,Ms⟩:=I.list (bj.of iH)
   have e1:=rl.length
   have e2:=zt.length
   have l1:=rv.length
   have l2:=zu.length
   have R:=SeqAt.RcAt.lists (A:=A) (e:=λ_=>true) pl.isList E7.isList (by simp only[aam];omega) (by omega) (λj h1 h2=>?_)
   ·rw[all_true] at R
    exact .of_refs Ij R
   ·rw[aam] at h1 h2
    obtain⟨d,ed⟩:∃d,l[j]?=some d:=⟨l[j]'(by omega),by simp⟩
    obtain⟨v1,f1,q1⟩:=rl.at ed
    obtain⟨v2,f2,q2⟩:=zt.at ed
    obtain⟨u1,g1,w1⟩:=rv.get f1
    obtain⟨u2,g2,w2⟩:=zu.get f2
    have a1:aU.toArray[j]=u1:=by simpa [aad h1] using g1
    have a2:its'.toArray[j]=u2:=by simpa [aad h2] using g2
    rw[a1,a2]
    have:=fu (aae ed)
    exact ih d (by omega) v1 v2 u1 u2 A.in1 q1 q2 w1 w2 (by show A.units+1+n<cLine;omega)
end
section
variable {X : Cx}
noncomputable def Ik (b:Bool):R2:=λx y H Q=>∃d,Rep H d x/\Rep H d y/\(∃p,x=.ref p)/\depth d<=40/\Q (.bl b) H
theorem E8 {pins:List (Addr×Obj)} {σ:St} {H:Hp} {s:Shared} {d:Dat} {p p':Addr} (I:Inv X pins σ H s) (hu:X.A.units+64<cLine) (h:Rep H d (.ref p)) (h':Rep H d (.ref p')) (hd:depth d<=40):
  (∃aU its':List Value,IsTup s.heap p aU.toArray/\IsTup s.heap p' its'.toArray/\aU.length=its'.length/\∀j (h1:j<aU.toArray.size) (h2:j<its'.toArray.size),SeqAt.EqAt X.A.in1 s aU.toArray[j] its'.toArray[j] true)\/
  (∃aU its':List Value,s.heap.IsList p aU.toArray/\s.heap.IsList p' its'.toArray/\aU.length=its'.length/\∀j (h1:j<aU.toArray.size) (h2:j<its'.toArray.size),SeqAt.EqAt X.A.in1 s aU.toArray[j] its'.toArray[j] true):=by
 cases d with
 | cE=>rw[Rep] at h;cases h
 | bl b=>rw[Rep] at h;cases h
 | int i=>rw[Rep] at h;cases h
 | str x=>rw[Rep] at h;cases h
 | tup l=>
  left
  rw[Rep] at h h'
  obtain⟨_,vs,e,hp,rl⟩:=h
  cases e
  obtain⟨_,Ii,e,iH,zt⟩:=h'
  cases e
  rw[depth] at hd
  obtain⟨aU,rv,pl,hz⟩:=I.tuple (d7.of hp)
  obtain⟨its',zu,E7,Ms⟩:=I.tuple (d7.of iH)
  have e1:=rl.length
  have e2:=zt.length
  have l1:=rv.length
  have l2:=zu.length
  refine⟨aU,its',pl,E7,by omega,λj h1 h2=>?_⟩
  rw[aam] at h1 h2
  obtain⟨d,ed⟩:∃d,l[j]?=some d:=⟨l[j]'(by omega),by simp⟩
  obtain⟨v1,f1,q1⟩:=rl.at ed
  obtain⟨v2,f2,q2⟩:=zt.at ed
  obtain⟨u1,g1,w1⟩:=rv.get f1
  obtain⟨u2,g2,w2⟩:=zu.get f2
  have a1:aU.toArray[j]=u1:=by simpa [aad h1] using g1
  have a2:its'.toArray[j]=u2:=by simpa [aad h2] using g2
  rw[a1,a2]
  have:=fu (aae ed)
  exact zq I 40 d (by omega) v1 v2 u1 u2 X.A.in1 q1 q2 w1 w2 (by show X.A.units+1+40<cLine;omega)
 | lst l=>
  right
  rw[Rep] at h h'
  obtain⟨_,vs,e,hp,rl⟩:=h
  cases e
  obtain⟨_,Ii,e,iH,zt⟩:=h'
  cases e
  rw[depth] at hd
  obtain⟨aU,rv,pl,hz⟩:=I.list (bj.of hp)
  obtain⟨its',zu,E7,Ms⟩:=I.list (bj.of iH)
  have e1:=rl.length
  have e2:=zt.length
  have l1:=rv.length
  have l2:=zu.length
  refine⟨aU,its',pl.isList,E7.isList,by omega,λj h1 h2=>?_⟩
  rw[aam] at h1 h2
  obtain⟨d,ed⟩:∃d,l[j]?=some d:=⟨l[j]'(by omega),by simp⟩
  obtain⟨v1,f1,q1⟩:=rl.at ed
  obtain⟨v2,f2,q2⟩:=zt.at ed
  obtain⟨u1,g1,w1⟩:=rv.get f1
  obtain⟨u2,g2,w2⟩:=zu.get f2
  have a1:aU.toArray[j]=u1:=by simpa [aad h1] using g1
  have a2:its'.toArray[j]=u2:=by simpa [aad h2] using g2
  rw[a1,a2]
  have:=fu (aae ed)
  exact zq I 40 d (by omega) v1 v2 u1 u2 X.A.in1 q1 q2 w1 w2 (by show X.A.units+1+40<cLine;omega)
theorem zv (hu:X.A.units+64<cLine):kr X (compareOp .NotEq) (Ik false):=by
 intro pins s σ H x y v u Q I rx ry h
 obtain⟨d,h1,h2,⟨p,rfl⟩,hd,q⟩:=h
 obtain⟨p',rfl⟩:∃p',y=.ref p':=by
  cases d with
  | cE=>rw[Rep] at h1;cases h1
  | bl b=>rw[Rep] at h1;cases h1
  | int i=>rw[Rep] at h1;cases h1
  | str x=>rw[Rep] at h1;cases h1
  | tup l=>rw[Rep] at h2;obtain⟨p',_,e,_⟩:=h2;exact⟨p',e⟩
  | lst l=>rw[Rep] at h2;obtain⟨p',_,e,_⟩:=h2;exact⟨p',e⟩
 cases rx
 cases ry
 rcases E8 I hu h1 h2 hd with ⟨aU,its',a,b,e,k⟩ | ⟨aU,its',a,b,e,k⟩
 ·refine SeqAt.RcNeAt.tuples (A:=X.A) (e:=λ_=>true) a b (by omega) k X.prog X.w X.xe _ ⟨.bl false,H,I,?_,q⟩
  show Value.bool _=Value.bool false
  rw[all_true,aam,aam,e]
  simp
 ·refine SeqAt.RcNeAt.lists (A:=X.A) (e:=λ_=>true) a b (by simp only[aam];exact e) (by omega) k X.prog X.w X.xe _ ⟨.bl false,H,I,?_,q⟩
  show Value.bool _=Value.bool false
  rw[all_true]
  rfl
noncomputable def rNeT:R2:=λx y H Q=>∃p q xs ys,x=.ref p/\y=.ref q/\H p=some (.tup xs)/\H q=some (.tup ys)/\xs.all pK=true/\ys.all pK=true/\Q (.bl (!Um xs ys)) H
end
end L2
namespace Nm
noncomputable def ins (x:Int):List Int->List Int
 | []=>[x]
 | y::r=>if x<=y then x::y::r else y::ins x r
noncomputable def me:List Int->List Int
 | []=>[]
 | x::r=>ins x (me r)
theorem nh (x:Int):∀l,(ins x l).Perm (x::l)
 | []=>.refl _
 | y::r=>by
  unfold ins
  split
  ·exact .refl _
  ·exact((nh x r).cons y).trans (.swap ..)
theorem fv:∀l,(me l).Perm l
 | []=>.refl _
 | x::r=>(nh x _).trans ((fv r).cons x)
set_option tactic.hygienic true in
theorem wb (x:Int):∀l:List Int,l.Pairwise (·<=·)->(ins x l).Pairwise (·<=·)
 | [],_=>by unfold ins;simp
 | y::r,h=>by
  unfold ins
  rw[List.pairwise_cons] at h
  split
  ·rename_i c
   rw[List.pairwise_cons,List.pairwise_cons]
   refine⟨λz hz=>?_,h.1,h.2⟩
   rcases List.mem_cons.mp hz with rfl | hz
   ·exact c
   ·have:=h.1 z hz;omega
  ·rename_i c
   rw[List.pairwise_cons]
   refine⟨λz hz=>?_,wb x r h.2⟩
   rcases List.mem_cons.mp ((nh x r).mem_iff.mp hz) with rfl | hz
   ·omega
   ·exact h.1 z hz
theorem qM:∀l:List Int,(me l).Pairwise (·<=·)
 | []=>by unfold me;simp
 | x::r=>wb x _ (qM r)
theorem ni (l:List Int):(me l).length=l.length:=(fv l).length_eq
theorem wc:∀{a b:List Int},a.Perm b->a.Pairwise (·<=·)->b.Pairwise (·<=·)->a=b
 | [],b,p,_,_=>by simpa using p.symm.eq_nil
 | x::a,[],p,_,_=>by simpa using p.eq_nil
 | x::a,y::b,p,ha,hb=>by
  rw[List.pairwise_cons] at ha hb
  have e:x=y:=by
   have h1:y∈x::a:=p.mem_iff.mpr aaj
   have h2:x∈y::b:=p.mem_iff.mp aaj
   rcases List.mem_cons.mp h1 with h1 | h1
   ·exact h1.symm
   ·rcases List.mem_cons.mp h2 with h2 | h2
    ·exact h2
    ·have:=ha.1 y h1
     have:=hb.1 x h2
     omega
  subst e
  rw[wc ((List.perm_cons x).mp p) ha.2 hb.2]
theorem mh {a b:List Int} (p:a.Perm b) (o:a.Pairwise (·<=·)):a=me b:=wc (p.trans (fv b).symm) o (qM b)
theorem u5 {a:List Int} (o:a.Pairwise (·<=·)):me a=a:=(mh (.refl _) o).symm
theorem wd {a:Int} {l:List Int}:a∈me l↔a∈l:=(fv l).mem_iff
theorem E9 {l:List Int} (h:l.Nodup):(me l).Pairwise (·<·):=by
 have n:(me l).Nodup:=(fv l).nodup_iff.mpr h
 have o:=qM l
 exact(List.pairwise_and_iff.mpr ⟨o,n⟩).imp λ{a b} ⟨x,y⟩=>by omega
end Nm
namespace L2
open PySem PySem.Spec PyProof.Rows PySem.W
section
variable {X : Cx}
theorem u6 {us:List Value} {ns:List Int} (h:IntsAre us ns):∃xs,us.toArray=intItems xs/\preSum (numAt xs) xs.size=ns.sum:=by
 obtain⟨xs,hx⟩:=h.allInts.items
 refine⟨xs,hx,?_⟩
 have e1:ns=xs.toList.map (·.1):=by
  rw[<-nums_intItems,<-hx]
  exact h.numsOf.symm
 rw[preSum_eq,aaJ (by simp),e1]
theorem u7 (hc:X.calm=true):c9 X (.builtin "sum") (λxs H Q=>∃p ns,xs=[.ref p]/\bj X.K H p (List.map V.int ns)/\Q (.int ns.sum) H):=by
 intro pins s σ H xs us Q I r h
 obtain⟨p,ns,rfl,hq,q⟩:=h
 obtain⟨u,rfl,rx⟩:=vals1 r
 cases rx
 obtain⟨aU,rv,pl,hz⟩:=I.list hq
 obtain⟨ys,e1,e2⟩:=u6 (intsAre_of rv)
 have hl:=pl.isList
 rw[e1] at hl
 refine sum_intListG (I.ok.hd hc) hl λh' tk t' hk=>⟨.int ns.sum,H,I.kept (t':=tk) hk,⟨t',?_⟩,q⟩
 rw[e2]
theorem qN {us:List Value} {ns:List Int} (h:IntsAre us ns):bu (ns.map V.int) us:=by
 induction h with
 | nil=>exact .nil
 | cons n t _ ih=>exact .cons ⟨t,rfl⟩ ih
noncomputable def gR (kvs:List (Key×V)):List Int:=kvs.map λp=>match p.1 with | .inl i=>i | .inr _=>0
noncomputable def allI (kvs:List (Key×V)):Prop:=∀p∈kvs,∃i,p.1=Sum.inl i
theorem oW (hc:X.calm=true):c9 X (.builtin "sorted") (λxs H Q=>∃d kvs,xs=[.ref d]/\Rd H d (.dK kvs)/\allI kvs/\kvs.length<64/\∀l,H l=none->Q (.ref l) (upd H l (.lst (List.map V.int (Nm.me (gR kvs)))))):=by
 intro pins s σ H xs us Q I r h
 obtain⟨d,kvs,rfl,hd,xY,hn,q⟩:=h
 obtain⟨u,rfl,rx⟩:=vals1 r
 cases rx
 obtain⟨hz,lo,vs,kv,dd⟩:=pM I.bT hd
 have hlen:kvs.length=vs.length:=Paired.length kv
 obtain⟨ep,GX⟩:=dd.dictAt
 refine Calls.call_function_entry kind_sorted plain_sorted entry_sorted (args_sorted1 _) ?_
 unfold Builtin.«sorted»
 refine wpAny_bind (m:=checkCount "sorted" 1 1 _) (wpAny_pure ?_)
 refine wpAny_bind (kdu_collect (A:=X.A.in1) (kdl_dict (kvs:=vs) (ep:=ep) lo) (I.ok.hd hc) GX (by rw[<-hlen,sizeLine_eq];omega) λh' tk acc hk Cq=>?_)
 have hl:acc.toList.length=vs.length:=by rw[abm];exact Cq.1
 have hI:IntsAre acc.toList (gR kvs):=by
  have all:∀(j:Nat) v,acc.toList[j]?=some v->∃i t,v=Value.int i t/\(gR kvs)[j]?=some i:=λj v e=>by
   obtain⟨k,x,hx,hk⟩:=Cq.2 j v (by rw[<-Array.getElem?_toList];exact e)
   obtain⟨p,e1,e2⟩:∃p,kvs[j]?=some p/\p.1=k:=by
    have:∀{as:List (Key×V)} {bs:List (Key×Value)} (j:Nat) {b},KV as bs->bs[j]?=some b->∃a,as[j]?=some a/\a.1=b.1:=by
     intro as bs j b r
     induction r generalizing j with
     | nil=>intro e;simp at e
     | cons r1 r2 ih=>
      intro e
      cases j with
      | zero=>simp at e;subst e;exact⟨_,rfl,r1.1⟩
      | succ j=>simp at e;obtain⟨a,e1,e2⟩:=ih j e;exact⟨a,by simpa using e1,e2⟩
    obtain⟨a,e1,e2⟩:=this j kv hx
    exact⟨a,e1,e2⟩
   obtain⟨i,hi⟩:=xY p (aae e1)
   rw[<-e2,hi] at hk
   have hk:mJ (.inl i) v=true:=hk
   rcases b9 hk with ⟨i',t,e3,e4⟩ | ⟨x',t,e3,_⟩
   ·cases e3
    refine⟨i,t,e4,?_⟩
    unfold gR
    rw[aag,e1]
    simp [hi]
   ·cases e3
  have go:∀(us:List Value) (ns:List Int),us.length=ns.length->(∀(j:Nat) v,us[j]?=some v->∃i t,v=Value.int i t/\ns[j]?=some i)->IntsAre us ns:=by
   intro us
   induction us with
   | nil=>intro ns hl _;cases ns with | nil=>exact .nil | cons _ _=>simp at hl
   | cons u us ih=>
    intro ns hl k
    cases ns with
    | nil=>simp at hl
    | cons n ns=>
     obtain⟨i,t,rfl,e⟩:=k 0 u rfl
     simp at e
     subst e
     exact .cons n t (ih ns (by simpa using hl) λj v e=>by
      obtain⟨i,t,e1,e2⟩:=k (j+1) v (by simpa using e)
      exact⟨i,t,e1,by simpa using e2⟩)
  refine go _ _ ?_ all
  unfold gR
  rw[aac,hl,hlen]
 refine wpAny_bind (wpAny_newList ?_ (by rw[hl,<-hlen,sizeLine_eq];omega))
 have Dz:(h'.push (seqObj "list" acc.toList.toArray 0)).get? h'.objs.size=some (seqObj "list" acc.toList.toArray 0):=Heap.get?_push_size _ rfl
 have I1:Inv X pins σ H {s with heap:=h',toks:=tk}:=I.kept (t':=tk) hk
 refine wpAny_bind (wpAny_holding (wpAny_call_entry slot_list_sort ⟨_,Dz,rfl⟩ entry_list_sort (list_sort_tree Dz hI (by omega) λout ns' a1 a2 a3=>⟨_,rfl,?_⟩) (args_list_sort _)))
 obtain rfl:=Nm.mh a2 a3
 obtain⟨e,he⟩:=sortedHeap_at (out:=out) Dz
 have fr:=I1.bT.fresh (a:=h'.objs.size) (aah _)
 refine wpAny_pure ⟨_,rfl,.ref h'.objs.size,_,I1.laid (t':=tk) (λb o eb=>?_) (aah _) (o:=.lst (List.map V.int (Nm.me (gR kvs)))) ⟨?_,out.toList,e,qN a1,?_⟩,rfl,q _ fr⟩
 ·rw[sortedHeap_old (aan (Heap.lt_size eb)) (by rw[Heap.size_push];exact abp (Heap.lt_size eb))]
  exact Heap.get?_push_of_some _ eb
 ·rw[aac,Nm.ni,sizeLine_eq]
  unfold gR
  rw[aac]
  omega
 ·exact he
end
section
variable {X : Cx} {pins : List (Addr × Obj)} {σ : St} {H : Hp} {s : Shared}
end
noncomputable def WU (d:Addr) (o:Obj) (kvs:List (Key×V)):It:=
 ⟨λi H=>H d=some (.uy o (.dK kvs))/\i<kvs.length,λi H x H'=>H'=H/\∃p,kvs[i]?=some p/\x=kV p.1,λi H=>H d=some (.uy o (.dK kvs))/\i=kvs.length⟩
section
variable {X : Cx} {x : Str} {WV : Pos}
noncomputable def iDict (tl:TE):TI:=λσ H R=>tl σ H λv H1=>∃d kvs,v=.ref d/\H1 d=some (.dK kvs)/\∀o,R (WU d o kvs) (upd H1 d (.uy o (.dK kvs)))
end
end L2
namespace L2
open PySem PySem.Spec PyProof.Rows PySem.W
section
variable {X : Cx} {K : PySem.W.Frag}
theorem br {tg l:Expr} {tl:TE} (hl:PE X l tl) (hK:X.K=K:=by rfl):PI X tg l (iList K tl):=by subst hK;exact BW hl
theorem jw {elts:List Expr} {kk:Nat} {kT:Pos} {a b:Expr} {ta:TA} {p pos:Pos} (hg:Gl X "zip") (hm:X.mg "zip"=none) (ha:PA X [a,b] ta) (n1:noStar a=true:=by rfl) (n2:noStar b=true:=by rfl) (hK:X.K=K:=by rfl):
  PI X (.Tuple elts kk kT) (.Call (.Name "zip" p) [a,b] [] pos) (iZip K ta):=by subst hK;exact E6 hg hm ha (by rw[se n1,se n2];rfl) (by rw[se n2];rfl)
theorem cS {elts:List Expr} {kk:Nat} {kT:Pos} {a:Expr} {ta:TA} {p pos:Pos} (hg:Gl X "enumerate") (hm:X.mg "enumerate"=none) (ha:PA X [a] ta) (n1:noStar a=true:=by rfl) (hK:X.K=K:=by rfl):
  PI X (.Tuple elts kk kT) (.Call (.Name "enumerate" p) [a] [] pos) (iEnum K ta):=by subst hK;exact qL hg hm ha (by rw[se n1];rfl)
theorem b8 {es:List Expr} {k:Nat} {t:DB} {n:Nat} {pos:Pos} (hc:X.calm=true) (h:GV X es t) (hn:(assignEach es X.env).length=n:=by rfl) (hst:(assignEach es X.env).findIdx? (·.1)=none:=by rfl) (hK:X.K=K:=by rfl):PG X (.Tuple es k pos) (yQ K n t):=by
 subst hK;exact Ey hc h hn hst
theorem pR (hK:X.K=K:=by rfl):DJ X (ET K):=by subst hK;exact ze
theorem iW (hK:X.K=K:=by rfl):c9 X (.builtin "len") (λxs H Q=>∃p ns,xs=[.ref p]/\bj K H p (List.map V.int ns)/\Q (.int (List.length ns:Nat)) H):=by subst hK;exact x8
theorem dM (hK:X.K=K:=by rfl):c9 X (.type "list") (λxs H Q=>∃p ys,xs=[.ref p]/\(bj K H p ys\/d7 K H p ys)/\∀l,H l=none->Q (.ref l) (upd H l (.lst ys))):=by subst hK;exact qF
theorem kG (hc:X.calm=true:=by rfl) (hK:X.K=K:=by rfl):c9 X (.builtin "sum") (λxs H Q=>∃p ns,xs=[.ref p]/\bj K H p (List.map V.int ns)/\Q (.int ns.sum) H):=by subst hK;exact u7 hc
theorem nj (hc:X.calm=true:=by rfl):c9 X (.builtin "sorted") (λxs H Q=>∃d kvs,xs=[.ref d]/\Rd H d (.dK kvs)/\allI kvs/\kvs.length<64/\∀l,H l=none->Q (.ref l) (upd H l (.lst (List.map V.int (Nm.me (gR kvs)))))):=oW hc
theorem sV (hK:X.K=K:=by rfl):HI X (rSlL K):=by subst hK;exact B9
theorem HL.r {id:String} {r:V->List V->Hp->VK->Prop} (h:HL X id r):GW X id r:=h
end
end L2
namespace Nm
abbrev Ws:=List (Int×Int)
noncomputable def keys (ws:Ws):List Int:=ws.map (·.1)
noncomputable def look:Ws->Int->Int
 | [],_=>0
 | p::r,k=>if p.1=k then p.2 else look r k
noncomputable def put:Ws->Int->Int->Ws
 | [],k,v=>[(k,v)]
 | p::r,k,v=>if p.1=k then (k,v)::r else p::put r k v
noncomputable def Mt (ws:Ws):Int:=(ws.map (·.2)).sum
structure Over (as ws:Ws) (B T:Int):Prop where
 nd:(keys ws).Nodup
 perm:(keys as).Perm (keys ws)
 val:∀k∈keys ws,look as k*T=look ws k*B
end Nm
namespace L2
open PySem PySem.Spec PyProof.Rows
noncomputable def bz (p:Int×Int):Dat:=.tup [.int p.1,.int p.2]
noncomputable def zw (ws:Nm.Ws):Dat:=.lst (ws.map bz)
theorem bP {H:Hp} {r:Int×Int} {v:V}:Rep H (bz r) v↔∃p,v=.ref p/\H p=some (.tup [.int r.1,.int r.2]):=by
 unfold bz
 simp only[Rep,bf]
 constructor
 ·rintro⟨p,vs,rfl,hp,a,b,rfl,rfl,c,d,rfl,rfl,rfl⟩
  exact⟨p,rfl,hp⟩
 ·rintro⟨p,rfl,hp⟩
  exact⟨p,_,rfl,hp,_,_,rfl,rfl,_,_,rfl,rfl,rfl⟩
theorem aO {H:Hp} {ds:List Dat} {v:V}:Rep H (.lst ds) v↔∃p vs,v=.ref p/\H p=some (.lst vs)/\bf H ds vs:=by rw[Rep]
noncomputable def UA (H H':Hp):Prop:=∀p xs,(H p=some (.tup xs)->H' p=some (.tup xs))/\(H p=some (.lst xs)->H' p=some (.lst xs))
mutual
theorem Rep.Il {H H':Hp} (s:UA H H'):∀{d:Dat} {v:V},Rep H d v->Rep H' d v
 | .cE,_,h=>by rw[Rep] at *;exact h
 | .bl _,_,h=>by rw[Rep] at *;exact h
 | .int _,_,h=>by rw[Rep] at *;exact h
 | .str _,_,h=>by rw[Rep] at *;exact h
 | .tup _,_,h=>by
  rw[Rep] at *
  obtain⟨p,vs,e,hp,r⟩:=h
  exact⟨p,vs,e,(s _ _).1 hp,bf.Il s r⟩
 | .lst _,_,h=>by
  rw[Rep] at *
  obtain⟨p,vs,e,hp,r⟩:=h
  exact⟨p,vs,e,(s _ _).2 hp,bf.Il s r⟩
theorem bf.Il {H H':Hp} (s:UA H H'):∀{ds:List Dat} {vs:List V},bf H ds vs->bf H' ds vs
 | [],_,h=>by rw[bf] at *;exact h
 | _::_,_,h=>by
  rw[bf] at *
  obtain⟨v,r,e,h1,h2⟩:=h
  exact⟨v,r,e,Rep.Il s h1,bf.Il s h2⟩
end
theorem none_of {H H':Hp} (s:az H H') {p:Addr} (h:H' p=none):H p=none:=by
 cases e:H p with
 | none=>rfl
 | some o=>rw[s p o e] at h;cases h
end L2
namespace Nm
end Nm
namespace L2
open PySem PySem.Spec PyProof.Rows
theorem dE {α:Type} {J:It} {tc:TT} {te:TE} {tl:St} {H1:Hp} {fin:List V->Hp->Prop} {Item:Nat->V->Hp->Hp->Prop} (as:List α) (f:α->Option Int) (S:Src J (az H1) as.length Item) (sub:∀i x H H3,Item i x H H3->H3=H) (hz:as.length<=sizeLine)
  (hs:∀i a x,as[i]?=some a->Item i x H1 H1->∀(Y:VK) (N:Hp->Prop),(∀z,f a=some z->Y (.int z) H1)->(f a=none->N H1)->tc (some x::tl) H1 λb H5=>if b=true then te (some x::tl) H5 Y else N H5)
  (jZ:fin (List.map V.int (as.filterMap f)) H1):fh J (gName 0) tc te (none::tl) H1 fin:=by
 refine ib S (λσ=>∃w0,σ=w0::tl) ⟨_,rfl⟩ (λi ys H=>H=H1/\ys=List.map V.int ((as.take i).filterMap f)) ⟨rfl,by simp⟩ hz ?_ ?_
 ·rintro i x σ H ys H3 Q N hi sm ⟨rfl,rfl⟩ hl ⟨w0,rfl⟩ it kq kn
  obtain rfl:=sub _ _ _ _ it
  have ea:as[i]?=some as[i]:=aad hi
  refine hs i _ x ea it _ _ (λz e=>kq _ _ _ ⟨_,rfl⟩ sm ⟨rfl,?_⟩) (λe=>kn _ _ ⟨_,rfl⟩ sm ⟨rfl,?_⟩)
  ·rw[aaE,ea,abq,aax]
   simp [e]
  ·rw[aaE,ea,abq,aax]
   simp [e]
 ·rintro ys H sm ⟨rfl,rfl⟩ hl
  rw[aaJ (aah _)]
  exact jZ
theorem iX {K:PySem.W.Frag} {α:Type} {J:It} {tc:TT} {te:TE} {tl:St} {H1:Hp} {fin:List V->Hp->Prop} {Item:Nat->V->Hp->Hp->Prop} (as:List α) (f:α->Option Int) (S:Src J (az H1) as.length Item) (sub:∀i x H H3,Item i x H H3->H3=H) (hz:as.length<=sizeLine)
  (hs:∀i a x,as[i]?=some a->Item i x H1 H1->∃p u v,x=.ref p/\d7 K H1 p [u,v]/\∀(Y:VK) (N:Hp->Prop),(∀z,f a=some z->Y (.int z) H1)->(f a=none->N H1)->tc (some u::some v::tl) H1 λb H5=>if b=true then te (some u::some v::tl) H5 Y else N H5)
  (jZ:fin (List.map V.int (as.filterMap f)) H1):fh J (yQ K 2 (gCons (gName 0) (gCons (gName 1) gNil))) tc te (none::none::tl) H1 fin:=by
 refine ib S (λσ=>∃w0 w1,σ=w0::w1::tl) ⟨_,_,rfl⟩ (λi ys H=>H=H1/\ys=List.map V.int ((as.take i).filterMap f)) ⟨rfl,by simp⟩ hz ?_ ?_
 ·rintro i x σ H ys H3 Q N hi sm ⟨rfl,rfl⟩ hl ⟨w0,w1,rfl⟩ it kq kn
  obtain rfl:=sub _ _ _ _ it
  have ea:as[i]?=some as[i]:=aad hi
  obtain⟨p,u,v,rfl,sq,k⟩:=hs i _ x ea it
  refine⟨p,_,rfl,sq,rfl,_,_,rfl,_,_,rfl,rfl,?_⟩
  refine k _ _ (λz e=>kq _ _ _ ⟨_,_,rfl⟩ sm ⟨rfl,?_⟩) (λe=>kn _ _ ⟨_,_,rfl⟩ sm ⟨rfl,?_⟩)
  ·rw[aaE,ea,abq,aax]
   simp [e]
  ·rw[aaE,ea,abq,aax]
   simp [e]
 ·rintro ys H sm ⟨rfl,rfl⟩ hl
  rw[aaJ (aah _)]
  exact jZ
theorem en {α β:Type} (f:α->β) (l:List α):l.filterMap (λa=>some (f a))=l.map f:=by
 rw[<-List.filterMap_eq_map];rfl
end L2
namespace L2
open PySem PySem.Spec PyProof.Rows PySem.W
section
variable {X : Cx} {K : PySem.W.Frag}
theorem nk:∀{us:List Value} {bs:List Bool},bu (bs.map V.bl) us->LSm.BoolsAre us bs
 | _,[],.nil=>.nil
 | _,b::bs,.cons r t=>by
  have e:_=Value.bool b:=r
  subst e
  exact .cons b (nk t)
theorem u9 (hc:X.calm=true):c9 X (.builtin "all") (λxs H Q=>∃p bs,xs=[.ref p]/\bj X.K H p (List.map V.bl bs)/\Q (.bl (bs.all id)) H):=by
 intro pins s σ H xs us Q I r h
 obtain⟨p,bs,rfl,hq,q⟩:=h
 obtain⟨u,rfl,rx⟩:=vals1 r
 cases rx
 obtain⟨aU,rv,pl,hz⟩:=I.list hq
 have hb:=nk rv
 have hl:=pl.isList
 have fU:p<s.heap.objs.size:=by obtain⟨_,e,_⟩:=hl;exact Heap.lt_size e
 refine call_all_walk (wpAny_pyIter_list hl ?_)
 refine⟨s.heap.objs.size,[s.heap.objs.size,p],[s.heap.objs.size],aU.toArray.size,_,_,λi=>(bs[i]?).getD true,rfl,Walks.list (A:=X.A.in1) (I.ok.hd hc) _ p (aan fU) aU.toArray,
  ⟨⟨_,Heap.get?_push_size _ rfl,rfl,rfl⟩,hl.push _⟩,λi v s' Q' E' hP hQ=>?_,λh' tk hk=>?_⟩
 ·obtain⟨b,e,rfl⟩:=hb.get i v (by simpa using hP)
  simp only[e,Option.getD_some] at hQ
  exact wpAny_truthy_bool hQ
 ·have e:((List.range aU.toArray.size).all λi=>(bs[i]?).getD true)=bs.all id:=by
   rw[aam,hb.length];exact LSm.range_all bs
  rw[e]
  exact⟨.bl _,H,I.kept (t':=tk) (LSm.kept_iter hk),rfl,q⟩
theorem va (hc:X.calm=true):c9 X (.builtin "any") (λxs H Q=>∃p bs,xs=[.ref p]/\bj X.K H p (List.map V.bl bs)/\Q (.bl (bs.any id)) H):=by
 intro pins s σ H xs us Q I r h
 obtain⟨p,bs,rfl,hq,q⟩:=h
 obtain⟨u,rfl,rx⟩:=vals1 r
 cases rx
 obtain⟨aU,rv,pl,hz⟩:=I.list hq
 have hb:=nk rv
 have hl:=pl.isList
 have fU:p<s.heap.objs.size:=by obtain⟨_,e,_⟩:=hl;exact Heap.lt_size e
 refine call_any_walk (wpAny_pyIter_list hl ?_)
 refine⟨s.heap.objs.size,[s.heap.objs.size,p],[s.heap.objs.size],aU.toArray.size,_,_,λi=>(bs[i]?).getD false,rfl,Walks.list (A:=X.A.in1) (I.ok.hd hc) _ p (aan fU) aU.toArray,
  ⟨⟨_,Heap.get?_push_size _ rfl,rfl,rfl⟩,hl.push _⟩,λi v s' Q' E' hP hQ=>?_,λh' tk hk=>?_⟩
 ·obtain⟨b,e,rfl⟩:=hb.get i v (by simpa using hP)
  simp only[e,Option.getD_some] at hQ
  exact wpAny_truthy_bool hQ
 ·have e:((List.range aU.toArray.size).any λi=>(bs[i]?).getD false)=bs.any id:=by
   rw[aam,hb.length];exact LSm.range_any bs
  rw[e]
  exact⟨.bl _,H,I.kept (t':=tk) (LSm.kept_iter hk),rfl,q⟩
theorem sW (hc:X.calm=true:=by rfl) (hK:X.K=K:=by rfl):c9 X (.builtin "all") (λxs H Q=>∃p bs,xs=[.ref p]/\bj K H p (List.map V.bl bs)/\Q (.bl (bs.all id)) H):=by subst hK;exact u9 hc
theorem sY (hc:X.calm=true:=by rfl) (hK:X.K=K:=by rfl):c9 X (.builtin "any") (λxs H Q=>∃p bs,xs=[.ref p]/\bj K H p (List.map V.bl bs)/\Q (.bl (bs.any id)) H):=by subst hK;exact va hc
noncomputable def tSumV (to:TE):TE:=λσ H Q=>to σ H λv H1=>∃d kvs ns,v=.ref d/\H1 d=some (.dK kvs)/\kvs.map (·.2)=List.map V.int ns/\Q (.int ns.sum) H1
theorem pS {α:Type} {J:It} {tc:TT} {te:TE} {tl:St} {H1:Hp} {fin:List V->Hp->Prop} {Item:Nat->V->Hp->Hp->Prop} (as:List α) (f:α->Option V) (S:Src J (az H1) as.length Item) (sub:∀i x H H3,Item i x H H3->H3=H) (hz:as.length<=sizeLine)
  (hs:∀i a x,as[i]?=some a->Item i x H1 H1->∀(Y:VK) (N:Hp->Prop),(∀z,f a=some z->Y z H1)->(f a=none->N H1)->tc (some x::tl) H1 λb H5=>if b=true then te (some x::tl) H5 Y else N H5)
  (jZ:fin (as.filterMap f) H1):fh J (gName 0) tc te (none::tl) H1 fin:=by
 refine ib S (λσ=>∃w0,σ=w0::tl) ⟨_,rfl⟩ (λi ys H=>H=H1/\ys=(as.take i).filterMap f) ⟨rfl,by simp⟩ hz ?_ ?_
 ·rintro i x σ H ys H3 Q N hi sm ⟨rfl,rfl⟩ hl ⟨w0,rfl⟩ it kq kn
  obtain rfl:=sub _ _ _ _ it
  have ea:as[i]?=some as[i]:=aad hi
  refine hs i _ x ea it _ _ (λz e=>kq _ _ _ ⟨_,rfl⟩ sm ⟨rfl,?_⟩) (λe=>kn _ _ ⟨_,rfl⟩ sm ⟨rfl,?_⟩)
  ·rw[aaE,ea,abq]
   simp [e]
  ·rw[aaE,ea,abq]
   simp [e]
 ·rintro ys H sm ⟨rfl,rfl⟩ hl
  rw[aaJ (aah _)]
  exact jZ
theorem sZ (rows:Nm.Ws):depth (zw rows)<=40:=by
 have h:∀rows:Nm.Ws,depth.dL (rows.map bz)<=1:=by
  intro rows
  induction rows with
  | nil=>simp [depth.dL]
  | cons r rs ih=>
   rw[aat,depth.dL]
   have:depth (bz r)=1:=by simp [bz,depth,depth.dL]
   omega
 have:=h rows
 unfold zw
 rw[depth]
 omega
theorem aP {a b:TS} {D:Ends} {σ:St} {H:Hp} (C:St->Hp->Prop) (hb:∀σ' H',C σ' H'->b D σ' H') (ha:∀N:St->Hp->Prop,(∀σ' H',C σ' H'->N σ' H')->a {D with nx:=N} σ H):tSeq a b D σ H:=ha _ hb
end
end L2
namespace Nm
noncomputable def pos (ps:Ws):Ws:=ps.filter λp=>decide (0<p.2)
end Nm
namespace L2
open PySem PySem.Spec PyProof.Rows PySem.W
section
variable {X : Cx} {K : PySem.W.Frag}
noncomputable def rJoin (K:PySem.W.Frag):V->List V->Hp->VK->Prop:=λx xs H Q=>∃sep p ts,x=.str sep/\xs=[.ref p]/\bj K H p (List.map V.str ts)/\JoinOk sep ts=true/\Q (.str (Txt.join sep ts)) H
abbrev TJ:=Str->TE
noncomputable def jNil:TJ:=λacc _ H Q=>Q (.str acc) H
noncomputable def jLit (x:Str) (t:TJ):TJ:=λacc σ H Q=>(acc++x).length<=sizeLine/\t (acc++x) σ H Q
noncomputable def jInt (te:TE) (t:TJ):TJ:=λacc σ H Q=>te σ H λv H1=>∃i,v=.int i/\i.natAbs.log2<1920/\(acc++toString i).length<=sizeLine/\t (acc++toString i) σ H1 Q
noncomputable def jStr (te:TE) (t:TJ):TJ:=λacc σ H Q=>te σ H λv H1=>∃z,v=.str z/\z.length<=sizeLine/\(acc++z).length<=sizeLine/\t (acc++z) σ H1 Q
noncomputable def tJoined (t:TJ):TE:=λσ H Q=>t Str.empty σ H Q
end
end L2
namespace L2
open PySem PySem.Spec PyProof.Rows PySem.W
inductive Pl where
 | fin (w:Int×Int) | cP (w:Int×Int) (ws:List (Int×Int)) | bN (who:Int) (to:List Int)
noncomputable def jx:Pl->Dat
 | .fin w=>.tup [.str (Str.ofString "end"),bz w]
 | .cP w ws=>.tup [.str (Str.ofString "throw"),bz w,.lst (ws.map bz)]
 | .bN who to=>.tup [.str (Str.ofString "pick"),.int who,.lst (to.map .int)]
noncomputable def pT (b:List Pl):Dat:=.lst (b.map jx)
theorem ic {H:Hp}:∀{ns:List Int} {vs:List V},bf H (ns.map Dat.int) vs↔vs=ns.map V.int
 | [],vs=>by simp only[aa0,bf]
 | n::ns,vs=>by
  simp only[aat,bf,Rep]
  constructor
  ·rintro⟨v,r,rfl,rfl,h⟩
   rw[ic.mp h]
  ·rintro rfl
   exact⟨_,_,rfl,rfl,ic.mpr rfl⟩
theorem cM {H:Hp} {w:Int×Int} {v:V}:Rep H (jx (.fin w)) v↔∃p q,v=.ref p/\H p=some (.tup [.str (Str.ofString "end"),.ref q])/\H q=some (.tup [.int w.1,.int w.2]):=by
 show Rep H (.tup [.str (Str.ofString "end"),bz w]) v↔_
 rw[Rep]
 simp only[bf,bP]
 constructor
 ·rintro⟨p,vs,rfl,hp,_,_,rfl,e,_,_,rfl,⟨q,rfl,hq⟩,rfl⟩
  rw[Rep] at e
  subst e
  exact⟨p,q,rfl,hp,hq⟩
 ·rintro⟨p,q,rfl,hp,hq⟩
  exact⟨p,_,rfl,hp,_,_,rfl,by rw[Rep],_,_,rfl,⟨q,rfl,hq⟩,rfl⟩
theorem cI {H:Hp} {w:Int×Int} {ws:List (Int×Int)} {v:V}:Rep H (jx (.cP w ws)) v↔∃p q l xs,v=.ref p/\H p=some (.tup [.str (Str.ofString "throw"),.ref q,.ref l])/\H q=some (.tup [.int w.1,.int w.2])/\H l=some (.lst xs)/\bf H (ws.map bz) xs:=by
 show Rep H (.tup [.str (Str.ofString "throw"),bz w,.lst (ws.map bz)]) v↔_
 rw[Rep]
 simp only[bf,bP]
 constructor
 ·rintro⟨p,vs,rfl,hp,_,_,rfl,e,_,_,rfl,⟨q,rfl,hq⟩,_,_,rfl,k,rfl⟩
  rw[Rep] at e
  subst e
  obtain⟨l,xs,rfl,hl,r⟩:=aO.mp k
  exact⟨p,q,l,xs,rfl,hp,hq,hl,r⟩
 ·rintro⟨p,q,l,xs,rfl,hp,hq,hl,r⟩
  exact⟨p,_,rfl,hp,_,_,rfl,by rw[Rep],_,_,rfl,⟨q,rfl,hq⟩,_,_,rfl,aO.mpr ⟨l,xs,rfl,hl,r⟩,rfl⟩
theorem cJ {H:Hp} {who:Int} {to:List Int} {v:V}:Rep H (jx (.bN who to)) v↔∃p l,v=.ref p/\H p=some (.tup [.str (Str.ofString "pick"),.int who,.ref l])/\H l=some (.lst (to.map V.int)):=by
 show Rep H (.tup [.str (Str.ofString "pick"),.int who,.lst (to.map .int)]) v↔_
 rw[Rep]
 simp only[bf]
 constructor
 ·rintro⟨p,vs,rfl,hp,_,_,rfl,e,_,_,rfl,e2,_,_,rfl,k,rfl⟩
  rw[Rep] at e
  rw[Rep] at e2
  subst e e2
  obtain⟨l,xs,rfl,hl,r⟩:=aO.mp k
  rw[ic] at r
  subst r
  exact⟨p,l,rfl,hp,hl⟩
 ·rintro⟨p,l,rfl,hp,hl⟩
  exact⟨p,_,rfl,hp,_,_,rfl,by rw[Rep],_,_,rfl,by rw[Rep],_,_,rfl,aO.mpr ⟨l,_,rfl,hl,ic.mpr rfl⟩,rfl⟩
theorem Fb {H:Hp} {q:Pl} {v:V} (h:Rep H (jx q) v):∃p k r,v=.ref p/\H p=some (.tup (.str k::r)):=by
 cases q with
 | fin w=>obtain⟨p,q,rfl,hp,_⟩:=cM.mp h;exact⟨p,_,_,rfl,hp⟩
 | cP w ws=>obtain⟨p,q,l,xs,rfl,hp,_⟩:=cI.mp h;exact⟨p,_,_,rfl,hp⟩
 | bN who to=>obtain⟨p,l,rfl,hp,_⟩:=cJ.mp h;exact⟨p,_,_,rfl,hp⟩
theorem vb {ds:List Dat} {n:Nat} (h:∀d∈ds,depth d<=n):depth.dL ds<=n:=by
 induction ds with
 | nil=>rw[depth.dL];omega
 | cons d ds ih=>
  rw[depth.dL]
  have:=h d aaj
  have:=ih λe he=>h e (aak _ he)
  omega
theorem cZ {H:Hp} {b:List Pl} {xs:List V} {i:Nat} {x:V} (h:bf H (b.map jx) xs) (e:xs[i]?=some x):∃q,b[i]?=some q/\Rep H (jx q) x:=by
 obtain⟨d,ed,rd⟩:=h.get e
 rw[aag] at ed
 obtain⟨q,eq,rfl⟩:=Option.map_eq_some_iff.mp ed
 exact⟨q,eq,rd⟩
theorem fx {H:Hp} {b:List Pl} {xs:List V} {i:Nat} {q:Pl} (h:bf H (b.map jx) xs) (e:b[i]?=some q):∃x,xs[i]?=some x/\Rep H (jx q) x:=
 h.at (by rw[aag,e];rfl)
theorem c4 {α:Type} {H:Hp} {f:α->Dat} {as:List α} {ys:List V} (hl:ys.length=as.length) (h:∀(i:Nat) y,ys[i]?=some y->∀a,as[i]?=some a->Rep H (f a) y):bf H (as.map f) ys:=
 bf.of (by rw[aac,hl]) λi d v e1 e2=>by
  rw[aag] at e1
  obtain⟨a,ea,rfl⟩:=Option.map_eq_some_iff.mp e1
  exact h i v e2 a ea
noncomputable def cF (H:Hp) (p:Addr):Hp:=λa=>if a=p then none else H a
theorem bE {H:Hp} {p a:Addr} (h:a≠p):cF H p a=H a:=if_neg h
theorem mi {H:Hp} {p:Addr} {o:HO}:az (cF H p) (upd H p o):=λa u e=>by
 unfold cF at e
 by_cases h:a=p
 ·rw[if_pos h] at e;cases e
 ·rw[if_neg h] at e;rw[aI h];exact e
theorem bO {H:Hp} {p:Addr}:az (cF H p) H:=λa u e=>by
 unfold cF at e
 by_cases h:a=p
 ·rw[if_pos h] at e;cases e
 ·rw[if_neg h] at e;exact e
theorem de {H0 H:Hp} {p:Addr} (s:az H0 H) (n:H0 p=none):az H0 (cF H p):=λa u e=>by
 rw[bE (λz=>by rw[z,n] at e;cases e)]
 exact s _ _ e
theorem bI {H H':Hp} {p:Addr} (s:az H H'):az (cF H p) (cF H' p):=λa u e=>by
 unfold cF at *
 by_cases h:a=p
 ·rw[if_pos h] at e;cases e
 ·rw[if_neg h] at e ⊢;exact s _ _ e
theorem ba {H0 H:Hp} {p:Addr} {o:HO} (s:az H0 H) (n:H0 p=none):az H0 (upd H p o):=(de s n).trans mi
theorem nv {H:Hp} {p:Addr} {ds:List Dat} {xs:List V} {d:Dat} {v:V} (h:bf (cF H p) ds xs) (k:Rep (cF H p) d v):bf (cF (upd H p (.lst (xs++ [v]))) p) (ds++ [d]) (xs++ [v]):=by
 have s:az (cF H p) (cF (upd H p (.lst (xs++ [v]))) p):=de mi (if_pos rfl)
 refine(h.mono s).append ?_
 rw[bf]
 exact⟨v,[],rfl,k.mono s,by rw[bf]⟩
theorem nE {α β:Type} {f:α->β} {as:List α} {i:Nat} {a:α} (h:as[i]?=some a):fK (as.map f) (i:Int)=some (f a):=bC (by rw[aag,h];rfl)
theorem tj {c:TT} {tb:TS} {D:Ends} {σ:St} {H:Hp} (W:Nat->St->Hp->Prop) {m:Nat} (h0:W m σ H)
  (hs:∀m σ H,W m σ H->c σ H λb H1=>if b=true then tb {D with nx:=λσ' H'=>∃m',m'<m/\W m' σ' H',ct:=λσ' H'=>∃m',m'<m/\W m' σ' H',bk:=D.nx} σ H1 else D.nx σ H1)
  (mono:∀σ H Q Q',(∀b H1,Q b H1->Q' b H1)->c σ H Q->c σ H Q'):qx c tb D σ H:=by
 refine⟨W,⟨m,h0⟩,λm σ H w=>mono σ H _ _ (λb H1 q=>?_) (hs m σ H w)⟩
 cases b with
 | true=>exact⟨_,λ_ _ h=>h,q⟩
 | false=>exact q
theorem pU {K:PySem.W.Frag} {α:Type} {J:It} {tc:TT} {te:TE} {tl:St} {H1:Hp} {fin:List V->Hp->Prop} {Item:Nat->V->Hp->Hp->Prop} (as:List α) (f:α->Option V) (S:Src J (az H1) as.length Item) (Ic:Nat->V->V->Hp->Prop)
  (tp:∀i x H H3,i<as.length->az H1 H->Item i x H H3->az H H3/\∃p a b,x=.ref p/\d7 K H3 p [a,b]/\Ic i a b H3) (hz:as.length<=sizeLine)
  (hs:∀i a u v H3,as[i]?=some a->az H1 H3->Ic i u v H3->∀(Y:VK) (N:Hp->Prop),(∀z H6,f a=some z->az H3 H6->Y z H6)->(∀H6,f a=none->az H3 H6->N H6)->tc (some u::some v::tl) H3 λb H5=>if b=true then te (some u::some v::tl) H5 Y else N H5)
  (jZ:∀H2,az H1 H2->fin (as.filterMap f) H2):fh J (yQ K 2 (gCons (gName 0) (gCons (gName 1) gNil))) tc te (none::none::tl) H1 fin:=by
 refine ib S (λσ=>∃w0 w1,σ=w0::w1::tl) ⟨_,_,rfl⟩ (λi ys _=>ys=(as.take i).filterMap f) (by simp) hz ?_ ?_
 ·rintro i x σ H ys H3 Q N hi sm rfl hl ⟨w0,w1,rfl⟩ it kq kn
  obtain⟨s3,p,u,v,rfl,sq,i2⟩:=tp i x H H3 hi sm it
  have ea:as[i]?=some as[i]:=aad hi
  refine⟨p,_,rfl,sq,rfl,_,_,rfl,_,_,rfl,rfl,?_⟩
  refine hs i _ u v H3 ea (sm.trans s3) i2 _ _ (λz H6 e s6=>kq _ _ _ ⟨_,_,rfl⟩ (sm.trans (s3.trans s6)) ?_) (λH6 e s6=>kn _ _ ⟨_,_,rfl⟩ (sm.trans (s3.trans s6)) ?_)
  ·rw[aaE,ea,abq]
   simp [e]
  ·rw[aaE,ea,abq]
   simp [e]
 ·rintro ys H sm rfl hl
  rw[aaJ (aah _)]
  exact jZ H sm
theorem dF {α:Type} (f:α->V) (p:α->Bool):∀l:List α,l.filterMap (λi=>if p i=true then some (f i) else none)=(l.filter p).map f
 | []=>rfl
 | x::l=>by
  rw[List.filterMap_cons,List.filter_cons]
  by_cases c:p x=true
  ·simp only[c,if_true,aat,dF f p l]
  ·simp only[c,if_false,dF f p l]
   rfl
section
variable {X : Cx} {K : PySem.W.Frag}
theorem vc (hc:X.calm=true):c9 X (.builtin "max") (λxs H Q=>∃p ns,xs=[.ref p]/\bj X.K H p (List.map V.int ns)/\0<ns.length/\∀M,M∈ns->(∀a∈ns,a<=M)->Q (.int M) H):=by
 intro pins s σ H xs us Q I r h
 obtain⟨p,ns,rfl,hq,Mu,q⟩:=h
 obtain⟨u,rfl,rx⟩:=vals1 r
 cases rx
 obtain⟨aU,rv,pl,hz⟩:=I.list hq
 have hi:=intsAre_of rv
 have hl:=pl.isList
 obtain⟨xs,e⟩:=hi.allInts.items
 have DR:ns=xs.toList.map (·.1):=by rw[<-hi.numsOf,<-nums_intItems,<-e]
 have hsz:0<xs.size:=by
  have h3:=Mu;rw[DR,aac,abm] at h3;exact h3
 rw[e] at hl
 refine max_intList (I.ok.hd hc) hl hsz λv h' tk hv hk=>?_
 obtain⟨t,rfl⟩:=intItems_at hv
 obtain⟨h1,h2⟩:=argBest_gt (numAt xs) (xs.size - 1)
 refine⟨.int _,H,I.kept (t':=tk) hk,⟨t,rfl⟩,q _ ?_ λa ha=>?_⟩
 ·rw[DR,numAt_eq];exact getD_mem (by rw[aac,abm];omega)
 ·rw[DR] at ha
  obtain⟨j,hj,rfl⟩:=mem_getD ha
  rw[aac,abm] at hj
  rw[<-numAt_eq];exact h2 j (by omega)
theorem zy (hK:X.K=K:=by rfl):kr X (binaryOp .Add) (DI K):=by subst hK;exact B7
theorem tq (hc:X.calm=true:=by rfl) (hK:X.K=K:=by rfl):c9 X (.builtin "max") (λxs H Q=>∃p ns,xs=[.ref p]/\bj K H p (List.map V.int ns)/\0<ns.length/\∀M,M∈ns->(∀a∈ns,a<=M)->Q (.int M) H):=by subst hK;exact vc hc
end
end L2
namespace Lv
open L2
abbrev Fs:=List (Option Int)
noncomputable def fL:Pl->List Int
 | .fin _=>[]
 | .cP _ ws=>ws.map (·.2)
 | .bN _ to=>to
noncomputable def lk (fs:Fs) (g:Int):Option Int:=fs.getD g.toNat none
noncomputable def DS (fs:Fs) (q:Pl):Bool:=
 match q with
 | .cP _ ws=>(ws.map (·.2)).any λg=>(lk fs g).isSome
 | .fin _=>true
 | .bN _ to=>to.all λg=>(lk fs g).isSome
noncomputable def gh (b:List Pl) (fs:Fs) (i:Nat):Bool:=(fs.getD i none).isNone && (match b[i]? with | some q=>DS fs q | none=>false)
noncomputable def fresh (b:List Pl) (fs:Fs):List Nat:=(List.range b.length).filter (gh b fs)
noncomputable def cN (fs:Fs) (is:List Nat) (L:Int):Fs:=is.foldl (λacc i=>acc.set i (some L)) fs
noncomputable def run (b:List Pl):Nat->Fs->Int->Fs
 | 0,fs,_=>fs
 | m+1,fs,L=>if fresh b fs=[] then fs else run b m (cN fs (fresh b fs) L) (L+1)
noncomputable def Im:Pl->Option Int
 | .fin _=>some 0
 | _=>none
noncomputable def oR (b:List Pl):Fs:=b.map Im
noncomputable def tu (b:List Pl):Fs:=run b b.length (oR b) 1
noncomputable def d4 (fs:Fs):Nat:=fs.countP (·.isNone)
theorem ml (fs:Fs):∀(is:List Nat) (L:Int),(cN fs is L).length=fs.length
 | is,L=>by
  induction is generalizing fs with
  | nil=>rfl
  | cons i is ih=>
   show(cN (fs.set i (some L)) is L).length=_
   rw[ih,aaT]
theorem we (L:Int):∀(is:List Nat) (fs:Fs) (k:Nat),(cN fs is L)[k]?=if k∈is/\k<fs.length then some (some L) else fs[k]?
 | [],fs,k=>by simp [cN]
 | i::is,fs,k=>by
  show(cN (fs.set i (some L)) is L)[k]?=_
  rw[we L is,aaT]
  by_cases h:k<fs.length
  ·by_cases h1:k∈is
   ·rw[if_pos ⟨h1,h⟩,if_pos ⟨aak _ h1,h⟩]
   ·rw[if_neg (λz=>h1 z.1)]
    by_cases h2:k=i
    ·subst h2
     rw[if_pos ⟨aaj,h⟩,aaW h]
    ·rw[if_neg (λz=>(List.mem_cons.mp z.1).elim h2 h1),aaH (Ne.symm h2)]
  ·rw[if_neg (λz=>h z.2),if_neg (λz=>h z.2),aaq (by rw[aaT];omega),aaq (by omega)]
theorem c5 (x:Option Int) (fs:Fs):d4 (x::fs)=d4 fs+if x.isNone then 1 else 0:=by
 unfold d4
 rw[List.countP_cons]
theorem pV (L:Int):∀(fs:Fs) (i:Nat),d4 (fs.set i (some L))<=d4 fs
 | [],i=>by simp
 | x::fs,0=>by
  rw[abg,c5,c5]
  simp
 | x::fs,i+1=>by
  rw[abh,c5,c5]
  have:=pV L fs i
  omega
theorem tw (L:Int):∀(fs:Fs) (i:Nat),fs[i]?=some none->d4 (fs.set i (some L))<d4 fs
 | [],i,h=>by simp at h
 | x::fs,0,h=>by
  simp at h
  subst h
  rw[abg,c5,c5]
  simp
 | x::fs,i+1,h=>by
  rw[abh,c5,c5]
  have:=tw L fs i (by simpa using h)
  omega
theorem pW (L:Int):∀(is:List Nat) (fs:Fs),d4 (cN fs is L)<=d4 fs
 | [],fs=>aah _
 | i::is,fs=>aap (pW L is (fs.set i (some L))) (pV L fs i)
theorem qO (L:Int) {is:List Nat} {fs:Fs} (h:is≠[]) (k:∀i∈is,fs[i]?=some none):d4 (cN fs is L)<d4 fs:=by
 cases is with
 | nil=>exact absurd rfl h
 | cons i is=>exact abf (pW L is _) (tw L fs i (k i aaj))
theorem ie {b:List Pl} {fs:Fs} {i:Nat}:i∈fresh b fs↔i<b.length/\gh b fs i=true:=by
 unfold fresh
 rw[List.mem_filter,List.mem_range]
theorem nF {b:List Pl} {fs:Fs} (hl:fs.length=b.length) {i:Nat} (h:i∈fresh b fs):fs[i]?=some none:=by
 obtain⟨h1,h2⟩:=ie.mp h
 unfold gh at h2
 rw[aaS] at h2
 have e:fs[i]?=some fs[i]:=aad (by omega)
 rw[aaf,e] at h2
 rw[e]
 cases h:fs[i] with
 | none=>rfl
 | some v=>rw[h] at h2;simp at h2
noncomputable def At (fs:Fs) (L:Int) (i:Nat):Pl->Prop
 | .fin _=>fs[i]?=some (some 0)
 | .cP _ ws=>(fs[i]?=some none/\∀g∈ws.map (·.2),∀u,lk fs g=some u->u=L - 1)\/
   ∃v,fs[i]?=some (some v)/\1<=v/\(∃g∈ws.map (·.2),lk fs g=some (v - 1))/\∀g∈ws.map (·.2),∀u,lk fs g=some u->v - 1<=u
 | .bN _ to=>(fs[i]?=some none/\((∀g∈to,(lk fs g).isSome=true)->∃g∈to,lk fs g=some (L - 1)))\/
   ∃v,fs[i]?=some (some v)/\1<=v/\(∀g∈to,∃u,lk fs g=some u/\u<=v - 1)/\∃g∈to,lk fs g=some (v - 1)
structure Good (b:List Pl):Prop where
 lZ:∀q∈b,∀g∈fL q,0<=g/\g<b.length
 bN:∀q∈b,∀w to,q=.bN w to->to≠[]
structure Inv (b:List Pl) (fs:Fs) (L:Int):Prop where
 len:fs.length=b.length
 lt:∀(i:Nat) (v:Int),fs[i]?=some (some v)->0<=v/\v<L
 at_:∀(i:Nat) q,b[i]?=some q->At fs L i q
theorem zA {b:List Pl} (g:Good b):Inv b (oR b) 1:=by
 have h0:∀(i:Nat) (v:Int),(oR b)[i]?=some (some v)->v=0:=λi v e=>by
  unfold oR at e
  rw[aag] at e
  obtain⟨q,_,e⟩:=Option.map_eq_some_iff.mp e
  cases q <;>simp [Im] at e
  exact e.symm
 have hk:∀(g u:Int),lk (oR b) g=some u->u=0:=λg u e=>by
  unfold lk at e
  rw[aaf] at e
  cases h:(oR b)[g.toNat]? with
  | none=>rw[h] at e;simp at e
  | some o=>rw[h] at e;simp at e;subst e;exact h0 _ _ h
 refine⟨by simp [oR],λi v e=>by have:=h0 i v e;omega,λi q e=>?_⟩
 have e2:(oR b)[i]?=some (Im q):=by unfold oR;rw[aag,e];rfl
 cases q with
 | fin w=>exact e2
 | cP w ws=>exact .inl ⟨e2,λg _ u h=>hk g u h⟩
 | bN w to=>
  refine .inl ⟨e2,λh=>?_⟩
  cases to with
  | nil=>exact absurd rfl (g.bN _ (aae e) _ _ rfl)
  | cons x r=>
   refine⟨x,aaj,?_⟩
   have:=h x aaj
   obtain⟨u,hu⟩:=Option.isSome_iff_exists.mp this
   have:=hk x u hu
   rw[hu,this]
   rfl
theorem pX {fs:Fs} {g:Int} {u:Int}:lk fs g=some u↔fs[g.toNat]?=some (some u):=by
 unfold lk
 rw[aaf]
 cases h:fs[g.toNat]? with
 | none=>simp
 | some o=>simp
theorem step {b:List Pl} (gb:Good b) {fs:Fs} {L:Int} (I:Inv b fs L) (L1:1<=L):Inv b (cN fs (fresh b fs) L) (L+1):=by
 have hl:=I.len
 have get:∀(k:Nat),(cN fs (fresh b fs) L)[k]?=if k∈fresh b fs/\k<fs.length then some (some L) else fs[k]?:=we L _ _
 have old:∀(k:Nat) (v:Int),fs[k]?=some (some v)->(cN fs (fresh b fs) L)[k]?=some (some v):=λk v e=>by
  rw[get,if_neg,e]
  intro z
  rw[nF hl z.1] at e
  cases e
 have yb:∀(g u:Int),lk fs g=some u->lk (cN fs (fresh b fs) L) g=some u:=λg u h=>pX.mpr (old _ _ (pX.mp h))
 have uY:∀(g u:Int),lk (cN fs (fresh b fs) L) g=some u->lk fs g=some u\/u=L:=λg u h=>by
  have h:=pX.mp h
  rw[get] at h
  split at h
  ·right;simpa using h.symm
  ·exact .inl (pX.mpr h)
 refine⟨by rw[ml];exact hl,λi v e=>?_,λi q e=>?_⟩
 ·rw[get] at e
  split at e
  ·simp at e;omega
  ·have:=I.lt i v e;omega
 ·have hi:i<b.length:=(List.getElem?_eq_some_iff.mp e).1
  have A:=I.at_ i q e
  have rd:∀(q:Pl),b[i]?=some q->fs[i]?=some none->(i∈fresh b fs↔DS fs q=true):=λq e e2=>by
   rw[ie]
   unfold gh
   rw[aaf,e2,e]
   simp [hi]
  cases q with
  | fin w=>exact old _ _ A
  | cP w ws=>
   rcases A with ⟨a1,a2⟩ | ⟨v,a1,a2,⟨x,hx,a3⟩,a4⟩
   ·by_cases c:i∈fresh b fs
    ·right
     refine⟨L,by rw[get,if_pos ⟨c,by omega⟩],L1,?_,λg hg u h=>?_⟩
     ·have:=(rd _ e a1).mp c
      have:(ws.map (·.2)).any (λg=>(lk fs g).isSome)=true:=this
      obtain⟨x,hx,h⟩:=List.any_eq_true.mp this
      obtain⟨u,hu⟩:=Option.isSome_iff_exists.mp h
      have:=a2 x hx u hu
      subst this
      exact⟨x,hx,yb _ _ hu⟩
     ·rcases uY _ _ h with h | h
      ·have:=a2 g hg u h;omega
      ·omega
    ·left
     refine⟨by rw[get,if_neg (λz=>c z.1)];exact a1,λg hg u h=>?_⟩
     rcases uY _ _ h with h | h
     ·exfalso
      refine c ((rd _ e a1).mpr ?_)
      show(ws.map (·.2)).any (λg=>(lk fs g).isSome)=true
      exact List.any_eq_true.mpr ⟨g,hg,by rw[h];rfl⟩
     ·omega
   ·right
    refine⟨v,old _ _ a1,a2,⟨x,hx,yb _ _ a3⟩,λg hg u h=>?_⟩
    rcases uY _ _ h with h | h
    ·exact a4 g hg u h
    ·have:=I.lt i v a1;omega
  | bN w to=>
   rcases A with ⟨a1,a2⟩ | ⟨v,a1,a2,a3,x,hx,a4⟩
   ·by_cases c:i∈fresh b fs
    ·right
     have r:=(rd _ e a1).mp c
     have r:to.all (λg=>(lk fs g).isSome)=true:=r
     have r:=List.all_eq_true.mp r
     obtain⟨x,hx,h⟩:=a2 r
     refine⟨L,by rw[get,if_pos ⟨c,by omega⟩],L1,λg hg=>?_,x,hx,yb _ _ h⟩
     obtain⟨u,hu⟩:=Option.isSome_iff_exists.mp (r g hg)
     exact⟨u,yb _ _ hu,by have:=I.lt _ _ (pX.mp hu);omega⟩
    ·left
     refine⟨by rw[get,if_neg (λz=>c z.1)];exact a1,λh=>?_⟩
     have:¬∀g∈to,(lk fs g).isSome=true:=λz=>c ((rd _ e a1).mpr (show to.all (λg=>(lk fs g).isSome)=true from List.all_eq_true.mpr z))
     have:∃g∈to,lk fs g=none:=by
      apply Classical.byContradiction
      intro n
      apply this
      intro g hg
      cases h:lk fs g with
      | none=>exact absurd ⟨g,hg,h⟩ n
      | some u=>rfl
     obtain⟨g,hg,hn⟩:=this
     obtain⟨u,hu⟩:=Option.isSome_iff_exists.mp (h g hg)
     refine⟨g,hg,?_⟩
     rcases uY _ _ hu with h | h
     ·rw[hn] at h;cases h
     ·rw[hu,h];congr 1;omega
   ·right
    refine⟨v,old _ _ a1,a2,λg hg=>?_,x,hx,yb _ _ a4⟩
    obtain⟨u,h1,h2⟩:=a3 g hg
    exact⟨u,yb _ _ h1,h2⟩
noncomputable def Ends (fs:Fs) (i:Nat):Pl->Prop
 | .fin _=>fs[i]?=some (some 0)
 | .cP _ ws=>(fs[i]?=some none/\∀g∈ws.map (·.2),lk fs g=none)\/
   ∃v,fs[i]?=some (some v)/\1<=v/\(∃g∈ws.map (·.2),lk fs g=some (v - 1))/\∀g∈ws.map (·.2),∀u,lk fs g=some u->v - 1<=u
 | .bN _ to=>(fs[i]?=some none/\∃g∈to,lk fs g=none)\/
   ∃v,fs[i]?=some (some v)/\1<=v/\(∀g∈to,∃u,lk fs g=some u/\u<=v - 1)/\∃g∈to,lk fs g=some (v - 1)
theorem Ct {b:List Pl} {fs:Fs} {L:Int} (I:Inv b fs L) (h:fresh b fs=[]) (i:Nat) (q:Pl) (e:b[i]?=some q):Ends fs i q:=by
 have hi:i<b.length:=(List.getElem?_eq_some_iff.mp e).1
 have nr:fs[i]?=some none->DS fs q=false:=λe2=>by
  have:i∉fresh b fs:=by rw[h];simp
  rw[ie] at this
  cases hr:DS fs q with
  | false=>rfl
  | true=>
   exfalso
   apply this
   refine⟨hi,?_⟩
   unfold gh
   rw[aaf,e2,e]
   simp [hr]
 have A:=I.at_ i q e
 cases q with
 | fin w=>exact A
 | cP w ws=>
  rcases A with ⟨a1,a2⟩ | A
  ·refine .inl ⟨a1,λg hg=>?_⟩
   have:=nr a1
   have:(ws.map (·.2)).any (λg=>(lk fs g).isSome)=false:=this
   have:=List.any_eq_false.mp this g hg
   simpa using this
  ·exact .inr A
 | bN w to=>
  rcases A with ⟨a1,a2⟩ | A
  ·refine .inl ⟨a1,?_⟩
   have:=nr a1
   have:to.all (λg=>(lk fs g).isSome)=false:=this
   obtain⟨g,hg,n⟩:=List.all_eq_false.mp this
   exact⟨g,hg,by simpa using n⟩
  ·exact .inr A
theorem j1 {b:List Pl} {fs:Fs} (hl:fs.length=b.length) (h:fresh b fs≠[]) (L:Int):d4 (cN fs (fresh b fs) L)<d4 fs:=qO L h λ_ hi=>nF hl hi
theorem qP {b:List Pl} (gb:Good b):∀(m:Nat) (fs:Fs) (L:Int),Inv b fs L->1<=L->d4 fs<=m->∃L',L'<=L+m/\Inv b (run b m fs L) L'/\fresh b (run b m fs L)=[]
 | 0,fs,L,I,L1,h=>by
  refine⟨L,by omega,I,?_⟩
  show fresh b fs=[]
  apply Classical.byContradiction
  intro n
  have:=j1 I.len n L
  omega
 | m+1,fs,L,I,L1,h=>by
  show ∃L',L'<=L+ (m+1:Nat)/\Inv b (if fresh b fs=[] then fs else run b m (cN fs (fresh b fs) L) (L+1)) L'/\fresh b (if fresh b fs=[] then fs else run b m (cN fs (fresh b fs) L) (L+1))=[]
  by_cases c:fresh b fs=[]
  ·rw[if_pos c]
   exact⟨L,by omega,I,c⟩
  ·rw[if_neg c]
   have:=j1 I.len c L
   obtain⟨L',h1,h2⟩:=qP gb m _ _ (step gb I L1) (by omega) (by omega)
   exact⟨L',by omega,h2⟩
theorem nG (fs:Fs):d4 fs<=fs.length:=List.countP_le_length
theorem Cu {b:List Pl} (gb:Good b):(tu b).length=b.length:=by
 obtain⟨L,_,I,_⟩:=qP gb b.length _ _ (zA gb) (by decide) (by have:=nG (oR b);simpa [oR] using this)
 exact I.len
theorem zB {b:List Pl} (gb:Good b) (i:Nat) (q:Pl) (e:b[i]?=some q):Ends (tu b) i q:=by
 obtain⟨L,_,I,f⟩:=qP gb b.length _ _ (zA gb) (by decide) (by have:=nG (oR b);simpa [oR] using this)
 exact Ct I f i q e
end Lv
namespace Bf
open L2 Lv
abbrev En:=Int×Option (Int×Nat)×List Nat
noncomputable def keys (es:List En):List Int:=es.map (·.1)
noncomputable def fj (b:List Pl) (k:Int):List Int:=match b[k.toNat]? with | some q=>fL q | none=>[]
noncomputable def fV (here:Int) (path:List Nat):Nat->List Int->List En->List En
 | _,[],es=>es
 | w,g::gs,es=>fV here path (w+1) gs (if g∈keys es then es else es++ [(g,some (here,w),path++ [w])])
noncomputable def BD (b:List Pl):Nat->Nat->List En->List En
 | 0,_,es=>es
 | m+1,t,es=>match es[t]? with | none=>es | some e=>BD b m (t+1) (fV e.1 e.2.2 0 (fj b e.1) es)
noncomputable def steps (b:List Pl) (start:Int):List En:=BD b (b.length+1) 0 [(start,none,[])]
structure Core (b:List Pl) (start:Int) (es:List En):Prop where
 nd:(keys es).Nodup
 lZ:∀e∈es,0<=e.1/\e.1<b.length
 hd:es[0]?=some (start,none,[])
 par:∀(i:Nat) e,es[i]?=some e->0<i->∃(j:Nat) (ej:En) (w:Nat),j<i/\es[j]?=some ej/\e.2.1=some (ej.1,w)/\(fj b ej.1)[w]?=some e.1/\e.2.2=ej.2.2++ [w]
 mono:∀(i j:Nat) ei ej,i<=j->es[i]?=some ei->es[j]?=some ej->ei.2.2.length<=ej.2.2.length
structure GZ (b:List Pl) (start:Int) (t:Nat) (e:En) (k:Nat) (es:List En):Prop extends Core b start es where
 at_:es[t]?=some e
 top:∀(i:Nat) ei,es[i]?=some ei->ei.2.2.length<=e.2.2.length+1
 old:∀(j:Nat) ej,j<t->es[j]?=some ej->∀g∈fj b ej.1,∃(i:Nat) (ei:En),es[i]?=some ei/\ei.1=g/\ei.2.2.length<=ej.2.2.length+1
 now:∀g∈(fj b e.1).take k,∃(i:Nat) (ei:En),es[i]?=some ei/\ei.1=g/\ei.2.2.length<=e.2.2.length+1
structure Inv (b:List Pl) (start:Int) (t:Nat) (es:List En):Prop extends Core b start es where
 top:∀(i:Nat) ei et,es[i]?=some ei->es[t]?=some et->ei.2.2.length<=et.2.2.length+1
 old:∀(j:Nat) ej,j<t->es[j]?=some ej->∀g∈fj b ej.1,∃(i:Nat) (ei:En),es[i]?=some ei/\ei.1=g/\ei.2.2.length<=ej.2.2.length+1
theorem eI {α:Type} {l:List α} {x y:α} {i:Nat} (h:(l++ [x])[i]?=some y):l[i]?=some y\/(i=l.length/\y=x):=by
 by_cases c:i<l.length
 ·rw[aaZ c] at h
  exact .inl h
 ·rw[aaY (by omega)] at h
  have:i - l.length=0:=by
   by_cases q:i - l.length=0
   ·exact q
   ·rw[aaq (by simp;omega)] at h;cases h
  rw[this] at h
  simp at h
  exact .inr ⟨by omega,h.symm⟩
theorem up {α:Type} {l:List α} {x y:α} {i:Nat} (h:l[i]?=some y):(l++ [x])[i]?=some y:=by
 rw[aaZ (List.getElem?_eq_some_iff.mp h).1]
 exact h
theorem one {b:List Pl} (gb:Good b) {start:Int} {t:Nat} {e:En} {k:Nat} {es:List En} {g:Int} (M:GZ b start t e k es) (hg:(fj b e.1)[k]?=some g):
  GZ b start t e (k+1) (if g∈keys es then es else es++ [(g,some (e.1,k),e.2.2++ [k])]):=by
 have tk:(fj b e.1).take (k+1)=(fj b e.1).take k++ [g]:=by rw[aaE,hg];rfl
 by_cases c:g∈keys es
 ·rw[if_pos c]
  refine {M with now:=λx hx=>?_}
  rw[tk] at hx
  rcases List.mem_append.mp hx with hx | hx
  ·exact M.now x hx
  ·have:x=g:=by simpa using hx
   subst this
   obtain⟨ei,KU,rfl⟩:=List.mem_map.mp c
   obtain⟨i,hi⟩:=aaw KU
   exact⟨i,ei,hi,rfl,M.top i ei hi⟩
 ·rw[if_neg c]
  have rg:0<=g/\g<b.length:=by
   unfold fj at hg
   cases hb:b[e.1.toNat]? with
   | none=>rw[hb] at hg;simp at hg
   | some q=>
    rw[hb] at hg
    exact gb.lZ q (aae hb) g (aae hg)
  have tl:t<es.length:=(List.getElem?_eq_some_iff.mp M.at_).1
  refine⟨⟨?_,λx hx=>?_,up M.hd,λi x hx i0=>?_,λi j ei ej LX hi hj=>?_⟩,up M.at_,λi ei hi=>?_,λj ej hj Fc x hx=>?_,λx hx=>?_⟩
  ·unfold keys at *
   rw[aax]
   refine List.nodup_append.mpr ⟨M.nd,by simp,λa ha b' WW=>?_⟩
   have:b'=g:=by simpa using WW
   subst this
   intro z
   exact c (z▸ha)
  ·rcases List.mem_append.mp hx with hx | hx
   ·exact M.lZ x hx
   ·have:x=(g,some (e.1,k),e.2.2++ [k]):=by simpa using hx
    subst this
    exact rg
  ·rcases eI hx with hx | ⟨rfl,rfl⟩
   ·obtain⟨j,ej,w,a1,a2,a3⟩:=M.par i x hx i0
    exact⟨j,ej,w,a1,up a2,a3⟩
   ·exact⟨t,e,k,tl,up M.at_,rfl,hg,rfl⟩
  ·rcases eI hi with hi | ⟨rfl,rfl⟩
   ·rcases eI hj with hj | ⟨rfl,rfl⟩
    ·exact M.mono i j ei ej LX hi hj
    ·have:=M.top i ei hi
     simpa using this
   ·rcases eI hj with hj | ⟨rfl,rfl⟩
    ·have:=(List.getElem?_eq_some_iff.mp hj).1
     omega
    ·exact aah _
  ·rcases eI hi with hi | ⟨rfl,rfl⟩
   ·exact M.top i ei hi
   ·simp
  ·rcases eI Fc with Fc | ⟨rfl,rfl⟩
   ·obtain⟨i,ei,a1,a2⟩:=M.old j ej hj Fc x hx
    exact⟨i,ei,up a1,a2⟩
   ·omega
  ·rw[tk] at hx
   rcases List.mem_append.mp hx with hx | hx
   ·obtain⟨i,ei,a1,a2⟩:=M.now x hx
    exact⟨i,ei,up a1,a2⟩
   ·have:x=g:=by simpa using hx
    subst this
    exact⟨es.length,(x,some (e.1,k),e.2.2++ [k]),by rw[aaY (aah _)];simp,rfl,by simp⟩
theorem nH {b:List Pl} (gb:Good b) {start:Int} {t:Nat} {e:En}:∀(gs:List Int) (k:Nat) (es:List En),GZ b start t e k es->(∀(i:Nat) g,gs[i]?=some g->(fj b e.1)[k+i]?=some g)->GZ b start t e (k+gs.length) (fV e.1 e.2.2 k gs es)
 | [],k,es,M,_=>M
 | g::gs,k,es,M,h=>by
  have:=nH gb gs (k+1) _ (one gb M (h 0 g rfl)) λi x hx=>by
   have:=h (i+1) x (by simpa using hx)
   rwa [show k+1+i=k+ (i+1) by omega]
  rw[aar,show k+ (gs.length+1)=k+1+gs.length by omega]
  exact this
theorem zC {b:List Pl} {start:Int} {t:Nat} {e:En} {es:List En} (I:Inv b start t es) (h:es[t]?=some e):GZ b start t e 0 es:=
 {I with at_:=h,top:=λi ei hi=>I.top i ei e hi h,now:=λg hg=>by simp at hg}
theorem Fd {b:List Pl} {start:Int} {t:Nat} {e:En} {es:List En} (M:GZ b start t e (fj b e.1).length es):Inv b start (t+1) es:=by
 refine {M with top:=λi ei et hi ht=>?_,old:=λj ej hj Fc g hg=>?_}
 ·have h1:=M.top i ei hi
  have h2:=M.mono t (t+1) e et (by omega) M.at_ ht
  omega
 ·by_cases c:j<t
  ·exact M.old j ej c Fc g hg
  ·have:j=t:=by omega
   subst this
   rw[M.at_] at Fc
   cases Fc
   exact M.now g (by rw[aaJ (aah _)];exact hg)
theorem turn {b:List Pl} (gb:Good b) {start:Int} {t:Nat} {e:En} {es:List En} (I:Inv b start t es) (h:es[t]?=some e):Inv b start (t+1) (fV e.1 e.2.2 0 (fj b e.1) es):=by
 have:=nH gb (fj b e.1) 0 es (zC I h) λi g hg=>by rw[aa1];exact hg
 rw[aa1] at this
 exact Fd this
theorem zA {b:List Pl} {start:Int} (h0:0<=start) (h1:start<b.length):Inv b start 0 [(start,none,[])]:=by
 refine⟨⟨by simp [keys],λe he=>?_,rfl,λi e he hi=>?_,λi j ei ej _ hi hj=>?_⟩,λi ei et hi ht=>?_,λj ej hj=>by omega⟩
 ·have:e=(start,none,[]):=by simpa using he
  subst this
  exact⟨h0,h1⟩
 ·rw[aaq (by simp;omega)] at he
  cases he
 ·cases i with
  | zero=>simp at hi;subst hi;simp
  | succ i=>rw[aaq (by simp)] at hi;cases hi
 ·cases i with
  | zero=>simp at hi;subst hi;simp
  | succ i=>rw[aaq (by simp)] at hi;cases hi
theorem wj:∀(n:Nat) (l:List Nat),l.Nodup->(∀x∈l,x<n)->l.length<=n
 | 0,l,_,h=>by
  cases l with
  | nil=>exact aah _
  | cons x r=>have:=h x aaj;omega
 | n+1,l,nd,h=>by
  have:=wj n (l.erase n) (nd.erase n) λx hx=>by
   have h1:=(nd.mem_erase_iff).mp hx
   have:=h x h1.2
   have:=h1.1
   omega
  have:=List.length_erase (a:=n) (l:=l)
  split at this <;>omega
theorem Fe {n:Nat} {l:List Int} (nd:l.Nodup) (h:∀x∈l,0<=x/\x< (n:Int)):l.length<=n:=by
 have:=wj n (l.map Int.toNat) (by
  unfold List.Nodup at *
  rw[List.pairwise_map]
  refine nd.imp_of_mem ?_
  intro a b ha hb UB z
  have:=h a ha
  have:=h b hb
  omega) λx hx=>by
   obtain⟨y,hy,rfl⟩:=List.mem_map.mp hx
   have:=h y hy
   omega
 rwa [aac] at this
theorem Core.sS {b:List Pl} {start:Int} {es:List En} (C:Core b start es):es.length<=b.length:=by
 have:=Fe (n:=b.length) C.nd λx hx=>by
  obtain⟨e,he,rfl⟩:=List.mem_map.mp hx
  exact C.lZ e he
 unfold keys at this
 rwa [aac] at this
theorem wm {b:List Pl} (gb:Good b) {start:Int}:∀(m t:Nat) (es:List En),Inv b start t es->b.length<m+t->∃t',es.length<=(BD b m t es).length/\(BD b m t es).length<=t'/\Inv b start t' (BD b m t es)
 | 0,t,es,I,h=>⟨t,aah _,by have:=I.toCore.sS;show es.length<=t;omega,I⟩
 | m+1,t,es,I,h=>by
  unfold BD
  cases ht:es[t]? with
  | none=>exact⟨t,aah _,List.getElem?_eq_none_iff.mp ht,I⟩
  | some e=>
   obtain⟨t',a1,a2,a3⟩:=wm gb m (t+1) _ (turn gb I ht) (by omega)
   refine⟨t',aap ?_ a1,a2,a3⟩
   have:∀(gs:List Int) (k:Nat) (es:List En),es.length<=(fV e.1 e.2.2 k gs es).length:=by
    intro gs
    induction gs with
    | nil=>intro k es;exact aah _
    | cons g gs ih=>
     intro k es
     unfold fV
     refine aap ?_ (ih (k+1) _)
     split
     ·exact aah _
     ·simp
   exact this _ _ _
theorem fy {b:List Pl} (gb:Good b) {start:Int} (h0:0<=start) (h1:start<b.length):Core b start (steps b start)/\
  ∀(j:Nat) ej,(steps b start)[j]?=some ej->∀g∈fj b ej.1,∃(i:Nat) (ei:En),(steps b start)[i]?=some ei/\ei.1=g/\ei.2.2.length<=ej.2.2.length+1:=by
 obtain⟨t,_,a2,I⟩:=wm gb (b.length+1) 0 _ (zA (b:=b) h0 h1) (by omega)
 refine⟨I.toCore,λj ej hj=>I.old j ej ?_ hj⟩
 have:=(List.getElem?_eq_some_iff.mp hj).1
 show j<t
 unfold steps at *
 omega
noncomputable def go (b:List Pl):Int->List Nat->Option Int
 | k,[]=>some k
 | k,w::ws=>match (fj b k)[w]? with | some g=>go b g ws | none=>none
theorem wo {b:List Pl}:∀{ws:List Nat} {k g:Int} {w:Nat},go b k (ws++ [w])=(match go b k ws with | some x=>(fj b x)[w]? | none=>none)
 | [],k,g,w=>by
  show(match (fj b k)[w]? with | some g=>go b g [] | none=>none)=(fj b k)[w]?
  cases (fj b k)[w]? <;>rfl
 | v::ws,k,g,w=>by
  show(match (fj b k)[v]? with | some g=>go b g (ws++ [w]) | none=>none)=(match (match (fj b k)[v]? with | some g=>go b g ws | none=>none) with | some x=>(fj b x)[w]? | none=>none)
  cases (fj b k)[v]? with
  | none=>rfl
  | some x=>exact wo (g:=g)
theorem Cv {b:List Pl} {start:Int} {es:List En} (C:Core b start es):∀(i:Nat) (e:En),es[i]?=some e->go b start e.2.2=some e.1:=by
 intro i
 induction i using Nat.strongRecOn with
 | ind i ih=>
  intro e he
  by_cases c:i=0
  ·subst c
   rw[C.hd] at he
   cases he
   rfl
  ·obtain⟨j,ej,w,a1,a2,a3,a4,a5⟩:=C.par i e he (by omega)
   rw[a5,wo (g:=e.1),ih j a1 ej a2]
   exact a4
end Bf
namespace PySem
section
variable {prog : Program} {w : World} {A : Around} {E : Value -> Shared -> Prop} {s : Shared}
end
end PySem
namespace L2
open PySem PySem.Spec PyProof.Rows PySem.W
section
variable {X : Cx} {K : PySem.W.Frag}
noncomputable def tRev (K:PySem.W.Frag) (te:TE):TE:=λσ H Q=>te σ H λv H1=>∃p xs,v=.ref p/\bj K H1 p xs/\∀l,H1 l=none->Q (.ref l) (upd H1 l (.lst xs.reverse))
noncomputable def tD1 (tk tv:TE):TE:=λσ H Q=>∀d,H d=none->tk σ (upd H d (.dK [])) λx H1=>tv σ H1 λv H2=>∃k,x=kV k/\H2 d=some (.dK [])/\Q (.ref d) (upd H2 d (.dK [(k,v)]))
theorem Io {ke ve:Expr} {tk tv:TE} {pos:Pos} (hk:PE X ke tk) (hv:PE X ve tv):PE X (.Dict [some ke] [ve] pos) (tD1 tk tv):=by
 intro pins s σ H Q I h
 refine wpAny_Dict_pairs (knd:=bX X.prog X.w) (pairs:=[(eval ke X.env,do let x <-eval ve X.env;standAt pos;pure x)]) rfl (by simp) (by simp) ?_
 have fr:=I.bT.fresh (a:=s.heap.objs.size) (aah _)
 have I1:Inv X pins σ (upd H s.heap.objs.size (.dK [])) {s with heap:=s.heap.push {cls:=.type "dict",data:=.dict #[]}}:=I.laid (t':=s.toks) (λ_ _ q=>Heap.get?_push_of_some _ q) (aah _) (sR s.heap I.Cb)
 unfold evalPairs
 refine wpAny_bind (cA (hk pins _ σ _ _ I1 (h _ fr)) λku s1 c6=>?_)
 obtain⟨x,H1,I2,rx,q1⟩:=c6
 refine wpAny_bind (wpAny_holding (wpAny_bind (cA (hv pins _ σ _ _ I2 q1) λvu s2 ⟨v,H2,I3,rv,k,ex,hd,q⟩=>wpAny_bind (wpAny_standAt (wpAny_pure ?_)))))
 subst ex
 obtain⟨z,lo,vs,kv,dd⟩:=DL I3.bT hd
 cases kv
 unfold evalPairs
 refine wpAny_bind (wpAny_holding (wpAny_pure (wpAny_pure ⟨[(k,vu)],⟨kF rx,rfl,trivial⟩,dd,λh' Cd hs=>?_⟩)))
 have Cd:h'.DictOf (bX X.prog X.w) s.heap.objs.size [(k,vu)]:=Cd
 have he:∃q,h'.get? s.heap.objs.size=some q:=let ⟨q,_,_,hq,_⟩:=Cd;⟨q,hq⟩
 exact⟨.ref s.heap.objs.size,_,qH I3 (by rw[hd];exact True.intro) hs he (y9 (kvs:=[(k,v)]) (by rw[sizeLine_eq];simp) lo (.cons ⟨rfl,rv⟩ .nil) Cd),rfl,q⟩
end
end L2
namespace KS
open PySem PySem.W PyProof.Rows
noncomputable def Bd {α:Type} (lt:Nat->Nat->Bool) (n:Nat) (post:α->Prop):KasT α->Prop
 | .ret a=>post a
 | .ask i j k=>i<n/\j<n/\Bd lt n post (k (lt i j))
theorem Bd.bind {α β:Type} {lt:Nat->Nat->Bool} {n:Nat} {post:β->Prop} {f:α->KasT β}:∀{t:KasT α},Bd lt n (λa=>Bd lt n post (f a)) t->Bd lt n post (t.bind f)
 | .ret _,h=>h
 | .ask _ _ _,⟨h1,h2,h3⟩=>⟨h1,h2,Bd.bind h3⟩
theorem Bd.mono {α:Type} {lt:Nat->Nat->Bool} {n:Nat} {p q:α->Prop} (UC:∀a,p a->q a):∀{t:KasT α},Bd lt n p t->Bd lt n q t
 | .ret _,h=>UC _ h
 | .ask _ _ _,⟨h1,h2,h3⟩=>⟨h1,h2,Bd.mono UC h3⟩
theorem Bd.wp {α:Type} {lt:Nat->Nat->Bool} {n:Nat} {post:α->Prop} {cmp:Nat->Nat->(Bool->Shared->Prop)->Shared->Prop} {Q:α->Shared->Prop} {s:Shared}
  (hc:∀i j C,i<n->j<n->C (lt i j) s->cmp i j C s) (hq:∀a,post a->Q a s):∀{t:KasT α},Bd lt n post t->t.kasWp cmp Q s
 | .ret _,h=>hq _ h
 | .ask i j k,⟨h1,h2,h3⟩=>hc i j _ h1 h2 (Bd.wp hc hq h3)
noncomputable def Pm (n:Nat) (p:Array Nat):Prop:=p.Perm (List.range n).toArray
theorem Pm.lt {n:Nat} {p:Array Nat} (h:Pm n p) (hn:0<n) (i:Nat):p.getD i 0<n:=by
 by_cases hi:i<p.size
 ·have:p.getD i 0=p[i]:=by simp [Array.getD,hi]
  rw[this]
  have hm:p[i]∈p:=Array.getElem_mem hi
  have:=(Array.Perm.mem_iff h).mp hm
  simpa using this
 ·have:p.getD i 0=0:=by simp [Array.getD,hi]
  omega
theorem Pm.rev {n:Nat} {p:Array Nat} (h:Pm n p) (i j:Nat):Pm n (kas_rev p i j):=(mirror_perm _ _ _ _).trans h
theorem Pm.WX {n:Nat} {p:Array Nat} (h:Pm n p) (i j:Nat):Pm n (bubble p i j):=(bubble_perm _ _ _).trans h
variable {lt : Nat -> Nat -> Bool} {n : Nat}
theorem vd {p:Array Nat} (h:Pm n p) (hn:0<n):∀f k,Bd lt n (λ_=>True) (kas_asc p f k)
 | 0,_=>trivial
 | f+1,k=>by
  refine⟨h.lt hn _,h.lt hn _,?_⟩
  dsimp only
  split
  ·trivial
  ·exact vd h hn f (k+1)
theorem mr (hn:0<n):∀f (p:Array Nat) k q,Pm n p->Bd lt n (λr=>Pm n r.1) (kas_desc f p k q)
 | 0,p,k,q,h=>h
 | f+1,p,k,q,h=>by
  refine⟨h.lt hn _,h.lt hn _,?_⟩
  dsimp only
  split
  ·split
   ·exact mr hn f _ _ _ (h.rev _ _)
   ·exact mr hn f _ _ _ h
  ·refine⟨h.lt hn _,h.lt hn _,?_⟩
   dsimp only
   split
   ·exact h
   ·exact mr hn f _ _ _ h
theorem tz (hn:0<n) {p:Array Nat} (h:Pm n p) (m r:Nat):Bd lt n (λr=>Pm n r.2) (kas_tail3 m r p):=
 Bd.bind ((vd (h.rev _ _) hn _ _).mono λ_ _=>h.rev _ _)
theorem kH (hn:0<n) {p:Array Nat} (h:Pm n p) (m r:Nat):Bd lt n (λr=>Pm n r.2) (kas_descPart m r p):=by
 refine Bd.bind ((mr hn _ _ _ _ h).mono λx hx=>?_)
 split
 ·exact tz hn (hx.rev _ _) _ _
 ·exact tz hn hx _ _
theorem zD (hn:0<n) {p:Array Nat} (h:Pm n p) (r:Nat):Bd lt n (λr=>Pm n r.2) (kas_count r p):=by
 refine Bd.bind ((vd h hn _ _).mono λm _=>?_)
 split
 ·exact h
 ·split
  ·refine⟨h.lt hn _,h.lt hn _,?_⟩
   dsimp only
   split
   ·exact h
   ·exact kH hn (h.rev _ _) _ _
  ·exact kH hn h _ _
theorem nI (hn:0<n) {p:Array Nat} (h:Pm n p) (k:Nat):∀f l r,Bd lt n (λ_=>True) (kas_place p k f l r)
 | 0,_,_=>trivial
 | f+1,l,r=>by
  unfold kas_place
  split
  ·trivial
  ·refine⟨h.lt hn _,h.lt hn _,?_⟩
   dsimp only
   split
   ·exact nI hn h k f _ _
   ·exact nI hn h k f _ _
theorem zE (hn:0<n):∀f (p:Array Nat) k,Pm n p->Bd lt n (Pm n) (kas_bin f p k)
 | 0,p,k,h=>h
 | f+1,p,k,h=>Bd.bind ((nI hn h k _ _ _).mono λl _=>zE hn f _ _ (h.WX _ _))
theorem Cw (hn:0<n):Bd lt n (Pm n) (kas_sort n):=by
 refine Bd.bind ((zD hn (Array.Perm.refl _) n).mono λr hr=>?_)
 split
 ·exact zE hn _ _ _ hr
 ·exact hr
section
variable {prog : Program} {w : World} {A : Around} {E : Value -> Shared -> Prop} {s : Shared} {vs : List Value} {κ : SortKind}
theorem kY {R:List Nat->Prop} {a:Addr} {m:Nat} {P:PySem.Fin->Shared->Prop} (ho:s.heap.get? a=some (seqObj "list" vs.toArray m)) (Ff:vs.length<64)
  (mW:2<=vs.length->∀h' Q',(∀b o,b≠a->s.heap.get? b=some o->h'.get? b=some o)->Q' κ {s with heap:=h'}->wpAny (model prog w) A (keyKind' vs.toArray) Q' (λ_ _=>False) {s with heap:=h'})
  (zF:∀i j h' C,i<vs.length->j<vs.length->(∀b o,b≠a->s.heap.get? b=some o->h'.get? b=some o)->C (lt i j) {s with heap:=h'}->kas_ask prog w A κ vs i j C {s with heap:=h'})
  (Mv:2<=vs.length->Bd lt vs.length (λp=>Pm vs.length p/\R p.toList) (kas_sort vs.length)) (h0:vs.length<2->R (List.range vs.length))
  (h:∀p:List Nat,p.Perm (List.range vs.length)->R p->P (.done (.ret .none)) {s with heap:=sortedHeap s.heap a vs (p.map λi=>vs.getD i Value.none).toArray}):
  wpAny (model prog w) A (Builtin.«list.sort» ⟨[.ref a],[]⟩) P E s:=by
 rw[list_sort_plain]
 have ha:a<s.heap.objs.size:=Heap.lt_size ho
 refine wpAny_bind (listItems_at ho rfl ?_)
 refine wpAny_bind (listUpdate_at ho rfl ?_ (by rw[aam,sizeLine_eq];omega) (aas _))
 obtain⟨e1,UD⟩:∃e1,(s.heap.update a (Obj.mapSeq λ_=>#[])).get? a=some (seqObj "list" #[] e1):=⟨_,get?_update_seq ho (λ_=>#[])⟩
 refine wpAny_bind (seqEpoch_at UD rfl ?_)
 refine wpAny_bind (wpAny_newTuple ?_ (by show vs.length<=_;rw[sizeLine_eq];omega))
 refine wpAny_bind (wpAny_newList ?_ (aas _))
 refine wpAny_holding ?_
 have KW:(((s.heap.update a (Obj.mapSeq λ_=>#[])).push (seqObj "tuple" vs.toArray 0)).push (seqObj "list" #[] 0)).get? a=some (seqObj "list" #[] e1):=by
  rw[Heap.get?_push_ne _ _ _ (by rw[size_push',Heap.size_update];exact aan (abp ha)),Heap.get?_push_ne _ _ _ (by rw[Heap.size_update];exact aan ha)]
  exact UD
 have keep:∀b o,b≠a->s.heap.get? b=some o->(((s.heap.update a (Obj.mapSeq λ_=>#[])).push (seqObj "tuple" vs.toArray 0)).push (seqObj "list" #[] 0)).get? b=some o:=λb o hb q=>
  Heap.get?_push_of_some _ (Heap.get?_push_of_some _ ((Heap.get?_update_other _ _ (Ne.symm hb)).trans q))
 show wpAny (model prog w) A _ P E {s with heap:=((s.heap.update a (Obj.mapSeq λ_=>#[])).push (seqObj "tuple" vs.toArray 0)).push (seqObj "list" #[] 0)}
 dsimp only
 have hsz:vs.toArray.size=vs.length:=by simp
 have gd:∀(l:List Value),(List.range l.length).map (λi=>l.getD i Value.none)=l:=λl=>by
  apply aaN
  intro i
  rw[aag]
  by_cases hi:i<l.length
  ·rw[aa2 hi,aad hi]
   simp [hi]
  ·rw[aaq (by rw[aaA];omega),aaq (by omega)]
   rfl
 by_cases h2:vs.toArray.size<2
 ·rw[if_pos h2,if_pos h2]
  refine wpAny_bind (wpAny_pure ?_)
  rw[StateT.run_pure]
  refine wpAny_bind (wpAny_pure ?_)
  dsimp only
  refine wpAny_bind (seqEpoch_at KW rfl ?_)
  refine wpAny_bind (listUpdate_at KW rfl ?_ (hsz2:=by rw[Array.size_map];show(pairsOf vs).size<=_;rw[pairsOf_size,sizeLine_eq];omega))
  simp only[bne_self_eq_false,Bool.false_eq_true,if_false]
  have e:(vs.toArray.zip vs.toArray).map (fun(x:Keyed)=>x.2)=((List.range vs.length).map λi=>vs.getD i Value.none).toArray:=by
   rw[gd]
   apply Array.toList_inj.mp
   rw[Array.toList_map]
   simp [List.map_snd_zip]
  refine wpAny_pure ?_
  have:=h (List.range vs.length) (List.Perm.refl _) (h0 (by omega))
  rw[<-e] at this
  exact this
 ·have uz:2<=vs.length:=by omega
  rw[if_neg h2,if_neg h2]
  refine wpAny_bind (wpAny_mono (mW uz _ (λκ' s'=>κ'=κ/\s'={s with heap:=((s.heap.update a (Obj.mapSeq λ_=>#[])).push (seqObj "tuple" vs.toArray 0)).push (seqObj "list" #[] 0)}) keep ⟨rfl,rfl⟩) ?_ λ_ _ x=>x.elim)
  rintro κ' s' ⟨rfl,rfl⟩
  refine wpAny_bind (wpAny_mono (kat_run (ks:=vs) (vs:=vs) (Q:=λBz s'=>s'={s with heap:=((s.heap.update a (Obj.mapSeq λ_=>#[])).push (seqObj "tuple" vs.toArray 0)).push (seqObj "list" #[] 0)}/\∃p:Array Nat,p.size=vs.length/\arrOf Bz=p.map (kas_item (vs.toArray.zip vs.toArray))/\failedOf Bz=none/\Pm vs.length p/\R p.toList)
   (G:=λp s'=>s'={s with heap:=((s.heap.update a (Obj.mapSeq λ_=>#[])).push (seqObj "tuple" vs.toArray 0)).push (seqObj "list" #[] 0)}/\Pm vs.length p/\R p.toList) rfl uz Ff (λp Bz s' a1 a2 a3 a4=>⟨a4.1,p,a1,a2,a3,a4.2⟩) ?_) ?_ λ_ _ e=>e)
  ·exact Bd.wp (lt:=lt) (n:=vs.length) (λi j C hi hj hC=>zF i j _ C hi hj keep hC) (λp hp=>⟨rfl,hp⟩) (Mv uz)
  rintro⟨⟨⟩,Bz⟩ s' ⟨rfl,p,hp,WY,hf,pm,hR⟩
  dsimp only
  have Cp:=kat_snds (ks:=vs) (vs:=vs) rfl WY
  rw[Cp]
  refine wpAny_bind (seqEpoch_at KW rfl ?_)
  refine wpAny_bind (listUpdate_at KW rfl ?_ (aas _) (by rw[aam,aac,abm,hp,sizeLine_eq];omega))
  rw[hf]
  simp only[bne_self_eq_false,Bool.false_eq_true,if_false]
  exact wpAny_pure (h p.toList (by have:=pm.toList;simpa using this) hR)
theorem qQ {R:List Nat->Prop} {l:Addr} {Q:Value->Shared->Prop} (hl:s.heap.IsList l vs.toArray) (Ff:vs.length<64)
  (mW:2<=vs.length->∀h' Q',(∀b o,s.heap.get? b=some o->h'.get? b=some o)->Q' κ {s with heap:=h'}->wpAny (model prog w) A.in1.in1 (keyKind' vs.toArray) Q' (λ_ _=>False) {s with heap:=h'})
  (zF:∀i j h' C,i<vs.length->j<vs.length->(∀b o,s.heap.get? b=some o->h'.get? b=some o)->C (lt i j) {s with heap:=h'}->kas_ask prog w A.in1.in1 κ vs i j C {s with heap:=h'})
  (Mv:2<=vs.length->Bd lt vs.length (λp=>Pm vs.length p/\R p.toList) (kas_sort vs.length)) (h0:vs.length<2->R (List.range vs.length))
  (h:∀p:List Nat,p.Perm (List.range vs.length)->R p->Q (.ref (s.heap.objs.size+1)) {s with heap:=sortedAll s.heap vs (p.map λi=>vs.getD i Value.none).toArray}):
  wpAny (model prog w) A (call (.builtin "sorted") [.ref l]) Q E s:=by
 refine Calls.call_function_entry kind_sorted plain_sorted entry_sorted (args_sorted1 _) ?_
 unfold Builtin.«sorted»
 refine wpAny_bind (m:=checkCount "sorted" 1 1 _) (wpAny_pure ?_)
 refine wpAny_bind (collect_list hl ?_ (by rw[sizeLine_eq];omega))
 refine wpAny_bind (wpAny_newList ?_ (by rw[sizeLine_eq];omega))
 have hsz:((s.heap.push (seqObj "list" #[] 0)).update s.heap.objs.size (Obj.mapSeq (·++vs.toArray))).objs.size=s.heap.objs.size+1:=by
  rw[Heap.size_update,size_push']
 have Dz:(((s.heap.push (seqObj "list" #[] 0)).update s.heap.objs.size (Obj.mapSeq (·++vs.toArray))).push (seqObj "list" vs.toArray 0)).get? (s.heap.objs.size+1)=some (seqObj "list" vs.toArray 0):=by
  rw[<-hsz];exact Heap.get?_push_size _ rfl
 have keep:∀b o,s.heap.get? b=some o->b≠s.heap.objs.size+1/\(((s.heap.push (seqObj "list" #[] 0)).update s.heap.objs.size (Obj.mapSeq (·++vs.toArray))).push (seqObj "list" vs.toArray 0)).get? b=some o:=λb o q=>by
  have fU:b<s.heap.objs.size:=Heap.lt_size q
  refine⟨aan (abp fU),?_⟩
  rw[Heap.get?_push_ne _ _ _ (by rw[hsz];exact aan (abp fU)),Heap.get?_update_ne _ _ _ _ (aan fU),Heap.get?_push_ne _ _ _ (aan fU)]
  exact q
 show wpAny _ _ _ _ _ {s with heap:=((s.heap.push (seqObj "list" #[] 0)).update s.heap.objs.size (Obj.mapSeq (·++vs.toArray))).push (seqObj "list" vs.toArray 0)}
 rw[hsz]
 refine wpAny_bind (wpAny_holding (wpAny_call_entry slot_list_sort ⟨_,Dz,rfl⟩ entry_list_sort (kY (lt:=lt) (κ:=κ) Dz Ff (λh2 h' Q' hk hq=>mW h2 h' Q' (λb o q=>hk b o (keep b o q).1 (keep b o q).2) hq)
  (λi j h' C hi hj hk hC=>zF i j h' C hi hj (λb o q=>hk b o (keep b o q).1 (keep b o q).2) hC) Mv h0 λp hp hR=>⟨_,rfl,?_⟩) (args_list_sort _)))
 exact wpAny_pure ⟨_,rfl,h p hp hR⟩
theorem tD {l:Addr} {Q:Value->Shared->Prop} (hl:s.heap.IsList l vs.toArray) (Ff:vs.length<64)
  (mW:2<=vs.length->∀h' Q',(∀b o,s.heap.get? b=some o->h'.get? b=some o)->Q' κ {s with heap:=h'}->wpAny (model prog w) A.in1.in1 (keyKind' vs.toArray) Q' (λ_ _=>False) {s with heap:=h'})
  (zF:∀i j h' C,i<vs.length->j<vs.length->(∀b o,s.heap.get? b=some o->h'.get? b=some o)->C (lt i j) {s with heap:=h'}->kas_ask prog w A.in1.in1 κ vs i j C {s with heap:=h'})
  (h:∀p:List Nat,p.Perm (List.range vs.length)->Q (.ref (s.heap.objs.size+1)) {s with heap:=sortedAll s.heap vs (p.map λi=>vs.getD i Value.none).toArray}):
  wpAny (model prog w) A (call (.builtin "sorted") [.ref l]) Q E s:=
 qQ (R:=λ_=>True) hl Ff mW zF (λh2=>(Cw (by omega)).mono λ_ hp=>⟨hp,trivial⟩) (λ_=>trivial) λp hp _=>h p hp
noncomputable def Mw (x y:Int×Int):Bool:=if x.1=y.1 then decide (x.2<y.2) else decide (x.1<y.1)
theorem Cy {x y:Addr} {ox oy:Obj} {a b c d:Int} {t1 t2 t3 t4:Tok} {n k:Nat} {C:Bool->Shared->Prop} (hx:s.heap.get? x=some ox) (dx:ox.data=.seq #[.int a t1,.int b t2] n) (hy:s.heap.get? y=some oy) (dy:oy.data=.seq #[.int c t3,.int d t4] k)
  (h:C (Mw (a,b) (c,d)) s):wpAny (model prog w) A (keyLt' (tuples' true) (.ref x) (.ref y)) C E s:=by
 refine kat_lt hx dx hy dy (kat_cons (wpAny_eqBool_int ?_))
 unfold Mw at h
 dsimp only at h
 by_cases e:a=c
 ·rw[if_pos e] at h
  subst e
  rw[show(a==a)=true by simp]
  refine kat_yes (kat_cons (wpAny_eqBool_int ?_))
  by_cases e2:b=d
  ·subst e2
   rw[show(b==b)=true by simp]
   refine kat_yes (kat_nil ?_)
   simpa using h
  ·rw[show(b==d)=false by simpa using e2]
   refine kat_no (kat_one _ _ ?_)
   exact CmpOf.ints_lt (P:=λi v=>∃t,v=Value.int (if i=0 then b else d) t) (λi=>if i=0 then b else d) (λi v h=>h) 0 1 _ _ s _ _ ⟨t2,rfl⟩ ⟨t4,rfl⟩ h
 ·rw[if_neg e] at h
  rw[show(a==c)=false by simpa using e]
  exact kat_no (oneLt_int h)
end
end KS
namespace L2
open PySem PySem.Spec PyProof.Rows PySem.W
section
variable {X : Cx} {K : PySem.W.Frag}
theorem yc {xs:List V} {us:List Value} (r:bu xs us) (p:List Nat) (hp:p.Perm (List.range us.length)):∃ys,ys.Perm xs/\bu ys (p.map λi=>us.getD i Value.none):=by
 have hl:=r.length
 have get:∀i,i<us.length->∃x u,xs[i]?=some x/\us[i]?=some u/\RelV x u:=by
  clear hp hl
  induction r with
  | nil=>intro i hi;simp at hi
  | cons r1 r2 ih=>
   intro i hi
   cases i with
   | zero=>exact⟨_,_,rfl,rfl,r1⟩
   | succ i=>
    obtain⟨x,u,a1,a2,a3⟩:=ih i (by simpa using hi)
    exact⟨x,u,by simpa using a1,by simpa using a2,a3⟩
 refine⟨p.map λi=>xs.getD i .cE,?_,?_⟩
 ·refine(hp.map _).trans ?_
  rw[<-hl]
  have:(List.range xs.length).map (λi=>xs.getD i V.cE)=xs:=by
   apply aaN
   intro i
   rw[aag]
   by_cases hi:i<xs.length
   ·rw[aa2 hi,aad hi]
    simp [hi]
   ·rw[aaq (by rw[aaA];omega),aaq (by omega)]
    rfl
  rw[this]
 ·have hb:∀i∈p,i<us.length:=λi hi=>List.mem_range.mp (hp.mem_iff.mp hi)
  clear hp
  induction p with
  | nil=>exact .nil
  | cons i p ih=>
   obtain⟨x,u,a1,a2,a3⟩:=get i (hb i aaj)
   refine .cons ?_ (ih λj hj=>hb j (aak _ hj))
   show RelV (xs.getD i V.cE) (us.getD i Value.none)
   rw[aaf,aaf,a1,a2]
   exact a3
noncomputable def zG (H:Hp) (xs:List V):Prop:=∀x∈xs,∃t a b,x=.ref t/\H t=some (.tup [.int a,.int b])
theorem oX:c9 X (.builtin "sorted") (λxs H Q=>∃p ys,xs=[.ref p]/\bj X.K H p ys/\ys.length<64/\zG H ys/\∀l zs,H l=none->zs.Perm ys->Q (.ref l) (upd H l (.lst zs))):=by
 intro pins s σ H xs us Q I r h
 obtain⟨p,ys,rfl,hq,hn,hP,q⟩:=h
 obtain⟨u,rfl,rx⟩:=vals1 r
 cases rx
 obtain⟨aU,rv,pl,hz⟩:=I.list hq
 have hl:=rv.length
 have each:∀v∈aU,∃t o a b t1 t2 n,v=.ref t/\s.heap.get? t=some o/\o.cls=.type "tuple"/\o.data=.seq #[.int a t1,.int b t2] n:=by
  clear hq hl q pl hz hn
  induction rv with
  | nil=>intro v hv;simp at hv
  | cons r1 r2 ih=>
   intro v hv
   rcases List.mem_cons.mp hv with rfl | hv
   ·obtain⟨t,a,b,rfl,ht⟩:=hP _ aaj
    cases r1
    obtain⟨is2,v2,tp,_⟩:=I.tuple (d7.of ht)
    obtain⟨o,ho,hc,n,hd⟩:=tp
    cases v2 with
    | cons q1 q2=>
     cases q2 with
     | cons q3 q4=>
      cases q4
      obtain⟨t1,rfl⟩:=q1
      obtain⟨t2,rfl⟩:=q3
      exact⟨t,o,a,b,t1,t2,n,rfl,ho,hc,by simpa using hd⟩
   ·exact ih (λx hx=>hP x (aak _ hx)) v hv
 have Ip:∀i:Nat,∃pr:Int×Int,∀v,aU[i]?=some v->∃t o t1 t2 n,v=.ref t/\s.heap.get? t=some o/\o.cls=.type "tuple"/\o.data=.seq #[.int pr.1 t1,.int pr.2 t2] n:=λi=>by
  cases hi:aU[i]? with
  | none=>exact⟨(0,0),λv hv=>by cases hv⟩
  | some v=>
   obtain⟨t,o,a,b,t1,t2,n,e1,e2,e3,e4⟩:=each v (aae hi)
   exact⟨(a,b),λv' hv=>by cases hv;exact⟨t,o,t1,t2,n,e1,e2,e3,e4⟩⟩
 obtain⟨f,hf⟩:=Classical.skolem.mp Ip
 refine KS.tD (lt:=λi j=>KS.Mw (f i) (f j)) (κ:=tuples' true) pl.isList (by omega) (λh2 h' Q' hk hq=>?_) (λi j h' C hi hj hk hC=>?_) λp hp=>?_
 ·have kR:∀(l:List Value),(∀v∈l,v∈aU)->∃fs,KatTups h' l fs/\fs.length=l.length/\∀v∈fs,∃a t,v=Value.int a t:=by
   intro l
   induction l with
   | nil=>intro _;exact⟨[],trivial,rfl,λv hv=>by simp at hv⟩
   | cons v l ih=>
    intro hm
    obtain⟨fs,k1,k2,k3⟩:=ih λx hx=>hm x (aak _ hx)
    obtain⟨t,o,a,b,t1,t2,n,rfl,e2,e3,e4⟩:=each v (hm v aaj)
    refine⟨.int a t1::fs,KatTups.cons (hk _ _ e2) e3 e4 rfl k1,by simp [k2],λx hx=>?_⟩
    rcases List.mem_cons.mp hx with rfl | hx
    ·exact⟨a,t1,rfl⟩
    ·exact k3 x hx
  obtain⟨fs,k1,k2,k3⟩:=kR aU λv hv=>hv
  exact kat_kind (T:=.type "int") (s:={s with heap:=h'}) k1 (by omega) (λv hv=>by obtain⟨a,t,rfl⟩:=k3 v hv;exact .now) (by decide) hq
 ·obtain⟨t,o,t1,t2,n,e1,e2,e3,e4⟩:=hf i _ (aad hi)
  obtain⟨t',o',t3,t4,n',yd,G1,e3',WZ⟩:=hf j _ (aad hj)
  unfold kas_ask
  rw[aaf,aaf,aad hi,aad hj,e1,yd]
  exact KS.Cy (s:={s with heap:=h'}) (hk _ _ e2) e4 (hk _ _ G1) WZ hC
 ·obtain⟨zs,pz,vz⟩:=yc rv p hp
  obtain⟨e,he⟩:=sortedAll_at s.heap aU (p.map λi=>aU.getD i Value.none).toArray
  have fr:=I.bT.fresh (a:=s.heap.objs.size+1) (Nat.le_succ _)
  refine⟨.ref (s.heap.objs.size+1),_,I.laid (t':=s.toks) (λ_ _=>sortedAll_old) (Nat.le_succ _) (o:=.lst zs) ⟨?_,_,e,vz,?_⟩,rfl,q _ _ fr pz⟩
  ·rw[pz.length_eq,sizeLine_eq];omega
  ·exact he
theorem nJ (hK:X.K=K:=by rfl):c9 X (.builtin "sorted") (λxs H Q=>∃p ys,xs=[.ref p]/\bj K H p ys/\ys.length<64/\zG H ys/\∀l zs,H l=none->zs.Perm ys->Q (.ref l) (upd H l (.lst zs))):=by subst hK;exact oX
end
end L2
namespace Lv
open L2
theorem Fg {fs:Fs} {k:Nat} {u:Int}:lk fs (k:Int)=some u↔fs[k]?=some (some u):=by
 rw[pX,aai]
noncomputable def nm (s:List Nat) (g:Int):Int:=((s.getD g.toNat 0:Nat):Int)
noncomputable def W3 (s:List Nat):Pl->Pl
 | .fin w=>.fin w
 | .cP w ws=>.cP w (ws.map λp=>(p.1,nm s p.2))
 | .bN w to=>.bN w (to.map (nm s))
noncomputable def turn (s:List Nat) (b:List Pl):List Pl:=(List.range b.length).map λj=>W3 s (b.getD (s.idxOf j) (.fin (0,1)))
section
variable {s : List Nat} {n : Nat} (p : s.Perm (List.range n))
include p
theorem zH:s.Nodup:=p.nodup_iff.mpr List.nodup_range
theorem zI {i i' j:Nat} (h:s[i]?=some j) (h':s[i']?=some j):i=i':=by
 have l1:=(List.getElem?_eq_some_iff.mp h).1
 exact(List.getElem?_inj l1 (zH p)).mp (h.trans h'.symm)
theorem qR {i j:Nat} (h:s[i]?=some j):s.idxOf j=i:=by
 have hm:j∈s:=aae h
 have hl:s.idxOf j<s.length:=List.idxOf_lt_length_iff.mpr hm
 have:s[s.idxOf j]?=some j:=by rw[aad hl,aa8]
 exact zI p this h
end
end Lv
namespace PySem
open Builtin Builtin.Str
section
variable {prog : Program} {w : World} {A : Around} {E : Value -> Shared -> Prop} {s : Shared} {x y : Str} {t u : Tok} {Q : Value -> Shared -> Prop}
end
end PySem
namespace L2
open PySem PySem.Spec PyProof.Rows PySem.W
section
variable {X : Cx} {K : PySem.W.Frag}
noncomputable def W4 (z:Str):It:=⟨λi _=>i<z.cps.size,λi H x H'=>H'=H/\∃c,z.cps[i]?=some c/\x=.str ⟨#[c]⟩,λi _=>z.cps.size<=i⟩
noncomputable def iStr (tl:TE):TI:=λσ H R=>tl σ H λx H1=>∃z,x=.str z/\z.cps.all (·<128)=true/\R (W4 z) H1
theorem tE {x:Str} {i:Int} {pos:Pos} (hg:Gl X x) (h:∃t,X.mg x=some (.int i t)) (hd:(x==("__debug__":Str))=false:=by decide):PE X (.Name x pos) (tC (.int i)):=by
 obtain⟨t,h⟩:=h
 exact BQ hg h ⟨t,rfl⟩ hd
end
end L2
namespace PySem
end PySem
namespace PySem
section
variable {M : Model} {A : Around} {E : Value -> Shared -> Prop} {s : Shared} {env : Env}
end
end PySem
namespace L2
open PySem PySem.Spec PyProof.Rows PySem.W
section
variable {M : Model} {A : Around} {E : Value -> Shared -> Prop} {s : Shared} {B : Heap} {l : List Env} {ad L : Addr} {cls a0 : Value}
end
section
variable {P : Program} {w : World} {K : PySem.W.Frag} {mg : Str -> Option Value} {base : Heap} {N : List Str} {qual : Str} {scope : Scope} {f : Addr} {cG : Value} {A : Around} {outer : List Env} {s0 : Shared} {H0 : Hp} {E : XK}
end
end L2
namespace L2
open PySem PySem.Spec PyProof.Rows PySem.W
section
variable {X : Cx}
noncomputable def Iq:V->List V->Hp->VK->Prop:=λx vs H Q=>∃l xs i y,x=.ref l/\vs=[.int i,y]/\H l=some (.lst xs)/\0<=i/\i<=(xs.length:Nat)/\xs.length<sizeLine/\Q .cE (upd H l (.lst (xs.take i.toNat++y::xs.drop i.toNat)))
theorem ye:HL X "list.insert" Iq:=by
 intro pins s σ H x vs v us Q I rx rv h
 obtain⟨l,xs,i,y,rfl,rfl,hH,h0,h1,hz,q⟩:=h
 cases rx
 obtain⟨u1,u2,rfl,⟨t,rfl⟩,ru⟩:=vals2 rv
 obtain⟨z,aU,n,r,hl,e⟩:=I.y4 hH
 have sl:=sizeLine_eq
 refine call_meets PySem.F.slot_list_insert ⟨_,e,rfl⟩ PySem.F.entry_list_insert (PySem.F.args_list_insert_3 _ _ _) (AutoSeq1.list_insert_list_int_val_1 l aU.toArray n i t u2 (by rw[fitsIndex_both (by omega) (by omega)];decide) (by rw[aam];omega)) ⟨e,?_⟩
 have k2:(if i<0 then (i+ (aU.toArray.size:Int)).toNat else min i.toNat aU.toArray.size)=i.toNat:=by
  rw[if_neg (by omega),aam]
  omega
 refine⟨.cE,_,I.HM (its':=aU.take i.toNat++u2::aU.drop i.toNat) hH e ?_ ?_ ?_,rfl,q⟩
 ·show(aU.toArray.extract 0 (if i<0 then (i+ (aU.toArray.size:Int)).toNat else min i.toNat aU.toArray.size)).push u2++aU.toArray.extract (if i<0 then (i+ (aU.toArray.size:Int)).toNat else min i.toNat aU.toArray.size)=_
  rw[k2]
  apply Array.toList_inj.mp
  simp [aaJ]
 ·exact(r.take _).append (.cons ru (r.drop _))
 ·simp
  omega
end
end L2
namespace L2
open PySem PySem.Spec PyProof.Rows
structure pY (P:Program) (w:World) (K:PySem.W.Frag) (mg:Str->Option Value) (base:Heap) (CX:jT) (k:Nat) (x:Str) (C:Addr) (ps:List Str) (sp:Sp):Prop where
 ex:∃f fd,Mk K C f/\d8 P w K mg base CX k f fd ps sp/\mg x=some (.ref C)/\Binds K fd ps []
section
variable {X : Cx}
theorem zJ {CX:jT} {k:Nat} {x:Str} {C:Addr} {ps:List Str} {sp:Sp} {E:XK} {e:Expr} {es:List Expr} {t:TA} {p pos:Pos} (M:pY X.prog X.w X.K X.mg X.base CX k x C ps sp) (hr:di (k+1) X.A) (hg:Gl X x) (hx:eE CX X E) (ha:PA X (e::es) t)
  (yX:(x==("__debug__":Str))=false:=by decide) (he:starEach (e::es) X.env=(false,eval e X.env)::starEach es X.env:=by rfl) (hpl:(backTo pos (starEach es X.env)).any (·.1)=false:=by rfl):
  PE X (.Call (.Name x p) (e::es) [] pos) (sJ C sp [] E t):=by
 obtain⟨f,fd,m,F,hm,hb⟩:=M.ex
 exact B4 m F hr hg hm hb .nil hx ha yX he hpl
end
structure Mx (K:PySem.W.Frag) (mg:Str->Option Value) (x qual:Str) (st:Stmt) (C:Addr):Prop where
 ex:∃f fd,u3 K "__init__" qual st f fd/\Mk K C f/\mg x=some (.ref C)
theorem Mx.d9 {P:Program} {w:World} {K:PySem.W.Frag} {mg:Str->Option Value} {base:Heap} {CX:jT} {x qual:Str} {st:Stmt} {C:Addr} {ps:List Str} {k:Nat} {sp:Sp} (D:Mx K mg x qual st C)
  (hb:∀(kV doc pm:Value) (an:Option Addr) (cG ct:Value) (us:List Value),us.length=ps.length->bindArgs (PySem.W.fnOf "__init__" qual (aM st) (aL st) (ae st) .none kV doc pm an cG ct) ⟨us,[]⟩=pure (ps.zip us))
  (h:∀f fd,u3 K "__init__" qual st f fd->d8 P w K mg base CX k f fd ps sp):pY P w K mg base CX k x C ps sp:=by
 obtain⟨f,fd,F,m,hm⟩:=D.ex
 exact⟨f,fd,m,h f fd F,hm,F.binds hb⟩
end L2
namespace L2
open PySem PySem.Spec PyProof.Rows
noncomputable instance G3:DecidableEq PyData:=λ_ _=>Classical.propDecidable _
mutual
noncomputable def gg:PyData->Bool
 | .int _=>true
 | .str x=>PyData.canLay0 (.str x)
 | .tuple xs=>j4 xs
 | _=>false
noncomputable def j4:List PyData->Bool
 | []=>true
 | x::xs=>gg x && j4 xs
end
mutual
theorem Cz:∀(d:PyData),gg d=true->d.canLay0=true
 | .none,h=>by simp [gg] at h
 | .bool _,h=>by simp [gg] at h
 | .int _,_=>by simp [PyData.canLay0]
 | .str x,h=>by rw[gg] at h;exact h
 | .list _,h=>by simp [gg] at h
 | .tuple xs,h=>by rw[gg] at h;rw[PyData.canLay0];exact tF xs h
 | .dict _,h=>by simp [gg] at h
theorem tF:∀(xs:List PyData),j4 xs=true->PyData.canLayAll0 xs=true
 | [],_=>by simp [PyData.canLayAll0]
 | x::xs,h=>by
  rw[j4,aaS] at h
  rw[PyData.canLayAll0,aaS]
  exact⟨Cz x h.1,tF xs h.2⟩
end
mutual
theorem Fh:∀(x y:PyData),gg x=true->gg y=true->PyData.eqv x y=decide (x=y)
 | .int i,y,_,hy=>by
  cases y with
  | int j=>
   rw[PyData.eqv]
   by_cases c:i=j
   ·subst c;simp
   ·rw[decide_eq_false (λe=>c (by injection e))]
    simp [c]
  | str _=>simp [PyData.eqv]
  | tuple _=>simp [PyData.eqv]
  | _=>simp [gg] at hy
 | .str a,y,_,hy=>by
  cases y with
  | str b=>
   rw[PyData.eqv]
   by_cases c:a=b
   ·subst c;simp
   ·rw[decide_eq_false (λe=>c (by injection e))]
    simp [c]
  | int _=>simp [PyData.eqv]
  | tuple _=>simp [PyData.eqv]
  | _=>simp [gg] at hy
 | .tuple xs,y,hx,hy=>by
  cases y with
  | tuple ys=>
   rw[gg] at hx hy
   rw[PyData.eqv,wq xs ys hx hy]
   by_cases c:xs=ys
   ·subst c;simp
   ·rw[decide_eq_false c,decide_eq_false (λe=>c (by injection e))]
  | int _=>simp [PyData.eqv]
  | str _=>simp [PyData.eqv]
  | _=>simp [gg] at hy
 | .none,_,h,_=>by simp [gg] at h
 | .bool _,_,h,_=>by simp [gg] at h
 | .list _,_,h,_=>by simp [gg] at h
 | .dict _,_,h,_=>by simp [gg] at h
theorem wq:∀(xs ys:List PyData),j4 xs=true->j4 ys=true->PyData.eqvAll xs ys=decide (xs=ys)
 | [],[],_,_=>by simp [PyData.eqvAll]
 | [],_::_,_,_=>by simp [PyData.eqvAll]
 | _::_,[],_,_=>by simp [PyData.eqvAll]
 | x::xs,y::ys,hx,hy=>by
  rw[j4,aaS] at hx hy
  rw[PyData.eqvAll,Fh x y hx.1 hy.1,wq xs ys hx.2 hy.2]
  by_cases c:x=y
  ·subst c
   by_cases d:xs=ys
   ·subst d;simp
   ·rw[decide_eq_false d,decide_eq_false (λe=>d (List.cons.inj e).2)];simp
  ·rw[decide_eq_false c,decide_eq_false (λe=>c (List.cons.inj e).1)];simp
end
mutual
theorem vf {h h':Heap} {d:Addr} {o:Obj} {es ep} (ho:h.get? d=some o) (hd:o.data=.dict es ep) (hs:Heap.SameBut d h h'):∀(x:PyData) (v:Value) (as:List Addr),gg x=true->Reads h v x as->Reads h' v x as
 | .int _,_,_,_,r=>by cases r;exact .int _ _
 | .str _,_,_,_,r=>by cases r;exact .str _ _
 | .tuple xs,_,_,hx,r=>by
  rw[gg] at hx
  cases r with
  | @tuple a o' vs n _ _ e c q t=>
   have ne:a≠d:=λz=>by
    subst z
    rw[ho] at e
    cases e
    rw[hd] at q
    cases q
   exact .tuple ((hs.2 a ne).trans e) c q (kI ho hd hs xs _ _ hx t)
 | .none,_,_,h,_=>by simp [gg] at h
 | .bool _,_,_,h,_=>by simp [gg] at h
 | .list _,_,_,h,_=>by simp [gg] at h
 | .dict _,_,_,h,_=>by simp [gg] at h
theorem kI {h h':Heap} {d:Addr} {o:Obj} {es ep} (ho:h.get? d=some o) (hd:o.data=.dict es ep) (hs:Heap.SameBut d h h'):∀(xs:List PyData) (vs:List Value) (as:List Addr),j4 xs=true->ReadsAll h vs xs as->ReadsAll h' vs xs as
 | [],_,_,_,r=>by cases r;exact .nil
 | x::xs,_,_,hx,r=>by
  rw[j4,aaS] at hx
  cases r with
  | cons r1 r2=>exact .cons (vf ho hd hs x _ _ hx.1 r1) (kI ho hd hs xs _ _ hx.2 r2)
end
mutual
noncomputable def wt (w:World):PyData->Int
 | .int i=>Ej w (.inl i)
 | .str x=>Ej w (.inr x)
 | .tuple xs=>reduceHash (Builtin.Tuple.tupleHashOf (eU w xs))
 | _=>0
noncomputable def eU (w:World):List PyData->List Int
 | []=>[]
 | x::xs=>wt w x::eU w xs
end
mutual
noncomputable def KY:PyData->Nat
 | .tuple xs=>nK xs+1
 | _=>1
noncomputable def nK:List PyData->Nat
 | []=>0
 | x::xs=>KY x+nK xs
end
section
variable {prog : Program} {w : World}
noncomputable def PH (prog:Program) (w:World) (m:Nat) (h:Heap) (d:PyData) (v:Value):Prop:=∀(A:Around) (E:Value->Shared->Prop) (s:Shared) (Q:Int->Shared->Prop),s.heap=h->A.units+m<cLine->
 Q (wt w d) {s with toks:=s.toks+KY d}->wpAny (model prog w) A (pyHash v) Q E s
inductive DT (prog:Program) (w:World) (m:Nat) (h:Heap):List PyData->List Value->Prop
 | nil:DT prog w m h [] []
 | cons {d v ds vs}:PH prog w m h d v->DT prog w m h ds vs->DT prog w m h (d::ds) (v::vs)
theorem yf (xs ys:List PyData):eU w (xs++ys)=eU w xs++eU w ys:=by
 induction xs with
 | nil=>simp [eU]
 | cons x xs ih=>simp [eU,ih]
theorem zK (xs ys:List PyData):nK (xs++ys)=nK xs+nK ys:=by
 induction xs with
 | nil=>simp [nK]
 | cons x xs ih=>simp [nK,ih,Nat.add_assoc]
theorem zL {m:Nat} {h:Heap} {ds:List PyData} {a:Addr} {o:Obj} {items n} (ho:h.get? a=some o) (hc:o.cls=.type "tuple") (hd:o.data=.seq items n) (hi:DT prog w m h ds items.toList):PH prog w (m+1) h (.tuple ds) (.ref a):=by
 intro A E s Q hh hu hq
 subst hh
 have hT:s.TypeIs (.ref a) "tuple":=⟨o,ho,hc⟩
 have W5:A.units<cLine:=by omega
 unfold pyHash
 first | unfold pyHashByItsType | skip
 first | refine wpAny_bind (wpAny_cRoomFor_or (.inr W5) ?_) | skip
 refine wpAny_bind (wpAny_specialOf hT F.slot_tuple_hash.lookup ?_)
 show wpAny _ _ (if (some (Value.builtin "tuple.__hash__")==some Value.none)=true then _ else _) Q E s
 rw[if_neg (by rw[beq_builtin_none];exact aaz)]
 refine wpAny_bind (wpAny_specialOf hT F.slot_tuple_hash.lookup ?_)
 show wpAny _ _ (callSpecialIfBoundUnlessNone? (.ref a) "__hash__" _ >>=_) Q E s
 refine wpAny_bind (wpAny_callSpecialIfBoundUnlessNone?_slot hT F.slot_tuple_hash (wpAny_call_entry F.slot_tuple_hash hT F.entry_tuple_hash ?_ (F.args_tuple_hash_1 _)))
 show wpAny _ _ (Builtin.Tuple.tupleItemsOf (.ref a) >>=_) _ _ s
 refine wpAny_bind (wpAny_tupleItemsOf ho hd ?_)
 refine wpAny_bind ?_
 rw[<-Array.forIn_toList]
 refine wpAny_forIn_list _
  (λrest (b:Array Int) s'=>∃done left,ds=done++left/\DT prog w m s.heap left rest/\b.toList=eU w done/\s'={s with toks:=s.toks+nK done})
  _ ?_ ?_ _ _ ⟨[],ds,rfl,hi,rfl,rfl⟩
 ·rintro x rest b s' ⟨done,left,rfl,hl,hb,rfl⟩
  cases hl with
  | @cons k _ dm _ h1 qS=>
   refine wpAny_bind (h1 _ _ _ _ rfl (by show A.units+1+m<cLine;omega) ?_)
   have e1:(b.push (wt w k)).toList=eU w (done++ [k]):=by rw[yf];simp [hb,eU]
   have e2:s.toks+nK done+KY k=s.toks+nK (done++ [k]):=by rw[zK];simp [nK,Nat.add_assoc]
   first
    | exact wpAny_pure ⟨done++ [k],dm,by simp,qS,e1,by rw[<-e2]⟩
    | exact wpAny_bind (wpAny_pure (wpAny_pure ⟨done++ [k],dm,by simp,qS,e1,by rw[<-e2]⟩))
 ·rintro b s' ⟨done,left,rfl,hl,hb,rfl⟩
  cases hl
  rw[aa6] at hq
  show wpAny _ _ (retInt (Builtin.Tuple.tupleHashOf b.toList)) _ _ _
  rw[hb]
  refine wpAny_ret_mkInt ?_
  show wpAny _ _ (if (decide (-(2:Int)^63<=Builtin.Tuple.tupleHashOf (eU w done)) && decide (Builtin.Tuple.tupleHashOf (eU w done)<2^63))=true then _ else _) Q E _
  rw[wt,KY] at hq
  unfold reduceHash at hq
  by_cases hr:(decide (-(2:Int)^63<=Builtin.Tuple.tupleHashOf (eU w done)) && decide (Builtin.Tuple.tupleHashOf (eU w done)<2^63))=true
  ·rw[if_pos hr]
   rw[if_pos hr] at hq
   exact wpAny_pure (by simpa [Nat.add_assoc] using hq)
  ·rw[if_neg hr]
   rw[if_neg hr] at hq
   exact wpAny_bind (wpAny_rule (wpAny_pure (by simpa [Nat.add_assoc] using hq)))
mutual
theorem Fi {h:Heap}:∀(d:PyData) (v:Value) (as:List Addr),gg d=true->Reads h v d as->PH prog w d.depth h d v
 | .int i,_,_,_,r=>by
  cases r with
  | int _ t=>
   intro A E s Q _ _ hq
   exact(bX prog w).pyHash (k:=.inl i) (kF (k:=.inl i) ⟨t,rfl⟩) hq
 | .str x,_,_,_,r=>by
  cases r with
  | str _ t=>
   intro A E s Q _ _ hq
   exact(bX prog w).pyHash (k:=.inr x) (kF (k:=.inr x) ⟨t,rfl⟩) hq
 | .tuple xs,_,_,hx,r=>by
  rw[gg] at hx
  cases r with
  | tuple e c q t=>exact zL e c q (wu xs _ _ hx t)
 | .none,_,_,h,_=>by simp [gg] at h
 | .bool _,_,_,h,_=>by simp [gg] at h
 | .list _,_,_,h,_=>by simp [gg] at h
 | .dict _,_,_,h,_=>by simp [gg] at h
theorem wu {h:Heap}:∀(ds:List PyData) (vs:List Value) (as:List Addr),j4 ds=true->ReadsAll h vs ds as->DT prog w (PyData.depthAll ds) h ds vs
 | [],_,_,_,r=>by cases r;exact .nil
 | x::xs,_,_,hx,r=>by
  rw[j4,aaS] at hx
  cases r with
  | cons r1 r2=>
   have p1:=Fi x _ _ hx.1 r1
   have p2:=wu xs _ _ hx.2 r2
   have up:∀{m m':Nat} {ds:List PyData} {vs:List Value},m<=m'->DT prog w m h ds vs->DT prog w m' h ds vs:=λl q=>by
    induction q with
    | nil=>exact .nil
    | cons p _ ih=>exact .cons (λA E s Q e u=>p A E s Q e (by omega)) ih
   refine .cons (λA E s Q e u=>p1 A E s Q e ?_) (up ?_ p2)
   ·rw[PyData.depthAll] at u
    omega
   ·rw[PyData.depthAll]
    omega
end
theorem tG {h:Heap} {k:Nat} {a:Addr} {o:Obj} {items n} (ho:h.get? a=some o) (hc:o.cls=.type "tuple") (hd:o.data=.seq items n) (hi:∀v∈items.toList,∀(A:Around) (E:Value->Shared->Prop) (s:Shared) (Q:Bool->Shared->Prop),s.heap=h->Q true s->wpAny (model prog w) A (eqIsQuiet k v) Q E s)
  (A:Around) (E:Value->Shared->Prop) (s:Shared) (Q:Bool->Shared->Prop) (hh:s.heap=h) (hq:Q true s):wpAny (model prog w) A (eqIsQuiet (k+1) (.ref a)) Q E s:=by
 subst hh
 have hT:s.TypeIs (.ref a) "tuple":=⟨o,ho,hc⟩
 unfold eqIsQuiet
 refine wpAny_bind (wpAny_specialOf hT F.slot_tuple_eq.lookup ?_)
 show wpAny _ _ (isInstance (.ref a) (.type "tuple") >>=_) _ _ s
 refine wpAny_bind (wpAny_isInstance hT isSubtype_tuple_tuple ?_)
 simp only[Bool.not_true,Bool.false_eq_true,if_false]
 refine wpAny_bind (wpAny_seqItems ho hd ?_)
 refine wpAny_bind ?_
 show wpAny _ _ (forIn items _ _) _ _ s
 rw[<-Array.forIn_toList]
 refine wpAny_forIn_list _ (λrest r s'=>r.1=none/\s'=s/\∀v∈rest,v∈items.toList) _ ?_ ?_ _ _ ⟨rfl,rfl,λ_ h=>h⟩
 ·rintro v rest r s' ⟨hr,rfl,xY⟩
  refine wpAny_bind (hi v (xY v aaj) _ _ _ _ rfl ?_)
  simp only[Bool.not_true,Bool.false_eq_true,if_false]
  exact wpAny_pure ⟨rfl,rfl,λu W6=>xY u (aak _ W6)⟩
 ·rintro⟨r1,r2⟩ s' ⟨hr,rfl,_⟩
  simp only at hr
  subst hr
  exact wpAny_pure hq
mutual
theorem yg {h:Heap}:∀(d:PyData) (v:Value) (as:List Addr) (k:Nat),gg d=true->d.depth<=k->Reads h v d as->∀(A:Around) (E:Value->Shared->Prop) (s:Shared) (Q:Bool->Shared->Prop),s.heap=h->Q true s->wpAny (model prog w) A (eqIsQuiet k v) Q E s
 | .int _,_,_,_,_,_,r=>by
  cases r
  intro A E s Q _ hq
  rw[eqIsQuiet_byValue _ rfl]
  exact wpAny_pure hq
 | .str _,_,_,_,_,_,r=>by
  cases r
  intro A E s Q _ hq
  rw[eqIsQuiet_byValue _ rfl]
  exact wpAny_pure hq
 | .tuple xs,_,_,k,hx,hk,r=>by
  rw[gg] at hx
  rw[PyData.depth] at hk
  cases k with
  | zero=>omega
  | succ k=>
   cases r with
   | tuple e c q t=>exact tG e c q (nM xs _ _ k hx (by omega) t)
 | .none,_,_,_,h,_,_=>by simp [gg] at h
 | .bool _,_,_,_,h,_,_=>by simp [gg] at h
 | .list _,_,_,_,h,_,_=>by simp [gg] at h
 | .dict _,_,_,_,h,_,_=>by simp [gg] at h
theorem nM {h:Heap}:∀(ds:List PyData) (vs:List Value) (as:List Addr) (k:Nat),j4 ds=true->PyData.depthAll ds<=k->ReadsAll h vs ds as->∀v∈vs,∀(A:Around) (E:Value->Shared->Prop) (s:Shared) (Q:Bool->Shared->Prop),s.heap=h->Q true s->wpAny (model prog w) A (eqIsQuiet k v) Q E s
 | [],_,_,_,_,_,r=>by
  cases r
  intro v hv
  simp at hv
 | x::xs,_,_,k,hx,hk,r=>by
  rw[j4,aaS] at hx
  rw[PyData.depthAll] at hk
  cases r with
  | cons r1 r2=>
   intro v hv
   rcases List.mem_cons.mp hv with rfl | hv
   ·exact yg x _ _ k hx.1 (by omega) r1
   ·exact nM xs _ _ k hx.2 (by omega) r2 v hv
end
end
end L2
namespace L2
open PySem PySem.Spec PyProof.Rows
mutual
noncomputable def toP:Dat->PyData
 | .cE=>.none
 | .bl b=>.bool b
 | .int i=>.int i
 | .str x=>.str x
 | .tup l=>.tuple (toPL l)
 | .lst l=>.list (toPL l)
noncomputable def toPL:List Dat->List PyData
 | []=>[]
 | d::ds=>toP d::toPL ds
end
section
variable {P : Program} {w : World} {H : Hp} {h : Heap}
mutual
theorem nN (ok:gz P w H h):∀(d:Dat) (v:V) (u:Value),Rep H d v->RelV v u->∃as,Reads h u (toP d) as
 | .cE,v,u,r,q=>by
  rw[Rep] at r
  subst r
  cases (show u=Value.none from q)
  exact⟨_,.none⟩
 | .bl b,v,u,r,q=>by
  rw[Rep] at r
  subst r
  cases (show u=Value.bool b from q)
  exact⟨_,.bool b⟩
 | .int i,v,u,r,q=>by
  rw[Rep] at r
  subst r
  obtain⟨t,rfl⟩:=(show ∃t,u=Value.int i t from q)
  exact⟨_,.int i t⟩
 | .str x,v,u,r,q=>by
  rw[Rep] at r
  subst r
  obtain⟨t,rfl⟩:=(show ∃t,u=Value.str x t from q)
  exact⟨_,.str x t⟩
 | .tup l,v,u,r,q=>by
  rw[Rep] at r
  obtain⟨p,vs,rfl,hp,rl⟩:=r
  cases (show u=Value.ref p from q)
  obtain⟨_,aU,rv,o,h1,h2,n,h3⟩:=(show cK P w H h p (.tup vs) from ok p _ hp)
  obtain⟨as,ra⟩:=j5 ok l vs aU rl rv
  exact⟨as,.tuple h1 h2 h3 (by simpa using ra)⟩
 | .lst l,v,u,r,q=>by
  rw[Rep] at r
  obtain⟨p,vs,rfl,hp,rl⟩:=r
  cases (show u=Value.ref p from q)
  obtain⟨_,aU,n,rv,h1⟩:=(show cK P w H h p (.lst vs) from ok p _ hp)
  obtain⟨as,ra⟩:=j5 ok l vs aU rl rv
  exact⟨p::as,.list h1 rfl rfl (by simpa using ra)⟩
theorem j5 (ok:gz P w H h):∀(ds:List Dat) (vs:List V) (us:List Value),bf H ds vs->bu vs us->∃as,ReadsAll h us (toPL ds) as
 | [],vs,us,r,q=>by
  rw[bf] at r
  subst r
  cases q
  exact⟨_,.nil⟩
 | d::ds,vs,us,r,q=>by
  rw[bf] at r
  obtain⟨v,rest,rfl,r1,r2⟩:=r
  cases q with
  | cons q1 q2=>
   obtain⟨a1,h1⟩:=nN ok d v _ r1 q1
   obtain⟨a2,h2⟩:=j5 ok ds rest _ r2 q2
   exact⟨_,.cons h1 h2⟩
end
end
abbrev Rows:=List (Dat×Addr×Int)
abbrev RwN:Rows->List (PyData×Addr×Value)->Prop:=Paired λp q=>toP p.1=q.1/\p.2.1=q.2.1/\∃t,q.2.2=Value.int p.2.2 t
section
variable {P : Program} {w : World} {H : Hp} {h : Heap} {a : Addr}
end
section
variable {X : Cx} {P : Program} {w : World} {o i e value : Expr} {pos pos' kT : Pos} {td ty tv : TE}
end
end L2
namespace KS
open PySem PySem.W PyProof.Rows
section
variable {prog : Program} {w : World} {A : Around} {E : Value -> Shared -> Prop} {s : Shared}
end
end KS
namespace L2
open PySem PySem.Spec PyProof.Rows PySem.W
section
variable {X : Cx} {K : PySem.W.Frag}
noncomputable def Fj (K:PySem.W.Frag):V->List V->Hp->VK->Prop:=λx vs H Q=>∃l ns k,x=.ref l/\vs=[.int k]/\bj K H l (List.map V.int ns)/\k∈ns/\ns.length<=1000/\Q (.int (ns.idxOf k:Nat)) H
theorem yh:GW X "list.index" (Fj X.K):=by
 intro pins s σ H x vs v us Q I rx rv h
 obtain⟨l,ns,k,rfl,rfl,hq,hk,hn,q⟩:=h
 cases rx
 obtain⟨u,rfl,ru⟩:=vals1 rv
 obtain⟨t,rfl⟩:=ru
 obtain⟨aU,r,pl,hz⟩:=I.list hq
 have A1:=intsAre_of r
 have fU:=aa3 hk
 have lI:=A1.length
 obtain⟨⟨c1,d1,d2,sl⟩,ho,e1,m,e2⟩:=pl.isList
 cases e1
 cases e2
 have hit:=isInt_at k A1 (ns.idxOf k) (by omega) fU
 refine call_meets PySem.F.slot_list_index ⟨_,ho,rfl⟩ PySem.F.entry_list_index (PySem.F.args_list_index_2 _ _) (PySem.SeqAt.list_indexAt l aU.toArray m d1 sl (.int k t) (isInt k) (ns.idxOf k) (by rw[aam];omega) (by omega) (hit.trans (by simp)) (λj hj hl=>?_)) ⟨ho,λy hy=>?_,⟨.int _,H,I.tok _,⟨_,rfl⟩,q⟩⟩
 ·rw[aam] at hj
  exact(isInt_at k A1 j hj (by omega)).trans (ne_of_lt_idxOf hl _)
 ·exact(eq_isInt k t A1 y (List.mem_toArray.mp hy)).at _ _
theorem vg (hK:X.K=K:=by rfl):GW X "list.index" (Fj K):=by subst hK;exact yh
end
end L2
namespace L2
open PySem PySem.Spec PyProof.Rows PySem.W
section
variable {X : Cx} {K : PySem.W.Frag}
theorem pZ {P:Program} {w:World} {H:Hp} {h:Heap} (ok:gz P w H h) {ds:List Dat} {xs:List V} {us:List Value} (r:bf H ds xs) (v:bu xs us) {i:Nat} {u:Value} (e:us[i]?=some u):∃d as,ds[i]?=some d/\Reads h u (toP d) as:=by
 have l1:=r.length
 have l2:=v.length
 have hi:=(List.getElem?_eq_some_iff.mp e).1
 have ex:xs[i]?=some (xs[i]'(by omega)):=aad (by omega)
 obtain⟨u',e1,rv⟩:=v.get ex
 rw[e] at e1
 cases e1
 obtain⟨d,ed,rd⟩:=r.get ex
 obtain⟨as,ra⟩:=nN ok d _ _ rd rv
 exact⟨d,as,ed,ra⟩
end
end L2
namespace L2
open PySem PySem.Spec PyProof.Rows
structure oY (base:Heap) (mg:Str->Option Value) (tc tp:Addr):Prop where
 blt:base.BuiltinsAt mg tp
 code:PySem.W.CodeHd base tc tp
theorem law_callT {P:Program} {tp tc:Addr} {dsc:Array Value} {w:World} {K:PySem.W.Frag} {mg mb:Str->Option Value} {CX:jT} {k:Nat} {fa a:Addr} {fd:FuncData} {x:Str} {sp:Sp} {s₁:Shared} {vs:List Value} {ns:List Int}
  (KX:K.In s₁.heap) (DR:s₁.heap.Ns mainGlobals mg) (hb:s₁.heap.Ns builtinsNs mb) (My:∀x:Str,x≠"__name__"->mb x=bootBuiltins x) (Fk:s₁.heap.NoLimit) (hg:s₁.gens=#[])
  (ha:s₁.heap.get? a=some {cls:=.type "list",data:=.seq vs.toArray}) (hi:IntsAre vs ns) (hl:ns.length<=sizeLine) (hr:di k callerA)
  (kZ:s₁.heap.get? tp=some (PySem.W.tabObj #[])) (UE:PySem.W.CodeHd s₁.heap tc tp) (W7:K.lookup tp=none) (G4:s₁.heap.BuiltinsAt mg tp)
  (F:∀base:Heap,K.In base->base.Ns mainGlobals mg->oY base mg tc tp->d8 P w K mg base CX k fa fd [x] sp) (zM:∀(s:Shared) (u:Value),BindsTo s fd ⟨[u],[]⟩ [(x,u)])
  (BA:∀H:Hp,H tp=some (.rZ dsc)->bj K H a (ns.map V.int)->sp [.ref a] H (λv _=>v=.bl true) λ_ _ _=>False)
  (Mz:∀H e s',CX [] H s₁ (λ_ _ _=>False) e s'->False):
  codeAny (model P w) callerA (.call (.ref fa) ⟨[.ref a],[]⟩) (λr s'=>r=.ok (.ret (.bool true))/\OldK s₁.heap s'.heap/\s'.os=s₁.os/\AllBare s'.gens) s₁:=by
 have rv:=pO hi
 have MA:=hi.length
 have UG:tp≠a:=λz=>by rw[z,ha] at kZ;cases kZ
 have core:∀H:Hp,(∀b,b≠tp->H b=none\/∃o xs,H b=some (.uy o (.lst xs)))->H tp=some (.rZ dsc)->bj K H a (ns.map V.int)->gz P w H s₁.heap->(∀b,H b≠none->b=a\/b=tp)->(H a≠none->K.lookup a=none)->
   codeAny (model P w) callerA (.call (.ref fa) ⟨[.ref a],[]⟩) (λr s'=>r=.ok (.ret (.bool true))/\OldK s₁.heap s'.heap/\s'.os=s₁.os/\AllBare s'.gens) s₁:=by
  intro H hO hT hS bT hA hK
  have qT:∀{b:Addr} {o:Obj},s₁.heap.get? b=some o->H b=none->(mN s₁.heap H).get? b=some o:=λe n=>yJ e n
  have HF:∀{b:Addr} {o:Obj} {es:Array DictEntry} {ep:Nat},s₁.heap.get? b=some o->o.data=.dict es ep->H b=none:=λ{b o es ep} e d=>by
   cases q:H b with
   | none=>rfl
   | some u=>
    rcases hA b (by rw[q];simp) with e' | e'
    ·subst e'
     rw[ha] at e;cases e
     have d':Data.seq vs.toArray _=Data.dict es ep:=d
     cases d'
    ·subst e'
     rw[kZ] at e;cases e
     cases d
  have KZ:∀{b:Addr} {m:Str->Option Value},s₁.heap.Ns b m->(mN s₁.heap H).Ns b m:=λ{b m} ⟨o,es,ep,e,d,r⟩=>⟨o,es,ep,qT e (HF e d),d,r⟩
  have UH:K.In (mN s₁.heap H):=λb o e=>qT (KX b o e) (by
   cases q:H b with
   | none=>rfl
   | some u=>
    rcases hA b (by rw[q];simp) with e' | e'
    ·subst e'
     rw[hK (by rw[q];simp)] at e;cases e
    ·subst e'
     rw[W7] at e;cases e)
  have hM:Mod K mg (mN s₁.heap H):=⟨UH,KZ DR,⟨mb,KZ hb,My⟩,let ⟨mc,h1,h2⟩:=Fk;⟨mc,KZ h1,h2⟩⟩
  have e0:uS P w K mg (mN s₁.heap H) callerA [] s₁ H:=⟨rfl,hM,λb o e=>BN e,Nat.le_of_eq (xH _ _),trivial,λb hb=>absurd (show b∈([]:List Addr) from hb) (by simp),bT,.of_eq hg⟩
  have W8:oY (mN s₁.heap H) mg tc tp:=by
   have look:∀{b:Addr} {o:Obj},s₁.heap.get? b=some o->b≠tp->o.cls≠.type "list"->(mN s₁.heap H).get? b=some o:=λ{b o} e n c=>qT e (by
    cases q:H b with
    | none=>rfl
    | some u=>
     rcases hA b (by rw[q];simp) with e' | e'
     ·subst e'
      rw[ha] at e;cases e
      exact absurd rfl c
     ·exact absurd e' n)
   obtain⟨bm,o,b1,b2,b3,b4,b5,b6,b7⟩:=G4
   obtain⟨o',Ii,file,tf,flags,tg,W9,text,tt,c1,c2,c3⟩:=UE
   exact⟨⟨bm,o,b1,b2,b3,b4,look b5 b4 (λz=>by rw[b6] at z;injection z with z;exact absurd z (by decide)),b6,b7⟩,⟨o',Ii,file,tf,flags,tg,W9,text,tt,look c1 c3.2.2.2.2.2.2.2 (λz=>by rw[c2] at z;injection z with z;exact absurd z (by decide)),c2,c3⟩⟩
  refine codeAny_mono ((F _ UH (KZ DR) W8).run callerA [] s₁ H ⟨[.ref a],[]⟩ [.ref a] [.ref a] _ _ hr e0 (zM s₁ (.ref a)) (.cons rfl .nil) (BA H hT hS)) λr s' h=>?_
  cases r with
  | error e=>exact(Mz H e s' h).elim
  | ok fl=>
   cases fl with
   | next=>exact False.elim h
   | brk=>exact False.elim h
   | cont=>exact False.elim h
   | ret u=>
    obtain⟨v,H',os,bare,un,Ir,r',q⟩:=h
    have q':v=.bl true:=q
    subst q'
    obtain rfl:u=Value.bool true:=r'
    have fin:∀b o,b≠tp->s₁.heap.get? b=some o->s'.heap.get? b=some o:=λb o hb e=>by
     cases q:H b with
     | none=>exact un.keep b o e q (by intro z;exact absurd (show b∈([]:List Addr) from z) (by simp)) (by simp)
     | some u=>
      rcases hO b hb with z | ⟨ob,xs,z⟩
      ·rw[q] at z;cases z
      ·have z2:=un.mK b ob _ z
       obtain⟨e1,_⟩:=bT b _ z
       obtain⟨e2,_⟩:=Ir b _ z2
       rw[e] at e1;cases e1
       exact e2
    obtain⟨more,hm⟩:=un.mL tp _ hT
    obtain⟨mo,e7,_⟩:=Ir tp _ hm
    have Iu:s'.heap.get? tp=some {cls:=.none,data:=.fields (#[]++mo)}:=by rw[Array.empty_append];exact e7
    refine⟨rfl,⟨λb o e=>?_,λb o e=>?_⟩,os,bare⟩
    ·by_cases hb:b=tp
     ·subst hb
      rw[kZ] at e
      cases e
      exact .inr (.inl ⟨(UE.tab kZ).isCodeTable,rfl,_,mo,rfl,Iu⟩)
     ·exact .inl (fin b o hb e)
    ·by_cases hb:b=tp
     ·subst hb
      exact⟨_,Iu⟩
     ·exact⟨o,fin b o hb e⟩
 cases hk:K.lookup a with
 | some o=>
  have e:=KX a o hk
  rw[ha] at e
  cases e
  refine core (λb=>if b=tp then some (.rZ dsc) else none) (λb hb=>.inl (if_neg hb)) (if_pos rfl) (.inr ⟨_,vs.toArray,_,hk,rfl,rfl,rfl,by rw[aam,MA];exact hl,by simpa using rv⟩) (λb u z=>?_) (λb z=>?_) λz=>absurd (if_neg (Ne.symm UG)) z
  ·by_cases hb:b=tp
   ·have z':=(if_pos hb).symm.trans z
    cases z'
    subst hb
    exact⟨#[],kZ,.inl rfl⟩
   ·have z':=(if_neg hb).symm.trans z
    cases z'
  ·by_cases hb:b=tp
   ·exact .inr hb
   ·exact absurd (if_neg hb) z
 | none=>
  refine core (λb=>if b=tp then some (.rZ dsc) else if b=a then some (.uy {cls:=.type "list",data:=.seq vs.toArray} (.lst (ns.map V.int))) else none) (λb hb=>?_) (if_pos rfl) (.inl (.inr ⟨{cls:=.type "list",data:=.seq vs.toArray},(if_neg (Ne.symm UG)).trans (if_pos rfl)⟩)) (λb u z=>?_) (λb z=>?_) λ_=>hk
  ·by_cases CA:b=a
   ·exact .inr ⟨_,_,(if_neg hb).trans (if_pos CA)⟩
   ·exact .inl ((if_neg hb).trans (if_neg CA))
  ·by_cases hb:b=tp
   ·have z':=(if_pos hb).symm.trans z
    cases z'
    subst hb
    exact⟨#[],kZ,.inl rfl⟩
   ·by_cases CA:b=a
    ·have z':=((if_neg hb).trans (if_pos CA)).symm.trans z
     cases z'
     subst CA
     exact⟨ha,by rw[aac];exact hl,vs,_,rv,ha⟩
    ·have z':=((if_neg hb).trans (if_neg CA)).symm.trans z
     cases z'
  ·by_cases hb:b=tp
   ·exact .inr hb
   ·by_cases CA:b=a
    ·exact .inl CA
    ·exact absurd ((if_neg hb).trans (if_neg CA)) z
theorem zN {tp tc:Addr} {dsc:Array Value} {l:PySem.W.OpenLaw} {n k:Nat} {q:Program} {loose:List Str} {XP:(Str->Option Value)->Heap->Prop} {YP:World->Heap->Prop} {d:DefRec} {K:Params->PySem.W.Frag} {CX:World->jT} {sp:World->Sp} {x:Str}
  (hn:l.most=some n) (KN:n<=sizeLine) (HU:d.params.defaults=[]) (hr:di k callerA)
  (hY:∀(w:World) (h:Heap),YP w h->(K w.params).In h)
  (MB:∀(w:World) (h:Heap),YP w h->h.get? tp=some (PySem.W.tabObj #[])/\PySem.W.CodeHd h tc tp/\(K w.params).lookup tp=none)
  (F:∀(w:World) (mg:Str->Option Value) (fa:Addr) (h:Heap),(K w.params).In h->h.Ns mainGlobals mg->mg d.name=some (.ref fa)->
   ∃fd:FuncData,(∀(s:Shared) (u:Value),BindsTo s fd ⟨[u],[]⟩ [(x,u)])/\
    ∀base:Heap,(K w.params).In base->base.Ns mainGlobals mg->oY base mg tc tp->d8 l.prog w (K w.params) mg base (CX w) k fa fd [x] (sp w))
  (BA:∀(w:World) (H:Hp) (a:Addr) (ns:List Int),ns.length<=n->H tp=some (.rZ dsc)->bj (K w.params) H a (ns.map V.int)->sp w [.ref a] H (λv _=>v=.bl true) λ_ _ _=>False)
  (Mz:∀(w:World) (H:Hp) (s:Shared) (e:Value) (s':Shared),CX w [] H s (λ_ _ _=>False) e s'->False):
  PySem.W.WalkO q loose XP YP l.row.toRowW d [] (λf vs=>PySem.call f vs):=by
 refine BB.sT hn HU λw s₀ s₁ mg mb fa o pm cd doc a vs ns G Y ho hd sE HV ER hints hlen hg=>?_
 have KX:=hY w _ Y
 obtain⟨fd,hb,hF⟩:=F w mg fa _ KX G.T.g HV
 obtain⟨t1,t2,t3⟩:=MB w _ Y
 have G4:s₁.heap.BuiltinsAt mg tp:=by
  obtain⟨bm,ob,b1,b2,b3,b4,b5,b6⟩:=G.T.bmain
  refine⟨bm,ob,b1,b2,λq=>?_,λq=>?_,b3,b4,b5,b6⟩
  ·obtain⟨o,es,ep,e,hd,_⟩:=G.T.g
   rw[q,e] at b3;cases b3;rw[hd] at b6;cases b6
  ·rw[q,t1] at b3;cases b3;cases b4
 exact law_callT KX G.T.g G.T.b G.T.builtins G.T.nolimit hg ER hints (aap hlen KN) hr t1 t2 t3 G4 hF hb (λH hO hS=>BA w H a ns hlen hO hS) λH e s'=>Mz w H s₁ e s'
end L2
namespace L2
open PySem PySem.Spec PyProof.Rows
structure nO (P:Program) (w:World) (K:PySem.W.Frag) (mg:Str->Option Value) (base:Heap) (CX:jT) (k:Nat) (C:Addr) (m:Str) (ps:List Str) (sp:Sp):Prop where
 ex:∃f fd,yV K C m f/\d8 P w K mg base CX k f fd ps sp/\Binds K fd ps []
section
variable {X : Cx} {CX : jT} {k : Nat} {C : Addr} {m : Str} {ps : List Str} {sp : Sp} {E : XK} {e o : Expr} {es : List Expr} {ta : TE} {t : TA} {pos apos : Pos} {pl : Sem Bool}
theorem Iv (M:nO X.prog X.w X.K X.mg X.base CX k C m ps sp) (c:xR X.K C) (he:PE X o ta) (hr:di k X.A) (hx:eE CX X E) (ha:PA X (e::es) t)
  (hst:starEach (e::es) X.env=(false,eval e X.env)::starEach es X.env:=by rfl) (hpl:(backTo pos (starEach es X.env)).any (·.1)=false:=by rfl)
  (ht:eval (.Call (.Attribute o m apos) (e::es) [] pos) X.env=(do
   let ov <-eval o X.env
   standAt apos.atName
   let (f,first) <-holding [ov] (getMethod ov m pl)
   callWith pos f first (backTo pos (starEach (e::es) X.env)) (backToKw pos (keywordEach [] X.env))):=by rfl):
  PE X (.Call (.Attribute o m apos) (e::es) [] pos) (pF C m sp [] E ta t):=by
 obtain⟨f,fd,hm,F,hb⟩:=M.ex
 exact B3 he c hm F hr hb .nil hx ha hst hpl ht
theorem Fl (M:nO X.prog X.w X.K X.mg X.base CX k C m ps sp) (c:xR X.K C) (he:PE X o ta) (hr:di k X.A) (hx:eE CX X E)
  (ht:eval (.Call (.Attribute o m apos) [] [] pos) X.env=(do
   let ov <-eval o X.env
   standAt apos.atName
   let (f,first) <-holding [ov] (getMethod ov m pl)
   callWith pos f first (backTo pos (starEach [] X.env)) (backToKw pos (keywordEach [] X.env))):=by rfl):
  PE X (.Call (.Attribute o m apos) [] [] pos) (pF C m sp [] E ta tNil):=by
 obtain⟨f,fd,hm,F,hb⟩:=M.ex
 exact yY he c hm F hr hb .nil hx ht
end
structure K1 (K:PySem.W.Frag) (C:Addr) (m qual:Str) (st:Stmt):Prop where
 ex:∃f fd,u3 K m qual st f fd/\yV K C m f
theorem K1.d9 {P:Program} {w:World} {K:PySem.W.Frag} {mg:Str->Option Value} {base:Heap} {CX:jT} {m qual:Str} {st:Stmt} {C:Addr} {ps:List Str} {k:Nat} {sp:Sp} (D:K1 K C m qual st)
  (hb:∀(kV doc pm:Value) (an:Option Addr) (cG ct:Value) (us:List Value),us.length=ps.length->bindArgs (PySem.W.fnOf m qual (aM st) (aL st) (ae st) .none kV doc pm an cG ct) ⟨us,[]⟩=pure (ps.zip us))
  (h:∀f fd,u3 K m qual st f fd->d8 P w K mg base CX k f fd ps sp):nO P w K mg base CX k C m ps sp:=by
 obtain⟨f,fd,F,hm⟩:=D.ex
 exact⟨f,fd,hm,h f fd F,F.binds hb⟩
end L2
namespace L2
open PySem PySem.Spec PyProof.Rows PySem.W
abbrev ij (mp:Pos):Arguments:={posonlyargs:=[],args:=[{arg:="members",annotation:=none,pos:=mp}],vararg:=none,kwonlyargs:=[],kw_defaults:=[],kwarg:=none,defaults:=[]}
abbrev fW (p2 p3 p4 p5 p6 p7 p8:Pos):Expr:=.Call (.Name "len" p2) [.Subscript (.Name "reach" p3) (.Subscript (.Name "members" p4) (.Constant (.int 0) 0 p5) p6) p7] [] p8
abbrev df:Scope:={kind:=.function,names:=[(Str.ofString "members",.local),(Str.ofString "reach",.free),(Str.ofString "len",.globalImplicit)],isGenerator:=false,isCoroutine:=false,more:=[]}
section
variable {prog : Program} {w : World} {A : Around} {s : Shared}
theorem zO {mg mb:Str->Option Value} {qual:Str} {mp p2 p3 p4 p5 p6 p7 p8:Pos} {CB:List (Str×Addr)} {pm DU:Value} {f c1 cell ra b d:Addr} {rs ms:Array Value} {i:Int} {t0:Tok} {kvs:List (Key×Value)} {Q:Value->Shared->Prop} {E:Value->Shared->Prop}
  (hf:s.heap.get? f=some (kla_obj "<lambda>" qual (ij mp) (fW p2 p3 p4 p5 p6 p7 p8) df CB pm c1 DU)) (sE:s.heap.CodeRec (.ref c1) qual) (Iw:A.depth<recursionLimit) (Fk:s.heap.NoLimit)
  (hg:s.heap.Ns mainGlobals mg) (hlen:mg "len"=none) (hb:s.heap.Ns builtinsNs mb) (My:∀x:Str,x≠"__name__"->mb x=bootBuiltins x)
  (Cr:CB.lookup (Str.ofString "reach")=some cell) (pC:s.heap.IsCell cell (some (.ref ra))) (K2:s.heap.IsList ra rs) (Xa:s.heap.IsList b ms) (h0:ms[0]?=some (.int i t0)) (Xb:0<=i) (hi:i<2^63)
  (MC:rs[i.toNat]?=some (.ref d)) (hd:(d==sysModules)=false) (dd:s.heap.DictOf (bX prog w) d kvs) (EN:(kvs.length:Int)<2^63)
  (h:∀h' tk t,(∀x o,s.heap.get? x=some o->h'.get? x=some o)->Q (.int kvs.length t) {s with heap:=h',toks:=tk}):
  wpAny (model prog w) A (call (.ref f) [.ref b]) Q E s:=by
 refine wpAny_call (kla_callFunE Iw hf rfl rfl rfl rfl sE ?_)
 have zM:bindArgs (kla_fn "<lambda>" qual (ij mp) (fW p2 p3 p4 p5 p6 p7 p8) df CB pm (.ref c1) DU) ⟨[.ref b],[]⟩=pure [(Str.ofString "members",.ref b)]:=rfl
 rw[zM]
 have Xc:∀x∈df.names,x.2≠NameKind.cell:=by decide +kernel
 have E2:∀x∈[(Str.ofString "members",Value.ref b)],df.names.lookup x.1=some NameKind.local:=λx hx=>by rw[List.mem_singleton.mp hx];rfl
 refine wpAny_pure (wpAny_newFunctionEnv Xc E2 (λh₁ DR UI=>⟨Fk.fresh _ UI,?_⟩) rfl)
 have hk:∀x o,s.heap.get? x=some o->h₁.get? x=some o:=λx o e=>UI.extBut x o (aan (Heap.lt_size e)) (Heap.get?_push_of_some _ e)
 show codeAny _ _ (.expr (fW p2 p3 p4 p5 p6 p7 p8) (envX qual df s.heap.objs.size f (.ref c1) CB)) _ _
 refine kla_codeExpr ?_
 refine wpAny_Call_Name_kw (Calls.Name_function_global rfl rfl (Calls.loadGlobal_builtin (hg.keeps hk) hlen (hb.keeps hk) ((My _ (by decide)).trans (show bootBuiltins "len"=some (.builtin "len") from rfl)) ?_) (by decide))
 refine PyProof.Rows.callWith_builtin1 ?_
 refine Calls.spliced_cons (Subscript_ (wpAny_Name (wpAny_loadName_free rfl rfl Cr (pC.keeps hk) ?_)))
 refine Subscript_ (wpAny_Name (wpAny_loadName_local rfl rfl DR (v:=.ref b) rfl (wpAny_Constant_int ?_)))
 obtain⟨om,m1,m2,m3⟩:=Xa
 obtain⟨orr,r1,r2,r3⟩:=K2
 refine item_listR (s:={s with heap:=h₁,toks:=_}) (l:=b) (items:=ms) ⟨om,hk _ _ m1,m2,m3⟩ (by decide) (by decide) (x:=.int i t0) h0 ?_
 refine item_listR (s:={s with heap:=h₁,toks:=_}) (l:=ra) (items:=rs) ⟨orr,hk _ _ r1,r2,r3⟩ Xb hi (x:=.ref d) MC (Calls.spliced_nil ?_)
 obtain⟨o,es,ep,e1,e2⟩:=dd
 exact call_len_dict hd (show(Shared.mk _ _ _ _ _).heap.DictOf (bX prog w) d kvs from⟨o,es,ep,hk _ _ e1,e2⟩) EN (h _ _ _ hk)
end
noncomputable def zP (tp:Addr) (dsc:Array Value) (i:Nat) (te:TE):TE:=λσ H Q=>te σ H λv H1=>∃(a:Addr) (bs:List Addr) (key:Addr->Int) (ra:Addr) (rs:List V),v=.ref a/\H1 a=some (.lst (List.map V.ref bs))/\bs.length<64/\σ[i]?=some (some (.ref ra))/\H1 ra=some (.lst rs)/\H1 tp=some (.rZ dsc)/\
 (∀b∈bs,∃j xs d kvs,H1 b=some (.lst (.int j::xs))/\0<=j/\j<1000000/\rs[j.toNat]?=some (.ref d)/\H1 d=some (.dK kvs)/\key b=(kvs.length:Int))/\
 ∀p cs H2,az H1 H2->H1 p=none->H2 p=some (.lst (List.map V.ref cs))->cs.Perm bs->cs.Pairwise (λb c=>key b<=key c)->Q (.ref p) H2
noncomputable def BE:Value->Addr
 | .ref a=>a
 | _=>0
theorem p9:∀{bs:List Addr} {aU:List Value},bu (bs.map V.ref) aU->aU=bs.map Value.ref
 | [],_,.nil=>rfl
 | _::bs,_,.cons r t=>by rw[p9 (bs:=bs) t,show _=Value.ref _ from r];rfl
section
variable {X : Cx}
theorem zQ {i k:Nat} {tc tp:Addr} {dsc:Array Value} {t0:Tok} {e:Expr} {te:TE} {p1 pos kp lp mp p2 p3 p4 p5 p6 p7 p8:Pos} (hg:Gl X "sorted") (hm:X.mg "sorted"=none) (hl:X.mg "len"=none) (hB:oY X.base X.mg tc tp)
  (DV:X.env.code=.ref tc) (hr:di k X.A) (Iy:dsc=#[rawInt lp.line,rawInt lp.col,.str (X.env.qual++"<lambda>") t0]) (he:PE X e te) (hN:X.N[i]?=some "reach":=by rfl) (hv:X.env.kindOf "reach"=some .cell:=by rfl) (n1:noStar e=true:=by rfl):
  PE X (.Call (.Name "sorted" p1) [e] [⟨some "key",.Lambda (ij mp) (fW p2 p3 p4 p5 p6 p7 p8) df lp,kp⟩] pos) (zP tp dsc i te):=by
 intro pins s σ H Q I h
 refine wpAny_Call_Name_kw (iS I hg hm (u:=.builtin "sorted") rfl ?_ (by decide) (by decide))
 refine PyProof.Rows.callWith_kw (e:=e) (rest:=[]) ?_ (by rw[se n1];rfl) (by rw[se n1];rfl) rfl rfl
 rw[se n1]
 show wpAny _ _ (spliced [(false,eval e X.env)]) _ _ s
 refine Calls.spliced_cons (cA (he pins s σ H _ I h) λu s1 ⟨x,H1,I1,r1,q1⟩=>Calls.spliced_nil ?_)
 obtain⟨a,bs,key,ra,rs,rfl,ha,Ff,eσ,K2,kZ,Xd,q⟩:=q1
 cases r1
 obtain⟨cell,ec⟩:=I1.ok.has "reach" (.inl hv)
 obtain⟨cl,UJ,c1,c2,c3⟩:=fg (env:=X.env) (scope:=df) (λn hn=>by
  have:n="reach":=by
   simp only[List.mem_cons,Prod.mk.injEq,List.not_mem_nil,or_false] at hn
   rcases hn with ⟨_,z⟩ | ⟨z,_⟩ | ⟨_,z⟩
   ·cases z
   ·exact z
   ·cases z
  rw[this]
  exact⟨cell,ec⟩)
 have Cr:cl.lookup (Str.ofString "reach")=some cell:=by
  obtain⟨c,ee⟩:=c2 "reach" (.tail _ (.head _))
  have:=c1 _ _ ee
  rw[ec] at this
  cases this
  exact ee
 have mk:∀R:Value->Shared->Prop,(∀f c1 pm DU H2 s2,Inv X pins σ H2 s2->az H1 H2->s2.heap.get? f=some (kla_obj "<lambda>" (X.env.qual++"<lambda>") (ij mp) (fW p2 p3 p4 p5 p6 p7 p8) df cl pm c1 DU)->s2.heap.CodeRec (.ref c1) (X.env.qual++"<lambda>")->R (.ref f) s2)->
   wpAny (model X.prog X.w) X.A (makeFunction "<lambda>" (X.env.qual++"<lambda>") (ij mp) (.expr (fW p2 p3 p4 p5 p6 p7 p8)) df X.env [] [] [] lp lp.line) R X.xe s1:=by
  intro R hR
  obtain⟨mo,e1,e2⟩:=I1.bT tp _ kZ
  have MD:=I1.mod.glob.keeps I1.bk
  have hC:=hB.code.keeps I1.bk
  have UK:=hB.blt.keeps I1.bk
  rcases e2 with rfl | ⟨l,c,c',qn,t,f1,rfl,f3,f4⟩
  ·refine kla_makeFunction (mg:=X.mg) (c:=tc) (P:=tp) UJ I1.ok.glob MD DV hC e1 trivial rfl (λz=>?_) UK λc' DU h' tk hx DQ fU ME K3=>?_
   ·obtain⟨o,es,ep,ee,hd,_⟩:=MD
    rw[z,e1] at ee;cases ee;cases hd
   have K3:h'.get? tp=some (tabObj #[rawInt lp.line,rawInt lp.col,.ref c']):=K3
   have nc:H1 c'=none:=I1.bT.fresh DQ
   have ntc:tp≠c':=λz=>by rw[z,nc] at kZ;cases kZ
   have kk:∀b o,b≠tp->s1.heap.get? b=some o->(h'.push (kla_obj "<lambda>" (X.env.qual++"<lambda>") (ij mp) (fW p2 p3 p4 p5 p6 p7 p8) df cl ((X.mg "__name__").getD .none) c' DU)).get? b=some o:=λb o hb ee=>Heap.get?_push_of_some _ (hx b o hb ee)
   obtain⟨UL,oc,vs,t2,g1,g2,g3,g4⟩:=ME
   cases g1
   refine hR _ c' _ _ (upd H1 c' (.own tp)) _ (I1.un (t':=tk) ⟨λb o ee n _ _=>kk b o (λz=>by rw[z,kZ] at n;cases n) ee,λb o ee n _ _=>⟨o.slots,kk b o (λz=>by rw[z,kZ] at n;cases n) ee⟩,λb o ee n _=>?_,λb o ee _=>?_,λb xs ee=>?_,λb o u ee=>?_,λb ps ee=>⟨#[],?_⟩⟩ λb o ee=>?_) (λb o ee=>?_) (Heap.get?_push_size _ rfl) ⟨c',oc,vs,t2,rfl,Heap.get?_push_of_some _ g2,g3,g4⟩
   ·rw[aI (aan (aav (Heap.lt_size ee) DQ))];exact n
   ·by_cases hb:b=tp
    ·subst hb;exact⟨_,Heap.get?_push_of_some _ K3⟩
    ·exact⟨o,kk b o hb ee⟩
   ·rw[aI (bA ee nc)];exact ee
   ·rw[aI (bA ee nc)];exact ee
   ·rw[aI (bA ee nc),ee,Array.append_empty]
   ·by_cases hb:b=c'
    ·subst hb
     rw[ar] at ee
     cases ee
     exact⟨oc,Heap.get?_push_of_some _ g2⟩
    ·rw[aI hb] at ee
     by_cases UM:b=tp
     ·subst UM
      rw[kZ] at ee
      cases ee
      exact⟨_,Heap.get?_push_of_some _ K3,.inr ⟨_,_,c',_,_,Iy,rfl,ar,c',oc,vs,t2,rfl,Heap.get?_push_of_some _ g2,g3,g4⟩⟩
     ·refine(I1.bT b o ee).oS (λx u pE e3=>kk x u (λz=>?_) e3) (λx e3=>by rw[aI (bA e3 nc)];exact e3) λx xs e3=>by rw[aI (bA e3 nc)];exact e3
      rcases pE with pE | pE
      ·exact UM (pE.symm.trans z)
      ·rw[z,kZ] at pE;cases pE
   ·rw[aI (bA ee nc)];exact ee
  ·rw[Iy] at f1
   have f1:=congrArg Array.toList f1
   simp only[List.cons.injEq,and_true] at f1
   obtain⟨f1,f2,f5⟩:=f1
   injection f5 with f5 _
   subst f1 f2 f5
   have ht:TriplesOk [rawInt lp.line,rawInt lp.col,Value.ref c']:=by simp [TriplesOk,rawInt]
   have hf:codeAmong lp [rawInt lp.line,rawInt lp.col,Value.ref c']=some (.ref c'):=by simp [codeAmong,rawInt]
   refine kla_makeFunctionHit (mg:=X.mg) (c:=tc) (P:=tp) UJ I1.ok.glob MD DV hC e1 ht hf UK λDU h' tk hk hsz=>?_
   obtain⟨UL,oc,vs,t2,g1,g2,g3,g4⟩:=f4
   cases g1
   exact hR _ c' _ _ H1 _ (I1.kept (t':=tk) λb o ee=>Heap.get?_push_of_some _ (hk b o ee)) (az.refl _) (Heap.get?_push_size _ rfl) ⟨c',oc,vs,t2,rfl,Heap.get?_push_of_some _ (hk _ _ g2),g3,g4⟩
 refine PyProof.Rows.kws_cons (kla_eval rfl (mk _ λf c' pm DU H2 s2 I2 sm hf sE=>PyProof.Rows.kws_nil ?_))
 show wpAny _ _ (call (.builtin "sorted") [.ref a] [(Str.ofString "key",.ref f)]) _ _ _
 obtain⟨m2,Fn,Ca⟩:=I2.loc
 obtain⟨aU,n,rv,eo,hz⟩:=I2.lst (sm _ _ ha)
 have MF:=p9 rv
 subst MF
 have pC:s2.heap.IsCell cell (some (.ref ra)):=by
  obtain⟨u,ru,lu⟩:=Ca i "reach" (.ref ra) hN eσ (.inr (.inl hv))
  cases ru
  rcases lu with ⟨hk,_⟩ | ⟨_,c,e1,e2⟩
  ·rw[hv] at hk;cases hk
  ·rw[ec] at e1;cases e1;exact e2
 have nL:∀{b:Addr} {u:HO},H2 b=some u->b≠X.env.locals:=λe z=>by rw[z,I2.free] at e;cases e
 have dL:∀{b:Addr} {o:Obj},s2.heap.get? b=some o->(∀es ep,o.data≠.dict es ep)->b≠X.env.locals:=λe hd z=>by
  obtain⟨o',es,ep,e',Hq,_⟩:=Fn
  rw[z,e'] at e;cases e;exact hd es ep Hq
 refine ksk_sorted (h₀:=BB.qI s2.heap) (L:=X.env.locals) (m:=m2) (news:=BB.ledger s2.heap X.env.locals X.env.locals) (kz:=bs.map key) (vs:=bs.map Value.ref) (f:=.ref f) (b:=false) (BB.ES Fn)
  (λp hp=>by obtain⟨x,o⟩:=p;obtain⟨n1,_,ee⟩:=BB.fR.mp hp;exact⟨ee,n1,BB.m7 _ _⟩) ⟨_,eo,rfl,_,rfl⟩ (by rw[aac,aac]) (by rw[aac];exact Ff) (ksk_s1 _ _) (λx=>ksk_l1 _ _) (λx=>ksk_t1 _ _) ?turn ?done
 case turn=>
  intro j v k0 ev ek h3 tk own F3 N3
  rw[aag] at ev ek
  obtain⟨b,eb,rfl⟩:=Option.map_eq_some_iff.mp ev
  rw[eb] at ek
  cases ek
  have kp:∀x o,x≠X.env.locals->s2.heap.get? x=some o->h3.get? x=some o:=λx o hx ee=>(N3 (x,o) (abv _ (BB.fR.mpr ⟨hx,hx,ee⟩))).1
  have kb:∀x o,X.base.get? x=some o->h3.get? x=some o:=λx o ee=>kp x o (λz=>by
   have l1:x<X.base.objs.size:=Heap.lt_size ee
   have l2:=I2.ok.yL
   have l3:=I2.ok.above
   rw[z] at l1
   exact absurd (aav l1 (aap l2 l3)) (aaF _)) (I2.bk x o ee)
  obtain⟨j0,xs,d,kvs,hb,g0,g1,gd,hd,MG⟩:=Xd b (aae eb)
  obtain⟨itb,nb,Xe,Xf,_⟩:=I2.lst (sm _ _ hb)
  obtain⟨itr,nr,Xg,Xh,_⟩:=I2.lst (sm _ _ K2)
  obtain⟨mb,Xi,MH⟩:=I2.mod.blt
  obtain⟨ui,Xj,t1,rfl⟩:=Xe.get (i:=0) (x:=.int j0) rfl
  obtain⟨ud,Xk,Xl⟩:=Xg.get gd
  obtain rfl:ud=Value.ref d:=Xl
  obtain⟨z1,Xm,vs,rel,o,es,ep,ed,MI⟩:=I2.bT d _ (sm _ _ hd)
  obtain⟨UL,oc,LK,t2,w1,w2,w3,w4⟩:=sE
  cases w1
  obtain⟨oe,UN,UO⟩:=pC
  have sl:=sizeLine_eq
  have rl:=rel.length
  refine zO (s:={s2 with heap:=h3,toks:=tk}) (kvs:=vs) (kp _ _ (dL hf λ_ _ z=>by cases z) hf) ⟨c',oc,LK,t2,rfl,kp _ _ (dL w2 λ_ _ z=>by rw[w3] at z;cases z) w2,w3,w4⟩ hr.depth (I2.mod.nolimit.keeps kb) (I2.mod.glob.keeps kb) hl (Xi.keeps kb) MH Cr
   ⟨oe,kp _ _ (dL UN λ_ _ z=>by rw[UO] at z;cases z) UN,UO⟩ ⟨_,kp _ _ (nL (sm _ _ K2)) Xh,rfl,_,rfl⟩ ⟨_,kp _ _ (nL (sm _ _ hb)) Xf,rfl,_,rfl⟩ (by simpa using Xj) g0 (by omega) (by simpa using Xk) Xm ⟨o,es,ep,kp _ _ (nL (sm _ _ hd)) ed,MI⟩ (by omega) λh4 Xn t4 k4=>?_
  rw[MG,show((kvs.length:Nat):Int)=((vs.length:Nat):Int) by rw[rl]]
  exact⟨h4,Xn,t4,rfl,rfl,F3.kept k4,N3.grown k4⟩
 case done=>
  intro D h3 tk out c F3 N3 lt ko
  obtain⟨ps,hp,ho,hs⟩:=ko
  have ez:(bs.map key).zip (bs.map Value.ref)=bs.map λb=>(key b,Value.ref b):=by
   rw[List.zip_map',]
  rw[ez] at hp
  have mem:∀p∈ps,p=(key (BE p.2),Value.ref (BE p.2)):=λp iH=>by
   obtain⟨b,_,rfl⟩:=List.mem_map.mp (hp.mem_iff.mp iH)
   rfl
  have nd:(D:Addr)≠X.env.locals:=(N3 _ (.head _)).2.1
  have dn:s2.heap.get? D=none:=by
   cases ee:s2.heap.get? D with
   | none=>rfl
   | some o=>exact absurd (lt (D,o) (BB.fR.mpr ⟨nd,nd,ee⟩)) (aaF _)
  have hD:H2 D=none:=by
   cases ee:H2 D with
   | none=>rfl
   | some o=>
    obtain⟨ob,e'⟩:=cK.get (I2.bT D o ee)
    rw[dn] at e';cases e'
  have kp:∀x o,x≠X.env.locals->s2.heap.get? x=some o->h3.get? x=some o:=λx o hx ee=>(N3 (x,o) (aak _ (BB.fR.mpr ⟨hx,hx,ee⟩))).1
  have MJ:out=((ps.map λp=>BE p.2).map Value.ref).toArray:=by
   have:out.toList=(ps.map λp=>BE p.2).map Value.ref:=by
    rw[ho,aaO]
    exact abw λp iH=>congrArg Prod.snd (mem p iH)
   rw[<-this,Array.toArray_toList]
  have pm:(ps.map λp=>BE p.2).Perm bs:=by
   have:=hp.map λp=>BE p.2
   rw[aaO] at this
   exact this.trans (List.Perm.of_eq (by rw[show((λp:Int×Value=>BE p.2) ∘λb=>(key b,Value.ref b))=id from rfl,List.map_id]))
  have pl:=pm.length_eq
  have UP:=(N3 _ (.head _)).1
  have sl:=sizeLine_eq
  refine⟨.ref D,upd H2 D (.lst ((ps.map λp=>BE p.2).map V.ref)),I2.step (ch:=[]) (g':=s2.gens) (d':=s2.drawn) (t':=tk) (λ_ z=>nomatch z) (λb o h1 _ _ ee _=>kp b o h1 ee) (λb o h1 _ _ ee _=>⟨o.slots,kp b o h1 ee⟩) (λb o _ ee n=>?_) (λb o _ ee=>?_) (λb xs ee=>?_) (λb o u ee=>?_) (λb qs ee=>⟨#[],?_⟩) (λm hn=>?_) (λb o ee=>?_) I2.bare,rfl,?_⟩
  ·rw[aI (λz=>by rw[z,dn] at ee;cases ee)];exact n
  ·by_cases hb:b=X.env.locals
   ·obtain⟨o',_,_,e',_⟩:=F3.ns
    exact⟨o',by rw[hb];exact e'⟩
   ·exact⟨o,kp b o hb ee⟩
  ·rw[aI (bA ee hD)];exact ee
  ·rw[aI (bA ee hD)];exact ee
  ·rw[aI (bA ee hD),ee,Array.append_empty]
  ·have e1:=hn.eq_nsMap
   have e2:=Fn.eq_nsMap
   rw[e1,<-e2]
   exact F3.ns
  ·by_cases hb:b=D
   ·subst hb
    rw[ar] at ee
    cases ee
    refine⟨by rw[aac,pl];omega,(ps.map λp=>BE p.2).map Value.ref,c,?_,by rw[MJ] at UP;exact UP⟩
    generalize (ps.map λp=>BE p.2)=cs
    induction cs with
    | nil=>exact .nil
    | cons x cs ih=>exact .cons rfl ih
   ·rw[aI hb] at ee
    refine(I2.bT b o ee).oS (λx u pE e3=>kp x u (λz=>?_) e3) (λx e3=>by rw[aI (bA e3 hD)];exact e3) λx xs e3=>by rw[aI (bA e3 hD)];exact e3
    rcases pE with pE | pE
    ·subst pE;exact nL ee z
    ·exact nL pE z
  ·refine q D _ _ (sm.trans λb o ee=>by rw[aI (bA ee hD)];exact ee) ?_ ar pm ?_
   ·cases ee:H1 D with
    | none=>rfl
    | some o=>rw[sm _ _ ee] at hD;cases hD
   ·rw[List.pairwise_map]
    refine hs.imp_of_mem λ{x y} hx hy hle=>?_
    have hle:x.1<=y.1:=hle
    rw[mem x hx,mem y hy] at hle
    exact hle
end
noncomputable def Iz (K:PySem.W.Frag) (mg:Str->Option Value) (x:Str) (tc:Addr):Prop:=∃f oc od fd yE,mg x=some (.ref f)/\K.lookup f=some ⟨oc,od,.func fd,yE⟩/\fd.code=.ref tc
section
variable {P : Program} {w : World} {K : PySem.W.Frag} {mg : Str -> Option Value} {base : Heap} {CX : jT}
theorem u3.Xo {x qual:Str} {st:Stmt} {f tc:Addr} {fd:FuncData} {N ps:List Str} {k:Nat} {sp:Sp} (F:u3 K x qual st f fd) (hc:fd.code=.ref tc) (S:aN N ps (ae st)) (len:∀vs H Q E,sp vs H Q E->vs.length=ps.length)
  (sN:∀(A:Around) (outer:List Env) (s:Shared) (H:Hp) (vs:List V) (Q:VK) (E:XK),di k (A.deeper (envOfC qual (ae st) s.heap.objs.size f (.ref tc)))->sp vs H Q E->
   ∃t,uF (uU CX P w K mg base N qual (ae st) f (.ref tc) A outer s H E).GU (aL st) t/\t {nx:=λ_ H'=>Q .cE H',rt:=Q} (start N vs) H):d8 P w K mg base CX (k+1) f fd ps sp:=by
 obtain⟨oc,od,kV,doc,pm,an,cG,ct,yE,rfl,lk,sE⟩:=F.ex
 have hc:cG=.ref tc:=hc
 subst hc
 refine DG lk sE S len λA outer s H vs Q E hr BA=>?_
 obtain⟨t,h,q⟩:=sN A outer s H vs Q E hr BA
 exact⟨t,h.GU,q⟩
theorem Dn.MK {x:Str} {st:Stmt} {ps:List Str} {k:Nat} {sp:Sp} {tc:Addr} (D:Dn K mg x st) (L:Iz K mg x tc)
  (hb:∀(kV doc pm:Value) (an:Option Addr) (cG ct:Value) (us:List Value),us.length=ps.length->bindArgs (PySem.W.fnOf x x (aM st) (aL st) (ae st) .none kV doc pm an cG ct) ⟨us,[]⟩=pure (ps.zip us))
  (h:∀f fd,u3 K x x st f fd->fd.code=.ref tc->d8 P w K mg base CX k f fd ps sp):bS P w K mg base CX k x ps sp:=by
 obtain⟨f,fd,F,hm⟩:=D.ex
 obtain⟨f',oc,od,fd',yE,h1,h2,h3⟩:=L
 rw[hm] at h1
 cases h1
 obtain⟨oc',od',_,_,_,_,_,_,Xp,_,lk,_⟩:=F.ex
 rw[lk] at h2
 cases h2
 exact⟨f,fd,h f fd F h3,hm,F.kp,F.binds hb⟩
end
end L2
namespace L2
open PySem PySem.Spec PyProof.Rows PySem.W
mutual
noncomputable def tH:PyData->Bool
 | .none=>true
 | .int _=>true
 | .str x=>PyData.canLay0 (.str x)
 | .tuple xs=>tI xs
 | .list xs=>tI xs
 | _=>false
noncomputable def tI:List PyData->Bool
 | []=>true
 | x::xs=>tH x && tI xs
end
mutual
theorem mv:∀(d:PyData),tH d=true->d.canLay0=true
 | .none,_=>by simp [PyData.canLay0]
 | .bool _,h=>by simp [tH] at h
 | .int _,_=>by simp [PyData.canLay0]
 | .str x,h=>by rw[tH] at h;exact h
 | .list xs,h=>by rw[tH] at h;rw[PyData.canLay0];exact nP xs h
 | .tuple xs,h=>by rw[tH] at h;rw[PyData.canLay0];exact nP xs h
 | .dict _,h=>by simp [tH] at h
theorem nP:∀(xs:List PyData),tI xs=true->PyData.canLayAll0 xs=true
 | [],_=>by simp [PyData.canLayAll0]
 | x::xs,h=>by
  rw[tI,aaS] at h
  rw[PyData.canLayAll0,aaS]
  exact⟨mv x h.1,nP xs h.2⟩
end
mutual
theorem wz:∀(x y:PyData),tH x=true->tH y=true->PyData.eqv x y=decide (x=y)
 | .none,y,_,hy=>by cases y <;>simp [PyData.eqv]
 | .int i,y,_,hy=>by
  cases y with
  | int j=>
   rw[PyData.eqv]
   by_cases c:i=j
   ·subst c;simp
   ·rw[decide_eq_false (λe=>c (by injection e))]
    simp [c]
  | bool _=>simp [tH] at hy
  | _=>simp [PyData.eqv]
 | .str a,y,_,hy=>by
  cases y with
  | str b=>
   rw[PyData.eqv]
   by_cases c:a=b
   ·subst c;simp
   ·rw[decide_eq_false (λe=>c (by injection e))]
    simp [c]
  | _=>simp [PyData.eqv]
 | .tuple xs,y,hx,hy=>by
  cases y with
  | tuple ys=>
   rw[tH] at hx hy
   rw[PyData.eqv,nQ xs ys hx hy]
   by_cases c:xs=ys
   ·subst c;simp
   ·rw[decide_eq_false c,decide_eq_false (λe=>c (by injection e))]
  | _=>simp [PyData.eqv]
 | .list xs,y,hx,hy=>by
  cases y with
  | list ys=>
   rw[tH] at hx hy
   rw[PyData.eqv,nQ xs ys hx hy]
   by_cases c:xs=ys
   ·subst c;simp
   ·rw[decide_eq_false c,decide_eq_false (λe=>c (by injection e))]
  | _=>simp [PyData.eqv]
 | .bool _,_,h,_=>by simp [tH] at h
 | .dict _,_,h,_=>by simp [tH] at h
theorem nQ:∀(xs ys:List PyData),tI xs=true->tI ys=true->PyData.eqvAll xs ys=decide (xs=ys)
 | [],[],_,_=>by simp [PyData.eqvAll]
 | [],_::_,_,_=>by simp [PyData.eqvAll]
 | _::_,[],_,_=>by simp [PyData.eqvAll]
 | x::xs,y::ys,hx,hy=>by
  rw[tI,aaS] at hx hy
  rw[PyData.eqvAll,wz x y hx.1 hy.1,nQ xs ys hx.2 hy.2]
  by_cases c:x=y
  ·subst c
   by_cases d:xs=ys
   ·subst d;simp
   ·rw[decide_eq_false d,decide_eq_false (λe=>d (List.cons.inj e).2)];simp
  ·rw[decide_eq_false c,decide_eq_false (λe=>c (List.cons.inj e).1)];simp
end
section
variable {X : Cx} {K : PySem.W.Frag}
noncomputable def Ke (d:Dat):Prop:=tH (toP d)=true/\(toP d).depth<=8
theorem Fo {A:Around} {s:Shared} {a b:PyData} {u v:Value} {as bs:List Addr} (ra:Reads s.heap u a as) (rb:Reads s.heap v b bs) (ha:tH a=true) (hb:tH b=true) (da:a.depth<=8) (db:b.depth<=8) (hu:A.units+8<cLine):SeqAt.EqAt A s u v (decide (a=b)):=λprog w E Q h=>
 SeqAt.eqBoolOverData _ _ _ _ _ _ _ _ _ _ _ _ ra rb (mv _ ha) (mv _ hb) (by omega) (by rw[wz _ _ ha hb];exact h)
theorem zR {s:Shared} {ds:List Dat} {d:Dat} (jg:∀e∈ds,Ke e) {u:Value} {e:Dat} {bs:List Addr} [Decidable (∃cs,Reads s.heap u (toP d) cs)] (he:e∈ds) (re:Reads s.heap u (toP e) bs):decide (∃cs,Reads s.heap u (toP d) cs)=decide (toP e=toP d):=by
 by_cases c:toP e=toP d
 ·rw[decide_eq_true c,decide_eq_true ⟨bs,by rw[<-c];exact re⟩]
 ·rw[decide_eq_false c,decide_eq_false]
  rintro⟨cs,rc⟩
  exact c (SeqAt.Reads.unique _ _ _ _ _ (mv _ (jg e he).1) re rc)
noncomputable def ML:V->List V->Hp->VK->Prop:=λx vs H Q=>∃l xs ds v d i,x=.ref l/\vs=[v]/\H l=some (.lst xs)/\bf H ds xs/\(∀e∈ds,Ke e)/\Rep H d v/\Ke d/\(ds.map toP)[i]?=some (toP d)/\(∀j,j<i->(ds.map toP)[j]?≠some (toP d))/\i<100000/\Q (.int (i:Nat)) H
theorem yi (hu:X.A.units+64<cLine):GW X "list.index" ML:=by
 classical
 intro pins s σ H x vs v us Q I rx rv h
 obtain⟨l,xs,ds,y,d,i,rfl,rfl,hp,rd,jg,Xq,hd,hi,L4,i6,q⟩:=h
 cases rx
 obtain⟨u,rfl,ru⟩:=vals1 rv
 obtain⟨aU,r,pl,hz⟩:=I.list (bj.of hp)
 obtain⟨as,ra⟩:=nN I.bT d y u Xq ru
 have l1:=rd.length
 have l2:=r.length
 have at_:∀(j:Nat) (hj:j<aU.length),∃e bs,ds[j]?=some e/\e∈ds/\Reads s.heap aU[j] (toP e) bs:=λj hj=>by
  obtain⟨e,bs,ed,re⟩:=pZ I.bT rd r (aad hj)
  exact⟨e,bs,ed,aae ed,re⟩
 have Xr:i<aU.length:=by
  have:=(List.getElem?_eq_some_iff.mp hi).1
  rw[aac] at this
  omega
 obtain⟨⟨c1,d1,d2,sl⟩,ho,e1,m,e2⟩:=pl.isList
 cases e1
 cases e2
 have hit:decide (∃cs,Reads s.heap aU[i] (toP d) cs)=true:=by
  obtain⟨e,bs,ed,he,re⟩:=at_ i Xr
  rw[zR jg he re]
  rw[aag,ed] at hi
  exact decide_eq_true (aay hi)
 refine call_meets PySem.F.slot_list_index ⟨_,ho,rfl⟩ PySem.F.entry_list_index (PySem.F.args_list_index_2 _ _) (PySem.SeqAt.list_indexAt l aU.toArray m d1 sl u (λu=>decide (∃cs,Reads s.heap u (toP d) cs)) i (by rw[aam];omega) (by omega) hit (λj hj hl=>?_)) ⟨ho,λy hy=>?_,⟨.int _,H,I.tok _,⟨_,rfl⟩,q⟩⟩
 ·rw[aam] at hj
  obtain⟨e,bs,ed,he,re⟩:=at_ j hj
  show decide (∃cs,Reads s.heap aU[j] (toP d) cs)=false
  rw[zR jg he re]
  refine decide_eq_false λz=>L4 j hl ?_
  rw[aag,ed]
  exact congrArg some z
 ·obtain⟨j,ej⟩:=aaw (List.mem_toArray.mp hy)
  obtain⟨e,bs,ed,re⟩:=pZ I.bT rd r ej
  have he:=aae ed
  show SeqAt.EqAt _ _ _ _ (decide _)
  rw[zR jg he re]
  exact Fo re ra (jg e he).1 hd.1 (jg e he).2 hd.2 (by show X.A.units+1+8<cLine;omega)
end
end L2
namespace L2
open PySem PyProof.Rows
theorem exV {b:V} {Q:V->Prop}:(∃v,(some (some b):Option (Option V))=some (some v)/\Q v)=Q b:=propext ⟨fun⟨_,e,h⟩=>by cases e;exact h,λh=>⟨b,rfl,h⟩⟩
theorem exI {a:Int} {Q:Int->Prop}:(∃i,V.int a=V.int i/\Q i)=Q a:=propext ⟨fun⟨_,e,h⟩=>by cases e;exact h,λh=>⟨a,rfl,h⟩⟩
theorem exB {a:Bool} {Q:Bool->Prop}:(∃i,V.bl a=V.bl i/\Q i)=Q a:=propext ⟨fun⟨_,e,h⟩=>by cases e;exact h,λh=>⟨a,rfl,h⟩⟩
theorem exR {a:Addr} {Q:Addr->Prop}:(∃i,V.ref a=V.ref i/\Q i)=Q a:=propext ⟨fun⟨_,e,h⟩=>by cases e;exact h,λh=>⟨a,rfl,h⟩⟩
theorem exS {a:Str} {Q:Str->Prop}:(∃i,V.str a=V.str i/\Q i)=Q a:=propext ⟨fun⟨_,e,h⟩=>by cases e;exact h,λh=>⟨a,rfl,h⟩⟩
theorem exII {a b:Int} {Q:Int->Int->Prop}:(∃i j,V.int a=V.int i/\V.int b=V.int j/\Q i j)=Q a b:=propext ⟨fun⟨_,_,e,f,h⟩=>by cases e;cases f;exact h,λh=>⟨a,b,rfl,rfl,h⟩⟩
theorem exRI {a:Addr} {k:Int} {Q:Addr->List V->Int->V->Prop}:(∃p xs i v,V.ref a=V.ref p/\V.int k=V.int i/\Q p xs i v)=∃xs v,Q a xs k v:=propext ⟨fun⟨_,xs,_,v,e,f,h⟩=>by cases e;cases f;exact⟨xs,v,h⟩,fun⟨xs,v,h⟩=>⟨a,xs,k,v,rfl,rfl,h⟩⟩
theorem exRa {α:Type} {a:Addr} {Q:Addr->α->Prop}:(∃p v,V.ref a=V.ref p/\Q p v)=∃v,Q a v:=propext ⟨fun⟨_,v,e,h⟩=>by cases e;exact⟨v,h⟩,fun⟨v,h⟩=>⟨a,v,rfl,h⟩⟩
theorem exRb {α β:Type} {a:Addr} {Q:Addr->α->β->Prop}:(∃p v u,V.ref a=V.ref p/\Q p v u)=∃v u,Q a v u:=propext ⟨fun⟨_,v,u,e,h⟩=>by cases e;exact⟨v,u,h⟩,fun⟨v,u,h⟩=>⟨a,v,u,rfl,h⟩⟩
theorem scal_ss {a b:Str}:uL (.str a) (.str b)=true:=rfl
theorem scal_ii {a b:Int}:uL (.int a) (.int b)=true:=rfl
theorem scal_bb {a b:Bool}:uL (.bl a) (.bl b)=true:=rfl
theorem scal_si {a:Str} {b:Int}:uL (.str a) (.int b)=true:=rfl
theorem scal_is {a:Int} {b:Str}:uL (.int a) (.str b)=true:=rfl
end L2
namespace L2
open PySem PySem.Spec PyProof.Rows
section
variable {X : Cx}
theorem zS:Hs X rIxLH:=by
 intro pins s σ H x y v u Q I rx ry h
 obtain⟨p,xs,i,z,rfl,rfl,hq,he,q⟩:=h
 cases rx
 obtain⟨t,rfl⟩:=ry
 obtain⟨aU,r,pl,hz⟩:=I.list (bj.of hq)
 obtain⟨j,h1,h2,h3,h4,h5⟩:=qD he
 obtain⟨w,ew,qw⟩:=r.get h2
 have hl:=r.length
 have hn:=mS
 have fin:EP X pins σ Q w s:=⟨z,H,I,qw,q⟩
 by_cases h0:0<=i
 ·have hj:i.toNat=j:=by
   rw[seqIndex_of h0 h5] at h1
   exact aay h1
  exact wpAny_getItem_list pl.isList h0 (by omega) (by rw[hj];simpa using ew) fin
 ·have hj:(i+ (aU.toArray.size:Int)).toNat=j:=by
   rw[seqIndex_neg (by omega) h4] at h1
   rw[aam,<-hl]
   exact aay h1
  exact wpAny_getItem_list_neg pl.isList (by omega) (by rw[aam] <;>omega) (by omega) (by rw[hj];simpa using ew) fin
theorem wA {K:PySem.W.Frag} {e:Expr} {f:Str} {pos:Pos} {ta:TE} (he:PE X e ta) (hb:attributeBase e f X.env (eval e X.env)=eval e X.env) (hK:X.K=K:=by rfl):PE X (.Attribute e f pos) (kU K ta f):=by subst hK;exact dW he hb
end
end L2
namespace Wq
abbrev Sh:=Int×Int
noncomputable def Lw (x:Sh):Prop:=0<x.2/\Nm.g x.1 x.2=1
noncomputable def sc (L:Int) (x:Sh):Int:=x.1* (L / x.2)
theorem vh {L:Int} {x:Sh} (h:x.2∣L):sc L x*x.2=x.1*L:=by
 unfold sc
 rw[aaU,Int.ediv_mul_cancel h]
theorem zT {L s:Int} {x:Sh} (h:Lw x) (L0:0<L) (e:x.1*L=s*x.2):x.2∣L/\sc L x=s:=by
 have c:Int.gcd x.1 x.2=1:=by have:=h.2;unfold Nm.g at this;omega
 have d:x.2∣L:=Nm.ma (q:=x.2) (a:=x.1) ⟨s,by rw[e,aaC]⟩ c
 refine⟨d,?_⟩
 have:=vh d
 rw[e] at this
 exact Int.eq_of_mul_eq_mul_right (by have:=h.1;omega) this
noncomputable def low (a b:Int):Sh:=(Nm.st a b,Nm.sb a b)
theorem nR {a b:Int} (h:0<b):Lw (low a b):=⟨Nm.zj (by omega),Nm.zk (by omega)⟩
theorem Fp {a b L s:Int} (h:0<b) (L0:0<L) (e:a*L=s*b):(low a b).2∣L/\sc L (low a b)=s:=by
 refine zT (nR h) L0 ?_
 have c:=Nm.sU a b
 show Nm.st a b*L=s*Nm.sb a b
 refine Int.eq_of_mul_eq_mul_right (show b≠0 by omega) ?_
 calc Nm.st a b*L*b=(Nm.st a b*b)*L:=Int.mul_right_comm ..
  _=a*Nm.sb a b*L:=by rw[c]
  _=(a*L)*Nm.sb a b:=Int.mul_right_comm ..
  _=s*b*Nm.sb a b:=by rw[e]
  _=s*Nm.sb a b*b:=Int.mul_right_comm ..
noncomputable def pl (x y:Sh):Sh:=low (x.1*y.2+y.1*x.2) (x.2*y.2)
noncomputable def tm (x y:Sh):Sh:=low (x.1*y.1) (x.2*y.2)
end Wq
namespace Wq
open L2
noncomputable def wB (a b:Sh):Bool:=decide (a.1*b.2<b.1*a.2)
noncomputable def fM (ws:List Sh) (i:Int):Sh:=ws.getD i.toNat (0,1)
noncomputable def cH (MM:List (Int×Int)):Int:=(MM.map (·.1)).sum
end Wq
namespace Wq
open L2
noncomputable def tJ (c b:Int):Int:=c / Nm.g c b*b
noncomputable def fi:Int->List Sh->Int
 | c,[]=>c
 | c,x::xs=>fi (tJ c x.2) xs
theorem CC {c b:Int} (hc:0<c) (hb:0<b):0<tJ c b/\c∣tJ c b/\b∣tJ c b/\∀{Z:Int},c∣Z->b∣Z->tJ c b∣Z:=by
 have g0:=Nm.iF (a:=c) (b:=b) (by omega)
 have gl:=Nm.js c b
 have gr:=Nm.eP c b
 obtain⟨u,hu⟩:=gl
 obtain⟨v,hv⟩:=gr
 have e1:c / Nm.g c b=u:=by
  calc c / Nm.g c b=Nm.g c b*u / Nm.g c b:=by rw[<-hu]
   _=u:=Int.mul_ediv_cancel_left _ (by omega)
 have u0:0<u:=by rw[<-e1];exact Int.ediv_pos_of_pos_of_dvd hc (Nm.EU c b) ⟨u,hu⟩
 unfold tJ
 rw[e1]
 refine⟨aa7 u0 hb,⟨v,?_⟩,Int.dvd_mul_left ..,λ{Z} h1 h2=>?_⟩
 ·calc u*b=u* (Nm.g c b*v):=by rw[<-hv]
   _=(Nm.g c b*u)*v:=by rw[<-aaU,aaC u]
   _=c*v:=by rw[<-hu]
 ·obtain⟨z,hz⟩:=h2
  have cp:Int.gcd v u=1:=by
   have h:=Int.gcd_ediv_gcd_ediv_gcd (i:=c) (j:=b) (by unfold Nm.g at g0;omega)
   have e2:b / Nm.g c b=v:=by
    calc b / Nm.g c b=Nm.g c b*v / Nm.g c b:=by rw[<-hv]
     _=v:=Int.mul_ediv_cancel_left _ (by omega)
   have h':Int.gcd (c / Nm.g c b) (b / Nm.g c b)=1:=h
   rw[e1,e2,Int.gcd_comm] at h'
   exact h'
  obtain⟨k,hk⟩:=h1
  have m:u*k=v*z:=by
   refine Int.eq_of_mul_eq_mul_left (show Nm.g c b≠0 by omega) ?_
   calc Nm.g c b* (u*k)=(Nm.g c b*u)*k:=(aaU ..).symm
    _=c*k:=by rw[<-hu]
    _=Z:=hk.symm
    _=b*z:=hz
    _=(Nm.g c b*v)*z:=by rw[<-hv]
    _=_:=aaU ..
  obtain⟨j,hj⟩:=Nm.ma (q:=u) (a:=v) (b:=z) ⟨k,m.symm⟩ cp
  exact⟨j,by rw[hz,hj,<-aaU,aaC b u]⟩
theorem mw:∀{xs:List Sh} {c:Int},0<c->(∀x∈xs,0<x.2)->0<fi c xs/\c∣fi c xs/\(∀x∈xs,x.2∣fi c xs)/\∀{Z:Int},c∣Z->(∀x∈xs,x.2∣Z)->fi c xs∣Z
 | [],c,hc,_=>⟨hc,Int.dvd_refl c,by simp,λh _=>h⟩
 | x::xs,c,hc,h=>by
  obtain⟨a1,a2,a3,a4⟩:=CC hc (h x (aaj ..))
  obtain⟨b1,b2,b3,b4⟩:=mw (xs:=xs) a1 λy hy=>h y (aak _ hy)
  refine⟨b1,Int.dvd_trans a2 b2,λy hy=>?_,λ{Z} h1 h2=>b4 (a4 h1 (h2 x (aaj ..))) λy hy=>h2 y (aak _ hy)⟩
  rcases List.mem_cons.mp hy with rfl | hy
  ·exact Int.dvd_trans a3 b2
  ·exact b3 y hy
noncomputable def Vb (M:Int) (x:Sh):Prop:= -(M*x.2)<=x.1/\x.1<=M*x.2
theorem IA {L M:Int} {x:Sh} (hx:0<x.2) (L0:0<L) (d:x.2∣L):Vb M x↔-(M*L)<=sc L x/\sc L x<=M*L:=by
 have e:=vh d
 have k:M*L*x.2=M*x.2*L:=Int.mul_right_comm ..
 have i1:∀p q:Int,p<=q↔p*L<=q*L:=λp q=>⟨λh=>Int.mul_le_mul_of_nonneg_right h (by omega),λh=>Int.le_of_mul_le_mul_right h L0⟩
 have i2:∀p q:Int,p<=q↔p*x.2<=q*x.2:=λp q=>⟨λh=>Int.mul_le_mul_of_nonneg_right h (by omega),λh=>Int.le_of_mul_le_mul_right h hx⟩
 unfold Vb
 rw[i1 (-(M*x.2)),i1 x.1,i2 (-(M*L)),i2 (sc L x),e,Int.neg_mul,Int.neg_mul,k]
end Wq
namespace Wq
theorem qa:∀{xs:List Sh} {c:Int} {x:Sh},fi c (xs++ [x])=tJ (fi c xs) x.2
 | [],_,_=>rfl
 | y::xs,c,x=>qa (xs:=xs) (c:=tJ c y.2) (x:=x)
noncomputable def dt:L2.Pl->Sh
 | .fin g=>g
 | .cP g _=>g
 | .bN _ _=>(0,1)
end Wq
namespace Wq
end Wq
namespace Wq
end Wq
namespace Wq
end Wq
namespace Wq
end Wq
namespace K45
open PySem PySem.Spec PyProof.Rows L2
set_option maxHeartbeats 4000000
local macro_rules | `(tactic| simp! only [$ls,*]) => `(tactic| simp only [↓exV, ↓exI, ↓exB, ↓exR, ↓exS, ↓exII, ↓exRI, ↓exRa, ↓exRb, L2.start, Pr, tRev, tD1, tDPop1, tSl, tNoPart, tPart, rSlL, tDIn, tDNotIn, gSub, rSetL, tLst, tDNewK, tComp, L2.stC, tFor_eq, iList, iTup, iRng1, iRng2, iZip, iEnum, iDict, iStr, tChain, tSumV, tBM, rJoin, tJoined, jNil, jLit, jInt, jStr, tRaise, tDGet, tDGet2, tDGet1, sDPut, Option.join_some, List.getElem?_nil,  tSeq, tRet, tRetN, tIfS, tTest, tB, tOp, tUn, tVar, tC, tCB, tCons, tNil, tCall, tTupS, tAsg, gName, gNil, gCons, tPar, tNext, tDrop, tAnd, tOr, tNot, tAndV, tOrV, tNotV, tIf, rI, rI0, rU, rIxTH, rIxLH, rEqT, rNeT, rInT, rEq, rNe, scal_ss, scal_ii, scal_bb, scal_si, scal_is, CPow, at0, at1, at2, List.map_cons, List.map_nil, List.length_cons, List.length_nil, Nat.reduceSub, Nat.reduceAdd, Nat.zero_add, List.replicate_zero, List.reduceReplicate, List.append_nil, List.nil_append, List.cons_append, List.getElem?_cons_zero, List.getElem?_cons_succ, List.set_cons_zero, List.set_cons_succ, Option.some.injEq, exists_eq_left', exists_eq_left, V.ref.injEq, V.int.injEq, V.bl.injEq, V.str.injEq, V.ty.injEq, HO.tup.injEq, HO.lst.injEq, List.cons.injEq, and_true, true_and, and_assoc, exists_and_left, decide_eq_true_eq, Bool.not_eq_true', decide_eq_false_iff_not, ite_true, ite_false, if_true, if_false, Int.reduceToNat, eq_self_iff_true, $ls,*])
local macro_rules | `(tactic| simp_all only [$ls,*]) => `(tactic| (first | ((dsimp (config := { zetaDelta := true }) only [L2.start, Pr, tRev, tD1, tDPop1, tSl, tNoPart, tPart, rSlL, tDIn, tDNotIn, gSub, rSetL, tLst, tDNewK, tComp, L2.stC, tFor_eq, iList, iTup, iRng1, iRng2, iZip, iEnum, iDict, iStr, tChain, tSumV, tBM, rJoin, tJoined, jNil, jLit, jInt, jStr, tRaise, tDGet, tDGet2, tDGet1, sDPut, tSeq, tRet, tRetN, tIfS, tTest, tB, tOp, tUn, tVar, tC, tCB, tCons, tNil, tCall, tTupS, tAsg, gName, gNil, gCons, tPar, tNext, tDrop, tAnd, tOr, tNot, tAndV, tOrV, tNotV, tIf, rI, rI0, rU, rIxTH, rIxLH, rEqT, rNeT, rInT, rEq, rNe, scal_ss, scal_ii, scal_bb, scal_si, scal_is, CPow, List.getElem?_cons_zero, List.getElem?_cons_succ, List.set_cons_zero, List.set_cons_succ]); try simp! only [$ls,*]) | simp! only [$ls,*]))
seal L2.PE L2.PT L2.PW L2.PA L2.PS L2.uF L2.PG L2.GV L2.PI L2.E3 L2.PO L2.kr L2.KL L2.c9 L2.DJ L2.HI L2.GW L2.HL
theorem aA {P:Program} {w:World}:qJ (bK P w):=wa P w
set_option genInjectivity false in
set_option genSizeOf false in
structure Txt (K:PySem.W.Frag) (mg:Str->Option Value) (aB tc:Addr):Prop where
 z_abs:mg "abs"=none
 z_all:mg "all"=none
 z_any:mg "any"=none
 z_enumerate:mg "enumerate"=none
 z_len:mg "len"=none
 z_list:mg "list"=none
 z_max:mg "max"=none
 z_range:mg "range"=none
 z_sorted:mg "sorted"=none
 z_sum:mg "sum"=none
 z_zip:mg "zip"=none
 CD:Dn K mg "goals" (top 1)
 vi:Dn K mg "is_ready" (top 2)
 nS:Dn K mg "ready_places" (top 3)
 zU:Dn K mg "levels" (top 4)
 Fq:Dn K mg "ring" (top 5)
 j6:Dn K mg "common_divisor" (top 12)
 CF:Dn K mg "share" (top 13)
 lh:Dn K mg "common_bottom" (top 14)
 lA:Dn K mg "row_with_head" (top 16)
 yj:Dn K mg "swapped" (top 17)
 fX:Dn K mg "without_first_column" (top 18)
 CG:Dn K mg "swept" (top 19)
 lB:Dn K mg "whole_answers" (top 20)
 qU:Dn K mg "steps_from" (top 22)
 CH:Dn K mg "parts" (top 23)
 lC:Dn K mg "ways_of_picks" (top 27)
 lD:Dn K mg "checked_parts" (top 28)
 lE:Dn K mg "weighted_ways" (top 29)
 iB:Dn K mg "all_weighted_ways" (top 30)
 nU:Dn K mg "total_weight" (top 31)
 tK:Dn K mg "part_rows" (top 32)
 yk:Dn K mg "gain_of" (top 34)
 yn:Dn K mg "book_of" (top 35)
 vj:Dn K mg "gains_of" (top 36)
 nV:Dn K mg "blank_worths" (top 37)
 oZ:Dn K mg "with_worths" (top 38)
 qV:Dn K mg "wanted_way" (top 40)
 o3:Dn K mg "better_ways" (top 41)
 vk:Dn K mg "picks_of" (top 42)
 iY:Dn K mg "with_best_worths" (top 43)
 tL:Dn K mg "best_pick" (top 44)
 Ft:Dn K mg "best" (top 45)
 tM:Dn K mg "_law_cell" (top 47)
 qW:Dn K mg "_law_mixed" (top 48)
 vm:Dn K mg "_law_low" (top 49)
 tN:Dn K mg "_law_plus" (top 50)
 qX:Dn K mg "_law_times" (top 51)
 qY:Dn K mg "_law_share" (top 52)
 o4:Dn K mg "_law_turned" (top 53)
 qZ:Dn K mg "_law_throw" (top 54)
 q9:Dn K mg "_law_board" (top 55)
 tO:Dn K mg "_law_copy" (top 57)
 tP:Dn K mg "_law_less" (top 60)
 rh:Dn K mg "_law_small" (top 61)
 o5:Dn K mg "_law_raised" (top 62)
 c_MOST_PLACES:∃t,mg "MOST_PLACES"=some (.int 40 t)
 c_MOST_PICKS:∃t,mg "MOST_PICKS"=some (.int 4096 t)
 k_Book:mg "Book"=some (.ref aB)
 cC:xR K aB
 na_Book_bottom:PySem.W.findIn K (.ref aB) "bottom"=some none
 na_Book_tops:PySem.W.findIn K (.ref aB) "tops"=some none
 CI:Mx K mg "Book" "Book.__init__" (inClass (top 33) 0) aB
 jy:K1 K aB "as_shares" "Book.as_shares" (inClass (top 33) 2)
 nW:K1 K aB "scaled" "Book.scaled" (inClass (top 33) 1)
 CJ:Iz K mg "parts" tc
theorem MN {C:List Value->Prop} (k:C []):∀us:List Value,us.length=0->C us:=λus h=>by
 cases us with
 | nil=>exact k
 | cons a us=>cases h
theorem zV {C:List Value->Prop} {n:Nat} (k:∀a (us:List Value),us.length=n->C (a::us)):∀us:List Value,us.length=n+1->C us:=λus h=>by
 cases us with
 | nil=>cases h
 | cons a us=>exact k a us (Nat.succ.inj h)
theorem iC {C:List Value->Prop} (k:∀a,C [a]):∀us:List Value,us.length=1->C us:=zV λa=>MN (C:=λus=>C (a::us)) (k a)
theorem eA {C:List Value->Prop} (k:∀a b,C [a,b]):∀us:List Value,us.length=2->C us:=zV λa=>iC (C:=λus=>C (a::us)) (k a)
theorem tQ {C:List Value->Prop} (k:∀a b c,C [a,b,c]):∀us:List Value,us.length=3->C us:=zV λa=>eA (C:=λus=>C (a::us)) (k a)
theorem Fu {C:List Value->Prop} (k:∀a b c d,C [a,b,c,d]):∀us:List Value,us.length=4->C us:=zV λa=>tQ (C:=λus=>C (a::us)) (k a)
theorem MO {C:List Value->Prop} (k:∀a b c d e,C [a,b,c,d,e]):∀us:List Value,us.length=5->C us:=zV λa=>Fu (C:=λus=>C (a::us)) (k a)
abbrev dsc:Array Value:=#[rawInt 119,rawInt 29,.str ((Str.ofString "parts"++".<locals>.")++"<lambda>") 0]
noncomputable def gD:Option Int->V
 | none=>.cE
 | some i=>.int i
noncomputable def IB:Option Int->Dat
 | none=>.cE
 | some i=>.int i
theorem wC {H:Hp} {ps:List (Option Int)} {l:Addr} (h:H l=some (.lst (List.map gD ps))):Rep H (.lst (ps.map IB)) (.ref l):=by
 refine aO.mpr ⟨l,_,rfl,h,c4 (by rw[aac]) λi y ey o eo=>?_⟩
 rw[aag,eo] at ey
 cases ey
 cases o <;>simp [IB,gD,Rep]
theorem yo (ps:List (Option Int)):depth (.lst (ps.map IB))<=40:=by
 have:=vb (ds:=ps.map IB) (n:=0) λd hd=>by obtain⟨o,_,rfl⟩:=List.mem_map.mp hd;cases o <;>simp [IB,depth]
 rw[depth]
 omega
theorem DW {fs:Lv.Fs} {g:Int} (h0:0<=g) (h1:g< (fs.length:Nat)):fK (List.map gD fs) g=some (gD (Lv.lk fs g)):=by
 obtain⟨j,rfl⟩:=aau h0
 have hj:j<fs.length:=by omega
 have e:fs[j]?=some fs[j]:=aad hj
 rw[nE (f:=gD) e]
 congr 2
 unfold Lv.lk
 rw[aai,aaf,e]
 rfl
theorem nX {o:Option Int}:(gD o=V.cE)↔o=none:=by cases o <;>simp [gD]
noncomputable def tR:Sp:=λvs H Q _=>∃v q,vs=[v]/\Rep H (jx q) v/\(Lv.fL q).length<=100/\∀l H',az H H'->H l=none->H' l=some (.lst (List.map V.int (Lv.fL q)))->Q (.ref l) H'
noncomputable def zW:Sp:=λvs H Q _=>∃v q f fs,vs=[v,.ref f]/\Rep H (jx q) v/\H f=some (.lst (List.map gD fs))/\(Lv.fL q).length<=100/\(∀g∈Lv.fL q,0<=g/\g< (fs.length:Nat))/\∀H',az H H'->Q (.bl (Lv.DS fs q)) H'
noncomputable def eN (i:Nat):V:=.int i
noncomputable def wD:Sp:=λvs H Q _=>∃a b f fs,vs=[.ref a,.ref f]/\Rep H (pT b) (.ref a)/\H f=some (.lst (List.map gD fs))/\fs.length=b.length/\b.length<=1000/\(∀q∈b,(Lv.fL q).length<=100)/\Lv.Good b/\∀l H',az H H'->H l=none->H' l=some (.lst (List.map eN (Lv.fresh b fs)))->Q (.ref l) H'
noncomputable def zX:Sp:=λvs H Q _=>∃a b,vs=[.ref a]/\Rep H (pT b) (.ref a)/\b.length<=1000/\(∀q∈b,(Lv.fL q).length<=100)/\Lv.Good b/\∀l H',az H H'->H l=none->H' l=some (.lst (List.map gD (Lv.tu b)))->Q (.ref l) H'
structure Xs (H:Hp) (b:List Pl) (a ff:Addr) (m:Nat) (σ:L2.St) (H':Hp):Prop where
 ex:∃fs L fr z,σ=[some (V.ref a),some (V.ref ff),some (V.int L),some (V.ref fr),z]/\H' ff=some (.lst (List.map gD fs))/\H' fr=some (.lst (List.map eN (Lv.fresh b fs)))/\fr≠ff/\az H H'/\fs.length=b.length/\Lv.d4 fs<=m/\Lv.run b m fs L=Lv.tu b
noncomputable def nY (b:List Pl):List Nat:=(List.range b.length).filter fun(i:Nat)=>(Lv.lk (Lv.tu b) (i:Int)).isNone
theorem zY {b:List Pl} {i:Nat}:i∈nY b↔i<b.length/\Lv.lk (Lv.tu b) (i:Int)=none:=by
 unfold nY
 rw[List.mem_filter,List.mem_range]
 simp
structure Bd (b:List Pl):Prop where
 len:b.length<=1000
 sS:∀q∈b,(Lv.fL q).length<=100
 good:Lv.Good b
noncomputable def vo:Sp:=λvs H Q _=>∃a b,vs=[.ref a]/\Rep H (pT b) (.ref a)/\Bd b/\∀l H',az H H'->H l=none->H' l=some (.lst (List.map eN (nY b)))->Q (.ref l) H'
noncomputable def o6 (H:Hp):Option (Int×Nat)->V->Prop
 | none,v=>v=.cE
 | some (h,w),v=>∃p,v=.ref p/\H p=some (.tup [.int h,.int (w:Int)])
theorem o6.mono {H H':Hp} (s:az H H') {o:Option (Int×Nat)} {v:V} (h:o6 H o v):o6 H' o v:=by
 cases o with
 | none=>exact h
 | some x=>obtain⟨p,e,hp⟩:=h;exact⟨p,e,s _ _ hp⟩
theorem o6.upd {H:Hp} {a:Addr} {o:HO} {par:Option (Int×Nat)} {v:V} (n:∀xs,H a≠some (.tup xs)) (h:o6 H par v):o6 (upd H a o) par v:=by
 cases par with
 | none=>exact h
 | some x=>obtain⟨p,e,hp⟩:=h;exact⟨p,e,by rw[aI (λz=>n _ (z▸hp))];exact hp⟩
structure fz (H:Hp) (d:Addr) (es:List Bf.En):Prop where
 ex:∃kvs,H d=some (.dK kvs)/\kvs.map (·.1)=(Bf.keys es).map Sum.inl/\∀(i:Nat) e,es[i]?=some e->∃v,kvs[i]?=some (Sum.inl e.1,v)/\o6 H e.2.1 v
theorem fz.mono {H H':Hp} (s:az H H') {d:Addr} {es:List Bf.En} (h:fz H d es):fz H' d es:=by
 obtain⟨kvs,hd,hk,hv⟩:=h
 exact⟨kvs,s _ _ hd,hk,λi e he=>by obtain⟨v,e1,e2⟩:=hv i e he;exact⟨v,e1,e2.mono s⟩⟩
theorem vp {κ:Type} [DecidableEq κ]:∀{kvs:List (κ×V)} {i:Nat} {k:κ} {v:V},(kvs.map (·.1)).Nodup->kvs[i]?=some (k,v)->gN kvs k=some v
 | [],i,k,v,_,h=>by simp at h
 | p::r,0,k,v,_,h=>by simp at h;subst h;exact jr rfl
 | p::r,i+1,k,v,nd,h=>by
  simp at h
  rw[aat,List.nodup_cons] at nd
  rw[gO (λz=>nd.1 (by rw[z];exact List.mem_map.mpr ⟨(k,v),aae h,rfl⟩))]
  exact vp nd.2 h
theorem mz {κ:Type} [DecidableEq κ]:∀{kvs:List (κ×V)} {k:κ},k∉kvs.map (·.1)->gN kvs k=none
 | [],k,_=>rfl
 | p::r,k,h=>by
  rw[aat] at h
  rw[gO (λz=>h (by rw[z];exact aaj))]
  exact mz λz=>h (aak _ z)
theorem zZ {l:List Int} (h:l.Nodup):(l.map (Sum.inl:Int->Key)).Nodup:=by
 unfold List.Nodup at *
 rw[List.pairwise_map]
 exact h.imp λ{a b} UB z=>UB (by cases z;rfl)
theorem rj {l:List Int} {k:Int}:(Sum.inl k:Key)∈l.map Sum.inl↔k∈l:=by
 rw[List.mem_map]
 constructor
 ·rintro⟨x,hx,e⟩;cases e;exact hx
 ·intro h;exact⟨k,h,rfl⟩
theorem fz.get {H:Hp} {d:Addr} {es:List Bf.En} (h:fz H d es) (nd:(Bf.keys es).Nodup) {i:Nat} {e:Bf.En} (he:es[i]?=some e):∃v,jV H d (.int e.1) (some v)/\o6 H e.2.1 v:=by
 obtain⟨kvs,hd,hk,hv⟩:=h
 obtain⟨v,e1,e2⟩:=hv i e he
 exact⟨v,.inl ⟨kvs,Sum.inl e.1,.inl hd,rfl,(vp (by rw[hk];exact zZ nd) e1).symm⟩,e2⟩
theorem fz.out {H:Hp} {d:Addr} {es:List Bf.En} (h:fz H d es) {k:Int} (hk:k∉Bf.keys es):jV H d (.int k) none:=by
 obtain⟨kvs,hd,IC,_⟩:=h
 exact .inl ⟨kvs,Sum.inl k,.inl hd,rfl,(mz (by rw[IC];exact λz=>hk (rj.mp z))).symm⟩
theorem fz.has {H:Hp} {d:Addr} {es:List Bf.En} (h:fz H d es) (nd:(Bf.keys es).Nodup) (k:Int):∃o,jV H d (.int k) o/\o.isSome=decide (k∈Bf.keys es):=by
 by_cases c:k∈Bf.keys es
 ·obtain⟨e,he,rfl⟩:=List.mem_map.mp c
  obtain⟨i,hi⟩:=aaw he
  obtain⟨v,g,_⟩:=h.get nd hi
  exact⟨_,g,by simp [c]⟩
 ·exact⟨_,h.out c,by simp [c]⟩
theorem fz.put {H:Hp} {d:Addr} {es:List Bf.En} (h:fz H d es) {k:Int} {par:Option (Int×Nat)} {path:List Nat} {v:V} (hk:k∉Bf.keys es) (pv:o6 H par v) (hl:es.length<sizeLine):
  ∃o,uZ H d (.int k) v (upd H d o)/\fz (upd H d o) d (es++ [(k,par,path)]):=by
 obtain⟨kvs,hd,IC,hv⟩:=h
 have len:kvs.length=es.length:=by
  have:=congrArg List.length IC
  unfold Bf.keys at this
  simpa using this
 have vn:gN kvs (Sum.inl k)=none:=mz (by rw[IC];exact λz=>hk (rj.mp z))
 have nt:∀xs,H d≠some (.tup xs):=λxs z=>by rw[hd] at z;cases z
 refine⟨.dK (kvs++ [(Sum.inl k,v)]),?_,⟨kvs++ [(Sum.inl k,v)],ar,?_,λi e he=>?_⟩⟩
 ·have:=uZ.k (k:=Sum.inl k) (v:=v) hd (by omega)
  rw[sO v vn] at this
  exact this
 ·unfold Bf.keys at *
  rw[aax,aax,aax,IC]
  rfl
 ·rcases Bf.eI he with he | ⟨rfl,rfl⟩
  ·obtain⟨v',e1,e2⟩:=hv i e he
   exact⟨v',Bf.up e1,e2.upd nt⟩
  ·refine⟨v,?_,pv.upd nt⟩
   rw[aaY (by omega),len,Nat.sub_self]
   rfl
theorem qb {here:Int} {path:List Nat}:∀(gs:List Int) (w:Nat) (es:List Bf.En) (g:Int),Bf.fV here path w (gs++ [g]) es=(if g∈Bf.keys (Bf.fV here path w gs es) then Bf.fV here path w gs es else Bf.fV here path w gs es++ [(g,some (here,w+gs.length),path++ [w+gs.length])])
 | [],w,es,g=>rfl
 | x::gs,w,es,g=>by
  show Bf.fV here path (w+1) (gs++ [g]) _=_
  rw[qb gs (w+1)]
  show(if g∈Bf.keys (Bf.fV here path (w+1) gs _) then Bf.fV here path (w+1) gs _ else Bf.fV here path (w+1) gs _++ [(g,some (here,w+1+gs.length),path++ [w+1+gs.length])])=_
  rw[aar,show w+1+gs.length=w+ (gs.length+1) by omega]
  rfl
structure Xu (H:Hp) (b:List Pl) (a d f:Addr) (st:Int) (m:Nat) (σ:L2.St) (H':Hp):Prop where
 ex:∃(t:Nat) (es:List Bf.En),∃z5 z6 z7,σ=[some (V.ref a),some (V.int st),some (V.ref d),some (V.ref f),some (V.int (t:Int)),z5,z6,z7]/\fz H' d es/\H' f=some (.lst (List.map V.int (Bf.keys es)))/\az H H'/\Bf.Inv b st t es/\Bf.BD b m t es=Bf.steps b st/\b.length<m+t
noncomputable def wF:Sp:=λvs H Q _=>∃a b st,vs=[.ref a,.int st]/\Rep H (pT b) (.ref a)/\b.length<=1000/\(∀q∈b,(Lv.fL q).length<=100)/\Lv.Good b/\0<=st/\st<b.length/\∀d H',az H H'->H d=none->fz H' d (Bf.steps b st)->Q (.ref d) H'
structure BkW (H:Hp) (es:List Bf.En) (a d bk:Addr) (st g:Int) (path:List Nat) (m:Nat) (σ:L2.St) (H':Hp):Prop where
 ex:∃(e:Bf.En) (bs:List Nat) (v:V),es[m]?=some e/\o6 H' e.2.1 v/\H' bk=some (.lst (List.map eN bs))/\path=e.2.2++bs.reverse/\fz H' d es/\az H H'/\σ=[some (V.ref a),some (V.int st),some (V.int g),some (V.ref d),some (V.ref bk),some v]
structure Xv (H:Hp) (a d f l:Addr) (st:Int) (t:Nat) (e:Bf.En) (gs:List Int) (es:List Bf.En) (k:Nat) (σ:L2.St) (H':Hp):Prop where
 ex:∃z6 z7,σ=[some (V.ref a),some (V.int st),some (V.ref d),some (V.ref f),some (V.int (t:Int)),some (V.int e.1),z6,z7]
 dr:fz H' d (Bf.fV e.1 e.2.2 0 (gs.take k) es)
 hf:H' f=some (.lst (List.map V.int (Bf.keys (Bf.fV e.1 e.2.2 0 (gs.take k) es))))
 hl:H' l=some (.lst (List.map V.int gs))
 sm:az H H'
noncomputable def Al {α:Type} (R:α->V->Prop):List α->List V->Prop
 | [],[]=>True
 | a::as,v::vs=>R a v/\Al R as vs
 | _,_=>False
theorem Al.length {α:Type} {R:α->V->Prop}:∀{as:List α} {vs:List V},Al R as vs->vs.length=as.length
 | [],[],_=>rfl
 | a::as,v::vs,h=>by simp [Al.length h.2]
theorem Al.imp {α:Type} {R S:α->V->Prop} (f:∀a v,R a v->S a v):∀{as:List α} {vs:List V},Al R as vs->Al S as vs
 | [],[],_=>trivial
 | a::as,v::vs,h=>⟨f _ _ h.1,Al.imp f h.2⟩
theorem Al.append {α:Type} {R:α->V->Prop}:∀{as bs:List α} {us vs:List V},Al R as us->Al R bs vs->Al R (as++bs) (us++vs)
 | [],_,[],_,_,k=>k
 | a::as,_,v::vs,_,h,k=>⟨h.1,Al.append h.2 k⟩
theorem Al.one {α:Type} {R:α->V->Prop} {a:α} {v:V} (h:R a v):Al R [a] [v]:=⟨h,trivial⟩
theorem Aa {α:Type} {H:Hp} {f:α->Dat} {as:List α} {vs:List V} {i:Nat} {v:V} (h:bf H (as.map f) vs) (e:vs[i]?=some v):∃a,as[i]?=some a/\Rep H (f a) v:=by
 obtain⟨d,ed,rd⟩:=h.get e
 rw[aag] at ed
 obtain⟨a,ea,rfl⟩:=Option.map_eq_some_iff.mp ed
 exact⟨a,ea,rd⟩
theorem Al.get {α:Type} {R:α->V->Prop}:∀{as:List α} {vs:List V} {i:Nat} {v:V},Al R as vs->vs[i]?=some v->∃a,as[i]?=some a/\R a v:=by
 intro as
 induction as with
 | nil=>
  intro vs i v h e
  cases vs with
  | nil=>simp at e
  | cons u vs=>exact h.elim
 | cons a as ih=>
  intro vs i v h e
  cases vs with
  | nil=>exact h.elim
  | cons u vs=>
   cases i with
   | zero=>cases e;exact⟨a,rfl,h.1⟩
   | succ i=>exact ih (vs:=vs) (i:=i) h.2 e
theorem Al.at {α:Type} {R:α->V->Prop}:∀{as:List α} {vs:List V} {i:Nat} {a:α},Al R as vs->as[i]?=some a->∃v,vs[i]?=some v/\R a v:=by
 intro as
 induction as with
 | nil=>
  intro vs i v h e
  simp at e
 | cons a as ih=>
  intro vs i v h e
  cases vs with
  | nil=>exact h.elim
  | cons u vs=>
   cases i with
   | zero=>cases e;exact⟨u,rfl,h.1⟩
   | succ i=>exact ih (vs:=vs) (i:=i) h.2 e
theorem Al.of {α:Type} {R:α->V->Prop}:∀{as:List α} {vs:List V},vs.length=as.length->(∀(i:Nat) v a,vs[i]?=some v->as[i]?=some a->R a v)->Al R as vs
 | [],[],_,_=>trivial
 | [],_::_,l,_=>by simp at l
 | _::_,[],l,_=>by simp at l
 | a::as,u::vs,l,h=>⟨h 0 u a rfl rfl,Al.of (by simpa using l) λi v b e1 e2=>h (i+1) v b (by simpa using e1) (by simpa using e2)⟩
namespace Pr
open Bf Lv
noncomputable def kb (b:List Pl) (p:Int):List Int:=keys (steps b p)
noncomputable def In (b:List Pl) (p:Int):Prop:=0<=p/\p<b.length
section Q1
variable {b : List Pl} (gb : Good b)
include gb
theorem nZ {p:Int} (h:In b p):(kb b p).Nodup:=(fy gb h.1 h.2).1.nd
theorem oa {p q:Int} (h:In b p) (hq:q∈kb b p):In b q:=by
 obtain⟨e,he,rfl⟩:=List.mem_map.mp hq
 exact(fy gb h.1 h.2).1.lZ e he
theorem ik {p:Int} (h:In b p):p∈kb b p:=List.mem_map.mpr ⟨_,aae (fy gb h.1 h.2).1.hd,rfl⟩
theorem rn {p q g:Int} (h:In b p) (hq:q∈kb b p) (hg:g∈fj b q):g∈kb b p:=by
 obtain⟨e,he,rfl⟩:=List.mem_map.mp hq
 obtain⟨j,hj⟩:=aaw he
 obtain⟨i,ei,h1,h2,_⟩:=(fy gb h.1 h.2).2 j e hj g hg
 exact List.mem_map.mpr ⟨ei,aae h1,h2⟩
theorem Ab {p:Int} (h:In b p):∀(ws:List Nat) (q r:Int),q∈kb b p->go b q ws=some r->r∈kb b p
 | [],q,r,hq,e=>by cases e;exact hq
 | w::ws,q,r,hq,e=>by
  have e:(match (fj b q)[w]? with | some g=>go b g ws | none=>none)=some r:=e
  cases c:(fj b q)[w]? with
  | none=>rw[c] at e;cases e
  | some g=>rw[c] at e;exact Ab h ws g r (rn gb h hq (aae c)) e
theorem vq {p q:Int} (h:In b p):q∈kb b p↔∃ws,go b p ws=some q:=by
 constructor
 ·intro hq
  obtain⟨e,he,rfl⟩:=List.mem_map.mp hq
  obtain⟨j,hj⟩:=aaw he
  exact⟨_,Cv (fy gb h.1 h.2).1 j e hj⟩
 ·rintro⟨ws,e⟩
  exact Ab gb h ws p q (ik gb h) e
theorem fA {p q r:Int} (h:In b p) (hq:q∈kb b p) (hr:r∈kb b q):r∈kb b p:=by
 obtain⟨ws,e⟩:=(vq gb (oa gb h hq)).mp hr
 exact Ab gb h ws q r hq e
theorem Ac {p:Int} (h:In b p):(kb b p).length<=b.length:=by
 have:=(fy gb h.1 h.2).1.sS
 unfold kb keys
 rw[aac]
 exact this
end Q1
theorem og:∀{l m:List Int},l.Nodup->(∀x∈l,x∈m)->∃r,m.Perm (l++r)
 | [],m,_,_=>⟨m,.refl _⟩
 | x::l,m,nd,h=>by
  obtain⟨n1,n2⟩:=List.nodup_cons.mp nd
  obtain⟨r,p⟩:=og (m:=m.erase x) n2 λy hy=>(List.mem_erase_of_ne (a:=y) (b:=x) λz=>n1 (by rw[<-z];exact hy)).mpr (h y (aak _ hy))
  exact⟨r,(List.perm_cons_erase (h x aaj)).trans (p.cons x)⟩
theorem sub_len {l m:List Int} (hl:l.Nodup) (h:∀x∈l,x∈m):l.length<=m.length:=by
 obtain⟨r,p⟩:=og hl h
 rw[p.length_eq,aaD]
 omega
theorem sub_eq {l m:List Int} (hl:l.Nodup) (hm:m.Nodup) (h:∀x∈l,x∈m) (e:m.length<=l.length):∀x∈m,x∈l:=λx hx=>by
 obtain⟨r,p⟩:=og hl h
 have:=p.length_eq
 rw[aaD] at this
 have:r=[]:=List.length_eq_zero_iff.mp (by omega)
 subst this
 rw[aa6] at p
 exact p.mem_iff.mp hx
noncomputable def dc (b:List Pl) (p:Int):List Int:=(Nm.me (kb b p)).filter λo=>decide (p∈kb b o)
noncomputable def rep (b:List Pl) (p:Int):Int:=(dc b p).headD (-1)
noncomputable def jg (b:List Pl) (n:Nat):List Int:=((List.range n).map fun(i:Nat)=>(i:Int)).filter λp=>decide (rep b p=p)
section Q2
variable {b : List Pl} (gb : Good b)
include gb
omit gb in
theorem dh {p o:Int}:o∈dc b p↔o∈kb b p/\p∈kb b o:=by
 unfold dc
 rw[List.mem_filter,Nm.wd,decide_eq_true_eq]
theorem j7 {p:Int} (h:In b p):(dc b p).Pairwise (·<·):=List.Pairwise.filter _ (Nm.E9 (nZ gb h))
theorem oh {p:Int} (h:In b p):p∈dc b p:=dh.mpr ⟨ik gb h,ik gb h⟩
theorem eJ {p o:Int} (h:In b p) (ho:o∈dc b p):In b o:=oa gb h (dh.mp ho).1
theorem iZ {p:Int} (h:In b p):dc b p≠[]:=List.ne_nil_of_mem (oh gb h)
theorem CK {p o:Int} (ho:o∈dc b p):p∈dc b o:=dh.mpr (dh.mp ho).symm
theorem wG {p o:Int} (h:In b p) (ho:o∈dc b p):∀x,x∈kb b p↔x∈kb b o:=λx=>by
 obtain⟨h1,h2⟩:=dh.mp ho
 exact⟨λhx=>fA gb (oa gb h h1) h2 hx,λhx=>fA gb h h1 hx⟩
theorem wH {p o:Int} (h:In b p) (ho:o∈dc b p):(kb b p).length=(kb b o).length:=by
 have hi:=eJ gb h ho
 exact Nat.le_antisymm (sub_len (nZ gb h) λx hx=>(wG gb h ho x).mp hx) (sub_len (nZ gb hi) λx hx=>(wG gb h ho x).mpr hx)
theorem qc {p o r:Int} (h:In b p) (ho:o∈dc b p) (hr:r∈dc b o):r∈dc b p:=by
 have hi:=eJ gb h ho
 have MC:=eJ gb hi hr
 obtain⟨h1,h2⟩:=dh.mp ho
 obtain⟨h3,h4⟩:=dh.mp hr
 exact dh.mpr ⟨fA gb h h1 h3,fA gb MC h4 h2⟩
omit gb in
theorem Fv {l m:List Int} (hl:l.Pairwise (·<·)) (hm:m.Pairwise (·<·)) (h:∀x,x∈l↔x∈m):l=m:=by
 have p:l.Perm m:=(List.perm_ext_iff_of_nodup (hl.imp λh z=>by omega) (hm.imp λh z=>by omega)).mpr h
 have o1:l.Pairwise (·<=·):=hl.imp λh=>Int.le_of_lt h
 have o2:m.Pairwise (·<=·):=hm.imp λh=>Int.le_of_lt h
 rw[Nm.mh p o1,Nm.u5 o2]
theorem rA {p o:Int} (h:In b p) (ho:o∈dc b p):dc b o=dc b p:=by
 have hi:=eJ gb h ho
 refine Fv (j7 gb hi) (j7 gb h) λx=>⟨λhx=>qc gb h ho hx,λhx=>qc gb hi (CK gb ho) hx⟩
theorem mB {p:Int} (h:In b p):rep b p∈dc b p:=by
 unfold rep
 cases e:dc b p with
 | nil=>exact absurd e (iZ gb h)
 | cons x r=>exact aaj
theorem Fw {p:Int} (h:In b p):In b (rep b p):=eJ gb h (mB gb h)
theorem rC {p:Int} (h:In b p):dc b (rep b p)=dc b p:=rA gb h (mB gb h)
theorem CL {p:Int} (h:In b p):rep b (rep b p)=rep b p:=by
 show(dc b (rep b p)).headD (-1)=_
 rw[rC gb h]
 rfl
theorem rE {p o:Int} (h:In b p) (ho:o∈dc b p):rep b o=rep b p:=by
 show(dc b o).headD (-1)=_
 rw[rA gb h ho]
 rfl
omit gb in
theorem il {n:Nat} {p:Int}:p∈jg b n↔(0<=p/\p<n)/\rep b p=p:=by
 unfold jg
 rw[List.mem_filter,List.mem_map,decide_eq_true_eq]
 constructor
 ·rintro⟨⟨i,hi,rfl⟩,h⟩
  have:=List.mem_range.mp hi
  exact⟨⟨by omega,by omega⟩,h⟩
 ·rintro⟨⟨h1,h2⟩,h⟩
  exact⟨⟨p.toNat,List.mem_range.mpr (by omega),by omega⟩,h⟩
omit gb in
theorem Fx {n:Nat}:(jg b n).Nodup:=by
 refine List.Pairwise.filter _ ?_
 rw[List.pairwise_map]
 exact List.nodup_range.imp λh z=>h (by omega)
omit gb in
theorem wI {n:Nat}:(jg b n).length<=n:=by
 unfold jg
 refine aap (List.length_filter_le _ _) ?_
 rw[aac,aaA]
 exact aah _
omit gb in
theorem tS {n:Nat}:jg b (n+1)=if rep b (n:Int)=(n:Int) then jg b n++ [(n:Int)] else jg b n:=by
 unfold jg
 rw[List.range_succ,aax,List.filter_append]
 by_cases c:rep b (n:Int)=(n:Int)
 ·rw[if_pos c]
  simp [c]
 ·rw[if_neg c]
  simp [c]
theorem CM {p:Int} (h:In b p):rep b p∈jg b b.length:=il.mpr ⟨Fw gb h,CL gb h⟩
end Q2
structure Told (b:List Pl) (ps:List Int):Prop where
 pm:ps.Perm (jg b b.length)
 od:ps.Pairwise λp q=>(kb b p).length<=(kb b q).length
section Q3
variable {b : List Pl} (gb : Good b) {ps : List Int} (T : Told b ps)
include gb T
omit gb in
theorem Told.nd:ps.Nodup:=T.pm.nodup_iff.mpr Fx
omit gb in
theorem Told.ID {p:Int} (h:p∈ps):In b p:=(il.mp (T.pm.mem_iff.mp h)).1
omit gb in
theorem Told.rp {p:Int} (h:p∈ps):rep b p=p:=(il.mp (T.pm.mem_iff.mp h)).2
theorem Told.has {p:Int} (h:In b p):rep b p∈ps:=T.pm.mem_iff.mpr (CM gb h)
theorem Told.Fy {p q:Int} (h:In b p) (hq:q∈kb b p):ps.idxOf (rep b q)<=ps.idxOf (rep b p):=by
 have hi:=oa gb h hq
 have sub:∀x∈kb b q,x∈kb b p:=λx hx=>fA gb h hq hx
 have le:=sub_len (nZ gb hi) sub
 by_cases c:(kb b p).length<=(kb b q).length
 ·have:p∈kb b q:=sub_eq (nZ gb hi) (nZ gb h) sub c p (ik gb h)
  rw[rE gb h (dh.mpr ⟨hq,this⟩)]
  exact aah _
 ·have l1:=aa3 (T.has gb hi)
  have l2:=aa3 (T.has gb h)
  rcases Nat.lt_or_ge (ps.idxOf (rep b p)) (ps.idxOf (rep b q)) with g | g
  ·have od:=List.pairwise_iff_getElem.mp T.od _ _ l2 l1 g
   rw[aa8 l2,aa8 l1,<-wH gb h (mB gb h),<-wH gb hi (mB gb hi)] at od
   omega
  ·exact g
end Q3
noncomputable def gE (b:List Pl):List Int->Nat->List (Int×Int)
 | [],_=>[]
 | p::ps,i=>(dc b p).map (λx=>(x,(i:Int)))++gE b ps (i+1)
theorem kJ (b:List Pl):∀(l m:List Int) (i:Nat),gE b (l++m) i=gE b l i++gE b m (i+l.length)
 | [],m,i=>rfl
 | p::l,m,i=>by
  rw[abr,gE,gE,kJ b l m (i+1),List.append_assoc,aar,show i+1+l.length=i+ (l.length+1) by omega]
theorem jz {b:List Pl} {x j:Int}:∀{ps:List Int} {i:Nat},(x,j)∈gE b ps i↔∃t p,ps[t]?=some p/\x∈dc b p/\j=((i+t:Nat):Int)
 | [],i=>by
  constructor
  ·intro h;cases h
  ·rintro⟨t,p,h,_⟩;simp at h
 | q::ps,i=>by
  rw[gE,List.mem_append,List.mem_map,jz (ps:=ps)]
  constructor
  ·rintro(⟨y,hy,e⟩ | ⟨t,p,h1,h2,h3⟩)
   ·injection e with e1 e2
    subst e1 e2
    exact⟨0,q,rfl,hy,rfl⟩
   ·exact⟨t+1,p,by simpa using h1,h2,by rw[h3];congr 1;omega⟩
  ·rintro⟨t,p,h1,h2,h3⟩
   cases t with
   | zero=>simp at h1;subst h1;exact .inl ⟨x,h2,by rw[h3];rfl⟩
   | succ t=>exact .inr ⟨t,p,by simpa using h1,h2,by rw[h3];congr 1;omega⟩
theorem wJ {b:List Pl} (gb:Good b):∀{ps:List Int} {i:Nat},ps.Nodup->(∀p∈ps,In b p/\rep b p=p)->((gE b ps i).map (·.1)).Nodup
 | [],i,_,_=>List.nodup_nil
 | p::ps,i,nd,h=>by
  obtain⟨n1,n2⟩:=List.nodup_cons.mp nd
  have hp:=h p aaj
  rw[gE,aax,List.nodup_append]
  refine⟨?_,wJ gb n2 λq hq=>h q (aak _ hq),λx hx y hy e=>?_⟩
  ·rw[aaO,show((λx:Int×Int=>x.1) ∘λx=>(x,(i:Int)))=id from rfl,List.map_id]
   exact(j7 gb hp.1).imp λh z=>by omega
  ·rw[aaO,show((λx:Int×Int=>x.1) ∘λx=>(x,(i:Int)))=id from rfl,List.map_id] at hx
   subst e
   obtain⟨⟨x',j⟩,hm,rfl⟩:=List.mem_map.mp hy
   obtain⟨t,q,h1,h2,_⟩:=jz.mp hm
   have hq:=h q (aak _ (aae h1))
   have e1:=rE gb hp.1 hx
   have e2:=rE gb hq.1 h2
   rw[hp.2] at e1
   rw[hq.2] at e2
   have:p=q:=e1.symm.trans e2
   exact n1 (this▸aae h1)
section Q9
variable {b : List Pl} (gb : Good b) {ps : List Int} (T : Told b ps)
include gb T
theorem Told.Fz:((gE b ps 0).map (·.1)).Nodup:=wJ gb T.nd λp hp=>⟨T.ID hp,T.rp hp⟩
theorem Told.CN {x:Int} (h:In b x):(x,((ps.idxOf (rep b x):Nat):Int))∈gE b ps 0:=by
 have hm:=T.has gb h
 refine jz.mpr ⟨ps.idxOf (rep b x),rep b x,?_,?_,by rw[aa1]⟩
 ·have l:=aa3 hm
  rw[aad l,aa8 l]
 ·rw[rC gb h];exact oh gb h
theorem Told.FA {x j:Int} (h:(x,j)∈gE b ps 0):In b x:=by
 obtain⟨t,p,h1,h2,_⟩:=jz.mp h
 exact eJ gb (T.ID (aae h1)) h2
theorem Told.Ad:Nm.me ((gE b ps 0).map (·.1))=(List.range b.length).map fun(i:Nat)=>(i:Int):=by
 refine(Nm.mh ((List.perm_ext_iff_of_nodup ?_ (T.Fz gb)).mpr λx=>?_) ?_).symm
 ·rw[List.nodup_iff_pairwise_ne,List.pairwise_map]
  exact List.nodup_range.imp λh z=>h (by omega)
 ·rw[List.mem_map,List.mem_map]
  constructor
  ·rintro⟨i,hi,rfl⟩
   have:=List.mem_range.mp hi
   exact⟨_,T.CN gb (x:=(i:Int)) ⟨by omega,by omega⟩,rfl⟩
  ·rintro⟨⟨y,j⟩,hy,rfl⟩
   obtain⟨h0,h1⟩:=T.FA gb hy
   exact⟨y.toNat,List.mem_range.mpr (by omega),by show((y.toNat:Nat):Int)=y;omega⟩
 ·rw[List.pairwise_map]
  exact List.pairwise_lt_range.imp λh=>by omega
end Q9
noncomputable def off (b:List Pl) (ps:List Int) (i:Nat):Nat:=(gE b (ps.take i) 0).length
theorem oi {b:List Pl} {ps:List Int} {i:Nat} {p:Int} (e:ps[i]?=some p):off b ps (i+1)=off b ps i+ (dc b p).length:=by
 unfold off
 rw[aaE,e,Option.toList_some,kJ,aaD,gE,gE,aa6,aac]
theorem CO {b:List Pl} {ps:List Int}:off b ps ps.length=(gE b ps 0).length:=by unfold off;rw[aaJ (aah _)]
end Pr
namespace Dg
open Lv Bf
structure Down (b:List Pl) (rk:Int->Nat):Prop where
 good:Good b
 dn:∀(i:Nat) q,b[i]?=some q->∀g∈fL q,rk g<rk (i:Int)
 cP:∀q∈b,∀g ws,q=.cP g ws->ws≠[]
section DA
variable {b : List Pl} {rk : Int -> Nat} (D : Down b rk)
include D
end DA
end Dg
namespace Dg
abbrev Sh:=Wq.Sh
abbrev Wy:=List (Int×Int)
noncomputable def vl (x:Sh):Rat:=(x.1:Rat) / (x.2:Rat)
theorem si {a:Int} (h:0<a):(a:Rat)≠0:=λz=>by
 have:a=0:=Rat.intCast_inj.mp z
 omega
theorem tT {x:Sh} {a b:Int} (hx:0<x.2) (hb:0<b) (h:x.1*b=a*x.2):vl x=(a:Rat) / (b:Rat):=by
 have h1:=si hx
 have h2:=si hb
 have h3:(x.1:Rat)* (b:Rat)=(a:Rat)* (x.2:Rat):=by rw[<-Rat.intCast_mul,<-Rat.intCast_mul,h]
 unfold vl
 generalize (x.1:Rat)=u at *
 generalize (x.2:Rat)=v at *
 generalize (a:Rat)=s at *
 generalize (b:Rat)=t at *
 grind
theorem rF {a b:Int} (h:0<b):vl (Wq.low a b)=(a:Rat) / (b:Rat):=tT (Wq.nR h).1 h (Nm.sU a b)
theorem oj {x y:Sh} (hx:0<x.2) (hy:0<y.2):vl (Wq.pl x y)=vl x+vl y:=by
 unfold Wq.pl
 rw[rF (aa7 hx hy)]
 have h1:=si hx
 have h2:=si hy
 rw[Rat.intCast_add,Rat.intCast_mul,Rat.intCast_mul,Rat.intCast_mul]
 unfold vl
 generalize (x.1:Rat)=u at *
 generalize (x.2:Rat)=v at *
 generalize (y.1:Rat)=s at *
 generalize (y.2:Rat)=t at *
 grind
theorem IE {x y:Sh} (hx:0<x.2) (hy:0<y.2):vl (Wq.tm x y)=vl x*vl y:=by
 unfold Wq.tm
 rw[rF (aa7 hx hy)]
 have h1:=si hx
 have h2:=si hy
 rw[Rat.intCast_mul,Rat.intCast_mul]
 unfold vl
 generalize (x.1:Rat)=u at *
 generalize (x.2:Rat)=v at *
 generalize (y.1:Rat)=s at *
 generalize (y.2:Rat)=t at *
 grind
theorem vt {x y:Sh} (hx:Wq.Lw x) (hy:Wq.Lw y) (h:vl x=vl y):x=y:=by
 have h1:=si hx.1
 have h2:=si hy.1
 have c:(x.1:Rat)* (y.2:Rat)=(y.1:Rat)* (x.2:Rat):=by
  unfold vl at h
  generalize (x.1:Rat)=u at *
  generalize (x.2:Rat)=v at *
  generalize (y.1:Rat)=s at *
  generalize (y.2:Rat)=t at *
  grind
 rw[<-Rat.intCast_mul,<-Rat.intCast_mul] at c
 obtain⟨a,b⟩:=Nm.Cm hx.1 hy.1 hx.2 hy.2 (Rat.intCast_inj.mp c)
 exact Prod.ext a b
noncomputable def tt (ws:Wy):Int:=if ws=[] then 1 else Wq.cH ws
theorem cU (x:Int×Int) (ws:Wy):Wq.cH (x::ws)=x.1+Wq.cH ws:=rfl
noncomputable def cL (d:Int) (v:Int->Rat):Wy->Rat
 | []=>0
 | x::ws=>(x.1:Rat) / (d:Rat)*v x.2+cL d v ws
theorem oq {d:Int} {v v':Int->Rat}:∀{ws:Wy},(∀x∈ws,v x.2=v' x.2)->cL d v ws=cL d v' ws
 | [],_=>rfl
 | x::ws,h=>by
  unfold cL
  rw[h x aaj,oq λy hy=>h y (aak _ hy)]
abbrev Bk:=List Int×Int
noncomputable def val (S:Bk) (q:Int):Rat:=(S.1.getD q.toNat 0:Rat) / (S.2:Rat)
noncomputable def gF (ts:List Int) (ws:Wy):Int:=(ws.map λx=>x.1*ts.getD x.2.toNat 0).sum
theorem rG (ts:List Int) (d:Int) (q:Nat):(ts.map (·*d)).getD q 0=ts.getD q 0*d:=by
 rw[aaf,aaf,aag]
 cases ts[q]? with
 | none=>show(0:Int)=0*d;omega
 | some x=>rfl
theorem eV {ts:List Int} {p q:Nat} {x:Int} (h:p≠q):(ts.set p x).getD q 0=ts.getD q 0:=by
 rw[aaf,aaf,aaH h]
theorem gS {ts:List Int} {p:Nat} {x:Int} (h:p<ts.length):(ts.set p x).getD p 0=x:=by
 rw[aaf,aaW h]
 rfl
theorem tU {S:Bk} (B0:0<S.2) {d:Int} (d0:0<d):∀ws:Wy,(gF S.1 ws:Rat) / ((S.2*d:Int):Rat)=cL d (val S) ws
 | []=>by show((0:Int):Rat) / _=0;grind
 | x::ws=>by
  have ih:=tU B0 d0 ws
  have h1:=si B0
  have h2:=si d0
  show(((x.1*S.1.getD x.2.toNat 0+gF S.1 ws:Int)):Rat) / ((S.2*d:Int):Rat)=(x.1:Rat) / (d:Rat)* ((S.1.getD x.2.toNat 0:Rat) / (S.2:Rat))+cL d (val S) ws
  rw[<-ih,Rat.intCast_add,Rat.intCast_mul,Rat.intCast_mul]
  generalize (x.1:Rat)=u at *
  generalize (S.2:Rat)=v at *
  generalize (d:Rat)=t at *
  generalize ((S.1.getD x.2.toNat 0:Int):Rat)=s at *
  generalize ((gF S.1 ws:Int):Rat)=r at *
  grind
end Dg
namespace Dg
theorem K4:((1:Int):Rat) / ((1:Int):Rat)=1:=by
 have:((1:Int):Rat)=1:=rfl
 grind
theorem MP:((0:Int):Rat) / ((1:Int):Rat)=0:=by
 have:((0:Int):Rat)=0:=rfl
 grind
noncomputable def pr (d:Int) (q:Int):Wy->Rat
 | []=>0
 | x::ws=>(if x.2=q then (x.1:Rat) / (d:Rat) else 0)+pr d q ws
noncomputable def Runs (W:Int->Wy):List Int->(Int->Rat)->(Int->Rat)->Prop
 | [],f,g=>∀q,0<=q->g q=f q
 | p::os,f,g=>∃f1,(∀q,0<=q->f1 q=f q+f p*pr (tt (W p)) q (W p))/\Runs W os f1 g
noncomputable def i3 (q:Int) (ws:Wy):Int:=(ws.map λx=>if x.2=q then x.1 else 0).sum
end Dg
namespace Dg
structure Wst (n:Nat) (G:Int) (i:Nat) (S:Bk):Prop where
 len:S.1.length=n
 pos:0<S.2
 dv:G∣S.2
 bb:Bt (4*i+4) S.2
 bt:∀q,(S.1.getD q 0).natAbs<=S.2.toNat * (6*i)
structure Vst (n:Nat) (i:Nat) (S:Bk):Prop where
 len:S.1.length=n
 pos:0<S.2
 bb:Bt (4*i+1) S.2
 bt:∀q,(S.1.getD q 0).natAbs<=32^i
end Dg
namespace Dg
noncomputable def dX (v:Int->Int):Wy->Int
 | []=>0
 | x::ws=>x.1*v x.2+dX v ws
theorem rH {v:Int->Int} {M:Nat}:∀{ws:Wy},(∀x∈ws,1<=x.1/\(v x.2).natAbs<=M)->(dX v ws).natAbs<=(Wq.cH ws).toNat *M/\0<=Wq.cH ws
 | [],_=>⟨aas _,aa4 _⟩
 | x::ws,h=>by
  obtain⟨h1,h2⟩:=h x aaj
  obtain⟨i1,i2⟩:=rH (ws:=ws) λy hy=>h y (aak _ hy)
  have m1:(x.1*v x.2).natAbs<=x.1.toNat *M:=by
   rw[aaL,show x.1.natAbs=x.1.toNat by omega]
   exact aby _ h2
  have e:(Wq.cH (x::ws)).toNat=x.1.toNat+ (Wq.cH ws).toNat:=by rw[cU];omega
  refine⟨?_,by rw[cU];omega⟩
  rw[e,Nat.add_mul]
  show(x.1*v x.2+dX v ws).natAbs<=_
  omega
theorem wK {v:Int->Int} {M:Nat}:∀{ws:Wy},(∀x∈ws,1<=x.1/\(v x.2).natAbs<=M)->(∃x∈ws,(v x.2).natAbs<M)->(dX v ws).natAbs< (Wq.cH ws).toNat *M
 | [],_,h=>by obtain⟨x,hx,_⟩:=h;simp at hx
 | x::ws,h,k=>by
  obtain⟨h1,h2⟩:=h x aaj
  have hw:∀y∈ws,1<=y.1/\(v y.2).natAbs<=M:=λy hy=>h y (aak _ hy)
  obtain⟨i1,i2⟩:=rH hw
  have e:(Wq.cH (x::ws)).toNat=x.1.toNat+ (Wq.cH ws).toNat:=by rw[cU];omega
  have ab:(x.1*v x.2).natAbs=x.1.toNat * (v x.2).natAbs:=by rw[aaL,show x.1.natAbs=x.1.toNat by omega]
  have m1:x.1.toNat * (v x.2).natAbs<=x.1.toNat *M:=aby _ h2
  rw[e,Nat.add_mul]
  show(x.1*v x.2+dX v ws).natAbs<_
  obtain⟨y,hy,ly⟩:=k
  rcases List.mem_cons.mp hy with rfl | hy
  ·have:y.1.toNat * (v y.2).natAbs<y.1.toNat *M:=Nat.mul_lt_mul_of_pos_left ly (by omega)
   omega
  ·have:=wK hw ⟨y,hy,ly⟩
   omega
theorem wL (v:Int->Int):∀(ps:List Int),ps≠[]->∃q∈ps,∀p∈ps,(v p).natAbs<=(v q).natAbs
 | [],h=>absurd rfl h
 | [a],_=>⟨a,List.mem_singleton.mpr rfl,λp hp=>by rw[List.mem_singleton.mp hp];exact aah _⟩
 | a::b::l,_=>by
  obtain⟨q,hq,h⟩:=wL v (b::l) (by simp)
  by_cases c:(v q).natAbs<=(v a).natAbs
  ·refine⟨a,aaj,λp hp=>?_⟩
   rcases List.mem_cons.mp hp with rfl | hp
   ·exact aah _
   ·exact aap (h p hp) c
  ·refine⟨q,aak _ hq,λp hp=>?_⟩
   rcases List.mem_cons.mp hp with rfl | hp
   ·omega
   ·exact h p hp
theorem yp {ps:List Int} {W:Int->Wy} {lv:Int->Nat} {v:Int->Int} (h:∀p∈ps,tt (W p)*v p=dX v (W p)) (pos:∀p∈ps,∀x∈W p,1<=x.1) (out:∀q,q∉ps->v q=0) (dn:∀p∈ps,W p=[]\/∃x∈W p,lv x.2<lv p):∀p∈ps,v p=0:=by
 intro p0 G5
 obtain⟨q,hq,mx⟩:=wL v ps (List.ne_nil_of_mem G5)
 have all:∀r,(v r).natAbs<=(v q).natAbs:=λr=>by
  by_cases c:r∈ps
  ·exact mx r c
  ·rw[out r c];exact aas _
 by_cases M0:(v q).natAbs=0
 ·have:=mx p0 G5
  omega
 ·exfalso
  have low:∀n,∀p∈ps,lv p<n->(v p).natAbs< (v q).natAbs:=by
   intro n
   induction n with
   | zero=>exact λp _ hl=>absurd hl (abc _)
   | succ n ih=>
    intro p hp hl
    have e:=h p hp
    rcases dn p hp with z | ⟨x,hx,lx⟩
    ·rw[z] at e
     have e:1*v p=0:=e
     omega
    ·have k:=wK (v:=v) (M:=(v q).natAbs) (ws:=W p) (λy hy=>⟨pos p hp y hy,all _⟩) ⟨x,hx,by
      by_cases c:x.2∈ps
      ·exact ih _ c (by omega)
      ·rw[out _ c];show 0<_;omega⟩
     have et:tt (W p)=Wq.cH (W p):=by unfold tt;rw[if_neg (List.ne_nil_of_mem hx)]
     have tp:=(rH (v:=v) (M:=(v q).natAbs) (ws:=W p) λy hy=>⟨pos p hp y hy,all _⟩).2
     rw[<-e,aaL,et,show(Wq.cH (W p)).natAbs=(Wq.cH (W p)).toNat by omega] at k
     exact Nat.lt_of_mul_lt_mul_left k
  exact aaF _ (low _ q hq (aaK _))
end Dg
namespace aS
abbrev Fm:=Nat->Int
noncomputable def X (w:Fm) (F:List Nat->Int):List Nat->Int
 | []=>0
 | c::cs=>w c*F cs - X w (λl=>F (c::l)) cs
noncomputable def D:List Fm->List Nat->Int
 | [],[]=>1
 | [],_::_=>0
 | w::rs,cs=>X w (D rs) cs
theorem mC (w:Fm):∀(cs:List Nat) (F G:List Nat->Int),X w (λl=>F l+G l) cs=X w F cs+X w G cs
 | [],_,_=>rfl
 | c::cs,F,G=>by
  simp only[X]
  rw[mC w cs (λl=>F (c::l)) (λl=>G (c::l)),Int.mul_add]
  omega
theorem mE (w:Fm) (k:Int):∀(cs:List Nat) (F:List Nat->Int),X w (λl=>k*F l) cs=k*X w F cs
 | [],_=>(Int.mul_zero k).symm
 | c::cs,F=>by
  simp only[X]
  rw[mE w k cs (λl=>F (c::l)),Int.mul_sub,<-aaU,<-aaU,aaC k (w c)]
theorem tV (w:Fm):∀(cs:List Nat),X w (λ_=>0) cs=0
 | []=>rfl
 | c::cs=>by simp only[X];rw[tV w cs];simp
theorem CP (w:Fm) (cs:List Nat) (F:List Nat->Int):X w (λl=> - F l) cs= - X w F cs:=by
 have:=mE w (-1) cs F
 rw[Int.neg_one_mul] at this
 rw[<-this]
 congr 1;funext l;rw[Int.neg_one_mul]
theorem fY (v w:Fm):∀(cs:List Nat) (F:List Nat->Int),X (λc=>v c+w c) F cs=X v F cs+X w F cs
 | [],_=>rfl
 | c::cs,F=>by
  simp only[X]
  rw[fY v w cs (λl=>F (c::l)),Int.add_mul]
  omega
theorem ir (k:Int) (w:Fm):∀(cs:List Nat) (F:List Nat->Int),X (λc=>k*w c) F cs=k*X w F cs
 | [],_=>(Int.mul_zero k).symm
 | c::cs,F=>by
  simp only[X]
  rw[ir k w cs (λl=>F (c::l)),Int.mul_sub,aaU]
theorem rJ {v w:Fm}:∀{cs:List Nat} {F:List Nat->Int},(∀c∈cs,v c=w c)->X v F cs=X w F cs
 | [],_,_=>rfl
 | c::cs,F,h=>by
  simp only[X]
  rw[h c (aaj ..),rJ (cs:=cs) λc' hc=>h c' (aak _ hc)]
theorem qd {w:Fm}:∀{cs:List Nat} {F:List Nat->Int},(∀c∈cs,w c=0)->X w F cs=0
 | [],_,_=>rfl
 | c::cs,F,h=>by
  simp only[X]
  rw[h c (aaj ..),qd (cs:=cs) λc' hc=>h c' (aak _ hc)]
  simp
theorem Ae (w:Fm):∀(cs:List Nat) (F:List Nat->Int),X w (X w F) cs=0
 | [],_=>rfl
 | c::cs,F=>by
  simp only[X]
  have e:=mC w cs (λl=>w c*F l) (λl=> - X w (λm=>F (c::m)) l)
  have e2:X w (λl=>w c*F l - X w (λm=>F (c::m)) l) cs=X w (λl=>w c*F l+- X w (λm=>F (c::m)) l) cs:=by
   congr 1
  rw[e2,e,mE,CP,Ae w cs λm=>F (c::m)]
  omega
theorem Af (v w:Fm) (cs:List Nat) (F:List Nat->Int):X v (X w F) cs= - X w (X v F) cs:=by
 have e:=Ae (λc=>v c+w c) cs F
 have e1:X (λc=>v c+w c) F=λl=>X v F l+X w F l:=by funext l;exact fY v w l F
 rw[e1,fY,mC,mC,Ae,Ae] at e
 omega
theorem wM {w:Fm}:∀{rs:List Fm} (_:w∈rs) (cs:List Nat),D (w::rs) cs=0
 | u::rs,h,cs=>by
  rcases List.mem_cons.mp h with rfl | h
  ·exact Ae _ _ _
  ·show X w (X u (D rs)) cs=0
   rw[Af]
   have e:X w (D rs)=λ_=>0:=by funext l;exact wM h l
   rw[e,tV]
   rfl
noncomputable def Sp:List Fm->Fm->Prop
 | [],f=>∀j,f j=0
 | w::rs,f=>∃(c:Int) (g:Fm),Sp rs g/\∀j,f j=c*w j+g j
theorem Sp.congr {f g:Fm}:∀{rs:List Fm},Sp rs f->(∀j,f j=g j)->Sp rs g
 | [],h,e=>λj=>by rw[<-e];exact h j
 | w::rs,⟨c,k,hk,e1⟩,e=>⟨c,k,hk,λj=>by rw[<-e];exact e1 j⟩
theorem Sp.zero:∀{rs:List Fm},Sp rs (λ_=>0)
 | []=>λ_=>rfl
 | _::_=>⟨0,_,Sp.zero,λj=>by simp⟩
theorem Sp.add {f g:Fm}:∀{rs:List Fm},Sp rs f->Sp rs g->Sp rs (λj=>f j+g j)
 | [],h,k=>λj=>by show f j+g j=0;rw[h j,k j];rfl
 | w::rs,⟨c,f',hf,e1⟩,⟨d,g',hg,e2⟩=>⟨c+d,_,hf.add hg,λj=>by show f j+g j=_;rw[e1,e2,Int.add_mul];omega⟩
theorem Sp.mul {f:Fm} (k:Int):∀{rs:List Fm},Sp rs f->Sp rs (λj=>k*f j)
 | [],h=>λj=>by show k*f j=0;rw[h j,Int.mul_zero]
 | w::rs,⟨c,f',hf,e1⟩=>⟨k*c,_,hf.mul k,λj=>by show k*f j=_;rw[e1,Int.mul_add,aaU]⟩
theorem Sp.X {rs:List Fm} (w:Fm):∀(cs:List Nat) (F:Nat->List Nat->Int),(∀l,Sp rs (λj=>F j l))->Sp rs (λj=>aS.X w (F j) cs)
 | [],_,_=>Sp.zero
 | c::cs,F,h=>by
  have h1:=(h cs).mul (w c)
  have h2:=(Sp.X w cs (λj l=>F j (c::l)) (λl=>h (c::l))).mul (-1)
  exact(h1.add h2).congr λj=>by simp only[aS.X];rw[Int.neg_one_mul];omega
theorem IF:∀(rs:List Fm) (l:List Nat),Sp rs (λj=>D rs (j::l))
 | [],l=>λj=>rfl
 | w::rs,l=>by
  refine⟨D rs l,_,(Sp.X w l (λj m=>D rs (j::m)) λm=>IF rs m).mul (-1),λj=>?_⟩
  show w j*D rs l - X w (λm=>D rs (j::m)) l=_
  rw[Int.neg_one_mul,aaC]
  omega
theorem Ag {us:List Fm}:∀{rs:List Fm} {g:Fm},Sp rs g->(∀r∈rs,r∈us)->∀cs,D (g::us) cs=0
 | [],g,h,_,cs=>qd λc _=>h c
 | w::rs,g,⟨c,g',h,e⟩,hs,cs=>by
  have e':g=λj=>c*w j+g' j:=funext e
  show X g (D us) cs=0
  rw[e',fY,ir]
  have z1:X w (D us) cs=0:=wM (hs w (aaj ..)) cs
  have z2:X g' (D us) cs=0:=Ag h (λr hr=>hs r (aak _ hr)) cs
  rw[z1,z2];simp
theorem MQ (rs:List Fm) (cs:List Nat) (v:Fm):Sp rs (λj=>D rs cs*v j+- D (v::rs) (j::cs)):=by
 refine(Sp.X v cs (λj m=>D rs (j::m)) λm=>IF rs m).congr λj=>?_
 show _=D rs cs*v j+- (v j*D rs cs - X v (λm=>D rs (j::m)) cs)
 rw[aaC]
 omega
theorem main (rs:List Fm) (cs:List Nat) (u v:Fm) (j k:Nat) (h:∀c∈cs,D (v::rs) (c::cs)=0):
  D rs cs*D (v::u::rs) (j::k::cs)=D (u::rs) (k::cs)*D (v::rs) (j::cs) - D (v::rs) (k::cs)*D (u::rs) (j::cs):=by
 have s:=MQ rs cs v
 have z:=Ag (us:=u::rs) s (λr hr=>aak _ hr) (j::k::cs)
 have z':X (λj=>D rs cs*v j+- D (v::rs) (j::cs)) (D (u::rs)) (j::k::cs)=0:=z
 have e1:D rs cs*D (v::u::rs) (j::k::cs)=X (λj=>D rs cs*v j) (D (u::rs)) (j::k::cs):=(ir _ _ _ _).symm
 have e2:X (λj=>D rs cs*v j+- D (v::rs) (j::cs)) (D (u::rs)) (j::k::cs)=X (λj=>D rs cs*v j) (D (u::rs)) (j::k::cs)+X (λj=> - D (v::rs) (j::cs)) (D (u::rs)) (j::k::cs):=fY _ _ _ _
 have e3:X (λj=> - D (v::rs) (j::cs)) (D (u::rs)) (j::k::cs)= - D (v::rs) (j::cs)*D (u::rs) (k::cs) - (- D (v::rs) (k::cs)*D (u::rs) (j::cs) - X (λj=> - D (v::rs) (j::cs)) (λl=>D (u::rs) (j::k::l)) cs):=rfl
 have e4:X (λj=> - D (v::rs) (j::cs)) (λl=>D (u::rs) (j::k::l)) cs=0:=qd λc hc=>by rw[h c hc];rfl
 rw[e1]
 rw[e2,e3,e4] at z'
 rw[Int.neg_mul,Int.neg_mul] at z'
 rw[aaC (D (u::rs) (k::cs))]
 omega
noncomputable def Good:List Fm->List Nat->Prop
 | [],[]=>True
 | u::rs,k::cs=>Good rs cs/\D (u::rs) (k::cs)≠0
 | _,_=>False
theorem Good.ne:∀{rs:List Fm} {cs:List Nat},Good rs cs->D rs cs≠0
 | [],[],_=>by show(1:Int)≠0;decide
 | _::_,_::_,h=>h.2
 | [],_::_,h=>h.elim
 | _::_,[],h=>h.elim
theorem Good.K6:∀{rs:List Fm} {cs:List Nat},Good rs cs->∀(v:Fm) (c:Nat),c∈cs->D (v::rs) (c::cs)=0
 | [],[],_,_,_,hc=>by cases hc
 | u::rs,k::cs,h,v,c,hc=>by
  have hm:=main rs cs u v c k (λc hc=>h.1.K6 v c hc)
  have hz:D (u::rs) (k::cs)*D (v::rs) (c::cs) - D (v::rs) (k::cs)*D (u::rs) (c::cs)=0:=by
   rcases List.mem_cons.mp hc with rfl | hc
   ·rw[aaC];omega
   ·rw[h.1.K6 v c hc,h.1.K6 u c hc];simp
  rw[hz] at hm
  rcases Int.mul_eq_zero.mp hm with h0 | h0
  ·exact absurd h0 h.1.ne
  ·exact h0
 | [],_::_,h,_,_,_=>h.elim
 | _::_,[],h,_,_,_=>h.elim
theorem Ah {rs:List Fm} {cs:List Nat} (g:Good rs cs) (u v:Fm) (j k:Nat):
  D (u::rs) (k::cs)*D (v::rs) (j::cs) - D (v::rs) (k::cs)*D (u::rs) (j::cs)=D rs cs*D (v::u::rs) (j::k::cs):=
 (main rs cs u v j k (λc hc=>g.K6 v c hc)).symm
noncomputable def dn:Nat->List Nat
 | 0=>[]
 | k+1=>k::dn k
theorem j8:∀{n c:Nat},c∈dn n↔c<n
 | 0,c=>by simp [dn]
 | n+1,c=>by rw[dn,List.mem_cons,j8];omega
theorem j9:∀n,(dn n).length=n
 | 0=>rfl
 | n+1=>by rw[dn,aar,j9]
noncomputable def ng (i:Nat):Fm:=λc=>if c=i then -1 else 0
theorem Ai (rs:List Fm) (u:Fm) (j k:Nat) (h:k<j):
  D (ng k::u::rs) (j::k::dn k)=D (u::rs) (j::dn k):=by
 show ng k j*D (u::rs) (k::dn k) - (ng k k*D (u::rs) (j::dn k) - X (ng k) (λl=>D (u::rs) (j::k::l)) (dn k))=_
 rw[qd (w:=ng k) λc hc=>by have:=j8.mp hc;exact if_neg (by omega)]
 have a:ng k j=0:=if_neg (by omega)
 have b:ng k k= -1:=if_pos rfl
 rw[a,b]
 omega
noncomputable def sm:Nat->(Nat->Int)->Int
 | 0,_=>0
 | n+1,f=>sm n f+f n
theorem DX (u:Fm) (F:List Nat->Int) (cs:List Nat):∀n,sm n (λi=>u i*X (ng i) F cs)=X (λc=>if c<n then - u c else 0) F cs
 | 0=>by
  show 0=_
  exact(qd λc _=>if_neg (by omega)).symm
 | n+1=>by
  show sm n _+u n*X (ng n) F cs=_
  rw[DX u F cs n,<-ir,<-fY]
  refine rJ λc _=>?_
  show(if c<n then - u c else 0)+u n* (if c=n then -1 else 0)=_
  by_cases e:c=n
  ·subst e
   rw[if_neg (by omega),if_pos rfl,if_pos (by omega)]
   omega
  ·rw[if_neg e]
   by_cases l:c<n
   ·rw[if_pos l,if_pos (by omega)];simp
   ·rw[if_neg l,if_neg (by omega)];simp
theorem Aj (rs:List Fm) (u:Fm) (k:Nat):
  sm k (λi=>u i*D (ng i::rs) (k::dn k))=u k*D rs (dn k) - D (u::rs) (k::dn k):=by
 have e:=DX u (D rs) (k::dn k) k
 have e1:X (λc=>if c<k then - u c else 0) (D rs) (k::dn k)=X (λc=>(-1)*u c+u k* (if c=k then 1 else 0)) (D rs) (k::dn k):=by
  refine rJ λc hc=>?_
  rcases List.mem_cons.mp hc with rfl | hc
  ·rw[if_neg (by omega),if_pos rfl];omega
  ·have:=j8.mp hc
   rw[if_pos this,if_neg (by omega)];omega
 have e2:X (λc=>if c=k then (1:Int) else 0) (D rs) (k::dn k)=D rs (dn k):=by
  show(if k=k then (1:Int) else 0)*D rs (dn k) - X (λc=>if c=k then (1:Int) else 0) (λl=>D rs (k::l)) (dn k)=_
  rw[if_pos rfl,qd λc hc=>by have:=j8.mp hc;exact if_neg (by omega)]
  omega
 have e3:sm k (λi=>u i*D (ng i::rs) (k::dn k))=sm k (λi=>u i*X (ng i) (D rs) (k::dn k)):=rfl
 rw[e3,e,e1,fY,ir,ir,e2]
 show(-1)*D (u::rs) (k::dn k)+u k*D rs (dn k)=_
 omega
theorem perm {rs us:List Fm} (h:rs.Perm us):∃s:Int,(s=1\/s= -1)/\∀cs,D rs cs=s*D us cs:=by
 induction h with
 | nil=>exact⟨1,.inl rfl,λcs=>(Int.one_mul _).symm⟩
 | cons w _ ih=>
  obtain⟨s,h,e⟩:=ih
  refine⟨s,h,λcs=>?_⟩
  show X w _ cs=s*X w _ cs
  rw[<-mE]
  congr 1
  funext l
  exact e l
 | swap x y l=>exact⟨-1,.inr rfl,λcs=>by rw[Int.neg_one_mul];exact Af _ _ _ _⟩
 | trans _ _ Xw K8=>
  obtain⟨s,h,e⟩:=Xw
  obtain⟨t,k,f⟩:=K8
  refine⟨s*t,?_,λcs=>by rw[e,f,aaU]⟩
  rcases h with rfl | rfl <;>rcases k with rfl | rfl <;>decide
theorem CQ {rs us:List Fm} (h:rs.Perm us) (cs:List Nat):D rs cs≠0↔D us cs≠0:=by
 obtain⟨s,hs,e⟩:=perm h
 rw[e]
 rcases hs with rfl | rfl <;>omega
theorem fB {f g:Nat->Int}:∀{n},(∀i,i<n->f i=g i)->sm n f=sm n g
 | 0,_=>rfl
 | n+1,h=>by show sm n f+f n=sm n g+g n;rw[fB λi hi=>h i (by omega),h n (by omega)]
theorem vv (f g:Nat->Int):∀n,sm n (λi=>f i+g i)=sm n f+sm n g
 | 0=>rfl
 | n+1=>by show sm n _+ (f n+g n)=sm n f+f n+ (sm n g+g n);rw[vv f g n];omega
theorem ot (k:Int) (f:Nat->Int):∀n,sm n (λi=>k*f i)=k*sm n f
 | 0=>(Int.mul_zero k).symm
 | n+1=>by show sm n _+k*f n=k* (sm n f+f n);rw[ot k f n,Int.mul_add]
theorem wN:∀n,sm n (λ_=>0)=0
 | 0=>rfl
 | n+1=>by show sm n _+0=0;rw[wN n];rfl
theorem Ak (g:Nat->Int) (t:Nat):∀n,sm n (λj=>g j* (if j=t then 1 else 0))=if t<n then g t else 0
 | 0=>by rw[if_neg (by omega)];rfl
 | n+1=>by
  show sm n _+g n* (if n=t then 1 else 0)=_
  rw[Ak g t n]
  by_cases e:n=t
  ·subst e;rw[if_neg (by omega),if_pos rfl,if_pos (by omega)];omega
  ·rw[if_neg e]
   by_cases l:t<n
   ·rw[if_pos l,if_pos (by omega)];omega
   ·rw[if_neg l,if_neg (by omega)];omega
end aS
namespace aS
noncomputable def pβ (β:Nat->Nat):List Nat->Nat
 | []=>1
 | c::cs=>β c*pβ β cs
theorem IG {w:Fm} {β:Nat->Nat} (hw:∀c,(w c).natAbs<=β c):∀(cs:List Nat) (M:Nat) (F:List Nat->Int),(∀l,l.length+1=cs.length->(F l).natAbs<=M*pβ β l)->(X w F cs).natAbs<=cs.length* (M*pβ β cs)
 | [],_,_,_=>by simp [X]
 | c::cs,M,F,h=>by
  simp only[X]
  have h1:=aaL (w c) (F cs)
  have h2:=abi (hw c) (h cs rfl)
  have h3:=IG hw cs (M*β c) (λl=>F (c::l)) (λl hl=>by
   have:=h (c::l) (by simp only[aar];omega)
   rw[pβ,<-Nat.mul_assoc] at this
   exact this)
  have h4:=Int.natAbs_sub_le (w c*F cs) (X w (λl=>F (c::l)) cs)
  have e:M*pβ β (c::cs)=β c* (M*pβ β cs):=by rw[pβ];grind
  have e2:M*β c*pβ β cs=β c* (M*pβ β cs):=by grind
  rw[aar,Nat.add_mul,Nat.one_mul,e]
  rw[e2] at h3
  omega
theorem FC {β:Nat->Nat} {N:Nat}:∀{rs:List Fm} (cs:List Nat),(∀w∈rs,∀c,(w c).natAbs<=β c)->cs.length<=N->(D rs cs).natAbs<=N^rs.length*pβ β cs
 | [],[],_,_=>by simp [D,pβ]
 | [],_::_,_,_=>by simp [D]
 | w::rs,cs,h,hl=>by
  have h1:=IG (h w (aaj ..)) cs (N^rs.length) (D rs) (λl qS=>FC l (λw hw=>h w (aak _ hw)) (by omega))
  show(X w (D rs) cs).natAbs<=_
  rw[aar,Nat.pow_succ,Nat.mul_comm (N^_),Nat.mul_assoc]
  exact aap h1 (Nat.mul_le_mul_right _ hl)
end aS
namespace aS
noncomputable def fo (r:List Int):Fm:=λc=>r.getD c 0
noncomputable def bQ (v:Fm) (rs:List Fm) (k m:Nat):List Int:=(List.range (m - k)).map λt=>D (v::rs) ((k+t)::dn k)
theorem du (v:Fm) (rs:List Fm) (k m:Nat):(bQ v rs k m).length=m - k:=by simp [bQ]
theorem yq {v:Fm} {rs:List Fm} {k m t:Nat} (h:k+t<m):(bQ v rs k m)[t]?=some (D (v::rs) ((k+t)::dn k)):=by
 unfold bQ
 rw[aag,aa2 (by omega)]
 rfl
theorem IH (v:Fm) (t:Nat):D [v] [t]=v t:=by
 show v t*1 - 0=v t
 omega
theorem vx {r:List Int} {m:Nat} (h:r.length=m):bQ (fo r) [] 0 m=r:=by
 refine aaN λi=>?_
 by_cases l:i<m
 ·rw[yq (by omega),aad (by omega)]
  show some (D [fo r] [0+i])=_
  rw[IH,aa1]
  simp [fo,aaf,aad (show i<r.length by omega)]
 ·rw[aaq (by rw[du];omega),aaq (by omega)]
theorem dj {k m:Nat} (h:k<m) (v:Fm) (rs:List Fm):bQ v rs k m=D (v::rs) (k::dn k)::(List.range (m - (k+1))).map λt=>D (v::rs) ((k+1+t)::dn k):=by
 unfold bQ
 rw[show m - k=(m - (k+1))+1 by omega,List.range_succ_eq_map,aat,aaO]
 congr 1
 refine abw λt _=>?_
 show D (v::rs) ((k+ (t+1))::dn k)=_
 rw[show k+ (t+1)=k+1+t by omega]
theorem CS {k m:Nat} (h:k<m) (u:Fm) (rs:List Fm):(bQ u rs k m).tail=bQ (ng k) (u::rs) (k+1) m:=by
 rw[dj h,List.tail_cons]
 unfold bQ
 refine abw λt _=>?_
 exact(Ai rs u (k+1+t) k (by omega)).symm
theorem zipWith_map {α:Type} (f:Int->Int->Int) (g h:α->Int):∀l:List α,List.zipWith f (l.map g) (l.map h)=l.map λa=>f (g a) (h a)
 | []=>rfl
 | a::l=>by simp only[aat,List.zipWith_cons_cons,zipWith_map f g h l]
theorem Am {k m:Nat} (h:k<m) {rs:List Fm} (G:Good rs (dn k)) (u v:Fm):
  List.zipWith (λone other=>(D (u::rs) (k::dn k)*one - D (v::rs) (k::dn k)*other).fdiv (D rs (dn k))) (bQ v rs k m).tail (bQ u rs k m).tail=bQ v (u::rs) (k+1) m:=by
 rw[dj h,dj h,List.tail_cons,List.tail_cons,zipWith_map]
 unfold bQ
 refine abw λt _=>?_
 rw[Ah G u v (k+1+t) k]
 exact Int.mul_fdiv_cancel_left _ G.ne
structure i4 (U:List Fm) (n k:Nat) (rs V:List Fm):Prop where
 len:V.length=n
 rl:rs.length=k
 good:Good rs (dn k)
 own:∀i,i<k->V[i]?=some (ng i)
 perm:(rs++V.drop k).Perm U
 le:k<=n
theorem i4.start {U:List Fm}:i4 U U.length 0 [] U:=⟨rfl,rfl,trivial,λi h=>absurd h (by omega),List.Perm.refl _,aas _⟩
theorem tW {α:Type} {u a:α}:∀{l:List α} {i:Nat},l[i]?=some u->(u::l.set i a).Perm (a::l)
 | [],_,h=>by simp at h
 | b::l,0,h=>by
  simp at h;subst h
  exact List.Perm.swap _ _ _
 | b::l,i+1,h=>by
  simp only[abk] at h
  show(u::b::l.set i a).Perm (a::b::l)
  exact(List.Perm.swap _ _ _).trans (((tW h).cons b).trans (List.Perm.swap _ _ _))
noncomputable def mF (V:List Fm) (k dB:Nat) (u a:Fm):List Fm:=(V.set k u).set dB a
theorem i4.step {U:List Fm} {n k dB:Nat} {rs V:List Fm} {u a:Fm} (S:i4 U n k rs V) (hk:k<n) (hs:k<=dB) (hu:V[dB]?=some u) (ha:V[k]?=some a) (h:D (u::rs) (k::dn k)≠0):
  i4 U n (k+1) (u::rs) ((mF V k dB u a).set k (ng k)):=by
 have l:=S.len
 refine⟨by simp [mF,l],by rw[aar,S.rl],⟨S.good,h⟩,λi hi=>?_,?_,hk⟩
 ·by_cases e:i=k
  ·subst e
   rw[aaW (by simp [mF];omega)]
  ·unfold mF
   rw[aaH (by omega),aaH (by omega),aaH (by omega)]
   exact S.own i (by omega)
 ·refine List.Perm.trans ?_ S.perm
  have hd:V.drop k=a::V.drop (k+1):=by
   obtain⟨h1,h2⟩:=List.getElem?_eq_some_iff.mp ha
   rw[<-h2]
   exact List.drop_eq_getElem_cons h1
  have e1:((mF V k dB u a).set k (ng k)).drop (k+1)=((V.drop (k+1)).set (dB - (k+1)) a)\/(dB=k/\((mF V k dB u a).set k (ng k)).drop (k+1)=V.drop (k+1)):=by
   unfold mF
   by_cases e:dB=k
   ·right
    subst e
    refine⟨rfl,?_⟩
    simp [List.drop_set]
   ·left
    simp [List.drop_set]
    intro hh
    omega
  have e2:(u::((mF V k dB u a).set k (ng k)).drop (k+1)).Perm (a::V.drop (k+1)):=by
   rcases e1 with e1 | ⟨e,e1⟩
   ·by_cases e:dB=k
    ·subst e
     have:u=a:=by rw[hu] at ha;exact aay ha
     subst this
     unfold mF
     simp [List.drop_set]
    ·rw[e1]
     refine tW ?_
     rw[List.getElem?_drop,show k+1+ (dB - (k+1))=dB by omega]
     exact hu
   ·subst e
    have:u=a:=by rw[hu] at ha;exact aay ha
    subst this
    rw[e1]
  rw[hd]
  refine List.Perm.trans ?_ (e2.append_left rs)
  show(u::(rs++_)).Perm _
  exact(List.perm_middle).symm
noncomputable def qe (k:Nat) (rs V:List Fm):Prop:=∀u∈V.drop k,D (u::rs) (k::dn k)=0
theorem i4.CT {U:List Fm} {n k:Nat} {rs V:List Fm} (S:i4 U n k rs V) (z:qe k rs V) {u:Fm} (hu:u∈U):sm k (λi=>u i*D (ng i::rs) (k::dn k))=u k*D rs (dn k):=by
 rw[Aj]
 have:D (u::rs) (k::dn k)=0:=by
  rcases List.mem_append.mp (S.perm.mem_iff.mpr hu) with h | h
  ·exact wM h _
  ·exact z u h
 omega
theorem i4.answers {U:List Fm} {n:Nat} {rs V:List Fm} (S:i4 U n n rs V) {u:Fm} (hu:u∈U):sm n (λi=>u i*D (ng i::rs) (n::dn n))=u n*D rs (dn n):=by
 rw[Aj]
 have h:u∈rs:=by
  rcases List.mem_append.mp (S.perm.mem_iff.mpr hu) with h | h
  ·exact h
  ·rw[List.drop_eq_nil_of_le (by rw[S.len];exact aah _)] at h;cases h
 rw[wM h]
 omega
theorem i4.all {U:List Fm} {n:Nat} {rs V:List Fm} (S:i4 U n n rs V):rs.Perm U:=by
 have:=S.perm
 rw[List.drop_eq_nil_of_le (by rw[S.len];exact aah _),aa6] at this
 exact this
theorem i4.ne {U:List Fm} {n:Nat} {rs V:List Fm} (S:i4 U n n rs V):D U (dn n)≠0:=(CQ S.all _).mp S.good.ne
end aS
namespace aS
theorem i4.cb {U:List Fm} {n k:Nat} {β:Nat->Nat} {rs V:List Fm} (S:i4 U n k rs V) (b1:∀c,1<=β c) (hb:∀u∈U,∀c,(u c).natAbs<=β c):(∀u∈rs,∀c,(u c).natAbs<=β c)/\∀v∈V,∀c,(v c).natAbs<=β c:=by
 refine⟨λu hu=>hb u (S.perm.mem_iff.mp (abv _ hu)),λv hv=>?_⟩
 obtain⟨i,hi,rfl⟩:=aa5 hv
 by_cases l:i<k
 ·have:=S.own i l
  rw[aad hi] at this
  rw[aay this]
  intro c
  unfold ng
  split
  ·exact b1 c
  ·exact aas _
 ·refine hb _ (S.perm.mem_iff.mp (aaI _ ?_))
  refine aae (i:=i - k) ?_
  rw[List.getElem?_drop,show k+ (i - k)=i by omega,aad hi]
theorem An {β:Nat->Nat} {b n:Nat} (h:∀c,c<n->β c<=b):∀k,k<=n->pβ β (dn k)<=b^k
 | 0,_=>aah _
 | k+1,hk=>by
  rw[dn,pβ,Nat.pow_succ,Nat.mul_comm]
  exact abi (An h k (by omega)) (h k (by omega))
theorem i4.UQ {U:List Fm} {n k b c:Nat} {β:Nat->Nat} {rs V:List Fm} (S:i4 U n k rs V) (b1:∀j,1<=β j) (h:∀j,j<n->β j<=b) (hc:∀j,β j<=c) (hb:∀u∈U,∀j,(u j).natAbs<=β j) {v:Fm} (hv:v∈V) (j:Nat):(D (v::rs) (j::dn k)).natAbs<=(n+1)^ (n+1)* (c*b^k):=by
 obtain⟨h1,h2⟩:=S.cb b1 hb
 have le:=S.le
 have h3:=FC (N:=n+1) (β:=β) (rs:=v::rs) (j::dn k) (λw hw=>by
  rcases List.mem_cons.mp hw with rfl | hw
  ·exact h2 _ hv
  ·exact h1 w hw) (by rw[aar,j9];omega)
 refine aap h3 (abi ?_ ?_)
 ·rw[aar,S.rl]
  exact abo (by omega) (by omega)
 ·rw[pβ]
  exact abi (hc j) (An h k le)
theorem i4.UR {U:List Fm} {n k b:Nat} {β:Nat->Nat} {rs V:List Fm} (S:i4 U n k rs V) (b1:∀j,1<=β j) (h:∀j,j<n->β j<=b) (hb:∀u∈U,∀j,(u j).natAbs<=β j):(D rs (dn k)).natAbs<=(n+1)^ (n+1)*b^k:=by
 obtain⟨h1,h2⟩:=S.cb b1 hb
 have le:=S.le
 have h3:=FC (N:=n+1) (β:=β) (rs:=rs) (dn k) h1 (by rw[j9];omega)
 refine aap h3 (abi ?_ (An h k le))
 rw[S.rl]
 exact abo (by omega) (by omega)
end aS
namespace aS
noncomputable def z0:Fm:=λ_=>0
noncomputable def lcs (g:Nat->Int):Nat->List Fm->Fm
 | _,[]=>λ_=>0
 | o,w::ws=>λj=>g o*w j+lcs g (o+1) ws j
noncomputable def aug (L:List (List Int)) (S:List Int):List (List Int):=List.zipWith (λr s=>r++ [s]) L S
noncomputable def cell (L:List (List Int)) (i j:Nat):Int:=(L.getD i []).getD j 0
structure Sq (L:List (List Int)) (n:Nat):Prop where
 len:L.length=n
 row:∀r∈L,r.length=n
theorem Sq.at {L:List (List Int)} {n i:Nat} (h:Sq L n) (hi:i<n):∃r,L[i]?=some r/\r.length=n/\r∈L:=by
 have:=h.len
 refine⟨L[i],by simp [this,hi],h.row _ (aao _),aao _⟩
theorem jA {L:List (List Int)} {S:List Int} {n i:Nat} {r:List Int} (hS:S.length=n) (hi:i<n) (e:L[i]?=some r):(aug L S)[i]?=some (r++ [S.getD i 0]):=by
 unfold aug
 rw[abl,e,aad (show i<S.length by omega)]
 simp [aaf,aad (show i<S.length by omega)]
theorem jB {L:List (List Int)} {S:List Int} {n:Nat} (hL:L.length=n) (hS:S.length=n):(aug L S).length=n:=by
 unfold aug
 rw[aaV,hL,hS,Nat.min_self]
theorem Ao {L:List (List Int)} {S:List Int} {n i j:Nat} (hq:Sq L n) (hS:S.length=n) (hi:i<n) (hj:j<n):(((aug L S).map fo).getD i z0) j=cell L i j:=by
 obtain⟨r,e,l,_⟩:=hq.at hi
 rw[aaf,aag,jA hS hi e]
 show fo (r++ [S.getD i 0]) j=_
 unfold fo cell
 rw[aaf,aaZ (by omega),aaf (l:=L),e]
 simp [aaf]
theorem Ap {L:List (List Int)} {S:List Int} {n i:Nat} (hq:Sq L n) (hS:S.length=n) (hi:i<n):(((aug L S).map fo).getD i z0) n=S.getD i 0:=by
 obtain⟨r,e,l,_⟩:=hq.at hi
 rw[aaf,aag,jA hS hi e]
 show fo (r++ [S.getD i 0]) n=_
 unfold fo
 rw[aaf,aaY (by omega),l]
 simp
theorem wO {L:List (List Int)} {S:List Int} {n i:Nat} (hq:Sq L n) (hS:S.length=n) (hi:i<n):((aug L S).map fo).getD i z0∈(aug L S).map fo:=by
 have l:((aug L S).map fo).length=n:=by rw[aac,jB hq.len hS]
 rw[aaf,aad (show i< ((aug L S).map fo).length by omega)]
 exact aao _
noncomputable def Aq (L:List (List Int)) (n:Nat):Prop:=∃(g:Nat->Int) (k:Nat),k<n/\g k≠0/\∀i,i<n->sm n (λj=>g j*cell L i j)=0
theorem yr {L:List (List Int)} {S:List Int} {n k:Nat} {rs V:List Fm} (hq:Sq L n) (hS:S.length=n) (St:i4 ((aug L S).map fo) n k rs V) (hk:k<n) (z:qe k rs V):Aq L n:=by
 refine⟨λj=>if j<k then - D (ng j::rs) (k::dn k) else if j=k then D rs (dn k) else 0,k,hk,?_,λi hi=>?_⟩
 ·show(if k<k then _ else if k=k then D rs (dn k) else 0)≠0
  rw[if_neg (aaF _),if_pos rfl]
  exact St.good.ne
 ·have e:=St.CT z (wO hq hS hi)
  have key:∀q,k+1<=q->sm q (λj=>(if j<k then - D (ng j::rs) (k::dn k) else if j=k then D rs (dn k) else 0)* (((aug L S).map fo).getD i z0) j)=0:=by
   intro q hq
   induction q with
   | zero=>omega
   | succ q ih=>
    by_cases c:q=k
    ·subst c
     show sm q _+_*_=0
     rw[if_neg (aaF _),if_pos rfl]
     have e2:sm q (λj=>(if j<q then - D (ng j::rs) (q::dn q) else if j=q then D rs (dn q) else 0)* (((aug L S).map fo).getD i z0) j)=sm q (λj=>(-1)* ((((aug L S).map fo).getD i z0) j*D (ng j::rs) (q::dn q))):=fB λi hi=>by
      rw[if_pos hi,Int.neg_mul,Int.neg_one_mul,aaC]
     rw[e2,ot,e,aaC (D rs (dn q))]
     omega
    ·show sm q _+_*_=0
     rw[ih (by omega),if_neg (by omega),if_neg c]
     simp
  refine Eq.trans (fB λj hj=>?_) (key n (by omega))
  rw[Ao hq hS hi hj]
noncomputable def o8 (L:List (List Int)) (s:Nat) (l:Int) (i:Nat):List Int:=
 if i=s then (L.getD i []).tail else List.zipWith (λone other=>((L.getD s []).headD 0*one - (L.getD i []).headD 0*other).fdiv l) (L.getD i []).tail (L.getD s []).tail
noncomputable def K9 (L:List (List Int)) (s:Nat) (l:Int):List (List Int):=(List.range L.length).map (o8 L s l)
theorem getD_map {V:List Fm} {f:Fm->List Int} {i:Nat} {v:Fm} (h:V[i]?=some v):(V.map f).getD i []=f v:=by
 rw[aaf,aag,h]
 rfl
theorem CU {V:List Fm} {f:Fm->List Int} {k dB:Nat} {u a:Fm} (hu:V[dB]?=some u) (ha:V[k]?=some a):((V.map f).set k ((V.map f).getD dB [])).set dB ((V.map f).getD k [])=(mF V k dB u a).map f:=by
 rw[getD_map hu,getD_map ha]
 unfold mF
 rw[List.map_set,List.map_set]
theorem Ar {V:List Fm} {k dB:Nat} {u a:Fm} (hu:V[dB]?=some u) (ha:V[k]?=some a):(mF V k dB u a)[k]?=some u:=by
 have h1:=(List.getElem?_eq_some_iff.mp ha).1
 unfold mF
 by_cases e:dB=k
 ·subst e
  rw[aaW (by simpa using h1)]
  rw[hu] at ha
  exact ha.symm
 ·rw[aaH e,aaW h1]
theorem As {n k m dB:Nat} {rs V:List Fm} {u a:Fm} (G:Good rs (dn k)) (hm:k<m) (hu:V[dB]?=some u) (ha:V[k]?=some a):
  K9 ((mF V k dB u a).map λv=>bQ v rs k m) k (D rs (dn k))=((mF V k dB u a).set k (ng k)).map λv=>bQ v (u::rs) (k+1) m:=by
 have hk:=Ar hu ha
 generalize mF V k dB u a=W at *
 unfold K9
 refine aaN λi=>?_
 rw[aag,aag,aac]
 by_cases l:i<W.length
 ·rw[aa2 l]
  have ew:W[i]?=some W[i]:=aad l
  by_cases e:i=k
  ·subst e
   rw[aaW l]
   show some (o8 _ i _ i)=some _
   unfold o8
   rw[if_pos rfl,getD_map hk,CS hm]
  ·rw[aaH (by omega),ew]
   show some (o8 _ k _ i)=some (bQ W[i] (u::rs) (k+1) m)
   unfold o8
   rw[if_neg e,getD_map ew,getD_map hk,<-Am hm G u W[i]]
   have hh:∀v,(bQ v rs k m).headD 0=D (v::rs) (k::dn k):=λv=>by rw[dj hm];rfl
   rw[hh,hh]
 ·rw[aaq (by rw[aaA];omega),aaq (by rw[aaT];omega)]
  rfl
theorem vy {L:List (List Int)} {m:Nat} (h:∀r∈L,r.length=m):(L.map fo).map (λv=>bQ v [] 0 m)=L:=by
 rw[aaO]
 conv=>rhs;rw[<-List.map_id L]
 exact abw λr hr=>vx (h r hr)
theorem tX {v w:Fm}:∀{cs:List Nat} {F G:List Nat->Int},(∀c∈cs,v c=w c)->(∀l,(∀c∈l,c∈cs)->F l=G l)->X v F cs=X w G cs
 | [],_,_,_,_=>rfl
 | c::cs,F,G,h,k=>by
  simp only[X]
  rw[h c (aaj ..),k cs λc' hc=>aak _ hc,tX (cs:=cs) (G:=λl=>G (c::l)) (λc' hc=>h c' (aak _ hc)) λl hl=>k (c::l) λc' hc=>?_]
  rcases List.mem_cons.mp hc with rfl | hc
  ·exact aaj ..
  ·exact aak _ (hl c' hc)
theorem Au {n:Nat}:∀(L:List (List Int)) (S:List Int),S.length=L.length->(∀r∈L,r.length=n)->∀cs:List Nat,(∀c∈cs,c<n)->D ((aug L S).map fo) cs=D (L.map fo) cs
 | [],[],_,_,_,_=>rfl
 | [],_::_,h,_,_,_=>by simp at h
 | _::_,[],h,_,_,_=>by simp at h
 | r::L,s::S,h,hr,cs,hc=>by
  show X (fo (r++ [s])) (D ((aug L S).map fo)) cs=X (fo r) (D (L.map fo)) cs
  refine tX (λc KG=>?_) λl hl=>Au L S (by simpa using h) (λq hq=>hr q (aak _ hq)) l λc Cr=>hc c (hl c Cr)
  unfold fo
  have:=hc c KG
  have lr:=hr r (aaj ..)
  rw[aaf,aaZ (by omega),aaf]
end aS
namespace Dg
noncomputable def BF (ps:List Int) (g:Nat->Int) (q:Int):Int:=if q∈ps then g (ps.idxOf q) else 0
theorem CV {g:Nat->Int} {q w:Int}:∀{ps:List Int},ps.Nodup->aS.sm ps.length (λj=>g j* (if q=ps.getD j 0 then w else 0))=w*BF ps g q:=by
 intro ps nd
 have key:∀n,n<=ps.length->aS.sm n (λj=>g j* (if q=ps.getD j 0 then w else 0))=if q∈ps.take n then w*g (ps.idxOf q) else 0:=by
  intro n
  induction n with
  | zero=>intro _;rfl
  | succ n ih=>
   intro hn
   have e:ps[n]?=some ps[n]:=aad (by omega)
   have eg:ps.getD n 0=ps[n]:=by rw[aaf,e];rfl
   show aS.sm n _+g n* (if q=ps.getD n 0 then w else 0)=_
   rw[ih (by omega),aaE,e,eg]
   by_cases c:q=ps[n]
   ·have MR:q∉ps.take n:=by
     intro z
     obtain⟨j,hj,ej⟩:=aa5 z
     rw[aaX] at hj
     rw[List.getElem_take] at ej
     have:=(abj nd).mp (ej.trans c)
     omega
    have ix:ps.idxOf q=n:=by
     have l:=aa3 (show q∈ps by rw[c];exact aao _)
     exact(abj nd).mp ((aa8 l).trans c)
    rw[if_neg MR,if_pos c,if_pos (aaI _ (by rw[c];exact List.mem_singleton.mpr rfl)),ix,Int.zero_add,aaC]
   ·have m:q∈ps.take n++ (some ps[n]).toList↔q∈ps.take n:=by
     rw[List.mem_append]
     constructor
     ·rintro(h | h)
      ·exact h
      ·exact absurd (List.mem_singleton.mp h) c
     ·exact .inl
    rw[if_neg c,Int.mul_zero,Int.add_zero]
    by_cases k:q∈ps.take n
    ·rw[if_pos k,if_pos (m.mpr k)]
    ·rw[if_neg k,if_neg (λz=>k (m.mp z))]
 have:=key ps.length (aah _)
 rw[aaJ (aah _)] at this
 rw[this]
 unfold BF
 split
 ·rfl
 ·rw[Int.mul_zero]
theorem wQ {ps:List Int} {g:Nat->Int} (nd:ps.Nodup):∀ws:Wy,aS.sm ps.length (λj=>g j*i3 (ps.getD j 0) ws)=dX (BF ps g) ws
 | []=>by
  show aS.sm ps.length (λj=>g j*0)=0
  rw[show(λj=>g j*0)=λ_=>(0:Int) from funext λj=>Int.mul_zero _]
  exact aS.wN _
 | x::ws=>by
  have e:(λj=>g j*i3 (ps.getD j 0) (x::ws))=λj=>g j* (if x.2=ps.getD j 0 then x.1 else 0)+g j*i3 (ps.getD j 0) ws:=funext λj=>by
   show g j* ((if x.2=ps.getD j 0 then x.1 else 0)+i3 (ps.getD j 0) ws)=_
   rw[Int.mul_add]
  rw[e,aS.vv,CV nd,wQ nd ws]
  rfl
noncomputable def o9 (ps:List Int) (W:Int->Wy) (L:List (List Int)):Prop:=L.length=ps.length/\(∀r∈L,r.length=ps.length)/\∀i j,i<ps.length->j<ps.length->(L.getD i []).getD j 0=(if i=j then tt (W (ps.getD i 0)) else 0) - i3 (ps.getD j 0) (W (ps.getD i 0))
theorem o9.sum {ps:List Int} {W:Int->Wy} {L:List (List Int)} (R:o9 ps W L) (nd:ps.Nodup) (g:Nat->Int) {i:Nat} (hi:i<ps.length):aS.sm ps.length (λj=>g j* (L.getD i []).getD j 0)=tt (W (ps.getD i 0))*g i - dX (BF ps g) (W (ps.getD i 0)):=by
 have e:aS.sm ps.length (λj=>g j* (L.getD i []).getD j 0)=aS.sm ps.length (λj=>tt (W (ps.getD i 0))* (g j* (if j=i then 1 else 0))+ (-1)* (g j*i3 (ps.getD j 0) (W (ps.getD i 0)))):=aS.fB λj hj=>by
  rw[R.2.2 i j hi hj]
  by_cases c:i=j
  ·subst c
   rw[if_pos rfl,if_pos rfl,Int.mul_sub,Int.mul_one,aaC (g i) (tt _)]
   omega
  ·rw[if_neg c,if_neg (Ne.symm c),Int.mul_sub,Int.mul_zero,Int.mul_zero]
   omega
 rw[e,aS.vv,aS.ot,aS.ot,aS.Ak,if_pos hi,wQ nd]
 omega
end Dg
namespace Dg
theorem Av {ps:List Int} (nd:ps.Nodup) (g:Nat->Int) {i:Nat} (hi:i<ps.length):BF ps g (ps.getD i 0)=g i:=by
 have eg:ps.getD i 0=ps[i]:=by rw[aaf,aad hi];rfl
 unfold BF
 rw[eg,if_pos (aao hi)]
 congr 1
 have l:=aa3 (aao hi)
 exact(abj nd).mp (aa8 l)
theorem o9.Aw {ps:List Int} {W:Int->Wy} {lv:Int->Nat} {L:List (List Int)} (R:o9 ps W L) (nd:ps.Nodup) (pos:∀p∈ps,∀x∈W p,1<=x.1) (dn:∀p∈ps,W p=[]\/∃x∈W p,lv x.2<lv p):¬aS.Aq L ps.length:=by
 rintro⟨g,k,hk,gk,rel⟩
 apply gk
 have z:=yp (ps:=ps) (W:=W) (lv:=lv) (v:=BF ps g) (λp hp=>?_) pos (λq hq=>if_neg hq) dn (ps.getD k 0) ?_
 ·rw[Av nd g hk] at z
  exact z
 ·obtain⟨i,hi,rfl⟩:=aa5 hp
  have eg:ps.getD i 0=ps[i]:=by rw[aaf,aad hi];rfl
  have e:=R.sum nd g hi
  have r:aS.sm ps.length (λj=>g j* (L.getD i []).getD j 0)=0:=rel i hi
  rw[r] at e
  have o:=Av nd g hi
  rw[eg] at e o
  rw[o]
  omega
 ·rw[aaf,aad hk]
  exact aao hk
end Dg
noncomputable def Rw (H:Hp) (r:List Int) (x:V):Prop:=∃q,x=.ref q/\H q=some (.lst (List.map V.int r))
theorem Rw.mono {H H':Hp} {r:List Int} {x:V} (s:az H H') (h:Rw H r x):Rw H' r x:=by
 obtain⟨q,e,k⟩:=h
 exact⟨q,e,s _ _ k⟩
noncomputable def rK (H:Hp) (a:Addr) (L:List (List Int)):Prop:=∃xs,H a=some (.lst xs)/\Al (Rw H) L xs
theorem rK.mono {H H':Hp} {a:Addr} {L:List (List Int)} (s:az H H') (h:rK H a L):rK H' a L:=by
 obtain⟨xs,h1,h2⟩:=h
 exact⟨xs,s _ _ h1,h2.imp λ_ _ k=>k.mono s⟩
theorem Ax {xs:List V} {k:Int} (h:0<=k):iT xs (some k) none=xs.drop k.toNat:=by
 unfold iT
 obtain⟨n,rfl⟩:=aau h
 rw[HT.y2,HT.B6,aai]
 by_cases c:n<=xs.length
 ·rw[Nat.min_eq_left c,aaJ (by rw[List.length_drop];exact aah _)]
 ·rw[Nat.min_eq_right (by omega),List.drop_eq_nil_of_le (aah _),List.drop_eq_nil_of_le (show xs.length<=n by omega)]
  simp
theorem tY (r:List Int):iT (List.map V.int r) (some 1) none=List.map V.int r.tail:=by
 rw[Ax (by decide)]
 cases r <;>rfl
theorem fZ {n i:Nat} (h:i<n):xT n (i:Int)=some i:=by
 unfold xT
 rw[if_pos (by omega),if_pos (by omega)]
 rfl
theorem ou {xs:List V} {L:List (List Int)} {H:Hp} {i:Nat} {r:List Int} (al:Al (Rw H) L xs) (e:L[i]?=some r):∃q,fK xs (i:Int)=some (.ref q)/\H q=some (.lst (List.map V.int r)):=by
 obtain⟨v,ev,q,rfl,hq⟩:=al.at e
 exact⟨q,bC ev,hq⟩
theorem jC {r:List Int} (h:0<r.length):fK (List.map V.int r) 0=some (.int (r.headD 0)):=by
 cases r with
 | nil=>cases h
 | cons a r=>exact bC (j:=0) rfl
theorem Al.set {α:Type} {R:α->V->Prop} {a:α} {v:V} (h:R a v):∀{as:List α} {vs:List V} {i:Nat},Al R as vs->Al R (as.set i a) (vs.set i v)
 | [],[],_,_=>trivial
 | _::_,_::_,0,k=>⟨h,k.2⟩
 | _::_,_::_,i+1,k=>⟨k.1,Al.set h k.2⟩
theorem rL {H:Hp} {p:Addr} {o:HO}:cF (upd H p o) p=cF H p:=by
 funext a
 unfold cF
 by_cases h:a=p
 ·rw[if_pos h,if_pos h]
 ·rw[if_neg h,if_neg h,aI h]
theorem Rw.push {H:Hp} {a q:Addr} {L:List (List Int)} {xs:List V} {r:List Int} (al:Al (Rw (cF H a)) L xs) (hq:H q=some (.lst (List.map V.int r))) (ne:q≠a):Al (Rw (cF (upd H a (.lst (xs++ [.ref q]))) a)) (L++ [r]) (xs++ [.ref q]):=by
 rw[rL]
 exact al.append (.one ⟨q,rfl,by rw[bE ne];exact hq⟩)
theorem Ay {zs:List V} {f:Int->Int->Int} {as bs:List Int} (l:zs.length=min (List.map V.int as).length (List.map V.int bs).length) (h:∀(j:Nat) y,zs[j]?=some y->∀o1 o2,as[j]?=some o1->bs[j]?=some o2->y=.int (f o1 o2)):zs=List.map V.int (List.zipWith f as bs):=by
 rw[aac,aac] at l
 refine aaN λj=>?_
 by_cases c:j<min as.length bs.length
 ·have e1:as[j]?=some as[j]:=aad (by omega)
  have e2:bs[j]?=some bs[j]:=aad (by omega)
  rw[aad (show j<zs.length by omega),h j _ (aad (by omega)) _ _ e1 e2,aag,abl,e1,e2]
  rfl
 ·rw[aaq (by omega),aaq (by rw[aac,aaV];omega)]
noncomputable def FD:Sp:=λvs H Q _=>∃a L k,vs=[.ref a,.int (Nat.cast k)]/\rK H a L/\k<=L.length/\L.length<=64/\(∀r∈L,0<r.length)/\(∀i:Nat,k<=i->i<L.length->(L.getD i []).headD 0≠0->Q (.int i) H)/\((∀i:Nat,k<=i->i<L.length->(L.getD i []).headD 0=0)->Q .cE H)
noncomputable def Az:Sp:=λvs H Q _=>∃a L i j,vs=[.ref a,.int (Nat.cast i),.int (Nat.cast j)]/\rK H a L/\i<L.length/\j<L.length/\L.length<=64/\∀p H',az H H'->rK H' p ((L.set i (L.getD j [])).set j (L.getD i []))->Q (.ref p) H'
noncomputable def FE:Sp:=λvs H Q _=>∃a L s l m,vs=[.ref a,.int (Nat.cast s),.int l]/\rK H a L/\s<L.length/\L.length<=64/\m<=64/\(∀r∈L,r.length=m+1)/\l≠0/\Bt 4000 l/\(∀r∈L,∀x∈r,Bt 4000 x)/\∀p H',az H H'->rK H' p (aS.K9 L s l)->Q (.ref p) H'
structure La (L:List (List Int)) (n m:Nat):Prop where
 len:L.length=n
 row:∀r∈L,r.length=m
 nm:n<=m
 MS:m<=64
 Cb:∀k rs W,aS.i4 (L.map aS.fo) n k rs W->Bt 4000 (aS.D rs (aS.dn k))/\∀v∈W,∀j,Bt 4000 (aS.D (v::rs) (j::aS.dn k))
noncomputable def FF:Sp:=λvs H Q _=>∃a L n m,vs=[.ref a,.int (Nat.cast n)]/\rK H a L/\La L n m/\∀t p k rs W H',aS.i4 (L.map aS.fo) n k rs W->(k<n->aS.qe k rs W)->az H H'->H' t=some (.tup [.ref p,.int (Nat.cast k),.int (aS.D rs (aS.dn k))])->rK H' p (W.map λv=>aS.bQ v rs k m)->Q (.ref t) H'
noncomputable def sj (d:Int):Int:=if 0<d then 1 else -1
noncomputable def oz (n:Nat) (rs:List aS.Fm):List Int:=(List.range n).map λi=>aS.D (aS.ng i::rs) (n::aS.dn n)*sj (aS.D rs (aS.dn n))
theorem AA (d:Int):sj d=1\/sj d= -1:=by
 unfold sj
 split
 ·exact .inl rfl
 ·exact .inr rfl
theorem AB {i d:Int}:IntMulOk i (sj d):=by
 rcases AA d with h | h <;>rw[h] <;>exact m8
theorem FG {U W rs:List aS.Fm} {n:Nat} (St:aS.i4 U n n rs W):W.filterMap (λv=>some (aS.D (v::rs) (n::aS.dn n)*sj (aS.D rs (aS.dn n))))=oz n rs:=by
 rw[List.filterMap_eq_map']
 unfold oz
 refine aaN λi=>?_
 rw[aag,aag]
 by_cases c:i<n
 ·rw[St.own i c,aa2 c]
  rfl
 ·rw[aaq (by rw[St.len];omega),aaq (by rw[aaA];omega)]
  rfl
noncomputable def FH:Sp:=λvs H Q _=>∃a c L S n,vs=[.ref a,.ref c]/\rK H a L/\H c=some (.lst (List.map V.int S))/\S.length=n/\aS.Sq L n/\La (aS.aug L S) n (n+1)/\
 (∀k rs W H',aS.i4 ((aS.aug L S).map aS.fo) n k rs W->k<n->aS.qe k rs W->az H H'->Q .cE H')/\
 (∀rs W t p H',aS.i4 ((aS.aug L S).map aS.fo) n n rs W->az H H'->H' t=some (.tup [.ref p,.int (aS.D rs (aS.dn n)*sj (aS.D rs (aS.dn n)))])->H' p=some (.lst (List.map V.int (oz n rs)))->Q (.ref t) H')
structure US (L:List (List Int)) (S:List Int) (n:Nat) (x:List Int) (d:Int):Prop where
 len:x.length=n
 pos:0<d
 bd:Bt 4000 d
 bx:∀v∈x,Bt 4000 v
 eq:∀i,i<n->aS.sm n (λj=>aS.cell L i j*x.getD j 0)=S.getD i 0*d
 ne:aS.D (L.map aS.fo) (aS.dn n)≠0
 dnn:d.natAbs=(aS.D (L.map aS.fo) (aS.dn n)).natAbs
theorem CW {d:Int} (h:d≠0):0<d*sj d:=by
 unfold sj
 split
 ·omega
 ·omega
theorem jD (x d:Int):(x*sj d).natAbs=x.natAbs:=by
 rcases AA d with h | h <;>rw[h] <;>omega
theorem AD {n i:Nat} {rs:List aS.Fm} (h:i<n):(oz n rs).getD i 0=aS.D (aS.ng i::rs) (n::aS.dn n)*sj (aS.D rs (aS.dn n)):=by
 unfold oz
 rw[aaf,aag,aa2 h]
 rfl
theorem FI {L:List (List Int)} {S:List Int} {n:Nat} {rs W:List aS.Fm} (sq:aS.Sq L n) (lS:S.length=n) (B:La (aS.aug L S) n (n+1)) (St:aS.i4 ((aS.aug L S).map aS.fo) n n rs W):US L S n (oz n rs) (aS.D rs (aS.dn n)*sj (aS.D rs (aS.dn n))):=by
 refine⟨by unfold oz;rw[aac,aaA],CW St.good.ne,?_,λv hv=>?_,λi hi=>?_,?_,?_⟩
 ·unfold Bt
  rw[jD]
  exact(B.Cb _ _ _ St).1
 ·unfold oz at hv
  obtain⟨i,hi,rfl⟩:=List.mem_map.mp hv
  unfold Bt
  rw[jD]
  exact(B.Cb _ _ _ St).2 _ (aae (St.own i (List.mem_range.mp hi))) n
 ·have e:=St.answers (aS.wO sq lS hi)
  have e2:aS.sm n (λj=>aS.cell L i j* (oz n rs).getD j 0)=aS.sm n (λj=>sj (aS.D rs (aS.dn n))* ((((aS.aug L S).map aS.fo).getD i aS.z0) j*aS.D (aS.ng j::rs) (n::aS.dn n))):=aS.fB λj hj=>by
   rw[AD hj,aS.Ao sq lS hi hj,<-aaU,aaC]
  rw[e2,aS.ot,e,aS.Ap sq lS hi,aaC,aaU]
 ·rw[<-aS.Au L S (by rw[lS,sq.len]) sq.row _ λc hc=>aS.j8.mp hc]
  exact St.ne
 ·rw[<-aS.Au L S (by rw[lS,sq.len]) sq.row _ λc hc=>aS.j8.mp hc,jD]
  obtain⟨s,hs,e⟩:=aS.perm St.all
  rw[e]
  rcases hs with rfl | rfl <;>omega
theorem CY {L:List (List Int)} {S:List Int} {n b c:Nat} (sq:aS.Sq L n) (lS:S.length=n) (n63:n<64) (b1:1<=b) (bc:b<=c) (hL:∀r∈L,∀x∈r,x.natAbs<=b) (hS:∀x∈S,x.natAbs<=c) (top:(n+1)^ (n+1)* (c*b^n)<2^4000):La (aS.aug L S) n (n+1):=by
 have ge:∀{i:Nat} {r:List Int},(aS.aug L S)[i]?=some r->∃q,q∈L/\r=q++ [S.getD i 0]/\i<n:=λ{i r} e=>by
  have hi:i<n:=by have:=(List.getElem?_eq_some_iff.mp e).1;rw[aS.jB sq.len lS] at this;exact this
  obtain⟨q,eq,_,mq⟩:=sq.at hi
  rw[aS.jA lS hi eq] at e
  exact⟨q,mq,(aay e).symm,hi⟩
 have hU:∀u∈(aS.aug L S).map aS.fo,∀j,(u j).natAbs<=if j<n then b else c:=λu hu j=>by
  obtain⟨r,hr,rfl⟩:=List.mem_map.mp hu
  obtain⟨i,ei⟩:=aaw hr
  obtain⟨q,mq,rfl,hi⟩:=ge ei
  have lq:=sq.row q mq
  unfold aS.fo
  rw[aaf]
  by_cases cj:j<n
  ·rw[if_pos cj,aaZ (by omega),aad (by omega)]
   exact hL q mq _ (aao _)
  ·rw[if_neg cj,aaY (by omega)]
   by_cases e:j=n
   ·rw[e,lq,Nat.sub_self]
    show(S.getD i 0).natAbs<=c
    rw[aaf,aad (by omega)]
    exact hS _ (aao _)
   ·rw[aaq (by show 1<=_;omega)]
    exact aas _
 have β1:∀j,1<=if j<n then b else c:=λj=>by split <;>omega
 have βn:∀j,j<n->(if j<n then b else c)<=b:=λj hj=>by rw[if_pos hj];exact aah _
 have βc:∀j,(if j<n then b else c)<=c:=λj=>by split <;>omega
 refine⟨aS.jB sq.len lS,λr hr=>?_,by omega,by omega,λk rs W St=>⟨?_,λv hv j=>?_⟩⟩
 ·obtain⟨i,ei⟩:=aaw hr
  obtain⟨q,mq,rfl,_⟩:=ge ei
  rw[aaD,sq.row q mq]
  rfl
 ·have h:=St.UR β1 βn hU
  refine abf (aap h (aby _ ?_)) top
  have:=abo b1 St.le
  exact aap this (Nat.le_mul_of_pos_left _ (by omega))
 ·have h:=St.UQ β1 βn βc hU hv j
  exact abf (aap h (aby _ (aby _ (abo b1 St.le)))) top
theorem FJ {L:List (List Int)} {S:List Int} {n b c:Nat} {rs W:List aS.Fm} (sq:aS.Sq L n) (lS:S.length=n) (b1:1<=b) (bc:b<=c) (hL:∀r∈L,∀x∈r,x.natAbs<=b) (hS:∀x∈S,x.natAbs<=c) (St:aS.i4 ((aS.aug L S).map aS.fo) n n rs W):(aS.D rs (aS.dn n)*sj (aS.D rs (aS.dn n))).natAbs<=(n+1)^ (n+1)*b^n/\∀v∈oz n rs,v.natAbs<=(n+1)^ (n+1)* (c*b^n):=by
 have hU:∀u∈(aS.aug L S).map aS.fo,∀j,(u j).natAbs<=if j<n then b else c:=λu hu j=>by
  obtain⟨r,hr,rfl⟩:=List.mem_map.mp hu
  obtain⟨i,ei⟩:=aaw hr
  have hi:i<n:=by have:=(List.getElem?_eq_some_iff.mp ei).1;rw[aS.jB sq.len lS] at this;exact this
  obtain⟨q,eq,lq,mq⟩:=sq.at hi
  rw[aS.jA lS hi eq] at ei
  cases ei
  unfold aS.fo
  rw[aaf]
  by_cases cj:j<n
  ·rw[if_pos cj,aaZ (by omega),aad (by omega)]
   exact hL q mq _ (aao _)
  ·rw[if_neg cj,aaY (by omega)]
   by_cases e:j=n
   ·rw[e,lq,Nat.sub_self]
    show(S.getD i 0).natAbs<=c
    rw[aaf,aad (by omega)]
    exact hS _ (aao _)
   ·rw[aaq (by show 1<=_;omega)]
    exact aas _
 have β1:∀j,1<=if j<n then b else c:=λj=>by split <;>omega
 have βn:∀j,j<n->(if j<n then b else c)<=b:=λj hj=>by rw[if_pos hj];exact aah _
 have βc:∀j,(if j<n then b else c)<=c:=λj=>by split <;>omega
 refine⟨by rw[jD];exact St.UR β1 βn hU,λv hv=>?_⟩
 unfold oz at hv
 obtain⟨i,hi,rfl⟩:=List.mem_map.mp hv
 rw[jD]
 exact St.UQ β1 βn βc hU (aae (St.own i (List.mem_range.mp hi))) n
namespace Dg
theorem tZ (f g:Int->Int):∀ws:Wy,dX (λq=>f q+g q) ws=dX f ws+dX g ws
 | []=>rfl
 | x::ws=>by
  show x.1* (f x.2+g x.2)+dX (λq=>f q+g q) ws=x.1*f x.2+dX f ws+ (x.1*g x.2+dX g ws)
  rw[tZ f g ws,Int.mul_add]
  omega
theorem t6 (d:Int) (f:Int->Int):∀ws:Wy,dX (λq=>f q*d) ws=dX f ws*d
 | []=>by show(0:Int)=0*d;omega
 | x::ws=>by
  show x.1* (f x.2*d)+dX (λq=>f q*d) ws=(x.1*f x.2+dX f ws)*d
  rw[t6 d f ws,Int.add_mul,aaU]
theorem oA {f g:Int->Int}:∀{ws:Wy},(∀x∈ws,f x.2=g x.2)->dX f ws=dX g ws
 | [],_=>rfl
 | x::ws,h=>by
  show x.1*f x.2+dX f ws=x.1*g x.2+dX g ws
  rw[h x aaj,oA λy hy=>h y (aak _ hy)]
theorem kc (ts:List Int):∀ws:Wy,gF ts ws=dX (λq=>ts.getD q.toNat 0) ws
 | []=>rfl
 | x::ws=>by
  have:=kc ts ws
  show x.1*ts.getD x.2.toNat 0+gF ts ws=x.1*ts.getD x.2.toNat 0+_
  rw[this]
theorem CZ {ps:List Int} {W:Int->Wy} {L:List (List Int)} {S T x:List Int} {d r:Int} (R:o9 ps W L) (nd:ps.Nodup) {i:Nat} (hi:i<ps.length)
  (sol:aS.sm ps.length (λj=>aS.cell L i j*x.getD j 0)=r*d) (zero:∀p∈ps,S.getD p.toNat 0=0)
  (UT:∀j,j<ps.length->T.getD (ps.getD j 0).toNat 0=x.getD j 0) (MT:∀y∈W (ps.getD i 0),y.2∉ps->T.getD y.2.toNat 0=S.getD y.2.toNat 0*d):
  tt (W (ps.getD i 0))*T.getD (ps.getD i 0).toNat 0=r*d - gF S (W (ps.getD i 0))*d+gF T (W (ps.getD i 0)):=by
 have e:=R.sum nd (λj=>x.getD j 0) hi
 have c:aS.sm ps.length (λj=>x.getD j 0* (L.getD i []).getD j 0)=aS.sm ps.length (λj=>aS.cell L i j*x.getD j 0):=aS.fB λj _=>aaC _ _
 rw[c,sol] at e
 have k:dX (λq=>T.getD q.toNat 0) (W (ps.getD i 0))=dX (BF ps λj=>x.getD j 0) (W (ps.getD i 0))+gF S (W (ps.getD i 0))*d:=by
  rw[kc,<-t6,<-tZ]
  refine oA λy hy=>?_
  by_cases m:y.2∈ps
  ·have lt:=aa3 m
   have eg:ps.getD (ps.idxOf y.2) 0=y.2:=by rw[aaf,aad lt,aa8 lt];rfl
   have t1:=UT _ lt
   rw[eg] at t1
   rw[t1,zero _ m,Int.zero_mul,Int.add_zero]
   unfold BF
   rw[if_pos m]
  ·rw[MT y hy m]
   unfold BF
   rw[if_neg m,Int.zero_add]
 rw[UT i hi,kc T,k]
 omega
end Dg
noncomputable def qg (ws:Dg.Wy):Dat:=.lst (ws.map bz)
noncomputable def cu (fN:List Dg.Wy) (p:Int):Dg.Wy:=fN.getD p.toNat []
noncomputable def gU (ps:List Int):List (Key×V):=(List.range ps.length).map λi=>(Sum.inl (ps.getD i 0),.int (i:Int))
noncomputable def AE:Sp:=λvs H Q _=>∃(x wl:Addr) (ps:List Int) (xs:List V) (fN:List Dg.Wy),vs=[.ref x,.ref wl]/\H x=some (.lst (ps.map V.int))/\H wl=some (.lst xs)/\bf H (fN.map qg) xs/\ps.Nodup/\ps.length<=40/\(∀p∈ps,0<=p/\p< (fN.length:Int))/\(∀ws∈fN,ws.length<=5)/\
 ∀r L H',az H H'->rK H' r L->Dg.o9 ps (cu fN) L->Q (.ref r) H'
noncomputable def t7:Sp:=λvs H Q _=>∃(a:Addr) (ws:Dg.Wy),vs=[.ref a]/\Rep H (qg ws) (.ref a)/\ws.length<=5/\∀H',az H H'->Q (.int (Dg.tt ws)) H'
theorem qh (ps:List Int):(gU ps).map (·.1)=ps.map Sum.inl:=by
 unfold gU
 rw[aaO]
 apply aaN
 intro i
 rw[aag,aag]
 by_cases h:i<ps.length
 ·rw[aa2 h,aad h]
  show some (Sum.inl (ps.getD i 0))=some (Sum.inl ps[i])
  rw[aaf,aad h]
  rfl
 ·rw[aaq (by rw[aaA];omega),aaq (by omega)]
  rfl
theorem AF {ps:List Int} (nd:ps.Nodup) {i:Nat} (h:i<ps.length):gN (gU ps) (Sum.inl (ps.getD i 0))=some (.int (i:Int)):=by
 refine vp (i:=i) ?_ ?_
 ·rw[qh]
  exact zZ nd
 ·unfold gU
  rw[aag,aa2 h]
  rfl
theorem t8 {ps:List Int} {q:Int} (h:q∉ps):gN (gU ps) (Sum.inl q)=none:=mz (by
 rw[qh]
 exact λz=>h (rj.mp z))
theorem yt {ps:List Int} {i:Nat} (h:i<ps.length):gU (ps.take (i+1))=gU (ps.take i)++ [(Sum.inl (ps.getD i 0),.int (i:Int))]:=by
 have l1:(ps.take (i+1)).length=i+1:=by rw[aaX];omega
 have l0:(ps.take i).length=i:=by rw[aaX];omega
 unfold gU
 rw[l1,l0,List.range_succ,aax]
 congr 1
 ·refine abw λj hj=>?_
  have:=List.mem_range.mp hj
  rw[aaf,aaf,List.getElem?_take_of_lt (by omega),List.getElem?_take_of_lt this]
 ·show[(Sum.inl ((ps.take (i+1)).getD i 0),V.int (i:Int))]=_
  rw[aaf,List.getElem?_take_of_lt (aaK _),<-aaf]
noncomputable def mG (C:Addr) (H:Hp) (x:Addr) (S:Dg.Bk):Prop:=∃dx m,H x=some (.ins C dx [("tops",.ref m),("bottom",.int S.2)])/\H m=some (.lst (S.1.map V.int))
theorem mG.mono {C:Addr} {H H':Hp} {x:Addr} {S:Dg.Bk} (s:az H H') (h:mG C H x S):mG C H' x S:=by
 obtain⟨dx,m,h1,h2⟩:=h
 exact⟨dx,m,s _ _ h1,s _ _ h2⟩
noncomputable def yu:Sp:=λvs H Q _=>∃a b,vs=[.int a,.int b]/\Q (.int (Nm.g a b)) H
noncomputable def FK:Sp:=λvs H Q _=>∃a b,vs=[.int a,.int b]/\Bt 5000 b/\0<b/\∀p H',az H H'->H p=none->H' p=some (.tup (Pr (Nm.st a b) (Nm.sb a b)))->Q (.ref p) H'
noncomputable def FL:Sp:=λvs H Q _=>∃(a:Addr) (ws:List Wq.Sh) (Z:Int),vs=[.ref a]/\Rep H (.lst (ws.map bz)) (.ref a)/\ws.length<=60/\(∀x∈ws,0<x.2/\x.2∣Z)/\0<Z/\Bt 2000 Z/\Q (.int (Wq.fi 1 ws)) H
noncomputable def C0 (C:Addr):Sp:=λvs H Q _=>∃(x dx l:Addr) (ts:List Int) (b:Int),vs=[.ref x,.ref l,.int b]/\H x=some (.ins C dx [])/\H l=some (.lst (ts.map V.int))/\
 ∀m H',H m=none->H' m=some (.lst (ts.map V.int))->H' x=some (.ins C dx [("tops",.ref m),("bottom",.int b)])->(∀y o,y≠x->H y=some o->H' y=some o)->Q .cE H'
noncomputable def DY (C:Addr):Sp:=λvs H Q _=>∃(x:Addr) (S:Dg.Bk) (d:Int),vs=[.ref x,.int d]/\mG C H x S/\Bt 4000 d/\Bt 4000 S.2/\(∀t∈S.1,Bt 4000 t)/\S.1.length<=60/\
 ∀y dy m H',az H H'->H y=none->H m=none->H' y=some (.ins C dy [("tops",.ref m),("bottom",.int (S.2*d))])->H' m=some (.lst ((S.1.map (·*d)).map V.int))->Q (.ref y) H'
noncomputable def II (C:Addr):Sp:=λvs H Q _=>∃(x:Addr) (S:Dg.Bk),vs=[.ref x]/\mG C H x S/\0<S.2/\Bt 5000 S.2/\S.1.length<=60/\∀l H',az H H'->H l=none->Rep H' (.lst ((S.1.map λt=>Wq.low t S.2).map bz)) (.ref l)->Q (.ref l) H'
noncomputable def FN:Sp:=λvs H Q _=>∃(a:V) (q:Pl),vs=[a]/\Rep H (jx q) a/\∀r H',az H H'->H' r=some (.tup (Pr (Wq.dt q).1 (Wq.dt q).2))->Q (.ref r) H'
noncomputable def FO (C:Addr):Sp:=λvs H Q _=>∃(a:Addr) (ws:List Wq.Sh) (Z:Int),vs=[.ref a]/\Rep H (.lst (ws.map bz)) (.ref a)/\ws.length<=60/\(∀x∈ws,0<x.2/\x.2∣Z/\Bt 4000 x.1)/\0<Z/\Bt 2000 Z/\
 ∀x H',az H H'->mG C H' x (ws.map (Wq.sc (Wq.fi 1 ws)),Wq.fi 1 ws)->Q (.ref x) H'
noncomputable def FP (C:Addr):Sp:=λvs H Q _=>∃(x:Addr) (S:Dg.Bk),vs=[.ref x]/\mG C H x S/\S.1.length<=60/\∀y H',az H H'->mG C H' y (List.replicate S.1.length 0,S.2)->Q (.ref y) H'
namespace Dg
noncomputable def wR (n:Nat) (ws:Wy):Prop:=ws.length<=5/\∀x∈ws,1<=x.1/\x.1<=200000/\0<=x.2/\x.2< (n:Int)
theorem FQ:∀{ws:Wy},(∀x∈ws,1<=x.1/\x.1<=200000)->(ws.length:Int)<=Wq.cH ws/\Wq.cH ws<=200000* (ws.length:Int)
 | [],_=>⟨aa4 _,aa4 _⟩
 | x::ws,h=>by
  have ih:=FQ (ws:=ws) λy hy=>h y (aak _ hy)
  have:=h x aaj
  rw[cU,aar]
  omega
theorem wR.Mt {n:Nat} {ws:Wy} (h:wR n ws):0<=Wq.cH ws/\Wq.cH ws<=1000000:=by
 have:=FQ λx hx=>⟨(h.2 x hx).1,(h.2 x hx).2.1⟩
 have l:=h.1
 omega
theorem wR.tt {n:Nat} {ws:Wy} (h:wR n ws):1<=tt ws/\tt ws<=1000000:=by
 have:=FQ λx hx=>⟨(h.2 x hx).1,(h.2 x hx).2.1⟩
 have l:=h.1
 unfold Dg.tt
 cases ws with
 | nil=>decide
 | cons x ws=>
  rw[if_neg (by simp)]
  rw[aar] at this l
  omega
theorem wU {q:Int}:∀{ws:Wy},(∀x∈ws,1<=x.1)->0<=i3 q ws/\i3 q ws<=Wq.cH ws
 | [],_=>⟨aa4 _,aa4 _⟩
 | x::ws,h=>by
  have ih:=wU (q:=q) (ws:=ws) λy hy=>h y (aak _ hy)
  have:=h x aaj
  show 0<=(if x.2=q then x.1 else 0)+i3 q ws/\(if x.2=q then x.1 else 0)+i3 q ws<=_
  rw[cU]
  split <;>omega
theorem o9.ent {ps:List Int} {W:Int->Wy} {L:List (List Int)} {n:Nat} (R:o9 ps W L) (w:∀p∈ps,wR n (W p)):∀r∈L,∀x∈r,x.natAbs<=2^20:=by
 intro r hr x hx
 obtain⟨i,hi,rfl⟩:=aa5 hr
 have lr:=R.2.1 _ (aao hi)
 obtain⟨j,hj,rfl⟩:=aa5 hx
 have uA:i<ps.length:=by rw[<-R.1];exact hi
 have IJ:j<ps.length:=by omega
 have e:=R.2.2 i j uA IJ
 rw[aaf (l:=L),aad hi,Option.getD_some,aaf,aad hj,Option.getD_some] at e
 have mp:ps.getD i 0∈ps:=by rw[aaf,aad uA];exact aao uA
 have k:=w _ mp
 obtain⟨t0,t1⟩:=k.tt
 obtain⟨u0,u1⟩:=k.Mt
 obtain⟨s0,s1⟩:=wU (q:=ps.getD j 0) λx hx=>(k.2 x hx).1
 rw[e]
 split <;>omega
theorem qk (n:Nat) (h:n<=31):(n+1)^ (n+1)<=2^ (5*n+5):=by
 have e:(2:Nat)^ (5*n+5)=32^ (n+1):=by rw[show 5*n+5=5* (n+1) by omega,Nat.pow_mul]
 rw[e]
 exact Nat.pow_le_pow_left (by omega) _
theorem AG (n M:Nat) (h:n<=31) (h1:1<=n):(n+1)^ (n+1)* (2^ (M+61)* (2^20)^n)<2^ (M+92*n):=by
 refine abf (Nat.mul_le_mul_right _ (qk n h)) ?_
 rw[<-Nat.pow_mul,<-Nat.pow_add,<-Nat.pow_add]
 exact Nat.pow_lt_pow_right (by decide) (by omega)
theorem C1 (n:Nat) (h:n<=31) (h1:1<=n):(n+1)^ (n+1)* (2^20)^n<2^ (92*n):=by
 refine abf (Nat.mul_le_mul_right _ (qk n h)) ?_
 rw[<-Nat.pow_mul,<-Nat.pow_add]
 exact Nat.pow_lt_pow_right (by decide) (by omega)
noncomputable def putK (ps xs ts:List Int):Nat->List Int
 | 0=>ts
 | k+1=>(putK ps xs ts k).set (ps.getD k 0).toNat (xs.getD k 0)
theorem jE (ps xs ts:List Int):∀k,(putK ps xs ts k).length=ts.length
 | 0=>rfl
 | k+1=>by unfold putK;rw[aaT,jE ps xs ts k]
theorem t9 {ps xs ts:List Int} {q:Int} (q0:0<=q) (hp:∀p∈ps,0<=p) (h:q∉ps):∀k,k<=ps.length->(putK ps xs ts k).getD q.toNat 0=ts.getD q.toNat 0
 | 0,_=>rfl
 | k+1,hk=>by
  have e:ps.getD k 0=ps[k]:=by rw[aaf,aad (by omega)];rfl
  have m:=aao (l:=ps) (n:=k) (by omega)
  have:=hp _ m
  unfold putK
  rw[eV (λz=>h (by rw[e] at z;rw[show q=ps[k] by omega];exact m)),t9 q0 hp h k (by omega)]
theorem wV {ps xs ts:List Int} {n:Nat} (nd:ps.Nodup) (hp:∀p∈ps,0<=p/\p< (n:Int)) (lt:ts.length=n) {j:Nat}:∀k,k<=ps.length->j<k->(putK ps xs ts k).getD (ps.getD j 0).toNat 0=xs.getD j 0
 | 0,_,h=>absurd h (abc _)
 | k+1,hk,h=>by
  have e:ps.getD k 0=ps[k]:=by rw[aaf,aad (by omega)];rfl
  have ej:ps.getD j 0=ps[j]:=by rw[aaf,aad (by omega)];rfl
  have m:=hp _ (aao (l:=ps) (n:=k) (by omega))
  have mj:=hp _ (aao (l:=ps) (n:=j) (by omega))
  unfold putK
  by_cases c:j=k
  ·subst c
   rw[gS (by rw[jE,lt,e];omega)]
  ·rw[eV ?_,wV nd hp lt k (by omega) (by omega)]
   rw[e,ej]
   intro z
   exact c ((abj nd).mp (show ps[j]=ps[k] by omega))
noncomputable def C3 (ps:List Int) (W:Int->Wy) (gt:List Int) (G:Int) (S T:Bk):Prop:=∃d,0<d/\T.2=S.2*d/\T.1.length=S.1.length/\(∀q,0<=q->q∉ps->T.1.getD q.toNat 0=S.1.getD q.toNat 0*d)/\
 ∀p∈ps,tt (W p)*T.1.getD p.toNat 0=tt (W p)*gt.getD p.toNat 0* (S.2 / G)*d+gF T.1 (W p)
structure Sz (n M:Nat) (S:Bk):Prop where
 len:S.1.length=n
 pos:0<S.2
 bb:Bt M S.2
 bt:∀q,Bt M (S.1.getD q 0)
theorem Sz.up {n M M':Nat} {S:Bk} (h:Sz n M S) (l:M<=M'):Sz n M' S:=⟨h.len,h.pos,h.bb.mono l,λq=>(h.bt q).mono l⟩
theorem DZ {M:Nat} (ts:List Int) (h:∀q,Bt M (ts.getD q 0)):∀{ws:Wy},(∀x∈ws,1<=x.1)->(gF ts ws).natAbs<=(Wq.cH ws).toNat *2^M/\0<=Wq.cH ws
 | [],_=>⟨by show(0:Int).natAbs<=_;simp,aa4 _⟩
 | x::ws,hw=>by
  obtain⟨ih,t0⟩:=DZ ts h (ws:=ws) λy hy=>hw y (aak _ hy)
  have x0:=hw x aaj
  have e:(Wq.cH (x::ws)).toNat=x.1.toNat+ (Wq.cH ws).toNat:=by rw[cU];omega
  have m:(x.1*ts.getD x.2.toNat 0).natAbs<=x.1.toNat *2^M:=by
   rw[aaL,show x.1.natAbs=x.1.toNat by omega]
   exact aby _ (Nat.le_of_lt (h _))
  refine⟨?_,by rw[cU];omega⟩
  rw[e,Nat.add_mul]
  show(x.1*ts.getD x.2.toNat 0+gF ts ws).natAbs<=_
  omega
theorem FR {M n:Nat} {ts:List Int} {ws:Wy} (h:∀q,Bt M (ts.getD q 0)) (w:wR n ws):Bt (M+20) (gF ts ws):=by
 obtain⟨a,_⟩:=DZ ts h λx hx=>(w.2 x hx).1
 have t:=w.Mt
 have e:(2:Nat)^ (M+20)=1048576*2^M:=by rw[Nat.pow_add,Nat.mul_comm]
 have:(Wq.cH ws).toNat *2^M<=1000000*2^M:=Nat.mul_le_mul_right _ (by omega)
 have:0<2^M:=Nat.pow_pos (by decide)
 unfold Bt
 omega
theorem AH {M n:Nat} {S:Bk} {G g:Int} {ws:Wy} (h:Sz n M S) (w:wR n ws) (G0:0<G) (dv:G∣S.2) (hg:g.natAbs<=2^40*G.toNat):Bt (M+60) (tt ws*g* (S.2 / G))/\(tt ws*g* (S.2 / G)+gF S.1 ws).natAbs<=2^ (M+61):=by
 obtain⟨t0,t1⟩:=w.tt
 obtain⟨k,hk⟩:=dv
 have S0:=h.pos
 have ek:S.2 / G=k:=by rw[hk];exact Int.mul_ediv_cancel_left k (by omega)
 have k0:0<k:=by rw[hk] at S0;exact Int.pos_of_mul_pos_right S0 G0
 have eS:S.2.natAbs=G.toNat *k.toNat:=by rw[hk,aaL];congr 1 <;>omega
 have b1:=h.bb
 unfold Bt at b1
 have g1:(g*k).natAbs<=2^40*S.2.natAbs:=by
  rw[aaL,eS,<-Nat.mul_assoc,show k.natAbs=k.toNat by omega]
  exact Nat.mul_le_mul_right _ hg
 have g2:(tt ws*g* (S.2 / G)).natAbs<=1000000* (2^40*S.2.natAbs):=by
  rw[ek,aaU,aaL]
  exact abi (by omega) g1
 have Xx:(2:Nat)^ (M+60)=1152921504606846976*2^M:=by rw[Nat.pow_add,Nat.mul_comm]
 have Xy:(2:Nat)^ (M+61)=2305843009213693952*2^M:=by rw[Nat.pow_add,Nat.mul_comm]
 have s:=FR h.bt w
 have e20:(2:Nat)^ (M+20)=1048576*2^M:=by rw[Nat.pow_add,Nat.mul_comm]
 unfold Bt at s ⊢
 rw[Xx,Xy]
 rw[e20] at s
 omega
theorem C3.ne {ps:List Int} {W:Int->Wy} {gt:List Int} {G:Int} {S T:Bk} (h:C3 ps W gt G S T) (B0:0<S.2) {q:Int} (q0:0<=q) (hq:q∉ps):val T q=val S q:=by
 obtain⟨d,d0,e2,_,o,_⟩:=h
 unfold val
 rw[o q q0 hq,e2,Rat.intCast_mul,Rat.intCast_mul]
 have h1:=si B0
 have h2:=si d0
 generalize (S.2:Rat)=v at *
 generalize (d:Rat)=t at *
 generalize ((S.1.getD q.toNat 0:Int):Rat)=s at *
 grind
theorem C3.eq {ps:List Int} {W:Int->Wy} {gt:List Int} {G:Int} {S T:Bk} (h:C3 ps W gt G S T) (B0:0<S.2) (G0:0<G) (dv:G∣S.2) {p:Int} (hp:p∈ps) (t0:0<tt (W p)):val T p=(gt.getD p.toNat 0:Rat) / (G:Rat)+cL (tt (W p)) (val T) (W p):=by
 obtain⟨d,d0,e2,_,_,o⟩:=h
 have T0:0<T.2:=by rw[e2];exact aa7 B0 d0
 have e:=o p hp
 rw[<-tU T0 t0 (W p)]
 obtain⟨k,hk⟩:=dv
 have ek:S.2 / G=k:=by rw[hk];exact Int.mul_ediv_cancel_left k (by omega)
 have k0:0<k:=by
  rw[hk] at B0
  exact Int.pos_of_mul_pos_right B0 G0
 unfold val
 rw[ek] at e
 have e':((tt (W p)*T.1.getD p.toNat 0:Int):Rat)=((tt (W p)*gt.getD p.toNat 0*k*d+gF T.1 (W p):Int):Rat):=by rw[e]
 rw[Rat.intCast_add,Rat.intCast_mul,Rat.intCast_mul,Rat.intCast_mul,Rat.intCast_mul] at e'
 rw[e2,hk]
 simp only[Rat.intCast_mul]
 have h1:=si G0
 have h2:=si d0
 have h3:=si k0
 have h4:=si t0
 generalize (k:Rat)=v at *
 generalize (G:Rat)=u at *
 generalize (d:Rat)=x at *
 generalize (tt (W p):Rat)=t at *
 generalize ((gt.getD p.toNat 0:Int):Rat)=s at *
 generalize ((gF T.1 (W p):Int):Rat)=r at *
 generalize ((T.1.getD p.toNat 0:Int):Rat)=y at *
 clear ek k0 hk e o T0 e2
 grind
theorem wW {d:Int} (d0:0<d) {v:Int->Rat} {M:Rat}:∀{ws:Wy},(∀x∈ws,1<=x.1/\v x.2<=M)->cL d v ws<=(Wq.cH ws:Rat) / (d:Rat)*M
 | [],_=>by show(0:Rat)<=((0:Int):Rat) / _*M;grind
 | x::ws,h=>by
  have ih:=wW d0 (v:=v) (M:=M) (ws:=ws) λy hy=>h y (aak _ hy)
  obtain⟨x1,x2⟩:=h x aaj
  show(x.1:Rat) / (d:Rat)*v x.2+cL d v ws<=((x.1+Wq.cH ws:Int):Rat) / (d:Rat)*M
  rw[Rat.intCast_add]
  have c:(0:Rat)<=(x.1:Rat) / (d:Rat):=by
   rw[Rat.div_def]
   exact Rat.le_of_lt (Rat.mul_pos (Rat.intCast_pos.mpr (by omega)) (Rat.inv_pos.mpr (Rat.intCast_pos.mpr (by omega))))
  have m:=Rat.mul_le_mul_of_nonneg_left x2 c
  generalize v x.2=a at *
  generalize cL d v ws=r at *
  generalize (x.1:Rat)=s at *
  generalize (Wq.cH ws:Rat)=t at *
  have e:(s+t) / (d:Rat)*M=s / (d:Rat)*M+t / (d:Rat)*M:=by grind
  rw[e]
  generalize s / (d:Rat)=u at *
  generalize t / (d:Rat)=w at *
  grind
theorem wX {d:Int} (d0:0<d) {v:Int->Rat} {M:Rat}:∀{ws:Wy},(∀x∈ws,1<=x.1/\v x.2<=M)->(∃x∈ws,v x.2<M)->cL d v ws< (Wq.cH ws:Rat) / (d:Rat)*M
 | [],_,h=>by obtain⟨x,hx,_⟩:=h;simp at hx
 | x::ws,h,k=>by
  have hw:∀y∈ws,1<=y.1/\v y.2<=M:=λy hy=>h y (aak _ hy)
  obtain⟨x1,x2⟩:=h x aaj
  show(x.1:Rat) / (d:Rat)*v x.2+cL d v ws< ((x.1+Wq.cH ws:Int):Rat) / (d:Rat)*M
  rw[Rat.intCast_add]
  have c:(0:Rat)< (x.1:Rat) / (d:Rat):=by
   rw[Rat.div_def]
   exact Rat.mul_pos (Rat.intCast_pos.mpr (by omega)) (Rat.inv_pos.mpr (Rat.intCast_pos.mpr (by omega)))
  have m:=Rat.mul_le_mul_of_nonneg_left x2 (Rat.le_of_lt c)
  have ih:=wW d0 hw
  have K8:(∃y∈ws,v y.2<M)->cL d v ws< (Wq.cH ws:Rat) / (d:Rat)*M:=λz=>wX d0 hw z
  have m2:v x.2<M->(x.1:Rat) / (d:Rat)*v x.2< (x.1:Rat) / (d:Rat)*M:=λz=>Rat.mul_lt_mul_of_pos_left z c
  have k2:v x.2<M\/∃y∈ws,v y.2<M:=by
   obtain⟨y,hy,ly⟩:=k
   rcases List.mem_cons.mp hy with rfl | hy
   ·exact .inl ly
   ·exact .inr ⟨y,hy,ly⟩
  generalize v x.2=a at *
  generalize cL d v ws=r at *
  generalize (x.1:Rat)=s at *
  generalize (Wq.cH ws:Rat)=t at *
  have e:(s+t) / (d:Rat)*M=s / (d:Rat)*M+t / (d:Rat)*M:=by grind
  rw[e]
  generalize s / (d:Rat)*M=u at *
  generalize t / (d:Rat)*M=w at *
  generalize s / (d:Rat)*a=z at *
  rcases k2 with k2 | k2
  ·have:=m2 k2
   grind
  ·have:=K8 k2
   grind
theorem wY (v:Int->Rat):∀(ps:List Int),ps≠[]->∃q∈ps,∀p∈ps,v p<=v q
 | [],h=>absurd rfl h
 | [a],_=>⟨a,List.mem_singleton.mpr rfl,λp hp=>by rw[List.mem_singleton.mp hp];exact Rat.le_refl⟩
 | a::b::l,_=>by
  obtain⟨q,hq,h⟩:=wY v (b::l) (by simp)
  rcases Rat.le_total (a:=v q) (b:=v a) with c | c
  ·refine⟨a,aaj,λp hp=>?_⟩
   rcases List.mem_cons.mp hp with rfl | hp
   ·exact Rat.le_refl
   ·exact Rat.le_trans (h p hp) c
  ·refine⟨q,aak _ hq,λp hp=>?_⟩
   rcases List.mem_cons.mp hp with rfl | hp
   ·exact c
   ·exact h p hp
theorem sub_zero {ps:List Int} {W:Int->Wy} {lv:Int->Nat} {v:Int->Rat} (h:∀p∈ps,v p<=cL (tt (W p)) v (W p)) (pos:∀p∈ps,∀x∈W p,1<=x.1) (out:∀p∈ps,∀x∈W p,x.2∉ps->v x.2<=0) (dn:∀p∈ps,W p=[]\/∃x∈W p,lv x.2<lv p):∀p∈ps,v p<=0:=by
 intro p0 G5
 obtain⟨q,hq,mx⟩:=wY v ps (List.ne_nil_of_mem G5)
 rcases Rat.le_total (a:=v q) (b:=0) with M0 | M0
 ·exact Rat.le_trans (mx p0 G5) M0
 ·by_cases z:v q=0
  ·rw[<-z];exact mx p0 G5
  ·exfalso
   have M1:0<v q:=by grind
   have all:∀p∈ps,∀x∈W p,v x.2<=v q:=λp hp x hx=>by
    by_cases c:x.2∈ps
    ·exact mx _ c
    ·exact Rat.le_trans (out p hp x hx c) M0
   have low:∀n,∀p∈ps,lv p<n->v p<v q:=by
    intro n
    induction n with
    | zero=>exact λp _ hl=>absurd hl (abc _)
    | succ n ih=>
     intro p hp hl
     have e:=h p hp
     rcases dn p hp with z | ⟨x,hx,lx⟩
     ·rw[z] at e
      have e:v p<=0:=e
      grind
     ·have et:tt (W p)=Wq.cH (W p):=by unfold tt;rw[if_neg (List.ne_nil_of_mem hx)]
      have tp:0<tt (W p):=by
       rw[et]
       obtain⟨s0,s1⟩:=wU (q:=x.2) (pos p hp)
       have:∀{ws:Wy},(∀y∈ws,1<=y.1)->x∈ws->0<Wq.cH ws:=by
        intro ws
        induction ws with
        | nil=>intro _ h;simp at h
        | cons y ws K8=>
         intro h1 h2
         have y1:=h1 y aaj
         have:=(wU (q:=x.2) λz hz=>h1 z (aak y hz))
         rw[cU]
         omega
       exact this (pos p hp) hx
      have k:=wX tp (v:=v) (M:=v q) (ws:=W p) (λy hy=>⟨pos p hp y hy,all p hp y hy⟩) ⟨x,hx,by
       by_cases c:x.2∈ps
       ·exact ih _ c (by omega)
       ·have:=out p hp x hx c
        grind⟩
      have one:(Wq.cH (W p):Rat) / (tt (W p):Rat)*v q=v q:=by
       have:=si tp
       rw[et] at this ⊢
       generalize (Wq.cH (W p):Rat)=t at *
       grind
      rw[one] at k
      grind
   exact Rat.lt_irrefl (low _ q hq (aaK _))
theorem gW {d:Int} {v v':Int->Rat}:∀ws:Wy,cL d (λi=>v i - v' i) ws=cL d v ws - cL d v' ws
 | []=>by show(0:Rat)=0 - 0;grind
 | x::ws=>by
  have ih:=gW (d:=d) (v:=v) (v':=v') ws
  show(x.1:Rat) / (d:Rat)* (v x.2 - v' x.2)+cL d (λi=>v i - v' i) ws=(x.1:Rat) / (d:Rat)*v x.2+cL d v ws - ((x.1:Rat) / (d:Rat)*v' x.2+cL d v' ws)
  rw[ih]
  grind
end Dg
noncomputable def GS (p:Int×Int):Prop:=Bt 40 p.1/\Bt 20 p.2/\Wq.Lw p
noncomputable def wZ (n:Nat):Pl->Prop
 | .fin g=>GS g
 | .cP g ws=>GS g/\0<ws.length/\Dg.wR n ws
 | .bN who to=>(who=1\/who=2)/\0<to.length/\to.length<=4/\∀g∈to,0<=g/\g< (n:Int)
noncomputable def xa (b:List Pl) (p:Int):Nat:=match b[p.toNat]? with | some (.bN _ to)=>to.length | _=>1
noncomputable def kf (b:List Pl):Nat->List Int->Nat
 | a,[]=>a
 | a,p::ps=>kf b (a*xa b p) ps
structure C4 (b:List Pl) (rk:Int->Nat):Prop where
 good:Lv.Good b
 cP:∀(i:Nat) g ws,b[i]?=some (.cP g ws)->∃x∈ws,rk x.2<rk (i:Int)
 bN:∀(i:Nat) w to,b[i]?=some (.bN w to)->∀g∈to,rk g<rk (i:Int)
structure gX (b:List Pl) (rk:Int->Nat):Prop where
 pos:0<b.length
 len:b.length<=16
 ok:∀q∈b,wZ b.length q
 fO:C4 b rk
 yF:∀p,Pr.In b p->kf b 1 (Pr.dc b p)<=4096
section LA
open Lv Bf
variable {b : List Pl} {rk : Int -> Nat} (D : C4 b rk)
include D
theorem C4.lv:∀(m i:Nat),rk (i:Int)<m->i<b.length->lk (tu b) (i:Int)≠none
 | 0,_,h,_=>absurd h (abc _)
 | m+1,i,h,hi=>by
  have e:b[i]?=some b[i]:=aad hi
  have ih:∀g∈fL b[i],rk g<rk (i:Int)->lk (tu b) g≠none:=λg hg hr=>by
   obtain⟨h0,h1⟩:=D.good.lZ _ (aae e) g hg
   obtain⟨j,rfl⟩:=aau h0
   exact C4.lv m j (by omega) (by omega)
  have E:=zB D.good i _ e
  have nn:∀v,(tu b)[i]?=some (some v)->lk (tu b) (i:Int)≠none:=λv hv z=>by
   rw[Fg.mpr hv] at z
   cases z
  cases q:b[i] with
  | fin w=>rw[q] at E;exact nn _ E
  | cP w ws=>
   rw[q] at E ih e
   rcases E with ⟨_,a2⟩ | ⟨v,hv,_⟩
   ·obtain⟨x,hx,rx⟩:=D.cP i w ws e
    have m:x.2∈ws.map (·.2):=List.mem_map.mpr ⟨x,hx,rfl⟩
    exact absurd (a2 x.2 m) (ih x.2 m rx)
   ·exact nn v hv
  | bN w to=>
   rw[q] at E ih e
   rcases E with ⟨_,g,hg,a2⟩ | ⟨v,hv,_⟩
   ·exact absurd a2 (ih g hg (D.bN i w to e g hg))
   ·exact nn v hv
theorem C4.ring:nY b=[]:=by
 refine List.eq_nil_iff_forall_not_mem.mpr λi hi=>?_
 obtain⟨h1,h2⟩:=zY.mp hi
 exact D.lv _ i (aaK _) h1 h2
theorem C4.within {p o:Int} (hp:Pr.In b p) (ho:o∈Pr.dc b p) (ne:o≠p):∃g∈fj b p,g∈Pr.dc b p:=by
 obtain⟨h1,h2⟩:=Pr.dh.mp ho
 obtain⟨ws,e⟩:=(Pr.vq D.good hp).mp h1
 cases ws with
 | nil=>cases e;exact absurd rfl ne
 | cons w ws=>
  have e:(match (fj b p)[w]? with | some g=>Bf.go b g ws | none=>none)=some o:=e
  cases c:(fj b p)[w]? with
  | none=>rw[c] at e;cases e
  | some g=>
   rw[c] at e
   have hg:=aae c
   have kg:=Pr.rn D.good hp (Pr.ik D.good hp) hg
   have ig:=Pr.oa D.good hp kg
   have ko:o∈Pr.kb b g:=(Pr.vq D.good ig).mpr ⟨ws,e⟩
   exact⟨g,hg,Pr.dh.mpr ⟨kg,Pr.fA D.good ig ko h2⟩⟩
end LA
theorem vA (rk:Int->Nat):∀(ps:List Int),ps≠[]->∃q∈ps,∀p∈ps,rk q<=rk p
 | [],h=>absurd rfl h
 | [a],_=>⟨a,List.mem_singleton.mpr rfl,λp hp=>by rw[List.mem_singleton.mp hp];exact aah _⟩
 | a::b::l,_=>by
  obtain⟨q,hq,h⟩:=vA rk (b::l) (by simp)
  by_cases c:rk a<=rk q
  ·refine⟨a,aaj,λp hp=>?_⟩
   rcases List.mem_cons.mp hp with rfl | hp
   ·exact aah _
   ·exact aap c (h p hp)
  ·refine⟨q,aak _ hq,λp hp=>?_⟩
   rcases List.mem_cons.mp hp with rfl | hp
   ·omega
   ·exact h p hp
noncomputable def lF (b:List Pl) (p:Int):Bool:=match b[p.toNat]? with | some (.bN _ _)=>true | _=>false
set_option tactic.hygienic true in
theorem xc {b:List Pl} (h:∀p,xa b p<=4):∀(ps:List Int) (a:Nat),kf b a ps<=a*4^ (ps.filter (lF b)).length
 | [],a=>by show a<=a*1;omega
 | p::ps,a=>by
  have ih:=xc h ps (a*xa b p)
  refine aap (show kf b (a*xa b p) ps<=_ from ih) ?_
  by_cases c:lF b p=true
  ·rw[List.filter_cons_of_pos c,aar,Nat.pow_succ]
   have:=aby a (h p)
   calc a*xa b p*4^ (ps.filter (lF b)).length<=a*4*4^ (ps.filter (lF b)).length:=Nat.mul_le_mul_right _ this
    _=a* (4^ (ps.filter (lF b)).length*4):=by rw[Nat.mul_assoc,Nat.mul_comm 4]
  ·rw[List.filter_cons_of_neg c]
   have e:xa b p=1:=by
    unfold lF at c
    unfold xa
    split
    ·rename_i e;rw[e] at c;simp at c
    ·rfl
   rw[e,Nat.mul_one]
   exact aah _
set_option tactic.hygienic true in
theorem vB {b:List Pl} (ok:∀q∈b,wZ b.length q) (p:Int):1<=xa b p/\xa b p<=4:=by
 unfold xa
 split
 ·rename_i w to e
  have:=ok _ (aae e)
  exact⟨this.2.1,this.2.2.1⟩
 ·exact⟨aah _,by decide⟩
theorem xf {b:List Pl} (ok:∀q∈b,wZ b.length q):∀(ps:List Int) (a:Nat),a<=kf b a ps
 | [],a=>aah _
 | p::ps,a=>aap (Nat.le_mul_of_pos_right a (vB ok p).1) (xf ok ps _)
theorem AI {b:List Pl} {rk:Int->Nat} (D:C4 b rk) (ok:∀q∈b,wZ b.length q) (l8:b.length<=8) {p:Int} (hp:Pr.In b p):kf b 1 (Pr.dc b p)<=4096:=by
 refine aap (xc (λp=>(vB ok p).2) _ _) ?_
 rw[Nat.one_mul]
 suffices h:((Pr.dc b p).filter (lF b)).length<=6 by
  exact aap (abo (by decide) h) (by decide)
 have nd:(Pr.dc b p).Nodup:=(Pr.j7 D.good hp).imp λh z=>by omega
 obtain⟨q,hq,mn⟩:=vA rk _ (Pr.iZ D.good hp)
 have iq:=Pr.eJ D.good hp hq
 by_cases one:∀o∈Pr.dc b p,o=q
 ·have:=Pr.sub_len (l:=(Pr.dc b p).filter (lF b)) (m:=[q]) (nd.filter _) λx hx=>List.mem_singleton.mpr (one x (List.mem_filter.mp hx).1)
  have:((Pr.dc b p).filter (lF b)).length<=1:=this
  omega
 ·obtain⟨o,Xz⟩:=Classical.not_forall.mp one
  obtain⟨ho,ne⟩:=Classical.not_imp.mp Xz
  have ep:=Pr.rA D.good hp hq
  have wi:∀x,x∈Pr.dc b p->∃g∈Bf.fj b x,g∈Pr.dc b p:=λx hx=>by
   have ix:=Pr.eJ D.good hp hx
   have ex:=Pr.rA D.good hp hx
   by_cases c:x=q
   ·subst c
    obtain⟨g,h1,h2⟩:=D.within ix (o:=o) (by rw[ex];exact ho) ne
    exact⟨g,h1,by rw[<-ex];exact h2⟩
   ·obtain⟨g,h1,h2⟩:=D.within ix (o:=q) (by rw[ex];exact hq) (λz=>c z.symm)
    exact⟨g,h1,by rw[<-ex];exact h2⟩
  have XA:∀x:Int,Pr.In b x->∃i:Nat,x=i/\∃pl,b[i]?=some pl/\Bf.fj b x=Lv.fL pl:=λx hx=>by
   obtain⟨i,rfl⟩:=aau hx.1
   have hi:i<b.length:=by have:=hx.2;omega
   refine⟨i,rfl,b[i],aad hi,?_⟩
   unfold Bf.fj
   rw[aai,aad hi]
  have zp:lF b q=false:=by
   obtain⟨i,rfl,pl,e,eg⟩:=XA q iq
   obtain⟨g,h1,h2⟩:=wi _ hq
   rw[eg] at h1
   unfold lF
   rw[aai,e]
   cases pl with
   | fin w=>rfl
   | cP w ws=>rfl
   | bN w to=>
    have:=D.bN i w to e g h1
    have:=mn g h2
    omega
  obtain⟨f,hf,mf⟩:=vA rk ((List.range b.length).map fun(i:Nat)=>(i:Int)) (by
   have:0<b.length:=by have:=hp.1;have:=hp.2;omega
   intro z
   have k:=congrArg List.length z
   rw[aac,aaA,abe] at k
   omega)
  obtain⟨f,XB,rfl⟩:=List.mem_map.mp hf
  have lf:=List.mem_range.mp XB
  have inr:∀g:Int,Pr.In b g->rk (f:Int)<=rk g:=λg hg=>by
   obtain⟨j,rfl⟩:=aau hg.1
   exact mf _ (List.mem_map.mpr ⟨j,List.mem_range.mpr (by have:=hg.2;omega),rfl⟩)
  have ef:∃w,b[f]?=some (.fin w):=by
   have e:b[f]?=some b[f]:=aad lf
   have rg:=D.good.lZ _ (aae e)
   cases c:b[f] with
   | fin w=>exact⟨w,by rw[e,c]⟩
   | cP w ws=>
    rw[c] at e rg
    obtain⟨x,hx,rx⟩:=D.cP f w ws e
    have:=inr x.2 (rg _ (List.mem_map.mpr ⟨x,hx,rfl⟩))
    omega
   | bN w to=>
    rw[c] at e rg
    have ne:=D.good.bN _ (aae e) w to rfl
    obtain⟨g,hg⟩:=List.exists_mem_of_ne_nil _ ne
    have:=D.bN f w to e g hg
    have:=inr g (rg _ hg)
    omega
  obtain⟨w,ef⟩:=ef
  have nf:(f:Int)∉Pr.dc b p:=λz=>by
   obtain⟨g,h1,_⟩:=wi _ z
   unfold Bf.fj at h1
   rw[aai,ef] at h1
   cases h1
  have:=Pr.sub_len (l:=(f:Int)::q::(Pr.dc b p).filter (lF b)) (m:=(List.range b.length).map fun(i:Nat)=>(i:Int)) ?_ ?_
  ·rw[aar,aar,aac,aaA] at this
   omega
  ·refine List.nodup_cons.mpr ⟨λz=>?_,List.nodup_cons.mpr ⟨λz=>?_,nd.filter _⟩⟩
   ·rcases List.mem_cons.mp z with z | z
    ·exact nf (by rw[z];exact hq)
    ·exact nf (List.mem_filter.mp z).1
   ·have:=(List.mem_filter.mp z).2
    rw[zp] at this
    cases this
  ·intro x hx
   have ix:Pr.In b x:=by
    rcases List.mem_cons.mp hx with rfl | hx
    ·exact⟨by omega,by omega⟩
    ·rcases List.mem_cons.mp hx with rfl | hx
     ·exact iq
     ·exact Pr.eJ D.good hp (List.mem_filter.mp hx).1
   obtain⟨j,rfl⟩:=aau ix.1
   exact List.mem_map.mpr ⟨j,List.mem_range.mpr (by have:=ix.2;omega),rfl⟩
noncomputable def uB:Pl->Option Int->Dg.Wy
 | .fin _,_=>[]
 | .cP _ ws,_=>ws
 | .bN _ to,k=>[(1,to.getD (k.getD 0).toNat 0)]
noncomputable def G6:Pl->Option Int->Prop
 | .bN _ to,some k=>0<=k/\k< (to.length:Int)
 | .bN _ _,none=>False
 | _,_=>True
theorem wZ.sS {n:Nat} {q:Pl} (h:wZ n q):(Lv.fL q).length<=5:=by
 cases q with
 | fin g=>exact aas _
 | cP g ws=>simp only[Lv.fL,aac];exact h.2.2.1
 | bN w to=>have:=h.2.2.1;show to.length<=5;omega
theorem D1 {n:Nat} {q:Pl} {k:Option Int} (h:wZ n q) (hk:G6 q k):Dg.wR n (uB q k)/\∀x∈uB q k,x.2∈Lv.fL q:=by
 cases q with
 | fin g=>exact⟨⟨aas _,by simp [uB]⟩,by simp [uB]⟩
 | cP g ws=>exact⟨h.2.2,λx hx=>List.mem_map.mpr ⟨x,hx,rfl⟩⟩
 | bN w to=>
  cases k with
  | none=>exact hk.elim
  | some k=>
   have hl:k.toNat<to.length:=by have:=hk.1;have:=hk.2;omega
   have m:to.getD k.toNat 0∈to:=by rw[aaf,aad hl];exact aao hl
   have e:uB (.bN w to) (some k)=[(1,to.getD k.toNat 0)]:=rfl
   rw[e]
   refine⟨⟨by show 1<=5;omega,λx hx=>?_⟩,λx hx=>?_⟩
   ·rw[List.mem_singleton.mp hx]
    exact⟨by show(1:Int)<=1;omega,by show(1:Int)<=200000;omega,h.2.2.2 _ m⟩
   ·rw[List.mem_singleton.mp hx]
    exact m
noncomputable def cz (b:List Pl) (ks:List (Option Int)):List Dg.Wy:=List.zipWith uB b ks
noncomputable def gB (b:List Pl):Int:=Wq.fi 1 (b.map Wq.dt)
noncomputable def gT (b:List Pl):List Int:=(b.map Wq.dt).map (Wq.sc (gB b))
structure dY (b:List Pl) (ks:List (Option Int)):Prop where
 len:ks.length=b.length
 ok:∀(i:Nat) q k,b[i]?=some q->ks[i]?=some k->G6 q k
theorem dY.at {b:List Pl} {ks:List (Option Int)} (h:dY b ks) {i:Nat} (hi:i<b.length):∃q k,b[i]?=some q/\ks[i]?=some k/\G6 q k/\cu (cz b ks) (i:Int)=uB q k:=by
 have e1:b[i]?=some b[i]:=aad hi
 have hk:i<ks.length:=by rw[h.len];exact hi
 have e2:ks[i]?=some ks[i]:=aad hk
 refine⟨_,_,e1,e2,h.ok i _ _ e1 e2,?_⟩
 unfold cu cz
 rw[aai,aaf,abl,e1,e2]
 rfl
noncomputable def EqAt (b:List Pl) (ks:List (Option Int)) (p:Nat) (v:Int->Rat):Prop:=∀q k,b[p]?=some q->ks[p]?=some k->v (p:Int)=Dg.vl (Wq.dt q)+Dg.cL (Dg.tt (uB q k)) v (uB q k)
theorem iu {n:Nat} {q:Pl} (h:wZ n q):GS (Wq.dt q):=by
 cases q with
 | fin g=>exact h
 | cP g ws=>exact h.1
 | bN w to=>exact⟨by show Bt 40 0;exact Bt.of 1 (by decide) (by decide),by show Bt 20 1;exact Bt.of 1 (by decide) (by decide),by show(0:Int)<1;decide,by show Nm.g 0 1=1;decide⟩
noncomputable def pB (xs:List Wq.Sh):Int:=xs.foldr (λx y=>x.2*y) 1
theorem AJ:∀{xs:List Wq.Sh},(∀x∈xs,GS x)->0<pB xs/\Bt (20*xs.length+1) (pB xs)/\∀x∈xs,x.2∣pB xs
 | [],_=>⟨by decide,Bt.of 1 (by decide) (by decide),by simp⟩
 | x::xs,h=>by
  obtain⟨h1,h2,h3⟩:=AJ (xs:=xs) λy hy=>h y (aak _ hy)
  have g:=h x aaj
  refine⟨aa7 g.2.2.1 h1,?_,λy hy=>?_⟩
  ·have:=g.2.1.mul h2
   rw[show 20* (x::xs).length+1=20+ (20*xs.length+1) by rw[aar];omega]
   exact this
  ·rcases List.mem_cons.mp hy with rfl | hy
   ·exact Int.dvd_mul_right _ _
   ·exact Int.dvd_trans (h3 y hy) (Int.dvd_mul_left _ _)
section WE
variable {b : List Pl} {rk : Int -> Nat} (B : gX b rk)
include B
theorem gX.sS:∀q∈b,(Lv.fL q).length<=100:=λq hq=>by have:=(B.ok q hq).sS;omega
theorem gX.bd:Bd b:=⟨by have:=B.len;omega,B.sS,B.fO.good⟩
theorem gX.xg:∀x∈b.map Wq.dt,GS x:=λx hx=>by
 obtain⟨q,hq,rfl⟩:=List.mem_map.mp hx
 exact iu (B.ok q hq)
theorem gX.bot:0<gB b/\Bt 321 (gB b)/\∀q∈b,(Wq.dt q).2∣gB b:=by
 obtain⟨p1,p2,p3⟩:=AJ B.xg
 obtain⟨l1,l2,l3,l4⟩:=Wq.mw (xs:=b.map Wq.dt) (c:=1) (by decide) λx hx=>(B.xg x hx).2.2.1
 have d:=l4 (Z:=pB (b.map Wq.dt)) ⟨pB (b.map Wq.dt),by omega⟩ p3
 rw[aac] at p2
 have bl:=B.len
 exact⟨l1,(p2.mono (by omega)).le (by have:=Int.le_of_dvd p1 d;have:0<gB b:=l1;unfold gB at *;omega),λq hq=>l3 _ (List.mem_map.mpr ⟨q,hq,rfl⟩)⟩
theorem gX.top (p:Nat):((gT b).getD p 0).natAbs<=2^40* (gB b).toNat:=by
 obtain⟨g0,g1,g2⟩:=B.bot
 unfold gT
 rw[aaf,aag,aag]
 cases e:b[p]? with
 | none=>exact aas _
 | some q=>
  have hq:=aae e
  obtain⟨h1,h2,h3⟩:=iu (B.ok q hq)
  show(Wq.sc (gB b) (Wq.dt q)).natAbs<=_
  have:=Nm.dO (a:=gB b) h3.1 (g2 q hq)
  unfold Wq.sc
  unfold Bt at h1
  rw[aaL]
  exact abi (by omega) (by omega)
theorem gX.gV {p:Nat} {q:Pl} (e:b[p]?=some q):((gT b).getD p 0:Rat) / (gB b:Rat)=Dg.vl (Wq.dt q):=by
 obtain⟨g0,g1,g2⟩:=B.bot
 have hq:=aae e
 obtain⟨h1,h2,h4⟩:=iu (B.ok q hq)
 have ee:(gT b).getD p 0=Wq.sc (gB b) (Wq.dt q):=by
  unfold gT
  rw[aaf,aag,aag,e]
  rfl
 rw[ee]
 exact(Dg.tT h4.1 g0 (Wq.vh (g2 q hq)).symm).symm
theorem gX.dn {ks:List (Option Int)} (ko:dY b ks) {p:Int} (hp:Pr.In b p):cu (cz b ks) p=[]\/∃x∈cu (cz b ks) p,rk x.2<rk p:=by
 obtain⟨i,rfl⟩:=aau hp.1
 obtain⟨q,k,e1,e2,po,ew⟩:=ko.at (i:=i) (by have:=hp.2;omega)
 rw[ew]
 cases q with
 | fin g=>exact .inl rfl
 | cP g ws=>exact .inr (B.fO.cP i g ws e1)
 | bN w to=>
  have h:=(D1 (B.ok _ (aae e1)) po).2
  refine .inr ⟨_,List.mem_singleton.mpr rfl,B.fO.bN i w to e1 _ (h _ (List.mem_singleton.mpr rfl))⟩
theorem gX.wk {ks:List (Option Int)} (ko:dY b ks) {p:Int} (hp:Pr.In b p):Dg.wR b.length (cu (cz b ks) p)/\∀x∈cu (cz b ks) p,x.2∈Bf.fj b p:=by
 obtain⟨i,rfl⟩:=aau hp.1
 obtain⟨q,k,e1,e2,po,ew⟩:=ko.at (i:=i) (by have:=hp.2;omega)
 rw[ew]
 have h:=D1 (B.ok _ (aae e1)) po
 refine⟨h.1,λx hx=>?_⟩
 unfold Bf.fj
 rw[aai,e1]
 exact h.2 x hx
noncomputable def xi (b:List Pl) (ps:List Int) (p:Int):Nat:=ps.idxOf (Pr.rep b p)
variable {ps : List Int} (T : Pr.Told b ps)
include T
theorem vC {i:Nat} {h p:Int} (e:ps[i]?=some h) (hp:p∈Pr.dc b h):xi b ps p=i:=by
 have ih:=T.ID (aae e)
 unfold xi
 rw[Pr.rE B.fO.good ih hp,T.rp (aae e)]
 have l:=aa3 (aae e)
 obtain⟨hi,C5⟩:=List.getElem?_eq_some_iff.mp e
 exact(abj T.nd).mp ((aa8 l).trans C5.symm)
theorem IK {i:Nat} {h p:Int} (e:ps[i]?=some h) (hp:Pr.In b p) (z:xi b ps p=i):p∈Pr.dc b h:=by
 have m:=T.has B.fO.good hp
 have l:=aa3 m
 have e2:ps[xi b ps p]?=some (Pr.rep b p):=by unfold xi;rw[aad l,aa8 l]
 rw[z,e] at e2
 cases e2
 rw[Pr.rC B.fO.good hp]
 exact Pr.oh B.fO.good hp
theorem IL {p:Int} (hp:Pr.In b p):xi b ps p<ps.length:=aa3 (T.has B.fO.good hp)
theorem C6 {p g:Int} (hp:Pr.In b p) (hg:g∈Bf.fj b p):xi b ps g<=xi b ps p/\Pr.In b g:=by
 have k:=Pr.rn B.fO.good hp (Pr.ik B.fO.good hp) hg
 exact⟨T.Fy B.fO.good hp k,Pr.oa B.fO.good hp k⟩
theorem AK {i:Nat} (hi:i<=ps.length):Pr.off b ps i<=b.length:=by
 have h1:Pr.off b ps ps.length=b.length:=by
  rw[Pr.CO]
  have:=congrArg List.length (T.Ad B.fO.good)
  rw[(Nm.fv _).length_eq,aac,aac,aaA] at this
  exact this
 have mono:∀k,i+k<=ps.length->Pr.off b ps i<=Pr.off b ps (i+k):=by
  intro k
  induction k with
  | zero=>intro _;exact aah _
  | succ k ih=>
   intro h
   rw[show i+ (k+1)=i+k+1 by omega,Pr.oi (aad (show i+k<ps.length by omega))]
   have:=ih (by omega)
   omega
 have:=mono (ps.length - i) (by omega)
 rw[show i+ (ps.length - i)=ps.length by omega,h1] at this
 exact this
end WE
structure FT (b:List Pl) (ks:List (Option Int)) (ps:List Int) (i:Nat) (S:Dg.Bk):Prop where
 sz:Dg.Sz b.length (330+92*Pr.off b ps i) S
 dv:gB b∣S.2
 eq:∀p:Nat,p<b.length->xi b ps (p:Int)<i->EqAt b ks p (Dg.val S)
 zr:∀p:Int,Pr.In b p->i<=xi b ps p->S.1.getD p.toNat 0=0
theorem FT.start {b:List Pl} {rk:Int->Nat} {ks:List (Option Int)} {ps:List Int} (B:gX b rk):FT b ks ps 0 (List.replicate b.length 0,gB b):=by
 obtain⟨g0,g1,g2⟩:=B.bot
 have z:∀q,(List.replicate b.length (0:Int)).getD q 0=0:=λq=>by
  rw[aaf,List.getElem?_replicate]
  split <;>simp
 refine⟨⟨aaR,g0,g1.mono (by omega),λq=>?_⟩,Int.dvd_refl _,λp _ h=>absurd h (abc _),λp _ _=>z _⟩
 show Bt _ ((List.replicate b.length (0:Int)).getD q 0)
 rw[z]
 exact Bt.mono (m:=1) (Bt.of 1 (by decide) (by decide)) (by omega)
theorem xk {S:Dg.Bk} (h:0<S.2) (q:Int) (hq:q.toNat<S.1.length):Dg.vl (Wq.fM (S.1.map λt=>Wq.low t S.2) q)=Dg.val S q:=by
 unfold Wq.fM Dg.val
 rw[aaf,aag,aaf,aad hq]
 exact Dg.rF h
noncomputable def vD (tp:Addr):Sp:=λvs H Q _=>∃(a:Addr) (b:List Pl) (rk:Int->Nat),vs=[.ref a]/\Rep H (pT b) (.ref a)/\gX b rk/\H tp=some (.rZ dsc)/\
 ∀l ps as H',Pr.Told b ps->az H H'->H l=none->H' l=some (.lst (List.map V.ref as))->Al (λp v=>∃x,v=.ref x/\H' x=some (.lst ((Pr.dc b p).map V.int))) ps (as.map V.ref)->Q (.ref l) H'
noncomputable def vE:Sp:=λvs H Q _=>∃(a x:Addr) (b:List Pl) (ps:List Int),vs=[.ref a,.ref x]/\Rep H (pT b) (.ref a)/\H x=some (.lst (ps.map V.int))/\(∀p∈ps,Pr.In b p)/\(∀q∈b,wZ b.length q)/\kf b 1 ps<=4096/\Q (.int (kf b 1 ps)) H
noncomputable def ua:Sp:=λvs H Q _=>∃(v:V) (q:Pl) (k:Option Int),vs=[v,gD k]/\Rep H (jx q) v/\G6 q k/\∀l H',az H H'->Rep H' (qg (uB q k)) (.ref l)->Q (.ref l) H'
noncomputable def IM:Sp:=λvs H Q _=>∃(a c:Addr) (b:List Pl) (ks:List (Option Int)),vs=[.ref a,.ref c]/\Rep H (pT b) (.ref a)/\b.length<=60/\H c=some (.lst (ks.map gD))/\dY b ks/\
 ∀l xs H',az H H'->H l=none->H' l=some (.lst xs)->bf (cF H' l) ((cz b ks).map qg) xs->Q (.ref l) H'
noncomputable def AL (C:Addr):Sp:=λvs H Q _=>∃(a:Addr) (b:List Pl) (rk:Int->Nat),vs=[.ref a]/\Rep H (pT b) (.ref a)/\gX b rk/\∀x H',az H H'->mG C H' x (gT b,gB b)->Q (.ref x) H'
noncomputable def D2 (C:Addr):Sp:=λvs H Q _=>∃(bk gn pt wl:Addr) (S:Dg.Bk) (gt:List Int) (G:Int) (ps:List Int) (n M:Nat) (xs:List V) (fN:List Dg.Wy) (lv:Int->Nat),vs=[.ref bk,.ref gn,.ref pt,.ref wl]/\mG C H bk S/\mG C H gn (gt,G)/\H pt=some (.lst (ps.map V.int))/\H wl=some (.lst xs)/\bf H (fN.map qg) xs/\
 fN.length=n/\n<=16/\ps.Nodup/\0<ps.length/\ps.length<=16/\(∀p∈ps,0<=p/\p< (n:Int))/\(∀ws∈fN,Dg.wR n ws)/\(∀p∈ps,cu fN p=[]\/∃x∈cu fN p,lv x.2<lv p)/\
 Dg.Sz n M S/\M+92*ps.length<3900/\gt.length=n/\0<G/\Bt 400 G/\G∣S.2/\(∀q,(gt.getD q 0).natAbs<=2^40*G.toNat)/\(∀p∈ps,S.1.getD p.toNat 0=0)/\
 ∀x T H',az H H'->mG C H' x T->Dg.C3 ps (cu fN) gt G S T->Dg.Sz n (M+92*ps.length) T->Q (.ref x) H'
noncomputable def C7 (K:PySem.W.Frag):Sp:=λvs H Q _=>∃a ns k,vs=[.ref a,.int k]/\bj K H a (List.map V.int ns)/\0<=k/\k<1000/\∀n,Q (.int n) H
noncomputable def eW:Sp:=λvs H Q _=>∃c m,vs=[.int c,.int m]/\0<m/\∀r,0<=r->r<m->Q (.int r) H
noncomputable def eX:Sp:=λvs H Q _=>∃a b,vs=[.int a,.int b]/\0<b/\Bt 8900 b/\∀p H',az H H'->H p=none->H' p=some (.tup (Pr (Nm.st a b) (Nm.sb a b)))->Q (.ref p) H'
noncomputable def Rm (a:Wq.Sh):Prop:=Bt 4000 a.1/\Bt 4000 a.2/\0<a.2
noncomputable def ub:Sp:=λvs H Q _=>∃p q a b,vs=[.ref p,.ref q]/\H p=some (.tup (Pr a.1 a.2))/\H q=some (.tup (Pr b.1 b.2))/\Rm a/\Rm b/\
 ∀r H',az H H'->H r=none->H' r=some (.tup (Pr (Wq.pl a b).1 (Wq.pl a b).2))->Q (.ref r) H'
noncomputable def AM:Sp:=λvs H Q _=>∃p q a b,vs=[.ref p,.ref q]/\H p=some (.tup (Pr a.1 a.2))/\H q=some (.tup (Pr b.1 b.2))/\Rm a/\Rm b/\
 ∀r H',az H H'->H r=none->H' r=some (.tup (Pr (Wq.tm a b).1 (Wq.tm a b).2))->Q (.ref r) H'
noncomputable def AN:Sp:=λvs H Q _=>∃c n,vs=[.int c,.int n]/\0<n/\n<=60/\∀l H' s,az H H'->H l=none->H' l=some (.lst (List.map eN s))->s.Perm (List.range n.toNat)->Q (.ref l) H'
noncomputable def Lb (Z M:Int) (x:Wq.Sh):Prop:=Wq.Lw x/\x.2∣Z/\Wq.Vb M x
noncomputable def AO (s:List Nat) (k:Nat) (q:Pl):Prop:=wZ s.length q/\match q with
 | .fin _=>True
 | .cP _ ws=>∃x∈ws,∃j,j<k/\s[j]?=some x.2.toNat
 | .bN _ to=>∀g∈to,∃j,j<k/\s[j]?=some g.toNat
noncomputable def WT (H:Hp) (n:Int) (x:V):Prop:=∃q w t,x=.ref q/\H q=some (.tup [.int w,.int t])/\(1<=w/\w<=200000)/\0<=t/\t<n
theorem WT.mono {H H':Hp} {n:Int} {x:V} (s:az H H') (h:WT H n x):WT H' n x:=by
 obtain⟨q,w,t,e,hq,r⟩:=h
 exact⟨q,w,t,e,s _ _ hq,r⟩
theorem WT.put {H:Hp} {n:Int} {x:V} {p:Addr} {xs:List V} {o:HO} (hp:H p=some (.lst xs)) (h:WT H n x):WT (upd H p o) n x:=by
 obtain⟨q,w,t,e,hq,r⟩:=h
 refine⟨q,w,t,e,?_,r⟩
 rw[aI (λz=>by rw[z,hp] at hq;cases hq)]
 exact hq
theorem xl {α:Type} {H:Hp} {f:α->Dat} {P:Nat->α->Prop}:∀{xs:List V},(∀(i:Nat) x,xs[i]?=some x->∃a,Rep H (f a) x/\P i a)->∃as:List α,bf H (as.map f) xs/\as.length=xs.length/\∀(i:Nat) a,as[i]?=some a->P i a:=by
 intro xs h
 have hc:∀i:Nat,∃a:Option α,∀x,xs[i]?=some x->∃a',a=some a'/\Rep H (f a') x/\P i a':=λi=>by
  cases e:xs[i]? with
  | none=>exact⟨none,λx z=>by cases z⟩
  | some x=>
   obtain⟨a,h1,h2⟩:=h i x e
   exact⟨some a,λy z=>by cases z;exact⟨a,rfl,h1,h2⟩⟩
 have ⟨g,hg⟩:=Classical.axiomOfChoice hc
 have key:∀n,n<=xs.length->∃as:List α,as.length=n/\∀(i:Nat) a,as[i]?=some a->g i=some a:=by
  intro n
  induction n with
  | zero=>exact λ_=>⟨[],rfl,λi a e=>by simp at e⟩
  | succ n ih=>
   intro hn
   obtain⟨as,l,o⟩:=ih (by omega)
   obtain⟨a,ea,_⟩:=hg n _ (aad (show n<xs.length by omega))
   refine⟨as++ [a],by simp [l],λi b e=>?_⟩
   by_cases c:i<as.length
   ·rw[aaZ c] at e
    exact o i b e
   ·rw[aaY (by omega)] at e
    have:i - as.length<1:=(List.getElem?_eq_some_iff.mp e).1
    rw[show i - as.length=0 by omega] at e
    cases e
    rw[show i=n by omega]
    exact ea
 obtain⟨as,l,o⟩:=key xs.length (aah _)
 refine⟨as,c4 l.symm λi y ey a ea=>?_,l,λi a ea=>?_⟩
 ·obtain⟨a',e1,r,_⟩:=hg i y ey
  rw[o i a ea] at e1
  cases e1
  exact r
 ·have hi:=(List.getElem?_eq_some_iff.mp ea).1
  obtain⟨a',e1,_,p⟩:=hg i _ (aad (show i<xs.length by omega))
  rw[o i a ea] at e1
  cases e1
  exact p
noncomputable def AQ:Sp:=λvs H Q _=>∃c k,vs=[.int c,.int k]/\0<=k/\k<1000/\∀p H' a,az H H'->H p=none->H' p=some (.tup (Pr a.1 a.2))->GS a->Q (.ref p) H'
noncomputable def AR:Sp:=λvs H Q _=>∃c k n,vs=[.int c,.int k,.int n]/\0<k/\k<n/\∀l H' xs,az H H'->H' l=some (.lst xs)->(∀x∈xs,WT H' n x)->(∃x∈xs,WT H' k x)->0<xs.length->xs.length<=5->Q (.ref l) H'
noncomputable def D3 (K:PySem.W.Frag):Sp:=λvs H Q _=>∃(a:Addr) (ns:List Int) (n:Nat),vs=[.ref a,.int 2,.int (n:Int)]/\bj K H a (List.map V.int ns)/\0<n/\n<=8/\∀l H' (b:List Pl) rk,az H H'->H l=none->Rep H' (pT b) (.ref l)->b.length=n->gX b rk->Q (.ref l) H'
noncomputable def dP (S:Dg.Bk):List Wq.Sh:=S.1.map λt=>Wq.low t S.2
noncomputable def xm (K:PySem.W.Frag) (tp:Addr):Sp:=λvs H Q _=>∃(a:Addr) (ns:List Int),vs=[.ref a]/\H tp=some (.rZ dsc)/\bj K H a (ns.map V.int)/\ns.length<=63/\∀H',Q (.bl true) H'
theorem IP {s:List Nat} {b:List Pl} (pm:s.Perm (List.range s.length)) (l0:0<s.length) (l8:s.length<=8) (lb:b.length=s.length) (ok:∀(k:Nat) p q,s[k]?=some p->b[p]?=some q->AO s k q):gX b (λg=>s.idxOf g.toNat):=by
 have at_:∀{p:Nat},p<b.length->∃k,s[k]?=some p:=λhp=>aaw (pm.mem_iff.mpr (List.mem_range.mpr (by omega)))
 have G7:∀q∈b,wZ b.length q:=λq hq=>by
  obtain⟨p,ep⟩:=aaw hq
  obtain⟨k,ek⟩:=at_ (List.getElem?_eq_some_iff.mp ep).1
  rw[lb]
  exact(ok k p q ek ep).1
 have fO:C4 b (λg=>s.idxOf g.toNat):=by
  refine⟨⟨λq hq g hg=>?_,λq hq w to e=>?_⟩,λi g ws e=>?_,λi w to e g hg=>?_⟩
  ·have:=G7 q hq
   cases q with
   | fin w=>simp [Lv.fL] at hg
   | cP w ws=>
    obtain⟨x,hx,rfl⟩:=List.mem_map.mp hg
    exact(this.2.2.2 x hx).2.2
   | bN w to=>exact this.2.2.2 g hg
  ·subst e
   have:=(G7 _ hq).2.1
   exact λz=>by rw[z] at this;cases this
  ·obtain⟨k,ek⟩:=at_ (List.getElem?_eq_some_iff.mp e).1
   obtain⟨x,hx,j,jk,ej⟩:=(ok k i _ ek e).2
   refine⟨x,hx,?_⟩
   show s.idxOf x.2.toNat<s.idxOf ((i:Int)).toNat
   rw[aai,Lv.qR pm ej,Lv.qR pm ek]
   exact jk
  ·obtain⟨k,ek⟩:=at_ (List.getElem?_eq_some_iff.mp e).1
   obtain⟨j,jk,ej⟩:=(ok k i _ ek e).2 g hg
   show s.idxOf g.toNat<s.idxOf ((i:Int)).toNat
   rw[aai,Lv.qR pm ej,Lv.qR pm ek]
   exact jk
 exact⟨by omega,by omega,G7,fO,λp hp=>AI fO G7 (by omega) hp⟩
theorem Lb.rm {Z M:Int} {x:Wq.Sh} (h:Lb Z M x) (Z0:0<Z) (bZ:Bt 1950 Z) (M0:0<=M) (bM:Bt 1950 M):Rm x:=by
 obtain⟨lx,d,v⟩:=h
 have l0:=lx.1
 have b2:Bt 1950 x.2:=bZ.le (by have:=Int.le_of_dvd Z0 d;omega)
 have b1:Bt 3900 (M*x.2):=bM.mul b2
 exact⟨Bt.mono (b1.le (by obtain⟨v1,v2⟩:=v;omega)) (by decide),b2.mono (by decide),l0⟩
theorem rM {ss:List Wq.Sh} {q:Int} (h0:0<=q) (h:q< (ss.length:Int)):ss[q.toNat]?=some (Wq.fM ss q):=by
 unfold Wq.fM
 rw[aaf,aad (show q.toNat<ss.length by omega)]
 rfl
theorem qm {H H':Hp} {ws:List Wq.Sh} {l:Addr} (h:Rep H (.lst (ws.map bz)) (.ref l)) (kl:∀xs,H l=some (.lst xs)->H' l=some (.lst xs)) (kt:∀x vs,H x=some (.tup vs)->H' x=some (.tup vs)):Rep H' (.lst (ws.map bz)) (.ref l):=by
 obtain⟨_,xs,e,hl,rl⟩:=aO.mp h
 cases e
 have lx:=rl.length
 rw[aac] at lx
 refine aO.mpr ⟨l,xs,rfl,kl _ hl,c4 lx.symm λi y ey a ea=>?_⟩
 obtain⟨d,ed,rd⟩:=rl.get ey
 rw[aag,ea] at ed
 cases ed
 obtain⟨p,rfl,hp⟩:=bP.mp rd
 exact bP.mpr ⟨p,rfl,kt _ _ hp⟩
theorem qo {α:Type} [DecidableEq α]:∀{l m:List α},l.Nodup->(∀x∈l,x∈m)->l.length<=m.length
 | [],_,_,_=>aas _
 | x::l,m,nd,h=>by
  have hx:=h x aaj
  have ih:=qo (l:=l) (m:=m.erase x) (List.nodup_cons.mp nd).2 λy hy=>by
   have ne:y≠x:=λz=>(List.nodup_cons.mp nd).1 (z▸hy)
   exact(List.mem_erase_of_ne ne).mpr (h y (aak _ hy))
  rw[List.length_erase_of_mem hx] at ih
  have:0<m.length:=List.length_pos_of_mem hx
  rw[aar]
  omega
noncomputable def Lc:Pl->Int->Bool
 | .bN w _,who=>decide (w=who)
 | _,_=>false
noncomputable def MU:Pl->List (Option Int)
 | .bN _ to=>(List.range to.length).map fun(i:Nat)=>some (i:Int)
 | _=>[some 0]
noncomputable def yv:List Pl->List (List (Option Int))
 | []=>[[]]
 | q::b=>((MU q).map λk=>(yv b).map λt=>k::t).flatten
structure vF (b:List Pl) (ks:List (Option Int)):Prop where
 pk:dY b ks
 cE:∀(i:Nat) q k,b[i]?=some q->ks[i]?=some k->(∀w to,q≠.bN w to)->k=some 0
theorem vF.mem:∀{b:List Pl} {ks:List (Option Int)},vF b ks->ks∈yv b
 | [],ks,h=>by
  have:=h.pk.len
  cases ks with
  | nil=>exact List.mem_singleton.mpr rfl
  | cons k ks=>simp at this
 | q::b,[],h=>by have:=h.pk.len;simp at this
 | q::b,k::ks,h=>by
  have ih:=vF.mem (b:=b) (ks:=ks) ⟨⟨by have:=h.pk.len;simpa using this,λi q k e1 e2=>h.pk.ok (i+1) q k e1 e2⟩,λi q k e1 e2=>h.cE (i+1) q k e1 e2⟩
  have po:=h.pk.ok 0 q k rfl rfl
  refine List.mem_flatten.mpr ⟨_,List.mem_map.mpr ⟨k,?_,rfl⟩,List.mem_map.mpr ⟨ks,ih,rfl⟩⟩
  cases q with
  | fin g=>exact List.mem_singleton.mpr (h.cE 0 _ _ rfl rfl (by intro w to z;cases z))
  | cP g ws=>exact List.mem_singleton.mpr (h.cE 0 _ _ rfl rfl (by intro w to z;cases z))
  | bN w to=>
   cases k with
   | none=>exact po.elim
   | some k=>
    obtain⟨k0,k1⟩:=po
    exact List.mem_map.mpr ⟨k.toNat,List.mem_range.mpr (by omega),by rw[Int.toNat_of_nonneg k0]⟩
section PO
variable {b : List Pl} {rk : Int -> Nat} (B : gX b rk) {ps : List Int} {g u : Int -> Rat}
structure sk (b:List Pl) (ps:List Int) (g u:Int->Rat) (ks:List (Option Int)) (v:Int->Rat):Prop where
 eq:∀p∈ps,v p=g p+Dg.cL (Dg.tt (cu (cz b ks) p)) v (cu (cz b ks) p)
 out:∀q,0<=q->q∉ps->v q=u q
noncomputable def kh (b:List Pl) (g:Int->Rat) (ks:List (Option Int)) (v:Int->Rat) (p:Int):Rat:=g p+Dg.cL (Dg.tt (cu (cz b ks) p)) v (cu (cz b ks) p)
include B
theorem FU {ks dm:List (Option Int)} {v v':Int->Rat} (fk:∀p∈ps,Pr.In b p) (FV:dY b dm) (h:sk b ps g u ks v) (h':sk b ps g u dm v') (le:∀p∈ps,v p<=kh b g dm v p):∀p∈ps,v p<=v' p:=by
 intro p hp
 have:=Dg.sub_zero (ps:=ps) (W:=cu (cz b dm)) (lv:=rk) (v:=λi=>v i - v' i) (λp hp=>by
  rw[Dg.gW,h'.eq p hp]
  have:=le p hp
  unfold kh at this
  grind) (λp hp x hx=>((B.wk FV (fk p hp)).1.2 x hx).1) (λp hp x hx nx=>by
  have x0:=((B.wk FV (fk p hp)).1.2 x hx).2.2.1
  rw[h.out _ x0 nx,h'.out _ x0 nx]
  grind) (λp hp=>B.dn FV (fk p hp)) p hp
 have:v p - v' p<=0:=this
 grind
theorem FW {ks dm:List (Option Int)} {v v':Int->Rat} (fk:∀p∈ps,Pr.In b p) (FV:dY b dm) (h:sk b ps g u ks v) (h':sk b ps g u dm v') (ge:∀p∈ps,kh b g dm v p<=v p):∀p∈ps,v' p<=v p:=by
 intro p hp
 have:=Dg.sub_zero (ps:=ps) (W:=cu (cz b dm)) (lv:=rk) (v:=λi=>v' i - v i) (λp hp=>by
  rw[Dg.gW,h'.eq p hp]
  have:=ge p hp
  unfold kh at this
  grind) (λp hp x hx=>((B.wk FV (fk p hp)).1.2 x hx).1) (λp hp x hx nx=>by
  have x0:=((B.wk FV (fk p hp)).1.2 x hx).2.2.1
  rw[h.out _ x0 nx,h'.out _ x0 nx]
  grind) (λp hp=>B.dn FV (fk p hp)) p hp
 have:v' p - v p<=0:=this
 grind
omit B in
theorem qp {d:Int} (d0:0<d) {v v':Int->Rat}:∀{ws:Dg.Wy},(∀x∈ws,1<=x.1/\v x.2<=v' x.2)->Dg.cL d v ws<=Dg.cL d v' ws
 | [],_=>Rat.le_refl
 | x::ws,h=>by
  have ih:=qp d0 (v:=v) (v':=v') (ws:=ws) λy hy=>h y (aak _ hy)
  obtain⟨x1,x2⟩:=h x aaj
  have c:(0:Rat)< (x.1:Rat) / (d:Rat):=by
   rw[Rat.div_def]
   exact Rat.mul_pos (Rat.intCast_pos.mpr (by omega)) (Rat.inv_pos.mpr (Rat.intCast_pos.mpr d0))
  have m:=Rat.mul_le_mul_of_nonneg_left x2 (Rat.le_of_lt c)
  show(x.1:Rat) / (d:Rat)*v x.2+Dg.cL d v ws<=(x.1:Rat) / (d:Rat)*v' x.2+Dg.cL d v' ws
  generalize (x.1:Rat) / (d:Rat)*v x.2=a at *
  generalize (x.1:Rat) / (d:Rat)*v' x.2=a' at *
  grind
theorem uc {ks:List (Option Int)} {v v':Int->Rat} {k1 k2:List (Option Int)} (fk:∀p∈ps,Pr.In b p) (ko:dY b ks) (h:sk b ps g u k1 v) (h':sk b ps g u k2 v') (le:∀p∈ps,v p<=v' p) {p:Int} (hp:p∈ps):kh b g ks v p<=kh b g ks v' p:=by
 unfold kh
 have w:=(B.wk ko (fk p hp)).1
 have:=qp (d:=Dg.tt (cu (cz b ks) p)) (by have:=w.tt;omega) (v:=v) (v':=v') (ws:=cu (cz b ks) p) λx hx=>⟨(w.2 x hx).1,by
  by_cases c:x.2∈ps
  ·exact le _ c
  ·rw[h.out _ (w.2 x hx).2.2.1 c,h'.out _ (w.2 x hx).2.2.1 c]
   exact Rat.le_refl⟩
 grind
noncomputable def d5 (b:List Pl) (ps:List Int) (who:Int) (k1 k2:List (Option Int)):Prop:=∀p:Nat,(p:Int)∈ps->∀q,b[p]?=some q->Lc q who=true->k1[p]?=k2[p]?
omit B in
theorem d5.symm {who:Int} {k1 k2:List (Option Int)} (h:d5 b ps who k1 k2):d5 b ps who k2 k1:=λp hp q e i=>(h p hp q e i).symm
omit B in
theorem d5.trans {who:Int} {k1 k2 k3:List (Option Int)} (h:d5 b ps who k1 k2) (h':d5 b ps who k2 k3):d5 b ps who k1 k3:=λp hp q e i=>(h p hp q e i).trans (h' p hp q e i)
structure ue (b:List Pl) (ps:List Int) (g u:Int->Rat) (ks:List (Option Int)) (dG:List (List (Option Int))) (fl:Option (Int->Rat)):Prop where
 ok:vF b ks
 nd:dG.Nodup
 new:ks∉dG
 all:∀h∈dG,vF b h
 floor:∀μ,fl=some μ->∀k v,dY b k->sk b ps g u k v->d5 b ps 1 k ks->(∀p∈ps,μ p<=v p)/\∃p∈ps,μ p<v p
 past:∀h∈dG,(∃μ,fl=some μ/\∃k v,dY b k/\sk b ps g u k v/\d5 b ps 1 k h/\∀p∈ps,v p<=μ p)\/(d5 b ps 1 h ks/\∃w,sk b ps g u h w/\∀v,sk b ps g u ks v->(∀p∈ps,v p<=w p)/\∃p∈ps,v p<w p)
omit B in
theorem ue.start {ks:List (Option Int)} (h:vF b ks):ue b ps g u ks [] none:=
 ⟨h,List.nodup_nil,by simp,by simp,(λμ z=>by cases z),by simp⟩
omit B in
theorem ue.left {ks:List (Option Int)} {dG:List (List (Option Int))} {fl:Option (Int->Rat)} (h:ue b ps g u ks dG fl):dG.length< (yv b).length:=by
 have:=qo (l:=ks::dG) (m:=yv b) (List.nodup_cons.mpr ⟨h.new,h.nd⟩) λx hx=>by
  rcases List.mem_cons.mp hx with rfl | hx
  ·exact h.ok.mem
  ·exact(h.all x hx).mem
 rw[aar] at this
 omega
theorem ue.second {ks dm:List (Option Int)} {dG:List (List (Option Int))} {fl:Option (Int->Rat)} {v:Int->Rat} (fk:∀p∈ps,Pr.In b p) (h:ue b ps g u ks dG fl) (hv:sk b ps g u ks v) (xn:vF b dm) (same:d5 b ps 1 dm ks) (ge:∀p∈ps,kh b g dm v p<=v p) (st:∃p∈ps,kh b g dm v p<v p):ue b ps g u dm (ks::dG) fl:=by
 have low:∀v',sk b ps g u dm v'->(∀p∈ps,v' p<=v p)/\∃p∈ps,v' p<v p:=λv' ED=>by
  have le:=FW B fk xn.pk hv ED ge
  obtain⟨p,hp,lt⟩:=st
  refine⟨le,p,hp,?_⟩
  have m:=uc B fk xn.pk ED hv le hp
  have e:=ED.eq p hp
  unfold kh at m lt
  grind
 have ne:dm≠ks:=λz=>by
  obtain⟨p,hp,lt⟩:=st
  have e:=hv.eq p hp
  unfold kh at lt
  rw[z] at lt
  grind
 refine⟨xn,List.nodup_cons.mpr ⟨h.new,h.nd⟩,λz=>?_,λx hx=>?_,λμ e k w hk hw sm=>h.floor μ e k w hk hw (sm.trans same),λx hx=>?_⟩
 ·rcases List.mem_cons.mp z with z | z
  ·exact ne z
  ·rcases h.past dm z with ⟨μ,e,k,w,hk,hw,sm,le⟩ | ⟨sm,w,hw,al⟩
   ·obtain⟨_,p,hp,lt⟩:=h.floor μ e k w hk hw (sm.trans same)
    have:=le p hp
    grind
   ·obtain⟨_,p,hp,lt⟩:=al v hv
    have:=(low w hw).1 p hp
    grind
 ·rcases List.mem_cons.mp hx with rfl | hx
  ·exact h.ok
  ·exact h.all x hx
 ·rcases List.mem_cons.mp hx with rfl | hx
  ·exact .inr ⟨same.symm,v,hv,low⟩
  ·rcases h.past x hx with p1 | ⟨sm,w,hw,al⟩
   ·exact .inl p1
   ·refine .inr ⟨sm.trans same.symm,w,hw,λv' ED=>?_⟩
    obtain⟨a1,p,hp,a2⟩:=al v hv
    have l:=(low v' ED).1
    exact⟨λq hq=>Rat.le_trans (l q hq) (a1 q hq),p,hp,by have:=l p hp;grind⟩
theorem ue.first {ks dm:List (Option Int)} {dG:List (List (Option Int))} {fl:Option (Int->Rat)} {v:Int->Rat} (fk:∀p∈ps,Pr.In b p) (h:ue b ps g u ks dG fl) (hv:sk b ps g u ks v) (xn:vF b dm)
  (le:∀k,dY b k->d5 b ps 1 k dm->∀p∈ps,v p<=kh b g k v p) (st:∃p∈ps,∀k,dY b k->d5 b ps 1 k dm->v p<kh b g k v p):ue b ps g u dm (ks::dG) (some v):=by
 have G8:∀k w,dY b k->sk b ps g u k w->d5 b ps 1 k dm->(∀p∈ps,v p<=w p)/\∃p∈ps,v p<w p:=λk w hk hw sm=>by
  have l:=FU B fk hk hv hw (le k hk sm)
  obtain⟨p,hp,lt⟩:=st
  refine⟨l,p,hp,?_⟩
  have m:=uc B fk hk hv hw l hp
  have e:=hw.eq p hp
  have t:=lt k hk sm
  unfold kh at m t
  grind
 have old:∀x∈ks::dG,∃k w,dY b k/\sk b ps g u k w/\d5 b ps 1 k x/\∀p∈ps,w p<=v p:=λx hx=>by
  rcases List.mem_cons.mp hx with rfl | hx
  ·exact⟨x,v,h.ok.pk,hv,λ_ _ _ _ _=>rfl,λp _=>Rat.le_refl⟩
  ·rcases h.past x hx with ⟨μ,e,k,w,hk,hw,sm,le⟩ | ⟨sm,w,hw,al⟩
   ·obtain⟨m,_⟩:=h.floor μ e ks v h.ok.pk hv (λ_ _ _ _ _=>rfl)
    exact⟨k,w,hk,hw,sm,λp hp=>Rat.le_trans (le p hp) (m p hp)⟩
   ·exact⟨ks,v,h.ok.pk,hv,sm.symm,λp _=>Rat.le_refl⟩
 refine⟨xn,List.nodup_cons.mpr ⟨h.new,h.nd⟩,λz=>?_,λx hx=>?_,λμ e k w hk hw sm=>?_,λx hx=>?_⟩
 ·obtain⟨k,w,hk,hw,sm,l⟩:=old dm z
  obtain⟨_,p,hp,lt⟩:=G8 k w hk hw sm
  have:=l p hp
  grind
 ·rcases List.mem_cons.mp hx with rfl | hx
  ·exact h.ok
  ·exact h.all x hx
 ·cases e
  exact G8 k w hk hw sm
 ·obtain⟨k,w,hk,hw,sm,l⟩:=old x hx
  exact .inl ⟨v,rfl,k,w,hk,hw,sm,l⟩
end PO
noncomputable def sgn (who:Int):Int:=if who=1 then 1 else -1
theorem FX (who:Int):sgn who=1\/sgn who= -1:=by
 unfold sgn
 split
 ·exact .inl rfl
 ·exact .inr rfl
noncomputable def AS (who:Int) (to ts:List Int) (w:Nat):Prop:=∀t∈to,sgn who*ts.getD t.toNat 0<=sgn who*ts.getD (to.getD w 0).toNat 0
noncomputable def AU (who:Int):Rat:=if who=1 then 1 else -1
noncomputable def gG (b:List Pl) (p:Nat) (v:Int->Rat):Prop:=∀q,b[p]?=some q->match q with
 | .fin g=>v (p:Int)=Dg.vl g
 | .cP g ws=>v (p:Int)=Dg.vl g+Dg.cL (Dg.tt ws) v ws
 | .bN who to=>(∃t∈to,v (p:Int)=v t)/\∀t∈to,AU who*v t<=AU who*v (p:Int)
theorem vG {S:Dg.Bk} (h:0<S.2) {a b:Int}:S.1.getD a.toNat 0<S.1.getD b.toNat 0↔Dg.val S a<Dg.val S b:=by
 have h1:(0:Rat)< (S.2:Rat):=Rat.intCast_pos.mpr h
 have h2:(0:Rat)< (S.2:Rat)⁻¹:=Rat.inv_pos.mpr h1
 unfold Dg.val
 rw[<-Rat.intCast_lt_intCast,Rat.div_def,Rat.div_def]
 constructor
 ·exact λk=>Rat.mul_lt_mul_of_pos_right k h2
 ·exact λk=>Rat.lt_of_mul_lt_mul_right k (Rat.le_of_lt h2)
theorem vH {S:Dg.Bk} (h:0<S.2) {a b:Int}:S.1.getD a.toNat 0<=S.1.getD b.toNat 0↔Dg.val S a<=Dg.val S b:=by
 have:=vG h (a:=b) (b:=a)
 constructor
 ·intro k
  rcases Rat.le_total (a:=Dg.val S a) (b:=Dg.val S b) with c | c
  ·exact c
  ·by_cases e:Dg.val S a=Dg.val S b
   ·rw[e];exact Rat.le_refl
   ·have:=this.mpr (by grind)
    omega
 ·intro k
  by_cases c:S.1.getD b.toNat 0<S.1.getD a.toNat 0
  ·have:=this.mp c
   grind
  ·omega
noncomputable def yw (b:List Pl) (ks:List (Option Int)) (p:Int):Int:=((cu (cz b ks) p).headD (1,0)).2
theorem oB {b:List Pl} {ks:List (Option Int)} (ko:dY b ks) {p:Nat} {who:Int} {to:List Int} (e:b[p]?=some (.bN who to)):∃k:Int,ks[p]?=some (some k)/\0<=k/\k< (to.length:Int)/\cu (cz b ks) (p:Int)=[(1,to.getD k.toNat 0)]/\yw b ks (p:Int)=to.getD k.toNat 0/\to.getD k.toNat 0∈to:=by
 obtain⟨q,k,e1,e2,po,ew⟩:=ko.at (List.getElem?_eq_some_iff.mp e).1
 rw[e] at e1
 cases e1
 cases k with
 | none=>exact po.elim
 | some k=>
  obtain⟨k0,k1⟩:=po
  have hl:k.toNat<to.length:=by omega
  refine⟨k,e2,k0,k1,ew,by unfold yw;rw[ew];rfl,?_⟩
  rw[aaf,aad hl]
  exact aao hl
structure iD (b:List Pl) (ks:List (Option Int)) (who:Int) (ts qs:List Int) (bs:List (Int×Int)):Prop where
 mem:∀x∈bs,x.1∈qs/\∃to,b[x.1.toNat]?=some (.bN who to)/\0<=x.2/\x.2< (to.length:Int)/\AS who to ts x.2.toNat/\ts.getD (to.getD x.2.toNat 0).toNat 0≠ts.getD (yw b ks x.1).toNat 0
 cE:∀p∈qs,p∉bs.map (·.1)->∀to,b[p.toNat]?=some (.bN who to)->∀t∈to,sgn who*ts.getD t.toNat 0<=sgn who*ts.getD (yw b ks p).toNat 0
 sub:(bs.map (·.1)).Sublist qs
theorem iD.start {b:List Pl} {ks:List (Option Int)} {who:Int} {ts:List Int}:iD b ks who ts [] []:=⟨by simp,by simp,List.Sublist.refl _⟩
noncomputable def eB (bs:List (Int×Int)) (ks:List (Option Int)):Nat->List (Option Int)
 | 0=>ks
 | j+1=>(eB bs ks j).set (bs.getD j (0,0)).1.toNat (some (bs.getD j (0,0)).2)
theorem jF (bs:List (Int×Int)) (ks:List (Option Int)):∀j,(eB bs ks j).length=ks.length
 | 0=>rfl
 | j+1=>by unfold eB;rw[aaT,jF bs ks j]
theorem gY {bs:List (Int×Int)} {ks:List (Option Int)} {p:Nat} (h0:∀x∈bs,0<=x.1) (h:(p:Int)∉bs.map (·.1)):∀j,j<=bs.length->(eB bs ks j)[p]?=ks[p]?
 | 0,_=>rfl
 | j+1,hj=>by
  have e:bs.getD j (0,0)=bs[j]:=by rw[aaf,aad (by omega)];rfl
  have m:=aao (l:=bs) (n:=j) (by omega)
  have m0:=h0 _ m
  unfold eB
  rw[e,aaH (λz=>h (List.mem_map.mpr ⟨bs[j],m,by omega⟩)),gY h0 h j (by omega)]
theorem rN {bs:List (Int×Int)} {ks:List (Option Int)} (h0:∀x∈bs,0<=x.1/\x.1< (ks.length:Int)) (nd:(bs.map (·.1)).Nodup) {i:Nat}:∀j,j<=bs.length->i<j->∀x,bs[i]?=some x->(eB bs ks j)[x.1.toNat]?=some (some x.2)
 | 0,_,h,_,_=>absurd h (abc _)
 | j+1,hj,h,x,ex=>by
  have e:bs.getD j (0,0)=bs[j]:=by rw[aaf,aad (by omega)];rfl
  have m:=h0 _ (aao (l:=bs) (n:=j) (by omega))
  have mx:=h0 _ (aae ex)
  unfold eB
  rw[e]
  by_cases c:i=j
  ·subst c
   rw[aad (show i<bs.length from hj)] at ex
   obtain rfl:=aay ex
   rw[aaW (by rw[jF];omega)]
  ·rw[aaH ?_,rN h0 nd j (by omega) (by omega) x ex]
   intro z
   have li:i<bs.length:=by omega
   have lj:j<bs.length:=by omega
   rw[aad li] at ex
   obtain rfl:=aay ex
   have l1:i< (bs.map (·.1)).length:=by rw[aac];exact li
   have l2:j< (bs.map (·.1)).length:=by rw[aac];exact lj
   have:(bs.map (·.1))[i]=(bs.map (·.1))[j]:=by rw[List.getElem_map,List.getElem_map];omega
   exact c ((abj nd).mp this)
section BS
variable {b : List Pl} {rk : Int -> Nat} (B : gX b rk) {ps : List Int} {S T : Dg.Bk} {ks : List (Option Int)}
include B
theorem FY (ko:dY b ks) (fk:∀p∈ps,Pr.In b p) (B0:0<S.2) (dv:gB b∣S.2) (st:Dg.C3 ps (cu (cz b ks)) (gT b) (gB b) S T):sk b ps (λp=>((gT b).getD p.toNat 0:Rat) / (gB b:Rat)) (Dg.val S) ks (Dg.val T):=
 ⟨λp hp=>st.eq B0 B.bot.1 dv hp (by have:=(B.wk ko (fk p hp)).1.tt;omega),λq q0 hq=>st.ne B0 q0 hq⟩
theorem iw {v:Int->Rat} {p:Nat} {who:Int} {to:List Int} (ko:dY b ks) (e:b[p]?=some (.bN who to)):kh b (λp=>((gT b).getD p.toNat 0:Rat) / (gB b:Rat)) ks v (p:Int)=v (yw b ks (p:Int)):=by
 obtain⟨k,_,_,_,ew,et,_⟩:=oB ko e
 unfold kh
 dsimp only
 rw[ew,et,aai,B.gV e]
 show Dg.vl (0,1)+ (((1:Int):Rat) / ((1:Int):Rat)*v (to.getD k.toNat 0)+0)=v (to.getD k.toNat 0)
 have:Dg.vl (0,1)=0:=Dg.MP
 rw[this,Dg.K4]
 grind
omit B in
theorem gZ {v g:Int->Rat} {k1 k2:List (Option Int)} {p:Nat} (h1:dY b k1) (h2:dY b k2) (hp:p<b.length) (e:(∃who to,b[p]?=some (.bN who to))->k1[p]?=k2[p]?):kh b g k1 v (p:Int)=kh b g k2 v (p:Int):=by
 obtain⟨q,a1,e1,e2,_,ew⟩:=h1.at hp
 obtain⟨q',a2,yd,G1,_,Ld⟩:=h2.at hp
 rw[e1] at yd
 cases yd
 unfold kh
 have:uB q a1=uB q a2:=by
  cases q with
  | fin g=>rfl
  | cP g ws=>rfl
  | bN who to=>
   have:=e ⟨who,to,e1⟩
   rw[e2,G1] at this
   cases this
   rfl
 rw[ew,Ld,this]
omit B in
theorem rO {bs:List (Int×Int)} {who:Int} {ts qs:List Int} (K:vF b ks) (yy:∀p∈qs,Pr.In b p) (AV:qs.Nodup) (W:iD b ks who ts qs bs):vF b (eB bs ks bs.length):=by
 have h0:∀x∈bs,0<=x.1/\x.1< (ks.length:Int):=λx hx=>by
  have:=yy _ (W.mem x hx).1
  rw[K.pk.len]
  exact this
 have nd:(bs.map (·.1)).Nodup:=W.sub.nodup AV
 have key:∀(i:Nat) q k,b[i]?=some q->(eB bs ks bs.length)[i]?=some k->G6 q k/\((∀w to,q≠.bN w to)->k=some 0):=λi q k e1 e2=>by
  by_cases c:(i:Int)∈bs.map (·.1)
  ·obtain⟨x,hx,ex⟩:=List.mem_map.mp c
   obtain⟨j,ej⟩:=aaw hx
   have hj:=(List.getElem?_eq_some_iff.mp ej).1
   have:=rN h0 nd bs.length (aah _) hj x ej
   rw[ex,aai,e2] at this
   cases this
   obtain⟨_,to,eb,x0,x1,_⟩:=W.mem x hx
   rw[ex,aai,e1] at eb
   cases eb
   exact⟨⟨x0,x1⟩,λh=>absurd rfl (h who to)⟩
  ·rw[gY (λx hx=>(h0 x hx).1) c _ (aah _)] at e2
   exact⟨K.pk.ok i q k e1 e2,K.cE i q k e1 e2⟩
 exact⟨⟨by rw[jF];exact K.pk.len,λi q k e1 e2=>(key i q k e1 e2).1⟩,λi q k e1 e2=>(key i q k e1 e2).2⟩
omit B in
theorem rP {bs:List (Int×Int)} {who:Int} {ts qs:List Int} (K:vF b ks) (yy:∀p∈qs,Pr.In b p) (AV:qs.Nodup) (W:iD b ks who ts qs bs) {p:Nat} (hp:(p:Int)∈bs.map (·.1)):∃to,b[p]?=some (.bN who to)/\(∀t∈to,sgn who*ts.getD t.toNat 0<=sgn who*ts.getD (yw b (eB bs ks bs.length) (p:Int)).toNat 0)/\ts.getD (yw b (eB bs ks bs.length) (p:Int)).toNat 0≠ts.getD (yw b ks (p:Int)).toNat 0:=by
 have h0:∀x∈bs,0<=x.1/\x.1< (ks.length:Int):=λx hx=>by
  have:=yy _ (W.mem x hx).1
  rw[K.pk.len]
  exact this
 have nd:(bs.map (·.1)).Nodup:=W.sub.nodup AV
 obtain⟨x,hx,ex⟩:=List.mem_map.mp hp
 obtain⟨j,ej⟩:=aaw hx
 have e2:=rN h0 nd bs.length (aah _) (List.getElem?_eq_some_iff.mp ej).1 x ej
 obtain⟨_,to,eb,x0,x1,bw,ne⟩:=W.mem x hx
 rw[ex,aai] at eb e2
 rw[ex] at ne
 obtain⟨k,ek,_,_,_,et,_⟩:=oB (rO K yy AV W).pk eb
 rw[e2] at ek
 cases ek
 rw[et]
 exact⟨to,eb,bw,ne⟩
theorem uf {dG:List (List (Option Int))} {fl:Option (Int->Rat)} {bs:List (Int×Int)} {qs:List Int} (fk:∀p∈ps,Pr.In b p) (T0:0<T.2) (h:ue b ps (λp=>((gT b).getD p.toNat 0:Rat) / (gB b:Rat)) (Dg.val S) ks dG fl) (hv:sk b ps (λp=>((gT b).getD p.toNat 0:Rat) / (gB b:Rat)) (Dg.val S) ks (Dg.val T)) (hq:∀p∈qs,p∈ps) (AV:qs.Nodup) (W:iD b ks 2 T.1 qs bs) (ne:bs≠[]):ue b ps (λp=>((gT b).getD p.toNat 0:Rat) / (gB b:Rat)) (Dg.val S) (eB bs ks bs.length) (ks::dG) fl:=by
 have K:=h.ok
 have yy:∀p∈qs,Pr.In b p:=λp hp=>fk p (hq p hp)
 have K':=rO K yy AV W
 have pos:∀x∈bs,0<=x.1:=λx hx=>(yy _ (W.mem x hx).1).1
 have lt:∀p:Nat,(p:Int)∈bs.map (·.1)->(p:Int)∈ps/\kh b (λp=>((gT b).getD p.toNat 0:Rat) / (gB b:Rat)) (eB bs ks bs.length) (Dg.val T) (p:Int)<Dg.val T (p:Int):=λp hp=>by
  obtain⟨to,eb,bw,nn⟩:=rP K yy AV W hp
  obtain⟨k,_,_,_,ew,et,mt⟩:=oB K.pk eb
  have mp:(p:Int)∈ps:=hq _ (by obtain⟨x,hx,ex⟩:=List.mem_map.mp hp;rw[<-ex];exact(W.mem x hx).1)
  refine⟨mp,?_⟩
  have e:=hv.eq _ mp
  rw[show _+_=kh b (λp=>((gT b).getD p.toNat 0:Rat) / (gB b:Rat)) ks (Dg.val T) (p:Int) from rfl,iw B K.pk eb] at e
  rw[iw B K'.pk eb,e]
  refine(vG T0).mp ?_
  have:=bw _ mt
  rw[<-et,show sgn 2= -1 from rfl] at this
  omega
 have other:∀p:Nat,(p:Int)∈ps->(p:Int)∉bs.map (·.1)->kh b (λp=>((gT b).getD p.toNat 0:Rat) / (gB b:Rat)) (eB bs ks bs.length) (Dg.val T) (p:Int)=Dg.val T (p:Int):=λp hp nb=>by
  have hpl:p<b.length:=by have:=(fk _ hp).2;omega
  rw[gZ K'.pk K.pk hpl λ_=>gY pos nb _ (aah _)]
  exact(hv.eq _ hp).symm
 refine h.second B fk hv K' (λp hp q e i=>?_) (λp hp=>?_) ?_
 ·refine gY pos (λz=>?_) _ (aah _)
  obtain⟨to,eb,_⟩:=rP K yy AV W z
  rw[e] at eb
  cases eb
  cases i
 ·obtain⟨p,rfl⟩:=aau (fk p hp).1
  by_cases c:(p:Int)∈bs.map (·.1)
  ·exact Rat.le_of_lt (lt p c).2
  ·rw[other p hp c];exact Rat.le_refl
 ·obtain⟨x,hx⟩:=List.exists_mem_of_ne_nil _ ne
  obtain⟨p,ep⟩:=aau (pos x hx)
  have m:(p:Int)∈bs.map (·.1):=List.mem_map.mpr ⟨x,hx,ep⟩
  exact⟨p,(lt p m).1,(lt p m).2⟩
theorem vI {dG:List (List (Option Int))} {fl:Option (Int->Rat)} {bs:List (Int×Int)} {qs q2:List Int} (fk:∀p∈ps,Pr.In b p) (T0:0<T.2) (h:ue b ps (λp=>((gT b).getD p.toNat 0:Rat) / (gB b:Rat)) (Dg.val S) ks dG fl) (hv:sk b ps (λp=>((gT b).getD p.toNat 0:Rat) / (gB b:Rat)) (Dg.val S) ks (Dg.val T)) (hq:∀p∈qs,p∈ps) (AV:qs.Nodup) (W:iD b ks 1 T.1 qs bs) (ne:bs≠[])
  (W2:iD b ks 2 T.1 q2 []) (zp:∀p:Nat,(p:Int)∈ps->∀to,b[p]?=some (.bN 2 to)->(p:Int)∈q2):ue b ps (λp=>((gT b).getD p.toNat 0:Rat) / (gB b:Rat)) (Dg.val S) (eB bs ks bs.length) (ks::dG) (some (Dg.val T)):=by
 have K:=h.ok
 have yy:∀p∈qs,Pr.In b p:=λp hp=>fk p (hq p hp)
 have K':=rO K yy AV W
 have pos:∀x∈bs,0<=x.1:=λx hx=>(yy _ (W.mem x hx).1).1
 have at1:∀{k:List (Option Int)} {p:Nat} {to:List Int},dY b k->d5 b ps 1 k (eB bs ks bs.length)->(p:Int)∈ps->b[p]?=some (.bN 1 to)->kh b (λp=>((gT b).getD p.toNat 0:Rat) / (gB b:Rat)) k (Dg.val T) (p:Int)=kh b (λp=>((gT b).getD p.toNat 0:Rat) / (gB b:Rat)) (eB bs ks bs.length) (Dg.val T) (p:Int):=λ{k p to} hk sm hp e=>gZ hk K'.pk (List.getElem?_eq_some_iff.mp e).1 λ_=>sm p hp _ e rfl
 have lt:∀p:Nat,(p:Int)∈bs.map (·.1)->(p:Int)∈ps/\(∃to,b[p]?=some (.bN 1 to))/\Dg.val T (p:Int)<kh b (λp=>((gT b).getD p.toNat 0:Rat) / (gB b:Rat)) (eB bs ks bs.length) (Dg.val T) (p:Int):=λp hp=>by
  obtain⟨to,eb,bw,nn⟩:=rP K yy AV W hp
  obtain⟨k,_,_,_,ew,et,mt⟩:=oB K.pk eb
  have mp:(p:Int)∈ps:=hq _ (by obtain⟨x,hx,ex⟩:=List.mem_map.mp hp;rw[<-ex];exact(W.mem x hx).1)
  refine⟨mp,⟨to,eb⟩,?_⟩
  have e:=hv.eq _ mp
  rw[show _+_=kh b (λp=>((gT b).getD p.toNat 0:Rat) / (gB b:Rat)) ks (Dg.val T) (p:Int) from rfl,iw B K.pk eb] at e
  rw[iw B K'.pk eb,e]
  refine(vG T0).mp ?_
  have:=bw _ mt
  rw[<-et,show sgn 1=1 from rfl] at this
  omega
 have old:∀p:Nat,(p:Int)∈ps->kh b (λp=>((gT b).getD p.toNat 0:Rat) / (gB b:Rat)) ks (Dg.val T) (p:Int)=Dg.val T (p:Int):=λp hp=>(hv.eq _ hp).symm
 refine h.first B fk hv K' (λk hk sm p hp=>?_) ?_
 ·obtain⟨p,rfl⟩:=aau (fk p hp).1
  have hpl:p<b.length:=by have:=(fk _ hp).2;omega
  have eb:b[p]?=some b[p]:=aad hpl
  cases q:b[p] with
  | fin g=>
   rw[gZ hk K.pk hpl (fun⟨w,to,z⟩=>by rw[eb,q] at z;cases z),old p hp]
   exact Rat.le_refl
  | cP g ws=>
   rw[gZ hk K.pk hpl (fun⟨w,to,z⟩=>by rw[eb,q] at z;cases z),old p hp]
   exact Rat.le_refl
  | bN who to=>
   rw[q] at eb
   have pq:=B.ok _ (aae eb)
   rcases pq.1 with w1 | w2
   ·subst w1
    rw[at1 hk sm hp eb]
    by_cases c:(p:Int)∈bs.map (·.1)
    ·exact Rat.le_of_lt (lt p c).2.2
    ·rw[gZ K'.pk K.pk hpl λ_=>gY pos c _ (aah _),old p hp]
     exact Rat.le_refl
   ·subst w2
    obtain⟨k',_,_,_,_,et,mt⟩:=oB hk eb
    have n2:=W2.cE _ (zp p hp to eb) (by simp) to (by rw[aai];exact eb) _ mt
    rw[<-old p hp,iw B K.pk eb,iw B hk eb,et]
    refine(vH T0).mp ?_
    rw[show sgn 2= -1 from rfl] at n2
    omega
 ·obtain⟨x,hx⟩:=List.exists_mem_of_ne_nil _ ne
  obtain⟨p,ep⟩:=aau (pos x hx)
  have m:(p:Int)∈bs.map (·.1):=List.mem_map.mpr ⟨x,hx,ep⟩
  obtain⟨h1,⟨to,h2⟩,h3⟩:=lt p m
  exact⟨p,h1,λk hk sm=>by rw[at1 hk sm h1 h2];exact h3⟩
end BS
noncomputable def AW:Sp:=λvs H Q _=>∃(v:V) (m:Addr) (who:Int) (to ts:List Int),vs=[v,.ref m]/\Rep H (jx (.bN who to)) v/\H m=some (.lst (ts.map V.int))/\0<to.length/\to.length<=4/\(∀g∈to,0<=g/\g< (ts.length:Int))/\(∀t∈ts,Bt 4000 t)/\
 ∀(w:Nat) H',az H H'->w<to.length->AS who to ts w->Q (.int (w:Int)) H'
noncomputable def gH (b:List Pl) (who:Int) (ps:List Int):List Int:=ps.filter λp=>match b[p.toNat]? with | some q=>Lc q who | none=>false
theorem dQ {b:List Pl} {who p:Int} {ps:List Int}:p∈gH b who ps↔p∈ps/\∃to,b[p.toNat]?=some (.bN who to):=by
 unfold gH
 rw[List.mem_filter]
 constructor
 ·rintro⟨h1,h2⟩
  refine⟨h1,?_⟩
  cases e:b[p.toNat]? with
  | none=>rw[e] at h2;cases h2
  | some q=>
   rw[e] at h2
   cases q with
   | fin g=>cases h2
   | cP g ws=>cases h2
   | bN w to=>exact⟨to,by rw[show w=who from of_decide_eq_true h2]⟩
 ·rintro⟨h1,to,e⟩
  refine⟨h1,?_⟩
  rw[e]
  exact decide_eq_true rfl
noncomputable def xo:Sp:=λvs H Q _=>∃(bl pt:Addr) (who:Int) (b:List Pl) (ps:List Int),vs=[.ref bl,.ref pt,.int who]/\Rep H (pT b) (.ref bl)/\H pt=some (.lst (ps.map V.int))/\(∀p∈ps,Pr.In b p)/\ps.length<=16/\
 ∀l H',az H H'->H l=none->H' l=some (.lst ((gH b who ps).map V.int))->Q (.ref l) H'
noncomputable def AX:Sp:=λvs H Q _=>∃(bl ql wl m:Addr) (b:List Pl) (ks:List (Option Int)) (who:Int) (ts qs:List Int) (xs:List V),vs=[.ref bl,.ref ql,.ref wl,.ref m]/\Rep H (pT b) (.ref bl)/\H ql=some (.lst (qs.map V.int))/\H wl=some (.lst xs)/\bf H ((cz b ks).map qg) xs/\H m=some (.lst (ts.map V.int))/\ts.length=b.length/\(∀t∈ts,Bt 4000 t)/\dY b ks/\(∀q∈b,wZ b.length q)/\(∀p∈qs,0<=p/\∃to,b[p.toNat]?=some (.bN who to))/\qs.length<=16/\
 ∀l bs H',az H H'->H l=none->Rep H' (.lst (bs.map bz)) (.ref l)->iD b ks who ts qs bs->Q (.ref l) H'
noncomputable def D4 (C:Addr):Sp:=λvs H Q _=>∃(bk gn pt bl wl:Addr) (S:Dg.Bk) (b:List Pl) (rk:Int->Nat) (ks:List (Option Int)) (ps:List Int) (M:Nat) (xs:List V),vs=[.ref bk,.ref gn,.ref pt,.ref bl,.ref wl]/\mG C (cF H wl) bk S/\mG C (cF H wl) gn (gT b,gB b)/\cF H wl pt=some (.lst (ps.map V.int))/\Rep (cF H wl) (pT b) (.ref bl)/\gX b rk/\H wl=some (.lst xs)/\bf (cF H wl) ((cz b ks).map qg) xs/\vF b ks/\
 ps.Nodup/\0<ps.length/\ps.length<=16/\(∀p∈ps,Pr.In b p)/\Dg.Sz b.length M S/\M+92*ps.length<3900/\gB b∣S.2/\(∀p∈ps,S.1.getD p.toNat 0=0)/\
 ∀x T dm iG H',az (cF H wl) (cF H' wl)->H' wl=some (.lst iG)->bf (cF H' wl) ((cz b dm).map qg) iG->vF b dm->Dg.C3 ps (cu (cz b dm)) (gT b) (gB b) S T->Dg.Sz b.length (M+92*ps.length) T->mG C (cF H' wl) x T->
  (∀p:Nat,(p:Int)∈ps->∀who to,b[p]?=some (.bN who to)->∀t∈to,sgn who*T.1.getD t.toNat 0<=sgn who*T.1.getD (yw b dm (p:Int)).toNat 0)->Q (.ref x) H'
noncomputable def BG (ss:List Wq.Sh) (p:Nat):Pl->Option Int
 | .bN _ to=>some (((to.map (Wq.fM ss)).idxOf (Wq.fM ss (p:Int)):Nat):Int)
 | _=>none
noncomputable def IQ:Sp:=λvs H Q _=>∃(v:V) (x:Addr) (wl:Addr) (q:Pl) (n p:Nat) (ss:List Wq.Sh),vs=[v,.ref x,.ref wl]/\Rep H (jx q) v/\wZ n q/\ss.length=n/\p<n/\H x=some (.tup (Pr (Wq.fM ss (p:Int)).1 (Wq.fM ss (p:Int)).2))/\Rep H (.lst (ss.map bz)) (.ref wl)/\(∀who to,q=.bN who to->∃t∈to,Wq.fM ss (p:Int)=Wq.fM ss t)/\∀H',az H H'->Q (gD (BG ss p q)) H'
noncomputable def ug (tp:Addr):Sp:=λvs H Q _=>∃(a:Addr) (b:List Pl) (rk:Int->Nat),vs=[.ref a]/\Rep H (pT b) (.ref a)/\gX b rk/\H tp=some (.rZ dsc)/\
 ∀t l1 l2 (S:Dg.Bk) (ks:List (Option Int)) H',az H H'->H' t=some (.tup [.ref l1,.ref l2])->H l1=none->H l2=none->Rep H' (.lst ((dP S).map bz)) (.ref l1)->H' l2=some (.lst (ks.map gD))->Dg.Sz b.length (330+92*b.length) S->gB b∣S.2->(∀p:Nat,p<b.length->gG b p (Dg.val S))->(∀p q,b[p]?=some q->ks[p]?=some (BG (dP S) p q))->ks.length=b.length->Q (.ref t) H'
structure uh (b:List Pl) (ps:List Int) (i:Nat) (S:Dg.Bk):Prop where
 sz:Dg.Sz b.length (330+92*Pr.off b ps i) S
 dv:gB b∣S.2
 eq:∀p:Nat,p<b.length->xi b ps (p:Int)<i->gG b p (Dg.val S)
 zr:∀p:Int,Pr.In b p->i<=xi b ps p->S.1.getD p.toNat 0=0
theorem uh.start {b:List Pl} {rk:Int->Nat} {ps:List Int} (B:gX b rk):uh b ps 0 (List.replicate b.length 0,gB b):=by
 have h:=FT.start (ks:=[]) (ps:=ps) B
 exact⟨h.sz,h.dv,λp _ h=>absurd h (abc _),h.zr⟩
theorem FZ {S:Dg.Bk} (h:0<S.2) {who a c:Int} (k:sgn who*S.1.getD a.toNat 0<=sgn who*S.1.getD c.toNat 0):AU who*Dg.val S a<=AU who*Dg.val S c:=by
 unfold sgn at k
 unfold AU
 by_cases e:who=1
 ·rw[if_pos e] at k ⊢
  have:=(vH h (a:=a) (b:=c)).mp (by omega)
  grind
 ·rw[if_neg e] at k ⊢
  have:=(vH h (a:=c) (b:=a)).mp (by omega)
  grind
theorem uh.step {b:List Pl} {rk:Int->Nat} {ks:List (Option Int)} {ps:List Int} {i:Nat} {S S':Dg.Bk} {h:Int} (B:gX b rk) (T:Pr.Told b ps) (ko:dY b ks) (I:uh b ps i S) (e:ps[i]?=some h)
  (st:Dg.C3 (Pr.dc b h) (cu (cz b ks)) (gT b) (gB b) S S') (sz:Dg.Sz b.length (330+92*Pr.off b ps i+92* (Pr.dc b h).length) S')
  (best:∀p:Nat,(p:Int)∈Pr.dc b h->∀who to,b[p]?=some (.bN who to)->∀t∈to,sgn who*S'.1.getD t.toNat 0<=sgn who*S'.1.getD (yw b ks (p:Int)).toNat 0):uh b ps (i+1) S':=by
 obtain⟨g0,_,_⟩:=B.bot
 refine⟨?_,?_,λp hp hx=>?_,λp hp hx=>?_⟩
 ·rw[Pr.oi e,Nat.mul_add,<-Nat.add_assoc]
  exact sz
 ·obtain⟨d,_,e2,_⟩:=st
  rw[e2]
  exact Int.dvd_trans I.dv (Int.dvd_mul_right _ _)
 ·have ip:Pr.In b (p:Int):=⟨by omega,by omega⟩
  obtain⟨q,k,e1,ek,po,ew⟩:=ko.at hp
  obtain⟨w5,wg⟩:=B.wk ko ip
  intro q' yd
  rw[e1] at yd
  cases yd
  by_cases c:xi b ps (p:Int)=i
  ·have m:=IK B T e ip c
   have v:=st.eq I.sz.pos g0 I.dv m (by have:=w5.tt;omega)
   rw[aai,B.gV e1,ew] at v
   cases q with
   | fin g=>rw[v];show Dg.vl g+0=Dg.vl g;grind
   | cP g ws=>exact v
   | bN who to=>
    obtain⟨k',_,_,_,Ld,et,mt⟩:=oB ko e1
    have v2:Dg.val S' (p:Int)=Dg.val S' (yw b ks (p:Int)):=by
     rw[ew,<-et] at Ld
     rw[v,Ld]
     show Dg.vl (0,1)+ (((1:Int):Rat) / ((1:Int):Rat)*Dg.val S' (yw b ks (p:Int))+0)=_
     have:Dg.vl (0,1)=0:=Dg.MP
     rw[this,Dg.K4]
     grind
    refine⟨⟨_,mt,by rw[<-et];exact v2⟩,λt ht=>?_⟩
    rw[v2]
    exact FZ sz.pos (best p m who to e1 t ht)
  ·have old:=I.eq p hp (by omega) q e1
   have out:∀x:Int,Pr.In b x->xi b ps x<i->Dg.val S' x=Dg.val S x:=λx hx hi=>st.ne I.sz.pos hx.1 λz=>by
    have:=vC B T e z
    omega
   have F0:∀t∈Lv.fL q,Dg.val S' t=Dg.val S t:=λt ht=>by
    have hg:t∈Bf.fj b (p:Int):=by unfold Bf.fj;rw[aai,e1];exact ht
    have:=C6 B T ip hg
    exact out t this.2 (by omega)
   have op:=out _ ip (by omega)
   cases q with
   | fin g=>rw[op];exact old
   | cP g ws=>
    rw[op,show Dg.val S (p:Int)=_ from old]
    congr 1
    exact Dg.oq λx hx=>(F0 _ (List.mem_map.mpr ⟨x,hx,rfl⟩)).symm
   | bN who to=>
    obtain⟨⟨t1,m1,o1⟩,o2⟩:=old
    refine⟨⟨t1,m1,by rw[op,F0 t1 m1];exact o1⟩,λt ht=>?_⟩
    rw[op,F0 t ht]
    exact o2 t ht
 ·obtain⟨d,_,_,_,o,_⟩:=st
  rw[o p hp.1 λz=>by have:=vC B T e z;omega,I.zr p hp (by omega),Int.zero_mul]
theorem gc {S:Dg.Bk} {n M:Nat} (Z:Dg.Sz n M S):∀x∈dP S,Lb S.2 (2^M) x:=by
 intro x hx
 obtain⟨t,ht,rfl⟩:=List.mem_map.mp hx
 obtain⟨j,hj,rfl⟩:=aa5 ht
 have bt:=Z.bt j
 rw[aaf,aad hj,Option.getD_some] at bt
 have S0:=Z.pos
 obtain⟨d,e⟩:=Wq.Fp (a:=S.1[j]) (s:=S.1[j]) S0 S0 rfl
 have lw:=Wq.nR (a:=S.1[j]) S0
 refine⟨lw,d,(Wq.IA lw.1 S0 d).mpr ?_⟩
 rw[e]
 unfold Bt at bt
 have p:(2:Int)^M=((2^M:Nat):Int):=by rw[Int.natCast_pow];rfl
 have m:((2^M:Nat):Int)*1<=((2^M:Nat):Int)*S.2:=Int.mul_le_mul_of_nonneg_left (by omega) (by omega)
 rw[p]
 generalize ((2:Nat)^M)=N at *
 omega
theorem D5 {x y:Wq.Sh} (hx:0<x.2) (hy:0<y.2):x.1*y.2 >y.1*x.2↔Dg.vl y<Dg.vl x:=by
 have h1:(0:Rat)< (x.2:Rat):=Rat.intCast_pos.mpr hx
 have h2:(0:Rat)< (y.2:Rat):=Rat.intCast_pos.mpr hy
 have h3:=Rat.mul_pos h1 h2
 have e1:((x.1*y.2:Int):Rat)=Dg.vl x* ((x.2:Rat)* (y.2:Rat)):=by
  rw[Rat.intCast_mul]
  unfold Dg.vl
  have:=Rat.ne_of_gt h1
  have:=Rat.ne_of_gt h2
  grind
 have e2:((y.1*x.2:Int):Rat)=Dg.vl y* ((x.2:Rat)* (y.2:Rat)):=by
  rw[Rat.intCast_mul]
  unfold Dg.vl
  have:=Rat.ne_of_gt h1
  have:=Rat.ne_of_gt h2
  grind
 show y.1*x.2<x.1*y.2↔_
 rw[<-Rat.intCast_lt_intCast,e1,e2]
 constructor
 ·intro h
  exact Rat.lt_of_mul_lt_mul_right h (Rat.le_of_lt h3)
 ·intro h
  exact Rat.mul_lt_mul_of_pos_right h h3
theorem AY {x y:Wq.Sh} (hx:0<x.2) (hy:0<y.2):Wq.wB x y=true↔Dg.vl x<Dg.vl y:=by
 unfold Wq.wB
 rw[decide_eq_true_iff]
 exact D5 hy hx
theorem kj {S:Dg.Bk} {n M:Nat} (z:Dg.Sz n M S) {q:Int} (q0:0<=q) (q1:q< (n:Int)):(dP S)[q.toNat]?=some (Wq.fM (dP S) q)/\Lb S.2 (2^M) (Wq.fM (dP S) q)/\Dg.vl (Wq.fM (dP S) q)=Dg.val S q:=by
 have l:(dP S).length=n:=by unfold dP;rw[aac,z.len]
 have a:=rM (ss:=dP S) (q:=q) q0 (by omega)
 exact⟨a,gc z _ (aae a),xk z.pos _ (by rw[z.len];omega)⟩
theorem D6 {b:List Pl} {rk:Int->Nat} {v v':Int->Rat} (B:gX b rk) (h:∀p:Nat,p<b.length->gG b p v) (h':∀p:Nat,p<b.length->gG b p v'):∀p:Nat,p<b.length->v (p:Int)<=v' (p:Int):=by
 have ex:∀x:Int,∃ws:Dg.Wy,Pr.In b x->(∀y∈ws,1<=y.1/\Pr.In b y.2)/\(ws=[]\/∃y∈ws,rk y.2<rk x)/\v x - v' x<=Dg.cL (Dg.tt ws) (λi=>v i - v' i) ws:=λx=>by
  by_cases c:Pr.In b x
  ·obtain⟨p,rfl⟩:=aau c.1
   have hp:p<b.length:=by have:=c.2;omega
   have eb:b[p]?=some b[p]:=aad hp
   have a:=h p hp _ eb
   have a':=h' p hp _ eb
   have pq:=B.ok _ (aao hp)
   have rg:=B.fO.good.lZ _ (aao hp)
   have one:∀t,v (p:Int) - v' (p:Int)<=v t - v' t->v (p:Int) - v' (p:Int)<=Dg.cL (Dg.tt [(1,t)]) (λi=>v i - v' i) [(1,t)]:=λt k=>by
    show _<=((1:Int):Rat) / ((1:Int):Rat)* (v t - v' t)+0
    rw[Dg.K4]
    grind
   cases q:b[p] with
   | fin g=>
    rw[q] at a a'
    refine⟨[],λ_=>⟨by simp,.inl rfl,?_⟩⟩
    show _<=(0:Rat)
    rw[show v (p:Int)=_ from a,show v' (p:Int)=_ from a']
    grind
   | cP g ws=>
    rw[q] at a a' eb pq rg
    refine⟨ws,λ_=>⟨λy hy=>⟨(pq.2.2.2 y hy).1,(pq.2.2.2 y hy).2.2⟩,.inr (B.fO.cP p g ws eb),?_⟩⟩
    rw[Dg.gW,show v (p:Int)=_ from a,show v' (p:Int)=_ from a']
    grind
   | bN who to=>
    rw[q] at a a' eb pq rg
    obtain⟨⟨t1,m1,e1⟩,u1⟩:=a
    obtain⟨⟨t2,m2,e2⟩,u2⟩:=a'
    rcases pq.1 with rfl | rfl
    ·refine⟨[(1,t1)],λ_=>⟨λy hy=>by rw[List.mem_singleton.mp hy];exact⟨aa4 _,rg t1 m1⟩,.inr ⟨_,List.mem_singleton.mpr rfl,B.fO.bN p _ to eb t1 m1⟩,one t1 ?_⟩⟩
     have:=u2 t1 m1
     unfold AU at this
     rw[if_pos rfl] at this
     grind
    ·refine⟨[(1,t2)],λ_=>⟨λy hy=>by rw[List.mem_singleton.mp hy];exact⟨aa4 _,rg t2 m2⟩,.inr ⟨_,List.mem_singleton.mpr rfl,B.fO.bN p _ to eb t2 m2⟩,one t2 ?_⟩⟩
     have:=u1 t2 m2
     unfold AU at this
     rw[if_neg (by decide)] at this
     grind
  ·exact⟨[],λz=>absurd z c⟩
 have ⟨W,hW⟩:=Classical.axiomOfChoice ex
 have ix:∀{x:Int},x∈(List.range b.length).map (fun(i:Nat)=>(i:Int))↔Pr.In b x:=λ{x}=>by
  constructor
  ·intro hx
   obtain⟨j,hj,rfl⟩:=List.mem_map.mp hx
   have:=List.mem_range.mp hj
   exact⟨by omega,by omega⟩
  ·intro hx
   obtain⟨j,rfl⟩:=aau hx.1
   exact List.mem_map.mpr ⟨j,List.mem_range.mpr (by have:=hx.2;omega),rfl⟩
 intro p hp
 have:=Dg.sub_zero (ps:=(List.range b.length).map (fun(i:Nat)=>(i:Int))) (W:=W) (lv:=rk) (v:=λi=>v i - v' i) (λx hx=>(hW x (ix.mp hx)).2.2) (λx hx y hy=>((hW x (ix.mp hx)).1 y hy).1) (λx hx y hy ny=>absurd (ix.mpr ((hW x (ix.mp hx)).1 y hy).2) ny) (λx hx=>(hW x (ix.mp hx)).2.1) (p:Int) (ix.mpr ⟨by omega,by omega⟩)
 have:v (p:Int) - v' (p:Int)<=0:=this
 grind
noncomputable def AZ:Sp:=λvs H Q _=>∃p q a b,vs=[.ref p,.ref q]/\H p=some (.tup (Pr a.1 a.2))/\H q=some (.tup (Pr b.1 b.2))/\Rm a/\Rm b/\Q (.bl (Wq.wB a b)) H
noncomputable def oC:Sp:=λvs H Q _=>∃a b,vs=[.ref a]/\Rep H (pT b) (.ref a)/\b.length<=16/\∀l xs H',az H H'->H l=none->H' l=some (.lst xs)->bf (cF H' l) (b.map jx) xs->Q (.ref l) H'
inductive Le:Pl->Pl->Prop
 | fin {g g':Wq.Sh} (h:Dg.vl g<=Dg.vl g'):Le (.fin g) (.fin g')
 | cP {g g':Wq.Sh} {ws:List (Int×Int)} (h:Dg.vl g<=Dg.vl g'):Le (.cP g ws) (.cP g' ws)
 | bN {who:Int} {to:List Int}:Le (.bN who to) (.bN who to)
set_option tactic.hygienic true in
theorem A0 {b b':List Pl} {rk:Int->Nat} {v v':Int->Rat} (B:gX b rk) (len:b'.length=b.length) (le:∀(p:Nat) q q',b[p]?=some q->b'[p]?=some q'->Le q q') (h:∀p:Nat,p<b.length->gG b p v) (h':∀p:Nat,p<b.length->gG b' p v'):∀p:Nat,p<b.length->v (p:Int)<=v' (p:Int):=by
 have ex:∀x:Int,∃ws:Dg.Wy,Pr.In b x->(∀y∈ws,1<=y.1/\Pr.In b y.2)/\(ws=[]\/∃y∈ws,rk y.2<rk x)/\v x - v' x<=Dg.cL (Dg.tt ws) (λi=>v i - v' i) ws:=λx=>by
  by_cases c:Pr.In b x
  ·obtain⟨p,rfl⟩:=aau c.1
   have hp:p<b.length:=by have:=c.2;omega
   have iH:p<b'.length:=by omega
   have eb:b[p]?=some b[p]:=aad hp
   have D7:b'[p]?=some b'[p]:=aad iH
   have a:=h p hp _ eb
   have a':=h' p hp _ D7
   have pq:=B.ok _ (aao hp)
   have rg:=B.fO.good.lZ _ (aao hp)
   have l:=le p _ _ eb D7
   have one:∀t,v (p:Int) - v' (p:Int)<=v t - v' t->v (p:Int) - v' (p:Int)<=Dg.cL (Dg.tt [(1,t)]) (λi=>v i - v' i) [(1,t)]:=λt k=>by
    show _<=((1:Int):Rat) / ((1:Int):Rat)* (v t - v' t)+0
    rw[Dg.K4]
    grind
   generalize b'[p]=q' at *
   generalize b[p]=q at *
   cases l with
   | fin lg=>
    rename_i g g'
    refine⟨[],λ_=>⟨by simp,.inl rfl,?_⟩⟩
    show _<=(0:Rat)
    rw[show v (p:Int)=_ from a,show v' (p:Int)=_ from a']
    grind
   | cP lg=>
    rename_i g g' ws
    refine⟨ws,λ_=>⟨λy hy=>⟨(pq.2.2.2 y hy).1,(pq.2.2.2 y hy).2.2⟩,.inr (B.fO.cP p g ws eb),?_⟩⟩
    rw[Dg.gW,show v (p:Int)=_ from a,show v' (p:Int)=_ from a']
    grind
   | bN=>
    rename_i who to
    obtain⟨⟨t1,m1,e1⟩,u1⟩:=a
    obtain⟨⟨t2,m2,e2⟩,u2⟩:=a'
    rcases pq.1 with rfl | rfl
    ·refine⟨[(1,t1)],λ_=>⟨λy hy=>by rw[List.mem_singleton.mp hy];exact⟨aa4 _,rg t1 m1⟩,.inr ⟨_,List.mem_singleton.mpr rfl,B.fO.bN p _ to eb t1 m1⟩,one t1 ?_⟩⟩
     have:=u2 t1 m1
     unfold AU at this
     rw[if_pos rfl] at this
     grind
    ·refine⟨[(1,t2)],λ_=>⟨λy hy=>by rw[List.mem_singleton.mp hy];exact⟨aa4 _,rg t2 m2⟩,.inr ⟨_,List.mem_singleton.mpr rfl,B.fO.bN p _ to eb t2 m2⟩,one t2 ?_⟩⟩
     have:=u1 t2 m2
     unfold AU at this
     rw[if_neg (by decide)] at this
     grind
  ·exact⟨[],λz=>absurd z c⟩
 have ⟨W,hW⟩:=Classical.axiomOfChoice ex
 have ix:∀{x:Int},x∈(List.range b.length).map (fun(i:Nat)=>(i:Int))↔Pr.In b x:=λ{x}=>by
  constructor
  ·intro hx
   obtain⟨j,hj,rfl⟩:=List.mem_map.mp hx
   have:=List.mem_range.mp hj
   exact⟨by omega,by omega⟩
  ·intro hx
   obtain⟨j,rfl⟩:=aau hx.1
   exact List.mem_map.mpr ⟨j,List.mem_range.mpr (by have:=hx.2;omega),rfl⟩
 intro p hp
 have:=Dg.sub_zero (ps:=(List.range b.length).map (fun(i:Nat)=>(i:Int))) (W:=W) (lv:=rk) (v:=λi=>v i - v' i) (λx hx=>(hW x (ix.mp hx)).2.2) (λx hx y hy=>((hW x (ix.mp hx)).1 y hy).1) (λx hx y hy ny=>absurd (ix.mpr ((hW x (ix.mp hx)).1 y hy).2) ny) (λx hx=>(hW x (ix.mp hx)).2.1) (p:Int) (ix.mpr ⟨by omega,by omega⟩)
 have:v (p:Int) - v' (p:Int)<=0:=this
 grind
theorem C8 {v:Int->Rat} {c:Rat} {ws:Dg.Wy} (h:∀x∈ws,1<=x.1) (ne:ws≠[]):Dg.cL (Dg.tt ws) (λi=>v i+c) ws=Dg.cL (Dg.tt ws) v ws+c:=by
 have go:∀(d:Int) (ws:Dg.Wy),Dg.cL d (λi=>v i+c) ws=Dg.cL d v ws+ ((Wq.cH ws:Int):Rat) / (d:Rat)*c:=by
  intro d ws
  induction ws with
  | nil=>show(0:Rat)=0+ ((0:Int):Rat) / _*c;grind
  | cons x ws ih=>
   show(x.1:Rat) / (d:Rat)* (v x.2+c)+Dg.cL d (λi=>v i+c) ws=(x.1:Rat) / (d:Rat)*v x.2+Dg.cL d v ws+ ((Wq.cH (x::ws):Int):Rat) / (d:Rat)*c
   rw[ih,Dg.cU,Rat.intCast_add]
   generalize (x.1:Rat)=s at *
   generalize ((Wq.cH ws:Int):Rat)=t at *
   generalize (d:Rat)=u at *
   grind
 have et:Dg.tt ws=Wq.cH ws:=by unfold Dg.tt;rw[if_neg ne]
 have pos:0<Wq.cH ws:=by
  have key:∀ws:Dg.Wy,(∀x∈ws,1<=x.1)->0<=Wq.cH ws/\(ws≠[]->0<Wq.cH ws):=by
   intro ws
   induction ws with
   | nil=>exact λ_=>⟨aa4 _,λz=>absurd rfl z⟩
   | cons x ws ih=>
    intro hx
    have i:=(ih λy hy=>hx y (aak _ hy)).1
    have:=hx x aaj
    rw[Dg.cU]
    exact⟨by omega,λ_=>by omega⟩
  exact(key ws h).2 ne
 rw[go,et]
 have:=Dg.si pos
 generalize ((Wq.cH ws:Int):Rat)=t at *
 grind
noncomputable def gi (c:Wq.Sh):Pl->Pl
 | .fin g=>.fin (Wq.pl g c)
 | q=>q
theorem IS {b:List Pl} {rk:Int->Nat} {p:Nat} {v:Int->Rat} {c:Wq.Sh} (B:gX b rk) (c0:0<c.2) (h:gG b p v):gG (b.map (gi c)) p (λi=>v i+Dg.vl c):=by
 intro q' e'
 rw[aag] at e'
 obtain⟨q,e,rfl⟩:=Option.map_eq_some_iff.mp e'
 have a:=h q e
 have pq:=B.ok _ (aae e)
 cases q with
 | fin g=>
  show v (p:Int)+Dg.vl c=Dg.vl (Wq.pl g c)
  rw[Dg.oj (show 0<g.2 from(iu pq).2.2.1) c0,show v (p:Int)=_ from a]
 | cP g ws=>
  show v (p:Int)+Dg.vl c=Dg.vl g+Dg.cL (Dg.tt ws) (λi=>v i+Dg.vl c) ws
  rw[C8 (λx hx=>(pq.2.2.2 x hx).1) (λz=>by have:=pq.2.1;rw[z] at this;cases this),show v (p:Int)=_ from a]
  grind
 | bN who to=>
  obtain⟨⟨t,m,et⟩,u⟩:=a
  refine⟨⟨t,m,by show v (p:Int)+_=v t+_;rw[et]⟩,λt' m'=>?_⟩
  have k:=u t' m'
  show AU who* (v t'+Dg.vl c)<=AU who* (v (p:Int)+Dg.vl c)
  grind
theorem idx_map {f:Wq.Sh->Wq.Sh} {l:List Wq.Sh} {x:Wq.Sh} (inj:∀a∈l,f a=f x->a=x):(l.map f).idxOf (f x)=l.idxOf x:=by
 induction l with
 | nil=>rfl
 | cons y l ih=>
  have i:=ih λa ha=>inj a (aak _ ha)
  rw[aat,List.idxOf_cons,List.idxOf_cons,i]
  by_cases c:y=x
  ·rw[c];simp
  ·have c':f y≠f x:=λz=>c (inj y aaj z)
   rw[show(f y==f x)=false by simpa using c',show(y==x)=false by simpa using c]
inductive oE:Pl->Pl->Prop
 | fin {g g':Wq.Sh}:oE (.fin g) (.fin g')
 | cP {g g':Wq.Sh} {ws:List (Int×Int)}:oE (.cP g ws) (.cP g' ws)
 | bN {who C9:Int} {to:List Int}:oE (.bN who to) (.bN C9 to)
theorem xp {b b':List Pl} {rk:Int->Nat} (B:gX b rk) (l8:b.length<=8) (len:b'.length=b.length) (sm:∀(p:Nat) q',b'[p]?=some q'->∃q,b[p]?=some q/\oE q q') (xn:∀q'∈b',wZ b'.length q'):gX b' rk:=by
 have fO:C4 b' rk:=by
  refine⟨⟨λq' hq x hx=>?_,λq' hq w to e=>?_⟩,λi g ws e=>?_,λi w to e x hx=>?_⟩
  ·obtain⟨i,ei⟩:=aaw hq
   obtain⟨q,eq,s⟩:=sm i q' ei
   have:=B.fO.good.lZ q (aae eq)
   rw[len]
   cases s with
   | fin=>simp [Lv.fL] at hx
   | cP=>exact this x hx
   | bN=>exact this x hx
  ·obtain⟨i,ei⟩:=aaw hq
   obtain⟨q,eq,s⟩:=sm i q' ei
   subst e
   cases s
   exact B.fO.good.bN _ (aae eq) _ to rfl
  ·obtain⟨q,eq,s⟩:=sm i _ e
   cases s
   exact B.fO.cP i _ ws eq
  ·obtain⟨q,eq,s⟩:=sm i _ e
   cases s
   exact B.fO.bN i _ to eq x hx
 exact⟨by rw[len];exact B.pos,by rw[len];exact B.len,xn,fO,λp hp=>AI fO xn (by omega) hp⟩
noncomputable def Lf (g:Wq.Sh):Prop:= -50<=g.1/\g.1<=50/\g.2<=20/\Wq.Lw g
noncomputable def F1:Pl->Prop
 | .fin g=>Lf g
 | .cP g _=>Lf g
 | .bN _ _=>True
theorem dH {a b:Int} (b0:0<b):(Wq.low a b).1.natAbs<=a.natAbs/\(Wq.low a b).2<=b/\Wq.Lw (Wq.low a b):=by
 have g0:0<Nm.g a b:=Nm.iF (by omega)
 have q1:=Nm.dO (a:=a) g0 (Nm.js a b)
 have q2:=Nm.dO (a:=b) g0 (Nm.eP a b)
 have e1:(Wq.low a b).1=a / Nm.g a b:=(Nm.m9 b0).1
 have e2:(Wq.low a b).2=b / Nm.g a b:=(Nm.m9 b0).2
 have lw:=Wq.nR (a:=a) b0
 exact⟨by omega,by have:=lw.1;omega,lw⟩
theorem A2 {g:Wq.Sh} (h:Lf g):GS g:=by
 obtain⟨g1,g2,g3,lw⟩:=h
 have:=lw.1
 exact⟨Bt.of 50 (by omega) (by omega),Bt.of 20 (by omega) (by omega),lw⟩
noncomputable def A3:Sp:=λvs H Q _=>∃(a:Addr) (b:List Pl) (rk:Int->Nat),vs=[.ref a]/\Rep H (pT b) (.ref a)/\gX b rk/\b.length<=8/\∀l b' H',az H H'->H l=none->Rep H' (pT b') (.ref l)->b'.length=b.length->gX b' rk->(∀q∈b',F1 q)->Q (.ref l) H'
theorem F2 {S S':Dg.Bk} {M M' n:Nat} {f:Wq.Sh->Wq.Sh} (z:Dg.Sz n M S) (z':Dg.Sz n M' S') (lw:∀x,Wq.Lw x->Wq.Lw (f x)) (e:∀p:Nat,p<n->Dg.vl (f (Wq.fM (dP S) (p:Int)))=Dg.val S' (p:Int)):dP S'=(dP S).map f:=by
 have l:(dP S).length=n:=by unfold dP;rw[aac,z.len]
 have l':(dP S').length=n:=by unfold dP;rw[aac,z'.len]
 apply aaN
 intro i
 rw[aag]
 by_cases hi:i<n
 ·obtain⟨a1,a2,a3⟩:=kj z (q:=(i:Int)) (by omega) (by omega)
  obtain⟨b1,b2,b3⟩:=kj z' (q:=(i:Int)) (by omega) (by omega)
  rw[aai] at a1 b1
  rw[a1,b1]
  show some _=some _
  congr 1
  exact Dg.vt b2.1 (lw _ a2.1) (by rw[b3,e i hi])
 ·rw[aaq (by omega),aaq (by omega)]
  rfl
theorem xq {f:Wq.Sh->Wq.Sh} {ss:List Wq.Sh} {t:Int} (t0:0<=t) (t1:t< (ss.length:Int)):Wq.fM (ss.map f) t=f (Wq.fM ss t):=by
 have a:=rM (ss:=ss) (q:=t) t0 (by omega)
 have b:=rM (ss:=ss.map f) (q:=t) t0 (by rw[aac];omega)
 rw[aag,a] at b
 exact(aay b).symm
theorem Dc {f:Wq.Sh->Wq.Sh} {ss:List Wq.Sh} {p:Nat} {who C9:Int} {to:List Int} (inj:∀x∈ss,∀y∈ss,f x=f y->x=y) (hp:p<ss.length) (g:∀t∈to,0<=t/\t< (ss.length:Int)):BG (ss.map f) p (.bN C9 to)=BG ss p (.bN who to):=by
 have mem:∀t:Int,0<=t->t< (ss.length:Int)->Wq.fM ss t∈ss:=λt t0 t1=>aae (rM t0 (by omega))
 show some ((((to.map (Wq.fM (ss.map f))).idxOf (Wq.fM (ss.map f) (p:Int)):Nat):Int))=some (((to.map (Wq.fM ss)).idxOf (Wq.fM ss (p:Int)):Nat):Int)
 have e:to.map (Wq.fM (ss.map f))=(to.map (Wq.fM ss)).map f:=by
  rw[aaO]
  exact abw λt ht=>xq (g t ht).1 (g t ht).2
 rw[e,xq (by omega) (by omega),idx_map λa ha e=>?_]
 obtain⟨t,ht,rfl⟩:=List.mem_map.mp ha
 exact inj _ (mem t (g t ht).1 (g t ht).2) _ (mem (p:Int) (by omega) (by omega)) e
theorem IT {x:Wq.Sh} (a:0<=x.1) (b:0<x.2):0<=Dg.vl x:=by
 have h:=D5 (x:=(0,1)) (y:=x) (by decide) b
 rw[show Dg.vl (0,1)=0 from Dg.MP] at h
 refine Rat.not_lt.mp λz=>?_
 have:=h.mpr z
 simp at this
 omega
theorem IU {g c:Wq.Sh} (hg:Lf g) (c1:c.1.natAbs<=4000000000) (c2:c.2<=36) (c0:0<c.2):GS (Wq.pl g c):=by
 obtain⟨g1,g2,g3,lw⟩:=hg
 have b0:0<g.2*c.2:=aa7 lw.1 c0
 obtain⟨a1,a2,a3⟩:=dH (a:=g.1*c.2+c.1*g.2) b0
 have gp:=lw.1
 have m1:(g.1*c.2).natAbs<=50*36:=by rw[aaL];exact abi (by omega) (by omega)
 have m2:(c.1*g.2).natAbs<=4000000000*20:=by rw[aaL];exact abi c1 (by omega)
 have m3:g.2*c.2<=20*36:=Int.mul_le_mul g3 c2 (by omega) (by decide)
 have a0:=a3.1
 have e:Wq.pl g c=Wq.low (g.1*c.2+c.1*g.2) (g.2*c.2):=rfl
 rw[e]
 generalize Wq.low (g.1*c.2+c.1*g.2) (g.2*c.2)=x at *
 generalize g.1*c.2=u at *
 generalize c.1*g.2=v at *
 generalize g.2*c.2=t at *
 exact⟨Bt.of 80000001800 (by omega) (by omega),Bt.of 720 (by omega) (by omega),a3⟩
noncomputable def Dd (c:Wq.Sh):Prop:=c.1.natAbs<=4000000000/\c.2<=36/\0<c.2
theorem Dd.rm {c:Wq.Sh} (h:Dd c):Rm c:=⟨Bt.mono (m:=32) (Bt.of 4000000000 (by have:=h.1;omega) (by have:=h.1;omega)) (by decide),Bt.mono (m:=6) (Bt.of 36 (by have:=h.2.2;omega) h.2.1) (by decide),h.2.2⟩
theorem uj {cs:List Wq.Sh} {b:List Pl} {p:Nat} {q':Pl} (e:(List.zipWith gi cs b)[p]?=some q'):∃c q,cs[p]?=some c/\b[p]?=some q/\q'=gi c q:=by
 rw[abl] at e
 cases e1:cs[p]? with
 | none=>rw[e1] at e;cases e
 | some c=>
  cases e2:b[p]? with
  | none=>rw[e1,e2] at e;cases e
  | some q=>rw[e1,e2] at e;cases e;exact⟨c,q,rfl,rfl,rfl⟩
theorem D8 {b:List Pl} {rk:Int->Nat} {cs:List Wq.Sh} (B:gX b rk) (l8:b.length<=8) (sm:∀q∈b,F1 q) (lc:cs.length=b.length) (hc:∀c∈cs,Dd c):gX (List.zipWith gi cs b) rk:=by
 have len:(List.zipWith gi cs b).length=b.length:=by rw[aaV];omega
 refine xp B l8 len (λp q' e=>?_) λq' hq=>?_
 ·obtain⟨c,q,e1,e2,rfl⟩:=uj e
  refine⟨q,e2,?_⟩
  cases q with
  | fin g=>exact .fin
  | cP g ws=>exact .cP
  | bN w to=>exact .bN
 ·obtain⟨i,ei⟩:=aaw hq
  obtain⟨c,q,e1,e2,rfl⟩:=uj ei
  rw[len]
  have pq:=B.ok q (aae e2)
  have sq:=sm q (aae e2)
  obtain⟨r1,r2,r3⟩:=hc c (aae e1)
  cases q with
  | fin g=>exact IU sq r1 r2 r3
  | cP g ws=>exact pq
  | bN w to=>exact pq
theorem rQ {b:List Pl} {d:Wq.Sh} {n:Nat} (h:b.length=n):List.zipWith gi (List.replicate n d) b=b.map (gi d):=by
 subst h
 induction b with
 | nil=>rfl
 | cons q b ih=>rw[aar,abn,List.zipWith_cons_cons,aat,ih]
theorem IV {x c:Wq.Sh} (c0:0<c.2) (h:Wq.Lw x):Wq.Lw (Wq.pl x c):=Wq.nR (aa7 h.1 c0)
theorem IW {b:List Pl} {rk:Int->Nat} {c:Wq.Sh} {S S':Dg.Bk} {M M':Nat} (B:gX b rk) (B':gX (b.map (gi c)) rk) (c0:0<c.2) (z:Dg.Sz b.length M S) (z':Dg.Sz (b.map (gi c)).length M' S') (h:∀p:Nat,p<b.length->gG b p (Dg.val S)) (h':∀p:Nat,p< (b.map (gi c)).length->gG (b.map (gi c)) p (Dg.val S')):dP S'=(dP S).map λw=>Wq.pl w c:=by
 have len:(b.map (gi c)).length=b.length:=aac ..
 have hs:∀p:Nat,p< (b.map (gi c)).length->gG (b.map (gi c)) p (λi=>Dg.val S i+Dg.vl c):=λp hp=>IS B c0 (h p (by omega))
 have MV:=D6 B' hs h'
 have MW:=D6 B' h' hs
 rw[len] at z'
 refine F2 z z' (λx hx=>IV c0 hx) λp hp=>?_
 obtain⟨_,a2,a3⟩:=kj z (q:=(p:Int)) (by omega) (by omega)
 rw[Dg.oj a2.1.1 c0,a3]
 have:=MV p (by omega)
 have:=MW p (by omega)
 grind
theorem F4 {x y c:Wq.Sh} (hx:Wq.Lw x) (hy:Wq.Lw y) (c0:0<c.2) (e:Wq.pl x c=Wq.pl y c):x=y:=by
 refine Dg.vt hx hy ?_
 have h:Dg.vl (Wq.pl x c)=Dg.vl (Wq.pl y c):=by rw[e]
 rw[Dg.oj hx.1 c0,Dg.oj hy.1 c0] at h
 grind
theorem F5 {b:List Pl} {rk:Int->Nat} {S S':Dg.Bk} {M:Nat} {c:Wq.Sh} {ks dm:List (Option Int)} (B:gX b rk) (c0:0<c.2) (z:Dg.Sz b.length M S) (e:dP S'=(dP S).map λw=>Wq.pl w c) (hk:∀p q,b[p]?=some q->ks[p]?=some (BG (dP S) p q)) (BH:∀p q,(b.map (gi c))[p]?=some q->dm[p]?=some (BG (dP S') p q)) (lk:ks.length=b.length) (Lg:dm.length=(b.map (gi c)).length):dm=ks:=by
 have l:(dP S).length=b.length:=by unfold dP;rw[aac,z.len]
 rw[aac] at Lg
 apply aaN
 intro i
 by_cases hi:i<b.length
 ·have eb:b[i]?=some b[i]:=aad hi
  have pq:=B.ok _ (aao hi)
  rw[hk i _ eb,BH i (gi c b[i]) (by rw[aag,eb];rfl)]
  cases cq:b[i] with
  | fin g=>rfl
  | cP g ws=>rfl
  | bN who to=>
   rw[cq] at pq
   rw[e]
   show some (BG _ i (.bN who to))=_
   rw[Dc (who:=who) (λx hx y hy e=>F4 (gc z x hx).1 (gc z y hy).1 c0 e) (by omega) λt ht=>by rw[l];exact pq.2.2.2 t ht]
 ·rw[aaq (by omega),aaq (by omega)]
theorem IX {b:List Pl} {rk:Int->Nat} {cs cs':List Wq.Sh} {S S':Dg.Bk} (B:gX (List.zipWith gi cs b) rk) (ok:∀q∈b,0< (Wq.dt q).2) (lc:cs.length=b.length) (lc':cs'.length=b.length) (hc:∀(p:Nat) c c',cs[p]?=some c->cs'[p]?=some c'->0<c.2/\0<c'.2/\Dg.vl c<=Dg.vl c') (h:∀p:Nat,p< (List.zipWith gi cs b).length->gG (List.zipWith gi cs b) p (Dg.val S)) (h':∀p:Nat,p< (List.zipWith gi cs' b).length->gG (List.zipWith gi cs' b) p (Dg.val S')):∀p:Nat,p<b.length->Dg.val S (p:Int)<=Dg.val S' (p:Int):=by
 have len:(List.zipWith gi cs b).length=b.length:=by rw[aaV];omega
 have IY:(List.zipWith gi cs' b).length=b.length:=by rw[aaV];omega
 intro p hp
 refine A0 B (by omega) (λp q q' e e'=>?_) h (λp hp=>h' p (by omega)) p (by omega)
 obtain⟨c,q,e1,e2,rfl⟩:=uj e
 obtain⟨c',q2,yd,G1,rfl⟩:=uj e'
 rw[e2] at G1
 cases G1
 obtain⟨x0,y0,le⟩:=hc p c c' e1 yd
 have g0:=ok q (aae e2)
 cases q with
 | fin g=>
  refine .fin ?_
  rw[Dg.oj (show 0<g.2 from g0) x0,Dg.oj (show 0<g.2 from g0) y0]
  grind
 | cP g ws=>exact .cP Rat.le_refl
 | bN w to=>exact .bN
theorem F6 {b:List Pl} {rk:Int->Nat} {cs:List Wq.Sh} {S S':Dg.Bk} (B:gX b rk) (lc:cs.length=b.length) (hc:∀c∈cs,0<c.2/\0<=Dg.vl c) (h:∀p:Nat,p<b.length->gG b p (Dg.val S)) (h':∀p:Nat,p< (List.zipWith gi cs b).length->gG (List.zipWith gi cs b) p (Dg.val S')):∀p:Nat,p<b.length->Dg.val S (p:Int)<=Dg.val S' (p:Int):=by
 have IY:(List.zipWith gi cs b).length=b.length:=by rw[aaV];omega
 intro p hp
 refine A0 B IY (λp q q' e e'=>?_) h (λp hp=>h' p (by omega)) p hp
 obtain⟨c,q2,e1,e2,rfl⟩:=uj e'
 rw[e2] at e
 cases e
 obtain⟨x0,le⟩:=hc c (aae e1)
 have g0:=(iu (B.ok q (aae e2))).2.2.1
 cases q with
 | fin g=>
  refine .fin ?_
  rw[Dg.oj (show 0<g.2 from g0) x0]
  grind
 | cP g ws=>exact .cP Rat.le_refl
 | bN w to=>exact .bN
theorem IZ {v:Rat} (p0:0<=v) {k:Int} (k0:0<=k) (k4:k<=4):0<=v* ((k:Rat) / ((4:Int):Rat))/\v* ((k:Rat) / ((4:Int):Rat))<=v:=by
 have e4:((4:Int):Rat)=4:=rfl
 have h0:(0:Rat)<=(k:Rat):=Rat.intCast_nonneg.mpr k0
 have h4:(k:Rat)<=4:=by rw[<-e4];exact Rat.intCast_le_intCast.mpr k4
 rw[e4]
 generalize (k:Rat)=x at *
 have e:v* (x / 4)=v*x / 4:=by grind
 have a:=Rat.mul_nonneg p0 h0
 have b:=Rat.mul_le_mul_of_nonneg_left h4 p0
 rw[e]
 generalize v*x=y at *
 constructor <;>grind
noncomputable def xt:Sp:=λvs H Q _=>∃(a y:Addr) (b:List Pl) (cs:List Wq.Sh),vs=[.ref a,.ref y]/\Rep H (pT b) (.ref a)/\b.length<=8/\Rep H (.lst (cs.map bz)) (.ref y)/\cs.length=b.length/\(∀q∈b,F1 q)/\(∀c∈cs,Rm c)/\∀l H',az H H'->H l=none->Rep H' (pT (List.zipWith gi cs b)) (.ref l)->Q (.ref l) H'
section
variable {P : Program} {w : World} {K : PySem.W.Frag} {mg : Str -> Option Value} {base : Heap}
variable {aB tc tp : Addr}
theorem A4 {H:Hp} {ws:List (Int×Int)} {xs:List V} (rl:bf H (ws.map bz) xs) {i:Nat} {x:V} (ex:xs[i]?=some x):∃p t,ws[i]?=some p/\x=.ref t/\H t=some (.tup [.int p.1,.int p.2]):=by
 obtain⟨d,ed,rd⟩:=rl.get ex
 rw[aag] at ed
 obtain⟨p,ep,rfl⟩:=Option.map_eq_some_iff.mp ed
 obtain⟨t,rfl,ht⟩:=bP.mp rd
 exact⟨p,t,ep,rfl,ht⟩
theorem uk:aN ["place"] ["place"] (ae (top 1)):=⟨rfl,rfl,rfl,by decide +kernel,rfl,by decide +kernel,by decide +kernel⟩
theorem A5 (T:Txt K mg aB tc):bS P w K mg base (bK P w) 1 "goals" ["place"] tR:=by
 refine T.CD.d9 (λ_ _ _ _ _ _=>iC λ_=>rfl) λf fd F=>F.eC uk (λvs H Q E h=>?_) (λcG A outer s H vs Q E hr h=>?_)
 ·obtain⟨_,_,rfl,_⟩:=h;rfl
 ·refine(?_:let G_:Prop:=_;G_)
  intro G_
  obtain⟨v,q,rfl,rq,lq,kk⟩:=h
  dsimp only[G_]
  have nd:=uk.nd
  refine⟨_,(af (bU (aR cQ (aH aK (pv 0) ag (λ_ _=>rfl)) cX (aX _)) (ax (aQ (bW rfl (N:=["place"]) (so:=ae (top 1)) (N':=["weight","to"]) (k:=2) (fr:=[]) rfl rfl ⟨rfl,by decide +kernel,by decide +kernel,by decide +kernel,rfl,by decide +kernel,by decide +kernel⟩ (br (K:=K) (aH aK (pv 0) ag (λ_ _=>rfl))) (λ_ _ _ _ _=>(b8 (K:=K) (n:=2) rfl (aT (aE (i:=0) (show(["weight","to"]:List Str).Nodup by decide +kernel) rfl (Or.inl rfl)) (aT (aE (i:=1) (show(["weight","to"]:List Str).Nodup by decide +kernel) rfl (Or.inl rfl)) bY)))) (λ_ _ _ _ _=>bJ)
   (λ_ _ _ _ _=>(pv 1)))))
   bB)
  (af (bU (aR cQ (aH aK (pv 0) ag (λ_ _=>rfl)) cX (aX _)) (ax (aQ (ia (dM (K:=K)) (by rfl) T.z_list rfl (aa (aH aK (pv 0) ag (λ_ _=>rfl)) ao (se rfl)) (he:=se rfl) (hpl:=na rfl))))
   bB)
  (ax (aQ (cY ao))))),?_⟩
  refine(?_:let cv:TS:=_;let cw:TS:=_;let cy:TS:=_;tSeq cv (tSeq cw cy) _ _ _)
  intro cv cw cy
  cases q with
  | fin w=>
   refine(?_:let G_:Prop:=_;G_)
   intro G_
   obtain⟨p,r,rfl,hp,_⟩:=cM.mp rq
   dsimp only[G_]
   simp_all only[hp]
   rw[if_neg (by decide +kernel),if_neg (by decide +kernel)]
   exact⟨aas _,λl nl=>kk _ _ (au nl) nl ar⟩
  | cP w ws=>
   refine(?_:let G_:Prop:=_;G_)
   intro G_
   obtain⟨p,r,l,xs,rfl,hp,_,hl,rl⟩:=cI.mp rq
   dsimp only[G_]
   simp_all only[hp]
   refine⟨⟨_,bj.of hl⟩,?_⟩
   have lx:=rl.length
   rw[aac] at lx
   have S:Src (vT K l) (az H) ws.length (λi x H H3=>H3=H/\xs[i]?=some x):=by rw[lx];exact src_list (λH' s'=>bj.of (s' _ _ hl))
   refine iX ws (λp=>some p.2) S (λ_ _ _ _ h=>h.1) (by rw[sizeLine_eq];have:ws.length<=100:=(by simpa [Lv.fL] using lq);omega) ?_ ?_
   ·rintro i p x ep ⟨_,ex⟩
    refine(?_:let G_:Prop:=_;G_)
    intro G_
    obtain⟨p',t,BP,rfl,ht⟩:=A4 rl ex
    dsimp only[G_]
    rw[ep] at BP
    cases BP
    refine⟨t,_,_,rfl,d7.of ht,λY N y1 _=>?_⟩
    simp_all only[gQ]
    exact y1 _ rfl
   ·intro D n1 n2
    rw[en]
    exact kk _ _ (au n2) n2 ar
  | bN w to=>
   refine(?_:let G_:Prop:=_;G_)
   intro G_
   obtain⟨p,l,rfl,hp,hl⟩:=cJ.mp rq
   dsimp only[G_]
   simp_all only[hp]
   rw[if_neg (by decide +kernel)]
   exact⟨_,.inl (bj.of hl),λm nm=>kk _ _ (au nm) nm ar⟩
theorem De {fs:Lv.Fs} {q:Pl}:Lv.DS fs q=match q with | .cP _ _=>(Lv.fL q).any (λg=>(Lv.lk fs g).isSome) | _=>(Lv.fL q).all λg=>(Lv.lk fs g).isSome:=by
 cases q <;>rfl
theorem kK:aN ["place","found","levelled"] ["place","found"] (ae (top 2)):=⟨rfl,rfl,rfl,by decide +kernel,rfl,by decide +kernel,by decide +kernel⟩
theorem F7 (T:Txt K mg aB tc):bS P w K mg base (bK P w) 2 "is_ready" ["place","found"] zW:=by
 have rR:bS P w K mg base (bK P w) 1 "goals" ["place"] tR:=A5 T
 refine T.vi.d9 (λ_ _ _ _ _ _=>eA λ_ _=>rfl) λf fd F=>F.eC kK (λvs H Q E h=>?_) (λcG A outer s H vs Q E hr h=>?_)
 ·obtain⟨_,_,_,_,rfl,_⟩:=h;rfl
 ·refine(?_:let G_:Prop:=_;G_)
  intro G_
  obtain⟨v,q,ff,fs,rfl,rq,hf,lq,gq,kk⟩:=h
  dsimp only[G_]
  have nd:=kK.nd
  refine⟨_,(af (eQ (i:=2) rfl nd rfl rfl (N:=["place","found","levelled"]) (so:=ae (top 2)) (N':=["to","found"]) (k:=1) (fr:=[1]) rfl rfl ⟨rfl,by decide +kernel,by decide +kernel,by decide +kernel,rfl,by decide +kernel,by decide +kernel⟩ (br (K:=K) (aG rR (hr.mono (by decide)) rfl aA.pass (aa (pv 0) ao (se rfl)) (he:=se rfl) (hpl:=na rfl))) (λ_ _ _ _ _=>(aE (i:=0) (show(["to","found"]:List Str).Nodup by decide +kernel) rfl (Or.inl rfl))) (λ_ _ _ _ _=>bJ)
   (λ_ _ _ _ _=>(qy BX (aH aJ (pv 1) (pv 0) (λ_ _=>rfl)) fb (aX _))))
  (af (bU (aR cQ (aH aK (pv 0) ag (λ_ _=>rfl)) cX (aX _)) (ax (aQ (aZ (sY (K:=K)) (by rfl) T.z_any rfl (aa (pv 2) ao (se rfl)) (he:=se rfl) (hpl:=na rfl))))
   bB)
  (ax (aQ (aZ (sW (K:=K)) (by rfl) T.z_all rfl (aa (pv 2) ao (se rfl)) (he:=se rfl) (hpl:=na rfl)))))),?_⟩
  refine(?_:let cv:TS:=_;let cw:TS:=_;let cy:TS:=_;tSeq cv (tSeq cw cy) _ _ _)
  intro cv cw cy
  refine(?_:let G_:Prop:=_;G_)
  intro G_
  obtain⟨p,k,r,rfl,hp⟩:=Fb rq
  dsimp only[G_]
  simp_all only[tR]
  refine⟨q,rq,lq,λl H1 s1 nl hl=>⟨⟨_,bj.of hl⟩,?_⟩⟩
  have MX:=s1 _ _ hf
  have Lh:=s1 _ _ hp
  have S:Src (vT K l) (az H1) (Lv.fL q).length (λi x H H3=>H3=H/\(List.map V.int (Lv.fL q))[i]?=some x):=by
   have:=src_list (K:=K) (a:=l) (xs:=List.map V.int (Lv.fL q)) (Ok:=az H1) (λH' s'=>bj.of (s' _ _ hl))
   rw[aac] at this
   exact this
  refine pS (Lv.fL q) (λg=>some (.bl (Lv.lk fs g).isSome)) S (λ_ _ _ _ h=>h.1) (by rw[sizeLine_eq];omega) ?_ ?_
  ·rintro i g x eg ⟨_,ex⟩ Y N y1 _
   rw[aag,eg] at ex
   cases ex
   have:=gq g (aae eg)
   simp_all only[gQ,MX,DW this.1 this.2]
   have:=y1 _ rfl
   rw[show(!decide (gD (Lv.lk fs g)=V.cE))=(Lv.lk fs g).isSome from by cases Lv.lk fs g <;>simp [gD]]
   exact this
  ·intro D n1 n2
   rw[en]
   have XC:List.map (λg=>V.bl (Lv.lk fs g).isSome) (Lv.fL q)=List.map V.bl ((Lv.fL q).map λg=>(Lv.lk fs g).isSome):=by rw[aaO];rfl
   rw[XC]
   have sD:=au (o:=.lst (List.map V.bl ((Lv.fL q).map λg=>(Lv.lk fs g).isSome))) n2
   have fin:=kk _ (s1.trans sD)
   rw[De] at fin
   cases q with
   | fin w=>
    refine(?_:let G_:Prop:=_;G_)
    intro G_
    obtain⟨p',r',e,iH,_⟩:=cM.mp rq
    dsimp only[G_]
    cases e
    have pN:=sD _ _ (s1 _ _ iH)
    simp only[pN,at0]
    refine⟨_,rfl,_,rfl,rfl,?_⟩
    rw[if_neg (by decide +kernel)]
    refine⟨_,bj.of ar,?_⟩
    rw[List.all_map]
    exact fin
   | cP w ws=>
    refine(?_:let G_:Prop:=_;G_)
    intro G_
    obtain⟨p',r',l',xs,e,iH,_⟩:=cI.mp rq
    dsimp only[G_]
    cases e
    have pN:=sD _ _ (s1 _ _ iH)
    simp only[pN,at0]
    refine⟨_,rfl,_,rfl,rfl,?_⟩
    rw[if_pos (by decide +kernel)]
    refine⟨_,bj.of ar,?_⟩
    rw[List.any_map]
    exact fin
   | bN w to=>
    refine(?_:let G_:Prop:=_;G_)
    intro G_
    obtain⟨p',l',e,iH,_⟩:=cJ.mp rq
    dsimp only[G_]
    cases e
    have pN:=sD _ _ (s1 _ _ iH)
    simp only[pN,at0]
    refine⟨_,rfl,_,rfl,rfl,?_⟩
    rw[if_neg (by decide +kernel)]
    refine⟨_,bj.of ar,?_⟩
    rw[List.all_map]
    exact fin
theorem gm:aN ["board","found"] ["board","found"] (ae (top 3)):=⟨rfl,rfl,rfl,by decide +kernel,rfl,by decide +kernel,by decide +kernel⟩
theorem F8 (T:Txt K mg aB tc):bS P w K mg base (bK P w) 3 "ready_places" ["board","found"] wD:=by
 have vJ:bS P w K mg base (bK P w) 2 "is_ready" ["place","found"] zW:=F7 T
 refine T.nS.d9 (λ_ _ _ _ _ _=>eA λ_ _=>rfl) λf fd F=>F.eC gm (λvs H Q E h=>?_) (λcG A outer s H vs Q E hr h=>?_)
 ·obtain⟨_,_,_,_,rfl,_⟩:=h;rfl
 ·refine(?_:let G_:Prop:=_;G_)
  intro G_
  obtain⟨a,b,ff,fs,rfl,rb,hf,lf,lb,gl,gb,kk⟩:=h
  dsimp only[G_]
  have nd:=gm.nd
  refine⟨_,(ax (aQ (bW rfl (N:=["board","found"]) (so:=ae (top 3)) (N':=["number","place","found"]) (k:=2) (fr:=[1]) rfl rfl ⟨rfl,by decide +kernel,by decide +kernel,by decide +kernel,rfl,by decide +kernel,by decide +kernel⟩ (cS (K:=K) rfl T.z_enumerate (aa (pv 0) ao (se rfl))) (λ_ _ _ _ _=>(b8 (K:=K) (n:=2) rfl (aT (aE (i:=0) (show(["number","place","found"]:List Str).Nodup by decide +kernel) rfl (Or.inl rfl)) (aT (aE (i:=1) (show(["number","place","found"]:List Str).Nodup by decide +kernel) rfl (Or.inl rfl)) bY)))) (λ_ _ _ _ _=>(md (PW.pt (pw_and (aR uM (aH aJ (pv 2) (pv 0) (λ_ _=>rfl)) fb (aX _)) (pw_and1 (qv (aG vJ (hr.mono (by decide)) rfl aA.pass (aa (pv 1) (aa (pv 2) ao (se rfl)) (se rfl)) (he:=se rfl) (hpl:=na rfl))))))))
   (λ_ _ _ _ _=>(pv 0))))),?_⟩
  refine(?_:let G_:Prop:=_;G_)
  intro G_
  obtain⟨_,xs,e,ha,rl⟩:=aO.mp rb
  dsimp only[G_]
  cases e
  have lx:=rl.length
  rw[aac] at lx
  simp_all only[]
  refine⟨⟨_,bj.of ha⟩,?_⟩
  have S:Src (Ih K a) (az H) (List.range b.length).length (λi v H H3=>∃p x,H p=none/\v=.ref p/\xs[i]?=some x/\H3=upd H p (.tup [.int i,x])):=by rw[aaA,lx];exact ft (λH' s'=>bj.of (s' _ _ ha))
  refine pU (K:=K) (List.range b.length) (λi=>if Lv.gh b fs i=true then some (eN i) else none) S (λi u v _=>u=.int i/\xs[i]?=some v) ?_ (by rw[aaA,sizeLine_eq];omega) ?_ ?_
  ·intro i x H1 H2 hi s1 dC
   refine(?_:let G_:Prop:=_;G_)
   intro G_
   obtain⟨p,v,np,rfl,ev,rfl⟩:=dC
   dsimp only[G_]
   exact⟨au np,p,_,_,rfl,d7.of ar,rfl,ev⟩
  ·rintro i j u v H3 ej s3 ⟨rfl,ev⟩ Y N y1 n1
   have:j=i:=by
    obtain⟨h1,h2⟩:=List.getElem?_eq_some_iff.mp ej
    rw[List.getElem_range] at h2
    exact h2.symm
   subst this
   refine(?_:let G_:Prop:=_;G_)
   intro G_
   obtain⟨q,eq,rq⟩:=cZ rl ev
   dsimp only[G_]
   have hj:j<b.length:=(List.getElem?_eq_some_iff.mp eq).1
   have BI:=s3 _ _ hf
   have hq:=aae eq
   simp_all only[BI,DW (show(0:Int)<=(j:Int) by omega) (show(j:Int)< (fs.length:Nat) by omega),zW]
   have er:Lv.gh b fs j=((Lv.lk fs (j:Int)).isNone && Lv.DS fs q):=by
    unfold Lv.gh Lv.lk
    rw[eq,aai]
   by_cases c:Lv.lk fs (j:Int)=none
   ·rw[if_pos (nX.mpr c)]
    refine⟨q,rq.mono s3,fs,rfl,gl q hq,λg hg=>?_,λH4 s4=>?_⟩
    ·rw[lf];exact gb.lZ q hq g hg
    ·by_cases c2:Lv.DS fs q=true
     ·rw[if_pos c2]
      exact y1 _ _ (by rw[if_pos (by rw[er,c,c2];rfl)];rfl) s4
     ·rw[if_neg c2]
      exact n1 _ (by rw[if_neg (by rw[er];simp [c2])]) s4
   ·rw[if_neg (λz=>c (nX.mp z))]
    have nr:¬Lv.gh b fs j=true:=by
     rw[er]
     cases h:Lv.lk fs (j:Int) with
     | none=>exact absurd h c
     | some u=>simp
    exact n1 _ (if_neg nr) (az.refl _)
  ·intro H2 s2 D n1 n2
   have e:List.filterMap (λi=>if Lv.gh b fs i=true then some (eN i) else none) (List.range b.length)=List.map eN (Lv.fresh b fs):=dF eN (Lv.gh b fs) _
   rw[e]
   exact kk _ _ (s2.trans (au n2)) (none_of s2 n2) ar
theorem qq:aN ["board","found","level","fresh","number"] ["board"] (ae (top 4)):=⟨rfl,rfl,rfl,by decide +kernel,rfl,by decide +kernel,by decide +kernel⟩
theorem F9 (T:Txt K mg aB tc):bS P w K mg base (bK P w) 4 "levels" ["board"] zX:=by
 have g5:bS P w K mg base (bK P w) 3 "ready_places" ["board","found"] wD:=F8 T
 refine T.zU.d9 (λ_ _ _ _ _ _=>iC λ_=>rfl) λf fd F=>F.eC qq (λvs H Q E h=>?_) (λcG A outer s H vs Q E hr h=>?_)
 ·obtain⟨_,_,rfl,_⟩:=h;rfl
 ·refine(?_:let G_:Prop:=_;G_)
  intro G_
  obtain⟨a,b,rfl,rb,lb,gl,gb,kk⟩:=h
  dsimp only[G_]
  have nd:=qq.nd
  refine⟨_,(af (eQ (i:=1) rfl nd rfl rfl (N:=["board","found","level","fresh","number"]) (so:=ae (top 4)) (N':=["place"]) (k:=1) (fr:=[]) rfl rfl ⟨rfl,by decide +kernel,by decide +kernel,by decide +kernel,rfl,by decide +kernel,by decide +kernel⟩ (br (K:=K) (pv 0)) (λ_ _ _ _ _=>(aE (i:=0) (show(["place"]:List Str).Nodup by decide +kernel) rfl (Or.inl rfl))) (λ_ _ _ _ _=>bJ)
   (λ_ _ _ _ _=>(gJ (aR cQ (aH aK (pv 0) ag (λ_ _=>rfl)) cX (aX _)) ag fb)))
  (af (aF (i:=2) nd rfl (Or.inl rfl) ag)
  (af (aF (i:=3) nd rfl (Or.inl rfl) (aG g5 (hr.mono (by decide)) rfl aA.pass (aa (pv 0) (aa (pv 1) ao (se rfl)) (se rfl)) (he:=se rfl) (hpl:=na rfl)))
  (af (gK PassesOwn.never (aR kA (aZ bD (by rfl) T.z_len aaB (aa (pv 3) ao (se rfl)) (he:=se rfl) (hpl:=na rfl)) ag (aX _)) (af (cf PassesOwn.never rfl (br (K:=K) (pv 3)) (aE (i:=4) nd rfl (Or.inl rfl)) (ax (dU (pv 2) (fc (pv 1) (pv 4) set_list))))
  (af (aF (i:=2) nd rfl (Or.inl rfl) (aD bo (pv 2) ag))
  (ax (aF (i:=3) nd rfl (Or.inl rfl) (aG g5 (hr.mono (by decide)) rfl aA.pass (aa (pv 0) (aa (pv 1) ao (se rfl)) (se rfl)) (he:=se rfl) (hpl:=na rfl)))))))
  (ax (aQ (pv 1))))))),?_⟩
  refine(?_:let cv:TS:=_;let cw:TS:=_;let cy:TS:=_;let dR:TS:=_;let jG:TS:=_;tSeq cv (tSeq cw (tSeq cy (tSeq dR jG))) _ _ _)
  intro cv cw cy dR jG
  refine(?_:let G_:Prop:=_;G_)
  intro G_
  obtain⟨_,xs,e,ha,rl⟩:=aO.mp rb
  dsimp only[G_]
  cases e
  have lx:=rl.length
  rw[aac] at lx
  simp_all only[wD]
  refine⟨⟨_,bj.of ha⟩,?_⟩
  have S:Src (vT K a) (az H) b.length (λi x H H3=>H3=H/\xs[i]?=some x):=by rw[lx];exact src_list (λH' s'=>bj.of (s' _ _ ha))
  refine pS b (λq=>some (gD (Lv.Im q))) S (λ_ _ _ _ h=>h.1) (by rw[sizeLine_eq];omega) ?_ ?_
  ·rintro i q x eq ⟨_,ex⟩ Y N y1 _
   refine(?_:let G_:Prop:=_;G_)
   intro G_
   obtain⟨q',UU,rq⟩:=cZ rl ex
   dsimp only[G_]
   rw[eq] at UU
   cases UU
   have:=y1 _ rfl
   cases q with
   | fin w=>
    refine(?_:let G_:Prop:=_;G_)
    intro G_
    obtain⟨p,r,rfl,hp,_⟩:=cM.mp rq
    dsimp only[G_]
    simp_all only[gQ,hp]
    exact this
   | cP w ws=>
    refine(?_:let G_:Prop:=_;G_)
    intro G_
    obtain⟨p,r,l',ys,rfl,hp,_⟩:=cI.mp rq
    dsimp only[G_]
    simp_all only[gQ,hp]
    rw[if_neg (by decide +kernel)]
    exact this
   | bN w to=>
    refine(?_:let G_:Prop:=_;G_)
    intro G_
    obtain⟨p,l',rfl,hp,_⟩:=cJ.mp rq
    dsimp only[G_]
    simp_all only[gQ,hp]
    rw[if_neg (by decide +kernel)]
    exact this
  ·intro ff n1 n2
   rw[en,show List.map (λq=>gD (Lv.Im q)) b=List.map gD (Lv.oR b) from by unfold Lv.oR;rw[aaO];rfl]
   have sD:=au (o:=.lst (List.map gD (Lv.oR b))) n2
   refine⟨b,rb.mono sD,Lv.oR b,ar,by simp [Lv.oR],lb,gl,gb,λfr H1 s1 nf HY=>?_⟩
   have XD:H1 ff=some (.lst (List.map gD (Lv.oR b))):=s1 _ _ ar
   have sH:=sD.trans s1
   refine tj (Xs H b a ff) (m:=b.length) ⟨_,_,_,_,rfl,XD,HY,(λz=>by rw[z,ar] at nf;cases nf),sH,by simp [Lv.oR],by have:=Lv.nG (Lv.oR b);simpa [Lv.oR] using this,rfl⟩ ?_ ?_
   ·intro m σ H2 I0
    refine(?_:let G_:Prop:=_;G_)
    intro G_
    obtain⟨fs,L,fr,z,rfl,hf,uC,ne,s2,lf,nm,er⟩:=I0
    dsimp only[G_]
    simp_all only[]
    refine⟨_,uC,?_⟩
    by_cases c:Lv.fresh b fs=[]
    ·rw[c,if_neg (by simp)]
     have:Lv.run b m fs L=fs:=by
      cases m with
      | zero=>rfl
      | succ m=>
       show(if Lv.fresh b fs=[] then fs else _)=fs
       rw[if_pos c]
     rw[this] at er
     subst er
     exact kk _ _ s2 n2 hf
    ·have l0:(0:Int)< ((List.map eN (Lv.fresh b fs)).length:Nat):=by
      rw[aac]
      have:=List.length_pos_iff.mpr c
      omega
     rw[if_pos l0]
     have lfr:(Lv.fresh b fs).length<=1000:=by
      have:(Lv.fresh b fs).length<=b.length:=by
       have:=List.length_filter_le (Lv.gh b fs) (List.range b.length)
       rwa [aaA] at this
      omega
     refine⟨⟨_,bj.of uC⟩,bL (src_list (Ok:=λH'=>H' fr=some (.lst (List.map eN (Lv.fresh b fs)))) (λH' e=>bj.of e))
      (λj σ H'=>H' fr=some (.lst (List.map eN (Lv.fresh b fs)))/\H' ff=some (.lst (List.map gD (Lv.cN fs ((Lv.fresh b fs).take j) L)))/\az H H'/\∃z,σ=[some (V.ref a),some (V.ref ff),some (V.int L),some (V.ref fr),z])
      ⟨uC,by rw[List.take_zero];exact hf,s2,_,rfl⟩ (λ_ _ _ _ h=>h.1) ?_ ?_⟩
     ·intro j x σ H3 H4 hj dC dI
      refine(?_:let G_:Prop:=_;G_)
      intro G_
      obtain⟨h3,f3,s3,z,rfl⟩:=dC
      obtain⟨rfl,hx⟩:=dI
      rw[aag] at hx
      obtain⟨i,ei,rfl⟩:=Option.map_eq_some_iff.mp hx
      dsimp only[G_]
      have hi:=(Lv.ie.mp (aae ei)).1
      simp_all only[gSub,rSetL,eN]
      have ix:xT (List.map gD (Lv.cN fs ((Lv.fresh b fs).take j) L)).length (i:Int)=some i:=by
       unfold xT
       rw[if_pos (by omega),aac,Lv.ml,if_pos (by omega)]
       congr 1
      refine⟨_,f3,i,ix,by rw[aI ne];exact h3,?_,ba s3 n2,_,rfl⟩
      rw[ar,aaE,ei]
      show some (HO.lst ((List.map gD _).set i (gD (some L))))=_
      rw[<-List.map_set]
      congr 3
      unfold Lv.cN
      rw[List.foldl_append]
      rfl
     ·intro σ H3 bH
      refine(?_:let G_:Prop:=_;G_)
      intro G_
      obtain⟨h3,f3,s3,z,rfl⟩:=bH
      dsimp only[G_]
      rw[aac,aaJ (aah _)] at f3
      simp_all only[wD]
      refine⟨b,rb.mono s3,_,f3,by rw[Lv.ml];exact lf,lb,gl,gb,λfr2 H4 s4 n4 h4=>?_⟩
      have lt:=Lv.j1 lf c L
      cases m with
      | zero=>omega
      | succ m=>
       refine⟨m,aaK _,_,_,_,_,rfl,s4 _ _ f3,h4,(λz=>by rw[z,f3] at n4;cases n4),s3.trans s4,by rw[Lv.ml];exact lf,by omega,?_⟩
       rw[<-er]
       show _=(if Lv.fresh b fs=[] then fs else _)
       rw[if_neg c]
   ·intro σ H1 Q1 Q2 hq hc
    simp only[L2.start,Pr,tRev,tD1,tDPop1,tSl,tNoPart,tPart,rSlL,tDIn,tDNotIn,gSub,rSetL,tLst,tDNewK,tComp,L2.stC,tFor_eq,iList,iTup,iRng1,iRng2,iZip,iEnum,iDict,iStr,tChain,tSumV,tBM,rJoin,tJoined,jNil,jLit,jInt,jStr,tRaise,tDGet,tDGet2,tDGet1,sDPut,Option.join_some,List.getElem?_nil,tSeq,tRet,tRetN,tIfS,tTest,tB,tOp,tUn,tVar,tC,tCB,tCons,tNil,tCall,tTupS,tAsg,gName,gNil,gCons,tPar,tNext,tDrop,tAnd,tOr,tNot,tAndV,tOrV,tNotV,tIf,rI,rI0,rU,rIxTH,rIxLH,rEqT,rNeT,rInT,rEq,rNe,scal_ss,scal_ii,scal_bb,scal_si,scal_is,CPow,at0,at1,at2,aat,aa0,aar,abe,Nat.reduceSub,Nat.reduceAdd,aa1,abx,List.reduceReplicate,aa6,List.nil_append,abr,abt,abk,abg,abh,abu,exists_eq_left',exists_eq_left,V.ref.injEq,V.int.injEq,V.bl.injEq,V.str.injEq,V.ty.injEq,HO.tup.injEq,HO.lst.injEq,List.cons.injEq,and_true,true_and,and_assoc,exists_and_left,decide_eq_true_eq,Bool.not_eq_true',decide_eq_false_iff_not,ite_true,ite_false,if_true,if_false,Int.reduceToNat,eq_self_iff_true] at hc ⊢
    refine(?_:let G_:Prop:=_;G_)
    intro G_
    obtain⟨v,e1,ys,e2,xs,e3,q⟩:=hc
    dsimp only[G_]
    exact⟨v,e1,ys,e2,xs,e3,hq _ _ q⟩
theorem xu:aN ["board"] ["board"] (ae (top 5)):=⟨rfl,rfl,rfl,by decide +kernel,rfl,by decide +kernel,by decide +kernel⟩
theorem Dh (T:Txt K mg aB tc):bS P w K mg base (bK P w) 5 "ring" ["board"] vo:=by
 have A6:bS P w K mg base (bK P w) 4 "levels" ["board"] zX:=F9 T
 refine T.Fq.d9 (λ_ _ _ _ _ _=>iC λ_=>rfl) λf fd F=>F.eC xu (λvs H Q E h=>?_) (λcG A outer s H vs Q E hr h=>?_)
 ·obtain⟨_,_,rfl,_⟩:=h;rfl
 ·refine(?_:let G_:Prop:=_;G_)
  intro G_
  obtain⟨a,b,rfl,rb,B,kk⟩:=h
  dsimp only[G_]
  have nd:=xu.nd
  refine⟨_,(ax (aQ (bW rfl (N:=["board"]) (so:=ae (top 5)) (N':=["number","level"]) (k:=2) (fr:=[]) rfl rfl ⟨rfl,by decide +kernel,by decide +kernel,by decide +kernel,rfl,by decide +kernel,by decide +kernel⟩ (cS (K:=K) rfl T.z_enumerate (aa (aG A6 (hr.mono (by decide)) rfl aA.pass (aa (pv 0) ao (se rfl)) (he:=se rfl) (hpl:=na rfl)) ao (se rfl))) (λ_ _ _ _ _=>(b8 (K:=K) (n:=2) rfl (aT (aE (i:=0) (show(["number","level"]:List Str).Nodup by decide +kernel) rfl (Or.inl rfl)) (aT (aE (i:=1) (show(["number","level"]:List Str).Nodup by decide +kernel) rfl (Or.inl rfl)) bY)))) (λ_ _ _ _ _=>(md (aR uM (pv 1) fb (aX _))))
   (λ_ _ _ _ _=>(pv 0))))),?_⟩
  simp_all only[zX]
  refine⟨b,rb,B.len,B.sS,B.good,λf1 H1 s1 nf hf=>⟨⟨_,bj.of hf⟩,?_⟩⟩
  have ll:=Lv.Cu B.good
  have bl:=B.len
  have S:Src (Ih K f1) (az H1) (List.range b.length).length (λi v H H3=>∃p x,H p=none/\v=.ref p/\(List.map gD (Lv.tu b))[i]?=some x/\H3=upd H p (.tup [.int i,x])):=by
   have:=ft (K:=K) (a:=f1) (xs:=List.map gD (Lv.tu b)) (Ok:=az H1) (λH' s'=>bj.of (s' _ _ hf))
   rw[aac,ll] at this
   rw[aaA]
   exact this
  refine pU (K:=K) (List.range b.length) (λi=>if (Lv.lk (Lv.tu b) (i:Int)).isNone=true then some (eN i) else none) S (λi u v _=>u=.int i/\v=gD (Lv.lk (Lv.tu b) (i:Int))) ?_ (by rw[aaA,sizeLine_eq];omega) ?_ ?_
  ·intro i x H2 H3 hi s2 dC
   refine(?_:let G_:Prop:=_;G_)
   intro G_
   obtain⟨p,v,np,rfl,ev,rfl⟩:=dC
   dsimp only[G_]
   refine⟨au np,p,_,_,rfl,d7.of ar,rfl,?_⟩
   rw[aag] at ev
   refine(?_:let G_:Prop:=_;G_)
   intro G_
   obtain⟨o,eo,rfl⟩:=Option.map_eq_some_iff.mp ev
   dsimp only[G_]
   unfold Lv.lk
   rw[aai,aaf,eo]
   rfl
  ·rintro i j u v H3 ej s3 ⟨rfl,rfl⟩ Y N y1 n1
   have:j=i:=by
    obtain⟨h1,h2⟩:=List.getElem?_eq_some_iff.mp ej
    rw[List.getElem_range] at h2
    exact h2.symm
   subst this
   simp_all only[]
   cases h:Lv.lk (Lv.tu b) (j:Int) with
   | none=>
    rw[if_pos (nX.mpr rfl)]
    exact y1 _ _ (by rw[h];rfl) (az.refl _)
   | some x=>
    rw[if_neg (by simp [gD])]
    exact n1 _ (by rw[h];rfl) (az.refl _)
  ·intro H2 s2 D n1 n2
   have e:List.filterMap (fun(i:Nat)=>if (Lv.lk (Lv.tu b) (i:Int)).isNone=true then some (eN i) else none) (List.range b.length)=List.map eN (nY b):=dF eN (fun(i:Nat)=>(Lv.lk (Lv.tu b) (i:Int)).isNone) _
   rw[e]
   exact kk _ _ (s1.trans (s2.trans (au n2))) (none_of (s1.trans s2) n2) ar
theorem iI:aN ["board","start","steps","found","turn","here","way","to"] ["board","start"] (ae (top 22)):=⟨rfl,rfl,rfl,by decide +kernel,rfl,by decide +kernel,by decide +kernel⟩
theorem Ga (T:Txt K mg aB tc):bS P w K mg base (bK P w) 2 "steps_from" ["board","start"] wF:=by
 have rR:bS P w K mg base (bK P w) 1 "goals" ["place"] tR:=A5 T
 refine T.qU.d9 (λ_ _ _ _ _ _=>eA λ_ _=>rfl) λf fd F=>F.eC iI (λvs H Q E h=>?_) (λcG A outer s H vs Q E hr h=>?_)
 ·obtain⟨_,_,_,rfl,_⟩:=h;rfl
 ·refine(?_:let G_:Prop:=_;G_)
  intro G_
  obtain⟨a,b,st,rfl,rb,lb,sS,gb,h0,h1,kk⟩:=h
  dsimp only[G_]
  clear G_
  have nd:=iI.nd
  refine⟨_,(af (aF (i:=2) nd rfl (Or.inl rfl) (Io (pv 1) fb))
  (af (aF (i:=3) nd rfl (Or.inl rfl) (cY (aa (pv 1) ao (se rfl))))
  (af (aF (i:=4) nd rfl (Or.inl rfl) ag)
  (af (gK PassesOwn.never (aR mR (pv 4) (aZ bD (by rfl) T.z_len aaB (aa (pv 3) ao (se rfl)) (he:=se rfl) (hpl:=na rfl)) (aX _)) (af (aF (i:=5) nd rfl (Or.inl rfl) (aH aJ (pv 3) (pv 4) (λ_ _=>rfl)))
  (af (cf PassesOwn.never rfl (cS (K:=K) rfl T.z_enumerate (aa (aG rR (hr.mono (by decide)) rfl aA.pass (aa (aH aJ (pv 0) (pv 5) (λ_ _=>rfl)) ao (se rfl)) (he:=se rfl) (hpl:=na rfl)) ao (se rfl))) (b8 (K:=K) (n:=2) rfl (aT (aE (i:=6) nd rfl (Or.inl rfl)) (aT (aE (i:=7) nd rfl (Or.inl rfl)) bY))) (ax (bU (uG (xW (pP hr) (pv 7) (pv 2))) (af (v7 (pP hr) (pv 2) (pv 7) (bV (aa (pv 5) (aa (pv 6) ao (se rfl)) (se rfl))) rfl)
  (ax (c7 (eF aaP aa9 aba cB.r (pv 3) (aa (pv 7) ao (se rfl))))))
   bB)))
  (ax (aF (i:=4) nd rfl (Or.inl rfl) (aD bo (pv 4) ag))))))
  (ax (aQ (pv 2))))))),?_⟩
  refine(?_:let cv:TS:=_;let cw:TS:=_;let cy:TS:=_;let dR:TS:=_;let jG:TS:=_;tSeq cv (tSeq cw (tSeq cy (tSeq dR jG))) _ _ _)
  intro cv cw cy dR jG
  refine(?_:let G_:Prop:=_;G_)
  intro G_
  obtain⟨_,xs,e,ha,rl⟩:=aO.mp rb
  dsimp only[G_]
  clear G_
  cases e
  have lx:=rl.length
  rw[aac] at lx
  simp_all only[]
  intro d MY
  refine⟨Sum.inl st,rfl,ar,by decide,λf1 nf=>?_⟩
  have XF:upd (upd H d (.dK [])) d (.dK [(Sum.inl st,V.cE)])=upd H d (.dK [(Sum.inl st,V.cE)]):=BL
  rw[XF] at nf ⊢
  have sd:=au (o:=.dK [(Sum.inl st,V.cE)]) MY
  have sf:=au (o:=.lst [V.int st]) nf
  have UW:f1≠d:=λz=>by rw[z,ar] at nf;cases nf
  have XG:H f1=none:=none_of sd nf
  have D0:fz (upd (upd H d (.dK [(Sum.inl st,V.cE)])) f1 (.lst [V.int st])) d [(st,none,[])]:=by
   refine⟨_,sf _ _ ar,rfl,λi e he=>?_⟩
   match i,he with
   | 0,he=>cases he;exact⟨_,rfl,rfl⟩
  have MX:(upd (upd H d (.dK [(Sum.inl st,V.cE)])) f1 (.lst [V.int st])) f1=some (.lst [V.int st]):=ar
  have sH:=sd.trans sf
  generalize upd (upd H d (.dK [(Sum.inl st,V.cE)])) f1 (.lst [V.int st])=H1 at *
  refine tj (Xu H b a d f1 st) (m:=b.length+1) ⟨0,[(st,none,[])],_,_,_,rfl,D0,MX,sH,Bf.zA h0 h1,rfl,by omega⟩ ?_ ?_
  ·intro m σ H2 I0
   refine(?_:let G_:Prop:=_;G_)
   intro G_
   obtain⟨t,es,z5,z6,z7,rfl,dr,hf,s2,I,eb,lt⟩:=I0
   dsimp only[G_]
   clear G_
   have lk:(Bf.keys es).length=es.length:=by unfold Bf.keys;rw[aac]
   have fw:=I.toCore.sS
   simp_all only[]
   refine⟨_,hf,?_⟩
   rw[aac,lk]
   by_cases c:t<es.length
   ·rw[if_pos (by omega)]
    have et:es[t]?=some es[t]:=aad c
    generalize es[t]=e at et
    have rg:=I.lZ e (aae et)
    have ee:((e.1.toNat:Nat):Int)=e.1:=Int.toNat_of_nonneg rg.1
    have hb:e.1.toNat<b.length:=by omega
    have UX:b[e.1.toNat]?=some b[e.1.toNat]:=aad hb
    refine(?_:let G_:Prop:=_;G_)
    intro G_
    obtain⟨v,ev,rv⟩:=fx rl UX
    dsimp only[G_]
    clear G_
    have hq:=aao hb
    generalize b[e.1.toNat]=q at *
    have ga:Bf.fj b e.1=Lv.fL q:=by unfold Bf.fj;rw[UX]
    have av:fK xs e.1=some v:=by rw[<-ee];exact bC ev
    have ak:fK (List.map V.int (Bf.keys es)) (t:Int)=some (V.int e.1):=nE (by unfold Bf.keys;rw[aag,et];rfl)
    simp only[hf,ak,s2 _ _ ha,av,abu,HO.lst.injEq,exists_eq_left',V.int.injEq,V.ref.injEq,tR]
    refine⟨v,q,rfl,rv.mono s2,sS q hq,λl H3 s3 nl hl=>⟨⟨_,bj.of hl⟩,?_⟩⟩
    have XH:=dr.mono s3
    have BI:=s3 _ _ hf
    have XI:l≠d:=λz=>by
     refine(?_:let G_:Prop:=_;G_)
     intro G_
     obtain⟨kvs,hd,_⟩:=dr.ex
     dsimp only[G_]
     rw[z,hd] at nl;cases nl
    have Ja:l≠f1:=λz=>by rw[z,hf] at nl;cases nl
    refine bL (ft (Ok:=λH'=>H' l=some (.lst (List.map V.int (Lv.fL q)))) (λH' e=>bj.of e)) (Xv H a d f1 l st t e (Lv.fL q) es) ⟨⟨_,_,rfl⟩,XH,BI,hl,s2.trans s3⟩ (λ_ _ _ _ h=>h.hl) ?_ ?_
    ·intro i x σ H4 H5 hi dC dI
     refine(?_:let G_:Prop:=_;G_)
     intro G_
     obtain⟨⟨z6,z7,rfl⟩,Li,Di,xv,s4⟩:=dC
     obtain⟨p,y,np,rfl,ey,rfl⟩:=dI
     rw[aac] at hi
     rw[aag] at ey
     obtain⟨g,eg,rfl⟩:=Option.map_eq_some_iff.mp ey
     dsimp only[G_]
     clear G_
     have s5:=au (o:=.tup [.int i,.int g]) np
     refine⟨p,_,rfl,d7.of ar,rfl,?_⟩
     have MZ:=Li.mono s5
     have UY:=s5 _ _ Di
     have Jb:=s5 _ _ xv
     have UZ:=s4.trans s5
     generalize upd H4 p (.tup [.int i,.int g])=H5 at *
     have M:=Bf.nH gb ((Lv.fL q).take i) 0 es (Bf.zC I et) λj x hx=>by
      rw[aa1,ga]
      have hj:=(List.getElem?_eq_some_iff.mp hx).1
      rw[aaX] at hj
      rwa [List.getElem?_take_of_lt (by omega)] at hx
     have tk:(Lv.fL q).take (i+1)=(Lv.fL q).take i++ [g]:=by rw[aaE,eg];rfl
     have XJ:((Lv.fL q).take i).length=i:=by rw[aaX];omega
     have nx:=qb (here:=e.1) (path:=e.2.2) ((Lv.fL q).take i) 0 es g
     rw[<-tk,XJ,aa1] at nx
     have XM:=M.toCore.sS
     generalize Bf.fV e.1 e.2.2 0 ((Lv.fL q).take i) es=ei at *
     refine(?_:let G_:Prop:=_;G_)
     intro G_
     obtain⟨o,go,ho⟩:=MZ.has M.nd g
     dsimp only[G_]
     simp_all only[]
     refine⟨o,go,?_⟩
     rw[ho]
     by_cases cg:g∈Bf.keys ei
     ·rw[if_neg (by simpa using cg)]
      rw[if_pos cg] at nx
      exact⟨⟨_,_,rfl⟩,by rw[nx];exact MZ,by rw[nx];exact UY,Jb,UZ⟩
     ·rw[if_pos (by simpa using cg)]
      rw[if_neg cg] at nx
      refine⟨by decide,λp6 H6 s6 np6 e6=>?_⟩
      obtain⟨o7,pt,XN⟩:=(MZ.mono s6).put (par:=some (e.1,i)) (path:=e.2.2++ [i]) cg ⟨p6,rfl,e6⟩ (by rw[sizeLine_eq];omega)
      have Jc:=s6 _ _ UY
      have Dj:=s6 _ _ Jb
      have M3:upd H6 d o7 f1=some (.lst (List.map V.int (Bf.keys ei))):=by rw[aI UW];exact Jc
      have lke:(Bf.keys ei).length=ei.length:=by unfold Bf.keys;rw[aac]
      refine⟨_,pt,.inl ⟨rfl,_,bj.of M3⟩,f1,_,_,rfl,rfl,M3,by rw[aac,sizeLine_eq];omega,?_⟩
      have sF:az H (upd (upd H6 d o7) f1 (.lst (List.map V.int (Bf.keys ei)++ [V.int g]))):=ba (ba (UZ.trans s6) MY) XG
      refine⟨⟨_,_,rfl⟩,?_,?_,?_,sF⟩
      ·rw[nx]
       refine(?_:let G_:Prop:=_;G_)
       intro G_
       obtain⟨kvs,k1,k2,k3⟩:=XN.ex
       dsimp only[G_]
       refine⟨kvs,by rw[aI (Ne.symm UW)];exact k1,k2,λj x hx=>?_⟩
       refine(?_:let G_:Prop:=_;G_)
       intro G_
       obtain⟨v,v1,v2⟩:=k3 j x hx
       dsimp only[G_]
       exact⟨v,v1,v2.upd λys z=>by rw[M3] at z;cases z⟩
      ·rw[nx,ar]
       unfold Bf.keys
       rw[aax,aax]
       rfl
      ·rw[aI Ja,aI XI]
       exact Dj
    ·intro σ H4 bH
     refine(?_:let G_:Prop:=_;G_)
     intro G_
     obtain⟨⟨z6,z7,rfl⟩,Li,Di,xv,s4⟩:=bH
     dsimp only[G_]
     rw[aac,aaJ (aah _),<-ga] at Li Di
     simp_all only[]
     cases m with
     | zero=>omega
     | succ m=>
      refine⟨m,aaK _,⟨t+1,_,_,_,_,rfl,Li,Di,s4,Bf.turn gb I et,?_,by omega⟩⟩
      rw[<-eb]
      show _=(match es[t]? with | none=>es | some e=>Bf.BD b m (t+1) (Bf.fV e.1 e.2.2 0 (Bf.fj b e.1) es))
      rw[et]
   ·rw[if_neg (by omega)]
    have:Bf.BD b m t es=es:=by
     cases m with
     | zero=>rfl
     | succ m=>
      show(match es[t]? with | none=>es | some e=>Bf.BD b m (t+1) (Bf.fV e.1 e.2.2 0 (Bf.fj b e.1) es))=es
      rw[aaq (by omega)]
    rw[this] at eb
    subst eb
    exact kk _ _ s2 MY dr
  ·intro σ H1 Q1 Q2 hq hc
   simp only[L2.start,Pr,tRev,tD1,tDPop1,tSl,tNoPart,tPart,rSlL,tDIn,tDNotIn,gSub,rSetL,tLst,tDNewK,tComp,L2.stC,tFor_eq,iList,iTup,iRng1,iRng2,iZip,iEnum,iDict,iStr,tChain,tSumV,tBM,rJoin,tJoined,jNil,jLit,jInt,jStr,tRaise,tDGet,tDGet2,tDGet1,sDPut,Option.join_some,List.getElem?_nil,tSeq,tRet,tRetN,tIfS,tTest,tB,tOp,tUn,tVar,tC,tCB,tCons,tNil,tCall,tTupS,tAsg,gName,gNil,gCons,tPar,tNext,tDrop,tAnd,tOr,tNot,tAndV,tOrV,tNotV,tIf,rI,rI0,rU,rIxTH,rIxLH,rEqT,rNeT,rInT,rEq,rNe,scal_ss,scal_ii,scal_bb,scal_si,scal_is,CPow,at0,at1,at2,aat,aa0,aar,abe,Nat.reduceSub,Nat.reduceAdd,aa1,abx,List.reduceReplicate,aa6,List.nil_append,abr,abt,abk,abg,abh,abu,exists_eq_left',exists_eq_left,V.ref.injEq,V.int.injEq,V.bl.injEq,V.str.injEq,V.ty.injEq,HO.tup.injEq,HO.lst.injEq,List.cons.injEq,and_true,true_and,and_assoc,exists_and_left,decide_eq_true_eq,Bool.not_eq_true',decide_eq_false_iff_not,ite_true,ite_false,if_true,if_false,Int.reduceToNat,eq_self_iff_true] at hc ⊢
   refine(?_:let G_:Prop:=_;G_)
   intro G_
   obtain⟨v,e1,v1,e2,p,e3,x,e4,i,e5,q⟩:=hc
   dsimp only[G_]
   exact⟨v,e1,v1,e2,p,e3,x,e4,i,e5,hq _ _ q⟩
theorem xx (p:Int->Bool):∀l:List Int,l.filterMap (λo=>if p o=true then some o else none)=l.filter p
 | []=>rfl
 | x::l=>by
  rw[List.filterMap_cons,List.filter_cons,xx p l]
  by_cases c:p x=true
  ·simp [c]
  ·simp [c]
noncomputable def oF (H:Hp) (x:Addr):Int:=match H x with
 | some (.lst (.int j::_))=>j
 | _=>0
noncomputable def A7 (tp:Addr):Sp:=λvs H Q _=>∃a b,vs=[.ref a]/\Rep H (pT b) (.ref a)/\b.length<=63/\(∀q∈b,(Lv.fL q).length<=100)/\Lv.Good b/\H tp=some (.rZ dsc)/\
 ∀l ps as H',Pr.Told b ps->az H H'->H l=none->H' l=some (.lst (List.map V.ref as))->Al (λp v=>∃x,v=.ref x/\H' x=some (.lst (List.map V.int (Pr.dc b p)))/\H x=none) ps (as.map V.ref)->Q (.ref l) H'
theorem um:aN ["board","reach","found","place","part"] ["board"] (ae (top 23)):=⟨rfl,rfl,rfl,by decide +kernel,rfl,by decide +kernel,by decide +kernel⟩
theorem Gb (T:Txt K mg aB tc) (LB:oY base mg tc tp):bS P w K mg base (bK P w) 3 "parts" ["board"] (A7 tp):=by
 have rS:bS P w K mg base (bK P w) 2 "steps_from" ["board","start"] wF:=Ga T
 refine T.CH.MK T.CJ (λ_ _ _ _ _ _=>iC λ_=>rfl) λf fd F hc=>F.Xo hc um (λvs H Q E h=>?_) (λA outer s H vs Q E hr h=>?_)
 ·obtain⟨_,_,rfl,_⟩:=h;rfl
 ·refine(?_:let G_:Prop:=_;G_)
  intro G_
  obtain⟨a,b,rfl,rb,lb,sS,gb,kZ,kk⟩:=h
  dsimp only[G_]
  clear G_
  have nd:=um.nd
  refine⟨_,(af (aF (i:=1) nd rfl (Or.inr rfl) (bW rfl (N:=["board","reach","found","place","part"]) (so:=ae (top 23)) (N':=["start","board"]) (k:=1) (fr:=[0]) rfl rfl ⟨rfl,by decide +kernel,by decide +kernel,by decide +kernel,rfl,by decide +kernel,by decide +kernel⟩ (cR rfl T.z_range (aa (aZ bD (by rfl) T.z_len aaB (aa (pv 0) ao (se rfl)) (he:=se rfl) (hpl:=na rfl)) ao (se rfl))) (λ_ _ _ _ _=>(aE (i:=0) (show(["start","board"]:List Str).Nodup by decide +kernel) rfl (Or.inl rfl))) (λ_ _ _ _ _=>bJ)
   (λ_ _ _ _ _=>(aG rS (hr.mono (by decide)) rfl aA.pass (aa (pv 1) (aa (pv 0) ao (se rfl)) (se rfl)) (he:=se rfl) (hpl:=na rfl)))))
  (af (aF (i:=2) nd rfl (Or.inl rfl) (cY ao))
  (af (cf PassesOwn.never rfl (cR rfl T.z_range (aa (aZ bD (by rfl) T.z_len aaB (aa (pv 0) ao (se rfl)) (he:=se rfl) (hpl:=na rfl)) ao (se rfl))) (aE (i:=3) nd rfl (Or.inr rfl)) (af (eQ (i:=4) rfl nd rfl rfl (N:=["board","reach","found","place","part"]) (so:=ae (top 23)) (N':=["other","reach","place"]) (k:=1) (fr:=[1,3]) rfl rfl ⟨rfl,by decide +kernel,by decide +kernel,by decide +kernel,rfl,by decide +kernel,by decide +kernel⟩ (br (K:=K) (aZ nj (by rfl) T.z_sorted rfl (aa (aH aJ (pv 1) (pv 3) (λ_ _=>rfl)) ao (se rfl)) (he:=se rfl) (hpl:=na rfl))) (λ_ _ _ _ _=>(aE (i:=0) (show(["other","reach","place"]:List Str).Nodup by decide +kernel) rfl (Or.inl rfl))) (λ_ _ _ _ _=>(md (uG (za (pP hr) (pv 2) (aH aJ (pv 1) (pv 0) (λ_ _=>rfl))))))
   (λ_ _ _ _ _=>(pv 0)))
  (ax (bU (aR cQ (aH aJ (pv 4) ag (λ_ _=>rfl)) (pv 3) (aX _)) (ax (c7 (eF aaP aa9 aba cB.r (pv 2) (aa (pv 4) ao (se rfl)))))
   bB))))
  (ax (aQ (zQ (i:=1) (dsc:=dsc) (t0:=0) rfl T.z_sorted T.z_len LB rfl hr rfl (pv 2))))))),?_⟩
  refine(?_:let cv:TS:=_;let cw:TS:=_;let cy:TS:=_;let dR:TS:=_;tSeq cv (tSeq cw (tSeq cy dR)) _ _ _)
  intro cv cw cy dR
  have sl:=sizeLine_eq
  refine(?_:let G_:Prop:=_;G_)
  intro G_
  obtain⟨_,xs,e,ha,rl⟩:=aO.mp rb
  dsimp only[G_]
  clear G_
  cases e
  have lx:=rl.length
  rw[aac] at lx
  change tSeq _ _ _ _ _
  refine aP (λσ' H1=>az H H1/\∃r ys,H1 r=some (.lst ys)/\ys.length=b.length/\(∀(i:Nat) y,ys[i]?=some y->∃d,y=.ref d/\fz H1 d (Bf.steps b (i:Int)))/\σ'=[some (.ref a),some (.ref r),none,none,none]) ?_ (λN hN=>?_)
  case refine_2=>
   simp_all only[wF]
   refine⟨_,ha,by omega,by omega,?_⟩
   refine comp_map src_range (λ_ _ _ _ h=>by rw[h.1];exact az.refl _) (by omega) (λi y H4=>∃d,y=.ref d/\fz H4 d (Bf.steps b (i:Int))) (λi y H4 H5 s5 ⟨d,e,h⟩=>⟨d,e,h.mono s5⟩) ?_ ?_
   ·rintro i x w0 H4 H5 Q2 hi s4 ⟨rfl,rfl⟩ kq
    simp_all only[wF,Int.zero_add]
    exact⟨b,rb.mono s4,by omega,sS,gb,by omega,by omega,λd H6 s6 n6 dr=>kq _ _ s6 ⟨d,rfl,dr⟩⟩
   ·intro ys H5 s5 ly hy D n1 n2
    refine hN _ _ ⟨s5.trans (au n2),D,ys,ar,by omega,λi y e=>?_,rfl⟩
    refine(?_:let G_:Prop:=_;G_)
    intro G_
    obtain⟨d,e1,h1⟩:=hy i y e
    dsimp only[G_]
    exact⟨d,e1,h1.mono (au n2)⟩
  intro _ H1 bH
  refine(?_:let G_:Prop:=_;G_)
  intro G_
  obtain⟨s1,r,ys,Jd,ly,hy,rfl⟩:=bH
  dsimp only[G_]
  clear G_
  change tSeq _ _ _ _ _
  refine aP (λσ' H2=>∃fa,H1 fa=none/\az H1 H2/\H2 fa=some (.lst [])/\σ'=[some (.ref a),some (.ref r),some (.ref fa),none,none]) ?_ (λN hN=>?_)
  case refine_2=>
   simp_all only[]
   exact⟨aas _,λfa nf=>hN _ _ ⟨fa,nf,au nf,ar,rfl⟩⟩
  intro _ H2 bH
  refine(?_:let G_:Prop:=_;G_)
  intro G_
  obtain⟨fa,nf,s2,Je,rfl⟩:=bH
  dsimp only[G_]
  clear G_
  have Gc:∀i:Nat,i<b.length->∃d kvs,ys[i]?=some (.ref d)/\fz H1 d (Bf.steps b (i:Int))/\H1 d=some (.dK kvs)/\gR kvs=Pr.kb b (i:Int)/\(∀p∈kvs,∃k,p.1=Sum.inl k)/\kvs.length=(Pr.kb b (i:Int)).length:=λi hi=>by
   refine(?_:let G_:Prop:=_;G_)
   intro G_
   obtain⟨d,e,dr⟩:=hy i _ (aad (by omega))
   obtain⟨kvs,hd,hk,_⟩:=dr.ex
   dsimp only[G_]
   refine⟨d,kvs,by rw[aad (by omega),e],dr,hd,?_,λp hp=>?_,?_⟩
   ·have:gR kvs=(kvs.map (·.1)).map (λk:Key=>match k with | .inl i=>i | .inr _=>(0:Int)):=by
     unfold gR
     rw[aaO]
     rfl
    rw[this,hk,aaO]
    unfold Pr.kb
    simp [Function.comp_def]
   ·have:p.1∈(Bf.keys (Bf.steps b (i:Int))).map Sum.inl:=by rw[<-hk];exact List.mem_map.mpr ⟨p,hp,rfl⟩
    refine(?_:let G_:Prop:=_;G_)
    intro G_
    obtain⟨k,_,e⟩:=List.mem_map.mp this
    dsimp only[G_]
    exact⟨k,e.symm⟩
   ·have:=congrArg List.length hk
    rw[aac,aac] at this
    exact this
  change tSeq _ _ _ _ _
  refine aP (λσ' H3=>az H1 H3/\∃as,H3 fa=some (.lst (List.map V.ref as))/\Al (λp v=>∃x,v=.ref x/\H3 x=some (.lst (List.map V.int (Pr.dc b p)))/\H1 x=none) (Pr.jg b b.length) (as.map V.ref)/\∃z3 z4,σ'=[some (.ref a),some (.ref r),some (.ref fa),z3,z4]) ?_ (λN hN=>?_)
  case refine_2=>
   simp_all only[]
   refine⟨_,s2 _ _ (s1 _ _ ha),by omega,by omega,?_⟩
   refine bL (src_range (Ok:=λ_=>True)) (λi σ H3=>az H1 H3/\∃as,H3 fa=some (.lst (List.map V.ref as))/\Al (λp v=>∃x,v=.ref x/\H3 x=some (.lst (List.map V.int (Pr.dc b p)))/\H1 x=none/\x≠fa) (Pr.jg b i) (as.map V.ref)/\∃z3 z4,σ=[some (.ref a),some (.ref r),some (.ref fa),z3,z4]) ⟨s2,[],Je,trivial,_,_,rfl⟩ (λ_ _ _ _ _=>trivial) ?_ ?_
   ·intro i x σ H3 H4 hi dC dI
    refine(?_:let G_:Prop:=_;G_)
    intro G_
    obtain⟨s3,as,BI,al,z3,z4,rfl⟩:=dC
    obtain⟨rfl,rfl⟩:=dI
    dsimp only[G_]
    clear G_
    simp_all only[Int.zero_add]
    have U0:i<b.length:=by omega
    have vK:Pr.In b (i:Int):=⟨by omega,by omega⟩
    refine(?_:let G_:Prop:=_;G_)
    intro G_
    obtain⟨d,kvs,ed,dr,hd,ek,ka,kl⟩:=Gc i U0
    dsimp only[G_]
    clear G_
    have kbl:=Pr.Ac gb vK
    refine⟨ys,s3 _ _ Jd,.ref d,bC ed,d,rfl,kvs,.inl (s3 _ _ hd),ka,by omega,λl nl=>?_⟩
    rw[ek]
    have sL:=au (o:=.lst (List.map V.int (Nm.me (Pr.kb b (i:Int))))) nl
    have Jb:(upd H4 l (.lst (List.map V.int (Nm.me (Pr.kb b (i:Int)))))) l=some (.lst (List.map V.int (Nm.me (Pr.kb b (i:Int))))):=ar
    generalize upd H4 l (.lst (List.map V.int (Nm.me (Pr.kb b (i:Int)))))=H5 at *
    refine⟨⟨_,bj.of Jb⟩,?_⟩
    have S:Src (vT K l) (az H5) (Nm.me (Pr.kb b (i:Int))).length (λj x H H3=>H3=H/\(List.map V.int (Nm.me (Pr.kb b (i:Int))))[j]?=some x):=by
     have:=src_list (K:=K) (a:=l) (xs:=List.map V.int (Nm.me (Pr.kb b (i:Int)))) (Ok:=az H5) (λH' s'=>bj.of (s' _ _ Jb))
     rw[aac] at this
     exact this
    refine dE (Nm.me (Pr.kb b (i:Int))) (λo=>if decide ((i:Int)∈Pr.kb b o)=true then some o else none) S (λ_ _ _ _ h=>h.1) (by rw[Nm.ni];omega) ?_ ?_
    ·rintro j o x eo ⟨_,ex⟩ Y N1 y1 n1
     rw[aag,eo] at ex
     cases ex
     have ho:=Nm.wd.mp (aae eo)
     obtain⟨U1,XO⟩:=Pr.oa gb vK ho
     obtain⟨o,rfl⟩:=aau U1
     refine(?_:let G_:Prop:=_;G_)
     intro G_
     obtain⟨d2,XQ,MI,XR,hd2,ek2,ka2,kl2⟩:=Gc o (by omega)
     obtain⟨oo,g1,g2⟩:=(XR.mono (s3.trans sL)).has (Pr.nZ gb ⟨U1,XO⟩) (i:Int)
     dsimp only[G_]
     simp_all only[s3.trans sL _ _ Jd,show fK ys (o:Int)=some (.ref d2) from bC MI]
     refine⟨oo,g1,?_⟩
     rw[g2]
     exact gC (λc=>y1 _ (if_pos c)) (λc=>n1 (if_neg c))
    ·intro D n1 n2
     rw[xx]
     have ep:(Nm.me (Pr.kb b (i:Int))).filter (λo=>decide ((i:Int)∈Pr.kb b o))=Pr.dc b (i:Int):=rfl
     rw[ep]
     have ne:=Pr.iZ gb vK
     have sD:=au (o:=.lst (List.map V.int (Pr.dc b (i:Int)))) n2
     have hD:(upd H5 D (.lst (List.map V.int (Pr.dc b (i:Int))))) D=some (.lst (List.map V.int (Pr.dc b (i:Int)))):=ar
     generalize upd H5 D (.lst (List.map V.int (Pr.dc b (i:Int))))=H6 at *
     have U2:az H1 H6:=s3.trans (sL.trans sD)
     have Jc:H6 fa=some (.lst (List.map V.ref as)):=sD _ _ (sL _ _ BI)
     have nD:H1 D=none:=none_of (s3.trans sL) n2
     have Df:D≠fa:=λz=>by rw[z,sL _ _ BI] at n2;cases n2
     have U3:Al (λp v=>∃x,v=V.ref x/\H6 x=some (.lst (List.map V.int (Pr.dc b p)))/\H1 x=none/\x≠fa) (Pr.jg b i) (as.map V.ref):=al.imp λp v ⟨x,e,h1,h2,h3⟩=>⟨x,e,sD _ _ (sL _ _ h1),h2,h3⟩
     have vL:=al.length
     rw[aac] at vL
     have qS:=Pr.wI (b:=b) (n:=i)
     cases ec:Pr.dc b (i:Int) with
     | nil=>exact absurd ec ne
     | cons x0 rest=>
      have Jf:Pr.rep b (i:Int)=x0:=by unfold Pr.rep;rw[ec];rfl
      refine⟨_,hD,.int x0,by rw[ec,aat];exact at0,rfl,?_⟩
      by_cases c:x0=(i:Int)
      ·rw[if_pos (by rw[c])]
       refine⟨.inl ⟨rfl,_,bj.of Jc⟩,fa,List.map V.ref as,.ref D,rfl,rfl,Jc,by rw[aac];omega,ba U2 nf,as++ [D],by rw[ar,aax];rfl,?_,_,rfl⟩
       rw[Pr.tS,if_pos (by rw[Jf,c]),aax]
       exact(U3.imp λp v ⟨x,e,h1,h2,h3⟩=>⟨x,e,by rw[aI h3];exact h1,h2,h3⟩).append (.one ⟨D,rfl,by rw[aI Df];exact hD,nD,Df⟩)
      ·rw[if_neg (by intro z;exact c (by injection z))]
       refine⟨U2,as,Jc,?_,_,rfl⟩
       rw[Pr.tS,if_neg (by rw[Jf];exact c)]
       exact U3
   ·intro σ H3 bH
    refine(?_:let G_:Prop:=_;G_)
    intro G_
    obtain⟨s3,as,BI,al,z3,z4,rfl⟩:=bH
    dsimp only[G_]
    rw[aai,<-lx] at al
    exact hN _ _ ⟨s3,as,BI,al.imp λp v ⟨x,e,h1,h2,_⟩=>⟨x,e,h1,h2⟩,_,_,rfl⟩
  intro _ H3 bH
  refine(?_:let G_:Prop:=_;G_)
  intro G_
  obtain⟨s3,as,BI,al,z3,z4,rfl⟩:=bH
  dsimp only[G_]
  simp_all only[zP]
  have each:∀x∈as,∃p,p∈Pr.jg b b.length/\H3 x=some (.lst (List.map V.int (Pr.dc b p)))/\H1 x=none/\oF H3 x=p/\Pr.In b p:=λx hx=>by
   obtain⟨i,ei⟩:=aaw hx
   obtain⟨p,ep,x',e,h1,h2⟩:=al.get (show(as.map V.ref)[i]?=some (.ref x) by rw[aag,ei];rfl)
   cases e
   have mp:=aae ep
   obtain⟨vK,er⟩:=Pr.il.mp mp
   refine⟨p,mp,h1,h2,?_,vK⟩
   unfold oF
   rw[h1]
   unfold Pr.rep at er
   cases ec:Pr.dc b p with
   | nil=>exact absurd ec (Pr.iZ gb vK)
   | cons x0 r0=>rw[ec] at er;exact er
  have emap:as.map (oF H3)=Pr.jg b b.length:=by
   apply aaN
   intro i
   rw[aag]
   cases ei:as[i]? with
   | none=>
    have l1:=al.length
    rw[aac] at l1
    have l2:=List.getElem?_eq_none_iff.mp ei
    rw[aaq (by omega)]
    rfl
   | some x=>
    obtain⟨p,ep,x',e,h1,h2⟩:=al.get (show(as.map V.ref)[i]?=some (.ref x) by rw[aag,ei];rfl)
    cases e
    obtain⟨vK,er⟩:=Pr.il.mp (aae ep)
    rw[ep]
    show some (oF H3 x)=some p
    unfold oF
    rw[h1]
    unfold Pr.rep at er
    cases ec:Pr.dc b p with
    | nil=>exact absurd ec (Pr.iZ gb vK)
    | cons x0 r0=>rw[ec] at er;exact congrArg some er
  have vL:=al.length
  rw[aac] at vL
  have qS:=Pr.wI (b:=b) (n:=b.length)
  refine⟨as,BI,by omega,λx=>((Pr.kb b (oF H3 x)).length:Int),ys,s3 _ _ Jd,s3 _ _ (s1 _ _ kZ),λx hx=>?_,λp cs H4 s4 np hp pm pw=>?_⟩
  ·refine(?_:let G_:Prop:=_;G_)
   intro G_
   obtain⟨p,mp,h1,h2,h3,vK⟩:=each x hx
   obtain⟨i,rfl⟩:=aau vK.1
   have i1:=vK.2
   obtain⟨d,kvs,ed,dr,hd,ek,ka,kl⟩:=Gc i (by omega)
   dsimp only[G_]
   show ∃j xs,H3 x=some (HO.lst (V.int j::xs))/\0<=j/\j<1000000/\∃x_1,ys[j.toNat]?=some (V.ref x_1)/\∃x_2,H3 x_1=some (HO.dK x_2)/\((Pr.kb b (oF H3 x)).length:Int)=((x_2.length:Nat):Int)
   rw[h3]
   have er:=(Pr.il.mp mp).2
   unfold Pr.rep at er
   cases ec:Pr.dc b (i:Int) with
   | nil=>exact absurd ec (Pr.iZ gb vK)
   | cons x0 r0=>
    rw[ec] at er h1
    have er:x0=(i:Int):=er
    subst er
    exact⟨(i:Int),_,h1,by omega,by omega,d,by rw[aai];exact ed,kvs,s3 _ _ hd,by rw[kl]⟩
  ·have M4:(cs.map (oF H3)).Perm (Pr.jg b b.length):=by rw[<-emap];exact pm.map _
   refine kk p (cs.map (oF H3)) cs H4 ⟨M4,?_⟩ ((s1.trans s3).trans s4) (none_of (s1.trans s3) np) hp ?_
   ·rw[List.pairwise_map]
    exact pw.imp λ{x y} (h:((Pr.kb b (oF H3 x)).length:Int)<=((Pr.kb b (oF H3 y)).length:Int))=>by omega
   ·refine Al.of (by rw[aac,aac]) λi v q e1 e2=>?_
    rw[aag] at e1 e2
    refine(?_:let G_:Prop:=_;G_)
    intro G_
    obtain⟨x,ex,rfl⟩:=Option.map_eq_some_iff.mp e1
    dsimp only[G_]
    rw[ex] at e2
    cases e2
    refine(?_:let G_:Prop:=_;G_)
    intro G_
    obtain⟨q,mq,h1,h2,h3,vK⟩:=each x (pm.mem_iff.mp (aae ex))
    dsimp only[G_]
    rw[h3]
    exact⟨x,rfl,s4 _ _ h1,none_of s1 h2⟩
theorem fC:aN ["rows","start","spot"] ["rows","start"] (ae (top 16)):=⟨rfl,rfl,rfl,by decide +kernel,rfl,by decide +kernel,by decide +kernel⟩
theorem Jg (T:Txt K mg aB tc):bS P w K mg base (bK P w) 1 "row_with_head" ["rows","start"] FD:=by
 refine T.lA.d9 (λ_ _ _ _ _ _=>eA λ_ _=>rfl) λf fd F=>F.eC fC (λvs H Q E h=>?_) (λcG A outer s H vs Q E hr h=>?_)
 ·obtain⟨_,_,_,rfl,_⟩:=h;rfl
 ·refine(?_:let G_:Prop:=_;G_)
  intro G_
  obtain⟨a,L,k,rfl,⟨xs,ha,al⟩,kn,M5,ne,kS,kN⟩:=h
  dsimp only[G_]
  have nd:=fC.nd
  refine⟨_,(af (cf PassesOwn.never rfl (xN rfl T.z_range (aa (pv 1) (aa (aZ bD (by rfl) T.z_len aaB (aa (pv 0) ao (se rfl)) (he:=se rfl) (hpl:=na rfl)) ao (se rfl)) (se rfl))) (aE (i:=2) nd rfl (Or.inl rfl)) (ax (bU (aR vX (aH aJ (aH aJ (pv 0) (pv 2) (λ_ _=>rfl)) ag (λ_ _=>rfl)) ag (aX _)) (ax (aQ (pv 2)))
   bB)))
  (ax (aQ fb))),?_⟩
  have lx:=al.length
  simp_all only[]
  refine⟨_,ha,by omega,by omega,by omega,by omega,bL (src_range (Ok:=λ_=>True)) (λi σ H'=>H=H'/\(∀j:Nat,k<=j->j<k+i->(L.getD j []).headD 0=0)/\∃z,σ=[some (.ref a),some (.int (k:Int)),z]) ⟨rfl,λj h1 h2=>by omega,_,rfl⟩ (λ_ _ _ _ _=>trivial) ?_ ?_⟩
  ·intro i x σ H' H'' hi dC dI
   refine(?_:let G_:Prop:=_;G_)
   intro G_
   obtain⟨rfl,hz,z,rfl⟩:=dC
   obtain⟨rfl,rfl⟩:=dI
   have C5:k+i<L.length:=by omega
   have er:L[k+i]?=some L[k+i]:=aad C5
   obtain⟨q,eq,hq⟩:=ou al er
   dsimp only[G_]
   have eh:=jC (ne L[k+i] (aao C5))
   have eg:L.getD (k+i) []=L[k+i]:=by rw[aaf,er];rfl
   have ei:((k:Int)+ (i:Int))=((k+i:Nat):Int):=by omega
   rw[ei]
   simp_all only[ha,eq,hq,eh]
   refine gC (λc=>?_) (λc=>?_)
   ·exact kS (k+i) (by omega) C5 (by rw[eg];exact c)
   ·refine⟨λj h1 h2=>?_,_,rfl⟩
    by_cases e:j=k+i
    ·rw[e,eg]
     exact Decidable.not_not.mp c
    ·exact hz j h1 (by omega)
  ·intro σ H' bH
   refine(?_:let G_:Prop:=_;G_)
   intro G_
   obtain⟨rfl,hz,z,rfl⟩:=bH
   dsimp only[G_]
   simp_all only[]
   exact kN λi h1 h2=>hz i h1 (by omega)
theorem oG:aN ["rows","one","other","turned"] ["rows","one","other"] (ae (top 17)):=⟨rfl,rfl,rfl,by decide +kernel,rfl,by decide +kernel,by decide +kernel⟩
theorem Gd (T:Txt K mg aB tc):bS P w K mg base (bK P w) 1 "swapped" ["rows","one","other"] Az:=by
 refine T.yj.d9 (λ_ _ _ _ _ _=>tQ λ_ _ _=>rfl) λf fd F=>F.eC oG (λvs H Q E h=>?_) (λcG A outer s H vs Q E hr h=>?_)
 ·obtain⟨_,_,_,_,rfl,_⟩:=h;rfl
 ·refine(?_:let G_:Prop:=_;G_)
  intro G_
  obtain⟨a,L,i,j,rfl,⟨xs,ha,al⟩,hi,hj,M5,kk⟩:=h
  dsimp only[G_]
  clear G_
  have nd:=oG.nd
  refine⟨_,(af (aF (i:=3) nd rfl (Or.inl rfl) (ia (dM (K:=K)) (by rfl) T.z_list rfl (aa (pv 0) ao (se rfl)) (he:=se rfl) (hpl:=na rfl)))
  (af (dU (aH aJ (pv 0) (pv 2) (λ_ _=>rfl)) (fc (pv 3) (pv 1) set_list))
  (af (dU (aH aJ (pv 0) (pv 1) (λ_ _=>rfl)) (fc (pv 3) (pv 2) set_list))
  (ax (aQ (pv 3)))))),?_⟩
  refine(?_:let cv:TS:=_;let cw:TS:=_;let cy:TS:=_;let dR:TS:=_;tSeq cv (tSeq cw (tSeq cy dR)) _ _ _)
  intro cv cw cy dR
  have lx:=al.length
  have ei:L[i]?=some (L.getD i []):=by rw[aaf,aad hi];rfl
  have ej:L[j]?=some (L.getD j []):=by rw[aaf,aad hj];rfl
  refine(?_:let G_:Prop:=_;G_)
  intro G_
  obtain⟨qi,ai,XS⟩:=ou al ei
  obtain⟨qj,aj,XT⟩:=ou al ej
  dsimp only[G_]
  clear G_
  simp_all only[ha]
  refine⟨_,.inl (bj.of ha),λm nm=>?_⟩
  have sm:=au (o:=.lst xs) nm
  have hm:upd H m (.lst xs) m=some (.lst xs):=ar
  generalize upd H m (.lst xs)=H1 at *
  simp_all only[sm _ _ ha,aj]
  have am:a≠m:=λe=>by rw[e,nm] at ha;cases ha
  refine⟨_,hm,i,fZ (by omega),_,by rw[aI am];exact sm _ _ ha,_,ai,_,ar,j,fZ (by rw[aaT];omega),?_⟩
  have s2:=ba (o:=.lst ((xs.set i (V.ref qj)).set j (V.ref qi))) (ba (o:=.lst (xs.set i (V.ref qj))) sm nm) nm
  exact kk _ _ s2 ⟨_,ar,((al.imp λ_ _ h=>h.mono s2).set ⟨qj,rfl,s2 _ _ XT⟩).set ⟨qi,rfl,s2 _ _ XS⟩⟩
theorem dk:aN ["rows","spot","last","head","tail","left","number","row","first"] ["rows","spot","last"] (ae (top 18)):=⟨rfl,rfl,rfl,by decide +kernel,rfl,by decide +kernel,by decide +kernel⟩
theorem Jh (T:Txt K mg aB tc):bS P w K mg base (bK P w) 1 "without_first_column" ["rows","spot","last"] FE:=by
 refine T.fX.d9 (λ_ _ _ _ _ _=>tQ λ_ _ _=>rfl) λf fd F=>F.eC dk (λvs H Q E h=>?_) (λcG A outer s H vs Q E hr h=>?_)
 ·obtain⟨_,_,_,_,_,rfl,_⟩:=h;rfl
 ·refine(?_:let G_:Prop:=_;G_)
  intro G_
  obtain⟨a,L,s',l,m,rfl,⟨xs,ha,al⟩,hs,M5,MS,Ge,l0,bl,bx,kk⟩:=h
  dsimp only[G_]
  clear G_
  have nd:=dk.nd
  refine⟨_,(af (aF (i:=3) nd rfl (Or.inr rfl) (aH aJ (aH aJ (pv 0) (pv 1) (λ_ _=>rfl)) ag (λ_ _=>rfl)))
  (af (aF (i:=4) nd rfl (Or.inl rfl) (mY (sV (K:=K)) (aH aJ (pv 0) (pv 1) (λ_ _=>rfl)) (qB ag) qA))
  (af (aF (i:=5) nd rfl (Or.inl rfl) (cY ao))
  (af (cf PassesOwn.never rfl (cS (K:=K) rfl T.z_enumerate (aa (pv 0) ao (se rfl))) (b8 (K:=K) (n:=2) rfl (aT (aE (i:=6) nd rfl (Or.inl rfl)) (aT (aE (i:=7) nd rfl (Or.inl rfl)) bY))) (ax (bU (aR cQ (pv 6) (pv 1) (aX _)) (ax (c7 (eF aaP aa9 aba cB.r (pv 5) (aa (pv 4) ao (se rfl)))))
   (af (aF (i:=8) nd rfl (Or.inr rfl) (aH aJ (pv 7) ag (λ_ _=>rfl)))
  (ax (c7 (eF aaP aa9 aba cB.r (pv 5) (aa (bW rfl (N:=["rows","spot","last","head","tail","left","number","row","first"]) (so:=ae (top 18)) (N':=["one","other","last","head","first"]) (k:=2) (fr:=[2,3,8]) rfl rfl ⟨rfl,by decide +kernel,by decide +kernel,by decide +kernel,rfl,by decide +kernel,by decide +kernel⟩ (jw (K:=K) rfl T.z_zip (aa (mY (sV (K:=K)) (pv 7) (qB ag) qA) (aa (pv 4) ao (se rfl)) (se rfl))) (λ_ _ _ _ _=>(b8 (K:=K) (n:=2) rfl (aT (aE (i:=0) (show(["one","other","last","head","first"]:List Str).Nodup by decide +kernel) rfl (Or.inl rfl)) (aT (aE (i:=1) (show(["one","other","last","head","first"]:List Str).Nodup by decide +kernel) rfl (Or.inl rfl)) bY)))) (λ_ _ _ _ _=>bJ)
   (λ_ _ _ _ _=>(aD zc (aD jQ (aD aW (pv 3) (pv 0)) (aD aW (pv 4) (pv 1))) (pv 2)))) ao (se rfl)))))))))
  (ax (aQ (pv 5))))))),?_⟩
  refine(?_:let cv:TS:=_;let cw:TS:=_;let cy:TS:=_;let dR:TS:=_;let jG:TS:=_;tSeq cv (tSeq cw (tSeq cy (tSeq dR jG))) _ _ _)
  intro cv cw cy dR jG
  have sl:=sizeLine_eq
  have lx:=al.length
  have es:L[s']?=some (L.getD s' []):=by rw[aaf,aad hs];rfl
  refine(?_:let G_:Prop:=_;G_)
  intro G_
  obtain⟨qs,U4,Lj⟩:=ou al es
  dsimp only[G_]
  clear G_
  have ls:=Ge _ (aae es)
  have bs:=bx _ (aae es)
  have hh:=jC (r:=L.getD s' []) (by omega)
  have bh:Bt 4000 ((L.getD s' []).headD 0):=bs _ (by
   cases e:L.getD s' [] with
   | nil=>rw[e] at ls;cases ls
   | cons x r=>exact aaj ..)
  have hw:∀i:Nat,aS.o8 L s' l i=if i=s' then (L.getD i []).tail else List.zipWith (λone other=>((L.getD s' []).headD 0*one - (L.getD i []).headD 0*other).fdiv l) (L.getD i []).tail (L.getD s' []).tail:=λi=>rfl
  generalize (L.getD s' []).headD 0=hd at *
  generalize L.getD s' []=R at *
  change tSeq _ _ _ _ _
  refine aP (λσ' H1=>H=H1/\σ'=[some (.ref a),some (.int (s':Int)),some (.int l),some (.int hd),none,none,none,none,none]) ?_ (λN hN=>?_)
  case refine_2=>
   simp_all only[ha,U4,Lj,hh]
   exact hN _ _ ⟨rfl,rfl⟩
  rintro _ _ ⟨rfl,rfl⟩
  change tSeq _ _ _ _ _
  refine aP (λσ' H1=>az H H1/\∃tl,H1 tl=some (.lst (List.map V.int R.tail))/\σ'=[some (.ref a),some (.int (s':Int)),some (.int l),some (.int hd),some (.ref tl),none,none,none,none]) ?_ (λN hN=>?_)
  case refine_2=>
   simp_all only[ha,U4]
   exact⟨_,bj.of Lj,λtl XU=>hN _ _ ⟨au XU,tl,by rw[ar,tY],rfl⟩⟩
  intro _ H1 bH
  refine(?_:let G_:Prop:=_;G_)
  intro G_
  obtain⟨vM,tl,M6,rfl⟩:=bH
  dsimp only[G_]
  clear G_
  change tSeq _ _ _ _ _
  refine aP (λσ' H2=>az H1 H2/\∃lf,H1 lf=none/\H2 lf=some (.lst [])/\σ'=[some (.ref a),some (.int (s':Int)),some (.int l),some (.int hd),some (.ref tl),some (.ref lf),none,none,none]) ?_ (λN hN=>?_)
  case refine_2=>
   simp_all only[]
   exact⟨aas _,λlf nl=>hN _ _ ⟨au nl,lf,nl,ar,rfl⟩⟩
  intro _ H2 bH
  refine(?_:let G_:Prop:=_;G_)
  intro G_
  obtain⟨Lk,lf,Ja,XW,rfl⟩:=bH
  dsimp only[G_]
  clear G_
  have XX:tl≠lf:=λe=>by rw[e,Ja] at M6;cases M6
  change tSeq _ _ _ _ _
  refine aP (λσ' H3=>az H1 H3/\rK H3 lf (aS.K9 L s' l)/\∃z1 z2 z3,σ'=[some (.ref a),some (.int (s':Int)),some (.int l),some (.int hd),some (.ref tl),some (.ref lf),z1,z2,z3]) ?_ (λN hN=>?_)
  case refine_2=>
   simp_all only[]
   refine⟨⟨_,bj.of (Lk _ _ (vM _ _ ha))⟩,bL (ft (Ok:=az H1) (λH' s=>bj.of (s _ _ (vM _ _ ha)))) (λi σ H3=>az H1 H3/\∃ys,H3 lf=some (.lst ys)/\Al (Rw (cF H3 lf)) ((List.range i).map (aS.o8 L s' l)) ys/\∃z1 z2 z3,σ=[some (.ref a),some (.int (s':Int)),some (.int l),some (.int hd),some (.ref tl),some (.ref lf),z1,z2,z3]) ⟨Lk,[],XW,trivial,_,_,_,rfl⟩ (λ_ _ _ _ h=>h.1) ?_ ?_⟩
   ·intro i x σ H3 H4 hi dC dI
    refine(?_:let G_:Prop:=_;G_)
    intro G_
    obtain⟨Gf,ys,M7,ay,z1,z2,z3,rfl⟩:=dC
    obtain⟨p,y,np,rfl,ey,rfl⟩:=dI
    obtain⟨r,er,q,rfl,hq⟩:=al.get ey
    dsimp only[G_]
    clear G_
    have ly:=ay.length
    rw[aac,aaA] at ly
    have XY:=Ge _ (aae er)
    have U5:=bx _ (aae er)
    have gr:L.getD i []=r:=by rw[aaf,er];rfl
    refine⟨p,_,rfl,d7.of ar,rfl,?_⟩
    have s4:=au (o:=.tup [.int i,.ref q]) np
    generalize upd H3 p (.tup [.int i,.ref q])=H4 at *
    have Ll:=Gf.trans s4
    have xv:=s4 _ _ M7
    have U6:=Ll _ _ (vM _ _ hq)
    have U7:=Ll _ _ M6
    have U8:=ay.imp λ_ _ h=>h.mono (bI (p:=lf) s4)
    have eR:(List.range (i+1)).map (aS.o8 L s' l)=(List.range i).map (aS.o8 L s' l)++ [aS.o8 L s' l i]:=by rw[List.range_succ,aax];rfl
    simp_all only[c8]
    by_cases c:i=s'
    ·rw[if_pos (by omega)]
     refine⟨.inl ⟨rfl,_,bj.of xv⟩,_,xv,by omega,ba Ll Ja,_,ar,?_,_,rfl⟩
     rw[rL,eR]
     refine U8.append (.one ⟨tl,rfl,?_⟩)
     have XZ:r=R:=by
      subst c
      rw[er] at es
      cases es
      rfl
     rw[bE XX,U7,hw,if_pos c,gr,XZ]
    ·rw[if_neg (by omega)]
     have X0:=jC (r:=r) (by omega)
     simp_all only[U6,X0,c8]
     refine⟨.inl ⟨rfl,_,bj.of xv⟩,_,bj.of U6,λp2 Ji=>?_⟩
     have s5:=au (o:=.lst (iT (List.map V.int r) (some 1) none)) Ji
     have pN:upd H4 p2 (.lst (iT (List.map V.int r) (some 1) none)) p2=some (.lst (List.map V.int r.tail)):=by rw[ar,tY]
     generalize upd H4 p2 (.lst (iT (List.map V.int r) (some 1) none))=H5 at *
     have X1:=Ll.trans s5
     have U9:=s5 _ _ U7
     have X2:Bt 4000 (r.headD 0):=U5 _ (by
      cases r with
      | nil=>cases XY
      | cons x r=>exact aaj ..)
     refine⟨⟨_,bj.of pN⟩,⟨_,bj.of U9⟩,?_⟩
     refine fq (K:=K) (jv (λH' s'=>bj.of (s' _ _ pN)) (λH' s'=>bj.of (s' _ _ U9))) (λj u v _=>∃o1 o2,r.tail[j]?=some o1/\R.tail[j]?=some o2/\u=.int o1/\v=.int o2) ?_ (by rw[aac,aac,List.length_tail,List.length_tail];omega) (λj y _=>∀o1 o2,r.tail[j]?=some o1->R.tail[j]?=some o2->y=.int ((hd*o1 - r.headD 0*o2).fdiv l)) (λ_ _ _ _ _ h=>h) ?_ ?_
     ·intro j v H6 H7 hj s6 dC
      refine(?_:let G_:Prop:=_;G_)
      intro G_
      obtain⟨t,x,y,nt,rfl,ex,Ig,rfl⟩:=dC
      rw[aag] at ex Ig
      obtain⟨o1,e1,rfl⟩:=Option.map_eq_some_iff.mp ex
      obtain⟨o2,e2,rfl⟩:=Option.map_eq_some_iff.mp Ig
      dsimp only[G_]
      exact⟨au nt,t,_,_,rfl,d7.of ar,o1,o2,e1,e2,rfl,rfl⟩
     ·intro j u v H6 Q2 hj s6 dI kq
      refine(?_:let G_:Prop:=_;G_)
      intro G_
      obtain⟨o1,o2,e1,e2,rfl,rfl⟩:=dI
      dsimp only[G_]
      have b1:=U5 o1 (List.mem_of_mem_tail (aae e1))
      have b2:=bs o2 (List.mem_of_mem_tail (aae e2))
      simp_all only[]
      refine⟨bh.dD b1,X2.dD b2,v8.of l0 bl,kq _ _ (az.refl _) λ_ _ f1 f2=>?_⟩
      rw[e1] at f1
      rw[e2] at f2
      cases f1
      cases f2
      rfl
     ·intro zs H6 s6 lz hz D n1 n2
      have ez:=Ay (f:=λo1 o2=>(hd*o1 - r.headD 0*o2).fdiv l) lz hz
      have Dj:=s6 _ _ (s5 _ _ xv)
      refine⟨_,au n2 _ _ Dj,by omega,ba ((X1.trans s6).trans (au n2)) Ja,_,ar,?_,_,rfl⟩
      rw[rL,eR]
      refine(U8.imp λ_ _ h=>h.mono (bI ((s5.trans s6).trans (au n2)))).append (.one ⟨D,rfl,?_⟩)
      rw[bE (λe=>by rw[e,Dj] at n2;cases n2),ar,hw,if_neg c,gr,ez]
   ·intro σ H3 bH
    refine(?_:let G_:Prop:=_;G_)
    intro G_
    obtain⟨Gf,ys,M7,ay,z1,z2,z3,rfl⟩:=bH
    dsimp only[G_]
    rw[lx] at ay
    exact hN _ _ ⟨Gf,⟨ys,M7,ay.imp λ_ _ h=>h.mono bO⟩,_,_,_,rfl⟩
  intro _ H3 bH
  refine(?_:let G_:Prop:=_;G_)
  intro G_
  obtain⟨Gf,hm,z1,z2,z3,rfl⟩:=bH
  dsimp only[G_]
  simp_all only[]
  exact kk _ _ (vM.trans Gf) hm
theorem uo:aN ["rows","columns","last","column","spot","head"] ["rows","columns"] (ae (top 19)):=⟨rfl,rfl,rfl,by decide +kernel,rfl,by decide +kernel,by decide +kernel⟩
theorem Jj (T:Txt K mg aB tc):bS P w K mg base (bK P w) 2 "swept" ["rows","columns"] FF:=by
 have lG:bS P w K mg base (bK P w) 1 "row_with_head" ["rows","start"] FD:=Jg T
 have yz:bS P w K mg base (bK P w) 1 "swapped" ["rows","one","other"] Az:=Gd T
 have gf:bS P w K mg base (bK P w) 1 "without_first_column" ["rows","spot","last"] FE:=Jh T
 refine T.CG.d9 (λ_ _ _ _ _ _=>eA λ_ _=>rfl) λf fd F=>F.eC uo (λvs H Q E h=>?_) (λcG A outer s H vs Q E hr h=>?_)
 ·obtain⟨_,_,_,_,rfl,_⟩:=h;rfl
 ·refine(?_:let G_:Prop:=_;G_)
  intro G_
  obtain⟨a,L,n,m,rfl,hM,B,kk⟩:=h
  dsimp only[G_]
  have nd:=uo.nd
  refine⟨_,(af (aF (i:=2) nd rfl (Or.inl rfl) ag)
  (af (cf PassesOwn.never rfl (cR rfl T.z_range (aa (pv 1) ao (se rfl))) (aE (i:=3) nd rfl (Or.inl rfl)) (af (aF (i:=4) nd rfl (Or.inl rfl) (aG lG (hr.mono (by decide)) rfl aA.pass (aa (pv 0) (aa (pv 3) ao (se rfl)) (se rfl)) (he:=se rfl) (hpl:=na rfl)))
  (af (bU (aR uM (pv 4) fb (aX _)) (ax (aQ (bV (aa (pv 0) (aa (pv 3) (aa (pv 2) ao (se rfl)) (se rfl)) (se rfl)))))
   bB)
  (af (aF (i:=0) nd rfl (Or.inl rfl) (aG yz (hr.mono (by decide)) rfl aA.pass (aa (pv 0) (aa (pv 3) (aa (pv 4) ao (se rfl)) (se rfl)) (se rfl)) (he:=se rfl) (hpl:=na rfl)))
  (af (aF (i:=5) nd rfl (Or.inl rfl) (aH aJ (aH aJ (pv 0) (pv 3) (λ_ _=>rfl)) ag (λ_ _=>rfl)))
  (af (aF (i:=0) nd rfl (Or.inl rfl) (aG gf (hr.mono (by decide)) rfl aA.pass (aa (pv 0) (aa (pv 3) (aa (pv 2) ao (se rfl)) (se rfl)) (se rfl)) (he:=se rfl) (hpl:=na rfl)))
  (ax (aF (i:=2) nd rfl (Or.inl rfl) (pv 5)))))))))
  (ax (aQ (bV (aa (pv 0) (aa (pv 1) (aa (pv 2) ao (se rfl)) (se rfl)) (se rfl))))))),?_⟩
  refine(?_:let cv:TS:=_;let cw:TS:=_;let cy:TS:=_;tSeq cv (tSeq cw cy) _ _ _)
  intro cv cw cy
  have sl:=sizeLine_eq
  have Bn:=B.nm
  have Bm:=B.MS
  have hlen:(L.map aS.fo).length=n:=by rw[aac,B.len]
  change tSeq _ _ _ _ _
  refine aP (λσ' H1=>H=H1/\σ'=[some (.ref a),some (.int (n:Int)),some (.int 1),none,none,none]) ?_ (λN hN=>?_)
  case refine_2=>
   simp_all only[]
   exact hN _ _ ⟨rfl,rfl⟩
  rintro _ _ ⟨rfl,rfl⟩
  change tSeq _ _ _ _ _
  refine aP (λσ' H1=>az H H1/\∃p rs W,aS.i4 (L.map aS.fo) n n rs W/\rK H1 p (W.map λv=>aS.bQ v rs n m)/\∃z1 z2 z3,σ'=[some (.ref p),some (.int (n:Int)),some (.int (aS.D rs (aS.dn n))),z1,z2,z3]) ?_ (λN hN=>?_)
  case refine_2=>
   simp_all only[]
   refine⟨by omega,by omega,bL (src_range (Ok:=λ_=>True)) (λi σ H1=>az H H1/\∃p rs W,aS.i4 (L.map aS.fo) n i rs W/\rK H1 p (W.map λv=>aS.bQ v rs i m)/\∃z1 z2 z3,σ=[some (.ref p),some (.int (n:Int)),some (.int (aS.D rs (aS.dn i))),z1,z2,z3]) ?_ (λ_ _ _ _ _=>trivial) ?_ ?_⟩
   ·refine⟨az.refl _,a,[],L.map aS.fo,?_,?_,_,_,_,rfl⟩
    ·have:=aS.i4.start (U:=L.map aS.fo)
     rw[hlen] at this
     exact this
    ·rw[aS.vy B.row]
     exact hM
   ·intro k x σ H1 H2 hi dC dI
    refine(?_:let G_:Prop:=_;G_)
    intro G_
    obtain⟨vM,p,rs,W,S,hW,z1,z2,z3,rfl⟩:=dC
    obtain⟨rfl,rfl⟩:=dI
    dsimp only[G_]
    have lW:=S.len
    have hk:k<n:=by omega
    have M8:k<m:=by omega
    have rb:∀r∈W.map (λv=>aS.bQ v rs k m),∀x∈r,Bt 4000 x:=λr hr x hx=>by
     refine(?_:let G_:Prop:=_;G_)
     intro G_
     obtain⟨v,hv,rfl⟩:=List.mem_map.mp hr
     dsimp only[G_]
     unfold aS.bQ at hx
     refine(?_:let G_:Prop:=_;G_)
     intro G_
     obtain⟨t,_,rfl⟩:=List.mem_map.mp hx
     dsimp only[G_]
     exact(B.Cb _ _ _ S).2 v hv _
    have db:=(B.Cb _ _ _ S).1
    have X3:(W.map λv=>aS.bQ v rs k m).length=n:=by rw[aac,lW]
    have Gg:∀r∈W.map (λv=>aS.bQ v rs k m),r.length=(m - (k+1))+1:=λr hr=>by
     refine(?_:let G_:Prop:=_;G_)
     intro G_
     obtain⟨v,_,rfl⟩:=List.mem_map.mp hr
     dsimp only[G_]
     rw[aS.du]
     omega
    have Va:∀(i:Nat) (v:aS.Fm),W[i]?=some v->((W.map λv=>aS.bQ v rs k m).getD i []).headD 0=aS.D (v::rs) (k::aS.dn k):=λi v e=>by
     rw[aS.getD_map e,aS.dj M8]
     rfl
    change tSeq _ _ _ _ _
    rw[Int.zero_add]
    refine aP (λσ' H3=>H2=H3/\((aS.qe k rs W/\σ'=[some (.ref p),some (.int (n:Int)),some (.int (aS.D rs (aS.dn k))),some (.int (k:Int)),some .cE,z3])\/∃i u,k<=i/\i<n/\W[i]?=some u/\aS.D (u::rs) (k::aS.dn k)≠0/\σ'=[some (.ref p),some (.int (n:Int)),some (.int (aS.D rs (aS.dn k))),some (.int (k:Int)),some (.int (Nat.cast i)),z3])) ?_ (λN Ea=>?_)
    case refine_2=>
     simp_all only[FD]
     refine⟨_,k,rfl,hW,by omega,by omega,λr hr=>by rw[Gg r hr];omega,λi h1 h2 h3=>?_,λh=>?_⟩
     ·rw[X3] at h2
      have ei:W[i]?=some W[i]:=aad (by omega)
      rw[Va i _ ei] at h3
      exact Ea _ _ ⟨rfl,.inr ⟨i,_,h1,h2,ei,h3,rfl⟩⟩
     ·refine Ea _ _ ⟨rfl,.inl ⟨λu hu=>?_,rfl⟩⟩
      refine(?_:let G_:Prop:=_;G_)
      intro G_
      obtain⟨i,uA,rfl⟩:=aa5 hu
      dsimp only[G_]
      rw[List.length_drop] at uA
      have ei:W[k+i]?=some W[k+i]:=aad (by omega)
      have:=h (k+i) (by omega) (by omega)
      rw[Va _ _ ei] at this
      rw[List.getElem_drop]
      exact this
    rintro _ _ ⟨rfl,⟨yK,rfl⟩ | ⟨i,u,h1,h2,ei,Mu,rfl⟩⟩
    ·simp_all only[]
     exact⟨by decide,λt H3 s3 nt e3=>kk t p k rs W _ S (λ_=>yK) (vM.trans s3) e3 (hW.mono s3)⟩
    ·have ek:W[k]?=some W[k]:=aad (by omega)
     change tSeq _ _ _ _ _
     refine aP (λσ' H3=>H2=H3/\σ'=[some (.ref p),some (.int (n:Int)),some (.int (aS.D rs (aS.dn k))),some (.int (k:Int)),some (.int (Nat.cast i)),z3]) ?_ (λN Ea=>?_)
     case refine_2=>
      simp_all only[]
      rw[if_neg (by simp)]
      exact Ea _ _ ⟨rfl,rfl⟩
     rintro _ _ ⟨rfl,rfl⟩
     change tSeq _ _ _ _ _
     refine aP (λσ' H3=>az H2 H3/\∃p2,rK H3 p2 ((aS.mF W k i u W[k]).map λv=>aS.bQ v rs k m)/\σ'=[some (.ref p2),some (.int (n:Int)),some (.int (aS.D rs (aS.dn k))),some (.int (k:Int)),some (.int (Nat.cast i)),z3]) ?_ (λN Ea=>?_)
     case refine_2=>
      simp_all only[Az]
      refine⟨_,k,rfl,i,rfl,hW,by omega,by omega,by omega,λp2 H3 s3 h3=>Ea _ _ ⟨s3,p2,?_,rfl⟩⟩
      rw[aS.CU ei ek] at h3
      exact h3
     intro _ H3 bH
     refine(?_:let G_:Prop:=_;G_)
     intro G_
     obtain⟨Gf,p2,Vc,rfl⟩:=bH
     have Mo:=aS.Ar ei ek
     have lsw:(aS.mF W k i u W[k]).length=n:=by unfold aS.mF;rw[aaT,aaT,lW]
     have X4:∀v∈aS.mF W k i u W[k],v∈W:=λv hv=>by
      unfold aS.mF at hv
      rcases List.mem_or_eq_of_mem_set hv with h | h
      ·rcases List.mem_or_eq_of_mem_set h with h | h
       ·exact h
       ·rw[h];exact aae ei
      ·rw[h];exact aao _
     have Jk:∀r∈(aS.mF W k i u W[k]).map (λv=>aS.bQ v rs k m),r.length=(m - (k+1))+1:=λr hr=>by
      obtain⟨v,_,rfl⟩:=List.mem_map.mp hr
      rw[aS.du]
      omega
     have Lm:∀r∈(aS.mF W k i u W[k]).map (λv=>aS.bQ v rs k m),∀x∈r,Bt 4000 x:=λr hr x hx=>by
      obtain⟨v,hv,rfl⟩:=List.mem_map.mp hr
      exact rb _ (List.mem_map.mpr ⟨v,X4 v hv,rfl⟩) x hx
     have S2:=S.step hk h1 ei ek Mu
     have ew:=aS.As (n:=n) S.good M8 ei ek
     have e1:((aS.mF W k i u W[k]).map λv=>aS.bQ v rs k m)[k]?=some (aS.bQ u rs k m):=by rw[aag,Mo];rfl
     obtain⟨xs,X5,al⟩:=id Vc
     obtain⟨q,aq,hq⟩:=ou al e1
     dsimp only[G_]
     have ah:=jC (r:=aS.bQ u rs k m) (by rw[aS.du];omega)
     have eh:(aS.bQ u rs k m).headD 0=aS.D (u::rs) (k::aS.dn k):=by rw[aS.dj M8];rfl
     rw[eh] at ah
     change tSeq _ _ _ _ _
     refine aP (λσ' H4=>H3=H4/\σ'=[some (.ref p2),some (.int (n:Int)),some (.int (aS.D rs (aS.dn k))),some (.int (k:Int)),some (.int (Nat.cast i)),some (.int (aS.D (u::rs) (k::aS.dn k)))]) ?_ (λN Ea=>?_)
     case refine_2=>
      simp_all only[X5,aq,hq,ah]
      exact Ea _ _ ⟨rfl,rfl⟩
     rintro _ _ ⟨rfl,rfl⟩
     simp_all only[FE]
     refine⟨_,k,rfl,Vc,by rw[aac];omega,by rw[aac];omega,m - (k+1),by omega,Jk,S.good.ne,db,Lm,λp3 H4 s4 h4=>?_⟩
     rw[ew] at h4
     exact⟨vM.trans (Gf.trans s4),_,_,_,S2,h4,rfl,rfl,_,rfl⟩
   ·intro σ H1 bH
    refine(?_:let G_:Prop:=_;G_)
    intro G_
    obtain⟨vM,p,rs,W,S,hW,z1,z2,z3,rfl⟩:=bH
    dsimp only[G_]
    exact hN _ _ ⟨vM,p,rs,W,S,hW,_,_,_,rfl⟩
  intro _ H1 bH
  refine(?_:let G_:Prop:=_;G_)
  intro G_
  obtain⟨vM,p,rs,W,S,hW,z1,z2,z3,rfl⟩:=bH
  dsimp only[G_]
  simp_all only[]
  exact⟨by decide,λt H2 s2 nt e2=>kk t p n rs W _ S (λh=>absurd h (aaF _)) (vM.trans s2) e2 (hW.mono s2)⟩
theorem fE:aN ["rows","right","done","sign"] ["rows","right"] (ae (top 20)):=⟨rfl,rfl,rfl,by decide +kernel,rfl,by decide +kernel,by decide +kernel⟩
theorem Jl (T:Txt K mg aB tc):bS P w K mg base (bK P w) 3 "whole_answers" ["rows","right"] FH:=by
 have Dk:bS P w K mg base (bK P w) 2 "swept" ["rows","columns"] FF:=Jj T
 refine T.lB.d9 (λ_ _ _ _ _ _=>eA λ_ _=>rfl) λf fd F=>F.eC fE (λvs H Q E h=>?_) (λcG A outer s H vs Q E hr h=>?_)
 ·obtain⟨_,_,_,_,_,rfl,_⟩:=h;rfl
 ·refine(?_:let G_:Prop:=_;G_)
  intro G_
  obtain⟨a,c,L,S,n,rfl,hM,hc,lS,sq,B,kN,kS⟩:=h
  dsimp only[G_]
  have nd:=fE.nd
  refine⟨_,(af (aF (i:=2) nd rfl (Or.inl rfl) (aG Dk (hr.mono (by decide)) rfl aA.pass (aa (bW rfl (N:=["rows","right","done","sign"]) (so:=ae (top 20)) (N':=["row","side"]) (k:=2) (fr:=[]) rfl rfl ⟨rfl,by decide +kernel,by decide +kernel,by decide +kernel,rfl,by decide +kernel,by decide +kernel⟩ (jw (K:=K) rfl T.z_zip (aa (pv 0) (aa (pv 1) ao (se rfl)) (se rfl))) (λ_ _ _ _ _=>(b8 (K:=K) (n:=2) rfl (aT (aE (i:=0) (show(["row","side"]:List Str).Nodup by decide +kernel) rfl (Or.inl rfl)) (aT (aE (i:=1) (show(["row","side"]:List Str).Nodup by decide +kernel) rfl (Or.inl rfl)) bY)))) (λ_ _ _ _ _=>bJ)
   (λ_ _ _ _ _=>(aD EM (pv 0) (cY (aa (pv 1) ao (se rfl)))))) (aa (aZ bD (by rfl) T.z_len aaB (aa (pv 0) ao (se rfl)) (he:=se rfl) (hpl:=na rfl)) ao (se rfl)) (se rfl)) (he:=se rfl) (hpl:=na rfl)))
  (af (bU (aR mR (aH aK (pv 2) ag (λ_ _=>rfl)) (aZ bD (by rfl) T.z_len aaB (aa (pv 0) ao (se rfl)) (he:=se rfl) (hpl:=na rfl)) (aX _)) (ax (aQ fb))
   bB)
  (af (aF (i:=3) nd rfl (Or.inr rfl) (gJ (aR kA (aH aK (pv 2) ag (λ_ _=>rfl)) ag (aX _)) ag (yR uK ag)))
  (ax (aQ (bV (aa (bW rfl (N:=["rows","right","done","sign"]) (so:=ae (top 20)) (N':=["row","sign"]) (k:=1) (fr:=[3]) rfl rfl ⟨rfl,by decide +kernel,by decide +kernel,by decide +kernel,rfl,by decide +kernel,by decide +kernel⟩ (br (K:=K) (aH aK (pv 2) ag (λ_ _=>rfl))) (λ_ _ _ _ _=>(aE (i:=0) (show(["row","sign"]:List Str).Nodup by decide +kernel) rfl (Or.inl rfl))) (λ_ _ _ _ _=>bJ)
   (λ_ _ _ _ _=>(aD aW (aH aJ (pv 0) ag (λ_ _=>rfl)) (pv 1)))) (aa (aD aW (aH aK (pv 2) ag (λ_ _=>rfl)) (pv 3)) ao (se rfl)) (se rfl)))))))),?_⟩
  refine(?_:let cv:TS:=_;let cw:TS:=_;let cy:TS:=_;let dR:TS:=_;tSeq cv (tSeq cw (tSeq cy dR)) _ _ _)
  intro cv cw cy dR
  have sl:=sizeLine_eq
  refine(?_:let G_:Prop:=_;G_)
  intro G_
  obtain⟨xs,ha,al⟩:=id hM
  dsimp only[G_]
  have lx:=al.length
  have hl:=sq.len
  have M5:n+1<=64:=B.MS
  change tSeq _ _ _ _ _
  refine aP (λσ' H1=>az H H1/\∃t p k rs W,aS.i4 ((aS.aug L S).map aS.fo) n k rs W/\(k<n->aS.qe k rs W)/\H1 t=some (.tup [.ref p,.int (Nat.cast k),.int (aS.D rs (aS.dn k))])/\rK H1 p (W.map λv=>aS.bQ v rs k (n+1))/\σ'=[some (.ref a),some (.ref c),some (.ref t),none]) ?_ (λN hN=>?_)
  case refine_2=>
   simp_all only[FF]
   refine⟨⟨_,bj.of ha⟩,⟨_,bj.of hc⟩,?_⟩
   refine fq (K:=K) (jv (λH' s'=>bj.of (s' _ _ ha)) (λH' s'=>bj.of (s' _ _ hc))) (λi u v _=>∃r x,L[i]?=some r/\S[i]?=some x/\Rw H r u/\v=.int x) ?_ (by rw[aac];omega) (λi y H'=>∀r x,L[i]?=some r->S[i]?=some x->Rw H' (r++ [x]) y) (λ_ _ _ _ s h r x e1 e2=>(h r x e1 e2).mono s) ?_ ?_
   ·intro i v H2 H3 hi s2 dC
    refine(?_:let G_:Prop:=_;G_)
    intro G_
    obtain⟨t,x,y,nt,rfl,ex,ey,rfl⟩:=dC
    rw[aag] at ey
    obtain⟨z,ez,rfl⟩:=Option.map_eq_some_iff.mp ey
    obtain⟨r,er,hr⟩:=al.get ex
    dsimp only[G_]
    exact⟨au nt,t,_,_,rfl,d7.of ar,r,z,er,ez,hr,rfl⟩
   ·intro i u v H2 Q2 hi s2 dI kq
    refine(?_:let G_:Prop:=_;G_)
    intro G_
    obtain⟨r,x,er,ex,⟨q,rfl,hq⟩,rfl⟩:=dI
    dsimp only[G_]
    have lr:=sq.row r (aae er)
    simp_all only[HN]
    refine⟨by decide,λm nm=>⟨_,au nm _ _ (s2 _ _ hq),_,ar,by simp only[aac,aar,abe];omega,λp np=>kq _ _ ((au nm).trans (au np)) λr' x' e1 e2=>?_⟩⟩
    rw[er] at e1
    rw[ex] at e2
    cases e1
    cases e2
    exact⟨p,rfl,by rw[ar,aax];rfl⟩
   ·intro ys H2 s2 ly hy D n1 n2
    have s3:=s2.trans (au (o:=.lst ys) n2)
    have hm:rK (upd H2 D (.lst ys)) D (aS.aug L S):=by
     rw[aac] at ly
     refine⟨ys,ar,Al.of (by rw[aS.jB hl lS];omega) λi y r e1 e2=>?_⟩
     have hi:=(List.getElem?_eq_some_iff.mp e1).1
     have er:L[i]?=some L[i]:=aad (by omega)
     have ex:S[i]?=some (S.getD i 0):=by rw[aaf,aad (by omega)];rfl
     rw[aS.jA lS (by omega) er] at e2
     cases e2
     exact(hy i y e1 _ _ er ex).mono (au n2)
    refine⟨_,s3 _ _ ha,aS.aug L S,n,by omega,hm,n+1,B,λt p k rs W H3 St yK s4 h4 h5=>hN _ _ ⟨s3.trans s4,t,p,k,rs,W,St,yK,h4,h5,rfl⟩⟩
  intro _ H1 bH
  refine(?_:let G_:Prop:=_;G_)
  intro G_
  obtain⟨vM,t,p,k,rs,W,St,yK,ht,hW,rfl⟩:=bH
  dsimp only[G_]
  have X6:=vM _ _ ha
  have kn:=St.le
  change tSeq _ _ _ _ _
  refine aP (λσ' H2=>H1=H2/\k=n/\σ'=[some (.ref a),some (.ref c),some (.ref t),none]) ?_ (λN hN=>?_)
  case refine_2=>
   simp_all only[ht,X6]
   exact gC (λh=>kN k rs W _ St (by omega) (yK (by omega)) vM) (λh=>hN _ _ ⟨rfl,by omega,rfl⟩)
  intro _ _ bH
  refine(?_:let G_:Prop:=_;G_)
  intro G_
  obtain⟨rfl,rfl,rfl⟩:=bH
  dsimp only[G_]
  have d0:=St.good.ne
  change tSeq _ _ _ _ _
  refine aP (λσ' H2=>H1=H2/\σ'=[some (.ref a),some (.ref c),some (.ref t),some (.int (sj (aS.D rs (aS.dn k))))]) ?_ (λN hN=>?_)
  case refine_2=>
   simp_all only[ht]
   exact gC (λh=>hN _ _ ⟨rfl,by rw[sj,if_pos h]⟩) (λh=>hN _ _ ⟨rfl,by rw[sj,if_neg h]⟩)
  rintro _ _ ⟨rfl,rfl⟩
  refine(?_:let G_:Prop:=_;G_)
  intro G_
  obtain⟨ws,hp,aw⟩:=id hW
  dsimp only[G_]
  have lw:=aw.length
  have lW:=St.len
  rw[aac] at lw
  simp_all only[ht,hp]
  refine⟨⟨_,bj.of hp⟩,?_⟩
  have S':Src (vT K p) (az H1) W.length (λi x H H3=>H3=H/\ws[i]?=some x):=by
   have:=src_list (K:=K) (a:=p) (xs:=ws) (Ok:=az H1) (λH2 s2=>bj.of (s2 _ _ hp))
   rwa [lw] at this
  refine dE W (λv=>some (aS.D (v::rs) (k::aS.dn k)*sj (aS.D rs (aS.dn k)))) S' (λ_ _ _ _ h=>h.1) (by omega) ?_ ?_
  ·rintro i v x ev ⟨_,ex⟩ Y N y1 _
   refine(?_:let G_:Prop:=_;G_)
   intro G_
   obtain⟨r',Vd,q,rfl,hq⟩:=aw.get ex
   dsimp only[G_]
   rw[aag,ev] at Vd
   cases Vd
   have hh:=jC (r:=aS.bQ v rs k (k+1)) (by rw[aS.du];omega)
   rw[show(aS.bQ v rs k (k+1)).headD 0=aS.D (v::rs) (k::aS.dn k) from by rw[aS.dj (aaK k)];rfl] at hh
   simp_all only[gQ,hq,hh]
   exact⟨AB,y1 _ rfl⟩
  ·intro D n1 n2
   refine⟨_,au n2 _ _ ht,_,at2,_,rfl,AB,by decide,λq H2 s2 nq e2=>kS rs W q D _ St (vM.trans ((au n2).trans s2)) e2 ?_⟩
   rw[s2 _ _ ar,FG St]
theorem cO {H:Hp} {ws:List (Int×Int)} {xs:List V} {i:Nat} {a:Int×Int} (r:bf H (ws.map bz) xs) (e:ws[i]?=some a):∃p,xs[i]?=some (.ref p)/\H p=some (.tup [.int a.1,.int a.2]):=by
 obtain⟨x,ex,rx⟩:=r.at (d:=bz a) (i:=i) (by rw[aag,e];rfl)
 obtain⟨p,rfl,hp⟩:=bP.mp rx
 exact⟨p,ex,hp⟩
theorem gu:aN ["ways"] ["ways"] (ae (top 31)):=⟨rfl,rfl,rfl,by decide +kernel,rfl,by decide +kernel,by decide +kernel⟩
theorem Eb (T:Txt K mg aB tc):bS P w K mg base (bK P w) 1 "total_weight" ["ways"] t7:=by
 refine T.nU.d9 (λ_ _ _ _ _ _=>iC λ_=>rfl) λf fd F=>F.eC gu (λvs H Q E h=>?_) (λcG A outer s H vs Q E hr h=>?_)
 ·obtain⟨_,_,rfl,_⟩:=h;rfl
 ·refine(?_:let G_:Prop:=_;G_)
  intro G_
  obtain⟨a,ws,rfl,rf,l5,kk⟩:=h
  dsimp only[G_]
  have nd:=gu.nd
  refine⟨_,(ax (aQ (gJ (aR kA (aZ bD (by rfl) T.z_len aaB (aa (pv 0) ao (se rfl)) (he:=se rfl) (hpl:=na rfl)) ag (aX _)) (aZ (kG (K:=K)) (by rfl) T.z_sum rfl (aa (bW rfl (N:=["ways"]) (so:=ae (top 31)) (N':=["weight","to"]) (k:=2) (fr:=[]) rfl rfl ⟨rfl,by decide +kernel,by decide +kernel,by decide +kernel,rfl,by decide +kernel,by decide +kernel⟩ (br (K:=K) (pv 0)) (λ_ _ _ _ _=>(b8 (K:=K) (n:=2) rfl (aT (aE (i:=0) (show(["weight","to"]:List Str).Nodup by decide +kernel) rfl (Or.inl rfl)) (aT (aE (i:=1) (show(["weight","to"]:List Str).Nodup by decide +kernel) rfl (Or.inl rfl)) bY)))) (λ_ _ _ _ _=>bJ)
   (λ_ _ _ _ _=>(pv 0))) ao (se rfl)) (he:=se rfl) (hpl:=na rfl)) ag))),?_⟩
  refine(?_:let G_:Prop:=_;G_)
  intro G_
  obtain⟨_,xs,e,ha,rl⟩:=aO.mp rf
  dsimp only[G_]
  cases e
  have lx:=rl.length
  rw[aac] at lx
  simp_all only[]
  refine⟨xs,ha,?_⟩
  by_cases c:ws=[]
  ·subst c
   have l0:xs.length=0:=lx.symm
   rw[if_neg (by omega)]
   exact kk _ (az.refl _)
  ·have l0:=List.length_pos_iff.mpr c
   rw[if_pos (by omega)]
   refine⟨⟨_,bj.of ha⟩,?_⟩
   have S:Src (vT K a) (az H) ws.length (λi x H H3=>H3=H/\xs[i]?=some x):=by rw[lx];exact src_list (λH' s'=>bj.of (s' _ _ ha))
   refine iX ws (λp=>some p.1) S (λ_ _ _ _ h=>h.1) (by rw[sizeLine_eq];omega) ?_ ?_
   ·rintro i p x ep ⟨_,ex⟩
    refine(?_:let G_:Prop:=_;G_)
    intro G_
    obtain⟨t,et,ht⟩:=cO rl ep
    dsimp only[G_]
    rw[ex] at et
    cases et
    refine⟨t,_,_,rfl,d7.of ht,λY N y1 _=>?_⟩
    simp_all only[gQ]
    exact y1 _ rfl
   ·intro D n1 n2
    rw[en]
    have:=kk _ (au (o:=.lst (List.map V.int (ws.map λp=>p.1))) n2)
    unfold Dg.tt at this
    rw[if_neg c] at this
    exact⟨_,bj.of ar,this⟩
theorem qr (q:Int) (ws:Dg.Wy) (x:Int×Int):Dg.i3 q (ws++ [x])=Dg.i3 q ws+if x.2=q then x.1 else 0:=by
 unfold Dg.i3
 rw[aax,List.sum_append]
 simp
theorem jH:aN ["part","ways","spots","spot","place","rows","row","weight","to"] ["part","ways"] (ae (top 32)):=⟨rfl,rfl,rfl,by decide +kernel,rfl,by decide +kernel,by decide +kernel⟩
theorem Gh (T:Txt K mg aB tc):bS P w K mg base (bK P w) 2 "part_rows" ["part","ways"] AE:=by
 have eL:bS P w K mg base (bK P w) 1 "total_weight" ["ways"] t7:=Eb T
 refine T.tK.d9 (λ_ _ _ _ _ _=>eA λ_ _=>rfl) λf fd F=>F.eC jH (λvs H Q E h=>?_) (λcG A outer s H vs Q E hr h=>?_)
 ·obtain⟨_,_,_,_,_,rfl,_⟩:=h;rfl
 ·refine(?_:let G_:Prop:=_;G_)
  intro G_
  obtain⟨x,wl,ps,xs,fN,rfl,hx,hw,rl,G9,l40,lZ,w5,kk⟩:=h
  dsimp only[G_]
  clear G_
  have nd:=jH.nd
  refine⟨_,(af (aF (i:=2) nd rfl (Or.inl rfl) zb)
  (af (cf PassesOwn.never rfl (cS (K:=K) rfl T.z_enumerate (aa (pv 0) ao (se rfl))) (b8 (K:=K) (n:=2) rfl (aT (aE (i:=3) nd rfl (Or.inl rfl)) (aT (aE (i:=4) nd rfl (Or.inl rfl)) bY))) (ax (v7 (pP hr) (pv 2) (pv 4) (pv 3) rfl)))
  (af (aF (i:=5) nd rfl (Or.inl rfl) (cY ao))
  (af (cf PassesOwn.never rfl (cS (K:=K) rfl T.z_enumerate (aa (pv 0) ao (se rfl))) (b8 (K:=K) (n:=2) rfl (aT (aE (i:=3) nd rfl (Or.inl rfl)) (aT (aE (i:=4) nd rfl (Or.inl rfl)) bY))) (af (aF (i:=6) nd rfl (Or.inl rfl) (aD qG (cY (aa ag ao (se rfl))) (aZ bD (by rfl) T.z_len aaB (aa (pv 0) ao (se rfl)) (he:=se rfl) (hpl:=na rfl))))
  (af (dU (aG eL (hr.mono (by decide)) rfl aA.pass (aa (aH aJ (pv 1) (pv 4) (λ_ _=>rfl)) ao (se rfl)) (he:=se rfl) (hpl:=na rfl)) (fc (pv 6) (pv 3) set_list))
  (af (cf PassesOwn.never rfl (br (K:=K) (aH aJ (pv 1) (pv 4) (λ_ _=>rfl))) (b8 (K:=K) (n:=2) rfl (aT (aE (i:=7) nd rfl (Or.inl rfl)) (aT (aE (i:=8) nd rfl (Or.inl rfl)) bY))) (ax (bU (uG (za (pP hr) (pv 8) (pv 2))) (ax (BV (pv 6) (Cf (pP hr) (pv 2) (pv 8) (λ_ _=>rfl)) zS (pv 7) EA set_list))
   bB)))
  (ax (c7 (eF aaP aa9 aba cB.r (pv 5) (aa (pv 6) ao (se rfl)))))))))
  (ax (aQ (pv 5))))))),?_⟩
  refine(?_:let cv:TS:=_;let cw:TS:=_;let cy:TS:=_;let dR:TS:=_;let jG:TS:=_;tSeq cv (tSeq cw (tSeq cy (tSeq dR jG))) _ _ _)
  intro cv cw cy dR jG
  have sl:=sizeLine_eq
  have lx:=rl.length
  rw[aac] at lx
  change tSeq _ _ _ _ _
  refine aP (λσ' H1=>∃d,az H H1/\H d=none/\H1 d=some (.dK [])/\σ'=[some (.ref x),some (.ref wl),some (.ref d),none,none,none,none,none,none]) ?_ (λN hN=>?_)
  case refine_2=>
   simp_all only[]
   exact λd n1=>hN _ _ ⟨d,au n1,n1,ar,rfl⟩
  intro _ H1 bH
  refine(?_:let G_:Prop:=_;G_)
  intro G_
  obtain⟨d,s1,n1,hd,rfl⟩:=bH
  dsimp only[G_]
  clear G_
  change tSeq _ _ _ _ _
  refine aP (λσ' H2=>az H H2/\H2 d=some (.dK (gU ps))/\∃z3 z4,σ'=[some (.ref x),some (.ref wl),some (.ref d),z3,z4,none,none,none,none]) ?_ (λN hN=>?_)
  case refine_2=>
   simp_all only[]
   refine⟨⟨_,bj.of (s1 _ _ hx)⟩,bL (ft (K:=K) (a:=x) (xs:=ps.map V.int) (Ok:=az H) (λH' s=>bj.of (s _ _ hx))) (λi σ H3=>az H H3/\H3 d=some (.dK (gU (ps.take i)))/\∃z3 z4,σ=[some (.ref x),some (.ref wl),some (.ref d),z3,z4,none,none,none,none]) ⟨s1,hd,_,_,rfl⟩ (λ_ _ _ _ h=>h.1) ?_ ?_⟩
   ·intro i y σ H3 H4 hi dC dI
    refine(?_:let G_:Prop:=_;G_)
    intro G_
    obtain⟨s3,Ln,z3,z4,rfl⟩:=dC
    obtain⟨q,y,nq,rfl,ey,rfl⟩:=dI
    dsimp only[G_]
    clear G_
    rw[aac] at hi
    have ep:ps[i]?=some (ps.getD i 0):=by rw[aaf,aad hi];rfl
    rw[aag,ep] at ey
    cases ey
    refine⟨q,_,rfl,d7.of ar,rfl,?_⟩
    have s4:=au (o:=.tup [.int (i:Int),.int (ps.getD i 0)]) nq
    generalize upd H3 q (.tup [.int (i:Int),.int (ps.getD i 0)])=H4 at *
    have MR:ps.getD i 0∉ps.take i:=by
     intro z
     refine(?_:let G_:Prop:=_;G_)
     intro G_
     obtain⟨j,hj,ej⟩:=aa5 z
     dsimp only[G_]
     rw[aaX] at hj
     rw[List.getElem_take] at ej
     have eg:ps.getD i 0=ps[i]:=by rw[aaf,aad hi];rfl
     have:=(abj G9).mp (ej.trans eg)
     omega
    have pt:=uZ.k (k:=Sum.inl (ps.getD i 0)) (v:=.int (i:Int)) (s4 _ _ Ln) (by unfold gU;rw[aac,aaA,aaX];omega)
    rw[sO _ (t8 MR),<-yt hi] at pt
    simp_all only[]
    exact⟨_,pt,ba (s3.trans s4) n1,ar,_,rfl⟩
   ·intro σ H3 bH
    refine(?_:let G_:Prop:=_;G_)
    intro G_
    obtain⟨s3,Ln,z3,z4,rfl⟩:=bH
    dsimp only[G_]
    rw[aac,aaJ (aah _)] at Ln
    exact hN _ _ ⟨s3,Ln,_,_,rfl⟩
  intro _ H2 bH
  refine(?_:let G_:Prop:=_;G_)
  intro G_
  obtain⟨s2,hd2,z3,z4,rfl⟩:=bH
  dsimp only[G_]
  clear G_
  change tSeq _ _ _ _ _
  refine aP (λσ' H3=>∃r,az H2 H3/\H2 r=none/\H3 r=some (.lst [])/\σ'=[some (.ref x),some (.ref wl),some (.ref d),z3,z4,some (.ref r),none,none,none]) ?_ (λN hN=>?_)
  case refine_2=>
   simp_all only[]
   exact⟨aas _,λr n3=>hN _ _ ⟨r,au n3,n3,ar,rfl⟩⟩
  intro _ H3 bH
  refine(?_:let G_:Prop:=_;G_)
  intro G_
  obtain⟨r,s3,nr,X7,rfl⟩:=bH
  dsimp only[G_]
  clear G_
  change tSeq _ _ _ _ _
  refine aP (λσ' H4=>az H2 H4/\(∃L,rK H4 r L/\Dg.o9 ps (cu fN) L)/\∃z3 z4 z6 z7 z8,σ'=[some (.ref x),some (.ref wl),some (.ref d),z3,z4,some (.ref r),z6,z7,z8]) ?_ (λN hN=>?_)
  case refine_2=>
   simp_all only[]
   refine⟨⟨_,bj.of (s3 _ _ (s2 _ _ hx))⟩,bL (ft (K:=K) (a:=x) (xs:=ps.map V.int) (Ok:=az H2) (λH' s=>bj.of (s _ _ (s2 _ _ hx)))) (λi σ H4=>az H2 H4/\(∃(Ls:List (List Int)) (ys:List V),H4 r=some (.lst ys)/\Al (Rw (cF H4 r)) Ls ys/\Ls.length=i/\(∀row∈Ls,row.length=ps.length)/\∀a j,a<i->j<ps.length->(Ls.getD a []).getD j 0=(if a=j then Dg.tt (cu fN (ps.getD a 0)) else 0) - Dg.i3 (ps.getD j 0) (cu fN (ps.getD a 0)))/\∃z3 z4 z6 z7 z8,σ=[some (.ref x),some (.ref wl),some (.ref d),z3,z4,some (.ref r),z6,z7,z8]) ⟨s3,⟨[],[],X7,trivial,rfl,by simp,λa j h=>absurd h (abc _)⟩,_,_,_,_,_,rfl⟩ (λ_ _ _ _ h=>h.1) ?_ ?_⟩
   ·intro i y σ H4 H5 hi dC dI
    refine(?_:let G_:Prop:=_;G_)
    intro G_
    obtain⟨s4,⟨Ls,ys,Lo,Lp,ll,Gi,Dl⟩,z3,z4,z6,z7,z8,rfl⟩:=dC
    obtain⟨q,y,nq,rfl,ey,rfl⟩:=dI
    dsimp only[G_]
    clear G_
    rw[aac] at hi
    have ep:ps[i]?=some (ps.getD i 0):=by rw[aaf,aad hi];rfl
    rw[aag,ep] at ey
    cases ey
    have mp:ps.getD i 0∈ps:=aae ep
    obtain⟨p0,p1⟩:=lZ _ mp
    have ew:fN[(ps.getD i 0).toNat]?=some (cu fN (ps.getD i 0)):=by unfold cu;rw[aaf (l:=fN),aad (show(ps.getD i 0).toNat<fN.length by omega)];rfl
    have X8:=w5 _ (aae ew)
    generalize hp:ps.getD i 0=p at *
    generalize Jm:cu fN p=ws at *
    refine⟨q,_,rfl,d7.of ar,rfl,?_⟩
    have s5:=au (o:=.tup [.int (i:Int),.int p]) nq
    generalize upd H4 q (.tup [.int (i:Int),.int p])=H5 at *
    obtain⟨v,ev,rv⟩:=rl.at (d:=qg ws) (i:=p.toNat) (by rw[aag,ew];rfl)
    refine(?_:let G_:Prop:=_;G_)
    intro G_
    obtain⟨wv,us,rfl,Dm,ru⟩:=aO.mp rv
    dsimp only[G_]
    clear G_
    have Gj:fK xs p=some (.ref wv):=by have:=bC ev;rwa [Int.toNat_of_nonneg p0] at this
    have lu:=ru.length
    rw[aac] at lu
    simp_all only[y8,t7]
    have Ve:=s4.trans s5
    refine⟨by decide,λm1 k1=>?_⟩
    have s6:=au (o:=.lst [.int 0]) k1
    have h6:upd H5 m1 (.lst [.int 0]) m1=some (.lst [.int 0]):=ar
    generalize upd H5 m1 (.lst [.int 0])=H6 at *
    have Vf:(ps.map V.int).length=ps.length:=aac ..
    refine⟨_,s6 _ _ (Ve _ _ (s2 _ _ hx)),_,h6,by omega,by omega,by rw[Vf,aai];show 1*ps.length<=_;omega,λro k2=>?_⟩
    rw[Vf,aai,List.flatten_replicate_singleton]
    have s7:=au (o:=.lst (List.replicate ps.length (V.int 0))) k2
    have h7:upd H6 ro (.lst (List.replicate ps.length (V.int 0))) ro=some (.lst ((List.replicate ps.length 0).map V.int)):=by rw[ar,List.map_replicate]
    generalize upd H6 ro (.lst (List.replicate ps.length (V.int 0)))=H7 at *
    have Ha:=Ve.trans s6
    have Vg:=Ha.trans s7
    refine⟨_,Vg _ _ (s2 _ _ hw),_,Gj,wv,rfl,ws,rv.mono (s2.trans Vg),X8,λH8 s8=>⟨_,s8 _ _ h7,i,fZ (by rw[aac,aaR];exact hi),?_⟩⟩
    rw[<-List.map_set]
    have s9:az H6 (upd H8 ro (.lst (((List.replicate ps.length 0).set i (Dg.tt ws)).map V.int))):=ba (s7.trans s8) k2
    have h9:upd H8 ro (.lst (((List.replicate ps.length 0).set i (Dg.tt ws)).map V.int)) ro=some (.lst (((List.replicate ps.length 0).set i (Dg.tt ws)).map V.int)):=ar
    generalize upd H8 ro (.lst (((List.replicate ps.length 0).set i (Dg.tt ws)).map V.int))=H9 at *
    have X9:=Ha.trans s9
    have Vh:=s2.trans X9
    refine⟨_,Vh _ _ hw,_,Gj,wv,rfl,⟨_,bj.of (Vh _ _ Dm)⟩,bL (src_list (K:=K) (a:=wv) (xs:=us) (Ok:=az H6) (λH' s'=>bj.of ((s2.trans (Ha.trans s')) _ _ Dm))) (λt σ HA=>az H6 HA/\(∃i5:List Int,HA ro=some (.lst (i5.map V.int))/\i5.length=ps.length/\∀j,j<ps.length->i5.getD j 0=(if i=j then Dg.tt ws else 0) - Dg.i3 (ps.getD j 0) (ws.take t))/\∃z7 z8,σ=[some (.ref x),some (.ref wl),some (.ref d),some (.int (i:Int)),some (.int p),some (.ref r),some (.ref ro),z7,z8]) ⟨s9,⟨_,h9,by rw[aaT,aaR],λj hj=>?_⟩,_,_,rfl⟩ (λ_ _ _ _ h=>h.1) ?_ ?_⟩
    ·show _=_ - 0
     by_cases c:i=j
     ·subst c
      rw[Dg.gS (by rw[aaR];exact hj),if_pos rfl]
      omega
     ·rw[Dg.eV c,if_neg c,aaf,List.getElem?_replicate,if_pos hj]
      rfl
    ·intro t y σ HA HB ht dC dI
     refine(?_:let G_:Prop:=_;G_)
     intro G_
     obtain⟨sA,⟨i5,Jn,Lq,ent⟩,z7,z8,rfl⟩:=dC
     obtain⟨rfl,ey⟩:=dI
     have et:ws[t]?=some ws[t]:=aad (by omega)
     obtain⟨ta,eta,Yb⟩:=cO (ru.mono (s2.trans (Ha.trans sA))) et
     dsimp only[G_]
     clear G_
     rw[ey] at eta
     cases eta
     refine⟨ta,_,rfl,d7.of Yb,rfl,?_⟩
     have tk:ws.take (t+1)=ws.take t++ [ws[t]]:=by rw[aaE,et];rfl
     generalize ws[t]=xw at *
     have Vi:=(Ha.trans sA) _ _ hd2
     simp_all only[DC,Ud]
     by_cases c:xw.2∈ps
     ·have lt:=aa3 c
      have M9:ps.getD (ps.idxOf xw.2) 0=xw.2:=by rw[aaf,aad lt,aa8 lt];rfl
      have sv:=AF G9 lt
      rw[M9] at sv
      have gt:jV HB d (.int xw.2) (some (.int (ps.idxOf xw.2:Nat))):=.inl ⟨_,Sum.inl xw.2,.inl Vi,rfl,sv.symm⟩
      refine⟨some (.int (ps.idxOf xw.2:Nat)),gt,?_⟩
      rw[if_pos (by rfl)]
      generalize hk:ps.idxOf xw.2=k at *
      have Yc:fK (i5.map V.int) (k:Int)=some (.int (i5.getD k 0)):=by have:=dN (ns:=i5) (i:=(k:Int)) (by omega) (by omega);rwa [aai] at this
      refine⟨_,gt,_,_,rfl,Jn,_,Yc,_,rfl,_,_,rfl,Jn,k,fZ (by rw[aac];omega),ba sA k2,⟨i5.set k (i5.getD k 0 - xw.1),by rw[ar,List.map_set],by rw[aaT];exact Lq,λj hj=>?_⟩,_,rfl⟩
      rw[tk,qr]
      by_cases cj:k=j
      ·subst cj
       rw[Dg.gS (by omega),ent k hj,if_pos M9.symm]
       omega
      ·rw[Dg.eV cj,ent j hj,if_neg (show ¬xw.2=ps.getD j 0 from λz=>cj ?_)]
       ·omega
       ·have ej:ps.getD j 0=ps[j]:=by rw[aaf,aad hj];rfl
        have ek:ps.getD k 0=ps[k]:=by rw[aaf,aad lt];rfl
        exact(abj G9).mp (by rw[<-ek,<-ej,M9,z])
     ·refine⟨none,.inl ⟨_,Sum.inl xw.2,.inl Vi,rfl,(t8 c).symm⟩,?_⟩
      rw[if_neg (by simp)]
      refine⟨sA,⟨i5,Jn,Lq,λj hj=>?_⟩,_,rfl⟩
      have mj:ps.getD j 0∈ps:=by rw[aaf,aad hj];exact aao hj
      rw[ent j hj,tk,qr,if_neg (show ¬xw.2=ps.getD j 0 from λz=>c (by rw[z];exact mj))]
      omega
    ·intro σ HA bH
     refine(?_:let G_:Prop:=_;G_)
     intro G_
     obtain⟨sA,⟨i5,Jn,Lq,ent⟩,z7,z8,rfl⟩:=bH
     dsimp only[G_]
     rw[aaJ (by omega)] at ent
     simp_all only[c8]
     have Vj:=s5.trans (s6.trans sA)
     have Vk:=Vj _ _ Lo
     have Yd:ro≠r:=λz=>by rw[z,(s5.trans s6) _ _ Lo] at k2;cases k2
     have ly:=Lp.length
     refine⟨.inl ⟨rfl,_,bj.of Vk⟩,ys,Vk,by omega,ba (Ha.trans sA) nr,⟨Ls++ [i5],ys++ [.ref ro],ar,Rw.push (Lp.imp λ_ _ k=>k.mono (bI Vj)) Jn Yd,by rw[aaD,ll];rfl,λrow Gg=>?_,λa j ha hj=>?_⟩,_,rfl⟩
     ·rcases List.mem_append.mp Gg with h | h
      ·exact Gi row h
      ·rw[List.mem_singleton.mp h];exact Lq
     ·by_cases c:a=i
      ·subst c
       rw[show(Ls++ [i5]).getD a []=i5 from by rw[aaf,aaY (by omega),ll,Nat.sub_self];rfl,hp,Jm]
       exact ent j hj
      ·rw[show(Ls++ [i5]).getD a []=Ls.getD a [] from by rw[aaf,aaZ (by omega),<-aaf]]
       exact Dl a j (by omega) hj
   ·intro σ H4 bH
    refine(?_:let G_:Prop:=_;G_)
    intro G_
    obtain⟨s4,⟨Ls,ys,Lo,Lp,ll,Gi,Dl⟩,z3,z4,z6,z7,z8,rfl⟩:=bH
    dsimp only[G_]
    rw[aac] at ll Dl
    exact hN _ _ ⟨s4,⟨Ls,⟨ys,Lo,Lp.imp λ_ _ k=>k.mono bO⟩,ll,Gi,Dl⟩,_,_,_,_,_,rfl⟩
  intro _ H4 bH
  refine(?_:let G_:Prop:=_;G_)
  intro G_
  obtain⟨s4,⟨L,h1,h2⟩,z3,z4,z6,z7,z8,rfl⟩:=bH
  dsimp only[G_]
  simp_all only[]
  exact kk _ _ _ (s2.trans s4) h1 h2
theorem eY:aN ["one","other","rest"] ["one","other"] (ae (top 12)):=⟨rfl,rfl,rfl,by decide +kernel,rfl,by decide +kernel,by decide +kernel⟩
theorem Ec (T:Txt K mg aB tc):bS P w K mg base (bK P w) 1 "common_divisor" ["one","other"] yu:=by
 refine T.j6.d9 (λ_ _ _ _ _ _=>eA λ_ _=>rfl) λf fd F=>F.eC eY (λvs H Q E h=>?_) (λcG A outer s H vs Q E hr h=>?_)
 ·obtain⟨_,_,rfl,_⟩:=h;rfl
 ·refine(?_:let G_:Prop:=_;G_)
  intro G_
  obtain⟨a,b,rfl,k⟩:=h
  dsimp only[G_]
  have nd:=eY.nd
  refine⟨_,(af (aF (i:=0) nd rfl (Or.inl rfl) (aZ mT (by rfl) T.z_abs rfl (aa (pv 0) ao (se rfl)) (he:=se rfl) (hpl:=na rfl)))
  (af (aF (i:=1) nd rfl (Or.inl rfl) (aZ mT (by rfl) T.z_abs rfl (aa (pv 1) ao (se rfl)) (he:=se rfl) (hpl:=na rfl)))
  (af (gK PassesOwn.never (aR vX (pv 1) ag (aX _)) (af (aF (i:=2) nd rfl (Or.inl rfl) (aD cn (pv 0) (pv 1)))
  (af (aF (i:=0) nd rfl (Or.inl rfl) (pv 1))
  (ax (aF (i:=1) nd rfl (Or.inl rfl) (pv 2))))))
  (ax (aQ (pv 0)))))),?_⟩
  refine(?_:let cv:TS:=_;let cw:TS:=_;let cy:TS:=_;let dR:TS:=_;tSeq cv (tSeq cw (tSeq cy dR)) _ _ _)
  intro cv cw cy dR
  simp_all only[]
  refine sI (λσ H1=>H1=H/\∃(x y:Int) (z:Option V),σ=[some (.int x),some (.int y),z]/\0<=x/\0<=y/\Nm.g x y=Nm.g a b) (λσ _=>match σ with | [_,some (.int y),_]=>y.toNat | _=>0) ?_ ?_ ?_
  ·refine⟨rfl,_,_,_,rfl,?_,?_,?_⟩
   ·split <;>omega
   ·split <;>omega
   ·rw[show(if a<0 then -a else a)=(a.natAbs:Int) by split <;>omega,show(if b<0 then -b else b)=(b.natAbs:Int) by split <;>omega,Nm.zf,Nm.v9]
  ·intro σ H1 bH
   refine(?_:let G_:Prop:=_;G_)
   intro G_
   obtain⟨rfl,x,y,z,rfl,x0,y0,e⟩:=bH
   dsimp only[G_]
   simp_all only[]
   refine gC (λc=>?_) (λc=>?_)
   ·refine⟨by omega,y0,aaG _ (by omega),by rw[Nm.zg x0 (by omega),e],?_⟩
    have:=aaQ x (show 0<y by omega)
    have:=aaG x (show y≠0 by omega)
    omega
   ·have z:y=0:=by omega
    subst z
    rw[Nm.zh x0] at e
    rw[e]
    exact k
  ·intro σ H1 Q1 Q2 hq hc
   simp only[L2.start,Pr,tRev,tD1,tDPop1,tSl,tNoPart,tPart,rSlL,tDIn,tDNotIn,gSub,rSetL,tLst,tDNewK,tComp,L2.stC,tFor_eq,iList,iTup,iRng1,iRng2,iZip,iEnum,iDict,iStr,tChain,tSumV,tBM,rJoin,tJoined,jNil,jLit,jInt,jStr,tRaise,tDGet,tDGet2,tDGet1,sDPut,Option.join_some,List.getElem?_nil,tSeq,tRet,tRetN,tIfS,tTest,tB,tOp,tUn,tVar,tC,tCB,tCons,tNil,tCall,tTupS,tAsg,gName,gNil,gCons,tPar,tNext,tDrop,tAnd,tOr,tNot,tAndV,tOrV,tNotV,tIf,rI,rI0,rU,rIxTH,rIxLH,rEqT,rNeT,rInT,rEq,rNe,scal_ss,scal_ii,scal_bb,scal_si,scal_is,CPow,at0,at1,at2,aat,aa0,aar,abe,Nat.reduceSub,Nat.reduceAdd,aa1,abx,List.reduceReplicate,aa6,List.nil_append,abr,abt,abk,abg,abh,abu,exists_eq_left',exists_eq_left,V.ref.injEq,V.int.injEq,V.bl.injEq,V.str.injEq,V.ty.injEq,HO.tup.injEq,HO.lst.injEq,List.cons.injEq,and_true,true_and,and_assoc,exists_and_left,decide_eq_true_eq,Bool.not_eq_true',decide_eq_false_iff_not,ite_true,ite_false,if_true,if_false,Int.reduceToNat,eq_self_iff_true] at hc ⊢
   refine(?_:let G_:Prop:=_;G_)
   intro G_
   obtain⟨v,e1,e2,q⟩:=hc
   dsimp only[G_]
   exact⟨v,e1,e2,hq _ _ q⟩
theorem fF:aN ["several","common","one"] ["several"] (ae (top 14)):=⟨rfl,rfl,rfl,by decide +kernel,rfl,by decide +kernel,by decide +kernel⟩
theorem Jo (T:Txt K mg aB tc):bS P w K mg base (bK P w) 2 "common_bottom" ["several"] FL:=by
 have dJ:bS P w K mg base (bK P w) 1 "common_divisor" ["one","other"] yu:=Ec T
 refine T.lh.d9 (λ_ _ _ _ _ _=>iC λ_=>rfl) λf fd F=>F.eC fF (λvs H Q E h=>?_) (λcG A outer s H vs Q E hr h=>?_)
 ·obtain⟨_,_,_,rfl,_⟩:=h;rfl
 ·refine(?_:let G_:Prop:=_;G_)
  intro G_
  obtain⟨a,ws,Z,rfl,rf,lw,dv,Z0,bZ,kk⟩:=h
  dsimp only[G_]
  have nd:=fF.nd
  refine⟨_,(af (aF (i:=1) nd rfl (Or.inl rfl) ag)
  (af (cf PassesOwn.never rfl (br (K:=K) (pv 0)) (aE (i:=2) nd rfl (Or.inl rfl)) (ax (aF (i:=1) nd rfl (Or.inl rfl) (aD aW (aD dq (pv 1) (aG dJ (hr.mono (by decide)) rfl aA.pass (aa (pv 1) (aa (aH aK (pv 2) ag (λ_ _=>rfl)) ao (se rfl)) (se rfl)) (he:=se rfl) (hpl:=na rfl))) (aH aK (pv 2) ag (λ_ _=>rfl))))))
  (ax (aQ (pv 1))))),?_⟩
  refine(?_:let cv:TS:=_;let cw:TS:=_;let cy:TS:=_;tSeq cv (tSeq cw cy) _ _ _)
  intro cv cw cy
  refine(?_:let G_:Prop:=_;G_)
  intro G_
  obtain⟨_,xs,e,ha,rl⟩:=aO.mp rf
  dsimp only[G_]
  cases e
  have lx:=rl.length
  rw[aac] at lx
  simp_all only[yu]
  refine⟨⟨_,bj.of ha⟩,bL (src_list (Ok:=λH'=>H'=H) (λH2 s2=>by rw[s2];exact bj.of ha)) (λi σ H'=>H'=H/\∃z,σ=[some (V.ref a),some (V.int (Wq.fi 1 (ws.take i))),z]) ⟨rfl,_,rfl⟩ (λ_ _ _ _ h=>h.1) ?_ ?_⟩
  ·intro i v σ H1 H2 hi dC dI
   refine(?_:let G_:Prop:=_;G_)
   intro G_
   obtain⟨rfl,z,rfl⟩:=dC
   obtain⟨rfl,ex⟩:=dI
   have uA:i<ws.length:=by omega
   have ew:ws[i]?=some ws[i]:=aad uA
   obtain⟨p,ep,hp⟩:=cO rl ew
   dsimp only[G_]
   rw[ex] at ep
   cases ep
   have tk:ws.take (i+1)=ws.take i++ [ws[i]]:=by rw[aaE,ew];rfl
   refine(?_:let G_:Prop:=_;G_)
   intro G_
   obtain⟨l1,l2,l3,l4⟩:=Wq.mw (xs:=ws.take i) (c:=1) (by decide) λx hx=>(dv x (List.mem_of_mem_take hx)).1
   dsimp only[G_]
   have lz:=l4 (Z:=Z) ⟨Z,by omega⟩ λx hx=>(dv x (List.mem_of_mem_take hx)).2
   have dw:=dv _ (aao uA)
   have b1:Bt 2000 (Wq.fi 1 (ws.take i)):=bZ.le (by have:=Int.le_of_dvd Z0 lz;omega)
   have b2:Bt 2000 (ws[i]).2:=bZ.le (by have:=Int.le_of_dvd Z0 dw.2;omega)
   have g0:0<Nm.g (Wq.fi 1 (ws.take i)) (ws[i]).2:=Nm.iF (by omega)
   have bg:Bt 2000 (Nm.g (Wq.fi 1 (ws.take i)) (ws[i]).2):=b2.le (by have:=Nm.EV (a:=Wq.fi 1 (ws.take i)) dw.1;omega)
   simp_all only[yu,hp]
   exact⟨eO.of g0 bg,Bt.dD (b1.le (Nm.dO g0 (Nm.js _ _))) b2,by rw[tk,Wq.qa];rfl,_,rfl⟩
  ·intro σ H1 bH
   refine(?_:let G_:Prop:=_;G_)
   intro G_
   obtain⟨rfl,z,rfl⟩:=bH
   dsimp only[G_]
   simp_all only[]
   rw[aaJ (by omega)]
   exact kk
theorem uq:aN ["top","bottom","divisor"] ["top","bottom"] (ae (top 13)):=⟨rfl,rfl,rfl,by decide +kernel,rfl,by decide +kernel,by decide +kernel⟩
theorem Jp (T:Txt K mg aB tc):bS P w K mg base (bK P w) 2 "share" ["top","bottom"] FK:=by
 have dJ:bS P w K mg base (bK P w) 1 "common_divisor" ["one","other"] yu:=Ec T
 refine T.CF.d9 (λ_ _ _ _ _ _=>eA λ_ _=>rfl) λf fd F=>F.eC uq (λvs H Q E h=>?_) (λcG A outer s H vs Q E hr h=>?_)
 ·obtain⟨_,_,rfl,_⟩:=h;rfl
 ·refine(?_:let G_:Prop:=_;G_)
  intro G_
  obtain⟨a,b,rfl,bt,b0,kq⟩:=h
  dsimp only[G_]
  have nd:=uq.nd
  refine⟨_,(af (bU (aR cQ (pv 1) ag (aX _)) (ax mO)
   bB)
  (af (aF (i:=2) nd rfl (Or.inl rfl) (aG dJ (hr.mono (by decide)) rfl aA.pass (aa (pv 0) (aa (pv 1) ao (se rfl)) (se rfl)) (he:=se rfl) (hpl:=na rfl)))
  (af (bU (aR mR (pv 1) ag (aX _)) (ax (aF (i:=2) nd rfl (Or.inl rfl) (yR uK (pv 2))))
   bB)
  (ax (aQ (bV (aa (aD dq (pv 0) (pv 2)) (aa (aD dq (pv 1) (pv 2)) ao (se rfl)) (se rfl)))))))),?_⟩
  refine(?_:let cv:TS:=_;let cw:TS:=_;let cy:TS:=_;let dR:TS:=_;tSeq cv (tSeq cw (tSeq cy dR)) _ _ _)
  intro cv cw cy dR
  have g0:0<Nm.g a b:=Nm.iF (by omega)
  have gb:Bt 5000 (Nm.g a b):=bt.le (by have:=Nm.zi (a:=a) (show b≠0 by omega);omega)
  unfold Nm.st Nm.sb at kq
  rw[if_neg (show ¬b<0 by omega),if_neg (show ¬b<0 by omega)] at kq
  simp_all only[yu]
  rw[if_neg (by omega),if_neg (by omega)]
  exact⟨eO.of g0 gb,eO.of g0 gb,by decide,λp H2 s1 n1 e=>kq p H2 s1 n1 e⟩
theorem oH:aN ["place"] ["place"] (ae (top 34)):=⟨rfl,rfl,rfl,by decide +kernel,rfl,by decide +kernel,by decide +kernel⟩
theorem Jq (T:Txt K mg aB tc):bS P w K mg base (bK P w) 1 "gain_of" ["place"] FN:=by
 refine T.yk.d9 (λ_ _ _ _ _ _=>iC λ_=>rfl) λf fd F=>F.eC oH (λvs H Q E h=>?_) (λcG A outer s H vs Q E hr h=>?_)
 ·obtain⟨_,_,rfl,_⟩:=h;rfl
 ·refine(?_:let G_:Prop:=_;G_)
  intro G_
  obtain⟨a,q,rfl,rq,kk⟩:=h
  dsimp only[G_]
  have nd:=oH.nd
  refine⟨_,(ax (aQ (gJ (aR cQ (aH aK (pv 0) ag (λ_ _=>rfl)) cX (aX _)) (bV (aa ag (aa ag ao (se rfl)) (se rfl))) (aH aK (pv 0) ag (λ_ _=>rfl))))),?_⟩
  cases q with
  | fin g=>
   refine(?_:let G_:Prop:=_;G_)
   intro G_
   obtain⟨t',r,e,jh,uC⟩:=cM.mp rq
   dsimp only[G_]
   cases e
   simp_all only[jh]
   rw[if_neg (by decide +kernel)]
   exact kk _ _ (az.refl _) uC
  | cP g ws=>
   refine(?_:let G_:Prop:=_;G_)
   intro G_
   obtain⟨t',r,l,zs,e,jh,uC,qS,rz⟩:=cI.mp rq
   dsimp only[G_]
   cases e
   simp_all only[jh]
   rw[if_neg (by decide +kernel)]
   exact kk _ _ (az.refl _) uC
  | bN w to=>
   refine(?_:let G_:Prop:=_;G_)
   intro G_
   obtain⟨t',l,e,jh,qS⟩:=cJ.mp rq
   dsimp only[G_]
   cases e
   simp_all only[jh]
   exact⟨by decide,λp H2 s2 _ e2=>kk _ _ s2 e2⟩
theorem fG:aN ["self","tops","bottom"] ["self","tops","bottom"] (ae (inClass (top 33) 0)):=⟨rfl,rfl,rfl,by decide +kernel,rfl,by decide +kernel,by decide +kernel⟩
theorem A8 (T:Txt K mg aB tc):pY P w K mg base (bK P w) 1 "Book" aB ["self","tops","bottom"] (C0 aB):=by
 refine T.CI.d9 (λ_ _ _ _ _ _=>tQ λ_ _ _=>rfl) λf fd F=>F.eC fG (λvs H Q E h=>?_) (λcG A outer s H vs Q E hr h=>?_)
 ·obtain⟨_,_,_,_,_,rfl,_⟩:=h;rfl
 ·refine(?_:let G_:Prop:=_;G_)
  intro G_
  obtain⟨x,dx,l,ts,b,rfl,hx,hl,kk⟩:=h
  dsimp only[G_]
  have nd:=fG.nd
  refine⟨_,(af (yW (pv 0) (ia (dM (K:=K)) (by rfl) T.z_list rfl (aa (pv 1) ao (se rfl)) (he:=se rfl) (hpl:=na rfl)) rfl)
  (ax (yW (pv 0) (pv 2) rfl))),?_⟩
  simp_all only[Hz]
  refine⟨_,.inl (bj.of hl),λm nm=>?_⟩
  have mx:m≠x:=λz=>by rw[z,hx] at nm;cases nm
  have Ye:upd H m (.lst (ts.map V.int)) x=some (.ins aB dx []):=by rw[aI (Ne.symm mx)];exact hx
  refine⟨_,_,_,Ye,T.cC,T.na_Book_tops,by decide,_,_,_,ar,T.cC,T.na_Book_bottom,by show(1:Nat)<1000;decide,?_⟩
  refine kk m _ nm ?_ ?_ ?_
  ·rw[aI mx,aI mx,ar]
  ·rw[ar]
   show some (HO.ins aB dx (if Str.ofString "tops"=Str.ofString "bottom" then _ else _))=_
   rw[if_neg (by decide +kernel)]
   rfl
  ·intro y o ny hy
   have ym:y≠m:=λz=>by rw[z,nm] at hy;cases hy
   rw[aI ny,aI ny,aI ym]
   exact hy
theorem oI:aN ["several","bottom"] ["several"] (ae (top 35)):=⟨rfl,rfl,rfl,by decide +kernel,rfl,by decide +kernel,by decide +kernel⟩
theorem Jr (T:Txt K mg aB tc):bS P w K mg base (bK P w) 3 "book_of" ["several"] (FO aB):=by
 have lH:bS P w K mg base (bK P w) 2 "common_bottom" ["several"] FL:=Jo T
 have oJ:pY P w K mg base (bK P w) 1 "Book" aB ["self","tops","bottom"] (C0 aB):=A8 T
 refine T.yn.d9 (λ_ _ _ _ _ _=>iC λ_=>rfl) λf fd F=>F.eC oI (λvs H Q E h=>?_) (λcG A outer s H vs Q E hr h=>?_)
 ·obtain⟨_,_,_,rfl,_⟩:=h;rfl
 ·refine(?_:let G_:Prop:=_;G_)
  intro G_
  obtain⟨a,ws,Z,rfl,rf,lw,dv,Z0,bZ,kk⟩:=h
  dsimp only[G_]
  clear G_
  have nd:=oI.nd
  refine⟨_,(af (aF (i:=1) nd rfl (Or.inr rfl) (aG lH (hr.mono (by decide)) rfl aA.pass (aa (pv 0) ao (se rfl)) (he:=se rfl) (hpl:=na rfl)))
  (ax (aQ (zJ oJ (hr.mono (by decide)) rfl aA.pass (aa (bW rfl (N:=["several","bottom"]) (so:=ae (top 35)) (N':=["one","bottom"]) (k:=1) (fr:=[1]) rfl rfl ⟨rfl,by decide +kernel,by decide +kernel,by decide +kernel,rfl,by decide +kernel,by decide +kernel⟩ (br (K:=K) (pv 0)) (λ_ _ _ _ _=>(aE (i:=0) (show(["one","bottom"]:List Str).Nodup by decide +kernel) rfl (Or.inl rfl))) (λ_ _ _ _ _=>bJ)
   (λ_ _ _ _ _=>(aD aW (aH aK (pv 0) ag (λ_ _=>rfl)) (aD dq (pv 1) (aH aK (pv 0) ag (λ_ _=>rfl)))))) (aa (pv 1) ao (se rfl)) (se rfl)) (he:=se rfl) (hpl:=na rfl))))),?_⟩
  simp_all only[FL,sJ]
  refine⟨ws,rf,lw,Z,λx hx=>⟨(dv x hx).1,(dv x hx).2.1⟩,Z0,bZ,?_⟩
  refine(?_:let G_:Prop:=_;G_)
  intro G_
  obtain⟨_,xs,e,ha,rl⟩:=aO.mp rf
  dsimp only[G_]
  clear G_
  cases e
  have lx:=rl.length
  rw[aac] at lx
  refine⟨⟨_,bj.of ha⟩,?_⟩
  refine(?_:let G_:Prop:=_;G_)
  intro G_
  obtain⟨l1,l2,l3,l4⟩:=Wq.mw (xs:=ws) (c:=1) (by decide) λx hx=>(dv x hx).1
  dsimp only[G_]
  clear G_
  have lz:=l4 (Z:=Z) ⟨Z,by omega⟩ λx hx=>(dv x hx).2.1
  have b1:Bt 2000 (Wq.fi 1 ws):=bZ.le (by have:=Int.le_of_dvd Z0 lz;omega)
  have S:Src (vT K a) (az H) ws.length (λi x H H3=>H3=H/\xs[i]?=some x):=by rw[lx];exact src_list (λH' s'=>bj.of (s' _ _ ha))
  refine dE ws (λx=>some (Wq.sc (Wq.fi 1 ws) x)) S (λ_ _ _ _ h=>h.1) (by rw[sizeLine_eq];omega) ?_ ?_
  ·rintro i x v ep ⟨_,ex⟩ Y N y1 _
   refine(?_:let G_:Prop:=_;G_)
   intro G_
   obtain⟨t,et,ht⟩:=cO rl ep
   dsimp only[G_]
   rw[ex] at et
   cases et
   have dx:=dv x (aae ep)
   have b2:Bt 2000 x.2:=bZ.le (by have:=Int.le_of_dvd Z0 dx.2.1;omega)
   simp_all only[gQ,ht]
   exact⟨eO.of dx.1 b2,Bt.dD dx.2.2 (b1.le (Nm.dO dx.1 (l3 x (aae ep)))),y1 _ rfl⟩
  ·intro D n1 n2 x dx nx Na ne
   rw[en] at nx Na ⊢
   have s1:=au (H:=H) (o:=.lst (List.map V.int (ws.map (Wq.sc (Wq.fi 1 ws))))) n2
   have hD:upd H D (.lst (List.map V.int (ws.map (Wq.sc (Wq.fi 1 ws))))) D=some _:=ar
   have s2:=s1.trans (au (o:=.own x) Na)
   have Js:=au (o:=.own x) Na _ _ hD
   generalize upd H D (.lst (List.map V.int (ws.map (Wq.sc (Wq.fi 1 ws)))))=H1 at *
   have xD:D≠x:=λz=>by rw[z,nx] at hD;cases hD
   refine⟨x,dx,D,_,_,rfl,ar,by rw[aI xD];exact Js,λm H' nm hm pE ky=>⟨rfl,kk x H' (λy o hy=>?_) ⟨dx,m,pE,hm⟩⟩⟩
   have yx:y≠x:=λz=>by have:=s1 _ _ hy;rw[z,nx] at this;cases this
   exact ky y o yx (by rw[aI yx];exact s2 _ _ hy)
theorem Jt {a b:V}:List.lookup (Str.ofString "scaled") [(("tops":Str),a),(("bottom":Str),b)]=none:=rfl
theorem kL {a b:V}:List.lookup (Str.ofString "tops") [(("tops":Str),a),(("bottom":Str),b)]=some a:=rfl
theorem ur {a b:V}:List.lookup (Str.ofString "bottom") [(("tops":Str),a),(("bottom":Str),b)]=some b:=rfl
theorem g7:aN ["self","factor"] ["self","factor"] (ae (inClass (top 33) 1)):=⟨rfl,rfl,rfl,by decide +kernel,rfl,by decide +kernel,by decide +kernel⟩
theorem Gk (T:Txt K mg aB tc):nO P w K mg base (bK P w) 3 aB "scaled" ["self","factor"] (DY aB):=by
 have oJ:pY P w K mg base (bK P w) 1 "Book" aB ["self","tops","bottom"] (C0 aB):=A8 T
 refine T.nW.d9 (λ_ _ _ _ _ _=>eA λ_ _=>rfl) λf fd F=>F.eC g7 (λvs H Q E h=>?_) (λcG A outer s H vs Q E hr h=>?_)
 ·obtain⟨_,_,_,rfl,_⟩:=h;rfl
 ·refine(?_:let G_:Prop:=_;G_)
  intro G_
  obtain⟨x,S,d,rfl,⟨dx,m,hx,hm⟩,bd,bb,bt,ln,kk⟩:=h
  dsimp only[G_]
  clear G_
  have nd:=g7.nd
  refine⟨_,(ax (aQ (zJ oJ (hr.mono (by decide)) rfl aA.pass (aa (bW rfl (N:=["self","factor"]) (so:=ae (inClass (top 33) 1)) (N':=["top","factor"]) (k:=1) (fr:=[1]) rfl rfl ⟨rfl,by decide +kernel,by decide +kernel,by decide +kernel,rfl,by decide +kernel,by decide +kernel⟩ (br (K:=K) (dW (pv 0) rfl)) (λ_ _ _ _ _=>(aE (i:=0) (show(["top","factor"]:List Str).Nodup by decide +kernel) rfl (Or.inl rfl))) (λ_ _ _ _ _=>bJ)
   (λ_ _ _ _ _=>(aD aW (pv 0) (pv 1)))) (aa (aD aW (dW (pv 0) rfl) (pv 1)) ao (se rfl)) (se rfl)) (he:=se rfl) (hpl:=na rfl)))),?_⟩
  simp_all only[kU,sJ]
  refine⟨_,_,_,hx,T.cC,T.na_Book_tops,_,kL,m,rfl,⟨_,bj.of hm⟩,?_⟩
  have S':Src (vT K m) (az H) S.1.length (λi x H H3=>H3=H/\(S.1.map V.int)[i]?=some x):=by
   have:=src_list (K:=K) (a:=m) (xs:=S.1.map V.int) (Ok:=az H) (λH' s'=>bj.of (s' _ _ hm))
   rwa [aac] at this
  refine dE S.1 (λt=>some (t*d)) S' (λ_ _ _ _ h=>h.1) (by rw[sizeLine_eq];omega) ?_ ?_
  ·rintro i t v et ⟨_,ex⟩ Y N y1 _
   rw[aag,et] at ex
   cases ex
   simp_all only[gQ]
   exact⟨(bt t (aae et)).dD bd,y1 _ rfl⟩
  ·intro D n1 n2
   rw[en]
   have s1:=au (H:=H) (o:=.lst (List.map V.int (S.1.map (·*d)))) n2
   have hD:upd H D (.lst (List.map V.int (S.1.map (·*d)))) D=some (.lst (List.map V.int (S.1.map (·*d)))):=ar
   generalize upd H D (.lst (List.map V.int (S.1.map (·*d))))=H1 at *
   refine⟨_,_,_,s1 _ _ hx,T.cC,T.na_Book_bottom,_,ur,_,rfl,bb.dD bd,λy dy ny Ju ne=>?_⟩
   have s2:=s1.trans (au (o:=.own y) Ju)
   have Js:=au (o:=.own y) Ju _ _ hD
   have xD:D≠y:=λz=>by rw[z,ny] at hD;cases hD
   refine⟨y,dy,D,_,_,rfl,ar,by rw[aI xD];exact Js,λm' H' nm Jv pE ky=>⟨rfl,kk y dy m' H' (λz o hz=>?_) (none_of s1 ny) ?_ pE Jv⟩⟩
   ·have yx:z≠y:=λe=>by have:=s1 _ _ hz;rw[e,ny] at this;cases this
    exact ky z o yx (by rw[aI yx];exact s2 _ _ hz)
   ·have my:m'≠y:=λe=>by rw[e,ar] at nm;cases nm
    rw[aI my] at nm
    exact none_of s2 nm
theorem eZ:aN ["self"] ["self"] (ae (inClass (top 33) 2)):=⟨rfl,rfl,rfl,by decide +kernel,rfl,by decide +kernel,by decide +kernel⟩
theorem Jw (T:Txt K mg aB tc):nO P w K mg base (bK P w) 3 aB "as_shares" ["self"] (II aB):=by
 have Dp:bS P w K mg base (bK P w) 2 "share" ["top","bottom"] FK:=Jp T
 refine T.jy.d9 (λ_ _ _ _ _ _=>iC λ_=>rfl) λf fd F=>F.eC eZ (λvs H Q E h=>?_) (λcG A outer s H vs Q E hr h=>?_)
 ·obtain⟨_,_,rfl,_⟩:=h;rfl
 ·refine(?_:let G_:Prop:=_;G_)
  intro G_
  obtain⟨x,S,rfl,⟨dx,m,hx,hm⟩,b0,bb,ln,kk⟩:=h
  dsimp only[G_]
  have nd:=eZ.nd
  refine⟨_,(ax (aQ (bW rfl (N:=["self"]) (so:=ae (inClass (top 33) 2)) (N':=["top","self"]) (k:=1) (fr:=[0]) rfl rfl ⟨rfl,by decide +kernel,by decide +kernel,by decide +kernel,rfl,by decide +kernel,by decide +kernel⟩ (br (K:=K) (dW (pv 0) rfl)) (λ_ _ _ _ _=>(aE (i:=0) (show(["top","self"]:List Str).Nodup by decide +kernel) rfl (Or.inl rfl))) (λ_ _ _ _ _=>bJ)
   (λ_ _ _ _ _=>(aG Dp (hr.mono (by decide)) rfl aA.pass (aa (pv 0) (aa (wA (K:=K) (pv 1) rfl) ao (se rfl)) (se rfl)) (he:=se rfl) (hpl:=na rfl)))))),?_⟩
  simp_all only[kU]
  refine⟨_,_,_,hx,T.cC,T.na_Book_tops,_,kL,m,rfl,⟨_,bj.of hm⟩,?_⟩
  refine comp_map (src_list (K:=K) (a:=m) (xs:=S.1.map V.int) (Ok:=az H) (λH' s'=>bj.of (s' _ _ hm))) (λ_ _ _ _ h=>by rw[h.1];exact az.refl _) (by rw[aac,sizeLine_eq];omega) (λi y H4=>∀t,S.1[i]?=some t->∃p,y=.ref p/\H4 p=some (.tup (Pr (Wq.low t S.2).1 (Wq.low t S.2).2))) (λi y H4 H5 s5 h t e=>by obtain⟨p,e1,h1⟩:=h t e;exact⟨p,e1,s5 _ _ h1⟩) ?_ ?_
  ·rintro i v w0 H4 H5 Q2 hi s4 ⟨rfl,ex⟩ kq
   rw[aag] at ex
   refine(?_:let G_:Prop:=_;G_)
   intro G_
   obtain⟨t,et,rfl⟩:=Option.map_eq_some_iff.mp ex
   dsimp only[G_]
   simp_all only[FK,kU]
   refine⟨_,_,_,s4 _ _ hx,T.cC,T.na_Book_bottom,_,ur,_,rfl,bb,b0,λp H6 s6 n6 h6=>kq _ _ s6 λt' e'=>?_⟩
   rw[et] at e'
   cases e'
   exact⟨p,rfl,h6⟩
  ·intro ys H5 s5 ly hy D n1 n2
   rw[aac] at ly
   refine kk D _ (s5.trans (au n2)) (none_of s5 n2) (aO.mpr ⟨D,ys,rfl,ar,c4 (by rw[aac];exact ly) λi y ey q eq=>?_⟩)
   rw[aag] at eq
   refine(?_:let G_:Prop:=_;G_)
   intro G_
   obtain⟨t,et,rfl⟩:=Option.map_eq_some_iff.mp eq
   obtain⟨p,e1,h1⟩:=hy i y ey t et
   dsimp only[G_]
   exact bP.mpr ⟨p,e1,au n2 _ _ h1⟩
theorem fH:aN ["board","part","product","place"] ["board","part"] (ae (top 27)):=⟨rfl,rfl,rfl,by decide +kernel,rfl,by decide +kernel,by decide +kernel⟩
theorem Gm (T:Txt K mg aB tc):bS P w K mg base (bK P w) 1 "ways_of_picks" ["board","part"] vE:=by
 refine T.lC.d9 (λ_ _ _ _ _ _=>eA λ_ _=>rfl) λf fd F=>F.eC fH (λvs H Q E h=>?_) (λcG A outer s H vs Q E hr h=>?_)
 ·obtain⟨_,_,_,_,rfl,_⟩:=h;rfl
 ·refine(?_:let G_:Prop:=_;G_)
  intro G_
  obtain⟨a,x,b,ps,rfl,rb,hx,vK,ok,yF,kk⟩:=h
  dsimp only[G_]
  clear G_
  have nd:=fH.nd
  refine⟨_,(af (aF (i:=2) nd rfl (Or.inl rfl) ag)
  (af (cf PassesOwn.never rfl (br (K:=K) (pv 1)) (aE (i:=3) nd rfl (Or.inl rfl)) (ax (bU (aR cQ (aH aK (aH aJ (pv 0) (pv 3) (λ_ _=>rfl)) ag (λ_ _=>rfl)) cX (aX _)) (ax (aF (i:=2) nd rfl (Or.inl rfl) (aD aW (pv 2) (aZ bD (by rfl) T.z_len aaB (aa (aH aK (aH aJ (pv 0) (pv 3) (λ_ _=>rfl)) ag (λ_ _=>rfl)) ao (se rfl)) (he:=se rfl) (hpl:=na rfl)))))
   bB)))
  (ax (aQ (pv 2))))),?_⟩
  refine(?_:let cv:TS:=_;let cw:TS:=_;let cy:TS:=_;tSeq cv (tSeq cw cy) _ _ _)
  intro cv cw cy
  refine(?_:let G_:Prop:=_;G_)
  intro G_
  obtain⟨_,xs,e,ha,rl⟩:=aO.mp rb
  dsimp only[G_]
  clear G_
  cases e
  simp_all only[]
  refine⟨⟨_,bj.of hx⟩,bL (src_list (Ok:=λH'=>H'=H) (λH2 s2=>by rw[s2];exact bj.of hx)) (λi σ H'=>H'=H/\∃(k:Nat) (z:Option V),kf b k (ps.drop i)=kf b 1 ps/\σ=[some (V.ref a),some (V.ref x),some (V.int (k:Int)),z]) ⟨rfl,1,_,rfl,rfl⟩ (λ_ _ _ _ h=>h.1) ?_ ?_⟩
  ·intro i y σ H1 H2 hi dC dI
   refine(?_:let G_:Prop:=_;G_)
   intro G_
   obtain⟨rfl,k,z,ki,rfl⟩:=dC
   obtain⟨rfl,ex⟩:=dI
   dsimp only[G_]
   clear G_
   rw[aac] at hi
   rw[aag,aad hi] at ex
   cases ex
   rw[List.drop_eq_getElem_cons hi] at ki
   have ip:=vK _ (aao hi)
   generalize ps[i]=p at *
   obtain⟨p,rfl⟩:=aau ip.1
   have hp:p<b.length:=by have:=ip.2;omega
   have eb:b[p]?=some b[p]:=aad hp
   refine(?_:let G_:Prop:=_;G_)
   intro G_
   obtain⟨v,ev,rv⟩:=fx rl eb
   dsimp only[G_]
   clear G_
   have ki:kf b (k*xa b (p:Int)) (ps.drop (i+1))=kf b 1 ps:=ki
   have ek:xa b (p:Int)=match b[p] with | .bN _ to=>to.length | _=>1:=by
    unfold xa
    rw[aai,eb]
    cases b[p] <;>rfl
   have k1:k<=4096:=by
    have:=xf ok (ps.drop (i+1)) (k*xa b (p:Int))
    have:=Nat.le_mul_of_pos_right k (vB ok (p:Int)).1
    omega
   have pq:=ok _ (aao hp)
   rw[ek] at ki
   generalize b[p]=q at *
   cases q with
   | fin g=>
    refine(?_:let G_:Prop:=_;G_)
    intro G_
    obtain⟨t,r,rfl,ht,_⟩:=cM.mp rv
    dsimp only[G_]
    simp_all only[ha,show fK xs (p:Int)=some (.ref t) from bC ev,ht]
    rw[if_neg (by decide +kernel)]
    exact⟨k,by rw[<-ki,Nat.mul_one],rfl,_,rfl⟩
   | cP g ws=>
    refine(?_:let G_:Prop:=_;G_)
    intro G_
    obtain⟨t,r,l,zs,rfl,ht,_⟩:=cI.mp rv
    dsimp only[G_]
    simp_all only[ha,show fK xs (p:Int)=some (.ref t) from bC ev,ht]
    rw[if_neg (by decide +kernel)]
    exact⟨k,by rw[<-ki,Nat.mul_one],rfl,_,rfl⟩
   | bN who to=>
    refine(?_:let G_:Prop:=_;G_)
    intro G_
    obtain⟨t,l,rfl,ht,hl⟩:=cJ.mp rv
    dsimp only[G_]
    simp_all only[ha,show fK xs (p:Int)=some (.ref t) from bC ev,ht,hl]
    have lt:(List.map V.int to).length=to.length:=aac ..
    have l4:=pq.2.2.1
    rw[lt]
    exact⟨(Bt.of (n:=13) 4096 (by omega) (by omega)).dD (Bt.of (n:=3) 4 (by omega) (by omega)),k*to.length,ki,by rw[Int.natCast_mul],_,rfl⟩
  ·intro σ H1 bH
   refine(?_:let G_:Prop:=_;G_)
   intro G_
   obtain⟨rfl,k,z,ki,rfl⟩:=bH
   dsimp only[G_]
   rw[aac,List.drop_length] at ki
   have ki:k=kf b 1 ps:=ki
   simp_all only[]
   rw[ki]
   exact kk
theorem fI:aN ["board","left","found","part"] ["board"] (ae (top 28)):=⟨rfl,rfl,rfl,by decide +kernel,rfl,by decide +kernel,by decide +kernel⟩
theorem Gn (T:Txt K mg aB tc) (LB:oY base mg tc tp):bS P w K mg base (bK P w) 6 "checked_parts" ["board"] (vD tp):=by
 have Gp:bS P w K mg base (bK P w) 5 "ring" ["board"] vo:=Dh T
 have Dq:bS P w K mg base (bK P w) 3 "parts" ["board"] (A7 tp):=Gb T LB
 have lJ:bS P w K mg base (bK P w) 1 "ways_of_picks" ["board","part"] vE:=Gm T
 refine T.lD.d9 (λ_ _ _ _ _ _=>iC λ_=>rfl) λf fd F=>F.eC fI (λvs H Q E h=>?_) (λcG A outer s H vs Q E hr h=>?_)
 ·obtain⟨_,_,_,rfl,_⟩:=h;rfl
 ·refine(?_:let G_:Prop:=_;G_)
  intro G_
  obtain⟨a,b,rk,rfl,rb,B,kZ,kk⟩:=h
  dsimp only[G_]
  have nd:=fI.nd
  refine⟨_,(af (aF (i:=1) nd rfl (Or.inl rfl) (aG Gp (hr.mono (by decide)) rfl aA.pass (aa (pv 0) ao (se rfl)) (he:=se rfl) (hpl:=na rfl)))
  (af (bU (aR kA (aZ bD (by rfl) T.z_len aaB (aa (pv 1) ao (se rfl)) (he:=se rfl) (hpl:=na rfl)) ag (aX _)) (ax mO)
   bB)
  (af (aF (i:=2) nd rfl (Or.inl rfl) (aG Dq (hr.mono (by decide)) rfl aA.pass (aa (pv 0) ao (se rfl)) (he:=se rfl) (hpl:=na rfl)))
  (af (cf PassesOwn.never rfl (br (K:=K) (pv 2)) (aE (i:=3) nd rfl (Or.inl rfl)) (ax (bU (PW.pt (pw_or (aR kA (aZ bD (by rfl) T.z_len aaB (aa (pv 3) ao (se rfl)) (he:=se rfl) (hpl:=na rfl)) (tE rfl T.c_MOST_PLACES) (aX _)) (pw_or1 (aR kA (aG lJ (hr.mono (by decide)) rfl aA.pass (aa (pv 0) (aa (pv 3) ao (se rfl)) (se rfl)) (he:=se rfl) (hpl:=na rfl)) (tE rfl T.c_MOST_PICKS) (aX _))))) (ax mO)
   bB)))
  (ax (aQ (pv 2))))))),?_⟩
  refine(?_:let cv:TS:=_;let cw:TS:=_;let cy:TS:=_;let dR:TS:=_;let jG:TS:=_;tSeq cv (tSeq cw (tSeq cy (tSeq dR jG))) _ _ _)
  intro cv cw cy dR jG
  have bl:=B.len
  simp_all only[vo,A7]
  refine⟨b,rb,B.bd,λl H1 s1 n1 hl=>⟨_,hl,?_⟩⟩
  rw[B.fO.ring]
  rw[if_neg (by simp)]
  refine⟨b,rb.mono s1,by omega,B.sS,B.fO.good,s1 _ _ kZ,λl2 ps as H2 td s2 n2 Ca al=>?_⟩
  have Vl:Al (λp v=>∃x,v=.ref x/\H2 x=some (.lst ((Pr.dc b p).map V.int))) ps (as.map V.ref):=by
   refine Al.of al.length λi v p ev ep=>?_
   refine(?_:let G_:Prop:=_;G_)
   intro G_
   obtain⟨p',BP,x,rfl,hx,_⟩:=al.get ev
   dsimp only[G_]
   rw[ep] at BP
   cases BP
   exact⟨x,rfl,hx⟩
  have Jx:=s1.trans s2
  refine⟨⟨_,bj.of Ca⟩,bL (src_list (Ok:=λH'=>H'=H2) (λH3 s3=>by rw[s3];exact bj.of Ca)) (λi σ H'=>H'=H2/\∃z,σ=[some (V.ref a),some (V.ref l),some (V.ref l2),z]) ⟨rfl,_,rfl⟩ (λ_ _ _ _ h=>h.1) ?_ ?_⟩
  ·intro i y σ H3 H4 hi dC dI
   refine(?_:let G_:Prop:=_;G_)
   intro G_
   obtain⟨rfl,z,rfl⟩:=dC
   obtain⟨rfl,ex⟩:=dI
   obtain⟨p,ep,x,rfl,hx⟩:=Vl.get ex
   dsimp only[G_]
   have ip:=td.ID (aae ep)
   have lp:(Pr.dc b p).length<=b.length:=by
    have:=Pr.sub_len (l:=Pr.dc b p) (m:=Pr.kb b p) ((Pr.j7 B.fO.good ip).imp λh z=>by omega) λx hx=>(Pr.dh.mp hx).1
    have:=Pr.Ac B.fO.good ip
    omega
   simp_all only[vE,hx]
   rw[if_neg (by rw[aac];omega)]
   have cp:=B.yF p ip
   refine⟨b,rb.mono Jx,Pr.dc b p,rfl,λq hq=>Pr.eJ B.fO.good ip hq,B.ok,cp,?_⟩
   rw[if_neg (by omega)]
   exact⟨_,rfl⟩
  ·intro σ H3 bH
   refine(?_:let G_:Prop:=_;G_)
   intro G_
   obtain⟨rfl,z,rfl⟩:=bH
   dsimp only[G_]
   simp_all only[]
   exact kk l2 ps as _ td Jx (none_of s1 n2) Ca Vl
theorem fJ:aN ["place","way"] ["place","way"] (ae (top 29)):=⟨rfl,rfl,rfl,by decide +kernel,rfl,by decide +kernel,by decide +kernel⟩
theorem A9 (T:Txt K mg aB tc):bS P w K mg base (bK P w) 1 "weighted_ways" ["place","way"] ua:=by
 refine T.lE.d9 (λ_ _ _ _ _ _=>eA λ_ _=>rfl) λf fd F=>F.eC fJ (λvs H Q E h=>?_) (λcG A outer s H vs Q E hr h=>?_)
 ·obtain⟨_,_,_,rfl,_⟩:=h;rfl
 ·refine(?_:let G_:Prop:=_;G_)
  intro G_
  obtain⟨v,q,k,rfl,rv,pk,kk⟩:=h
  dsimp only[G_]
  have nd:=fJ.nd
  refine⟨_,(af (bU (aR cQ (aH aK (pv 0) ag (λ_ _=>rfl)) cX (aX _)) (ax (aQ (aH aK (pv 0) ag (λ_ _=>rfl))))
   bB)
  (af (bU (aR cQ (aH aK (pv 0) ag (λ_ _=>rfl)) cX (aX _)) (ax (aQ (cY (aa (bV (aa ag (aa (aH aJ (aH aK (pv 0) ag (λ_ _=>rfl)) (pv 1) (λ_ _=>rfl)) ao (se rfl)) (se rfl))) ao (se rfl)))))
   bB)
  (ax (aQ (cY ao))))),?_⟩
  refine(?_:let cv:TS:=_;let cw:TS:=_;let cy:TS:=_;tSeq cv (tSeq cw cy) _ _ _)
  intro cv cw cy
  cases q with
  | fin g=>
   refine(?_:let G_:Prop:=_;G_)
   intro G_
   obtain⟨t,r,rfl,ht,_⟩:=cM.mp rv
   dsimp only[G_]
   simp_all only[ht]
   rw[if_neg (by decide +kernel),if_neg (by decide +kernel)]
   exact⟨aas _,λl nl=>kk l _ (au nl) (aO.mpr ⟨l,[],rfl,ar,rfl⟩)⟩
  | cP g ws=>
   refine(?_:let G_:Prop:=_;G_)
   intro G_
   obtain⟨t,r,l,zs,rfl,ht,_,hl,rz⟩:=cI.mp rv
   dsimp only[G_]
   simp_all only[ht]
   exact kk l _ (az.refl _) (aO.mpr ⟨l,zs,rfl,hl,rz⟩)
  | bN who to=>
   refine(?_:let G_:Prop:=_;G_)
   intro G_
   obtain⟨t,l,rfl,ht,hl⟩:=cJ.mp rv
   dsimp only[G_]
   cases k with
   | none=>exact pk.elim
   | some k=>
    obtain⟨k0,k1⟩:=pk
    have at1:fK (to.map V.int) k=some (.int (to.getD k.toNat 0)):=dN k0 k1
    simp_all only[gD,ht,hl,at1]
    rw[if_neg (by decide +kernel)]
    exact⟨by decide,λp H2 s2 np hp=>⟨by decide,λl2 nl=>kk l2 _ (s2.trans (au nl)) (aO.mpr ⟨l2,[.ref p],rfl,ar,⟨_,_,rfl,bP.mpr ⟨p,rfl,au nl _ _ hp⟩,rfl⟩⟩)⟩⟩
theorem dS:aN ["board","picks"] ["board","picks"] (ae (top 30)):=⟨rfl,rfl,rfl,by decide +kernel,rfl,by decide +kernel,by decide +kernel⟩
theorem Jy (T:Txt K mg aB tc):bS P w K mg base (bK P w) 2 "all_weighted_ways" ["board","picks"] IM:=by
 have dZ:bS P w K mg base (bK P w) 1 "weighted_ways" ["place","way"] ua:=A9 T
 refine T.iB.d9 (λ_ _ _ _ _ _=>eA λ_ _=>rfl) λf fd F=>F.eC dS (λvs H Q E h=>?_) (λcG A outer s H vs Q E hr h=>?_)
 ·obtain⟨_,_,_,_,rfl,_⟩:=h;rfl
 ·refine(?_:let G_:Prop:=_;G_)
  intro G_
  obtain⟨a,c,b,ks,rfl,rb,lb,hc,⟨lk,pk⟩,kk⟩:=h
  dsimp only[G_]
  have nd:=dS.nd
  refine⟨_,(ax (aQ (bW rfl (N:=["board","picks"]) (so:=ae (top 30)) (N':=["place","way"]) (k:=2) (fr:=[]) rfl rfl ⟨rfl,by decide +kernel,by decide +kernel,by decide +kernel,rfl,by decide +kernel,by decide +kernel⟩ (jw (K:=K) rfl T.z_zip (aa (pv 0) (aa (pv 1) ao (se rfl)) (se rfl))) (λ_ _ _ _ _=>(b8 (K:=K) (n:=2) rfl (aT (aE (i:=0) (show(["place","way"]:List Str).Nodup by decide +kernel) rfl (Or.inl rfl)) (aT (aE (i:=1) (show(["place","way"]:List Str).Nodup by decide +kernel) rfl (Or.inl rfl)) bY)))) (λ_ _ _ _ _=>bJ)
   (λ_ _ _ _ _=>(aG dZ (hr.mono (by decide)) rfl aA.pass (aa (pv 0) (aa (pv 1) ao (se rfl)) (se rfl)) (he:=se rfl) (hpl:=na rfl)))))),?_⟩
  have sl:=sizeLine_eq
  refine(?_:let G_:Prop:=_;G_)
  intro G_
  obtain⟨_,xs,e,ha,rl⟩:=aO.mp rb
  dsimp only[G_]
  cases e
  have lx:=rl.length
  rw[aac] at lx
  simp_all only[ua]
  refine⟨⟨_,bj.of ha⟩,⟨_,bj.of hc⟩,?_⟩
  refine fq (K:=K) (jv (λH' s'=>bj.of (s' _ _ ha)) (λH' s'=>bj.of (s' _ _ hc))) (λi u v H'=>∃q k,b[i]?=some q/\ks[i]?=some k/\Rep H (jx q) u/\v=gD k) ?_ (by rw[aac];omega) (λi y H'=>∃l,y=.ref l/\∀q k,b[i]?=some q->ks[i]?=some k->Rep H' (qg (uB q k)) (.ref l)) (λ_ _ _ _ s ⟨l,e,h⟩=>⟨l,e,λq k e1 e2=>(h q k e1 e2).mono s⟩) ?_ ?_
  ·intro i v H2 H3 hi s2 dC
   refine(?_:let G_:Prop:=_;G_)
   intro G_
   obtain⟨t,x,y,nt,rfl,ex,ey,rfl⟩:=dC
   rw[aag] at ey
   obtain⟨k,ek,rfl⟩:=Option.map_eq_some_iff.mp ey
   obtain⟨q,eq,rq⟩:=cZ rl ex
   dsimp only[G_]
   exact⟨au nt,t,_,_,rfl,d7.of ar,q,k,eq,ek,rq,rfl⟩
  ·intro i u v H2 Q2 hi s2 dI kq
   refine(?_:let G_:Prop:=_;G_)
   intro G_
   obtain⟨q,k,eq,ek,rq,rfl⟩:=dI
   dsimp only[G_]
   simp_all only[ua]
   refine⟨q,k,rfl,rq.mono s2,pk i q k eq ek,λl H3 s3 r3=>kq _ _ s3 ⟨l,rfl,λq' k' e1 e2=>?_⟩⟩
   rw[eq] at e1
   rw[ek] at e2
   cases e1
   cases e2
   exact r3
  ·intro ys H2 s2 ly hy D n1 n2
   rw[aac] at ly
   have lz:(cz b ks).length=b.length:=by unfold cz;rw[aaV];omega
   refine kk D ys _ (s2.trans (au n2)) (none_of s2 n2) ar (c4 (by rw[lz];omega) λi y ey ws ew=>?_)
   have hi:i<b.length:=by have:=(List.getElem?_eq_some_iff.mp ew).1;omega
   refine(?_:let G_:Prop:=_;G_)
   intro G_
   obtain⟨l,rfl,hl⟩:=hy i y ey
   dsimp only[G_]
   have e1:b[i]?=some b[i]:=aad hi
   have e2:ks[i]?=some ks[i]:=aad (by omega)
   have e3:ws=uB b[i] ks[i]:=by
    unfold cz at ew
    rw[abl,e1,e2] at ew
    exact(aay ew).symm
   rw[e3]
   exact(hl _ _ e1 e2).mono (λa o h=>by
    have:a≠D:=λz=>by rw[z,n2] at h;cases h
    rw[bE this,aI this]
    exact h)
theorem kM:aN ["board"] ["board"] (ae (top 36)):=⟨rfl,rfl,rfl,by decide +kernel,rfl,by decide +kernel,by decide +kernel⟩
theorem Gq (T:Txt K mg aB tc):bS P w K mg base (bK P w) 4 "gains_of" ["board"] (AL aB):=by
 have yA:bS P w K mg base (bK P w) 1 "gain_of" ["place"] FN:=Jq T
 have yB:bS P w K mg base (bK P w) 3 "book_of" ["several"] (FO aB):=Jr T
 refine T.vj.d9 (λ_ _ _ _ _ _=>iC λ_=>rfl) λf fd F=>F.eC kM (λvs H Q E h=>?_) (λcG A outer s H vs Q E hr h=>?_)
 ·obtain⟨_,_,_,rfl,_⟩:=h;rfl
 ·refine(?_:let G_:Prop:=_;G_)
  intro G_
  obtain⟨a,b,rk,rfl,rb,B,kk⟩:=h
  dsimp only[G_]
  have nd:=kM.nd
  refine⟨_,(ax (aQ (aG yB (hr.mono (by decide)) rfl aA.pass (aa (bW rfl (N:=["board"]) (so:=ae (top 36)) (N':=["place"]) (k:=1) (fr:=[]) rfl rfl ⟨rfl,by decide +kernel,by decide +kernel,by decide +kernel,rfl,by decide +kernel,by decide +kernel⟩ (br (K:=K) (pv 0)) (λ_ _ _ _ _=>(aE (i:=0) (show(["place"]:List Str).Nodup by decide +kernel) rfl (Or.inl rfl))) (λ_ _ _ _ _=>bJ)
   (λ_ _ _ _ _=>(aG yA (hr.mono (by decide)) rfl aA.pass (aa (pv 0) ao (se rfl)) (he:=se rfl) (hpl:=na rfl)))) ao (se rfl)) (he:=se rfl) (hpl:=na rfl)))),?_⟩
  simp_all only[FO]
  refine(?_:let G_:Prop:=_;G_)
  intro G_
  obtain⟨_,xs,e,ha,rl⟩:=aO.mp rb
  dsimp only[G_]
  cases e
  have lx:=rl.length
  rw[aac] at lx
  have bl:=B.len
  refine⟨⟨_,bj.of ha⟩,?_⟩
  refine comp_map (src_list (K:=K) (a:=a) (xs:=xs) (Ok:=az H) (λH' s'=>bj.of (s' _ _ ha))) (λ_ _ _ _ h=>by rw[h.1];exact az.refl _) (by rw[sizeLine_eq];omega) (λi y H4=>∀q,b[i]?=some q->∃p,y=.ref p/\H4 p=some (.tup (Pr (Wq.dt q).1 (Wq.dt q).2))) (λi y H4 H5 s5 h t e=>by obtain⟨p,e1,h1⟩:=h t e;exact⟨p,e1,s5 _ _ h1⟩) ?_ ?_
  ·rintro i v w0 H4 H5 Q2 hi s4 ⟨rfl,ex⟩ kq
   refine(?_:let G_:Prop:=_;G_)
   intro G_
   obtain⟨q,eq,rq⟩:=cZ rl ex
   dsimp only[G_]
   simp_all only[FN]
   refine⟨q,rq.mono s4,λr H6 s6 Yg=>kq _ _ s6 λq' e'=>?_⟩
   rw[eq] at e'
   cases e'
   exact⟨r,rfl,Yg⟩
  ·intro ys H5 s5 ly hy D n1 n2
   refine(?_:let G_:Prop:=_;G_)
   intro G_
   obtain⟨p1,p2,p3⟩:=AJ B.xg
   dsimp only[G_]
   rw[aac] at p2
   refine⟨b.map Wq.dt,aO.mpr ⟨D,ys,rfl,ar,c4 (by rw[aac];omega) λi y ey q eq=>?_⟩,by rw[aac];omega,pB (b.map Wq.dt),λx hx=>?_,p1,p2.mono (by omega),λx H6 s6 Yh=>kk x H6 (s5.trans ((au n2).trans s6)) Yh⟩
   ·rw[aag] at eq
    refine(?_:let G_:Prop:=_;G_)
    intro G_
    obtain⟨t,et,rfl⟩:=Option.map_eq_some_iff.mp eq
    obtain⟨p,e1,h1⟩:=hy i y ey t et
    dsimp only[G_]
    exact bP.mpr ⟨p,e1,au n2 _ _ h1⟩
   ·have g:=B.xg x hx
    exact⟨g.2.2.1,p3 x hx,g.1.mono (by decide)⟩
theorem gv:aN ["gains"] ["gains"] (ae (top 37)):=⟨rfl,rfl,rfl,by decide +kernel,rfl,by decide +kernel,by decide +kernel⟩
theorem Jz (T:Txt K mg aB tc):bS P w K mg base (bK P w) 3 "blank_worths" ["gains"] (FP aB):=by
 have oJ:pY P w K mg base (bK P w) 1 "Book" aB ["self","tops","bottom"] (C0 aB):=A8 T
 refine T.nV.d9 (λ_ _ _ _ _ _=>iC λ_=>rfl) λf fd F=>F.eC gv (λvs H Q E h=>?_) (λcG A outer s H vs Q E hr h=>?_)
 ·obtain⟨_,_,rfl,_⟩:=h;rfl
 ·refine(?_:let G_:Prop:=_;G_)
  intro G_
  obtain⟨x,S,rfl,⟨dx,m,hx,hm⟩,ln,kk⟩:=h
  dsimp only[G_]
  clear G_
  have nd:=gv.nd
  refine⟨_,(ax (aQ (zJ oJ (hr.mono (by decide)) rfl aA.pass (aa (aD qG (cY (aa ag ao (se rfl))) (aZ bD (by rfl) T.z_len aaB (aa (dW (pv 0) rfl) ao (se rfl)) (he:=se rfl) (hpl:=na rfl))) (aa (dW (pv 0) rfl) ao (se rfl)) (se rfl)) (he:=se rfl) (hpl:=na rfl)))),?_⟩
  simp_all only[kU,sJ,y8]
  refine⟨by decide,λz nz=>?_⟩
  have s1:=au (o:=.lst [V.int 0]) nz
  have hz:upd H z (.lst [V.int 0]) z=some (.lst [V.int 0]):=ar
  generalize upd H z (.lst [V.int 0])=H1 at *
  have ls:(S.1.map V.int).length=S.1.length:=aac ..
  have sl:=sizeLine_eq
  refine⟨_,_,_,s1 _ _ hx,T.cC,T.na_Book_tops,_,kL,_,rfl,_,s1 _ _ hm,_,hz,by omega,by omega,by rw[ls,aai];show 1*S.1.length<=_;omega,λD nD=>?_⟩
  rw[ls,aai,List.flatten_replicate_singleton] at *
  have s2:=s1.trans (au (o:=.lst (List.replicate S.1.length (V.int 0))) nD)
  have hD:upd H1 D (.lst (List.replicate S.1.length (V.int 0))) D=some (.lst ((List.replicate S.1.length 0).map V.int)):=by rw[ar,List.map_replicate]
  generalize upd H1 D (.lst (List.replicate S.1.length (V.int 0)))=H2 at *
  refine⟨_,_,_,s2 _ _ hx,T.cC,T.na_Book_bottom,_,ur,λy dy ny Ju ne=>?_⟩
  have s3:=s2.trans (au (o:=.own y) Ju)
  have Js:=au (o:=.own y) Ju _ _ hD
  have xD:D≠y:=λz=>by rw[z,ny] at hD;cases hD
  refine⟨y,dy,D,_,_,rfl,ar,by rw[aI xD];exact Js,λm' H' nm Jv pE ky=>⟨rfl,kk y H' (λz o hz=>?_) ⟨dy,m',pE,Jv⟩⟩⟩
  have yx:z≠y:=λe=>by have:=s2 _ _ hz;rw[e,ny] at this;cases this
  exact ky z o yx (by rw[aI yx];exact s3 _ _ hz)
theorem g8:aN ["book","gains","part","ways","scale","right","place","gain","answers","told","top"] ["book","gains","part","ways"] (ae (top 38)):=⟨rfl,rfl,rfl,by decide +kernel,rfl,by decide +kernel,by decide +kernel⟩
theorem JA (T:Txt K mg aB tc):bS P w K mg base (bK P w) 4 "with_worths" ["book","gains","part","ways"] (D2 aB):=by
 have eL:bS P w K mg base (bK P w) 1 "total_weight" ["ways"] t7:=Eb T
 have lK:bS P w K mg base (bK P w) 3 "whole_answers" ["rows","right"] FH:=Jl T
 have uu:bS P w K mg base (bK P w) 2 "part_rows" ["part","ways"] AE:=Gh T
 have pb:nO P w K mg base (bK P w) 3 aB "scaled" ["self","factor"] (DY aB):=Gk T
 refine T.oZ.d9 (λ_ _ _ _ _ _=>Fu λ_ _ _ _=>rfl) λf fd F=>F.eC g8 (λvs H Q E h=>?_) (λcG A outer s H vs Q E hr h=>?_)
 ·obtain⟨_,_,_,_,_,_,_,_,_,_,_,_,_,rfl,_⟩:=h;rfl
 ·refine(?_:let G_:Prop:=_;G_)
  intro G_
  obtain⟨bk,gn,pt,wl,S,gt,G,ps,n,M,xs,fN,lv,rfl,hb,hg,hp,hw,rl,lw,n16,Gr,p0,JB,Ed,wk,dn,Z,M0,lg,G0,bG,dv,gb,zr,kk⟩:=h
  dsimp only[G_]
  clear G_
  have nd:=g8.nd
  refine⟨_,(af (aF (i:=4) nd rfl (Or.inl rfl) (aD dq (dW (pv 0) rfl) (dW (pv 1) rfl)))
  (af (aF (i:=5) nd rfl (Or.inl rfl) (cY ao))
  (af (cf PassesOwn.never rfl (br (K:=K) (pv 2)) (aE (i:=6) nd rfl (Or.inl rfl)) (af (aF (i:=7) nd rfl (Or.inl rfl) (aD aW (aD aW (aG eL (hr.mono (by decide)) rfl aA.pass (aa (aH aJ (pv 3) (pv 6) (λ_ _=>rfl)) ao (se rfl)) (he:=se rfl) (hpl:=na rfl)) (aH aJ (dW (pv 1) rfl) (pv 6) (λ_ _=>rfl))) (pv 4)))
  (ax (c7 (eF aaP aa9 aba cB.r (pv 5) (aa (aD bo (pv 7) (aZ (kG (K:=K)) (by rfl) T.z_sum rfl (aa (bW rfl (N:=["book","gains","part","ways","scale","right","place","gain","answers","told","top"]) (so:=ae (top 38)) (N':=["weight","to","book"]) (k:=2) (fr:=[0]) rfl rfl ⟨rfl,by decide +kernel,by decide +kernel,by decide +kernel,rfl,by decide +kernel,by decide +kernel⟩ (br (K:=K) (aH aJ (pv 3) (pv 6) (λ_ _=>rfl))) (λ_ _ _ _ _=>(b8 (K:=K) (n:=2) rfl (aT (aE (i:=0) (show(["weight","to","book"]:List Str).Nodup by decide +kernel) rfl (Or.inl rfl)) (aT (aE (i:=1) (show(["weight","to","book"]:List Str).Nodup by decide +kernel) rfl (Or.inl rfl)) bY)))) (λ_ _ _ _ _=>bJ)
   (λ_ _ _ _ _=>(aD aW (pv 0) (aH aJ (wA (K:=K) (pv 2) rfl) (pv 1) (λ_ _=>rfl))))) ao (se rfl)) (he:=se rfl) (hpl:=na rfl))) ao (se rfl)))))))
  (af (aF (i:=8) nd rfl (Or.inl rfl) (aG lK (hr.mono (by decide)) rfl aA.pass (aa (aG uu (hr.mono (by decide)) rfl aA.pass (aa (pv 2) (aa (pv 3) ao (se rfl)) (se rfl)) (he:=se rfl) (hpl:=na rfl)) (aa (pv 5) ao (se rfl)) (se rfl)) (he:=se rfl) (hpl:=na rfl)))
  (af (aF (i:=9) nd rfl (Or.inl rfl) (Iv pb T.cC (pv 0) (hr.mono (by decide)) aA.pass (aa (aH aK (pv 8) ag (λ_ _=>rfl)) ao (se rfl)) (hst:=se rfl) (hpl:=na rfl)))
  (af (cf PassesOwn.never rfl (jw (K:=K) rfl T.z_zip (aa (pv 2) (aa (aH aK (pv 8) ag (λ_ _=>rfl)) ao (se rfl)) (se rfl))) (b8 (K:=K) (n:=2) rfl (aT (aE (i:=6) nd rfl (Or.inl rfl)) (aT (aE (i:=10) nd rfl (Or.inl rfl)) bY))) (ax (dU (pv 10) (fc (dW (pv 9) rfl) (pv 6) set_list))))
  (ax (aQ (pv 9))))))))),?_⟩
  refine(?_:let cv:TS:=_;let cw:TS:=_;let cy:TS:=_;let dR:TS:=_;let jG:TS:=_;let Ba:TS:=_;let Ee:TS:=_;tSeq cv (tSeq cw (tSeq cy (tSeq dR (tSeq jG (tSeq Ba Ee))))) _ _ _)
  intro cv cw cy dR jG Ba Ee
  have sl:=sizeLine_eq
  refine(?_:let G_:Prop:=_;G_)
  intro G_
  obtain⟨dx,m,Lr,G4⟩:=hb
  obtain⟨dg,mg',Vm,Yi⟩:=hg
  dsimp only[G_]
  clear G_
  have B0:=Z.pos
  have lS:=Z.len
  have Yj:Bt M (S.2 / G):=Z.bb.le (Nm.dO G0 dv)
  have Nb:∀t∈S.1,Bt 4000 t:=λt ht=>by
   refine(?_:let G_:Prop:=_;G_)
   intro G_
   obtain⟨j,hj,rfl⟩:=aa5 ht
   dsimp only[G_]
   have:=Z.bt j
   rw[aaf,aad hj] at this
   exact Bt.mono this (by omega)
  have Vn:∀p:Nat,(p:Int)∈ps->∃wv us,fK xs (p:Int)=some (.ref wv)/\Rep H (qg (cu fN (p:Int))) (.ref wv)/\H wv=some (.lst us)/\bf H ((cu fN (p:Int)).map bz) us/\us.length=(cu fN (p:Int)).length/\Dg.wR n (cu fN (p:Int)):=λp hp=>by
   have hl:p<fN.length:=by have:=(Ed _ hp).2;omega
   have ew:fN[p]?=some (cu fN (p:Int)):=by
    unfold cu
    rw[aai,aaf,aad hl]
    rfl
   obtain⟨v,ev,rv⟩:=rl.at (d:=qg (cu fN (p:Int))) (i:=p) (by rw[aag,ew];rfl)
   refine(?_:let G_:Prop:=_;G_)
   intro G_
   obtain⟨wv,us,rfl,Dm,ru⟩:=aO.mp rv
   dsimp only[G_]
   have lu:=ru.length
   rw[aac] at lu
   exact⟨wv,us,bC ev,rv,Dm,ru,lu.symm,wk _ (aae ew)⟩
  have Lu:∀p∈ps,Dg.wR n (cu fN p):=λp hp=>by
   obtain⟨p,rfl⟩:=aau (Ed p hp).1
   refine(?_:let G_:Prop:=_;G_)
   intro G_
   obtain⟨_,_,_,_,_,_,_,h⟩:=Vn p hp
   dsimp only[G_]
   exact h
  have rs:∀p∈ps,_:=λp hp=>Dg.AH (g:=gt.getD p.toNat 0) Z (Lu p hp) G0 dv (gb _)
  generalize hR:(λp:Int=>Dg.tt (cu fN p)*gt.getD p.toNat 0* (S.2 / G)+Dg.gF S.1 (cu fN p))=R at *
  have Re:∀p,R p=Dg.tt (cu fN p)*gt.getD p.toNat 0* (S.2 / G)+Dg.gF S.1 (cu fN p):=λp=>by rw[<-hR]
  change tSeq _ _ _ _ _
  refine aP (λσ' H1=>H=H1/\σ'=[some (.ref bk),some (.ref gn),some (.ref pt),some (.ref wl),some (.int (S.2 / G)),none,none,none,none,none,none]) ?_ (λN hN=>?_)
  case refine_2=>
   simp_all only[kU]
   exact⟨_,_,_,Lr,T.cC,T.na_Book_bottom,_,ur,_,_,_,Vm,T.cC,T.na_Book_bottom,_,ur,_,rfl,_,rfl,eO.of G0 bG,hN _ _ ⟨rfl,rfl⟩⟩
  rintro _ _ ⟨rfl,rfl⟩
  change tSeq _ _ _ _ _
  refine aP (λσ' H1=>∃r,az H H1/\H r=none/\H1 r=some (.lst [])/\σ'=[some (.ref bk),some (.ref gn),some (.ref pt),some (.ref wl),some (.int (S.2 / G)),some (.ref r),none,none,none,none,none]) ?_ (λN hN=>?_)
  case refine_2=>
   simp_all only[]
   exact⟨aas _,λr n3=>hN _ _ ⟨r,au n3,n3,ar,rfl⟩⟩
  intro _ H1 bH
  refine(?_:let G_:Prop:=_;G_)
  intro G_
  obtain⟨r,s1,nr,Jd,rfl⟩:=bH
  dsimp only[G_]
  clear G_
  change tSeq _ _ _ _ _
  refine aP (λσ' H2=>az H H2/\H2 r=some (.lst ((ps.map R).map V.int))/\∃z6 z7,σ'=[some (.ref bk),some (.ref gn),some (.ref pt),some (.ref wl),some (.int (S.2 / G)),some (.ref r),z6,z7,none,none,none]) ?_ (λN hN=>?_)
  case refine_2=>
   simp_all only[]
   refine⟨⟨_,bj.of (s1 _ _ hp)⟩,bL (src_list (K:=K) (a:=pt) (xs:=ps.map V.int) (Ok:=az H) (λH' s=>bj.of (s _ _ hp))) (λj σ H2=>az H H2/\H2 r=some (.lst (((ps.take j).map R).map V.int))/\∃z6 z7,σ=[some (.ref bk),some (.ref gn),some (.ref pt),some (.ref wl),some (.int (S.2 / G)),some (.ref r),z6,z7,none,none,none]) ⟨s1,Jd,_,_,rfl⟩ (λ_ _ _ _ h=>h.1) ?_ ?_⟩
   ·intro j y σ H2 H3 hj dC dI
    refine(?_:let G_:Prop:=_;G_)
    intro G_
    obtain⟨s2,Gs,z6,z7,rfl⟩:=dC
    obtain⟨rfl,ey⟩:=dI
    dsimp only[G_]
    clear G_
    rw[aac] at hj
    rw[aag,aad hj] at ey
    cases ey
    have mp:=aao hj
    have tk:ps.take (j+1)=ps.take j++ [ps[j]]:=by rw[aaE,aad hj];rfl
    rw[tk]
    generalize ps[j]=p at *
    obtain⟨p,rfl⟩:=aau (Ed p mp).1
    refine(?_:let G_:Prop:=_;G_)
    intro G_
    obtain⟨wv,us,Gj,rv,Dm,ru,lu,Nc⟩:=Vn p mp
    obtain⟨bR,_⟩:=rs _ mp
    dsimp only[G_]
    clear G_
    have Gu:fK (gt.map V.int) (p:Int)=some (.int (gt.getD p 0)):=by have:=dN (ns:=gt) (i:=(p:Int)) (by omega) (by have:=(Ed _ mp).2;omega);rwa [aai] at this
    have eR:=Re (p:Int)
    rw[aai] at bR eR
    generalize cu fN (p:Int)=ws at *
    obtain⟨d0,d1⟩:=Nc.tt
    have bd:Bt 20 (Dg.tt ws):=Bt.of 1000000 (by omega) (by omega)
    have w5:=Nc.1
    have bg:Bt 440 (gt.getD p 0):=by
     have h1:=gb p
     have h2:Bt 440 (2^40*G):=by
      have k:Bt 400 G:=bG
      unfold Bt at k ⊢
      rw[aaL,show((2:Int)^40).natAbs=2^40 by decide,show 440=40+400 by decide,Nat.pow_add]
      exact Nat.mul_lt_mul_of_pos_left k (by decide)
     refine h2.le ?_
     rw[aaL,show((2:Int)^40).natAbs=2^40 by decide,show G.natAbs=G.toNat by omega]
     exact h1
    simp_all only[t7,kU,c8]
    refine⟨_,s2 _ _ hw,_,Gj,wv,rfl,ws,rv.mono s2,w5,λH4 s4=>?_⟩
    have lL:=s2.trans s4
    refine⟨_,_,_,lL _ _ Vm,T.cC,T.na_Book_tops,_,kL,_,rfl,_,lL _ _ Yi,_,Gu,_,rfl,bd.dD bg,(bd.mul bg).dD Yj (by omega),?_⟩
    refine⟨.inl ⟨rfl,_,bj.of (s4 _ _ Gs)⟩,_,lL _ _ hw,_,Gj,wv,rfl,⟨_,bj.of (lL _ _ Dm)⟩,?_⟩
    have S':Src (vT K wv) (az H4) ws.length (λi x H H3=>H3=H/\us[i]?=some x):=by rw[<-lu];exact src_list (λH' s'=>bj.of (s' _ _ (lL _ _ Dm)))
    refine iX ws (λx=>some (x.1*S.1.getD x.2.toNat 0)) S' (λ_ _ _ _ h=>h.1) (by omega) ?_ ?_
    ·rintro j x v0 ex ⟨_,ey⟩
     refine(?_:let G_:Prop:=_;G_)
     intro G_
     obtain⟨t,et,ht⟩:=cO (ru.mono lL) ex
     dsimp only[G_]
     rw[ey] at et
     cases et
     refine(?_:let G_:Prop:=_;G_)
     intro G_
     obtain⟨x1,x2,x3,x4⟩:=Nc.2 x (aae ex)
     dsimp only[G_]
     have Yk:fK (S.1.map V.int) x.2=some (.int (S.1.getD x.2.toNat 0)):=dN x3 (by omega)
     refine⟨t,_,_,rfl,d7.of ht,λY N y1 _=>?_⟩
     simp_all only[gQ,kU]
     exact⟨_,_,_,lL _ _ Lr,T.cC,T.na_Book_tops,_,kL,_,rfl,_,lL _ _ G4,_,Yk,_,rfl,(Bt.of (n:=18) 200000 (by omega) (by omega)).dD (Z.bt _) (by omega),y1 _ rfl⟩
    ·intro D n1 n2
     rw[en]
     have eR:R (p:Int)=Dg.tt ws*gt.getD p 0* (S.2 / G)+ (ws.map λx=>x.1*S.1.getD x.2.toNat 0).sum:=eR
     refine⟨_,bj.of ar,_,au n2 _ _ (s4 _ _ Gs),by rw[aac,aac,aaX];omega,ba (lL.trans (au n2)) nr,?_,_,rfl⟩
     rw[ar,<-eR,aax,aax]
     rfl
   ·intro σ H2 bH
    refine(?_:let G_:Prop:=_;G_)
    intro G_
    obtain⟨s2,Gs,z6,z7,rfl⟩:=bH
    dsimp only[G_]
    rw[aac,List.take_length] at Gs
    exact hN _ _ ⟨s2,Gs,_,_,rfl⟩
  intro _ H2 bH
  refine(?_:let G_:Prop:=_;G_)
  intro G_
  obtain⟨s2,Gs,z6,z7,rfl⟩:=bH
  dsimp only[G_]
  clear G_
  have lR:(ps.map R).length=ps.length:=aac ..
  have bR:∀x∈ps.map R,x.natAbs<=2^ (M+61):=λx hx=>by
   refine(?_:let G_:Prop:=_;G_)
   intro G_
   obtain⟨p,hp,rfl⟩:=List.mem_map.mp hx
   dsimp only[G_]
   rw[Re]
   exact(rs p hp).2
  have b1:(1:Nat)<=2^20:=by decide
  have bc:(2:Nat)^20<=2^ (M+61):=abo (by decide) (by omega)
  have top:=Dg.AG ps.length M (by omega) p0
  have Yl:(ps.length+1)^ (ps.length+1)* (2^ (M+61)* (2^20)^ps.length)<2^4000:=aav top (abo (by decide) (by omega))
  change tSeq _ _ _ _ _
  refine aP (λσ' H3=>∃u q d x L,az H2 H3/\H3 u=some (.tup [.ref q,.int d])/\H3 q=some (.lst (x.map V.int))/\Dg.o9 ps (cu fN) L/\US L (ps.map R) ps.length x d/\d.natAbs<=(ps.length+1)^ (ps.length+1)* (2^20)^ps.length/\(∀v∈x,v.natAbs<=(ps.length+1)^ (ps.length+1)* (2^ (M+61)* (2^20)^ps.length))/\σ'=[some (.ref bk),some (.ref gn),some (.ref pt),some (.ref wl),some (.int (S.2 / G)),some (.ref r),z6,z7,some (.ref u),none,none]) ?_ (λN hN=>?_)
  case refine_2=>
   simp_all only[AE,FH]
   refine⟨ps,s2 _ _ hp,_,s2 _ _ hw,_,rl.mono s2,Gr,by omega,λp hp=>by have:=Ed p hp;omega,λws Jm=>(wk ws Jm).1,λr2 L H3 s3 mt rp=>?_⟩
   have sq:aS.Sq L ps.length:=⟨rp.1,rp.2.1⟩
   have hL:=rp.ent Lu
   have sw:=CY sq lR (by omega) b1 bc hL bR Yl
   refine⟨L,mt,_,s3 _ _ Gs,?_⟩
   rw[lR]
   refine⟨sq,sw,λk rs W H4 St hk st s4=>?_,λrs W t p H4 St s4 ht JC=>?_⟩
   ·exact absurd (aS.yr sq lR St hk st) (rp.Aw Gr (λp hp x hx=>((Lu p hp).2 x hx).1) dn)
   ·obtain⟨z1,z2⟩:=FJ sq lR b1 bc hL bR St
    exact hN _ _ ⟨t,p,_,_,L,s3.trans s4,ht,JC,rp,FI sq lR sw St,z1,z2,rfl⟩
  intro _ H3 bH
  refine(?_:let G_:Prop:=_;G_)
  intro G_
  obtain⟨u,q,d,x,L,s3,hu,hq,rp,so,zd,zx,rfl⟩:=bH
  dsimp only[G_]
  clear G_
  have Hb:=s2.trans s3
  have d0:=so.pos
  have lx:=so.len
  have Lm:Bt (92*ps.length) d:=abf zd (Dg.C1 _ (by omega) p0)
  change tSeq _ _ _ _ _
  refine aP (λσ' H4=>∃y dy m',az H3 H4/\H3 y=none/\H3 m'=none/\H4 y=some (.ins aB dy [("tops",.ref m'),("bottom",.int (S.2*d))])/\H4 m'=some (.lst ((S.1.map (·*d)).map V.int))/\σ'=[some (.ref bk),some (.ref gn),some (.ref pt),some (.ref wl),some (.int (S.2 / G)),some (.ref r),z6,z7,some (.ref u),some (.ref y),none]) ?_ (λN hN=>?_)
  case refine_2=>
   simp_all only[pF,hu]
   refine⟨_,_,Hb _ _ Lr,Jt,bk,S,_,rfl,⟨_,_,Hb _ _ Lr,Hb _ _ G4⟩,so.bd,Z.bb.mono (by omega),Nb,by omega,λy dy m' H4 s4 ny nm hy hm=>hN _ _ ⟨y,dy,m',s4,ny,nm,hy,hm,rfl⟩⟩
  intro _ H4 bH
  refine(?_:let G_:Prop:=_;G_)
  intro G_
  obtain⟨y,dy,m',s4,ny,Ym,hy,Jv,rfl⟩:=bH
  dsimp only[G_]
  clear G_
  change tSeq _ _ _ _ _
  refine aP (λσ' H5=>az H3 H5/\H5 y=some (.ins aB dy [("tops",.ref m'),("bottom",.int (S.2*d))])/\H5 m'=some (.lst ((Dg.putK ps x (S.1.map (·*d)) ps.length).map V.int))/\∃z6 pd,σ'=[some (.ref bk),some (.ref gn),some (.ref pt),some (.ref wl),some (.int (S.2 / G)),some (.ref r),z6,z7,some (.ref u),some (.ref y),pd]) ?_ (λN hN=>?_)
  case refine_2=>
   simp_all only[s4 _ _ hu]
   refine⟨⟨_,bj.of (s4 _ _ (Hb _ _ hp))⟩,⟨_,bj.of (s4 _ _ hq)⟩,bL (jv (K:=K) (Ok:=az H3) (λH' s=>bj.of (s _ _ (Hb _ _ hp))) (λH' s=>bj.of (s _ _ hq))) (λj σ H5=>az H3 H5/\H5 y=some (.ins aB dy [("tops",.ref m'),("bottom",.int (S.2*d))])/\H5 m'=some (.lst ((Dg.putK ps x (S.1.map (·*d)) j).map V.int))/\∃z6 pd,σ=[some (.ref bk),some (.ref gn),some (.ref pt),some (.ref wl),some (.int (S.2 / G)),some (.ref r),z6,z7,some (.ref u),some (.ref y),pd]) ⟨s4,hy,Jv,_,_,rfl⟩ (λ_ _ _ _ h=>h.1) ?_ ?_⟩
   ·intro j v0 σ H5 H6 hj dC dI
    refine(?_:let G_:Prop:=_;G_)
    intro G_
    obtain⟨s5,Ef,Gv,z6,pd,rfl⟩:=dC
    obtain⟨t,x1,x2,nt,rfl,e1,e2,rfl⟩:=dI
    dsimp only[G_]
    clear G_
    have hj:j<ps.length:=by rw[aac,aac] at hj;omega
    have g1:ps.getD j 0=ps[j]:=by rw[aaf,aad hj];rfl
    have g2:x.getD j 0=x[j]:=by rw[aaf,aad (by omega)];rfl
    rw[aag,aad hj] at e1
    rw[aag,aad (show j<x.length by omega)] at e2
    cases e1
    cases e2
    have mp:=aao hj
    have pk:Dg.putK ps x (S.1.map (·*d)) (j+1)=(Dg.putK ps x (S.1.map (·*d)) j).set (ps[j]).toNat x[j]:=by
     rw[<-g1,<-g2]
     rfl
    have lk:(Dg.putK ps x (S.1.map (·*d)) j).length=n:=by rw[Dg.jE,aac,lS]
    rw[pk]
    generalize Dg.putK ps x (S.1.map (·*d)) j=ts at *
    generalize x[j]=xj at *
    generalize ps[j]=p at *
    have ip:=Ed p mp
    obtain⟨p,rfl⟩:=aau ip.1
    refine⟨t,_,rfl,d7.of ar,rfl,?_⟩
    have s6:=au (o:=.tup [.int (p:Int),.int xj]) nt
    generalize upd H5 t (.tup [.int (p:Int),.int xj])=H6 at *
    simp_all only[kU]
    have ym:y≠m':=λz=>by rw[z,Gv] at Ef;cases Ef
    have lm:p< (ts.map V.int).length:=by rw[aac];omega
    refine⟨_,_,_,s6 _ _ Ef,T.cC,T.na_Book_tops,_,kL,_,rfl,_,s6 _ _ Gv,p,fZ lm,ba (s5.trans s6) Ym,by rw[aI ym];exact s6 _ _ Ef,?_,_,rfl⟩
    rw[ar,aai,List.map_set]
   ·intro σ H5 bH
    refine(?_:let G_:Prop:=_;G_)
    intro G_
    obtain⟨s5,Ef,Gv,z6,pd,rfl⟩:=bH
    dsimp only[G_]
    have lm:min (List.map V.int ps).length (List.map V.int x).length=ps.length:=by rw[aac,aac];omega
    rw[lm] at Gv
    exact hN _ _ ⟨s5,Ef,Gv,_,_,rfl⟩
  intro _ H5 bH
  refine(?_:let G_:Prop:=_;G_)
  intro G_
  obtain⟨s5,Ef,Gv,z6,pd,rfl⟩:=bH
  dsimp only[G_]
  simp_all only[]
  have lT:(Dg.putK ps x (S.1.map (·*d)) ps.length).length=n:=by rw[Dg.jE,aac,lS]
  have out:∀q,0<=q->q∉ps->(Dg.putK ps x (S.1.map (·*d)) ps.length).getD q.toNat 0=S.1.getD q.toNat 0*d:=λq q0 hq=>by
   rw[Dg.t9 q0 (λp hp=>(Ed p hp).1) hq _ (aah _),Dg.rG]
  have ins:∀j,j<ps.length->(Dg.putK ps x (S.1.map (·*d)) ps.length).getD (ps.getD j 0).toNat 0=x.getD j 0:=λj hj=>Dg.wV Gr Ed (by rw[aac,lS]) _ (aah _) hj
  have bM:Bt (M+92*ps.length) (S.2*d):=Z.bb.mul Lm
  refine kk y (Dg.putK ps x (S.1.map (·*d)) ps.length,S.2*d) H5 (Hb.trans s5) ⟨dy,m',Ef,Gv⟩ ⟨d,d0,rfl,lT.trans lS.symm,out,λp hp=>?_⟩ ⟨lT,aa7 B0 d0,bM,λk=>?_⟩
  ·refine(?_:let G_:Prop:=_;G_)
   intro G_
   obtain⟨i,hi,rfl⟩:=aa5 hp
   dsimp only[G_]
   have g1:ps.getD i 0=ps[i]:=by rw[aaf,aad hi];rfl
   have sl:=so.eq i hi
   rw[aaf (l:=ps.map R),aag,aad hi] at sl
   have e:=Dg.CZ (S:=S.1) (T:=Dg.putK ps x (S.1.map (·*d)) ps.length) (x:=x) (d:=d) (r:=R ps[i]) rp Gr hi sl zr ins (λy hy hn=>out y.2 (by have:=(Lu _ (by rw[g1];exact hp)).2 y hy;omega) hn)
   rw[g1] at e
   show Dg.tt _* (Dg.putK ps x (S.1.map (·*d)) ps.length).getD _ 0=_
   rw[e,Re,Int.add_mul]
   show _=_+Dg.gF (Dg.putK ps x (S.1.map (·*d)) ps.length) _
   omega
  ·show Bt _ ((Dg.putK ps x (S.1.map (·*d)) ps.length).getD k 0)
   by_cases c:(k:Int)∈ps
   ·refine(?_:let G_:Prop:=_;G_)
    intro G_
    obtain⟨j,hj,ej⟩:=aa5 c
    dsimp only[G_]
    have g1:ps.getD j 0=(k:Int):=by rw[aaf,aad hj,ej];rfl
    have e:=ins j hj
    rw[g1,aai] at e
    rw[e,aaf,aad (by omega)]
    exact abf (zx _ (aao _)) top
   ·have e:=out (k:Int) (by omega) c
    rw[aai] at e
    rw[e]
    exact(Z.bt k).mul Lm
theorem dF (c:Int->Bool):∀l:List Int,l.filterMap (λx=>if c x=true then some x else none)=l.filter c
 | []=>rfl
 | x::l=>by
  rw[List.filterMap_cons,List.filter_cons,dF c l]
  cases c x <;>rfl
theorem iJ:aN ["place","tops","sign","wanted"] ["place","tops"] (ae (top 40)):=⟨rfl,rfl,rfl,by decide +kernel,rfl,by decide +kernel,by decide +kernel⟩
theorem Gw (T:Txt K mg aB tc):bS P w K mg base (bK P w) 1 "wanted_way" ["place","tops"] AW:=by
 refine T.qV.d9 (λ_ _ _ _ _ _=>eA λ_ _=>rfl) λf fd F=>F.eC iJ (λvs H Q E h=>?_) (λcG A outer s H vs Q E hr h=>?_)
 ·obtain⟨_,_,_,_,_,rfl,_⟩:=h;rfl
 ·refine(?_:let G_:Prop:=_;G_)
  intro G_
  obtain⟨v,m,who,to,ts,rfl,rv,hm,l0,l3,lZ,bt,kk⟩:=h
  dsimp only[G_]
  clear G_
  have nd:=iJ.nd
  refine⟨_,(af (aF (i:=2) nd rfl (Or.inr rfl) (gJ (aR cQ (aH aK (pv 0) ag (λ_ _=>rfl)) ag (aX _)) ag (yR uK ag)))
  (af (eQ (i:=3) rfl nd rfl rfl (N:=["place","tops","sign","wanted"]) (so:=ae (top 40)) (N':=["to","tops","sign"]) (k:=1) (fr:=[1,2]) rfl rfl ⟨rfl,by decide +kernel,by decide +kernel,by decide +kernel,rfl,by decide +kernel,by decide +kernel⟩ (br (K:=K) (aH aK (pv 0) ag (λ_ _=>rfl))) (λ_ _ _ _ _=>(aE (i:=0) (show(["to","tops","sign"]:List Str).Nodup by decide +kernel) rfl (Or.inl rfl))) (λ_ _ _ _ _=>bJ)
   (λ_ _ _ _ _=>(aD aW (pv 2) (aH aJ (pv 1) (pv 0) (λ_ _=>rfl)))))
  (ax (aQ (eF aaP PySem.F.slot_list_index PySem.F.type_list_index (vg (K:=K)) (pv 3) (aa (aZ (tq (K:=K)) (by rfl) T.z_max rfl (aa (pv 3) ao (se rfl)) (he:=se rfl) (hpl:=na rfl)) ao (se rfl))))))),?_⟩
  refine(?_:let cv:TS:=_;let cw:TS:=_;let cy:TS:=_;tSeq cv (tSeq cw cy) _ _ _)
  intro cv cw cy
  have sl:=sizeLine_eq
  refine(?_:let G_:Prop:=_;G_)
  intro G_
  obtain⟨t,l,rfl,ht,hl⟩:=cJ.mp rv
  dsimp only[G_]
  clear G_
  change tSeq _ _ _ _ _
  refine aP (λσ' H1=>H=H1/\σ'=[some (.ref t),some (.ref m),some (.int (sgn who)),none]) ?_ (λN hN=>?_)
  case refine_2=>
   simp_all only[ht]
   refine gC (λc=>hN _ _ ⟨rfl,by unfold sgn;rw[if_pos c]⟩) (λc=>hN _ _ ⟨rfl,by unfold sgn;rw[if_neg c]⟩)
  rintro _ _ ⟨rfl,rfl⟩
  have sg:=FX who
  generalize hu:sgn who=u at *
  change tSeq _ _ _ _ _
  refine aP (λσ' H1=>∃d,az H H1/\H1 d=some (.lst (List.map V.int (to.map λg=>u*ts.getD g.toNat 0)))/\σ'=[some (.ref t),some (.ref m),some (.int u),some (.ref d)]) ?_ (λN hN=>?_)
  case refine_2=>
   simp_all only[ht]
   refine⟨⟨_,bj.of hl⟩,?_⟩
   have S':Src (vT K l) (az H) to.length (λi x H H3=>H3=H/\(to.map V.int)[i]?=some x):=by
    have:=src_list (K:=K) (a:=l) (xs:=to.map V.int) (Ok:=az H) (λH' s'=>bj.of (s' _ _ hl))
    rwa [aac] at this
   refine dE to (λg=>some (u*ts.getD g.toNat 0)) S' (λ_ _ _ _ h=>h.1) (by omega) ?_ ?_
   ·rintro i g x eg ⟨_,ex⟩ Y N y1 _
    rw[aag,eg] at ex
    cases ex
    obtain⟨g0,g1⟩:=lZ g (aae eg)
    have Gu:fK (ts.map V.int) g=some (.int (ts.getD g.toNat 0)):=dN g0 g1
    have hg:g.toNat<ts.length:=by omega
    have bg:Bt 4000 (ts.getD g.toNat 0):=bt _ (by rw[aaf,aad hg];exact aao hg)
    simp_all only[gQ,hm,Gu]
    exact⟨(Bt.of (n:=1) 1 (by omega) (by omega)).dD bg,y1 _ rfl⟩
   ·intro D n1 n2
    rw[en]
    exact hN _ _ ⟨D,au n2,ar,rfl⟩
  intro _ H1 bH
  refine(?_:let G_:Prop:=_;G_)
  intro G_
  obtain⟨d,s1,hd,rfl⟩:=bH
  dsimp only[G_]
  clear G_
  simp_all only[Fj]
  refine⟨.inl ⟨rfl,_,bj.of hd⟩,_,bj.of hd,by rw[aac];exact l0,λM mM gM=>⟨_,bj.of hd,mM,by rw[aac];omega,?_⟩⟩
  have lt:=aa3 mM
  have eg:=aa8 lt
  rw[aac] at lt
  generalize List.idxOf M (to.map λg=>u*ts.getD g.toNat 0)=w' at *
  rw[List.getElem_map] at eg
  refine kk w' _ s1 lt λg hg=>?_
  have e2:to.getD w' 0=to[w']:=by rw[aaf,aad lt];rfl
  rw[e2,hu,eg]
  exact gM _ (List.mem_map.mpr ⟨g,hg,rfl⟩)
theorem hG:aN ["board","places","ways","tops","found","place","way","picked"] ["board","places","ways","tops"] (ae (top 41)):=⟨rfl,rfl,rfl,by decide +kernel,rfl,by decide +kernel,by decide +kernel⟩
theorem JD (T:Txt K mg aB tc):bS P w K mg base (bK P w) 2 "better_ways" ["board","places","ways","tops"] AX:=by
 have rT:bS P w K mg base (bK P w) 1 "wanted_way" ["place","tops"] AW:=Gw T
 refine T.o3.d9 (λ_ _ _ _ _ _=>Fu λ_ _ _ _=>rfl) λf fd F=>F.eC hG (λvs H Q E h=>?_) (λcG A outer s H vs Q E hr h=>?_)
 ·obtain⟨_,_,_,_,_,_,_,_,_,_,rfl,_⟩:=h;rfl
 ·refine(?_:let G_:Prop:=_;G_)
  intro G_
  obtain⟨bl,ql,wl,m,b,ks,who,ts,qs,xs,rfl,rb,Vo,hw,rl,hm,Yn,bt,ko,G7,Lj,l16,kk⟩:=h
  dsimp only[G_]
  clear G_
  have nd:=hG.nd
  refine⟨_,(af (aF (i:=4) nd rfl (Or.inl rfl) (cY ao))
  (af (cf PassesOwn.never rfl (br (K:=K) (pv 1)) (aE (i:=5) nd rfl (Or.inl rfl)) (af (aF (i:=6) nd rfl (Or.inl rfl) (aG rT (hr.mono (by decide)) rfl aA.pass (aa (aH aJ (pv 0) (pv 5) (λ_ _=>rfl)) (aa (pv 3) ao (se rfl)) (se rfl)) (he:=se rfl) (hpl:=na rfl)))
  (af (aF (i:=7) nd rfl (Or.inl rfl) (aH aK (aH aJ (aH aJ (pv 2) (pv 5) (λ_ _=>rfl)) ag (λ_ _=>rfl)) ag (λ_ _=>rfl)))
  (ax (bU (aR vX (aH aJ (pv 3) (aH aJ (aH aK (aH aJ (pv 0) (pv 5) (λ_ _=>rfl)) ag (λ_ _=>rfl)) (pv 6) (λ_ _=>rfl)) (λ_ _=>rfl)) (aH aJ (pv 3) (pv 7) (λ_ _=>rfl)) (aX _)) (ax (c7 (eF aaP aa9 aba cB.r (pv 4) (aa (bV (aa (pv 5) (aa (pv 6) ao (se rfl)) (se rfl))) ao (se rfl)))))
   bB)))))
  (ax (aQ (pv 4))))),?_⟩
  refine(?_:let cv:TS:=_;let cw:TS:=_;let cy:TS:=_;tSeq cv (tSeq cw cy) _ _ _)
  intro cv cw cy
  have sl:=sizeLine_eq
  refine(?_:let G_:Prop:=_;G_)
  intro G_
  obtain⟨_,xb,e,Hc,He⟩:=aO.mp rb
  dsimp only[G_]
  clear G_
  cases e
  simp_all only[]
  refine⟨aas _,λfo nf=>?_⟩
  have s1:=au (o:=.lst []) nf
  have h1:upd H fo (.lst []) fo=some (.lst []):=ar
  generalize upd H fo (.lst [])=H1 at *
  refine⟨⟨_,bj.of (s1 _ _ Vo)⟩,bL (src_list (K:=K) (a:=ql) (xs:=qs.map V.int) (Ok:=az H) (λH2 s2=>bj.of (s2 _ _ Vo))) (λi σ H'=>az H H'/\∃(bs:List (Int×Int)) (ys:List V) (z5 z6 z7:Option V),H' fo=some (.lst ys)/\bf (cF H' fo) (bs.map bz) ys/\iD b ks who ts (qs.take i) bs/\σ=[some (.ref bl),some (.ref ql),some (.ref wl),some (.ref m),some (.ref fo),z5,z6,z7]) ⟨s1,[],[],_,_,_,h1,rfl,iD.start,rfl⟩ (λ_ _ _ _ h=>h.1) ?_ ?_⟩
  ·intro i y σ H2 H3 hi dC dI
   refine(?_:let G_:Prop:=_;G_)
   intro G_
   obtain⟨s2,bs,ys,z5,z6,z7,Je,ry,W,rfl⟩:=dC
   obtain⟨rfl,ey⟩:=dI
   dsimp only[G_]
   clear G_
   rw[aac] at hi
   rw[aag,aad hi] at ey
   cases ey
   have tk:qs.take (i+1)=qs.take i++ [qs[i]]:=by rw[aaE,aad hi];rfl
   refine(?_:let G_:Prop:=_;G_)
   intro G_
   obtain⟨p0,to,eb⟩:=Lj _ (aao hi)
   dsimp only[G_]
   clear G_
   have ly:=ry.length
   have lb:=W.sub.length_le
   rw[aac,aaX] at lb
   rw[aac] at ly
   rw[tk]
   generalize qs[i]=p at *
   obtain⟨p,rfl⟩:=aau p0
   rw[aai] at eb
   have hp:=(List.getElem?_eq_some_iff.mp eb).1
   have pq:=G7 _ (aae eb)
   refine(?_:let G_:Prop:=_;G_)
   intro G_
   obtain⟨k,ek,k0,k1,ew,et,mt⟩:=oB ko eb
   obtain⟨v,ev,rv⟩:=fx He eb
   have Lx:p< (cz b ks).length:=by unfold cz;rw[aaV,ko.len];omega
   have Yo:(cz b ks)[p]?=some [(1,to.getD k.toNat 0)]:=by
    rw[<-ew]
    unfold cu
    rw[aai,aaf,aad Lx]
    rfl
   obtain⟨Yp,tk1⟩:=pq.2.2.2 _ mt
   dsimp only[G_]
   clear G_
   generalize to.getD k.toNat 0=tg at *
   obtain⟨vw,Yq,Yr⟩:=rl.at (d:=qg [(1,tg)]) (i:=p) (by rw[aag,Yo];rfl)
   refine(?_:let G_:Prop:=_;G_)
   intro G_
   obtain⟨wv,us,rfl,Dm,ru⟩:=aO.mp Yr
   obtain⟨t0,Nd,JE⟩:=cO (i:=0) ru rfl
   obtain⟨t,l,rfl,ht,hl⟩:=cJ.mp rv
   dsimp only[G_]
   simp_all only[AW,s2 _ _ Hc,show fK xb (p:Int)=some (.ref t) from bC ev]
   refine⟨who,to,rv.mono s2,ts,s2 _ _ hm,pq.2.1,pq.2.2.1,by rw[Yn];exact pq.2.2.2,bt,λw H4 s4 Nf best=>?_⟩
   have lL:=s2.trans s4
   have Ng:fK us 0=some (.ref t0):=bC (j:=0) Nd
   simp only[lL _ _ hw,show fK xs (p:Int)=some (.ref wv) from bC Yq,lL _ _ Dm,Ng,lL _ _ JE,L2.start,Pr,tRev,tD1,tDPop1,tSl,tNoPart,tPart,rSlL,tDIn,tDNotIn,gSub,rSetL,tLst,tDNewK,tComp,L2.stC,tFor_eq,iList,iTup,iRng1,iRng2,iZip,iEnum,iDict,iStr,tChain,tSumV,tBM,rJoin,tJoined,jNil,jLit,jInt,jStr,tRaise,tDGet,tDGet2,tDGet1,sDPut,Option.join_some,List.getElem?_nil,tSeq,tRet,tRetN,tIfS,tTest,tB,tOp,tUn,tVar,tC,tCB,tCons,tNil,tCall,tTupS,tAsg,gName,gNil,gCons,tPar,tNext,tDrop,tAnd,tOr,tNot,tAndV,tOrV,tNotV,tIf,rI,rI0,rU,rIxTH,rIxLH,rEqT,rNeT,rInT,rEq,rNe,scal_ss,scal_ii,scal_bb,scal_si,scal_is,CPow,at0,at1,at2,aat,aa0,aar,abe,Nat.reduceSub,Nat.reduceAdd,aa1,abx,List.reduceReplicate,aa6,List.nil_append,abr,abt,abk,abg,abh,abu,exists_eq_left',exists_eq_left,V.ref.injEq,V.int.injEq,V.bl.injEq,V.str.injEq,V.ty.injEq,HO.tup.injEq,HO.lst.injEq,List.cons.injEq,and_true,true_and,and_assoc,exists_and_left,decide_eq_true_eq,Bool.not_eq_true',decide_eq_false_iff_not,ite_true,ite_false,if_true,if_false,Int.reduceToNat,eq_self_iff_true]
   have Vp:to.getD w 0=to[w]:=by rw[aaf,aad Nf];rfl
   obtain⟨g0,g1⟩:=pq.2.2.2 _ (aao Nf)
   have Gj:fK (to.map V.int) (w:Int)=some (.int to[w]):=nE (f:=V.int) (aad Nf)
   have Gu:fK (ts.map V.int) to[w]=some (.int (ts.getD (to[w]).toNat 0)):=dN g0 (by omega)
   have Ys:fK (ts.map V.int) tg=some (.int (ts.getD tg.toNat 0)):=dN Yp (by omega)
   refine⟨_,lL _ _ Hc,_,bC ev,t,rfl,_,lL _ _ ht,_,at2,l,rfl,_,lL _ _ hl,_,Gj,_,_,rfl,lL _ _ hm,_,Gu,_,lL _ _ hm,_,Ys,rfl,?_⟩
   have Di:=s4 _ _ Je
   by_cases ce:ts.getD (to[w]).toNat 0=ts.getD tg.toNat 0
   ·rw[if_neg (by rw[ce];simp)]
    refine⟨lL,bs,ys,Di,ry.mono (bI s4),⟨λx hx=>⟨abv _ (W.mem x hx).1,(W.mem x hx).2⟩,λp' iH nb Nh D7=>?_,List.Sublist.trans W.sub (List.sublist_append_left _ _)⟩,_,rfl⟩
    rcases List.mem_append.mp iH with iH | iH
    ·exact W.cE p' iH nb Nh D7
    ·rw[List.mem_singleton.mp iH,aai,eb] at D7
     cases D7
     rw[List.mem_singleton.mp iH,et,<-ce,<-Vp]
     exact best
   ·rw[if_pos (λz=>ce (by injection z))]
    refine⟨.inl ⟨rfl,_,bj.of Di⟩,by decide,λt5 H5 s5 n5 h5=>?_⟩
    simp only[c8,L2.start,Pr,tRev,tD1,tDPop1,tSl,tNoPart,tPart,rSlL,tDIn,tDNotIn,gSub,rSetL,tLst,tDNewK,tComp,L2.stC,tFor_eq,iList,iTup,iRng1,iRng2,iZip,iEnum,iDict,iStr,tChain,tSumV,tBM,rJoin,tJoined,jNil,jLit,jInt,jStr,tRaise,tDGet,tDGet2,tDGet1,sDPut,Option.join_some,List.getElem?_nil,tSeq,tRet,tRetN,tIfS,tTest,tB,tOp,tUn,tVar,tC,tCB,tCons,tNil,tCall,tTupS,tAsg,gName,gNil,gCons,tPar,tNext,tDrop,tAnd,tOr,tNot,tAndV,tOrV,tNotV,tIf,rI,rI0,rU,rIxTH,rIxLH,rEqT,rNeT,rInT,rEq,rNe,scal_ss,scal_ii,scal_bb,scal_si,scal_is,CPow,at0,at1,at2,aat,aa0,aar,abe,Nat.reduceSub,Nat.reduceAdd,aa1,abx,List.reduceReplicate,aa6,List.nil_append,abr,abt,abk,abg,abh,abu,exists_eq_left',exists_eq_left,V.ref.injEq,V.int.injEq,V.bl.injEq,V.str.injEq,V.ty.injEq,HO.tup.injEq,HO.lst.injEq,List.cons.injEq,and_true,true_and,and_assoc,exists_and_left,decide_eq_true_eq,Bool.not_eq_true',decide_eq_false_iff_not,ite_true,ite_false,if_true,if_false,Int.reduceToNat,eq_self_iff_true]
    have Yt:t5≠fo:=λz=>by rw[z,Di] at n5;cases n5
    refine⟨_,s5 _ _ Di,by omega,ba (lL.trans s5) nf,bs++ [((p:Int),(w:Int))],_,ar,?_,⟨λx hx=>?_,λp' iH nb Nh D7=>?_,?_⟩,_,rfl⟩
    ·rw[aax]
     exact nv (ry.mono (bI (s4.trans s5))) (bP.mpr ⟨t5,rfl,by rw[bE Yt];exact h5⟩)
    ·rcases List.mem_append.mp hx with hx | hx
     ·exact⟨abv _ (W.mem x hx).1,(W.mem x hx).2⟩
     ·rw[List.mem_singleton.mp hx]
      refine⟨aaI _ (List.mem_singleton.mpr rfl),to,by rw[aai];exact eb,by show(0:Int)<=(w:Int);omega,by show(w:Int)<_;omega,by show AS who to ts (w:Int).toNat;rw[aai];exact best,?_⟩
      show ts.getD (to.getD (w:Int).toNat 0).toNat 0≠ts.getD (yw b ks (p:Int)).toNat 0
      rw[aai,et,Vp]
      exact ce
    ·rw[aax,List.mem_append] at nb
     rcases List.mem_append.mp iH with iH | iH
     ·exact W.cE p' iH (λz=>nb (.inl z)) Nh D7
     ·exact absurd (.inr (by rw[List.mem_singleton.mp iH];exact List.mem_singleton.mpr rfl)) nb
    ·rw[aax]
     exact W.sub.append (List.Sublist.refl _)
  ·intro σ H2 bH
   refine(?_:let G_:Prop:=_;G_)
   intro G_
   obtain⟨s2,bs,ys,z5,z6,z7,Je,ry,W,rfl⟩:=bH
   dsimp only[G_]
   rw[aac,List.take_length] at W
   simp_all only[]
   exact kk fo bs _ s2 nf (aO.mpr ⟨fo,ys,rfl,Je,ry.mono bO⟩) W
theorem kO:aN ["board","part","who"] ["board","part","who"] (ae (top 42)):=⟨rfl,rfl,rfl,by decide +kernel,rfl,by decide +kernel,by decide +kernel⟩
theorem JF (T:Txt K mg aB tc):bS P w K mg base (bK P w) 1 "picks_of" ["board","part","who"] xo:=by
 refine T.vk.d9 (λ_ _ _ _ _ _=>tQ λ_ _ _=>rfl) λf fd F=>F.eC kO (λvs H Q E h=>?_) (λcG A outer s H vs Q E hr h=>?_)
 ·obtain⟨_,_,_,_,_,rfl,_⟩:=h;rfl
 ·refine(?_:let G_:Prop:=_;G_)
  intro G_
  obtain⟨bl,pt,who,b,ps,rfl,rb,BC,fk,l16,kk⟩:=h
  dsimp only[G_]
  clear G_
  have nd:=kO.nd
  refine⟨_,(ax (aQ (bW rfl (N:=["board","part","who"]) (so:=ae (top 42)) (N':=["place","board","who"]) (k:=1) (fr:=[0,2]) rfl rfl ⟨rfl,by decide +kernel,by decide +kernel,by decide +kernel,rfl,by decide +kernel,by decide +kernel⟩ (br (K:=K) (pv 1)) (λ_ _ _ _ _=>(aE (i:=0) (show(["place","board","who"]:List Str).Nodup by decide +kernel) rfl (Or.inl rfl))) (λ_ _ _ _ _=>(md (PW.pt (pw_and (aR cQ (aH aK (aH aJ (pv 1) (pv 0) (λ_ _=>rfl)) ag (λ_ _=>rfl)) cX (aX _)) (pw_and1 (aR cQ (aH aK (aH aJ (pv 1) (pv 0) (λ_ _=>rfl)) ag (λ_ _=>rfl)) (pv 2) (aX _)))))))
   (λ_ _ _ _ _=>(pv 0))))),?_⟩
  have sl:=sizeLine_eq
  refine(?_:let G_:Prop:=_;G_)
  intro G_
  obtain⟨_,xb,e,Hc,He⟩:=aO.mp rb
  dsimp only[G_]
  clear G_
  cases e
  simp_all only[]
  refine⟨⟨_,bj.of BC⟩,?_⟩
  have S':Src (vT K pt) (az H) ps.length (λi x H H3=>H3=H/\(ps.map V.int)[i]?=some x):=by
   have:=src_list (K:=K) (a:=pt) (xs:=ps.map V.int) (Ok:=az H) (λH2 s2=>bj.of (s2 _ _ BC))
   rwa [aac] at this
  refine dE ps (λx=>if (match b[x.toNat]? with | some q=>Lc q who | none=>false)=true then some x else none) S' (λ_ _ _ _ h=>h.1) (by omega) ?_ ?_
  ·rintro i x v0 ex ⟨_,ey⟩ Y N y1 n1
   rw[aag,ex] at ey
   cases ey
   have ip:=fk x (aae ex)
   obtain⟨p,rfl⟩:=aau ip.1
   have hp:p<b.length:=by have:=ip.2;omega
   have eb:b[p]?=some b[p]:=aad hp
   refine(?_:let G_:Prop:=_;G_)
   intro G_
   obtain⟨v,ev,rv⟩:=fx He eb
   dsimp only[G_]
   clear G_
   have Ni:fK xb (p:Int)=some v:=bC ev
   rw[aai,eb] at y1 n1
   generalize b[p]=q at *
   cases q with
   | fin g=>
    refine(?_:let G_:Prop:=_;G_)
    intro G_
    obtain⟨t,r,rfl,ht,_⟩:=cM.mp rv
    dsimp only[G_]
    simp_all only[Hc,Ni,ht]
    rw[if_neg (by decide +kernel),if_neg (by decide)]
    exact n1 rfl
   | cP g ws=>
    refine(?_:let G_:Prop:=_;G_)
    intro G_
    obtain⟨t,r,l',zs,rfl,ht,_⟩:=cI.mp rv
    dsimp only[G_]
    simp_all only[Hc,Ni,ht]
    rw[if_neg (by decide +kernel),if_neg (by decide)]
    exact n1 rfl
   | bN w' to=>
    refine(?_:let G_:Prop:=_;G_)
    intro G_
    obtain⟨t,l',rfl,ht,qS⟩:=cJ.mp rv
    dsimp only[G_]
    simp_all only[Hc,Ni,ht]
    have ei:Lc (.bN w' to) who=decide (w'=who):=rfl
    exact gC (λc=>y1 _ (if_pos (by dsimp only;rw[ei];exact decide_eq_true c))) (λc=>n1 (if_neg (by dsimp only;rw[ei,decide_eq_false c];decide)))
  ·intro D n1 n2
   refine kk D _ (au n2) n2 ?_
   rw[ar]
   rw[dF]
   rfl
theorem oK {H:Hp} {d:Dat} {v:V}:∀{ds:List Dat} {xs:List V} {i:Nat},bf H ds xs->Rep H d v->bf H (ds.set i d) (xs.set i v)
 | [],xs,i,r,_=>by
  have:xs=[]:=r
  subst this
  exact r
 | e::ds,xs,i,r,h=>by
  obtain⟨w,ws,rfl,r1,r2⟩:=r
  cases i with
  | zero=>exact⟨_,_,rfl,h,r2⟩
  | succ i=>exact⟨_,_,rfl,r1,oK r2 h⟩
theorem Dr {c:TT} {tb:TS} {D:Ends} {σ:L2.St} {H:Hp} (Pv:Nat->L2.St->Hp->Prop) {m:Nat} (h0:Pv m σ H)
  (hs:∀m σ H,Pv m σ H->∃b:Bool,(∀Q:Bool->Hp->Prop,Q b H->c σ H Q)/\if b=true then tb {D with nx:=λσ' H'=>∃m',m'<m/\Pv m' σ' H',ct:=λσ' H'=>∃m',m'<m/\Pv m' σ' H',bk:=D.nx} σ H else D.nx σ H):qx c tb D σ H:=by
 refine⟨Pv,⟨m,h0⟩,?_⟩
 intro m σ H p
 obtain⟨b,k,q⟩:=hs m σ H p
 refine k _ ?_
 cases b with
 | true=>exact⟨_,λσ' H' h=>h,q⟩
 | false=>exact q
theorem Ds {b:List Pl} {ks:List (Option Int)} {p:Nat} {q:Pl} {k:Option Int} (e:b[p]?=some q) (lk:ks.length=b.length):cz b (ks.set p k)=(cz b ks).set p (uB q k):=by
 have hp:=(List.getElem?_eq_some_iff.mp e).1
 apply aaN
 intro i
 unfold cz
 by_cases c:p=i
 ·subst c
  rw[abl,e,aaW (by omega),aaW (by rw[aaV];omega)]
 ·rw[abl,aaH c,aaH c,abl]
theorem uv {H:Hp} {p:Addr} {o:HO}:cF (upd H p o) p=cF H p:=by
 funext a
 unfold cF
 by_cases h:a=p
 ·rw[if_pos h,if_pos h]
 ·rw[if_neg h,if_neg h,aI h]
theorem d6:aN ["book","gains","part","board","ways","first","second","told","better","place","way"] ["book","gains","part","board","ways"] (ae (top 43)):=⟨rfl,rfl,rfl,by decide +kernel,rfl,by decide +kernel,by decide +kernel⟩
theorem JG (T:Txt K mg aB tc):bS P w K mg base (bK P w) 5 "with_best_worths" ["book","gains","part","board","ways"] (D4 aB):=by
 have oM:bS P w K mg base (bK P w) 1 "picks_of" ["board","part","who"] xo:=JF T
 have pe:bS P w K mg base (bK P w) 4 "with_worths" ["book","gains","part","ways"] (D2 aB):=JA T
 have iK:bS P w K mg base (bK P w) 2 "better_ways" ["board","places","ways","tops"] AX:=JD T
 have dZ:bS P w K mg base (bK P w) 1 "weighted_ways" ["place","way"] ua:=A9 T
 refine T.iY.d9 (λ_ _ _ _ _ _=>MO λ_ _ _ _ _=>rfl) λf fd F=>F.eC d6 (λvs H Q E h=>?_) (λcG A outer s H vs Q E hr h=>?_)
 ·obtain⟨_,_,_,_,_,_,_,_,_,_,_,_,rfl,_⟩:=h;rfl
 ·refine(?_:let G_:Prop:=_;G_)
  intro G_
  obtain⟨bk,gn,pt,bl,wl,S,b,rk,ks,ps,M,xs,rfl,hb,hg,BC,rb,B,hw,rl,K0,Gr,p0,JB,fk,Z,M0,dv,zr,kk⟩:=h
  dsimp only[G_]
  clear G_
  have nd:=d6.nd
  refine⟨_,(af (aF (i:=5) nd rfl (Or.inl rfl) (aG oM (hr.mono (by decide)) rfl aA.pass (aa (pv 3) (aa (pv 2) (aa ag ao (se rfl)) (se rfl)) (se rfl)) (he:=se rfl) (hpl:=na rfl)))
  (af (aF (i:=6) nd rfl (Or.inl rfl) (aG oM (hr.mono (by decide)) rfl aA.pass (aa (pv 3) (aa (pv 2) (aa ag ao (se rfl)) (se rfl)) (se rfl)) (he:=se rfl) (hpl:=na rfl)))
  (ax (gK PassesOwn.never (qv yN) (af (aF (i:=7) nd rfl (Or.inl rfl) (aG pe (hr.mono (by decide)) rfl aA.pass (aa (pv 0) (aa (pv 1) (aa (pv 2) (aa (pv 4) ao (se rfl)) (se rfl)) (se rfl)) (se rfl)) (he:=se rfl) (hpl:=na rfl)))
  (af (aF (i:=8) nd rfl (Or.inl rfl) (aG iK (hr.mono (by decide)) rfl aA.pass (aa (pv 3) (aa (pv 6) (aa (pv 4) (aa (dW (pv 7) rfl) ao (se rfl)) (se rfl)) (se rfl)) (se rfl)) (he:=se rfl) (hpl:=na rfl)))
  (af (bU (aR cQ (aZ bD (by rfl) T.z_len aaB (aa (pv 8) ao (se rfl)) (he:=se rfl) (hpl:=na rfl)) ag (aX _)) (ax (aF (i:=8) nd rfl (Or.inl rfl) (aG iK (hr.mono (by decide)) rfl aA.pass (aa (pv 3) (aa (pv 5) (aa (pv 4) (aa (dW (pv 7) rfl) ao (se rfl)) (se rfl)) (se rfl)) (se rfl)) (he:=se rfl) (hpl:=na rfl))))
   bB)
  (af (bU (aR cQ (aZ bD (by rfl) T.z_len aaB (aa (pv 8) ao (se rfl)) (he:=se rfl) (hpl:=na rfl)) ag (aX _)) (ax (aQ (pv 7)))
   bB)
  (ax (cf PassesOwn.never rfl (br (K:=K) (pv 8)) (b8 (K:=K) (n:=2) rfl (aT (aE (i:=9) nd rfl (Or.inl rfl)) (aT (aE (i:=10) nd rfl (Or.inl rfl)) bY))) (ax (dU (aG dZ (hr.mono (by decide)) rfl aA.pass (aa (aH aJ (pv 3) (pv 9) (λ_ _=>rfl)) (aa (pv 10) ao (se rfl)) (se rfl)) (he:=se rfl) (hpl:=na rfl)) (fc (pv 4) (pv 9) set_list))))))))))))),?_⟩
  refine(?_:let cv:TS:=_;let cw:TS:=_;let cy:TS:=_;tSeq cv (tSeq cw cy) _ _ _)
  intro cv cw cy
  have sl:=sizeLine_eq
  have Yu:=B.len
  refine(?_:let G_:Prop:=_;G_)
  intro G_
  obtain⟨g0,g1,g2⟩:=B.bot
  dsimp only[G_]
  clear G_
  have Nj:(gT b).length=b.length:=by unfold gT;rw[aac,aac]
  have Nk:∀{ks:List (Option Int)},dY b ks->(cz b ks).length=b.length:=λ{ks} h=>by unfold cz;rw[aaV,h.len];omega
  have s0:az (cF H wl) H:=bO
  have Vq:=rb.mono s0
  have Yv:∀{ks:List (Option Int)},dY b ks->∀ws∈cz b ks,Dg.wR b.length ws:=λ{ks} h ws Jm=>by
   refine(?_:let G_:Prop:=_;G_)
   intro G_
   obtain⟨j,hj,rfl⟩:=aa5 Jm
   dsimp only[G_]
   have IJ:j<b.length:=by rw[Nk h] at hj;exact hj
   have:=(B.wk h (p:=(j:Int)) ⟨by omega,by omega⟩).1
   unfold cu at this
   rw[aai,aaf,aad hj] at this
   exact this
  change tSeq _ _ _ _ _
  refine aP (λσ' H1=>∃l1,az H H1/\H l1=none/\H1 l1=some (.lst ((gH b 1 ps).map V.int))/\σ'=[some (.ref bk),some (.ref gn),some (.ref pt),some (.ref bl),some (.ref wl),some (.ref l1),none,none,none,none,none]) ?_ (λN hN=>?_)
  case refine_2=>
   simp_all only[xo]
   exact⟨b,Vq,ps,s0 _ _ BC,fk,JB,λl1 H1 s1 n1 h1=>hN _ _ ⟨l1,s1,n1,h1,rfl⟩⟩
  intro _ H1 bH
  refine(?_:let G_:Prop:=_;G_)
  intro G_
  obtain⟨l1,s1,n1,h1,rfl⟩:=bH
  dsimp only[G_]
  clear G_
  change tSeq _ _ _ _ _
  refine aP (λσ' H2=>∃l2,az H1 H2/\H1 l2=none/\H2 l2=some (.lst ((gH b 2 ps).map V.int))/\σ'=[some (.ref bk),some (.ref gn),some (.ref pt),some (.ref bl),some (.ref wl),some (.ref l1),some (.ref l2),none,none,none,none]) ?_ (λN hN=>?_)
  case refine_2=>
   simp_all only[xo]
   exact⟨b,Vq.mono s1,ps,s1 _ _ (s0 _ _ BC),fk,JB,λl2 H2 s2 n2 h2=>hN _ _ ⟨l2,s2,n2,h2,rfl⟩⟩
  intro _ H2 bH
  refine(?_:let G_:Prop:=_;G_)
  intro G_
  obtain⟨l2,s2,n2,h2,rfl⟩:=bH
  dsimp only[G_]
  clear G_
  have Jx:=s1.trans s2
  have w1:l1≠wl:=λz=>by rw[z,hw] at n1;cases n1
  have w2:l2≠wl:=λz=>by rw[z,s1 _ _ hw] at n2;cases n2
  have JH:az (cF H wl) (cF H2 wl):=bI Jx
  simp_all only[]
  refine Dr (λmm σ HX=>∃(dm:List (Option Int)) (iG:List V) (dG:List (List (Option Int))) (fl:Option (Int->Rat)) (z7 z8 z9 pd:Option V),mm+dG.length=(yv b).length/\ue b ps (λp=>((gT b).getD p.toNat 0:Rat) / (gB b:Rat)) (Dg.val S) dm dG fl/\az (cF H wl) (cF HX wl)/\cF HX wl l1=some (.lst ((gH b 1 ps).map V.int))/\cF HX wl l2=some (.lst ((gH b 2 ps).map V.int))/\HX wl=some (.lst iG)/\bf (cF HX wl) ((cz b dm).map qg) iG/\σ=[some (.ref bk),some (.ref gn),some (.ref pt),some (.ref bl),some (.ref wl),some (.ref l1),some (.ref l2),z7,z8,z9,pd]) (m:=(yv b).length) ⟨ks,xs,[],none,_,_,_,_,rfl,ue.start K0,JH,by rw[bE w1];exact s2 _ _ h1,by rw[bE w2];exact h2,Jx _ _ hw,rl.mono JH,rfl⟩ ?_
  intro mm σ HX I0
  refine(?_:let G_:Prop:=_;G_)
  intro G_
  obtain⟨dm,iG,dG,fl,z7,z8,z9,pd,em,hi,sX,JI,Ca,Gx,JJ,rfl⟩:=I0
  dsimp only[G_]
  clear G_
  refine⟨true,λQQ Yw=>by simp_all only[];exact Yw,?_⟩
  rw[if_pos rfl]
  have sh:az (cF HX wl) HX:=bO
  have K':=hi.ok
  have Yx:=JJ.length
  rw[aac,Nk K'.pk] at Yx
  have Yy:=B.pos
  have Nl:∀y∈iG,∃a us,y=V.ref a/\cF HX wl a=some (.lst us):=λy hy=>by
   obtain⟨j,ej⟩:=aaw hy
   refine(?_:let G_:Prop:=_;G_)
   intro G_
   obtain⟨d,ed,rr⟩:=JJ.get ej
   rw[aag] at ed
   obtain⟨ws,_,rfl⟩:=Option.map_eq_some_iff.mp ed
   obtain⟨a,us,e,h,_⟩:=aO.mp rr
   dsimp only[G_]
   exact⟨a,us,e,h⟩
  change tSeq _ _ _ _ _
  refine aP (λσ' H3=>∃x T,az HX H3/\mG aB (cF H3 wl) x T/\Dg.C3 ps (cu (cz b dm)) (gT b) (gB b) S T/\Dg.Sz b.length (M+92*ps.length) T/\σ'=[some (.ref bk),some (.ref gn),some (.ref pt),some (.ref bl),some (.ref wl),some (.ref l1),some (.ref l2),some (.ref x),z8,z9,pd]) ?_ (λN hN=>?_)
  case refine_2=>
   simp_all only[]
   refine⟨bk,gn,pt,wl,S,gT b,gB b,ps,b.length,M,iG,cz b dm,rk,rfl,(hb.mono sX).mono sh,(hg.mono sX).mono sh,sh _ _ (sX _ _ BC),Gx,JJ.mono sh,Nk K'.pk,Yu,Gr,p0,JB,fk,Yv K'.pk,λp hp=>B.dn K'.pk (fk p hp),Z,M0,Nj,g0,g1.mono (by decide),dv,B.top,zr,λx T2 H3 s3 h3 st sz=>hN _ _ ⟨x,T2,s3,?_,st,sz,rfl⟩⟩
   refine(?_:let G_:Prop:=_;G_)
   intro G_
   obtain⟨dx,Yz,Hf,JK⟩:=h3
   dsimp only[G_]
   refine⟨dx,Yz,by rw[bE (λz=>by rw[z,s3 _ _ Gx] at Hf;cases Hf)];exact Hf,?_⟩
   rw[bE]
   ·exact JK
   ·intro z
    rw[z,s3 _ _ Gx] at JK
    have e:iG=T2.1.map V.int:=by injection JK with h;injection h
    have fU:0<iG.length:=by omega
    refine(?_:let G_:Prop:=_;G_)
    intro G_
    obtain⟨a,_,ea,_⟩:=Nl iG[0] (aao fU)
    have:iG[0]?=some iG[0]:=aad fU
    rw[ea,e,aag] at this
    obtain⟨_,_,e2⟩:=Option.map_eq_some_iff.mp this
    dsimp only[G_]
    cases e2
  intro _ H3 bH
  refine(?_:let G_:Prop:=_;G_)
  intro G_
  obtain⟨x,T2,s3,Hf,st,sz,rfl⟩:=bH
  obtain⟨dx,mt,Vr,YA⟩:=id Hf
  dsimp only[G_]
  clear G_
  have Ly:az (cF H3 wl) H3:=bO
  have JL:=bI (p:=wl) s3
  have Nb:∀t∈T2.1,Bt 4000 t:=λt ht=>by
   refine(?_:let G_:Prop:=_;G_)
   intro G_
   obtain⟨j,hj,rfl⟩:=aa5 ht
   dsimp only[G_]
   have:=sz.bt j
   rw[aaf,aad hj] at this
   exact Bt.mono this (by omega)
  have hv:=FY B K'.pk fk Z.pos dv st
  have pin:∀who,∀p∈gH b who ps,0<=p/\∃to,b[p.toNat]?=some (.bN who to):=λwho p hp=>⟨(fk p (dQ.mp hp).1).1,(dQ.mp hp).2⟩
  have Nn:∀who,(gH b who ps).length<=16:=λwho=>aap (List.length_filter_le _ _) JB
  have Eg:∀(lp:Addr) (who:Int) (HH:Hp),az H3 HH->cF HX wl lp=some (.lst ((gH b who ps).map V.int))->∀QQ:VK,(∀l bs H',az HH H'->Rep (cF H' wl) (.lst (bs.map bz)) (.ref l)->iD b dm who T2.1 (gH b who ps) bs->QQ (.ref l) H')->AX [.ref bl,.ref lp,.ref wl,.ref mt] HH QQ E0:=λlp who HH JM YB QQ kq=>by
   have Np:=JL.trans (Ly.trans JM)
   refine⟨bl,lp,wl,mt,b,dm,who,T2.1,gH b who ps,iG,rfl,(rb.mono sX).mono Np,Np _ _ YB,JM _ _ (s3 _ _ Gx),JJ.mono Np,(Ly.trans JM) _ _ YA,sz.len,Nb,K'.pk,B.ok,pin who,Nn who,λl bs H' s' nl r' W=>kq l bs H' s' ?_ W⟩
   have YC:l≠wl:=λz=>by rw[z,JM _ _ (s3 _ _ Gx)] at nl;cases nl
   have Nq:=s' _ _ (JM _ _ (s3 _ _ Gx))
   exact qm r' (λxs hx=>by rw[bE YC];exact hx) (λy vs hy=>by rw[bE (λz=>by rw[z,Nq] at hy;cases hy)];exact hy)
  change tSeq _ _ _ _ _
  refine aP (λσ' H4=>∃lb bs,az H3 H4/\Rep (cF H4 wl) (.lst (bs.map bz)) (.ref lb)/\iD b dm 2 T2.1 (gH b 2 ps) bs/\σ'=[some (.ref bk),some (.ref gn),some (.ref pt),some (.ref bl),some (.ref wl),some (.ref l1),some (.ref l2),some (.ref x),some (.ref lb),z9,pd]) ?_ (λN hN=>?_)
  case refine_2=>
   simp_all only[kU]
   exact⟨_,_,_,Ly _ _ Vr,T.cC,T.na_Book_tops,_,kL,Eg l2 2 H3 (az.refl _) Ca _ λl bs H' s' r' W=>hN _ _ ⟨l,bs,s',r',W,rfl⟩⟩
  intro _ H4 bH
  refine(?_:let G_:Prop:=_;G_)
  intro G_
  obtain⟨lb,bs,s4,Vs,W2,rfl⟩:=bH
  dsimp only[G_]
  clear G_
  change tSeq _ _ _ _ _
  refine aP (λσ' H5=>∃(lb:Addr) (bs:List (Int×Int)) (who:Int),az H3 H5/\Rep (cF H5 wl) (.lst (bs.map bz)) (.ref lb)/\((who=2/\bs≠[]/\iD b dm 2 T2.1 (gH b 2 ps) bs)\/(who=1/\iD b dm 2 T2.1 (gH b 2 ps) []/\iD b dm 1 T2.1 (gH b 1 ps) bs))/\σ'=[some (.ref bk),some (.ref gn),some (.ref pt),some (.ref bl),some (.ref wl),some (.ref l1),some (.ref l2),some (.ref x),some (.ref lb),z9,pd]) ?_ (λN hN=>?_)
  case refine_2=>
   simp_all only[kU]
   refine(?_:let G_:Prop:=_;G_)
   intro G_
   obtain⟨_,ys,ey,JN,Lz⟩:=aO.mp Vs
   dsimp only[G_]
   cases ey
   have ly:=Lz.length
   rw[aac] at ly
   refine⟨ys,bO _ _ JN,?_⟩
   by_cases c:bs=[]
   ·subst c
    rw[if_pos (by rw[<-ly];rfl)]
    exact⟨_,_,_,s4 _ _ (Ly _ _ Vr),T.cC,T.na_Book_tops,_,kL,Eg l1 1 H4 s4 JI _ λl YD H' s' r' W1=>hN _ _ ⟨l,YD,1,s4.trans s',r',.inr ⟨rfl,W2,W1⟩,rfl⟩⟩
   ·rw[if_neg (by have:=List.length_pos_iff.mpr c;omega)]
    exact hN _ _ ⟨lb,bs,2,s4,Vs,.inl ⟨rfl,c,W2⟩,rfl⟩
  intro _ H5 bH
  refine(?_:let G_:Prop:=_;G_)
  intro G_
  obtain⟨lb,bs,who,s5,Nr,cs,rfl⟩:=bH
  obtain⟨_,ys,ey,JN,Lz⟩:=aO.mp Nr
  dsimp only[G_]
  clear G_
  cases ey
  have ly:=Lz.length
  rw[aac] at ly
  have Nt:az (cF H wl) (cF H5 wl):=sX.trans (JL.trans (bI s5))
  have Vt:=s5 _ _ (s3 _ _ Gx)
  have JO:=JJ.mono (JL.trans (bI (p:=wl) s5))
  change tSeq _ _ _ _ _
  refine aP (λσ' H6=>H5=H6/\bs≠[]/\σ'=[some (.ref bk),some (.ref gn),some (.ref pt),some (.ref bl),some (.ref wl),some (.ref l1),some (.ref l2),some (.ref x),some (.ref lb),z9,pd]) ?_ (λN hN=>?_)
  case refine_2=>
   simp_all only[]
   refine⟨ys,bO _ _ JN,?_⟩
   by_cases c:bs=[]
   ·subst c
    rw[if_pos (by rw[<-ly];rfl)]
    rcases cs with ⟨_,ne,_⟩ | ⟨_,V2,V1⟩
    ·exact absurd rfl ne
    refine kk x T2 dm iG H5 Nt Vt JO K' st sz (Hf.mono (bI s5)) λp hp C9 to eb t ht=>?_
    rcases(B.ok _ (aae eb)).1 with e1 | e1
    ·subst e1
     exact V1.cE _ (dQ.mpr ⟨hp,to,by rw[aai];exact eb⟩) (by simp) to (by rw[aai];exact eb) t ht
    ·subst e1
     exact V2.cE _ (dQ.mpr ⟨hp,to,by rw[aai];exact eb⟩) (by simp) to (by rw[aai];exact eb) t ht
   ·rw[if_neg (by have:=List.length_pos_iff.mpr c;omega)]
    exact hN _ _ ⟨rfl,c,rfl⟩
  intro _ _ bH
  refine(?_:let G_:Prop:=_;G_)
  intro G_
  obtain⟨rfl,Vu,rfl⟩:=bH
  have G9:∀who,(gH b who ps).Nodup:=λwho=>Gr.filter _
  have Wa:iD b dm who T2.1 (gH b who ps) bs:=by
   rcases cs with ⟨rfl,_,V⟩ | ⟨rfl,_,V⟩
   ·exact V
   ·exact V
  have C5:∃G8,ue b ps (λp=>((gT b).getD p.toNat 0:Rat) / (gB b:Rat)) (Dg.val S) (eB bs dm bs.length) (dm::dG) G8:=by
   rcases cs with ⟨_,_,V⟩ | ⟨_,V2,V1⟩
   ·exact⟨_,uf B fk sz.pos hi hv (λp hp=>(dQ.mp hp).1) (G9 2) V Vu⟩
   ·exact⟨_,vI B fk sz.pos hi hv (λp hp=>(dQ.mp hp).1) (G9 1) V1 Vu V2 λp hp to eb=>dQ.mpr ⟨hp,to,by rw[aai];exact eb⟩⟩
  obtain⟨G8,C5⟩:=C5
  have left:=hi.left
  have YE:=rb.mono Nt
  obtain⟨_,xb,YF,Nu,Nv⟩:=aO.mp YE
  dsimp only[G_]
  clear G_
  cases YF
  simp_all only[]
  refine⟨⟨_,bj.of (bO _ _ JN)⟩,bL (src_list (K:=K) (a:=lb) (xs:=ys) (Ok:=λH'=>az (cF H5 wl) (cF H' wl)) (λH' s=>bj.of (bO _ _ (s _ _ JN)))) (λj σ H6=>az (cF H5 wl) (cF H6 wl)/\∃(Dt:List V) (z9 pd:Option V),H6 wl=some (.lst Dt)/\bf (cF H6 wl) ((cz b (eB bs dm j)).map qg) Dt/\σ=[some (.ref bk),some (.ref gn),some (.ref pt),some (.ref bl),some (.ref wl),some (.ref l1),some (.ref l2),some (.ref x),some (.ref lb),z9,pd]) ⟨az.refl _,iG,_,_,Vt,JO,rfl⟩ (λ_ _ _ _ h=>h.1) ?_ ?_⟩
  ·intro j y σ H6 H7 hj dC dI
   refine(?_:let G_:Prop:=_;G_)
   intro G_
   obtain⟨s6,Dt,z9,pd,Nw,Hg,rfl⟩:=dC
   obtain⟨rfl,ey⟩:=dI
   have IJ:j<bs.length:=by omega
   have ej:bs[j]?=some bs[j]:=aad IJ
   obtain⟨t,et,ht⟩:=cO Lz ej
   dsimp only[G_]
   clear G_
   rw[ey] at et
   cases et
   have gj:bs.getD j (0,0)=bs[j]:=by rw[aaf,ej];rfl
   have pj:eB bs dm (j+1)=(eB bs dm j).set (bs[j]).1.toNat (some (bs[j]).2):=by rw[<-gj];rfl
   refine(?_:let G_:Prop:=_;G_)
   intro G_
   obtain⟨mq,to,eb,w0,w1,_,_⟩:=Wa.mem _ (aao IJ)
   dsimp only[G_]
   clear G_
   have YG:=(fk _ (dQ.mp mq).1).1
   have Vv:(eB bs dm j).length=b.length:=by rw[jF];exact K'.pk.len
   have YH:=Hg.length
   have YI:(cz b (eB bs dm j)).length=b.length:=by unfold cz;rw[aaV,Vv];omega
   rw[aac,YI] at YH
   refine⟨t,_,rfl,d7.of (bO _ _ (s6 _ _ ht)),rfl,?_⟩
   generalize bs[j]=bw at *
   obtain⟨p,Vw⟩:=aau YG
   rw[Vw,aai] at eb pj
   rw[Vw] at ht ⊢
   have hp:=(List.getElem?_eq_some_iff.mp eb).1
   refine(?_:let G_:Prop:=_;G_)
   intro G_
   obtain⟨v,ev,rv⟩:=fx Nv eb
   dsimp only[G_]
   have YJ:fK xb (p:Int)=some v:=bC ev
   have Vx:az (cF H7 wl) H7:=bO
   simp_all only[Vx _ _ (s6 _ _ Nu),YJ]
   refine⟨v,.bN who to,some bw.2,rfl,(rv.mono s6).mono Vx,⟨w0,w1⟩,λl' H8 s8 r8=>?_⟩
   have Nx:=s8 _ _ Nw
   have nl:l'≠wl:=λz=>by
    subst z
    refine(?_:let G_:Prop:=_;G_)
    intro G_
    obtain⟨_,us,e,Vy,YK⟩:=aO.mp r8
    dsimp only[G_]
    cases e
    rw[Nx] at Vy
    have YL:Dt=us:=by injection Vy with h;injection h
    refine(?_:let G_:Prop:=_;G_)
    intro G_
    obtain⟨t1,YM,Vz⟩:=cO (i:=0) YK rfl
    dsimp only[G_]
    have h0:0<Dt.length:=by omega
    refine(?_:let G_:Prop:=_;G_)
    intro G_
    obtain⟨d,ed,rr⟩:=Hg.get (aad h0)
    rw[aag] at ed
    obtain⟨ws,_,rfl⟩:=Option.map_eq_some_iff.mp ed
    obtain⟨a',us',e',h',_⟩:=aO.mp rr
    dsimp only[G_]
    have:Dt[0]?=some (V.ref a'):=by rw[aad h0,e']
    rw[YL,YM] at this
    cases this
    rw[s8 _ _ (bO _ _ h')] at Vz
    cases Vz
   have YN:Rep (cF H8 wl) (qg (uB (.bN who to) (some bw.2))) (.ref l'):=qm r8 (λxs hx=>by rw[bE nl];exact hx) (λy vs hy=>by rw[bE (λz=>by rw[z,Nx] at hy;cases hy)];exact hy)
   refine⟨Dt,Nx,p,fZ (by omega),?_,_,ar,?_,_,rfl⟩
   ·rw[uv]
    exact s6.trans (bI s8)
   ·rw[uv,pj,Ds eb Vv,List.map_set]
    exact oK (Hg.mono (bI s8)) YN
  ·intro σ H6 bH
   refine(?_:let G_:Prop:=_;G_)
   intro G_
   obtain⟨s6,Dt,z9,pd,Nw,Hg,rfl⟩:=bH
   dsimp only[G_]
   rw[<-ly] at Hg
   exact⟨mm - 1,by omega,_,Dt,dm::dG,by rw[aar];omega,G8,C5,Nt.trans s6,s6 _ _ (bI s5 _ _ (JL _ _ JI)),s6 _ _ (bI s5 _ _ (JL _ _ Ca)),Nw,Hg,_,_,_,_,rfl⟩
theorem JP {a b:V}:List.lookup (Str.ofString "as_shares") [(("tops":Str),a),(("bottom":Str),b)]=none:=rfl
theorem Bb (x:Int×Int):Ke (bz x):=⟨rfl,by show(toP (bz x)).depth<=8;simp [bz,toP,toPL,PyData.depth,PyData.depthAll]⟩
theorem jI:aN ["place","worth","worths"] ["place","worth","worths"] (ae (top 44)):=⟨rfl,rfl,rfl,by decide +kernel,rfl,by decide +kernel,by decide +kernel⟩
theorem JQ (T:Txt K mg aB tc):bS P w K mg base (bK P w) 1 "best_pick" ["place","worth","worths"] IQ:=by
 refine T.tL.d9 (λ_ _ _ _ _ _=>tQ λ_ _ _=>rfl) λf fd F=>F.eC jI (λvs H Q E h=>?_) (λcG A outer s H vs Q E hr h=>?_)
 ·obtain⟨_,_,_,_,_,_,_,rfl,_⟩:=h;rfl
 ·refine(?_:let G_:Prop:=_;G_)
  intro G_
  obtain⟨v,x,wl,q,n,p,ss,rfl,rv,pq,ls,hp,hx,qw,mem,kk⟩:=h
  dsimp only[G_]
  clear G_
  have nd:=jI.nd
  refine⟨_,(af (bU (aR vX (aH aK (pv 0) ag (λ_ _=>rfl)) cX (aX _)) (ax (aQ fb))
   bB)
  (ax (aQ (eF aaP PySem.F.slot_list_index PySem.F.type_list_index (yi hr.units) (bW rfl (N:=["place","worth","worths"]) (so:=ae (top 44)) (N':=["to","worths"]) (k:=1) (fr:=[2]) rfl rfl ⟨rfl,by decide +kernel,by decide +kernel,by decide +kernel,rfl,by decide +kernel,by decide +kernel⟩ (br (K:=K) (aH aK (pv 0) ag (λ_ _=>rfl))) (λ_ _ _ _ _=>(aE (i:=0) (show(["to","worths"]:List Str).Nodup by decide +kernel) rfl (Or.inl rfl))) (λ_ _ _ _ _=>bJ)
   (λ_ _ _ _ _=>(aH aJ (pv 1) (pv 0) (λ_ _=>rfl)))) (aa (pv 1) ao (se rfl)))))),?_⟩
  have sl:=sizeLine_eq
  cases q with
  | fin g=>
   refine(?_:let G_:Prop:=_;G_)
   intro G_
   obtain⟨t,r,rfl,ht,_⟩:=cM.mp rv
   dsimp only[G_]
   simp_all only[ht]
   rw[if_pos (by decide +kernel)]
   exact kk _ (az.refl _)
  | cP g ws=>
   refine(?_:let G_:Prop:=_;G_)
   intro G_
   obtain⟨t,r,l',zs,rfl,ht,_⟩:=cI.mp rv
   dsimp only[G_]
   simp_all only[ht]
   rw[if_pos (by decide +kernel)]
   exact kk _ (az.refl _)
  | bN who to=>
   refine(?_:let G_:Prop:=_;G_)
   intro G_
   obtain⟨t,l',rfl,ht,qS⟩:=cJ.mp rv
   dsimp only[G_]
   clear G_
   simp_all only[ht]
   rw[if_neg (by simp)]
   refine(?_:let G_:Prop:=_;G_)
   intro G_
   obtain⟨_,us,e,Ci,ru⟩:=aO.mp qw
   dsimp only[G_]
   clear G_
   cases e
   have lu:=ru.length
   rw[aac] at lu
   have l3:=pq.2.2.1
   refine⟨⟨_,bj.of qS⟩,?_⟩
   refine comp_map (src_list (K:=K) (a:=l') (xs:=to.map V.int) (Ok:=az H) (λH' s'=>bj.of (s' _ _ qS))) (λ_ _ _ _ h=>by rw[h.1];exact az.refl _) (by rw[aac];omega) (λi y H4=>∀g,to[i]?=some g->Rep H4 (bz (Wq.fM ss g)) y) (λi y H4 H5 s5 h g e=>(h g e).mono s5) ?_ ?_
   ·rintro i v0 w0 H4 H5 Q2 hi s4 ⟨rfl,ex⟩ kq
    rw[aag] at ex
    refine(?_:let G_:Prop:=_;G_)
    intro G_
    obtain⟨g,eg,rfl⟩:=Option.map_eq_some_iff.mp ex
    obtain⟨g0,g1⟩:=pq.2.2.2 g (aae eg)
    have JR:ss[g.toNat]?=some (Wq.fM ss g):=by
     unfold Wq.fM
     rw[aaf,aad (show g.toNat<ss.length by omega)]
     rfl
    obtain⟨pr,Hh,JS⟩:=cO ru JR
    dsimp only[G_]
    have Gu:fK us g=some (.ref pr):=by have:=bC Hh;rwa [Int.toNat_of_nonneg g0] at this
    simp_all only[s4 _ _ Ci,Gu]
    refine kq _ _ (az.refl _) λg' e'=>?_
    rw[eg] at e'
    cases e'
    exact bP.mpr ⟨pr,rfl,s4 _ _ JS⟩
   ·intro ys H5 s5 ly hy D n1 n2
    rw[aac] at ly
    have sD:=au (o:=.lst ys) n2
    have hD:upd H5 D (.lst ys) D=some (.lst ys):=ar
    generalize upd H5 D (.lst ys)=H6 at *
    have rD:bf H6 ((to.map (Wq.fM ss)).map bz) ys:=c4 (by rw[aac];exact ly) λi y ey x' BM=>by
     rw[aag] at BM
     refine(?_:let G_:Prop:=_;G_)
     intro G_
     obtain⟨g,eg,rfl⟩:=Option.map_eq_some_iff.mp BM
     dsimp only[G_]
     exact(hy i y ey g eg).mono sD
    refine(?_:let G_:Prop:=_;G_)
    intro G_
    obtain⟨tm,mt,et⟩:=mem who to rfl
    dsimp only[G_]
    have mm:Wq.fM ss (p:Int)∈to.map (Wq.fM ss):=List.mem_map.mpr ⟨tm,mt,et.symm⟩
    have lt:=aa3 mm
    have eg:=aa8 lt
    have inj:∀u v:Wq.Sh,toP (bz u)=toP (bz v)->u=v:=λu v h=>by
     simp [bz,toP,toPL] at h
     exact Prod.ext h.1 h.2
    refine⟨.inl ⟨rfl,_,bj.of hD⟩,D,ys,(to.map (Wq.fM ss)).map bz,.ref x,bz (Wq.fM ss (p:Int)),(to.map (Wq.fM ss)).idxOf (Wq.fM ss (p:Int)),rfl,rfl,hD,rD,λe he=>?_,bP.mpr ⟨x,rfl,(s5.trans sD) _ _ hx⟩,Bb _,?_,λj hj z=>?_,?_,kk _ (s5.trans sD)⟩
    ·refine(?_:let G_:Prop:=_;G_)
     intro G_
     obtain⟨u,_,rfl⟩:=List.mem_map.mp he
     dsimp only[G_]
     exact Bb u
    ·rw[aag,aag,aad lt,eg]
     rfl
    ·have:=List.not_of_lt_findIdx (xs:=to.map (Wq.fM ss)) (p:=λy=>y==Wq.fM ss (p:Int)) hj
     rw[aag,aag,aad (Nat.lt_trans hj lt)] at z
     have:=inj _ _ (aay z)
     simp_all
    ·rw[aac] at lt
     omega
theorem Bc {C:Addr} {H:Hp} {x wl:Addr} {S:Dg.Bk} {xs:List V} (h:mG C H x S) (hw:H wl=some (.lst xs)) (xr:∀y∈xs,∃a,y=V.ref a) (l0:0<xs.length):mG C (cF H wl) x S:=by
 obtain⟨dx,m,hx,hm⟩:=h
 refine⟨dx,m,by rw[bE (λz=>by rw[z,hw] at hx;cases hx)];exact hx,?_⟩
 rw[bE]
 ·exact hm
 ·intro z
  rw[z,hw] at hm
  have e:xs=S.1.map V.int:=by injection hm with h;injection h
  obtain⟨a,ea⟩:=xr xs[0] (aao l0)
  have:xs[0]?=some xs[0]:=aad l0
  rw[ea,e,aag] at this
  obtain⟨_,_,e2⟩:=Option.map_eq_some_iff.mp this
  cases e2
theorem xy {H:Hp} {fN:List Dg.Wy} {xs:List V} (r:bf H (fN.map qg) xs):∀y∈xs,∃a,y=V.ref a:=λy hy=>by
 obtain⟨j,ej⟩:=aaw hy
 obtain⟨ws',_,rr⟩:=Aa r ej
 obtain⟨a,_,e,_⟩:=aO.mp rr
 exact⟨a,e⟩
theorem Be {H:Hp} {b:List Pl} {xs:List V} (r:bf H ((cz b (List.replicate b.length (some (0:Int)))).map qg) xs) (h:0<b.length):0<xs.length:=by
 have:=r.length
 unfold cz at this
 rw[aac,aaV,aaR] at this
 omega
theorem xA:aN ["board","found","ways","gains","book","part","worths"] ["board"] (ae (top 45)):=⟨rfl,rfl,rfl,by decide +kernel,rfl,by decide +kernel,by decide +kernel⟩
theorem JT (T:Txt K mg aB tc) (LB:oY base mg tc tp):bS P w K mg base (bK P w) 7 "best" ["board"] (ug tp):=by
 have lM:bS P w K mg base (bK P w) 6 "checked_parts" ["board"] (vD tp):=Gn T LB
 have iE:bS P w K mg base (bK P w) 2 "all_weighted_ways" ["board","picks"] IM:=Jy T
 have vN:bS P w K mg base (bK P w) 4 "gains_of" ["board"] (AL aB):=Gq T
 have oN:bS P w K mg base (bK P w) 3 "blank_worths" ["gains"] (FP aB):=Jz T
 have i7:bS P w K mg base (bK P w) 5 "with_best_worths" ["book","gains","part","board","ways"] (D4 aB):=JG T
 have km:nO P w K mg base (bK P w) 3 aB "as_shares" ["self"] (II aB):=Jw T
 have uw:bS P w K mg base (bK P w) 1 "best_pick" ["place","worth","worths"] IQ:=JQ T
 refine T.Ft.d9 (λ_ _ _ _ _ _=>iC λ_=>rfl) λf fd F=>F.eC xA (λvs H Q E h=>?_) (λcG A outer s H vs Q E hr h=>?_)
 ·obtain⟨_,_,_,rfl,_⟩:=h;rfl
 ·refine(?_:let G_:Prop:=_;G_)
  intro G_
  obtain⟨a,b,rk,rfl,rb,B,kZ,kk⟩:=h
  dsimp only[G_]
  clear G_
  have nd:=xA.nd
  refine⟨_,(af (aF (i:=1) nd rfl (Or.inl rfl) (aG lM (hr.mono (by decide)) rfl aA.pass (aa (pv 0) ao (se rfl)) (he:=se rfl) (hpl:=na rfl)))
  (af (aF (i:=2) nd rfl (Or.inl rfl) (aG iE (hr.mono (by decide)) rfl aA.pass (aa (pv 0) (aa (aD qG (cY (aa ag ao (se rfl))) (aZ bD (by rfl) T.z_len aaB (aa (pv 0) ao (se rfl)) (he:=se rfl) (hpl:=na rfl))) ao (se rfl)) (se rfl)) (he:=se rfl) (hpl:=na rfl)))
  (af (aF (i:=3) nd rfl (Or.inl rfl) (aG vN (hr.mono (by decide)) rfl aA.pass (aa (pv 0) ao (se rfl)) (he:=se rfl) (hpl:=na rfl)))
  (af (aF (i:=4) nd rfl (Or.inl rfl) (aG oN (hr.mono (by decide)) rfl aA.pass (aa (pv 3) ao (se rfl)) (he:=se rfl) (hpl:=na rfl)))
  (af (cf PassesOwn.never rfl (br (K:=K) (pv 1)) (aE (i:=5) nd rfl (Or.inl rfl)) (ax (aF (i:=4) nd rfl (Or.inl rfl) (aG i7 (hr.mono (by decide)) rfl aA.pass (aa (pv 4) (aa (pv 3) (aa (pv 5) (aa (pv 0) (aa (pv 2) ao (se rfl)) (se rfl)) (se rfl)) (se rfl)) (se rfl)) (he:=se rfl) (hpl:=na rfl)))))
  (af (aF (i:=6) nd rfl (Or.inr rfl) (Fl km T.cC (pv 4) (hr.mono (by decide)) aA.pass))
  (ax (aQ (bV (aa (pv 6) (aa (bW rfl (N:=["board","found","ways","gains","book","part","worths"]) (so:=ae (top 45)) (N':=["place","worth","worths"]) (k:=2) (fr:=[6]) rfl rfl ⟨rfl,by decide +kernel,by decide +kernel,by decide +kernel,rfl,by decide +kernel,by decide +kernel⟩ (jw (K:=K) rfl T.z_zip (aa (pv 0) (aa (pv 6) ao (se rfl)) (se rfl))) (λ_ _ _ _ _=>(b8 (K:=K) (n:=2) rfl (aT (aE (i:=0) (show(["place","worth","worths"]:List Str).Nodup by decide +kernel) rfl (Or.inl rfl)) (aT (aE (i:=1) (show(["place","worth","worths"]:List Str).Nodup by decide +kernel) rfl (Or.inl rfl)) bY)))) (λ_ _ _ _ _=>bJ)
   (λ_ _ _ _ _=>(aG uw (hr.mono (by decide)) rfl aA.pass (aa (pv 0) (aa (pv 1) (aa (pv 2) ao (se rfl)) (se rfl)) (se rfl)) (he:=se rfl) (hpl:=na rfl)))) ao (se rfl)) (se rfl))))))))))),?_⟩
  refine(?_:let cv:TS:=_;let cw:TS:=_;let cy:TS:=_;let dR:TS:=_;let jG:TS:=_;let Ba:TS:=_;let Ee:TS:=_;tSeq cv (tSeq cw (tSeq cy (tSeq dR (tSeq jG (tSeq Ba Ee))))) _ _ _)
  intro cv cw cy dR jG Ba Ee
  have sl:=sizeLine_eq
  have bl:=B.len
  refine(?_:let G_:Prop:=_;G_)
  intro G_
  obtain⟨g0,g1,g2⟩:=B.bot
  have Nj:(gT b).length=b.length:=by unfold gT;rw[aac,aac]
  obtain⟨_,xb,e,ha,He⟩:=aO.mp rb
  dsimp only[G_]
  clear G_
  cases e
  have lx:=He.length
  rw[aac] at lx
  change tSeq _ _ _ _ _
  refine aP (λσ' H1=>∃l ps as,Pr.Told b ps/\az H H1/\H1 l=some (.lst (List.map V.ref as))/\Al (λp v=>∃x,v=.ref x/\H1 x=some (.lst ((Pr.dc b p).map V.int))) ps (as.map V.ref)/\σ'=[some (.ref a),some (.ref l),none,none,none,none,none]) ?_ (λN hN=>?_)
  case refine_2=>
   simp_all only[vD]
   exact⟨b,rb,rk,B,kZ,λl ps as H1 td s1 nl hl al=>hN _ _ ⟨l,ps,as,td,s1,hl,al,rfl⟩⟩
  intro _ H1 bH
  refine(?_:let G_:Prop:=_;G_)
  intro G_
  obtain⟨l,ps,as,td,s1,hl,al,rfl⟩:=bH
  dsimp only[G_]
  clear G_
  have VA:∀(i:Nat) q k,b[i]?=some q->(List.replicate b.length (some (0:Int)))[i]?=some k->G6 q k:=λi q k e ek=>by
   rw[abz (aae ek)]
   have:=B.ok q (aae e)
   cases q with
   | fin g=>trivial
   | cP g ws=>trivial
   | bN who to=>exact⟨aa4 _,by have:=this.2.1;omega⟩
  change tSeq _ _ _ _ _
  refine aP (λσ' H2=>∃wl xs,az H1 H2/\H1 wl=none/\H2 wl=some (.lst xs)/\bf (cF H2 wl) ((cz b (List.replicate b.length (some (0:Int)))).map qg) xs/\σ'=[some (.ref a),some (.ref l),some (.ref wl),none,none,none,none]) ?_ (λN hN=>?_)
  case refine_2=>
   simp_all only[y8]
   refine⟨by decide,λz nz=>?_⟩
   have s3:=au (o:=.lst [V.int 0]) nz
   have hz:upd H1 z (.lst [V.int 0]) z=some (.lst [V.int 0]):=ar
   generalize upd H1 z (.lst [V.int 0])=H3 at *
   refine⟨_,(s1.trans s3) _ _ ha,_,hz,by omega,by omega,by rw[aai];show 1*xb.length<=_;omega,λD nD=>?_⟩
   rw[aai,List.flatten_replicate_singleton,<-lx] at *
   have s4:=s3.trans (au (o:=.lst (List.replicate b.length (V.int 0))) nD)
   have hD:upd H3 D (.lst (List.replicate b.length (V.int 0))) D=some (.lst ((List.replicate b.length (some (0:Int))).map gD)):=by rw[ar,List.map_replicate];rfl
   generalize upd H3 D (.lst (List.replicate b.length (V.int 0)))=H4 at *
   exact⟨a,D,b,_,rfl,rb.mono (s1.trans s4),by omega,hD,⟨aaR,VA⟩,λwl xs H5 s5 nw hw qw=>hN _ _ ⟨wl,xs,s4.trans s5,none_of s4 nw,hw,qw,rfl⟩⟩
  intro _ H2 bH
  refine(?_:let G_:Prop:=_;G_)
  intro G_
  obtain⟨wl,xs,s2,VB,Ci,JU,rfl⟩:=bH
  dsimp only[G_]
  clear G_
  have YO:az H1 (cF H2 wl):=de s2 VB
  change tSeq _ _ _ _ _
  refine aP (λσ' H3=>∃gn,az H2 H3/\mG aB (cF H3 wl) gn (gT b,gB b)/\σ'=[some (.ref a),some (.ref l),some (.ref wl),some (.ref gn),none,none,none]) ?_ (λN hN=>?_)
  case refine_2=>
   simp_all only[AL]
   exact⟨b,(rb.mono (s1.trans YO)).mono bO,rk,B,λgn H3 s3 hg=>hN _ _ ⟨gn,s3,Bc hg (s3 _ _ Ci) (xy JU) (Be JU B.pos),rfl⟩⟩
  intro _ H3 bH
  refine(?_:let G_:Prop:=_;G_)
  intro G_
  obtain⟨gn,s3,hg,rfl⟩:=bH
  dsimp only[G_]
  clear G_
  change tSeq _ _ _ _ _
  refine aP (λσ' H4=>∃bk,az H3 H4/\mG aB (cF H4 wl) bk (List.replicate b.length 0,gB b)/\σ'=[some (.ref a),some (.ref l),some (.ref wl),some (.ref gn),some (.ref bk),none,none]) ?_ (λN hN=>?_)
  case refine_2=>
   simp_all only[FP]
   refine⟨_,hg.mono bO,by show(gT b).length<=60;omega,λbk H4 s4 hb=>hN _ _ ⟨bk,s4,?_,rfl⟩⟩
   have:mG aB H4 bk (List.replicate b.length 0,gB b):=by rw[<-Nj];exact hb
   exact Bc this (s4 _ _ (s3 _ _ Ci)) (xy JU) (Be JU B.pos)
  intro _ H4 bH
  refine(?_:let G_:Prop:=_;G_)
  intro G_
  obtain⟨bk,s4,hb,rfl⟩:=bH
  dsimp only[G_]
  clear G_
  have lL:=s3.trans s4
  have la:=al.length
  rw[aac] at la
  have K0:vF b (List.replicate b.length (some (0:Int))):=⟨⟨aaR,VA⟩,λi q k e ek _=>abz (aae ek)⟩
  have Ny:az H1 (cF H4 wl):=de (s2.trans lL) VB
  change tSeq _ _ _ _ _
  refine aP (λσ' H5=>az H1 H5/\∃(bk:Addr) (S:Dg.Bk) (z:Option V),mG aB H5 bk S/\uh b ps ps.length S/\σ'=[some (.ref a),some (.ref l),some (.ref wl),some (.ref gn),some (.ref bk),z,none]) ?_ (λN hN=>?_)
  case refine_2=>
   simp_all only[]
   refine⟨⟨_,bj.of (lL _ _ (s2 _ _ hl))⟩,bL (src_list (K:=K) (a:=l) (xs:=as.map V.ref) (Ok:=λH'=>az H1 (cF H' wl)) (λH' s=>bj.of (bO _ _ (s _ _ hl)))) (λi σ H5=>az H1 (cF H5 wl)/\∃(bk:Addr) (S:Dg.Bk) (ks:List (Option Int)) (xs:List V) (z:Option V),mG aB (cF H5 wl) gn (gT b,gB b)/\mG aB (cF H5 wl) bk S/\H5 wl=some (.lst xs)/\bf (cF H5 wl) ((cz b ks).map qg) xs/\vF b ks/\uh b ps i S/\σ=[some (.ref a),some (.ref l),some (.ref wl),some (.ref gn),some (.ref bk),z,none]) ⟨Ny,bk,_,_,xs,_,hg.mono (bI s4),hb,lL _ _ Ci,JU.mono (bI lL),K0,uh.start B,rfl⟩ (λ_ _ _ _ h=>h.1) ?_ ?_⟩
   ·intro i y σ H5 H6 hi dC dI
    refine(?_:let G_:Prop:=_;G_)
    intro G_
    obtain⟨s5,bk,S,ks,xs,z,Nz,Hi,JV,JO,K5,I,rfl⟩:=dC
    obtain⟨rfl,ex⟩:=dI
    rw[aac] at hi
    obtain⟨p,ep,x,rfl,hx⟩:=al.get ex
    dsimp only[G_]
    have ip:=td.ID (aae ep)
    have fk:∀q∈Pr.dc b p,Pr.In b q:=λq hq=>Pr.eJ B.fO.good ip hq
    have lp:0< (Pr.dc b p).length:=List.length_pos_iff.mpr (Pr.iZ B.fO.good ip)
    have o1:=AK B td (i:=i+1) (by omega)
    rw[Pr.oi ep] at o1
    simp_all only[]
    refine⟨bk,gn,x,a,wl,S,b,rk,ks,Pr.dc b p,330+92*Pr.off b ps i,xs,rfl,Hi,Nz,s5 _ _ hx,rb.mono (s1.trans s5),B,JV,JO,K5,(Pr.j7 B.fO.good ip).imp (λh z=>by omega),lp,by omega,fk,I.sz,by omega,I.dv,λq hq=>I.zr q (fk q hq) (by rw[vC B td ep hq];exact aah _),λx2 T2 VC YQ H7 s7 h7 r7 K7 st sz YR YS=>?_⟩
    exact⟨s5.trans s7,Nz.mono s7,x2,T2,YR,VC,YQ,h7,r7,K7,I.step B td K7.pk ep st sz YS,rfl,_,rfl⟩
   ·intro σ H5 bH
    refine(?_:let G_:Prop:=_;G_)
    intro G_
    obtain⟨s5,bk,S,ks,xs,z,Nz,Hi,JV,JO,K5,I,rfl⟩:=bH
    dsimp only[G_]
    rw[aac,la] at I
    exact hN _ _ ⟨s5.trans bO,bk,S,z,Hi.mono bO,I,rfl⟩
  intro _ H5 bH
  refine(?_:let G_:Prop:=_;G_)
  intro G_
  obtain⟨s5,bk,S,z,Hi,I,rfl⟩:=bH
  dsimp only[G_]
  clear G_
  have W0:=I.sz.pos
  have o1:=AK B td (i:=ps.length) (aah _)
  have sz:=I.sz.up (M':=330+92*b.length) (by omega)
  have YT:=sz.len
  have lv:∀q:Int,0<=q->q< (b.length:Int)->Dg.vl (Wq.fM (dP S) q)=Dg.val S q:=λq q0 q1=>xk W0 q (by omega)
  have bq:∀p:Nat,p<b.length->gG b p (Dg.val S):=λp hp=>I.eq p hp (IL B td ⟨by omega,by omega⟩)
  change tSeq _ _ _ _ _
  refine aP (λσ' H6=>∃l6,az H5 H6/\H5 l6=none/\Rep H6 (.lst ((dP S).map bz)) (.ref l6)/\σ'=[some (.ref a),some (.ref l),some (.ref wl),some (.ref gn),some (.ref bk),z,some (.ref l6)]) ?_ (λN hN=>?_)
  case refine_2=>
   simp_all only[pF]
   refine(?_:let G_:Prop:=_;G_)
   intro G_
   obtain⟨dx,m,hx,hm⟩:=id Hi
   dsimp only[G_]
   exact⟨_,_,hx,JP,bk,S,rfl,Hi,W0,sz.bb.mono (by omega),by omega,λl6 H6 s6 n6 r6=>hN _ _ ⟨l6,s6,n6,r6,rfl⟩⟩
  intro _ H6 bH
  refine(?_:let G_:Prop:=_;G_)
  intro G_
  obtain⟨l6,s6,n6,r6,rfl⟩:=bH
  have YU:(dP S).length=b.length:=by unfold dP;rw[aac];exact YT
  have Lx:=gc sz
  obtain⟨_,us,e,Dj,ru⟩:=aO.mp r6
  dsimp only[G_]
  clear G_
  cases e
  have lu:=ru.length
  rw[aac] at lu
  have JW:=s1.trans (s5.trans s6)
  simp_all only[]
  refine⟨⟨_,bj.of (JW _ _ ha)⟩,⟨_,bj.of Dj⟩,?_⟩
  have JR:∀{i:Nat},i<b.length->(dP S)[i]?=some (Wq.fM (dP S) (i:Int)):=λ{i} hi=>by
   unfold Wq.fM
   rw[aai,aaf,aad (by omega)]
   rfl
  refine fq (K:=K) (jv (λH' s'=>bj.of (s' _ _ (JW _ _ ha))) (λH' s'=>bj.of (s' _ _ Dj))) (λi u v _=>∃q x,b[i]?=some q/\Rep H (jx q) u/\v=.ref x/\H6 x=some (.tup (Pr (Wq.fM (dP S) (i:Int)).1 (Wq.fM (dP S) (i:Int)).2))) ?_ (by omega) (λi y H'=>∀q,b[i]?=some q->y=gD (BG (dP S) i q)) (λ_ _ _ _ _ h=>h) ?_ ?_
  ·intro i v H7 H8 hi s7 dC
   refine(?_:let G_:Prop:=_;G_)
   intro G_
   obtain⟨t,x,y,nt,rfl,ex,ey,rfl⟩:=dC
   obtain⟨q,eq,rq⟩:=cZ He ex
   have uA:=(List.getElem?_eq_some_iff.mp eq).1
   obtain⟨px,VD,YV⟩:=cO ru (JR uA)
   dsimp only[G_]
   rw[ey] at VD
   cases VD
   exact⟨au nt,t,_,_,rfl,d7.of ar,q,px,eq,rq,rfl,YV⟩
  ·intro i u v H7 Q2 hi s7 dI kq
   refine(?_:let G_:Prop:=_;G_)
   intro G_
   obtain⟨q,x,eq,rq,rfl,hx⟩:=dI
   dsimp only[G_]
   have uA:=(List.getElem?_eq_some_iff.mp eq).1
   simp_all only[]
   refine⟨u,x,l6,q,b.length,i,dP S,rfl,rq.mono (JW.trans s7),B.ok _ (aae eq),YU,uA,s7 _ _ hx,r6.mono s7,λwho to e=>?_,λH8 s8=>kq _ _ s8 λq' e'=>?_⟩
   ·subst e
    refine(?_:let G_:Prop:=_;G_)
    intro G_
    obtain⟨⟨t,mt,et⟩,_⟩:=bq i uA _ eq
    dsimp only[G_]
    have rg:=B.fO.good.lZ _ (aae eq) t mt
    refine⟨t,mt,Dg.vt (Lx _ (aae (JR uA))).1 (Lx _ ?_).1 (by rw[lv _ (by omega) (by omega),lv t rg.1 rg.2];exact et)⟩
    have:=JR (i:=t.toNat) (by omega)
    rw[Int.toNat_of_nonneg rg.1] at this
    exact aae this
   ·rw[eq] at e'
    cases e'
    rfl
  ·intro ys H7 s7 ly hy D n1 n2
   have YW:ys=((List.range b.length).map λi=>BG (dP S) i (b.getD i (.fin (0,1)))).map gD:=by
    apply aaN
    intro i
    by_cases hi:i<b.length
    ·have ey:ys[i]?=some ys[i]:=aad (by omega)
     rw[ey,hy i _ ey _ (aad hi),aag,aag,aa2 hi]
     simp [aaf,aad hi]
    ·rw[aaq (by omega),aaq (by rw[aac,aac,aaA];omega)]
   have sD:=au (o:=.lst ys) n2
   have hD:upd H7 D (.lst ys) D=some (.lst ys):=ar
   generalize upd H7 D (.lst ys)=H8 at *
   refine⟨by decide,λt H9 s9 n9 h9=>kk t l6 D S _ H9 (JW.trans (s7.trans (sD.trans s9))) h9 (none_of (s1.trans s5) n6) (none_of (JW.trans s7) n2) (r6.mono (s7.trans (sD.trans s9))) (by rw[s9 _ _ hD,YW]) sz I.dv bq (λp q e=>?_) (by rw[aac,aaA])⟩
   have hp:=(List.getElem?_eq_some_iff.mp e).1
   rw[aag,aa2 hp]
   simp [aaf,e]
theorem jJ:aN ["_law_script","_law_k","_law_number"] ["_law_script","_law_k"] (ae (top 47)):=⟨rfl,rfl,rfl,by decide +kernel,rfl,by decide +kernel,by decide +kernel⟩
theorem xB (T:Txt K mg aB tc):bS P w K mg base (bK P w) 1 "_law_cell" ["_law_script","_law_k"] (C7 K):=by
 refine T.tM.d9 (λ_ _ _ _ _ _=>eA λ_ _=>rfl) λf fd F=>F.eC jJ (λvs H Q E h=>?_) (λcG A outer s H vs Q E hr h=>?_)
 ·obtain⟨_,_,_,rfl,_⟩:=h;rfl
 ·refine(?_:let G_:Prop:=_;G_)
  intro G_
  obtain⟨a,ns,k,rfl,hS,k0,k1,kk⟩:=h
  dsimp only[G_]
  have nd:=jJ.nd
  refine⟨_,(af (bU (aR mR (pv 1) (aZ (iW (K:=K)) (by rfl) T.z_len aaB (aa (pv 0) ao (se rfl)) (he:=se rfl) (hpl:=na rfl)) (aX _)) (ax (aQ (aH (pR (K:=K)) (pv 0) (pv 1) (λ_ _=>rfl))))
   bB)
  (af (aF (i:=2) nd rfl (Or.inl rfl) (aD bo (aD aW (pv 1) ag) ag))
  (af (bU (aR kA (aZ (iW (K:=K)) (by rfl) T.z_len aaB (aa (pv 0) ao (se rfl)) (he:=se rfl) (hpl:=na rfl)) ag (aX _)) (ax (aF (i:=2) nd rfl (Or.inl rfl) (aD bo (aD aW (aD cn (aH (pR (K:=K)) (pv 0) (aD cn (aD aW (pv 1) ag) (aZ (iW (K:=K)) (by rfl) T.z_len aaB (aa (pv 0) ao (se rfl)) (he:=se rfl) (hpl:=na rfl))) (λ_ _=>rfl)) ag) ag) (aD aW (aD aW (pv 1) (pv 1)) ag))))
   bB)
  (ax (aQ (aD cn (aD aW (pv 2) (pv 2)) ag)))))),?_⟩
  refine(?_:let cv:TS:=_;let cw:TS:=_;let cy:TS:=_;let dR:TS:=_;tSeq cv (tSeq cw (tSeq cy dR)) _ _ _)
  intro cv cw cy dR
  simp_all only[ET]
  have j2:k*k<=1000000:=Int.le_trans (Int.mul_le_mul (show k<=1000 by omega) (show k<=1000 by omega) k0 (by decide)) (by decide)
  have j3:0<=k*k:=Int.mul_nonneg k0 k0
  refine⟨ns,hS,gC (λc=>⟨ns,hS,k0,c,kk _⟩) (λc=>⟨cV (by omega) (by omega),ns,hS,gC (λz=>?_) (λz=>?_)⟩)⟩
  ·have m1:=aaG (ns.getD (k*5 % (ns.length:Int)).toNat 0) (show(2147483647:Int)≠0 by decide)
   have m2:=aaQ (ns.getD (k*5 % (ns.length:Int)).toNat 0) (show(0:Int)<2147483647 by decide)
   exact⟨cV (by omega) (by omega),ns,hS,z,ns,hS,aaG _ (by omega),aaQ _ z,by decide,m8,cV (by omega) (by omega),cV (by omega) (by omega),cV (by omega) (by omega),by decide,kk _⟩
  ·exact⟨cV (by omega) (by omega),by decide,kk _⟩
theorem iL:aN ["_law_cell_here","_law_many"] ["_law_cell_here","_law_many"] (ae (top 48)):=⟨rfl,rfl,rfl,by decide +kernel,rfl,by decide +kernel,by decide +kernel⟩
theorem oO (T:Txt K mg aB tc):bS P w K mg base (bK P w) 1 "_law_mixed" ["_law_cell_here","_law_many"] eW:=by
 refine T.qW.d9 (λ_ _ _ _ _ _=>eA λ_ _=>rfl) λf fd F=>F.eC iL (λvs H Q E h=>?_) (λcG A outer s H vs Q E hr h=>?_)
 ·obtain⟨_,_,rfl,_⟩:=h;rfl
 ·refine(?_:let G_:Prop:=_;G_)
  intro G_
  obtain⟨c,m,rfl,m0,kk⟩:=h
  dsimp only[G_]
  have nd:=iL.nd
  refine⟨_,(ax (aQ (aD cn (aD dq (aD cn (aD aW (aD cn (pv 0) (aD gL ag ag)) ag) (aD gL ag ag)) (aD gL ag ag)) (pv 1)))),?_⟩
  simp_all only[]
  have h1:=aaG c (show((2:Int)^64)≠0 by decide)
  have h2:=aaQ c (show(0:Int)<2^64 by decide)
  exact⟨by decide,by decide,by decide,by decide,cV (by omega) (by omega),by decide,by decide,by decide,by decide,by decide,by decide,by decide,eO.lit,m0,kk _ (aaG _ (by omega)) (aaQ _ m0)⟩
theorem kP:aN ["_law_top","_law_bottom","_law_one","_law_other"] ["_law_top","_law_bottom"] (ae (top 49)):=⟨rfl,rfl,rfl,by decide +kernel,rfl,by decide +kernel,by decide +kernel⟩
theorem oP (T:Txt K mg aB tc):bS P w K mg base (bK P w) 1 "_law_low" ["_law_top","_law_bottom"] eX:=by
 refine T.vm.d9 (λ_ _ _ _ _ _=>eA λ_ _=>rfl) λf fd F=>F.eC kP (λvs H Q E h=>?_) (λcG A outer s H vs Q E hr h=>?_)
 ·obtain⟨_,_,rfl,_⟩:=h;rfl
 ·refine(?_:let G_:Prop:=_;G_)
  intro G_
  obtain⟨a,b,rfl,b0,bb,k⟩:=h
  dsimp only[G_]
  have nd:=kP.nd
  refine⟨_,(af (aF (i:=2) nd rfl (Or.inl rfl) (aZ mT (by rfl) T.z_abs rfl (aa (pv 0) ao (se rfl)) (he:=se rfl) (hpl:=na rfl)))
  (af (aF (i:=3) nd rfl (Or.inl rfl) (pv 1))
  (af (gK PassesOwn.never (aR kA (pv 3) ag (aX _)) (ax (Ez (i:=2) (j:=3) rfl nd rfl rfl (by decide) rfl rfl (aa (pv 3) (aa (aD cn (pv 2) (pv 3)) ao (se rfl)) (se rfl)) rfl)))
  (ax (aQ (bV (aa (aD dq (pv 0) (pv 2)) (aa (aD dq (pv 1) (pv 2)) ao (se rfl)) (se rfl)))))))),?_⟩
  refine(?_:let cv:TS:=_;let cw:TS:=_;let cy:TS:=_;let dR:TS:=_;tSeq cv (tSeq cw (tSeq cy dR)) _ _ _)
  intro cv cw cy dR
  simp_all only[]
  refine sI (λσ H1=>H1=H/\∃x y:Int,σ=[some (.int a),some (.int b),some (.int x),some (.int y)]/\0<=x/\0<=y/\Nm.g x y=Nm.g a b) (λσ _=>match σ with | [_,_,_,some (.int y)]=>y.toNat | _=>0) ?_ ?_ ?_
  ·refine⟨rfl,_,_,rfl,?_,by omega,?_⟩
   ·split <;>omega
   ·rw[show(if a<0 then -a else a)=(a.natAbs:Int) by split <;>omega,Nm.zf]
  ·intro σ H1 bH
   refine(?_:let G_:Prop:=_;G_)
   intro G_
   obtain⟨rfl,x,y,rfl,x0,y0,e⟩:=bH
   dsimp only[G_]
   simp_all only[]
   refine gC (λc=>?_) (λc=>?_)
   ·refine⟨c,y0,aaG _ (by omega),by rw[Nm.zg x0 c,e],?_⟩
    have:=aaQ x c
    have:=aaG x (show y≠0 by omega)
    omega
   ·have z:y=0:=by omega
    subst z
    rw[Nm.zh x0] at e
    rw[e]
    have g0:0<Nm.g a b:=Nm.iF (by omega)
    have gb:Bt 8900 (Nm.g a b):=bb.le (by have:=Nm.EV (a:=a) b0;omega)
    obtain⟨e1,e2⟩:=Nm.m9 (a:=a) b0
    rw[e1,e2] at k
    exact⟨eO.of g0 gb,eO.of g0 gb,by decide,λp H2 s1 n1 e=>k p H2 s1 n1 e⟩
  ·intro σ H1 Q1 Q2 hq hc
   simp only[L2.start,Pr,tRev,tD1,tDPop1,tSl,tNoPart,tPart,rSlL,tDIn,tDNotIn,gSub,rSetL,tLst,tDNewK,tComp,L2.stC,tFor_eq,iList,iTup,iRng1,iRng2,iZip,iEnum,iDict,iStr,tChain,tSumV,tBM,rJoin,tJoined,jNil,jLit,jInt,jStr,tRaise,tDGet,tDGet2,tDGet1,sDPut,Option.join_some,List.getElem?_nil,tSeq,tRet,tRetN,tIfS,tTest,tB,tOp,tUn,tVar,tC,tCB,tCons,tNil,tCall,tTupS,tAsg,gName,gNil,gCons,tPar,tNext,tDrop,tAnd,tOr,tNot,tAndV,tOrV,tNotV,tIf,rI,rI0,rU,rIxTH,rIxLH,rEqT,rNeT,rInT,rEq,rNe,scal_ss,scal_ii,scal_bb,scal_si,scal_is,CPow,at0,at1,at2,aat,aa0,aar,abe,Nat.reduceSub,Nat.reduceAdd,aa1,abx,List.reduceReplicate,aa6,List.nil_append,abr,abt,abk,abg,abh,abu,exists_eq_left',exists_eq_left,V.ref.injEq,V.int.injEq,V.bl.injEq,V.str.injEq,V.ty.injEq,HO.tup.injEq,HO.lst.injEq,List.cons.injEq,and_true,true_and,and_assoc,exists_and_left,decide_eq_true_eq,Bool.not_eq_true',decide_eq_false_iff_not,ite_true,ite_false,if_true,if_false,Int.reduceToNat,eq_self_iff_true] at hc ⊢
   refine(?_:let G_:Prop:=_;G_)
   intro G_
   obtain⟨v,e1,i,e2,q⟩:=hc
   dsimp only[G_]
   exact⟨v,e1,i,e2,hq _ _ q⟩
theorem jK:aN ["_law_one","_law_other"] ["_law_one","_law_other"] (ae (top 50)):=⟨rfl,rfl,rfl,by decide +kernel,rfl,by decide +kernel,by decide +kernel⟩
theorem Bg (T:Txt K mg aB tc):bS P w K mg base (bK P w) 2 "_law_plus" ["_law_one","_law_other"] ub:=by
 have cm:bS P w K mg base (bK P w) 1 "_law_low" ["_law_top","_law_bottom"] eX:=oP T
 refine T.tN.d9 (λ_ _ _ _ _ _=>eA λ_ _=>rfl) λf fd F=>F.eC jK (λvs H Q E h=>?_) (λcG A outer s H vs Q E hr h=>?_)
 ·obtain⟨_,_,_,_,rfl,_⟩:=h;rfl
 ·refine(?_:let G_:Prop:=_;G_)
  intro G_
  obtain⟨p,q,a,b,rfl,hp,hq,ga,gb,k⟩:=h
  dsimp only[G_]
  have nd:=jK.nd
  refine⟨_,(ax (aQ (aG cm (hr.mono (by decide)) rfl aA.pass (aa (aD bo (aD aW (aH aK (pv 0) ag (λ_ _=>rfl)) (aH aK (pv 1) ag (λ_ _=>rfl))) (aD aW (aH aK (pv 1) ag (λ_ _=>rfl)) (aH aK (pv 0) ag (λ_ _=>rfl)))) (aa (aD aW (aH aK (pv 0) ag (λ_ _=>rfl)) (aH aK (pv 1) ag (λ_ _=>rfl))) ao (se rfl)) (se rfl)) (he:=se rfl) (hpl:=na rfl)))),?_⟩
  simp only[Pr] at hp hq
  simp_all only[eX,hp,hq]
  refine⟨ga.1.dD gb.2.1,gb.1.dD ga.2.1,ga.2.1.dD gb.2.1,?_⟩
  exact⟨aa7 ga.2.2 gb.2.2,(ga.2.1.mul gb.2.1).mono (by decide),λr H' s' n' e=>k r H' s' n' e⟩
theorem jL:aN ["_law_one","_law_other"] ["_law_one","_law_other"] (ae (top 60)):=⟨rfl,rfl,rfl,by decide +kernel,rfl,by decide +kernel,by decide +kernel⟩
theorem Gy (T:Txt K mg aB tc):bS P w K mg base (bK P w) 1 "_law_less" ["_law_one","_law_other"] AZ:=by
 refine T.tP.d9 (λ_ _ _ _ _ _=>eA λ_ _=>rfl) λf fd F=>F.eC jL (λvs H Q E h=>?_) (λcG A outer s H vs Q E hr h=>?_)
 ·obtain⟨_,_,_,_,rfl,_⟩:=h;rfl
 ·refine(?_:let G_:Prop:=_;G_)
  intro G_
  obtain⟨p,q,a,b,rfl,hp,hq,ga,gb,k⟩:=h
  dsimp only[G_]
  have nd:=jL.nd
  refine⟨_,(ax (aQ (qy mR (aD aW (aH aK (pv 0) ag (λ_ _=>rfl)) (aH aK (pv 1) ag (λ_ _=>rfl))) (aD aW (aH aK (pv 1) ag (λ_ _=>rfl)) (aH aK (pv 0) ag (λ_ _=>rfl))) (aX _)))),?_⟩
  simp only[Pr] at hp hq
  simp_all only[hp,hq]
  exact⟨ga.1.dD gb.2.1,gb.1.dD ga.2.1,k⟩
theorem iM:aN ["_law_one","_law_other"] ["_law_one","_law_other"] (ae (top 51)):=⟨rfl,rfl,rfl,by decide +kernel,rfl,by decide +kernel,by decide +kernel⟩
theorem Gz (T:Txt K mg aB tc):bS P w K mg base (bK P w) 2 "_law_times" ["_law_one","_law_other"] AM:=by
 have cm:bS P w K mg base (bK P w) 1 "_law_low" ["_law_top","_law_bottom"] eX:=oP T
 refine T.qX.d9 (λ_ _ _ _ _ _=>eA λ_ _=>rfl) λf fd F=>F.eC iM (λvs H Q E h=>?_) (λcG A outer s H vs Q E hr h=>?_)
 ·obtain⟨_,_,_,_,rfl,_⟩:=h;rfl
 ·refine(?_:let G_:Prop:=_;G_)
  intro G_
  obtain⟨p,q,a,b,rfl,hp,hq,ga,gb,k⟩:=h
  dsimp only[G_]
  have nd:=iM.nd
  refine⟨_,(ax (aQ (aG cm (hr.mono (by decide)) rfl aA.pass (aa (aD aW (aH aK (pv 0) ag (λ_ _=>rfl)) (aH aK (pv 1) ag (λ_ _=>rfl))) (aa (aD aW (aH aK (pv 0) ag (λ_ _=>rfl)) (aH aK (pv 1) ag (λ_ _=>rfl))) ao (se rfl)) (se rfl)) (he:=se rfl) (hpl:=na rfl)))),?_⟩
  simp only[Pr] at hp hq
  simp_all only[eX,hp,hq]
  refine⟨ga.1.dD gb.1,ga.2.1.dD gb.2.1,?_⟩
  exact⟨aa7 ga.2.2 gb.2.2,(ga.2.1.mul gb.2.1).mono (by decide),λr H' s' n' e=>k r H' s' n' e⟩
theorem iN:aN ["_law_cell_here","_law_k","_law_way","_law_top","_law_bottom"] ["_law_cell_here","_law_k"] (ae (top 52)):=⟨rfl,rfl,rfl,by decide +kernel,rfl,by decide +kernel,by decide +kernel⟩
theorem GA (T:Txt K mg aB tc):bS P w K mg base (bK P w) 2 "_law_share" ["_law_cell_here","_law_k"] AQ:=by
 have cm:bS P w K mg base (bK P w) 1 "_law_low" ["_law_top","_law_bottom"] eX:=oP T
 have aV:bS P w K mg base (bK P w) 1 "_law_mixed" ["_law_cell_here","_law_many"] eW:=oO T
 refine T.qY.d9 (λ_ _ _ _ _ _=>eA λ_ _=>rfl) λf fd F=>F.eC iN (λvs H Q E h=>?_) (λcG A outer s H vs Q E hr h=>?_)
 ·obtain⟨_,_,rfl,_⟩:=h;rfl
 ·refine(?_:let G_:Prop:=_;G_)
  intro G_
  obtain⟨c,k,rfl,k0,k1,kk⟩:=h
  dsimp only[G_]
  have nd:=iN.nd
  refine⟨_,(af (aF (i:=2) nd rfl (Or.inl rfl) (aG aV (hr.mono (by decide)) rfl aA.pass (aa (aD bo (pv 0) (aD aW ag (pv 1))) (aa ag ao (se rfl)) (se rfl)) (he:=se rfl) (hpl:=na rfl)))
  (af (aF (i:=3) nd rfl (Or.inl rfl) (aD jQ (aG aV (hr.mono (by decide)) rfl aA.pass (aa (aD bo (aD bo (pv 0) (aD aW ag (pv 1))) ag) (aa ag ao (se rfl)) (se rfl)) (he:=se rfl) (hpl:=na rfl)) ag))
  (af (aF (i:=4) nd rfl (Or.inl rfl) ag)
  (af (bU (aR mR (pv 2) ag (aX _)) (ax (aF (i:=4) nd rfl (Or.inl rfl) (aD bo ag (aG aV (hr.mono (by decide)) rfl aA.pass (aa (aD bo (aD bo (pv 0) (aD aW ag (pv 1))) ag) (aa ag ao (se rfl)) (se rfl)) (he:=se rfl) (hpl:=na rfl)))))
   bB)
  (af (bU (aR cQ (pv 2) ag (aX _)) (af (aF (i:=3) nd rfl (Or.inl rfl) (aD jQ (aD cn (aD aW (aD bo (pv 0) ag) (aD bo (aD aW (pv 1) (pv 1)) ag)) (aD jQ (aD aW ag (aD gL ag ag)) ag)) (aD jQ (aD gL ag ag) ag)))
  (ax (aF (i:=4) nd rfl (Or.inl rfl) (aD bo ag (aD cn (aD aW (aD bo (pv 0) ag) (aD bo (aD aW (pv 1) (pv 1)) ag)) (aD gL ag ag))))))
   bB)
  (ax (aQ (aG cm (hr.mono (by decide)) rfl aA.pass (aa (pv 3) (aa (pv 4) ao (se rfl)) (se rfl)) (he:=se rfl) (hpl:=na rfl))))))))),?_⟩
  refine(?_:let cv:TS:=_;let cw:TS:=_;let cy:TS:=_;let dR:TS:=_;let jG:TS:=_;let Ba:TS:=_;tSeq cv (tSeq cw (tSeq cy (tSeq dR (tSeq jG Ba)))) _ _ _)
  intro cv cw cy dR jG Ba
  have j2:k*k<=1000000:=Int.le_trans (Int.mul_le_mul (show k<=1000 by omega) (show k<=1000 by omega) k0 (by decide)) (by decide)
  have j3:0<=k*k:=Int.mul_nonneg k0 k0
  have fin:∀x y:Int,Bt 40 x->Bt 20 y->0<y->0<y/\Bt 8900 y/\∀p H',az H H'->H p=none->H' p=some (.tup [V.int (Nm.st x y),V.int (Nm.sb x y)])->Q (.ref p) H':=λx y bx VE y0=>
   ⟨y0,VE.mono (by decide),λp H' s' n' e=>kk p H' (Nm.st x y,Nm.sb x y) s' n' e ⟨bx.le (Nm.EW (by omega)),VE.le (Nm.EX (by omega)),Nm.zj (by omega),Nm.zk (by omega)⟩⟩
  have Cb:∀c1 c2:Int,Bt 40 (c1 % (2*10^12 - 1) - (10^12 - 1))/\Bt 20 (1+c2 % 10^6)/\0<1+c2 % 10^6:=λc1 c2=>by
   have h1:=aaG c1 (show(2*10^12 - 1:Int)≠0 by decide)
   have h2:=aaQ c1 (show(0:Int)<2*10^12 - 1 by decide)
   have h3:=aaG c2 (show(10^6:Int)≠0 by decide)
   have h4:=aaQ c2 (show(0:Int)<10^6 by decide)
   exact⟨Bt.of (10^12) (by omega) (by omega),Bt.of (10^6) (by omega) (by omega),by omega⟩
  simp_all only[eX,eW]
  have bs:∀{t r:Int},0<=t->t<19->0<=r->r<12->Bt 40 (t - 9)/\Bt 20 (1+r):=λa b c d=>⟨Bt.of 60 (by omega) (by omega),Bt.of 60 (by omega) (by omega)⟩
  refine⟨cV,by decide,λwy w0 w1=>⟨cV,by decide,λt t0 t1=>gC (λc1=>⟨cV,by decide,λr r0 r1=>gC (λc2=>?_) (λc2=>?_)⟩) (λc1=>gC (λc2=>?_) (λc2=>?_))⟩⟩
  ·exfalso
   omega
  ·exact fin (t - 9) (1+r) (bs t0 t1 r0 r1).1 (bs t0 t1 r0 r1).2 (by omega)
  ·have bg:=Cb ((c+1)* (k*k+71)) ((c+3)* (k*k+5))
   exact⟨cV (by omega) (by omega),m8 (by omega) (by omega),by decide,by decide,by decide,cV,by decide,by decide,by decide,by decide,cV (by omega) (by omega),m8 (by omega) (by omega),by decide,by decide,by decide,by decide,fin _ _ bg.1 bg.2.1 bg.2.2⟩
  ·exact fin (t - 9) 1 (bs t0 t1 (aa4 0) (by decide)).1 (Bt.of 60 (by omega) (by omega)) (by decide)
theorem hJ:aN ["_law_cell_here","_law_n","_law_first","_law_keyed"] ["_law_cell_here","_law_n"] (ae (top 53)):=⟨rfl,rfl,rfl,by decide +kernel,rfl,by decide +kernel,by decide +kernel⟩
theorem GB (T:Txt K mg aB tc):bS P w K mg base (bK P w) 2 "_law_turned" ["_law_cell_here","_law_n"] AN:=by
 have aV:bS P w K mg base (bK P w) 1 "_law_mixed" ["_law_cell_here","_law_many"] eW:=oO T
 refine T.o4.d9 (λ_ _ _ _ _ _=>eA λ_ _=>rfl) λf fd F=>F.eC hJ (λvs H Q E h=>?_) (λcG A outer s H vs Q E hr h=>?_)
 ·obtain⟨_,_,rfl,_⟩:=h;rfl
 ·refine(?_:let G_:Prop:=_;G_)
  intro G_
  obtain⟨c,n,rfl,n0,n1,kk⟩:=h
  dsimp only[G_]
  clear G_
  have nd:=hJ.nd
  refine⟨_,(af (aF (i:=2) nd rfl (Or.inr rfl) (aD cn (pv 0) ag))
  (af (aF (i:=3) nd rfl (Or.inl rfl) (aZ (nJ (K:=K)) (by rfl) T.z_sorted rfl (aa (bW rfl (N:=["_law_cell_here","_law_n","_law_first","_law_keyed"]) (so:=ae (top 53)) (N':=["_law_k","_law_first"]) (k:=1) (fr:=[2]) rfl rfl ⟨rfl,by decide +kernel,by decide +kernel,by decide +kernel,rfl,by decide +kernel,by decide +kernel⟩ (cR rfl T.z_range (aa (pv 1) ao (se rfl))) (λ_ _ _ _ _=>(aE (i:=0) (show(["_law_k","_law_first"]:List Str).Nodup by decide +kernel) rfl (Or.inl rfl))) (λ_ _ _ _ _=>bJ)
   (λ_ _ _ _ _=>(bV (aa (aG aV (hr.mono (by decide)) rfl aA.pass (aa (aD bo (aD aW (pv 1) (aD bo (aD aW (pv 0) (pv 0)) ag)) (pv 0)) (aa (aD gL ag ag) ao (se rfl)) (se rfl)) (he:=se rfl) (hpl:=na rfl)) (aa (pv 0) ao (se rfl)) (se rfl))))) ao (se rfl)) (he:=se rfl) (hpl:=na rfl)))
  (ax (aQ (bW rfl (N:=["_law_cell_here","_law_n","_law_first","_law_keyed"]) (so:=ae (top 53)) (N':=["_law_pair"]) (k:=1) (fr:=[]) rfl rfl ⟨rfl,by decide +kernel,by decide +kernel,by decide +kernel,rfl,by decide +kernel,by decide +kernel⟩ (br (K:=K) (pv 3)) (λ_ _ _ _ _=>(aE (i:=0) (show(["_law_pair"]:List Str).Nodup by decide +kernel) rfl (Or.inl rfl))) (λ_ _ _ _ _=>bJ)
   (λ_ _ _ _ _=>(aH aK (pv 0) ag (λ_ _=>rfl)))))))),?_⟩
  refine(?_:let cv:TS:=_;let cw:TS:=_;let cy:TS:=_;tSeq cv (tSeq cw cy) _ _ _)
  intro cv cw cy
  simp_all only[]
  obtain⟨N,rfl⟩:=aau (Int.le_of_lt n0)
  rw[aai] at kk
  refine⟨by decide,by omega,by omega,?_⟩
  refine comp_map src_range (λ_ _ _ _ h=>by rw[h.1];exact az.refl _) (by rw[sizeLine_eq];omega) (λi y H4=>∃tt a,y=.ref tt/\H4 tt=some (.tup [.int a,.int ((i:Nat):Int)])) (λi y H4 H5 s5 ⟨tt,a,e,h⟩=>⟨tt,a,e,s5 _ _ h⟩) ?_ ?_
  ·rintro i x w0 H9 BJ Q2 hi s9 ⟨rfl,rfl⟩ kq
   simp_all only[eW]
   have ii:(0:Int)+ (i:Int)=(i:Int):=Int.zero_add _
   rw[ii]
   have j0:(0:Int)<=(i:Int):=by omega
   have jq:IntMulOk (i:Int) (i:Int):=cV (by omega) (by omega)
   have j2:(i:Int)* (i:Int)<=40000:=Int.le_trans (Int.mul_le_mul (show(i:Int)<=200 by omega) (show(i:Int)<=200 by omega) j0 (by decide)) (by decide)
   have j3:0<=(i:Int)* (i:Int):=Int.mul_nonneg j0 j0
   exact⟨jq,m8 (by omega) (by omega),by decide,by decide,by decide,by decide,λr r0 r1=>⟨by decide,λq5 YX LC JX e11=>kq _ _ LC ⟨q5,r,rfl,e11⟩⟩⟩
  intro ys H9 s9 ly hy D9 LD JX
  have YY:=s9.trans (au (o:=.lst ys) JX)
  have YZ:(upd H9 D9 (.lst ys)) D9=some (.lst ys):=ar
  have NA:∀(i:Nat) y,ys[i]?=some y->∃tt a,y=.ref tt/\(upd H9 D9 (.lst ys)) tt=some (.tup [.int a,.int ((i:Nat):Int)]):=λi y e=>by
   refine(?_:let G_:Prop:=_;G_)
   intro G_
   obtain⟨tt,a,e1,e2⟩:=hy i y e
   dsimp only[G_]
   exact⟨tt,a,e1,au JX _ _ e2⟩
  generalize upd H9 D9 (.lst ys)=BJ at *
  have each:∀y∈ys,∃tt a b',y=.ref tt/\BJ tt=some (.tup [.int a,.int b']):=λy Y0=>by
   obtain⟨i,ei⟩:=aaw Y0
   refine(?_:let G_:Prop:=_;G_)
   intro G_
   obtain⟨tt,a,e1,e2⟩:=NA i y ei
   dsimp only[G_]
   exact⟨tt,a,_,e1,e2⟩
  have ly:ys.length=N:=by simpa using ly
  refine⟨ys,bj.of YZ,by omega,each,λl11 zs Y1 pz=>?_⟩
  have hg:∃g:V->Nat,g=λv=>match v with | .ref tt=>(match BJ tt with | some (.tup [_,.int i])=>i.toNat | _=>0) | _=>0:=⟨_,rfl⟩
  obtain⟨g,hg⟩:=hg
  have gy:∀(i:Nat) y,ys[i]?=some y->g y=i:=λi y e=>by
   refine(?_:let G_:Prop:=_;G_)
   intro G_
   obtain⟨tt,a,rfl,e2⟩:=NA i y e
   dsimp only[G_]
   rw[hg]
   simp only[e2,aai]
  have mg:ys.map g=List.range N:=by
   apply aaN
   intro i
   rw[aag]
   by_cases hi:i<N
   ·rw[aa2 hi,aad (show i<ys.length by omega)]
    show some (g _)=_
    rw[gy i _ (aad (by omega))]
   ·rw[aaq (show(List.range N).length<=i by rw[aaA];omega),aaq (show ys.length<=i by omega)]
    rfl
  have pm:(zs.map g).Perm (List.range N):=by rw[<-mg];exact pz.map g
  have zl:zs.length=N:=by rw[pz.length_eq];omega
  have ez:∀z∈zs,∃tt a,z=.ref tt/\BJ tt=some (.tup [.int a,.int ((g z:Nat):Int)]):=λz hz=>by
   obtain⟨i,ei⟩:=aaw (pz.mem_iff.mp hz)
   refine(?_:let G_:Prop:=_;G_)
   intro G_
   obtain⟨tt,a,e1,e2⟩:=NA i z ei
   dsimp only[G_]
   exact⟨tt,a,e1,by rw[gy i z ei];exact e2⟩
  have LC:=au (o:=.lst zs) Y1
  have VF:(upd BJ l11 (.lst zs)) l11=some (.lst zs):=ar
  generalize upd BJ l11 (.lst zs)=YX at *
  refine⟨⟨_,bj.of VF⟩,?_⟩
  refine dE zs (λz=>some ((g z:Nat):Int)) (src_list (K:=K) (λH' s'=>bj.of (s' _ _ VF))) (λ_ _ _ _ h=>h.1) (by rw[sizeLine_eq];omega) ?_ ?_
  ·rintro i1 z x eg ⟨_,ex⟩ Y N1 y1 n1
   rw[eg] at ex
   cases ex
   refine(?_:let G_:Prop:=_;G_)
   intro G_
   obtain⟨tt,a,rfl,e2⟩:=ez z (aae eg)
   dsimp only[G_]
   simp_all only[gQ,LC _ _ e2]
   exact y1 _ rfl
  intro D12 n13 VG
  rw[en]
  have e12:List.map V.int (zs.map λz=>((g z:Nat):Int))=List.map eN (zs.map g):=by rw[aaO,aaO];rfl
  rw[e12]
  have VH:=YY.trans LC
  exact kk _ _ _ (VH.trans (au VG)) (none_of VH VG) ar pm
theorem iO:aN ["_law_cell_here","_law_k","_law_n","_law_ways_here","_law_j","_law_weight","_law_sure"] ["_law_cell_here","_law_k","_law_n"] (ae (top 54)):=⟨rfl,rfl,rfl,by decide +kernel,rfl,by decide +kernel,by decide +kernel⟩
theorem GC (T:Txt K mg aB tc):bS P w K mg base (bK P w) 2 "_law_throw" ["_law_cell_here","_law_k","_law_n"] AR:=by
 have aV:bS P w K mg base (bK P w) 1 "_law_mixed" ["_law_cell_here","_law_many"] eW:=oO T
 refine T.qZ.d9 (λ_ _ _ _ _ _=>tQ λ_ _ _=>rfl) λf fd F=>F.eC iO (λvs H Q E h=>?_) (λcG A outer s H vs Q E hr h=>?_)
 ·obtain⟨_,_,_,rfl,_⟩:=h;rfl
 ·refine(?_:let G_:Prop:=_;G_)
  intro G_
  obtain⟨c,k,n,rfl,k0,kn,kk⟩:=h
  dsimp only[G_]
  have nd:=iO.nd
  refine⟨_,(af (aF (i:=3) nd rfl (Or.inl rfl) (cY ao))
  (af (cf PassesOwn.never rfl (cR rfl T.z_range (aa (aG aV (hr.mono (by decide)) rfl aA.pass (aa (aD bo (pv 0) ag) (aa ag ao (se rfl)) (se rfl)) (he:=se rfl) (hpl:=na rfl)) ao (se rfl))) (aE (i:=4) nd rfl (Or.inl rfl)) (af (aF (i:=5) nd rfl (Or.inl rfl) (aD bo ag (aG aV (hr.mono (by decide)) rfl aA.pass (aa (aD bo (pv 0) (aD aW ag (pv 4))) (aa ag ao (se rfl)) (se rfl)) (he:=se rfl) (hpl:=na rfl))))
  (af (bU (aR cQ (aG aV (hr.mono (by decide)) rfl aA.pass (aa (aD bo (pv 0) ag) (aa ag ao (se rfl)) (se rfl)) (he:=se rfl) (hpl:=na rfl)) ag (aX _)) (ax (aF (i:=5) nd rfl (Or.inl rfl) (aD bo ag (aG aV (hr.mono (by decide)) rfl aA.pass (aa (aD bo (pv 0) (aD aW ag (pv 4))) (aa ag ao (se rfl)) (se rfl)) (he:=se rfl) (hpl:=na rfl)))))
   bB)
  (ax (c7 (eF aaP aa9 aba cB.r (pv 3) (aa (bV (aa (pv 5) (aa (aG aV (hr.mono (by decide)) rfl aA.pass (aa (aD bo (aD bo (pv 0) (aD aW ag (pv 4))) ag) (aa (pv 2) ao (se rfl)) (se rfl)) (he:=se rfl) (hpl:=na rfl)) ao (se rfl)) (se rfl))) ao (se rfl))))))))
  (af (aF (i:=6) nd rfl (Or.inl rfl) (bV (aa (aD bo ag (aG aV (hr.mono (by decide)) rfl aA.pass (aa (aD bo (pv 0) ag) (aa ag ao (se rfl)) (se rfl)) (he:=se rfl) (hpl:=na rfl))) (aa (aG aV (hr.mono (by decide)) rfl aA.pass (aa (aD bo (pv 0) ag) (aa (pv 1) ao (se rfl)) (se rfl)) (he:=se rfl) (hpl:=na rfl)) ao (se rfl)) (se rfl))))
  (af (c7 (eF aaP PySem.F.slot_list_insert PySem.F.type_list_insert ye.r (pv 3) (aa (aG aV (hr.mono (by decide)) rfl aA.pass (aa (aD bo (pv 0) ag) (aa (aD bo (aZ bD (by rfl) T.z_len aaB (aa (pv 3) ao (se rfl)) (he:=se rfl) (hpl:=na rfl)) ag) ao (se rfl)) (se rfl)) (he:=se rfl) (hpl:=na rfl)) (aa (pv 6) ao (se rfl)) (se rfl))))
  (ax (aQ (pv 3))))))),?_⟩
  refine(?_:let cv:TS:=_;let cw:TS:=_;let cy:TS:=_;let dR:TS:=_;let jG:TS:=_;tSeq cv (tSeq cw (tSeq cy (tSeq dR jG))) _ _ _)
  intro cv cw cy dR jG
  simp_all only[eW]
  refine⟨aas _,λp np=>⟨by decide,λr r0 r1=>⟨by omega,by omega,?_⟩⟩⟩
  refine bL (src_range (Ok:=λ_=>True)) (λi σ H'=>az H H'/\∃xs z4 z5,H' p=some (.lst xs)/\xs.length=i/\(∀x∈xs,WT H' n x)/\σ=[some (.int c),some (.int k),some (.int n),some (V.ref p),z4,z5,none])
   ⟨au np,[],_,_,ar,rfl,by simp,rfl⟩ (λ_ _ _ _ _=>trivial) ?_ ?_
  ·intro i x σ H1 H2 hi dC dI
   refine(?_:let G_:Prop:=_;G_)
   intro G_
   obtain⟨sm,xs,z4,z5,hp,lx,wx,rfl⟩:=dC
   obtain⟨rfl,rfl⟩:=dI
   dsimp only[G_]
   simp_all only[eW]
   have sz:xs.length<sizeLine:=by rw[sizeLine_eq];omega
   have fin:∀w t p1 H3,az H2 H3->H2 p1=none->H3 p1=some (.tup [.int w,.int t])->(1<=w/\w<=200000)->0<=t->t<n->az H (upd H3 p (.lst (xs++ [V.ref p1])))/\∃iG,upd H3 p (.lst (xs++ [V.ref p1])) p=some (.lst iG)/\iG.length=i+1/\(∀x∈iG,WT (upd H3 p (.lst (xs++ [V.ref p1]))) n x):=λw t p1 H3 s3 n3 e3 w0 t0 t1=>by
    refine⟨ba (sm.trans s3) np,_,ar,by simp [lx],λx hx=>?_⟩
    have JY:=s3 _ _ hp
    rcases List.mem_append.mp hx with hx | hx
    ·exact((wx x hx).mono s3).put JY
    ·rw[List.mem_singleton.mp hx]
     exact WT.put JY ⟨p1,w,t,rfl,e3,w0,t0,t1⟩
   have go:∀w:Int,(1<=w/\w<=200000)->L8 K "list" (V.ref p) H2/\IntMulOk 29 (0+ (i:Int))/\0<n/\∀t,0<=t->t<n->2<=sizeLine/\∀p1 H3,az H2 H3->H2 p1=none->H3 p1=some (.tup [.int w,.int t])->c8 (V.ref p) [V.ref p1] H3 λ_ H'=>az H H'/\∃iG,H' p=some (.lst iG)/\iG.length=i+1/\(∀x∈iG,WT H' n x)/\∃x,some (V.int w)=x:=λw w0=>
    ⟨.inl ⟨rfl,_,bj.of hp⟩,cV,by omega,λt t0 t1=>⟨by decide,λp1 H3 s3 n3 e3=>⟨p,xs,_,rfl,rfl,s3 _ _ hp,sz,let ⟨a,iG,b,c,d⟩:=fin w t p1 H3 s3 n3 e3 w0 t0 t1;⟨a,iG,b,c,d,_,rfl⟩⟩⟩⟩
   refine⟨cV,by decide,λr r0 r1=>⟨by decide,λr2 _ _=>gC (λ_=>⟨cV,by decide,λr3 r30 r31=>?_⟩) (λ_=>?_)⟩⟩
   ·exact go _ ⟨by omega,by omega⟩
   ·exact go _ ⟨by omega,by omega⟩
  ·intro σ H1 bH
   refine(?_:let G_:Prop:=_;G_)
   intro G_
   obtain⟨sm,xs,z4,z5,hp,lx,wx,rfl⟩:=bH
   dsimp only[G_]
   simp_all only[eW,Iq,tBM]
   have sz:xs.length<sizeLine:=by rw[sizeLine_eq];omega
   refine⟨by decide,λw w0 w1=>⟨k0,λt t0 t1=>⟨by decide,λp1 H2 s2 n2 e2=>?_⟩⟩⟩
   have pN:=s2 _ _ hp
   refine⟨.inl ⟨rfl,_,bj.of pN⟩,xs,pN,by omega,λr r0 r1=>⟨xs,pN,r0,by omega,sz,kk p _ _ (ba (sm.trans s2) np) ar (λx hx=>?_) ⟨_,aaI _ aaj,WT.put pN ⟨p1,_,t,rfl,e2,⟨by omega,by omega⟩,t0,t1⟩⟩ (by rw[aaD,aar];omega) (by simp;omega)⟩⟩
   rcases List.mem_append.mp hx with hx | hx
   ·exact((wx x (List.mem_of_mem_take hx)).mono s2).put pN
   ·rcases List.mem_cons.mp hx with rfl | hx
    ·exact WT.put pN ⟨p1,_,t,rfl,e2,⟨by omega,by omega⟩,t0,by omega⟩
    ·exact((wx x (List.mem_of_mem_drop hx)).mono s2).put pN
theorem jM:aN ["_law_board_here","_law_found","_law_what"] ["_law_board_here"] (ae (top 57)):=⟨rfl,rfl,rfl,by decide +kernel,rfl,by decide +kernel,by decide +kernel⟩
theorem Bh (T:Txt K mg aB tc):bS P w K mg base (bK P w) 1 "_law_copy" ["_law_board_here"] oC:=by
 refine T.tO.d9 (λ_ _ _ _ _ _=>iC λ_=>rfl) λf fd F=>F.eC jM (λvs H Q E h=>?_) (λcG A outer s H vs Q E hr h=>?_)
 ·obtain⟨_,_,rfl,_⟩:=h;rfl
 ·refine(?_:let G_:Prop:=_;G_)
  intro G_
  obtain⟨a,b,rfl,rb,bl,kk⟩:=h
  dsimp only[G_]
  have nd:=jM.nd
  refine⟨_,(af (aF (i:=1) nd rfl (Or.inl rfl) (cY ao))
  (af (cf PassesOwn.never rfl (br (K:=K) (pv 0)) (aE (i:=2) nd rfl (Or.inl rfl)) (ax (bU (aR cQ (aH aK (pv 2) ag (λ_ _=>rfl)) cX (aX _)) (ax (c7 (eF aaP aa9 aba cB.r (pv 1) (aa (pv 2) ao (se rfl)))))
   (ax (c7 (eF aaP aa9 aba cB.r (pv 1) (aa (bV (aa (aH aK (pv 2) ag (λ_ _=>rfl)) (aa (aH aK (pv 2) ag (λ_ _=>rfl)) (aa (ia (dM (K:=K)) (by rfl) T.z_list rfl (aa (aH aK (pv 2) ag (λ_ _=>rfl)) ao (se rfl)) (he:=se rfl) (hpl:=na rfl)) ao (se rfl)) (se rfl)) (se rfl))) ao (se rfl))))))))
  (ax (aQ (pv 1))))),?_⟩
  refine(?_:let cv:TS:=_;let cw:TS:=_;let cy:TS:=_;tSeq cv (tSeq cw cy) _ _ _)
  intro cv cw cy
  refine(?_:let G_:Prop:=_;G_)
  intro G_
  obtain⟨_,xs,e,ha,rl⟩:=aO.mp rb
  dsimp only[G_]
  cases e
  have lx:=rl.length
  rw[aac] at lx
  simp_all only[]
  refine⟨aas _,λp np=>?_⟩
  have s0:=au (o:=.lst []) np
  refine⟨⟨_,bj.of (s0 _ _ ha)⟩,bL (src_list (Ok:=az H) (λH2 s2=>bj.of (s2 _ _ ha)))
   (λi σ H'=>az H H'/\∃ys z2,H' p=some (.lst ys)/\bf (cF H' p) ((b.take i).map jx) ys/\σ=[some (V.ref a),some (V.ref p),z2])
   ⟨s0,[],_,ar,by simp [bf],rfl⟩ (λ_ _ _ _ h=>h.1) ?_ ?_⟩
  ·intro i v σ H1 H2 hi dC dI
   refine(?_:let G_:Prop:=_;G_)
   intro G_
   obtain⟨sm,ys,z2,hp,ry,rfl⟩:=dC
   obtain⟨rfl,ex⟩:=dI
   obtain⟨q,eq,rq⟩:=cZ rl ex
   dsimp only[G_]
   have ly:=ry.length
   rw[aac,aaX] at ly
   have tk:b.take (i+1)=b.take i++ [q]:=by rw[aaE,eq];rfl
   have sz:ys.length<sizeLine:=by rw[sizeLine_eq];omega
   have fin:∀H3 v',az H2 H3->Rep (cF H3 p) (jx q) v'->az H (upd H3 p (.lst (ys++ [v'])))/\∃yG,upd H3 p (.lst (ys++ [v'])) p=some (.lst yG)/\bf (cF (upd H3 p (.lst (ys++ [v']))) p) ((b.take (i+1)).map jx) yG/\∃x,some v=x:=λH3 v' s3 r3=>by
    refine⟨ba (sm.trans s3) np,_,ar,?_,_,rfl⟩
    rw[tk,aax,aat,aa0]
    exact nv (ry.mono (bI s3)) r3
   have rx:=rq.mono sm
   cases q with
   | fin w=>
    refine(?_:let G_:Prop:=_;G_)
    intro G_
    obtain⟨t',r,rfl,jh,_⟩:=cM.mp rx
    dsimp only[G_]
    simp_all only[jh,c8,tBM]
    exact⟨.inl ⟨rfl,_,bj.of hp⟩,_,hp,sz,fin H2 _ (az.refl _) (rq.mono (de sm np))⟩
   | cP w ws=>
    refine(?_:let G_:Prop:=_;G_)
    intro G_
    obtain⟨t',r,l,zs,rfl,JE,uC,E2,rz⟩:=cI.mp rq
    dsimp only[G_]
    have jh:=sm _ _ JE
    have qS:=sm _ _ E2
    simp_all only[jh]
    rw[if_neg (by decide +kernel)]
    simp_all only[c8,tBM,jh]
    refine⟨.inl ⟨rfl,_,bj.of hp⟩,_,.inl (bj.of qS),λm nm=>⟨by decide,λu H4 s4 nu eu=>?_⟩⟩
    have s3:=(au (o:=.lst zs) nm).trans s4
    have NB:m≠p:=λz=>by rw[z,hp] at nm;cases nm
    have JZ:u≠p:=λz=>by rw[z,au (o:=.lst zs) nm _ _ hp] at nu;cases nu
    have sh:=de (sm.trans s3) np
    exact⟨_,s3 _ _ hp,sz,fin H4 _ s3 (cI.mpr ⟨u,r,m,zs,rfl,by rw[bE JZ];exact eu,sh _ _ uC,by rw[bE NB];exact s4 _ _ ar,rz.mono sh⟩)⟩
   | bN w to=>
    refine(?_:let G_:Prop:=_;G_)
    intro G_
    obtain⟨t',l,rfl,jh,qS⟩:=cJ.mp rx
    dsimp only[G_]
    simp_all only[jh]
    rw[if_neg (by decide +kernel)]
    simp_all only[c8,tBM,jh]
    refine⟨.inl ⟨rfl,_,bj.of hp⟩,_,.inl (bj.of qS),λm nm=>⟨by decide,λu H4 s4 nu eu=>?_⟩⟩
    have s3:=(au (o:=.lst (List.map V.int to)) nm).trans s4
    have NB:m≠p:=λz=>by rw[z,hp] at nm;cases nm
    have JZ:u≠p:=λz=>by rw[z,au (o:=.lst (List.map V.int to)) nm _ _ hp] at nu;cases nu
    exact⟨_,s3 _ _ hp,sz,fin H4 _ s3 (cJ.mpr ⟨u,m,rfl,by rw[bE JZ];exact eu,by rw[bE NB];exact s4 _ _ ar⟩)⟩
  ·intro σ H1 bH
   refine(?_:let G_:Prop:=_;G_)
   intro G_
   obtain⟨sm,ys,z2,hp,ry,rfl⟩:=bH
   dsimp only[G_]
   simp_all only[]
   rw[aaJ (by omega)] at ry
   exact kk p ys H1 sm np hp ry
theorem iP:aN ["_law_script","_law_at","_law_n","_law_turned_here","_law_board_here","_law_k","_law_cell_here","_law_kind","_law_ways_here"] ["_law_script","_law_at","_law_n"] (ae (top 55)):=⟨rfl,rfl,rfl,by decide +kernel,rfl,by decide +kernel,by decide +kernel⟩
theorem GD (T:Txt K mg aB tc):bS P w K mg base (bK P w) 3 "_law_board" ["_law_script","_law_at","_law_n"] (D3 K):=by
 have cD:bS P w K mg base (bK P w) 1 "_law_cell" ["_law_script","_law_k"] (C7 K):=xB T
 have aV:bS P w K mg base (bK P w) 1 "_law_mixed" ["_law_cell_here","_law_many"] eW:=oO T
 have jN:bS P w K mg base (bK P w) 2 "_law_share" ["_law_cell_here","_law_k"] AQ:=GA T
 have pf:bS P w K mg base (bK P w) 2 "_law_turned" ["_law_cell_here","_law_n"] AN:=GB T
 have rV:bS P w K mg base (bK P w) 2 "_law_throw" ["_law_cell_here","_law_k","_law_n"] AR:=GC T
 refine T.q9.d9 (λ_ _ _ _ _ _=>tQ λ_ _ _=>rfl) λf fd F=>F.eC iP (λvs H Q E h=>?_) (λcG A outer s H vs Q E hr h=>?_)
 ·obtain⟨_,_,_,rfl,_⟩:=h;rfl
 ·refine(?_:let G_:Prop:=_;G_)
  intro G_
  obtain⟨a,ns,n,rfl,hS,n0,n8,kk⟩:=h
  dsimp only[G_]
  clear G_
  have nd:=iP.nd
  refine⟨_,(af (aF (i:=3) nd rfl (Or.inr rfl) (aG pf (hr.mono (by decide)) rfl aA.pass (aa (aG cD (hr.mono (by decide)) rfl aA.pass (aa (pv 0) (aa (pv 1) ao (se rfl)) (se rfl)) (he:=se rfl) (hpl:=na rfl)) (aa (pv 2) ao (se rfl)) (se rfl)) (he:=se rfl) (hpl:=na rfl)))
  (af (eQ (i:=4) rfl nd rfl rfl (N:=["_law_script","_law_at","_law_n","_law_turned_here","_law_board_here","_law_k","_law_cell_here","_law_kind","_law_ways_here"]) (so:=ae (top 55)) (N':=["_law_place"]) (k:=1) (fr:=[]) rfl rfl ⟨rfl,by decide +kernel,by decide +kernel,by decide +kernel,rfl,by decide +kernel,by decide +kernel⟩ (br (K:=K) (pv 3)) (λ_ _ _ _ _=>(aE (i:=0) (show(["_law_place"]:List Str).Nodup by decide +kernel) rfl (Or.inl rfl))) (λ_ _ _ _ _=>bJ)
   (λ_ _ _ _ _=>fb))
  (af (cf PassesOwn.never rfl (cR rfl T.z_range (aa (pv 2) ao (se rfl))) (aE (i:=5) nd rfl (Or.inr rfl)) (af (aF (i:=6) nd rfl (Or.inr rfl) (aG cD (hr.mono (by decide)) rfl aA.pass (aa (pv 0) (aa (aD bo (aD bo (pv 1) ag) (pv 5)) ao (se rfl)) (se rfl)) (he:=se rfl) (hpl:=na rfl)))
  (af (aF (i:=7) nd rfl (Or.inl rfl) (aG aV (hr.mono (by decide)) rfl aA.pass (aa (aD bo (pv 6) ag) (aa ag ao (se rfl)) (se rfl)) (he:=se rfl) (hpl:=na rfl)))
  (ax (bU (PW.pt (pw_or (aR cQ (pv 5) ag (aX _)) (pw_or1 (aR cQ (pv 7) ag (aX _))))) (ax (dU (bV (aa cX (aa (aG jN (hr.mono (by decide)) rfl aA.pass (aa (pv 6) (aa (pv 5) ao (se rfl)) (se rfl)) (he:=se rfl) (hpl:=na rfl)) ao (se rfl)) (se rfl))) (fc (pv 4) (aH aJ (pv 3) (pv 5) (λ_ _=>rfl)) set_list)))
   (ax (bU (aR mR (pv 7) ag (aX _)) (af (eQ (i:=8) rfl nd rfl rfl (N:=["_law_script","_law_at","_law_n","_law_turned_here","_law_board_here","_law_k","_law_cell_here","_law_kind","_law_ways_here"]) (so:=ae (top 55)) (N':=["_law_weight","_law_to","_law_turned_here"]) (k:=2) (fr:=[3]) rfl rfl ⟨rfl,by decide +kernel,by decide +kernel,by decide +kernel,rfl,by decide +kernel,by decide +kernel⟩ (br (K:=K) (aG rV (hr.mono (by decide)) rfl aA.pass (aa (pv 6) (aa (pv 5) (aa (pv 2) ao (se rfl)) (se rfl)) (se rfl)) (he:=se rfl) (hpl:=na rfl))) (λ_ _ _ _ _=>(b8 (K:=K) (n:=2) rfl (aT (aE (i:=0) (show(["_law_weight","_law_to","_law_turned_here"]:List Str).Nodup by decide +kernel) rfl (Or.inl rfl)) (aT (aE (i:=1) (show(["_law_weight","_law_to","_law_turned_here"]:List Str).Nodup by decide +kernel) rfl (Or.inl rfl)) bY)))) (λ_ _ _ _ _=>bJ)
   (λ_ _ _ _ _=>(bV (aa (pv 0) (aa (aH aJ (pv 2) (pv 1) (λ_ _=>rfl)) ao (se rfl)) (se rfl)))))
  (ax (dU (bV (aa cX (aa (aG jN (hr.mono (by decide)) rfl aA.pass (aa (pv 6) (aa (pv 5) ao (se rfl)) (se rfl)) (he:=se rfl) (hpl:=na rfl)) (aa (pv 8) ao (se rfl)) (se rfl)) (se rfl))) (fc (pv 4) (aH aJ (pv 3) (pv 5) (λ_ _=>rfl)) set_list))))
   (af (eQ (i:=8) rfl nd rfl rfl (N:=["_law_script","_law_at","_law_n","_law_turned_here","_law_board_here","_law_k","_law_cell_here","_law_kind","_law_ways_here"]) (so:=ae (top 55)) (N':=["_law_j","_law_turned_here","_law_k","_law_cell_here"]) (k:=1) (fr:=[3,5,6]) rfl rfl ⟨rfl,by decide +kernel,by decide +kernel,by decide +kernel,rfl,by decide +kernel,by decide +kernel⟩ (cR rfl T.z_range (aa (aD bo ag (aG aV (hr.mono (by decide)) rfl aA.pass (aa (aD bo (pv 6) ag) (aa ag ao (se rfl)) (se rfl)) (he:=se rfl) (hpl:=na rfl))) ao (se rfl))) (λ_ _ _ _ _=>(aE (i:=0) (show(["_law_j","_law_turned_here","_law_k","_law_cell_here"]:List Str).Nodup by decide +kernel) rfl (Or.inl rfl))) (λ_ _ _ _ _=>bJ)
   (λ_ _ _ _ _=>(aH aJ (pv 1) (aG aV (hr.mono (by decide)) rfl aA.pass (aa (aD bo (pv 3) (aD aW ag (pv 0))) (aa (pv 2) ao (se rfl)) (se rfl)) (he:=se rfl) (hpl:=na rfl)) (λ_ _=>rfl))))
  (ax (dU (bV (aa cX (aa (aD bo ag (aG aV (hr.mono (by decide)) rfl aA.pass (aa (aD bo (pv 6) ag) (aa ag ao (se rfl)) (se rfl)) (he:=se rfl) (hpl:=na rfl))) (aa (pv 8) ao (se rfl)) (se rfl)) (se rfl))) (fc (pv 4) (aH aJ (pv 3) (pv 5) (λ_ _=>rfl)) set_list)))))))))))
  (ax (aQ (pv 4)))))),?_⟩
  refine(?_:let cv:TS:=_;let cw:TS:=_;let cy:TS:=_;let dR:TS:=_;tSeq cv (tSeq cw (tSeq cy dR)) _ _ _)
  intro cv cw cy dR
  simp_all only[C7,AN]
  refine⟨ns,hS,by decide,by decide,λc=>⟨by omega,by omega,λl H1 sg s1 nl hl pm=>⟨⟨_,bj.of hl⟩,?_⟩⟩⟩
  rw[aai] at pm
  have sl:sg.length=n:=by rw[pm.length_eq,aaA]
  subst sl
  refine comp_map (src_list (Ok:=az H1) (λH' s'=>bj.of (s' _ _ hl))) (λ_ _ _ _ h=>by rw[h.1];exact az.refl _) (by rw[sizeLine_eq,aac];omega) (λi y H4=>y=.cE) (λi y H4 H5 s5 h=>h) ?_ ?_
  ·rintro i x w0 H4 H5 Q2 hi s4 ⟨rfl,ex⟩ kq
   simp_all only[]
   exact kq _ _ (az.refl _) rfl
  intro ys H2 s2 ly hy m n1 n2
  rw[aac] at ly
  have s3:az H1 (upd H2 m (.lst ys)):=s2.trans (au n2)
  have nm:H m=none:=none_of (s1.trans s2) n2
  have JK:(upd H2 m (.lst ys)) m=some (.lst ys):=ar
  generalize upd H2 m (.lst ys)=H3 at *
  refine⟨by omega,by omega,bL (src_range (Ok:=λ_=>True)) (λi σ H'=>az H1 H'/\∃xs z5 z6 z7 z8,H' m=some (.lst xs)/\xs.length=sg.length/\(∃qs:Nat->Pl,∀j k,j<i->sg[j]?=some k->AO sg j (qs k)/\∃v,xs[k]?=some v/\Rep (cF H' m) (jx (qs k)) v)/\σ=[some (V.ref a),some (V.int 2),some (V.int (sg.length:Int)),some (V.ref l),some (V.ref m),z5,z6,z7,z8])
   ⟨s3,ys,_,_,_,_,JK,by omega,⟨λ_=>.fin (0,1),λj k hj=>absurd hj (abc _)⟩,rfl⟩ (λ_ _ _ _ _=>trivial) ?_ ?_⟩
  ·intro i x σ H4 H5 hi dC dI
   refine(?_:let G_:Prop:=_;G_)
   intro G_
   obtain⟨s4,xs,z5,z6,z7,z8,hm,lx,⟨qs,gx⟩,rfl⟩:=dC
   obtain⟨rfl,rfl⟩:=dI
   dsimp only[G_]
   have hi:i<sg.length:=by have:i< ((sg.length:Nat):Int).toNat:=hi;omega
   obtain⟨k,hk⟩:∃k,sg[i]?=some k:=⟨_,aad hi⟩
   have kn:k<sg.length:=List.mem_range.mp (pm.mem_iff.mp (aae hk))
   have at_:∀t:Int,0<=t->t< (sg.length:Int)->∃k':Nat,k'<sg.length/\sg[t.toNat]?=some k'/\fK (List.map eN sg) t=some (V.int (k':Int)):=λt t0 t1=>by
    obtain⟨j,rfl⟩:=aau t0
    obtain⟨k',BH⟩:∃k',sg[j]?=some k':=⟨_,aad (by omega)⟩
    exact⟨k',List.mem_range.mp (pm.mem_iff.mp (aae BH)),by rw[aai];exact BH,nE (f:=eN) BH⟩
   have ak:fK (List.map eN sg) ((0:Int)+ (i:Int))=some (V.int (k:Int)):=by rw[Int.zero_add];exact nE (f:=eN) hk
   have kx:xT xs.length (k:Int)=some k:=by
    unfold xT
    rw[if_pos (by omega),if_pos (by omega)]
    simp
   have xv:=s4 _ _ hl
   have fin:∀H6 v q,az H5 H6->Rep (cF H6 m) (jx q) v->AO sg i q->az H1 (upd H6 m (.lst (xs.set k v)))/\∃iG,upd H6 m (.lst (xs.set k v)) m=some (.lst iG)/\iG.length=sg.length/\(∃qs:Nat->Pl,∀j k',j<i+1->sg[j]?=some k'->AO sg j (qs k')/\∃v',iG[k']?=some v'/\Rep (cF (upd H6 m (.lst (xs.set k v))) m) (jx (qs k')) v'):=λH6 v q s6 r6 g6=>by
    have sh:az (cF H6 m) (cF (upd H6 m (.lst (xs.set k v))) m):=de mi (if_pos rfl)
    refine⟨ba (s4.trans s6) (none_of s2 n2),_,ar,by rw[aaT];exact lx,λk'=>if k'=k then q else qs k',λj k' hj BH=>?_⟩
    by_cases ck:k'=k
    ·subst ck
     have ji:j=i:=Lv.zI pm BH hk
     subst ji
     dsimp only
     rw[if_pos rfl]
     exact⟨g6,v,by rw[aaW (by omega)],r6.mono sh⟩
    ·have:j<i:=by
      by_cases cj:j=i
      ·subst cj
       rw[hk] at BH
       cases BH
       exact absurd rfl ck
      ·omega
     dsimp only
     rw[if_neg ck]
     refine(?_:let G_:Prop:=_;G_)
     intro G_
     obtain⟨g',v',e',r'⟩:=gx j k' this BH
     dsimp only[G_]
     exact⟨g',v',by rw[aaH (Ne.symm ck)];exact e',(r'.mono (bI s6)).mono sh⟩
   have GF:∀{H6:Hp} {p:Addr},az H5 H6->H6 p=none->p≠m:=λs6 np z=>by rw[z,s6 _ _ hm] at np;cases np
   simp_all only[C7,eW,AQ,AR]
   refine⟨ns,(s1.trans s4).seq hS,by omega,by omega,λcc=>⟨by decide,λkd kd0 kd1=>?_⟩⟩
   have uA:(0:Int)+ (i:Int)< (sg.length:Int):=by omega
   have fe:∀(p:Addr) (H':Hp) (a:Int×Int),az H5 H'->H5 p=none->H' p=some (HO.tup [V.int a.fst,V.int a.snd])->GS a->∀(p1:Addr) (H6:Hp),az H' H6->H' p1=none->H6 p1=some (HO.tup [V.str (Str.ofString "end"),V.ref p])->Rep (cF H6 m) (jx (.fin a)) (.ref p1):=λp H' a s' n' e' _ p1 H6 s6 n6 e6=>by
    refine cM.mpr ⟨p1,p,rfl,?_,?_⟩
    ·rw[bE (GF s' n6)];exact e6
    ·rw[bE (GF (az.refl _) n')];exact s6 _ _ e'
   refine gC (λ_=>?_) (λc0=>gC (λ_=>?_) (λ_=>gC (λ_=>?_) (λ_=>?_)))
   ·refine⟨by omega,by omega,λp H6 w s6 n6 e6 g6=>⟨by decide,λp1 H7 s7 n7 e7=>?_⟩⟩
    refine(?_:let G_:Prop:=_;G_)
    intro G_
    obtain⟨x1,x2,x3,x4,x5⟩:=fin H7 (.ref p1) (.fin w) (s6.trans s7) (fe p H6 w s6 n6 e6 g6 p1 H7 s7 n7 e7) ⟨g6,trivial⟩
    dsimp only[G_]
    exact⟨_,(s6.trans s7) _ _ xv,_,ak,_,_,rfl,(s6.trans s7) _ _ hm,k,kx,x1,x2,x3,x4,x5,_,rfl⟩
   ·refine⟨by omega,by omega,λp H6 w s6 n6 e6 g6=>⟨by decide,λp1 H7 s7 n7 e7=>?_⟩⟩
    refine(?_:let G_:Prop:=_;G_)
    intro G_
    obtain⟨x1,x2,x3,x4,x5⟩:=fin H7 (.ref p1) (.fin w) (s6.trans s7) (fe p H6 w s6 n6 e6 g6 p1 H7 s7 n7 e7) ⟨g6,trivial⟩
    dsimp only[G_]
    exact⟨_,(s6.trans s7) _ _ xv,_,ak,_,_,rfl,(s6.trans s7) _ _ hm,k,kx,x1,x2,x3,x4,x5,_,rfl⟩
   ·refine⟨by omega,uA,λt H6 ts s6 e6 w6 sure l0 l6=>⟨⟨_,bj.of e6⟩,?_⟩⟩
    have Dj:=s6 _ _ xv
    refine(?_:let G_:Prop:=_;G_)
    intro G_
    obtain⟨x0,Y2,Y3⟩:=sure
    dsimp only[G_]
    obtain⟨i0,VI⟩:=aaw Y2
    refine fq (K:=K) (src_list (Ok:=az H6) (λH' s'=>bj.of (s' _ _ e6))) (λj a b H3=>∃w t,a=.int w/\b=.int t/\(1<=w/\w<=200000)/\0<=t/\t< (sg.length:Int)/\(j=i0->t< (i:Int))) (λj x H7 H8 hj s7 ⟨e,ex⟩=>?_) (by rw[sizeLine_eq];omega) (λj y H7=>∃q:Int×Int,Rep H7 (bz q) y/\(1<=q.1/\q.1<=200000/\0<=q.2/\q.2< (sg.length:Int))/\(j=i0->∃j',j'<i/\sg[j']?=some q.2.toNat)) (λj y H7 H8 s8 ⟨q,r,z⟩=>⟨q,r.mono s8,z⟩) ?_ ?_
    ·subst e
     refine(?_:let G_:Prop:=_;G_)
     intro G_
     obtain⟨q,w,t',rfl,hq,w0,t0,t1⟩:=w6 x (aae ex)
     dsimp only[G_]
     refine⟨az.refl _,q,_,_,rfl,d7.of (s7 _ _ hq),w,t',rfl,rfl,w0,t0,t1,λz=>?_⟩
     subst z
     rw[VI] at ex
     cases ex
     refine(?_:let G_:Prop:=_;G_)
     intro G_
     obtain⟨q2,w2,t2,e2,zp,_,_,t12⟩:=Y3
     dsimp only[G_]
     cases e2
     rw[hq] at zp
     cases zp
     omega
    ·intro j a b H7 Q7 hj s7 dI kq
     refine(?_:let G_:Prop:=_;G_)
     intro G_
     obtain⟨w,t',rfl,rfl,w0,t0,t1,t2⟩:=dI
     obtain⟨k',k1',yd,NC⟩:=at_ t' t0 t1
     dsimp only[G_]
     simp_all only[s7 _ _ Dj,NC]
     exact⟨by decide,λq H8 s8 n8 e8=>kq _ _ s8 ⟨(w,(k':Int)),bP.mpr ⟨q,rfl,e8⟩,⟨w0.1,w0.2,by show(0:Int)<=(k':Int);omega,by show(k':Int)< (sg.length:Int);omega⟩,λz=>⟨t'.toNat,by have:=t2 z;omega,yd⟩⟩⟩
    ·intro us H7 s7 lu hu D n8 n9
     refine(?_:let G_:Prop:=_;G_)
     intro G_
     obtain⟨ws,qw,lw,VJ⟩:=xl (f:=bz) (P:=λj (q:Int×Int)=>(1<=q.1/\q.1<=200000/\0<=q.2/\q.2< (sg.length:Int))/\(j=i0->∃j',j'<i/\sg[j']?=some q.2.toNat)) (H:=H7) (xs:=us) λj x ex=>hu j x ex
     dsimp only[G_]
     refine⟨by omega,by omega,λp H9 w s9 LD e9 g9=>⟨by decide,λp1 BJ LF JX e10=>?_⟩⟩
     have VL:=s6.trans (s7.trans ((au (o:=.lst us) n9).trans s9))
     have GG:=VL.trans LF
     have mD:D≠m:=GF (s6.trans s7) n9
     have mp:p≠m:=GF (s6.trans (s7.trans (au (o:=.lst us) n9))) LD
     have ND:p1≠m:=GF VL JX
     have rm:bf (cF BJ m) (ws.map bz) us:=by
      refine c4 lw.symm λj y ey q eq=>?_
      refine(?_:let G_:Prop:=_;G_)
      intro G_
      obtain⟨d,ed,rd⟩:=qw.get ey
      dsimp only[G_]
      rw[aag,eq] at ed
      cases ed
      refine(?_:let G_:Prop:=_;G_)
      intro G_
      obtain⟨tt,rfl,NF⟩:=bP.mp rd
      dsimp only[G_]
      refine bP.mpr ⟨tt,rfl,?_⟩
      have h1:=(s6.trans s7) _ _ hm
      rw[bE (λz=>by rw[z,h1] at NF;cases NF)]
      exact LF _ _ (s9 _ _ (au n9 _ _ NF))
     have li:i0<ws.length:=by have:=(List.getElem?_eq_some_iff.mp VI).1;omega
     have ld:AO sg i (.cP w ws):=by
      refine⟨⟨g9,by omega,by omega,λx hx=>?_⟩,ws[i0],aao li,(VJ i0 _ (aad li)).2 rfl⟩
      obtain⟨j,ej⟩:=aaw hx
      exact(VJ j x ej).1
     obtain⟨x1,x2,x3,x4,x5⟩:=fin BJ (.ref p1) (.cP w ws) GG (cI.mpr ⟨p1,p,D,us,rfl,by rw[bE ND];exact e10,by rw[bE mp];exact LF _ _ e9,by rw[bE mD];exact LF _ _ (s9 _ _ ar),rm⟩) ld
     exact⟨_,GG _ _ xv,_,ak,_,_,rfl,GG _ _ hm,k,kx,x1,x2,x3,x4,x5,_,rfl⟩
   ·refine⟨by decide,λr r0 r1=>⟨by omega,by omega,?_⟩⟩
    refine comp_map src_range (λ_ _ _ _ h=>by rw[h.1];exact az.refl _) (by rw[sizeLine_eq];omega) (λj y H4=>∃t,y=.int t/\0<=t/\t< (sg.length:Int)/\∃j',j'<i/\sg[j']?=some t.toNat) (λi y H4 H5 s5 h=>h) ?_ ?_
    ·rintro j x w0 H6 H7 Q7 hj s6 ⟨rfl,rfl⟩ kq
     simp_all only[eW,s6 _ _ xv]
     refine⟨cV,by omega,λt t0 t1=>?_⟩
     refine(?_:let G_:Prop:=_;G_)
     intro G_
     obtain⟨k',k1,yd,NC⟩:=at_ t t0 (by omega)
     dsimp only[G_]
     exact⟨_,NC,kq _ _ (az.refl _) ⟨_,rfl,by omega,by omega,t.toNat,by omega,by rw[aai];exact yd⟩⟩
    ·intro us H6 s6 lu hu D n8 n9
     obtain⟨to,rfl⟩:∃to:List Int,us=to.map V.int:=by
      refine⟨us.map λv=>match v with | .int t=>t | _=>0,?_⟩
      rw[aaO]
      apply aaN
      intro j
      rw[aag]
      cases ej:us[j]? with
      | none=>rfl
      | some y=>
       refine(?_:let G_:Prop:=_;G_)
       intro G_
       obtain⟨t,rfl,_⟩:=hu j y ej
       dsimp only[G_]
       rfl
     refine⟨by decide,λr' r0' LG=>⟨by decide,λp1 H7 s7 LD e7=>?_⟩⟩
     have Eh:=s6.trans ((au (o:=.lst (List.map V.int to)) n9).trans s7)
     have mD:D≠m:=GF s6 n9
     have ND:p1≠m:=GF (s6.trans (au (o:=.lst (List.map V.int to)) n9)) LD
     rw[aac] at lu
     have gt:∀g∈to,0<=g/\g< (sg.length:Int)/\∃j',j'<i/\sg[j']?=some g.toNat:=λg hg=>by
      obtain⟨j,ej⟩:=aaw hg
      obtain⟨t,e,t0,t1,t2⟩:=hu j (.int g) (by rw[aag,ej];rfl)
      cases e
      exact⟨t0,t1,t2⟩
     obtain⟨x1,x2,x3,x4,x5⟩:=fin H7 (.ref p1) (.bN (1+r') to) Eh (cJ.mpr ⟨p1,D,rfl,by rw[bE ND];exact e7,by rw[bE mD];exact s7 _ _ ar⟩) ⟨⟨by omega,by omega,by omega,λg hg=>⟨(gt g hg).1,(gt g hg).2.1⟩⟩,λg hg=>(gt g hg).2.2⟩
     exact⟨_,Eh _ _ xv,_,ak,_,_,rfl,Eh _ _ hm,k,kx,x1,x2,x3,x4,x5,_,rfl⟩
  ·intro σ H4 bH
   refine(?_:let G_:Prop:=_;G_)
   intro G_
   obtain⟨s4,xs,z5,z6,z7,z8,hm,lx,⟨qs,gx⟩,rfl⟩:=bH
   dsimp only[G_]
   simp_all only[]
   have lZ:∀x∈sg,x<sg.length:=λx hx=>List.mem_range.mp (pm.mem_iff.mp hx)
   have lq:((List.range sg.length).map qs).length=sg.length:=by rw[aac,aaA]
   refine kk m H4 ((List.range sg.length).map qs) _ (s1.trans s4) nm (aO.mpr ⟨m,xs,rfl,hm,c4 (by rw[lq];exact lx) λp y ey q eq=>?_⟩) lq (IP pm n0 n8 lq λk p q ek eq=>?_)
   ·have hp:p<sg.length:=by have:=(List.getElem?_eq_some_iff.mp ey).1;omega
    rw[aag,aa2 hp] at eq
    cases eq
    obtain⟨j,ej⟩:=aaw (pm.mem_iff.mpr (List.mem_range.mpr hp))
    obtain⟨_,v,ev,rv⟩:=gx j p (by have:=(List.getElem?_eq_some_iff.mp ej).1;simpa using this) ej
    rw[ey] at ev
    cases ev
    exact rv.mono bO
   ·have hp:=lZ p (aae ek)
    rw[aag,aa2 hp] at eq
    cases eq
    exact(gx k p (by have:=(List.getElem?_eq_some_iff.mp ek).1;simpa using this) ek).1
theorem iQ:aN ["_law_board_here","_law_found","_law_what","_law_number"] ["_law_board_here"] (ae (top 61)):=⟨rfl,rfl,rfl,by decide +kernel,rfl,by decide +kernel,by decide +kernel⟩
theorem GH (T:Txt K mg aB tc):bS P w K mg base (bK P w) 2 "_law_small" ["_law_board_here"] A3:=by
 have cm:bS P w K mg base (bK P w) 1 "_law_low" ["_law_top","_law_bottom"] eX:=oP T
 refine T.rh.d9 (λ_ _ _ _ _ _=>iC λ_=>rfl) λf fd F=>F.eC iQ (λvs H Q E h=>?_) (λcG A outer s H vs Q E hr h=>?_)
 ·obtain⟨_,_,_,rfl,_⟩:=h;rfl
 ·refine(?_:let G_:Prop:=_;G_)
  intro G_
  obtain⟨a,b,rk,rfl,rb,B,l8,kk⟩:=h
  dsimp only[G_]
  have nd:=iQ.nd
  refine⟨_,(af (aF (i:=1) nd rfl (Or.inl rfl) (cY ao))
  (af (cf PassesOwn.never rfl (br (K:=K) (pv 0)) (aE (i:=2) nd rfl (Or.inl rfl)) (ax (bU (aR cQ (aH aK (pv 2) ag (λ_ _=>rfl)) cX (aX _)) (ax (c7 (eF aaP aa9 aba cB.r (pv 1) (aa (pv 2) ao (se rfl)))))
   (af (aF (i:=3) nd rfl (Or.inl rfl) (aG cm (hr.mono (by decide)) rfl aA.pass (aa (aD jQ (aD cn (aH aK (aH aK (pv 2) ag (λ_ _=>rfl)) ag (λ_ _=>rfl)) ag) ag) (aa (aD bo ag (aD cn (aH aK (aH aK (pv 2) ag (λ_ _=>rfl)) ag (λ_ _=>rfl)) ag)) ao (se rfl)) (se rfl)) (he:=se rfl) (hpl:=na rfl)))
  (ax (c7 (eF aaP aa9 aba cB.r (pv 1) (aa (aD (zy (K:=K)) (bV (aa (aH aK (pv 2) ag (λ_ _=>rfl)) (aa (pv 3) ao (se rfl)) (se rfl))) (mY EH (pv 2) (qB ag) qA)) ao (se rfl)))))))))
  (ax (aQ (pv 1))))),?_⟩
  refine(?_:let cv:TS:=_;let cw:TS:=_;let cy:TS:=_;tSeq cv (tSeq cw cy) _ _ _)
  intro cv cw cy
  have sl:=sizeLine_eq
  refine(?_:let G_:Prop:=_;G_)
  intro G_
  obtain⟨_,xs,e,ha,rl⟩:=aO.mp rb
  dsimp only[G_]
  cases e
  have lx:=rl.length
  rw[aac] at lx
  simp_all only[]
  refine⟨aas _,λp np=>?_⟩
  have s0:=au (o:=.lst []) np
  refine⟨⟨_,bj.of (s0 _ _ ha)⟩,bL (src_list (Ok:=az H) (λH2 s2=>bj.of (s2 _ _ ha)))
   (λi σ H'=>az H H'/\∃(ys:List V) (b':List Pl) (z2 z3:Option V),H' p=some (.lst ys)/\bf (cF H' p) (b'.map jx) ys/\b'.length=i/\(∀(j:Nat) q',b'[j]?=some q'->F1 q'/\∃q,b[j]?=some q/\oE q q'/\∀w to,q=.bN w to->q'=q)/\σ=[some (V.ref a),some (V.ref p),z2,z3])
   ⟨s0,[],[],_,_,ar,by simp [bf],rfl,λj q' e=>by simp at e,rfl⟩ (λ_ _ _ _ h=>h.1) ?_ ?_⟩
  ·intro i v σ H1 H2 hi dC dI
   refine(?_:let G_:Prop:=_;G_)
   intro G_
   obtain⟨sm,ys,b',z2,z3,hp,ry,Bi,xn,rfl⟩:=dC
   obtain⟨rfl,ex⟩:=dI
   obtain⟨q,eq,rq⟩:=cZ rl ex
   dsimp only[G_]
   have ly:=ry.length
   rw[aac] at ly
   have U0:=(List.getElem?_eq_some_iff.mp eq).1
   have sz:ys.length<sizeLine:=by omega
   have fin:∀H3 v' q',az H2 H3->Rep (cF H3 p) (jx q') v'->F1 q'->oE q q'->(∀w to,q=.bN w to->q'=q)->az H (upd H3 p (.lst (ys++ [v'])))/\∃yG,upd H3 p (.lst (ys++ [v'])) p=some (.lst yG)/\∃b2:List Pl,bf (cF (upd H3 p (.lst (ys++ [v']))) p) (b2.map jx) yG/\b2.length=i+1/\(∀(j:Nat) q',b2[j]?=some q'->F1 q'/\∃q,b[j]?=some q/\oE q q'/\∀w to,q=.bN w to->q'=q):=λH3 v' q' s3 r3 sq sw pk=>by
    refine⟨ba (sm.trans s3) np,_,ar,b'++ [q'],?_,by rw[aaD,Bi];rfl,λj q2 e2=>?_⟩
    ·rw[aax,aat,aa0]
     exact nv (ry.mono (bI s3)) r3
    ·by_cases c:j<b'.length
     ·rw[aaZ c] at e2
      exact xn j q2 e2
     ·rw[aaY (by omega)] at e2
      have:j - b'.length<1:=(List.getElem?_eq_some_iff.mp e2).1
      rw[show j - b'.length=0 by omega] at e2
      cases e2
      rw[show j=i by omega]
      exact⟨sq,q,eq,sw,pk⟩
   have rx:=rq.mono sm
   have pq:=B.ok _ (aae eq)
   cases q with
   | fin w=>
    refine(?_:let G_:Prop:=_;G_)
    intro G_
    obtain⟨t',r,rfl,jh,uC⟩:=cM.mp rx
    dsimp only[G_]
    simp_all only[jh,uC,c8,tBM,eX]
    rw[if_neg (by decide +kernel)]
    have e1:=aaG w.2 (show(20:Int)≠0 by decide)
    have e2:=aaQ w.2 (show(0:Int)<20 by decide)
    have e3:=aaG w.1 (show(100:Int)≠0 by decide)
    have e4:=aaQ w.1 (show(0:Int)<100 by decide)
    refine(?_:let G_:Prop:=_;G_)
    intro G_
    obtain⟨a1,a2,a3⟩:=dH (a:=w.1 % 100 - 50) (b:=1+w.2 % 20) (by omega)
    dsimp only[G_]
    refine⟨by decide,by decide,by omega,Bt.mono (m:=5) (Bt.of 20 (by omega) (by omega)) (by decide),λp1 H3 s3 n3 h3=>⟨.inl ⟨rfl,_,bj.of (s3 _ _ hp)⟩,_,s3 _ _ jh,_,rfl,by decide,λp2 H4 s4 n4 h4=>?_⟩⟩
    have yC:=s3.trans s4
    refine⟨t',_,rfl,d7.of (yC _ _ jh),by show ¬(HT.dA 2 0 (some 2)=0/\HT.dA 2 2 none=2);decide,λp3 n5=>⟨p2,p3,_,_,rfl,rfl,d7.of (au n5 _ _ h4),d7.of ar,by simp,by show 2+0<=sizeLine;decide,(λ_=>?_),λh=>absurd rfl h⟩⟩
    have s5:=au (o:=.tup (iT [V.str (Str.ofString "end"),V.ref r] (some 2) none)) n5
    have JC:=s5 _ _ (yC _ _ hp)
    have GI:p1≠p:=λzz=>by rw[zz,hp] at n3;cases n3
    have Ji:p2≠p:=λzz=>by rw[zz,s3 _ _ hp] at n4;cases n4
    obtain⟨x1,yG,x3,b2,x5,x6,x7⟩:=fin _ (.ref p2) (.fin (Wq.low (w.1 % 100 - 50) (1+w.2 % 20))) (yC.trans s5) (cM.mpr ⟨p2,p1,rfl,by rw[bE Ji];exact s5 _ _ h4,by rw[bE GI];exact s5 _ _ (s4 _ _ h3)⟩) ⟨by omega,by omega,by omega,a3⟩ .fin (λ_ _ h=>by cases h)
    exact⟨_,JC,sz,x1,yG,x3,b2,x5,x6,x7,_,rfl⟩
   | cP w ws=>
    refine(?_:let G_:Prop:=_;G_)
    intro G_
    obtain⟨t',r,l,zs,rfl,jh,uC,qS,rz⟩:=cI.mp rx
    dsimp only[G_]
    simp_all only[jh,uC,c8,tBM,eX]
    rw[if_neg (by decide +kernel)]
    have e1:=aaG w.2 (show(20:Int)≠0 by decide)
    have e2:=aaQ w.2 (show(0:Int)<20 by decide)
    have e3:=aaG w.1 (show(100:Int)≠0 by decide)
    have e4:=aaQ w.1 (show(0:Int)<100 by decide)
    refine(?_:let G_:Prop:=_;G_)
    intro G_
    obtain⟨a1,a2,a3⟩:=dH (a:=w.1 % 100 - 50) (b:=1+w.2 % 20) (by omega)
    obtain⟨t0,r0,l0,Y4,Nd,JE,Y5,E2,Y6⟩:=cI.mp rq
    dsimp only[G_]
    cases Nd
    have el:=(sm _ _ JE).symm.trans jh
    simp at el
    obtain⟨rfl,rfl⟩:=el
    refine⟨by decide,by decide,by omega,Bt.mono (m:=5) (Bt.of 20 (by omega) (by omega)) (by decide),λp1 H3 s3 n3 h3=>⟨.inl ⟨rfl,_,bj.of (s3 _ _ hp)⟩,_,s3 _ _ jh,_,rfl,by decide,λp2 H4 s4 n4 h4=>?_⟩⟩
    have yC:=s3.trans s4
    refine⟨t',_,rfl,d7.of (yC _ _ jh),by show ¬(HT.dA 3 0 (some 2)=0/\HT.dA 3 3 none=3);decide,λp3 n5=>⟨p2,p3,_,_,rfl,rfl,d7.of (au n5 _ _ h4),d7.of ar,by simp,by show 2+1<=sizeLine;decide,(λh=>by cases h),λ_ p4 n6=>?_⟩⟩
    have s5:=au (o:=.tup (iT [V.str (Str.ofString "throw"),V.ref r0,V.ref l0] (some 2) none)) n5
    have s6:=s5.trans (au (o:=.tup ([V.str (Str.ofString "throw"),V.ref p1]++iT [V.str (Str.ofString "throw"),V.ref r0,V.ref l0] (some 2) none)) n6)
    have JC:=s6 _ _ (yC _ _ hp)
    have GI:p1≠p:=λzz=>by rw[zz,hp] at n3;cases n3
    have JZ:p4≠p:=λzz=>by rw[zz,s5 _ _ (yC _ _ hp)] at n6;cases n6
    have sh:=de (sm.trans (yC.trans s6)) np
    obtain⟨x1,yG,x3,b2,x5,x6,x7⟩:=fin _ (.ref p4) (.cP (Wq.low (w.1 % 100 - 50) (1+w.2 % 20)) ws) (yC.trans s6) (cI.mpr ⟨p4,p1,l0,Y4,rfl,by rw[bE JZ,ar];rfl,by rw[bE GI];exact s6 _ _ (s4 _ _ h3),sh _ _ E2,Y6.mono sh⟩) ⟨by omega,by omega,by omega,a3⟩ .cP (λ_ _ h=>by cases h)
    exact⟨_,JC,sz,x1,yG,x3,b2,x5,x6,x7,_,rfl⟩
   | bN w to=>
    refine(?_:let G_:Prop:=_;G_)
    intro G_
    obtain⟨t',l,rfl,jh,qS⟩:=cJ.mp rx
    dsimp only[G_]
    simp_all only[jh,c8,tBM]
    refine(?_:let G_:Prop:=_;G_)
    intro G_
    obtain⟨x1,yG,x3,b2,x5,x6,x7⟩:=fin H2 (.ref t') (.bN w to) (az.refl _) (rq.mono (de sm np)) trivial .bN (λ_ _ h=>rfl)
    dsimp only[G_]
    exact⟨.inl ⟨rfl,_,bj.of hp⟩,_,hp,sz,x1,yG,x3,b2,x5,x6,x7,_,rfl⟩
  ·intro σ H1 bH
   refine(?_:let G_:Prop:=_;G_)
   intro G_
   obtain⟨sm,ys,b',z2,z3,hp,ry,Bi,xn,rfl⟩:=bH
   dsimp only[G_]
   simp_all only[]
   rw[<-lx] at Bi
   refine kk p b' H1 sm np (aO.mpr ⟨p,ys,rfl,hp,ry.mono bO⟩) Bi (xp B l8 Bi (λj q' e=>by obtain⟨_,q,e1,e2,_⟩:=xn j q' e;exact⟨q,e1,e2⟩) λq' hq=>?_) λq' hq=>?_
   ·obtain⟨j,ej⟩:=aaw hq
    refine(?_:let G_:Prop:=_;G_)
    intro G_
    obtain⟨sq,q,e1,e2,e3⟩:=xn j q' ej
    dsimp only[G_]
    have pq:=B.ok q (aae e1)
    rw[Bi]
    cases e2 with
    | fin=>exact A2 sq
    | cP=>exact⟨A2 sq,pq.2⟩
    | bN=>rw[e3 _ _ rfl];exact pq
   ·obtain⟨j,ej⟩:=aaw hq
    exact(xn j q' ej).1
theorem hV:aN ["_law_board_here","_law_by","_law_found","_law_place"] ["_law_board_here","_law_by"] (ae (top 62)):=⟨rfl,rfl,rfl,by decide +kernel,rfl,by decide +kernel,by decide +kernel⟩
theorem GJ (T:Txt K mg aB tc):bS P w K mg base (bK P w) 3 "_law_raised" ["_law_board_here","_law_by"] xt:=by
 have hX:bS P w K mg base (bK P w) 1 "_law_copy" ["_law_board_here"] oC:=Bh T
 have hZ:bS P w K mg base (bK P w) 2 "_law_plus" ["_law_one","_law_other"] ub:=Bg T
 refine T.o5.d9 (λ_ _ _ _ _ _=>eA λ_ _=>rfl) λf fd F=>F.eC hV (λvs H Q E h=>?_) (λcG A outer s H vs Q E hr h=>?_)
 ·obtain⟨_,_,_,_,rfl,_⟩:=h;rfl
 ·refine(?_:let G_:Prop:=_;G_)
  intro G_
  obtain⟨a,y,b,cs,rfl,rb,l8,ry,lc,sm,Y7,kk⟩:=h
  dsimp only[G_]
  clear G_
  have nd:=hV.nd
  refine⟨_,(af (aF (i:=2) nd rfl (Or.inl rfl) (aG hX (hr.mono (by decide)) rfl aA.pass (aa (pv 0) ao (se rfl)) (he:=se rfl) (hpl:=na rfl)))
  (af (cf PassesOwn.never rfl (cR rfl T.z_range (aa (aZ bD (by rfl) T.z_len aaB (aa (pv 0) ao (se rfl)) (he:=se rfl) (hpl:=na rfl)) ao (se rfl))) (aE (i:=3) nd rfl (Or.inl rfl)) (ax (bU (aR cQ (aH aK (aH aJ (pv 0) (pv 3) (λ_ _=>rfl)) ag (λ_ _=>rfl)) cX (aX _)) (ax (dU (bV (aa cX (aa (aG hZ (hr.mono (by decide)) rfl aA.pass (aa (aH aK (aH aJ (pv 0) (pv 3) (λ_ _=>rfl)) ag (λ_ _=>rfl)) (aa (aH aJ (pv 1) (pv 3) (λ_ _=>rfl)) ao (se rfl)) (se rfl)) (he:=se rfl) (hpl:=na rfl)) ao (se rfl)) (se rfl))) (fc (pv 2) (pv 3) set_list)))
   bB)))
  (ax (aQ (pv 2))))),?_⟩
  refine(?_:let cv:TS:=_;let cw:TS:=_;let cy:TS:=_;tSeq cv (tSeq cw cy) _ _ _)
  intro cv cw cy
  have sl:=sizeLine_eq
  refine(?_:let G_:Prop:=_;G_)
  intro G_
  obtain⟨_,xs,e,ha,rl⟩:=aO.mp rb
  dsimp only[G_]
  clear G_
  cases e
  have lx:=rl.length
  rw[aac] at lx
  refine(?_:let G_:Prop:=_;G_)
  intro G_
  obtain⟨_,us,e,hy,ru⟩:=aO.mp ry
  dsimp only[G_]
  clear G_
  cases e
  simp_all only[oC]
  refine⟨b,rb,by omega,λl zs H1 s1 nl hl rz=>?_⟩
  refine⟨xs,s1 _ _ ha,by omega,by omega,bL (src_range (Ok:=λ_=>True))
   (λi σ H'=>az H H'/\∃(ys:List V) (b':List Pl) (z3:Option V),H' l=some (.lst ys)/\bf (cF H' l) (b'.map jx) ys/\b'.length=b.length/\(∀j:Nat,j<i->b'[j]?=(List.zipWith gi cs b)[j]?)/\(∀j:Nat,i<=j->b'[j]?=b[j]?)/\σ=[some (V.ref a),some (V.ref y),some (V.ref l),z3])
   ⟨s1,zs,b,_,hl,rz,rfl,λj h=>absurd h (abc _),λ_ _=>rfl,rfl⟩ (λ_ _ _ _ _=>trivial) ?_ ?_⟩
  ·intro i v σ H1 H2 hi dC dI
   refine(?_:let G_:Prop:=_;G_)
   intro G_
   obtain⟨Bj,ys,b',z3,hp,ry,Bi,o1,o2,rfl⟩:=dC
   obtain⟨rfl,rfl⟩:=dI
   have hi:i<xs.length:=by simpa using hi
   have ex:xs[i]?=some xs[i]:=aad hi
   obtain⟨q,eq,rq⟩:=cZ rl ex
   dsimp only[G_]
   clear G_
   have ly:=ry.length
   rw[aac] at ly
   have NG:=bC ex
   generalize xs[i]=v at *
   have rx:=rq.mono Bj
   have z0:(0:Int)+ (i:Int)=(i:Int):=Int.zero_add _
   obtain⟨c,ec⟩:∃c,cs[i]?=some c:=⟨_,aad (by omega)⟩
   have ez:(List.zipWith gi cs b)[i]?=some (gi c q):=by rw[abl,ec,eq]
   have same:gi c q=q->(∀j:Nat,j<i+1->b'[j]?=(List.zipWith gi cs b)[j]?)/\(∀j:Nat,i+1<=j->b'[j]?=b[j]?):=λe=>⟨λj hj=>by
    by_cases c:j=i
    ·subst c
     rw[o2 j (aah _),eq,ez,e]
    ·exact o1 j (by omega),λj hj=>o2 j (by omega)⟩
   cases q with
   | fin g=>
    refine(?_:let G_:Prop:=_;G_)
    intro G_
    obtain⟨t',r',rfl,jh,uC⟩:=cM.mp rx
    dsimp only[G_]
    simp_all only[Bj _ _ ha,z0,NG,jh,ub]
    refine(?_:let G_:Prop:=_;G_)
    intro G_
    obtain⟨pr,Hh,JS⟩:=cO ru ec
    dsimp only[G_]
    refine⟨us,Bj _ _ hy,_,bC Hh,pr,rfl,g,uC,c,Bj _ _ JS,?_,Y7 c (aae ec),λr2 H3 s3 n3 h3=>⟨by decide,λp1 H4 s4 n4 h4=>?_⟩⟩
    ·have:=A2 (sm (.fin g) (aae eq))
     exact⟨this.1.mono (by decide),this.2.1.mono (by decide),this.2.2.1⟩
    have yC:=s3.trans s4
    have GI:r2≠l:=λz=>by rw[z,hp] at n3;cases n3
    have Ji:p1≠l:=λz=>by rw[z,s3 _ _ hp] at n4;cases n4
    have sh:az (cF H4 l) (cF (upd H4 l (.lst (ys.set i (.ref p1)))) l):=de mi (if_pos rfl)
    refine⟨ys,yC _ _ hp,i,fZ (by omega),ba (Bj.trans yC) nl,_,ar,b'.set i (gi c (.fin g)),?_,by rw[aaT,Bi],λj hj=>?_,λj hj=>?_,_,rfl⟩
    ·rw[List.map_set]
     exact(oK (ry.mono (bI yC)) (cM.mpr ⟨p1,r2,rfl,by rw[bE Ji];exact h4,by rw[bE GI];exact s4 _ _ h3⟩)).mono sh
    ·by_cases cj:i=j
     ·subst cj
      rw[aaW (by omega),ez]
     ·rw[aaH cj]
      exact o1 j (by omega)
    ·rw[aaH (by omega)]
     exact o2 j (by omega)
   | cP g ws=>
    refine(?_:let G_:Prop:=_;G_)
    intro G_
    obtain⟨t',r',l',zs,rfl,jh,uC,qS,rz⟩:=cI.mp rx
    dsimp only[G_]
    simp_all only[Bj _ _ ha,z0,NG,jh]
    rw[if_neg (by decide +kernel)]
    exact⟨Bj,ys,hp,b',ry,Bi,(same rfl).1,(same rfl).2,_,rfl⟩
   | bN who to=>
    refine(?_:let G_:Prop:=_;G_)
    intro G_
    obtain⟨t',l',rfl,jh,qS⟩:=cJ.mp rx
    dsimp only[G_]
    simp_all only[Bj _ _ ha,z0,NG,jh]
    rw[if_neg (by decide +kernel)]
    exact⟨Bj,ys,hp,b',ry,Bi,(same rfl).1,(same rfl).2,_,rfl⟩
  ·intro σ H1 bH
   refine(?_:let G_:Prop:=_;G_)
   intro G_
   obtain⟨Bj,ys,b',z3,hp,ry,Bi,o1,o2,rfl⟩:=bH
   dsimp only[G_]
   simp_all only[]
   have eb:b'=List.zipWith gi cs b:=by
    apply aaN
    intro j
    by_cases hj:j<b.length
    ·exact o1 j (by rw[aai];omega)
    ·rw[aaq (by omega),aaq (by rw[aaV];omega)]
   subst eb
   exact kk l H1 Bj nl (aO.mpr ⟨l,ys,rfl,hp,ry.mono bO⟩)
theorem Bl {α:Type} {x:α} {n:Nat}:(List.replicate n [x]).flatten=List.replicate n x:=by
 induction n with
 | zero=>rfl
 | succ n ih=>rw[abn,List.flatten_cons,ih,abn];rfl
theorem Bo:aN ["_law_script","_law_n","_law_board_here","_law_d","_law_worths","_law_picks_here","_law_more","_law_again","_law_by","_law_some","_law_place"] ["_law_script"] (ae (top 63)):=⟨rfl,rfl,rfl,by decide +kernel,rfl,by decide +kernel,by decide +kernel⟩
theorem GK (T:Txt K mg aB tc) (LB:oY base mg tc tp) {f:Addr} {fd:FuncData} (F:u3 K "law" "law" (top 63) f fd):d8 P w K mg base (bK P w) 8 f fd ["_law_script"] (xm K tp):=by
 have cD:bS P w K mg base (bK P w) 1 "_law_cell" ["_law_script","_law_k"] (C7 K):=xB T
 have aV:bS P w K mg base (bK P w) 1 "_law_mixed" ["_law_cell_here","_law_many"] eW:=oO T
 have rW:bS P w K mg base (bK P w) 3 "_law_board" ["_law_script","_law_at","_law_n"] (D3 K):=GD T
 have hX:bS P w K mg base (bK P w) 1 "_law_copy" ["_law_board_here"] oC:=Bh T
 have rX:bS P w K mg base (bK P w) 2 "_law_small" ["_law_board_here"] A3:=GH T
 have iR:bS P w K mg base (bK P w) 3 "_law_raised" ["_law_board_here","_law_by"] xt:=GJ T
 have cm:bS P w K mg base (bK P w) 1 "_law_low" ["_law_top","_law_bottom"] eX:=oP T
 have kQ:bS P w K mg base (bK P w) 1 "_law_less" ["_law_one","_law_other"] AZ:=Gy T
 have hZ:bS P w K mg base (bK P w) 2 "_law_plus" ["_law_one","_law_other"] ub:=Bg T
 have rY:bS P w K mg base (bK P w) 2 "_law_times" ["_law_one","_law_other"] AM:=Gz T
 have vO:bS P w K mg base (bK P w) 7 "best" ["board"] (ug tp):=JT T LB
 refine F.eC Bo (λvs H Q E h=>?_) (λcG A outer s H vs Q E hr h=>?_)
 ·obtain⟨_,_,rfl,_⟩:=h;rfl
 ·refine(?_:let G_:Prop:=_;G_)
  intro G_
  obtain⟨sa,ns,rfl,kZ,hS,hlen,kk⟩:=h
  dsimp only[G_]
  clear G_
  have nd:=Bo.nd
  refine⟨_,(af (aF (i:=1) nd rfl (Or.inl rfl) (aD bo ag (aD cn (aG cD (hr.mono (by decide)) rfl aA.pass (aa (pv 0) (aa ag ao (se rfl)) (se rfl)) (he:=se rfl) (hpl:=na rfl)) ag)))
  (af (aF (i:=2) nd rfl (Or.inl rfl) (aG rX (hr.mono (by decide)) rfl aA.pass (aa (aG rW (hr.mono (by decide)) rfl aA.pass (aa (pv 0) (aa ag (aa (pv 1) ao (se rfl)) (se rfl)) (se rfl)) (he:=se rfl) (hpl:=na rfl)) ao (se rfl)) (he:=se rfl) (hpl:=na rfl)))
  (af (aF (i:=3) nd rfl (Or.inr rfl) (aG cm (hr.mono (by decide)) rfl aA.pass (aa (aD cn (aG cD (hr.mono (by decide)) rfl aA.pass (aa (pv 0) (aa ag ao (se rfl)) (se rfl)) (he:=se rfl) (hpl:=na rfl)) ag) (aa (aD bo ag (aD cn (aG cD (hr.mono (by decide)) rfl aA.pass (aa (pv 0) (aa ag ao (se rfl)) (se rfl)) (he:=se rfl) (hpl:=na rfl)) ag)) ao (se rfl)) (se rfl)) (he:=se rfl) (hpl:=na rfl)))
  (af (bU (aR cQ (aD cn (aD dq (aG cD (hr.mono (by decide)) rfl aA.pass (aa (pv 0) (aa ag ao (se rfl)) (se rfl)) (he:=se rfl) (hpl:=na rfl)) ag) ag) ag (aX _)) (ax (aF (i:=3) nd rfl (Or.inr rfl) (aG cm (hr.mono (by decide)) rfl aA.pass (aa (aD cn (aG cD (hr.mono (by decide)) rfl aA.pass (aa (pv 0) (aa ag ao (se rfl)) (se rfl)) (he:=se rfl) (hpl:=na rfl)) (aD gL ag ag)) (aa ag ao (se rfl)) (se rfl)) (he:=se rfl) (hpl:=na rfl))))
   bB)
  (af (dU (aG vO (hr.mono (by decide)) rfl aA.pass (aa (aG hX (hr.mono (by decide)) rfl aA.pass (aa (pv 2) ao (se rfl)) (he:=se rfl) (hpl:=na rfl)) ao (se rfl)) (he:=se rfl) (hpl:=na rfl)) (b8 (K:=K) (n:=2) rfl (aT (aE (i:=4) nd rfl (Or.inl rfl)) (aT (aE (i:=5) nd rfl (Or.inl rfl)) bY))))
  (af (dU (aG vO (hr.mono (by decide)) rfl aA.pass (aa (aG iR (hr.mono (by decide)) rfl aA.pass (aa (pv 2) (aa (aD qG (cY (aa (pv 3) ao (se rfl))) (pv 1)) ao (se rfl)) (se rfl)) (he:=se rfl) (hpl:=na rfl)) ao (se rfl)) (he:=se rfl) (hpl:=na rfl)) (b8 (K:=K) (n:=2) rfl (aT (aE (i:=6) nd rfl (Or.inl rfl)) (aT (aE (i:=7) nd rfl (Or.inl rfl)) bY))))
  (af (bU (PW.pt (pw_or (aR (zv hr.units) (pv 6) (bW rfl (N:=["_law_script","_law_n","_law_board_here","_law_d","_law_worths","_law_picks_here","_law_more","_law_again","_law_by","_law_some","_law_place"]) (so:=ae (top 63)) (N':=["_law_one","_law_d"]) (k:=1) (fr:=[3]) rfl rfl ⟨rfl,by decide +kernel,by decide +kernel,by decide +kernel,rfl,by decide +kernel,by decide +kernel⟩ (br (K:=K) (pv 4)) (λ_ _ _ _ _=>(aE (i:=0) (show(["_law_one","_law_d"]:List Str).Nodup by decide +kernel) rfl (Or.inl rfl))) (λ_ _ _ _ _=>bJ)
   (λ_ _ _ _ _=>(aG hZ (hr.mono (by decide)) rfl aA.pass (aa (pv 0) (aa (pv 1) ao (se rfl)) (se rfl)) (he:=se rfl) (hpl:=na rfl)))) (aX _)) (pw_or1 (aR (zv hr.units) (pv 7) (pv 5) (aX _))))) (ax (aQ yN))
   bB)
  (af (eQ (i:=8) rfl nd rfl rfl (N:=["_law_script","_law_n","_law_board_here","_law_d","_law_worths","_law_picks_here","_law_more","_law_again","_law_by","_law_some","_law_place"]) (so:=ae (top 63)) (N':=["_law_place","_law_script","_law_d"]) (k:=1) (fr:=[0,3]) rfl rfl ⟨rfl,by decide +kernel,by decide +kernel,by decide +kernel,rfl,by decide +kernel,by decide +kernel⟩ (cR rfl T.z_range (aa (pv 1) ao (se rfl))) (λ_ _ _ _ _=>(aE (i:=0) (show(["_law_place","_law_script","_law_d"]:List Str).Nodup by decide +kernel) rfl (Or.inl rfl))) (λ_ _ _ _ _=>bJ)
   (λ_ _ _ _ _=>(aG rY (hr.mono (by decide)) rfl aA.pass (aa (pv 2) (aa (aG cm (hr.mono (by decide)) rfl aA.pass (aa (aG aV (hr.mono (by decide)) rfl aA.pass (aa (aD bo (aG cD (hr.mono (by decide)) rfl aA.pass (aa (pv 1) (aa ag ao (se rfl)) (se rfl)) (he:=se rfl) (hpl:=na rfl)) (pv 0)) (aa ag ao (se rfl)) (se rfl)) (he:=se rfl) (hpl:=na rfl)) (aa ag ao (se rfl)) (se rfl)) (he:=se rfl) (hpl:=na rfl)) ao (se rfl)) (se rfl)) (he:=se rfl) (hpl:=na rfl))))
  (af (aF (i:=9) nd rfl (Or.inl rfl) (aH aK (aG vO (hr.mono (by decide)) rfl aA.pass (aa (aG iR (hr.mono (by decide)) rfl aA.pass (aa (pv 2) (aa (pv 8) ao (se rfl)) (se rfl)) (he:=se rfl) (hpl:=na rfl)) ao (se rfl)) (he:=se rfl) (hpl:=na rfl)) ag (λ_ _=>rfl)))
  (af (cf PassesOwn.never rfl (cR rfl T.z_range (aa (pv 1) ao (se rfl))) (aE (i:=10) nd rfl (Or.inl rfl)) (ax (bU (PW.pt (pw_or (qv (aG kQ (hr.mono (by decide)) rfl aA.pass (aa (aH aJ (pv 9) (pv 10) (λ_ _=>rfl)) (aa (aH aJ (pv 4) (pv 10) (λ_ _=>rfl)) ao (se rfl)) (se rfl)) (he:=se rfl) (hpl:=na rfl))) (pw_or1 (qv (aG kQ (hr.mono (by decide)) rfl aA.pass (aa (aH aJ (pv 6) (pv 10) (λ_ _=>rfl)) (aa (aH aJ (pv 9) (pv 10) (λ_ _=>rfl)) ao (se rfl)) (se rfl)) (he:=se rfl) (hpl:=na rfl)))))) (ax (aQ yN))
   bB)))
  (ax (aQ (qy cQ (aZ bD (by rfl) T.z_len aaB (aa (pv 9) ao (se rfl)) (he:=se rfl) (hpl:=na rfl)) (pv 1) (aX _)))))))))))))),?_⟩
  refine(?_:let cv:TS:=_;let cw:TS:=_;let cy:TS:=_;let dR:TS:=_;let jG:TS:=_;let Ba:TS:=_;let Ee:TS:=_;let VM:TS:=_;let VN:TS:=_;let VO:TS:=_;let J0:TS:=_;tSeq cv (tSeq cw (tSeq cy (tSeq dR (tSeq jG (tSeq Ba (tSeq Ee (tSeq VM (tSeq VN (tSeq VO J0))))))))) _ _ _)
  intro cv cw cy dR jG Ba Ee VM VN VO J0
  have sl:=sizeLine_eq
  change tSeq _ _ _ _ _
  refine aP (λσ' H1=>H=H1/\∃n:Nat,0<n/\n<=8/\σ'=[some (.ref sa),some (.int (n:Int)),none,none,none,none,none,none,none,none,none]) ?_ (λN hN=>?_)
  case refine_2=>
   simp_all only[C7]
   exact⟨ns,hS,by decide,by decide,λc=>⟨by decide,hN _ _ ⟨rfl,(1+c % 8).toNat,by omega,by omega,by rw[Int.toNat_of_nonneg (by omega)]⟩⟩⟩
  intro _ _ bH
  refine(?_:let G_:Prop:=_;G_)
  intro G_
  obtain⟨rfl,n,n0,n8,rfl⟩:=bH
  dsimp only[G_]
  clear G_
  change tSeq _ _ _ _ _
  refine aP (λσ' H1=>∃bl b rk,az H H1/\Rep H1 (pT b) (.ref bl)/\b.length=n/\gX b rk/\(∀q∈b,F1 q)/\σ'=[some (.ref sa),some (.int (n:Int)),some (.ref bl),none,none,none,none,none,none,none,none]) ?_ (λN hN=>?_)
  case refine_2=>
   simp_all only[A3]
   exact⟨sa,ns,n,rfl,hS,n0,n8,λl H1 b rk s1 nl rb lb B=>⟨l,rfl,b,rb,rk,B,by omega,λl2 b2 H2 s2 n2 Y8 lb2 B2 Lk=>hN _ _ ⟨l2,b2,rk,s1.trans s2,Y8,by omega,B2,Lk,rfl⟩⟩⟩
  intro _ H1 bH
  refine(?_:let G_:Prop:=_;G_)
  intro G_
  obtain⟨bl,b,rk,s1,rb,lb,B,sm,rfl⟩:=bH
  dsimp only[G_]
  clear G_
  change tSeq _ _ _ _ _
  refine aP (λσ' H2=>∃(dl:Addr) (d:Wq.Sh),az H1 H2/\H2 dl=some (.tup (Pr d.1 d.2))/\d.1.natAbs<=1000000000/\d.2<=9/\Wq.Lw d/\0<=d.1/\σ'=[some (.ref sa),some (.int (n:Int)),some (.ref bl),some (.ref dl),none,none,none,none,none,none,none]) ?_ (λN hN=>?_)
  case refine_2=>
   simp_all only[C7,eX]
   refine⟨ns,s1.seq hS,by decide,by decide,λuD=>⟨by decide,ns,s1.seq hS,by decide,by decide,λGL=>?_⟩⟩
   have e1:=aaG GL (show(9:Int)≠0 by decide)
   have e2:=aaQ GL (show(0:Int)<9 by decide)
   have e3:=aaG uD (show(1000:Int)≠0 by decide)
   have e4:=aaQ uD (show(0:Int)<1000 by decide)
   refine(?_:let G_:Prop:=_;G_)
   intro G_
   obtain⟨a1,a2,a3⟩:=dH (a:=uD % 1000) (b:=1+GL % 9) (by omega)
   dsimp only[G_]
   refine⟨by decide,by omega,Bt.mono (m:=6) (Bt.of 50 (by omega) (by omega)) (by decide),λq H2 s2 n2 h2=>hN _ _ ⟨q,Wq.low (uD % 1000) (1+GL % 9),s2,h2,by omega,by omega,a3,?_,rfl⟩⟩
   rw[show(Wq.low (uD % 1000) (1+GL % 9)).1=uD % 1000 / Nm.g (uD % 1000) (1+GL % 9) from(Nm.m9 (by omega)).1]
   exact Int.ediv_nonneg e3 (Int.le_of_lt (Nm.iF (by omega)))
  intro _ H2 bH
  refine(?_:let G_:Prop:=_;G_)
  intro G_
  obtain⟨dl,d,s2,LH,d1,d2,BK,d0,rfl⟩:=bH
  dsimp only[G_]
  clear G_
  change tSeq _ _ _ _ _
  refine aP (λσ' H3=>∃(dl:Addr) (d:Wq.Sh),az H2 H3/\H3 dl=some (.tup (Pr d.1 d.2))/\d.1.natAbs<=1000000000/\d.2<=9/\Wq.Lw d/\0<=d.1/\σ'=[some (.ref sa),some (.int (n:Int)),some (.ref bl),some (.ref dl),none,none,none,none,none,none,none]) ?_ (λN hN=>?_)
  case refine_2=>
   simp_all only[C7,eX]
   refine⟨ns,(s1.trans s2).seq hS,by decide,by decide,λGL=>⟨eO.lit,by decide,gC (λ_=>?_) (λ_=>hN _ _ ⟨dl,d,az.refl _,LH,d1,d2,BK,d0,rfl⟩)⟩⟩
   refine⟨ns,(s1.trans s2).seq hS,by decide,by decide,λuD=>⟨by decide,by decide,by decide,by decide,by decide,Bt.of 1 (by decide) (by decide),λq H3 s3 n3 h3=>?_⟩⟩
   have e3:=aaG uD (show(10^9:Int)≠0 by decide)
   have e4:=aaQ uD (show(0:Int)<10^9 by decide)
   refine(?_:let G_:Prop:=_;G_)
   intro G_
   obtain⟨a1,a2,a3⟩:=dH (a:=uD % 10^9) (b:=1) (by omega)
   dsimp only[G_]
   refine hN _ _ ⟨q,Wq.low (uD % 10^9) 1,s3,h3,by omega,by omega,a3,?_,rfl⟩
   rw[show(Wq.low (uD % 10^9) 1).1=uD % 10^9 / Nm.g (uD % 10^9) 1 from(Nm.m9 (a:=uD % 10^9) (b:=1) (by decide)).1]
   exact Int.ediv_nonneg e3 (Int.le_of_lt (Nm.iF (by omega)))
  clear LH d1 d2 BK d0
  intro _ H3 bH
  refine(?_:let G_:Prop:=_;G_)
  intro G_
  obtain⟨dl,d,s3,LH,d1,d2,BK,d0,rfl⟩:=bH
  dsimp only[G_]
  clear G_
  change tSeq _ _ _ _ _
  refine aP (λσ' H4=>∃(l1 l2:Addr) (S:Dg.Bk) (ks:List (Option Int)),az H3 H4/\Rep H4 (.lst ((dP S).map bz)) (.ref l1)/\H4 l2=some (.lst (ks.map gD))/\Dg.Sz b.length 1900 S/\(∀p:Nat,p<b.length->gG b p (Dg.val S))/\(∀p q,b[p]?=some q->ks[p]?=some (BG (dP S) p q))/\ks.length=b.length/\σ'=[some (.ref sa),some (.int (n:Int)),some (.ref bl),some (.ref dl),some (.ref l1),some (.ref l2),none,none,none,none,none]) ?_ (λN hN=>?_)
  case refine_2=>
   simp_all only[oC,ug]
   refine⟨b,rb.mono (s2.trans s3),by omega,λl xh H4 s4 n4 h4 r4=>⟨b,aO.mpr ⟨l,xh,rfl,h4,r4.mono bO⟩,rk,B,(s1.trans (s2.trans (s3.trans s4))) _ _ kZ,λt l1 l2 S ks H5 s5 ht n1 n2 r1 h2 z dv bq bp lk=>?_⟩⟩
   refine⟨t,_,rfl,d7.of ht,rfl,?_⟩
   simp_all only[]
   exact hN _ _ ⟨l1,l2,S,ks,s4.trans s5,r1,h2,z.up (by omega),bq,bp,lk,rfl⟩
  intro _ H4 bH
  refine(?_:let G_:Prop:=_;G_)
  intro G_
  obtain⟨l1,l2,S,ks,s4,r1,h2,z,bq,bp,lk,rfl⟩:=bH
  dsimp only[G_]
  clear G_
  have lS:(dP S).length=b.length:=by unfold dP;rw[aac,z.len]
  have VP:∀x∈dP S,Rm x:=λx hx=>(gc z x hx).rm z.pos (z.bb.mono (by decide)) (Int.pow_nonneg (by decide)) (by unfold Bt;decide +kernel)
  have LI:=s2.trans (s3.trans s4)
  have NH:Dd d:=⟨by omega,by omega,BK.1⟩
  have GN:=s4 _ _ LH
  change tSeq _ _ _ _ _
  refine aP (λσ' H5=>∃(m1 m2:Addr) (S':Dg.Bk),az H4 H5/\Rep H5 (.lst ((dP S').map bz)) (.ref m1)/\H5 m2=some (.lst (ks.map gD))/\Dg.Sz b.length 1900 S'/\dP S'=(dP S).map (λw=>Wq.pl w d)/\(∀p:Nat,p<b.length->gG (List.zipWith gi (List.replicate n d) b) p (Dg.val S'))/\σ'=[some (.ref sa),some (.int (n:Int)),some (.ref bl),some (.ref dl),some (.ref l1),some (.ref l2),some (.ref m1),some (.ref m2),none,none,none]) ?_ (λN hN=>?_)
  case refine_2=>
   simp_all only[xt,ug]
   refine⟨by decide,λp np=>?_⟩
   simp only[y8]
   refine⟨p,_,_,rfl,rfl,ar,by omega,by omega,by rw[aai];show 1*n<=_;omega,λp1 GI=>⟨p1,rfl,?_⟩⟩
   have sA:=(au (o:=.lst [V.ref dl]) np).trans (au (o:=.lst (List.replicate (n:Int).toNat [V.ref dl]).flatten) GI)
   have Lh:upd (upd H4 p (.lst [V.ref dl])) p1 (.lst (List.replicate (n:Int).toNat [V.ref dl]).flatten) p1=some (.lst (List.replicate n (V.ref dl))):=by
    rw[ar,aai]
    rw[Bl]
   generalize upd (upd H4 p (.lst [V.ref dl])) p1 (.lst (List.replicate (n:Int).toNat [V.ref dl]).flatten)=HA at *
   have lr:(List.replicate n d).length=b.length:=by rw[aaR,lb]
   have VQ:∀c∈List.replicate n d,Dd c:=λc hc=>by rw[abz hc];exact NH
   have B':=D8 B (by omega) sm lr VQ
   refine⟨b,rb.mono (LI.trans sA),by omega,List.replicate n d,aO.mpr ⟨p1,_,rfl,Lh,c4 (by rw[aaR,aaR]) λi y ey a ea=>?_⟩,lr,sm,λc hc=>(VQ c hc).rm,λl HB sB nB rB=>⟨_,rB,rk,B',(s1.trans (LI.trans (sA.trans sB))) _ _ kZ,λt m1 m2 S' dm HC sC ht n1 n2 LG uz z' dv' Hj VR Lg=>⟨t,_,rfl,d7.of ht,rfl,?_⟩⟩⟩
   ·rw[abz (aae ey),abz (aae ea)]
    exact bP.mpr ⟨dl,rfl,sA _ _ GN⟩
   simp_all only[]
   have lz:(List.zipWith gi (List.replicate n d) b).length=b.length:=by rw[rQ lb,aac]
   have eS:dP S'=(dP S).map (λw=>Wq.pl w d):=by
    rw[rQ lb] at B' z' Hj
    exact IW B B' BK.1 z z' bq Hj
   have eK:dm=ks:=by
    rw[rQ lb] at VR Lg
    exact F5 B BK.1 z eS bp VR lk Lg
   subst eK
   rw[lz] at z' Hj
   exact hN _ _ ⟨m1,m2,S',sA.trans (sB.trans sC),LG,uz,z'.up (by omega),eS,Hj,rfl⟩
  intro _ H5 bH
  refine(?_:let G_:Prop:=_;G_)
  intro G_
  obtain⟨m1,m2,S',s5,NI,Y9,z',eS,Hj,rfl⟩:=bH
  dsimp only[G_]
  clear G_
  change tSeq _ _ _ _ _
  refine aP (λσ' H6=>az H5 H6/\σ'=[some (.ref sa),some (.int (n:Int)),some (.ref bl),some (.ref dl),some (.ref l1),some (.ref l2),some (.ref m1),some (.ref m2),none,none,none]) ?_ (λN hN=>?_)
  case refine_2=>
   simp_all only[]
   refine(?_:let G_:Prop:=_;G_)
   intro G_
   obtain⟨_,xw,e,JI,Ge⟩:=aO.mp (r1.mono s5)
   dsimp only[G_]
   clear G_
   cases e
   have Za:=Ge.length
   rw[aac,lS] at Za
   refine⟨⟨_,bj.of JI⟩,?_⟩
   refine comp_map (src_list (K:=K) (a:=l1) (Ok:=az H5) (λH' s'=>bj.of (s' _ _ JI))) (λ_ _ _ _ h=>by rw[h.1];exact az.refl _) (by omega) (λi y H4=>∀x,(dP S)[i]?=some x->Rep H4 (bz (Wq.pl x d)) y) (λi y H4 H5 s5 h g e=>(h g e).mono s5) ?_ ?_
   ·rintro i v0 w0 H6 H7 Q2 hi s6 ⟨rfl,ex⟩ kq
    obtain⟨x,NJ⟩:∃x,(dP S)[i]?=some x:=⟨_,aad (by omega)⟩
    refine(?_:let G_:Prop:=_;G_)
    intro G_
    obtain⟨pr,Hh,JS⟩:=cO Ge NJ
    dsimp only[G_]
    rw[ex] at Hh
    cases Hh
    simp_all only[ub]
    exact⟨x,s6 _ _ JS,d,(s5.trans s6) _ _ GN,VP x (aae NJ),NH.rm,λr H8 s8 n8 h8=>kq _ _ s8 λx' e'=>by rw[NJ] at e';cases e';exact bP.mpr ⟨r,rfl,h8⟩⟩
   ·intro ys H6 s6 ly hy D n6 n7
    simp_all only[Ik]
    have sD:=au (o:=.lst ys) n7
    have hD:upd H6 D (.lst ys) D=some (.lst ys):=ar
    generalize upd H6 D (.lst ys)=H7 at *
    have Eh:=s6.trans sD
    rw[eS] at NI
    refine⟨_,NI.mono Eh,aO.mpr ⟨D,ys,rfl,hD,c4 (by rw[aac];omega) λi y ey a ea=>by
     rw[aag] at ea
     refine(?_:let G_:Prop:=_;G_)
     intro G_
     obtain⟨x,ex,rfl⟩:=Option.map_eq_some_iff.mp ea
     dsimp only[G_]
     exact(hy i y ey x ex).mono sD⟩,⟨_,rfl⟩,sZ _,?_⟩
    rw[if_neg aaz]
    refine⟨_,wC (Eh _ _ Y9),wC ((s5.trans Eh) _ _ h2),⟨_,rfl⟩,yo _,?_⟩
    rw[if_neg aaz]
    exact hN _ _ ⟨Eh,rfl⟩
  rintro _ H6 ⟨s6,rfl⟩
  change tSeq _ _ _ _ _
  refine aP (λσ' H7=>∃(yl:Addr) (cs:List Wq.Sh),az H6 H7/\Rep H7 (.lst (cs.map bz)) (.ref yl)/\cs.length=n/\(∀c∈cs,Dd c/\0<=Dg.vl c/\Dg.vl c<=Dg.vl d)/\σ'=[some (.ref sa),some (.int (n:Int)),some (.ref bl),some (.ref dl),some (.ref l1),some (.ref l2),some (.ref m1),some (.ref m2),some (.ref yl),none,none]) ?_ (λN hN=>?_)
  case refine_2=>
   simp_all only[]
   have VS:=s5.trans s6
   refine⟨by omega,by omega,comp_map src_range (λ_ _ _ _ h=>by rw[h.1];exact az.refl _) (by rw[sizeLine_eq];omega) (λi y H4=>∃c,Rep H4 (bz c) y/\Dd c/\0<=Dg.vl c/\Dg.vl c<=Dg.vl d) (λi y H4 H5 s5 ⟨c,r,h⟩=>⟨c,r.mono s5,h⟩) ?_ ?_⟩
   ·rintro i v0 w0 H7 H8 Q2 hi s7 ⟨rfl,rfl⟩ kq
    simp_all only[C7,eW,eX,AM]
    refine⟨ns,(s1.trans (LI.trans (VS.trans s7))).seq hS,by decide,by decide,λc13=>⟨by decide,λk k0 k5=>⟨by decide,Bt.of 4 (by decide) (by decide),λp H9 s9 n9 h9=>?_⟩⟩⟩
    refine(?_:let G_:Prop:=_;G_)
    intro G_
    obtain⟨a1,a2,a3⟩:=dH (a:=k) (b:=4) (by decide)
    dsimp only[G_]
    have ap:=a3.1
    have hk:Dd (Wq.low k 4):=⟨by omega,by omega,ap⟩
    refine⟨d,(VS.trans (s7.trans s9)) _ _ GN,Wq.low k 4,h9,NH.rm,hk.rm,λr HA sA nA hA=>kq _ _ (s9.trans sA) ⟨Wq.tm d (Wq.low k 4),bP.mpr ⟨r,rfl,hA⟩,?_,?_⟩⟩
    ·refine(?_:let G_:Prop:=_;G_)
     intro G_
     obtain⟨t1,t2,t3⟩:=dH (a:=d.1* (Wq.low k 4).1) (b:=d.2* (Wq.low k 4).2) (aa7 BK.1 ap)
     dsimp only[G_]
     have m1:(d.1* (Wq.low k 4).1).natAbs<=1000000000*4:=by rw[aaL];exact abi d1 (by omega)
     have m2:d.2* (Wq.low k 4).2<=9*4:=Int.mul_le_mul d2 a2 (by omega) (by decide)
     exact⟨aap t1 m1,Int.le_trans t2 m2,t3.1⟩
    ·rw[Dg.IE BK.1 ap,Dg.rF (by decide)]
     have p0:=IT d0 BK.1
     exact IZ p0 k0 (by omega)
   ·intro ys H7 s7 ly hy D n7 n8
    have ly:ys.length=n:=by simpa using ly
    refine(?_:let G_:Prop:=_;G_)
    intro G_
    obtain⟨cs,rc,lc,pc⟩:=xl (f:=bz) (P:=λ_ c=>Dd c/\0<=Dg.vl c/\Dg.vl c<=Dg.vl d) (H:=H7) (xs:=ys) λj x ex=>hy j x ex
    dsimp only[G_]
    have sD:=au (o:=.lst ys) n8
    exact hN _ _ ⟨D,cs,s7.trans sD,aO.mpr ⟨D,ys,rfl,ar,rc.mono sD⟩,by omega,λc hc=>by
     obtain⟨j,ej⟩:=aaw hc
     exact pc j c ej,rfl⟩
  intro _ H7 bH
  refine(?_:let G_:Prop:=_;G_)
  intro G_
  obtain⟨yl,cs,s7,Zb,lcs,DH,rfl⟩:=bH
  dsimp only[G_]
  change tSeq _ _ _ _ _
  refine aP (λσ' H8=>∃(GR:Addr) (S2:Dg.Bk),az H7 H8/\Rep H8 (.lst ((dP S2).map bz)) (.ref GR)/\Dg.Sz b.length 1900 S2/\(∀p:Nat,p<b.length->Dg.val S (p:Int)<=Dg.val S2 (p:Int)/\Dg.val S2 (p:Int)<=Dg.val S' (p:Int))/\σ'=[some (.ref sa),some (.int (n:Int)),some (.ref bl),some (.ref dl),some (.ref l1),some (.ref l2),some (.ref m1),some (.ref m2),some (.ref yl),some (.ref GR),none]) ?_ (λN hN=>?_)
  case refine_2=>
   simp_all only[xt,ug]
   have VT:=LI.trans (s5.trans (s6.trans s7))
   have B2:=D8 B (by omega) sm (by omega) λc hc=>(DH c hc).1
   have Zc:(List.zipWith gi cs b).length=b.length:=by rw[aaV];omega
   refine⟨b,rb.mono VT,by omega,cs,Zb,by omega,sm,λc hc=>(DH c hc).1.rm,λl H8 s8 n8 r8=>⟨_,r8,rk,B2,(s1.trans (VT.trans s8)) _ _ kZ,λt q1 q2 S2 VC H9 s9 ht n1 n2 LG uz z2 dv2 VU bp2 lk2=>⟨_,ht,_,rfl,hN _ _ ⟨q1,S2,s8.trans s9,LG,?_,λp hp=>⟨?_,?_⟩,rfl⟩⟩⟩⟩
   ·rw[Zc] at z2
    exact z2.up (by omega)
   ·exact F6 B (by omega) (λc hc=>⟨(DH c hc).1.2.2,(DH c hc).2.1⟩) bq VU p hp
   ·refine IX (cs':=List.replicate n d) B2 (λq hq=>(iu (B.ok q hq)).2.2.1) (by omega) (by rw[aaR,lb]) (λp c c' e1 e2=>?_) VU (λp hp=>Hj p (by rw[rQ lb,aac] at hp;exact hp)) p hp
    rw[abz (aae e2)]
    have:=DH c (aae e1)
    exact⟨this.1.2.2,BK.1,this.2.2⟩
  intro _ H8 bH
  refine(?_:let G_:Prop:=_;G_)
  intro G_
  obtain⟨GR,S2,s8,Zd,z2,le,rfl⟩:=bH
  dsimp only[G_]
  simp_all only[]
  refine(?_:let G_:Prop:=_;G_)
  intro G_
  obtain⟨_,x1,e,Ze,Ge⟩:=aO.mp (r1.mono (s5.trans (s6.trans (s7.trans s8))))
  dsimp only[G_]
  cases e
  refine(?_:let G_:Prop:=_;G_)
  intro G_
  obtain⟨_,x2,e,uz,Zf⟩:=aO.mp (NI.mono (s6.trans (s7.trans s8)))
  dsimp only[G_]
  cases e
  refine(?_:let G_:Prop:=_;G_)
  intro G_
  obtain⟨_,x3,e,VW,VX⟩:=aO.mp Zd
  dsimp only[G_]
  cases e
  have l3:=VX.length
  rw[aac] at l3
  have lS2:(dP S2).length=b.length:=by unfold dP;rw[aac,z2.len]
  have J1:∀x∈dP S2,Rm x:=λx hx=>(gc z2 x hx).rm z2.pos (z2.bb.mono (by decide)) (Int.pow_nonneg (by decide)) (by unfold Bt;decide +kernel)
  have NK:∀x∈dP S',Rm x:=λx hx=>(gc z' x hx).rm z'.pos (z'.bb.mono (by decide)) (Int.pow_nonneg (by decide)) (by unfold Bt;decide +kernel)
  refine⟨by omega,by omega,bL (src_range (Ok:=λ_=>True))
   (λi σ H'=>H'=H8/\∃pd,σ=[some (V.ref sa),some (V.int (n:Int)),some (V.ref bl),some (V.ref dl),some (V.ref l1),some (V.ref l2),some (V.ref m1),some (V.ref m2),some (V.ref yl),some (V.ref GR),pd])
   ⟨rfl,_,rfl⟩ (λ_ _ _ _ _=>trivial) ?_ ?_⟩
  ·intro i v σ H9 BJ hi dC dI
   refine(?_:let G_:Prop:=_;G_)
   intro G_
   obtain⟨rfl,pd,rfl⟩:=dC
   obtain⟨rfl,rfl⟩:=dI
   have hi:i<n:=by simpa using hi
   have z0:(0:Int)+ (i:Int)=(i:Int):=Int.zero_add _
   obtain⟨a1,a2,a3⟩:=kj z (q:=(i:Int)) (by omega) (by omega)
   obtain⟨b1,b2,b3⟩:=kj z' (q:=(i:Int)) (by omega) (by omega)
   obtain⟨c1,c2,c3⟩:=kj z2 (q:=(i:Int)) (by omega) (by omega)
   rw[aai] at a1 b1 c1
   obtain⟨p1,Zg,Lh⟩:=cO Ge a1
   obtain⟨p2,Zh,pN⟩:=cO Zf b1
   obtain⟨p3,Zi,JY⟩:=cO VX c1
   obtain⟨MV,MW⟩:=le i (by omega)
   dsimp only[G_]
   simp_all only[AZ,z0,Ze,uz,VW,bC Zg,bC Zh,bC Zi]
   have nl:∀{x y:Wq.Sh},0<x.2->0<y.2->Dg.vl y<=Dg.vl x->¬Wq.wB x y=true:=λhx hy l z=>Rat.not_lt.mpr l ((AY hx hy).mp z)
   refine⟨_,JY,_,Lh,J1 _ (aae c1),VP _ (aae a1),?_⟩
   rw[if_neg (nl c2.1.1 a2.1.1 (by rw[a3,c3];exact MV))]
   refine⟨_,pN,_,JY,NK _ (aae b1),J1 _ (aae c1),?_⟩
   rw[if_neg (nl b2.1.1 c2.1.1 (by rw[b3,c3];exact MW))]
   exact⟨_,rfl⟩
  ·intro σ H9 bH
   refine(?_:let G_:Prop:=_;G_)
   intro G_
   obtain⟨rfl,pd,rfl⟩:=bH
   dsimp only[G_]
   simp_all only[VW]
   rw[decide_eq_true (by omega)]
   exact kk _
end
theorem all_mk {l:PySem.W.OpenLaw} {w:World} {K:PySem.W.Frag} {h:Heap} {mg:Str->Option Value} {fa:Addr} (X:K.In h) (G:h.Ns mainGlobals mg) (Zj:mg "law"=some (.ref fa))
  {f0:Addr} {Zk Zl:Option Addr} {Zm:Array (Option Value)} {Zn Zo Zp Zq VY Zr:Value} {f1:Addr} {Zs Zt:Option Addr} {Zu:Array (Option Value)} {Zv Zw Zx Zy VZ Zz:Value} {f2:Addr} {ZA ZC:Option Addr} {KO:Array (Option Value)} {ZD ZE ZF M4 V0 ZG:Value} {f3:Addr} {ZH ZI:Option Addr} {ZJ:Array (Option Value)} {ZK ZL ZM ZN V3 ZO:Value} {f4:Addr} {ZP ZQ:Option Addr} {ZR:Array (Option Value)} {ZS ZT ZU ZV V4 ZW:Value} {f5:Addr} {ZX ZY:Option Addr} {ZZ:Array (Option Value)} {Z1 Z2 Z3 Z4 V5 Z5:Value} {f6:Addr} {Z6 Z7:Option Addr} {Z8:Array (Option Value)} {Z9 kV6 dc6 pm6 V6 ct6:Value} {f7:Addr} {od7 an7:Option Addr} {sl7:Array (Option Value)} {oc7 kV7 dc7 pm7 V7 ct7:Value} {f8:Addr} {od8 an8:Option Addr} {sl8:Array (Option Value)} {oc8 kV8 dc8 pm8 V8 ct8:Value} {f9:Addr} {od9 an9:Option Addr} {sl9:Array (Option Value)} {oc9 kV9 dc9 pm9 V9 ct9:Value} {NL:Addr} {NM NN:Option Addr} {NO:Array (Option Value)} {NP NQ NR NS J2 NT:Value} {NU:Addr} {NV NW:Option Addr} {NX:Array (Option Value)} {NY NZ N0 N2 J3 N4:Value} {N5:Addr} {N6 N7:Option Addr} {N8:Array (Option Value)} {N9 Oa Ob Oc J4 Od:Value} {Oe:Addr} {Of Og:Option Addr} {Oh:Array (Option Value)} {Oi Oj Ol Om J5 Oo:Value} {Oq:Addr} {Ot Ou:Option Addr} {Ov:Array (Option Value)} {Ow Ox Oy Oz OA:Value} {OB:Addr} {OC OD:Option Addr} {OE:Array (Option Value)} {OF OG OH OI J6 OJ:Value} {OK:Addr} {OL OM:Option Addr} {ON:Array (Option Value)} {OO OP OQ OR J7 OS:Value} {OT:Addr} {OU OV:Option Addr} {OW:Array (Option Value)} {OX OY OZ O0 J8 O1:Value} {O2:Addr} {O3 O4:Option Addr} {O5:Array (Option Value)} {O6 O7 O8 O9 J9 Pa:Value} {Pb:Addr} {Pc Pd:Option Addr} {Pe:Array (Option Value)} {Pf Pg Ph Pj Ka Pk:Value} {Pn:Addr} {Po Pp:Option Addr} {Pq:Array (Option Value)} {Pt Pu Pw Px Kb Py:Value} {Pz:Addr} {PB PD:Option Addr} {PF:Array (Option Value)} {PJ PK PL PM Kc PN:Value} {PQ:Addr} {PR PU:Option Addr} {PV:Array (Option Value)} {PX PY PZ P0 Kd P1:Value} {P2:Addr} {P4 P5:Option Addr} {P6:Array (Option Value)} {P7 P8 P9 Qa Kf Qb:Value} {Qc:Addr} {Qd Qe:Option Addr} {Qf:Array (Option Value)} {Qg Qh Qi Qj Kg Qk:Value} {Ql:Addr} {Qm Qn:Option Addr} {Qo:Array (Option Value)} {Qp Qq Qr Qs Kh Qt:Value} {Qu:Addr} {Qv Qw:Option Addr} {Qx:Array (Option Value)} {Qy Qz QA QB Ki QC:Value} {QD:Addr} {QE QF:Option Addr} {QG:Array (Option Value)} {QH QI QJ QK Kj QL:Value} {QM:Addr} {QN QO:Option Addr} {QP:Array (Option Value)} {QR QS QT QU Kk QV:Value} {QW:Addr} {QX QY:Option Addr} {QZ:Array (Option Value)} {Q0 Q4 Q5 Q6 Kl Q8:Value} {Ra:Addr} {Rb Rc:Option Addr} {Rf:Array (Option Value)} {Rg Rh Ri Rj Km Rk:Value} {Rl:Addr} {Rn Ro:Option Addr} {Rp:Array (Option Value)} {Rq Rr Rt Ru Kn Rv:Value} {Rx:Addr} {Ry Rz:Option Addr} {RA:Array (Option Value)} {RB RC RD RE Ko RF:Value} {RG:Addr} {RH RI:Option Addr} {RJ:Array (Option Value)} {RK RL RM RN Kp RO:Value} {RP:Addr} {RQ RS:Option Addr} {RT:Array (Option Value)} {RU RV RW RX Kq RY:Value} {RZ:Addr} {R1 R3:Option Addr} {R4:Array (Option Value)} {R5 R6 R7 R8 Kr R9:Value} {Sa:Addr} {Sb Sd:Option Addr} {Se:Array (Option Value)} {Sf Sg Si Sj Ks Sk:Value} {Sl:Addr} {Sm Sn:Option Addr} {So:Array (Option Value)} {Sr Ss Su Sv Kt Sw:Value} {Sx:Addr} {Sy SA:Option Addr} {SD:Array (Option Value)} {SE SF SG SH Ku SI:Value} {SJ:Addr} {SK SM:Option Addr} {SN:Array (Option Value)} {SO SQ SR SS Kv SU:Value} {SV:Addr} {SW SX:Option Addr} {SY:Array (Option Value)} {S1 S3 S4 S5 Kw S6:Value} {S7:Addr} {S8 S9:Option Addr} {Ta:Array (Option Value)} {Tb Tc Td Te Kx Tf:Value} {Tg:Addr} {Th Ti:Option Addr} {Tj:Array (Option Value)} {Tn To Tp Tq Ky Tr:Value} {Ts:Addr} {Tt Tu:Option Addr} {Tv:Array (Option Value)} {Tw Tx Tz TB Kz TC:Value} {TF:Addr} {TH TK:Option Addr} {TL:Array (Option Value)} {TM TN TQ TR KA TU:Value} {TV:Addr} {TX TY:Option Addr} {TZ:Array (Option Value)} {T1 T3 T4 T5 KC T6:Value} {oQ:Tok} {ph:Tok} {aB tc tp:Addr} {mH:Addr} {Bp Bq:Option Addr} {Br:Array (Option Value)} {Bs Bu Bv Bw ux Bx:Value} {cW:Addr} {i8 i9:Option Addr} {ja:Array (Option Value)} {jb jc jd je eM jf:Value} {dz:Addr} {lN lO:Option Addr} {lP:Array (Option Value)} {lQ lU lV lX gw lY:Value}
  (a0:PySem.W.nsIn K mainGlobals "goals"=some (some (.ref f0))) (l0:K.lookup f0=some ⟨Zn,Zk,.func (PySem.W.fnOf "goals" "goals" (aM (top 1)) (aL (top 1)) (ae (top 1)) .none Zo Zp Zq Zl VY Zr),Zm⟩) (e0:PySem.W.codeIn K VY "goals"=true) (k0:PySem.W.keepIn K (.ref f0)=true)
  (a1:PySem.W.nsIn K mainGlobals "is_ready"=some (some (.ref f1))) (l1:K.lookup f1=some ⟨Zv,Zs,.func (PySem.W.fnOf "is_ready" "is_ready" (aM (top 2)) (aL (top 2)) (ae (top 2)) .none Zw Zx Zy Zt VZ Zz),Zu⟩) (e1:PySem.W.codeIn K VZ "is_ready"=true) (k1:PySem.W.keepIn K (.ref f1)=true)
  (a2:PySem.W.nsIn K mainGlobals "ready_places"=some (some (.ref f2))) (l2:K.lookup f2=some ⟨ZD,ZA,.func (PySem.W.fnOf "ready_places" "ready_places" (aM (top 3)) (aL (top 3)) (ae (top 3)) .none ZE ZF M4 ZC V0 ZG),KO⟩) (e2:PySem.W.codeIn K V0 "ready_places"=true) (k2:PySem.W.keepIn K (.ref f2)=true)
  (a3:PySem.W.nsIn K mainGlobals "levels"=some (some (.ref f3))) (l3:K.lookup f3=some ⟨ZK,ZH,.func (PySem.W.fnOf "levels" "levels" (aM (top 4)) (aL (top 4)) (ae (top 4)) .none ZL ZM ZN ZI V3 ZO),ZJ⟩) (e3:PySem.W.codeIn K V3 "levels"=true) (k3:PySem.W.keepIn K (.ref f3)=true)
  (a4:PySem.W.nsIn K mainGlobals "ring"=some (some (.ref f4))) (l4:K.lookup f4=some ⟨ZS,ZP,.func (PySem.W.fnOf "ring" "ring" (aM (top 5)) (aL (top 5)) (ae (top 5)) .none ZT ZU ZV ZQ V4 ZW),ZR⟩) (e4:PySem.W.codeIn K V4 "ring"=true) (k4:PySem.W.keepIn K (.ref f4)=true)
  (a5:PySem.W.nsIn K mainGlobals "common_divisor"=some (some (.ref f5))) (l5:K.lookup f5=some ⟨Z1,ZX,.func (PySem.W.fnOf "common_divisor" "common_divisor" (aM (top 12)) (aL (top 12)) (ae (top 12)) .none Z2 Z3 Z4 ZY V5 Z5),ZZ⟩) (e5:PySem.W.codeIn K V5 "common_divisor"=true) (k5:PySem.W.keepIn K (.ref f5)=true)
  (a6:PySem.W.nsIn K mainGlobals "share"=some (some (.ref f6))) (l6:K.lookup f6=some ⟨Z9,Z6,.func (PySem.W.fnOf "share" "share" (aM (top 13)) (aL (top 13)) (ae (top 13)) .none kV6 dc6 pm6 Z7 V6 ct6),Z8⟩) (e6:PySem.W.codeIn K V6 "share"=true) (k6:PySem.W.keepIn K (.ref f6)=true)
  (a7:PySem.W.nsIn K mainGlobals "common_bottom"=some (some (.ref f7))) (l7:K.lookup f7=some ⟨oc7,od7,.func (PySem.W.fnOf "common_bottom" "common_bottom" (aM (top 14)) (aL (top 14)) (ae (top 14)) .none kV7 dc7 pm7 an7 V7 ct7),sl7⟩) (e7:PySem.W.codeIn K V7 "common_bottom"=true) (k7:PySem.W.keepIn K (.ref f7)=true)
  (a8:PySem.W.nsIn K mainGlobals "row_with_head"=some (some (.ref f8))) (l8:K.lookup f8=some ⟨oc8,od8,.func (PySem.W.fnOf "row_with_head" "row_with_head" (aM (top 16)) (aL (top 16)) (ae (top 16)) .none kV8 dc8 pm8 an8 V8 ct8),sl8⟩) (e8:PySem.W.codeIn K V8 "row_with_head"=true) (k8:PySem.W.keepIn K (.ref f8)=true)
  (a9:PySem.W.nsIn K mainGlobals "swapped"=some (some (.ref f9))) (l9:K.lookup f9=some ⟨oc9,od9,.func (PySem.W.fnOf "swapped" "swapped" (aM (top 17)) (aL (top 17)) (ae (top 17)) .none kV9 dc9 pm9 an9 V9 ct9),sl9⟩) (e9:PySem.W.codeIn K V9 "swapped"=true) (k9:PySem.W.keepIn K (.ref f9)=true)
  (a10:PySem.W.nsIn K mainGlobals "without_first_column"=some (some (.ref NL))) (l10:K.lookup NL=some ⟨NP,NM,.func (PySem.W.fnOf "without_first_column" "without_first_column" (aM (top 18)) (aL (top 18)) (ae (top 18)) .none NQ NR NS NN J2 NT),NO⟩) (e10:PySem.W.codeIn K J2 "without_first_column"=true) (k10:PySem.W.keepIn K (.ref NL)=true)
  (a11:PySem.W.nsIn K mainGlobals "swept"=some (some (.ref NU))) (l11:K.lookup NU=some ⟨NY,NV,.func (PySem.W.fnOf "swept" "swept" (aM (top 19)) (aL (top 19)) (ae (top 19)) .none NZ N0 N2 NW J3 N4),NX⟩) (e11:PySem.W.codeIn K J3 "swept"=true) (k11:PySem.W.keepIn K (.ref NU)=true)
  (a12:PySem.W.nsIn K mainGlobals "whole_answers"=some (some (.ref N5))) (l12:K.lookup N5=some ⟨N9,N6,.func (PySem.W.fnOf "whole_answers" "whole_answers" (aM (top 20)) (aL (top 20)) (ae (top 20)) .none Oa Ob Oc N7 J4 Od),N8⟩) (e12:PySem.W.codeIn K J4 "whole_answers"=true) (k12:PySem.W.keepIn K (.ref N5)=true)
  (a13:PySem.W.nsIn K mainGlobals "steps_from"=some (some (.ref Oe))) (l13:K.lookup Oe=some ⟨Oi,Of,.func (PySem.W.fnOf "steps_from" "steps_from" (aM (top 22)) (aL (top 22)) (ae (top 22)) .none Oj Ol Om Og J5 Oo),Oh⟩) (e13:PySem.W.codeIn K J5 "steps_from"=true) (k13:PySem.W.keepIn K (.ref Oe)=true)
  (a14:PySem.W.nsIn K mainGlobals "parts"=some (some (.ref Oq))) (l14:K.lookup Oq=some ⟨Ow,Ot,.func (PySem.W.fnOf "parts" "parts" (aM (top 23)) (aL (top 23)) (ae (top 23)) .none Ox Oy Oz Ou (Value.ref tc) OA),Ov⟩) (e14:PySem.W.codeIn K (Value.ref tc) "parts"=true) (k14:PySem.W.keepIn K (.ref Oq)=true)
  (a15:PySem.W.nsIn K mainGlobals "ways_of_picks"=some (some (.ref OB))) (l15:K.lookup OB=some ⟨OF,OC,.func (PySem.W.fnOf "ways_of_picks" "ways_of_picks" (aM (top 27)) (aL (top 27)) (ae (top 27)) .none OG OH OI OD J6 OJ),OE⟩) (e15:PySem.W.codeIn K J6 "ways_of_picks"=true) (k15:PySem.W.keepIn K (.ref OB)=true)
  (a16:PySem.W.nsIn K mainGlobals "checked_parts"=some (some (.ref OK))) (l16:K.lookup OK=some ⟨OO,OL,.func (PySem.W.fnOf "checked_parts" "checked_parts" (aM (top 28)) (aL (top 28)) (ae (top 28)) .none OP OQ OR OM J7 OS),ON⟩) (e16:PySem.W.codeIn K J7 "checked_parts"=true) (k16:PySem.W.keepIn K (.ref OK)=true)
  (a17:PySem.W.nsIn K mainGlobals "weighted_ways"=some (some (.ref OT))) (l17:K.lookup OT=some ⟨OX,OU,.func (PySem.W.fnOf "weighted_ways" "weighted_ways" (aM (top 29)) (aL (top 29)) (ae (top 29)) .none OY OZ O0 OV J8 O1),OW⟩) (e17:PySem.W.codeIn K J8 "weighted_ways"=true) (k17:PySem.W.keepIn K (.ref OT)=true)
  (a18:PySem.W.nsIn K mainGlobals "all_weighted_ways"=some (some (.ref O2))) (l18:K.lookup O2=some ⟨O6,O3,.func (PySem.W.fnOf "all_weighted_ways" "all_weighted_ways" (aM (top 30)) (aL (top 30)) (ae (top 30)) .none O7 O8 O9 O4 J9 Pa),O5⟩) (e18:PySem.W.codeIn K J9 "all_weighted_ways"=true) (k18:PySem.W.keepIn K (.ref O2)=true)
  (a19:PySem.W.nsIn K mainGlobals "total_weight"=some (some (.ref Pb))) (l19:K.lookup Pb=some ⟨Pf,Pc,.func (PySem.W.fnOf "total_weight" "total_weight" (aM (top 31)) (aL (top 31)) (ae (top 31)) .none Pg Ph Pj Pd Ka Pk),Pe⟩) (e19:PySem.W.codeIn K Ka "total_weight"=true) (k19:PySem.W.keepIn K (.ref Pb)=true)
  (a20:PySem.W.nsIn K mainGlobals "part_rows"=some (some (.ref Pn))) (l20:K.lookup Pn=some ⟨Pt,Po,.func (PySem.W.fnOf "part_rows" "part_rows" (aM (top 32)) (aL (top 32)) (ae (top 32)) .none Pu Pw Px Pp Kb Py),Pq⟩) (e20:PySem.W.codeIn K Kb "part_rows"=true) (k20:PySem.W.keepIn K (.ref Pn)=true)
  (a21:PySem.W.nsIn K mainGlobals "gain_of"=some (some (.ref Pz))) (l21:K.lookup Pz=some ⟨PJ,PB,.func (PySem.W.fnOf "gain_of" "gain_of" (aM (top 34)) (aL (top 34)) (ae (top 34)) .none PK PL PM PD Kc PN),PF⟩) (e21:PySem.W.codeIn K Kc "gain_of"=true) (k21:PySem.W.keepIn K (.ref Pz)=true)
  (a22:PySem.W.nsIn K mainGlobals "book_of"=some (some (.ref PQ))) (l22:K.lookup PQ=some ⟨PX,PR,.func (PySem.W.fnOf "book_of" "book_of" (aM (top 35)) (aL (top 35)) (ae (top 35)) .none PY PZ P0 PU Kd P1),PV⟩) (e22:PySem.W.codeIn K Kd "book_of"=true) (k22:PySem.W.keepIn K (.ref PQ)=true)
  (a23:PySem.W.nsIn K mainGlobals "gains_of"=some (some (.ref P2))) (l23:K.lookup P2=some ⟨P7,P4,.func (PySem.W.fnOf "gains_of" "gains_of" (aM (top 36)) (aL (top 36)) (ae (top 36)) .none P8 P9 Qa P5 Kf Qb),P6⟩) (e23:PySem.W.codeIn K Kf "gains_of"=true) (k23:PySem.W.keepIn K (.ref P2)=true)
  (a24:PySem.W.nsIn K mainGlobals "blank_worths"=some (some (.ref Qc))) (l24:K.lookup Qc=some ⟨Qg,Qd,.func (PySem.W.fnOf "blank_worths" "blank_worths" (aM (top 37)) (aL (top 37)) (ae (top 37)) .none Qh Qi Qj Qe Kg Qk),Qf⟩) (e24:PySem.W.codeIn K Kg "blank_worths"=true) (k24:PySem.W.keepIn K (.ref Qc)=true)
  (a25:PySem.W.nsIn K mainGlobals "with_worths"=some (some (.ref Ql))) (l25:K.lookup Ql=some ⟨Qp,Qm,.func (PySem.W.fnOf "with_worths" "with_worths" (aM (top 38)) (aL (top 38)) (ae (top 38)) .none Qq Qr Qs Qn Kh Qt),Qo⟩) (e25:PySem.W.codeIn K Kh "with_worths"=true) (k25:PySem.W.keepIn K (.ref Ql)=true)
  (a26:PySem.W.nsIn K mainGlobals "wanted_way"=some (some (.ref Qu))) (l26:K.lookup Qu=some ⟨Qy,Qv,.func (PySem.W.fnOf "wanted_way" "wanted_way" (aM (top 40)) (aL (top 40)) (ae (top 40)) .none Qz QA QB Qw Ki QC),Qx⟩) (e26:PySem.W.codeIn K Ki "wanted_way"=true) (k26:PySem.W.keepIn K (.ref Qu)=true)
  (a27:PySem.W.nsIn K mainGlobals "better_ways"=some (some (.ref QD))) (l27:K.lookup QD=some ⟨QH,QE,.func (PySem.W.fnOf "better_ways" "better_ways" (aM (top 41)) (aL (top 41)) (ae (top 41)) .none QI QJ QK QF Kj QL),QG⟩) (e27:PySem.W.codeIn K Kj "better_ways"=true) (k27:PySem.W.keepIn K (.ref QD)=true)
  (a28:PySem.W.nsIn K mainGlobals "picks_of"=some (some (.ref QM))) (l28:K.lookup QM=some ⟨QR,QN,.func (PySem.W.fnOf "picks_of" "picks_of" (aM (top 42)) (aL (top 42)) (ae (top 42)) .none QS QT QU QO Kk QV),QP⟩) (e28:PySem.W.codeIn K Kk "picks_of"=true) (k28:PySem.W.keepIn K (.ref QM)=true)
  (a29:PySem.W.nsIn K mainGlobals "with_best_worths"=some (some (.ref QW))) (l29:K.lookup QW=some ⟨Q0,QX,.func (PySem.W.fnOf "with_best_worths" "with_best_worths" (aM (top 43)) (aL (top 43)) (ae (top 43)) .none Q4 Q5 Q6 QY Kl Q8),QZ⟩) (e29:PySem.W.codeIn K Kl "with_best_worths"=true) (k29:PySem.W.keepIn K (.ref QW)=true)
  (a30:PySem.W.nsIn K mainGlobals "best_pick"=some (some (.ref Ra))) (l30:K.lookup Ra=some ⟨Rg,Rb,.func (PySem.W.fnOf "best_pick" "best_pick" (aM (top 44)) (aL (top 44)) (ae (top 44)) .none Rh Ri Rj Rc Km Rk),Rf⟩) (e30:PySem.W.codeIn K Km "best_pick"=true) (k30:PySem.W.keepIn K (.ref Ra)=true)
  (a31:PySem.W.nsIn K mainGlobals "best"=some (some (.ref Rl))) (l31:K.lookup Rl=some ⟨Rq,Rn,.func (PySem.W.fnOf "best" "best" (aM (top 45)) (aL (top 45)) (ae (top 45)) .none Rr Rt Ru Ro Kn Rv),Rp⟩) (e31:PySem.W.codeIn K Kn "best"=true) (k31:PySem.W.keepIn K (.ref Rl)=true)
  (a32:PySem.W.nsIn K mainGlobals "_law_cell"=some (some (.ref Rx))) (l32:K.lookup Rx=some ⟨RB,Ry,.func (PySem.W.fnOf "_law_cell" "_law_cell" (aM (top 47)) (aL (top 47)) (ae (top 47)) .none RC RD RE Rz Ko RF),RA⟩) (e32:PySem.W.codeIn K Ko "_law_cell"=true) (k32:PySem.W.keepIn K (.ref Rx)=true)
  (a33:PySem.W.nsIn K mainGlobals "_law_mixed"=some (some (.ref RG))) (l33:K.lookup RG=some ⟨RK,RH,.func (PySem.W.fnOf "_law_mixed" "_law_mixed" (aM (top 48)) (aL (top 48)) (ae (top 48)) .none RL RM RN RI Kp RO),RJ⟩) (e33:PySem.W.codeIn K Kp "_law_mixed"=true) (k33:PySem.W.keepIn K (.ref RG)=true)
  (a34:PySem.W.nsIn K mainGlobals "_law_low"=some (some (.ref RP))) (l34:K.lookup RP=some ⟨RU,RQ,.func (PySem.W.fnOf "_law_low" "_law_low" (aM (top 49)) (aL (top 49)) (ae (top 49)) .none RV RW RX RS Kq RY),RT⟩) (e34:PySem.W.codeIn K Kq "_law_low"=true) (k34:PySem.W.keepIn K (.ref RP)=true)
  (a35:PySem.W.nsIn K mainGlobals "_law_plus"=some (some (.ref RZ))) (l35:K.lookup RZ=some ⟨R5,R1,.func (PySem.W.fnOf "_law_plus" "_law_plus" (aM (top 50)) (aL (top 50)) (ae (top 50)) .none R6 R7 R8 R3 Kr R9),R4⟩) (e35:PySem.W.codeIn K Kr "_law_plus"=true) (k35:PySem.W.keepIn K (.ref RZ)=true)
  (a36:PySem.W.nsIn K mainGlobals "_law_times"=some (some (.ref Sa))) (l36:K.lookup Sa=some ⟨Sf,Sb,.func (PySem.W.fnOf "_law_times" "_law_times" (aM (top 51)) (aL (top 51)) (ae (top 51)) .none Sg Si Sj Sd Ks Sk),Se⟩) (e36:PySem.W.codeIn K Ks "_law_times"=true) (k36:PySem.W.keepIn K (.ref Sa)=true)
  (a37:PySem.W.nsIn K mainGlobals "_law_share"=some (some (.ref Sl))) (l37:K.lookup Sl=some ⟨Sr,Sm,.func (PySem.W.fnOf "_law_share" "_law_share" (aM (top 52)) (aL (top 52)) (ae (top 52)) .none Ss Su Sv Sn Kt Sw),So⟩) (e37:PySem.W.codeIn K Kt "_law_share"=true) (k37:PySem.W.keepIn K (.ref Sl)=true)
  (a38:PySem.W.nsIn K mainGlobals "_law_turned"=some (some (.ref Sx))) (l38:K.lookup Sx=some ⟨SE,Sy,.func (PySem.W.fnOf "_law_turned" "_law_turned" (aM (top 53)) (aL (top 53)) (ae (top 53)) .none SF SG SH SA Ku SI),SD⟩) (e38:PySem.W.codeIn K Ku "_law_turned"=true) (k38:PySem.W.keepIn K (.ref Sx)=true)
  (a39:PySem.W.nsIn K mainGlobals "_law_throw"=some (some (.ref SJ))) (l39:K.lookup SJ=some ⟨SO,SK,.func (PySem.W.fnOf "_law_throw" "_law_throw" (aM (top 54)) (aL (top 54)) (ae (top 54)) .none SQ SR SS SM Kv SU),SN⟩) (e39:PySem.W.codeIn K Kv "_law_throw"=true) (k39:PySem.W.keepIn K (.ref SJ)=true)
  (a40:PySem.W.nsIn K mainGlobals "_law_board"=some (some (.ref SV))) (l40:K.lookup SV=some ⟨S1,SW,.func (PySem.W.fnOf "_law_board" "_law_board" (aM (top 55)) (aL (top 55)) (ae (top 55)) .none S3 S4 S5 SX Kw S6),SY⟩) (e40:PySem.W.codeIn K Kw "_law_board"=true) (k40:PySem.W.keepIn K (.ref SV)=true)
  (a41:PySem.W.nsIn K mainGlobals "_law_copy"=some (some (.ref S7))) (l41:K.lookup S7=some ⟨Tb,S8,.func (PySem.W.fnOf "_law_copy" "_law_copy" (aM (top 57)) (aL (top 57)) (ae (top 57)) .none Tc Td Te S9 Kx Tf),Ta⟩) (e41:PySem.W.codeIn K Kx "_law_copy"=true) (k41:PySem.W.keepIn K (.ref S7)=true)
  (a42:PySem.W.nsIn K mainGlobals "_law_less"=some (some (.ref Tg))) (l42:K.lookup Tg=some ⟨Tn,Th,.func (PySem.W.fnOf "_law_less" "_law_less" (aM (top 60)) (aL (top 60)) (ae (top 60)) .none To Tp Tq Ti Ky Tr),Tj⟩) (e42:PySem.W.codeIn K Ky "_law_less"=true) (k42:PySem.W.keepIn K (.ref Tg)=true)
  (a43:PySem.W.nsIn K mainGlobals "_law_small"=some (some (.ref Ts))) (l43:K.lookup Ts=some ⟨Tw,Tt,.func (PySem.W.fnOf "_law_small" "_law_small" (aM (top 61)) (aL (top 61)) (ae (top 61)) .none Tx Tz TB Tu Kz TC),Tv⟩) (e43:PySem.W.codeIn K Kz "_law_small"=true) (k43:PySem.W.keepIn K (.ref Ts)=true)
  (a44:PySem.W.nsIn K mainGlobals "_law_raised"=some (some (.ref TF))) (l44:K.lookup TF=some ⟨TM,TH,.func (PySem.W.fnOf "_law_raised" "_law_raised" (aM (top 62)) (aL (top 62)) (ae (top 62)) .none TN TQ TR TK KA TU),TL⟩) (e44:PySem.W.codeIn K KA "_law_raised"=true) (k44:PySem.W.keepIn K (.ref TF)=true)
  (a45:PySem.W.nsIn K mainGlobals "law"=some (some (.ref TV))) (l45:K.lookup TV=some ⟨T1,TX,.func (PySem.W.fnOf "law" "law" (aM (top 63)) (aL (top 63)) (ae (top 63)) .none T3 T4 T5 TY KC T6),TZ⟩) (e45:PySem.W.codeIn K KC "law"=true) (k45:PySem.W.keepIn K (.ref TV)=true)
  (z_abs:PySem.W.nsIn K mainGlobals "abs"=some none)
  (z_all:PySem.W.nsIn K mainGlobals "all"=some none)
  (z_any:PySem.W.nsIn K mainGlobals "any"=some none)
  (z_enumerate:PySem.W.nsIn K mainGlobals "enumerate"=some none)
  (z_len:PySem.W.nsIn K mainGlobals "len"=some none)
  (z_list:PySem.W.nsIn K mainGlobals "list"=some none)
  (z_max:PySem.W.nsIn K mainGlobals "max"=some none)
  (z_range:PySem.W.nsIn K mainGlobals "range"=some none)
  (z_sorted:PySem.W.nsIn K mainGlobals "sorted"=some none)
  (z_sum:PySem.W.nsIn K mainGlobals "sum"=some none)
  (z_zip:PySem.W.nsIn K mainGlobals "zip"=some none)
  (c_MOST_PLACES:PySem.W.nsIn K mainGlobals "MOST_PLACES"=some (some (.int 40 oQ)))
  (c_MOST_PICKS:PySem.W.nsIn K mainGlobals "MOST_PICKS"=some (some (.int 4096 ph)))
  (k_Book:PySem.W.nsIn K mainGlobals "Book"=some (some (.ref aB)))
  (cl_Bookpg:PySem.W.plainGet K aB Str.empty=true)
  (cl_Bookhd:PySem.W.hasDictIn K aB=true)
  (cl_Bookpo:PySem.W.plainOver K aB=true)
  (cl_Booksa:PySem.W.findIn K (.ref aB) "__setattr__"=some (some (.builtin "object.__setattr__")))
  (na_Book_bottom:PySem.W.findIn K (.ref aB) "bottom"=some none)
  (na_Book_tops:PySem.W.findIn K (.ref aB) "tops"=some none)
  (dia_Book:PySem.W.findIn K (.ref aB) "__init__"=some (some (.ref mH)))
  (dii_Book:PySem.W.isFn K (.ref mH)=true)
  (dil_Book:K.lookup mH=some ⟨Bs,Bp,.func (PySem.W.fnOf "__init__" "Book.__init__" (aM (inClass (top 33) 0)) (aL (inClass (top 33) 0)) (ae (inClass (top 33) 0)) .none Bu Bv Bw Bq ux Bx),Br⟩)
  (dic_Book:PySem.W.codeIn K ux "Book.__init__"=true)
  (dik_Book:PySem.W.keepIn K (.ref mH)=true)
  (dim_Book:PySem.W.makesIn K aB=true)
  (diq_Book:PySem.W.keepIn K (.ref aB)=true)
  (dma_Book_as_shares:PySem.W.findIn K (.ref aB) "as_shares"=some (some (.ref cW)))
  (dmi_Book_as_shares:PySem.W.isFn K (.ref cW)=true)
  (dml_Book_as_shares:K.lookup cW=some ⟨jb,i8,.func (PySem.W.fnOf "as_shares" "Book.as_shares" (aM (inClass (top 33) 2)) (aL (inClass (top 33) 2)) (ae (inClass (top 33) 2)) .none jc jd je i9 eM jf),ja⟩)
  (dmc_Book_as_shares:PySem.W.codeIn K eM "Book.as_shares"=true)
  (dmk_Book_as_shares:PySem.W.keepIn K (.ref cW)=true)
  (dma_Book_scaled:PySem.W.findIn K (.ref aB) "scaled"=some (some (.ref dz)))
  (dmi_Book_scaled:PySem.W.isFn K (.ref dz)=true)
  (dml_Book_scaled:K.lookup dz=some ⟨lQ,lN,.func (PySem.W.fnOf "scaled" "Book.scaled" (aM (inClass (top 33) 1)) (aL (inClass (top 33) 1)) (ae (inClass (top 33) 1)) .none lU lV lX lO gw lY),lP⟩)
  (dmc_Book_scaled:PySem.W.codeIn K gw "Book.scaled"=true)
  (dmk_Book_scaled:PySem.W.keepIn K (.ref dz)=true)
  :∃fd:FuncData,(∀(s:Shared) (v:Value),BindsTo s fd ⟨[v],[]⟩ [("_law_script",v)])/\∀base:Heap,K.In base->base.Ns mainGlobals mg->oY base mg tc tp->d8 l.prog w K mg base (bK l.prog w) 30 fa fd ["_law_script"] (xm K tp):=by
 have e:=Zj.symm.trans (aal X G a45)
 cases e
 have T:Txt K mg aB tc:=⟨abd X G z_abs,abd X G z_all,abd X G z_any,abd X G z_enumerate,abd X G z_len,abd X G z_list,abd X G z_max,abd X G z_range,abd X G z_sorted,abd X G z_sum,abd X G z_zip,⟨_,_,aY l0 e0 k0,aal X G a0⟩,⟨_,_,aY l1 e1 k1,aal X G a1⟩,⟨_,_,aY l2 e2 k2,aal X G a2⟩,⟨_,_,aY l3 e3 k3,aal X G a3⟩,⟨_,_,aY l4 e4 k4,aal X G a4⟩,⟨_,_,aY l5 e5 k5,aal X G a5⟩,⟨_,_,aY l6 e6 k6,aal X G a6⟩,⟨_,_,aY l7 e7 k7,aal X G a7⟩,⟨_,_,aY l8 e8 k8,aal X G a8⟩,⟨_,_,aY l9 e9 k9,aal X G a9⟩,⟨_,_,aY l10 e10 k10,aal X G a10⟩,⟨_,_,aY l11 e11 k11,aal X G a11⟩,⟨_,_,aY l12 e12 k12,aal X G a12⟩,⟨_,_,aY l13 e13 k13,aal X G a13⟩,⟨_,_,aY l14 e14 k14,aal X G a14⟩,⟨_,_,aY l15 e15 k15,aal X G a15⟩,⟨_,_,aY l16 e16 k16,aal X G a16⟩,⟨_,_,aY l17 e17 k17,aal X G a17⟩,⟨_,_,aY l18 e18 k18,aal X G a18⟩,⟨_,_,aY l19 e19 k19,aal X G a19⟩,⟨_,_,aY l20 e20 k20,aal X G a20⟩,⟨_,_,aY l21 e21 k21,aal X G a21⟩,⟨_,_,aY l22 e22 k22,aal X G a22⟩,⟨_,_,aY l23 e23 k23,aal X G a23⟩,⟨_,_,aY l24 e24 k24,aal X G a24⟩,⟨_,_,aY l25 e25 k25,aal X G a25⟩,⟨_,_,aY l26 e26 k26,aal X G a26⟩,⟨_,_,aY l27 e27 k27,aal X G a27⟩,⟨_,_,aY l28 e28 k28,aal X G a28⟩,⟨_,_,aY l29 e29 k29,aal X G a29⟩,⟨_,_,aY l30 e30 k30,aal X G a30⟩,⟨_,_,aY l31 e31 k31,aal X G a31⟩,⟨_,_,aY l32 e32 k32,aal X G a32⟩,⟨_,_,aY l33 e33 k33,aal X G a33⟩,⟨_,_,aY l34 e34 k34,aal X G a34⟩,⟨_,_,aY l35 e35 k35,aal X G a35⟩,⟨_,_,aY l36 e36 k36,aal X G a36⟩,⟨_,_,aY l37 e37 k37,aal X G a37⟩,⟨_,_,aY l38 e38 k38,aal X G a38⟩,⟨_,_,aY l39 e39 k39,aal X G a39⟩,⟨_,_,aY l40 e40 k40,aal X G a40⟩,⟨_,_,aY l41 e41 k41,aal X G a41⟩,⟨_,_,aY l42 e42 k42,aal X G a42⟩,⟨_,_,aY l43 e43 k43,aal X G a43⟩,⟨_,_,aY l44 e44 k44,aal X G a44⟩,⟨_,aal X G c_MOST_PLACES⟩,⟨_,aal X G c_MOST_PICKS⟩,aal X G k_Book,⟨cl_Bookpg,cl_Bookhd,cl_Bookpo,cl_Booksa⟩,na_Book_bottom,na_Book_tops,⟨_,_,aY dil_Book dic_Book dik_Book,⟨dim_Book,dia_Book,dii_Book,diq_Book⟩,aal X G k_Book⟩,⟨_,_,aY dml_Book_as_shares dmc_Book_as_shares dmk_Book_as_shares,⟨dma_Book_as_shares,dmi_Book_as_shares,dmk_Book_as_shares⟩⟩,⟨_,_,aY dml_Book_scaled dmc_Book_scaled dmk_Book_scaled,⟨dma_Book_scaled,dmi_Book_scaled,dmk_Book_scaled⟩⟩,⟨_,_,_,_,_,aal X G a14,l14,rfl⟩⟩
 exact⟨_,λs v=>.of_eq rfl,λbase _ _ LB=>(GK T LB (aY l45 e45 k45)).mono (by decide)⟩
theorem walk {tc tp:Addr} {l:PySem.W.OpenLaw} {q:Program} {loose:List Str} {XP:(Str->Option Value)->Heap->Prop} {YP:World->Heap->Prop} {d:DefRec} {K:Params->PySem.W.Frag} (hn:l.most=some 63) (HU:d.params.defaults=[])
  (hY:∀(w:World) (h:Heap),YP w h->(K w.params).In h) (MB:∀(w:World) (h:Heap),YP w h->h.get? tp=some (PySem.W.tabObj #[])/\PySem.W.CodeHd h tc tp/\(K w.params).lookup tp=none)
  (F:∀(w:World) (mg:Str->Option Value) (fa:Addr) (h:Heap),(K w.params).In h->h.Ns mainGlobals mg->mg d.name=some (.ref fa)->
   ∃fd:FuncData,(∀(s:Shared) (u:Value),BindsTo s fd ⟨[u],[]⟩ [("_law_script",u)])/\∀base:Heap,(K w.params).In base->base.Ns mainGlobals mg->oY base mg tc tp->d8 l.prog w (K w.params) mg base (bK l.prog w) 30 fa fd ["_law_script"] (xm (K w.params) tp)):
  PySem.W.WalkO q loose XP YP l.row.toRowW d [] (λf vs=>PySem.call f vs):=
 L2.zN (tc:=tc) (tp:=tp) (dsc:=dsc) (n:=63) (k:=30) (x:="_law_script") (CX:=λw=>bK l.prog w) (sp:=λw=>xm (K w.params) tp) hn (by decide) HU ⟨rfl,by decide,by decide⟩ hY MB F (λ_ _ a ns hl hT hS=>⟨a,ns,rfl,hT,hS,hl,λ_=>rfl⟩) λ_ _ _ _ _ z=>(wa _ _) _ _ _ _ _ z
end K45
open PySem PySem.W PyProof.Rows
set_option maxRecDepth 100000 in
set_option maxHeartbeats 0 in
theorem PySem.Challenge.cw_pressluck_k45_ends_raised_holds : PySem.Challenge.rw_pressluck_k45_ends_raised.Holds := by
  w_on; refine holds_law (by decide +kernel) fun aaa => ?_
  refine holds_open (q := K45.vw) (loose := []) (Xt := (fun s => xlAt K45.vw [] s && recOk (RowW.records (OpenRow.toRowW (PySem.W.OpenLaw.row PySem.Challenge.rw_pressluck_k45_ends_raised))) s)) (XP := XL K45.vw []) (Yf := Hook.obs (PySem.W.kmHook K45.pre.heap_1 K45.Du K45.Ei [156])) (Ya := Hook.val (PySem.W.kmHook K45.pre.heap_1 K45.Du K45.Ei [156])) (YP := Hook.says (PySem.W.kmHook K45.pre.heap_1 K45.Du K45.Ei [156])) (N := 5468) (Hd.xE (by kernel_rfl) (by decide) (fun s => by kernel_rfl) K45.run) (Hook.of (PySem.W.kmHook K45.pre.heap_1 K45.Du K45.Ei [156])) (Hook.keeps (PySem.W.kmHook K45.pre.heap_1 K45.Du K45.Ei [156])) (fun s e => xl_of s (Bool.and_eq_true_iff.mp e).1) XL.keeps (by rfl) (by rfl) (by rfl) (fun s e => recFacts_of (Bool.and_eq_true_iff.mp e).2) (by rfl) (by first | assumption | decide +kernel) (by decide +kernel) ⟨rfl, rfl, rfl, rfl, rfl, by decide +kernel⟩ ?hw ?hc
  (case hw => w_witness2)
  k_fill
  refine K45.walk (tc := 158) (tp := 156) (l := PySem.Challenge.rw_pressluck_k45_ends_raised) rfl rfl (fun w h Y => PySem.W.km_in_of Y) (fun w h Y => ⟨PySem.W.km_tabs_of Y _ (.head _), PySem.W.codeHd_of_K (PySem.W.km_in_of Y) (by kernel_rfl), by kernel_rfl⟩) ?F
  case F =>
    intro w mg fa h KX G HV
    refine' K45.all_mk (tc := 158) (tp := 156) KX G HV ?a0 ?l0 ?e0 ?k0 ?a1 ?l1 ?e1 ?k1 ?a2 ?l2 ?e2 ?k2 ?a3 ?l3 ?e3 ?k3 ?a4 ?l4 ?e4 ?k4 ?a5 ?l5 ?e5 ?k5 ?a6 ?l6 ?e6 ?k6 ?a7 ?l7 ?e7 ?k7 ?a8 ?l8 ?e8 ?k8 ?a9 ?l9 ?e9 ?k9 ?a10 ?l10 ?e10 ?k10 ?a11 ?l11 ?e11 ?k11 ?a12 ?l12 ?e12 ?k12 ?a13 ?l13 ?e13 ?k13 ?a14 ?l14 ?e14 ?k14 ?a15 ?l15 ?e15 ?k15 ?a16 ?l16 ?e16 ?k16 ?a17 ?l17 ?e17 ?k17 ?a18 ?l18 ?e18 ?k18 ?a19 ?l19 ?e19 ?k19 ?a20 ?l20 ?e20 ?k20 ?a21 ?l21 ?e21 ?k21 ?a22 ?l22 ?e22 ?k22 ?a23 ?l23 ?e23 ?k23 ?a24 ?l24 ?e24 ?k24 ?a25 ?l25 ?e25 ?k25 ?a26 ?l26 ?e26 ?k26 ?a27 ?l27 ?e27 ?k27 ?a28 ?l28 ?e28 ?k28 ?a29 ?l29 ?e29 ?k29 ?a30 ?l30 ?e30 ?k30 ?a31 ?l31 ?e31 ?k31 ?a32 ?l32 ?e32 ?k32 ?a33 ?l33 ?e33 ?k33 ?a34 ?l34 ?e34 ?k34 ?a35 ?l35 ?e35 ?k35 ?a36 ?l36 ?e36 ?k36 ?a37 ?l37 ?e37 ?k37 ?a38 ?l38 ?e38 ?k38 ?a39 ?l39 ?e39 ?k39 ?a40 ?l40 ?e40 ?k40 ?a41 ?l41 ?e41 ?k41 ?a42 ?l42 ?e42 ?k42 ?a43 ?l43 ?e43 ?k43 ?a44 ?l44 ?e44 ?k44 ?a45 ?l45 ?e45 ?k45 ?z_abs ?z_all ?z_any ?z_enumerate ?z_len ?z_list ?z_max ?z_range ?z_sorted ?z_sum ?z_zip ?c_MOST_PLACES ?c_MOST_PICKS ?k_Book ?cl_Bookpg ?cl_Bookhd ?cl_Bookpo ?cl_Booksa ?na_Book_bottom ?na_Book_tops ?dia_Book ?dii_Book ?dil_Book ?dic_Book ?dik_Book ?dim_Book ?diq_Book ?dma_Book_as_shares ?dmi_Book_as_shares ?dml_Book_as_shares ?dmc_Book_as_shares ?dmk_Book_as_shares ?dma_Book_scaled ?dmi_Book_scaled ?dml_Book_scaled ?dmc_Book_scaled ?dmk_Book_scaled
    (case a0 => k_is)
    (case l0 => k_is)
    (case e0 => k_is)
    (case k0 => k_is)
    (case a1 => k_is)
    (case l1 => k_is)
    (case e1 => k_is)
    (case k1 => k_is)
    (case a2 => k_is)
    (case l2 => k_is)
    (case e2 => k_is)
    (case k2 => k_is)
    (case a3 => k_is)
    (case l3 => k_is)
    (case e3 => k_is)
    (case k3 => k_is)
    (case a4 => k_is)
    (case l4 => k_is)
    (case e4 => k_is)
    (case k4 => k_is)
    (case a5 => k_is)
    (case l5 => k_is)
    (case e5 => k_is)
    (case k5 => k_is)
    (case a6 => k_is)
    (case l6 => k_is)
    (case e6 => k_is)
    (case k6 => k_is)
    (case a7 => k_is)
    (case l7 => k_is)
    (case e7 => k_is)
    (case k7 => k_is)
    (case a8 => k_is)
    (case l8 => k_is)
    (case e8 => k_is)
    (case k8 => k_is)
    (case a9 => k_is)
    (case l9 => k_is)
    (case e9 => k_is)
    (case k9 => k_is)
    (case a10 => k_is)
    (case l10 => k_is)
    (case e10 => k_is)
    (case k10 => k_is)
    (case a11 => k_is)
    (case l11 => k_is)
    (case e11 => k_is)
    (case k11 => k_is)
    (case a12 => k_is)
    (case l12 => k_is)
    (case e12 => k_is)
    (case k12 => k_is)
    (case a13 => k_is)
    (case l13 => k_is)
    (case e13 => k_is)
    (case k13 => k_is)
    (case a14 => k_is)
    (case l14 => k_is)
    (case e14 => k_is)
    (case k14 => k_is)
    (case a15 => k_is)
    (case l15 => k_is)
    (case e15 => k_is)
    (case k15 => k_is)
    (case a16 => k_is)
    (case l16 => k_is)
    (case e16 => k_is)
    (case k16 => k_is)
    (case a17 => k_is)
    (case l17 => k_is)
    (case e17 => k_is)
    (case k17 => k_is)
    (case a18 => k_is)
    (case l18 => k_is)
    (case e18 => k_is)
    (case k18 => k_is)
    (case a19 => k_is)
    (case l19 => k_is)
    (case e19 => k_is)
    (case k19 => k_is)
    (case a20 => k_is)
    (case l20 => k_is)
    (case e20 => k_is)
    (case k20 => k_is)
    (case a21 => k_is)
    (case l21 => k_is)
    (case e21 => k_is)
    (case k21 => k_is)
    (case a22 => k_is)
    (case l22 => k_is)
    (case e22 => k_is)
    (case k22 => k_is)
    (case a23 => k_is)
    (case l23 => k_is)
    (case e23 => k_is)
    (case k23 => k_is)
    (case a24 => k_is)
    (case l24 => k_is)
    (case e24 => k_is)
    (case k24 => k_is)
    (case a25 => k_is)
    (case l25 => k_is)
    (case e25 => k_is)
    (case k25 => k_is)
    (case a26 => k_is)
    (case l26 => k_is)
    (case e26 => k_is)
    (case k26 => k_is)
    (case a27 => k_is)
    (case l27 => k_is)
    (case e27 => k_is)
    (case k27 => k_is)
    (case a28 => k_is)
    (case l28 => k_is)
    (case e28 => k_is)
    (case k28 => k_is)
    (case a29 => k_is)
    (case l29 => k_is)
    (case e29 => k_is)
    (case k29 => k_is)
    (case a30 => k_is)
    (case l30 => k_is)
    (case e30 => k_is)
    (case k30 => k_is)
    (case a31 => k_is)
    (case l31 => k_is)
    (case e31 => k_is)
    (case k31 => k_is)
    (case a32 => k_is)
    (case l32 => k_is)
    (case e32 => k_is)
    (case k32 => k_is)
    (case a33 => k_is)
    (case l33 => k_is)
    (case e33 => k_is)
    (case k33 => k_is)
    (case a34 => k_is)
    (case l34 => k_is)
    (case e34 => k_is)
    (case k34 => k_is)
    (case a35 => k_is)
    (case l35 => k_is)
    (case e35 => k_is)
    (case k35 => k_is)
    (case a36 => k_is)
    (case l36 => k_is)
    (case e36 => k_is)
    (case k36 => k_is)
    (case a37 => k_is)
    (case l37 => k_is)
    (case e37 => k_is)
    (case k37 => k_is)
    (case a38 => k_is)
    (case l38 => k_is)
    (case e38 => k_is)
    (case k38 => k_is)
    (case a39 => k_is)
    (case l39 => k_is)
    (case e39 => k_is)
    (case k39 => k_is)
    (case a40 => k_is)
    (case l40 => k_is)
    (case e40 => k_is)
    (case k40 => k_is)
    (case a41 => k_is)
    (case l41 => k_is)
    (case e41 => k_is)
    (case k41 => k_is)
    (case a42 => k_is)
    (case l42 => k_is)
    (case e42 => k_is)
    (case k42 => k_is)
    (case a43 => k_is)
    (case l43 => k_is)
    (case e43 => k_is)
    (case k43 => k_is)
    (case a44 => k_is)
    (case l44 => k_is)
    (case e44 => k_is)
    (case k44 => k_is)
    (case a45 => k_is)
    (case l45 => k_is)
    (case e45 => k_is)
    (case k45 => k_is)
    (case z_abs => k_is)
    (case z_all => k_is)
    (case z_any => k_is)
    (case z_enumerate => k_is)
    (case z_len => k_is)
    (case z_list => k_is)
    (case z_max => k_is)
    (case z_range => k_is)
    (case z_sorted => k_is)
    (case z_sum => k_is)
    (case z_zip => k_is)
    (case c_MOST_PLACES => k_is)
    (case c_MOST_PICKS => k_is)
    (case k_Book => k_is)
    (case cl_Bookpg => k_is)
    (case cl_Bookhd => k_is)
    (case cl_Bookpo => k_is)
    (case cl_Booksa => k_is)
    (case na_Book_bottom => k_is)
    (case na_Book_tops => k_is)
    (case dia_Book => k_is)
    (case dii_Book => k_is)
    (case dil_Book => k_is)
    (case dic_Book => k_is)
    (case dik_Book => k_is)
    (case dim_Book => k_is)
    (case diq_Book => k_is)
    (case dma_Book_as_shares => k_is)
    (case dmi_Book_as_shares => k_is)
    (case dml_Book_as_shares => k_is)
    (case dmc_Book_as_shares => k_is)
    (case dmk_Book_as_shares => k_is)
    (case dma_Book_scaled => k_is)
    (case dmi_Book_scaled => k_is)
    (case dml_Book_scaled => k_is)
    (case dmc_Book_scaled => k_is)
    (case dmk_Book_scaled => k_is)
