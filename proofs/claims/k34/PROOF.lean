import PyProof.Rows.All
import Wide.All
import OpenK.AllK
import Wide.FinOn
import Lean
import PyProof.EqAt
import PyProof.EqKinds
import PyProof.TupleCall
import PyProof.NeKinds
import PySem.Challenge.RW_pressluck_k34_worths_are_sums_of_visits
set_option Elab.async false
set_option linter.all false
set_option maxRecDepth 100000
theorem YO : type_of% @List.length_map := @List.length_map
theorem YQ : type_of% @List.getElem?_eq_getElem := @List.getElem?_eq_getElem
theorem YR : type_of% @List.getD_eq_getElem?_getD := @List.getD_eq_getElem?_getD
theorem YS : type_of% @Nat.le_refl := @Nat.le_refl
theorem YT : type_of% @List.getElem?_map := @List.getElem?_map
theorem YU : type_of% @List.mem_of_getElem? := @List.mem_of_getElem?
theorem YV : type_of% @List.mem_cons_self := @List.mem_cons_self
theorem YW : type_of% @List.mem_cons_of_mem := @List.mem_cons_of_mem
theorem YX : type_of% @PySem.W.mg_of := @PySem.W.mg_of
theorem YY : type_of% @Int.toNat_natCast := @Int.toNat_natCast
theorem YZ : type_of% @List.getElem_mem := @List.getElem_mem
theorem Y0 : type_of% @Nat.ne_of_lt := @Nat.ne_of_lt
theorem Y1 : type_of% @List.size_toArray := @List.size_toArray
theorem Y2 : type_of% @Nat.le_trans := @Nat.le_trans
theorem Y3 : type_of% @Nat.zero_le := @Nat.zero_le
theorem Y4 : type_of% @List.length_cons := @List.length_cons
theorem Y5 : type_of% @List.getElem?_eq_none := @List.getElem?_eq_none
theorem Y6 : type_of% @Nat.lt_of_lt_of_le := @Nat.lt_of_lt_of_le
theorem Y7 : type_of% @Bool.false_ne_true := @Bool.false_ne_true
theorem Y8 : type_of% @Int.mul_comm := @Int.mul_comm
theorem Y9 : type_of% @List.length_range := @List.length_range
theorem Za : type_of% @PySem.boot_len := @PySem.boot_len
theorem Zb : type_of% @List.map_cons := @List.map_cons
theorem Zc : type_of% @List.map_append := @List.map_append
theorem Zd : type_of% @Int.eq_ofNat_of_zero_le := @Int.eq_ofNat_of_zero_le
theorem Ze : type_of% @List.take_add_one := @List.take_add_one
theorem Zf : type_of% @List.length_append := @List.length_append
theorem Zg : type_of% @Option.some.inj := @Option.some.inj
theorem Zh : type_of% @List.length_set := @List.length_set
theorem Zi : type_of% @List.take_of_length_le := @List.take_of_length_le
theorem Zj : type_of% @Nat.lt_irrefl := @Nat.lt_irrefl
theorem Zk : type_of% @List.getElem?_of_mem := @List.getElem?_of_mem
theorem Zl : type_of% @Nat.lt_succ_self := @Nat.lt_succ_self
theorem Zm : type_of% @Int.mul_pos := @Int.mul_pos
theorem Zn : type_of% @Int.mul_assoc := @Int.mul_assoc
theorem Zo : type_of% @List.getElem_of_mem := @List.getElem_of_mem
theorem Zp : type_of% @List.mem_append_right := @List.mem_append_right
theorem Zq : type_of% @Int.natAbs_mul := @Int.natAbs_mul
theorem Zr : type_of% @List.lookup_cons := @List.lookup_cons
theorem Zs : type_of% @Int.mul_zero := @Int.mul_zero
theorem Zt : type_of% @PySem.W.mg_none_of := @PySem.W.mg_none_of
theorem Zu : type_of% @List.map_map := @List.map_map
theorem Zv : type_of% @List.getElem?_append_right := @List.getElem?_append_right
theorem Zw : type_of% @List.getElem?_append_left := @List.getElem?_append_left
theorem Zx : type_of% @Nat.lt_of_le_of_lt := @Nat.lt_of_le_of_lt
theorem Zy : type_of% @Nat.pow_add := @Nat.pow_add
theorem Zz : type_of% @List.getElem?_range := @List.getElem?_range
theorem ZA : type_of% @Int.zero_add := @Int.zero_add
theorem ZC : type_of% @Nat.pow_le_pow_right := @Nat.pow_le_pow_right
theorem ZD : type_of% @PySem.F.plainAttrs_list := @PySem.F.plainAttrs_list
theorem ZE : type_of% @Int.emod_nonneg := @Int.emod_nonneg
theorem ZF : type_of% @PySem.W.kia_one := @PySem.W.kia_one
theorem ZG : type_of% @List.length_take := @List.length_take
theorem ZH : type_of% @PySem.mem_of_lookup := @PySem.mem_of_lookup
theorem ZI : type_of% @Nat.zero_add := @Nat.zero_add
theorem ZJ : type_of% @PySem.F.slot_list_append := @PySem.F.slot_list_append
theorem ZK : type_of% @PySem.F.type_list_append := @PySem.F.type_list_append
theorem ZL : type_of% @List.getElem?_set_ne := @List.getElem?_set_ne
theorem ZM : type_of% @List.append_nil := @List.append_nil
theorem ZN : type_of% @List.length_replicate := @List.length_replicate
theorem ZO : type_of% @Int.le_of_dvd := @Int.le_of_dvd
theorem ZP : type_of% @List.ext_getElem? := @List.ext_getElem?
theorem ZQ : type_of% @List.getElem_idxOf := @List.getElem_idxOf
theorem ZR : type_of% @List.idxOf_lt_length_of_mem := @List.idxOf_lt_length_of_mem
theorem ZS : type_of% @Nat.mul_le_mul := @Nat.mul_le_mul
theorem ZT : type_of% @List.getElem_inj := @List.getElem_inj
theorem ZU : type_of% @List.getElem?_set_self := @List.getElem?_set_self
theorem ZV : type_of% @Nat.not_lt_zero := @Nat.not_lt_zero
theorem ZW : type_of% @Nat.mul_le_mul_right := @Nat.mul_le_mul_right
theorem ZX : type_of% @Int.emod_lt_of_pos := @Int.emod_lt_of_pos
theorem ZY : type_of% @Nat.lt_succ_of_lt := @Nat.lt_succ_of_lt
theorem ZZ : type_of% @List.filterMap_append := @List.filterMap_append
theorem Z1 : type_of% @List.set_cons_zero := @List.set_cons_zero
theorem Z2 : type_of% @List.set_cons_succ := @List.set_cons_succ
theorem Z3 : type_of% @Nat.mul_le_mul_left := @Nat.mul_le_mul_left
theorem Z4 : type_of% @List.getElem?_cons_succ := @List.getElem?_cons_succ
theorem Z5 : type_of% @PyProof.Rows.callWith_type1 := @PyProof.Rows.callWith_type1
theorem Z6 : type_of% @List.getElem?_replicate := @List.getElem?_replicate
theorem Z7 : type_of% @List.getElem?_cons_zero := @List.getElem?_cons_zero
namespace Hd
open PySem PySem.W PyProof.Rows
noncomputable def vq (ok:Thread->Bool) (st:SharedT->Thread->Option (SharedT×Thread)) (n:Nat):SharedT->Thread->Option SharedT:=
 @Nat.rec (λ_=>SharedT->Thread->Option SharedT) (λ_ _=>none)
  (λ_ ih s t=>@Bool.rec (λ_=>Option SharedT) (@Bool.rec (λ_=>Option SharedT) none (@Option.rec (SharedT×Thread) (λ_=>Option SharedT) none (λr=>@Prod.rec _ _ (λ_=>Option SharedT) (λa b=>ih a b) r) (st s t)) (ok t)) (some s) (through t)) n
theorem me {tb:String->Option Builtin} {p:Program} {w:World} {n₀:Nat} {ann:Option Value}:∀(n:Nat) (s:SharedT) (t:Thread) (s':SharedT),vq (stepOk n₀ ann) (stepT (denote tb) p w) n s t=some s'->topRun tb p w n₀ ann n s.abs t=some s'.abs
 | 0,_,_,_,h=>by cases h
 | n+1,s,t,s',h=>by
  unfold topRun
  replace h:@Bool.rec (λ_=>Option SharedT) (@Bool.rec (λ_=>Option SharedT) none (@Option.rec (SharedT×Thread) (λ_=>Option SharedT) none (λr=>@Prod.rec _ _ (λ_=>Option SharedT) (λa b=>vq (stepOk n₀ ann) (stepT (denote tb) p w) n a b) r) (stepT (denote tb) p w s t)) (stepOk n₀ ann t)) (some s) (through t)=some s':=h
  cases ht:through t with
  | true=>rw[ht] at h;cases h;rfl
  | false=>
   rw[ht] at h
   cases hk:stepOk n₀ ann t with
   | false=>rw[hk] at h;cases h
   | true=>
    rw[hk] at h
    cases hs:stepT (denote tb) p w s t with
    | none=>rw[hs] at h;cases h
    | some r=>obtain⟨s₂,t₂⟩:=r;rw[hs] at h;rw[stepT_spec hs];exact me n s₂ t₂ s' h
noncomputable def bt (P:Params):BT:=((boot_heap P).objs.toList.foldl (fun(x:BT×Nat) o=>(x.1.ins x.2 o,x.2+1)) (.nil,0)).1
noncomputable def yj (w:World) (os:OsState):SharedT:=⟨bt w.params,11,{},Array.mk [],boot_drawn,boot_toks,os⟩
theorem wX (w:World) (os:OsState):(yj w os).abs=⟨boot_heap w.params,Array.mk [],boot_drawn,boot_toks,os⟩:=by kernel_rfl
theorem ua (w:World):((boot_heap w.params).isNs mainGlobals && (Array.mk []:Array GenState).size==0,(boot_heap w.params).objs.size,(boot_heap w.params).nsMap mainGlobals "__annotations__")=(true,11,some (.ref 6)):=by kernel_rfl
theorem yk {p q:Program} {loose:List Str} {Xt:Shared->Bool} {α:Type} {Yf:Shared->α} {Ya:World->α} {N:Nat} {g0:Bool}
  (Gh:∀w:World,(fencedOpening treeTable p w N).map (λs=>(s.heap,s.gens,s.drawn,s.toks))=some (boot_heap w.params,Array.mk [],boot_drawn,boot_toks))
  (run:∀(w:World) (os:OsState),(vq (stepOk 11 (some (.ref 6))) (stepT (denote treeTable) p w) N (yj w os) (topStub p)).map (λs=>((staticsOk (importedModules p.main.body) (boot_heap w.params) s.abs.heap && namesBound p s.abs.heap && gensDone s.abs && laidKept (boot_heap w.params) s.abs.heap),openSeen q loose (importedModules p.main.body) Xt g0 s.abs,Yf s.abs))=some (true,openGood q loose,Ya w)):
  LeftO p q loose Xt Yf Ya N g0:=λw=>by
 obtain⟨⟨h,gs,d,k,os⟩,e,e'⟩:=Option.map_eq_some_iff.mp (Gh w)
 obtain⟨rfl,rfl,rfl,rfl⟩:h=boot_heap w.params/\gs=Array.mk []/\d=boot_drawn/\k=boot_toks:=by simpa using e'
 obtain⟨z1,z2,z3⟩:_/\_/\_:=by simpa only[Prod.mk.injEq] using ua w
 obtain⟨s,r,l⟩:=Option.map_eq_some_iff.mp (run w os)
 obtain⟨l1,l2,l3⟩:_/\_/\_:=by simpa only[Prod.mk.injEq] using l
 have r:=me _ _ _ _ r
 rw[wX] at r
 have t:topFrom treeTable p w N ⟨boot_heap w.params,Array.mk [],boot_drawn,boot_toks,os⟩=some s.abs:=by
  unfold topFrom
  dsimp only
  rw[z1,z2,z3,r]
  show(match staticsOk (importedModules p.main.body) (boot_heap w.params) s.abs.heap && namesBound p s.abs.heap && gensDone s.abs && laidKept (boot_heap w.params) s.abs.heap with | true=>_ | false=>_)=_
  rw[l1]
 unfold openEnds
 rw[e]
 show((topFrom treeTable p w N ⟨boot_heap w.params,Array.mk [],boot_drawn,boot_toks,os⟩)).map _=_
 rw[t]
 show some (_,_)=_
 rw[l2,l3]
noncomputable def Runs (p q:Program) (loose:List Str) (Xt:Shared->Bool) {α:Type} (Yf:Shared->α) (Ya:World->α) (N:Nat) (g0:Bool) (w:World):Prop:=
 ∀os:OsState,(vq (PySem.W.Fast.tw6613529449190102663 11 (some (.ref 6))) (PySem.W.Fast.tw10156331382660048174 (PySem.W.Fast.tw11892475500146522536 PySem.W.Fast.tw14364793385576792824) p w) N (yj w os) (topStub p)).map (λs=>((staticsOk (importedModules p.main.body) (boot_heap w.params) s.abs.heap && namesBound p s.abs.heap && gensDone s.abs && laidKept (boot_heap w.params) s.abs.heap),PySem.W.Fast.tw4187177175401517315 q loose (importedModules p.main.body) Xt g0 s.abs,Yf s.abs))=some (true,openGood q loose,Ya w)
theorem wY {p q:Program} {loose:List Str} {Xt:Shared->Bool} {α:Type} {Yf:Shared->α} {Ya:World->α} {N:Nat} {g0:Bool}
  (e:opening p=plainProg p.main.scope.names) (hN:Nat.ble 600 N=true) (f:∀s,fenceModules? p s=some s)
  (run:∀w:World,Runs p q loose Xt Yf Ya N g0 w):
  LeftO p q loose Xt Yf Ya N g0:=by
 refine yk (boot_open e hN f) ?_
 unfold Runs at run
 rw[PySem.W.Fast.te6613529449190102663,PySem.W.Fast.te10156331382660048174,PySem.W.Fast.te11892475500146522536,PySem.W.Fast.te14364793385576792824,PySem.W.Fast.te4187177175401517315]
 exact run
end Hd
namespace K34
open PySem PySem.Spec PyProof.Rows
noncomputable def top (i:Nat):Stmt:=PySem.Challenge.pw_pressluck_k34_worths_are_sums_of_visits.main.body.getD i (.Pass ⟨0,0,0,0⟩)
end K34
section JL
open PySem PySem.W PyProof.Rows
local macro_rules | `(tactic| o_head $H) => `(tactic| (refine (fun (_ : PySem.W.Hook) => ?_) $H; assumption))
theorem K34.pre (h:PySem.W.OpenRow.Holds (PySem.W.OpenLaw.row PySem.Challenge.rw_pressluck_k34_worths_are_sums_of_visits)):PySem.W.OpenRow.Holds (PySem.W.OpenLaw.row PySem.Challenge.rw_pressluck_k34_worths_are_sums_of_visits):=by
 k_head
noncomputable def K34.CL:List Addr:=[2,3,15,18,19,20,23,24,25,28,29,30,33,34,35,38,39,40,47,48,49,50,53,60,61,62,65,72,74,75,77,78,79,80,81,84,91,92,93,96,98,99,101,102,103,105,106,108,109,110,112,113,115,116,117,119,120,122,123,124,126,127,129,130,131,134,135,136,138,139,141,142,143,146,147,148,151,152,153,156,157,158,160,161,163,164,165,168,169,170,172,173,175,176,177,179,180,182,183,184,186,187,189,190,191,194,195,196,199,200,201,203,204,206,207,215,217,218,220,221,222,225,226,227,230,231,232,233,234,235,236,239,241,242,244,245,246,249,250,251,254,255,256,258,259,261,262,263,266,267,268,270,271,273,274,275,278,279,280,282,283,285,286,287,289,290,292,293,294,296,297,299,300,301,303,304,306,307,308,310,311,313,314,315,317,318,320,321,322,324,325,327,328,329,332,333,334,336,337,339,340,341,344,345,346,348,349,351,352,353,355,356,358,359,365,367,368,370,371,372,374,375,377,378,379,382,383,384,386,387,389,390]
theorem K34.DG (P:PySem.Params):K34.CL=(K34.pre.heap_1 P).map (·.1):=by kernel_rfl
noncomputable def K34.vw:PySem.Program:={PySem.Challenge.pw_pressluck_k34_worths_are_sums_of_visits with main:={PySem.Challenge.pw_pressluck_k34_worths_are_sums_of_visits.main with body:=[K34.top 1,K34.top 2,K34.top 3,K34.top 4,K34.top 5,K34.top 7,K34.top 8,K34.top 9,K34.top 10,K34.top 12,K34.top 13,K34.top 14,K34.top 16,K34.top 17,K34.top 18,K34.top 19,K34.top 20,K34.top 21,K34.top 22,K34.top 24,K34.top 25,K34.top 27,K34.top 28,K34.top 29,K34.top 30,K34.top 31,K34.top 32,K34.top 33,K34.top 34,K34.top 35,K34.top 36,K34.top 37,K34.top 38,K34.top 39,K34.top 40,K34.top 41,K34.top 42,K34.top 43,K34.top 45,K34.top 46,K34.top 47,K34.top 48,K34.top 49,K34.top 50,K34.top 51,K34.top 52,K34.top 53,K34.top 54,K34.top 55,K34.top 56,K34.top 57,K34.top 58,K34.top 59,K34.top 60]}}
theorem K34.run (w:World):Hd.Runs (RowW.prog (OpenRow.toRowW (PySem.W.OpenLaw.row PySem.Challenge.rw_pressluck_k34_worths_are_sums_of_visits))) K34.vw [] (λs=>xlAt K34.vw [] s && recOk (RowW.records (OpenRow.toRowW (PySem.W.OpenLaw.row PySem.Challenge.rw_pressluck_k34_worths_are_sums_of_visits))) s) (Hook.obs (PySem.W.kmHook K34.pre.heap_1 K34.CL K34.DG [166])) (Hook.val (PySem.W.kmHook K34.pre.heap_1 K34.CL K34.DG [166])) 5336 true w:=λos=>by kernel_rfl
end JL
set_option tactic.hygienic false
set_option compiler.extract_closed false
local macro_rules | `(tactic| omega) => `(tactic| lia)
namespace L2
open PySem PySem.Spec PyProof.Rows
abbrev Key:=Sum Int Str
noncomputable def mh:Key->Value->Bool
 | .inl k,v=>Value.isInt k v
 | .inr x,v=>Value.isStrOf x v
noncomputable def JM (w:World):Key->Int
 | .inl k=>hashInt k
 | .inr x=>hashStr w x
theorem bQ:∀{k:Key} {v:Value},mh k v=true->(∃i t,k=Sum.inl i/\v=Value.int i t)\/(∃x t,k=Sum.inr x/\v=Value.str x t)
 | .inl i,v,h=>by
  obtain⟨t,e⟩:=Value.isInt_shape (k:=i) (v:=v) h
  exact .inl ⟨i,t,rfl,e⟩
 | .inr x,v,h=>by
  obtain⟨t,e⟩:=Value.isStrOf_shape (x:=x) (v:=v) h
  exact .inr ⟨x,t,rfl,e⟩
theorem wZ (i:Int) (t:Tok):mh (.inl i) (.int i t)=true:=by simp [mh,Value.isInt]
theorem xa (x:Str) (t:Tok):mh (.inr x) (.str x t)=true:=by simp [mh,Value.isStrOf]
theorem DH (a b:Int):decide ((Sum.inl a:Key)=Sum.inl b)=(a==b):=by
 by_cases e:a=b
 ·subst e;simp
 ·have h:¬(Sum.inl a:Key)=Sum.inl b:=λq=>e (Sum.inl.inj q)
  rw[decide_eq_false h]
  exact(beq_eq_false_iff_ne.mpr e).symm
theorem DI (a b:Str):decide ((Sum.inr a:Key)=Sum.inr b)=decide (a=b):=by
 by_cases e:a=b
 ·subst e;simp
 ·have h:¬(Sum.inr a:Key)=Sum.inr b:=λq=>e (Sum.inr.inj q)
  rw[decide_eq_false h,decide_eq_false e]
theorem DJ (a:Int) (b:Str):decide ((Sum.inl a:Key)=Sum.inr b)=false:=decide_eq_false (λq=>nomatch q)
theorem DK (a:Str) (b:Int):decide ((Sum.inr a:Key)=Sum.inl b)=false:=decide_eq_false (λq=>nomatch q)
noncomputable def b8 (prog:Program) (w:World):PySem.KeyKind prog w Key where
 is:=mh
 hash:=JM w
 inj:=λv a b ha hb=>by
  rcases bQ ha with ⟨i,t,rfl,rfl⟩ | ⟨x,t,rfl,rfl⟩
  ·rcases bQ hb with ⟨j,u,rfl,e⟩ | ⟨y,u,rfl,e⟩
   ·injection e with e1 _;rw[e1]
   ·exact nomatch e
  ·rcases bQ hb with ⟨j,u,rfl,e⟩ | ⟨y,u,rfl,e⟩
   ·exact nomatch e
   ·injection e with e1 _;rw[e1]
 byValue:=λk v h=>by
  rcases bQ h with ⟨i,t,rfl,rfl⟩ | ⟨x,t,rfl,rfl⟩ <;>rfl
 pyHash:=λhv h=>by
  rcases bQ hv with ⟨i,t,rfl,rfl⟩ | ⟨x,t,rfl,rfl⟩
  ·exact wpAny_pyHash_int h
  ·exact wpAny_pyHash_str h
 eqBool:=λhu hv h=>by
  rcases bQ hu with ⟨i,t,rfl,rfl⟩ | ⟨x,t,rfl,rfl⟩
  ·rcases bQ hv with ⟨j,u,rfl,rfl⟩ | ⟨y,u,rfl,rfl⟩
   ·rw[DH] at h;exact wpAny_eqBool_int h
   ·rw[DJ] at h;exact SeqAt.EqAt.int_str i t y u _ _ _ _ h
  ·rcases bQ hv with ⟨j,u,rfl,rfl⟩ | ⟨y,u,rfl,rfl⟩
   ·rw[DK] at h;exact SeqAt.EqAt.str_int x t j u _ _ _ _ h
   ·rw[DI] at h;exact wpAny_eqBool_str h
 «strs»:=λk x t v h=>by
  rcases bQ h with ⟨i,u,rfl,e⟩ | ⟨y,u,rfl,e⟩
  ·exact nomatch e
  ·injection e with e1 _
   subst e1
   cases v <;>rfl
theorem rj (prog:Program) (w:World) (i:Int) (t:Tok):(b8 prog w).is (.inl i) (.int i t)=true:=wZ i t
theorem rn (prog:Program) (w:World) (x:Str) (t:Tok):(b8 prog w).is (.inr x) (.str x t)=true:=xa x t
end L2
namespace L2
open PySem PySem.Spec PyProof.Rows
inductive V where
 | cu | bl (b:Bool) | int (i:Int) | str (x:Str) | yb (b:Array UInt8) | DL (b:UInt64) | ref (a:Addr) | ty (n:String)
 deriving DecidableEq
noncomputable def RelV:V->Value->Prop
 | .cu,u=>u=Value.none
 | .bl b,u=>u=Value.bool b
 | .int i,u=>∃t,u=Value.int i t
 | .str x,u=>∃t,u=Value.str x t
 | .yb b,u=>∃t,u=Value.bytes b t
 | .DL b,u=>∃t,u=Value.float b t
 | .ref a,u=>u=Value.ref a
 | .ty n,u=>u=Value.type n
abbrev bj:List V->List Value->Prop:=Paired RelV
theorem bj.length {xs:List V} {us:List Value} (r:bj xs us):xs.length=us.length:=Paired.length r
theorem bj.get:∀{xs:List V} {us:List Value} {i:Nat} {x:V},bj xs us->xs[i]?=some x->∃u,us[i]?=some u/\RelV x u
 | _,_,_,_,.nil,e=>by simp at e
 | _,_,0,_,.cons r _,e=>by simp at e;subst e;exact⟨_,rfl,r⟩
 | _,_,i+1,x,.cons _ t,e=>by
  obtain⟨u,h1,h2⟩:=bj.get (i:=i) (x:=x) t (by simpa using e)
  exact⟨u,by simpa using h1,h2⟩
theorem bj.set {x:V} {u:Value} (r:RelV x u):∀{xs:List V} {us:List Value} (i:Nat),bj xs us->bj (xs.set i x) (us.set i u)
 | _,_,_,.nil=>.nil
 | _,_,0,.cons _ t=>.cons r t
 | _,_,i+1,.cons q t=>.cons q (bj.set r i t)
theorem bj.append:∀{xs ys:List V} {us ws:List Value},bj xs us->bj ys ws->bj (xs++ys) (us++ws)
 | _,_,_,_,.nil,s=>s
 | _,_,_,_,.cons r t,s=>.cons r (bj.append t s)
theorem bj.take:∀{xs:List V} {us:List Value} (n:Nat),bj xs us->bj (xs.take n) (us.take n)
 | _,_,0,_=>.nil
 | _,_,_+1,.nil=>.nil
 | _,_,n+1,.cons r t=>.cons r (bj.take n t)
theorem bj.drop:∀{xs:List V} {us:List Value} (n:Nat),bj xs us->bj (xs.drop n) (us.drop n)
 | _,_,0,r=>r
 | _,_,_+1,.nil=>.nil
 | _,_,n+1,.cons _ t=>bj.drop n t
noncomputable def ie:Option V->Option Value->Prop
 | some v,some u=>RelV v u
 | none,none=>True
 | _,_=>False
noncomputable def KV {κ:Type}:List (κ×V)->List (κ×Value)->Prop:=Paired fun(p:κ×V) (q:κ×Value)=>p.1=q.1/\RelV p.2 q.2
noncomputable def kV:Key->V
 | .inl i=>.int i
 | .inr x=>.str x
inductive HO where
 | lst (xs:List V)
 | tup (xs:List V)
 | dK (kvs:List (Key×V)) | dT (kvs:List (List Key×V))
 | set (S:Int->Bool) (n:Nat)
 | ins (C dx:Addr) (fs:List (Str×V))
 | own (x:Addr)
 | xd (fs:List (Str×V))
 | met (f x:Addr)
 | qW (lo hi:Int)
 | qX (o:Obj) (u:HO)
 | pQ (ps:Array Value)
 | ext (φ:Heap->Prop)
abbrev Hp:=Addr->Option HO
noncomputable def upd (H:Hp) (a:Addr) (o:HO):Hp:=λb=>if b=a then some o else H b
theorem ar {H:Hp} {a:Addr} {o:HO}:upd H a o a=some o:=by unfold upd;rw[if_pos rfl]
theorem aE {H:Hp} {a b:Addr} {o:HO} (h:b≠a):upd H a o b=H b:=by unfold upd;rw[if_neg h]
theorem Bh {H:Hp} {a:Addr} {o u:HO}:upd (upd H a o) a u=upd H a u:=by
 funext b;unfold upd;split <;>rfl
theorem Gi {H:Hp} {a b:Addr} {o u:HO} (h:H a=some o) (h':H b=some u) (d:o≠u):a≠b:=by
 intro e;subst e;rw[h] at h';exact d (Zg h')
theorem br {H:Hp} {a b:Addr} {o:HO} (h:H a=some o) (h':H b=none):a≠b:=by
 intro e;subst e;rw[h] at h';cases h'
noncomputable def TabAt (H:Hp) (h:Heap) (a:Addr) (ps:Array Value):Prop:=∃mo:Array Value,h.get? a=some {cls:=.none,data:=.fields mo}/\
 (mo=#[]\/∃(l c:Value) (c1:Addr) (q:Str) (t:Tok),ps=#[l,c,.str q t]/\mo=#[l,c,.ref c1]/\H c1=some (.own a)/\h.CodeRec (.ref c1) q)
section
variable (P : Program) (w : World)
noncomputable def bY (H:Hp) (h:Heap) (a:Addr):HO->Prop
 | .lst xs=>xs.length<=sizeLine/\∃(aW:List Value) (n:Nat),bj xs aW/\h.get? a=some {cls:=.type "list",data:=.seq aW.toArray n}
 | .tup xs=>xs.length<=sizeLine/\∃aW:List Value,bj xs aW/\IsTup h a aW.toArray
 | .dK kvs=>kvs.length<=sizeLine/\(a==sysModules)=false/\∃vs,KV kvs vs/\h.DictOf (b8 P w) a vs
 | .dT kvs=>kvs.length<=sizeLine/\(a==sysModules)=false/\∃xs:List (List Key×Addr×Value),
   Paired (fun(p:List Key×V) (q:List Key×Addr×Value)=>p.1=q.1/\H q.2.1=some (.tup (p.1.map kV))/\RelV p.2 q.2.2) kvs xs/\
   ∃o es ep,h.get? a=some o/\o.ExactDict/\o.data=.dict es ep/\es.toList=xs.map (entryOfKey (tupleKind (b8 P w)))/\(xs.map (·.1)).Nodup
 | .set S n=>h.SetOf (intKind P w) a S n
 | .ins C dx fs=>H dx=some (.own a)/\fs.length<=1000/\dx≠a/\h.get? a=some (PySem.W.instObj C dx)/\
   ∃mA,h.Ns1 dx mA/\(∀f,ie (fs.lookup f) (mA f))/\PySem.Within mA (fs.map (·.1))
 | .own _=>∃o,h.get? a=some o
 | .xd fs=>∃mA,h.Ns1 a mA/\∀f,ie (fs.lookup f) (mA f)
 | .qW lo hi=>∃t u v,h.get? a=some {cls:=.type "range",data:=.fields #[.int lo t,.int hi u,.int 1 v]}
 | .qX o u=>h.get? a=some o/\bY H h a u
 | .pQ ps=>TabAt H h a ps
 | .met f x=>h.get? a=some (PySem.W.methodObj (.ref f) (.ref x))
 | .ext φ=>φ h/\(∃o,h.get? a=some o)/\∀h1 h2:Heap,φ h1->(∀o,h1.get? a=some o->h2.get? a=some o)->φ h2
noncomputable def gX (H:Hp) (h:Heap):Prop:=∀a o,H a=some o->bY P w H h a o
end
section
variable {P : Program} {w : World} {H H' : Hp} {h h' : Heap} {a : Addr} {o : HO}
theorem bY.lt (x:bY P w H h a o):a<h.objs.size:=by
 cases o with
 | lst xs=>obtain⟨_,_,_,_,e⟩:=x;exact Heap.lt_size e
 | tup xs=>obtain⟨_,_,_,p⟩:=x;exact p.lt
 | dK kvs=>obtain⟨_,_,_,_,o,_,_,e,_⟩:=x;exact Heap.lt_size e
 | dT kvs=>obtain⟨_,_,_,_,o,_,_,e,_⟩:=x;exact Heap.lt_size e
 | set S n=>obtain⟨o,_,_,_,e,_⟩:=x;exact Heap.lt_size e
 | ins C dx fs=>obtain⟨_,_,_,e,_⟩:=x;exact Heap.lt_size e
 | own y=>obtain⟨_,e⟩:=x;exact Heap.lt_size e
 | xd fs=>obtain⟨_,⟨_,_,_,e,_⟩,_⟩:=x;exact Heap.lt_size e
 | qW lo hi=>obtain⟨_,_,_,e⟩:=x;exact Heap.lt_size e
 | qX ob u=>obtain⟨e,_⟩:=x;exact Heap.lt_size e
 | pQ ps=>obtain⟨_,e,_⟩:=x;exact Heap.lt_size e
 | met f y=>exact Heap.lt_size (show h.get? a=some _ from x)
 | ext φ=>obtain⟨_,⟨_,e⟩,_⟩:=x;exact Heap.lt_size e
theorem Paired.DM {α β:Type} {F G:α->β->Prop}:∀{l₁:List α} {l₂:List β},Paired F l₁ l₂->(∀a b,F a b->G a b)->Paired G l₁ l₂
 | _,_,.nil,_=>.nil
 | _,_,.cons r t,f=>.cons (f _ _ r) (Paired.DM t f)
theorem bY.oi (x:bY P w H h a o) (k:∀b u,(b=a\/H b=some (.own a))->h.get? b=some u->h'.get? b=some u)
  (ho:∀b,H b=some (.own a)->H' b=some (.own a)) (ht:∀b xs,H b=some (.tup xs)->H' b=some (.tup xs)):bY P w H' h' a o:=by
 induction o with
 | lst xs=>obtain⟨z,aW,n,r,e⟩:=x;exact⟨z,aW,n,r,k _ _ (.inl rfl) e⟩
 | tup xs=>obtain⟨z,aW,r,ob,e,c⟩:=x;exact⟨z,aW,r,ob,k _ _ (.inl rfl) e,c⟩
 | dK kvs=>obtain⟨z,y,vs,r,ob,es,ep,e,c⟩:=x;exact⟨z,y,vs,r,ob,es,ep,k _ _ (.inl rfl) e,c⟩
 | dT kvs=>
  obtain⟨z,y,xs,r,ob,es,ep,e,c⟩:=x
  exact⟨z,y,xs,Paired.DM r λp q z=>⟨z.1,ht _ _ z.2.1,z.2.2⟩,ob,es,ep,k _ _ (.inl rfl) e,c⟩
 | set S n=>obtain⟨ob,es,ep,t,e,c⟩:=x;exact⟨ob,es,ep,t,k _ _ (.inl rfl) e,c⟩
 | ins C dx fs=>
  obtain⟨d,z,ne,e,mA,⟨od,es,ep,e2,c⟩,r⟩:=x
  exact⟨ho _ d,z,ne,k _ _ (.inl rfl) e,mA,⟨od,es,ep,k _ _ (.inr d) e2,c⟩,r⟩
 | own y=>obtain⟨ob,e⟩:=x;exact⟨ob,k _ _ (.inl rfl) e⟩
 | xd fs=>obtain⟨mA,⟨od,es,ep,e,c⟩,r⟩:=x;exact⟨mA,⟨od,es,ep,k _ _ (.inl rfl) e,c⟩,r⟩
 | qW lo hi=>obtain⟨t,u,v,e⟩:=x;exact⟨t,u,v,k _ _ (.inl rfl) e⟩
 | qX ob u ih=>obtain⟨e,q⟩:=x;exact⟨k _ _ (.inl rfl) e,ih q⟩
 | pQ ps=>
  obtain⟨mo,e,q⟩:=x
  refine⟨mo,k _ _ (.inl rfl) e,?_⟩
  rcases q with q | ⟨l,c,c1,qn,t,e1,e2,e3,c2,o2,JN,t2,f1,f2,f3,f4⟩
  ·exact .inl q
  ·cases f1
   exact .inr ⟨l,c,c1,qn,t,e1,e2,ho _ e3,c1,o2,JN,t2,rfl,k _ _ (.inr e3) f2,f3,f4⟩
 | met f y=>
  have e:h.get? a=some (PySem.W.methodObj (.ref f) (.ref y)):=x
  show h'.get? a=some (PySem.W.methodObj (.ref f) (.ref y))
  exact k a _ (.inl rfl) e
 | ext φ=>obtain⟨p,⟨o,e⟩,st⟩:=x;exact⟨st _ _ p λo q=>k _ _ (.inl rfl) q,⟨o,k _ _ (.inl rfl) e⟩,st⟩
theorem gX.lt (x:gX P w H h) (e:H a=some o):a<h.objs.size:=(x a o e).lt
theorem gX.fresh (x:gX P w H h) (e:h.objs.size<=a):H a=none:=by
 cases q:H a with
 | none=>rfl
 | some u=>exact absurd (Y6 (x.lt q) e) (Zj _)
theorem gX.kept (x:gX P w H h) (k:∀b u,h.get? b=some u->h'.get? b=some u):gX P w H h':=λa o e=>
 (x a o e).oi (λb u _ q=>k b u q) (λ_ q=>q) λ_ _ q=>q
theorem gX.laid (x:gX P w H h) (k:∀b u,h.get? b=some u->h'.get? b=some u) (hp:h.objs.size<=a) (new:bY P w (upd H a o) h' a o):gX P w (upd H a o) h':=λb u e=>by
 have hn:=x.fresh hp
 by_cases hb:b=a
 ·subst hb;rw[ar] at e;cases e;exact new
 ·rw[aE hb] at e
  exact(x b u e).oi (λc v _ q=>k c v q) (λc q=>by rw[aE (br q hn)];exact q) λc xs q=>by rw[aE (br q hn)];exact q
end
noncomputable def Rd (H:Hp) (a:Addr) (u:HO):Prop:=H a=some u\/∃o,H a=some (.qX o u)
theorem Rd.ok {P:Program} {w:World} {H:Hp} {h:Heap} {a:Addr} {u:HO} (r:Rd H a u) (x:gX P w H h):bY P w H h a u:=by
 rcases r with r | ⟨o,r⟩
 ·exact x a u r
 ·obtain⟨_,q⟩:=x a _ r
  exact q
noncomputable def Gj:Option HO->Prop
 | some (.lst _)=>True
 | some (.dK _)=>True
 | some (.dT _)=>True
 | some (.set _ _)=>True
 | some (.ins _ _ _)=>True
 | some (.ext _)=>True
 | _=>False
section
variable {P : Program} {w : World} {H : Hp} {h h' : Heap} {x e : Addr} {o' : HO}
theorem gX.write (ok:gX P w H h) (mu:Gj (H x)) (he:e=x\/H e=some (.own x)) (k:∀b u,b≠e->h.get? b=some u->h'.get? b=some u) (FX:∃u,h'.get? e=some u)
  (new:bY P w (upd H x o') h' x o'):gX P w (upd H x o') h':=λb u q=>by
 have Gk:∀c y,H c=some (.own y)->c≠x:=λc y r z=>by subst z;rw[r] at mu;exact mu
 have JO:∀c xs,H c=some (.tup xs)->c≠x:=λc xs r z=>by subst z;rw[r] at mu;exact mu
 by_cases hb:b=x
 ·subst hb;rw[ar] at q;cases q;exact new
 ·rw[aE hb] at q
  by_cases DN:b=e
  ·have q':H b=some (.own x):=by
    rcases he with z | z
    ·exact absurd (DN.trans z) hb
    ·rw[DN];exact z
   rw[q] at q';cases q'
   obtain⟨v,hv⟩:=FX
   exact⟨v,by rw[DN];exact hv⟩
  ·refine(ok b u q).oi (λc v hc r=>k c v ?_ r) (λc r=>by rw[aE (Gk c b r)];exact r) λc xs r=>by rw[aE (JO c xs r)];exact r
   rcases hc with rfl | hc
   ·exact DN
   ·rintro rfl
    rcases he with z | z
    ·exact Gk c b hc z
    ·rw[hc] at z;cases z;exact hb rfl
end
structure Un (fs ex:List Addr) (H H':Hp) (h h':Heap):Prop where
 keep:∀b o,h.get? b=some o->H b=none->b∉fs->b∉ex->h'.get? b=some o
 slot:∀b o,h.get? b=some o->H b=none->b∈fs->b∉ex->∃sl,h'.get? b=some {o with slots:=sl}
 free:∀b o,h.get? b=some o->H b=none->b∉ex->H' b=none
 there:∀b o,h.get? b=some o->b∉ex->∃o',h'.get? b=some o'
 kB:∀b xs,H b=some (.tup xs)->H' b=some (.tup xs)
 mi:∀b o u,H b=some (.qX o u)->H' b=some (.qX o u)
 ml:∀b ps,H b=some (.pQ ps)->∃more,H' b=some (.pQ (ps++more))
section
variable {fs Tx ex FY : List Addr} {H H1 H2 : Hp} {h h1 h2 h' : Heap} {a x e : Addr} {o : HO}
theorem Un.any (u:Un fs ex H H1 h h1) {b:Addr} {ob:Obj} (q:h.get? b=some ob) (n:H b=none) (hx:b∉ex):∃sl,h1.get? b=some {ob with slots:=sl}:=by
 by_cases hb:b∈fs
 ·exact u.slot b ob q n hb hx
 ·exact⟨ob.slots,u.keep b ob q n hb hx⟩
theorem Un.kept (k:∀b u,h.get? b=some u->h'.get? b=some u):Un fs ex H H h h':=
 ⟨λb ob q _ _ _=>k b ob q,λb ob q _ _ _=>⟨ob.slots,k b ob q⟩,λ_ _ _ n _=>n,λb ob q _=>⟨ob,k b ob q⟩,λ_ _ q=>q,λ_ _ _ q=>q,λ_ ps q=>⟨#[],by rw[q];simp⟩⟩
theorem Un.refl:Un fs ex H H h h:=Un.kept λ_ _ q=>q
theorem Un.laid (k:∀b u,h.get? b=some u->h'.get? b=some u) (hp:h.objs.size<=a) (hn:H a=none):Un fs ex H (upd H a o) h h' where
 keep:=λb u q _ _ _=>k b u q
 slot:=λb u q _ _ _=>⟨u.slots,k b u q⟩
 free:=λb u q n _=>by rw[aE (Y0 (Y6 (Heap.lt_size q) hp))];exact n
 there:=λb u q _=>⟨u,k b u q⟩
 kB:=λb xs q=>by rw[aE (br q hn)];exact q
 mi:=λb u xs q=>by rw[aE (br q hn)];exact q
 ml:=λb ps q=>⟨#[],by rw[aE (br q hn),q];simp⟩
theorem Un.write (mu:Gj (H x)) (he:e=x\/H e=some (.own x)) (k:∀b u,b≠e->h.get? b=some u->h'.get? b=some u) (FX:∃u,h'.get? e=some u):Un fs ex H (upd H x o) h h':=by
 have hx:∀b,H b=none->b≠x:=λb n z=>by subst z;rw[n] at mu;exact mu
 have hb:∀b,H b=none->b≠e:=λb n z=>by
  subst z
  rcases he with r | r
  ·exact hx b n r
  ·rw[n] at r;cases r
 have hm:∀b u,H b=some u->¬Gj (some u)->b≠x:=λb u q nm z=>by subst z;rw[q] at mu;exact nm mu
 refine⟨λb u q n _ _=>k b u (hb b n) q,λb u q n _ _=>⟨u.slots,k b u (hb b n) q⟩,λb u q n _=>by rw[aE (hx b n)];exact n,λb u q _=>?_,
  λb xs q=>by rw[aE (hm b _ q λz=>z)];exact q,λb u xs q=>by rw[aE (hm b _ q λz=>z)];exact q,λb ps q=>⟨#[],by rw[aE (hm b _ q λz=>z),q];simp⟩⟩
 by_cases DN:b=e
 ·subst DN;exact FX
 ·exact⟨u,k b u DN q⟩
end
noncomputable def IX (h:Heap) (H:Hp):List Addr:=(List.range h.objs.size).filter λa=>(H a).isSome
noncomputable def mm (h:Heap) (H:Hp):Heap:=PySem.W.hideAll h (IX h H)
theorem xc (h:Heap) (H:Hp):(mm h H).objs.size=h.objs.size:=PySem.W.hideAll_size _ _
theorem yl {h:Heap} {H:Hp} {b:Addr} {o:Obj} (e:h.get? b=some o) (n:H b=none):(mm h H).get? b=some o:=
 PySem.W.hideAll_get _ e λhm=>by
  have q:(H b).isSome=true:=(List.mem_filter.mp hm).2
  rw[n] at q;simp at q
theorem Bi {h:Heap} {H:Hp} {b:Addr} {o:Obj} (e:(mm h H).get? b=some o):h.get? b=some o/\H b=none:=by
 have e':h.get? b=some o:=PySem.W.of_hideAll (IX h H) e
 refine⟨e',?_⟩
 cases q:H b with
 | none=>rfl
 | some x=>
  have hm:b∈IX h H:=List.mem_filter.mpr ⟨List.mem_range.mpr (Heap.lt_size e'),by simp [q]⟩
  have z:(mm h H).get? b=none:=PySem.W.hideAll_none (IX h H) hm
  rw[z] at e;cases e
noncomputable def Bj (g h:Heap) (L:Addr):List (Addr×Obj):=(List.range h.objs.size).filterMap λa=>if a=L\/(g.get? a).isSome=true then none else (h.get? a).map λo=>(a,o)
noncomputable def rest (g h:Heap) (L d:Addr):List (Addr×Obj):=(Bj g h L).filter λp=>decide (p.1≠d)
end L2
namespace L2
open PySem PySem.Spec PyProof.Rows
structure Mod (K:PySem.W.Frag) (mg:Str->Option Value) (base:Heap):Prop where
 Gm:K.In base
 glob:base.Ns mainGlobals mg
 blt:∃mb,base.Ns builtinsNs mb/\∀x:Str,x≠"__name__"->mb x=bootBuiltins x
 nolimit:base.NoLimit
structure Cx where
 prog:Program
 w:World
 K:PySem.W.Frag
 mg:Str->Option Value
 base:Heap
 A:Around
 N:List Str
 s₀:Shared
 H₀:Hp
 env:Env
 outer:List Env
 stack:List Env
 ex:List Addr
 fn:Str->Bool
 calm:Bool
 pn:List (Addr×Obj)
 xe:Value->Shared->Prop
def rA (l:List Env):List Addr:=l.filterMap (·.frame)
abbrev Cx.fs (X:Cx):List Addr:=rA X.outer
noncomputable def JP (sc:Scope) (x:Str):Prop:=sc.names.lookup x=some .local\/sc.names.lookup x=some .cell\/sc.names.lookup x=some .free
noncomputable def Loc (sc:Scope) (x:Str):Prop:=sc.names.lookup x=some .local\/sc.names.lookup x=some .cell
noncomputable def Look (env:Env) (h:Heap) (m:Str->Option Value) (x:Str) (u:Value):Prop:=
 (env.kindOf x=some .local/\m x=some u)\/((env.kindOf x=some .cell\/env.kindOf x=some .free)/\∃c,env.cells.lookup x=some c/\h.IsCell c (some u))
structure Cx.Ok (X:Cx):Prop where
 mod:Mod X.K X.mg X.base
 kind:X.env.scope.kind=.function
 glob:X.env.globals=mainGlobals
 blt:X.env.builtins=builtinsNs
 above:X.s₀.heap.objs.size<=X.env.locals
 inj:∀x y c,X.env.cells.lookup x=some c->X.env.cells.lookup y=some c->x=y
 has:∀x,(X.env.kindOf x=some .cell\/X.env.kindOf x=some .free)->∃c,X.env.cells.lookup x=some c
 FZ:∀x c,X.fn x=true->X.env.cells.lookup x=some c->X.s₀.heap.objs.size<=c
 hd:X.calm=true->X.A.handled=none
 frames:X.A.frames=some X.stack
 yn:X.stack=X.outer\/(X.stack=X.env::X.outer/\X.env.frame=some X.env.locals)
 JQ:∀b∈X.ex,b≠X.env.locals/\∀x c,X.env.cells.lookup x=some c->c≠b
 bs:∀b o,X.base.get? b=some o->X.s₀.heap.get? b=some o/\X.H₀ b=none
 yo:X.base.objs.size<=X.s₀.heap.objs.size
 xg:∀b o,X.base.get? b=some o->b∉X.ex
 yp:∀b∈X.ex,b∉X.fs
 jC:X.s₀.heap.FunFrames X.base X.outer
 CM:∀b∈X.fs,X.H₀ b=none
structure Inv (X:Cx) (pins:List (Addr×Obj)) (σ:List (Option V)) (H:Hp) (s:Shared):Prop where
 ok:X.Ok
 os:s.os=X.s₀.os
 bare:AllBare s.gens
 base:Un X.fs X.ex X.H₀ H X.s₀.heap s.heap
 loc:∃m,s.heap.Ns X.env.locals m/\∀(i:Nat) (x:Str) (v:V),X.N[i]?=some x->σ[i]?=some (some v)->JP X.env.scope x->∃u,RelV v u/\Look X.env s.heap m x u
 cell:∀x c,X.env.cells.lookup x=some c->∃v,s.heap.IsCell c v
 free:H X.env.locals=none
 gv:∀x c,X.env.cells.lookup x=some c->H c=none
 pin:∀p∈X.pn++pins,s.heap.get? p.1=some p.2/\H p.1=none/\p.1≠X.env.locals/\p.1∉X.fs/\∀v,p.2.data≠.cell v
 bJ:gX X.prog X.w H s.heap
 len:σ.length=X.N.length
section
variable {X : Cx} {pins : List (Addr × Obj)} {σ : List (Option V)} {H H' : Hp} {s : Shared} {h' : Heap}
theorem Cx.Ok.JR (ok:X.Ok) {b:Addr} {o:Obj} (e:X.base.get? b=some o):b∉X.fs:=λhb=>by
 have:=(ok.jC.mem hb).1
 rw[e] at this;cases this
theorem Inv.bs (I:Inv X pins σ H s):∀b o,X.base.get? b=some o->s.heap.get? b=some o/\H b=none:=λb o e=>
 ⟨I.base.keep b o (I.ok.bs b o e).1 (I.ok.bs b o e).2 (I.ok.JR e) (I.ok.xg b o e),I.base.free b o (I.ok.bs b o e).1 (I.ok.bs b o e).2 (I.ok.xg b o e)⟩
theorem Inv.bk (I:Inv X pins σ H s):∀b o,X.base.get? b=some o->s.heap.get? b=some o:=λb o e=>(I.bs b o e).1
theorem Inv.mod (I:Inv X pins σ H s):Mod X.K X.mg X.base:=I.ok.mod
theorem Inv.kC (I:Inv X pins σ H s):X.K.In s.heap:=I.ok.mod.Gm.keeps I.bk
theorem Inv.lt (I:Inv X pins σ H s):X.env.locals<s.heap.objs.size:=let ⟨_,hn,_⟩:=I.loc;hn.lt
theorem Inv.sz (I:Inv X pins σ H s):X.s₀.heap.objs.size<=s.heap.objs.size:=Y2 I.ok.above (Nat.le_of_lt I.lt)
theorem Inv.JS (I:Inv X pins σ H s) {a:Addr} (h:s.heap.objs.size<=a):a∉X.fs:=λhb=>by
 obtain⟨_,o,ho,_⟩:=I.ok.jC.mem hb
 exact absurd (Y6 (Heap.lt_size ho) (Y2 I.sz h)) (Zj _)
theorem Inv.DO (I:Inv X pins σ H s):∀x c,X.env.cells.lookup x=some c->c≠X.env.locals:=λx c e z=>by
 obtain⟨v,o,ho,hd⟩:=I.cell x c e
 obtain⟨m,⟨o',es,ep,DP,Gn,_⟩,_⟩:=I.loc
 rw[z,DP] at ho;cases ho;rw[Gn] at hd;cases hd
theorem Inv.jC (I:Inv X pins σ H s):s.heap.FunFrames X.base X.outer:=by
 have all:∀(l:List Env),(∀b∈rA l,b∈X.fs)->X.s₀.heap.FunFrames X.base l->s.heap.FunFrames X.base l:=by
  intro l
  induction l with
  | nil=>intro _ _;trivial
  | cons env r ih=>
   intro hs hl
   obtain⟨hk,⟨L,o,hf,hn,ho,hd⟩,hr⟩:=hl
   have hL:L∈X.fs:=hs L (by unfold rA;rw[List.filterMap_cons,hf];exact YV)
   obtain⟨sl,e⟩:=I.base.slot L o ho (I.ok.CM L hL) hL λz=>I.ok.yp L z hL
   exact⟨hk,⟨L,_,hf,hn,e,hd⟩,ih (λb hb=>hs b (by unfold rA;rw[List.filterMap_cons,hf];exact YW _ hb)) hr⟩
 exact all X.outer (λ_ hb=>hb) I.ok.jC
theorem Inv.stack (I:Inv X pins σ H s):s.heap.FunFrames X.base X.stack:=by
 rcases I.ok.yn with e | ⟨e,hf⟩
 ·rw[e];exact I.jC
 ·rw[e]
  obtain⟨m,hn,_⟩:=I.loc
  refine .cons (by rw[I.ok.kind];decide) hf hn ?_ I.jC
  exact Heap.get?_none_of_le (Y2 I.ok.yo I.ok.above)
theorem Inv.pR (I:Inv X pins σ H s):∀b∈rA X.stack,b∈X.env.locals::X.fs:=λb hb=>by
 rcases I.ok.yn with e | ⟨e,hf⟩
 ·rw[e] at hb;exact YW _ hb
 ·rw[e] at hb
  unfold rA at hb
  rw[List.filterMap_cons,hf] at hb
  exact hb
theorem Inv.vt (I:Inv X pins σ H s):∀b∈rA X.stack,H b=none:=λb hb=>by
 rcases List.mem_cons.mp (I.pR b hb) with e | hb
 ·rw[e];exact I.free
 ·obtain⟨_,o,ho,_⟩:=I.ok.jC.mem hb
  exact I.base.free b o ho (I.ok.CM b hb) λz=>I.ok.yp b z hb
theorem Inv.step {g':Array GenState} {t':Nat} {d':Drawn} {ch:List Addr} (I:Inv X pins σ H s)
  (A5:∀b∈ch,(b∈X.ex\/X.s₀.heap.objs.size<=b)/\b≠X.env.locals/\(∀x c,X.env.cells.lookup x=some c->c≠b)/\∀p∈X.pn++pins,p.1≠b)
  (keep:∀b o,b≠X.env.locals->b∉X.fs->b∉ch->s.heap.get? b=some o->H b=none->h'.get? b=some o)
  (slot:∀b o,b≠X.env.locals->b∈X.fs->b∉ch->s.heap.get? b=some o->H b=none->∃sl,h'.get? b=some {o with slots:=sl}) (free:∀b o,b∉ch->s.heap.get? b=some o->H b=none->H' b=none)
  (there:∀b o,b∉ch->s.heap.get? b=some o->∃o',h'.get? b=some o')
  (kB:∀b xs,H b=some (.tup xs)->H' b=some (.tup xs)) (mi:∀b o u,H b=some (.qX o u)->H' b=some (.qX o u)) (ml:∀b ps,H b=some (.pQ ps)->∃more,H' b=some (.pQ (ps++more)))
  (ns:∀m,s.heap.Ns X.env.locals m->h'.Ns X.env.locals m) (bJ:gX X.prog X.w H' h') (hg:AllBare g'):
  Inv X pins σ H' {s with heap:=h',gens:=g',drawn:=d',toks:=t'}:=by
 have RG:∀b o,X.s₀.heap.get? b=some o->b≠X.env.locals:=λb o e=>Y0 (Y6 (Heap.lt_size e) I.ok.above)
 have IY:∀b o,X.s₀.heap.get? b=some o->b∉X.ex->b∉ch:=λb o e hx hb=>by
  rcases(A5 b hb).1 with z | z
  ·exact hx z
  ·exact absurd (Y6 (Heap.lt_size e) z) (Zj _)
 have cellK:∀x c,X.env.cells.lookup x=some c->∀v,s.heap.IsCell c v->h'.IsCell c v:=λx c e v ⟨o,ho,hd⟩=>by
  have CN:c∉ch:=λz=>(A5 c z).2.2.1 x c e rfl
  by_cases hc:c∈X.fs
  ·obtain⟨sl,q⟩:=slot c o (I.DO x c e) hc CN ho (I.gv x c e)
   exact⟨_,q,hd⟩
  ·exact⟨o,keep c o (I.DO x c e) hc CN ho (I.gv x c e),hd⟩
 refine⟨I.ok,I.os,hg,⟨λb o e n hb hx=>?_,λb o e n hb hx=>?_,λb o e n hx=>?_,λb o e hx=>?_,λb xs e=>kB b xs (I.base.kB b xs e),λb o xs e=>mi b o xs (I.base.mi b o xs e),λb ps e=>?_⟩,?_,λx c e=>?_,?_,λx c e=>?_,λp hp=>?_,bJ,I.len⟩
 ·exact keep b o (RG b o e) hb (IY b o e hx) (I.base.keep b o e n hb hx) (I.base.free b o e n hx)
 ·obtain⟨sl,e1⟩:=I.base.slot b o e n hb hx
  obtain⟨Tz,e2⟩:=slot b _ (RG b o e) hb (IY b o e hx) e1 (I.base.free b o e n hx)
  exact⟨Tz,e2⟩
 ·obtain⟨o',e1⟩:=I.base.there b o e hx
  exact free b o' (IY b o e hx) e1 (I.base.free b o e n hx)
 ·obtain⟨o',e1⟩:=I.base.there b o e hx
  exact there b o' (IY b o e hx) e1
 ·obtain⟨m1,e1⟩:=I.base.ml b ps e
  obtain⟨m2,e2⟩:=ml b _ e1
  exact⟨m1++m2,by rw[e2,Array.append_assoc]⟩
 ·obtain⟨m,hn,hl⟩:=I.loc
  refine⟨m,ns m hn,λi x v e1 e2 e3=>?_⟩
  obtain⟨u,r,l⟩:=hl i x v e1 e2 e3
  refine⟨u,r,?_⟩
  rcases l with l | ⟨k,c,e,z⟩
  ·exact .inl l
  ·exact .inr ⟨k,c,e,cellK x c e _ z⟩
 ·obtain⟨v,z⟩:=I.cell x c e
  exact⟨v,cellK x c e v z⟩
 ·obtain⟨m,⟨o,_,_,ho,_⟩,_⟩:=I.loc
  exact free _ o (λz=>(A5 _ z).2.1 rfl) ho I.free
 ·obtain⟨v,o,ho,hd⟩:=I.cell x c e
  exact free c o (λz=>(A5 c z).2.2.1 x c e rfl) ho (I.gv x c e)
 ·obtain⟨e,n,ne,nf,d⟩:=I.pin p hp
  have CN:p.1∉ch:=λz=>(A5 p.1 z).2.2.2 p hp rfl
  exact⟨keep p.1 p.2 ne nf CN e n,free p.1 p.2 CN e n,ne,nf,d⟩
theorem Inv.un {t':Nat} (I:Inv X pins σ H s) (u:Un X.fs [] H H' s.heap h') (bJ:gX X.prog X.w H' h'):Inv X pins σ H' {s with heap:=h',toks:=t'}:=by
 obtain⟨m,⟨o,es,ep,ho,r⟩,_⟩:=id I.loc
 obtain⟨sl,hL⟩:=u.any ho I.free (by simp)
 exact I.step (g':=s.gens) (d':=s.drawn) (ch:=[]) (λ_ z=>nomatch z) (λb o _ hb _ e n=>u.keep b o e n hb (by simp)) (λb o _ hb _ e n=>u.slot b o e n hb (by simp)) (λb o _ e n=>u.free b o e n (by simp)) (λb o _ e=>u.there b o e (by simp)) u.kB u.mi u.ml (λm' hm=>by
  obtain⟨o',JT,Bl,DP,r'⟩:=hm
  rw[ho] at DP;cases DP
  exact⟨_,JT,Bl,hL,r'⟩) bJ I.bare
theorem Inv.call {g':Array GenState} {t':Nat} {d':Drawn} {ch:List Addr} (I:Inv X pins σ H s) (u:Un (rA X.stack) ch H H' s.heap h') (bJ:gX X.prog X.w H' h') (hg:AllBare g')
  (A5:∀b∈ch,(b∈X.ex\/X.s₀.heap.objs.size<=b)/\b≠X.env.locals/\(∀x c,X.env.cells.lookup x=some c->c≠b)/\∀p∈X.pn++pins,p.1≠b):
  Inv X pins σ H' {s with heap:=h',gens:=g',drawn:=d',toks:=t'}:=by
 obtain⟨m,⟨o,es,ep,ho,r⟩,_⟩:=id I.loc
 obtain⟨sl,hL⟩:=u.any ho I.free λz=>(A5 _ z).2.1 rfl
 exact I.step (ch:=ch) A5 (λb o hL hb hc e n=>u.keep b o e n (λz=>(List.mem_cons.mp (I.pR b z)).elim hL hb) hc) (λb o _ _ hc e n=>u.any e n hc) (λb o hc e n=>u.free b o e n hc) (λb o hc e=>u.there b o e hc) u.kB u.mi u.ml (λm' hm=>by
  obtain⟨o',JT,Bl,DP,r'⟩:=hm
  rw[ho] at DP;cases DP
  exact⟨_,JT,Bl,hL,r'⟩) bJ hg
theorem Inv.turned {t':Nat} {it:Addr} (I:Inv X pins σ H s) (k:∀b o,b≠it->s.heap.get? b=some o->h'.get? b=some o) (hn:H it=none) (hL:it≠X.env.locals)
  (h1:it∈X.ex\/X.s₀.heap.objs.size<=it) (h2:∀x c,X.env.cells.lookup x=some c->c≠it) (h3:∀p∈X.pn++pins,p.1≠it):Inv X pins σ H {s with heap:=h',toks:=t'}:=by
 have RH:∀b u,H b=some u->b≠it:=λb u e z=>by rw[z,hn] at e;cases e
 refine I.step (g':=s.gens) (d':=s.drawn) (ch:=[it]) (λb hb=>?_) (λb o _ _ hc e _=>k b o (λz=>hc (by simp [z])) e) (λb o _ _ hc e _=>⟨o.slots,k b o (λz=>hc (by simp [z])) e⟩) (λ_ _ _ _ n=>n)
  (λb o hc e=>⟨o,k b o (λz=>hc (by simp [z])) e⟩) (λ_ _ e=>e) (λ_ _ _ e=>e) (λb ps e=>⟨#[],by rw[e];simp⟩) (λm hm=>?_) (λb u e=>?_) I.bare
 ·have e:b=it:=by simpa using hb
  subst e
  exact⟨h1,hL,h2,h3⟩
 ·obtain⟨o,es,ep,ho,r⟩:=hm
  exact⟨o,es,ep,k _ o (Ne.symm hL) ho,r⟩
 ·refine(I.bJ b u e).oi (λc v hc q=>k c v ?_ q) (λ_ q=>q) λ_ _ q=>q
  rcases hc with z | z
  ·rw[z];exact RH b u e
  ·exact RH c _ z
theorem Inv.tok (I:Inv X pins σ H s) (t:Nat):Inv X pins σ H {s with toks:=t}:=I.un (h':=s.heap) (t':=t) Un.refl I.bJ
theorem Inv.kept {t':Nat} (I:Inv X pins σ H s) (k:∀b u,s.heap.get? b=some u->h'.get? b=some u):Inv X pins σ H {s with heap:=h',toks:=t'}:=I.un (Un.kept k) (I.bJ.kept k)
theorem Inv.laid {a:Addr} {o:HO} {t':Nat} (I:Inv X pins σ H s) (k:∀b u,s.heap.get? b=some u->h'.get? b=some u) (hp:s.heap.objs.size<=a) (new:bY X.prog X.w (upd H a o) h' a o):
  Inv X pins σ (upd H a o) {s with heap:=h',toks:=t'}:=I.un (Un.laid k hp (I.bJ.fresh hp)) (I.bJ.laid k hp new)
theorem Inv.write {x e:Addr} {o:HO} {t':Nat} (I:Inv X pins σ H s) (mu:Gj (H x)) (he:e=x\/H e=some (.own x)) (k:∀b u,b≠e->s.heap.get? b=some u->h'.get? b=some u) (FX:∃u,h'.get? e=some u)
  (new:bY X.prog X.w (upd H x o) h' x o):Inv X pins σ (upd H x o) {s with heap:=h',toks:=t'}:=I.un (Un.write mu he k FX) (I.bJ.write mu he k FX new)
theorem Inv.iY {CO:List (Addr×Obj)} (I:Inv X pins σ H s) (h:∀p∈CO,s.heap.get? p.1=some p.2/\H p.1=none/\p.1≠X.env.locals/\p.1∉X.fs/\∀v,p.2.data≠.cell v):Inv X CO σ H s:=
 ⟨I.ok,I.os,I.bare,I.base,I.loc,I.cell,I.free,I.gv,λp hp=>(List.mem_append.mp hp).elim (λz=>I.pin p (List.mem_append_left _ z)) (h p),I.bJ,I.len⟩
theorem rB {N:List Str} (hN:N.Nodup) {i j:Nat} {x:Str} (a:N[i]?=some x) (b:N[j]?=some x):i=j:=by
 obtain⟨h1,e1⟩:=List.getElem?_eq_some_iff.mp a
 obtain⟨h2,e2⟩:=List.getElem?_eq_some_iff.mp b
 exact(ZT hN).mp (e1.trans e2.symm)
theorem oR {M:Model} {A:Around} {E:Value->Shared->Prop} {i:Nat} {x:Str} {v:V} {u:Value} {Q:Unit->Shared->Prop} (I:Inv X pins σ H s) (hN:X.N.Nodup) (hi:X.N[i]?=some x) (hx:Loc X.env.scope x) (r:RelV v u)
  (h:∀s',Inv X pins (σ.set i (some v)) H s'->(∃a,Heap.SameBut a s.heap s'.heap/\(a=X.env.locals\/X.env.cells.lookup x=some a))->Q () s') (hf:X.fn x=true\/X.env.scope.names.lookup x=some .local:=by first | exact .inl rfl | exact .inr rfl | assumption):wpAny M A (storeName X.env x u) Q E s:=by
 obtain⟨m,hn,hl⟩:=id I.loc
 have JU:(X.env.scope.kind==.class || (X.env.scope.kind==.module && X.env.locals !=X.env.globals))=false:=by rw[I.ok.kind];rfl
 have RI:i<σ.length:=by rw[I.len];exact(List.getElem?_eq_some_iff.mp hi).1
 have DO:=I.DO
 have tracked:∀{a:Addr} {h':Heap},(∃o,s.heap.get? a=some o/\H a=none)->Heap.SameBut a s.heap h'->gX X.prog X.w H h':=λ{a h'} ha hs b ob e=>by
  obtain⟨_,_,CP⟩:=ha
  refine(I.bJ b ob e).oi (λc w' hc q=>(hs.2 c ?_).trans q) (λ_ q=>q) λ_ _ q=>q
  rintro rfl
  rcases hc with rfl | hc
  ·rw[CP] at e;cases e
  ·rw[CP] at hc;cases hc
 rcases hx with hk | hk
 ·refine wpAny_storeName_local hk hn (λh' TB hs=>?_) JU
  obtain⟨oL,_,_,CQ,_⟩:=id hn
  refine h _ ⟨I.ok,I.os,I.bare,⟨λb o e n hb hx=>?_,λb o e n hb hx=>?_,I.base.free,λb o e hx=>?_,I.base.kB,I.base.mi,I.base.ml⟩,⟨_,TB,λj y v' e1 e2 e3=>?_⟩,λy c e=>?_,I.free,I.gv,λp hp=>?_,tracked ⟨oL,CQ,I.free⟩ hs,by simpa using I.len⟩ ⟨_,hs,.inl rfl⟩
  ·exact(hs.2 b (Y0 (Y6 (Heap.lt_size e) I.ok.above))).trans (I.base.keep b o e n hb hx)
  ·obtain⟨sl,e1⟩:=I.base.slot b o e n hb hx
   exact⟨sl,(hs.2 b (Y0 (Y6 (Heap.lt_size e) I.ok.above))).trans e1⟩
  ·obtain⟨o',e1⟩:=I.base.there b o e hx
   exact⟨o',(hs.2 b (Y0 (Y6 (Heap.lt_size e) I.ok.above))).trans e1⟩
  ·by_cases hj:j=i
   ·subst hj
    rw[hi] at e1;cases e1
    rw[ZU RI] at e2
    cases e2
    exact⟨u,r,.inl ⟨hk,by simp⟩⟩
   ·rw[ZL (Ne.symm hj)] at e2
    obtain⟨u',r',q⟩:=hl j y v' e1 e2 e3
    refine⟨u',r',?_⟩
    rcases q with ⟨k,e⟩ | ⟨k,c,e,z⟩
    ·refine .inl ⟨k,?_⟩
     have:y≠x:=λe=>hj (rB hN e1 (e▸hi))
     simp [this,e]
    ·exact .inr ⟨k,c,e,z.sameBut hs (DO y c e)⟩
  ·obtain⟨w',z⟩:=I.cell y c e
   exact⟨w',z.sameBut hs (DO y c e)⟩
  ·obtain⟨e,n,ne,nf,d⟩:=I.pin p hp
   exact⟨(hs.2 p.1 ne).trans e,n,ne,nf,d⟩
 ·have JV:X.fn x=true:=by
   rcases hf with z | z
   ·exact z
   ·rw[z] at hk;cases hk
  obtain⟨c,hc⟩:=I.ok.has x (.inl hk)
  obtain⟨w',z⟩:=I.cell x c hc
  refine wpAny_storeName_cell I.ok.kind hk hc z (λh' RJ hs=>?_)
  obtain⟨oc,RK,JW⟩:=id z
  refine h {s with heap:=h'} ⟨I.ok,I.os,I.bare,⟨λb o e n hb hx=>?_,λb o e n hb hx=>?_,I.base.free,λb o e hx=>?_,I.base.kB,I.base.mi,I.base.ml⟩,⟨m,hn.sameBut hs (Ne.symm (DO x c hc)),λj y v' e1 e2 e3=>?_⟩,λy c' e=>?_,I.free,I.gv,λp hp=>?_,tracked ⟨oc,RK,I.gv x c hc⟩ hs,by simpa using I.len⟩ ⟨c,hs,.inr hc⟩
  ·exact(hs.2 b (Y0 (Y6 (Heap.lt_size e) (I.ok.FZ x c JV hc)))).trans (I.base.keep b o e n hb hx)
  ·obtain⟨sl,e1⟩:=I.base.slot b o e n hb hx
   exact⟨sl,(hs.2 b (Y0 (Y6 (Heap.lt_size e) (I.ok.FZ x c JV hc)))).trans e1⟩
  ·obtain⟨o',e1⟩:=I.base.there b o e hx
   exact⟨o',(hs.2 b (Y0 (Y6 (Heap.lt_size e) (I.ok.FZ x c JV hc)))).trans e1⟩
  ·by_cases hj:j=i
   ·subst hj
    rw[hi] at e1;cases e1
    rw[ZU RI] at e2
    cases e2
    exact⟨u,r,.inr ⟨.inl hk,c,hc,RJ⟩⟩
   ·rw[ZL (Ne.symm hj)] at e2
    obtain⟨u',r',q⟩:=hl j y v' e1 e2 e3
    refine⟨u',r',?_⟩
    rcases q with q | ⟨k,c',e,z'⟩
    ·exact .inl q
    ·refine .inr ⟨k,c',e,z'.sameBut hs ?_⟩
     rintro rfl
     exact hj (rB hN e1 (I.ok.inj _ _ _ e hc▸hi))
  ·by_cases IZ:c'=c
   ·subst IZ;exact⟨_,RJ⟩
   ·obtain⟨w2,z2⟩:=I.cell y c' e
    exact⟨w2,z2.sameBut hs IZ⟩
  ·obtain⟨e,n,ne,nf,d⟩:=I.pin p hp
   refine⟨(hs.2 p.1 ?_).trans e,n,ne,nf,d⟩
   intro q
   rw[q,RK] at e
   have q':oc=p.2:=Zg e
   exact d w' (by rw[<-q'];exact JW)
theorem iZ {M:Model} {A:Around} {E:Value->Shared->Prop} {i:Nat} {x:Str} {v:V} {u:Value} {Q:Unit->Shared->Prop} (I:Inv X pins σ H s) (hN:X.N.Nodup) (hi:X.N[i]?=some x) (hx:Loc X.env.scope x) (r:RelV v u)
  (h:∀s',Inv X pins (σ.set i (some v)) H s'->Q () s') (hf:X.fn x=true\/X.env.scope.names.lookup x=some .local:=by first | exact .inl rfl | exact .inr rfl | assumption):wpAny M A (storeName X.env x u) Q E s:=
 oR I hN hi hx r (λs' I' _=>h s' I') hf
theorem Inv.Gp {s':Shared} {ch:List Addr} (I:Inv X pins σ H s) (ho:s'.os=s.os) (u:Un (rA X.stack) ch H H' s.heap s'.heap) (bJ:gX X.prog X.w H' s'.heap) (hg:AllBare s'.gens)
  (A5:∀b∈ch,(b∈X.ex\/X.s₀.heap.objs.size<=b)/\b≠X.env.locals/\(∀x c,X.env.cells.lookup x=some c->c≠b)/\∀p∈X.pn++pins,p.1≠b):Inv X pins σ H' s':=by
 obtain⟨h',g',d',t',o'⟩:=s'
 have e:o'=s.os:=ho
 subst e
 exact I.call (g':=g') (t':=t') (d':=d') u bJ hg A5
end
abbrev XK:=Value->Option Addr->Hp->Prop
abbrev St:=List (Option V)
abbrev VK:=V->Hp->Prop
abbrev TE:=St->Hp->VK->Prop
abbrev TT:=St->Hp->(Bool->Hp->Prop)->Prop
abbrev TA:=St->Hp->(List V->Hp->Prop)->Prop
structure Ends where
 nx:St->Hp->Prop
 rt:VK
 bk:St->Hp->Prop:=λ_ _=>False
 ct:St->Hp->Prop:=λ_ _=>False
abbrev TS:=Ends->St->Hp->Prop
noncomputable def EP (X:Cx) (pins:List (Addr×Obj)) (σ:St) (Q:VK) (u:Value) (s':Shared):Prop:=∃v H',Inv X pins σ H' s'/\RelV v u/\Q v H'
noncomputable def TP (X:Cx) (pins:List (Addr×Obj)) (σ:St) (Q:Bool->Hp->Prop) (b:Bool) (s':Shared):Prop:=∃H',Inv X pins σ H' s'/\Q b H'
noncomputable def AP (X:Cx) (pins:List (Addr×Obj)) (σ:St) (Q:List V->Hp->Prop) (us:List Value) (s':Shared):Prop:=∃vs H',Inv X pins σ H' s'/\bj vs us/\Q vs H'
noncomputable def SP (X:Cx) (pins:List (Addr×Obj)) (D:Ends) (f:Flow) (s':Shared):Prop:=
 match f with
 | .next=>∃σ' H',Inv X pins σ' H' s'/\D.nx σ' H'
 | .brk=>∃σ' H',Inv X pins σ' H' s'/\D.bk σ' H'
 | .cont=>∃σ' H',Inv X pins σ' H' s'/\D.ct σ' H'
 | .ret u=>∃v σ' H',Inv X pins σ' H' s'/\RelV v u/\D.rt v H'
noncomputable def PE (X:Cx) (e:Expr) (t:TE):Prop:=
 ∀(pins:List (Addr×Obj)) (s:Shared) (σ:St) (H:Hp) (Q:VK),Inv X pins σ H s->t σ H Q->wpAny (model X.prog X.w) X.A (eval e X.env) (EP X pins σ Q) X.xe s
noncomputable def PT (X:Cx) (e:Expr) (t:TT):Prop:=
 ∀(pins:List (Addr×Obj)) (s:Shared) (σ:St) (H:Hp) (Q:Bool->Hp->Prop),Inv X pins σ H s->t σ H Q->wpAny (model X.prog X.w) X.A (isTrue e X.env (eval e X.env)) (TP X pins σ Q) X.xe s
noncomputable def PW (X:Cx) (e:Expr) (t:TT):Prop:=
 ∀(whole:Sem Value) (pins:List (Addr×Obj)) (s:Shared) (σ:St) (H:Hp) (Q:Bool->Hp->Prop),Inv X pins σ H s->t σ H Q->wpAny (model X.prog X.w) X.A (isTrue e X.env whole) (TP X pins σ Q) X.xe s
theorem PW.pt {X:Cx} {e:Expr} {t:TT} (h:PW X e t):PT X e t:=h _
noncomputable def PA (X:Cx) (es:List Expr) (t:TA):Prop:=
 ∀(pos:Pos) (pins:List (Addr×Obj)) (s:Shared) (σ:St) (H:Hp) (Q:List V->Hp->Prop),Inv X pins σ H s->t σ H Q->wpAny (model X.prog X.w) X.A (spliced (backTo pos (starEach es X.env))) (AP X pins σ Q) X.xe s
noncomputable def PS (X:Cx) (st:Stmt) (t:TS):Prop:=
 ∀(pins:List (Addr×Obj)) (s:Shared) (σ:St) (H:Hp) (D:Ends),Inv X pins σ H s->t D σ H->wpAny (model X.prog X.w) X.A (exec st X.env) (SP X pins D) X.xe s
noncomputable def ub (X:Cx) (st:List Stmt) (t:TS):Prop:=
 ∀(pins:List (Addr×Obj)) (s:Shared) (σ:St) (H:Hp) (D:Ends),Inv X pins σ H s->t D σ H->wpAny (model X.prog X.w) X.A (execs st X.env) (SP X pins D) X.xe s
theorem bU {α:Type} {t:Sem α} {Q Q':α->Shared->Prop} {M:Model} {A:Around} {E:Value->Shared->Prop} {s:Shared} (h:wpAny M A t Q E s) (hQ:∀a s,Q a s->Q' a s):wpAny M A t Q' E s:=wpAny_mono h hQ λ_ _ x=>x
end L2
namespace L2
open PySem PySem.Spec PyProof.Rows
section
variable {X : Cx}
noncomputable def tVar (i:Nat):TE:=λσ H Q=>∃v,σ[i]?=some (some v)/\Q v H
noncomputable def tC (v:V):TE:=λ_ H Q=>Q v H
theorem DQ {i:Nat} {x:Str} {pos:Pos} (hN:X.N[i]?=some x) (hv:JP X.env.scope x) (hd:(x==("__debug__":Str))=false:=by decide) (rC:(x==("__classdict__":Str))=false:=by decide):PE X (.Name x pos) (tVar i):=by
 intro pins s σ H Q I h
 obtain⟨v,e,h⟩:=h
 obtain⟨m,hn,hl⟩:=I.loc
 obtain⟨u,r,l⟩:=hl i x v hN e hv
 have fin:EP X pins σ Q u s:=⟨v,H,I,r,h⟩
 rcases l with ⟨hk,hm⟩ | ⟨hk,c,hc,oS⟩
 ·exact wpAny_Name (wpAny_loadName_local I.ok.kind hk hn hm fin) hd
 ·rcases hk with hk | hk
  ·exact wpAny_Name (wpAny_loadName_cell I.ok.kind hk hc oS fin) hd
  ·exact wpAny_Name (wpAny_loadName_free I.ok.kind hk hc oS fin rC) hd
theorem ao {i j pos}:PE X (.Constant (.int i) j pos) (tC (.int i)):=λ_ _ _ H _ I h=>wpAny_Constant_int ⟨.int i,H,I.tok _,⟨_,rfl⟩,h⟩
theorem mr {b j pos}:PE X (.Constant (.bool b) j pos) (tC (.bl b)):=λ_ _ _ H _ I h=>Constant_bool ⟨.bl b,H,I,rfl,h⟩
theorem eJ {j pos}:PE X (.Constant .none j pos) (tC .cu):=λ_ _ _ H _ I h=>Constant_none ⟨.cu,H,I,rfl,h⟩
theorem dc {x j pos}:PE X (.Constant (.str x) j pos) (tC (.str x)):=λ_ _ _ H _ I h=>Calls.Constant_str ⟨.str x,H,I.tok _,⟨_,rfl⟩,h⟩
noncomputable def Gl (X:Cx) (x:Str):Prop:=X.env.kindOf x=some .globalImplicit
theorem pS {E:Value->Shared->Prop} {pins:List (Addr×Obj)} {s:Shared} {σ:St} {H:Hp} {x:Str} {u:Value} {pos:Pos} {Q:Value->Shared->Prop} (I:Inv X pins σ H s) (hg:Gl X x) (hm:X.mg x=some u) (h:Q u s)
  (hd:(x==("__debug__":Str))=false:=by decide):wpAny (model X.prog X.w) X.A (eval (.Name x pos) X.env) Q E s:=
 Calls.Name_function_global I.ok.kind hg (Calls.loadGlobal_global (by rw[I.ok.glob];exact I.mod.glob.keeps I.bk) hm h) hd
theorem fC {E:Value->Shared->Prop} {pins:List (Addr×Obj)} {s:Shared} {σ:St} {H:Hp} {x:Str} {u:Value} {pos:Pos} {Q:Value->Shared->Prop} (I:Inv X pins σ H s) (hg:Gl X x) (hm:X.mg x=none) (hv:bootBuiltins x=some u) (h:Q u s)
  (hn:x≠"__name__":=by decide) (hd:(x==("__debug__":Str))=false:=by decide):wpAny (model X.prog X.w) X.A (eval (.Name x pos) X.env) Q E s:=by
 obtain⟨mb,h1,h2⟩:=I.mod.blt
 exact Calls.Name_function_global I.ok.kind hg (Calls.loadGlobal_builtin (by rw[I.ok.glob];exact I.mod.glob.keeps I.bk) hm (by rw[I.ok.blt];exact h1.keeps I.bk) ((h2 x hn).trans hv) h) hd
theorem Bo {x:Str} {v:V} {u:Value} {pos:Pos} (hg:Gl X x) (hm:X.mg x=some u) (r:RelV v u) (hd:(x==("__debug__":Str))=false:=by decide):PE X (.Name x pos) (tC v):=
 λ_ _ _ H _ I h=>pS I hg hm ⟨v,H,I,r,h⟩ hd
theorem lH {x:Str} {v:V} {u:Value} {pos:Pos} (hg:Gl X x) (hm:X.mg x=none) (hv:bootBuiltins x=some u) (r:RelV v u) (hn:x≠"__name__":=by decide) (hd:(x==("__debug__":Str))=false:=by decide):PE X (.Name x pos) (tC v):=
 λ_ _ _ H _ I h=>fC I hg hm hv ⟨v,H,I,r,h⟩ hn hd
noncomputable def TC (ta tb:TE) (k:Int->Int->Hp->Prop):St->Hp->Prop:=λσ H=>ta σ H λx H1=>tb σ H1 λy H2=>∃i j,x=.int i/\y=.int j/\k i j H2
variable {a b : Expr} {ta tb : TE} {pos : Pos}
noncomputable def PC (X:Cx) (op:CmpOp) (a b:Expr) (t:TE):Prop:=
 ∀(pins:List (Addr×Obj)) (s:Shared) (σ:St) (H:Hp) (Q:VK),Inv X pins σ H s->t σ H Q->
  wpAny (model X.prog X.w) X.A (eval a X.env) (λv s₁=>wpAny (model X.prog X.w) X.A (eval b X.env) (λu s₂=>wpAny (model X.prog X.w) X.A (compareOp op v u) (EP X pins σ Q) X.xe s₂) X.xe s₁) X.xe s
theorem yq (b:Expr) {op:CmpOp} (h:op≠.In) (h2:op≠.NotIn):behindInMarks op b=false:=by
 have e1:(op==CmpOp.In)=false:=by cases op <;>first | rfl | exact absurd rfl h
 have e2:(op==CmpOp.NotIn)=false:=by cases op <;>first | rfl | exact absurd rfl h2
 cases b <;>simp [behindInMarks,e1,e2]
noncomputable def xh (p:Int->Int->Bool) (ta tb:TE):TE:=λσ H Q=>TC ta tb (λi j H2=>Q (.bl (p i j)) H2) σ H
abbrev XQ:TE->TE->TE:=xh λi j=>decide (i<j)
abbrev XR:TE->TE->TE:=xh λi j=>decide (i<=j)
abbrev XS:TE->TE->TE:=xh λi j=>decide (j<i)
abbrev XT:TE->TE->TE:=xh λi j=>decide (j<=i)
abbrev TF:TE->TE->TE:=xh λi j=>decide (i=j)
abbrev TH:TE->TE->TE:=xh λi j=>!decide (i=j)
noncomputable def tB (t:TE):TT:=λσ H Q=>t σ H λx H1=>∃c,x=.bl c/\Q c H1
theorem uc {op:CmpOp} {t:TE} (h:PC X op a b t) (h1:behindInMarks op b=false:=by first | exact yq _ (by decide) (by decide) | rfl):PT X (.Compare a [op] [b] pos) (tB t):=by
 intro pins s σ H Q I hw
 refine wpAny_isTrue_Compare1 (bU (h pins s σ H _ I hw) λv s1 h1=>bU h1 λu s2 h2=>bU h2 λc s3 cI=>?_) h1
 obtain⟨x,H1,I1,r1,q1⟩:=cI
 obtain⟨d,rfl,q⟩:=q1
 cases r1
 exact wpAny_truthy_bool ⟨H1,I1,q⟩
theorem gz {e:Expr} {t:TE} (h:PE X e t) (he:∀whole,isTrue e X.env whole=(do let v <-whole;standAt e.pos;holding [v] (truthy v)):=by intro _;rfl):PT X e (tB t):=by
 intro pins s σ H Q I hw
 refine isTrue_plain (bU (h pins s σ H _ I hw) λv s1 cI=>?_) (he _)
 obtain⟨x,H1,I1,r1,q1⟩:=cI
 obtain⟨d,rfl,q⟩:=q1
 cases r1
 exact wpAny_truthy_bool ⟨H1,I1,q⟩
variable {tA I0 : TT} {rest : List Expr}
noncomputable def tAnd (t u:TT):TT:=λσ H Q=>t σ H λc H1=>if c=true then u σ H1 Q else Q false H1
noncomputable def tOr (t u:TT):TT:=λσ H Q=>t σ H λc H1=>if c=true then Q true H1 else u σ H1 Q
noncomputable def tNot (t:TT):TT:=λσ H Q=>t σ H λc H1=>Q (!c) H1
theorem pw_and1 (ha:PT X a tA):PW X (.BoolOp .And [a] pos) tA:=by
 intro wh pins s σ H Q I h
 refine isTrue_and (bU (ha pins s σ H Q I h) λc s1 e=>?_)
 cases c with
 | true=>exact isTrue_and_nil e
 | false=>exact e
theorem pw_or1 (ha:PT X a tA):PW X (.BoolOp .Or [a] pos) tA:=by
 intro wh pins s σ H Q I h
 refine isTrue_or (bU (ha pins s σ H Q I h) λc s1 e=>?_)
 cases c with
 | false=>exact isTrue_or_nil e
 | true=>exact e
theorem pw_and (ha:PT X a tA) (hb:PW X (.BoolOp .And (b::rest) pos) I0):PW X (.BoolOp .And (a::b::rest) pos) (tAnd tA I0):=by
 intro wh pins s σ H Q I h
 refine isTrue_and (bU (ha pins s σ H _ I h) λc s1 ⟨H1,I1,q1⟩=>?_)
 cases c with
 | true=>exact hb wh pins s1 σ H1 Q I1 q1
 | false=>exact⟨H1,I1,q1⟩
theorem pw_or (ha:PT X a tA) (hb:PW X (.BoolOp .Or (b::rest) pos) I0):PW X (.BoolOp .Or (a::b::rest) pos) (tOr tA I0):=by
 intro wh pins s σ H Q I h
 refine isTrue_or (bU (ha pins s σ H _ I h) λc s1 ⟨H1,I1,q1⟩=>?_)
 cases c with
 | true=>exact⟨H1,I1,q1⟩
 | false=>exact hb wh pins s1 σ H1 Q I1 q1
theorem jD (ha:PT X a tA):PT X (.UnaryOp .Not a pos) (tNot tA):=by
 intro pins s σ H Q I h
 exact isTrue_not (ha pins s σ H (λc H1=>Q (!c) H1) I h)
noncomputable def tAndV (ta tb:TE):TE:=λσ H Q=>ta σ H λx H1=>∃c,x=.bl c/\if c=true then tb σ H1 Q else Q (.bl false) H1
noncomputable def tOrV (ta tb:TE):TE:=λσ H Q=>ta σ H λx H1=>∃c,x=.bl c/\if c=true then Q (.bl true) H1 else tb σ H1 Q
noncomputable def tNotV (ta:TE):TE:=λσ H Q=>ta σ H λx H1=>∃c,x=.bl c/\Q (.bl (!c)) H1
theorem DR {op} {t:TE} (h:PE X a t):PE X (.BoolOp op [a] pos) t:=λpins s σ H Q I hw=>BoolOp_one (h pins s σ H Q I hw)
theorem DS (ha:PE X a ta) (hb:PE X (.BoolOp .And (b::rest) pos) tb):PE X (.BoolOp .And (a::b::rest) pos) (tAndV ta tb):=by
 intro pins s σ H Q I h
 refine BoolOp_and (bU (ha pins s σ H _ I h) λv s1 cI=>?_)
 obtain⟨x,H1,I1,r1,q1⟩:=cI
 obtain⟨c,rfl,q1⟩:=q1
 cases r1
 refine wpAny_truthy_bool ?_
 cases c with
 | true=>exact hb pins s1 σ H1 Q I1 q1
 | false=>exact⟨.bl false,H1,I1,rfl,q1⟩
noncomputable def tIf (t:TT) (ta tb:TE):TE:=λσ H Q=>t σ H λc H1=>if c=true then ta σ H1 Q else tb σ H1 Q
theorem i4 {c:Expr} (hc:PT X c tA) (ha:PE X a ta) (hb:PE X b tb):PE X (.IfExp c a b pos) (tIf tA ta tb):=by
 intro pins s σ H Q I h
 refine wpAny_IfExp (bU (hc pins s σ H _ I h) λd s1 ⟨H1,I1,q1⟩=>?_)
 cases d with
 | true=>exact ha pins s1 σ H1 Q I1 q1
 | false=>exact hb pins s1 σ H1 Q I1 q1
end
end L2
namespace L2
open PySem PySem.Spec PyProof.Rows
noncomputable def aZ (K:PySem.W.Frag) (H:Hp) (a:Addr) (xs:List V):Prop:=
 Rd H a (.lst xs)\/
  ∃(o:Obj) (aW:Array Value) (n:Nat),K.lookup a=some o/\o.cls=.type "list"/\o.dict=none/\o.data=.seq aW n/\aW.size<=sizeLine/\bj xs aW.toList
noncomputable def eA (K:PySem.W.Frag) (H:Hp) (a:Addr) (xs:List V):Prop:=
 Rd H a (.tup xs)\/
  ∃(o:Obj) (aW:Array Value) (n:Nat),K.lookup a=some o/\o.cls=.type "tuple"/\o.data=.seq aW n/\aW.size<=sizeLine/\bj xs aW.toList
noncomputable def JX:Value->Option V
 | .none=>some .cu
 | .bool b=>some (.bl b)
 | .int i _=>some (.int i)
 | .str x _=>some (.str x)
 | .bytes b _=>some (.yb b)
 | .float b _=>some (.DL b)
 | .ref a=>some (.ref a)
 | .type n=>some (.ty n)
 | _=>none
theorem RelV.abs {x:V} {u:Value} (r:RelV x u):JX u=some x:=by
 cases x with
 | cu=>cases r;rfl
 | bl _=>cases r;rfl
 | int _=>obtain⟨t,rfl⟩:=r;rfl
 | str _=>obtain⟨t,rfl⟩:=r;rfl
 | yb _=>obtain⟨t,rfl⟩:=r;rfl
 | DL _=>obtain⟨t,rfl⟩:=r;rfl
 | ref _=>cases r;rfl
 | ty _=>cases r;rfl
theorem RelV.inj {x y:V} {u:Value} (r:RelV x u) (q:RelV y u):x=y:=Zg (r.abs.symm.trans q.abs)
theorem bj.inj:∀{xs ys:List V} {us:List Value},bj xs us->bj ys us->xs=ys
 | _,_,_,.nil,.nil=>rfl
 | _,_,_,.cons r t,.cons r' t'=>by rw[r.inj r',bj.inj t t']
section
variable {X : Cx} {pins : List (Addr × Obj)} {σ : St} {H : Hp} {s : Shared} {a : Addr} {xs ys : List V}
theorem aZ.of {K:PySem.W.Frag} (h:H a=some (.lst xs)):aZ K H a xs:=.inl (.inl h)
theorem eA.of {K:PySem.W.Frag} (h:H a=some (.tup xs)):eA K H a xs:=.inl (.inl h)
theorem Inv.list (I:Inv X pins σ H s) (h:aZ X.K H a xs):∃aW:List Value,bj xs aW/\PlainL s.heap a aW.toArray/\xs.length<=sizeLine:=by
 rcases h with h | ⟨o,aW,n,hk,hc,hd,hs,hz,r⟩
 ·obtain⟨z,aW,n,r,e⟩:=h.ok I.bJ
  exact⟨aW,r,⟨_,n,e,rfl,rfl,rfl⟩,z⟩
 ·refine⟨aW.toList,r,⟨o,n,I.kC a o hk,hc,hd,by simpa using hs⟩,?_⟩
  have e:=r.length
  simp only[Array.length_toList] at e
  omega
theorem Inv.tuple (I:Inv X pins σ H s) (h:eA X.K H a xs):∃aW:List Value,bj xs aW/\IsTup s.heap a aW.toArray/\xs.length<=sizeLine:=by
 rcases h with h | ⟨o,aW,n,hk,hc,hs,hz,r⟩
 ·obtain⟨z,aW,r,p⟩:=h.ok I.bJ
  exact⟨aW,r,p,z⟩
 ·refine⟨aW.toList,r,⟨o,I.kC a o hk,hc,n,by simpa using hs⟩,?_⟩
  have e:=r.length
  simp only[Array.length_toList] at e
  omega
theorem Inv.gA (I:Inv X pins σ H s) (h:aZ X.K H a xs) (h':aZ X.K H a ys):xs=ys:=by
 obtain⟨aW,r,⟨o,n,e,_,_,d⟩,_⟩:=I.list h
 obtain⟨its',r',⟨o',n',e',_,_,d'⟩,_⟩:=I.list h'
 rw[e] at e';cases e'
 rw[d] at d'
 injection d' with d1 _
 have:aW=its':=by simpa using congrArg Array.toList d1
 subst this
 exact r.inj r'
theorem Inv.xk (I:Inv X pins σ H s) (h:eA X.K H a xs) (h':eA X.K H a ys):xs=ys:=by
 obtain⟨aW,r,⟨o,e,_,n,d⟩,_⟩:=I.tuple h
 obtain⟨its',r',⟨o',e',_,n',d'⟩,_⟩:=I.tuple h'
 rw[e] at e';cases e'
 rw[d] at d'
 injection d' with d1 _
 have:aW=its':=by simpa using congrArg Array.toList d1
 subst this
 exact r.inj r'
end
abbrev Cx.jE (X:Cx) (E:Value->Shared->Prop):Cx:={X with xe:=E}
abbrev Cx.F0 (X:Cx):Cx:=X.jE λ_ _=>False
theorem Cx.Ok.jE {X:Cx} (ok:X.Ok) (E:Value->Shared->Prop):(X.jE E).Ok:=
 ⟨ok.mod,ok.kind,ok.glob,ok.blt,ok.above,ok.inj,ok.has,ok.FZ,ok.hd,ok.frames,ok.yn,ok.JQ,ok.bs,ok.yo,ok.xg,ok.yp,ok.jC,ok.CM⟩
theorem Cx.Ok.fE {X:Cx} {E:Value->Shared->Prop} (ok:(X.jE E).Ok):X.Ok:=
 ⟨ok.mod,ok.kind,ok.glob,ok.blt,ok.above,ok.inj,ok.has,ok.FZ,ok.hd,ok.frames,ok.yn,ok.JQ,ok.bs,ok.yo,ok.xg,ok.yp,ok.jC,ok.CM⟩
section
variable {X : Cx} {pins : List (Addr × Obj)} {σ : St} {H : Hp} {s : Shared} {E : Value -> Shared -> Prop}
theorem Inv.jE (I:Inv X pins σ H s) (E:Value->Shared->Prop):Inv (X.jE E) pins σ H s:=⟨I.ok.jE E,I.os,I.bare,I.base,I.loc,I.cell,I.free,I.gv,I.pin,I.bJ,I.len⟩
theorem Inv.fE (I:Inv (X.jE E) pins σ H s):Inv X pins σ H s:=⟨I.ok.fE,I.os,I.bare,I.base,I.loc,I.cell,I.free,I.gv,I.pin,I.bJ,I.len⟩
theorem SP.fE {D:Ends} {f:Flow} {s':Shared} (h:SP (X.jE E) pins D f s'):SP X pins D f s':=by
 cases f with
 | next=>obtain⟨σ',H',I,q⟩:=h;exact⟨σ',H',I.fE,q⟩
 | brk=>obtain⟨σ',H',I,q⟩:=h;exact⟨σ',H',I.fE,q⟩
 | cont=>obtain⟨σ',H',I,q⟩:=h;exact⟨σ',H',I.fE,q⟩
 | ret u=>obtain⟨v,σ',H',I,r,q⟩:=h;exact⟨v,σ',H',I.fE,r,q⟩
theorem ub.F0 {st:List Stmt} {t:TS} (h:ub X.F0 st t):ub X st t:=λpins s σ H D I hw=>
 wpAny_mono (h pins s σ H D (I.jE _) hw) (λ_ _ q=>q.fE) λ_ _ z=>False.elim z
end
section
variable {X : Cx} {st : Stmt} {rest : List Stmt} {t u : TS} {e : Expr} {te : TE} {pos : Pos}
noncomputable def tNext:TS:=λD σ H=>D.nx σ H
noncomputable def tSeq (t u:TS):TS:=λD σ H=>t {D with nx:=u D} σ H
theorem bq:ub X [] tNext:=λ_ _ σ H _ I h=>wpAny_execs_nil ⟨σ,H,I,h⟩
theorem af (h1:PS X st t) (h2:ub X rest u):ub X (st::rest) (tSeq t u):=by
 intro pins s σ H D I h
 refine wpAny_execs_cons (bU (h1 pins s σ H {D with nx:=u D} I h) λf s1 q=>?_)
 cases f with
 | next=>
  obtain⟨σ',H',I',q⟩:=q
  exact h2 pins s1 σ' H' D I' q
 | ret v=>exact q
 | brk=>exact q
 | cont=>exact q
theorem au (h1:PS X st t):ub X [st] t:=by
 intro pins s σ H D I h
 refine wpAny_execs_cons (bU (h1 pins s σ H D I h) λf s1 q=>?_)
 cases f with
 | next=>exact wpAny_execs_nil q
 | ret v=>exact q
 | brk=>exact q
 | cont=>exact q
theorem Inv.quiet {pins:List (Addr×Obj)} {σ:St} {H:Hp} {s:Shared} (I:Inv X pins σ H s):interactive X.env=false:=by simp [interactive,I.ok.kind]
noncomputable def tDrop (te:TE):TS:=λD σ H=>te σ H λ_ H1=>D.nx σ H1
theorem cW (he:PE X e te) (hs:swapsWith e none pos.line X.env=pure false:=by rfl):PS X (.Expr e pos) (tDrop te):=by
 intro pins s σ H D I h
 exact wpAny_Expr_any (bU (he pins s σ H _ I h) λv s1 ⟨x,H1,I1,r1,q1⟩=>⟨σ,H1,I1,q1⟩) I.quiet hs
noncomputable def tRet (te:TE):TS:=λD σ H=>te σ H D.rt
theorem aN (he:PE X e te):PS X (.Return (some e) pos) (tRet te):=by
 intro pins s σ H D I h
 exact wpAny_Return_some (bU (he pins s σ H _ I h) λv s1 ⟨x,H1,I1,r1,q1⟩=>⟨x,σ,H1,I1,r1,q1⟩)
noncomputable def tRetN:TS:=λD _ H=>D.rt .cu H
noncomputable def tIfS (c:TT) (t u:TS):TS:=λD σ H=>c σ H λb H1=>if b=true then t D σ H1 else u D σ H1
theorem bN {c:Expr} {a b:List Stmt} {tc:TT} (hc:PT X c tc) (ha:ub X a t) (hb:ub X b u):PS X (.If c a b pos) (tIfS tc t u):=by
 intro pins s σ H D I h
 refine wpAny_If (bU (hc pins s σ H _ I h) λd s1 ⟨H1,I1,q1⟩=>?_)
 cases d with
 | true=>exact ha pins s1 σ H1 D I1 q1
 | false=>exact hb pins s1 σ H1 D I1 q1
noncomputable def DT:TS:=λ_ _ _=>False
theorem mv:PS X st DT:=λ_ _ _ _ _ _ h=>h.elim
end
abbrev TG:=V->St->Hp->(St->Hp->Prop)->Prop
abbrev CS:=List V->St->Hp->(St->Hp->Prop)->Prop
noncomputable def PG (X:Cx) (target:Expr) (t:TG):Prop:=
 ∀(pins:List (Addr×Obj)) (s:Shared) (σ:St) (H:Hp) (v:V) (u:Value) (Q:St->Hp->Prop),Inv X pins σ H s->RelV v u->t v σ H Q->
  wpAny (model X.prog X.w) X.A (assign target X.env u) (λ_ s'=>∃σ' H',Inv X pins σ' H' s'/\Q σ' H') X.xe s
noncomputable def F1 (X:Cx) (ts:List Expr) (t:CS):Prop:=
 ∀(pins:List (Addr×Obj)) (s:Shared) (σ:St) (H:Hp) (vs:List V) (us:List Value) (Q:St->Hp->Prop),Inv X pins σ H s->bj vs us->t vs σ H Q->
  wpAny (model X.prog X.w) X.A (assignInOrder ((assignEach ts X.env).map (·.2)) us) (λ_ s'=>∃σ' H',Inv X pins σ' H' s'/\Q σ' H') X.xe s
abbrev yr:=V->V->V->Hp->(Hp->Prop)->Prop
noncomputable def DU (X:Cx) (t:yr):Prop:=
 ∀(pins:List (Addr×Obj)) (s:Shared) (σ:St) (H:Hp) (o i v:V) (ov iv u:Value) (Q:Hp->Prop),Inv X pins σ H s->RelV o ov->RelV i iv->RelV v u->t o i v H Q->
  wpAny (model X.prog X.w) X.A (setItem ov iv u) (λ_ s'=>∃H',Inv X pins σ H' s'/\Q H') X.xe s
abbrev Ja:=V->V->Hp->VK->Prop
noncomputable def JY (X:Cx) (op:Operator) (t:Ja):Prop:=
 ∀(pins:List (Addr×Obj)) (s:Shared) (σ:St) (H:Hp) (x y:V) (v u:Value) (Q:VK),Inv X pins σ H s->RelV x v->RelV y u->t x y H Q->
  wpAny (model X.prog X.w) X.A (inplaceOp op v u) (EP X pins σ Q) X.xe s
section
variable {X : Cx} {pos : Pos}
noncomputable def gName (i:Nat):TG:=λv σ H Q=>Q (σ.set i (some v)) H
theorem aG {i:Nat} {x:Str} (hN:X.N.Nodup) (hi:X.N[i]?=some x) (hx:Loc X.env.scope x) (hf:X.fn x=true\/X.env.scope.names.lookup x=some .local:=by first | exact .inl rfl | exact .inr rfl | assumption):PG X (.Name x pos) (gName i):=by
 intro pins s σ H v u Q I r h
 exact wpAny_assign_Name (iZ I hN hi hx r (λs' I'=>⟨_,H,I',h⟩) hf)
noncomputable def gNil:CS:=λvs σ H Q=>vs=[]/\Q σ H
noncomputable def gCons (t:TG) (u:CS):CS:=λvs σ H Q=>∃v r,vs=v::r/\t v σ H λσ' H'=>u r σ' H' Q
theorem b9:F1 X [] gNil:=by
 intro pins s σ H vs us Q I r h
 obtain⟨e,h⟩:=h
 subst e
 cases r
 exact assignInOrder_nil ⟨σ,H,I,h⟩
theorem aT {e:Expr} {es:List Expr} {t:TG} {u:CS} (h1:PG X e t) (h2:F1 X es u)
  (hs:(assignEach (e::es) X.env).map (·.2)=assign e X.env::(assignEach es X.env).map (·.2):=by rfl):F1 X (e::es) (gCons t u):=by
 intro pins s σ H vs us Q I r h
 obtain⟨v,vr,e1,h⟩:=h
 subst e1
 cases r with
 | cons r rr=>
  rw[hs]
  refine assignInOrder_cons (bU (h1 pins s σ H _ _ _ I r h) λ_ s1 ⟨σ1,H1,I1,q1⟩=>?_)
  exact h2 pins s1 σ1 H1 _ _ Q I1 rr q1
noncomputable def yt (K:PySem.W.Frag) (n:Nat) (t:CS):TG:=λv σ H Q=>∃a xs,v=.ref a/\eA K H a xs/\xs.length=n/\t xs σ H Q
theorem DV {es:List Expr} {k:Nat} {t:CS} {n:Nat} (hc:X.calm=true) (h:F1 X es t)
  (hn:(assignEach es X.env).length=n:=by rfl) (hst:(assignEach es X.env).findIdx? (·.1)=none:=by rfl):PG X (.Tuple es k pos) (yt X.K n t):=by
 intro pins s σ H v u Q I r hw
 obtain⟨a,xs,e1,hq,hl,hw⟩:=hw
 subst e1
 cases r
 obtain⟨aW,rv,ht,hz⟩:=I.tuple hq
 refine assign_Tuple_tuple (I.ok.hd hc) ht (by simp [hn,<-hl,rv.length]) hst λh' hx=>?_
 have I1:Inv X pins σ H {s with heap:=h'}:=I.kept (t':=s.toks) λb o e=>hx b o (Y0 (Heap.lt_size e)) e
 exact h pins _ σ H xs _ Q I1 (by simpa using rv) hw
noncomputable def gSub (to ti:TE) (t:yr):TG:=λv σ H Q=>to σ H λo H1=>ti σ H1 λi H2=>t o i v H2 λH3=>Q σ H3
theorem eK {o i:Expr} {to ti:TE} {t:yr} (ho:PE X o to) (hi:PE X i ti) (hs:DU X t)
  (ha:∀v,assign (.Subscript o i pos) X.env v=(do
   let ov <-holding [v] (eval o X.env)
   let iv <-holding [v,ov] (eval i X.env)
   standAt pos
   holding [v,ov,iv] (setItem ov iv v)
   release [v,ov,iv] []):=by intro _;rfl):PG X (.Subscript o i pos) (gSub to ti t):=by
 intro pins s σ H v u Q I r h
 rw[ha]
 refine wpAny_bind (wpAny_holding (bU (ho pins s σ H _ I h) λov s1 cI=>?_))
 obtain⟨x,H1,I1,r1,q1⟩:=cI
 refine wpAny_bind (wpAny_holding (bU (hi pins s1 σ H1 _ I1 q1) λiv s2 cI=>?_))
 obtain⟨y,H2,I2,r2,q2⟩:=cI
 refine wpAny_bind (wpAny_standAt (wpAny_bind (wpAny_holding (bU (hs pins s2 σ H2 x y v ov iv u _ I2 r1 r2 r q2) λ_ s3 ⟨H3,I3,q3⟩=>?_))))
 exact wpAny_release ⟨σ,H3,I3,q3⟩
noncomputable def tAsg (te:TE) (g:TG):TS:=λD σ H=>te σ H λx H1=>g x σ H1 D.nx
theorem eL {tg e:Expr} {te:TE} {g:TG} (he:PE X e te) (hg:PG X tg g) (hs:swapsWithSole [tg] e pos.line X.env=pure false:=by rfl) (hw:swappedStores [tg] e X.env=pure none:=by rfl)
  (h1:(assignEach [tg] X.env).map (·.2)=[assign tg X.env]:=by rfl):PS X (.Assign [tg] e pos) (tAsg te g):=by
 intro pins s σ H D I h
 refine wpAny_Assign_stores (bU (he pins s σ H _ I h) λv s1 cI=>?_) hs hw
 obtain⟨x,H1,I1,r1,q1⟩:=cI
 rw[h1]
 exact bU (hg pins s1 σ H1 x v _ I1 r1 q1) λ_ s2 q=>q
theorem aF {i:Nat} {x:Str} {e:Expr} {te:TE} {pos':Pos} (hN:X.N.Nodup) (hi:X.N[i]?=some x) (hx:Loc X.env.scope x) (he:PE X e te) (hs:swapsWith e (some (.Name x pos')) pos.line X.env=pure false:=by rfl) (hf:X.fn x=true\/X.env.scope.names.lookup x=some .local:=by first | exact .inl rfl | exact .inr rfl | assumption):
  PS X (.Assign [.Name x pos'] e pos) (tAsg te (gName i)):=by
 intro pins s σ H D I h
 refine wpAny_Assign_Name (bU (he pins s σ H _ I h) λv s1 cI=>?_) hs
 obtain⟨y,H1,I1,r1,q1⟩:=cI
 exact iZ I1 hN hi hx r1 (λs2 I2=>⟨_,H1,I2,q1⟩) hf
noncomputable def tPar (i j:Nat) (ta:TA):TS:=λD σ H=>ta σ H λvs H1=>∃v w,vs=[v,w]/\D.nx ((σ.set i (some v)).set j (some w)) H1
theorem DW {i j:Nat} {x y:Str} {a b:Expr} {ta:TA} {px py pt:Pos} {kt k2 JZ} (hc:X.calm=true) (hN:X.N.Nodup) (hi:X.N[i]?=some x) (hj:X.N[j]?=some y) (J0:i≠j)
  (hx:X.env.scope.names.lookup x=some .local) (hy:X.env.scope.names.lookup y=some .local) (ha:PA X [a,b] ta)
  (hw:swappedStores [.Tuple [.Name x px,.Name y py] kt pt] (.Tuple [a,b] k2 JZ) X.env=pure (some [x,y]))
  (hs:swapsWithSole [.Tuple [.Name x px,.Name y py] kt pt] (.Tuple [a,b] k2 JZ) pos.line X.env=pure false:=by rfl):
  PS X (.Assign [.Tuple [.Name x px,.Name y py] kt pt] (.Tuple [a,b] k2 JZ) pos) (tPar i j ta):=by
 intro pins s σ H D I h
 rw[exec_Assign_arm]
 refine wpAny_bind (wpAny_standAt ?_)
 rw[hs]
 refine wpAny_bind (wpAny_pure ?_)
 rw[if_neg (by decide)]
 refine wpAny_bind (Tuple_ (bU (ha _ pins s σ H _ I h) λus s1 cI=>?_))
 obtain⟨vs,H1,I1,r1,q1⟩:=cI
 obtain⟨v,w,e1,q1⟩:=q1
 subst e1
 obtain⟨u1,u2,rfl,rv,oj⟩:∃u1 u2,us=[u1,u2]/\RelV v u1/\RelV w u2:=by
  cases r1 with
  | cons p q=>
   cases q with
   | cons p' q'=>
    cases q'
    exact⟨_,_,rfl,p,p'⟩
 refine wpAny_newObj_type ?_ (by show 2<=sizeLine;decide)
 have I2:Inv X pins σ H1 {s1 with heap:=s1.heap.push {cls:=.type "tuple",data:=.seq [u1,u2].toArray}}:=I1.kept (t':=s1.toks) λb o e=>Heap.get?_push_of_some _ e
 rw[hw]
 refine wpAny_bind (wpAny_pure ?_)
 show wpAny (model X.prog X.w) X.A (do rule "assign.swapped-stores";let items <-unpackItems (.ref s1.heap.objs.size) 2 none;assignInOrder [λv=>bindName X.env y v,λv=>bindName X.env x v] items.reverse;pure Flow.next) _ _ _
 refine wpAny_bind (wpAny_rule (wpAny_bind (unpackItems_tuple (items:=#[u1,u2]) (I.ok.hd hc) (IsTup.new s1.heap _) λh' kD=>?_)))
 have I3:=I2.kept (h':=h') (t':=s1.toks) λb o e=>kD b o (Y0 (Heap.lt_size e)) e
 show wpAny _ _ (assignInOrder [λv=>bindName X.env y v,λv=>bindName X.env x v] [u2,u1] >>=λ_=>pure Flow.next) _ _ _
 refine wpAny_bind (assignInOrder_cons (wpAny_bindName (iZ I3 hN hj (.inl hy) oj (λs2 I4=>?_) (.inr hy))))
 refine assignInOrder_cons (wpAny_bindName (iZ I4 hN hi (.inl hx) rv (λs3 I5=>assignInOrder_nil (wpAny_pure ?_)) (.inr hx)))
 rw[List.set_comm _ _ (Ne.symm J0)] at I5
 exact⟨_,H1,I5,q1⟩
noncomputable def yu (to ti te:TE) (Bp:V->V->Hp->VK->Prop) (Jb:Ja) (Bq:yr):TS:=λD σ H=>to σ H λo H1=>ti σ H1 λi H2=>Bp o i H2 λx H3=>te σ H3 λy H4=>Jb x y H4 λz H5=>Bq o i z H5 λH6=>D.nx σ H6
noncomputable def Gq (X:Cx) (t:V->V->Hp->VK->Prop):Prop:=
 ∀(pins:List (Addr×Obj)) (s:Shared) (σ:St) (H:Hp) (o i:V) (ov iv:Value) (Q:VK),Inv X pins σ H s->RelV o ov->RelV i iv->t o i H Q->
  wpAny (model X.prog X.w) X.A (getItem ov iv) (EP X pins σ Q) X.xe s
theorem vv {o i e:Expr} {to ti te:TE} {Bp:V->V->Hp->VK->Prop} {Jb:Ja} {Bq:yr} {op:Operator} {mw:Pos} (ho:PE X o to) (hi:PE X i ti) (hg:Gq X Bp) (he:PE X e te) (hp:JY X op Jb) (hs:DU X Bq)
  (ha:∀ov iv new,augStore i ov iv new=(do holding [new,ov,iv] (setItem ov iv new);release [new,ov,iv] [];pure .next):=by intros;rfl):PS X (.AugAssign (.Subscript o i mw) op e pos) (yu to ti te Bp Jb Bq):=by
 intro pins s σ H D I h
 refine wpAny_AugAssign_SubscriptAny (bU (ho pins s σ H _ I h) λov s1 cI=>?_) ha
 obtain⟨x1,H1,I1,r1,q1⟩:=cI
 refine bU (hi pins s1 σ H1 _ I1 q1) λiv s2 cI=>?_
 obtain⟨x2,H2,I2,r2,q2⟩:=cI
 refine bU (hg pins s2 σ H2 x1 x2 ov iv _ I2 r1 r2 q2) λold s3 cI=>?_
 obtain⟨x3,H3,I3,r3,q3⟩:=cI
 refine bU (he pins s3 σ H3 _ I3 q3) λv s4 cI=>?_
 obtain⟨x4,H4,I4,r4,q4⟩:=cI
 refine bU (hp pins s4 σ H4 x3 x4 old v _ I4 r3 r4 q4) λnew s5 cI=>?_
 obtain⟨x5,H5,I5,r5,q5⟩:=cI
 exact bU (hs pins s5 σ H5 x1 x2 x5 ov iv new _ I5 r1 r2 r5 q5) λ_ s6 ⟨H6,I6,q6⟩=>⟨σ,H6,I6,q6⟩
noncomputable def Jc (f:Int->Int->Int):Ja:=λx y H Q=>∃i j,x=.int i/\y=.int j/\Q (.int (f i j)) H
theorem DX:JY X .Add (Jc λi j=>i+j):=by
 intro pins s σ H x y v u Q I r1 r2 h
 obtain⟨i,j,e1,e2,q⟩:=h
 subst e1;subst e2
 obtain⟨t,rfl⟩:=r1
 obtain⟨t',rfl⟩:=r2
 exact iadd_int ⟨.int _,H,I.tok _,⟨_,rfl⟩,q⟩
theorem DY:JY X .Sub (Jc λi j=>i - j):=by
 intro pins s σ H x y v u Q I r1 r2 h
 obtain⟨i,j,e1,e2,q⟩:=h
 subst e1;subst e2
 obtain⟨t,rfl⟩:=r1
 obtain⟨t',rfl⟩:=r2
 exact isub_int ⟨.int _,H,I.tok _,⟨_,rfl⟩,q⟩
end
section
variable {X : Cx} {pos : Pos}
noncomputable def ue (c:TT) (tb:TS):TS:=λD σ H=>∃W:Nat->St->Hp->Prop,(∃m,W m σ H)/\∀m σ H,W m σ H->
 c σ H λb H1=>if b=true then ∃N:St->Hp->Prop,(∀σ' H',N σ' H'->∃m',m'<m/\W m' σ' H')/\tb {D with nx:=N,ct:=N,bk:=D.nx} σ H1 else D.nx σ H1
theorem i5 {c:Expr} {body:List Stmt} {tc:TT} {tb:TS} (hp:PassesOwn (model X.prog X.w) X.A X.env X.xe) (hc:PT X c tc) (hb:ub X body tb):PS X (.While c body [] pos) (ue tc tb):=by
 intro pins s σ H D I h
 obtain⟨W,⟨m0,w0⟩,turn⟩:=h
 refine wpAny_While (codeAny_whileLoop (λn s'=>∃σ' H',Inv X pins σ' H' s'/\W n σ' H') ?_ m0 ⟨σ,H,I,w0⟩)
 rintro n s1 ⟨σ1,H1,I1,w1⟩
 refine wpAny_passesOwn hp (bU (hc pins s1 σ1 H1 _ I1 (turn n σ1 H1 w1)) λb s2 ⟨H2,I2,q2⟩=>?_)
 cases b with
 | true=>
  obtain⟨N,hN,q2⟩:=q2
  rw[if_pos rfl]
  refine wpAny_passesOwn hp (bU (hb pins s2 σ1 H2 _ I2 q2) λf s3 q3=>?_)
  cases f with
  | next=>
   obtain⟨σ3,H3,I3,n3⟩:=q3
   obtain⟨m',hm,w3⟩:=hN σ3 H3 n3
   exact⟨m',hm,σ3,H3,I3,w3⟩
  | cont=>
   obtain⟨σ3,H3,I3,n3⟩:=q3
   obtain⟨m',hm,w3⟩:=hN σ3 H3 n3
   exact⟨m',hm,σ3,H3,I3,w3⟩
  | brk=>exact q3
  | ret v=>exact q3
 | false=>
  rw[if_neg Y7]
  exact wpAny_execs_nil ⟨σ1,H2,I2,q2⟩
end
structure It where
 go:Nat->Hp->Prop
 t6:Nat->Hp->V->Hp->Prop
 stop:Nat->Hp->Prop
noncomputable def ij (X:Cx) (pins:List (Addr×Obj)) (H:Hp) (b:Addr):Prop:=
 H b=none/\b≠X.env.locals/\b∉X.fs/\(b∈X.ex\/X.s₀.heap.objs.size<=b)/\(∀x c,X.env.cells.lookup x=some c->c≠b)/\∀p∈X.pn++pins,p.1≠b
theorem Inv.rD {X:Cx} {pins:List (Addr×Obj)} {σ:St} {H H':Hp} {s:Shared} {b:Addr} (I:Inv X pins σ H s) (hb:s.heap.objs.size<=b) (hn:H' b=none):ij X pins H' b:=by
 refine⟨hn,Nat.ne_of_gt (Y6 I.lt hb),I.JS hb,.inr (Y2 I.sz hb),λx c e z=>?_,λp hp z=>?_⟩
 ·obtain⟨v,q⟩:=I.cell x c e
  exact absurd (Y6 q.lt (by rw[z];exact hb)) (Zj _)
 ·exact absurd (Y6 (Heap.lt_size (I.pin p hp).1) (by rw[z];exact hb)) (Zj _)
structure Turn (P:Program) (w:World) (K:PySem.W.Frag) (tg:Expr) (J:It) (fp:List Addr) (it:Addr) (tn:Nat->Heap->Prop):Prop where
 mem:it∈fp
 obj:∀i h,tn i h->∀b∈fp,∃o,h.get? b=some o/\∀v,o.data≠.cell v
 keep:∀i h h',tn i h->(∀b∈fp,∀o,h.get? b=some o->h'.get? b=some o)->tn i h'
 item:∀(X:Cx),X.prog=P->X.w=w->X.K=K->X.calm=true->∀(i:Nat) (pins:List (Addr×Obj)) (s:Shared) (σ:St) (H:Hp) (E:Value->Shared->Prop),Inv X pins σ H s->(∀b∈fp,ij X pins H b)->tn i s.heap->J.go i H->
  wpAny (model P w) X.A (pyNext (.ref it)) (λr s1=>∃u,r=some u/\
   wpAny (model P w) X.A (letOwnedTupleGo tg (.ref it) u) (λ_ s2=>∃x H',Inv X pins σ H' s2/\RelV x u/\J.t6 i H x H'/\tn (i+1) s2.heap/\∀b∈fp,H' b=none) E s1) E s
 done:∀(X:Cx),X.prog=P->X.w=w->X.K=K->X.calm=true->∀(i:Nat) (pins:List (Addr×Obj)) (s:Shared) (σ:St) (H:Hp) (E:Value->Shared->Prop),Inv X pins σ H s->(∀b∈fp,ij X pins H b)->tn i s.heap->J.stop i H->
  wpAny (model P w) X.A (pyNext (.ref it)) (λr s1=>r=none/\Inv X pins σ H s1) E s
 self:∀(A:Around) (i:Nat) (s:Shared) (Q:Value->Shared->Prop) (E:Value->Shared->Prop),tn i s.heap->Q (.ref it) s->wpAny (model P w) A (pyIter (.ref it)) Q E s
abbrev TI:=St->Hp->(It->Hp->Prop)->Prop
noncomputable def RL (X:Cx) (pins:List (Addr×Obj)) (σ:St) (tg:Expr) (R:It->Hp->Prop) (CT:Value) (s2:Shared):Prop:=
 ∃(it:Addr) (fp:List Addr) (tn:Nat->Heap->Prop) (J:It) (H':Hp),CT=.ref it/\Inv X pins σ H' s2/\Turn X.prog X.w X.K tg J fp it tn/\tn 0 s2.heap/\(∀b∈fp,ij X pins H' b)/\R J H'
noncomputable def PI (X:Cx) (tg iter:Expr) (wi:TI):Prop:=
 ∀(pins:List (Addr×Obj)) (s:Shared) (σ:St) (H:Hp) (R:It->Hp->Prop),Inv X pins σ H s->wi σ H R->
  wpAny (model X.prog X.w) X.A (eval iter X.env) (λv s1=>wpAny (model X.prog X.w) X.A (pyIter v) (RL X pins σ tg R) X.xe s1) X.xe s
theorem vA {M:Model} {A:Around} {E:Value->Shared->Prop} {s:Shared} {tg:Expr} {it:Addr} {u:Value} {o:Obj} {n:String} {vs:Array Value} {Q:Unit->Shared->Prop} (ho:s.heap.get? it=some o) (hc:o.cls=.type n) (hd:o.data=.fields vs)
  (hn:["enumerate","zip","dict_itemiterator","dict_reverseitemiterator","odict_iterator","itertools.zip_longest","itertools.pairwise"].contains n=false) (hQ:Q () s):wpAny M A (letOwnedTupleGo tg (.ref it) u) Q E s:=by
 unfold letOwnedTupleGo
 cases tg <;>first
  | exact wpAny_pure hQ
  | (cases u <;>first
    | exact wpAny_pure hQ
    | (refine wpAny_bind (wpAny_load ho ?_)
       rw[hc,hd]
       show wpAny M A (if (["enumerate","zip","dict_itemiterator","dict_reverseitemiterator","odict_iterator","itertools.zip_longest","itertools.pairwise"].contains n && vs[0]?==some (rawInt _))=true then _ else _) Q E s
       rw[if_neg (by intro h;rw[hn,Bool.false_and] at h;cases h)]
       exact wpAny_pure hQ))
noncomputable def vB (K:PySem.W.Frag) (a:Addr):It:=
 ⟨λi H=>∃xs x,aZ K H a xs/\xs[i]?=some x,λi H x H'=>H'=H/\∀xs,aZ K H a xs->xs[i]?=some x,λi H=>∃xs,aZ K H a xs/\xs.length<=i⟩
noncomputable def Gr (K:PySem.W.Frag) (a:Addr):It:=
 ⟨λi H=>∃xs x,eA K H a xs/\xs[i]?=some x,λi H x H'=>H'=H/\∀xs,eA K H a xs->xs[i]?=some x,λi H=>∃xs,eA K H a xs/\xs.length<=i⟩
noncomputable def Gs (lo:Int) (n:Nat):It:=⟨λi _=>i<n,λi H x H'=>H'=H/\x=.int (lo+i),λi _=>n<=i⟩
theorem xl {P:Program} {w:World} {K:PySem.W.Frag} {tg:Expr} (a it:Addr):Turn P w K tg (vB K a) [it] it (λi h=>h.IsListIter it a i) where
 mem:=by simp
 obj:=λi h st b hb=>by
  have e:b=it:=by simpa using hb
  subst e
  obtain⟨o,e,c,d⟩:=st
  exact⟨o,e,λv z=>by rw[d] at z;cases z⟩
 keep:=λi h h' st k=>st.at λo e=>k it (by simp) o e
 item:=by
  intro X hP hw hK hc i pins s σ H E I hf st hg
  subst hP hw hK
  obtain⟨xs,x,hq,hx⟩:=hg
  obtain⟨aW,rv,p,hz⟩:=I.list hq
  obtain⟨u,hu,ru⟩:=rv.get hx
  obtain⟨f0,f1,f2,f3,f4,f5⟩:=hf it (by simp)
  refine wpAny_pyNext_list_item st p.isList (x:=u) (by simpa using hu) λh' rE sb=>?_
  have I1:Inv X pins σ H {s with heap:=h'}:=I.turned (t':=s.toks) (λb o hb e=>(sb.2 b hb).trans e) f0 f1 f3 f4 f5
  obtain⟨o,e,c,d⟩:=id rE
  exact⟨u,rfl,vA (s:={s with heap:=h'}) e c d (by decide) ⟨x,H,I1,ru,⟨rfl,λys hy=>by rw[I.gA hy hq];exact hx⟩,rE,λb hb=>(hf b hb).1⟩⟩
 done:=by
  intro X hP hw hK hc i pins s σ H E I hf st hg
  subst hP hw hK
  obtain⟨xs,hq,hx⟩:=hg
  obtain⟨aW,rv,p,hz⟩:=I.list hq
  obtain⟨f0,f1,f2,f3,f4,f5⟩:=hf it (by simp)
  have hl:=rv.length
  exact wpAny_pyNext_list_end (I.ok.hd hc) st p.isList (by simp;omega) λh' eb=>⟨rfl,I.turned (t':=s.toks) (λb o hb e=>eb b o hb e) f0 f1 f3 f4 f5⟩
 self:=λ_ _ _ _ _ st h=>wpAny_pyIter_listiter st h
theorem uf {P:Program} {w:World} {K:PySem.W.Frag} {tg:Expr} (a it:Addr):Turn P w K tg (Gr K a) [it] it (λi h=>h.IsTupleIter it a i) where
 mem:=by simp
 obj:=λi h st b hb=>by
  have e:b=it:=by simpa using hb
  subst e
  obtain⟨o,e,c,d⟩:=st
  exact⟨o,e,λv z=>by rw[d] at z;cases z⟩
 keep:=λi h h' st k=>st.at λo e=>k it (by simp) o e
 item:=by
  intro X hP hw hK hc i pins s σ H E I hf st hg
  subst hP hw hK
  obtain⟨xs,x,hq,hx⟩:=hg
  obtain⟨aW,rv,p,hz⟩:=I.tuple hq
  obtain⟨u,hu,ru⟩:=rv.get hx
  obtain⟨f0,f1,f2,f3,f4,f5⟩:=hf it (by simp)
  refine wpAny_pyNext_tuple_item st (show s.heap.IsTuple a aW.toArray from p) (x:=u) (by simpa using hu) λh' rE sb=>?_
  have I1:Inv X pins σ H {s with heap:=h'}:=I.turned (t':=s.toks) (λb o hb e=>(sb.2 b hb).trans e) f0 f1 f3 f4 f5
  obtain⟨o,e,c,d⟩:=id rE
  exact⟨u,rfl,vA (s:={s with heap:=h'}) e c d (by decide) ⟨x,H,I1,ru,⟨rfl,λys hy=>by rw[I.xk hy hq];exact hx⟩,rE,λb hb=>(hf b hb).1⟩⟩
 done:=by
  intro X hP hw hK hc i pins s σ H E I hf st hg
  subst hP hw hK
  obtain⟨xs,hq,hx⟩:=hg
  obtain⟨aW,rv,p,hz⟩:=I.tuple hq
  obtain⟨f0,f1,f2,f3,f4,f5⟩:=hf it (by simp)
  have hl:=rv.length
  exact wpAny_pyNext_tuple_end (I.ok.hd hc) st (show s.heap.IsTuple a aW.toArray from p) (by simp;omega) λh' eb=>⟨rfl,I.turned (t':=s.toks) (λb o hb e=>eb b o hb e) f0 f1 f3 f4 f5⟩
 self:=λ_ _ _ _ _ st h=>wpAny_pyIter_tupleiter st h
theorem ug {P:Program} {w:World} {K:PySem.W.Frag} {tg:Expr} (it:Addr) (lo:Int) (n:Nat):Turn P w K tg (Gs lo n) [it] it (λi h=>IsRangeIter h it (lo+ (i:Nat)*1) ((n:Int) - (i:Nat)) 1) where
 mem:=by simp
 obj:=λi h st b hb=>by
  have e:b=it:=by simpa using hb
  subst e
  exact⟨_,st,λv z=>by
   have z':Data.fields _=Data.cell v:=z
   cases z'⟩
 keep:=λi h h' st k=>k it (by simp) _ st
 item:=by
  intro X hP hw hK hc i pins s σ H E I hf st hg
  subst hP hw hK
  obtain⟨f0,f1,f2,f3,f4,f5⟩:=hf it (by simp)
  have W:=Walks.range (prog:=X.prog) (w:=X.w) (I.ok.hd hc) it lo 1 n
  refine W.item i s _ _ hg st λv h' tk hv rE kk=>?_
  obtain⟨t,rfl⟩:=hv
  have I1:Inv X pins σ H {s with heap:=h',toks:=tk}:=I.turned (λb o hb e=>kk b o (by simpa using hb) e) f0 f1 f3 f4 f5
  refine⟨_,rfl,vA (s:={s with heap:=h',toks:=tk}) (n:="range_iterator") rE rfl rfl (by decide) ⟨.int (lo+i),H,I1,⟨t,?_⟩,⟨rfl,rfl⟩,rE,λb hb=>(hf b hb).1⟩⟩
  rw[Int.mul_one]
 done:=by
  intro X hP hw hK hc i pins s σ H E I hf st hg
  subst hP hw hK
  obtain⟨f0,f1,f2,f3,f4,f5⟩:=hf it (by simp)
  exact wpAny_pyNext_range_end (I.ok.hd hc) st (by have:n<=i:=hg;omega) λh' eb=>⟨rfl,I.turned (t':=s.toks) (λb o hb e=>eb b o hb e) f0 f1 f3 f4 f5⟩
 self:=λ_ _ _ _ _ st h=>wpAny_pyIter_rangeiter st h
end L2
namespace L2
open PySem PySem.Spec PyProof.Rows
section
variable {X : Cx} {tg : Expr}
noncomputable def iList (K:PySem.W.Frag) (tl:TE):TI:=λσ H R=>tl σ H λx H1=>∃a,x=.ref a/\(∃xs,aZ K H1 a xs)/\R (vB K a) H1
noncomputable def iTup (K:PySem.W.Frag) (tl:TE):TI:=λσ H R=>tl σ H λx H1=>∃a,x=.ref a/\(∃xs,eA K H1 a xs)/\R (Gr K a) H1
theorem Br {l:Expr} {tl:TE} (hl:PE X l tl):PI X tg l (iList X.K tl):=by
 intro pins s σ H R I h
 refine bU (hl pins s σ H _ I h) λv s1 cI=>?_
 obtain⟨x,H1,I1,r1,q1⟩:=cI
 obtain⟨a,e,⟨xs,hq⟩,q⟩:=q1
 subst e
 cases r1
 obtain⟨aW,rv,p,hz⟩:=I1.list hq
 refine wpAny_pyIter_list p.isList ?_
 refine⟨s1.heap.objs.size,[s1.heap.objs.size],_,_,H1,rfl,I1.kept (t':=s1.toks) λb o e=>Heap.get?_push_of_some _ e,xl a _,⟨_,Heap.get?_push_size _ rfl,rfl,rfl⟩,λb hb=>?_,q⟩
 have e:b=s1.heap.objs.size:=by simpa using hb
 subst e
 exact I1.rD (YS _) (I1.bJ.fresh (YS _))
theorem DZ {l:Expr} {tl:TE} (hl:PE X l tl):PI X tg l (iTup X.K tl):=by
 intro pins s σ H R I h
 refine bU (hl pins s σ H _ I h) λv s1 cI=>?_
 obtain⟨x,H1,I1,r1,q1⟩:=cI
 obtain⟨a,e,⟨xs,hq⟩,q⟩:=q1
 subst e
 cases r1
 obtain⟨aW,rv,p,hz⟩:=I1.tuple hq
 refine wpAny_pyIter_tuple (show s1.heap.IsTuple a aW.toArray from p) ?_
 refine⟨s1.heap.objs.size,[s1.heap.objs.size],_,_,H1,rfl,I1.kept (t':=s1.toks) λb o e=>Heap.get?_push_of_some _ e,uf a _,⟨_,Heap.get?_push_size _ rfl,rfl,rfl⟩,λb hb=>?_,q⟩
 have e:b=s1.heap.objs.size:=by simpa using hb
 subst e
 exact I1.rD (YS _) (I1.bJ.fresh (YS _))
theorem rF {pins:List (Addr×Obj)} {σ:St} {H:Hp} {s:Shared} {R:It->Hp->Prop} {E:Value->Shared->Prop} {lo hi:Int} {t u v:Tok} {tk:Nat} (I:Inv X pins σ H s) (h1:-(2^62)<=lo) (h2:lo<2^62) (h3:-(2^62)<=hi) (h4:hi<2^62)
  (q:R (Gs lo (hi - lo).toNat) H):wpAny (model X.prog X.w) X.A (pyIter (.ref s.heap.objs.size)) (RL X pins σ tg R) E {s with heap:=s.heap.push {cls:=.type "range",data:=.fields #[.int lo t,.int hi u,.int 1 v]},toks:=tk}:=by
 refine wpAny_pyIter_range (IsRange.new ..) (small_one h1 h2 h3 h4) ?_
 have I1:Inv X pins σ H {s with heap:=s.heap.push {cls:=.type "range",data:=.fields #[.int lo t,.int hi u,.int 1 v]},toks:=tk}:=I.kept λb o e=>Heap.get?_push_of_some _ e
 refine⟨(s.heap.push {cls:=.type "range",data:=.fields #[.int lo t,.int hi u,.int 1 v]}).objs.size,[(s.heap.push {cls:=.type "range",data:=.fields #[.int lo t,.int hi u,.int 1 v]}).objs.size],_,_,H,rfl,
  I1.kept (t':=tk) λb o e=>Heap.get?_push_of_some _ e,ug _ lo (hi - lo).toNat,?_,λb hb=>?_,q⟩
 ·have e1:lo+ ((0:Nat):Int)*1=lo:=by simp
  have e2:(((hi - lo).toNat:Nat):Int) - ((0:Nat):Int)=Builtin.Range.rangeSize lo hi 1:=by rw[rangeSize_one];split <;>omega
  show IsRangeIter _ _ (lo+ ((0:Nat):Int)*1) ((((hi - lo).toNat:Nat):Int) - ((0:Nat):Int)) 1
  rw[e1,e2]
  exact Heap.get?_push_size _ rfl
 ·have e:b=(s.heap.push {cls:=.type "range",data:=.fields #[.int lo t,.int hi u,.int 1 v]}).objs.size:=by simpa using hb
  subst e
  exact I1.rD (YS _) (I1.bJ.fresh (YS _))
noncomputable def iRng1 (ta:TA):TI:=λσ H R=>ta σ H λvs H1=>∃j:Int,vs=[.int j]/\-(2^62)<=j/\j<2^62/\R (Gs 0 j.toNat) H1
noncomputable def iRng2 (ta:TA):TI:=λσ H R=>ta σ H λvs H1=>∃i j:Int,vs=[.int i,.int j]/\(-(2^62)<=i/\i<2^62/\-(2^62)<=j/\j<2^62)/\R (Gs i (j - i).toNat) H1
theorem cy {a:Expr} {ta:TA} {p pos:Pos} (hg:Gl X "range") (hm:X.mg "range"=none) (ha:PA X [a] ta) (hs:starEach [a] X.env=[(false,eval a X.env)]:=by rfl):PI X tg (.Call (.Name "range" p) [a] [] pos) (iRng1 ta):=by
 intro pins s σ H R I h
 refine Call_ (fC I hg hm boot_range (Z5 (bU (ha pos pins s σ H _ I h) λus s1 cI=>?_) hs rfl))
 obtain⟨vs,H1,I1,r1,q1⟩:=cI
 obtain⟨j,e,q1,q2,q⟩:=q1
 subst e
 cases r1 with
 | cons r rr=>
  cases rr
  obtain⟨t,rfl⟩:=r
  exact call_range_1 (rF I1 (by omega) (by omega) q1 q2 (by simpa using q))
theorem xm {a b:Expr} {ta:TA} {p pos:Pos} (hg:Gl X "range") (hm:X.mg "range"=none) (ha:PA X [a,b] ta) (hs:starEach [a,b] X.env=[(false,eval a X.env),(false,eval b X.env)]:=by rfl) (CU:starEach [b] X.env=[(false,eval b X.env)]:=by rfl):
  PI X tg (.Call (.Name "range" p) [a,b] [] pos) (iRng2 ta):=by
 intro pins s σ H R I h
 refine Call_ (fC I hg hm boot_range (Z5 (bU (ha pos pins s σ H _ I h) λus s1 cI=>?_) (by rw[hs,CU]) (by rw[CU];rfl)))
 obtain⟨vs,H1,I1,r1,q1⟩:=cI
 obtain⟨i,j,e,⟨q1,q2,q3,q4⟩,q⟩:=q1
 subst e
 cases r1 with
 | cons r rr=>
  cases rr with
  | cons r' rr=>
   cases rr
   obtain⟨t,rfl⟩:=r
   obtain⟨t',rfl⟩:=r'
   exact call_range_2 (rF I1 q1 q2 q3 q4 q)
noncomputable def Gu (wi:TI) (g:TG) (tb:TS):TS:=λD σ H=>wi σ H λJ H1=>∃W:Nat->Nat->St->Hp->Prop,(∃m,W 0 m σ H1)/\∀i m σ H,W i m σ H->
 (J.stop i H/\D.nx σ H)\/(J.go i H/\∃N:St->Hp->Prop,(∀σ' H',N σ' H'->∃m',m'<m/\W (i+1) m' σ' H')/\∀x H',J.t6 i H x H'->g x σ H' λσ2 H2=>tb {D with nx:=N,ct:=N,bk:=D.nx} σ2 H2)
noncomputable def mz (fp:List Addr) (h:Heap):List (Addr×Obj):=fp.filterMap λb=>(h.get? b).map λo=>(b,o)
theorem fF {fp:List Addr} {h:Heap} {b:Addr} {o:Obj} (hb:b∈fp) (e:h.get? b=some o):(b,o)∈mz fp h:=List.mem_filterMap.mpr ⟨b,hb,by rw[e];rfl⟩
theorem xn {fp:List Addr} {h:Heap} {p:Addr×Obj} (hp:p∈mz fp h):p.1∈fp/\h.get? p.1=some p.2:=by
 obtain⟨b,hb,e⟩:=List.mem_filterMap.mp hp
 cases q:h.get? b with
 | none=>rw[q] at e;cases e
 | some o=>
  rw[q] at e
  have e':(b,o)=p:=Zg e
  subst e'
  exact⟨hb,q⟩
theorem Inv.pinned {pins:List (Addr×Obj)} {σ:St} {H:Hp} {s:Shared} {fp:List Addr} (I:Inv X pins σ H s) (hf:∀b∈fp,ij X pins H b) (ho:∀b∈fp,∃o,s.heap.get? b=some o/\∀v,o.data≠.cell v):Inv X (pins++mz fp s.heap) σ H s:=
 I.iY λp hp=>(List.mem_append.mp hp).elim (λz=>I.pin p (Zp _ z)) λz=>by
  obtain⟨hb,e⟩:=xn z
  obtain⟨f0,f1,f2,_⟩:=hf p.1 hb
  obtain⟨o,e',d⟩:=ho p.1 hb
  rw[e] at e';cases e'
  exact⟨e,f0,f1,f2,d⟩
theorem Inv.mB {pins pl:List (Addr×Obj)} {σ:St} {H:Hp} {s:Shared} (I:Inv X (pins++pl) σ H s):Inv X pins σ H s:=I.iY λp hp=>I.pin p (Zp _ (List.mem_append_left _ hp))
theorem bO {iter:Expr} {body:List Stmt} {wi:TI} {g:TG} {tb:TS} {pos:Pos} (hp:PassesOwn (model X.prog X.w) X.A X.env X.xe) (hc:X.calm=true) (hi:PI X tg iter wi) (hg:PG X tg g) (hb:ub X body tb)
  (hs:∀x,foldedSetIterable iter X.env x=pure x:=by intro _;rfl):PS X (.For tg iter body [] pos) (Gu wi g tb):=by
 intro pins s σ H D I h
 refine wpAny_For (bU (hi pins s σ H _ I h) λv s1 h1=>bU h1 λCT s2 h2=>?_) hs
 obtain⟨it,fp,tn,J,H2,e,I2,T,uh,f2,W,⟨m0,w0⟩,turn⟩:=h2
 subst e
 have uj:∀{H':Hp},(∀b∈fp,H' b=none)->∀b∈fp,ij X pins H' b:=λhn b hb=>⟨hn b hb,(f2 b hb).2⟩
 refine codeAny_forLoop_any (λn s'=>∃i σ' H',Inv X pins σ' H' s'/\tn i s'.heap/\(∀b∈fp,H' b=none)/\W i n σ' H') ?_ m0 ⟨0,σ,H2,I2,uh,λb hb=>(f2 b hb).1,w0⟩
 rintro n s3 ⟨i,σ3,H3,I3,RM,RN,w3⟩
 rcases turn i n σ3 H3 w3 with ⟨stop,qn⟩ | ⟨go,N,hN,step⟩
 ·refine wpAny_passesOwn hp (bU (T.done X rfl rfl rfl hc i pins s3 σ3 H3 X.xe I3 (uj RN) RM stop) λr s4 ⟨hr,I4⟩=>?_)
  subst hr
  exact wpAny_execs_nil ⟨σ3,H3,I4,qn⟩
 ·refine wpAny_passesOwn hp (bU (T.item X rfl rfl rfl hc i pins s3 σ3 H3 X.xe I3 (uj RN) RM go) λr s4 ⟨u,hr,h4⟩=>?_)
  subst hr
  refine wpAny_passesOwn hp (bU h4 λ_ s5 cI=>?_)
  obtain⟨x,H5,I5,r5,y5,J1,TK⟩:=cI
  have TL:=I5.pinned (uj TK) (T.obj _ _ J1)
  refine wpAny_passesOwn hp (bU (hg _ s5 σ3 H5 x u _ TL r5 (step x H5 y5)) λ_ s6 ⟨σ6,H6,I6,q6⟩=>?_)
  refine wpAny_passesOwn hp (bU (hb _ s6 σ6 H6 _ I6 q6) λf s7 q7=>?_)
  have again:∀{σ7:St} {H7:Hp},Inv X (pins++mz fp s5.heap) σ7 H7 s7->N σ7 H7->∃m,m<n/\∃i σ' H',Inv X pins σ' H' s7/\tn i s7.heap/\(∀b∈fp,H' b=none)/\W i m σ' H':=λ{σ7 H7} I7 n7=>by
   obtain⟨m',hm,w7⟩:=hN σ7 H7 n7
   refine⟨m',hm,i+1,σ7,H7,I7.mB,T.keep _ _ _ J1 λb hb o e=>(I7.pin (b,o) (Zp _ (Zp _ (fF hb e)))).1,λb hb=>?_,w7⟩
   obtain⟨o,e,d⟩:=T.obj _ _ J1 b hb
   exact(I7.pin (b,o) (Zp _ (Zp _ (fF hb e)))).2.1
  cases f with
  | next=>obtain⟨σ7,H7,I7,n7⟩:=q7;exact again I7 n7
  | cont=>obtain⟨σ7,H7,I7,n7⟩:=q7;exact again I7 n7
  | brk=>obtain⟨σ7,H7,I7,q7⟩:=q7;exact⟨σ7,H7,I7.mB,q7⟩
  | ret v=>obtain⟨x7,σ7,H7,I7,r7,q7⟩:=q7;exact⟨x7,σ7,H7,I7.mB,r7,q7⟩
end
theorem Bs {K:PySem.W.Frag} {a:Addr} {xs:List V} {g:TG} {tb:TS} {D:Ends} {σ:St} {H:Hp} (Pv:Nat->St->Hp->Prop) (h0:Pv 0 σ H) (hl:∀i σ H,i<=xs.length->Pv i σ H->eA K H a xs)
  (hs:∀i x σ H,xs[i]?=some x->Pv i σ H->g x σ H λσ2 H2=>tb {D with nx:=Pv (i+1),ct:=Pv (i+1),bk:=D.nx} σ2 H2) (hd:∀σ H,Pv xs.length σ H->D.nx σ H):
  ∃W:Nat->Nat->St->Hp->Prop,(∃m,W 0 m σ H)/\∀i m σ H,W i m σ H->
   ((Gr K a).stop i H/\D.nx σ H)\/((Gr K a).go i H/\∃N:St->Hp->Prop,(∀σ' H',N σ' H'->∃m',m'<m/\W (i+1) m' σ' H')/\∀x H',(Gr K a).t6 i H x H'->g x σ H' λσ2 H2=>tb {D with nx:=N,ct:=N,bk:=D.nx} σ2 H2):=by
 refine⟨λi m σ H=>m=xs.length - i/\i<=xs.length/\Pv i σ H,⟨xs.length,by simp,Y3 _,h0⟩,?_⟩
 rintro i m σ H ⟨rfl,hi,p⟩
 have q:=hl i σ H hi p
 by_cases fG:i<xs.length
 ·refine .inr ⟨⟨xs,xs[i],q,by simp [fG]⟩,Pv (i+1),λσ' H' p'=>⟨xs.length - (i+1),by omega,rfl,fG,p'⟩,λx H' y=>?_⟩
  obtain⟨e,y⟩:=y
  subst e
  exact hs i x σ _ (y xs q) p
 ·have e:i=xs.length:=by omega
  subst e
  exact .inl ⟨⟨xs,q,YS _⟩,hd σ H p⟩
theorem rG {c:TT} {tb:TS} {D:Ends} {σ:St} {H:Hp} (Pv:St->Hp->Prop) (μ:St->Hp->Nat) (h0:Pv σ H)
  (hs:∀σ H,Pv σ H->c σ H λb H1=>if b=true then tb {D with nx:=λσ' H'=>Pv σ' H'/\μ σ' H'<μ σ H,ct:=λσ' H'=>Pv σ' H'/\μ σ' H'<μ σ H,bk:=D.nx} σ H1 else D.nx σ H1)
  (mono:∀σ H Q Q',(∀b H1,Q b H1->Q' b H1)->c σ H Q->c σ H Q'):ue c tb D σ H:=by
 refine⟨λm σ H=>m=μ σ H/\Pv σ H,⟨_,rfl,h0⟩,?_⟩
 rintro m σ H ⟨rfl,p⟩
 refine mono σ H _ _ (λb H1 q=>?_) (hs σ H p)
 cases b with
 | true=>exact⟨_,λσ' H' ⟨p',l⟩=>⟨_,l,rfl,p'⟩,q⟩
 | false=>exact q
end L2
namespace L2
open PySem PySem.Spec PyProof.Rows
abbrev R2:=V->V->Hp->VK->Prop
noncomputable def jF (X:Cx) (f:Value->Value->Sem Value) (r:R2):Prop:=
 ∀(pins:List (Addr×Obj)) (s:Shared) (σ:St) (H:Hp) (x y:V) (v u:Value) (Q:VK),Inv X pins σ H s->RelV x v->RelV y u->r x y H Q->
  wpAny (model X.prog X.w) X.A (f v u) (EP X pins σ Q) X.xe s
noncomputable def Jd (X:Cx) (f:Value->Sem Value) (r:V->Hp->VK->Prop):Prop:=
 ∀(pins:List (Addr×Obj)) (s:Shared) (σ:St) (H:Hp) (x:V) (v:Value) (Q:VK),Inv X pins σ H s->RelV x v->r x H Q->
  wpAny (model X.prog X.w) X.A (f v) (EP X pins σ Q) X.xe s
noncomputable def cF (X:Cx) (f:Value) (r:List V->Hp->VK->Prop):Prop:=
 ∀(pins:List (Addr×Obj)) (s:Shared) (σ:St) (H:Hp) (xs:List V) (us:List Value) (Q:VK),Inv X pins σ H s->bj xs us->r xs H Q->
  wpAny (model X.prog X.w) X.A (call f us) (EP X pins σ Q) X.xe s
noncomputable def tOp (r:R2) (ta tb:TE):TE:=λσ H Q=>ta σ H λx H1=>tb σ H1 λy H2=>r x y H2 Q
noncomputable def tUn (r:V->Hp->VK->Prop) (ta:TE):TE:=λσ H Q=>ta σ H λx H1=>r x H1 Q
noncomputable def rI (C:Int->Int->Prop) (g:Int->Int->V):R2:=λx y H Q=>∃i j,x=.int i/\y=.int j/\C i j/\Q (g i j) H
noncomputable def rI0 (g:Int->Int->V):R2:=λx y H Q=>∃i j,x=.int i/\y=.int j/\Q (g i j) H
noncomputable def rU (g:Int->V):V->Hp->VK->Prop:=λx H Q=>∃i,x=.int i/\Q (g i) H
section
variable {X : Cx} {a b c : Expr} {ta tb tc : TE} {pos : Pos}
theorem D1 (ha:PE X a ta) (hb:PE X b tb) {pins:List (Addr×Obj)} {s:Shared} {σ:St} {H:Hp} {R:V->V->Hp->Prop} (I:Inv X pins σ H s)
  (h:ta σ H λx H1=>tb σ H1 λy H2=>R x y H2) {Q:Value->Shared->Prop} {f:Value->Value->Sem Value}
  (hf:∀v u s2 x y H2,Inv X pins σ H2 s2->RelV x v->RelV y u->R x y H2->wpAny (model X.prog X.w) X.A (f v u) Q X.xe s2):
  wpAny (model X.prog X.w) X.A (eval a X.env) (λv s₁=>wpAny (model X.prog X.w) X.A (eval b X.env) (λu s₂=>wpAny (model X.prog X.w) X.A (f v u) Q X.xe s₂) X.xe s₁) X.xe s:=by
 refine bU (ha pins s σ H _ I h) λv s1 cI=>?_
 obtain⟨x,H1,I1,r1,q1⟩:=cI
 refine bU (hb pins s1 σ H1 _ I1 q1) λu s2 cI=>?_
 obtain⟨y,H2,I2,r2,q2⟩:=cI
 exact hf v u s2 x y H2 I2 r1 r2 q2
theorem aD {op:Operator} {r:R2} (ho:jF X (binaryOp op) r) (ha:PE X a ta) (hb:PE X b tb):PE X (.BinOp a op b pos) (tOp r ta tb):=by
 intro pins s σ H Q I h
 exact wpAny_BinOp (D1 ha hb I h λv u s2 x y H2 I2 rx ry q=>ho pins s2 σ H2 x y v u Q I2 rx ry q)
theorem CV {op:UnaryOp} {r:V->Hp->VK->Prop} (ho:Jd X (unaryOp op) r) (ha:PE X a ta):PE X (.UnaryOp op a pos) (tUn r ta):=by
 intro pins s σ H Q I h
 exact UnaryOp_ (bU (ha pins s σ H _ I h) λv s1 ⟨x,H1,I1,r1,q1⟩=>ho pins s1 σ H1 x v Q I1 r1 q1)
theorem Gv {f:Value->Value->Sem Value} {C:Int->Int->Prop} {g:Int->Int->Int}
  (rule:∀(i j:Int) (t u:Tok) (s:Shared) (Q:Value->Shared->Prop) (E:Value->Shared->Prop),C i j->Q (.int (g i j) s.toks) {s with toks:=s.toks+1}->wpAny (model X.prog X.w) X.A (f (.int i t) (.int j u)) Q E s):
  jF X f (rI C λi j=>.int (g i j)):=by
 intro pins s σ H x y v u Q I rx ry h
 obtain⟨i,j,rfl,rfl,hc,q⟩:=h
 obtain⟨t,rfl⟩:=rx
 obtain⟨t',rfl⟩:=ry
 exact rule i j t t' s _ _ hc ⟨.int (g i j),H,I.tok _,⟨_,rfl⟩,q⟩
theorem Gw {f:Value->Value->Sem Value} {g:Int->Int->Int}
  (rule:∀(i j:Int) (t u:Tok) (s:Shared) (Q:Value->Shared->Prop) (E:Value->Shared->Prop),Q (.int (g i j) s.toks) {s with toks:=s.toks+1}->wpAny (model X.prog X.w) X.A (f (.int i t) (.int j u)) Q E s):
  jF X f (rI0 λi j=>.int (g i j)):=by
 intro pins s σ H x y v u Q I rx ry h
 obtain⟨i,j,rfl,rfl,q⟩:=h
 obtain⟨t,rfl⟩:=rx
 obtain⟨t',rfl⟩:=ry
 exact rule i j t t' s _ _ ⟨.int (g i j),H,I.tok _,⟨_,rfl⟩,q⟩
theorem Gx {f:Value->Value->Sem Value} {g:Int->Int->Bool}
  (rule:∀(i j:Int) (t u:Tok) (s:Shared) (Q:Value->Shared->Prop) (E:Value->Shared->Prop),Q (.bool (g i j)) s->wpAny (model X.prog X.w) X.A (f (.int i t) (.int j u)) Q E s):
  jF X f (rI0 λi j=>.bl (g i j)):=by
 intro pins s σ H x y v u Q I rx ry h
 obtain⟨i,j,rfl,rfl,q⟩:=h
 obtain⟨t,rfl⟩:=rx
 obtain⟨t',rfl⟩:=ry
 exact rule i j t t' s _ _ ⟨.bl (g i j),H,I,rfl,q⟩
noncomputable def CPow (i j:Int):Prop:=0<=j/\j<=1000000/\i.natAbs<2^64
theorem ba:jF X (binaryOp .Add) (rI0 λi j=>.int (i+j)):=Gw λ_ _ _ _ _ _ _ q=>add_int q
theorem mC:jF X (binaryOp .Sub) (rI0 λi j=>.int (i - j)):=Gw λ_ _ _ _ _ _ _ q=>sub_int q
theorem D2:jF X (binaryOp .Mod) (rI (λ_ j=>0<j) λi j=>.int (i % j)):=Gv λi j _ _ _ _ _ hc q=>by
 have h1:(0:Int)<j:=hc
 exact mod_int' (by omega) (by rw[Int.fmod_eq_emod_of_nonneg i (by omega)];exact q)
theorem iF:jF X (binaryOp .Pow) (rI CPow λi j=>.int (i^j.toNat)):=Gv λ_ _ _ _ _ _ _ hc q=>pow_int_small hc.1 hc.2.1 hc.2.2 q
theorem TM {f:Value->Sem Value} {g:Int->Int}
  (rule:∀(i:Int) (t:Tok) (s:Shared) (Q:Value->Shared->Prop) (E:Value->Shared->Prop),Q (.int (g i) s.toks) {s with toks:=s.toks+1}->wpAny (model X.prog X.w) X.A (f (.int i t)) Q E s):
  Jd X f (rU λi=>.int (g i)):=by
 intro pins s σ H x v Q I rx h
 obtain⟨i,rfl,q⟩:=h
 obtain⟨t,rfl⟩:=rx
 exact rule i t s _ _ ⟨.int (g i),H,I.tok _,⟨_,rfl⟩,q⟩
theorem yv:Jd X (unaryOp .USub) (rU λi=>.int (-i)):=TM λ_ _ _ _ _ q=>neg_int q
end
noncomputable def uk:V->V->Bool
 | .cu,.cu=>true | .cu,.int _=>true | .int _,.cu=>true | .cu,.bl _=>true | .bl _,.cu=>true | .cu,.str _=>true | .str _,.cu=>true
 | .int _,.int _=>true | .bl _,.bl _=>true | .str _,.str _=>true | .yb _,.yb _=>true
 | .int _,.str _=>true | .str _,.int _=>true | .bl _,.str _=>true | .str _,.bl _=>true
 | _,_=>false
noncomputable def rEq:R2:=λx y H Q=>uk x y=true/\Q (.bl (decide (x=y))) H
noncomputable def rNe:R2:=λx y H Q=>uk x y=true/\Q (.bl (!decide (x=y))) H
theorem vC {i j:Int}:decide (V.int i=V.int j)=(i==j):=by
 rw[Bool.eq_iff_iff]
 simp
theorem yw {i j:Bool}:decide (V.bl i=V.bl j)=(i==j):=by
 rw[Bool.eq_iff_iff]
 simp
theorem vD {i j:Str}:decide (V.str i=V.str j)=(i==j):=by
 rw[Bool.eq_iff_iff]
 simp
theorem vE {i j:Array UInt8}:decide (V.yb i=V.yb j)=(i.toList==j.toList):=by
 rw[Bool.eq_iff_iff]
 cases i
 cases j
 simp
section
variable {X : Cx} {a b c : Expr} {ta tb tc : TE} {pos : Pos}
theorem bA {pins:List (Addr×Obj)} {σ:St} {H:Hp} {s:Shared} {Q:VK} {k k':Bool} (I:Inv X pins σ H s) (q:Q (.bl k) H) (e:k=k'):EP X pins σ Q (.bool k') s:=by
 subst e
 exact⟨.bl k,H,I,rfl,q⟩
theorem dq:jF X (compareOp .Eq) rEq:=by
 intro pins s σ H x y v u Q I rx ry h
 obtain⟨hs,q⟩:=h
 cases x with
 | cu=>
  cases rx
  cases y with
  | cu=>cases ry;exact PySem.EqNone.eq_none_none (bA I q (by simp))
  | bl j=>cases ry;exact PySem.EqNone.eq_none_bool (bA I q (by simp))
  | int j=>obtain⟨t',rfl⟩:=ry;exact PySem.EqNone.eq_none_int (bA I q (by simp))
  | str j=>obtain⟨t',rfl⟩:=ry;exact PySem.EqNone.eq_none_str (bA I q (by simp))
  | _=>exact absurd (show false=true from hs) Y7
 | bl i=>
  cases rx
  cases y with
  | cu=>cases ry;exact PySem.EqNone.eq_bool_none (bA I q (by simp))
  | bl j=>cases ry;exact eq_bool (bA I q yw)
  | str j=>obtain⟨t',rfl⟩:=ry;exact PySem.EqMixed.eq_bool_str (bA I q (by simp))
  | _=>exact absurd (show false=true from hs) Y7
 | int i=>
  obtain⟨t,rfl⟩:=rx
  cases y with
  | cu=>cases ry;exact PySem.EqNone.eq_int_none (bA I q (by simp))
  | int j=>obtain⟨t',rfl⟩:=ry;exact eq_int (bA I q vC)
  | str j=>obtain⟨t',rfl⟩:=ry;exact PySem.EqMixed.eq_int_str (bA I q (by simp))
  | _=>exact absurd (show false=true from hs) Y7
 | str i=>
  obtain⟨t,rfl⟩:=rx
  cases y with
  | cu=>cases ry;exact PySem.EqNone.eq_str_none (bA I q (by simp))
  | bl j=>cases ry;exact PySem.EqMixed.eq_str_bool (bA I q (by simp))
  | int j=>obtain⟨t',rfl⟩:=ry;exact PySem.EqMixed.eq_str_int (bA I q (by simp))
  | str j=>obtain⟨t',rfl⟩:=ry;exact eq_str (bA I q vD)
  | _=>exact absurd (show false=true from hs) Y7
 | yb i=>
  obtain⟨t,rfl⟩:=rx
  cases y with
  | yb j=>obtain⟨t',rfl⟩:=ry;exact PySem.W.eq_bytes (bA I q vE)
  | _=>exact absurd (show false=true from hs) Y7
 | _=>cases y <;>exact absurd (show false=true from hs) Y7
theorem vF:jF X (compareOp .NotEq) rNe:=by
 intro pins s σ H x y v u Q I rx ry h
 obtain⟨hs,q⟩:=h
 cases x with
 | cu=>
  cases rx
  cases y with
  | cu=>cases ry;exact PySem.EqNone.ne_none_none (bA I q (by simp))
  | bl j=>cases ry;exact PySem.EqNone.ne_none_bool (bA I q (by simp))
  | int j=>obtain⟨t',rfl⟩:=ry;exact PySem.EqNone.ne_none_int (bA I q (by simp))
  | str j=>obtain⟨t',rfl⟩:=ry;exact PySem.EqNone.ne_none_str (bA I q (by simp))
  | _=>exact absurd (show false=true from hs) Y7
 | bl i=>
  cases rx
  cases y with
  | cu=>cases ry;exact PySem.EqNone.ne_bool_none (bA I q (by simp))
  | bl j=>cases ry;exact ne_bool (bA I q (congrArg not yw))
  | str j=>obtain⟨t',rfl⟩:=ry;exact PySem.EqMixed.ne_bool_str (bA I q (by simp))
  | _=>exact absurd (show false=true from hs) Y7
 | int i=>
  obtain⟨t,rfl⟩:=rx
  cases y with
  | cu=>cases ry;exact PySem.EqNone.ne_int_none (bA I q (by simp))
  | int j=>obtain⟨t',rfl⟩:=ry;exact ne_int (bA I q (congrArg not vC))
  | str j=>obtain⟨t',rfl⟩:=ry;exact PySem.EqMixed.ne_int_str (bA I q (by simp))
  | _=>exact absurd (show false=true from hs) Y7
 | str i=>
  obtain⟨t,rfl⟩:=rx
  cases y with
  | cu=>cases ry;exact PySem.EqNone.ne_str_none (bA I q (by simp))
  | bl j=>cases ry;exact PySem.EqMixed.ne_str_bool (bA I q (by simp))
  | int j=>obtain⟨t',rfl⟩:=ry;exact PySem.EqMixed.ne_str_int (bA I q (by simp))
  | str j=>obtain⟨t',rfl⟩:=ry;exact ne_str (bA I q (congrArg not vD))
  | _=>exact absurd (show false=true from hs) Y7
 | yb i=>
  obtain⟨t,rfl⟩:=rx
  cases y with
  | yb j=>obtain⟨t',rfl⟩:=ry;exact PySem.W.ne_bytes (bA I q (congrArg not vE))
  | _=>exact absurd (show false=true from hs) Y7
 | _=>cases y <;>exact absurd (show false=true from hs) Y7
theorem oU:jF X (compareOp .Lt) (rI0 λi j=>.bl (decide (i<j))):=Gx λ_ _ _ _ _ _ _ q=>lt_int q
theorem i6:jF X (compareOp .Gt) (rI0 λi j=>.bl (decide (j<i))):=Gx λ_ _ _ _ _ _ _ q=>gt_int q
theorem um:jF X (compareOp .Is) (λx y H Q=>y=.cu/\Q (.bl (decide (x=.cu))) H):=by
 intro pins s σ H x y v u Q I rx ry h
 obtain⟨rfl,q⟩:=h
 cases ry
 refine is_none_gen (bA I q ?_)
 cases x <;>first
  | (cases rx;rfl)
  | (obtain⟨t,rfl⟩:=rx;rfl)
theorem Bu:jF X (compareOp .IsNot) (λx y H Q=>y=.cu/\Q (.bl (!decide (x=.cu))) H):=by
 intro pins s σ H x y v u Q I rx ry h
 obtain⟨rfl,q⟩:=h
 cases ry
 refine isnot_none_gen (bA I q ?_)
 cases x <;>first
  | (cases rx;rfl)
  | (obtain⟨t,rfl⟩:=rx;rfl)
theorem bf (b:Expr) {op:CmpOp} (h:op≠.In:=by decide) (h2:op≠.NotIn:=by decide):behindInMarks op b=false:=by
 have e1:(op==CmpOp.In)=false:=by cases op <;>first | rfl | exact absurd rfl h
 have e2:(op==CmpOp.NotIn)=false:=by cases op <;>first | rfl | exact absurd rfl h2
 cases b <;>simp [behindInMarks,e1,e2]
theorem pT {op:CmpOp} {r:R2} (ho:jF X (compareOp op) r) (ha:PE X a ta) (hb:PE X b tb) (hm:behindInMarks op b=false):PE X (.Compare a [op] [b] pos) (tOp r ta tb):=by
 intro pins s σ H Q I h
 exact wpAny_Compare1 (D1 ha hb I h λv u s2 x y H2 I2 rx ry q=>ho pins s2 σ H2 x y v u Q I2 rx ry q) hm
noncomputable def tTest (t:TE):TT:=λσ H Q=>t σ H λx H'=>∃k,x=.bl k/\Q k H'
theorem aU {op:CmpOp} {r:R2} (ho:jF X (compareOp op) r) (ha:PE X a ta) (hb:PE X b tb) (hm:behindInMarks op b=false):PT X (.Compare a [op] [b] pos) (tTest (tOp r ta tb)):=by
 intro pins s σ H Q I h
 refine wpAny_isTrue_Compare1 (bU (ha pins s σ H _ I h) λv s1 ⟨x,H1,I1,r1,q1⟩=>bU (hb pins s1 σ H1 _ I1 q1) λu s2 ⟨y,H2,I2,r2,q2⟩=>
  bU (ho pins s2 σ H2 x y v u _ I2 r1 r2 q2) λc s3 ⟨z,H3,I3,r3,k,e,q3⟩=>?_) hm
 subst e
 cases r3
 exact wpAny_truthy_bool ⟨H3,I3,q3⟩
noncomputable def tChain (r r':R2) (ta tb tc:TE):TE:=λσ H Q=>ta σ H λx H1=>tb σ H1 λy H2=>r x y H2 λz H3=>∃k,z=.bl k/\
 (if k=true then tc σ H3 λw' H4=>r' y w' H4 Q else Q (.bl false) H3)
theorem mE:(sizeLine:Nat)<2^63:=by rw[sizeLine_eq];decide
theorem vals1 {x:V} {us:List Value} (r:bj [x] us):∃u,us=[u]/\RelV x u:=by
 cases r with
 | cons r1 r2=>cases r2;exact⟨_,rfl,r1⟩
theorem vals2 {x y:V} {us:List Value} (r:bj [x,y] us):∃u w',us=[u,w']/\RelV x u/\RelV y w':=by
 cases r with
 | cons r1 r2=>
  cases r2 with
  | cons r3 r4=>cases r4;exact⟨_,_,rfl,r1,r3⟩
theorem mF:cF X (.builtin "abs") (λxs H Q=>∃i,xs=[.int i]/\Q (.int (if i<0 then -i else i)) H):=by
 intro pins s σ H xs us Q I r h
 obtain⟨i,rfl,q⟩:=h
 obtain⟨u,rfl,t,rfl⟩:=vals1 r
 exact call_abs_int λu tk=>⟨.int (if i<0 then -i else i),H,I.tok _,⟨_,rfl⟩,q⟩
end
end L2
namespace L2
open PySem PySem.Spec PyProof.Rows
structure uo (h:Heap) (x dx C:Addr) (mA:Str->Option Value):Prop where
 obj:h.get? x=some (PySem.W.instObj C dx)
 ns:h.Ns1 dx mA
 ne:dx≠x
set_option tactic.hygienic true in
theorem xo {h:Heap} {dx:Addr} {mA:Str->Option Value} (n:h.Ns1 dx mA):∃od,h.get? dx=some od/\∀name,PySem.W.lookIn name od=some (mA name):=by
 obtain⟨o,es,ep,ho,hd,hk,_,hm⟩:=n
 refine⟨o,ho,λname=>?_⟩
 have e:=hm name
 unfold nsFind findBy at e
 rw[<-Array.find?_toList] at e
 unfold PySem.W.lookIn
 rw[hd]
 dsimp only
 split
 ·rename_i y q
  rw[q] at e
  exact congrArg some e
 ·rename_i q
  rw[q] at e
  have a:es.toList.any (·.refKey)=false:=by
   rw[List.any_eq_false]
   intro y hy
   obtain⟨z,t,J2⟩:=hk y (Array.mem_toList_iff.mp hy)
   simp [DictEntry.refKey,J2]
  have a':¬es.toList.any (·.refKey)=true:=by rw[a];exact Y7
  rw[if_neg a']
  exact congrArg some e
theorem uo.look {h:Heap} {x dx C:Addr} {mA:Str->Option Value} (I:uo h x dx C mA):∃od,PySem.W.InstAt h x (PySem.W.instObj C dx) C (some od)/\∀name,PySem.W.lookIn name od=some (mA name):=
 let ⟨od,ho,hl⟩:=xo I.ns
 ⟨od,⟨I.obj,rfl,rfl,ho⟩,hl⟩
section
variable {prog : Program} {w : World} {A : Around} {E : Value -> Shared -> Prop} {s : Shared} {K : PySem.W.Frag} {x dx C f : Addr} {mA : Str -> Option Value} {name : Str} {v : Value}
theorem get_map {expr:Bool} {Q:Value->Shared->Prop} (X:K.In s.heap) (I:uo s.heap x dx C mA) (hg:PySem.W.plainGet K C name=true) (hh:PySem.W.hasDictIn K C=true)
  (ha:PySem.W.findIn K (.ref C) name=some none) (hv:mA name=some v) (TN:PySem.W.handedIn v=true) (h:Q v {s with toks:=s.toks+1}):
  wpAny (model prog w) A (getAttr (.ref x) name expr) Q E s:=by
 obtain⟨od,J,hl⟩:=I.look
 exact PySem.W.get_value X J (PySem.W.plainGet_of hg).1 (PySem.W.findObj_own hh ha rfl (by rw[hl,hv])) TN h
theorem yy {pl:Sem Bool} {Q:Value×List Value->Shared->Prop} (X:K.In s.heap) (I:uo s.heap x dx C mA) (hg:PySem.W.plainGet K C name=true)
  (hf:PySem.W.findIn K (.ref C) name=some (some (.ref f))) (ht:PySem.W.isFn K (.ref f)=true) (hv:mA name=none) (h:Q (.ref f,[.ref x]) s):
  wpAny (model prog w) A (getMethod (.ref x) name pl) Q E s:=by
 obtain⟨od,J,hl⟩:=I.look
 exact PySem.W.method_fn X J (PySem.W.plainGet_of hg).1 (PySem.W.plainGet_of hg).2 hf (beq_iff_eq.mp ht) (by show(PySem.W.lookIn name od).map (·.isSome)=some false;rw[hl,hv];rfl) h
theorem Bv {ns:List Str} {Q:Unit->Shared->Prop} (X:K.In s.heap) (I:uo s.heap x dx C mA)
  (hs:PySem.W.findIn K (.ref C) "__setattr__"=some (some (.builtin "object.__setattr__"))) (hp:PySem.W.plainOver K C=true) (ht:PySem.W.takerIn K C name=some none) (hh:PySem.W.hasDictIn K C=true)
  (hw:PySem.Within mA ns) (hsz:ns.length<=sizeLine)
  (h:∀h',uo h' x dx C (λy=>if y=name then some v else mA y)->Heap.SameBut dx s.heap h'->Q () {s with heap:=h',toks:=s.toks+2}):
  wpAny (model prog w) A (setAttr (.ref x) name v) Q E s:=by
 obtain⟨od,J,hl⟩:=I.look
 refine PySem.W.set_plain X J hs (PySem.W.osa_open (s:={s with toks:=s.toks+1}) (r:=none) X J hp ht λb=>?_)
 obtain⟨cd,hc,Gn⟩:=PySem.W.any_some hh
 have hx:s.heap.get? x=some ⟨.ref C,some dx,.plain,#[]⟩:=I.obj
 refine wpAny_bind (wpAny_pure (wpAny_bind (wpAny_bind (wpAny_loadPart hx (wpAny_bind (PySem.W.Looks.here (s:={s with toks:=s.toks+1}) (PySem.W.looks_clsIn X hc) ?_))))))
 rw[Gn]
 refine wpAny_pure (a:=some dx) (wpAny_bind (wpAny_pure (wpAny_bind ?_)))
 refine wpAny_nsSet1 (s:={s with toks:=s.toks+1}) I.ns λh' Je CU=>?_
 obtain⟨oD,XU,XW,TQ,TR,TU⟩:=Je.count (PySem.Within.cons name v hw)
 refine wpAny_bind (wpAny_lookBehind TQ (by rw[TR];exact pastItsLine_dict (Y2 TU (by rw[Y4];omega))) ?_)
 exact wpAny_pure (h _ ⟨(CU.2 _ (Ne.symm I.ne)).trans I.obj,Je,I.ne⟩ CU)
theorem yz {R:Result->Shared->Prop} {vs:List Value} {kw:List (Str×Value)} (X:K.In s.heap) (hm:PySem.W.makesIn K C=true)
  (hi:PySem.W.findIn K (.ref C) "__init__"=some (some (.ref f))) (hf:PySem.W.typeIn K (.ref f)=some (.type "function"))
  (h:codeAny (model prog w) (A.under (.builtin "type.__call__" ⟨.ref C::vs,kw⟩)) (.call (.ref f) ⟨.ref (s.heap.objs.size+1)::vs,kw⟩) (PySem.W.InitBack (s.heap.objs.size+1) R)
   {s with heap:=(s.heap.push PySem.W.emptyDict).push (PySem.W.instObj C s.heap.objs.size)}):
  codeAny (model prog w) A (.call (.ref C) ⟨vs,kw⟩) R s:=by
 obtain⟨hh,g,d,t,os⟩:=s
 exact PySem.W.make_core (PySem.W.makes_of X hm) (PySem.W.looks_findIn X hi) (λself=>PySem.W.bind_fn X self hf) (.inl rfl) h
end
noncomputable def ik (f:Str) (v:V):List (Str×V)->List (Str×V)
 | []=>[(f,v)]
 | (g,x)::r=>if g=f then (g,v)::r else (g,x)::ik f v r
theorem jY (f g:Str) (v:V):∀fs:List (Str×V),(ik f v fs).lookup g=if g=f then some v else fs.lookup g
 | []=>by
  show List.lookup g [(f,v)]=_
  by_cases h:g=f
  ·have hb:(g==f)=true:=beq_iff_eq.mpr h
   simp only[List.lookup,hb,if_pos h]
  ·have hb:(g==f)=false:=beq_eq_false_iff_ne.mpr h
   simp only[List.lookup,hb,if_neg h]
 | (k,x)::r=>by
  have ih:=jY f g v r
  rw[show ik f v ((k,x)::r)=(if k=f then (k,v)::r else (k,x)::ik f v r) from rfl]
  by_cases hk:k=f
  ·rw[if_pos hk]
   by_cases h:g=k
   ·have hb:(g==k)=true:=beq_iff_eq.mpr h
    simp only[List.lookup,hb,if_pos (h.trans hk)]
   ·have hb:(g==k)=false:=beq_eq_false_iff_ne.mpr h
    simp only[List.lookup,hb,if_neg (λe:g=f=>h (e.trans hk.symm))]
  ·rw[if_neg hk]
   by_cases h:g=k
   ·have hb:(g==k)=true:=beq_iff_eq.mpr h
    simp only[List.lookup,hb,if_neg (λe:g=f=>hk (h.symm.trans e))]
   ·have hb:(g==k)=false:=beq_eq_false_iff_ne.mpr h
    simp only[List.lookup,hb]
    exact ih
theorem jG (f:Str) (v:V):∀fs:List (Str×V),f∈(ik f v fs).map (·.1)/\∀g,g∈fs.map (·.1)->g∈(ik f v fs).map (·.1)
 | []=>⟨by simp [ik],λg h=>by simp at h⟩
 | (k,x)::r=>by
  obtain⟨i1,i2⟩:=jG f v r
  rw[show ik f v ((k,x)::r)=(if k=f then (k,v)::r else (k,x)::ik f v r) from rfl]
  by_cases hk:k=f
  ·rw[if_pos hk]
   subst hk
   exact⟨by simp,λg h=>by simpa using h⟩
  ·rw[if_neg hk]
   refine⟨?_,λg h=>?_⟩
   ·rw[Zb]
    exact YW _ i1
   ·rw[Zb] at h ⊢
    rcases List.mem_cons.mp h with e | e
    ·exact List.mem_cons.mpr (.inl e)
    ·exact YW _ (i2 g e)
theorem jZ (f:Str) (v:V):∀fs:List (Str×V),(ik f v fs).length<=fs.length+1
 | []=>by simp [ik]
 | (k,x)::r=>by
  have ih:=jZ f v r
  rw[show ik f v ((k,x)::r)=(if k=f then (k,v)::r else (k,x)::ik f v r) from rfl]
  by_cases hk:k=f
  ·rw[if_pos hk,Y4,Y4];omega
  ·rw[if_neg hk,Y4,Y4];omega
theorem ie.some_of {v:V} {o:Option Value} (r:ie (some v) o):∃u,o=some u/\RelV v u:=by
 cases o with
 | none=>exact(show False from r).elim
 | some u=>exact⟨u,rfl,r⟩
theorem ie.none_of {o:Option Value} (r:ie none o):o=none:=by
 cases o with
 | none=>rfl
 | some u=>exact(show False from r).elim
theorem xp {v:V} {u:Value} (r:RelV v u):PySem.W.handedIn u=true:=by
 cases v with
 | cu=>cases (show u=Value.none from r);rfl
 | bl b=>cases (show u=Value.bool b from r);rfl
 | int i=>obtain⟨t,e⟩:=(show ∃t,u=Value.int i t from r);cases e;rfl
 | str x=>obtain⟨t,e⟩:=(show ∃t,u=Value.str x t from r);cases e;rfl
 | yb b=>obtain⟨t,e⟩:=(show ∃t,u=Value.bytes b t from r);cases e;rfl
 | DL b=>obtain⟨t,e⟩:=(show ∃t,u=Value.float b t from r);cases e;rfl
 | ref a=>cases (show u=Value.ref a from r);rfl
 | ty n=>cases (show u=Value.type n from r);rfl
section
variable {P : Program} {w : World} {H H' : Hp} {h h' : Heap} {a C dx : Addr} {fs Tx : List (Str × V)}
theorem lI (bJ:gX P w H h) (e:H a=some (.ins C dx fs)):∃mA,uo h a dx C mA/\(∀f,ie (fs.lookup f) (mA f))/\PySem.Within mA (fs.map (·.1))/\fs.length<=1000/\H dx=some (.own a):=by
 obtain⟨d,z,ne,ob,mA,n,r,q⟩:=(show bY P w H h a (.ins C dx fs) from bJ a _ e)
 exact⟨mA,⟨ob,n,ne⟩,r,q,z,d⟩
end
structure xq (K:PySem.W.Frag) (C:Addr):Prop where
 pg:PySem.W.plainGet K C Str.empty=true
 hd:PySem.W.hasDictIn K C=true
 po:PySem.W.plainOver K C=true
 sa:PySem.W.findIn K (.ref C) "__setattr__"=some (some (.builtin "object.__setattr__"))
theorem xq.get {K:PySem.W.Frag} {C:Addr} (c:xq K C) (f:Str):PySem.W.plainGet K C f=true:=c.pg
noncomputable def jH (K:PySem.W.Frag) (C:Addr) (f:Str):Prop:=PySem.W.findIn K (.ref C) f=some none
theorem jH.Gy {K:PySem.W.Frag} {C:Addr} {f:Str} (n:jH K C f):PySem.W.takerIn K C f=some none:=by
 unfold PySem.W.takerIn
 rw[show PySem.W.findIn K (.ref C) f=some none from n]
 rfl
structure XX (K:PySem.W.Frag) (C:Addr) (f:Str) (v:V) (u:Value):Prop where
 at_:PySem.W.findIn K (.ref C) f=some (some u)
 rel:RelV v u
 get:PySem.W.specialIn K u "__get__"=some none
 cp:PySem.W.copiedNames.contains f=false
structure yA (K:PySem.W.Frag) (C:Addr) (m:Str) (f:Addr):Prop where
 at_:PySem.W.findIn K (.ref C) m=some (some (.ref f))
 fn:PySem.W.isFn K (.ref f)=true
 kp:PySem.W.keepIn K (.ref f)=true
section
variable {X : Cx} {pins : List (Addr × Obj)} {σ : St} {H : Hp} {s : Shared} {a C dx : Addr} {fs : List (Str × V)} {f : Str} {v : V} {A : Around} {E : Value -> Shared -> Prop}
theorem uq {b:Bool} {Q:Value->Shared->Prop} (I:Inv X pins σ H s) (e:H a=some (.ins C dx fs)) (c:xq X.K C) (n:jH X.K C f) (l:fs.lookup f=some v)
  (h:∀u s',Inv X pins σ H s'->RelV v u->Q u s'):wpAny (model X.prog X.w) A (getAttr (.ref a) f b) Q E s:=by
 obtain⟨mA,O,r,_,_,_⟩:=lI I.bJ e
 obtain⟨u,hu,ru⟩:=ie.some_of (v:=v) (o:=mA f) (by rw[<-l];exact r f)
 exact get_map I.kC O (c.get f) c.hd n hu (xp ru) (h u _ (I.tok _) ru)
theorem mG {m:Str} {g:Addr} {pl:Sem Bool} {Q:Value×List Value->Shared->Prop} (I:Inv X pins σ H s) (e:H a=some (.ins C dx fs)) (c:xq X.K C) (k:yA X.K C m g) (l:fs.lookup m=none)
  (h:Q (.ref g,[.ref a]) s):wpAny (model X.prog X.w) A (getMethod (.ref a) m pl) Q E s:=by
 obtain⟨mA,O,r,_,_,_⟩:=lI I.bJ e
 have hn:mA m=none:=ie.none_of (by rw[<-l];exact r m)
 exact yy I.kC O (c.get m) k.at_ k.fn hn h
theorem ur {y:V} {u:Value} {Q:Unit->Shared->Prop} (I:Inv X pins σ H s) (e:H a=some (.ins C dx fs)) (c:xq X.K C) (n:jH X.K C f) (hl:fs.length<1000) (ry:RelV y u)
  (h:∀s',Inv X pins σ (upd H a (.ins C dx (ik f y fs))) s'->Q () s'):wpAny (model X.prog X.w) A (setAttr (.ref a) f u) Q E s:=by
 obtain⟨mA,O,r,wi,_,ho⟩:=lI I.bJ e
 have hz:(fs.map (·.1)).length<=sizeLine:=by rw[YO,sizeLine_eq];omega
 refine Bv I.kC O c.sa c.po n.Gy c.hd wi hz λh' O' sb=>h _ ?_
 have hd:∃o,h'.get? dx=some o:=let ⟨o,_,_,e',_⟩:=O'.ns;⟨o,e'⟩
 refine I.write (x:=a) (e:=dx) (by rw[e];exact True.intro) (.inr ho) (λb q hb z=>(sb.2 b hb).trans z) hd ?_
 refine⟨by rw[aE O.ne];exact ho,?_,O.ne,O'.obj,_,O'.ns,λg=>?_,λg hg=>?_⟩
 ·have:=jZ f y fs;omega
 ·show ie ((ik f y fs).lookup g) (if g=f then some u else mA g)
  rw[jY]
  by_cases q:g=f
  ·rw[if_pos q,if_pos q];exact ry
  ·rw[if_neg q,if_neg q];exact r g
 ·by_cases q:g=f
  ·rw[q];exact(jG f y fs).1
  ·refine(jG f y fs).2 g (wi g λz=>hg ?_)
   show(if g=f then some u else mA g)=none
   rw[if_neg q];exact z
theorem Inv.made (I:Inv X pins σ H s):Inv X pins σ (upd (upd H s.heap.objs.size (.own (s.heap.objs.size+1))) (s.heap.objs.size+1) (.ins C s.heap.objs.size []))
  {s with heap:=(s.heap.push PySem.W.emptyDict).push (PySem.W.instObj C s.heap.objs.size)}:=by
 have e1:(s.heap.push PySem.W.emptyDict).get? s.heap.objs.size=some PySem.W.emptyDict:=Heap.get?_push_size s.heap rfl
 have e2:((s.heap.push PySem.W.emptyDict).push (PySem.W.instObj C s.heap.objs.size)).get? (s.heap.objs.size+1)=some (PySem.W.instObj C s.heap.objs.size):=by
  have:=Heap.get?_push_size (s.heap.push PySem.W.emptyDict) (o:=PySem.W.instObj C s.heap.objs.size) rfl
  rwa [Heap.size_push] at this
 have e3:(s.heap.push PySem.W.emptyDict).Ns s.heap.objs.size (λ_=>none):=⟨PySem.W.emptyDict,#[],_,e1,rfl,(λe he=>absurd he (by simp)),λ_=>rfl⟩
 have I1:=I.laid (a:=s.heap.objs.size) (o:=.own (s.heap.objs.size+1)) (h':=s.heap.push PySem.W.emptyDict) (t':=s.toks) (λb u q=>Heap.get?_push_of_some _ q) (YS _) ⟨_,e1⟩
 refine I1.laid (a:=s.heap.objs.size+1) (o:=.ins C s.heap.objs.size []) (t':=s.toks) (λb u q=>Heap.get?_push_of_some _ q) (Nat.le_of_eq (Heap.size_push _ _)) ?_
 have ne:s.heap.objs.size≠s.heap.objs.size+1:=Y0 (Zl _)
 refine⟨by rw[aE ne,ar],Y3 _,ne,e2,λ_=>none,(Heap.Ns1.of_empty e3).at λo q=>Heap.get?_push_of_some _ q,λ_=>True.intro,λy hy=>absurd rfl hy⟩
theorem Bw {prog:Program} {w:World} {env:Env} {e:Expr} {f:Str} {pos:Pos} {s:Shared} {Q:Value->Shared->Prop} (hb:attributeBase e f env (eval e env)=eval e env)
  (h:wpAny (model prog w) A (eval e env) (λo s₁=>wpAny (model prog w) A (getAttr o f true) Q E s₁) E s):wpAny (model prog w) A (eval (.Attribute e f pos) env) Q E s:=
 Attribute_any_ h (by rw[arm_eval_Attribute,hb])
end
noncomputable def i7 (K:PySem.W.Frag) (ta:TE) (f:Str):TE:=λσ H Q=>ta σ H λx H1=>∃a C dx fs v,x=.ref a/\H1 a=some (.ins C dx fs)/\xq K C/\jH K C f/\fs.lookup f=some v/\Q v H1
noncomputable def Gz (K:PySem.W.Frag) (ta tv:TE) (f:Str):TS:=λD σ H=>tv σ H λy H1=>ta σ H1 λx H2=>∃a C dx fs,x=.ref a/\H2 a=some (.ins C dx fs)/\xq K C/\jH K C f/\fs.length<1000/\
 D.nx σ (upd H2 a (.ins C dx (ik f y fs)))
section
variable {X : Cx} {o e value : Expr} {f : Str} {pos pos' mw : Pos} {ta tv : TE}
theorem dt (he:PE X e ta) (hb:attributeBase e f X.env (eval e X.env)=eval e X.env):PE X (.Attribute e f pos) (i7 X.K ta f):=by
 intro pins s σ H Q I h
 refine Bw hb (bU (he pins s σ H _ I h) λu s1 cI=>?_)
 obtain⟨x,H1,I1,rx,a,C,dx,fs,v,ex,ea,c,n,l,q⟩:=cI
 subst ex
 obtain rfl:u=Value.ref a:=rx
 exact uq I1 ea c n l λu' s2 I2 ru=>⟨v,H1,I2,ru,q⟩
theorem yB (ha:PE X o ta) (hv:PE X value tv) (hs:swapsWith value (some (.Attribute o f pos')) pos.line X.env=pure false):PS X (.Assign [.Attribute o f pos'] value pos) (Gz X.K ta tv f):=by
 intro pins s σ H D I h
 refine plainObj_wpAny_Assign_Attribute (bU (hv pins s σ H _ I h) λu s1 ⟨y,H1,I1,ry,q⟩=>bU (ha pins s1 σ H1 _ I1 q) λov s2 cI=>?_) hs
 obtain⟨x,H2,I2,rx,a,C,dx,fs,ex,ea,c,n,l,q2⟩:=cI
 subst ex
 obtain rfl:ov=Value.ref a:=rx
 exact ur I2 ea c n l ry λs3 I3=>⟨σ,_,I3,q2⟩
end
section
variable {X : Cx} {pins : List (Addr × Obj)} {σ : St} {H : Hp} {s : Shared} {A : Around} {E : Value -> Shared -> Prop} {Q : Value -> Shared -> Prop} {c : Value} {b : Bool}
inductive gi (K:PySem.W.Frag) (H:Hp):V->Value->Prop where
 | cu:gi K H .cu (.type "NoneType")
 | bl (x:Bool):gi K H (.bl x) (.type "bool")
 | int (i:Int):gi K H (.int i) (.type "int")
 | str (x:Str):gi K H (.str x) (.type "str")
 | DL (x:UInt64):gi K H (.DL x) (.type "float")
 | lst {a:Addr} {xs:List V} (e:H a=some (.lst xs)):gi K H (.ref a) (.type "list")
 | qX {a:Addr} {o:Obj} {xs:List V} (e:H a=some (.qX o (.lst xs))):gi K H (.ref a) (.type "list")
 | tup {a:Addr} {xs:List V} (e:H a=some (.tup xs)):gi K H (.ref a) (.type "tuple")
 | dK {a:Addr} {kvs:List (Key×V)} (e:H a=some (.dK kvs)):gi K H (.ref a) (.type "dict")
 | dT {a:Addr} {kvs:List (List Key×V)} (e:H a=some (.dT kvs)):gi K H (.ref a) (.type "dict")
 | ins {a C dx:Addr} {fs:List (Str×V)} (e:H a=some (.ins C dx fs)) (cl:xq K C) (ha:PySem.W.findIn K (.ref C) "__class__"=some (some (.builtin "object.__class__")))
   (hn:PySem.W.specialIn K (.builtin "object.__class__") "__get__"=some (some (.builtin "getset_descriptor.__get__"))) (RO:PySem.W.takesIn K (.builtin "object.__class__")=some true)
   (hm:PySem.W.mroIn K C (.type "object")=some true):gi K H (.ref a) (.ref C)
theorem xr {x:V} {u t:Value} (I:Inv X pins σ H s) (rx:RelV x u) (ty:gi X.K H x t) (e:PySem.W.kitOne X.K t c=some b) (h:∀tk,Q (.bool b) {s with toks:=tk}):
  wpAny (model X.prog X.w) A (call (.builtin "isinstance") [u,c]) Q E s:=by
 cases ty with
 | cu=>cases (show u=Value.none from rx);exact ZF PySem.W.kitx_none I.kC True.intro e (λz=>nomatch z) h
 | bl y=>cases (show u=Value.bool y from rx);exact ZF PySem.W.kitx_bool I.kC True.intro e (λz=>nomatch z) h
 | int i=>obtain⟨t,q⟩:=(show ∃t,u=Value.int i t from rx);cases q;exact ZF PySem.W.kitx_int I.kC True.intro e (λz=>nomatch z) h
 | str y=>obtain⟨t,q⟩:=(show ∃t,u=Value.str y t from rx);cases q;exact ZF PySem.W.kitx_str I.kC True.intro e (λz=>nomatch z) h
 | DL y=>obtain⟨t,q⟩:=(show ∃t,u=Value.float y t from rx);cases q;exact ZF PySem.W.kitx_float I.kC True.intro e (λz=>nomatch z) h
 | @lst a xs ea=>
  cases (show u=Value.ref a from rx)
  obtain⟨_,_,n,_,h1⟩:=(show bY X.prog X.w H s.heap a (.lst xs) from I.bJ a _ ea)
  exact ZF PySem.W.kitx_list I.kC ⟨_,h1,rfl⟩ e (λz=>nomatch z) h
 | @qX a ob xs ea=>
  cases (show u=Value.ref a from rx)
  obtain⟨_,_,_,n,_,h1⟩:=(show bY X.prog X.w H s.heap a (.qX ob (.lst xs)) from I.bJ a _ ea)
  exact ZF PySem.W.kitx_list I.kC ⟨_,h1,rfl⟩ e (λz=>nomatch z) h
 | @tup a xs ea=>
  cases (show u=Value.ref a from rx)
  obtain⟨_,_,_,p⟩:=(show bY X.prog X.w H s.heap a (.tup xs) from I.bJ a _ ea)
  obtain⟨o,h1,h2,_⟩:=p
  exact ZF PySem.W.kitx_tuple I.kC ⟨o,h1,h2⟩ e (λz=>nomatch z) h
 | @dK a kvs ea=>
  cases (show u=Value.ref a from rx)
  obtain⟨_,_,vs,_,p⟩:=(show bY X.prog X.w H s.heap a (.dK kvs) from I.bJ a _ ea)
  obtain⟨o,es,ep,h1,h2,_⟩:=p
  exact ZF PySem.W.kitx_dict I.kC ⟨o,h1,h2.1⟩ e (λz=>nomatch z) h
 | @dT a kvs ea=>
  cases (show u=Value.ref a from rx)
  obtain⟨_,_,xs,_,o,es,ep,h1,h2,_⟩:=(show bY X.prog X.w H s.heap a (.dT kvs) from I.bJ a _ ea)
  exact ZF PySem.W.kitx_dict I.kC ⟨o,h1,h2.1⟩ e (λz=>nomatch z) h
 | @ins a C dx fs ea cl ha hn RO hm=>
  cases (show u=Value.ref a from rx)
  obtain⟨mA,O,_⟩:=lI I.bJ ea
  obtain⟨od,J,_⟩:=O.look
  exact ZF (PySem.W.kitx_own (cl.get _) cl.hd ha hn RO hm) I.kC J e (λz=>nomatch z) h
end
end L2
namespace L2
open PySem PySem.Spec PyProof.Rows
structure cS (k:Nat) (A:Around):Prop where
 hd:A.handled=none
 dp:A.depth+3*k+5<recursionLimit
 un:A.units+16*k+200<cLine
theorem cS.mono {j k:Nat} {A:Around} (r:cS k A) (h:j<=k):cS j A:=⟨r.hd,by have:=r.dp;omega,by have:=r.un;omega⟩
theorem cS.deeper {k:Nat} {A:Around} (r:cS (k+1) A) (env:Env):cS k (A.deeper env):=
 ⟨r.hd,by have:=r.dp;show A.depth+1+3*k+5<_;omega,by have:=r.un;show A.units+3+16*k+200<_;omega⟩
theorem uu {A:Around} {C:Addr} {us:List Value} {kw:List (Str×Value)}:(A.under (.builtin "type.__call__" ⟨.ref C::us,kw⟩)).depth=A.depth+1:=by
 first | rfl | simp [Around.under,Code.weight,Code.isCreation,Code.isGuard,Code.isCaller,Code.frames,Code.isFrame,guardIds]
theorem uv {A:Around} {C:Addr} {us:List Value} {kw:List (Str×Value)}:(A.under (.builtin "type.__call__" ⟨.ref C::us,kw⟩)).units=A.units+1:=by
 first | rfl | simp [Around.under,Code.cUnits,Code.frames,Code.isFrame]
theorem cS.make {k:Nat} {A:Around} (r:cS (k+1) A) (C:Addr) (us:List Value) (kw:List (Str×Value)):cS k (A.under (.builtin "type.__call__" ⟨.ref C::us,kw⟩)):=
 ⟨r.hd,by have:=r.dp;rw[uu];omega,by have:=r.un;rw[uv];omega⟩
theorem cS.depth {k:Nat} {A:Around} (r:cS k A):A.depth<recursionLimit:=by have:=r.dp;omega
theorem cS.units {k:Nat} {A:Around} (r:cS k A):A.units+64<cLine:=by have:=r.un;omega
theorem cS.yC {k:Nat} {A:Around} (r:cS k A):A.units<cLine:=by have:=r.un;omega
noncomputable def tNil:TA:=λ_ H Q=>Q [] H
noncomputable def tCons (ta:TE) (tr:TA):TA:=λσ H Q=>ta σ H λx H1=>tr σ H1 λxs H2=>Q (x::xs) H2
section
variable {X : Cx} {e : Expr} {es : List Expr} {te : TE} {t : TA} {pos : Pos}
theorem ag:PA X [] tNil:=λ_ _ _ _ H Q I h=>Calls.spliced_nil ⟨[],H,I,.nil,h⟩
theorem aa (ha:PE X e te) (hr:PA X es t) (hs:starEach (e::es) X.env=(false,eval e X.env)::starEach es X.env:=by rfl):PA X (e::es) (tCons te t):=by
 intro pos pins s σ H Q I h
 rw[hs]
 show wpAny _ _ (spliced ((false,eval e X.env)::backTo pos (starEach es X.env))) _ _ s
 refine Calls.spliced_cons (bU (ha pins s σ H _ I h) λu s1 cI=>?_)
 obtain⟨x,H1,I1,r1,q1⟩:=cI
 exact bU (hr pos pins s1 σ H1 _ I1 q1) λus s2 ⟨xs,H2,I2,r2,q2⟩=>⟨x::xs,H2,I2,.cons r1 r2,q2⟩
noncomputable def tLst (t:TA):TE:=λσ H Q=>t σ H λxs H1=>xs.length<=sizeLine/\∀p,H1 p=none->Q (.ref p) (upd H1 p (.lst xs))
theorem c5 (h:PA X es t):PE X (.List es pos) (tLst t):=by
 intro pins s σ H Q I hq
 refine wpAny_List_spliced (bU (h pos pins s σ H _ I hq) λus s1 ⟨xs,H1,I1,r,z,q⟩=>⟨by rw[<-r.length];exact z,?_⟩)
 have hf:H1 s1.heap.objs.size=none:=I1.bJ.fresh (YS _)
 refine⟨.ref s1.heap.objs.size,upd H1 s1.heap.objs.size (.lst xs),I1.laid (t':=s1.toks) (λb u e=>Heap.get?_push_of_some _ e) (YS _) ?_,rfl,q _ hf⟩
 exact⟨z,us,0,r,Heap.get?_push_size _ rfl⟩
end
abbrev Sp:=List V->Hp->VK->XK->Prop
abbrev jI:=List Env->Hp->Shared->XK->Value->Shared->Prop
structure uw (P:Program) (w:World) (K:PySem.W.Frag) (mg:Str->Option Value) (base:Heap) (A:Around) (outer:List Env) (s:Shared) (H:Hp):Prop where
 frames:A.frames=some outer
 mod:Mod K mg base
 bs:∀b o,base.get? b=some o->s.heap.get? b=some o/\H b=none
 yo:base.objs.size<=s.heap.objs.size
 jC:s.heap.FunFrames base outer
 CM:∀b∈rA outer,H b=none
 bJ:gX P w H s.heap
 bare:AllBare s.gens
noncomputable def CE (outer:List Env) (P:Program) (w:World) (H:Hp) (s:Shared) (Q:VK) (u:Value) (s':Shared):Prop:=
 ∃v H',s'.os=s.os/\AllBare s'.gens/\Un (rA outer) [] H H' s.heap s'.heap/\gX P w H' s'.heap/\RelV v u/\Q v H'
noncomputable def CR (CX:jI) (outer:List Env) (P:Program) (w:World) (H:Hp) (s:Shared) (Q:VK) (E:XK) (r:Result) (s':Shared):Prop:=
 match r with
 | .ok (.ret u)=>CE outer P w H s Q u s'
 | .ok _=>False
 | .error e=>CX outer H s E e s'
structure dU (P:Program) (w:World) (K:PySem.W.Frag) (mg:Str->Option Value) (base:Heap) (CX:jI) (k:Nat) (f:Addr) (fd:FuncData) (ps:List Str) (sp:Sp):Prop where
 len:∀vs H Q E,sp vs H Q E->vs.length=ps.length
 run:∀(A:Around) (outer:List Env) (s:Shared) (H:Hp) (args:Args) (us:List Value) (vs:List V) (Q:VK) (E:XK),cS k A->uw P w K mg base A outer s H->BindsTo s fd args (ps.zip us)->bj vs us->sp vs H Q E->
  codeAny (model P w) A (.call (.ref f) args) (CR CX outer P w H s Q E) s
theorem dU.mono {P:Program} {w:World} {K:PySem.W.Frag} {mg:Str->Option Value} {base:Heap} {CX:jI} {j k:Nat} {f:Addr} {fd:FuncData} {ps:List Str} {sp:Sp} (F:dU P w K mg base CX j f fd ps sp) (h:j<=k):
  dU P w K mg base CX k f fd ps sp:=⟨F.len,λA outer s H args us vs Q E hr=>F.run A outer s H args us vs Q E (hr.mono h)⟩
theorem uw.make {P:Program} {w:World} {K:PySem.W.Frag} {mg:Str->Option Value} {base:Heap} {A:Around} {outer:List Env} {s:Shared} {H:Hp} (e:uw P w K mg base A outer s H) (C:Addr) (us:List Value) (kw:List (Str×Value)):
  uw P w K mg base (A.under (.builtin "type.__call__" ⟨.ref C::us,kw⟩)) outer s H:=⟨by first | exact e.frames | (simpa [Around.under,Code.envs,Code.isFrame,pushEnvs] using e.frames),e.mod,e.bs,e.yo,e.jC,e.CM,e.bJ,e.bare⟩
section
variable {X : Cx} {pins : List (Addr × Obj)} {σ : St} {H : Hp} {s s' : Shared}
theorem Inv.GA (I:Inv X pins σ H s):uw X.prog X.w X.K X.mg X.base X.A X.stack s H:=
 ⟨I.ok.frames,I.ok.mod,I.bs,Y2 I.ok.yo I.sz,I.stack,I.vt,I.bJ,I.bare⟩
theorem Inv.after {Q:VK} {u:Value} (I:Inv X pins σ H s) (h:CE X.stack X.prog X.w H s Q u s'):EP X pins σ Q u s':=by
 obtain⟨v,H',os,bare,un,bJ,r,q⟩:=h
 obtain⟨hh,g,d,t,yD⟩:=s'
 obtain rfl:yD=s.os:=os
 exact⟨v,H',I.call (h':=hh) (g':=g) (d':=d) (t':=t) (ch:=[]) un bJ bare (λb z=>absurd z (by simp)),r,q⟩
end
noncomputable def tCall (sp:Sp) (oq:List V) (E:XK) (t:TA):TE:=λσ H Q=>t σ H λvs H1=>sp (vs++oq) H1 Q E
noncomputable def j1 (C:Addr) (m:Str) (sp:Sp) (oq:List V) (E:XK) (ta:TE) (t:TA):TE:=λσ H Q=>ta σ H λx H1=>∃a dx fs,x=.ref a/\H1 a=some (.ins C dx fs)/\fs.lookup m=none/\
 t σ H1 λvs H2=>sp (x::(vs++oq)) H2 Q E
noncomputable def oV (C:Addr) (sp:Sp) (oq:List V) (E:XK) (t:TA):TE:=λσ H Q=>t σ H λvs H1=>∀x dx,H1 x=none->H1 dx=none->dx≠x->
 sp (.ref x::(vs++oq)) (upd (upd H1 dx (.own x)) x (.ins C dx [])) (λv H2=>v=.cu/\Q (.ref x) H2) E
noncomputable def Binds (K:PySem.W.Frag) (fd:FuncData) (ps:List Str) (ds:List Value):Prop:=
 ∀(s:Shared) (us:List Value),K.In s.heap->(us++ds).length=ps.length->BindsTo s fd ⟨us,[]⟩ (ps.zip (us++ds))
theorem Binds.all {K:PySem.W.Frag} {fd:FuncData} {ps:List Str} (h:∀us:List Value,us.length=ps.length->bindArgs fd ⟨us,[]⟩=pure (ps.zip us)):Binds K fd ps []:=λs us _ hl=>by
 rw[ZM] at hl ⊢
 exact .of_eq (h us hl)
noncomputable def d4 (CX:jI) (X:Cx) (E:XK):Prop:=∀(pins:List (Addr×Obj)) (σ:St) (H:Hp) (s:Shared) (e:Value) (s':Shared),Inv X pins σ H s->CX X.stack H s E e s'->X.xe e s'
section
variable {X : Cx} {CX : jI} {k : Nat} {f C : Addr} {fd : FuncData} {ps : List Str} {sp : Sp} {oq : List V} {ds : List Value} {E : XK} {x m : Str} {p pos apos : Pos} {e o : Expr} {es : List Expr} {ta : TE} {t : TA}
theorem ux {pins:List (Addr×Obj)} {σ:St} {H:Hp} {s:Shared} {Q:VK} {us:List Value} {vs:List V} (F:dU X.prog X.w X.K X.mg X.base CX k f fd ps sp) (hr:cS k X.A) (hb:Binds X.K fd ps ds) (hd:bj oq ds) (hx:d4 CX X E)
  (I:Inv X pins σ H s) (r:bj vs us) (h:sp (vs++oq) H Q E):wpAny (model X.prog X.w) X.A (call (.ref f) us) (EP X pins σ Q) X.xe s:=by
 have r2:bj (vs++oq) (us++ds):=r.append hd
 have hl:(us++ds).length=ps.length:=by rw[<-r2.length];exact F.len _ _ _ _ h
 refine wpAny_call (codeAny_mono (F.run X.A X.stack s H ⟨us,[]⟩ (us++ds) (vs++oq) Q E hr I.GA (hb s us I.kC hl) r2 h) λr s' hq=>?_)
 cases r with
 | error e=>exact hx pins σ H s e s' I hq
 | ok fl=>
  cases fl with
  | ret u=>exact I.after hq
  | next=>exact False.elim hq
  | brk=>exact False.elim hq
  | cont=>exact False.elim hq
theorem Bx (F:dU X.prog X.w X.K X.mg X.base CX k f fd ps sp) (hr:cS k X.A) (hg:Gl X x) (hm:X.mg x=some (.ref f)) (hk:PySem.W.keepIn X.K (.ref f)=true) (hb:Binds X.K fd ps ds) (hd:bj oq ds) (hx:d4 CX X E)
  (ha:PA X (e::es) t) (yE:(x==("__debug__":Str))=false:=by decide) (he:starEach (e::es) X.env=(false,eval e X.env)::starEach es X.env:=by rfl) (hpl:(backTo pos (starEach es X.env)).any (·.1)=false:=by rfl):
  PE X (.Call (.Name x p) (e::es) [] pos) (tCall sp oq E t):=by
 intro pins s σ H Q I h
 refine wpAny_Call_Name_kw (pS I hg hm ?_ yE)
 refine PySem.W.callWith_K (h₀:=X.base) I.ok.mod.Gm hk (bU (ha pos pins s σ H _ I h) λus s1 ⟨vs,H1,I1,r,q⟩=>⟨I1.kC,?_⟩) he hpl
 exact ux F hr hb hd hx I1 r q
theorem By {pl:Sem Bool} (he:PE X o ta) (c:xq X.K C) (hm:yA X.K C m f) (F:dU X.prog X.w X.K X.mg X.base CX k f fd ps sp) (hr:cS k X.A) (hb:Binds X.K fd ps ds) (hd:bj oq ds) (hx:d4 CX X E) (ha:PA X (e::es) t)
  (hst:starEach (e::es) X.env=(false,eval e X.env)::starEach es X.env:=by rfl) (hpl:(backTo pos (starEach es X.env)).any (·.1)=false:=by rfl)
  (ht:eval (.Call (.Attribute o m apos) (e::es) [] pos) X.env=(do
   let ov <-eval o X.env
   standAt apos.atName
   let (f,first) <-holding [ov] (getMethod ov m pl)
   callWith pos f first (backTo pos (starEach (e::es) X.env)) (backToKw pos (keywordEach [] X.env))):=by rfl):
  PE X (.Call (.Attribute o m apos) (e::es) [] pos) (j1 C m sp oq E ta t):=by
 intro pins s σ H Q I h
 refine PySem.W.methodCall_KW (pl:=pl) (bU (he pins s σ H _ I h) λu s1 cI=>?_) ht
 obtain⟨x,H1,I1,rx,a,dx,fs,ex,ea,l,q⟩:=cI
 subst ex
 obtain rfl:u=Value.ref a:=rx
 refine mG I1 ea c hm l ?_
 refine PySem.W.callWith_K (first:=[.ref a]) (h₀:=X.base) I.ok.mod.Gm hm.kp (bU (ha pos pins s1 σ H1 _ I1 q) λus s2 ⟨vs,H2,I2,r,q2⟩=>⟨I2.kC,?_⟩) hst hpl
 exact ux (us:=.ref a::us) (vs:=.ref a::vs) F hr hb hd hx I2 (.cons rfl r) q2
theorem yF {pl:Sem Bool} (he:PE X o ta) (c:xq X.K C) (hm:yA X.K C m f) (F:dU X.prog X.w X.K X.mg X.base CX k f fd ps sp) (hr:cS k X.A) (hb:Binds X.K fd ps ds) (hd:bj oq ds) (hx:d4 CX X E)
  (ht:eval (.Call (.Attribute o m apos) [] [] pos) X.env=(do
   let ov <-eval o X.env
   standAt apos.atName
   let (f,first) <-holding [ov] (getMethod ov m pl)
   callWith pos f first (backTo pos (starEach [] X.env)) (backToKw pos (keywordEach [] X.env))):=by rfl):
  PE X (.Call (.Attribute o m apos) [] [] pos) (j1 C m sp oq E ta tNil):=by
 intro pins s σ H Q I h
 refine PySem.W.methodCall_KW (pl:=pl) (bU (he pins s σ H _ I h) λu s1 cI=>?_) ht
 obtain⟨x,H1,I1,rx,a,dx,fs,ex,ea,l,q⟩:=cI
 subst ex
 obtain rfl:u=Value.ref a:=rx
 refine mG I1 ea c hm l ?_
 exact PySem.W.callWith_K0 (first:=[.ref a]) I1.kC hm.kp (ux (us:=[.ref a]) (vs:=[.ref a]) F hr hb hd hx I1 (.cons rfl .nil) q)
structure Mk (K:PySem.W.Frag) (C f:Addr):Prop where
 makes:PySem.W.makesIn K C=true
 init:PySem.W.findIn K (.ref C) "__init__"=some (some (.ref f))
 fn:PySem.W.isFn K (.ref f)=true
 kp:PySem.W.keepIn K (.ref C)=true
theorem yG {pins:List (Addr×Obj)} {σ:St} {H:Hp} {s:Shared} {Q:VK} {us:List Value} {vs:List V} (M:Mk X.K C f) (F:dU X.prog X.w X.K X.mg X.base CX k f fd ps sp) (hr:cS (k+1) X.A) (hb:Binds X.K fd ps ds) (hd:bj oq ds)
  (hx:d4 CX X E) (I:Inv X pins σ H s) (r:bj vs us)
  (h:∀x dx,H x=none->H dx=none->dx≠x->sp (.ref x::(vs++oq)) (upd (upd H dx (.own x)) x (.ins C dx [])) (λv H2=>v=.cu/\Q (.ref x) H2) E):
  wpAny (model X.prog X.w) X.A (call (.ref C) us) (EP X pins σ Q) X.xe s:=by
 have hq:=h (s.heap.objs.size+1) s.heap.objs.size (I.bJ.fresh (Nat.le_succ _)) (I.bJ.fresh (YS _)) (Y0 (Zl _))
 have I2:=Inv.made (C:=C) I
 have r2:bj (V.ref (s.heap.objs.size+1)::(vs++oq)) (Value.ref (s.heap.objs.size+1)::(us++ds)):=.cons rfl (r.append hd)
 have hl:(Value.ref (s.heap.objs.size+1)::us++ds).length=ps.length:=by
  have e:=r2.length
  rw[F.len _ _ _ _ hq] at e
  exact e.symm
 refine wpAny_call (yz (f:=f) I.kC M.makes M.init (beq_iff_eq.mp M.fn) (codeAny_mono (F.run _ X.stack _ _ ⟨Value.ref (s.heap.objs.size+1)::us,[]⟩ (Value.ref (s.heap.objs.size+1)::(us++ds)) _ _ E (hr.make C us [])
  (I2.GA.make C us []) (hb _ (Value.ref (s.heap.objs.size+1)::us) I2.kC hl) r2 hq) λr s' GB=>?_))
 cases r with
 | error e=>exact hx pins σ _ _ e s' I2 GB
 | ok fl=>
  cases fl with
  | ret u=>
   obtain⟨v,H',I3,rv,ev,q3⟩:=I2.after GB
   subst ev
   exact⟨rv,⟨V.ref (s.heap.objs.size+1),H',I3,rfl,q3⟩⟩
  | next=>exact False.elim GB
  | brk=>exact False.elim GB
  | cont=>exact False.elim GB
theorem Bz (M:Mk X.K C f) (F:dU X.prog X.w X.K X.mg X.base CX k f fd ps sp) (hr:cS (k+1) X.A) (hg:Gl X x) (hm:X.mg x=some (.ref C)) (hb:Binds X.K fd ps ds) (hd:bj oq ds) (hx:d4 CX X E)
  (ha:PA X (e::es) t) (yE:(x==("__debug__":Str))=false:=by decide) (he:starEach (e::es) X.env=(false,eval e X.env)::starEach es X.env:=by rfl) (hpl:(backTo pos (starEach es X.env)).any (·.1)=false:=by rfl):
  PE X (.Call (.Name x p) (e::es) [] pos) (oV C sp oq E t):=by
 intro pins s σ H Q I h
 refine wpAny_Call_Name_kw (pS I hg hm ?_ yE)
 refine PySem.W.callWith_K (h₀:=X.base) I.ok.mod.Gm M.kp (bU (ha pos pins s σ H _ I h) λus s1 ⟨vs,H1,I1,r,q⟩=>⟨I1.kC,?_⟩) he hpl
 exact yG M F hr hb hd hx I1 r q
end
section
variable {X : Cx} {CX : jI} {k : Nat} {f C : Addr} {fd : FuncData} {ps ks : List Str} {sp : Sp} {E : XK} {x m : Str} {p pos apos TV : Pos} {e o : Expr} {es : List Expr} {XY : List Keyword} {te ta : TE} {t tk : TA} {nm : Option Str}
structure J3 (K:PySem.W.Frag) (fd:FuncData) (ps ks:List Str) (g:List Value->List Value->List Value) (gV:List V->List V->List V):Prop where
 to:∀(s:Shared) (us ws:List Value),K.In s.heap->(g us ws).length=ps.length->BindsTo s fd ⟨us,ks.zip ws⟩ (ps.zip (g us ws))
 rel:∀{vs:List V} {us:List Value} {zs:List V} {ws:List Value},bj vs us->bj zs ws->bj (gV vs zs) (g us ws)
variable {g : List Value -> List Value -> List Value} {gV : List V -> List V -> List V}
end
structure aM (N P:List Str) (sc:Scope):Prop where
 kind:sc.kind=.function
 co:sc.isCoroutine=false
 gen:sc.isGenerator=false
 nd:N.Nodup
 pre:N.take P.length=P
 par:∀x∈P,sc.names.lookup x=some .local\/sc.names.lookup x=some .cell
 D3:∀y∈sc.names,y.2≠.free
theorem oW {kindOf:Str->Option NameKind} {x:Str}:∀{binds:List (Str×Value)} {m:Str->Option Value},(∀v,(x,v)∉binds)->bindL kindOf binds m x=m x
 | [],_,_=>rfl
 | (n,v)::r,m,h=>by
  unfold bindL
  rw[oW λw hw=>h w (YW _ hw)]
  split
  ·have:x≠n:=by rintro rfl;exact h v YV
   simp [this]
  ·rfl
theorem oX {kindOf:Str->Option NameKind} {x:Str}:∀{binds:List (Str×Value)} {m:Str->Option Value},(∀v,(x,v)∉binds)->bindC kindOf binds m x=m x
 | [],_,_=>rfl
 | (n,v)::r,m,h=>by
  unfold bindC
  rw[oX λw hw=>h w (YW _ hw)]
  split
  ·rfl
  ·have:x≠n:=by rintro rfl;exact h v YV
   simp [this]
theorem oY {kindOf:Str->Option NameKind} {x:Str} {v:Value}:∀{P:List Str} {vs:List Value} {i:Nat} {m:Str->Option Value},P.Nodup->P[i]?=some x->vs[i]?=some v->kindOf x=some .local->
  bindL kindOf (P.zip vs) m x=some v
 | [],_,_,_,_,h,_,_=>by simp at h
 | _::_,[],_,_,_,_,h,_=>by simp at h
 | p::P,w::vs,0,m,nd,h1,h2,hk=>by
  simp at h1 h2;subst h1;subst h2
  show bindL kindOf ((p,w)::P.zip vs) m p=_
  unfold bindL
  rw[oW λv hv=>(List.nodup_cons.mp nd).1 (List.of_mem_zip hv).1,if_pos hk]
  simp
 | p::P,w::vs,i+1,m,nd,h1,h2,hk=>by
  show bindL kindOf ((p,w)::P.zip vs) m x=_
  unfold bindL
  exact oY (i:=i) (List.nodup_cons.mp nd).2 (by simpa using h1) (by simpa using h2) hk
theorem oZ {kindOf:Str->Option NameKind} {x:Str} {v:Value}:∀{P:List Str} {vs:List Value} {i:Nat} {m:Str->Option Value},P.Nodup->P[i]?=some x->vs[i]?=some v->kindOf x≠some .local->
  bindC kindOf (P.zip vs) m x=some v
 | [],_,_,_,_,h,_,_=>by simp at h
 | _::_,[],_,_,_,_,h,_=>by simp at h
 | p::P,w::vs,0,m,nd,h1,h2,hk=>by
  simp at h1 h2;subst h1;subst h2
  show bindC kindOf ((p,w)::P.zip vs) m p=_
  unfold bindC
  rw[oX λv hv=>(List.nodup_cons.mp nd).1 (List.of_mem_zip hv).1,if_neg hk]
  simp
 | p::P,w::vs,i+1,m,nd,h1,h2,hk=>by
  show bindC kindOf ((p,w)::P.zip vs) m x=_
  unfold bindC
  exact oZ (i:=i) (List.nodup_cons.mp nd).2 (by simpa using h1) (by simpa using h2) hk
noncomputable def start (N:List Str) (vs:List V):St:=vs.map some++List.replicate (N.length - vs.length) none
noncomputable def uy (CX:jI) (P:Program) (w:World) (K:PySem.W.Frag) (mg:Str->Option Value) (base:Heap) (N:List Str) (qual:Str) (scope:Scope) (f:Addr) (cd:Value) (A:Around) (outer:List Env) (s:Shared) (H:Hp) (E:XK):Cx where
 prog:=P
 w:=w
 K:=K
 mg:=mg
 base:=base
 A:=A.deeper (envOfC qual scope s.heap.objs.size f cd)
 N:=N
 s₀:=s
 H₀:=H
 env:=envOfC qual scope s.heap.objs.size f cd
 outer:=outer
 stack:=envOfC qual scope s.heap.objs.size f cd::outer
 ex:=[]
 calm:=true
 fn:=λ_=>true
 pn:=[]
 xe:=λe s'=>wpAny (model P w) (A.deeper (envOfC qual scope s.heap.objs.size f cd)) (leaving (envOfC qual scope s.heap.objs.size f cd) e) (λ_ D4=>CX outer H s E e D4) (λe' D4=>CX outer H s E e' D4) s'
theorem rH {sc:Scope} {n:Nat} {x:Str} (h:sc.names.lookup x=some .cell):∃c,(cellsFrom n sc.names []).lookup x=some c:=by
 have q:=PySem.W.cellsFrom_some sc.names n [] (.inl h)
 exact Option.isSome_iff_exists.mp q
theorem xt {CX:jI} {P:Program} {w:World} {K:PySem.W.Frag} {mg:Str->Option Value} {base:Heap} {N ps:List Str} {qual:Str} {scope:Scope} {f:Addr} {cd:Value} {A:Around} {outer:List Env} {s s1:Shared} {H:Hp} {E:XK} {us:List Value} {vs:List V}
  (S:aM N ps scope) (hd:A.handled=none) (e0:uw P w K mg base A outer s H) (hl:vs.length=ps.length) (r:bj vs us)
  (x:InCallC s s.heap.objs.size (bindL (envOfC qual scope s.heap.objs.size f cd).kindOf (ps.zip us) λ_=>none) (cellsFrom (s.heap.objs.size+1) scope.names []) (bindC (envOfC qual scope s.heap.objs.size f cd).kindOf (ps.zip us) λ_=>none) s1):
  Inv (uy CX P w K mg base N qual scope f cd A outer s H E) [] (start N vs) H s1:=by
 have hpl:ps.length<=N.length:=by have:=congrArg List.length S.pre;rw[ZG] at this;omega
 obtain⟨h1,tk,rfl,hk⟩:=x.done
 have GC:∀b:Addr,b∉(uy CX P w K mg base N qual scope f cd A outer s H E).ex:=λb z=>absurd (show b∈([]:List Addr) from z) (by simp)
 refine⟨⟨e0.mod,S.kind,rfl,rfl,YS _,λy z c h1 h2=>?_,λy hy=>?_,λy c _ h=>?_,λ_=>hd,Around.frames_deeper e0.frames,.inr ⟨rfl,rfl⟩,λb z=>absurd z (GC b),e0.bs,e0.yo,λb _ _=>GC b,λb z=>absurd z (GC b),e0.jC,e0.CM⟩,
  rfl,e0.bare,Un.kept hk,⟨_,x.toInCall.ns,λi y v h1 h2 h3=>?_⟩,λy c h=>⟨_,x.cell y c h⟩,e0.bJ.fresh (YS _),λy c h=>?_,λp hp=>absurd (show p∈([]:List (Addr×Obj)) from hp) (by simp),e0.bJ.kept hk,?_⟩
 ·exact name_of_addr x.apart (ZH h1) (ZH h2)
 ·have hy:scope.names.lookup y=some .cell\/scope.names.lookup y=some .free:=hy
  rcases hy with hy | hy
  ·exact rH hy
  ·exact absurd rfl (S.D3 _ (ZH hy))
 ·exact Nat.le_of_lt (x.above y c (ZH h))
 ·have hi:i<vs.length:=by
   unfold start at h2
   by_cases hi:i<vs.length
   ·exact hi
   ·rw[Zv (by simpa using hi)] at h2
    rw[Z6] at h2
    split at h2 <;>cases h2
  have ha:vs[i]?=some v:=by
   unfold start at h2
   rw[Zw (by simpa using hi),YT] at h2
   cases e:vs[i]? with
   | none=>rw[e] at h2;cases h2
   | some a=>rw[e] at h2;cases h2;rfl
  obtain⟨u,hu,rv⟩:=r.get ha
  have hp:ps[i]?=some y:=by
   rw[<-S.pre,List.getElem?_take_of_lt (by omega)];exact h1
  have RP:ps.Nodup:=by rw[<-S.pre];exact S.nd.sublist (List.take_sublist _ _)
  refine⟨u,rv,?_⟩
  rcases S.par y (YU hp) with k | k
  ·exact .inl ⟨k,oY RP hp hu k⟩
  ·obtain⟨c,e⟩:=rH (n:=s.heap.objs.size+1) k
   refine .inr ⟨.inl k,c,e,?_⟩
   have q:=x.cell y c e
   rw[oZ RP hp hu (by show scope.names.lookup y≠_;rw[k];decide)] at q
   exact q
 ·exact e0.bJ.fresh (Nat.le_of_lt (x.above y c (ZH h)))
 ·unfold start
  show _=N.length
  rw[Zf,YO,ZN]
  omega
theorem CW {CX:jI} {P:Program} {w:World} {K:PySem.W.Frag} {mg:Str->Option Value} {base:Heap} {k:Nat} {f:Addr} {name qual:Str} {params:Arguments} {body:List Stmt} {scope:Scope} {dV kV doc pm cw ct oc:Value} {an od:Option Addr}
  {yc:Array (Option Value)} {N ps:List Str} {sp:Sp} (lk:K.lookup f=some ⟨oc,od,.func (PySem.W.fnOf name qual params body scope dV kV doc pm an cw ct),yc⟩) (rC:PySem.W.codeIn K cw qual=true) (S:aM N ps scope)
  (len:∀vs H Q E,sp vs H Q E->vs.length=ps.length)
  (rJ:∀(A:Around) (outer:List Env) (s:Shared) (H:Hp) (vs:List V) (Q:VK) (E:XK),cS k (A.deeper (envOfC qual scope s.heap.objs.size f cw))->sp vs H Q E->
   ∃t,ub (uy CX P w K mg base N qual scope f cw A outer s H E) body t/\t {nx:=λ_ H'=>Q .cu H',rt:=Q} (start N vs) H):
  dU P w K mg base CX (k+1) f (PySem.W.fnOf name qual params body scope dV kV doc pm an cw ct) ps sp:=by
 refine⟨len,λA outer s H args us vs Q E hr e0 hb r A6=>?_⟩
 have hl:=len _ _ _ _ A6
 have KX:K.In s.heap:=e0.mod.Gm.keeps λb o e=>(e0.bs b o e).1
 have lim:s.heap.NoLimit:=e0.mod.nolimit.keeps λb o e=>(e0.bs b o e).1
 have mH:∀y∈ps.zip us,scope.names.lookup y.1=some .local\/(scope.names.lookup y.1=some .cell/\((cellsFrom (s.heap.objs.size+1) scope.names []).lookup y.1).isSome=true):=fun⟨n,v⟩ hy=>by
  rcases S.par n (List.of_mem_zip hy).1 with q | q
  ·exact .inl q
  ·exact .inr ⟨q,PySem.W.cellsFrom_some _ _ _ (.inl q)⟩
 refine codeAny_call_function hr.depth (KX _ _ lk) rfl S.co S.gen rfl (PySem.W.codeRec_of KX rC) (hb _ _ _ _ ?_)
 refine wpAny_newFunctionEnv_cells S.kind mH λenv he s1 x=>?_
 subst he
 refine⟨lim.keeps x.toInCall.keep,codeAny_func ?_⟩
 obtain⟨t,ht,hq⟩:=rJ A outer s H vs Q E (hr.deeper _) A6
 have I:Inv (uy CX P w K mg base N qual scope f cw A outer s H E) [] (start N vs) H s1:=xt S hr.hd e0 hl r x
 refine wpAny_mono (ht [] s1 (start N vs) H _ I hq) (λfl s' hs=>?_) λe s' hs=>hs
 have fin:∀{σ':St} {H':Hp} {v:V} {u:Value},Inv (uy CX P w K mg base N qual scope f cw A outer s H E) [] σ' H' s'->RelV v u->Q v H'->CE outer P w H s Q u s':=
  λ{σ' H' v u} J rv q=>⟨v,H',J.os,J.bare,J.base,J.bJ,rv,q⟩
 cases fl with
 | ret u=>
  obtain⟨v,σ',H',J,rv,q⟩:=hs
  exact fin J rv q
 | next=>
  obtain⟨σ',H',J,q⟩:=hs
  exact fin (v:=V.cu) (u:=Value.none) J rfl q
 | brk=>
  obtain⟨_,_,_,q⟩:=hs
  exact False.elim q
 | cont=>
  obtain⟨_,_,_,q⟩:=hs
  exact False.elim q
end L2
namespace L2
open PySem PySem.Spec PyProof.Rows
section
variable {X : Cx} {x : Str} {p pos : Pos} {e : Expr} {es : List Expr} {t : TA} {id T : String} {r : List V -> Hp -> VK -> Prop}
noncomputable def tCB (r:List V->Hp->VK->Prop) (t:TA):TE:=λσ H Q=>t σ H λvs H1=>r vs H1 Q
theorem aR (hc:cF X (.builtin id) r) (hg:Gl X x) (hm:X.mg x=none) (hv:bootBuiltins x=some (.builtin id)) (ha:PA X (e::es) t) (hn:x≠"__name__":=by decide) (yE:(x==("__debug__":Str))=false:=by decide)
  (he:starEach (e::es) X.env=(false,eval e X.env)::starEach es X.env:=by rfl) (hpl:(backTo pos (starEach es X.env)).any (·.1)=false:=by rfl):PE X (.Call (.Name x p) (e::es) [] pos) (tCB r t):=by
 intro pins s σ H Q I h
 refine wpAny_Call_Name_kw (fC I hg hm hv ?_ hn yE)
 exact PyProof.Rows.callWith_builtin1 (bU (ha pos pins s σ H _ I h) λus s1 ⟨vs,H1,I1,r1,q1⟩=>hc pins s1 σ H1 vs us Q I1 r1 q1) he hpl
theorem dY (hc:cF X (.type T) r) (hg:Gl X x) (hm:X.mg x=none) (hv:bootBuiltins x=some (.type T)) (ha:PA X (e::es) t) (hn:x≠"__name__":=by decide) (yE:(x==("__debug__":Str))=false:=by decide)
  (he:starEach (e::es) X.env=(false,eval e X.env)::starEach es X.env:=by rfl) (hpl:(backTo pos (starEach es X.env)).any (·.1)=false:=by rfl):PE X (.Call (.Name x p) (e::es) [] pos) (tCB r t):=by
 intro pins s σ H Q I h
 refine wpAny_Call_Name_kw (fC I hg hm hv ?_ hn yE)
 exact Z5 (bU (ha pos pins s σ H _ I h) λus s1 ⟨vs,H1,I1,r1,q1⟩=>hc pins s1 σ H1 vs us Q I1 r1 q1) he hpl
end
end L2
namespace HT
open PySem PyProof.Rows
section
open PySem.SeqAt
open PySem.AutoSeq1 (wpAny_loadPart')
open PySem.MeetsSeq PySem.MeetsSeq2 PySem.MeetsSeq3
end
section
variable {prog : Program} {w : World} {A : Around} {E : Value -> Shared -> Prop} {s : Shared}
noncomputable def rK (n d:Nat):Option Int->Nat
 | none=>d
 | some v=>if v<0 then (v+ (n:Int)).toNat else min v.toNat n
theorem yH (n d:Nat):rK n d none=d:=rfl
theorem BA (n d k:Nat):rK n d (some (k:Int))=min k n:=by
 show(if (k:Int)<0 then ((k:Int)+ (n:Int)).toNat else min (k:Int).toNat n)=min k n
 rw[if_neg (by omega),YY]
end
end HT
namespace L2
open PySem PySem.Spec PyProof.Rows
abbrev TO:=St->Hp->(Option Int->Hp->Prop)->Prop
noncomputable def PO (X:Cx) (e:Option Expr) (t:TO):Prop:=
 ∀(pins:List (Addr×Obj)) (s:Shared) (σ:St) (H:Hp) (Q:Option Int->Hp->Prop),Inv X pins σ H s->t σ H Q->
  wpAny (model X.prog X.w) X.A (evalPart e X.env) (λu s'=>∃o H',Inv X pins σ H' s'/\IsPart u o/\Q o H') X.xe s
noncomputable def tNoPart:TO:=λ_ H Q=>Q none H
noncomputable def tPart (t:TE):TO:=λσ H Q=>t σ H λx H1=>∃i,x=.int i/\Q (some i) H1
theorem intsAre_of {ns:List Int}:∀{us:List Value},bj (ns.map V.int) us->IntsAre us ns:=by
 induction ns with
 | nil=>intro us r;rw[List.map_nil] at r;cases r;exact .nil
 | cons n ns ih=>
  intro us r
  rw[Zb] at r
  cases r with
  | cons r1 r2=>
   obtain⟨t,e⟩:=r1
   subst e
   exact .cons n t (ih r2)
section
variable {X : Cx} {e : Expr} {te : TE} {lo hi : Option Expr} {tl th : TO} {pos p2 : Pos}
theorem vG:PO X none tNoPart:=by
 intro pins s σ H Q I h
 rw[evalPart_none]
 exact wpAny_pure ⟨none,H,I,.none,h⟩
theorem vH (h:PE X e te):PO X (some e) (tPart te):=by
 intro pins s σ H Q I hw
 rw[evalPart_some]
 refine bU (h pins s σ H _ I hw) λu s1 cI=>?_
 obtain⟨x,H1,I1,r1,q1⟩:=cI
 obtain⟨i,rfl,q⟩:=q1
 obtain⟨t,rfl⟩:=r1
 exact⟨some i,H1,I1,.int i t,q⟩
noncomputable def Jf (X:Cx) (r:V->Option Int->Option Int->Hp->VK->Prop):Prop:=
 ∀(pins:List (Addr×Obj)) (s:Shared) (σ:St) (H:Hp) (x:V) (v vl vu:Value) (lo hi:Option Int) (sl:Addr) (Q:VK),Inv X pins σ H s->RelV x v->s.heap.IsSliceOf sl vl vu .none->IsPart vl lo->IsPart vu hi->r x lo hi H Q->
  ∃T id,typeLookup (.type T) "__getitem__"=pure (some (.builtin id))/\s.TypeIs v T/\wpAny (model X.prog X.w) X.A (getItem v (.ref sl)) (EP X pins σ Q) X.xe s
noncomputable def tSl (r:V->Option Int->Option Int->Hp->VK->Prop) (te:TE) (tl th:TO):TE:=λσ H Q=>te σ H λx H1=>tl σ H1 λl H2=>th σ H2 λu H3=>r x l u H3 Q
theorem rL {r:V->Option Int->Option Int->Hp->VK->Prop} (hr:Jf X r) (he:PE X e te) (hl:PO X lo tl) (hu:PO X hi th):PE X (.Subscript e (.Slice lo hi none p2) pos) (tSl r te tl th):=by
 intro pins s σ H Q I h
 refine Subscript_ (bU (he pins s σ H _ I h) λv s1 cI=>?_)
 obtain⟨x,H1,I1,r1,q1⟩:=cI
 refine wpAny_Slice (bU (hl pins s1 σ H1 _ I1 q1) λvl s2 ⟨l,H2,I2,pl,q2⟩=>bU (hu pins s2 σ H2 _ I2 q2) λvu s3 cI=>?_)
 obtain⟨u,H3,I3,pu,q3⟩:=cI
 rw[evalPart_none]
 refine wpAny_pure ?_
 have I4:Inv X pins σ H3 {s3 with heap:=s3.heap.push {cls:=.type "slice",data:=.fields #[vl,vu,.none]}}:=I3.kept (t':=s3.toks) λb ob q=>Heap.get?_push_of_some _ q
 obtain⟨T,id,hT,ht,hg⟩:=hr pins {s3 with heap:=s3.heap.push {cls:=.type "slice",data:=.fields #[vl,vu,.none]}} σ H3 x v vl vu l u s3.heap.objs.size Q I4 r1 (Heap.IsSliceOf.new ..) pl pu q3
 show wpAny (model X.prog X.w) X.A (subscriptTail e (.Slice lo hi none p2) v (.ref s3.heap.objs.size)) (EP X pins σ Q) X.xe {s3 with heap:=s3.heap.push {cls:=.type "slice",data:=.fields #[vl,vu,.none]}}
 exact tail_any (ops:=[.ref s3.heap.objs.size,v]) ht hT hg (by with_unfolding_all rfl)
noncomputable def ou (xs:List V) (lo hi:Option Int):List V:=(xs.drop (HT.rK xs.length 0 lo)).take (HT.rK xs.length xs.length hi - HT.rK xs.length 0 lo)
theorem rM (xs:List V) (lo hi:Option Int):(ou xs lo hi).length<=xs.length:=by
 unfold ou
 rw[ZG,List.length_drop]
 omega
end
end L2
namespace L2
open PySem PySem.Spec PyProof.Rows
noncomputable def vI (n:Nat) (i:Int):Option Nat:=if 0<=i then (if i<n then some i.toNat else none) else if -(n:Int)<=i then some (i+n).toNat else none
noncomputable def fA {α:Type} (xs:List α) (i:Int):Option α:=(vI xs.length i).bind λj=>xs[j]?
theorem vJ {n:Nat} {i:Int} {j:Nat} (h:vI n i=some j):seqIndex? i n=some j/\j<n/\-(n:Int)<=i/\i<n:=by
 unfold vI at h
 by_cases h0:0<=i
 ·rw[if_pos h0] at h
  by_cases h1:i<n
  ·rw[if_pos h1] at h
   have e:i.toNat=j:=Zg h
   exact⟨by rw[seqIndex_of h0 h1,e],by omega,by omega,h1⟩
  ·rw[if_neg h1] at h;cases h
 ·rw[if_neg h0] at h
  by_cases h1:-(n:Int)<=i
  ·rw[if_pos h1] at h
   have e:(i+n).toNat=j:=Zg h
   exact⟨by rw[seqIndex_neg (by omega) h1,e],by omega,h1,by omega⟩
  ·rw[if_neg h1] at h;cases h
theorem pU {α:Type} {xs:List α} {i:Int} {v:α} (h:fA xs i=some v):∃j,seqIndex? i xs.length=some j/\xs[j]?=some v/\j<xs.length/\-(xs.length:Int)<=i/\i<xs.length:=by
 unfold fA at h
 cases e:vI xs.length i with
 | none=>rw[e] at h;cases h
 | some j=>
  rw[e] at h
  obtain⟨h1,h2,h3,h4⟩:=vJ e
  exact⟨j,h1,h,h2,h3,h4⟩
theorem bF {α:Type} {xs:List α} {j:Nat} {v:α} (h:xs[j]?=some v):fA xs (j:Int)=some v:=by
 have hj:j<xs.length:=(List.getElem?_eq_some_iff.mp h).1
 have e:vI xs.length (j:Int)=some j:=by
  unfold vI
  rw[if_pos (by omega),if_pos (by omega)];simp
 unfold fA;rw[e];exact h
noncomputable def BB (b:Expr):Prop:=∀o i,subscripted b false o i=operate [o,i] (getItem o i)
noncomputable def CY (X:Cx) (r:R2):Prop:=
 ∀(value slice:Expr) (pins:List (Addr×Obj)) (s:Shared) (σ:St) (H:Hp) (x y:V) (v u:Value) (Q:VK),Inv X pins σ H s->RelV x v->RelV y u->r x y H Q->
  subscripted slice false v u=operate [v,u] (getItem v u)->wpAny (model X.prog X.w) X.A (subscriptTail value slice v u) (EP X pins σ Q) X.xe s
noncomputable def J4 (X:Cx) (id:String) (r:V->List V->Hp->VK->Prop):Prop:=
 ∀(pins:List (Addr×Obj)) (s:Shared) (σ:St) (H:Hp) (x:V) (xs:List V) (v:Value) (us:List Value) (Q:VK),Inv X pins σ H s->RelV x v->bj xs us->r x xs H Q->
  wpAny (model X.prog X.w) X.A (call (.builtin id) (v::us)) (EP X pins σ Q) X.xe s
section
variable {X : Cx} {a b : Expr} {ta tb : TE} {pos : Pos}
theorem aL {r:R2} (hr:CY X r) (ha:PE X a ta) (hb:PE X b tb) (hs:BB b):PE X (.Subscript a b pos) (tOp r ta tb):=by
 intro pins s σ H Q I h
 exact Subscript_ (D1 ha hb I h λv u s2 x y H2 I2 rx ry q=>hr a b pins s2 σ H2 x y v u Q I2 rx ry q (hs _ _))
noncomputable def J5 (K:PySem.W.Frag):R2:=λx y H Q=>∃p xs i v,x=.ref p/\y=.int i/\aZ K H p xs/\fA xs i=some v/\Q v H
noncomputable def J6 (K:PySem.W.Frag):R2:=λx y H Q=>∃p xs i v,x=.ref p/\y=.int i/\eA K H p xs/\fA xs i=some v/\Q v H
theorem vK:CY X (J5 X.K):=by
 intro value slice pins s σ H x y v u Q I rx ry h hs
 obtain⟨p,xs,i,z,rfl,rfl,hq,he,q⟩:=h
 cases rx
 obtain⟨t,rfl⟩:=ry
 obtain⟨aW,r,pl,hz⟩:=I.list hq
 obtain⟨j,h1,h2,h3,h4,h5⟩:=pU he
 obtain⟨w,ew,oj⟩:=r.get h2
 have hl:=r.length
 have hn:=mE
 have fin:EP X pins σ Q w s:=⟨z,H,I,oj,q⟩
 by_cases h0:0<=i
 ·have hj:i.toNat=j:=by
   rw[seqIndex_of h0 h5] at h1
   exact Zg h1
  exact item_listR pl.isList h0 (by omega) (by rw[hj];simpa using ew) fin hs
 ·have hj:(i+ (aW.toArray.size:Int)).toNat=j:=by
   rw[seqIndex_neg (by omega) h4] at h1
   rw[Y1,<-hl]
   exact Zg h1
  exact subscriptTail_builtinR (x:=w) pl.isList.typeIs slot_list_getitem.lookup
   (wpAny_getItem_list_neg (Q:=λr s'=>r=w/\EP X pins σ Q r s') pl.isList (by omega) (by rw[Y1] <;>omega) (by omega) (by rw[hj];simpa using ew) ⟨rfl,fin⟩) hs
theorem D5:CY X (J6 X.K):=by
 intro value slice pins s σ H x y v u Q I rx ry h hs
 obtain⟨p,xs,i,z,rfl,rfl,hq,he,q⟩:=h
 cases rx
 obtain⟨t,rfl⟩:=ry
 obtain⟨aW,r,pl,hz⟩:=I.tuple hq
 obtain⟨j,h1,h2,h3,h4,h5⟩:=pU he
 obtain⟨w,ew,oj⟩:=r.get h2
 have hl:=r.length
 have hn:=mE
 have fin:EP X pins σ Q w s:=⟨z,H,I,oj,q⟩
 exact subscriptTail_builtinR (x:=w) pl.typeIs slot_tuple_getitem.lookup
  (getItem_tuple (j:=j) (Q:=λr s'=>r=w/\EP X pins σ Q r s') pl (by omega) (by omega) (by rw[Y1,<-hl];exact h1) (by simpa using ew) ⟨rfl,fin⟩) hs
theorem uz (aW:List Value) (n j:Nat) (u:Value):Obj.mapSeq (·.setIfInBounds j u) {cls:=.type "list",data:=.seq aW.toArray n}={cls:=.type "list",data:=.seq (aW.set j u).toArray n}:=by
 simp [Obj.mapSeq]
theorem Inv.lst {pins:List (Addr×Obj)} {σ:St} {H:Hp} {s:Shared} {p:Addr} {xs:List V} (I:Inv X pins σ H s) (h:H p=some (.lst xs)):
  ∃(aW:List Value) (n:Nat),bj xs aW/\s.heap.get? p=some {cls:=.type "list",data:=.seq aW.toArray n}/\xs.length<=sizeLine:=by
 obtain⟨z,aW,n,r,e⟩:=I.bJ p _ h
 exact⟨aW,n,r,e,z⟩
theorem Inv.D6 {pins:List (Addr×Obj)} {σ:St} {H:Hp} {s:Shared} {p:Addr} {xs ys:List V} {aW its':List Value} {n n':Nat} {f:Obj->Obj} (I:Inv X pins σ H s) (h:H p=some (.lst xs))
  (ho:s.heap.get? p=some {cls:=.type "list",data:=.seq aW.toArray n}) (hf:f {cls:=.type "list",data:=.seq aW.toArray n}={cls:=.type "list",data:=.seq its'.toArray n'}) (r:bj ys its') (hz:ys.length<=sizeLine) (t:Nat):
  Inv X pins σ (upd H p (.lst ys)) {s with heap:=s.heap.update p f,toks:=t}:=by
 have e:(s.heap.update p f).get? p=some {cls:=.type "list",data:=.seq its'.toArray n'}:=by
  rw[Heap.get?_update_self f ho (by rw[hf] <;>rfl),hf]
 refine I.write (x:=p) (e:=p) (by rw[h];trivial) (.inl rfl) (λb u hb q=>(Heap.get?_update_other _ _ (Ne.symm hb)).trans q) ⟨_,e⟩ ?_
 exact⟨hz,its',n',r,e⟩
noncomputable def rSetL:V->V->V->Hp->(Hp->Prop)->Prop:=λo i v H Q=>∃p xs k j,o=.ref p/\i=.int k/\H p=some (.lst xs)/\vI xs.length k=some j/\Q (upd H p (.lst (xs.set j v)))
theorem set_list:DU X rSetL:=by
 intro pins s σ H o i v ov iv u Q I ro ri rv h
 obtain⟨p,xs,k,j,rfl,rfl,hp,hj,q⟩:=h
 cases ro
 obtain⟨t,rfl⟩:=ri
 obtain⟨aW,n,r,ho,hz⟩:=I.lst hp
 obtain⟨h1,h2,h3,h4⟩:=vJ hj
 have hl:=r.length
 have hn:=mE
 have I':Inv X pins σ (upd H p (.lst (xs.set j v))) {s with heap:=s.heap.update p (Obj.mapSeq (·.setIfInBounds j u))}:=
  I.D6 hp ho (uz aW n j u) (r.set rv j) (by rw[Zh];exact hz) s.toks
 by_cases h0:0<=k
 ·have hk:k.toNat=j:=by
   rw[seqIndex_of h0 h4] at h1
   exact Zg h1
  exact PySem.W.ki_setAt ho h0 (by omega) (by rw[Y1,<-hl];exact h4) (by rw[hk];exact⟨_,I',q⟩)
 ·have hk:(k+ (aW.toArray.size:Int)).toNat=j:=by
   rw[seqIndex_neg (by omega) h3] at h1
   rw[Y1,<-hl]
   exact Zg h1
  exact PySem.W.ki_setBack ho (by omega) (by rw[Y1,<-hl];exact h3) (by omega) (by rw[hk];exact⟨_,I',q⟩)
theorem pV (lo hi:Option Int) (n:Nat):(sliceBounds lo hi none n).1=((HT.rK n 0 lo:Nat):Int)/\(sliceBounds lo hi none n).2.1=((HT.rK n n hi:Nat):Int)/\(sliceBounds lo hi none n).2.2=1:=by
 refine⟨?_,?_,rfl⟩
 ·cases lo with
  | none=>simp [sliceBounds,HT.rK]
  | some i=>
   simp only[sliceBounds,HT.rK,Option.getD_none,show(1:Int) >0 by decide,if_true]
   by_cases h:i<0
   ·simp only[h,if_true] <;>omega
   ·simp only[h,if_false] <;>omega
 ·cases hi with
  | none=>simp [sliceBounds,HT.rK]
  | some i=>
   simp only[sliceBounds,HT.rK,Option.getD_none,show(1:Int) >0 by decide,if_true]
   by_cases h:i<0
   ·simp only[h,if_true] <;>omega
   ·simp only[h,if_false] <;>omega
theorem oz (aW:List Value) (lo hi:Option Int):slicePick aW.toArray lo hi none=((aW.drop (HT.rK aW.length 0 lo)).take (HT.rK aW.length aW.length hi - HT.rK aW.length 0 lo)).toArray:=by
 obtain⟨h1,h2,h3⟩:=pV lo hi aW.toArray.size
 unfold slicePick
 rw[h1,h2,h3]
 simp only[sliceRange_one,pick_run,Y1] <;>rfl
noncomputable def rSlL (K:PySem.W.Frag):V->Option Int->Option Int->Hp->VK->Prop:=λx lo hi H Q=>∃a xs,x=.ref a/\aZ K H a xs/\∀p,H p=none->Q (.ref p) (upd H p (.lst (ou xs lo hi)))
theorem BC:Jf X (rSlL X.K):=by
 intro pins s σ H x v vl vu lo hi sl Q I rx hs pl pu h
 obtain⟨a,xs,rfl,hx,q⟩:=h
 cases rx
 obtain⟨aW,r,ht,hz⟩:=I.list hx
 have hlen:=r.length
 refine⟨"list",_,slot_list_getitem.lookup,ht.isList.typeIs,?_⟩
 refine wpAny_getItem_list_slice ht.isList hs pl pu .none (by simp) ?_ (by rw[Y1] <;>omega)
 rw[oz,<-hlen]
 refine⟨.ref s.heap.objs.size,_,I.laid (t':=s.toks) (o:=.lst (ou xs lo hi)) (λb ob q=>Heap.get?_push_of_some _ q) (YS _) ?_,rfl,q _ (I.bJ.fresh (YS _))⟩
 exact⟨Y2 (rM xs lo hi) hz,_,0,(r.drop (HT.rK xs.length 0 lo)).take (HT.rK xs.length xs.length hi - HT.rK xs.length 0 lo),Heap.get?_push_size _ rfl⟩
noncomputable def dD:V->Bool
 | .cu=>true
 | .bl _=>true
 | .int _=>true
 | .str _=>true
 | _=>false
noncomputable def vL:V->V->Bool
 | .cu,.cu=>true
 | .bl a,.bl b=>a==b
 | .bl a,.int b=>(if a then 1 else 0)==b
 | .int a,.bl b=>a==(if b then 1 else 0)
 | .int a,.int b=>a==b
 | .str a,.str b=>a==b
 | _,_=>false
theorem uA {A:Around} {s:Shared} {y x:V} {u v:Value} (ry:RelV y u) (rx:RelV x v) (fy:dD y=true) (fx:dD x=true):SeqAt.EqAt A s u v (vL y x):=by
 cases y with
 | cu=>
  cases ry
  cases x with
  | cu=>cases rx;exact SeqAt.EqAt.same _
  | bl b=>cases rx;exact SeqAt.EqAt.none_bool b
  | int b=>obtain⟨t,rfl⟩:=rx;exact SeqAt.EqAt.none_int b t
  | str b=>obtain⟨t,rfl⟩:=rx;exact SeqAt.EqAt.none_str b t
  | _=>exact absurd (show false=true from fx) Y7
 | bl a=>
  cases ry
  cases x with
  | cu=>cases rx;exact SeqAt.EqAt.bool_none a
  | bl b=>cases rx;exact SeqAt.EqAt.bool_bool a b
  | int b=>obtain⟨t,rfl⟩:=rx;exact SeqAt.EqAt.bool_int a b t
  | str b=>obtain⟨t,rfl⟩:=rx;exact SeqAt.EqAt.bool_str a b t
  | _=>exact absurd (show false=true from fx) Y7
 | int a=>
  obtain⟨t',rfl⟩:=ry
  cases x with
  | cu=>cases rx;exact SeqAt.EqAt.int_none a t'
  | bl b=>cases rx;exact SeqAt.EqAt.int_bool a t' b
  | int b=>obtain⟨t,rfl⟩:=rx;exact SeqAt.EqAt.int_int a t' b t
  | str b=>obtain⟨t,rfl⟩:=rx;exact SeqAt.EqAt.int_str a t' b t
  | _=>exact absurd (show false=true from fx) Y7
 | str a=>
  obtain⟨t',rfl⟩:=ry
  cases x with
  | cu=>cases rx;exact SeqAt.EqAt.str_none a t'
  | bl b=>cases rx;exact SeqAt.EqAt.str_bool a t' b
  | int b=>obtain⟨t,rfl⟩:=rx;exact SeqAt.EqAt.str_int a t' b t
  | str b=>obtain⟨t,rfl⟩:=rx;exact SeqAt.EqAt.str_str a t' b t
  | _=>exact absurd (show false=true from fx) Y7
 | _=>exact absurd (show false=true from fy) Y7
noncomputable def BD (x:V) (u:Value):Bool:=match u with
 | .none=>vL .cu x
 | .bool b=>vL (.bl b) x
 | .int i _=>vL (.int i) x
 | .str z _=>vL (.str z) x
 | _=>false
theorem yI {x y:V} {u:Value} (r:RelV y u) (f:dD y=true):BD x u=vL y x:=by
 cases y with
 | cu=>cases r;rfl
 | bl b=>cases r;rfl
 | int i=>obtain⟨t,rfl⟩:=r;rfl
 | str z=>obtain⟨t,rfl⟩:=r;rfl
 | _=>exact absurd (show false=true from f) Y7
theorem pW {x:V}:∀{xs:List V} {us:List Value},bj xs us->xs.all dD=true->us.any (BD x)=xs.any λy=>vL y x
 | _,_,.nil,_=>rfl
 | y::xs,u::us,.cons r t,f=>by
  rw[List.all_cons,Bool.and_eq_true] at f
  rw[List.any_cons,List.any_cons,yI r f.1,pW t f.2]
theorem mI {A:Around} {s:Shared} {x:V} {v:Value} (rx:RelV x v) (fx:dD x=true):∀{xs:List V} {us:List Value},bj xs us->xs.all dD=true->∀u∈us,SeqAt.EqAt A s u v (BD x u)
 | _,_,.nil,_=>λu hu=>by cases hu
 | y::xs,u::us,.cons r t,f=>λu' hu=>by
  rw[List.all_cons,Bool.and_eq_true] at f
  rcases List.mem_cons.mp hu with rfl | hu
  ·rw[yI r f.1];exact uA r rx f.1 fx
  ·exact mI rx fx t f.2 u' hu
noncomputable def D7 (x:V) (xs:List V):Bool:=xs.any λy=>vL y x
noncomputable def J7 (K:PySem.W.Frag) (neg:Bool):R2:=λx y H Q=>∃p xs,y=.ref p/\(aZ K H p xs\/eA K H p xs)/\dD x=true/\xs.all dD=true/\Q (.bl (if neg then !D7 x xs else D7 x xs)) H
theorem pX:jF X (compareOp .NotIn) (J7 X.K true):=by
 intro pins s σ H x y v u Q I rx ry h
 obtain⟨p,xs,rfl,hq,fx,fs,q⟩:=h
 cases ry
 rcases hq with hq | hq
 ·obtain⟨aW,r,pl,hz⟩:=I.list hq
  refine SeqAt.notIn_listAt (BD x) pl.isList (λw hw=>mI rx fx r fs w (by simpa using hw)) ⟨.bl _,H,I,rfl,?_⟩
  rw[show aW.toArray.any (BD x)=aW.any (BD x) by simp,pW r fs]
  exact q
 ·obtain⟨aW,r,pl,hz⟩:=I.tuple hq
  refine SeqAt.notIn_tupleAt (BD x) pl (λw hw=>mI rx fx r fs w (by simpa using hw)) ⟨.bl _,H,I,rfl,?_⟩
  rw[show aW.toArray.any (BD x)=aW.any (BD x) by simp,pW r fs]
  exact q
theorem fH:cF X (.builtin "len") (λxs H Q=>∃p ys,xs=[.ref p]/\(aZ X.K H p ys\/eA X.K H p ys)/\Q (.int ys.length) H):=by
 intro pins s σ H xs us Q I r h
 obtain⟨p,ys,rfl,hq,q⟩:=h
 obtain⟨u,rfl,rx⟩:=vals1 r
 cases rx
 have hn:=mE
 rcases hq with hq | hq
 ·obtain⟨aW,r',pl,hz⟩:=I.list hq
  have hlen:=r'.length
  exact Calls.call_len_list pl.isList (by simp only[Y1] <;>omega) ⟨.int ys.length,H,I.tok _,⟨s.toks+1,by rw[Y1,hlen]⟩,q⟩
 ·obtain⟨aW,r',pl,hz⟩:=I.tuple hq
  have hlen:=r'.length
  exact len_tuple pl (by simp only[Y1] <;>omega) ⟨.int ys.length,H,I.tok _,⟨s.toks+1,by rw[Y1,hlen]⟩,q⟩
theorem pY:cF X (.type "list") (λxs H Q=>∃p ys,xs=[.ref p]/\(aZ X.K H p ys\/eA X.K H p ys)/\∀l,H l=none->Q (.ref l) (upd H l (.lst ys))):=by
 intro pins s σ H xs us Q I r h
 obtain⟨p,ys,rfl,hq,q⟩:=h
 obtain⟨u,rfl,rx⟩:=vals1 r
 cases rx
 have fin:∀(aW:List Value),bj ys aW->ys.length<=sizeLine->∀(h':Heap) (c':Nat),(∀b o',s.heap.get? b=some o'->h'.get? b=some o')->
   h'.get? s.heap.objs.size=some {cls:=.type "list",dict:=none,data:=.seq aW.toArray c',slots:=#[]}->EP X pins σ Q (.ref s.heap.objs.size) {s with heap:=h'}:=λaW r' hz h' c' kp e=>
  ⟨.ref s.heap.objs.size,_,I.laid (t':=s.toks) kp (YS _) (show bY X.prog X.w _ h' _ (.lst ys) from⟨hz,aW,c',r',e⟩),rfl,q _ (I.bJ.fresh (YS _))⟩
 rcases hq with hq | hq
 ·obtain⟨aW,r',pl,hz⟩:=I.list hq
  have hlen:=r'.length
  obtain⟨o,ho,hc,n,hd⟩:=pl.isList
  exact call_list_seq p (.inl rfl) ho hc hd (λh' c' kp e=>fin aW r' hz h' c' kp e) (by simp only[Y1] <;>omega)
 ·obtain⟨aW,r',pl,hz⟩:=I.tuple hq
  have hlen:=r'.length
  obtain⟨o,ho,hc,n,hd⟩:=pl
  exact call_list_seq p (.inr rfl) ho hc hd (λh' c' kp e=>fin aW r' hz h' c' kp e) (by simp only[Y1] <;>omega)
noncomputable def J8 (K:PySem.W.Frag) (T:String) (x:V) (H:Hp):Prop:=match x with
 | .str _=>T="str"
 | .int _=>T="int"
 | .ref p=>(T="list"/\∃xs,aZ K H p xs)\/(T="tuple"/\∃o,K.lookup p=some o/\o.cls=.type "tuple"/\o.dict=none)\/
   (T="dict"/\((∃kvs,H p=some (.dK kvs))\/∃kvs,H p=some (.dT kvs)))\/(T="set"/\∃S n,H p=some (.set S n))
 | _=>False
theorem D8 {pins:List (Addr×Obj)} {σ:St} {H:Hp} {s:Shared} {T:String} {x:V} {v:Value} (I:Inv X pins σ H s) (r:RelV x v) (ty:J8 X.K T x H):
  s.TypeIs v T/\∀a,v=.ref a->∃ob,s.heap.get? a=some ob/\ob.dict=none:=by
 cases x with
 | str z=>
  obtain⟨t,rfl⟩:=r
  cases (show T="str" from ty)
  exact⟨typeIs_str s z t,λ_ e=>nomatch e⟩
 | int i=>
  obtain⟨t,rfl⟩:=r
  cases (show T="int" from ty)
  exact⟨typeIs_int s i t,λ_ e=>nomatch e⟩
 | ref p=>
  cases r
  rcases ty with ⟨rfl,xs,hq⟩ | ⟨rfl,o,hk,hc,hd⟩ | ⟨rfl,hk⟩ | ⟨rfl,S,n,hk⟩
  ·obtain⟨aW,_,pl,_⟩:=I.list hq
   refine⟨pl.isList.typeIs,λa e=>?_⟩
   cases e
   obtain⟨o,n,e,c,hd,_⟩:=pl
   exact⟨o,e,hd⟩
  ·refine⟨⟨o,I.kC p o hk,hc⟩,λa e=>?_⟩
   cases e
   exact⟨o,I.kC _ o hk,hd⟩
  ·have z:∃o,s.heap.get? p=some o/\o.ExactDict:=by
    rcases hk with ⟨kvs,hk⟩ | ⟨kvs,hk⟩
    ·obtain⟨_,_,_,_,o,_,_,e,ex,_⟩:=I.bJ p _ hk
     exact⟨o,e,ex⟩
    ·obtain⟨_,_,_,_,o,_,_,e,ex,_⟩:=I.bJ p _ hk
     exact⟨o,e,ex⟩
   obtain⟨o,e,ex⟩:=z
   refine⟨⟨o,e,ex.1⟩,λa e2=>?_⟩
   cases e2
   exact⟨o,e,ex.2.1⟩
  ·obtain⟨o,_,_,_,e,ex,_⟩:=I.bJ p _ hk
   refine⟨⟨o,e,ex.1⟩,λa e2=>?_⟩
   cases e2
   exact⟨o,e,ex.2.1⟩
 | _=>exact False.elim ty
noncomputable def tBM (K:PySem.W.Frag) (T:String) (r:V->List V->Hp->VK->Prop) (to:TE) (t:TA):TE:=λσ H Q=>to σ H λx H1=>J8 K T x H1/\t σ H1 λxs H2=>r x xs H2 Q
variable {o e : Expr} {es : List Expr} {to : TE} {t : TA} {name : Str} {apos gj : Pos} {T id : String} {r : V -> List V -> Hp -> VK -> Prop}
theorem fW (pa:PlainAttrs T) (slot:Slot T name id) (TX:typeOf (.builtin id)=pure (.type "method_descriptor")) (hm:J4 X id r) (ho:PE X o to) (ha:PA X (e::es) t)
  (GD:attributeBase o name X.env (eval o X.env)=eval o X.env:=by rfl)
  (J9:((backTo gj (starEach (e::es) X.env)).all (λx=>!x.1) && (backToKw gj (keywordEach [] X.env)).all (λx=>x.1.isSome)
   && decide ((e::es).length+ ([]:List Keyword).length+ (if ([]:List Keyword).isEmpty then 0 else 1)<30))=true:=by rfl)
  (GF:(apos.endLine==gj.line)=true:=by rfl) (hs:starEach (e::es) X.env=(false,eval e X.env)::starEach es X.env:=by rfl) (Ea:(backTo gj (starEach es X.env)).any (·.1)=false:=by rfl):
  PE X (.Call (.Attribute o name apos) (e::es) [] gj) (tBM X.K T r to t):=by
 intro pins s σ H Q I h
 refine wpAny_Call_method_late GD J9 GF rfl (bU (ho pins s σ H _ I h) λv s1 cI=>?_)
 obtain⟨x,H1,I1,r1,ty,q1⟩:=cI
 obtain⟨h1,h2⟩:=D8 I1 r1 ty
 refine⟨T,id,pa,slot,TX,h1,h2,?_⟩
 have hA:=ha gj pins s1 σ H1 _ I1 q1
 rw[hs] at hA ⊢
 refine Calls.callWith_builtin (by show(false || (backTo gj (starEach es X.env)).any (·.1))=false;rw[Ea] <;>rfl) (Calls.evalArgs_plain ?_)
 exact bU hA λus s2 ⟨vs,H2,I2,r2,q2⟩=>hm pins s2 σ H2 x vs v us Q I2 r1 r2 q2
end
end L2
namespace L2
open PySem PySem.Spec PyProof.Rows
noncomputable def GG (X:Cx) (id:String) (r:V->List V->Hp->VK->Prop):Prop:=
 ∀(pins:List (Addr×Obj)) (s:Shared) (σ:St) (H:Hp) (x:V) (xs:List V) (v:Value) (us:List Value) (Q:VK),Inv X pins σ H s->RelV x v->bj xs us->r x xs H Q->
  wpAny (model X.prog X.w) X.A (call (.builtin id) (v::us)) (EP X pins σ Q) X.xe s
theorem bj.one:∀{x:V} {us:List Value},bj [x] us->∃u,us=[u]/\RelV x u
 | _,_,.cons r .nil=>⟨_,rfl,r⟩
theorem bj.rep {xs:List V} {us:List Value} (h:bj xs us):∀k:Nat,bj (List.replicate k xs).flatten (List.replicate k us).flatten
 | 0=>.nil
 | k+1=>by
  rw[List.replicate_succ,List.replicate_succ,List.flatten_cons,List.flatten_cons]
  exact bj.append h (bj.rep h k)
theorem foldl_rep (aW:List Value):∀(k:Nat) (acc:List Value),
  List.foldl (λx1 x2=>x1++x2) acc.toArray (List.replicate k aW.toArray)=(acc++ (List.replicate k aW).flatten).toArray
 | 0,acc=>by simp
 | k+1,acc=>by
  have e:acc.toArray++aW.toArray=(acc++aW).toArray:=by simp
  have e2:(acc++aW)++ (List.replicate k aW).flatten=acc++ (List.replicate (k+1) aW).flatten:=by
   rw[List.replicate_succ,List.flatten_cons,List.append_assoc]
  rw[<-e2,<-foldl_rep aW k (acc++aW),<-e,List.replicate_succ,List.foldl_cons]
section
variable {X : Cx} {pins : List (Addr × Obj)} {σ : St} {H : Hp} {s : Shared} {l b : Addr} {xs ys zs : List V}
theorem Inv.GH {aW its':List Value} {n:Nat} {f:Array Value->Array Value} {t':Nat} (I:Inv X pins σ H s) (hH:H l=some (.lst xs))
  (e:s.heap.get? l=some {cls:=.type "list",data:=.seq aW.toArray n}) (hf:f aW.toArray=its'.toArray) (hv:bj ys its') (hz:ys.length<=sizeLine):
  Inv X pins σ (upd H l (.lst ys)) {s with heap:=s.heap.update l (Obj.mapSeq f),toks:=t'}:=by
 have q:=PySem.IsL.update e f
 rw[hf] at q
 refine I.write (x:=l) (e:=l) (by rw[hH];exact trivial) (.inl rfl) (λb' u hb hu=>(Heap.get?_update_other s.heap (Obj.mapSeq f) (Ne.symm hb)).trans hu) ⟨_,q⟩ ?_
 exact⟨hz,its',_,hv,q⟩
theorem Inv.uB {aW:List Value} {t':Nat} (I:Inv X pins σ H s) (hv:bj ys aW) (hz:ys.length<=sizeLine):
  Inv X pins σ (upd H s.heap.objs.size (.lst ys)) {s with heap:=s.heap.push {cls:=.type "list",data:=.seq aW.toArray},toks:=t'}:=
 I.laid (λ_ _ q=>Heap.get?_push_of_some _ q) (YS _) ⟨hz,aW,0,hv,Heap.get?_push_size _ rfl⟩
theorem Inv.fresh (I:Inv X pins σ H s):H s.heap.objs.size=none:=I.bJ.fresh (YS _)
theorem Inv.yJ (I:Inv X pins σ H s) (hH:H l=some (.lst xs)):xs.length<=sizeLine/\∃(aW:List Value) (n:Nat),bj xs aW/\xs.length=aW.length/\s.heap.get? l=some {cls:=.type "list",data:=.seq aW.toArray n}:=by
 obtain⟨z,aW,n,r,e⟩:=I.bJ l _ hH
 exact⟨z,aW,n,r,r.length,e⟩
theorem yK {n:Nat} (h:n<=sizeLine):Builtin.List.listTooLong n=false:=by
 unfold Builtin.List.listTooLong
 exact decide_eq_false (by omega)
end
section
variable {X : Cx}
noncomputable def cX:V->List V->Hp->VK->Prop:=λx vs H Q=>∃l xs y,x=.ref l/\vs=[y]/\H l=some (.lst xs)/\xs.length<sizeLine/\Q .cu (upd H l (.lst (xs++ [y])))
theorem cz:GG X "list.append" cX:=by
 intro pins s σ H x vs v us Q I rx rv h
 obtain⟨l,xs,y,rfl,rfl,hH,hz,q⟩:=h
 cases rx
 obtain⟨u,rfl,ru⟩:=rv.one
 obtain⟨z,aW,n,r,hl,e⟩:=I.yJ hH
 refine call_meets F.slot_list_append ⟨_,e,rfl⟩ F.entry_list_append (F.args_list_append_2 _ _) (PySem.list_append l aW.toArray n u (by rw[Y1];omega)) ⟨e,?_⟩
 refine⟨.cu,_,I.GH (its':=aW++ [u]) hH e (by simp) (r.append (.cons ru .nil)) ?_,rfl,q⟩
 rw[Zf,List.length_singleton]
 omega
noncomputable def GI:R2:=λx y H Q=>∃l b xs zs,x=.ref l/\y=.ref b/\H l=some (.lst xs)/\H b=some (.lst zs)/\xs.length+zs.length<=sizeLine/\∀p,H p=none->Q (.ref p) (upd H p (.lst (xs++zs)))
theorem Eb:jF X (binaryOp .Add) GI:=by
 intro pins s σ H x y v u Q I rx ry h
 obtain⟨l,b,xs,zs,rfl,rfl,hH,hB,hz,q⟩:=h
 cases rx
 cases ry
 obtain⟨z,aW,n,r,hl,e⟩:=I.yJ hH
 obtain⟨z2,kE,n2,r2,F2,e2⟩:=I.yJ hB
 refine PySem.P.add_list e e2 ?_ (by rw[Y1,Y1];omega)
 have ea:aW.toArray++kE.toArray=(aW++kE).toArray:=by simp
 rw[ea]
 exact⟨.ref _,_,I.uB (t':=s.toks) (r.append r2) (by rw[Zf];omega),rfl,q _ I.fresh⟩
noncomputable def BE:R2:=λx y H Q=>∃l k xs,x=.ref l/\y=.int k/\H l=some (.lst xs)/\-(2^63)<=k/\k<2^63/\xs.length*k.toNat<=sizeLine/\
 ∀p,H p=none->Q (.ref p) (upd H p (.lst (List.replicate k.toNat xs).flatten))
theorem len_rep {α:Type} (xs:List α) (k:Nat):(List.replicate k xs).flatten.length=k*xs.length:=by
 induction k with
 | zero=>simp
 | succ k ih=>rw[List.replicate_succ,List.flatten_cons,Zf,ih,Nat.succ_mul,Nat.add_comm]
theorem uC:jF X (binaryOp .Mult) BE:=by
 intro pins s σ H x y v u Q I rx ry h
 obtain⟨l,k,xs,rfl,rfl,hH,h1,h2,hz,q⟩:=h
 cases rx
 obtain⟨t,rfl⟩:=ry
 obtain⟨z,aW,n,r,hl,e⟩:=I.yJ hH
 have hlen:aW.toArray.size*k.toNat<=sizeLine:=by rw[Y1,<-hl];exact hz
 have Ka:¬aW.toArray.size*k.toNat >(2^63 - 1) / 8:=by
  have:(sizeLine:Nat)<=(2^63 - 1) / 8:=by decide
  omega
 have Ec:¬(!Builtin.List.listFitsIndex k)=true:=by
  rw[fitsIndex_both h1 h2]
  exact Y7
 have GJ:¬Builtin.List.listTooLong (aW.toArray.size*k.toNat)=true:=by
  rw[yK hlen]
  exact Y7
 have Kb:List.foldl (λx1 x2=>x1++x2) #[] (List.replicate (if aW.toArray.isEmpty=true then 0 else k.toNat) aW.toArray)=(List.replicate k.toNat aW).flatten.toArray:=by
  have f0:∀m:Nat,List.foldl (λx1 x2=>x1++x2) #[] (List.replicate m aW.toArray)=(List.replicate m aW).flatten.toArray:=λm=>by
   have:=foldl_rep aW m []
   rw[List.nil_append] at this
   exact this
  rw[f0]
  cases aW with
  | nil=>simp
  | cons a r'=>rw[if_neg (by simp)]
 refine wpAny_binaryOp_repeat_ref (T:="list") (U:="int") (by decide) ⟨_,e,rfl⟩ (λs'=>typeIs_int s' k t) noFill_list_mul F.fills_int_mul F.slot_int_rmul repeat_list F.slot_int_index.lookup
  (call_meets F.slot_int_rmul (typeIs_int s k t) F.entry_int_rmul (F.args_int_rmul_2 _ _) (int___rmul___int_list k t l aW.toArray n)
   ⟨e,rfl,⟨_,e,rfl⟩,call_meets F.slot_list_mul ⟨_,e,rfl⟩ F.entry_list_mul (F.args_list_mul_2 _ _) (AutoListH.list___mul___list_int_3 l aW.toArray n k t Ec Ka GJ) ⟨e,?_⟩⟩)
 rw[Kb]
 exact⟨.ref _,_,I.uB (t':=s.toks) (r.rep k.toNat) (by rw[len_rep,Nat.mul_comm];exact hz),rfl,q _ I.fresh⟩
end
section
variable {prog : Program} {w : World} {A : Around} {E : Value -> Shared -> Prop} {s : Shared}
end
section
variable {X : Cx}
end
end L2
namespace L2
open PySem PySem.Spec PyProof.Rows
section
variable {κ : Type} [DecidableEq κ]
noncomputable def gC (kvs:List (κ×V)) (k:κ):Option V:=(kvs.find? λkv=>decide (kv.1=k)).map (·.2)
noncomputable def putK (kvs:List (κ×V)) (k:κ) (v:V):List (κ×V):=
 if (kvs.any λkv=>decide (kv.1=k))=true then kvs.map (λkv=>if kv.1=k then (kv.1,v) else kv) else kvs++ [(k,v)]
noncomputable def GK (kvs:List (κ×V)) (k:κ):List (κ×V):=kvs.filter λkv=>decide (kv.1≠k)
theorem i8 {p:κ×V} {r:List (κ×V)} {k:κ} (e:p.1=k):gC (p::r) k=some p.2:=by simp [gC,List.find?_cons,e]
theorem gD {p:κ×V} {r:List (κ×V)} {k:κ} (e:¬p.1=k):gC (p::r) k=gC r k:=by simp [gC,List.find?_cons,e]
theorem mJ (k:κ):∀kvs:List (κ×V),(kvs.any λkv=>decide (kv.1=k))=(gC kvs k).isSome
 | []=>rfl
 | p::r=>by
  rw[List.any_cons]
  by_cases e:p.1=k
  ·simp only[i8 e,decide_eq_true e,Bool.true_or,Option.isSome_some]
  ·rw[gD e,decide_eq_false e,Bool.false_or];exact mJ k r
theorem j4 (kvs:List (κ×V)) (k:κ) (v:V):(putK kvs k v).length<=kvs.length+1:=by
 unfold putK
 split
 ·rw[YO];omega
 ·rw[Zf,Y4,List.length_nil];omega
theorem rN {kvs:List (κ×V)} {k:κ} (v:V) (h:gC kvs k=none):putK kvs k v=kvs++ [(k,v)]:=by
 unfold putK
 rw[mJ,h]
 exact if_neg (by decide)
theorem ie.eU {o:Option V} {u:Option Value} (r:ie o u):o.isSome=u.isSome:=by
 cases o with
 | none=>cases u with
  | none=>rfl
  | some _=>exact(show False from r).elim
 | some _=>cases u with
  | none=>exact(show False from r).elim
  | some _=>rfl
theorem KV.val {kvs:List (κ×V)} {vs:List (κ×Value)} (r:KV kvs vs) (k:κ):ie (gC kvs k) (valueAt vs k):=by
 unfold KV at r
 induction r with
 | nil=>exact True.intro
 | @cons p q ps qs h t ih=>
  obtain⟨h1,h2⟩:=h
  by_cases e:p.1=k
  ·have e':q.1=k:=h1.symm.trans e
   have b:valueAt (q::qs) k=some q.2:=by simp [valueAt,List.find?_cons,e']
   rw[i8 e,b];exact h2
  ·have e':¬q.1=k:=λz=>e (h1.trans z)
   have b:valueAt (q::qs) k=valueAt qs k:=by simp [valueAt,List.find?_cons,e']
   rw[gD e,b];exact ih
theorem KV.any {kvs:List (κ×V)} {vs:List (κ×Value)} (r:KV kvs vs) (k:κ):(kvs.any λkv=>decide (kv.1=k))=vs.any λkv=>decide (kv.1=k):=by
 unfold KV at r
 induction r with
 | nil=>rfl
 | cons h t ih=>rw[List.any_cons,List.any_cons,ih,h.1]
theorem KV.Ed {kvs:List (κ×V)} {vs:List (κ×Value)} (r:KV kvs vs) (k:κ) {y:V} {u:Value} (ry:RelV y u):
  KV (kvs.map λkv=>if kv.1=k then (kv.1,y) else kv) (vs.map λkv=>if kv.1=k then (kv.1,u) else kv):=by
 unfold KV at r ⊢
 induction r with
 | nil=>exact .nil
 | @cons p q ps qs h t ih=>
  rw[Zb,Zb]
  refine .cons ?_ ih
  obtain⟨h1,h2⟩:=h
  by_cases e:p.1=k
  ·rw[if_pos e,if_pos (h1.symm.trans e)];exact⟨h1,ry⟩
  ·rw[if_neg e,if_neg (λz=>e (h1.trans z))];exact⟨h1,h2⟩
theorem KV.put {kvs:List (κ×V)} {vs:List (κ×Value)} (r:KV kvs vs) (k:κ) {y:V} {u:Value} (ry:RelV y u):KV (putK kvs k y) (stored vs k u):=by
 unfold putK stored
 rw[r.any k]
 by_cases e:(vs.any λkv=>decide (kv.1=k))=true
 ·rw[if_pos e,if_pos e];exact r.Ed k ry
 ·rw[if_neg e,if_neg e];exact Paired.snoc r ⟨rfl,ry⟩
theorem KV.length {kvs:List (κ×V)} {vs:List (κ×Value)} (r:KV kvs vs):kvs.length=vs.length:=Paired.length r
end
theorem o3 {P:Program} {w:World} {k:Key} {u:Value} (r:RelV (kV k) u):(b8 P w).is k u=true:=by
 cases k with
 | inl i=>obtain⟨t,e⟩:=(show ∃t,u=Value.int i t from r);subst e;exact rj P w i t
 | inr x=>obtain⟨t,e⟩:=(show ∃t,u=Value.str x t from r);subst e;exact rn P w x t
theorem o4 {P:Program} {w:World}:∀{ks:List Key} {us:List Value},bj (ks.map kV) us->ItemsAre (b8 P w) ks us
 | [],_,r=>by rw[List.map_nil] at r;cases r;exact .nil
 | k::ks,_,r=>by
  rw[Zb] at r
  cases r with
  | cons h t=>exact .cons (o3 h) (o4 t)
abbrev KT (H:Hp):List (List Key×V)->List (List Key×Addr×Value)->Prop:=Paired λp q=>p.1=q.1/\H q.2.1=some (.tup (p.1.map kV))/\RelV p.2 q.2.2
theorem KT.val {H:Hp} {kvs:List (List Key×V)} {xs:List (List Key×Addr×Value)} (r:KT H kvs xs) (k:List Key):ie (gC kvs k) ((atKey xs k).map (·.2)):=by
 induction r with
 | nil=>exact True.intro
 | @cons p q ps qs h t ih=>
  obtain⟨h1,_,h2⟩:=h
  by_cases e:p.1=k
  ·have e':q.1=k:=h1.symm.trans e
   have b:atKey (q::qs) k=some q.2:=by simp [atKey,List.find?_cons,e']
   rw[i8 e,b];exact h2
  ·have e':¬q.1=k:=λz=>e (h1.trans z)
   have b:atKey (q::qs) k=atKey qs k:=by simp [atKey,List.find?_cons,e']
   rw[gD e,b];exact ih
theorem KT.Ed {H:Hp} {kvs:List (List Key×V)} {xs:List (List Key×Addr×Value)} (r:KT H kvs xs) (k:List Key) {y:V} {u:Value} (ry:RelV y u):
  KT H (kvs.map λkv=>if kv.1=k then (kv.1,y) else kv) (xs.map (putAt k u)):=by
 induction r with
 | nil=>exact .nil
 | @cons p q ps qs h t ih=>
  rw[Zb,Zb]
  refine .cons ?_ ih
  obtain⟨h1,h2,h3⟩:=h
  unfold putAt
  by_cases e:p.1=k
  ·rw[if_pos e,if_pos (h1.symm.trans e)];exact⟨h1,h2,ry⟩
  ·rw[if_neg e,if_neg (λz=>e (h1.trans z))];exact⟨h1,h2,h3⟩
theorem KT.put {H:Hp} {kvs:List (List Key×V)} {xs:List (List Key×Addr×Value)} (r:KT H kvs xs) (k:List Key) {b:Addr} {y:V} {u:Value} (hb:H b=some (.tup (k.map kV))) (ry:RelV y u):
  KT H (putK kvs k y) (storedH xs k b u):=by
 have e:(kvs.any λkv=>decide (kv.1=k))=(atKey xs k).isSome:=by
  rw[mJ,(r.val k).eU,Option.isSome_map]
 unfold putK storedH
 rw[e]
 by_cases q:(atKey xs k).isSome=true
 ·rw[if_pos q,if_pos q];exact r.Ed k ry
 ·rw[if_neg q,if_neg q];exact Paired.snoc r ⟨rfl,hb,ry⟩
theorem KT.keeps {H H':Hp} {kvs:List (List Key×V)} {xs:List (List Key×Addr×Value)} (r:KT H kvs xs) (ht:∀b ys,H b=some (.tup ys)->H' b=some (.tup ys)):KT H' kvs xs:=
 Paired.DM r λ_ _ z=>⟨z.1,ht _ _ z.2.1,z.2.2⟩
section
variable {P : Program} {w : World} {H : Hp} {h : Heap} {a : Addr}
theorem CZ {u:HO} (ok:gX P w H h) (e:Rd H a u):bY P w H h a u:=e.ok ok
theorem o5 {kvs:List (Key×V)} (ok:gX P w H h) (e:Rd H a (.dK kvs)):kvs.length<=sizeLine/\(a==sysModules)=false/\∃vs,KV kvs vs/\h.DictOf (b8 P w) a vs:=
 show bY P w H h a (.dK kvs) from CZ ok e
theorem C0 {kvs:List (Key×V)} (ok:gX P w H h) (e:H a=some (.dK kvs)):kvs.length<=sizeLine/\(a==sysModules)=false/\∃vs,KV kvs vs/\h.DictOf (b8 P w) a vs:=o5 ok (.inl e)
theorem mK {ks:List Key} (ok:gX P w H h) (e:H a=some (.tup (ks.map kV))):(tupleKind (b8 P w)).is h ks a:=by
 obtain⟨_,aW,r,o,h1,h2,n,h3⟩:=(show bY P w H h a (.tup (ks.map kV)) from ok a _ e)
 exact⟨o,aW.toArray,n,h1,h2,h3,by simpa using o4 r⟩
theorem rO {kvs:List (List Key×V)} (ok:gX P w H h) (e:Rd H a (.dT kvs)):kvs.length<=sizeLine/\(a==sysModules)=false/\
  ∃xs,KT H kvs xs/\h.DictOfH (tupleKind (b8 P w)) a xs:=by
 obtain⟨z,y,xs,r,o,es,ep,h1,h2,h3,h4,h5⟩:=(show bY P w H h a (.dT kvs) from CZ ok e)
 refine⟨z,y,xs,r,o,es,ep,h1,h2,h3,h4,λx hx=>?_,h5⟩
 have all:∀{l:List (List Key×V)} {m:List (List Key×Addr×Value)},KT H l m->∀x∈m,(tupleKind (b8 P w)).is h x.1 x.2.1:=by
  intro l m q
  induction q with
  | nil=>intro x hx;exact nomatch hx
  | @cons p q ps qs hq t ih=>
   intro x hx
   rcases List.mem_cons.mp hx with e | hx
   ·subst e
    exact mK ok (by rw[<-hq.1];exact hq.2.1)
   ·exact ih x hx
 exact all r x hx
theorem GL {kvs:List (List Key×V)} (ok:gX P w H h) (e:H a=some (.dT kvs)):kvs.length<=sizeLine/\(a==sysModules)=false/\
  ∃xs,KT H kvs xs/\h.DictOfH (tupleKind (b8 P w)) a xs:=rO ok (.inl e)
end
noncomputable def jJ (H:Hp) (a:Addr) (y:V) (r:Option V):Prop:=
 (∃kvs k,Rd H a (.dK kvs)/\y=kV k/\r=gC kvs k)\/∃kvs k b,Rd H a (.dT kvs)/\y=.ref b/\H b=some (.tup (k.map kV))/\r=gC kvs k
noncomputable def uD (H:Hp) (a:Addr) (y v:V) (H':Hp):Prop:=
 (∃kvs k,H a=some (.dK kvs)/\y=kV k/\kvs.length<sizeLine/\H'=upd H a (.dK (putK kvs k v)))\/
 ∃kvs k b,H a=some (.dT kvs)/\y=.ref b/\H b=some (.tup (k.map kV))/\kvs.length<sizeLine/\H'=upd H a (.dT (putK kvs k v))
theorem uD.k {H:Hp} {a:Addr} {kvs:List (Key×V)} {k:Key} {v:V} (e:H a=some (.dK kvs)) (hl:kvs.length<sizeLine):uD H a (kV k) v (upd H a (.dK (putK kvs k v))):=.inl ⟨kvs,k,e,rfl,hl,rfl⟩
section
variable {X : Cx} {pins : List (Addr × Obj)} {σ : St} {H : Hp} {s : Shared} {a : Addr} {y v : V} {u r : Value} {o : Option V} {A : Around} {E : Value -> Shared -> Prop}
theorem Inv.BF (I:Inv X pins σ H s):sysModules<s.heap.objs.size:=by
 have h:mainGlobals<s.heap.objs.size:=(I.mod.glob.keeps I.bk).lt
 exact Nat.lt_trans (by decide) h
theorem xu {Q:Value->Shared->Prop} (hu:A.units+1<cLine) (I:Inv X pins σ H s) (g:jJ H a y (some v)) (ry:RelV y u) (h:∀w' s',Inv X pins σ H s'->RelV v w'->Q w' s'):
  wpAny (model X.prog X.w) A (getItem (.ref a) u) Q E s:=by
 rcases g with ⟨kvs,k,e,ey,l⟩ | ⟨kvs,k,b,e,ey,eb,l⟩
 ·subst ey
  obtain⟨z,hd,vs,rel,dd⟩:=o5 I.bJ e
  obtain⟨w',hw,oj⟩:=ie.some_of (v:=v) (o:=valueAt vs k) (by rw[l];exact rel.val k)
  exact wpAny_getItem_of (o3 ry) dd.mapOf hw (h w' _ (I.tok _) oj)
 ·subst ey
  cases (show u=Value.ref b from ry)
  obtain⟨z,hd,xs,rel,dd⟩:=rO I.bJ e
  obtain⟨w',hw,oj⟩:=ie.some_of (v:=v) (o:=(atKey xs k).map (·.2)) (by rw[l];exact rel.val k)
  obtain⟨p,hp,qY⟩:=Option.map_eq_some_iff.mp hw
  refine wpAny_getItem_heap (tupleKind_room_in1 hu) (mK I.bJ eb) dd hp ?_
  rw[qY]
  exact h w' _ (I.tok _) oj
theorem Kc {Q:Value->Shared->Prop} (hu:A.units+1<cLine) (I:Inv X pins σ H s) (g:jJ H a y o) (ry:RelV y u) (h:∀s',Inv X pins σ H s'->Q (.bool o.isSome) s'):
  wpAny (model X.prog X.w) A (compareOp .In u (.ref a)) Q E s:=by
 rcases g with ⟨kvs,k,e,ey,l⟩ | ⟨kvs,k,b,e,ey,eb,l⟩
 ·subst ey
  obtain⟨z,hd,vs,rel,dd⟩:=o5 I.bJ e
  refine wpAny_in_of (o3 ry) hd dd.mapOf ?_
  rw[<-(rel.val k).eU,<-l]
  exact h _ (I.tok _)
 ·subst ey
  cases (show u=Value.ref b from ry)
  obtain⟨z,hd,xs,rel,dd⟩:=rO I.bJ e
  refine wpAny_in_heap (tupleKind_room_in1 hu) (mK I.bJ eb) hd dd ?_
  have q:=(rel.val k).eU
  rw[Option.isSome_map] at q
  rw[<-q,<-l]
  exact h _ (I.tok _)
theorem BG {Q:Value->Shared->Prop} (hu:A.units+1<cLine) (I:Inv X pins σ H s) (g:jJ H a y o) (ry:RelV y u) (h:∀s',Inv X pins σ H s'->Q (.bool (!o.isSome)) s'):
  wpAny (model X.prog X.w) A (compareOp .NotIn u (.ref a)) Q E s:=by
 rcases g with ⟨kvs,k,e,ey,l⟩ | ⟨kvs,k,b,e,ey,eb,l⟩
 ·subst ey
  obtain⟨z,hd,vs,rel,dd⟩:=o5 I.bJ e
  refine wpAny_notIn_of (o3 ry) hd dd.mapOf ?_
  rw[<-(rel.val k).eU,<-l]
  exact h _ (I.tok _)
 ·subst ey
  cases (show u=Value.ref b from ry)
  obtain⟨z,hd,xs,rel,dd⟩:=rO I.bJ e
  refine wpAny_notIn_heap (tupleKind_room_in1 hu) (mK I.bJ eb) hd dd ?_
  have q:=(rel.val k).eU
  rw[Option.isSome_map] at q
  rw[<-q,<-l]
  exact h _ (I.tok _)
theorem pZ {h':Heap} {t':Nat} {ob:HO} (I:Inv X pins σ H s) (mu:Gj (H a)) (hs:Heap.SameBut a s.heap h') (he:∃q,h'.get? a=some q) (new:bY X.prog X.w (upd H a ob) h' a ob):
  Inv X pins σ (upd H a ob) {s with heap:=h',toks:=t'}:=
 I.write (x:=a) (e:=a) mu (.inl rfl) (λb q hb z=>(hs.2 b hb).trans z) he new
theorem yL {P:Program} {w:World} {H':Hp} {h':Heap} {kvs:List (Key×V)} {vs:List (Key×Value)} (z:kvs.length<=sizeLine) (hd:(a==sysModules)=false) (rel:KV kvs vs) (dd:h'.DictOf (b8 P w) a vs):
  bY P w H' h' a (.dK kvs):=⟨z,hd,vs,rel,dd⟩
theorem xv {H':Hp} {Q:Unit->Shared->Prop} (hu:A.units+1<cLine) (I:Inv X pins σ H s) (g:uD H a y v H') (ry:RelV y u) (rv:RelV v r) (h:∀s',Inv X pins σ H' s'->Q () s'):
  wpAny (model X.prog X.w) A (setItem (.ref a) u r) Q E s:=by
 rcases g with ⟨kvs,k,e,ey,l,eH⟩ | ⟨kvs,k,b,e,ey,eb,l,eH⟩
 ·subst ey eH
  obtain⟨z,hd,vs,rel,dd⟩:=C0 I.bJ e
  have hz:vs.length<=sizeLine:=by rw[<-rel.length];exact z
  have hl:(putK kvs k v).length<=sizeLine:=by have:=j4 kvs k v;omega
  refine wpAny_setItem_pairs (hsz:=hz) (o3 ry) dd λh' BH hs=>h _ ?_
  have he:∃q,h'.get? a=some q:=let ⟨q,_,_,hq,_⟩:=BH;⟨q,hq⟩
  exact pZ I (by rw[e];exact True.intro) hs he (yL hl hd (rel.put k rv) BH)
 ·subst ey eH
  cases (show u=Value.ref b from ry)
  obtain⟨z,hd,xs,rel,dd⟩:=GL I.bJ e
  have hz:xs.length<=sizeLine:=by rw[<-Paired.length rel];exact z
  have hl:(putK kvs k v).length<=sizeLine:=by have:=j4 kvs k v;omega
  refine wpAny_setItem_heap (hsz:=hz) (tupleKind_room_in1 hu) (mK I.bJ eb) dd λh' BH hs=>h _ ?_
  obtain⟨q,es,ep,hq,h2,h3,h4,_,h5⟩:=BH
  refine pZ I (by rw[e];exact True.intro) hs ⟨q,hq⟩ ⟨hl,hd,_,(rel.put k eb rv).keeps λc ys ec=>?_,q,es,ep,hq,h2,h3,h4,h5⟩
  rw[aE (Gi ec e (λz=>nomatch z))]
  exact ec
end
section
variable {X : Cx} {pins : List (Addr × Obj)} {σ : St} {H : Hp} {s : Shared} {a : Addr} {kvs : List (Key × V)} {k : Key} {u : Value} {A : Around} {E : Value -> Shared -> Prop}
end
noncomputable def GN (i:Expr):Prop:=∀ov iv,subscripted i false ov iv=operate [ov,iv] (getItem ov iv)
theorem BI {prog:Program} {w:World} {A:Around} {E:Value->Shared->Prop} {s:Shared} {env:Env} {value slice:Expr} {pos:Pos} {T id:String} {Q:Value->Shared->Prop}
  (hl:typeLookup (.type T) "__getitem__"=pure (some (.builtin id))) (hs:GN slice)
  (h:wpAny (model prog w) A (eval value env) (λo s₁=>wpAny (model prog w) A (eval slice env) (λi s₂=>s₂.TypeIs o T/\wpAny (model prog w) A (getItem o i) Q E s₂) E s₁) E s):
  wpAny (model prog w) A (eval (.Subscript value slice pos) env) Q E s:=by
 refine Subscript_ (wpAny_mono h (λo s₁ h₁=>wpAny_mono h₁ (λi s₂ h₂=>?_) λ_ _ x=>x) λ_ _ x=>x)
 obtain⟨hT,h₂⟩:=h₂
 unfold subscriptTail
 refine wpAny_bind ?_
 rw[getitemInPython_of_ne hT.not_modules]
 refine wpAny_bind (wpAny_specialOf hT hl ?_)
 have fin:wpAny (model prog w) A (subscripted slice false o i) (λr s₃=>wpAny (model prog w) A (letTemporaryGo value o r >>=λ_=>pure r) Q E s₃) E s₂:=by
  rw[hs o i]
  exact wpAny_operating (wpAny_mono h₂ (λr s₃ h₃=>wpAny_bind (wpAny_letTemporaryGo (wpAny_pure h₃))) λ_ _ x=>x)
 first
  | exact wpAny_pure (wpAny_bind fin)
  | exact wpAny_bind (wpAny_pure (wpAny_bind fin))
  | exact wpAny_bind fin
theorem rP {X:Cx} {pins:List (Addr×Obj)} {σ:St} {H:Hp} {s:Shared} {a:Addr} {y:V} {o:Option V} (I:Inv X pins σ H s) (g:jJ H a y o):s.TypeIs (.ref a) "dict":=by
 rcases g with ⟨kvs,k,e,_,_⟩ | ⟨kvs,k,b,e,_,_,_⟩
 ·obtain⟨_,_,vs,_,dd⟩:=o5 I.bJ e
  exact dd.typeIs
 ·obtain⟨_,_,xs,_,dd⟩:=rO I.bJ e
  exact dd.typeIs
noncomputable def tDGet (td ty:TE):TE:=λσ H Q=>td σ H λx H1=>ty σ H1 λy H2=>∃a v,x=.ref a/\jJ H2 a y (some v)/\Q v H2
noncomputable def tDIn (ty td:TE):TE:=λσ H Q=>ty σ H λy H1=>td σ H1 λx H2=>∃a o,x=.ref a/\jJ H2 a y o/\Q (.bl o.isSome) H2
noncomputable def tDNotIn (ty td:TE):TE:=λσ H Q=>ty σ H λy H1=>td σ H1 λx H2=>∃a o,x=.ref a/\jJ H2 a y o/\Q (.bl (!o.isSome)) H2
noncomputable def sDPut (td ty tv:TE):TS:=λD σ H=>tv σ H λv H1=>td σ H1 λx H2=>ty σ H2 λy H3=>∃a H4,x=.ref a/\uD H3 a y v H4/\D.nx σ H4
section
variable {X : Cx} {o i e value : Expr} {pos pos' mw : Pos} {td ty tv : TE}
theorem BJ (hu:X.A.units+1<cLine) (ho:PE X o td) (hi:PE X i ty) (hs:GN i):PE X (.Subscript o i pos) (tDGet td ty):=by
 intro pins s σ H Q I h
 refine BI PySem.F.slot_dict_getitem.lookup hs (bU (ho pins s σ H _ I h) λu s1 ⟨x,H1,I1,rx,q1⟩=>bU (hi pins s1 σ H1 _ I1 q1) λiv s2 cI=>?_)
 obtain⟨y,H2,I2,ry,a,v,ex,g,q2⟩:=cI
 subst ex
 obtain rfl:u=Value.ref a:=rx
 exact⟨rP I2 g,xu hu I2 g ry λw' s3 I3 oj=>⟨v,H2,I3,oj,q2⟩⟩
theorem yM (hu:X.A.units+1<cLine) (hi:PE X i ty) (ho:PE X o td):PC X .In i o (tDIn ty td):=by
 intro pins s σ H Q I h
 refine bU (hi pins s σ H _ I h) λiv s1 ⟨y,H1,I1,ry,q1⟩=>bU (ho pins s1 σ H1 _ I1 q1) λu s2 cI=>?_
 obtain⟨x,H2,I2,rx,a,ov,ex,g,q2⟩:=cI
 subst ex
 obtain rfl:u=Value.ref a:=rx
 exact Kc hu I2 g ry λs3 I3=>⟨.bl ov.isSome,H2,I3,rfl,q2⟩
theorem xx (hu:X.A.units+1<cLine) (hi:PE X i ty) (ho:PE X o td):PC X .NotIn i o (tDNotIn ty td):=by
 intro pins s σ H Q I h
 refine bU (hi pins s σ H _ I h) λiv s1 ⟨y,H1,I1,ry,q1⟩=>bU (ho pins s1 σ H1 _ I1 q1) λu s2 cI=>?_
 obtain⟨x,H2,I2,rx,a,ov,ex,g,q2⟩:=cI
 subst ex
 obtain rfl:u=Value.ref a:=rx
 exact BG hu I2 g ry λs3 I3=>⟨.bl (!ov.isSome),H2,I3,rfl,q2⟩
theorem vM (hu:X.A.units+1<cLine) (ho:PE X o td) (hi:PE X i ty) (hv:PE X value tv) (hs:swapsWith value (some (.Subscript o i pos')) pos.line X.env=pure false):
  PS X (.Assign [.Subscript o i pos'] value pos) (sDPut td ty tv):=by
 intro pins s σ H D I h
 refine wpAny_Assign_Subscript (bU (hv pins s σ H _ I h) λr s1 ⟨v,H1,I1,rv,q1⟩=>bU (ho pins s1 σ H1 _ I1 q1) λu s2 ⟨x,H2,I2,rx,q2⟩=>bU (hi pins s2 σ H2 _ I2 q2) λiv s3 cI=>?_) hs
 obtain⟨y,H3,I3,ry,a,H4,ex,g,q3⟩:=cI
 subst ex
 obtain rfl:u=Value.ref a:=rx
 exact xv hu I3 g ry rv λs4 I4=>⟨σ,H4,I4,q3⟩
end
theorem rQ {P:Program} {w:World} {H:Hp} (h:Heap) (hb:sysModules<h.objs.size):bY P w H (h.push {cls:=.type "dict",data:=.dict #[]}) h.objs.size (.dK []):=
 ⟨Y3 _,beq_eq_false_iff_ne.mpr (Ne.symm (Y0 hb)),[],.nil,Heap.DictOf.new h⟩
noncomputable def tDNewK:TE:=λ_ H Q=>∀p,H p=none->Q (.ref p) (upd H p (.dK []))
section
variable {X : Cx} {pos : Pos}
theorem yN:PE X (.Dict [] [] pos) tDNewK:=λpins s σ H Q I h=>
 wpAny_Dict_empty ⟨.ref s.heap.objs.size,_,I.laid (a:=s.heap.objs.size) (o:=.dK []) (t':=s.toks) (λ_ _ q=>Heap.get?_push_of_some _ q) (YS _) (rQ s.heap I.BF),rfl,h _ (I.bJ.fresh (YS _))⟩
end
abbrev VV:List (V×V)->List (Value×Value)->Prop:=Paired λp q=>RelV p.1 q.1/\RelV p.2 q.2
structure M1 (X:Cx) (o:Expr) (m:Str) (apos:Pos) (e:Expr) (gj:Pos):Prop where
 base:attributeBase o m X.env (eval o X.env)=eval o X.env
 rR:((backTo gj (starEach [e] X.env)).all (λx=>!x.1) && (backToKw gj (keywordEach [] X.env)).all (λx=>x.1.isSome)
  && decide (([e]:List Expr).length+ ([]:List Keyword).length+ (if ([]:List Keyword).isEmpty then 0 else 1)<30))=true
 line:(apos.endLine==gj.line)=true
 trees:backTo gj (starEach [e] X.env)=[(false,eval e X.env)]
structure M2 (X:Cx) (o:Expr) (m:Str) (apos:Pos) (e f:Expr) (gj:Pos):Prop where
 base:attributeBase o m X.env (eval o X.env)=eval o X.env
 rR:((backTo gj (starEach [e,f] X.env)).all (λx=>!x.1) && (backToKw gj (keywordEach [] X.env)).all (λx=>x.1.isSome)
  && decide (([e,f]:List Expr).length+ ([]:List Keyword).length+ (if ([]:List Keyword).isEmpty then 0 else 1)<30))=true
 line:(apos.endLine==gj.line)=true
 trees:backTo gj (starEach [e,f] X.env)=[(false,eval e X.env),(false,eval f X.env)]
noncomputable def Kd (H:Hp) (a:Addr):Prop:=(∃kvs,Rd H a (.dK kvs))\/∃kvs,Rd H a (.dT kvs)
section
variable {X : Cx} {pins : List (Addr × Obj)} {σ : St} {H : Hp} {s : Shared} {a : Addr} {y d : V} {u r : Value} {o : Option V} {A : Around} {E : Value -> Shared -> Prop}
end
noncomputable def tDGet1 (td ty:TE):TE:=λσ H Q=>td σ H λx H1=>∃a,x=.ref a/\Kd H1 a/\ty σ H1 λy H2=>∃o,jJ H2 a y o/\Q (o.getD .cu) H2
noncomputable def tDGet2 (td ty tx:TE):TE:=λσ H Q=>td σ H λx H1=>∃a,x=.ref a/\Kd H1 a/\ty σ H1 λy H2=>tx σ H2 λz H3=>∃o,jJ H3 a y o/\Q (o.getD z) H3
noncomputable def tDPop1 (td ty:TE):TE:=λσ H Q=>td σ H λx H1=>∃a,x=.ref a/\Kd H1 a/\ty σ H1 λy H2=>∃kvs k v,H2 a=some (.dK kvs)/\y=kV k/\gC kvs k=some v/\Q v (upd H2 a (.dK (GK kvs k)))
section
variable {X : Cx} {o e f : Expr} {apos gj : Pos} {td ty tx : TE}
end
section
variable {X : Cx} {pins : List (Addr × Obj)} {σ : St} {H : Hp} {s : Shared} {a : Addr} {kvs : List (Key × V)} {A : Around} {E : Value -> Shared -> Prop}
end
section
variable {X : Cx} {pins : List (Addr × Obj)} {σ : St} {H : Hp} {s : Shared} {a : Addr} {y : V} {u : Value} {A : Around} {E : Value -> Shared -> Prop}
end
end L2
namespace A7
open PySem PySem.W PySem.Calls PyProof.Rows
theorem kF {P:Params} {h:Heap}:∀(ns:List Int) (vs:List Value),WellAll P h vs (ns.map WData.int)->IntsAre vs ns:=by
 intro ns
 induction ns with
 | nil=>
  intro vs w
  rw[List.map_nil] at w
  cases w
  exact .nil
 | cons n ns ih=>
  intro vs w
  rw[Zb] at w
  cases w with
  | cons a b=>
   cases a
   exact .cons _ _ (ih _ b)
theorem xy {l:OpenLaw} {n:Nat} (hn:l.most=some n) {P:Params} {h:Heap} {args:List WData} {vals:List Value}
  (BK:l.row.toRowW.claim.pre args=true) (Ke:WellAll P h vals args):
  ∃a vs ns,vals=[Value.ref a]/\args=[WData.list (ns.map WData.int)]/\h.get? a=some {cls:=.type "list",data:=.seq vs.toArray}/\IntsAre vs ns/\ns.length<=n:=by
 have TY:WShape.hasAll [] args [.list .int]=true:=(pre_splitW BK).1
 have hc:l.pre.holds [] {args:=args}=true:=(pre_splitW BK).2
 obtain⟨d,r,rfl,h1,h2⟩:=hasAllW_cons TY
 obtain rfl:=hasAllW_nil h2
 obtain⟨xs,rfl,h3⟩:=hasW_list h1
 obtain⟨ns,rfl⟩:=items_int h3
 have hlen:ns.length<=n:=by
  unfold OpenLaw.pre at hc
  have h4:(WTm.not (.lt (.lit (.int (n:Int))) (.len (.arg 0)))).holds [] {args:=[.list (ns.map .int)]}=true:=by
   have h4:=(holds_andW hc).1
   rw[hn] at h4
   exact h4
  have h5:=condW_of h4 (w_not (w_lt w_lit (w_len_list (w_arg rfl))))
  rw[YO] at h5
  refine Nat.le_of_not_lt λq=>?_
  have q':(n:Int)< ((ns.length:Nat):Int):=by omega
  first
   | (rw[decide_eq_true q'] at h5;exact absurd h5 (by decide))
   | (simp at h5;omega)
 cases Ke with
 | cons w1 w2=>
  cases w2
  cases w1 with
  | list ho Ee=>exact⟨_,_,ns,rfl,rfl,ho,kF ns _ Ee,hlen⟩
theorem xA (l:OpenLaw) (args:List WData):l.row.toRowW.claim.post args (.bool true) args=true:=
 postW_of (r:=l.row.toRowW) (X:=(true==true))
  (show WShape.has [] (.bool true) .bool=true by first | rfl | decide | simp [WShape.has,WShape.arms,WShape.armsAll])
  (show(WTm.eq .res (.lit (.bool true))).value [] {args:=args,res:=some (.bool true),after:=args}=some (.bool (true==true)) from w_eq_bool (w_res rfl) w_lit) rfl
theorem rS {l:OpenLaw} {n:Nat} {q:Program} {loose:List Str} {XP:(Str->Option Value)->Heap->Prop} {YP:World->Heap->Prop} {d:DefRec}
  (hn:l.most=some n) (GO:d.params.defaults=[])
  (call:∀(w:World) (s₀ s₁:Shared) (mg mb:Str->Option Value) (fa:Addr) (o:Obj) (pm cd doc:Value) (a:Addr) (vs:List Value) (ns:List Int),
   Ground q loose [] XP w s₀ mg mb s₁.heap->YP w s₁.heap->
   s₁.heap.get? fa=some o->o.data=.func (docDef d.name d.params d.body d.scope pm cd doc)->s₁.heap.CodeRec cd d.name->mg d.name=some (.ref fa)->
   s₁.heap.get? a=some {cls:=.type "list",data:=.seq vs.toArray}->IntsAre vs ns->ns.length<=n->s₁.gens=#[]->
   codeAny (model l.prog w) callerA (.call (.ref fa) ⟨[.ref a],[]⟩) (λr s'=>r=.ok (.ret (.bool true))/\OldK s₁.heap s'.heap/\s'.os=s₁.os/\AllBare s'.gens) s₁):
  WalkO q loose XP YP l.row.toRowW d [] (λf vs=>PySem.call f vs):=by
 intro w s₀ s₁ mg mb G Y fa o pm cd doc dV kV ho hd rC hD GP hg args vals as BK TZ XZ Ke X0
 obtain rfl:dV=.none:=Dflts.none hD GO
 obtain rfl:kV=.none:=Dflts.noKw hD
 obtain⟨a,vs,ns,rfl,rfl,Ef,hints,hlen⟩:=xy hn BK Ke
 refine enter_call (codeAny_mono (call w s₀ s₁ mg mb fa o pm cd doc a vs ns G Y ho (fd_plain hd) rC GP Ef hints hlen hg) λr s' hq=>?_)
 obtain⟨rfl,h2,h3,h4⟩:=hq
 exact⟨.inl ⟨.bool true,.bool true,[],rfl,λ_=>rfl,.bool true,xA l _,λ_=>⟨List.Pairwise.nil,λ_ hm=>(nomatch hm)⟩⟩,h2,h3,h4⟩
section
variable {prog : Program} {w : World} {A : Around} {E : Value -> Shared -> Prop} {s : Shared} {K : Frag}
noncomputable def p9 (h:Heap):Heap:={h with objs:=#[]}
theorem mL (h:Heap) (b:Addr):(p9 h).get? b=none:=by
 cases e:(p9 h).get? b with
 | none=>rfl
 | some o=>exact absurd (Heap.lt_size e) (ZV _)
noncomputable def ledger (h:Heap) (L d:Addr):List (Addr×Obj):=(List.range h.objs.size).filterMap λa=>if a=L\/a=d then none else (h.get? a).map λo=>(a,o)
set_option tactic.hygienic true in
theorem fI {h:Heap} {L d a:Addr} {o:Obj}:(a,o)∈ledger h L d↔a≠L/\a≠d/\h.get? a=some o:=by
 unfold ledger
 rw[List.mem_filterMap]
 constructor
 ·rintro⟨b,_,e⟩
  split at e
  ·cases e
  ·rename_i hb
   obtain⟨o',ho,e'⟩:=Option.map_eq_some_iff.mp e
   cases e'
   exact⟨λq=>hb (.inl q),λq=>hb (.inr q),ho⟩
 ·rintro⟨n1,n2,ho⟩
  refine⟨a,List.mem_range.mpr (Heap.lt_size ho),?_⟩
  rw[if_neg (show ¬(a=L\/a=d) from λq=>q.elim n1 n2),ho] <;>rfl
theorem Eg {h:Heap} {L:Addr} {m:Str->Option Value} (n:h.Ns L m):Fr (p9 h) L h m:=
 ⟨n,λb o e=>(by rw[mL] at e;cases e),Y3 _⟩
end
end A7
namespace L2
open PySem PySem.Spec PyProof.Rows
theorem o6:∀{vs:List Value} {ns:List Int},IntsAre vs ns->bj (ns.map V.int) vs
 | _,_,.nil=>.nil
 | _,_,.cons n t h=>.cons ⟨t,rfl⟩ (o6 h)
end L2
namespace L2
open PySem PySem.Spec PyProof.Rows
abbrev X1 {K:PySem.W.Frag} {h:Heap} (_:K.In h):PySem.W.Frag:=K
end L2
namespace L2
open PySem PySem.Spec PyProof.Rows
noncomputable def inClass (s:Stmt) (j:Nat):Stmt:=match s with
 | .ClassDef _ _ _ body _ _ _ _ _ _ _=>body.getD j (.Pass ⟨0,0,0,0⟩)
 | _=>.Pass ⟨0,0,0,0⟩
noncomputable def aK (s:Stmt):Arguments:=match s with
 | .FunctionDef _ a _ _ _ _ _ _ _ _=>a
 | _=>{posonlyargs:=[],args:=[],vararg:=none,kwonlyargs:=[],kw_defaults:=[],kwarg:=none,defaults:=[]}
noncomputable def aI (s:Stmt):List Stmt:=match s with
 | .FunctionDef _ _ b _ _ _ _ _ _ _=>b
 | _=>[]
noncomputable def ae (s:Stmt):Scope:=match s with
 | .FunctionDef _ _ _ _ _ _ sc _ _ _=>sc
 | _=>{kind:=.function,names:=[],isGenerator:=false,isCoroutine:=false}
abbrev X2:jI:=λ_ _ _ _ _ _=>False
abbrev E0:XK:=λ_ _ _=>False
structure uE (K:PySem.W.Frag) (x qual:Str) (st:Stmt) (f:Addr) (fd:FuncData):Prop where
 ex:∃(oc:Value) (od:Option Addr) (kV doc pm:Value) (an:Option Addr) (cw ct:Value) (yc:Array (Option Value)),
  fd=PySem.W.fnOf x qual (aK st) (aI st) (ae st) .none kV doc pm an cw ct/\K.lookup f=some ⟨oc,od,.func fd,yc⟩/\PySem.W.codeIn K cw qual=true
 kp:PySem.W.keepIn K (.ref f)=true
section
variable {P : Program} {w : World} {K : PySem.W.Frag} {mg : Str -> Option Value} {base : Heap}
theorem uE.binds {x qual:Str} {st:Stmt} {f:Addr} {fd:FuncData} {ps:List Str} (F:uE K x qual st f fd)
  (h:∀(kV doc pm:Value) (an:Option Addr) (cw ct:Value) (us:List Value),us.length=ps.length->bindArgs (PySem.W.fnOf x qual (aK st) (aI st) (ae st) .none kV doc pm an cw ct) ⟨us,[]⟩=pure (ps.zip us)):Binds K fd ps []:=by
 obtain⟨oc,od,kV,doc,pm,an,cw,ct,yc,rfl,lk,rC⟩:=F.ex
 exact .all (h kV doc pm an cw ct)
theorem aY {x qual:Str} {st:Stmt} {f:Addr} {oc:Value} {od an:Option Addr} {yc:Array (Option Value)} {kV doc pm cw ct:Value} (l:K.lookup f=some ⟨oc,od,.func (PySem.W.fnOf x qual (aK st) (aI st) (ae st) .none kV doc pm an cw ct),yc⟩)
  (c:PySem.W.codeIn K cw qual=true) (k:PySem.W.keepIn K (.ref f)=true):uE K x qual st f (PySem.W.fnOf x qual (aK st) (aI st) (ae st) .none kV doc pm an cw ct):=⟨⟨oc,od,kV,doc,pm,an,cw,ct,yc,rfl,l,c⟩,k⟩
end
theorem o8 {A:Around} {k:Nat} (hr:cS k A):A.units+1<cLine:=Zx (Nat.add_le_add_left (by decide:1<=64) _) hr.units
section
variable {X : Cx}
theorem pv (i:Nat) {x:Str} {pos:Pos} (hN:X.N[i]?=some x:=by rfl) (hv:JP X.env.scope x:=by first | exact Or.inl rfl | exact Or.inr (Or.inl rfl) | exact Or.inr (Or.inr rfl)) (hd:(x==("__debug__":Str))=false:=by decide)
  (rC:(x==("__classdict__":Str))=false:=by decide):PE X (.Name x pos) (tVar i):=DQ hN hv hd rC
end
theorem GQ {A B:Prop} (h:A):if true=true then A else B:=by
 rw[if_pos rfl]
 exact h
theorem iG {c A B:Prop} [Decidable c] (h1:c->A) (h2:¬c->B):if c then A else B:=by
 by_cases h:c
 ·rw[if_pos h]
  exact h1 h
 ·rw[if_neg h]
  exact h2 h
noncomputable def az (H H':Hp):Prop:=∀b o,H b=some o->H' b=some o
theorem az.refl (H:Hp):az H H:=λ_ _ h=>h
theorem az.trans {H H1 H2:Hp} (a:az H H1) (b:az H1 H2):az H H2:=λc o h=>b c o (a c o h)
theorem az.seq {K:PySem.W.Frag} {H H':Hp} {a:Addr} {xs:List V} (e:az H H') (h:aZ K H a xs):aZ K H' a xs:=by
 rcases h with (h | ⟨o,h⟩) | h
 ·exact .inl (.inl (e _ _ h))
 ·exact .inl (.inr ⟨o,e _ _ h⟩)
 ·exact .inr h
end L2
namespace L2
open PySem PySem.Spec PyProof.Rows
section
variable {X : Cx}
end
section
variable {κ : Type} [DecidableEq κ]
end
end L2
namespace L2
open PySem PySem.Spec PyProof.Rows
noncomputable def Bt (n:Nat) (i:Int):Prop:=i.natAbs<2^n
theorem Bt.mono {m n:Nat} {i:Int} (h:Bt m i) (q:m<=n):Bt n i:=Y6 h (ZC (by decide) q)
theorem Bt.bits {n:Nat} {i:Int} (h:Bt n i):Builtin.Int.intBits i<=n:=PyProof.Rows.intBits_le h
theorem Bt.mul {m n:Nat} {i j:Int} (h1:Bt m i) (h2:Bt n j):Bt (m+n) (i*j):=by
 unfold Bt at *
 rw[Zq,Zy]
 exact Nat.mul_lt_mul_of_lt_of_lt h1 h2
theorem Bt.le {n:Nat} {i j:Int} (h:Bt n j) (q:i.natAbs<=j.natAbs):Bt n i:=Zx q h
theorem Bt.of {n:Nat} {i:Int} (b:Nat) (h1:-(b:Int)<=i) (h2:i<=(b:Int)) (h:b<2^n:=by decide +kernel):Bt n i:=by
 unfold Bt
 exact Zx (by omega) h
theorem Bt.log {n:Nat} {i:Int} (h:Bt n i) (q:n<=9000:=by decide):i.natAbs.log2<9000:=by
 by_cases z:i.natAbs=0
 ·rw[z];decide
 ·exact Y6 ((Nat.log2_lt z).mpr h) q
theorem Bt.dE {m n:Nat} {i j:Int} (h1:Bt m i) (h2:Bt n j) (q:m+n<=134217728:=by decide):IntMulOk i j:=mulOk_of_bits h1.bits h2.bits q
theorem cC {i j:Int} (h1:-(2^64)<i:=by decide) (h2:i<2^64:=by decide):IntMulOk i j:=.of_left (intBits_le_64 h1 h2)
theorem mM {i j:Int} (h1:-(2^64)<j:=by decide) (h2:j<2^64:=by decide):IntMulOk i j:=.of_right (intBits_le_64 h1 h2)
section
variable {X : Cx}
theorem aV:jF X (binaryOp .Mult) (rI IntMulOk λi j=>.int (i*j)):=Gv λ_ _ _ _ _ _ _ hc q=>mul_int q hc
noncomputable def eV (_ j:Int):Prop:=0<j/\j.natAbs.log2<9000
theorem eV.of {i j:Int} {n:Nat} (h:0<j) (b:Bt n j) (q:n<=9000:=by decide):eV i j:=⟨h,b.log q⟩
theorem eV.lit {i j:Int} (h:0<j:=by decide) (q:j.natAbs.log2<9000:=by decide):eV i j:=⟨h,q⟩
theorem dF:jF X (binaryOp .FloorDiv) (rI eV λi j=>.int (i / j)):=Gv λi j _ _ _ _ _ hc q=>by
 have h1:(0:Int)<j:=hc.1
 exact floordiv_int (by omega) (by rw[Int.fdiv_eq_ediv_of_nonneg i (by omega)];exact q) (.inl (PyProof.noPylong_of_log2 hc.2))
noncomputable def vN (_ j:Int):Prop:=j≠0/\j.natAbs.log2<9000
theorem vN.of {i j:Int} {n:Nat} (h:j≠0) (b:Bt n j) (q:n<=9000:=by decide):vN i j:=⟨h,b.log q⟩
theorem yO:jF X (binaryOp .FloorDiv) (rI vN λi j=>.int (i.fdiv j)):=Gv λ_ _ _ _ _ _ _ hc q=>floordiv_int hc.1 q (.inl (PyProof.noPylong_of_log2 hc.2))
theorem cQ:jF X (binaryOp .Mod) (rI (λ_ j=>0<j) λi j=>.int (i % j)):=D2
noncomputable def rIxTH:R2:=λx y H Q=>∃p xs i v,x=.ref p/\y=.int i/\H p=some (.tup xs)/\fA xs i=some v/\Q v H
theorem aP:CY X rIxTH:=λvalue slice pins s σ H x y v u Q I rx ry ⟨p,xs,i,z,e1,e2,e3,e4,q⟩ hs=>
 D5 value slice pins s σ H x y v u Q I rx ry ⟨p,xs,i,z,e1,e2,eA.of e3,e4,q⟩ hs
noncomputable def rIxLH:R2:=λx y H Q=>∃p xs i v,x=.ref p/\y=.int i/\H p=some (.lst xs)/\fA xs i=some v/\Q v H
theorem aO:CY X rIxLH:=λvalue slice pins s σ H x y v u Q I rx ry ⟨p,xs,i,z,e1,e2,e3,e4,q⟩ hs=>
 vK value slice pins s σ H x y v u Q I rx ry ⟨p,xs,i,z,e1,e2,aZ.of e3,e4,q⟩ hs
noncomputable def tTupS (t:TA):TE:=λσ H Q=>t σ H λxs H1=>xs.length<=sizeLine/\∀p H2,az H1 H2->H1 p=none->H2 p=some (.tup xs)->Q (.ref p) H2
theorem ax {H:Hp} {p:Addr} {o:HO} (h:H p=none):az H (upd H p o):=λb u e=>by
 rw[aE (br e h)]
 exact e
theorem bT {es:List Expr} {t:TA} {x1} {pos:Pos} (h:PA X es t):PE X (.Tuple es x1 pos) (tTupS t):=λpins s σ H Q I hq=>
 bU (h:=wpAny_Tuple_spliced (bU (h pos pins s σ H _ I hq) λus s1 ⟨xs,H1,I1,r,z,q⟩=>⟨by rw[<-r.length];exact z,by
  have hf:H1 s1.heap.objs.size=none:=I1.bJ.fresh (YS _)
  refine⟨.ref s1.heap.objs.size,upd H1 s1.heap.objs.size (.tup xs),I1.laid (t':=s1.toks) (λb u e=>Heap.get?_push_of_some _ e) (YS _) ?_,rfl,q _ _ (ax hf) hf ar⟩
  exact⟨z,us,r,⟨_,Heap.get?_push_size _ rfl,rfl,_,rfl⟩⟩⟩)) λ_ _ z=>z
theorem xB:cF X (.builtin "len") (λxs H Q=>∃p ys,xs=[.ref p]/\H p=some (.tup ys)/\Q (.int ys.length) H):=λpins s σ H xs us Q I r ⟨p,ys,e,h,q⟩=>
 fH pins s σ H xs us Q I r ⟨p,ys,e,.inr (eA.of h),q⟩
theorem bz:cF X (.builtin "len") (λxs H Q=>∃p ys,xs=[.ref p]/\H p=some (.lst ys)/\Q (.int ys.length) H):=λpins s σ H xs us Q I r ⟨p,ys,e,h,q⟩=>
 fH pins s σ H xs us Q I r ⟨p,ys,e,.inl (aZ.of h),q⟩
theorem xC:cF X (.builtin "len") (λxs H Q=>∃p ns,xs=[.ref p]/\aZ X.K H p (List.map V.int ns)/\Q (.int (List.length ns:Nat)) H):=λpins s σ H xs us Q I r ⟨p,ns,e,h,q⟩=>
 fH pins s σ H xs us Q I r ⟨p,_,e,.inl h,by rw[YO];exact q⟩
noncomputable def Eh (K:PySem.W.Frag):R2:=λx y H Q=>∃p ns i,x=.ref p/\y=.int i/\aZ K H p (List.map V.int ns)/\0<=i/\i< (List.length ns:Nat)/\Q (.int (ns.getD i.toNat 0)) H
theorem d6 {ns:List Int} {i:Int} (h0:0<=i) (h1:i< (ns.length:Nat)):fA (ns.map V.int) i=some (.int (ns.getD i.toNat 0)):=by
 obtain⟨j,rfl⟩:=Zd h0
 refine bF ?_
 have hj:j<ns.length:=by omega
 rw[YT,YQ hj]
 simp [YR,YQ hj]
theorem yP:CY X (Eh X.K):=λvalue slice pins s σ H x y v u Q I rx ry ⟨p,ns,i,e1,e2,e3,h0,h1,q⟩ hs=>
 vK value slice pins s σ H x y v u Q I rx ry ⟨p,_,i,_,e1,e2,e3,d6 h0 h1,q⟩ hs
structure bK (P:Program) (w:World) (K:PySem.W.Frag) (mg:Str->Option Value) (base:Heap) (CX:jI) (k:Nat) (x:Str) (ps:List Str) (sp:Sp):Prop where
 ex:∃f fd,dU P w K mg base CX k f fd ps sp/\mg x=some (.ref f)/\PySem.W.keepIn K (.ref f)=true/\Binds K fd ps []
theorem aH {CX:jI} {k:Nat} {x:Str} {ps:List Str} {sp:Sp} {E:XK} {e:Expr} {es:List Expr} {t:TA} {p pos:Pos} (C:bK X.prog X.w X.K X.mg X.base CX k x ps sp) (hr:cS k X.A) (hg:Gl X x) (hx:d4 CX X E) (ha:PA X (e::es) t)
  (yE:(x==("__debug__":Str))=false:=by decide) (he:starEach (e::es) X.env=(false,eval e X.env)::starEach es X.env:=by rfl) (hpl:(backTo pos (starEach es X.env)).any (·.1)=false:=by rfl):
  PE X (.Call (.Name x p) (e::es) [] pos) (tCall sp [] E t):=by
 obtain⟨f,fd,F,hm,hk,hb⟩:=C.ex
 exact Bx F hr hg hm hk hb .nil hx ha yE he hpl
end
noncomputable def qa (CX:jI):Prop:=∀outer H s e s',¬CX outer H s (λ_ _ _=>False) e s'
theorem qa.pass {CX:jI} (h:qa CX) {X:Cx}:d4 CX X E0:=λ_ _ H s e s' _ z=>(h _ H s e s' z).elim
section
variable {P : Program} {w : World} {K : PySem.W.Frag} {mg : Str -> Option Value} {base : Heap} {CX : jI}
theorem uE.dZ {x qual:Str} {st:Stmt} {f:Addr} {fd:FuncData} {N ps:List Str} {k:Nat} {sp:Sp} (F:uE K x qual st f fd) (S:aM N ps (ae st)) (len:∀vs H Q E,sp vs H Q E->vs.length=ps.length)
  (rJ:∀(cw:Value) (A:Around) (outer:List Env) (s:Shared) (H:Hp) (vs:List V) (Q:VK) (E:XK),cS k (A.deeper (envOfC qual (ae st) s.heap.objs.size f cw))->sp vs H Q E->
   ∃t,ub (uy CX P w K mg base N qual (ae st) f cw A outer s H E).F0 (aI st) t/\t {nx:=λ_ H'=>Q .cu H',rt:=Q} (start N vs) H):dU P w K mg base CX (k+1) f fd ps sp:=by
 obtain⟨oc,od,kV,doc,pm,an,cw,ct,yc,rfl,lk,rC⟩:=F.ex
 refine CW lk rC S len λA outer s H vs Q E hr A6=>?_
 obtain⟨t,h,q⟩:=rJ cw A outer s H vs Q E hr A6
 exact⟨t,h.F0,q⟩
structure Dn (K:PySem.W.Frag) (mg:Str->Option Value) (x:Str) (st:Stmt):Prop where
 ex:∃f fd,uE K x x st f fd/\mg x=some (.ref f)
theorem Dn.dW {x:Str} {st:Stmt} {ps:List Str} {k:Nat} {sp:Sp} (D:Dn K mg x st)
  (hb:∀(kV doc pm:Value) (an:Option Addr) (cw ct:Value) (us:List Value),us.length=ps.length->bindArgs (PySem.W.fnOf x x (aK st) (aI st) (ae st) .none kV doc pm an cw ct) ⟨us,[]⟩=pure (ps.zip us))
  (h:∀f fd,uE K x x st f fd->dU P w K mg base CX k f fd ps sp):bK P w K mg base CX k x ps sp:=by
 obtain⟨f,fd,F,hm⟩:=D.ex
 exact⟨f,fd,h f fd F,hm,F.kp,F.binds hb⟩
end
section
variable {X : Cx}
noncomputable def GR (xs ys:List V):Bool:=(List.range (min xs.length ys.length)).all (λj=>vL (xs.getD j .cu) (ys.getD j .cu)) && xs.length==ys.length
theorem lJ {xs:List V} (h:xs.all dD=true) {j:Nat} (hj:j<xs.length):dD (xs.getD j .cu)=true:=by
 rw[YR,YQ hj]
 exact List.all_eq_true.mp h _ (YZ hj)
theorem qb {xs:List V} {us:List Value} (r:bj xs us) {j:Nat} (hj:j<us.length):RelV (xs.getD j .cu) us[j]:=by
 have hl:=r.length
 have hx:j<xs.length:=by omega
 obtain⟨u,e1,e2⟩:=r.get (YQ hx)
 rw[YQ hj] at e1
 cases e1
 rw[YR,YQ hx]
 exact e2
noncomputable def rEqT:R2:=λx y H Q=>∃p q xs ys,x=.ref p/\y=.ref q/\H p=some (.tup xs)/\H q=some (.tup ys)/\xs.all dD=true/\ys.all dD=true/\Q (.bl (GR xs ys)) H
theorem xE (hu:X.A.units<cLine):jF X (compareOp .Eq) rEqT:=by
 intro pins s σ H x y v u Q I rx ry h
 obtain⟨p,q,xs,ys,rfl,rfl,hp,hq,fx,fy,k⟩:=h
 cases rx
 cases ry
 obtain⟨aW,r,pl,hz⟩:=I.tuple (eA.of hp)
 obtain⟨kE,r2,Kf,T1⟩:=I.tuple (eA.of hq)
 have l1:=r.length
 have l2:=r2.length
 refine SeqAt.eq_tupleAt (e:=λj=>vL (xs.getD j .cu) (ys.getD j .cu)) pl Kf hu (λj h1 h2=>?_) ⟨.bl _,H,I,rfl,?_⟩
 ·rw[Y1] at h1 h2
  exact uA (qb r h1) (qb r2 h2) (lJ fx (by omega)) (lJ fy (by omega))
 ·rw[Y1,Y1,<-l1,<-l2]
  exact k
noncomputable def rInT:R2:=λx y H Q=>∃p xs,y=.ref p/\H p=some (.tup xs)/\dD x=true/\xs.all dD=true/\Q (.bl (D7 x xs)) H
theorem yQ:cF X (.builtin "isinstance") (λxs H Q=>∃x c t b,xs=[x,.ty c]/\gi X.K H x t/\PySem.W.kitOne X.K t (.type c)=some b/\Q (.bl b) H):=by
 intro pins s σ H xs us Q I r h
 obtain⟨x,c,t,b,rfl,ty,e,q⟩:=h
 obtain⟨u,u',rfl,rx,rc⟩:=vals2 r
 cases rc
 exact xr I rx ty e λtk=>⟨.bl b,H,I.tok tk,rfl,q⟩
end
theorem at0 {α:Type} {x:α} {l:List α}:fA (x::l) 0=some x:=bF (j:=0) rfl
theorem at1 {α:Type} {x y:α} {l:List α}:fA (x::y::l) 1=some y:=bF (j:=1) rfl
theorem at2 {α:Type} {x y z:α} {l:List α}:fA (x::y::z::l) 2=some z:=bF (j:=2) rfl
noncomputable def Pr (a b:Int):List V:=[.int a,.int b]
theorem Ei {K:PySem.W.Frag}:PySem.W.kitOne K (.type "int") (.type "int")=some true:=by unfold PySem.W.kitOne;rw[if_pos (by decide +kernel)]
theorem Ej {K:PySem.W.Frag}:PySem.W.kitOne K (.type "tuple") (.type "tuple")=some true:=by unfold PySem.W.kitOne;rw[if_pos (by decide +kernel)]
theorem Ek {K:PySem.W.Frag}:PySem.W.kitOne K (.type "list") (.type "list")=some true:=by unfold PySem.W.kitOne;rw[if_pos (by decide +kernel)]
theorem BL {K:PySem.W.Frag} {t c:String} {b:Bool} (h1:(Value.type t==Value.type c)=false:=by decide +kernel) (h2:PySem.W.kitMeta c=true:=by decide +kernel) (h3:(PySem.fastBuiltinMro t).map (·.contains (Value.type c))=some b:=by decide +kernel):
  PySem.W.kitOne K (.type t) (.type c)=some b:=by
 unfold PySem.W.kitOne PySem.W.kitCls PySem.W.subIn
 rw[if_neg (by rw[h1];decide)]
 dsimp only
 rw[if_pos h2]
 exact h3
theorem El {K:PySem.W.Frag}:PySem.W.kitOne K (.type "int") (.type "bool")=some false:=BL
theorem Em (a b c d:Int):GR [.int a,.int b] [.int c,.int d]=(a==c && b==d):=by
 show(([0,1]:List Nat).all (λj=>vL (([.int a,.int b]:List V).getD j .cu) (([.int c,.int d]:List V).getD j .cu)) && true)=_
 simp [vL]
theorem rT (a b:Int):GR [.int a,.int b] [.int a,.int b]=true:=by
 rw[Em]
 simp
end L2
namespace Nm
noncomputable def g (a b:Int):Int:=(Int.gcd a b:Nat)
theorem Eo (a b:Int):0<=g a b:=Int.natCast_nonneg _
theorem mN {a b:Int} (h:b≠0):0<g a b:=by
 have:=Int.gcd_pos_of_ne_zero_right a h
 unfold g
 omega
theorem lK (a b:Int):g a b∣a:=Int.gcd_dvd_left ..
theorem fJ (a b:Int):g a b∣b:=Int.gcd_dvd_right ..
theorem qc (a b:Int):g a b=g b a:=by unfold g;rw[Int.gcd_comm]
theorem Ep {a b:Int} (h:0<b):g a b<=b:=ZO h (fJ a b)
theorem yR (a b:Int):g (a.natAbs:Int) b=g a b:=by
 unfold g Int.gcd
 rw[Int.natAbs_natCast]
theorem vO (a b:Int):g a (b.natAbs:Int)=g a b:=by
 rw[qc,yR,qc]
theorem C1 (a b:Int):g (-a) b=g a b:=by
 unfold g Int.gcd
 rw[Int.natAbs_neg]
theorem yS {a b:Int} (ha:0<=a) (X3:0<b):g b (a % b)=g a b:=by
 unfold g Int.gcd
 rw[Int.natAbs_emod_of_nonneg ha,Nat.gcd_comm b.natAbs,<-Nat.gcd_rec,Nat.gcd_comm]
theorem yT {a:Int} (ha:0<=a):g a 0=a:=by
 unfold g
 rw[Int.gcd_zero_right]
 omega
theorem yU {a b:Int} (h:b≠0):g a b<=(b.natAbs:Int):=by
 rw[<-vO]
 exact Ep (by omega)
theorem BM {a b:Int} (h:b≠0):g (a / g a b) (b / g a b)=1:=by
 have p:0<Int.gcd a b:=Int.gcd_pos_of_ne_zero_right a h
 unfold g
 rw[Int.gcd_ediv_gcd_ediv_gcd p]
 rfl
theorem BN {a b:Int} (h:0<b):0<b / g a b:=Int.ediv_pos_of_pos_of_dvd h (Eo a b) (fJ a b)
theorem xF (a b:Int):(a / g a b)*b=a* (b / g a b):=by
 rw[<-Int.mul_ediv_assoc _ (fJ a b),Y8 a b,Int.mul_ediv_assoc _ (lK a b),Y8]
theorem lL {q a b:Int} (h:q∣a*b) (c:Int.gcd a q=1):q∣b:=by
 have h1:=(Int.dvd_gcd_mul_iff_dvd_mul (k:=q) (n:=a) (m:=b)).mpr h
 rw[Int.gcd_comm,c] at h1
 simpa using h1
theorem BO {p q p' q':Int} (h:0<q) (h':0<q') (e:g p q=1) (e':g p' q'=1) (c:p*q'=p'*q):p=p'/\q=q':=by
 have c1:Int.gcd p q=1:=by unfold g at e;omega
 have c2:Int.gcd p' q'=1:=by unfold g at e';omega
 have d1:q∣q':=by
  have:q∣p*q':=⟨p',by rw[c,Y8]⟩
  exact lL this c1
 have d2:q'∣q:=by
  have:q'∣p'*q:=⟨p,by rw[<-c,Y8]⟩
  exact lL this c2
 have eq:q=q':=by
  have:=ZO h' d1
  have:=ZO h d2
  omega
 subst eq
 exact⟨Int.eq_of_mul_eq_mul_right (by omega) c,rfl⟩
theorem eW {a g:Int} (_h:0<g) (d:g∣a):(a / g).natAbs<=a.natAbs:=by
 rw[Int.natAbs_ediv_of_dvd d]
 exact Nat.div_le_self _ _
theorem back {a b c d p q x y:Int} (hq:0<q) (hd:0<d) (e:p* (b*d)=(a*d - c*b)*q) (f:x* (q*d)=(p*d+c*q)*y):x*b=a*y:=by
 have h:(x*b)* (q*d)=(a*y)* (q*d):=by grind
 exact Int.eq_of_mul_eq_mul_right (by have:=Zm hq hd;omega) h
end Nm
namespace L2
open PySem PySem.Spec PyProof.Rows PySem.W
theorem bY.get {P:Program} {w:World} {H:Hp} {h:Heap} {a:Addr}:∀{o:HO},bY P w H h a o->∃ob,h.get? a=some ob
 | .lst _,x=>let ⟨_,_,_,_,e⟩:=x;⟨_,e⟩
 | .tup _,x=>let ⟨_,_,_,o,e,_⟩:=x;⟨o,e⟩
 | .dK _,x=>let ⟨_,_,_,_,o,_,_,e,_⟩:=x;⟨o,e⟩
 | .dT _,x=>let ⟨_,_,_,_,o,_,_,e,_⟩:=x;⟨o,e⟩
 | .set _ _,x=>by
  obtain⟨o,es,ep,t,e,_⟩:=x
  exact⟨o,e⟩
 | .ins _ _ _,x=>let ⟨_,_,_,e,_⟩:=x;⟨_,e⟩
 | .own _,x=>x
 | .xd _,x=>by
  obtain⟨mA,⟨o,es,ep,e,_⟩,_⟩:=x
  exact⟨o,e⟩
 | .qW _ _,x=>let ⟨_,_,_,e⟩:=x;⟨_,e⟩
 | .qX _ _,x=>⟨_,x.1⟩
 | .pQ _,⟨_,x,_⟩=>⟨_,x⟩
 | .met _ _,x=>⟨_,x⟩
 | .ext _,x=>x.2.1
structure T3 (P:Program) (w:World) (l:List Env) (H:Hp) (s:Shared) (H':Hp) (ad:Addr) (cls:Value) (s':Shared):Prop where
 os:s'.os=s.os
 bare:AllBare s'.gens
 un:Un (rA l) [] H H' s.heap s'.heap
 bJ:gX P w H' s'.heap
 fl:∃B a0,Heap.FlyingW B l ad cls a0 s'.heap/\(∀b o,s.heap.get? b=some o->H b=none->b∉rA l->B.get? b=some o)/\(∀b o,s.heap.get? b=some o->b∉rA l->∃o',B.get? b=some o')/\
  (∀b u o,H' b=some u->s'.heap.get? b=some o->B.get? b=some o)
noncomputable def bE (P:Program) (w:World):jI:=λl H s E e s'=>∃ad cls H',e=.ref ad/\T3 P w l H s H' ad cls s'/\E cls none H'
theorem vP (P:Program) (w:World):qa (bE P w):=λ_ _ _ _ _ ⟨_,_,_,_,_,h⟩=>h
section
variable {P : Program} {w : World} {K : PySem.W.Frag} {mg : Str -> Option Value} {base : Heap} {N : List Str} {qual : Str} {scope : Scope} {f : Addr} {cw : Value} {A : Around} {outer : List Env} {s0 : Shared} {H0 : Hp} {E : XK}
end
end L2
namespace L2
open PySem PySem.Spec PyProof.Rows PySem.W
abbrev T4:List Value:=[.type "ValueError",.type "Exception",.type "BaseException",.type "object"]
abbrev RQ:String:="ValueError.__new__"
noncomputable def tRaise (C:Addr) (E:XK) (t:TA):TS:=λ_ σ H=>t σ H λvs H1=>vs.length<=sizeLine/\E (.ref C) none H1
section
variable {P : Program} {w : World} {K : PySem.W.Frag} {mg : Str -> Option Value} {base : Heap} {N : List Str} {qual : Str} {scope : Scope} {f : Addr} {cw : Value} {A : Around} {outer : List Env} {s0 : Shared} {H0 : Hp} {E : XK}
end
section
variable {X : Cx} {pins : List (Addr × Obj)} {σ : St} {H H' : Hp} {s s' : Shared}
abbrev Cx.mark (X:Cx) (ad:Addr):Cx:={X with A:=X.A.mark (some (.ref ad)),calm:=false,xe:=λ_ _=>False}
end
section
variable {X : Cx} {CX : jI} {k : Nat} {x : Str} {ps : List Str} {sp : Sp} {E : XK} {e : Expr} {es : List Expr} {t : TA} {p pos : Pos}
variable {cx n : Str} {np T5 T6 mw : Pos} {b₀ : Stmt} {RS : List Stmt} {i : Nat} {ts : TS} {C2 : Addr}
end
end L2
namespace Nm
noncomputable def st (a b:Int):Int:=if b<0 then -(a / g a b) else a / g a b
noncomputable def sb (a b:Int):Int:=if b<0 then -(b / g a b) else b / g a b
set_option tactic.hygienic true in
theorem yV {a b:Int} (h:b≠0):0<sb a b:=by
 have g0:=mN (a:=a) h
 unfold sb
 split
 ·rename_i hb
  have h1:0< (-b) / g a b:=Int.ediv_pos_of_pos_of_dvd (by omega) (Eo a b) (Int.dvd_neg.mpr (fJ a b))
  rw[Int.neg_ediv_of_dvd (fJ a b)] at h1
  exact h1
 ·exact BN (by omega)
theorem BP (a b:Int):g a (-b)=g a b:=by rw[qc,C1,qc]
theorem yW {a b:Int} (h:b≠0):g (st a b) (sb a b)=1:=by
 have e:=BM (a:=a) h
 unfold st sb
 split
 ·rw[C1,BP];exact e
 ·exact e
theorem rV (a b:Int):st a b*b=a*sb a b:=by
 have e:=xF a b
 unfold st sb
 split
 ·rw[Int.neg_mul,e,Int.mul_neg]
 ·exact e
theorem Er {a b:Int} (h:b≠0):(st a b).natAbs<=a.natAbs:=by
 have:=eW (mN (a:=a) h) (lK a b)
 unfold st
 split <;>omega
theorem Es {a b:Int} (h:b≠0):(sb a b).natAbs<=b.natAbs:=by
 have:=eW (mN (a:=a) h) (fJ a b)
 unfold sb
 split <;>omega
theorem uF {a b:Int} (h:0<b):st a b=a / g a b/\sb a b=b / g a b:=by
 unfold st sb
 rw[if_neg (by omega),if_neg (by omega)]
 exact⟨rfl,rfl⟩
end Nm
namespace L2
open PySem PySem.Spec PyProof.Rows
section
variable {P : Program} {w : World} {K : PySem.W.Frag} {mg : Str -> Option Value} {base : Heap} {CX : jI}
end
noncomputable def noStar:Expr->Bool
 | .Starred _ _=>false
 | _=>true
theorem se {e:Expr} {es:List Expr} {env:Env} (h:noStar e=true):starEach (e::es) env=(false,eval e env)::starEach es env:=by
 cases e <;>first | rfl | exact absurd h Y7
theorem na {env:Env} {pos:Pos}:∀{es:List Expr},es.all noStar=true->(backTo pos (starEach es env)).any (·.1)=false
 | [],_=>rfl
 | e::es,h=>by
  rw[List.all_cons,Bool.and_eq_true] at h
  rw[se h.1]
  show(false || (backTo pos (starEach es env)).any (·.1))=false
  rw[na h.2]
  rfl
end L2
namespace L2
open PySem PySem.Spec PyProof.Rows PySem.W
structure Kg (K:PySem.W.Frag) (C:Addr):Prop where
 cls:(clsIn K C).isSome=true
 ga:findIn K (.ref C) "__getattribute__"=some (some (.builtin "BaseException.__getattribute__"))
 gt:findIn K (.ref C) "__getattr__"=some none
 cl:findIn K (.ref C) "__class__"=some (some (.builtin "object.__class__"))
 be:mroIn K C (.type "BaseException")=some true
 ob:mroIn K C (.type "object")=some true
section
variable {prog : Program} {w : World} {A : Around} {E : Value -> Shared -> Prop} {K : PySem.W.Frag} {h : Heap} {g : Array GenState} {d : Drawn} {t : Nat} {os : OsState} {a C : Addr} {o : Obj}
end
section
variable {X : Cx}
end
end L2
namespace L2
open PySem PySem.Spec PyProof.Rows
theorem iH {env:Env}:∀(names:List (Str×NameKind)) (cs:List (Str×Addr)),(∀n,(n,NameKind.free)∈names->∃c,env.cells.lookup n=some c)->(∀x c,cs.lookup x=some c->env.cells.lookup x=some c)->
  ∃cl,(forIn names cs fun(x:Str×NameKind) (r:List (Str×Addr))=>(if (x.2==NameKind.free)=true then do let c <-cellOf env x.1;pure (ForInStep.yield ((x.1,c)::r)) else pure (ForInStep.yield r):Sem (ForInStep (List (Str×Addr)))))=pure cl/\
   (∀x c,cl.lookup x=some c->env.cells.lookup x=some c)/\(∀n,((n,NameKind.free)∈names\/(cs.lookup n).isSome=true)->∃c,cl.lookup n=some c)/\(∀x c,(x,c)∈cl->(env.cells.lookup x=some c/\(x,NameKind.free)∈names)\/(x,c)∈cs)
 | [],cs,_,h=>⟨cs,rfl,h,(λn hn=>by
   rcases hn with hn | hn
   ·exact absurd hn (by simp)
   ·exact Option.isSome_iff_exists.mp hn),λx c m=>.inr m⟩
 | (n,k)::r,cs,hf,h=>by
  by_cases hk:k=.free
  ·subst hk
   obtain⟨c,hc⟩:=hf n YV
   obtain⟨cl,e,h1,h2,h3⟩:=iH r ((n,c)::cs) (λm hm=>hf m (YW _ hm)) (λx c' hx=>by
    rw[Zr] at hx
    cases q:x==n with
    | true=>
     rw[q] at hx
     have e1:x=n:=by simpa using q
     cases hx
     rw[e1];exact hc
    | false=>rw[q] at hx;exact h x c' hx)
   refine⟨cl,?_,h1,λm hm=>h2 m ?_,λx c' m=>?_⟩
   rotate_left 2
   ·rcases h3 x c' m with ⟨q1,q2⟩ | m
    ·exact .inl ⟨q1,YW _ q2⟩
    ·rcases List.mem_cons.mp m with e | m
     ·cases e
      exact .inl ⟨hc,YV⟩
     ·exact .inr m
   ·rw[List.forIn_cons]
    have Jg:cellOf env n=pure c:=by unfold cellOf;rw[hc]
    simp only[beq_self_eq_true,if_true,Jg,pure_bind]
    exact e
   ·rcases hm with hm | hm
    ·rcases List.mem_cons.mp hm with z | z
     ·cases z
      right
      rw[Zr]
      simp
     ·exact .inl z
    ·right
     rw[Zr]
     cases q:m==n with
     | true=>rfl
     | false=>exact hm
  ·obtain⟨cl,e,h1,h2,h3⟩:=iH r cs (λm hm=>hf m (YW _ hm)) h
   refine⟨cl,?_,h1,λm hm=>h2 m ?_,λx c' m=>(h3 x c' m).imp (λq=>⟨q.1,YW _ q.2⟩) id⟩
   ·rw[List.forIn_cons]
    have:(k==NameKind.free)=false:=by simpa using hk
    simp only[this,Bool.false_eq_true,if_false,pure_bind]
    exact e
   ·rcases hm with hm | hm
    ·rcases List.mem_cons.mp hm with z | z
     ·cases z;exact absurd rfl hk
     ·exact .inl z
    ·exact .inr hm
theorem eM {env:Env} {scope:Scope} (hf:∀n,(n,NameKind.free)∈scope.names->∃c,env.cells.lookup n=some c):
  ∃cl,closureFor scope env=pure cl/\(∀x c,cl.lookup x=some c->env.cells.lookup x=some c)/\(∀n,(n,NameKind.free)∈scope.names->∃c,cl.lookup n=some c)/\(∀x c,(x,c)∈cl->env.cells.lookup x=some c/\(x,NameKind.free)∈scope.names):=by
 obtain⟨cl,e,h1,h2,h3⟩:=iH (env:=env) scope.names [] hf (λx c h=>by simp at h)
 refine⟨cl,?_,h1,λn hn=>h2 n (.inl hn),λx c m=>(h3 x c m).elim id λz=>absurd z (by simp)⟩
 unfold closureFor
 simp only[bind_pure]
 exact e
structure d3 (N:List Str) (so:Scope) (N':List Str) (scope:Scope) (k:Nat) (fr:List Nat):Prop where
 kind:scope.kind=.function
 Et:∀y∈scope.names,y.2=.cell->scope.names.lookup y.1=some .cell/\(y.1,NameKind.free)∉scope.names
 locs:∀y∈scope.names,y.2=.local->scope.names.lookup y.1=some .local
 outer:∀y∈scope.names,y.2=.free->(so.names.lookup y.1=some .cell\/so.names.lookup y.1=some .free)
 len:N'.length=k+fr.length
 at_:∀t,t<fr.length->(fr[t]?).bind (λj=>N[j]?)=N'[k+t]?
 Kh:∀x∈N'.drop k,scope.names.lookup x=some .free
noncomputable def stC (k:Nat) (fr:List Nat) (σ:St):St:=List.replicate k none++fr.map λj=>(σ[j]?).join
noncomputable def kG (X:Cx) (N:List Str) (scope:Scope) (cl:List (Str×Addr)) (C:Addr) (s:Shared) (H:Hp) (ex:List Addr):Cx where
 prog:=X.prog
 w:=X.w
 K:=X.K
 mg:=X.mg
 base:=X.base
 A:=X.A
 N:=N
 s₀:=s
 H₀:=H
 env:=compEnvC scope cl C X.env
 outer:=X.stack
 stack:=X.stack
 ex:=ex
 calm:=X.calm
 fn:=λx=>scope.names.lookup x==some .cell
 pn:=[]
 xe:=λ_ _=>False
theorem dQ {env:Env}:∀{names:List (Str×NameKind)} {x:Str},names.lookup x=some .free->
  (names.map fun(n,k)=>if (k==NameKind.free && env.scope.kind==.function && env.kindOf n==some .cell) then (n,NameKind.cell) else (n,k)).lookup x=some .cell\/
  (names.map fun(n,k)=>if (k==NameKind.free && env.scope.kind==.function && env.kindOf n==some .cell) then (n,NameKind.cell) else (n,k)).lookup x=some .free
 | [],_,h=>by simp at h
 | (n,k)::r,x,h=>by
  have ih:=@dQ env r x
  show List.lookup x ((if (k==NameKind.free && env.scope.kind==.function && env.kindOf n==some .cell)=true then (n,NameKind.cell) else (n,k))::_)=_\/List.lookup x ((if (k==NameKind.free && env.scope.kind==.function && env.kindOf n==some .cell)=true then (n,NameKind.cell) else (n,k))::_)=_
  cases hx:x==n with
  | true=>
   simp only[Zr,hx] at h
   cases h
   by_cases hc:(NameKind.free==NameKind.free && env.scope.kind==.function && env.kindOf n==some .cell)=true
   ·rw[if_pos hc];left;simp [Zr,hx]
   ·rw[if_neg hc];right;simp [Zr,hx]
  | false=>
   simp only[Zr,hx] at h
   by_cases hc:(k==NameKind.free && env.scope.kind==.function && env.kindOf n==some .cell)=true
   ·rw[if_pos hc];simp only[Zr,hx];exact ih h
   ·rw[if_neg hc];simp only[Zr,hx];exact ih h
theorem i9 {env:Env}:∀{names:List (Str×NameKind)} {x:Str},
  ((names.map fun(n,k)=>if (k==NameKind.free && env.scope.kind==.function && env.kindOf n==some .cell) then (n,NameKind.cell) else (n,k)).lookup x=some .cell\/
  (names.map fun(n,k)=>if (k==NameKind.free && env.scope.kind==.function && env.kindOf n==some .cell) then (n,NameKind.cell) else (n,k)).lookup x=some .free)->(x,NameKind.free)∈names\/(x,NameKind.cell)∈names
 | [],_,h=>by simp at h
 | (n,k)::r,x,h=>by
  have ih:=@i9 env r x
  have up:((x,NameKind.free)∈r\/(x,NameKind.cell)∈r)->((x,NameKind.free)∈(n,k)::r\/(x,NameKind.cell)∈(n,k)::r):=λz=>z.imp (YW _) (YW _)
  have h:List.lookup x ((if (k==NameKind.free && env.scope.kind==.function && env.kindOf n==some .cell)=true then (n,NameKind.cell) else (n,k))::_)=_\/List.lookup x ((if (k==NameKind.free && env.scope.kind==.function && env.kindOf n==some .cell)=true then (n,NameKind.cell) else (n,k))::_)=_:=h
  cases hx:x==n with
  | true=>
   have e1:x=n:=by simpa using hx
   subst e1
   by_cases hc:(k==NameKind.free && env.scope.kind==.function && env.kindOf x==some .cell)=true
   ·have:k=.free:=by
     simp only[Bool.and_eq_true] at hc
     simpa using hc.1.1
    subst this
    exact .inl YV
   ·rw[if_neg hc] at h
    simp only[Zr,hx] at h
    rcases h with h | h
    ·cases h;exact .inr YV
    ·cases h;exact .inl YV
  | false=>
   by_cases hc:(k==NameKind.free && env.scope.kind==.function && env.kindOf n==some .cell)=true
   ·rw[if_pos hc] at h;simp only[Zr,hx] at h;exact up (ih h)
   ·rw[if_neg hc] at h;simp only[Zr,hx] at h;exact up (ih h)
theorem jK:∀(names:List (Str×NameKind)) (h:Heap) (acc:List (Str×Addr)) (x:Str) (c:Addr),(x,c)∈cellsFrom h.objs.size names acc->
  (x,c)∈acc\/(h.objs.size<=c/\(pushCells h names).IsCell c none/\(x,NameKind.cell)∈names)
 | [],h,acc,x,c,m=>.inl m
 | (n,k)::r,h,acc,x,c,m=>by
  unfold cellsFrom at m
  unfold pushCells
  by_cases hk:(k==NameKind.cell)=true
  ·rw[if_pos hk] at m ⊢
   have ih:=jK r (h.push {cls:=.type "cell",data:=.cell none}) ((n,h.objs.size)::acc) x c
   rw[Heap.size_push] at ih
   rcases ih m with m | ⟨q1,q2,q3⟩
   ·rcases List.mem_cons.mp m with e | m
    ·cases e
     have hk:k=.cell:=by simpa using hk
     subst hk
     refine .inr ⟨YS _,?_,YV⟩
     have q:(h.push {cls:=.type "cell",data:=.cell none}).IsCell h.objs.size none:=⟨_,Heap.get?_push_size _ rfl,rfl⟩
     exact q.keeps λb o e=>pushCells_keeps r _ b o e
    ·exact .inl m
   ·exact .inr ⟨by omega,q2,YW _ q3⟩
  ·rw[if_neg hk] at m ⊢
   rcases jK r h acc x c m with m | ⟨q1,q2,q3⟩
   ·exact .inl m
   ·exact .inr ⟨q1,q2,YW _ q3⟩
theorem jL:∀(names:List (Str×NameKind)) (n lo:Nat) (acc:List (Str×Addr)),(∀x c,(x,c)∈acc->c<n)->(∀x y c,lo<=c->(x,c)∈acc->(y,c)∈acc->x=y)->
  ∀x y c,lo<=c->(x,c)∈cellsFrom n names acc->(y,c)∈cellsFrom n names acc->x=y
 | [],n,lo,acc,h1,h2,x,y,c,hl,m1,m2=>h2 x y c hl m1 m2
 | (z,k)::r,n,lo,acc,h1,h2,x,y,c,hl,m1,m2=>by
  unfold cellsFrom at m1 m2
  by_cases hk:(k==NameKind.cell)=true
  ·rw[if_pos hk] at m1 m2
   refine jL r (n+1) lo _ (λx c m=>?_) (λx y c hl m1 m2=>?_) x y c hl m1 m2
   ·rcases List.mem_cons.mp m with e | m
    ·cases e;exact Zl _
    ·exact ZY (h1 x c m)
   ·rcases List.mem_cons.mp m1 with e1 | m1 <;>rcases List.mem_cons.mp m2 with e2 | m2
    ·cases e1;cases e2;rfl
    ·cases e1;exact absurd (h1 _ _ m2) (Zj _)
    ·cases e2;exact absurd (h1 _ _ m1) (Zj _)
    ·exact h2 x y c hl m1 m2
  ·rw[if_neg hk] at m1 m2
   exact jL r n lo acc h1 h2 x y c hl m1 m2
theorem fK:∀(names:List (Str×NameKind)) (n:Nat) (acc:List (Str×Addr)) (x:Str),(x,NameKind.cell)∉names->(cellsFrom n names acc).lookup x=acc.lookup x
 | [],n,acc,x,_=>rfl
 | (z,k)::r,n,acc,x,h=>by
  have hr:(x,NameKind.cell)∉r:=λm=>h (YW _ m)
  unfold cellsFrom
  by_cases hk:(k==NameKind.cell)=true
  ·rw[if_pos hk,fK r _ _ x hr,Zr]
   have hk:k=.cell:=by simpa using hk
   subst hk
   have:(x==z)=false:=by
    cases q:x==z with
    | false=>rfl
    | true=>
     have e:x=z:=by simpa using q
     subst e
     exact absurd YV h
   rw[this]
  ·rw[if_neg hk]
   exact fK r n acc x hr
theorem jM:∀(names:List (Str×NameKind)) (n:Nat) (acc:List (Str×Addr)) (x:Str),((x,NameKind.cell)∈names\/(acc.lookup x).isSome=true)->((cellsFrom n names acc).lookup x).isSome=true
 | [],n,acc,x,h=>by
  rcases h with h | h
  ·simp at h
  ·exact h
 | (z,k)::r,n,acc,x,h=>by
  unfold cellsFrom
  by_cases hk:(k==NameKind.cell)=true
  ·rw[if_pos hk]
   refine jM r _ _ x ?_
   rcases h with h | h
   ·rcases List.mem_cons.mp h with e | h
    ·cases e
     right
     rw[Zr]
     simp
    ·exact .inl h
   ·right
    rw[Zr]
    cases q:x==z with
    | true=>rfl
    | false=>exact h
  ·rw[if_neg hk]
   refine jM r _ _ x ?_
   rcases h with h | h
   ·rcases List.mem_cons.mp h with e | h
    ·cases e;exact absurd rfl hk
    ·exact .inl h
   ·exact .inr h
section
variable {M : Model} {A : Around} {E : Value -> Shared -> Prop} {s : Shared}
theorem ja {scope:Scope} {globals:Addr} {closure:List (Str×Addr)} {qual:Str} {func:Option Addr} {code:Value} {outer:Env} {Q:Env->Shared->Prop}
  (hQ:Q (newEnv scope s.heap.objs.size globals (cellsFrom (s.heap.objs.size+1) scope.names closure) qual func code (some outer) builtinsNs)
   {s with heap:=pushCells (s.heap.push {cls:=.type "dict",data:=.dict #[]}) scope.names}):
  wpAny M A (newFunctionEnv scope globals closure [] qual func code (some outer)) Q E s:=by
 simp only[newFunctionEnv,Option.isSome_some,if_true]
 refine wpAny_bind (wpAny_alloc ?_)
 refine wpAny_bind (wpAny_layCells _ (λname kind cells=>by cases T7:kind==NameKind.cell <;>simp [T7]) _ _ _ _ ?_)
 rw[show({s with heap:=s.heap.push {cls:=.type "dict",data:=.dict #[]}}:Shared).heap.objs.size=s.heap.objs.size+1 from Heap.size_push ..]
 refine wpAny_bind ?_
 rw[List.forIn_nil]
 exact wpAny_pure (wpAny_pure hQ)
end
structure Eu (X:Cx) (scope:Scope) (cl:List (Str×Addr)) (lo:Nat) (C:Addr) (h1:Heap):Prop where
 old:∀x c,cl.lookup x=some c->X.env.cells.lookup x=some c\/(lo<=c/\C<c/\h1.IsCell c none)
 inj:∀x y c,C<c->cl.lookup x=some c->cl.lookup y=some c->x=y
 has:∀n,(n,NameKind.free)∈scope.names\/(n,NameKind.cell)∈scope.names->∃c,cl.lookup n=some c
 Kh:∀n,scope.names.lookup n=some .free->∀c,cl.lookup n=some c->X.env.cells.lookup n=some c
 own:∀x c,scope.names.lookup x=some .cell->cl.lookup x=some c->lo<=c
section
variable {X : Cx} {pins : List (Addr × Obj)} {σ : St} {H : Hp} {s : Shared} {N' : List Str} {scope : Scope} {k : Nat} {fr : List Nat} {cl : List (Str × Addr)}
theorem Ew {C:Addr} {fp:List Addr} {h1:Heap} (I:Inv X pins σ H s) (S:d3 X.N X.env.scope N' scope k fr) (B:Eu X scope cl s.heap.objs.size C h1)
  (hC:s.heap.objs.size<=C) (f2:∀b∈fp,ij X pins H b) (lt:∀b∈fp,b<s.heap.objs.size):(kG X N' scope cl C s H fp).Ok where
 mod:=I.ok.mod
 kind:=S.kind
 glob:=I.ok.glob
 blt:=I.ok.blt
 above:=hC
 inj:=λx y c h1 h2=>by
  rcases B.old _ _ h1 with o1 | o1 <;>rcases B.old _ _ h2 with o2 | o2
  ·exact I.ok.inj x y c o1 o2
  ·exact B.inj x y c o2.2.1 h1 h2
  ·exact B.inj x y c o1.2.1 h1 h2
  ·exact B.inj x y c o1.2.1 h1 h2
 has:=λx hx=>B.has x (i9 hx)
 FZ:=λx c z e=>B.own x c (by
  have z:(scope.names.lookup x==some NameKind.cell)=true:=z
  simpa using z) e
 hd:=I.ok.hd
 frames:=I.ok.frames
 yn:=.inl rfl
 JQ:=λb hb=>⟨Y0 (Y6 (lt b hb) hC),λx c e=>(B.old _ _ e).elim (λo=>(f2 b hb).2.2.2.2.1 x c o) λo=>Nat.ne_of_gt (Y6 (lt b hb) o.1)⟩
 bs:=I.bs
 yo:=Y2 I.ok.yo I.sz
 xg:=λb o e hb=>by
  rcases(f2 b hb).2.2.2.1 with z | z
  ·exact I.ok.xg b o e z
  ·exact absurd (Y6 (Heap.lt_size e) (Y2 I.ok.yo z)) (Zj _)
 yp:=λb hb z=>by
  rcases List.mem_cons.mp (I.pR b z) with q | q
  ·exact(f2 b hb).2.1 q
  ·exact(f2 b hb).2.2.1 q
 jC:=I.stack
 CM:=I.vt
theorem BQ {C:Addr} {fp:List Addr} {h1:Heap} {tk:Nat} {m:Str->Option Value} (I:Inv X pins σ H s) (S:d3 X.N X.env.scope N' scope k fr) (B:Eu X scope cl s.heap.objs.size C h1)
  (hC:s.heap.objs.size<=C) (f2:∀b∈fp,ij X pins H b) (lt:∀b∈fp,b<s.heap.objs.size) (old:∀b o,s.heap.get? b=some o->h1.get? b=some o) (hn:h1.Ns C m):
  Inv (kG X N' scope cl C s H fp) [] (stC k fr σ) H {s with heap:=h1,toks:=tk}:=by
 refine⟨Ew I S B hC f2 lt,rfl,I.bare,Un.kept old,⟨m,hn,λi x v e1 e2 e3=>?_⟩,λx c e=>?_,I.bJ.fresh hC,λx c e=>(B.old _ _ e).elim (λo=>I.gv x c o) λo=>I.bJ.fresh o.1,λp hp=>absurd (show p∈([]:List (Addr×Obj)) from hp) (by simp),I.bJ.kept old,?_⟩
 ·have e1:N'[i]?=some x:=e1
  unfold stC at e2
  by_cases hi:i<k
  ·rw[Zw (by simpa using hi),Z6,if_pos hi] at e2
   cases e2
  ·rw[Zv (by simpa using hi),ZN,YT] at e2
   cases q:fr[i - k]? with
   | none=>rw[q] at e2;cases e2
   | some j=>
    rw[q] at e2
    have e2:(σ[j]?).join=some v:=Zg e2
    have ej:σ[j]?=some (some v):=by
     cases z:σ[j]? with
     | none=>rw[z] at e2;cases e2
     | some o=>rw[z] at e2;exact congrArg some e2
    have fG:i - k<fr.length:=(List.getElem?_eq_some_iff.mp q).1
    have F4:=S.at_ (i - k) fG
    rw[q,show k+ (i - k)=i by omega,e1] at F4
    have F4:X.N[j]?=some x:=F4
    have T8:x∈N'.drop k:=List.mem_iff_getElem?.mpr ⟨i - k,by rw[List.getElem?_drop,show k+ (i - k)=i by omega];exact e1⟩
    have GU:=S.Kh x T8
    have GV:(x,NameKind.free)∈scope.names:=ZH GU
    have BR:=S.outer _ GV rfl
    obtain⟨m0,X4,GW⟩:=I.loc
    obtain⟨u,r,l⟩:=GW j x v F4 ej (.inr BR)
    refine⟨u,r,.inr ⟨dQ GU,?_⟩⟩
    rcases l with ⟨kk,_⟩ | ⟨_,c,e,z⟩
    ·have kk:X.env.scope.names.lookup x=some .local:=kk
     rcases BR with q1 | q1
     ·rw[kk] at q1;cases q1
     ·rw[kk] at q1;cases q1
    ·obtain⟨c',e'⟩:=B.has x (.inl GV)
     have ec:=B.Kh x GU _ e'
     rw[e] at ec
     cases ec
     obtain⟨ob,ho,hd⟩:=z
     exact⟨c,e',ob,old _ _ ho,hd⟩
 ·rcases B.old _ _ e with o | o
  ·obtain⟨v,ob,ho,hd⟩:=I.cell x c o
   exact⟨v,ob,old _ _ ho,hd⟩
  ·exact⟨none,o.2.2⟩
 ·unfold stC
  rw[Zf,ZN,YO]
  exact S.len.symm
end
section
variable {prog : Program} {w : World} {A : Around} {E : Value -> Shared -> Prop} {R : Result -> Shared -> Prop} {s : Shared}
theorem gE {elt target iter:Expr} {ifs:List Expr} {scope:Scope} {pos:Pos} {it acc:Value} {env:Env} (I:Nat->Shared->Prop)
  (turn:∀n s,I n s->wpAny (model prog w) A (pyNext it) (λr s₁=>match r with
   | none=>R (.ok .next) s₁
   | some v=>wpAny (model prog w) A (letOwnedTupleGo target it v) (λ_ RT=>wpAny (model prog w) A (assign target env v) (λ_ s₂=>
     wpAny (model prog w) A (forIn ifs true λc r=>if r=true then do let ok <-isTrue c env (eval c env);pure (ForInStep.yield ok) else pure (ForInStep.yield r)) (λok s₃=>
      if ok=true then wpAny (model prog w) A (eval elt env) (λx s₄=>
       wpAny (model prog w) A (call (.builtin "list.append") [acc,x]) (λ_ s₅=>∃m,m<n/\I m s₅) (λ_ _=>False) s₄) (notedBy (model prog w) A env λx s'=>R (.error x) s') s₃
      else ∃m,m<n/\I m s₃) (λ_ _=>False) s₂) (λ_ _=>False) RT) (λ_ _=>False) s₁) (λ_ _=>False) s)
  (n:Nat) (h:I n s):
  codeAny (model prog w) A (.compLoop (.ListComp elt [⟨target,iter,ifs,0⟩] scope pos) 0 it acc env) R s:=by
 refine codeAny_loop rfl I (λn s hI=>?_) n h
 show wpAny _ A ((compTurn (.ListComp elt [⟨target,iter,ifs,0⟩] scope pos) 0 it acc env).onRaise (λx=>do noteFrame x env;theTreesLotGoes x)) _ _ s
 refine wpAny_noted ?_
 rw[compTurn_list]
 refine wpAny_bind (wpAny_standAt (wpAny_bind (wpAny_mono (turn n s hI) (λr s₁ h₁=>?_) λ_ _ h'=>h'.elim)))
 cases r with
 | none=>exact wpAny_pure h₁
 | some v=>
  refine wpAny_bind (wpAny_mono h₁ (λ_ RT T9=>?_) λ_ _ h'=>h'.elim)
  refine wpAny_bind (wpAny_mono T9 (λ_ s₂ h₂=>wpAny_bind (wpAny_mono h₂ (λok s₃ h₃=>?_) λ_ _ h'=>h'.elim)) λ_ _ h'=>h'.elim)
  cases ok with
  | false=>exact wpAny_pure ⟨rfl,h₃⟩
  | true=>
   exact wpAny_bind (wpAny_bind (wpAny_mono h₃ (λx s₄ h₄=>wpAny_bind (wpAny_mono h₄ (λ_ s₅ h₅=>wpAny_pure (wpAny_pure ⟨rfl,h₅⟩)) λ_ _ h'=>h'.elim)) λ_ _ h'=>h'))
end
noncomputable def Ex (X:Cx) (ifs:List Expr) (t:TT):Prop:=
 ∀(pins:List (Addr×Obj)) (s:Shared) (σ:St) (H:Hp) (Q:Bool->Hp->Prop),Inv X pins σ H s->t σ H Q->
  wpAny (model X.prog X.w) X.A (forIn ifs true λc r=>if r=true then do let ok <-isTrue c X.env (eval c X.env);pure (ForInStep.yield ok) else pure (ForInStep.yield r)) (TP X pins σ Q) X.xe s
noncomputable def gm:TT:=λ_ H Q=>Q true H
theorem bH {X:Cx}:Ex X [] gm:=λ_ _ _ H _ I h=>wpAny_tests_nil ⟨H,I,h⟩
theorem qd {X:Cx} {c:Expr} {t:TT} (h:PT X c t):Ex X [c] t:=λpins s σ H Q I hq=>wpAny_tests_one (h pins s σ H Q I hq)
section
variable {X : Cx}
noncomputable def eN (J:It) (g:TG) (tc:TT) (te:TE) (σ0:St) (H1:Hp) (fin:List V->Hp->Prop):Prop:=
 ∃W:Nat->Nat->List V->St->Hp->Prop,(∃m,W 0 m [] σ0 H1)/\∀i m ys σ2 H2,W i m ys σ2 H2->
  (J.stop i H2/\fin ys H2)\/
  (J.go i H2/\∀x H3,J.t6 i H2 x H3->g x σ2 H3 λσ3 H4=>tc σ3 H4 λb H5=>if b=true then te σ3 H5 λy H6=>ys.length<sizeLine/\∃m',m'<m/\W (i+1) m' (ys++ [y]) σ3 H6 else ∃m',m'<m/\W (i+1) m' ys σ3 H5)
noncomputable def d7 (aW:List Value) (n:Nat):Obj:={cls:=.type "list",data:=.seq aW.toArray n}
theorem yX {elt target iter:Expr} {ifs:List Expr} {scope:Scope} {pos:Pos} {g:TG} {tc:TT} {te:TE} {k:Nat} {fr:List Nat} {N':List Str} {cl:List (Str×Addr)} {pins:List (Addr×Obj)} {σ:St} {H2:Hp} {s2:Shared}
  {it:Addr} {fp:List Addr} {tn:Nat->Heap->Prop} {J:It} {fin:List V->Hp->Prop} {R0:Result->Shared->Prop} {XE:List (Str×Addr)->Addr->Shared->Hp->List Addr->Value->Shared->Prop}
  (hc:X.calm=true) (S:d3 X.N X.env.scope N' scope k fr) (c1:∀x c,cl.lookup x=some c->X.env.cells.lookup x=some c) (c2:∀n,(n,NameKind.free)∈scope.names->∃c,cl.lookup n=some c) (cin:∀x c,(x,c)∈cl->∃y,X.env.cells.lookup y=some c) (Jh:∀x,(x,NameKind.cell)∈scope.names->∀c,(x,c)∉cl)
  (hg:∀cl C s H ex,PG (kG X N' scope cl C s H ex) target g) (ht:∀cl C s H ex,Ex (kG X N' scope cl C s H ex) ifs tc) (he:∀cl C s H ex,PE ((kG X N' scope cl C s H ex).jE (XE cl C s H ex)) elt te)
  (I2:Inv X pins σ H2 s2) (T:Turn X.prog X.w X.K target J fp it tn) (uh:tn 0 s2.heap) (f2:∀b∈fp,ij X pins H2 b) (hb:eN J g tc te (stC k fr σ) H2 fin)
  (hR:∀(C:Addr),C=(s2.heap.push {cls:=.type "list",dict:=none,data:=.seq ([]:List Value).toArray}).objs.size->∀(s':Shared) (m:Str->Option Value) (ys:List V) (aW:List Value) (n:Nat) (H':Hp),s2.heap.objs.size<C->s'.heap.Ns C m->bj ys aW->ys.length<=sizeLine->s'.heap.get? s2.heap.objs.size=some (d7 aW n)->H' s2.heap.objs.size=none->H' C=none->fin ys H'->
   s'.os=s2.os->AllBare s'.gens->Un (rA X.stack) fp H2 H' s2.heap s'.heap->gX X.prog X.w H' s'.heap->R0 (.ok .next) s')
  (hE:∀cl C x s',C=(s2.heap.push {cls:=.type "list",dict:=none,data:=.seq ([]:List Value).toArray}).objs.size->s2.heap.objs.size<C->XE cl C s2 H2 fp x s'->notedBy (model X.prog X.w) X.A (compEnvC scope cl C X.env) (λy D4=>R0 (.error y) D4) x s'):
  codeAny (model X.prog X.w) X.A (.compStart (.ListComp elt [⟨target,iter,ifs,0⟩] scope pos) 0 (.ref it) (.ref s2.heap.objs.size) (compEnvC scope (cellsFrom ((s2.heap.push {cls:=.type "list",dict:=none,data:=.seq ([]:List Value).toArray}).objs.size+1) scope.names cl) (s2.heap.push {cls:=.type "list",dict:=none,data:=.seq ([]:List Value).toArray}).objs.size X.env)) R0 {s2 with heap:=pushCells ((s2.heap.push {cls:=.type "list",dict:=none,data:=.seq ([]:List Value).toArray}).push {cls:=.type "dict",data:=.dict #[]}) scope.names}:=by
 obtain⟨W,⟨m0,w0⟩,turn⟩:=hb
 have lt:∀b∈fp,b<s2.heap.objs.size:=λb hb=>by
  obtain⟨o,e,_⟩:=T.obj _ _ uh b hb
  exact Heap.lt_size e
 generalize Ki:s2.heap.push {cls:=.type "list",dict:=none,data:=.seq ([]:List Value).toArray}=G2 at hR hE ⊢
 have F5:G2.objs.size=s2.heap.objs.size+1:=by rw[<-Ki,Heap.size_push]
 have RU:s2.heap.objs.size≠G2.objs.size:=by rw[F5];exact Y0 (Zl _)
 have hC:s2.heap.objs.size<=G2.objs.size:=by rw[F5];exact Nat.le_succ _
 have old:∀b o,s2.heap.get? b=some o->(pushCells (G2.push {cls:=.type "dict",data:=.dict #[]}) scope.names).get? b=some o:=λb o e=>by
  refine pushCells_keeps _ _ b o (Heap.get?_push_of_some _ ?_)
  rw[<-Ki]
  exact Heap.get?_push_of_some _ e
 have BS:(pushCells (G2.push {cls:=.type "dict",data:=.dict #[]}) scope.names).get? s2.heap.objs.size=some (d7 [] 0):=by
  refine pushCells_keeps _ _ _ _ (Heap.get?_push_of_some _ ?_)
  rw[<-Ki]
  exact Heap.get?_push_size _ rfl
 have Kj:(pushCells (G2.push {cls:=.type "dict",data:=.dict #[]}) scope.names).Ns G2.objs.size λ_=>none:=(Heap.Ns.new G2 (.type "dict")).keeps (pushCells_keeps _ _)
 have RV:∀x c,(x,c)∈cl->c<G2.objs.size+1:=λx c m=>by
  obtain⟨y,hy⟩:=cin x c m
  obtain⟨v,q⟩:=I2.cell y c hy
  rw[F5]
  exact ZY (ZY q.lt)
 have B:Eu X scope (cellsFrom (G2.objs.size+1) scope.names cl) s2.heap.objs.size G2.objs.size (pushCells (G2.push {cls:=.type "dict",data:=.dict #[]}) scope.names):=by
  have own:=jK scope.names (G2.push {cls:=.type "dict",data:=.dict #[]}) cl
  rw[Heap.size_push] at own
  refine⟨λx c e=>?_,λx y c hc h1 h2=>?_,λn hn=>?_,λn hn c e=>?_,λx c hx e=>?_⟩
  ·by_cases hx:(x,NameKind.cell)∈scope.names
   ·rcases own x c (ZH e) with m | ⟨q1,q2,_⟩
    ·
     exfalso
     exact Jh x hx c m
    ·exact .inr ⟨Y2 hC (Nat.le_of_succ_le q1),q1,q2⟩
   ·rw[fK _ _ _ _ hx] at e
    exact .inl (c1 x c e)
  ·exact jL scope.names (G2.objs.size+1) (G2.objs.size+1) cl RV (λx y c hl m1 _=>absurd (RV x c m1) (Nat.not_lt.mpr hl)) x y c hc (ZH h1) (ZH h2)
  ·refine Option.isSome_iff_exists.mp (jM _ _ _ n ?_)
   rcases hn with hn | hn
   ·obtain⟨c,e⟩:=c2 n hn
    exact .inr (by rw[e];rfl)
   ·exact .inl hn
  ·have hx:(n,NameKind.cell)∉scope.names:=λm=>by
    have:=(S.Et _ m rfl).1
    rw[hn] at this
    cases this
   rw[fK _ _ _ _ hx] at e
   exact c1 n c e
  ·have hx:=ZH hx
   rcases own x c (ZH e) with m | ⟨q1,q2,_⟩
   ·exact absurd m (Jh x hx c)
   ·exact Y2 hC (Nat.le_of_succ_le q1)
 generalize pushCells (G2.push {cls:=.type "dict",data:=.dict #[]}) scope.names=h₁ at *
 generalize cellsFrom (G2.objs.size+1) scope.names cl=uG at *
 generalize Ey:s2.heap.objs.size=D at *
 generalize X5:G2.objs.size=C at *
 have fD:H2 D=none:=by rw[<-Ey];exact I2.bJ.fresh (YS _)
 have cells:∀x c,uG.lookup x=some c->c≠D:=λx c e=>by
  rcases B.old _ _ e with o | o
  ·obtain⟨v,q⟩:=I2.cell x c o
   rw[<-Ey]
   exact Y0 q.lt
  ·exact Nat.ne_of_gt (Nat.lt_trans (by rw[F5];exact Zl _) o.2.1)
 have loop:∀(CT:Addr) (s3:Shared),CT=it->(∃tk,s3={s2 with heap:=h₁,toks:=tk})->
   codeAny (model X.prog X.w) X.A (.compLoop (.ListComp elt [⟨target,iter,ifs,0⟩] scope pos) 0 (.ref CT) (.ref D) (compEnvC scope uG C X.env)) R0 s3:=by
  rintro CT s3 rfl ⟨tk,rfl⟩
  have I3:Inv (kG X N' scope uG C s2 H2 fp) [] (stC k fr σ) H2 {s2 with heap:=h₁,toks:=tk}:=BQ I2 S (by rw[Ey];exact B) (by rw[Ey];exact hC) f2 (by rw[Ey];exact lt) old Kj
  have uj:∀{H':Hp} {o:Obj},(∀b∈fp,H' b=none)->∀b∈fp,ij (kG X N' scope uG C s2 H2 fp) [(D,o)] H' b:=λ{H' o} hn b hb=>
   ⟨hn b hb,Y0 (Y6 (lt b hb) hC),λz=>by
    rcases List.mem_cons.mp (I2.pR b z) with q | q
    ·exact(f2 b hb).2.1 q
    ·exact(f2 b hb).2.2.1 q,.inl hb,λx c e=>(B.old _ _ e).elim (λo=>(f2 b hb).2.2.2.2.1 x c o) (λo=>Nat.ne_of_gt (Y6 (lt b hb) o.1)),λp hp=>by
    have e:p=(D,o):=by simpa [kG] using hp
    rw[e]
    exact Nat.ne_of_gt (lt b hb)⟩
  have Kk:∀{σ':St} {H':Hp} {s':Shared} {o:Obj},Inv (kG X N' scope uG C s2 H2 fp) [] σ' H' s'->s'.heap.get? D=some o->H' D=none->(∀v,o.data≠.cell v)->Inv (kG X N' scope uG C s2 H2 fp) [(D,o)] σ' H' s':=λ{σ' H' s' o} I' e n hd=>
   I'.iY λp hp=>by
    have q:p=(D,o):=by simpa using hp
    subst q
    refine⟨e,n,RU,λz=>?_,hd⟩
    obtain⟨_,ob,ho,_⟩:=I2.stack.mem z
    exact absurd (Heap.lt_size ho) (by rw[Ey];exact Zj _)
  have Ua:∀{aW:List Value} {n:Nat} (v:Option Value),(d7 aW n).data≠.cell v:=λv z=>by
   have z:Data.seq _ _=Data.cell v:=z
   cases z
  refine gE (λn s'=>∃i ys σ' H' aW yd,Inv (kG X N' scope uG C s2 H2 fp) [] σ' H' s'/\tn i s'.heap/\(∀b∈fp,H' b=none)/\s'.heap.get? D=some (d7 aW yd)/\H' D=none/\bj ys aW/\ys.length<=sizeLine/\W i n ys σ' H') ?_ m0
   ⟨0,[],_,H2,[],0,I3,T.keep _ _ _ uh (λb _ o e=>old b o e),λb hb=>(f2 b hb).1,BS,fD,.nil,Y3 _,w0⟩
  rintro n s4 ⟨i,ys,σ4,H4,aW,yd,I4,RW,RX,Ub,RY,Ji,RZ,w4⟩
  have R1:=Kk I4 Ub RY Ua
  rcases turn i n ys σ4 H4 w4 with ⟨stop,qf⟩ | ⟨go,step⟩
  ·refine bU (T.done (kG X N' scope uG C s2 H2 fp) rfl rfl rfl hc i _ s4 σ4 H4 _ R1 (uj RX) RW stop) λr s5 ⟨hr,I5⟩=>?_
   subst hr
   obtain⟨m5,Uc,_⟩:=I5.loc
   exact hR C rfl s5 m5 ys aW yd H4 (by rw[F5];exact Zl _) Uc Ji RZ (I5.pin (D,d7 aW yd) (Zp _ YV)).1 RY I5.free qf I5.os I5.bare I5.base I5.bJ
  ·refine bU (T.item (kG X N' scope uG C s2 H2 fp) rfl rfl rfl hc i _ s4 σ4 H4 _ R1 (uj RX) RW go) λr s5 ⟨u,hr,h5⟩=>?_
   subst hr
   refine bU h5 λ_ s6 cI=>?_
   obtain⟨x,H6,I6,r6,y6,Kl,Ud⟩:=cI
   have Ue:=I6.pinned (uj Ud) (T.obj _ _ Kl)
   refine bU (hg uG C s2 H2 fp _ s6 σ4 H6 x u _ Ue r6 (step x H6 y6)) λ_ s7 ⟨σ7,H7,I7,q7⟩=>?_
   refine bU (ht uG C s2 H2 fp _ s7 σ7 H7 _ I7 q7) λok s8 ⟨H8,I8,q8⟩=>?_
   have back:∀{σ':St} {H':Hp} {s':Shared},Inv (kG X N' scope uG C s2 H2 fp) ([(D,d7 aW yd)]++mz fp s6.heap) σ' H' s'->tn (i+1) s'.heap/\(∀b∈fp,H' b=none)/\s'.heap.get? D=some (d7 aW yd)/\H' D=none:=λ{σ' H' s'} I'=>by
    have pD:=I'.pin (D,d7 aW yd) (Zp _ (List.mem_append_left _ (by simp)))
    refine⟨T.keep _ _ _ Kl λb hb o e=>(I'.pin (b,o) (Zp _ (Zp _ (fF hb e)))).1,λb hb=>?_,pD.1,pD.2.1⟩
    obtain⟨o,e,d⟩:=T.obj _ _ Kl b hb
    exact(I'.pin (b,o) (Zp _ (Zp _ (fF hb e)))).2.1
   cases ok with
   | false=>
    rw[if_neg Y7]
    rw[if_neg Y7] at q8
    obtain⟨m',hm,w8⟩:=q8
    obtain⟨b1,b2,b3,b4⟩:=back I8
    exact⟨m',hm,i+1,ys,σ7,H8,aW,yd,I8.iY (λp hp=>absurd hp (by simp)),b1,b2,b3,b4,Ji,RZ,w8⟩
   | true=>
    rw[if_pos rfl]
    rw[if_pos rfl] at q8
    refine wpAny_mono (he uG C s2 H2 fp _ s8 σ7 H8 _ (I8.jE _) q8) (λy s9 ⟨z,H9,I9,r9,fG,m',hm,w9⟩=>?_) λx s' hx=>hE uG C x s' rfl (by rw[F5];exact Zl _) hx
    have I9:=I9.fE
    obtain⟨b1,b2,b3,b4⟩:=back I9
    have hl:=Ji.length
    refine call_meets F.slot_list_append ⟨_,b3,rfl⟩ F.entry_list_append (F.args_list_append_2 _ _) (PySem.list_append D aW.toArray yd y (by rw[Y1];omega)) ⟨b3,?_⟩
    obtain⟨c',q⟩:∃c',(s9.heap.update D (Obj.mapSeq λx=>x.push y)).get? D=some (d7 (aW++ [y]) c'):=by
     have q:=PySem.IsL.update b3 (λx=>x.push y)
     rw[show aW.toArray.push y=(aW++ [y]).toArray by simp] at q
     exact⟨_,q⟩
    have Ug:Inv (kG X N' scope uG C s2 H2 fp) [] σ7 H9 s9:=I9.iY (λp hp=>absurd hp (by simp))
    have kp:∀b o,b≠D->s9.heap.get? b=some o->(s9.heap.update D (Obj.mapSeq λx=>x.push y)).get? b=some o:=λb o hb e=>(Heap.get?_update_other s9.heap (Obj.mapSeq λx=>x.push y) (Ne.symm hb)).trans e
    have Uh:=Ug.turned (t':=s9.toks) (it:=D) (h':=s9.heap.update D (Obj.mapSeq λx=>x.push y)) kp b4 RU (.inr (by show s2.heap.objs.size<=D;rw[Ey];exact YS _)) (λx c e=>cells x c e) (λp hp=>absurd hp (by simp [kG]))
    refine⟨m',hm,i+1,ys++ [z],σ7,H9,aW++ [y],c',Uh,T.keep _ _ _ b1 (λb hb o e=>kp b o (Y0 (lt b hb)) e),b2,q,b4,Ji.append (.cons r9 .nil),?_,w9⟩
    ·rw[Zf,List.length_singleton]
     omega
 exact codeAny_compStart_list (loop it _ rfl ⟨_,rfl⟩) (T.self _ 0 _ _ _ (T.keep _ _ _ uh (λb _ o e=>old b o e)) (loop it _ rfl ⟨_,rfl⟩))
theorem o9 {elt target iter:Expr} {ifs:List Expr} {scope:Scope} {pos:Pos} {g:TG} {tc:TT} {te:TE} {k:Nat} {fr:List Nat} {N':List Str} {cl:List (Str×Addr)} {pins:List (Addr×Obj)} {σ:St} {H2:Hp} {s2:Shared}
  {it:Addr} {fp:List Addr} {tn:Nat->Heap->Prop} {J:It} {E:Value->Shared->Prop} {fin:List V->Hp->Prop} {RR:Value->Addr->Result->Shared->Prop} {XE:List (Str×Addr)->Addr->Shared->Hp->List Addr->Value->Shared->Prop}
  (hc:X.calm=true) (S:d3 X.N X.env.scope N' scope k fr) (c1:∀x c,cl.lookup x=some c->X.env.cells.lookup x=some c) (c2:∀n,(n,NameKind.free)∈scope.names->∃c,cl.lookup n=some c) (cin:∀x c,(x,c)∈cl->∃y,X.env.cells.lookup y=some c) (Jh:∀x,(x,NameKind.cell)∈scope.names->∀c,(x,c)∉cl)
  (hg:∀cl C s H ex,PG (kG X N' scope cl C s H ex) target g) (ht:∀cl C s H ex,Ex (kG X N' scope cl C s H ex) ifs tc) (he:∀cl C s H ex,PE ((kG X N' scope cl C s H ex).jE (XE cl C s H ex)) elt te)
  (I2:Inv X pins σ H2 s2) (T:Turn X.prog X.w X.K target J fp it tn) (uh:tn 0 s2.heap) (f2:∀b∈fp,ij X pins H2 b) (hb:eN J g tc te (stC k fr σ) H2 fin)
  (hR:∀(C:Addr) (s':Shared) (m:Str->Option Value) (ys:List V) (aW:List Value) (n:Nat) (H':Hp),s2.heap.objs.size<C->s'.heap.Ns C m->bj ys aW->ys.length<=sizeLine->s'.heap.get? s2.heap.objs.size=some (d7 aW n)->H' s2.heap.objs.size=none->H' C=none->fin ys H'->
   s'.os=s2.os->AllBare s'.gens->Un (rA X.stack) fp H2 H' s2.heap s'.heap->gX X.prog X.w H' s'.heap->RR (.ref s2.heap.objs.size) C (.ok .next) s')
  (hE:∀cl C x s',s2.heap.objs.size<C->XE cl C s2 H2 fp x s'->notedBy (model X.prog X.w) X.A (compEnvC scope cl C X.env) (λy D4=>RR (.ref s2.heap.objs.size) C (.error y) D4) x s'):
  wpAny (model X.prog X.w) X.A (newList []) (λacc s₃=>wpAny (model X.prog X.w) X.A (newFunctionEnv scope X.env.globals cl [] X.env.qual none .none (some X.env)) (λGX s₄=>
   codeAny (model X.prog X.w) X.A (.compStart (.ListComp elt [⟨target,iter,ifs,0⟩] scope pos) 0 (.ref it) acc {GX with scope:=relabel scope X.env}) (RR acc GX.locals) s₄) E s₃) E s2:=by
 refine wpAny_newObj_type (ja ?_)
 exact yX (R0:=RR _ _) hc S c1 c2 cin Jh hg ht he I2 T uh f2 hb (λC e=>by subst e;exact hR _) (λcl C x s' e=>by subst e;exact hE cl _ x s')
theorem comp_back {fp:List Addr} {pins:List (Addr×Obj)} {σ:St} {H2 H':Hp} {s2 s':Shared} {C:Addr} {ys:List V} {aW:List Value} {n:Nat} {h':Heap} (I2:Inv X pins σ H2 s2) (f2:∀b∈fp,ij X pins H2 b) (hC:s2.heap.objs.size<C)
  (vl:bj ys aW) (sz:ys.length<=sizeLine) (hD:s'.heap.get? s2.heap.objs.size=some (d7 aW n)) (nD:H' s2.heap.objs.size=none) (nC:H' C=none)
  (os:s'.os=s2.os) (bare:AllBare s'.gens) (un:Un (rA X.stack) fp H2 H' s2.heap s'.heap) (bJ:gX X.prog X.w H' s'.heap) (hs:Heap.SameBut C s'.heap h'):
  Inv X pins σ (upd H' s2.heap.objs.size (.lst ys)) {s' with heap:=h'}:=by
 have Km:∀b o,s2.heap.get? b=some o->b≠C:=λb o e=>Y0 (Nat.lt_trans (Heap.lt_size e) hC)
 have Ui:∀b o,s2.heap.get? b=some o->b≠s2.heap.objs.size:=λb o e=>Y0 (Heap.lt_size e)
 have tk:∀b u,H' b=some u->b≠s2.heap.objs.size:=λb u e z=>by rw[z,nD] at e;cases e
 have tC:∀b u,H' b=some u->b≠C:=λb u e z=>by rw[z,nC] at e;cases e
 have fD:H2 s2.heap.objs.size=none:=I2.bJ.fresh (YS _)
 have t2:∀b u,H2 b=some u->b≠s2.heap.objs.size:=λb u e z=>by rw[z,fD] at e;cases e
 refine I2.Gp (s':={s' with heap:=h'}) (ch:=fp) os ⟨λb o e m hb hx=>?_,λb o e m hb hx=>?_,λb o e m hx=>?_,λb o e hx=>?_,λb xs e=>?_,λb o u e=>?_,λb ps e=>?_⟩ (λb u e=>?_) bare λb hb=>?_
 ·exact(hs.2 b (Km b o e)).trans (un.keep b o e m hb hx)
 ·obtain⟨sl,q⟩:=un.slot b o e m hb hx
  exact⟨sl,(hs.2 b (Km b o e)).trans q⟩
 ·rw[aE (Ui b o e)]
  exact un.free b o e m hx
 ·obtain⟨o',q⟩:=un.there b o e hx
  exact⟨o',(hs.2 b (Km b o e)).trans q⟩
 ·rw[aE (t2 b _ e)]
  exact un.kB b xs e
 ·rw[aE (t2 b _ e)]
  exact un.mi b o u e
 ·obtain⟨mo,q⟩:=un.ml b ps e
  exact⟨mo,by rw[aE (t2 b _ e)];exact q⟩
 ·by_cases hb:b=s2.heap.objs.size
  ·subst hb
   rw[ar] at e
   cases e
   exact⟨sz,aW,n,vl,(hs.2 _ (Y0 hC)).trans hD⟩
  ·rw[aE hb] at e
   exact(bJ b u e).oi (λc v hc q=>(hs.2 c (by
    rcases hc with rfl | hc
    ·exact tC _ _ e
    ·exact tC _ _ hc)).trans q) (λc r=>by rw[aE (tk _ _ r)];exact r) λc xs r=>by rw[aE (tk _ _ r)];exact r
 ·exact⟨(f2 b hb).2.2.2.1,(f2 b hb).2.1,(f2 b hb).2.2.2.2.1,(f2 b hb).2.2.2.2.2⟩
noncomputable def tComp (wi:TI) (g:TG) (tc:TT) (te:TE) (k:Nat) (fr:List Nat):TE:=λσ H Q=>wi σ H λJ H1=>eN J g tc te (stC k fr σ) H1 λys H2=>∀D,H1 D=none->H2 D=none->Q (.ref D) (upd H2 D (.lst ys))
theorem bP {elt target iter:Expr} {ifs:List Expr} {scope so:Scope} {pos:Pos} {wi:TI} {g:TG} {tc:TT} {te:TE} {k:Nat} {fr:List Nat} {N N':List Str} (hc:X.calm=true) (hN:X.N=N) (Kn:X.env.scope=so) (S:d3 N so N' scope k fr)
  (hi:PI X target iter wi) (hg:∀cl C s H ex,PG (kG X N' scope cl C s H ex) target g) (ht:∀cl C s H ex,Ex (kG X N' scope cl C s H ex) ifs tc) (he:∀cl C s H ex,PE (kG X N' scope cl C s H ex) elt te)
  (hs:∀x,foldedSetIterable iter X.env x=pure x:=by intro _;rfl):PE X (.ListComp elt [⟨target,iter,ifs,0⟩] scope pos) (tComp wi g tc te k fr):=by
 subst hN Kn
 intro pins s σ H Q I h
 rw[eval_ListComp]
 obtain⟨cl,BU,c1,c2,c3⟩:=eM (env:=X.env) (scope:=scope) λn hn=>I.ok.has n (S.outer _ hn rfl)
 refine wpAny_comprehension_free (use:=none) (cl:=cl) rfl hs BU S.kind S.locs ?_
 refine bU (hi pins s σ H _ I h) λv s1 h1=>bU h1 λCT s2 h2=>?_
 obtain⟨it,fp,tn,J,H2,rfl,I2,T,uh,f2,hb⟩:=h2
 refine o9 (RR:=λacc C=>compPost (model X.prog X.w) X.A X.xe none (EP X pins σ Q) acc C) hc S c1 c2 (λx c m=>⟨x,(c3 x c m).1⟩) (λx hx c m=>(S.Et _ hx rfl).2 (c3 x c m).2) (XE:=λ_ _ _ _ _ _ _=>False) hg ht he I2 T uh f2 hb ?_ (λ_ _ _ _ _ z=>False.elim z)
 intro C s' m ys aW n H' hC hn vl sz hD nD nC fin os bare un bJ
 exact⟨m,hn,λh' Ko=>⟨.ref _,_,comp_back I2 f2 hC vl sz hD nD nC os bare un bJ Ko,rfl,fin _ (I2.bJ.fresh (YS _)) nD⟩⟩
theorem fL {elt target iter:Expr} {ifs:List Expr} {scope so:Scope} {pos GY py:Pos} {wi:TI} {g:TG} {tc:TT} {te:TE} {k:Nat} {fr:List Nat} {N N':List Str} {y:Str} {i:Nat} (hc:X.calm=true) (hN:X.N.Nodup) (hy:X.N[i]?=some y) (hl:X.env.scope.names.lookup y=some .local)
  (Uj:X.N=N) (Kn:X.env.scope=so) (S:d3 N so N' scope k fr)
  (hi:PI X target iter wi) (hg:∀cl C s H ex,PG (kG X N' scope cl C s H ex) target g) (ht:∀cl C s H ex,Ex (kG X N' scope cl C s H ex) ifs tc) (he:∀cl C s H ex,PE (kG X N' scope cl C s H ex) elt te)
  (Kp:swapsWith (.ListComp elt [⟨target,iter,ifs,0⟩] scope pos) (some (.Name y py)) GY.line X.env=pure true:=by rfl)
  (hs:∀x,foldedSetIterable iter X.env x=pure x:=by intro _;rfl):PS X (.Assign [.Name y py] (.ListComp elt [⟨target,iter,ifs,0⟩] scope pos) GY) (tAsg (tComp wi g tc te k fr) (gName i)):=by
 subst Uj Kn
 intro pins s σ H D I h
 rw[exec_Assign_Name_used _ _ _ _ Kp]
 obtain⟨cl,BU,c1,c2,c3⟩:=eM (env:=X.env) (scope:=scope) λn hn=>I.ok.has n (S.outer _ hn rfl)
 refine wpAny_bind (wpAny_standAt (wpAny_bind ?_))
 show wpAny _ X.A (do let _ <-comprehension (.ListComp elt [⟨target,iter,ifs,0⟩] scope pos) scope X.env _ (newList []) false (eval iter X.env) (some (assign (.Name y py) X.env))) _ _ s
 refine wpAny_bind (wpAny_mono (wpAny_comprehension_free (use:=some (assign (.Name y py) X.env)) (Q:=λ_ s'=>SP X pins D .next s') (cl:=cl) rfl hs BU S.kind S.locs ?_) (λ_ s' hq=>wpAny_pure (wpAny_pure hq)) λ_ _ e=>e)
 refine bU (hi pins s σ H _ I h) λv s1 h1=>bU h1 λCT s2 h2=>?_
 obtain⟨it,fp,tn,J,H2,rfl,I2,T,uh,f2,hb⟩:=h2
 refine o9 (RR:=λacc C=>compPost (model X.prog X.w) X.A X.xe (some (assign (.Name y py) X.env)) (λ_ s'=>SP X pins D .next s') acc C) hc S c1 c2 (λx c m=>⟨x,(c3 x c m).1⟩) (λx hx c m=>(S.Et _ hx rfl).2 (c3 x c m).2) (XE:=λ_ _ _ _ _ _ _=>False) hg ht he I2 T uh f2 hb ?_ (λ_ _ _ _ _ z=>False.elim z)
 intro C s' m ys aW n H' hC hn vl sz hD nD nC fin os bare un bJ
 have I3:Inv X pins σ (upd H' s2.heap.objs.size (.lst ys)) s':=comp_back (h':=s'.heap) I2 f2 hC vl sz hD nD nC os bare un bJ (.refl ..)
 refine wpAny_assign_Name (oR (v:=.ref s2.heap.objs.size) I3 hN hy (.inl hl) rfl (λs4 I4 ch=>?_) (.inr hl))
 have R3:X.env.locals<s2.heap.objs.size:=I2.lt
 obtain⟨a,Uk,ha⟩:=ch
 have aC:a≠C:=by
  rcases ha with rfl | ha
  ·exact Y0 (Nat.lt_trans R3 hC)
  ·obtain⟨v,q⟩:=I2.cell _ _ ha
   exact Y0 (Nat.lt_trans q.lt hC)
 refine⟨m,hn.sameBut Uk (Ne.symm aC),λh' Ko=>⟨_,_,?_,fin _ (I2.bJ.fresh (YS _)) nD⟩⟩
 have Ul:(upd H' s2.heap.objs.size (.lst ys)) C=none:=by rw[aE (Nat.ne_of_gt hC)];exact nC
 exact I4.turned (t':=s4.toks) (it:=C) (h':=h') (λb o hb e=>(Ko.2 b hb).trans e) Ul (Nat.ne_of_gt (Nat.lt_trans R3 hC)) (.inr (Y2 I2.sz (Nat.le_of_lt hC))) (λx c e z=>by
  obtain⟨v,q⟩:=I2.cell x c e
  exact absurd (Nat.lt_trans q.lt hC) (by rw[z];exact Zj _)) (λp hp z=>by
  have:=Heap.lt_size (I2.pin p hp).1
  rw[z] at this
  exact absurd (Nat.lt_trans this hC) (Zj _))
end
structure Src (J:It) (Ok:Hp->Prop) (n:Nat) (Item:Nat->V->Hp->Hp->Prop):Prop where
 go:∀i H,i<n->Ok H->J.go i H
 t6:∀i H x H3,i<n->Ok H->J.t6 i H x H3->Item i x H H3
 stop:∀H,Ok H->J.stop n H
theorem src_list {K:PySem.W.Frag} {a:Addr} {xs:List V} {Ok:Hp->Prop} (h:∀H,Ok H->aZ K H a xs):Src (vB K a) Ok xs.length (λi x H H3=>H3=H/\xs[i]?=some x) where
 go:=λi H hi ok=>⟨xs,xs[i],h H ok,by simp [hi]⟩
 t6:=λi H x H3 hi ok ⟨e,y⟩=>⟨e,y xs (h H ok)⟩
 stop:=λH ok=>⟨xs,h H ok,YS _⟩
theorem src_range {lo:Int} {n:Nat} {Ok:Hp->Prop}:Src (Gs lo n) Ok n (λi x H H3=>H3=H/\x=.int (lo+i)) where
 go:=λ_ _ hi _=>hi
 t6:=λ_ _ _ _ _ _ y=>y
 stop:=λ_ _=>YS _
theorem gY {J:It} {g:TG} {tc:TT} {te:TE} {σ0:St} {H1:Hp} {fin:List V->Hp->Prop} {n:Nat} {Item:Nat->V->Hp->Hp->Prop} (S:Src J (az H1) n Item) (Ez:St->Prop) (h0:Ez σ0) (P:Nat->List V->Hp->Prop) (p0:P 0 [] H1) (hz:n<=sizeLine)
  (hs:∀i x σ H ys H3 (Q:St->V->Hp->Prop) (N:St->Hp->Prop),i<n->az H1 H->P i ys H->ys.length<=i->Ez σ->Item i x H H3->
   (∀σ3 y H6,Ez σ3->az H1 H6->P (i+1) (ys++ [y]) H6->Q σ3 y H6)->(∀σ3 H5,Ez σ3->az H1 H5->P (i+1) ys H5->N σ3 H5)->
   g x σ H3 λσ3 H4=>tc σ3 H4 λb H5=>if b=true then te σ3 H5 λy H6=>Q σ3 y H6 else N σ3 H5)
  (jN:∀ys H,az H1 H->P n ys H->ys.length<=n->fin ys H):eN J g tc te σ0 H1 fin:=by
 refine⟨λi m ys σ H=>m=n - i/\i<=n/\ys.length<=i/\Ez σ/\az H1 H/\P i ys H,⟨n,by simp,Y3 _,YS _,h0,az.refl _,p0⟩,?_⟩
 rintro i m ys σ H ⟨rfl,hi,hl,ow,sm,p⟩
 by_cases fG:i<n
 ·refine .inr ⟨S.go i H fG sm,λx H3 y=>hs i x σ H ys H3 (λσ3 y H6=>ys.length<sizeLine/\∃m',m'<n - i/\m'=n - (i+1)/\i+1<=n/\(ys++ [y]).length<=i+1/\Ez σ3/\az H1 H6/\P (i+1) (ys++ [y]) H6)
   (λσ3 H5=>∃m',m'<n - i/\m'=n - (i+1)/\i+1<=n/\ys.length<=i+1/\Ez σ3/\az H1 H5/\P (i+1) ys H5) fG sm p hl ow (S.t6 i H x H3 fG sm y) (λσ3 y H6 o s6 q=>?_) (λσ3 H5 o s5 q=>?_)⟩
  ·exact⟨by omega,n - (i+1),by omega,rfl,fG,by rw[Zf,List.length_singleton];omega,o,s6,q⟩
  ·exact⟨n - (i+1),by omega,rfl,fG,by omega,o,s5,q⟩
 ·have e:i=n:=by omega
  subst e
  exact .inl ⟨S.stop H sm,jN ys H sm p hl⟩
theorem comp_map {J:It} {te:TE} {tl:St} {H1:Hp} {fin:List V->Hp->Prop} {n:Nat} {Item:Nat->V->Hp->Hp->Prop} (S:Src J (az H1) n Item) (sub:∀i x H H3,Item i x H H3->az H H3) (hz:n<=sizeLine)
  (R:Nat->V->Hp->Prop) (mono:∀i y H H',az H H'->R i y H->R i y H')
  (hs:∀i x w H H3 (Q:VK),i<n->az H1 H->Item i x H H3->(∀y H6,az H3 H6->R i y H6->Q y H6)->te ((w::tl).set 0 (some x)) H3 Q)
  (jN:∀ys H,az H1 H->ys.length=n->(∀i y,ys[i]?=some y->R i y H)->fin ys H):eN J (gName 0) gm te (none::tl) H1 fin:=by
 refine⟨λi m ys σ H=>m=n - i/\i<=n/\ys.length=i/\(∃w,σ=w::tl)/\az H1 H/\∀j y,ys[j]?=some y->R j y H,⟨n,by simp,Y3 _,rfl,⟨_,rfl⟩,az.refl _,λj y e=>by simp at e⟩,?_⟩
 rintro i m ys σ H ⟨rfl,hi,hl,⟨w,rfl⟩,sm,p⟩
 by_cases fG:i<n
 ·refine .inr ⟨S.go i H fG sm,λx H3 y=>?_⟩
  have it:=S.t6 i H x H3 fG sm y
  have s3:=sub i x H H3 it
  unfold gName gm
  refine GQ ?_
  refine hs i x w H H3 _ fG sm it λy H6 s6 r=>⟨by omega,n - (i+1),by omega,rfl,fG,by rw[Zf,List.length_singleton];omega,⟨_,rfl⟩,sm.trans (s3.trans s6),λj z e=>?_⟩
  by_cases hj:j<i
  ·rw[Zw (by omega)] at e
   exact mono j z _ _ (s3.trans s6) (p j z e)
  ·rw[Zv (by omega)] at e
   have e2:j - ys.length=0:=by
    by_cases q:j - ys.length=0
    ·exact q
    ·rw[Y5 (by simp;omega)] at e;cases e
   rw[e2] at e
   simp at e
   subst e
   have:j=i:=by omega
   subst this
   exact r
 ·have e:i=n:=by omega
  subst e
  exact .inl ⟨S.stop H sm,jN ys H sm hl p⟩
noncomputable def C3 (J:It) (g:TG) (tb:TS) (D:Ends) (σ:St) (H:Hp):Prop:=
 ∃W:Nat->Nat->St->Hp->Prop,(∃m,W 0 m σ H)/\∀i m σ H,W i m σ H->
  (J.stop i H/\D.nx σ H)\/(J.go i H/\∃N:St->Hp->Prop,(∀σ' H',N σ' H'->∃m',m'<m/\W (i+1) m' σ' H')/\∀x H',J.t6 i H x H'->g x σ H' λσ2 H2=>tb {D with nx:=N,ct:=N,bk:=D.nx} σ2 H2)
theorem tFor_eq {wi:TI} {g:TG} {tb:TS} {D:Ends} {σ:St} {H:Hp}:Gu wi g tb D σ H=wi σ H λJ H1=>C3 J g tb D σ H1:=rfl
theorem bD {J:It} {g:TG} {tb:TS} {D:Ends} {σ:St} {H:Hp} {n:Nat} {Item:Nat->V->Hp->Hp->Prop} {Ok:Hp->Prop} (S:Src J Ok n Item) (Pv:Nat->St->Hp->Prop) (h0:Pv 0 σ H) (bJ:∀i σ H,i<=n->Pv i σ H->Ok H)
  (hs:∀i x σ H H3,i<n->Pv i σ H->Item i x H H3->g x σ H3 λσ2 H2=>tb {D with nx:=Pv (i+1),ct:=Pv (i+1),bk:=D.nx} σ2 H2) (hd:∀σ H,Pv n σ H->D.nx σ H):C3 J g tb D σ H:=by
 refine⟨λi m σ H=>m=n - i/\i<=n/\Pv i σ H,⟨n,by simp,Y3 _,h0⟩,?_⟩
 rintro i m σ H ⟨rfl,hi,p⟩
 by_cases fG:i<n
 ·exact .inr ⟨S.go i H fG (bJ i σ H hi p),Pv (i+1),λσ' H' p'=>⟨n - (i+1),by omega,rfl,fG,p'⟩,λx H' y=>hs i x σ H H' fG p (S.t6 i H x H' fG (bJ i σ H hi p) y)⟩
 ·have e:i=n:=by omega
  subst e
  exact .inl ⟨S.stop H (bJ i σ H hi p),hd σ H p⟩
theorem gZ {K:PySem.W.Frag} {J:It} {te:TE} {tl:St} {H1:Hp} {fin:List V->Hp->Prop} {n:Nat} {Item:Nat->V->Hp->Hp->Prop} (S:Src J (az H1) n Item) (GZ:Nat->V->V->Hp->Prop)
  (tp:∀i x H H3,i<n->az H1 H->Item i x H H3->az H H3/\∃p a b,x=.ref p/\eA K H3 p [a,b]/\GZ i a b H3) (hz:n<=sizeLine)
  (R:Nat->V->Hp->Prop) (mono:∀i y H H',az H H'->R i y H->R i y H')
  (hs:∀i a b H3 (Q:VK),i<n->az H1 H3->GZ i a b H3->(∀y H6,az H3 H6->R i y H6->Q y H6)->te (some a::some b::tl) H3 Q)
  (jN:∀ys H,az H1 H->ys.length=n->(∀(i:Nat) y,ys[i]?=some y->R i y H)->fin ys H):eN J (yt K 2 (gCons (gName 0) (gCons (gName 1) gNil))) gm te (none::none::tl) H1 fin:=by
 refine⟨λi m ys σ H=>m=n - i/\i<=n/\ys.length=i/\(∃w w',σ=w::w'::tl)/\az H1 H/\∀(j:Nat) y,ys[j]?=some y->R j y H,⟨n,by simp,Y3 _,rfl,⟨_,_,rfl⟩,az.refl _,λj y e=>by simp at e⟩,?_⟩
 rintro i m ys σ H ⟨rfl,hi,hl,⟨w,w',rfl⟩,sm,p⟩
 by_cases fG:i<n
 ·refine .inr ⟨S.go i H fG sm,λx H3 y=>?_⟩
  obtain⟨s3,q,a,b,rfl,sq,it⟩:=tp i x H H3 fG sm (S.t6 i H x H3 fG sm y)
  refine⟨q,_,rfl,sq,rfl,_,_,rfl,_,_,rfl,rfl,?_⟩
  unfold gm
  refine GQ ?_
  refine hs i a b H3 _ fG (sm.trans s3) it λy H6 s6 r=>⟨by omega,n - (i+1),by omega,rfl,fG,by rw[Zf,List.length_singleton];omega,⟨_,_,rfl⟩,sm.trans (s3.trans s6),λj z e=>?_⟩
  by_cases hj:j<i
  ·rw[Zw (by omega)] at e
   exact mono j z _ _ (s3.trans s6) (p j z e)
  ·rw[Zv (by omega)] at e
   have e2:j - ys.length=0:=by
    by_cases q:j - ys.length=0
    ·exact q
    ·rw[Y5 (by simp;omega)] at e;cases e
   rw[e2] at e
   simp at e
   subst e
   have:j=i:=by omega
   subst this
   exact r
 ·have e:i=n:=by omega
  subst e
  exact .inl ⟨S.stop H sm,jN ys H sm hl p⟩
end L2
namespace L2
open PySem PySem.Spec PyProof.Rows
section
variable {X : Cx} {pins : List (Addr × Obj)} {σ : St} {H : Hp} {s : Shared}
theorem Inv.moved {h':Heap} {t':Nat} {ch:List Addr} (I:Inv X pins σ H s) (f:∀b∈ch,ij X pins H b) (k:∀b o,b∉ch->s.heap.get? b=some o->h'.get? b=some o):Inv X pins σ H {s with heap:=h',toks:=t'}:=by
 have CN:∀b u,H b=some u->b∉ch:=λb u e z=>by rw[(f b z).1] at e;cases e
 refine I.step (g':=s.gens) (d':=s.drawn) (ch:=ch) (λb hb=>⟨(f b hb).2.2.2.1,(f b hb).2.1,(f b hb).2.2.2.2.1,(f b hb).2.2.2.2.2⟩) (λb o _ _ hc e _=>k b o hc e) (λb o _ _ hc e _=>⟨o.slots,k b o hc e⟩) (λ_ _ _ _ n=>n)
  (λb o hc e=>⟨o,k b o hc e⟩) (λ_ _ e=>e) (λ_ _ _ e=>e) (λb ps e=>⟨#[],by rw[e];simp⟩) (λm hm=>?_) (λb u e=>?_) I.bare
 ·obtain⟨o,es,ep,ho,r⟩:=hm
  exact⟨o,es,ep,k _ o (λz=>(f _ z).2.1 rfl) ho,r⟩
 ·refine(I.bJ b u e).oi (λc v hc q=>k c v ?_ q) (λ_ q=>q) λ_ _ q=>q
  rcases hc with z | z
  ·rw[z];exact CN b u e
  ·exact CN c _ z
theorem Inv.take {ad:Addr} {o:HO} (I:Inv X pins σ H s) (f:ij X pins H ad) (new:X.s₀.heap.objs.size<=ad) (ok:bY X.prog X.w (upd H ad o) s.heap ad o):Inv X pins σ (upd H ad o) s:=by
 obtain⟨hn,nL,nf,_,nc,np⟩:=f
 have tk:∀b u,H b=some u->b≠ad:=λb u e z=>by rw[z,hn] at e;cases e
 refine⟨I.ok,I.os,I.bare,⟨I.base.keep,I.base.slot,λb ob e m hx=>?_,I.base.there,λb xs e=>?_,λb ob u e=>?_,λb ps e=>?_⟩,I.loc,I.cell,?_,λx c e=>?_,λp hp=>?_,λb u e=>?_,I.len⟩
 ·rw[aE (Y0 (Y6 (Heap.lt_size e) new))]
  exact I.base.free b ob e m hx
 ·have q:=I.base.kB b xs e
  rw[aE (tk b _ q)];exact q
 ·have q:=I.base.mi b ob u e
  rw[aE (tk b _ q)];exact q
 ·obtain⟨mo,q⟩:=I.base.ml b ps e
  exact⟨mo,by rw[aE (tk b _ q)];exact q⟩
 ·rw[aE (Ne.symm nL)];exact I.free
 ·rw[aE (nc x c e)];exact I.gv x c e
 ·obtain⟨a,b,c⟩:=I.pin p hp
  exact⟨a,by rw[aE (np p hp)];exact b,c⟩
 ·by_cases hb:b=ad
  ·subst hb
   rw[ar] at e
   cases e
   exact ok
  ·rw[aE hb] at e
   exact(I.bJ b u e).oi (λ_ _ _ q=>q) (λc r=>by rw[aE (tk _ _ r)];exact r) λc xs r=>by rw[aE (tk _ _ r)];exact r
end
noncomputable def Kq (K:PySem.W.Frag) (a b:Addr):It:=
 ⟨λi H=>∃xs ys x y,aZ K H a xs/\aZ K H b ys/\xs[i]?=some x/\ys[i]?=some y,
  λi H v H'=>∃p,H p=none/\v=.ref p/\∃x y,(∀xs,aZ K H a xs->xs[i]?=some x)/\(∀ys,aZ K H b ys->ys[i]?=some y)/\H'=upd H p (.tup [x,y]),
  λi H=>∃xs ys,aZ K H a xs/\aZ K H b ys/\(i=min xs.length ys.length)⟩
theorem yY {P:Program} {w:World} {K:PySem.W.Frag} {elts:List Expr} {k:Nat} {pos:Pos} (z TI TO i1 i2 a b:Addr) (D:ZipApart z TI TO i1 i2 a b):
  Turn P w K (.Tuple elts k pos) (Kq K a b) [z,TI,TO,i1,i2] z (λi h=>IsZip h z TI TO .none/\IsPair h TI (.ref i1) (.ref i2)/\(∃x y,IsPair h TO x y)/\h.IsListIter i1 a i/\h.IsListIter i2 b i) where
 mem:=by simp
 obj:=λi h st c hc=>by
  obtain⟨hz,C4,⟨x,y,C5⟩,⟨o1,e1,_,d1⟩,⟨o2,e2,_,d2⟩⟩:=st
  simp only[List.mem_cons,List.not_mem_nil,or_false] at hc
  rcases hc with rfl | rfl | rfl | rfl | rfl
  ·exact⟨_,hz,λv q=>by cases q⟩
  ·exact⟨_,C4,λv q=>by cases q⟩
  ·exact⟨_,C5,λv q=>by cases q⟩
  ·exact⟨_,e1,λv q=>by rw[d1] at q;cases q⟩
  ·exact⟨_,e2,λv q=>by rw[d2] at q;cases q⟩
 keep:=λi h h' st kp=>by
  obtain⟨hz,C4,⟨x,y,C5⟩,h1,h2⟩:=st
  exact⟨kp z (by simp) _ hz,kp TI (by simp) _ C4,⟨x,y,kp TO (by simp) _ C5⟩,h1.at λo e=>kp i1 (by simp) o e,h2.at λo e=>kp i2 (by simp) o e⟩
 item:=by
  intro X hP hw hK hc i pins s σ H E I hf st hg
  subst hP hw hK
  obtain⟨xs,ys,x,y,BV,BW,hx,hy⟩:=hg
  obtain⟨fM,r1,p1,z1⟩:=I.list BV
  obtain⟨kE,r2,p2,z2⟩:=I.list BW
  obtain⟨u,eu,ru⟩:=r1.get hx
  obtain⟨v,ev,rv⟩:=r2.get hy
  obtain⟨hz,C4,⟨x0,y0,C5⟩,h1,h2⟩:=st
  have W:=WalksT.zip2 (prog:=X.prog) (w:=X.w) (I.ok.hd hc) z TI TO i1 i2 a b D fM.toArray kE.toArray
  have li:i<min fM.toArray.size kE.toArray.size:=by
   have a1:=(List.getElem?_eq_some_iff.mp eu).1
   have a2:=(List.getElem?_eq_some_iff.mp ev).1
   simp only[Y1]
   omega
  refine W.item i s _ _ li ⟨hz,C4,⟨x0,y0,C5⟩,h1,h2,p1.isList,p2.isList⟩ λT vals h' tk Kr hT hI hm kk=>?_
  have sub:∀c∈[z,TO,i1,i2],c∈[z,TI,TO,i1,i2]:=λc hc=>by simp at hc ⊢;rcases hc with rfl | rfl | rfl | rfl <;>simp
  have I1:Inv X pins σ H {s with heap:=h',toks:=tk}:=I.moved (ch:=[z,TO,i1,i2]) (λc hc=>hf c (sub c hc)) kk
  have fT:ij X pins H T:=I.rD hT (I.bJ.fresh hT)
  refine⟨_,rfl,W.go elts k pos i T _ _ _ hm λyZ uh G1=>?_⟩
  have I2:Inv X pins σ H {s with heap:=yZ,toks:=tk}:=I1.moved (s:={s with heap:=h',toks:=tk}) (t':=tk) (ch:=[z,TO,i1,i2]) (λc hc=>hf c (sub c hc)) G1
  obtain⟨x',y',ex,ey,rfl⟩:=Kr
  have FY:fM[i]?=some x':=by simpa using ex
  have G3:kE[i]?=some y':=by simpa using ey
  rw[eu] at FY;cases FY
  rw[ev] at G3;cases G3
  have Ks:=W.apart _ _ _ hm
  obtain⟨oT,eT,cT,nT,dT⟩:=hI
  have Kt:IsTup yZ T #[u,v]:=⟨oT,G1 _ _ Ks eT,cT,nT,dT⟩
  have I3:Inv X pins σ (upd H T (.tup [x,y])) {s with heap:=yZ,toks:=tk}:=
   I2.take fT (Y2 I.sz hT) ⟨by show 2<=sizeLine;decide,[u,v],.cons ru (.cons rv .nil),Kt⟩
  obtain⟨b1,b2,b3,b4,b5,_,_⟩:=uh
  refine⟨.ref T,_,I3,rfl,⟨T,fT.1,rfl,x,y,λuH q=>?_,λKu q=>?_,rfl⟩,⟨b1,b2,b3,b4,b5⟩,λc hc=>?_⟩
  ·rw[I.gA q BV];exact hx
  ·rw[I.gA q BW];exact hy
  ·rw[aE (λq=>?_)]
   ·exact(hf c hc).1
   ·subst q
    obtain⟨o,e,_⟩:∃o,s.heap.get? c=some o/\True:=by
     simp only[List.mem_cons,List.not_mem_nil,or_false] at hc
     obtain⟨o1,e1,_⟩:=h1
     obtain⟨o2,e2,_⟩:=h2
     rcases hc with rfl | rfl | rfl | rfl | rfl
     ·exact⟨_,hz,trivial⟩
     ·exact⟨_,C4,trivial⟩
     ·exact⟨_,C5,trivial⟩
     ·exact⟨_,e1,trivial⟩
     ·exact⟨_,e2,trivial⟩
    exact absurd (Heap.lt_size e) (Nat.not_lt.mpr hT)
 done:=by
  intro X hP hw hK hc i pins s σ H E I hf st hg
  subst hP hw hK
  obtain⟨xs,ys,BV,BW,hi⟩:=hg
  obtain⟨fM,r1,p1,z1⟩:=I.list BV
  obtain⟨kE,r2,p2,z2⟩:=I.list BW
  obtain⟨hz,C4,C5,h1,h2⟩:=st
  have W:=WalksT.zip2 (prog:=X.prog) (w:=X.w) (I.ok.hd hc) z TI TO i1 i2 a b D fM.toArray kE.toArray
  have l1:=r1.length
  have l2:=r2.length
  have e:i=min fM.toArray.size kE.toArray.size:=by simp only[Y1];omega
  subst e
  have sub:∀c∈[z,TO,i1,i2],c∈[z,TI,TO,i1,i2]:=λc hc=>by simp at hc ⊢;rcases hc with rfl | rfl | rfl | rfl <;>simp
  exact W.done s _ _ ⟨hz,C4,C5,h1,h2,p1.isList,p2.isList⟩ λh' tk kk=>⟨rfl,I.moved (ch:=[z,TO,i1,i2]) (λc hc=>hf c (sub c hc)) kk⟩
 self:=λ_ _ _ _ _ st h=>wpAny_pyIter_zip st.1 h
noncomputable def G4 (K:PySem.W.Frag) (a:Addr):It:=
 ⟨λi H=>∃xs x,aZ K H a xs/\xs[i]?=some x,
  λi H v H'=>∃p,H p=none/\v=.ref p/\∃x,(∀xs,aZ K H a xs->xs[i]?=some x)/\H'=upd H p (.tup [.int i,x]),
  λi H=>∃xs,aZ K H a xs/\xs.length=i⟩
theorem xG {P:Program} {w:World} {K:PySem.W.Frag} {elts:List Expr} {k:Nat} {pos:Pos} (e it a:Addr) (Jj:e≠it) (hle:a≠e) (R4:a≠it):
  Turn P w K (.Tuple elts k pos) (G4 K a) [e,it] e (λi h=>(∃old,IsEnum h e it i old)/\h.IsListIter it a i) where
 mem:=by simp
 obj:=λi h st c hc=>by
  obtain⟨⟨old,he⟩,⟨o1,e1,_,d1⟩⟩:=st
  simp only[List.mem_cons,List.not_mem_nil,or_false] at hc
  rcases hc with rfl | rfl
  ·exact⟨_,he,λv q=>by cases q⟩
  ·exact⟨_,e1,λv q=>by rw[d1] at q;cases q⟩
 keep:=λi h h' st kp=>by
  obtain⟨⟨old,he⟩,h1⟩:=st
  exact⟨⟨old,kp e (by simp) _ he⟩,h1.at λo q=>kp it (by simp) o q⟩
 item:=by
  intro X hP hw hK hc i pins s σ H E I hf st hg
  subst hP hw hK
  obtain⟨xs,x,BV,hx⟩:=hg
  obtain⟨fM,r1,p1,z1⟩:=I.list BV
  obtain⟨u,eu,ru⟩:=r1.get hx
  obtain⟨he,h1⟩:=st
  have W:=WalksT.enumerate (prog:=X.prog) (w:=X.w) (I.ok.hd hc) e it a Jj hle R4 fM.toArray
  have li:i<fM.toArray.size:=by
   have a1:=(List.getElem?_eq_some_iff.mp eu).1
   simp only[Y1]
   omega
  refine W.item i s _ _ li ⟨he,h1,p1.isList⟩ λT vals h' tk Kr hT hI hm kk=>?_
  have I1:Inv X pins σ H {s with heap:=h',toks:=tk}:=I.moved (ch:=[e,it]) hf kk
  have fT:ij X pins H T:=I.rD hT (I.bJ.fresh hT)
  refine⟨_,rfl,W.go elts k pos i T _ _ _ hm λyZ uh G1=>?_⟩
  have I2:Inv X pins σ H {s with heap:=yZ,toks:=tk}:=I1.moved (s:={s with heap:=h',toks:=tk}) (t':=tk) (ch:=[e,it]) hf G1
  obtain⟨t,x',ex,rfl⟩:=Kr
  have FY:fM[i]?=some x':=by simpa using ex
  rw[eu] at FY;cases FY
  have Ks:=W.apart _ _ _ hm
  obtain⟨oT,eT,cT,nT,dT⟩:=hI
  have Kt:IsTup yZ T #[.int i t,u]:=⟨oT,G1 _ _ Ks eT,cT,nT,dT⟩
  have I3:Inv X pins σ (upd H T (.tup [.int i,x])) {s with heap:=yZ,toks:=tk}:=
   I2.take fT (Y2 I.sz hT) ⟨by show 2<=sizeLine;decide,[.int i t,u],.cons ⟨t,rfl⟩ (.cons ru .nil),Kt⟩
  obtain⟨b1,b2,_⟩:=uh
  refine⟨.ref T,_,I3,rfl,⟨T,fT.1,rfl,x,λuH q=>?_,rfl⟩,⟨b1,b2⟩,λc hc=>?_⟩
  ·rw[I.gA q BV];exact hx
  ·rw[aE (λq=>?_)]
   ·exact(hf c hc).1
   ·subst q
    obtain⟨o,e,_⟩:∃o,s.heap.get? c=some o/\True:=by
     simp only[List.mem_cons,List.not_mem_nil,or_false] at hc
     obtain⟨old,he⟩:=he
     obtain⟨o1,e1,_⟩:=h1
     rcases hc with rfl | rfl
     ·exact⟨_,he,trivial⟩
     ·exact⟨_,e1,trivial⟩
    exact absurd (Heap.lt_size e) (Nat.not_lt.mpr hT)
 done:=by
  intro X hP hw hK hc i pins s σ H E I hf st hg
  subst hP hw hK
  obtain⟨xs,BV,hi⟩:=hg
  obtain⟨fM,r1,p1,z1⟩:=I.list BV
  obtain⟨he,h1⟩:=st
  have W:=WalksT.enumerate (prog:=X.prog) (w:=X.w) (I.ok.hd hc) e it a Jj hle R4 fM.toArray
  have l1:=r1.length
  have e:i=fM.toArray.size:=by simp only[Y1];omega
  subst e
  exact W.done s _ _ ⟨he,h1,p1.isList⟩ λh' tk kk=>⟨rfl,I.moved (ch:=[_,it]) hf kk⟩
 self:=λ_ _ _ _ _ st h=>by
  obtain⟨⟨old,he⟩,_⟩:=st
  exact wpAny_pyIter_enum he h
section
variable {X : Cx} {elts : List Expr} {kk : Nat} {mw : Pos}
noncomputable def iZip (K:PySem.W.Frag) (ta:TA):TI:=λσ H R=>ta σ H λvs H1=>∃a b,vs=[.ref a,.ref b]/\(∃xs,aZ K H1 a xs)/\(∃ys,aZ K H1 b ys)/\R (Kq K a b) H1
theorem EA {a b:Expr} {ta:TA} {p pos:Pos} (hg:Gl X "zip") (hm:X.mg "zip"=none) (ha:PA X [a,b] ta) (hs:starEach [a,b] X.env=[(false,eval a X.env),(false,eval b X.env)]:=by rfl) (CU:starEach [b] X.env=[(false,eval b X.env)]:=by rfl):
  PI X (.Tuple elts kk mw) (.Call (.Name "zip" p) [a,b] [] pos) (iZip X.K ta):=by
 intro pins s σ H R I h
 refine Call_ (fC I hg hm rfl (Z5 (bU (ha pos pins s σ H _ I h) λus s1 cI=>?_) (by rw[hs,CU]) (by rw[CU];rfl)))
 obtain⟨vs,H1,I1,r1,q1⟩:=cI
 obtain⟨a,b,e,⟨xs,q1⟩,⟨ys,q2⟩,q⟩:=q1
 subst e
 obtain⟨u,u',rfl,ra,rb⟩:=vals2 r1
 cases ra
 cases rb
 obtain⟨fM,v1,p1,z1⟩:=I1.list q1
 obtain⟨kE,v2,p2,z2⟩:=I1.list q2
 refine call_zip_2 p1.isList p2.isList λh' b1 b2 b3 b4 b5 b6 kp=>?_
 refine wpAny_pyIter_zip b1 ?_
 have I2:Inv X pins σ H1 {s1 with heap:=h'}:=I1.kept (t':=s1.toks) kp
 have la:a<s1.heap.objs.size:=by obtain⟨o,e,_⟩:=p1.isList;exact Heap.lt_size e
 have lb:b<s1.heap.objs.size:=by obtain⟨o,e,_⟩:=p2.isList;exact Heap.lt_size e
 refine⟨s1.heap.objs.size+4,[s1.heap.objs.size+4,s1.heap.objs.size+2,s1.heap.objs.size+3,s1.heap.objs.size,s1.heap.objs.size+1],_,_,H1,rfl,I2,
  yY (s1.heap.objs.size+4) (s1.heap.objs.size+2) (s1.heap.objs.size+3) s1.heap.objs.size (s1.heap.objs.size+1) a b (by constructor <;>(first | exact Y0 (by omega) | exact Nat.ne_of_gt (by omega) | exact Y0 la | exact Y0 lb | exact Y0 (Y6 la (Nat.le_add_right _ _)) | exact Y0 (Y6 lb (Nat.le_add_right _ _)))),⟨b1,b2,⟨_,_,b3⟩,b4,b5⟩,λc hc=>?_,q⟩
 have y2:s1.heap.objs.size<=c:=by
  simp only[List.mem_cons,List.not_mem_nil,or_false] at hc
  rcases hc with rfl | rfl | rfl | rfl | rfl <;>omega
 exact I1.rD y2 (I1.bJ.fresh y2)
noncomputable def iEnum (K:PySem.W.Frag) (ta:TA):TI:=λσ H R=>ta σ H λvs H1=>∃a,vs=[.ref a]/\(∃xs,aZ K H1 a xs)/\R (G4 K a) H1
theorem qe {a:Expr} {ta:TA} {p pos:Pos} (hg:Gl X "enumerate") (hm:X.mg "enumerate"=none) (ha:PA X [a] ta) (hs:starEach [a] X.env=[(false,eval a X.env)]:=by rfl):
  PI X (.Tuple elts kk mw) (.Call (.Name "enumerate" p) [a] [] pos) (iEnum X.K ta):=by
 intro pins s σ H R I h
 refine Call_ (fC I hg hm rfl (Z5 (bU (ha pos pins s σ H _ I h) λus s1 cI=>?_) hs rfl))
 obtain⟨vs,H1,I1,r1,q1⟩:=cI
 obtain⟨a,e,⟨xs,q1⟩,q⟩:=q1
 subst e
 obtain⟨u,rfl,ra⟩:=vals1 r1
 cases ra
 obtain⟨fM,v1,p1,z1⟩:=I1.list q1
 refine call_enumerate_list p1.isList λh' b1 b2 b3 kp=>?_
 refine wpAny_pyIter_enum b1 ?_
 have I2:Inv X pins σ H1 {s1 with heap:=h'}:=I1.kept (t':=s1.toks) kp
 have la:a<s1.heap.objs.size:=by obtain⟨o,e,_⟩:=p1.isList;exact Heap.lt_size e
 refine⟨s1.heap.objs.size+1,[s1.heap.objs.size+1,s1.heap.objs.size],_,_,H1,rfl,I2,
  xG (s1.heap.objs.size+1) s1.heap.objs.size a (Nat.ne_of_gt (Zl _)) (Y0 (ZY la)) (Y0 la),⟨⟨_,b1⟩,b2⟩,λc hc=>?_,q⟩
 have y2:s1.heap.objs.size<=c:=by
  simp only[List.mem_cons,List.not_mem_nil,or_false] at hc
  rcases hc with rfl | rfl <;>omega
 exact I1.rD y2 (I1.bJ.fresh y2)
end
theorem jb {K:PySem.W.Frag} {a b:Addr} {xs ys:List V} {Ok:Hp->Prop} (h1:∀H,Ok H->aZ K H a xs) (h2:∀H,Ok H->aZ K H b ys):
  Src (Kq K a b) Ok (min xs.length ys.length) (λi v H H3=>∃p x y,H p=none/\v=.ref p/\xs[i]?=some x/\ys[i]?=some y/\H3=upd H p (.tup [x,y])) where
 go:=λi H hi ok=>⟨xs,ys,xs[i]'(by omega),ys[i]'(by omega),h1 H ok,h2 H ok,by simp,by simp⟩
 t6:=λi H x H3 hi ok ⟨p,n,e,u,v,e1,e2,e3⟩=>⟨p,u,v,n,e,e1 xs (h1 H ok),e2 ys (h2 H ok),e3⟩
 stop:=λH ok=>⟨xs,ys,h1 H ok,h2 H ok,rfl⟩
theorem eX {K:PySem.W.Frag} {a:Addr} {xs:List V} {Ok:Hp->Prop} (h1:∀H,Ok H->aZ K H a xs):
  Src (G4 K a) Ok xs.length (λi v H H3=>∃p x,H p=none/\v=.ref p/\xs[i]?=some x/\H3=upd H p (.tup [.int i,x])) where
 go:=λi H hi ok=>⟨xs,xs[i],h1 H ok,by simp [hi]⟩
 t6:=λi H x H3 hi ok ⟨p,n,e,u,e1,e3⟩=>⟨p,u,n,e,e1 xs (h1 H ok),e3⟩
 stop:=λH ok=>⟨xs,h1 H ok,rfl⟩
end L2
namespace L2
open PySem PySem.Spec PyProof.Rows
inductive Dat where
 | cu | bl (b:Bool) | int (i:Int) | str (x:Str) | tup (l:List Dat) | lst (l:List Dat)
mutual
noncomputable def Rep (H:Hp):Dat->V->Prop
 | .cu,v=>v=.cu
 | .bl b,v=>v=.bl b
 | .int i,v=>v=.int i
 | .str x,v=>v=.str x
 | .tup ds,v=>∃p vs,v=.ref p/\H p=some (.tup vs)/\bu H ds vs
 | .lst ds,v=>∃p vs,v=.ref p/\H p=some (.lst vs)/\bu H ds vs
noncomputable def bu (H:Hp):List Dat->List V->Prop
 | [],vs=>vs=[]
 | d::ds,vs=>∃v r,vs=v::r/\Rep H d v/\bu H ds r
end
mutual
theorem Rep.mono {H H':Hp} (s:az H H'):∀{d:Dat} {v:V},Rep H d v->Rep H' d v
 | .cu,_,h=>by rw[Rep] at *;exact h
 | .bl _,_,h=>by rw[Rep] at *;exact h
 | .int _,_,h=>by rw[Rep] at *;exact h
 | .str _,_,h=>by rw[Rep] at *;exact h
 | .tup _,_,h=>by
  rw[Rep] at *
  obtain⟨p,vs,e,hp,r⟩:=h
  exact⟨p,vs,e,s _ _ hp,bu.mono s r⟩
 | .lst _,_,h=>by
  rw[Rep] at *
  obtain⟨p,vs,e,hp,r⟩:=h
  exact⟨p,vs,e,s _ _ hp,bu.mono s r⟩
theorem bu.mono {H H':Hp} (s:az H H'):∀{ds:List Dat} {vs:List V},bu H ds vs->bu H' ds vs
 | [],_,h=>by rw[bu] at *;exact h
 | _::_,_,h=>by
  rw[bu] at *
  obtain⟨v,r,e,h1,h2⟩:=h
  exact⟨v,r,e,Rep.mono s h1,bu.mono s h2⟩
end
theorem bu.length {H:Hp}:∀{ds:List Dat} {vs:List V},bu H ds vs->ds.length=vs.length
 | [],_,h=>by rw[bu] at h;subst h;rfl
 | _::_,_,h=>by
  rw[bu] at h
  obtain⟨v,r,rfl,_,h2⟩:=h
  simp [h2.length]
theorem bu.get {H:Hp}:∀{ds:List Dat} {vs:List V} {i:Nat} {v:V},bu H ds vs->vs[i]?=some v->∃d,ds[i]?=some d/\Rep H d v
 | [],_,i,v,h,e=>by rw[bu] at h;subst h;simp at e
 | d::ds,_,i,v,h,e=>by
  rw[bu] at h
  obtain⟨v',r,rfl,h1,h2⟩:=h
  cases i with
  | zero=>simp at e;subst e;exact⟨d,rfl,h1⟩
  | succ i=>simp at e;obtain⟨d',e',r'⟩:=h2.get e;exact⟨d',by simpa using e',r'⟩
theorem bu.at {H:Hp}:∀{ds:List Dat} {vs:List V} {i:Nat} {d:Dat},bu H ds vs->ds[i]?=some d->∃v,vs[i]?=some v/\Rep H d v
 | [],_,i,v,h,e=>by simp at e
 | d::ds,_,i,d',h,e=>by
  rw[bu] at h
  obtain⟨v',r,rfl,h1,h2⟩:=h
  cases i with
  | zero=>simp at e;subst e;exact⟨v',rfl,h1⟩
  | succ i=>simp at e;obtain⟨v,e',r'⟩:=h2.at e;exact⟨v,by simpa using e',r'⟩
theorem bu.of {H:Hp}:∀{ds:List Dat} {vs:List V},ds.length=vs.length->(∀(i:Nat) d v,ds[i]?=some d->vs[i]?=some v->Rep H d v)->bu H ds vs
 | [],[],_,_=>by rw[bu]
 | [],_::_,h,_=>by simp at h
 | _::_,[],h,_=>by simp at h
 | d::ds,v::vs,h,k=>by
  rw[bu]
  exact⟨v,vs,rfl,k 0 d v rfl rfl,bu.of (by simpa using h) λi d' v' e1 e2=>k (i+1) d' v' (by simpa using e1) (by simpa using e2)⟩
theorem bu.append {H:Hp}:∀{as bs:List Dat} {us vs:List V},bu H as us->bu H bs vs->bu H (as++bs) (us++vs)
 | [],_,_,_,h,k=>by rw[bu] at h;subst h;exact k
 | _::_,_,_,_,h,k=>by
  rw[bu] at h
  obtain⟨v,r,rfl,h1,h2⟩:=h
  show bu H (_::(_++_)) (_::(_++_))
  rw[bu]
  exact⟨_,_,rfl,h1,h2.append k⟩
noncomputable def depth:Dat->Nat
 | .tup l=>1+dL l
 | .lst l=>1+dL l
 | _=>0
where dL:List Dat->Nat
 | []=>0
 | d::ds=>max (depth d) (dL ds)
section
variable {X : Cx} {pins : List (Addr × Obj)} {σ : St} {H : Hp} {s : Shared}
end
section
variable {X : Cx}
noncomputable def rNeT:R2:=λx y H Q=>∃p q xs ys,x=.ref p/\y=.ref q/\H p=some (.tup xs)/\H q=some (.tup ys)/\xs.all dD=true/\ys.all dD=true/\Q (.bl (!GR xs ys)) H
theorem xH (hu:X.A.units<cLine):jF X (compareOp .NotEq) rNeT:=by
 intro pins s σ H x y v u Q I rx ry h
 obtain⟨p,q,xs,ys,rfl,rfl,hp,hq,fx,fy,k⟩:=h
 cases rx
 cases ry
 obtain⟨aW,r,pl,hz⟩:=I.tuple (eA.of hp)
 obtain⟨kE,r2,Kf,T1⟩:=I.tuple (eA.of hq)
 have l1:=r.length
 have l2:=r2.length
 refine SeqAt.RcNeAt.tuples (A:=X.A) (e:=λj=>vL (xs.getD j .cu) (ys.getD j .cu)) pl Kf hu (λj h1 h2=>?_) X.prog X.w X.xe _ ⟨.bl _,H,I,rfl,?_⟩
 ·rw[Y1] at h1 h2
  exact uA (qb r h1) (qb r2 h2) (lJ fx (by omega)) (lJ fy (by omega))
 ·rw[Y1,Y1,<-l1,<-l2]
  exact k
end
end L2
namespace Nm
noncomputable def ins (x:Int):List Int->List Int
 | []=>[x]
 | y::r=>if x<=y then x::y::r else y::ins x r
noncomputable def lM:List Int->List Int
 | []=>[]
 | x::r=>ins x (lM r)
theorem mO (x:Int):∀l,(ins x l).Perm (x::l)
 | []=>.refl _
 | y::r=>by
  unfold ins
  split
  ·exact .refl _
  ·exact((mO x r).cons y).trans (.swap ..)
theorem eY:∀l,(lM l).Perm l
 | []=>.refl _
 | x::r=>(mO x _).trans ((eY r).cons x)
set_option tactic.hygienic true in
theorem vQ (x:Int):∀l:List Int,l.Pairwise (·<=·)->(ins x l).Pairwise (·<=·)
 | [],_=>by unfold ins;simp
 | y::r,h=>by
  unfold ins
  rw[List.pairwise_cons] at h
  split
  ·rename_i c
   rw[List.pairwise_cons,List.pairwise_cons]
   refine⟨λz hz=>?_,h.1,h.2⟩
   rcases List.mem_cons.mp hz with rfl | hz
   ·exact c
   ·have:=h.1 z hz;omega
  ·rename_i c
   rw[List.pairwise_cons]
   refine⟨λz hz=>?_,vQ x r h.2⟩
   rcases List.mem_cons.mp ((mO x r).mem_iff.mp hz) with rfl | hz
   ·omega
   ·exact h.1 z hz
theorem qg:∀l:List Int,(lM l).Pairwise (·<=·)
 | []=>by unfold lM;simp
 | x::r=>vQ x _ (qg r)
theorem mP (l:List Int):(lM l).length=l.length:=(eY l).length_eq
theorem vR:∀{a b:List Int},a.Perm b->a.Pairwise (·<=·)->b.Pairwise (·<=·)->a=b
 | [],b,p,_,_=>by simpa using p.symm.eq_nil
 | x::a,[],p,_,_=>by simpa using p.eq_nil
 | x::a,y::b,p,ha,hb=>by
  rw[List.pairwise_cons] at ha hb
  have e:x=y:=by
   have h1:y∈x::a:=p.mem_iff.mpr YV
   have h2:x∈y::b:=p.mem_iff.mp YV
   rcases List.mem_cons.mp h1 with h1 | h1
   ·exact h1.symm
   ·rcases List.mem_cons.mp h2 with h2 | h2
    ·exact h2
    ·have:=ha.1 y h1
     have:=hb.1 x h2
     omega
  subst e
  rw[vR ((List.perm_cons x).mp p) ha.2 hb.2]
theorem lN {a b:List Int} (p:a.Perm b) (o:a.Pairwise (·<=·)):a=lM b:=vR (p.trans (eY b).symm) o (qg b)
theorem uI {a:List Int} (o:a.Pairwise (·<=·)):lM a=a:=(lN (.refl _) o).symm
theorem vS {a:Int} {l:List Int}:a∈lM l↔a∈l:=(eY l).mem_iff
theorem EB {l:List Int} (h:l.Nodup):(lM l).Pairwise (·<·):=by
 have n:(lM l).Nodup:=(eY l).nodup_iff.mpr h
 have o:=qg l
 exact(List.pairwise_and_iff.mpr ⟨o,n⟩).imp λ{a b} ⟨x,y⟩=>by omega
end Nm
namespace L2
open PySem PySem.Spec PyProof.Rows PySem.W
section
variable {X : Cx}
theorem uJ {us:List Value} {ns:List Int} (h:IntsAre us ns):∃xs,us.toArray=intItems xs/\preSum (numAt xs) xs.size=ns.sum:=by
 obtain⟨xs,hx⟩:=h.allInts.items
 refine⟨xs,hx,?_⟩
 have e1:ns=xs.toList.map (·.1):=by
  rw[<-nums_intItems,<-hx]
  exact h.numsOf.symm
 rw[preSum_eq,Zi (by simp),e1]
theorem uK (hc:X.calm=true):cF X (.builtin "sum") (λxs H Q=>∃p ns,xs=[.ref p]/\aZ X.K H p (List.map V.int ns)/\Q (.int ns.sum) H):=by
 intro pins s σ H xs us Q I r h
 obtain⟨p,ns,rfl,hq,q⟩:=h
 obtain⟨u,rfl,rx⟩:=vals1 r
 cases rx
 obtain⟨aW,rv,pl,hz⟩:=I.list hq
 obtain⟨ys,e1,e2⟩:=uJ (intsAre_of rv)
 have hl:=pl.isList
 rw[e1] at hl
 refine sum_intListG (I.ok.hd hc) hl λh' tk t' hk=>⟨.int ns.sum,H,I.kept (t':=tk) hk,⟨t',?_⟩,q⟩
 rw[e2]
theorem qh {us:List Value} {ns:List Int} (h:IntsAre us ns):bj (ns.map V.int) us:=by
 induction h with
 | nil=>exact .nil
 | cons n t _ ih=>exact .cons ⟨t,rfl⟩ ih
noncomputable def gF (kvs:List (Key×V)):List Int:=kvs.map λp=>match p.1 with | .inl i=>i | .inr _=>0
noncomputable def allI (kvs:List (Key×V)):Prop:=∀p∈kvs,∃i,p.1=Sum.inl i
theorem oA (hc:X.calm=true):cF X (.builtin "sorted") (λxs H Q=>∃d kvs,xs=[.ref d]/\Rd H d (.dK kvs)/\allI kvs/\kvs.length<64/\∀l,H l=none->Q (.ref l) (upd H l (.lst (List.map V.int (Nm.lM (gF kvs)))))):=by
 intro pins s σ H xs us Q I r h
 obtain⟨d,kvs,rfl,hd,Ee,hn,q⟩:=h
 obtain⟨u,rfl,rx⟩:=vals1 r
 cases rx
 obtain⟨hz,lo,vs,kv,dd⟩:=o5 I.bJ hd
 have hlen:kvs.length=vs.length:=Paired.length kv
 obtain⟨ep,F4⟩:=dd.dictAt
 refine Calls.call_function_entry kind_sorted plain_sorted entry_sorted (args_sorted1 _) ?_
 unfold Builtin.«sorted»
 refine wpAny_bind (m:=checkCount "sorted" 1 1 _) (wpAny_pure ?_)
 refine wpAny_bind (kdu_collect (A:=X.A.in1) (kdl_dict (kvs:=vs) (ep:=ep) lo) (I.ok.hd hc) F4 (by rw[<-hlen,sizeLine_eq];omega) λh' tk acc hk BS=>?_)
 have hl:acc.toList.length=vs.length:=by rw[Array.length_toList];exact BS.1
 have hI:IntsAre acc.toList (gF kvs):=by
  have all:∀(j:Nat) v,acc.toList[j]?=some v->∃i t,v=Value.int i t/\(gF kvs)[j]?=some i:=λj v e=>by
   obtain⟨k,x,hx,hk⟩:=BS.2 j v (by rw[<-Array.getElem?_toList];exact e)
   obtain⟨p,e1,e2⟩:∃p,kvs[j]?=some p/\p.1=k:=by
    have:∀{as:List (Key×V)} {bs:List (Key×Value)} (j:Nat) {b},KV as bs->bs[j]?=some b->∃a,as[j]?=some a/\a.1=b.1:=by
     intro as bs j b r
     induction r generalizing j with
     | nil=>intro e;simp at e
     | cons r1 r2 ih=>
      intro e
      cases j with
      | zero=>simp at e;subst e;exact⟨_,rfl,r1.1⟩
      | succ j=>simp at e;obtain⟨a,e1,e2⟩:=ih j e;exact⟨a,by simpa using e1,e2⟩
    obtain⟨a,e1,e2⟩:=this j kv hx
    exact⟨a,e1,e2⟩
   obtain⟨i,hi⟩:=Ee p (YU e1)
   rw[<-e2,hi] at hk
   have hk:mh (.inl i) v=true:=hk
   rcases bQ hk with ⟨i',t,e3,e4⟩ | ⟨x',t,e3,_⟩
   ·cases e3
    refine⟨i,t,e4,?_⟩
    unfold gF
    rw[YT,e1]
    simp [hi]
   ·cases e3
  have go:∀(us:List Value) (ns:List Int),us.length=ns.length->(∀(j:Nat) v,us[j]?=some v->∃i t,v=Value.int i t/\ns[j]?=some i)->IntsAre us ns:=by
   intro us
   induction us with
   | nil=>intro ns hl _;cases ns with | nil=>exact .nil | cons _ _=>simp at hl
   | cons u us ih=>
    intro ns hl k
    cases ns with
    | nil=>simp at hl
    | cons n ns=>
     obtain⟨i,t,rfl,e⟩:=k 0 u rfl
     simp at e
     subst e
     exact .cons n t (ih ns (by simpa using hl) λj v e=>by
      obtain⟨i,t,e1,e2⟩:=k (j+1) v (by simpa using e)
      exact⟨i,t,e1,by simpa using e2⟩)
  refine go _ _ ?_ all
  unfold gF
  rw[YO,hl,hlen]
 refine wpAny_bind (wpAny_newList ?_ (by rw[hl,<-hlen,sizeLine_eq];omega))
 have CQ:(h'.push (seqObj "list" acc.toList.toArray 0)).get? h'.objs.size=some (seqObj "list" acc.toList.toArray 0):=Heap.get?_push_size _ rfl
 have I1:Inv X pins σ H {s with heap:=h',toks:=tk}:=I.kept (t':=tk) hk
 refine wpAny_bind (wpAny_holding (wpAny_call_entry slot_list_sort ⟨_,CQ,rfl⟩ entry_list_sort (list_sort_tree CQ hI (by omega) λout X6 a1 a2 a3=>⟨_,rfl,?_⟩) (args_list_sort _)))
 obtain rfl:=Nm.lN a2 a3
 obtain⟨e,he⟩:=sortedHeap_at (out:=out) CQ
 have fr:=I1.bJ.fresh (a:=h'.objs.size) (YS _)
 refine wpAny_pure ⟨_,rfl,.ref h'.objs.size,_,I1.laid (t':=tk) (λb o eb=>?_) (YS _) (o:=.lst (List.map V.int (Nm.lM (gF kvs)))) ⟨?_,out.toList,e,qh a1,?_⟩,rfl,q _ fr⟩
 ·rw[sortedHeap_old (Y0 (Heap.lt_size eb)) (by rw[Heap.size_push];exact ZY (Heap.lt_size eb))]
  exact Heap.get?_push_of_some _ eb
 ·rw[YO,Nm.mP,sizeLine_eq]
  unfold gF
  rw[YO]
  omega
 ·exact he
end
section
variable {X : Cx} {pins : List (Addr × Obj)} {σ : St} {H : Hp} {s : Shared}
end
noncomputable def Um (d:Addr) (o:Obj) (kvs:List (Key×V)):It:=
 ⟨λi H=>H d=some (.qX o (.dK kvs))/\i<kvs.length,λi H x H'=>H'=H/\∃p,kvs[i]?=some p/\x=kV p.1,λi H=>H d=some (.qX o (.dK kvs))/\i=kvs.length⟩
section
variable {X : Cx} {x : Str} {Uo : Pos}
noncomputable def iDict (tl:TE):TI:=λσ H R=>tl σ H λv H1=>∃d kvs,v=.ref d/\H1 d=some (.dK kvs)/\∀o,R (Um d o kvs) (upd H1 d (.qX o (.dK kvs)))
end
end L2
namespace L2
open PySem PySem.Spec PyProof.Rows PySem.W
section
variable {X : Cx} {K : PySem.W.Frag}
theorem bo {tg l:Expr} {tl:TE} (hl:PE X l tl) (hK:X.K=K:=by rfl):PI X tg l (iList K tl):=by subst hK;exact Br hl
theorem BX {tg l:Expr} {tl:TE} (hl:PE X l tl) (hK:X.K=K:=by rfl):PI X tg l (iTup K tl):=by subst hK;exact DZ hl
theorem jc {elts:List Expr} {kk:Nat} {mw:Pos} {a b:Expr} {ta:TA} {p pos:Pos} (hg:Gl X "zip") (hm:X.mg "zip"=none) (ha:PA X [a,b] ta) (n1:noStar a=true:=by rfl) (n2:noStar b=true:=by rfl) (hK:X.K=K:=by rfl):
  PI X (.Tuple elts kk mw) (.Call (.Name "zip" p) [a,b] [] pos) (iZip K ta):=by subst hK;exact EA hg hm ha (by rw[se n1,se n2];rfl) (by rw[se n2];rfl)
theorem cG {elts:List Expr} {kk:Nat} {mw:Pos} {a:Expr} {ta:TA} {p pos:Pos} (hg:Gl X "enumerate") (hm:X.mg "enumerate"=none) (ha:PA X [a] ta) (n1:noStar a=true:=by rfl) (hK:X.K=K:=by rfl):
  PI X (.Tuple elts kk mw) (.Call (.Name "enumerate" p) [a] [] pos) (iEnum K ta):=by subst hK;exact qe hg hm ha (by rw[se n1];rfl)
theorem cf {es:List Expr} {k:Nat} {t:CS} {n:Nat} {pos:Pos} (hc:X.calm=true) (h:F1 X es t) (hn:(assignEach es X.env).length=n:=by rfl) (hst:(assignEach es X.env).findIdx? (·.1)=none:=by rfl) (hK:X.K=K:=by rfl):PG X (.Tuple es k pos) (yt K n t):=by
 subst hK;exact DV hc h hn hst
theorem pb (hK:X.K=K:=by rfl):CY X (Eh K):=by subst hK;exact yP
theorem iI (hK:X.K=K:=by rfl):cF X (.builtin "len") (λxs H Q=>∃p ns,xs=[.ref p]/\aZ K H p (List.map V.int ns)/\Q (.int (List.length ns:Nat)) H):=by subst hK;exact xC
theorem oB (hK:X.K=K:=by rfl):jF X (compareOp .NotIn) (J7 K true):=by subst hK;exact pX
theorem cH (hK:X.K=K:=by rfl):cF X (.type "list") (λxs H Q=>∃p ys,xs=[.ref p]/\(aZ K H p ys\/eA K H p ys)/\∀l,H l=none->Q (.ref l) (upd H l (.lst ys))):=by subst hK;exact pY
theorem g5 (hK:X.K=K:=by rfl):cF X (.builtin "isinstance") (λxs H Q=>∃x c t b,xs=[x,.ty c]/\gi K H x t/\PySem.W.kitOne K t (.type c)=some b/\Q (.bl b) H):=by subst hK;exact yQ
theorem j5 (hc:X.calm=true:=by rfl) (hK:X.K=K:=by rfl):cF X (.builtin "sum") (λxs H Q=>∃p ns,xs=[.ref p]/\aZ K H p (List.map V.int ns)/\Q (.int ns.sum) H):=by subst hK;exact uK hc
theorem mQ (hc:X.calm=true:=by rfl):cF X (.builtin "sorted") (λxs H Q=>∃d kvs,xs=[.ref d]/\Rd H d (.dK kvs)/\allI kvs/\kvs.length<64/\∀l,H l=none->Q (.ref l) (upd H l (.lst (List.map V.int (Nm.lM (gF kvs)))))):=oA hc
theorem rW (hK:X.K=K:=by rfl):Jf X (rSlL K):=by subst hK;exact BC
theorem GG.r {id:String} {r:V->List V->Hp->VK->Prop} (h:GG X id r):J4 X id r:=h
end
end L2
namespace Nm
abbrev Ws:=List (Int×Int)
noncomputable def keys (ws:Ws):List Int:=ws.map (·.1)
noncomputable def look:Ws->Int->Int
 | [],_=>0
 | p::r,k=>if p.1=k then p.2 else look r k
noncomputable def put:Ws->Int->Int->Ws
 | [],k,v=>[(k,v)]
 | p::r,k,v=>if p.1=k then (k,v)::r else p::put r k v
noncomputable def Jk (ws:Ws):Int:=(ws.map (·.2)).sum
structure Over (as ws:Ws) (B T:Int):Prop where
 nd:(keys ws).Nodup
 perm:(keys as).Perm (keys ws)
 val:∀k∈keys ws,look as k*T=look ws k*B
end Nm
namespace L2
open PySem PySem.Spec PyProof.Rows
noncomputable def cA (p:Int×Int):Dat:=.tup [.int p.1,.int p.2]
theorem cM {H:Hp} {r:Int×Int} {v:V}:Rep H (cA r) v↔∃p,v=.ref p/\H p=some (.tup [.int r.1,.int r.2]):=by
 unfold cA
 simp only[Rep,bu]
 constructor
 ·rintro⟨p,vs,rfl,hp,a,b,rfl,rfl,c,d,rfl,rfl,rfl⟩
  exact⟨p,rfl,hp⟩
 ·rintro⟨p,rfl,hp⟩
  exact⟨p,_,rfl,hp,_,_,rfl,rfl,_,_,rfl,rfl,rfl⟩
theorem bp {H:Hp} {ds:List Dat} {v:V}:Rep H (.lst ds) v↔∃p vs,v=.ref p/\H p=some (.lst vs)/\bu H ds vs:=by rw[Rep]
noncomputable def R5 (H H':Hp):Prop:=∀p xs,(H p=some (.tup xs)->H' p=some (.tup xs))/\(H p=some (.lst xs)->H' p=some (.lst xs))
mutual
theorem Rep.G5 {H H':Hp} (s:R5 H H'):∀{d:Dat} {v:V},Rep H d v->Rep H' d v
 | .cu,_,h=>by rw[Rep] at *;exact h
 | .bl _,_,h=>by rw[Rep] at *;exact h
 | .int _,_,h=>by rw[Rep] at *;exact h
 | .str _,_,h=>by rw[Rep] at *;exact h
 | .tup _,_,h=>by
  rw[Rep] at *
  obtain⟨p,vs,e,hp,r⟩:=h
  exact⟨p,vs,e,(s _ _).1 hp,bu.G5 s r⟩
 | .lst _,_,h=>by
  rw[Rep] at *
  obtain⟨p,vs,e,hp,r⟩:=h
  exact⟨p,vs,e,(s _ _).2 hp,bu.G5 s r⟩
theorem bu.G5 {H H':Hp} (s:R5 H H'):∀{ds:List Dat} {vs:List V},bu H ds vs->bu H' ds vs
 | [],_,h=>by rw[bu] at *;exact h
 | _::_,_,h=>by
  rw[bu] at *
  obtain⟨v,r,e,h1,h2⟩:=h
  exact⟨v,r,e,Rep.G5 s h1,bu.G5 s h2⟩
end
theorem none_of {H H':Hp} (s:az H H') {p:Addr} (h:H' p=none):H p=none:=by
 cases e:H p with
 | none=>rfl
 | some o=>rw[s p o e] at h;cases h
end L2
namespace Nm
end Nm
namespace L2
open PySem PySem.Spec PyProof.Rows
theorem du {α:Type} {J:It} {tc:TT} {te:TE} {tl:St} {H1:Hp} {fin:List V->Hp->Prop} {Item:Nat->V->Hp->Hp->Prop} (as:List α) (f:α->Option Int) (S:Src J (az H1) as.length Item) (sub:∀i x H H3,Item i x H H3->H3=H) (hz:as.length<=sizeLine)
  (hs:∀i a x,as[i]?=some a->Item i x H1 H1->∀(Y:VK) (N:Hp->Prop),(∀z,f a=some z->Y (.int z) H1)->(f a=none->N H1)->tc (some x::tl) H1 λb H5=>if b=true then te (some x::tl) H5 Y else N H5)
  (jN:fin (List.map V.int (as.filterMap f)) H1):eN J (gName 0) tc te (none::tl) H1 fin:=by
 refine gY S (λσ=>∃w0,σ=w0::tl) ⟨_,rfl⟩ (λi ys H=>H=H1/\ys=List.map V.int ((as.take i).filterMap f)) ⟨rfl,by simp⟩ hz ?_ ?_
 ·rintro i x σ H ys H3 Q N hi sm ⟨rfl,rfl⟩ hl ⟨w0,rfl⟩ it kq kn
  obtain rfl:=sub _ _ _ _ it
  have ea:as[i]?=some as[i]:=YQ hi
  refine hs i _ x ea it _ _ (λz e=>kq _ _ _ ⟨_,rfl⟩ sm ⟨rfl,?_⟩) (λe=>kn _ _ ⟨_,rfl⟩ sm ⟨rfl,?_⟩)
  ·rw[Ze,ea,ZZ,Zc]
   simp [e]
  ·rw[Ze,ea,ZZ,Zc]
   simp [e]
 ·rintro ys H sm ⟨rfl,rfl⟩ hl
  rw[Zi (YS _)]
  exact jN
theorem iJ {K:PySem.W.Frag} {α:Type} {J:It} {tc:TT} {te:TE} {tl:St} {H1:Hp} {fin:List V->Hp->Prop} {Item:Nat->V->Hp->Hp->Prop} (as:List α) (f:α->Option Int) (S:Src J (az H1) as.length Item) (sub:∀i x H H3,Item i x H H3->H3=H) (hz:as.length<=sizeLine)
  (hs:∀i a x,as[i]?=some a->Item i x H1 H1->∃p u v,x=.ref p/\eA K H1 p [u,v]/\∀(Y:VK) (N:Hp->Prop),(∀z,f a=some z->Y (.int z) H1)->(f a=none->N H1)->tc (some u::some v::tl) H1 λb H5=>if b=true then te (some u::some v::tl) H5 Y else N H5)
  (jN:fin (List.map V.int (as.filterMap f)) H1):eN J (yt K 2 (gCons (gName 0) (gCons (gName 1) gNil))) tc te (none::none::tl) H1 fin:=by
 refine gY S (λσ=>∃w0 w1,σ=w0::w1::tl) ⟨_,_,rfl⟩ (λi ys H=>H=H1/\ys=List.map V.int ((as.take i).filterMap f)) ⟨rfl,by simp⟩ hz ?_ ?_
 ·rintro i x σ H ys H3 Q N hi sm ⟨rfl,rfl⟩ hl ⟨w0,w1,rfl⟩ it kq kn
  obtain rfl:=sub _ _ _ _ it
  have ea:as[i]?=some as[i]:=YQ hi
  obtain⟨p,u,v,rfl,sq,k⟩:=hs i _ x ea it
  refine⟨p,_,rfl,sq,rfl,_,_,rfl,_,_,rfl,rfl,?_⟩
  refine k _ _ (λz e=>kq _ _ _ ⟨_,_,rfl⟩ sm ⟨rfl,?_⟩) (λe=>kn _ _ ⟨_,_,rfl⟩ sm ⟨rfl,?_⟩)
  ·rw[Ze,ea,ZZ,Zc]
   simp [e]
  ·rw[Ze,ea,ZZ,Zc]
   simp [e]
 ·rintro ys H sm ⟨rfl,rfl⟩ hl
  rw[Zi (YS _)]
  exact jN
theorem dX {α β:Type} (f:α->β) (l:List α):l.filterMap (λa=>some (f a))=l.map f:=by
 rw[<-List.filterMap_eq_map];rfl
end L2
namespace L2
open PySem PySem.Spec PyProof.Rows PySem.W
section
variable {X : Cx} {K : PySem.W.Frag}
theorem mR:∀{us:List Value} {bs:List Bool},bj (bs.map V.bl) us->LSm.BoolsAre us bs
 | _,[],.nil=>.nil
 | _,b::bs,.cons r t=>by
  have e:_=Value.bool b:=r
  subst e
  exact .cons b (mR t)
theorem uL (hc:X.calm=true):cF X (.builtin "all") (λxs H Q=>∃p bs,xs=[.ref p]/\aZ X.K H p (List.map V.bl bs)/\Q (.bl (bs.all id)) H):=by
 intro pins s σ H xs us Q I r h
 obtain⟨p,bs,rfl,hq,q⟩:=h
 obtain⟨u,rfl,rx⟩:=vals1 r
 cases rx
 obtain⟨aW,rv,pl,hz⟩:=I.list hq
 have hb:=mR rv
 have hl:=pl.isList
 have fG:p<s.heap.objs.size:=by obtain⟨_,e,_⟩:=hl;exact Heap.lt_size e
 refine call_all_walk (wpAny_pyIter_list hl ?_)
 refine⟨s.heap.objs.size,[s.heap.objs.size,p],[s.heap.objs.size],aW.toArray.size,_,_,λi=>(bs[i]?).getD true,rfl,Walks.list (A:=X.A.in1) (I.ok.hd hc) _ p (Y0 fG) aW.toArray,
  ⟨⟨_,Heap.get?_push_size _ rfl,rfl,rfl⟩,hl.push _⟩,λi v s' Q' E' hP hQ=>?_,λh' tk hk=>?_⟩
 ·obtain⟨b,e,rfl⟩:=hb.get i v (by simpa using hP)
  simp only[e,Option.getD_some] at hQ
  exact wpAny_truthy_bool hQ
 ·have e:((List.range aW.toArray.size).all λi=>(bs[i]?).getD true)=bs.all id:=by
   rw[Y1,hb.length];exact LSm.range_all bs
  rw[e]
  exact⟨.bl _,H,I.kept (t':=tk) (LSm.kept_iter hk),rfl,q⟩
theorem uM (hc:X.calm=true):cF X (.builtin "any") (λxs H Q=>∃p bs,xs=[.ref p]/\aZ X.K H p (List.map V.bl bs)/\Q (.bl (bs.any id)) H):=by
 intro pins s σ H xs us Q I r h
 obtain⟨p,bs,rfl,hq,q⟩:=h
 obtain⟨u,rfl,rx⟩:=vals1 r
 cases rx
 obtain⟨aW,rv,pl,hz⟩:=I.list hq
 have hb:=mR rv
 have hl:=pl.isList
 have fG:p<s.heap.objs.size:=by obtain⟨_,e,_⟩:=hl;exact Heap.lt_size e
 refine call_any_walk (wpAny_pyIter_list hl ?_)
 refine⟨s.heap.objs.size,[s.heap.objs.size,p],[s.heap.objs.size],aW.toArray.size,_,_,λi=>(bs[i]?).getD false,rfl,Walks.list (A:=X.A.in1) (I.ok.hd hc) _ p (Y0 fG) aW.toArray,
  ⟨⟨_,Heap.get?_push_size _ rfl,rfl,rfl⟩,hl.push _⟩,λi v s' Q' E' hP hQ=>?_,λh' tk hk=>?_⟩
 ·obtain⟨b,e,rfl⟩:=hb.get i v (by simpa using hP)
  simp only[e,Option.getD_some] at hQ
  exact wpAny_truthy_bool hQ
 ·have e:((List.range aW.toArray.size).any λi=>(bs[i]?).getD false)=bs.any id:=by
   rw[Y1,hb.length];exact LSm.range_any bs
  rw[e]
  exact⟨.bl _,H,I.kept (t':=tk) (LSm.kept_iter hk),rfl,q⟩
theorem j6 (hc:X.calm=true:=by rfl) (hK:X.K=K:=by rfl):cF X (.builtin "all") (λxs H Q=>∃p bs,xs=[.ref p]/\aZ K H p (List.map V.bl bs)/\Q (.bl (bs.all id)) H):=by subst hK;exact uL hc
theorem rX (hc:X.calm=true:=by rfl) (hK:X.K=K:=by rfl):cF X (.builtin "any") (λxs H Q=>∃p bs,xs=[.ref p]/\aZ K H p (List.map V.bl bs)/\Q (.bl (bs.any id)) H):=by subst hK;exact uM hc
noncomputable def tSumV (to:TE):TE:=λσ H Q=>to σ H λv H1=>∃d kvs ns,v=.ref d/\H1 d=some (.dK kvs)/\kvs.map (·.2)=List.map V.int ns/\Q (.int ns.sum) H1
theorem pd {α:Type} {J:It} {tc:TT} {te:TE} {tl:St} {H1:Hp} {fin:List V->Hp->Prop} {Item:Nat->V->Hp->Hp->Prop} (as:List α) (f:α->Option V) (S:Src J (az H1) as.length Item) (sub:∀i x H H3,Item i x H H3->H3=H) (hz:as.length<=sizeLine)
  (hs:∀i a x,as[i]?=some a->Item i x H1 H1->∀(Y:VK) (N:Hp->Prop),(∀z,f a=some z->Y z H1)->(f a=none->N H1)->tc (some x::tl) H1 λb H5=>if b=true then te (some x::tl) H5 Y else N H5)
  (jN:fin (as.filterMap f) H1):eN J (gName 0) tc te (none::tl) H1 fin:=by
 refine gY S (λσ=>∃w0,σ=w0::tl) ⟨_,rfl⟩ (λi ys H=>H=H1/\ys=(as.take i).filterMap f) ⟨rfl,by simp⟩ hz ?_ ?_
 ·rintro i x σ H ys H3 Q N hi sm ⟨rfl,rfl⟩ hl ⟨w0,rfl⟩ it kq kn
  obtain rfl:=sub _ _ _ _ it
  have ea:as[i]?=some as[i]:=YQ hi
  refine hs i _ x ea it _ _ (λz e=>kq _ _ _ ⟨_,rfl⟩ sm ⟨rfl,?_⟩) (λe=>kn _ _ ⟨_,rfl⟩ sm ⟨rfl,?_⟩)
  ·rw[Ze,ea,ZZ]
   simp [e]
  ·rw[Ze,ea,ZZ]
   simp [e]
 ·rintro ys H sm ⟨rfl,rfl⟩ hl
  rw[Zi (YS _)]
  exact jN
theorem aQ {a b:TS} {D:Ends} {σ:St} {H:Hp} (C:St->Hp->Prop) (hb:∀σ' H',C σ' H'->b D σ' H') (ha:∀N:St->Hp->Prop,(∀σ' H',C σ' H'->N σ' H')->a {D with nx:=N} σ H):tSeq a b D σ H:=ha _ hb
end
end L2
namespace Nm
noncomputable def pos (ps:Ws):Ws:=ps.filter λp=>decide (0<p.2)
end Nm
namespace L2
open PySem PySem.Spec PyProof.Rows PySem.W
section
variable {X : Cx} {K : PySem.W.Frag}
noncomputable def rJoin (K:PySem.W.Frag):V->List V->Hp->VK->Prop:=λx xs H Q=>∃sep p ts,x=.str sep/\xs=[.ref p]/\aZ K H p (List.map V.str ts)/\JoinOk sep ts=true/\Q (.str (Txt.join sep ts)) H
abbrev TJ:=Str->TE
noncomputable def jNil:TJ:=λacc _ H Q=>Q (.str acc) H
noncomputable def jLit (x:Str) (t:TJ):TJ:=λacc σ H Q=>(acc++x).length<=sizeLine/\t (acc++x) σ H Q
noncomputable def jInt (te:TE) (t:TJ):TJ:=λacc σ H Q=>te σ H λv H1=>∃i,v=.int i/\i.natAbs.log2<1920/\(acc++toString i).length<=sizeLine/\t (acc++toString i) σ H1 Q
noncomputable def jStr (te:TE) (t:TJ):TJ:=λacc σ H Q=>te σ H λv H1=>∃z,v=.str z/\z.length<=sizeLine/\(acc++z).length<=sizeLine/\t (acc++z) σ H1 Q
noncomputable def tJoined (t:TJ):TE:=λσ H Q=>t Str.empty σ H Q
end
end L2
namespace L2
open PySem PySem.Spec PyProof.Rows PySem.W
inductive Pl where
 | fin (w:Int×Int) | eO (w:Int×Int) (ws:List (Int×Int)) | dR (vT:Int) (to:List Int)
noncomputable def oC:Pl->Dat
 | .fin w=>.tup [.str (Str.ofString "end"),cA w]
 | .eO w ws=>.tup [.str (Str.ofString "throw"),cA w,.lst (ws.map cA)]
 | .dR vT to=>.tup [.str (Str.ofString "pick"),.int vT,.lst (to.map .int)]
noncomputable def rY (b:List Pl):Dat:=.lst (b.map oC)
theorem g7 {H:Hp}:∀{ns:List Int} {vs:List V},bu H (ns.map Dat.int) vs↔vs=ns.map V.int
 | [],vs=>by simp only[List.map_nil,bu]
 | n::ns,vs=>by
  simp only[Zb,bu,Rep]
  constructor
  ·rintro⟨v,r,rfl,rfl,h⟩
   rw[g7.mp h]
  ·rintro rfl
   exact⟨_,_,rfl,rfl,g7.mpr rfl⟩
theorem de {H:Hp} {w:Int×Int} {v:V}:Rep H (oC (.fin w)) v↔∃p q,v=.ref p/\H p=some (.tup [.str (Str.ofString "end"),.ref q])/\H q=some (.tup [.int w.1,.int w.2]):=by
 show Rep H (.tup [.str (Str.ofString "end"),cA w]) v↔_
 rw[Rep]
 simp only[bu,cM]
 constructor
 ·rintro⟨p,vs,rfl,hp,_,_,rfl,e,_,_,rfl,⟨q,rfl,hq⟩,rfl⟩
  rw[Rep] at e
  subst e
  exact⟨p,q,rfl,hp,hq⟩
 ·rintro⟨p,q,rfl,hp,hq⟩
  exact⟨p,_,rfl,hp,_,_,rfl,by rw[Rep],_,_,rfl,⟨q,rfl,hq⟩,rfl⟩
theorem cY {H:Hp} {w:Int×Int} {ws:List (Int×Int)} {v:V}:Rep H (oC (.eO w ws)) v↔∃p q l xs,v=.ref p/\H p=some (.tup [.str (Str.ofString "throw"),.ref q,.ref l])/\H q=some (.tup [.int w.1,.int w.2])/\H l=some (.lst xs)/\bu H (ws.map cA) xs:=by
 show Rep H (.tup [.str (Str.ofString "throw"),cA w,.lst (ws.map cA)]) v↔_
 rw[Rep]
 simp only[bu,cM]
 constructor
 ·rintro⟨p,vs,rfl,hp,_,_,rfl,e,_,_,rfl,⟨q,rfl,hq⟩,_,_,rfl,k,rfl⟩
  rw[Rep] at e
  subst e
  obtain⟨l,xs,rfl,hl,r⟩:=bp.mp k
  exact⟨p,q,l,xs,rfl,hp,hq,hl,r⟩
 ·rintro⟨p,q,l,xs,rfl,hp,hq,hl,r⟩
  exact⟨p,_,rfl,hp,_,_,rfl,by rw[Rep],_,_,rfl,⟨q,rfl,hq⟩,_,_,rfl,bp.mpr ⟨l,xs,rfl,hl,r⟩,rfl⟩
theorem cZ {H:Hp} {vT:Int} {to:List Int} {v:V}:Rep H (oC (.dR vT to)) v↔∃p l,v=.ref p/\H p=some (.tup [.str (Str.ofString "pick"),.int vT,.ref l])/\H l=some (.lst (to.map V.int)):=by
 show Rep H (.tup [.str (Str.ofString "pick"),.int vT,.lst (to.map .int)]) v↔_
 rw[Rep]
 simp only[bu]
 constructor
 ·rintro⟨p,vs,rfl,hp,_,_,rfl,e,_,_,rfl,e2,_,_,rfl,k,rfl⟩
  rw[Rep] at e
  rw[Rep] at e2
  subst e e2
  obtain⟨l,xs,rfl,hl,r⟩:=bp.mp k
  rw[g7] at r
  subst r
  exact⟨p,l,rfl,hp,hl⟩
 ·rintro⟨p,l,rfl,hp,hl⟩
  exact⟨p,_,rfl,hp,_,_,rfl,by rw[Rep],_,_,rfl,by rw[Rep],_,_,rfl,bp.mpr ⟨l,_,rfl,hl,g7.mpr rfl⟩,rfl⟩
theorem EC {H:Hp} {q:Pl} {v:V} (h:Rep H (oC q) v):∃p k r,v=.ref p/\H p=some (.tup (.str k::r)):=by
 cases q with
 | fin w=>obtain⟨p,q,rfl,hp,_⟩:=de.mp h;exact⟨p,_,_,rfl,hp⟩
 | eO w ws=>obtain⟨p,q,l,xs,rfl,hp,_⟩:=cY.mp h;exact⟨p,_,_,rfl,hp⟩
 | dR vT to=>obtain⟨p,l,rfl,hp,_⟩:=cZ.mp h;exact⟨p,_,_,rfl,hp⟩
theorem d8 {H:Hp} {b:List Pl} {xs:List V} {i:Nat} {x:V} (h:bu H (b.map oC) xs) (e:xs[i]?=some x):∃q,b[i]?=some q/\Rep H (oC q) x:=by
 obtain⟨d,ed,rd⟩:=h.get e
 rw[YT] at ed
 obtain⟨q,eq,rfl⟩:=Option.map_eq_some_iff.mp ed
 exact⟨q,eq,rd⟩
theorem g8 {H:Hp} {b:List Pl} {xs:List V} {i:Nat} {q:Pl} (h:bu H (b.map oC) xs) (e:b[i]?=some q):∃x,xs[i]?=some x/\Rep H (oC q) x:=
 h.at (by rw[YT,e];rfl)
theorem eZ {α:Type} {H:Hp} {f:α->Dat} {as:List α} {ys:List V} (hl:ys.length=as.length) (h:∀(i:Nat) y,ys[i]?=some y->∀a,as[i]?=some a->Rep H (f a) y):bu H (as.map f) ys:=
 bu.of (by rw[YO,hl]) λi d v e1 e2=>by
  rw[YT] at e1
  obtain⟨a,ea,rfl⟩:=Option.map_eq_some_iff.mp e1
  exact h i v e2 a ea
noncomputable def iu (H:Hp) (p:Addr):Hp:=λa=>if a=p then none else H a
theorem cN {H:Hp} {p a:Addr} (h:a≠p):iu H p a=H a:=if_neg h
theorem qk {H:Hp} {p:Addr} {o:HO}:az (iu H p) (upd H p o):=λa u e=>by
 unfold iu at e
 by_cases h:a=p
 ·rw[if_pos h] at e;cases e
 ·rw[if_neg h] at e;rw[aE h];exact e
theorem hG {H:Hp} {p:Addr}:az (iu H p) H:=λa u e=>by
 unfold iu at e
 by_cases h:a=p
 ·rw[if_pos h] at e;cases e
 ·rw[if_neg h] at e;exact e
theorem gG {H0 H:Hp} {p:Addr} (s:az H0 H) (n:H0 p=none):az H0 (iu H p):=λa u e=>by
 rw[cN (λz=>by rw[z,n] at e;cases e)]
 exact s _ _ e
theorem gH {H H':Hp} {p:Addr} (s:az H H'):az (iu H p) (iu H' p):=λa u e=>by
 unfold iu at *
 by_cases h:a=p
 ·rw[if_pos h] at e;cases e
 ·rw[if_neg h] at e ⊢;exact s _ _ e
theorem aX {H0 H:Hp} {p:Addr} {o:HO} (s:az H0 H) (n:H0 p=none):az H0 (upd H p o):=(gG s n).trans qk
theorem y3 {H:Hp} {p:Addr} {ds:List Dat} {xs:List V} {d:Dat} {v:V} (h:bu (iu H p) ds xs) (k:Rep (iu H p) d v):bu (iu (upd H p (.lst (xs++ [v]))) p) (ds++ [d]) (xs++ [v]):=by
 have s:az (iu H p) (iu (upd H p (.lst (xs++ [v]))) p):=gG qk (if_pos rfl)
 refine(h.mono s).append ?_
 rw[bu]
 exact⟨v,[],rfl,k.mono s,by rw[bu]⟩
theorem ql {α β:Type} {f:α->β} {as:List α} {i:Nat} {a:α} (h:as[i]?=some a):fA (as.map f) (i:Int)=some (f a):=bF (by rw[YT,h];rfl)
theorem rZ {c:TT} {tb:TS} {D:Ends} {σ:St} {H:Hp} (W:Nat->St->Hp->Prop) {m:Nat} (h0:W m σ H)
  (hs:∀m σ H,W m σ H->c σ H λb H1=>if b=true then tb {D with nx:=λσ' H'=>∃m',m'<m/\W m' σ' H',ct:=λσ' H'=>∃m',m'<m/\W m' σ' H',bk:=D.nx} σ H1 else D.nx σ H1)
  (mono:∀σ H Q Q',(∀b H1,Q b H1->Q' b H1)->c σ H Q->c σ H Q'):ue c tb D σ H:=by
 refine⟨W,⟨m,h0⟩,λm σ H w=>mono σ H _ _ (λb H1 q=>?_) (hs m σ H w)⟩
 cases b with
 | true=>exact⟨_,λ_ _ h=>h,q⟩
 | false=>exact q
theorem pe {K:PySem.W.Frag} {α:Type} {J:It} {tc:TT} {te:TE} {tl:St} {H1:Hp} {fin:List V->Hp->Prop} {Item:Nat->V->Hp->Hp->Prop} (as:List α) (f:α->Option V) (S:Src J (az H1) as.length Item) (GZ:Nat->V->V->Hp->Prop)
  (tp:∀i x H H3,i<as.length->az H1 H->Item i x H H3->az H H3/\∃p a b,x=.ref p/\eA K H3 p [a,b]/\GZ i a b H3) (hz:as.length<=sizeLine)
  (hs:∀i a u v H3,as[i]?=some a->az H1 H3->GZ i u v H3->∀(Y:VK) (N:Hp->Prop),(∀z H6,f a=some z->az H3 H6->Y z H6)->(∀H6,f a=none->az H3 H6->N H6)->tc (some u::some v::tl) H3 λb H5=>if b=true then te (some u::some v::tl) H5 Y else N H5)
  (jN:∀H2,az H1 H2->fin (as.filterMap f) H2):eN J (yt K 2 (gCons (gName 0) (gCons (gName 1) gNil))) tc te (none::none::tl) H1 fin:=by
 refine gY S (λσ=>∃w0 w1,σ=w0::w1::tl) ⟨_,_,rfl⟩ (λi ys _=>ys=(as.take i).filterMap f) (by simp) hz ?_ ?_
 ·rintro i x σ H ys H3 Q N hi sm rfl hl ⟨w0,w1,rfl⟩ it kq kn
  obtain⟨s3,p,u,v,rfl,sq,i2⟩:=tp i x H H3 hi sm it
  have ea:as[i]?=some as[i]:=YQ hi
  refine⟨p,_,rfl,sq,rfl,_,_,rfl,_,_,rfl,rfl,?_⟩
  refine hs i _ u v H3 ea (sm.trans s3) i2 _ _ (λz H6 e s6=>kq _ _ _ ⟨_,_,rfl⟩ (sm.trans (s3.trans s6)) ?_) (λH6 e s6=>kn _ _ ⟨_,_,rfl⟩ (sm.trans (s3.trans s6)) ?_)
  ·rw[Ze,ea,ZZ]
   simp [e]
  ·rw[Ze,ea,ZZ]
   simp [e]
 ·rintro ys H sm rfl hl
  rw[Zi (YS _)]
  exact jN H sm
theorem hJ {α:Type} (f:α->V) (p:α->Bool):∀l:List α,l.filterMap (λi=>if p i=true then some (f i) else none)=(l.filter p).map f
 | []=>rfl
 | x::l=>by
  rw[List.filterMap_cons,List.filter_cons]
  by_cases c:p x=true
  ·simp only[c,if_true,Zb,hJ f p l]
  ·simp only[c,if_false,hJ f p l]
   rfl
section
variable {X : Cx} {K : PySem.W.Frag}
end
end L2
namespace Lv
open L2
abbrev Fs:=List (Option Int)
noncomputable def fX:Pl->List Int
 | .fin _=>[]
 | .eO _ ws=>ws.map (·.2)
 | .dR _ to=>to
noncomputable def lk (fs:Fs) (g:Int):Option Int:=fs.getD g.toNat none
noncomputable def C6 (fs:Fs) (q:Pl):Bool:=
 match q with
 | .eO _ ws=>(ws.map (·.2)).any λg=>(lk fs g).isSome
 | .fin _=>true
 | .dR _ to=>to.all λg=>(lk fs g).isSome
noncomputable def fY (b:List Pl) (fs:Fs) (i:Nat):Bool:=(fs.getD i none).isNone && (match b[i]? with | some q=>C6 fs q | none=>false)
noncomputable def fresh (b:List Pl) (fs:Fs):List Nat:=(List.range b.length).filter (fY b fs)
noncomputable def cD (fs:Fs) (is:List Nat) (L:Int):Fs:=is.foldl (λacc i=>acc.set i (some L)) fs
noncomputable def run (b:List Pl):Nat->Fs->Int->Fs
 | 0,fs,_=>fs
 | m+1,fs,L=>if fresh b fs=[] then fs else run b m (cD fs (fresh b fs) L) (L+1)
noncomputable def G6:Pl->Option Int
 | .fin _=>some 0
 | _=>none
noncomputable def og (b:List Pl):Fs:=b.map G6
noncomputable def r8 (b:List Pl):Fs:=run b b.length (og b) 1
noncomputable def dS (fs:Fs):Nat:=fs.countP (·.isNone)
theorem lO (fs:Fs):∀(is:List Nat) (L:Int),(cD fs is L).length=fs.length
 | is,L=>by
  induction is generalizing fs with
  | nil=>rfl
  | cons i is ih=>
   show(cD (fs.set i (some L)) is L).length=_
   rw[ih,Zh]
theorem vU (L:Int):∀(is:List Nat) (fs:Fs) (k:Nat),(cD fs is L)[k]?=if k∈is/\k<fs.length then some (some L) else fs[k]?
 | [],fs,k=>by simp [cD]
 | i::is,fs,k=>by
  show(cD (fs.set i (some L)) is L)[k]?=_
  rw[vU L is,Zh]
  by_cases h:k<fs.length
  ·by_cases h1:k∈is
   ·rw[if_pos ⟨h1,h⟩,if_pos ⟨YW _ h1,h⟩]
   ·rw[if_neg (λz=>h1 z.1)]
    by_cases h2:k=i
    ·subst h2
     rw[if_pos ⟨YV,h⟩,ZU h]
    ·rw[if_neg (λz=>(List.mem_cons.mp z.1).elim h2 h1),ZL (Ne.symm h2)]
  ·rw[if_neg (λz=>h z.2),if_neg (λz=>h z.2),Y5 (by rw[Zh];omega),Y5 (by omega)]
theorem cO (x:Option Int) (fs:Fs):dS (x::fs)=dS fs+if x.isNone then 1 else 0:=by
 unfold dS
 rw[List.countP_cons]
theorem pf (L:Int):∀(fs:Fs) (i:Nat),dS (fs.set i (some L))<=dS fs
 | [],i=>by simp
 | x::fs,0=>by
  rw[Z1,cO,cO]
  simp
 | x::fs,i+1=>by
  rw[Z2,cO,cO]
  have:=pf L fs i
  omega
theorem si (L:Int):∀(fs:Fs) (i:Nat),fs[i]?=some none->dS (fs.set i (some L))<dS fs
 | [],i,h=>by simp at h
 | x::fs,0,h=>by
  simp at h
  subst h
  rw[Z1,cO,cO]
  simp
 | x::fs,i+1,h=>by
  rw[Z2,cO,cO]
  have:=si L fs i (by simpa using h)
  omega
theorem ph (L:Int):∀(is:List Nat) (fs:Fs),dS (cD fs is L)<=dS fs
 | [],fs=>YS _
 | i::is,fs=>Y2 (ph L is (fs.set i (some L))) (pf L fs i)
theorem qm (L:Int) {is:List Nat} {fs:Fs} (h:is≠[]) (k:∀i∈is,fs[i]?=some none):dS (cD fs is L)<dS fs:=by
 cases is with
 | nil=>exact absurd rfl h
 | cons i is=>exact Zx (ph L is _) (si L fs i (k i YV))
theorem hV {b:List Pl} {fs:Fs} {i:Nat}:i∈fresh b fs↔i<b.length/\fY b fs i=true:=by
 unfold fresh
 rw[List.mem_filter,List.mem_range]
theorem mS {b:List Pl} {fs:Fs} (hl:fs.length=b.length) {i:Nat} (h:i∈fresh b fs):fs[i]?=some none:=by
 obtain⟨h1,h2⟩:=hV.mp h
 unfold fY at h2
 rw[Bool.and_eq_true] at h2
 have e:fs[i]?=some fs[i]:=YQ (by omega)
 rw[YR,e] at h2
 rw[e]
 cases h:fs[i] with
 | none=>rfl
 | some v=>rw[h] at h2;simp at h2
noncomputable def At (fs:Fs) (L:Int) (i:Nat):Pl->Prop
 | .fin _=>fs[i]?=some (some 0)
 | .eO _ ws=>(fs[i]?=some none/\∀g∈ws.map (·.2),∀u,lk fs g=some u->u=L - 1)\/
   ∃v,fs[i]?=some (some v)/\1<=v/\(∃g∈ws.map (·.2),lk fs g=some (v - 1))/\∀g∈ws.map (·.2),∀u,lk fs g=some u->v - 1<=u
 | .dR _ to=>(fs[i]?=some none/\((∀g∈to,(lk fs g).isSome=true)->∃g∈to,lk fs g=some (L - 1)))\/
   ∃v,fs[i]?=some (some v)/\1<=v/\(∀g∈to,∃u,lk fs g=some u/\u<=v - 1)/\∃g∈to,lk fs g=some (v - 1)
structure Good (b:List Pl):Prop where
 qW:∀q∈b,∀g∈fX q,0<=g/\g<b.length
 dR:∀q∈b,∀w to,q=.dR w to->to≠[]
structure Inv (b:List Pl) (fs:Fs) (L:Int):Prop where
 len:fs.length=b.length
 lt:∀(i:Nat) (v:Int),fs[i]?=some (some v)->0<=v/\v<L
 at_:∀(i:Nat) q,b[i]?=some q->At fs L i q
theorem y4 {b:List Pl} (g:Good b):Inv b (og b) 1:=by
 have h0:∀(i:Nat) (v:Int),(og b)[i]?=some (some v)->v=0:=λi v e=>by
  unfold og at e
  rw[YT] at e
  obtain⟨q,_,e⟩:=Option.map_eq_some_iff.mp e
  cases q <;>simp [G6] at e
  exact e.symm
 have hk:∀(g u:Int),lk (og b) g=some u->u=0:=λg u e=>by
  unfold lk at e
  rw[YR] at e
  cases h:(og b)[g.toNat]? with
  | none=>rw[h] at e;simp at e
  | some o=>rw[h] at e;simp at e;subst e;exact h0 _ _ h
 refine⟨by simp [og],λi v e=>by have:=h0 i v e;omega,λi q e=>?_⟩
 have e2:(og b)[i]?=some (G6 q):=by unfold og;rw[YT,e];rfl
 cases q with
 | fin w=>exact e2
 | eO w ws=>exact .inl ⟨e2,λg _ u h=>hk g u h⟩
 | dR w to=>
  refine .inl ⟨e2,λh=>?_⟩
  cases to with
  | nil=>exact absurd rfl (g.dR _ (YU e) _ _ rfl)
  | cons x r=>
   refine⟨x,YV,?_⟩
   have:=h x YV
   obtain⟨u,hu⟩:=Option.isSome_iff_exists.mp this
   have:=hk x u hu
   rw[hu,this]
   rfl
theorem pj {fs:Fs} {g:Int} {u:Int}:lk fs g=some u↔fs[g.toNat]?=some (some u):=by
 unfold lk
 rw[YR]
 cases h:fs[g.toNat]? with
 | none=>simp
 | some o=>simp
theorem step {b:List Pl} (gb:Good b) {fs:Fs} {L:Int} (I:Inv b fs L) (L1:1<=L):Inv b (cD fs (fresh b fs) L) (L+1):=by
 have hl:=I.len
 have get:∀(k:Nat),(cD fs (fresh b fs) L)[k]?=if k∈fresh b fs/\k<fs.length then some (some L) else fs[k]?:=vU L _ _
 have old:∀(k:Nat) (v:Int),fs[k]?=some (some v)->(cD fs (fresh b fs) L)[k]?=some (some v):=λk v e=>by
  rw[get,if_neg,e]
  intro z
  rw[mS hl z.1] at e
  cases e
 have xI:∀(g u:Int),lk fs g=some u->lk (cD fs (fresh b fs) L) g=some u:=λg u h=>pj.mpr (old _ _ (pj.mp h))
 have uB:∀(g u:Int),lk (cD fs (fresh b fs) L) g=some u->lk fs g=some u\/u=L:=λg u h=>by
  have h:=pj.mp h
  rw[get] at h
  split at h
  ·right;simpa using h.symm
  ·exact .inl (pj.mpr h)
 refine⟨by rw[lO];exact hl,λi v e=>?_,λi q e=>?_⟩
 ·rw[get] at e
  split at e
  ·simp at e;omega
  ·have:=I.lt i v e;omega
 ·have hi:i<b.length:=(List.getElem?_eq_some_iff.mp e).1
  have A:=I.at_ i q e
  have rd:∀(q:Pl),b[i]?=some q->fs[i]?=some none->(i∈fresh b fs↔C6 fs q=true):=λq e e2=>by
   rw[hV]
   unfold fY
   rw[YR,e2,e]
   simp [hi]
  cases q with
  | fin w=>exact old _ _ A
  | eO w ws=>
   rcases A with ⟨a1,a2⟩ | ⟨v,a1,a2,⟨x,hx,a3⟩,a4⟩
   ·by_cases c:i∈fresh b fs
    ·right
     refine⟨L,by rw[get,if_pos ⟨c,by omega⟩],L1,?_,λg hg u h=>?_⟩
     ·have:=(rd _ e a1).mp c
      have:(ws.map (·.2)).any (λg=>(lk fs g).isSome)=true:=this
      obtain⟨x,hx,h⟩:=List.any_eq_true.mp this
      obtain⟨u,hu⟩:=Option.isSome_iff_exists.mp h
      have:=a2 x hx u hu
      subst this
      exact⟨x,hx,xI _ _ hu⟩
     ·rcases uB _ _ h with h | h
      ·have:=a2 g hg u h;omega
      ·omega
    ·left
     refine⟨by rw[get,if_neg (λz=>c z.1)];exact a1,λg hg u h=>?_⟩
     rcases uB _ _ h with h | h
     ·exfalso
      refine c ((rd _ e a1).mpr ?_)
      show(ws.map (·.2)).any (λg=>(lk fs g).isSome)=true
      exact List.any_eq_true.mpr ⟨g,hg,by rw[h];rfl⟩
     ·omega
   ·right
    refine⟨v,old _ _ a1,a2,⟨x,hx,xI _ _ a3⟩,λg hg u h=>?_⟩
    rcases uB _ _ h with h | h
    ·exact a4 g hg u h
    ·have:=I.lt i v a1;omega
  | dR w to=>
   rcases A with ⟨a1,a2⟩ | ⟨v,a1,a2,a3,x,hx,a4⟩
   ·by_cases c:i∈fresh b fs
    ·right
     have r:=(rd _ e a1).mp c
     have r:to.all (λg=>(lk fs g).isSome)=true:=r
     have r:=List.all_eq_true.mp r
     obtain⟨x,hx,h⟩:=a2 r
     refine⟨L,by rw[get,if_pos ⟨c,by omega⟩],L1,λg hg=>?_,x,hx,xI _ _ h⟩
     obtain⟨u,hu⟩:=Option.isSome_iff_exists.mp (r g hg)
     exact⟨u,xI _ _ hu,by have:=I.lt _ _ (pj.mp hu);omega⟩
    ·left
     refine⟨by rw[get,if_neg (λz=>c z.1)];exact a1,λh=>?_⟩
     have:¬∀g∈to,(lk fs g).isSome=true:=λz=>c ((rd _ e a1).mpr (show to.all (λg=>(lk fs g).isSome)=true from List.all_eq_true.mpr z))
     have:∃g∈to,lk fs g=none:=by
      apply Classical.byContradiction
      intro n
      apply this
      intro g hg
      cases h:lk fs g with
      | none=>exact absurd ⟨g,hg,h⟩ n
      | some u=>rfl
     obtain⟨g,hg,hn⟩:=this
     obtain⟨u,hu⟩:=Option.isSome_iff_exists.mp (h g hg)
     refine⟨g,hg,?_⟩
     rcases uB _ _ hu with h | h
     ·rw[hn] at h;cases h
     ·rw[hu,h];congr 1;omega
   ·right
    refine⟨v,old _ _ a1,a2,λg hg=>?_,x,hx,xI _ _ a4⟩
    obtain⟨u,h1,h2⟩:=a3 g hg
    exact⟨u,xI _ _ h1,h2⟩
noncomputable def Ends (fs:Fs) (i:Nat):Pl->Prop
 | .fin _=>fs[i]?=some (some 0)
 | .eO _ ws=>(fs[i]?=some none/\∀g∈ws.map (·.2),lk fs g=none)\/
   ∃v,fs[i]?=some (some v)/\1<=v/\(∃g∈ws.map (·.2),lk fs g=some (v - 1))/\∀g∈ws.map (·.2),∀u,lk fs g=some u->v - 1<=u
 | .dR _ to=>(fs[i]?=some none/\∃g∈to,lk fs g=none)\/
   ∃v,fs[i]?=some (some v)/\1<=v/\(∀g∈to,∃u,lk fs g=some u/\u<=v - 1)/\∃g∈to,lk fs g=some (v - 1)
theorem BY {b:List Pl} {fs:Fs} {L:Int} (I:Inv b fs L) (h:fresh b fs=[]) (i:Nat) (q:Pl) (e:b[i]?=some q):Ends fs i q:=by
 have hi:i<b.length:=(List.getElem?_eq_some_iff.mp e).1
 have nr:fs[i]?=some none->C6 fs q=false:=λe2=>by
  have:i∉fresh b fs:=by rw[h];simp
  rw[hV] at this
  cases hr:C6 fs q with
  | false=>rfl
  | true=>
   exfalso
   apply this
   refine⟨hi,?_⟩
   unfold fY
   rw[YR,e2,e]
   simp [hr]
 have A:=I.at_ i q e
 cases q with
 | fin w=>exact A
 | eO w ws=>
  rcases A with ⟨a1,a2⟩ | A
  ·refine .inl ⟨a1,λg hg=>?_⟩
   have:=nr a1
   have:(ws.map (·.2)).any (λg=>(lk fs g).isSome)=false:=this
   have:=List.any_eq_false.mp this g hg
   simpa using this
  ·exact .inr A
 | dR w to=>
  rcases A with ⟨a1,a2⟩ | A
  ·refine .inl ⟨a1,?_⟩
   have:=nr a1
   have:to.all (λg=>(lk fs g).isSome)=false:=this
   obtain⟨g,hg,n⟩:=List.all_eq_false.mp this
   exact⟨g,hg,by simpa using n⟩
  ·exact .inr A
theorem jO {b:List Pl} {fs:Fs} (hl:fs.length=b.length) (h:fresh b fs≠[]) (L:Int):dS (cD fs (fresh b fs) L)<dS fs:=qm L h λ_ hi=>mS hl hi
theorem qo {b:List Pl} (gb:Good b):∀(m:Nat) (fs:Fs) (L:Int),Inv b fs L->1<=L->dS fs<=m->∃L',L'<=L+m/\Inv b (run b m fs L) L'/\fresh b (run b m fs L)=[]
 | 0,fs,L,I,L1,h=>by
  refine⟨L,by omega,I,?_⟩
  show fresh b fs=[]
  apply Classical.byContradiction
  intro n
  have:=jO I.len n L
  omega
 | m+1,fs,L,I,L1,h=>by
  show ∃L',L'<=L+ (m+1:Nat)/\Inv b (if fresh b fs=[] then fs else run b m (cD fs (fresh b fs) L) (L+1)) L'/\fresh b (if fresh b fs=[] then fs else run b m (cD fs (fresh b fs) L) (L+1))=[]
  by_cases c:fresh b fs=[]
  ·rw[if_pos c]
   exact⟨L,by omega,I,c⟩
  ·rw[if_neg c]
   have:=jO I.len c L
   obtain⟨L',h1,h2⟩:=qo gb m _ _ (step gb I L1) (by omega) (by omega)
   exact⟨L',by omega,h2⟩
theorem mT (fs:Fs):dS fs<=fs.length:=List.countP_le_length
theorem BZ {b:List Pl} (gb:Good b):(r8 b).length=b.length:=by
 obtain⟨L,_,I,_⟩:=qo gb b.length _ _ (y4 gb) (by decide) (by have:=mT (og b);simpa [og] using this)
 exact I.len
theorem y7 {b:List Pl} (gb:Good b) (i:Nat) (q:Pl) (e:b[i]?=some q):Ends (r8 b) i q:=by
 obtain⟨L,_,I,f⟩:=qo gb b.length _ _ (y4 gb) (by decide) (by have:=mT (og b);simpa [og] using this)
 exact BY I f i q e
end Lv
namespace Bf
open L2 Lv
abbrev En:=Int×Option (Int×Nat)×List Nat
noncomputable def keys (es:List En):List Int:=es.map (·.1)
noncomputable def fB (b:List Pl) (k:Int):List Int:=match b[k.toNat]? with | some q=>fX q | none=>[]
noncomputable def fN (here:Int) (path:List Nat):Nat->List Int->List En->List En
 | _,[],es=>es
 | w,g::gs,es=>fN here path (w+1) gs (if g∈keys es then es else es++ [(g,some (here,w),path++ [w])])
noncomputable def A8 (b:List Pl):Nat->Nat->List En->List En
 | 0,_,es=>es
 | m+1,t,es=>match es[t]? with | none=>es | some e=>A8 b m (t+1) (fN e.1 e.2.2 0 (fB b e.1) es)
noncomputable def steps (b:List Pl) (start:Int):List En:=A8 b (b.length+1) 0 [(start,none,[])]
structure Core (b:List Pl) (start:Int) (es:List En):Prop where
 nd:(keys es).Nodup
 qW:∀e∈es,0<=e.1/\e.1<b.length
 hd:es[0]?=some (start,none,[])
 par:∀(i:Nat) e,es[i]?=some e->0<i->∃(j:Nat) (ej:En) (w:Nat),j<i/\es[j]?=some ej/\e.2.1=some (ej.1,w)/\(fB b ej.1)[w]?=some e.1/\e.2.2=ej.2.2++ [w]
 mono:∀(i j:Nat) ei ej,i<=j->es[i]?=some ei->es[j]?=some ej->ei.2.2.length<=ej.2.2.length
structure F6 (b:List Pl) (start:Int) (t:Nat) (e:En) (k:Nat) (es:List En):Prop extends Core b start es where
 at_:es[t]?=some e
 top:∀(i:Nat) ei,es[i]?=some ei->ei.2.2.length<=e.2.2.length+1
 old:∀(j:Nat) ej,j<t->es[j]?=some ej->∀g∈fB b ej.1,∃(i:Nat) (ei:En),es[i]?=some ei/\ei.1=g/\ei.2.2.length<=ej.2.2.length+1
 now:∀g∈(fB b e.1).take k,∃(i:Nat) (ei:En),es[i]?=some ei/\ei.1=g/\ei.2.2.length<=e.2.2.length+1
structure Inv (b:List Pl) (start:Int) (t:Nat) (es:List En):Prop extends Core b start es where
 top:∀(i:Nat) ei et,es[i]?=some ei->es[t]?=some et->ei.2.2.length<=et.2.2.length+1
 old:∀(j:Nat) ej,j<t->es[j]?=some ej->∀g∈fB b ej.1,∃(i:Nat) (ei:En),es[i]?=some ei/\ei.1=g/\ei.2.2.length<=ej.2.2.length+1
theorem d9 {α:Type} {l:List α} {x y:α} {i:Nat} (h:(l++ [x])[i]?=some y):l[i]?=some y\/(i=l.length/\y=x):=by
 by_cases c:i<l.length
 ·rw[Zw c] at h
  exact .inl h
 ·rw[Zv (by omega)] at h
  have:i - l.length=0:=by
   by_cases q:i - l.length=0
   ·exact q
   ·rw[Y5 (by simp;omega)] at h;cases h
  rw[this] at h
  simp at h
  exact .inr ⟨by omega,h.symm⟩
theorem up {α:Type} {l:List α} {x y:α} {i:Nat} (h:l[i]?=some y):(l++ [x])[i]?=some y:=by
 rw[Zw (List.getElem?_eq_some_iff.mp h).1]
 exact h
theorem one {b:List Pl} (gb:Good b) {start:Int} {t:Nat} {e:En} {k:Nat} {es:List En} {g:Int} (M:F6 b start t e k es) (hg:(fB b e.1)[k]?=some g):
  F6 b start t e (k+1) (if g∈keys es then es else es++ [(g,some (e.1,k),e.2.2++ [k])]):=by
 have tk:(fB b e.1).take (k+1)=(fB b e.1).take k++ [g]:=by rw[Ze,hg];rfl
 by_cases c:g∈keys es
 ·rw[if_pos c]
  refine {M with now:=λx hx=>?_}
  rw[tk] at hx
  rcases List.mem_append.mp hx with hx | hx
  ·exact M.now x hx
  ·have:x=g:=by simpa using hx
   subst this
   obtain⟨ei,Jj,rfl⟩:=List.mem_map.mp c
   obtain⟨i,hi⟩:=Zk Jj
   exact⟨i,ei,hi,rfl,M.top i ei hi⟩
 ·rw[if_neg c]
  have rg:0<=g/\g<b.length:=by
   unfold fB at hg
   cases hb:b[e.1.toNat]? with
   | none=>rw[hb] at hg;simp at hg
   | some q=>
    rw[hb] at hg
    exact gb.qW q (YU hb) g (YU hg)
  have tl:t<es.length:=(List.getElem?_eq_some_iff.mp M.at_).1
  refine⟨⟨?_,λx hx=>?_,up M.hd,λi x hx i0=>?_,λi j ei ej J0 hi hj=>?_⟩,up M.at_,λi ei hi=>?_,λj ej hj ED x hx=>?_,λx hx=>?_⟩
  ·unfold keys at *
   rw[Zc]
   refine List.nodup_append.mpr ⟨M.nd,by simp,λa ha b' Up=>?_⟩
   have:b'=g:=by simpa using Up
   subst this
   intro z
   exact c (z▸ha)
  ·rcases List.mem_append.mp hx with hx | hx
   ·exact M.qW x hx
   ·have:x=(g,some (e.1,k),e.2.2++ [k]):=by simpa using hx
    subst this
    exact rg
  ·rcases d9 hx with hx | ⟨rfl,rfl⟩
   ·obtain⟨j,ej,w,a1,a2,a3⟩:=M.par i x hx i0
    exact⟨j,ej,w,a1,up a2,a3⟩
   ·exact⟨t,e,k,tl,up M.at_,rfl,hg,rfl⟩
  ·rcases d9 hi with hi | ⟨rfl,rfl⟩
   ·rcases d9 hj with hj | ⟨rfl,rfl⟩
    ·exact M.mono i j ei ej J0 hi hj
    ·have:=M.top i ei hi
     simpa using this
   ·rcases d9 hj with hj | ⟨rfl,rfl⟩
    ·have:=(List.getElem?_eq_some_iff.mp hj).1
     omega
    ·exact YS _
  ·rcases d9 hi with hi | ⟨rfl,rfl⟩
   ·exact M.top i ei hi
   ·simp
  ·rcases d9 ED with ED | ⟨rfl,rfl⟩
   ·obtain⟨i,ei,a1,a2⟩:=M.old j ej hj ED x hx
    exact⟨i,ei,up a1,a2⟩
   ·omega
  ·rw[tk] at hx
   rcases List.mem_append.mp hx with hx | hx
   ·obtain⟨i,ei,a1,a2⟩:=M.now x hx
    exact⟨i,ei,up a1,a2⟩
   ·have:x=g:=by simpa using hx
    subst this
    exact⟨es.length,(x,some (e.1,k),e.2.2++ [k]),by rw[Zv (YS _)];simp,rfl,by simp⟩
theorem mU {b:List Pl} (gb:Good b) {start:Int} {t:Nat} {e:En}:∀(gs:List Int) (k:Nat) (es:List En),F6 b start t e k es->(∀(i:Nat) g,gs[i]?=some g->(fB b e.1)[k+i]?=some g)->F6 b start t e (k+gs.length) (fN e.1 e.2.2 k gs es)
 | [],k,es,M,_=>M
 | g::gs,k,es,M,h=>by
  have:=mU gb gs (k+1) _ (one gb M (h 0 g rfl)) λi x hx=>by
   have:=h (i+1) x (by simpa using hx)
   rwa [show k+1+i=k+ (i+1) by omega]
  rw[Y4,show k+ (gs.length+1)=k+1+gs.length by omega]
  exact this
theorem y8 {b:List Pl} {start:Int} {t:Nat} {e:En} {es:List En} (I:Inv b start t es) (h:es[t]?=some e):F6 b start t e 0 es:=
 {I with at_:=h,top:=λi ei hi=>I.top i ei e hi h,now:=λg hg=>by simp at hg}
theorem EE {b:List Pl} {start:Int} {t:Nat} {e:En} {es:List En} (M:F6 b start t e (fB b e.1).length es):Inv b start (t+1) es:=by
 refine {M with top:=λi ei et hi ht=>?_,old:=λj ej hj ED g hg=>?_}
 ·have h1:=M.top i ei hi
  have h2:=M.mono t (t+1) e et (by omega) M.at_ ht
  omega
 ·by_cases c:j<t
  ·exact M.old j ej c ED g hg
  ·have:j=t:=by omega
   subst this
   rw[M.at_] at ED
   cases ED
   exact M.now g (by rw[Zi (YS _)];exact hg)
theorem turn {b:List Pl} (gb:Good b) {start:Int} {t:Nat} {e:En} {es:List En} (I:Inv b start t es) (h:es[t]?=some e):Inv b start (t+1) (fN e.1 e.2.2 0 (fB b e.1) es):=by
 have:=mU gb (fB b e.1) 0 es (y8 I h) λi g hg=>by rw[ZI];exact hg
 rw[ZI] at this
 exact EE this
theorem y4 {b:List Pl} {start:Int} (h0:0<=start) (h1:start<b.length):Inv b start 0 [(start,none,[])]:=by
 refine⟨⟨by simp [keys],λe he=>?_,rfl,λi e he hi=>?_,λi j ei ej _ hi hj=>?_⟩,λi ei et hi ht=>?_,λj ej hj=>by omega⟩
 ·have:e=(start,none,[]):=by simpa using he
  subst this
  exact⟨h0,h1⟩
 ·rw[Y5 (by simp;omega)] at he
  cases he
 ·cases i with
  | zero=>simp at hi;subst hi;simp
  | succ i=>rw[Y5 (by simp)] at hi;cases hi
 ·cases i with
  | zero=>simp at hi;subst hi;simp
  | succ i=>rw[Y5 (by simp)] at hi;cases hi
theorem vV:∀(n:Nat) (l:List Nat),l.Nodup->(∀x∈l,x<n)->l.length<=n
 | 0,l,_,h=>by
  cases l with
  | nil=>exact YS _
  | cons x r=>have:=h x YV;omega
 | n+1,l,nd,h=>by
  have:=vV n (l.erase n) (nd.erase n) λx hx=>by
   have h1:=(nd.mem_erase_iff).mp hx
   have:=h x h1.2
   have:=h1.1
   omega
  have:=List.length_erase (a:=n) (l:=l)
  split at this <;>omega
theorem EF {n:Nat} {l:List Int} (nd:l.Nodup) (h:∀x∈l,0<=x/\x< (n:Int)):l.length<=n:=by
 have:=vV n (l.map Int.toNat) (by
  unfold List.Nodup at *
  rw[List.pairwise_map]
  refine nd.imp_of_mem ?_
  intro a b ha hb R6 z
  have:=h a ha
  have:=h b hb
  omega) λx hx=>by
   obtain⟨y,hy,rfl⟩:=List.mem_map.mp hx
   have:=h y hy
   omega
 rwa [YO] at this
theorem Core.rR {b:List Pl} {start:Int} {es:List En} (C:Core b start es):es.length<=b.length:=by
 have:=EF (n:=b.length) C.nd λx hx=>by
  obtain⟨e,he,rfl⟩:=List.mem_map.mp hx
  exact C.qW e he
 unfold keys at this
 rwa [YO] at this
theorem vW {b:List Pl} (gb:Good b) {start:Int}:∀(m t:Nat) (es:List En),Inv b start t es->b.length<m+t->∃t',es.length<=(A8 b m t es).length/\(A8 b m t es).length<=t'/\Inv b start t' (A8 b m t es)
 | 0,t,es,I,h=>⟨t,YS _,by have:=I.toCore.rR;show es.length<=t;omega,I⟩
 | m+1,t,es,I,h=>by
  unfold A8
  cases ht:es[t]? with
  | none=>exact⟨t,YS _,List.getElem?_eq_none_iff.mp ht,I⟩
  | some e=>
   obtain⟨t',a1,a2,a3⟩:=vW gb m (t+1) _ (turn gb I ht) (by omega)
   refine⟨t',Y2 ?_ a1,a2,a3⟩
   have:∀(gs:List Int) (k:Nat) (es:List En),es.length<=(fN e.1 e.2.2 k gs es).length:=by
    intro gs
    induction gs with
    | nil=>intro k es;exact YS _
    | cons g gs ih=>
     intro k es
     unfold fN
     refine Y2 ?_ (ih (k+1) _)
     split
     ·exact YS _
     ·simp
   exact this _ _ _
theorem fb {b:List Pl} (gb:Good b) {start:Int} (h0:0<=start) (h1:start<b.length):Core b start (steps b start)/\
  ∀(j:Nat) ej,(steps b start)[j]?=some ej->∀g∈fB b ej.1,∃(i:Nat) (ei:En),(steps b start)[i]?=some ei/\ei.1=g/\ei.2.2.length<=ej.2.2.length+1:=by
 obtain⟨t,_,a2,I⟩:=vW gb (b.length+1) 0 _ (y4 (b:=b) h0 h1) (by omega)
 refine⟨I.toCore,λj ej hj=>I.old j ej ?_ hj⟩
 have:=(List.getElem?_eq_some_iff.mp hj).1
 show j<t
 unfold steps at *
 omega
noncomputable def go (b:List Pl):Int->List Nat->Option Int
 | k,[]=>some k
 | k,w::ws=>match (fB b k)[w]? with | some g=>go b g ws | none=>none
theorem vX {b:List Pl}:∀{ws:List Nat} {k g:Int} {w:Nat},go b k (ws++ [w])=(match go b k ws with | some x=>(fB b x)[w]? | none=>none)
 | [],k,g,w=>by
  show(match (fB b k)[w]? with | some g=>go b g [] | none=>none)=(fB b k)[w]?
  cases (fB b k)[w]? <;>rfl
 | v::ws,k,g,w=>by
  show(match (fB b k)[v]? with | some g=>go b g (ws++ [w]) | none=>none)=(match (match (fB b k)[v]? with | some g=>go b g ws | none=>none) with | some x=>(fB b x)[w]? | none=>none)
  cases (fB b k)[v]? with
  | none=>rfl
  | some x=>exact vX (g:=g)
theorem B1 {b:List Pl} {start:Int} {es:List En} (C:Core b start es):∀(i:Nat) (e:En),es[i]?=some e->go b start e.2.2=some e.1:=by
 intro i
 induction i using Nat.strongRecOn with
 | ind i ih=>
  intro e he
  by_cases c:i=0
  ·subst c
   rw[C.hd] at he
   cases he
   rfl
  ·obtain⟨j,ej,w,a1,a2,a3,a4,a5⟩:=C.par i e he (by omega)
   rw[a5,vX (g:=e.1),ih j a1 ej a2]
   exact a4
end Bf
namespace PySem
section
variable {prog : Program} {w : World} {A : Around} {E : Value -> Shared -> Prop} {s : Shared}
end
end PySem
namespace L2
open PySem PySem.Spec PyProof.Rows PySem.W
section
variable {X : Cx} {K : PySem.W.Frag}
noncomputable def tRev (K:PySem.W.Frag) (te:TE):TE:=λσ H Q=>te σ H λv H1=>∃p xs,v=.ref p/\aZ K H1 p xs/\∀l,H1 l=none->Q (.ref l) (upd H1 l (.lst xs.reverse))
noncomputable def tD1 (tk tv:TE):TE:=λσ H Q=>∀d,H d=none->tk σ (upd H d (.dK [])) λx H1=>tv σ H1 λv H2=>∃k,x=kV k/\H2 d=some (.dK [])/\Q (.ref d) (upd H2 d (.dK [(k,v)]))
theorem G7 {ke ve:Expr} {tk tv:TE} {pos:Pos} (hk:PE X ke tk) (hv:PE X ve tv):PE X (.Dict [some ke] [ve] pos) (tD1 tk tv):=by
 intro pins s σ H Q I h
 refine wpAny_Dict_pairs (knd:=b8 X.prog X.w) (pairs:=[(eval ke X.env,do let x <-eval ve X.env;standAt pos;pure x)]) rfl (by simp) (by simp) ?_
 have fr:=I.bJ.fresh (a:=s.heap.objs.size) (YS _)
 have I1:Inv X pins σ (upd H s.heap.objs.size (.dK [])) {s with heap:=s.heap.push {cls:=.type "dict",data:=.dict #[]}}:=I.laid (t':=s.toks) (λ_ _ q=>Heap.get?_push_of_some _ q) (YS _) (rQ s.heap I.BF)
 unfold evalPairs
 refine wpAny_bind (bU (hk pins _ σ _ _ I1 (h _ fr)) λku s1 cI=>?_)
 obtain⟨x,H1,I2,rx,q1⟩:=cI
 refine wpAny_bind (wpAny_holding (wpAny_bind (bU (hv pins _ σ _ _ I2 q1) λvu s2 ⟨v,H2,I3,rv,k,ex,hd,q⟩=>wpAny_bind (wpAny_standAt (wpAny_pure ?_)))))
 subst ex
 obtain⟨z,lo,vs,kv,dd⟩:=C0 I3.bJ hd
 cases kv
 unfold evalPairs
 refine wpAny_bind (wpAny_holding (wpAny_pure (wpAny_pure ⟨[(k,vu)],⟨o3 rx,rfl,trivial⟩,dd,λh' BH hs=>?_⟩)))
 have BH:h'.DictOf (b8 X.prog X.w) s.heap.objs.size [(k,vu)]:=BH
 have he:∃q,h'.get? s.heap.objs.size=some q:=let ⟨q,_,_,hq,_⟩:=BH;⟨q,hq⟩
 exact⟨.ref s.heap.objs.size,_,pZ I3 (by rw[hd];exact True.intro) hs he (yL (kvs:=[(k,v)]) (by rw[sizeLine_eq];simp) lo (.cons ⟨rfl,rv⟩ .nil) BH),rfl,q⟩
end
end L2
namespace KS
open PySem PySem.W PyProof.Rows
noncomputable def Bd {α:Type} (lt:Nat->Nat->Bool) (n:Nat) (post:α->Prop):KasT α->Prop
 | .ret a=>post a
 | .ask i j k=>i<n/\j<n/\Bd lt n post (k (lt i j))
theorem Bd.bind {α β:Type} {lt:Nat->Nat->Bool} {n:Nat} {post:β->Prop} {f:α->KasT β}:∀{t:KasT α},Bd lt n (λa=>Bd lt n post (f a)) t->Bd lt n post (t.bind f)
 | .ret _,h=>h
 | .ask _ _ _,⟨h1,h2,h3⟩=>⟨h1,h2,Bd.bind h3⟩
theorem Bd.mono {α:Type} {lt:Nat->Nat->Bool} {n:Nat} {p q:α->Prop} (R7:∀a,p a->q a):∀{t:KasT α},Bd lt n p t->Bd lt n q t
 | .ret _,h=>R7 _ h
 | .ask _ _ _,⟨h1,h2,h3⟩=>⟨h1,h2,Bd.mono R7 h3⟩
theorem Bd.wp {α:Type} {lt:Nat->Nat->Bool} {n:Nat} {post:α->Prop} {cmp:Nat->Nat->(Bool->Shared->Prop)->Shared->Prop} {Q:α->Shared->Prop} {s:Shared}
  (hc:∀i j C,i<n->j<n->C (lt i j) s->cmp i j C s) (hq:∀a,post a->Q a s):∀{t:KasT α},Bd lt n post t->t.kasWp cmp Q s
 | .ret _,h=>hq _ h
 | .ask i j k,⟨h1,h2,h3⟩=>hc i j _ h1 h2 (Bd.wp hc hq h3)
noncomputable def Pm (n:Nat) (p:Array Nat):Prop:=p.Perm (List.range n).toArray
theorem Pm.lt {n:Nat} {p:Array Nat} (h:Pm n p) (hn:0<n) (i:Nat):p.getD i 0<n:=by
 by_cases hi:i<p.size
 ·have:p.getD i 0=p[i]:=by simp [Array.getD,hi]
  rw[this]
  have hm:p[i]∈p:=Array.getElem_mem hi
  have:=(Array.Perm.mem_iff h).mp hm
  simpa using this
 ·have:p.getD i 0=0:=by simp [Array.getD,hi]
  omega
theorem Pm.rev {n:Nat} {p:Array Nat} (h:Pm n p) (i j:Nat):Pm n (kas_rev p i j):=(mirror_perm _ _ _ _).trans h
theorem Pm.Uq {n:Nat} {p:Array Nat} (h:Pm n p) (i j:Nat):Pm n (bubble p i j):=(bubble_perm _ _ _).trans h
variable {lt : Nat -> Nat -> Bool} {n : Nat}
theorem uN {p:Array Nat} (h:Pm n p) (hn:0<n):∀f k,Bd lt n (λ_=>True) (kas_asc p f k)
 | 0,_=>trivial
 | f+1,k=>by
  refine⟨h.lt hn _,h.lt hn _,?_⟩
  dsimp only
  split
  ·trivial
  ·exact uN h hn f (k+1)
theorem lP (hn:0<n):∀f (p:Array Nat) k q,Pm n p->Bd lt n (λr=>Pm n r.1) (kas_desc f p k q)
 | 0,p,k,q,h=>h
 | f+1,p,k,q,h=>by
  refine⟨h.lt hn _,h.lt hn _,?_⟩
  dsimp only
  split
  ·split
   ·exact lP hn f _ _ _ (h.rev _ _)
   ·exact lP hn f _ _ _ h
  ·refine⟨h.lt hn _,h.lt hn _,?_⟩
   dsimp only
   split
   ·exact h
   ·exact lP hn f _ _ _ h
theorem sj (hn:0<n) {p:Array Nat} (h:Pm n p) (m r:Nat):Bd lt n (λr=>Pm n r.2) (kas_tail3 m r p):=
 Bd.bind ((uN (h.rev _ _) hn _ _).mono λ_ _=>h.rev _ _)
theorem j7 (hn:0<n) {p:Array Nat} (h:Pm n p) (m r:Nat):Bd lt n (λr=>Pm n r.2) (kas_descPart m r p):=by
 refine Bd.bind ((lP hn _ _ _ _ h).mono λx hx=>?_)
 split
 ·exact sj hn (hx.rev _ _) _ _
 ·exact sj hn hx _ _
theorem y9 (hn:0<n) {p:Array Nat} (h:Pm n p) (r:Nat):Bd lt n (λr=>Pm n r.2) (kas_count r p):=by
 refine Bd.bind ((uN h hn _ _).mono λm _=>?_)
 split
 ·exact h
 ·split
  ·refine⟨h.lt hn _,h.lt hn _,?_⟩
   dsimp only
   split
   ·exact h
   ·exact j7 hn (h.rev _ _) _ _
  ·exact j7 hn h _ _
theorem mV (hn:0<n) {p:Array Nat} (h:Pm n p) (k:Nat):∀f l r,Bd lt n (λ_=>True) (kas_place p k f l r)
 | 0,_,_=>trivial
 | f+1,l,r=>by
  unfold kas_place
  split
  ·trivial
  ·refine⟨h.lt hn _,h.lt hn _,?_⟩
   dsimp only
   split
   ·exact mV hn h k f _ _
   ·exact mV hn h k f _ _
theorem za (hn:0<n):∀f (p:Array Nat) k,Pm n p->Bd lt n (Pm n) (kas_bin f p k)
 | 0,p,k,h=>h
 | f+1,p,k,h=>Bd.bind ((mV hn h k _ _ _).mono λl _=>za hn f _ _ (h.Uq _ _))
theorem B2 (hn:0<n):Bd lt n (Pm n) (kas_sort n):=by
 refine Bd.bind ((y9 hn (Array.Perm.refl _) n).mono λr hr=>?_)
 split
 ·exact za hn _ _ _ hr
 ·exact hr
section
variable {prog : Program} {w : World} {A : Around} {E : Value -> Shared -> Prop} {s : Shared} {vs : List Value} {κ : SortKind}
theorem kH {R:List Nat->Prop} {a:Addr} {m:Nat} {P:PySem.Fin->Shared->Prop} (ho:s.heap.get? a=some (seqObj "list" vs.toArray m)) (EG:vs.length<64)
  (mH:2<=vs.length->∀h' Q',(∀b o,b≠a->s.heap.get? b=some o->h'.get? b=some o)->Q' κ {s with heap:=h'}->wpAny (model prog w) A (keyKind' vs.toArray) Q' (λ_ _=>False) {s with heap:=h'})
  (zb:∀i j h' C,i<vs.length->j<vs.length->(∀b o,b≠a->s.heap.get? b=some o->h'.get? b=some o)->C (lt i j) {s with heap:=h'}->kas_ask prog w A κ vs i j C {s with heap:=h'})
  (Kv:2<=vs.length->Bd lt vs.length (λp=>Pm vs.length p/\R p.toList) (kas_sort vs.length)) (h0:vs.length<2->R (List.range vs.length))
  (h:∀p:List Nat,p.Perm (List.range vs.length)->R p->P (.done (.ret .none)) {s with heap:=sortedHeap s.heap a vs (p.map λi=>vs.getD i Value.none).toArray}):
  wpAny (model prog w) A (Builtin.«list.sort» ⟨[.ref a],[]⟩) P E s:=by
 rw[list_sort_plain]
 have ha:a<s.heap.objs.size:=Heap.lt_size ho
 refine wpAny_bind (listItems_at ho rfl ?_)
 refine wpAny_bind (listUpdate_at ho rfl ?_ (by rw[Y1,sizeLine_eq];omega) (Y3 _))
 obtain⟨e1,R8⟩:∃e1,(s.heap.update a (Obj.mapSeq λ_=>#[])).get? a=some (seqObj "list" #[] e1):=⟨_,get?_update_seq ho (λ_=>#[])⟩
 refine wpAny_bind (seqEpoch_at R8 rfl ?_)
 refine wpAny_bind (wpAny_newTuple ?_ (by show vs.length<=_;rw[sizeLine_eq];omega))
 refine wpAny_bind (wpAny_newList ?_ (Y3 _))
 refine wpAny_holding ?_
 have Jl:(((s.heap.update a (Obj.mapSeq λ_=>#[])).push (seqObj "tuple" vs.toArray 0)).push (seqObj "list" #[] 0)).get? a=some (seqObj "list" #[] e1):=by
  rw[Heap.get?_push_ne _ _ _ (by rw[size_push',Heap.size_update];exact Y0 (ZY ha)),Heap.get?_push_ne _ _ _ (by rw[Heap.size_update];exact Y0 ha)]
  exact R8
 have keep:∀b o,b≠a->s.heap.get? b=some o->(((s.heap.update a (Obj.mapSeq λ_=>#[])).push (seqObj "tuple" vs.toArray 0)).push (seqObj "list" #[] 0)).get? b=some o:=λb o hb q=>
  Heap.get?_push_of_some _ (Heap.get?_push_of_some _ ((Heap.get?_update_other _ _ (Ne.symm hb)).trans q))
 show wpAny (model prog w) A _ P E {s with heap:=((s.heap.update a (Obj.mapSeq λ_=>#[])).push (seqObj "tuple" vs.toArray 0)).push (seqObj "list" #[] 0)}
 dsimp only
 have hsz:vs.toArray.size=vs.length:=by simp
 have gd:∀(l:List Value),(List.range l.length).map (λi=>l.getD i Value.none)=l:=λl=>by
  apply ZP
  intro i
  rw[YT]
  by_cases hi:i<l.length
  ·rw[Zz hi,YQ hi]
   simp [hi]
  ·rw[Y5 (by rw[Y9];omega),Y5 (by omega)]
   rfl
 by_cases h2:vs.toArray.size<2
 ·rw[if_pos h2,if_pos h2]
  refine wpAny_bind (wpAny_pure ?_)
  rw[StateT.run_pure]
  refine wpAny_bind (wpAny_pure ?_)
  dsimp only
  refine wpAny_bind (seqEpoch_at Jl rfl ?_)
  refine wpAny_bind (listUpdate_at Jl rfl ?_ (hsz2:=by rw[Array.size_map];show(pairsOf vs).size<=_;rw[pairsOf_size,sizeLine_eq];omega))
  simp only[bne_self_eq_false,Bool.false_eq_true,if_false]
  have e:(vs.toArray.zip vs.toArray).map (fun(x:Keyed)=>x.2)=((List.range vs.length).map λi=>vs.getD i Value.none).toArray:=by
   rw[gd]
   apply Array.toList_inj.mp
   rw[Array.toList_map]
   simp [List.map_snd_zip]
  refine wpAny_pure ?_
  have:=h (List.range vs.length) (List.Perm.refl _) (h0 (by omega))
  rw[<-e] at this
  exact this
 ·have yZ:2<=vs.length:=by omega
  rw[if_neg h2,if_neg h2]
  refine wpAny_bind (wpAny_mono (mH yZ _ (λκ' s'=>κ'=κ/\s'={s with heap:=((s.heap.update a (Obj.mapSeq λ_=>#[])).push (seqObj "tuple" vs.toArray 0)).push (seqObj "list" #[] 0)}) keep ⟨rfl,rfl⟩) ?_ λ_ _ x=>x.elim)
  rintro κ' s' ⟨rfl,rfl⟩
  refine wpAny_bind (wpAny_mono (kat_run (ks:=vs) (vs:=vs) (Q:=λrE s'=>s'={s with heap:=((s.heap.update a (Obj.mapSeq λ_=>#[])).push (seqObj "tuple" vs.toArray 0)).push (seqObj "list" #[] 0)}/\∃p:Array Nat,p.size=vs.length/\arrOf rE=p.map (kas_item (vs.toArray.zip vs.toArray))/\failedOf rE=none/\Pm vs.length p/\R p.toList)
   (G:=λp s'=>s'={s with heap:=((s.heap.update a (Obj.mapSeq λ_=>#[])).push (seqObj "tuple" vs.toArray 0)).push (seqObj "list" #[] 0)}/\Pm vs.length p/\R p.toList) rfl yZ EG (λp rE s' a1 a2 a3 a4=>⟨a4.1,p,a1,a2,a3,a4.2⟩) ?_) ?_ λ_ _ e=>e)
  ·exact Bd.wp (lt:=lt) (n:=vs.length) (λi j C hi hj hC=>zb i j _ C hi hj keep hC) (λp hp=>⟨rfl,hp⟩) (Kv yZ)
  rintro⟨⟨⟩,rE⟩ s' ⟨rfl,p,hp,Ur,hf,pm,hR⟩
  dsimp only
  have BR:=kat_snds (ks:=vs) (vs:=vs) rfl Ur
  rw[BR]
  refine wpAny_bind (seqEpoch_at Jl rfl ?_)
  refine wpAny_bind (listUpdate_at Jl rfl ?_ (Y3 _) (by rw[Y1,YO,Array.length_toList,hp,sizeLine_eq];omega))
  rw[hf]
  simp only[bne_self_eq_false,Bool.false_eq_true,if_false]
  exact wpAny_pure (h p.toList (by have:=pm.toList;simpa using this) hR)
theorem qp {R:List Nat->Prop} {l:Addr} {Q:Value->Shared->Prop} (hl:s.heap.IsList l vs.toArray) (EG:vs.length<64)
  (mH:2<=vs.length->∀h' Q',(∀b o,s.heap.get? b=some o->h'.get? b=some o)->Q' κ {s with heap:=h'}->wpAny (model prog w) A.in1.in1 (keyKind' vs.toArray) Q' (λ_ _=>False) {s with heap:=h'})
  (zb:∀i j h' C,i<vs.length->j<vs.length->(∀b o,s.heap.get? b=some o->h'.get? b=some o)->C (lt i j) {s with heap:=h'}->kas_ask prog w A.in1.in1 κ vs i j C {s with heap:=h'})
  (Kv:2<=vs.length->Bd lt vs.length (λp=>Pm vs.length p/\R p.toList) (kas_sort vs.length)) (h0:vs.length<2->R (List.range vs.length))
  (h:∀p:List Nat,p.Perm (List.range vs.length)->R p->Q (.ref (s.heap.objs.size+1)) {s with heap:=sortedAll s.heap vs (p.map λi=>vs.getD i Value.none).toArray}):
  wpAny (model prog w) A (call (.builtin "sorted") [.ref l]) Q E s:=by
 refine Calls.call_function_entry kind_sorted plain_sorted entry_sorted (args_sorted1 _) ?_
 unfold Builtin.«sorted»
 refine wpAny_bind (m:=checkCount "sorted" 1 1 _) (wpAny_pure ?_)
 refine wpAny_bind (collect_list hl ?_ (by rw[sizeLine_eq];omega))
 refine wpAny_bind (wpAny_newList ?_ (by rw[sizeLine_eq];omega))
 have hsz:((s.heap.push (seqObj "list" #[] 0)).update s.heap.objs.size (Obj.mapSeq (·++vs.toArray))).objs.size=s.heap.objs.size+1:=by
  rw[Heap.size_update,size_push']
 have CQ:(((s.heap.push (seqObj "list" #[] 0)).update s.heap.objs.size (Obj.mapSeq (·++vs.toArray))).push (seqObj "list" vs.toArray 0)).get? (s.heap.objs.size+1)=some (seqObj "list" vs.toArray 0):=by
  rw[<-hsz];exact Heap.get?_push_size _ rfl
 have keep:∀b o,s.heap.get? b=some o->b≠s.heap.objs.size+1/\(((s.heap.push (seqObj "list" #[] 0)).update s.heap.objs.size (Obj.mapSeq (·++vs.toArray))).push (seqObj "list" vs.toArray 0)).get? b=some o:=λb o q=>by
  have fG:b<s.heap.objs.size:=Heap.lt_size q
  refine⟨Y0 (ZY fG),?_⟩
  rw[Heap.get?_push_ne _ _ _ (by rw[hsz];exact Y0 (ZY fG)),Heap.get?_update_ne _ _ _ _ (Y0 fG),Heap.get?_push_ne _ _ _ (Y0 fG)]
  exact q
 show wpAny _ _ _ _ _ {s with heap:=((s.heap.push (seqObj "list" #[] 0)).update s.heap.objs.size (Obj.mapSeq (·++vs.toArray))).push (seqObj "list" vs.toArray 0)}
 rw[hsz]
 refine wpAny_bind (wpAny_holding (wpAny_call_entry slot_list_sort ⟨_,CQ,rfl⟩ entry_list_sort (kH (lt:=lt) (κ:=κ) CQ EG (λh2 h' Q' hk hq=>mH h2 h' Q' (λb o q=>hk b o (keep b o q).1 (keep b o q).2) hq)
  (λi j h' C hi hj hk hC=>zb i j h' C hi hj (λb o q=>hk b o (keep b o q).1 (keep b o q).2) hC) Kv h0 λp hp hR=>⟨_,rfl,?_⟩) (args_list_sort _)))
 exact wpAny_pure ⟨_,rfl,h p hp hR⟩
theorem sk {l:Addr} {Q:Value->Shared->Prop} (hl:s.heap.IsList l vs.toArray) (EG:vs.length<64)
  (mH:2<=vs.length->∀h' Q',(∀b o,s.heap.get? b=some o->h'.get? b=some o)->Q' κ {s with heap:=h'}->wpAny (model prog w) A.in1.in1 (keyKind' vs.toArray) Q' (λ_ _=>False) {s with heap:=h'})
  (zb:∀i j h' C,i<vs.length->j<vs.length->(∀b o,s.heap.get? b=some o->h'.get? b=some o)->C (lt i j) {s with heap:=h'}->kas_ask prog w A.in1.in1 κ vs i j C {s with heap:=h'})
  (h:∀p:List Nat,p.Perm (List.range vs.length)->Q (.ref (s.heap.objs.size+1)) {s with heap:=sortedAll s.heap vs (p.map λi=>vs.getD i Value.none).toArray}):
  wpAny (model prog w) A (call (.builtin "sorted") [.ref l]) Q E s:=
 qp (R:=λ_=>True) hl EG mH zb (λh2=>(B2 (by omega)).mono λ_ hp=>⟨hp,trivial⟩) (λ_=>trivial) λp hp _=>h p hp
noncomputable def Kw (x y:Int×Int):Bool:=if x.1=y.1 then decide (x.2<y.2) else decide (x.1<y.1)
theorem B3 {x y:Addr} {ox oy:Obj} {a b c d:Int} {t1 t2 t3 t4:Tok} {n k:Nat} {C:Bool->Shared->Prop} (hx:s.heap.get? x=some ox) (dx:ox.data=.seq #[.int a t1,.int b t2] n) (hy:s.heap.get? y=some oy) (dy:oy.data=.seq #[.int c t3,.int d t4] k)
  (h:C (Kw (a,b) (c,d)) s):wpAny (model prog w) A (keyLt' (tuples' true) (.ref x) (.ref y)) C E s:=by
 refine kat_lt hx dx hy dy (kat_cons (wpAny_eqBool_int ?_))
 unfold Kw at h
 dsimp only at h
 by_cases e:a=c
 ·rw[if_pos e] at h
  subst e
  rw[show(a==a)=true by simp]
  refine kat_yes (kat_cons (wpAny_eqBool_int ?_))
  by_cases e2:b=d
  ·subst e2
   rw[show(b==b)=true by simp]
   refine kat_yes (kat_nil ?_)
   simpa using h
  ·rw[show(b==d)=false by simpa using e2]
   refine kat_no (kat_one _ _ ?_)
   exact CmpOf.ints_lt (P:=λi v=>∃t,v=Value.int (if i=0 then b else d) t) (λi=>if i=0 then b else d) (λi v h=>h) 0 1 _ _ s _ _ ⟨t2,rfl⟩ ⟨t4,rfl⟩ h
 ·rw[if_neg e] at h
  rw[show(a==c)=false by simpa using e]
  exact kat_no (oneLt_int h)
end
end KS
namespace L2
open PySem PySem.Spec PyProof.Rows PySem.W
section
variable {X : Cx} {K : PySem.W.Frag}
theorem xJ {xs:List V} {us:List Value} (r:bj xs us) (p:List Nat) (hp:p.Perm (List.range us.length)):∃ys,ys.Perm xs/\bj ys (p.map λi=>us.getD i Value.none):=by
 have hl:=r.length
 have get:∀i,i<us.length->∃x u,xs[i]?=some x/\us[i]?=some u/\RelV x u:=by
  clear hp hl
  induction r with
  | nil=>intro i hi;simp at hi
  | cons r1 r2 ih=>
   intro i hi
   cases i with
   | zero=>exact⟨_,_,rfl,rfl,r1⟩
   | succ i=>
    obtain⟨x,u,a1,a2,a3⟩:=ih i (by simpa using hi)
    exact⟨x,u,by simpa using a1,by simpa using a2,a3⟩
 refine⟨p.map λi=>xs.getD i .cu,?_,?_⟩
 ·refine(hp.map _).trans ?_
  rw[<-hl]
  have:(List.range xs.length).map (λi=>xs.getD i V.cu)=xs:=by
   apply ZP
   intro i
   rw[YT]
   by_cases hi:i<xs.length
   ·rw[Zz hi,YQ hi]
    simp [hi]
   ·rw[Y5 (by rw[Y9];omega),Y5 (by omega)]
    rfl
  rw[this]
 ·have hb:∀i∈p,i<us.length:=λi hi=>List.mem_range.mp (hp.mem_iff.mp hi)
  clear hp
  induction p with
  | nil=>exact .nil
  | cons i p ih=>
   obtain⟨x,u,a1,a2,a3⟩:=get i (hb i YV)
   refine .cons ?_ (ih λj hj=>hb j (YW _ hj))
   show RelV (xs.getD i V.cu) (us.getD i Value.none)
   rw[YR,YR,a1,a2]
   exact a3
noncomputable def zc (H:Hp) (xs:List V):Prop:=∀x∈xs,∃t a b,x=.ref t/\H t=some (.tup [.int a,.int b])
theorem oE:cF X (.builtin "sorted") (λxs H Q=>∃p ys,xs=[.ref p]/\aZ X.K H p ys/\ys.length<64/\zc H ys/\∀l zs,H l=none->zs.Perm ys->Q (.ref l) (upd H l (.lst zs))):=by
 intro pins s σ H xs us Q I r h
 obtain⟨p,ys,rfl,hq,hn,hP,q⟩:=h
 obtain⟨u,rfl,rx⟩:=vals1 r
 cases rx
 obtain⟨aW,rv,pl,hz⟩:=I.list hq
 have hl:=rv.length
 have each:∀v∈aW,∃t o a b t1 t2 n,v=.ref t/\s.heap.get? t=some o/\o.cls=.type "tuple"/\o.data=.seq #[.int a t1,.int b t2] n:=by
  clear hq hl q pl hz hn
  induction rv with
  | nil=>intro v hv;simp at hv
  | cons r1 r2 ih=>
   intro v hv
   rcases List.mem_cons.mp hv with rfl | hv
   ·obtain⟨t,a,b,rfl,ht⟩:=hP _ YV
    cases r1
    obtain⟨X7,v2,tp,_⟩:=I.tuple (eA.of ht)
    obtain⟨o,ho,hc,n,hd⟩:=tp
    cases v2 with
    | cons q1 q2=>
     cases q2 with
     | cons q3 q4=>
      cases q4
      obtain⟨t1,rfl⟩:=q1
      obtain⟨t2,rfl⟩:=q3
      exact⟨t,o,a,b,t1,t2,n,rfl,ho,hc,by simpa using hd⟩
   ·exact ih (λx hx=>hP x (YW _ hx)) v hv
 have G8:∀i:Nat,∃pr:Int×Int,∀v,aW[i]?=some v->∃t o t1 t2 n,v=.ref t/\s.heap.get? t=some o/\o.cls=.type "tuple"/\o.data=.seq #[.int pr.1 t1,.int pr.2 t2] n:=λi=>by
  cases hi:aW[i]? with
  | none=>exact⟨(0,0),λv hv=>by cases hv⟩
  | some v=>
   obtain⟨t,o,a,b,t1,t2,n,e1,e2,e3,e4⟩:=each v (YU hi)
   exact⟨(a,b),λv' hv=>by cases hv;exact⟨t,o,t1,t2,n,e1,e2,e3,e4⟩⟩
 obtain⟨f,hf⟩:=Classical.skolem.mp G8
 refine KS.sk (lt:=λi j=>KS.Kw (f i) (f j)) (κ:=tuples' true) pl.isList (by omega) (λh2 h' Q' hk hq=>?_) (λi j h' C hi hj hk hC=>?_) λp hp=>?_
 ·have kB:∀(l:List Value),(∀v∈l,v∈aW)->∃fs,KatTups h' l fs/\fs.length=l.length/\∀v∈fs,∃a t,v=Value.int a t:=by
   intro l
   induction l with
   | nil=>intro _;exact⟨[],trivial,rfl,λv hv=>by simp at hv⟩
   | cons v l ih=>
    intro hm
    obtain⟨fs,k1,k2,k3⟩:=ih λx hx=>hm x (YW _ hx)
    obtain⟨t,o,a,b,t1,t2,n,rfl,e2,e3,e4⟩:=each v (hm v YV)
    refine⟨.int a t1::fs,KatTups.cons (hk _ _ e2) e3 e4 rfl k1,by simp [k2],λx hx=>?_⟩
    rcases List.mem_cons.mp hx with rfl | hx
    ·exact⟨a,t1,rfl⟩
    ·exact k3 x hx
  obtain⟨fs,k1,k2,k3⟩:=kB aW λv hv=>hv
  exact kat_kind (T:=.type "int") (s:={s with heap:=h'}) k1 (by omega) (λv hv=>by obtain⟨a,t,rfl⟩:=k3 v hv;exact .now) (by decide) hq
 ·obtain⟨t,o,t1,t2,n,e1,e2,e3,e4⟩:=hf i _ (YQ hi)
  obtain⟨t',o',t3,t4,n',C7,Us,X8,Ut⟩:=hf j _ (YQ hj)
  unfold kas_ask
  rw[YR,YR,YQ hi,YQ hj,e1,C7]
  exact KS.B3 (s:={s with heap:=h'}) (hk _ _ e2) e4 (hk _ _ Us) Ut hC
 ·obtain⟨zs,pz,vz⟩:=xJ rv p hp
  obtain⟨e,he⟩:=sortedAll_at s.heap aW (p.map λi=>aW.getD i Value.none).toArray
  have fr:=I.bJ.fresh (a:=s.heap.objs.size+1) (Nat.le_succ _)
  refine⟨.ref (s.heap.objs.size+1),_,I.laid (t':=s.toks) (λ_ _=>sortedAll_old) (Nat.le_succ _) (o:=.lst zs) ⟨?_,_,e,vz,?_⟩,rfl,q _ _ fr pz⟩
  ·rw[pz.length_eq,sizeLine_eq];omega
  ·exact he
theorem mW (hK:X.K=K:=by rfl):cF X (.builtin "sorted") (λxs H Q=>∃p ys,xs=[.ref p]/\aZ K H p ys/\ys.length<64/\zc H ys/\∀l zs,H l=none->zs.Perm ys->Q (.ref l) (upd H l (.lst zs))):=by subst hK;exact oE
end
end L2
namespace Lv
open L2
theorem EH {fs:Fs} {k:Nat} {u:Int}:lk fs (k:Int)=some u↔fs[k]?=some (some u):=by
 rw[pj,YY]
noncomputable def nm (s:List Nat) (g:Int):Int:=((s.getD g.toNat 0:Nat):Int)
noncomputable def Uu (s:List Nat):Pl->Pl
 | .fin w=>.fin w
 | .eO w ws=>.eO w (ws.map λp=>(p.1,nm s p.2))
 | .dR w to=>.dR w (to.map (nm s))
noncomputable def turn (s:List Nat) (b:List Pl):List Pl:=(List.range b.length).map λj=>Uu s (b.getD (s.idxOf j) (.fin (0,1)))
section
variable {s : List Nat} {n : Nat} (p : s.Perm (List.range n))
include p
theorem ze:s.Nodup:=p.nodup_iff.mpr List.nodup_range
theorem zf {i i' j:Nat} (h:s[i]?=some j) (h':s[i']?=some j):i=i':=by
 have l1:=(List.getElem?_eq_some_iff.mp h).1
 exact(List.getElem?_inj l1 (ze p)).mp (h.trans h'.symm)
theorem qq {i j:Nat} (h:s[i]?=some j):s.idxOf j=i:=by
 have hm:j∈s:=YU h
 have hl:s.idxOf j<s.length:=List.idxOf_lt_length_iff.mpr hm
 have:s[s.idxOf j]?=some j:=by rw[YQ hl,ZQ]
 exact zf p this h
end
end Lv
namespace PySem
open Builtin Builtin.Str
section
variable {prog : Program} {w : World} {A : Around} {E : Value -> Shared -> Prop} {s : Shared} {x y : Str} {t u : Tok} {Q : Value -> Shared -> Prop}
end
end PySem
namespace L2
open PySem PySem.Spec PyProof.Rows PySem.W
section
variable {X : Cx} {K : PySem.W.Frag}
noncomputable def Uv (z:Str):It:=⟨λi _=>i<z.cps.size,λi H x H'=>H'=H/\∃c,z.cps[i]?=some c/\x=.str ⟨#[c]⟩,λi _=>z.cps.size<=i⟩
noncomputable def iStr (tl:TE):TI:=λσ H R=>tl σ H λx H1=>∃z,x=.str z/\z.cps.all (·<128)=true/\R (Uv z) H1
theorem sr {x:Str} {i:Int} {pos:Pos} (hg:Gl X x) (h:∃t,X.mg x=some (.int i t)) (hd:(x==("__debug__":Str))=false:=by decide):PE X (.Name x pos) (tC (.int i)):=by
 obtain⟨t,h⟩:=h
 exact Bo hg h ⟨t,rfl⟩ hd
end
end L2
namespace PySem
end PySem
namespace PySem
section
variable {M : Model} {A : Around} {E : Value -> Shared -> Prop} {s : Shared} {env : Env}
end
end PySem
namespace L2
open PySem PySem.Spec PyProof.Rows PySem.W
section
variable {M : Model} {A : Around} {E : Value -> Shared -> Prop} {s : Shared} {B : Heap} {l : List Env} {ad L : Addr} {cls a0 : Value}
end
section
variable {P : Program} {w : World} {K : PySem.W.Frag} {mg : Str -> Option Value} {base : Heap} {N : List Str} {qual : Str} {scope : Scope} {f : Addr} {cw : Value} {A : Around} {outer : List Env} {s0 : Shared} {H0 : Hp} {E : XK}
end
end L2
namespace L2
open PySem PySem.Spec PyProof.Rows PySem.W
section
variable {X : Cx}
noncomputable def G9:V->List V->Hp->VK->Prop:=λx vs H Q=>∃l xs i y,x=.ref l/\vs=[.int i,y]/\H l=some (.lst xs)/\0<=i/\i<=(xs.length:Nat)/\xs.length<sizeLine/\Q .cu (upd H l (.lst (xs.take i.toNat++y::xs.drop i.toNat)))
theorem xK:GG X "list.insert" G9:=by
 intro pins s σ H x vs v us Q I rx rv h
 obtain⟨l,xs,i,y,rfl,rfl,hH,h0,h1,hz,q⟩:=h
 cases rx
 obtain⟨u1,u2,rfl,⟨t,rfl⟩,ru⟩:=vals2 rv
 obtain⟨z,aW,n,r,hl,e⟩:=I.yJ hH
 have sl:=sizeLine_eq
 refine call_meets PySem.F.slot_list_insert ⟨_,e,rfl⟩ PySem.F.entry_list_insert (PySem.F.args_list_insert_3 _ _ _) (AutoSeq1.list_insert_list_int_val_1 l aW.toArray n i t u2 (by rw[fitsIndex_both (by omega) (by omega)];decide) (by rw[Y1];omega)) ⟨e,?_⟩
 have k2:(if i<0 then (i+ (aW.toArray.size:Int)).toNat else min i.toNat aW.toArray.size)=i.toNat:=by
  rw[if_neg (by omega),Y1]
  omega
 refine⟨.cu,_,I.GH (its':=aW.take i.toNat++u2::aW.drop i.toNat) hH e ?_ ?_ ?_,rfl,q⟩
 ·show(aW.toArray.extract 0 (if i<0 then (i+ (aW.toArray.size:Int)).toNat else min i.toNat aW.toArray.size)).push u2++aW.toArray.extract (if i<0 then (i+ (aW.toArray.size:Int)).toNat else min i.toNat aW.toArray.size)=_
  rw[k2]
  apply Array.toList_inj.mp
  simp [Zi]
 ·exact(r.take _).append (.cons ru (r.drop _))
 ·simp
  omega
end
end L2
namespace L2
open PySem PySem.Spec PyProof.Rows
structure mX (P:Program) (w:World) (K:PySem.W.Frag) (mg:Str->Option Value) (base:Heap) (CX:jI) (k:Nat) (x:Str) (C:Addr) (ps:List Str) (sp:Sp):Prop where
 ex:∃f fd,Mk K C f/\dU P w K mg base CX k f fd ps sp/\mg x=some (.ref C)/\Binds K fd ps []
section
variable {X : Cx}
theorem vY {CX:jI} {k:Nat} {x:Str} {C:Addr} {ps:List Str} {sp:Sp} {E:XK} {e:Expr} {es:List Expr} {t:TA} {p pos:Pos} (M:mX X.prog X.w X.K X.mg X.base CX k x C ps sp) (hr:cS (k+1) X.A) (hg:Gl X x) (hx:d4 CX X E) (ha:PA X (e::es) t)
  (yE:(x==("__debug__":Str))=false:=by decide) (he:starEach (e::es) X.env=(false,eval e X.env)::starEach es X.env:=by rfl) (hpl:(backTo pos (starEach es X.env)).any (·.1)=false:=by rfl):
  PE X (.Call (.Name x p) (e::es) [] pos) (oV C sp [] E t):=by
 obtain⟨f,fd,m,F,hm,hb⟩:=M.ex
 exact Bz m F hr hg hm hb .nil hx ha yE he hpl
end
structure Kx (K:PySem.W.Frag) (mg:Str->Option Value) (x qual:Str) (st:Stmt) (C:Addr):Prop where
 ex:∃f fd,uE K "__init__" qual st f fd/\Mk K C f/\mg x=some (.ref C)
theorem Kx.dW {P:Program} {w:World} {K:PySem.W.Frag} {mg:Str->Option Value} {base:Heap} {CX:jI} {x qual:Str} {st:Stmt} {C:Addr} {ps:List Str} {k:Nat} {sp:Sp} (D:Kx K mg x qual st C)
  (hb:∀(kV doc pm:Value) (an:Option Addr) (cw ct:Value) (us:List Value),us.length=ps.length->bindArgs (PySem.W.fnOf "__init__" qual (aK st) (aI st) (ae st) .none kV doc pm an cw ct) ⟨us,[]⟩=pure (ps.zip us))
  (h:∀f fd,uE K "__init__" qual st f fd->dU P w K mg base CX k f fd ps sp):mX P w K mg base CX k x C ps sp:=by
 obtain⟨f,fd,F,m,hm⟩:=D.ex
 exact⟨f,fd,m,h f fd F,hm,F.binds hb⟩
end L2
namespace L2
open PySem PySem.Spec PyProof.Rows PySem.W
noncomputable def EI (K:PySem.W.Frag) (a:Addr) (n:Nat):It:=
 ⟨λi H=>∃xs x,aZ K H a xs/\xs.length=n/\xs.reverse[i]?=some x,λi H x H'=>H'=H/\∀xs,aZ K H a xs->xs.reverse[i]?=some x,λi _=>i=n⟩
theorem zg {P:Program} {w:World} {K:PySem.W.Frag} {tg:Expr} (a it:Addr) (n:Nat):Turn P w K tg (EI K a n) [it] it (λi h=>h.IsRevIter it a ((n:Int) - 1 - (i:Int))) where
 mem:=by simp
 obj:=λi h st b hb=>by
  have e:b=it:=by simpa using hb
  subst e
  obtain⟨o,e,c,d⟩:=st
  exact⟨o,e,λv z=>by rw[d] at z;cases z⟩
 keep:=λi h h' st k=>st.at λo e=>k it (by simp) o e
 item:=by
  intro X hP hw hK hc i pins s σ H E I hf st hg
  subst hP hw hK
  obtain⟨xs,x,hq,hn,hx⟩:=hg
  subst hn
  obtain⟨aW,rv,p,hz⟩:=I.list hq
  have hi:i<xs.length:=by
   have:=(List.getElem?_eq_some_iff.mp hx).1
   rwa [List.length_reverse] at this
  have kD:=hx
  rw[List.getElem?_reverse hi] at kD
  obtain⟨u,hu,ru⟩:=rv.get kD
  obtain⟨f0,f1,f2,f3,f4,f5⟩:=hf it (by simp)
  have e:(xs.length:Int) - 1 - (i:Int)=((xs.length - 1 - i:Nat):Int):=by omega
  have X9:=st
  rw[e] at st
  refine wpAny_pyNext_rev_item st p.isList (x:=u) (by simpa using hu) λh' rE sb=>?_
  have I1:Inv X pins σ H {s with heap:=h'}:=I.turned (t':=s.toks) (λb o hb e=>(sb.2 b hb).trans e) f0 f1 f3 f4 f5
  obtain⟨o,e1,c,d⟩:=id rE
  have e2:((xs.length - 1 - i:Nat):Int) - 1=(xs.length:Int) - 1 - ((i+1:Nat):Int):=by omega
  rw[e2] at rE
  exact⟨u,rfl,vA (s:={s with heap:=h'}) e1 c d (by decide) ⟨x,H,I1,ru,⟨rfl,λys hy=>by rw[I.gA hy hq];exact hx⟩,rE,λb hb=>(hf b hb).1⟩⟩
 done:=by
  intro X hP hw hK hc i pins s σ H E I hf st hg
  subst hP hw hK
  have hg:i=n:=hg
  subst hg
  obtain⟨f0,f1,f2,f3,f4,f5⟩:=hf it (by simp)
  have e:(i:Int) - 1 - (i:Int)= -1:=by omega
  rw[e] at st
  exact wpAny_pyNext_rev_end (I.ok.hd hc) st λh' eb=>⟨rfl,I.turned (t':=s.toks) (λb o hb e=>eb b o hb e) f0 f1 f3 f4 f5⟩
 self:=λ_ _ _ _ _ st h=>wpAny_pyIter_revIter st h
section
variable {X : Cx}
noncomputable def zh (K:PySem.W.Frag) (ta:TA):TI:=λσ H R=>ta σ H λvs H1=>∃a xs,vs=[.ref a]/\aZ K H1 a xs/\R (EI K a xs.length) H1
theorem su {tg a:Expr} {ta:TA} {p pos:Pos} (hg:Gl X "reversed") (hm:X.mg "reversed"=none) (ha:PA X [a] ta) (hs:starEach [a] X.env=[(false,eval a X.env)]:=by rfl):
  PI X tg (.Call (.Name "reversed" p) [a] [] pos) (zh X.K ta):=by
 intro pins s σ H R I h
 refine Call_ (fC I hg hm rfl (Z5 (bU (ha pos pins s σ H _ I h) λus s1 cI=>?_) hs rfl))
 obtain⟨vs,H1,I1,r1,q1⟩:=cI
 obtain⟨a,xs,e,q1,q⟩:=q1
 subst e
 obtain⟨u,rfl,ra⟩:=vals1 r1
 cases ra
 obtain⟨fM,v1,p1,z1⟩:=I1.list q1
 have lv:=v1.length
 refine call_reversed_list p1.isList ?_
 have I2:Inv X pins σ H1 {s1 with heap:=s1.heap.push (revObj a ((fM.toArray.size:Int) - 1))}:=I1.kept (t':=s1.toks) λb o e=>Heap.get?_push_of_some _ e
 have R9:(s1.heap.push (revObj a ((fM.toArray.size:Int) - 1))).IsRevIter s1.heap.objs.size a ((xs.length:Int) - 1 - ((0:Nat):Int)):=⟨_,Heap.get?_push_size _ rfl,rfl,by
  have e:(fM.toArray.size:Int) - 1=(xs.length:Int) - 1 - ((0:Nat):Int):=by rw[Y1];omega
  rw[e]
  rfl⟩
 refine wpAny_pyIter_revIter R9 ?_
 refine⟨s1.heap.objs.size,[s1.heap.objs.size],_,_,H1,rfl,I2,zg a s1.heap.objs.size xs.length,R9,λc hc=>?_,q⟩
 have y2:s1.heap.objs.size<=c:=Nat.le_of_eq (List.mem_singleton.mp hc).symm
 exact I1.rD y2 (I1.bJ.fresh y2)
theorem qr {K:PySem.W.Frag} {tg a:Expr} {ta:TA} {p pos:Pos} (hg:Gl X "reversed") (hm:X.mg "reversed"=none) (ha:PA X [a] ta) (n1:noStar a=true:=by rfl) (hK:X.K=K:=by rfl):
  PI X tg (.Call (.Name "reversed" p) [a] [] pos) (zh K ta):=by subst hK;exact su hg hm ha (by rw[se n1];rfl)
end
theorem B4 {K:PySem.W.Frag} {a:Addr} {xs:List V} {Ok:Hp->Prop} (h:∀H,Ok H->aZ K H a xs):Src (EI K a xs.length) Ok xs.length (λi x H H3=>H3=H/\xs.reverse[i]?=some x) where
 go:=λi H hi ok=>⟨xs,xs.reverse[i]'(by rw[List.length_reverse];exact hi),h H ok,rfl,YQ _⟩
 t6:=λi H x H3 hi ok ⟨e,e1⟩=>⟨e,e1 xs (h H ok)⟩
 stop:=λH ok=>rfl
end L2
namespace L2
open PySem PySem.Spec PyProof.Rows
structure mY (base:Heap) (mg:Str->Option Value) (tc tp:Addr):Prop where
 blt:base.BuiltinsAt mg tp
 code:PySem.W.CodeHd base tc tp
theorem law_callT {P:Program} {tp tc:Addr} {dsc:Array Value} {w:World} {K:PySem.W.Frag} {mg mb:Str->Option Value} {CX:jI} {k:Nat} {fa a:Addr} {fd:FuncData} {x:Str} {sp:Sp} {s₁:Shared} {vs:List Value} {ns:List Int}
  (KX:K.In s₁.heap) (Jm:s₁.heap.Ns mainGlobals mg) (hb:s₁.heap.Ns builtinsNs mb) (Ky:∀x:Str,x≠"__name__"->mb x=bootBuiltins x) (EJ:s₁.heap.NoLimit) (hg:s₁.gens=#[])
  (ha:s₁.heap.get? a=some {cls:=.type "list",data:=.seq vs.toArray}) (hi:IntsAre vs ns) (hl:ns.length<=sizeLine) (hr:cS k callerA)
  (j8:s₁.heap.get? tp=some (PySem.W.tabObj #[])) (Sa:PySem.W.CodeHd s₁.heap tc tp) (Uw:K.lookup tp=none) (B5:s₁.heap.BuiltinsAt mg tp)
  (F:∀base:Heap,K.In base->base.Ns mainGlobals mg->mY base mg tc tp->dU P w K mg base CX k fa fd [x] sp) (zi:∀(s:Shared) (u:Value),BindsTo s fd ⟨[u],[]⟩ [(x,u)])
  (A6:∀H:Hp,H tp=some (.pQ dsc)->aZ K H a (ns.map V.int)->sp [.ref a] H (λv _=>v=.bl true) λ_ _ _=>False)
  (Kz:∀H e s',CX [] H s₁ (λ_ _ _=>False) e s'->False):
  codeAny (model P w) callerA (.call (.ref fa) ⟨[.ref a],[]⟩) (λr s'=>r=.ok (.ret (.bool true))/\OldK s₁.heap s'.heap/\s'.os=s₁.os/\AllBare s'.gens) s₁:=by
 have rv:=o6 hi
 have KA:=hi.length
 have Sb:tp≠a:=λz=>by rw[z,ha] at j8;cases j8
 have core:∀H:Hp,(∀b,b≠tp->H b=none\/∃o xs,H b=some (.qX o (.lst xs)))->H tp=some (.pQ dsc)->aZ K H a (ns.map V.int)->gX P w H s₁.heap->(∀b,H b≠none->b=a\/b=tp)->(H a≠none->K.lookup a=none)->
   codeAny (model P w) callerA (.call (.ref fa) ⟨[.ref a],[]⟩) (λr s'=>r=.ok (.ret (.bool true))/\OldK s₁.heap s'.heap/\s'.os=s₁.os/\AllBare s'.gens) s₁:=by
  intro H hO hT hS bJ hA hK
  have qt:∀{b:Addr} {o:Obj},s₁.heap.get? b=some o->H b=none->(mm s₁.heap H).get? b=some o:=λe n=>yl e n
  have GC:∀{b:Addr} {o:Obj} {es:Array DictEntry} {ep:Nat},s₁.heap.get? b=some o->o.data=.dict es ep->H b=none:=λ{b o es ep} e d=>by
   cases q:H b with
   | none=>rfl
   | some u=>
    rcases hA b (by rw[q];simp) with e' | e'
    ·subst e'
     rw[ha] at e;cases e
     have d':Data.seq vs.toArray _=Data.dict es ep:=d
     cases d'
    ·subst e'
     rw[j8] at e;cases e
     cases d
  have Jn:∀{b:Addr} {m:Str->Option Value},s₁.heap.Ns b m->(mm s₁.heap H).Ns b m:=λ{b m} ⟨o,es,ep,e,d,r⟩=>⟨o,es,ep,qt e (GC e d),d,r⟩
  have Sd:K.In (mm s₁.heap H):=λb o e=>qt (KX b o e) (by
   cases q:H b with
   | none=>rfl
   | some u=>
    rcases hA b (by rw[q];simp) with e' | e'
    ·subst e'
     rw[hK (by rw[q];simp)] at e;cases e
    ·subst e'
     rw[Uw] at e;cases e)
  have hM:Mod K mg (mm s₁.heap H):=⟨Sd,Jn Jm,⟨mb,Jn hb,Ky⟩,let ⟨mc,h1,h2⟩:=EJ;⟨mc,Jn h1,h2⟩⟩
  have e0:uw P w K mg (mm s₁.heap H) callerA [] s₁ H:=⟨rfl,hM,λb o e=>Bi e,Nat.le_of_eq (xc _ _),trivial,λb hb=>absurd (show b∈([]:List Addr) from hb) (by simp),bJ,.of_eq hg⟩
  have Ux:mY (mm s₁.heap H) mg tc tp:=by
   have look:∀{b:Addr} {o:Obj},s₁.heap.get? b=some o->b≠tp->o.cls≠.type "list"->(mm s₁.heap H).get? b=some o:=λ{b o} e n c=>qt e (by
    cases q:H b with
    | none=>rfl
    | some u=>
     rcases hA b (by rw[q];simp) with e' | e'
     ·subst e'
      rw[ha] at e;cases e
      exact absurd rfl c
     ·exact absurd e' n)
   obtain⟨bm,o,b1,b2,b3,b4,b5,b6,b7⟩:=B5
   obtain⟨o',Uy,file,tf,flags,tg,Uz,text,tt,c1,c2,c3⟩:=Sa
   exact⟨⟨bm,o,b1,b2,b3,b4,look b5 b4 (λz=>by rw[b6] at z;injection z with z;exact absurd z (by decide)),b6,b7⟩,⟨o',Uy,file,tf,flags,tg,Uz,text,tt,look c1 c3.2.2.2.2.2.2.2 (λz=>by rw[c2] at z;injection z with z;exact absurd z (by decide)),c2,c3⟩⟩
  refine codeAny_mono ((F _ Sd (Jn Jm) Ux).run callerA [] s₁ H ⟨[.ref a],[]⟩ [.ref a] [.ref a] _ _ hr e0 (zi s₁ (.ref a)) (.cons rfl .nil) (A6 H hT hS)) λr s' h=>?_
  cases r with
  | error e=>exact(Kz H e s' h).elim
  | ok fl=>
   cases fl with
   | next=>exact False.elim h
   | brk=>exact False.elim h
   | cont=>exact False.elim h
   | ret u=>
    obtain⟨v,H',os,bare,un,Ha,r',q⟩:=h
    have q':v=.bl true:=q
    subst q'
    obtain rfl:u=Value.bool true:=r'
    have fin:∀b o,b≠tp->s₁.heap.get? b=some o->s'.heap.get? b=some o:=λb o hb e=>by
     cases q:H b with
     | none=>exact un.keep b o e q (by intro z;exact absurd (show b∈([]:List Addr) from z) (by simp)) (by simp)
     | some u=>
      rcases hO b hb with z | ⟨ob,xs,z⟩
      ·rw[q] at z;cases z
      ·have z2:=un.mi b ob _ z
       obtain⟨e1,_⟩:=bJ b _ z
       obtain⟨e2,_⟩:=Ha b _ z2
       rw[e] at e1;cases e1
       exact e2
    obtain⟨more,hm⟩:=un.ml tp _ hT
    obtain⟨mo,e7,_⟩:=Ha tp _ hm
    have Hb:s'.heap.get? tp=some {cls:=.none,data:=.fields (#[]++mo)}:=by rw[Array.empty_append];exact e7
    refine⟨rfl,⟨λb o e=>?_,λb o e=>?_⟩,os,bare⟩
    ·by_cases hb:b=tp
     ·subst hb
      rw[j8] at e
      cases e
      exact .inr (.inl ⟨(Sa.tab j8).isCodeTable,rfl,_,mo,rfl,Hb⟩)
     ·exact .inl (fin b o hb e)
    ·by_cases hb:b=tp
     ·subst hb
      exact⟨_,Hb⟩
     ·exact⟨o,fin b o hb e⟩
 cases hk:K.lookup a with
 | some o=>
  have e:=KX a o hk
  rw[ha] at e
  cases e
  refine core (λb=>if b=tp then some (.pQ dsc) else none) (λb hb=>.inl (if_neg hb)) (if_pos rfl) (.inr ⟨_,vs.toArray,_,hk,rfl,rfl,rfl,by rw[Y1,KA];exact hl,by simpa using rv⟩) (λb u z=>?_) (λb z=>?_) λz=>absurd (if_neg (Ne.symm Sb)) z
  ·by_cases hb:b=tp
   ·have z':=(if_pos hb).symm.trans z
    cases z'
    subst hb
    exact⟨#[],j8,.inl rfl⟩
   ·have z':=(if_neg hb).symm.trans z
    cases z'
  ·by_cases hb:b=tp
   ·exact .inr hb
   ·exact absurd (if_neg hb) z
 | none=>
  refine core (λb=>if b=tp then some (.pQ dsc) else if b=a then some (.qX {cls:=.type "list",data:=.seq vs.toArray} (.lst (ns.map V.int))) else none) (λb hb=>?_) (if_pos rfl) (.inl (.inr ⟨{cls:=.type "list",data:=.seq vs.toArray},(if_neg (Ne.symm Sb)).trans (if_pos rfl)⟩)) (λb u z=>?_) (λb z=>?_) λ_=>hk
  ·by_cases B6:b=a
   ·exact .inr ⟨_,_,(if_neg hb).trans (if_pos B6)⟩
   ·exact .inl ((if_neg hb).trans (if_neg B6))
  ·by_cases hb:b=tp
   ·have z':=(if_pos hb).symm.trans z
    cases z'
    subst hb
    exact⟨#[],j8,.inl rfl⟩
   ·by_cases B6:b=a
    ·have z':=((if_neg hb).trans (if_pos B6)).symm.trans z
     cases z'
     subst B6
     exact⟨ha,by rw[YO];exact hl,vs,_,rv,ha⟩
    ·have z':=((if_neg hb).trans (if_neg B6)).symm.trans z
     cases z'
  ·by_cases hb:b=tp
   ·exact .inr hb
   ·by_cases B6:b=a
    ·exact .inl B6
    ·exact absurd ((if_neg hb).trans (if_neg B6)) z
theorem zj {tp tc:Addr} {dsc:Array Value} {l:PySem.W.OpenLaw} {n k:Nat} {q:Program} {loose:List Str} {XP:(Str->Option Value)->Heap->Prop} {YP:World->Heap->Prop} {d:DefRec} {K:Params->PySem.W.Frag} {CX:World->jI} {sp:World->Sp} {x:Str}
  (hn:l.most=some n) (Je:n<=sizeLine) (GO:d.params.defaults=[]) (hr:cS k callerA)
  (hY:∀(w:World) (h:Heap),YP w h->(K w.params).In h)
  (KC:∀(w:World) (h:Heap),YP w h->h.get? tp=some (PySem.W.tabObj #[])/\PySem.W.CodeHd h tc tp/\(K w.params).lookup tp=none)
  (F:∀(w:World) (mg:Str->Option Value) (fa:Addr) (h:Heap),(K w.params).In h->h.Ns mainGlobals mg->mg d.name=some (.ref fa)->
   ∃fd:FuncData,(∀(s:Shared) (u:Value),BindsTo s fd ⟨[u],[]⟩ [(x,u)])/\
    ∀base:Heap,(K w.params).In base->base.Ns mainGlobals mg->mY base mg tc tp->dU l.prog w (K w.params) mg base (CX w) k fa fd [x] (sp w))
  (A6:∀(w:World) (H:Hp) (a:Addr) (ns:List Int),ns.length<=n->H tp=some (.pQ dsc)->aZ (K w.params) H a (ns.map V.int)->sp w [.ref a] H (λv _=>v=.bl true) λ_ _ _=>False)
  (Kz:∀(w:World) (H:Hp) (s:Shared) (e:Value) (s':Shared),CX w [] H s (λ_ _ _=>False) e s'->False):
  PySem.W.WalkO q loose XP YP l.row.toRowW d [] (λf vs=>PySem.call f vs):=by
 refine A7.rS hn GO λw s₀ s₁ mg mb fa o pm cd doc a vs ns G Y ho hd rC GP Ef hints hlen hg=>?_
 have KX:=hY w _ Y
 obtain⟨fd,hb,hF⟩:=F w mg fa _ KX G.T.g GP
 obtain⟨t1,t2,t3⟩:=KC w _ Y
 have B5:s₁.heap.BuiltinsAt mg tp:=by
  obtain⟨bm,ob,b1,b2,b3,b4,b5,b6⟩:=G.T.bmain
  refine⟨bm,ob,b1,b2,λq=>?_,λq=>?_,b3,b4,b5,b6⟩
  ·obtain⟨o,es,ep,e,hd,_⟩:=G.T.g
   rw[q,e] at b3;cases b3;rw[hd] at b6;cases b6
  ·rw[q,t1] at b3;cases b3;cases b4
 exact law_callT KX G.T.g G.T.b G.T.builtins G.T.nolimit hg Ef hints (Y2 hlen Je) hr t1 t2 t3 B5 hF hb (λH hO hS=>A6 w H a ns hlen hO hS) λH e s'=>Kz w H s₁ e s'
end L2
namespace L2
open PySem PySem.Spec PyProof.Rows
structure jd (P:Program) (w:World) (K:PySem.W.Frag) (mg:Str->Option Value) (base:Heap) (CX:jI) (k:Nat) (C:Addr) (m:Str) (ps:List Str) (sp:Sp):Prop where
 ex:∃f fd,yA K C m f/\dU P w K mg base CX k f fd ps sp/\Binds K fd ps []
section
variable {X : Cx} {CX : jI} {k : Nat} {C : Addr} {m : Str} {ps : List Str} {sp : Sp} {E : XK} {e o : Expr} {es : List Expr} {ta : TE} {t : TA} {pos apos : Pos} {pl : Sem Bool}
theorem C8 (M:jd X.prog X.w X.K X.mg X.base CX k C m ps sp) (c:xq X.K C) (he:PE X o ta) (hr:cS k X.A) (hx:d4 CX X E) (ha:PA X (e::es) t)
  (hst:starEach (e::es) X.env=(false,eval e X.env)::starEach es X.env:=by rfl) (hpl:(backTo pos (starEach es X.env)).any (·.1)=false:=by rfl)
  (ht:eval (.Call (.Attribute o m apos) (e::es) [] pos) X.env=(do
   let ov <-eval o X.env
   standAt apos.atName
   let (f,first) <-holding [ov] (getMethod ov m pl)
   callWith pos f first (backTo pos (starEach (e::es) X.env)) (backToKw pos (keywordEach [] X.env))):=by rfl):
  PE X (.Call (.Attribute o m apos) (e::es) [] pos) (j1 C m sp [] E ta t):=by
 obtain⟨f,fd,hm,F,hb⟩:=M.ex
 exact By he c hm F hr hb .nil hx ha hst hpl ht
theorem zk (M:jd X.prog X.w X.K X.mg X.base CX k C m ps sp) (c:xq X.K C) (he:PE X o ta) (hr:cS k X.A) (hx:d4 CX X E)
  (ht:eval (.Call (.Attribute o m apos) [] [] pos) X.env=(do
   let ov <-eval o X.env
   standAt apos.atName
   let (f,first) <-holding [ov] (getMethod ov m pl)
   callWith pos f first (backTo pos (starEach [] X.env)) (backToKw pos (keywordEach [] X.env))):=by rfl):
  PE X (.Call (.Attribute o m apos) [] [] pos) (j1 C m sp [] E ta tNil):=by
 obtain⟨f,fd,hm,F,hb⟩:=M.ex
 exact yF he c hm F hr hb .nil hx ht
end
structure Jo (K:PySem.W.Frag) (C:Addr) (m qual:Str) (st:Stmt):Prop where
 ex:∃f fd,uE K m qual st f fd/\yA K C m f
theorem Jo.dW {P:Program} {w:World} {K:PySem.W.Frag} {mg:Str->Option Value} {base:Heap} {CX:jI} {m qual:Str} {st:Stmt} {C:Addr} {ps:List Str} {k:Nat} {sp:Sp} (D:Jo K C m qual st)
  (hb:∀(kV doc pm:Value) (an:Option Addr) (cw ct:Value) (us:List Value),us.length=ps.length->bindArgs (PySem.W.fnOf m qual (aK st) (aI st) (ae st) .none kV doc pm an cw ct) ⟨us,[]⟩=pure (ps.zip us))
  (h:∀f fd,uE K m qual st f fd->dU P w K mg base CX k f fd ps sp):jd P w K mg base CX k C m ps sp:=by
 obtain⟨f,fd,F,hm⟩:=D.ex
 exact⟨f,fd,hm,h f fd F,F.binds hb⟩
end L2
namespace L2
open PySem PySem.Spec PyProof.Rows PySem.W
abbrev hZ (mp:Pos):Arguments:={posonlyargs:=[],args:=[{arg:="members",annotation:=none,pos:=mp}],vararg:=none,kwonlyargs:=[],kw_defaults:=[],kwarg:=none,defaults:=[]}
abbrev fO (p2 p3 p4 p5 p6 p7 p8:Pos):Expr:=.Call (.Name "len" p2) [.Subscript (.Name "reach" p3) (.Subscript (.Name "members" p4) (.Constant (.int 0) 0 p5) p6) p7] [] p8
abbrev cV:Scope:={kind:=.function,names:=[(Str.ofString "members",.local),(Str.ofString "reach",.free),(Str.ofString "len",.globalImplicit)],isGenerator:=false,isCoroutine:=false,more:=[]}
section
variable {prog : Program} {w : World} {A : Around} {s : Shared}
theorem zm {mg mb:Str->Option Value} {qual:Str} {mp p2 p3 p4 p5 p6 p7 p8:Pos} {B7:List (Str×Addr)} {pm C9:Value} {f c1 cell ra b d:Addr} {rs ms:Array Value} {i:Int} {t0:Tok} {kvs:List (Key×Value)} {Q:Value->Shared->Prop} {E:Value->Shared->Prop}
  (hf:s.heap.get? f=some (kla_obj "<lambda>" qual (hZ mp) (fO p2 p3 p4 p5 p6 p7 p8) cV B7 pm c1 C9)) (rC:s.heap.CodeRec (.ref c1) qual) (Hc:A.depth<recursionLimit) (EJ:s.heap.NoLimit)
  (hg:s.heap.Ns mainGlobals mg) (hlen:mg "len"=none) (hb:s.heap.Ns builtinsNs mb) (Ky:∀x:Str,x≠"__name__"->mb x=bootBuiltins x)
  (BU:B7.lookup (Str.ofString "reach")=some cell) (oS:s.heap.IsCell cell (some (.ref ra))) (Jp:s.heap.IsList ra rs) (UA:s.heap.IsList b ms) (h0:ms[0]?=some (.int i t0)) (UB:0<=i) (hi:i<2^63)
  (KD:rs[i.toNat]?=some (.ref d)) (hd:(d==sysModules)=false) (dd:s.heap.DictOf (b8 prog w) d kvs) (Ec:(kvs.length:Int)<2^63)
  (h:∀h' tk t,(∀x o,s.heap.get? x=some o->h'.get? x=some o)->Q (.int kvs.length t) {s with heap:=h',toks:=tk}):
  wpAny (model prog w) A (call (.ref f) [.ref b]) Q E s:=by
 refine wpAny_call (kla_callFunE Hc hf rfl rfl rfl rfl rC ?_)
 have zi:bindArgs (kla_fn "<lambda>" qual (hZ mp) (fO p2 p3 p4 p5 p6 p7 p8) cV B7 pm (.ref c1) C9) ⟨[.ref b],[]⟩=pure [(Str.ofString "members",.ref b)]:=rfl
 rw[zi]
 have UC:∀x∈cV.names,x.2≠NameKind.cell:=by decide +kernel
 have GW:∀x∈[(Str.ofString "members",Value.ref b)],cV.names.lookup x.1=some NameKind.local:=λx hx=>by rw[List.mem_singleton.mp hx];rfl
 refine wpAny_pure (wpAny_newFunctionEnv UC GW (λh₁ Jm Se=>⟨EJ.fresh _ Se,?_⟩) rfl)
 have hk:∀x o,s.heap.get? x=some o->h₁.get? x=some o:=λx o e=>Se.extBut x o (Y0 (Heap.lt_size e)) (Heap.get?_push_of_some _ e)
 show codeAny _ _ (.expr (fO p2 p3 p4 p5 p6 p7 p8) (envX qual cV s.heap.objs.size f (.ref c1) B7)) _ _
 refine kla_codeExpr ?_
 refine wpAny_Call_Name_kw (Calls.Name_function_global rfl rfl (Calls.loadGlobal_builtin (hg.keeps hk) hlen (hb.keeps hk) ((Ky _ (by decide)).trans (show bootBuiltins "len"=some (.builtin "len") from rfl)) ?_) (by decide))
 refine PyProof.Rows.callWith_builtin1 ?_
 refine Calls.spliced_cons (Subscript_ (wpAny_Name (wpAny_loadName_free rfl rfl BU (oS.keeps hk) ?_)))
 refine Subscript_ (wpAny_Name (wpAny_loadName_local rfl rfl Jm (v:=.ref b) rfl (wpAny_Constant_int ?_)))
 obtain⟨om,m1,m2,m3⟩:=UA
 obtain⟨orr,r1,r2,r3⟩:=Jp
 refine item_listR (s:={s with heap:=h₁,toks:=_}) (l:=b) (items:=ms) ⟨om,hk _ _ m1,m2,m3⟩ (by decide) (by decide) (x:=.int i t0) h0 ?_
 refine item_listR (s:={s with heap:=h₁,toks:=_}) (l:=ra) (items:=rs) ⟨orr,hk _ _ r1,r2,r3⟩ UB hi (x:=.ref d) KD (Calls.spliced_nil ?_)
 obtain⟨o,es,ep,e1,e2⟩:=dd
 exact call_len_dict hd (show(Shared.mk _ _ _ _ _).heap.DictOf (b8 prog w) d kvs from⟨o,es,ep,hk _ _ e1,e2⟩) Ec (h _ _ _ hk)
end
noncomputable def zo (tp:Addr) (dsc:Array Value) (i:Nat) (te:TE):TE:=λσ H Q=>te σ H λv H1=>∃(a:Addr) (bs:List Addr) (key:Addr->Int) (ra:Addr) (rs:List V),v=.ref a/\H1 a=some (.lst (List.map V.ref bs))/\bs.length<64/\σ[i]?=some (some (.ref ra))/\H1 ra=some (.lst rs)/\H1 tp=some (.pQ dsc)/\
 (∀b∈bs,∃j xs d kvs,H1 b=some (.lst (.int j::xs))/\0<=j/\j<1000000/\rs[j.toNat]?=some (.ref d)/\H1 d=some (.dK kvs)/\key b=(kvs.length:Int))/\
 ∀p cs H2,az H1 H2->H1 p=none->H2 p=some (.lst (List.map V.ref cs))->cs.Perm bs->cs.Pairwise (λb c=>key b<=key c)->Q (.ref p) H2
noncomputable def A9:Value->Addr
 | .ref a=>a
 | _=>0
theorem pA:∀{bs:List Addr} {aW:List Value},bj (bs.map V.ref) aW->aW=bs.map Value.ref
 | [],_,.nil=>rfl
 | _::bs,_,.cons r t=>by rw[pA (bs:=bs) t,show _=Value.ref _ from r];rfl
section
variable {X : Cx}
theorem zp {i k:Nat} {tc tp:Addr} {dsc:Array Value} {t0:Tok} {e:Expr} {te:TE} {p1 pos kp lp mp p2 p3 p4 p5 p6 p7 p8:Pos} (hg:Gl X "sorted") (hm:X.mg "sorted"=none) (hl:X.mg "len"=none) (hB:mY X.base X.mg tc tp)
  (Dc:X.env.code=.ref tc) (hr:cS k X.A) (He:dsc=#[rawInt lp.line,rawInt lp.col,.str (X.env.qual++"<lambda>") t0]) (he:PE X e te) (hN:X.N[i]?=some "reach":=by rfl) (hv:X.env.kindOf "reach"=some .cell:=by rfl) (n1:noStar e=true:=by rfl):
  PE X (.Call (.Name "sorted" p1) [e] [⟨some "key",.Lambda (hZ mp) (fO p2 p3 p4 p5 p6 p7 p8) cV lp,kp⟩] pos) (zo tp dsc i te):=by
 intro pins s σ H Q I h
 refine wpAny_Call_Name_kw (fC I hg hm (u:=.builtin "sorted") rfl ?_ (by decide) (by decide))
 refine PyProof.Rows.callWith_kw (e:=e) (rest:=[]) ?_ (by rw[se n1];rfl) (by rw[se n1];rfl) rfl rfl
 rw[se n1]
 show wpAny _ _ (spliced [(false,eval e X.env)]) _ _ s
 refine Calls.spliced_cons (bU (he pins s σ H _ I h) λu s1 ⟨x,H1,I1,r1,q1⟩=>Calls.spliced_nil ?_)
 obtain⟨a,bs,key,ra,rs,rfl,ha,EG,eσ,Jp,j8,UD,q⟩:=q1
 cases r1
 obtain⟨cell,ec⟩:=I1.ok.has "reach" (.inl hv)
 obtain⟨cl,Sf,c1,c2,c3⟩:=eM (env:=X.env) (scope:=cV) (λn hn=>by
  have:n="reach":=by
   simp only[List.mem_cons,Prod.mk.injEq,List.not_mem_nil,or_false] at hn
   rcases hn with ⟨_,z⟩ | ⟨z,_⟩ | ⟨_,z⟩
   ·cases z
   ·exact z
   ·cases z
  rw[this]
  exact⟨cell,ec⟩)
 have BU:cl.lookup (Str.ofString "reach")=some cell:=by
  obtain⟨c,ee⟩:=c2 "reach" (.tail _ (.head _))
  have:=c1 _ _ ee
  rw[ec] at this
  cases this
  exact ee
 have mk:∀R:Value->Shared->Prop,(∀f c1 pm C9 H2 s2,Inv X pins σ H2 s2->az H1 H2->s2.heap.get? f=some (kla_obj "<lambda>" (X.env.qual++"<lambda>") (hZ mp) (fO p2 p3 p4 p5 p6 p7 p8) cV cl pm c1 C9)->s2.heap.CodeRec (.ref c1) (X.env.qual++"<lambda>")->R (.ref f) s2)->
   wpAny (model X.prog X.w) X.A (makeFunction "<lambda>" (X.env.qual++"<lambda>") (hZ mp) (.expr (fO p2 p3 p4 p5 p6 p7 p8)) cV X.env [] [] [] lp lp.line) R X.xe s1:=by
  intro R hR
  obtain⟨mo,e1,e2⟩:=I1.bJ tp _ j8
  have KE:=I1.mod.glob.keeps I1.bk
  have hC:=hB.code.keeps I1.bk
  have Sg:=hB.blt.keeps I1.bk
  rcases e2 with rfl | ⟨l,c,c',qn,t,f1,rfl,f3,f4⟩
  ·refine kla_makeFunction (mg:=X.mg) (c:=tc) (P:=tp) Sf I1.ok.glob KE Dc hC e1 trivial rfl (λz=>?_) Sg λc' C9 h' tk hx y2 fG KG Jq=>?_
   ·obtain⟨o,es,ep,ee,hd,_⟩:=KE
    rw[z,e1] at ee;cases ee;cases hd
   have Jq:h'.get? tp=some (tabObj #[rawInt lp.line,rawInt lp.col,.ref c']):=Jq
   have nc:H1 c'=none:=I1.bJ.fresh y2
   have Yb:tp≠c':=λz=>by rw[z,nc] at j8;cases j8
   have kk:∀b o,b≠tp->s1.heap.get? b=some o->(h'.push (kla_obj "<lambda>" (X.env.qual++"<lambda>") (hZ mp) (fO p2 p3 p4 p5 p6 p7 p8) cV cl ((X.mg "__name__").getD .none) c' C9)).get? b=some o:=λb o hb ee=>Heap.get?_push_of_some _ (hx b o hb ee)
   obtain⟨Si,oc,vs,t2,g1,g2,g3,g4⟩:=KG
   cases g1
   refine hR _ c' _ _ (upd H1 c' (.own tp)) _ (I1.un (t':=tk) ⟨λb o ee n _ _=>kk b o (λz=>by rw[z,j8] at n;cases n) ee,λb o ee n _ _=>⟨o.slots,kk b o (λz=>by rw[z,j8] at n;cases n) ee⟩,λb o ee n _=>?_,λb o ee _=>?_,λb xs ee=>?_,λb o u ee=>?_,λb ps ee=>⟨#[],?_⟩⟩ λb o ee=>?_) (λb o ee=>?_) (Heap.get?_push_size _ rfl) ⟨c',oc,vs,t2,rfl,Heap.get?_push_of_some _ g2,g3,g4⟩
   ·rw[aE (Y0 (Y6 (Heap.lt_size ee) y2))];exact n
   ·by_cases hb:b=tp
    ·subst hb;exact⟨_,Heap.get?_push_of_some _ Jq⟩
    ·exact⟨o,kk b o hb ee⟩
   ·rw[aE (br ee nc)];exact ee
   ·rw[aE (br ee nc)];exact ee
   ·rw[aE (br ee nc),ee,Array.append_empty]
   ·by_cases hb:b=c'
    ·subst hb
     rw[ar] at ee
     cases ee
     exact⟨oc,Heap.get?_push_of_some _ g2⟩
    ·rw[aE hb] at ee
     by_cases Sj:b=tp
     ·subst Sj
      rw[j8] at ee
      cases ee
      exact⟨_,Heap.get?_push_of_some _ Jq,.inr ⟨_,_,c',_,_,He,rfl,ar,c',oc,vs,t2,rfl,Heap.get?_push_of_some _ g2,g3,g4⟩⟩
     ·refine(I1.bJ b o ee).oi (λx u kD e3=>kk x u (λz=>?_) e3) (λx e3=>by rw[aE (br e3 nc)];exact e3) λx xs e3=>by rw[aE (br e3 nc)];exact e3
      rcases kD with kD | kD
      ·exact Sj (kD.symm.trans z)
      ·rw[z,j8] at kD;cases kD
   ·rw[aE (br ee nc)];exact ee
  ·rw[He] at f1
   have f1:=congrArg Array.toList f1
   simp only[List.cons.injEq,and_true] at f1
   obtain⟨f1,f2,f5⟩:=f1
   injection f5 with f5 _
   subst f1 f2 f5
   have ht:TriplesOk [rawInt lp.line,rawInt lp.col,Value.ref c']:=by simp [TriplesOk,rawInt]
   have hf:codeAmong lp [rawInt lp.line,rawInt lp.col,Value.ref c']=some (.ref c'):=by simp [codeAmong,rawInt]
   refine kla_makeFunctionHit (mg:=X.mg) (c:=tc) (P:=tp) Sf I1.ok.glob KE Dc hC e1 ht hf Sg λC9 h' tk hk hsz=>?_
   obtain⟨Si,oc,vs,t2,g1,g2,g3,g4⟩:=f4
   cases g1
   exact hR _ c' _ _ H1 _ (I1.kept (t':=tk) λb o ee=>Heap.get?_push_of_some _ (hk b o ee)) (az.refl _) (Heap.get?_push_size _ rfl) ⟨c',oc,vs,t2,rfl,Heap.get?_push_of_some _ (hk _ _ g2),g3,g4⟩
 refine PyProof.Rows.kws_cons (kla_eval rfl (mk _ λf c' pm C9 H2 s2 I2 sm hf rC=>PyProof.Rows.kws_nil ?_))
 show wpAny _ _ (call (.builtin "sorted") [.ref a] [(Str.ofString "key",.ref f)]) _ _ _
 obtain⟨m2,EK,F2⟩:=I2.loc
 obtain⟨aW,n,rv,eo,hz⟩:=I2.lst (sm _ _ ha)
 have KH:=pA rv
 subst KH
 have oS:s2.heap.IsCell cell (some (.ref ra)):=by
  obtain⟨u,ru,lu⟩:=F2 i "reach" (.ref ra) hN eσ (.inr (.inl hv))
  cases ru
  rcases lu with ⟨hk,_⟩ | ⟨_,c,e1,e2⟩
  ·rw[hv] at hk;cases hk
  ·rw[ec] at e1;cases e1;exact e2
 have nL:∀{b:Addr} {u:HO},H2 b=some u->b≠X.env.locals:=λe z=>by rw[z,I2.free] at e;cases e
 have dL:∀{b:Addr} {o:Obj},s2.heap.get? b=some o->(∀es ep,o.data≠.dict es ep)->b≠X.env.locals:=λe hd z=>by
  obtain⟨o',es,ep,e',Gn,_⟩:=EK
  rw[z,e'] at e;cases e;exact hd es ep Gn
 refine ksk_sorted (h₀:=A7.p9 s2.heap) (L:=X.env.locals) (m:=m2) (news:=A7.ledger s2.heap X.env.locals X.env.locals) (kz:=bs.map key) (vs:=bs.map Value.ref) (f:=.ref f) (b:=false) (A7.Eg EK)
  (λp hp=>by obtain⟨x,o⟩:=p;obtain⟨n1,_,ee⟩:=A7.fI.mp hp;exact⟨ee,n1,A7.mL _ _⟩) ⟨_,eo,rfl,_,rfl⟩ (by rw[YO,YO]) (by rw[YO];exact EG) (ksk_s1 _ _) (λx=>ksk_l1 _ _) (λx=>ksk_t1 _ _) ?turn ?done
 case turn=>
  intro j v k0 ev ek h3 tk own F3 N3
  rw[YT] at ev ek
  obtain⟨b,eb,rfl⟩:=Option.map_eq_some_iff.mp ev
  rw[eb] at ek
  cases ek
  have kp:∀x o,x≠X.env.locals->s2.heap.get? x=some o->h3.get? x=some o:=λx o hx ee=>(N3 (x,o) (List.mem_append_left _ (A7.fI.mpr ⟨hx,hx,ee⟩))).1
  have kb:∀x o,X.base.get? x=some o->h3.get? x=some o:=λx o ee=>kp x o (λz=>by
   have l1:x<X.base.objs.size:=Heap.lt_size ee
   have l2:=I2.ok.yo
   have l3:=I2.ok.above
   rw[z] at l1
   exact absurd (Y6 l1 (Y2 l2 l3)) (Zj _)) (I2.bk x o ee)
  obtain⟨j0,xs,d,kvs,hb,g0,g1,gd,hd,KI⟩:=UD b (YU eb)
  obtain⟨Yc,nb,UE,UG,_⟩:=I2.lst (sm _ _ hb)
  obtain⟨Yd,nr,UH,UI,_⟩:=I2.lst (sm _ _ Jp)
  obtain⟨mb,UJ,KJ⟩:=I2.mod.blt
  obtain⟨ui,UK,t1,rfl⟩:=UE.get (i:=0) (x:=.int j0) rfl
  obtain⟨ud,UL,UM⟩:=UH.get gd
  obtain rfl:ud=Value.ref d:=UM
  obtain⟨z1,UN,vs,rel,o,es,ep,ed,KL⟩:=I2.bJ d _ (sm _ _ hd)
  obtain⟨Si,oc,JN,t2,w1,w2,w3,w4⟩:=rC
  cases w1
  obtain⟨oe,Sk,Sl⟩:=oS
  have sl:=sizeLine_eq
  have rl:=rel.length
  refine zm (s:={s2 with heap:=h3,toks:=tk}) (kvs:=vs) (kp _ _ (dL hf λ_ _ z=>by cases z) hf) ⟨c',oc,JN,t2,rfl,kp _ _ (dL w2 λ_ _ z=>by rw[w3] at z;cases z) w2,w3,w4⟩ hr.depth (I2.mod.nolimit.keeps kb) (I2.mod.glob.keeps kb) hl (UJ.keeps kb) KJ BU
   ⟨oe,kp _ _ (dL Sk λ_ _ z=>by rw[Sl] at z;cases z) Sk,Sl⟩ ⟨_,kp _ _ (nL (sm _ _ Jp)) UI,rfl,_,rfl⟩ ⟨_,kp _ _ (nL (sm _ _ hb)) UG,rfl,_,rfl⟩ (by simpa using UK) g0 (by omega) (by simpa using UL) UN ⟨o,es,ep,kp _ _ (nL (sm _ _ hd)) ed,KL⟩ (by omega) λh4 UO t4 k4=>?_
  rw[KI,show((kvs.length:Nat):Int)=((vs.length:Nat):Int) by rw[rl]]
  exact⟨h4,UO,t4,rfl,rfl,F3.kept k4,N3.grown k4⟩
 case done=>
  intro D h3 tk out c F3 N3 lt ko
  obtain⟨ps,hp,ho,hs⟩:=ko
  have ez:(bs.map key).zip (bs.map Value.ref)=bs.map λb=>(key b,Value.ref b):=by
   rw[List.zip_map',]
  rw[ez] at hp
  have mem:∀p∈ps,p=(key (A9 p.2),Value.ref (A9 p.2)):=λp B8=>by
   obtain⟨b,_,rfl⟩:=List.mem_map.mp (hp.mem_iff.mp B8)
   rfl
  have nd:(D:Addr)≠X.env.locals:=(N3 _ (.head _)).2.1
  have dn:s2.heap.get? D=none:=by
   cases ee:s2.heap.get? D with
   | none=>rfl
   | some o=>exact absurd (lt (D,o) (A7.fI.mpr ⟨nd,nd,ee⟩)) (Zj _)
  have hD:H2 D=none:=by
   cases ee:H2 D with
   | none=>rfl
   | some o=>
    obtain⟨ob,e'⟩:=bY.get (I2.bJ D o ee)
    rw[dn] at e';cases e'
  have kp:∀x o,x≠X.env.locals->s2.heap.get? x=some o->h3.get? x=some o:=λx o hx ee=>(N3 (x,o) (YW _ (A7.fI.mpr ⟨hx,hx,ee⟩))).1
  have KN:out=((ps.map λp=>A9 p.2).map Value.ref).toArray:=by
   have:out.toList=(ps.map λp=>A9 p.2).map Value.ref:=by
    rw[ho,Zu]
    exact List.map_congr_left λp B8=>congrArg Prod.snd (mem p B8)
   rw[<-this,Array.toArray_toList]
  have pm:(ps.map λp=>A9 p.2).Perm bs:=by
   have:=hp.map λp=>A9 p.2
   rw[Zu] at this
   exact this.trans (List.Perm.of_eq (by rw[show((λp:Int×Value=>A9 p.2) ∘λb=>(key b,Value.ref b))=id from rfl,List.map_id]))
  have pl:=pm.length_eq
  have Sm:=(N3 _ (.head _)).1
  have sl:=sizeLine_eq
  refine⟨.ref D,upd H2 D (.lst ((ps.map λp=>A9 p.2).map V.ref)),I2.step (ch:=[]) (g':=s2.gens) (d':=s2.drawn) (t':=tk) (λ_ z=>nomatch z) (λb o h1 _ _ ee _=>kp b o h1 ee) (λb o h1 _ _ ee _=>⟨o.slots,kp b o h1 ee⟩) (λb o _ ee n=>?_) (λb o _ ee=>?_) (λb xs ee=>?_) (λb o u ee=>?_) (λb qs ee=>⟨#[],?_⟩) (λm hn=>?_) (λb o ee=>?_) I2.bare,rfl,?_⟩
  ·rw[aE (λz=>by rw[z,dn] at ee;cases ee)];exact n
  ·by_cases hb:b=X.env.locals
   ·obtain⟨o',_,_,e',_⟩:=F3.ns
    exact⟨o',by rw[hb];exact e'⟩
   ·exact⟨o,kp b o hb ee⟩
  ·rw[aE (br ee hD)];exact ee
  ·rw[aE (br ee hD)];exact ee
  ·rw[aE (br ee hD),ee,Array.append_empty]
  ·have e1:=hn.eq_nsMap
   have e2:=EK.eq_nsMap
   rw[e1,<-e2]
   exact F3.ns
  ·by_cases hb:b=D
   ·subst hb
    rw[ar] at ee
    cases ee
    refine⟨by rw[YO,pl];omega,(ps.map λp=>A9 p.2).map Value.ref,c,?_,by rw[KN] at Sm;exact Sm⟩
    generalize (ps.map λp=>A9 p.2)=cs
    induction cs with
    | nil=>exact .nil
    | cons x cs ih=>exact .cons rfl ih
   ·rw[aE hb] at ee
    refine(I2.bJ b o ee).oi (λx u kD e3=>kp x u (λz=>?_) e3) (λx e3=>by rw[aE (br e3 hD)];exact e3) λx xs e3=>by rw[aE (br e3 hD)];exact e3
    rcases kD with kD | kD
    ·subst kD;exact nL ee z
    ·exact nL kD z
  ·refine q D _ _ (sm.trans λb o ee=>by rw[aE (br ee hD)];exact ee) ?_ ar pm ?_
   ·cases ee:H1 D with
    | none=>rfl
    | some o=>rw[sm _ _ ee] at hD;cases hD
   ·rw[List.pairwise_map]
    refine hs.imp_of_mem λ{x y} hx hy hle=>?_
    have hle:x.1<=y.1:=hle
    rw[mem x hx,mem y hy] at hle
    exact hle
end
noncomputable def Hf (K:PySem.W.Frag) (mg:Str->Option Value) (x:Str) (tc:Addr):Prop:=∃f oc od fd yc,mg x=some (.ref f)/\K.lookup f=some ⟨oc,od,.func fd,yc⟩/\fd.code=.ref tc
section
variable {P : Program} {w : World} {K : PySem.W.Frag} {mg : Str -> Option Value} {base : Heap} {CX : jI}
theorem uE.UP {x qual:Str} {st:Stmt} {f tc:Addr} {fd:FuncData} {N ps:List Str} {k:Nat} {sp:Sp} (F:uE K x qual st f fd) (hc:fd.code=.ref tc) (S:aM N ps (ae st)) (len:∀vs H Q E,sp vs H Q E->vs.length=ps.length)
  (rJ:∀(A:Around) (outer:List Env) (s:Shared) (H:Hp) (vs:List V) (Q:VK) (E:XK),cS k (A.deeper (envOfC qual (ae st) s.heap.objs.size f (.ref tc)))->sp vs H Q E->
   ∃t,ub (uy CX P w K mg base N qual (ae st) f (.ref tc) A outer s H E).F0 (aI st) t/\t {nx:=λ_ H'=>Q .cu H',rt:=Q} (start N vs) H):dU P w K mg base CX (k+1) f fd ps sp:=by
 obtain⟨oc,od,kV,doc,pm,an,cw,ct,yc,rfl,lk,rC⟩:=F.ex
 have hc:cw=.ref tc:=hc
 subst hc
 refine CW lk rC S len λA outer s H vs Q E hr A6=>?_
 obtain⟨t,h,q⟩:=rJ A outer s H vs Q E hr A6
 exact⟨t,h.F0,q⟩
theorem Dn.KO {x:Str} {st:Stmt} {ps:List Str} {k:Nat} {sp:Sp} {tc:Addr} (D:Dn K mg x st) (L:Hf K mg x tc)
  (hb:∀(kV doc pm:Value) (an:Option Addr) (cw ct:Value) (us:List Value),us.length=ps.length->bindArgs (PySem.W.fnOf x x (aK st) (aI st) (ae st) .none kV doc pm an cw ct) ⟨us,[]⟩=pure (ps.zip us))
  (h:∀f fd,uE K x x st f fd->fd.code=.ref tc->dU P w K mg base CX k f fd ps sp):bK P w K mg base CX k x ps sp:=by
 obtain⟨f,fd,F,hm⟩:=D.ex
 obtain⟨f',oc,od,Ye,yc,h1,h2,h3⟩:=L
 rw[hm] at h1
 cases h1
 obtain⟨Yg,Yh,_,_,_,_,_,_,UQ,_,lk,_⟩:=F.ex
 rw[lk] at h2
 cases h2
 exact⟨f,fd,h f fd F h3,hm,F.kp,F.binds hb⟩
end
end L2
namespace L2
open PySem PyProof.Rows
theorem exV {b:V} {Q:V->Prop}:(∃v,(some (some b):Option (Option V))=some (some v)/\Q v)=Q b:=propext ⟨fun⟨_,e,h⟩=>by cases e;exact h,λh=>⟨b,rfl,h⟩⟩
theorem exI {a:Int} {Q:Int->Prop}:(∃i,V.int a=V.int i/\Q i)=Q a:=propext ⟨fun⟨_,e,h⟩=>by cases e;exact h,λh=>⟨a,rfl,h⟩⟩
theorem exB {a:Bool} {Q:Bool->Prop}:(∃i,V.bl a=V.bl i/\Q i)=Q a:=propext ⟨fun⟨_,e,h⟩=>by cases e;exact h,λh=>⟨a,rfl,h⟩⟩
theorem exR {a:Addr} {Q:Addr->Prop}:(∃i,V.ref a=V.ref i/\Q i)=Q a:=propext ⟨fun⟨_,e,h⟩=>by cases e;exact h,λh=>⟨a,rfl,h⟩⟩
theorem exS {a:Str} {Q:Str->Prop}:(∃i,V.str a=V.str i/\Q i)=Q a:=propext ⟨fun⟨_,e,h⟩=>by cases e;exact h,λh=>⟨a,rfl,h⟩⟩
theorem exII {a b:Int} {Q:Int->Int->Prop}:(∃i j,V.int a=V.int i/\V.int b=V.int j/\Q i j)=Q a b:=propext ⟨fun⟨_,_,e,f,h⟩=>by cases e;cases f;exact h,λh=>⟨a,b,rfl,rfl,h⟩⟩
theorem exRI {a:Addr} {k:Int} {Q:Addr->List V->Int->V->Prop}:(∃p xs i v,V.ref a=V.ref p/\V.int k=V.int i/\Q p xs i v)=∃xs v,Q a xs k v:=propext ⟨fun⟨_,xs,_,v,e,f,h⟩=>by cases e;cases f;exact⟨xs,v,h⟩,fun⟨xs,v,h⟩=>⟨a,xs,k,v,rfl,rfl,h⟩⟩
theorem exRa {α:Type} {a:Addr} {Q:Addr->α->Prop}:(∃p v,V.ref a=V.ref p/\Q p v)=∃v,Q a v:=propext ⟨fun⟨_,v,e,h⟩=>by cases e;exact⟨v,h⟩,fun⟨v,h⟩=>⟨a,v,rfl,h⟩⟩
theorem exRb {α β:Type} {a:Addr} {Q:Addr->α->β->Prop}:(∃p v u,V.ref a=V.ref p/\Q p v u)=∃v u,Q a v u:=propext ⟨fun⟨_,v,u,e,h⟩=>by cases e;exact⟨v,u,h⟩,fun⟨v,u,h⟩=>⟨a,v,u,rfl,h⟩⟩
theorem scal_ss {a b:Str}:uk (.str a) (.str b)=true:=rfl
theorem scal_ii {a b:Int}:uk (.int a) (.int b)=true:=rfl
theorem scal_bb {a b:Bool}:uk (.bl a) (.bl b)=true:=rfl
theorem scal_si {a:Str} {b:Int}:uk (.str a) (.int b)=true:=rfl
theorem scal_is {a:Int} {b:Str}:uk (.int a) (.str b)=true:=rfl
end L2
namespace L2
open PySem PySem.Spec PyProof.Rows
section
variable {X : Cx}
theorem sG:Gq X rIxLH:=by
 intro pins s σ H x y v u Q I rx ry h
 obtain⟨p,xs,i,z,rfl,rfl,hq,he,q⟩:=h
 cases rx
 obtain⟨t,rfl⟩:=ry
 obtain⟨aW,r,pl,hz⟩:=I.list (aZ.of hq)
 obtain⟨j,h1,h2,h3,h4,h5⟩:=pU he
 obtain⟨w,ew,oj⟩:=r.get h2
 have hl:=r.length
 have hn:=mE
 have fin:EP X pins σ Q w s:=⟨z,H,I,oj,q⟩
 by_cases h0:0<=i
 ·have hj:i.toNat=j:=by
   rw[seqIndex_of h0 h5] at h1
   exact Zg h1
  exact wpAny_getItem_list pl.isList h0 (by omega) (by rw[hj];simpa using ew) fin
 ·have hj:(i+ (aW.toArray.size:Int)).toNat=j:=by
   rw[seqIndex_neg (by omega) h4] at h1
   rw[Y1,<-hl]
   exact Zg h1
  exact wpAny_getItem_list_neg pl.isList (by omega) (by rw[Y1] <;>omega) (by omega) (by rw[hj];simpa using ew) fin
theorem qu {K:PySem.W.Frag} {e:Expr} {f:Str} {pos:Pos} {ta:TE} (he:PE X e ta) (hb:attributeBase e f X.env (eval e X.env)=eval e X.env) (hK:X.K=K:=by rfl):PE X (.Attribute e f pos) (i7 K ta f):=by subst hK;exact dt he hb
theorem uO (hc:X.calm=true):cF X (.builtin "any") (λxs H Q=>∃p ns,xs=[.ref p]/\aZ X.K H p (List.map V.int ns)/\Q (.bl (ns.any λn=>n !=0)) H):=by
 intro pins s σ H xs us Q I r h
 obtain⟨p,ns,rfl,hq,q⟩:=h
 obtain⟨u,rfl,rx⟩:=vals1 r
 cases rx
 obtain⟨aW,rv,pl,hz⟩:=I.list hq
 have hl:=pl.isList
 have ln:=rv.length
 rw[YO] at ln
 have fG:p<s.heap.objs.size:=by obtain⟨_,e,_⟩:=hl;exact Heap.lt_size e
 refine call_any_walk (wpAny_pyIter_list hl ?_)
 refine⟨s.heap.objs.size,[s.heap.objs.size,p],[s.heap.objs.size],aW.toArray.size,_,_,λi=>((ns.map λn=>n !=0)[i]?).getD false,rfl,Walks.list (A:=X.A.in1) (I.ok.hd hc) _ p (Y0 fG) aW.toArray,
  ⟨⟨_,Heap.get?_push_size _ rfl,rfl,rfl⟩,hl.push _⟩,λi v s' Q' E' hP hQ=>?_,λh' tk hk=>?_⟩
 ·have hP:aW[i]?=some v:=by simpa using hP
  have hi:i<ns.length:=by have:=(List.getElem?_eq_some_iff.mp hP).1;omega
  obtain⟨w,ew,oj⟩:=rv.get (show(List.map V.int ns)[i]?=some (V.int ns[i]) by rw[YT,YQ hi];rfl)
  rw[hP] at ew
  cases ew
  obtain⟨t,rfl⟩:=oj
  have hQ:Q' (((ns.map λn=>n !=0)[i]?).getD false) s':=hQ
  rw[YT,YQ hi] at hQ
  exact truthy_int hQ
 ·have e:((List.range aW.toArray.size).any λi=>((ns.map λn=>n !=0)[i]?).getD false)=ns.any λn=>n !=0:=by
   have:=LSm.range_any (ns.map λn=>n !=0)
   rw[YO,List.any_map] at this
   rw[Y1,<-ln,this]
   rfl
  rw[e]
  exact⟨.bl _,H,I.kept (t':=tk) (LSm.kept_iter hk),rfl,q⟩
theorem sI {K:PySem.W.Frag} (hc:X.calm=true:=by rfl) (hK:X.K=K:=by rfl):cF X (.builtin "any") (λxs H Q=>∃p ns,xs=[.ref p]/\aZ K H p (List.map V.int ns)/\Q (.bl (ns.any λn=>n !=0)) H):=by subst hK;exact uO hc
end
end L2
namespace Wq
abbrev Sh:=Int×Int
noncomputable def Lw (x:Sh):Prop:=0<x.2/\Nm.g x.1 x.2=1
noncomputable def sc (L:Int) (x:Sh):Int:=x.1* (L / x.2)
theorem iK {L:Int} {x:Sh} (h:x.2∣L):sc L x*x.2=x.1*L:=by
 unfold sc
 rw[Zn,Int.ediv_mul_cancel h]
theorem zq {L s:Int} {x:Sh} (h:Lw x) (L0:0<L) (e:x.1*L=s*x.2):x.2∣L/\sc L x=s:=by
 have c:Int.gcd x.1 x.2=1:=by have:=h.2;unfold Nm.g at this;omega
 have d:x.2∣L:=Nm.lL (q:=x.2) (a:=x.1) ⟨s,by rw[e,Y8]⟩ c
 refine⟨d,?_⟩
 have:=iK d
 rw[e] at this
 exact Int.eq_of_mul_eq_mul_right (by have:=h.1;omega) this
noncomputable def low (a b:Int):Sh:=(Nm.st a b,Nm.sb a b)
theorem mZ {a b:Int} (h:0<b):Lw (low a b):=⟨Nm.yV (by omega),Nm.yW (by omega)⟩
theorem uP {a b L s:Int} (h:0<b) (L0:0<L) (e:a*L=s*b):(low a b).2∣L/\sc L (low a b)=s:=by
 refine zq (mZ h) L0 ?_
 have c:=Nm.rV a b
 show Nm.st a b*L=s*Nm.sb a b
 refine Int.eq_of_mul_eq_mul_right (show b≠0 by omega) ?_
 calc Nm.st a b*L*b=(Nm.st a b*b)*L:=Int.mul_right_comm ..
  _=a*Nm.sb a b*L:=by rw[c]
  _=(a*L)*Nm.sb a b:=Int.mul_right_comm ..
  _=s*b*Nm.sb a b:=by rw[e]
  _=s*Nm.sb a b*b:=Int.mul_right_comm ..
noncomputable def pl (x y:Sh):Sh:=low (x.1*y.2+y.1*x.2) (x.2*y.2)
noncomputable def tm (x y:Sh):Sh:=low (x.1*y.1) (x.2*y.2)
theorem Hg {L:Int} {x y:Sh} (hx:0<x.2) (hy:0<y.2) (L0:0<L) (dx:x.2∣L) (dy:y.2∣L):Lw (pl x y)/\(pl x y).2∣L/\sc L (pl x y)=sc L x+sc L y:=by
 have e1:=iK dx
 have e2:=iK dy
 refine⟨mZ (Zm hx hy),uP (Zm hx hy) L0 ?_⟩
 calc (x.1*y.2+y.1*x.2)*L=(x.1*L)*y.2+ (y.1*L)*x.2:=by rw[Int.add_mul,Int.mul_right_comm,Int.mul_right_comm y.1]
  _=sc L x*x.2*y.2+sc L y*y.2*x.2:=by rw[e1,e2]
  _=(sc L x+sc L y)* (x.2*y.2):=by rw[Int.add_mul,Zn,Zn,Y8 y.2 x.2]
end Wq
namespace Wq
open L2
noncomputable def B9 (ws:List Sh) (i:Int):Sh:=ws.getD i.toNat (0,1)
noncomputable def cJ (KP:List (Int×Int)):Int:=(KP.map (·.1)).sum
end Wq
namespace Wq
open L2
noncomputable def sJ (c b:Int):Int:=c / Nm.g c b*b
noncomputable def eP:Int->List Sh->Int
 | c,[]=>c
 | c,x::xs=>eP (sJ c x.2) xs
theorem Ca {c b:Int} (hc:0<c) (hb:0<b):0<sJ c b/\c∣sJ c b/\b∣sJ c b/\∀{Z:Int},c∣Z->b∣Z->sJ c b∣Z:=by
 have g0:=Nm.mN (a:=c) (b:=b) (by omega)
 have gl:=Nm.lK c b
 have gr:=Nm.fJ c b
 obtain⟨u,hu⟩:=gl
 obtain⟨v,hv⟩:=gr
 have e1:c / Nm.g c b=u:=by
  calc c / Nm.g c b=Nm.g c b*u / Nm.g c b:=by rw[<-hu]
   _=u:=Int.mul_ediv_cancel_left _ (by omega)
 have u0:0<u:=by rw[<-e1];exact Int.ediv_pos_of_pos_of_dvd hc (Nm.Eo c b) ⟨u,hu⟩
 unfold sJ
 rw[e1]
 refine⟨Zm u0 hb,⟨v,?_⟩,Int.dvd_mul_left ..,λ{Z} h1 h2=>?_⟩
 ·calc u*b=u* (Nm.g c b*v):=by rw[<-hv]
   _=(Nm.g c b*u)*v:=by rw[<-Zn,Y8 u]
   _=c*v:=by rw[<-hu]
 ·obtain⟨z,hz⟩:=h2
  have cp:Int.gcd v u=1:=by
   have h:=Int.gcd_ediv_gcd_ediv_gcd (i:=c) (j:=b) (by unfold Nm.g at g0;omega)
   have e2:b / Nm.g c b=v:=by
    calc b / Nm.g c b=Nm.g c b*v / Nm.g c b:=by rw[<-hv]
     _=v:=Int.mul_ediv_cancel_left _ (by omega)
   have h':Int.gcd (c / Nm.g c b) (b / Nm.g c b)=1:=h
   rw[e1,e2,Int.gcd_comm] at h'
   exact h'
  obtain⟨k,hk⟩:=h1
  have m:u*k=v*z:=by
   refine Int.eq_of_mul_eq_mul_left (show Nm.g c b≠0 by omega) ?_
   calc Nm.g c b* (u*k)=(Nm.g c b*u)*k:=(Zn ..).symm
    _=c*k:=by rw[<-hu]
    _=Z:=hk.symm
    _=b*z:=hz
    _=(Nm.g c b*v)*z:=by rw[<-hv]
    _=_:=Zn ..
  obtain⟨j,hj⟩:=Nm.lL (q:=u) (a:=v) (b:=z) ⟨k,m.symm⟩ cp
  exact⟨j,by rw[hz,hj,<-Zn,Y8 b u]⟩
theorem lQ:∀{xs:List Sh} {c:Int},0<c->(∀x∈xs,0<x.2)->0<eP c xs/\c∣eP c xs/\(∀x∈xs,x.2∣eP c xs)/\∀{Z:Int},c∣Z->(∀x∈xs,x.2∣Z)->eP c xs∣Z
 | [],c,hc,_=>⟨hc,Int.dvd_refl c,by simp,λh _=>h⟩
 | x::xs,c,hc,h=>by
  obtain⟨a1,a2,a3,a4⟩:=Ca hc (h x (YV ..))
  obtain⟨b1,b2,b3,b4⟩:=lQ (xs:=xs) a1 λy hy=>h y (YW _ hy)
  refine⟨b1,Int.dvd_trans a2 b2,λy hy=>?_,λ{Z} h1 h2=>b4 (a4 h1 (h2 x (YV ..))) λy hy=>h2 y (YW _ hy)⟩
  rcases List.mem_cons.mp hy with rfl | hy
  ·exact Int.dvd_trans a3 b2
  ·exact b3 y hy
noncomputable def Vb (M:Int) (x:Sh):Prop:= -(M*x.2)<=x.1/\x.1<=M*x.2
theorem m4 {L M:Int} {x:Sh} (hx:0<x.2) (L0:0<L) (d:x.2∣L):Vb M x↔-(M*L)<=sc L x/\sc L x<=M*L:=by
 have e:=iK d
 have k:M*L*x.2=M*x.2*L:=Int.mul_right_comm ..
 have i1:∀p q:Int,p<=q↔p*L<=q*L:=λp q=>⟨λh=>Int.mul_le_mul_of_nonneg_right h (by omega),λh=>Int.le_of_mul_le_mul_right h L0⟩
 have i2:∀p q:Int,p<=q↔p*x.2<=q*x.2:=λp q=>⟨λh=>Int.mul_le_mul_of_nonneg_right h (by omega),λh=>Int.le_of_mul_le_mul_right h hx⟩
 unfold Vb
 rw[i1 (-(M*x.2)),i1 x.1,i2 (-(M*L)),i2 (sc L x),e,Int.neg_mul,Int.neg_mul,k]
end Wq
namespace Wq
theorem pC:∀{xs:List Sh} {c:Int} {x:Sh},eP c (xs++ [x])=sJ (eP c xs) x.2
 | [],_,_=>rfl
 | y::xs,c,x=>pC (xs:=xs) (c:=sJ c y.2) (x:=x)
noncomputable def cv:L2.Pl->Sh
 | .fin g=>g
 | .eO g _=>g
 | .dR _ _=>(0,1)
end Wq
namespace Wq
end Wq
namespace Wq
end Wq
namespace Wq
end Wq
namespace Wq
end Wq
namespace K34
open PySem PySem.Spec PyProof.Rows L2
set_option maxHeartbeats 4000000
local macro_rules | `(tactic| simp! only [$ls,*]) => `(tactic| simp only [↓exV, ↓exI, ↓exB, ↓exR, ↓exS, ↓exII, ↓exRI, ↓exRa, ↓exRb, L2.start, Pr, tRev, tD1, tDPop1, tSl, tNoPart, tPart, rSlL, tDIn, tDNotIn, gSub, rSetL, tLst, tDNewK, tComp, L2.stC, tFor_eq, iList, iTup, iRng1, iRng2, iZip, iEnum, iDict, iStr, tChain, tSumV, tBM, rJoin, tJoined, jNil, jLit, jInt, jStr, tRaise, tDGet, tDGet2, tDGet1, sDPut, Option.join_some, List.getElem?_nil,  tSeq, tRet, tRetN, tIfS, tTest, tB, tOp, tUn, tVar, tC, tCB, tCons, tNil, tCall, tTupS, tAsg, gName, gNil, gCons, tPar, tNext, tDrop, tAnd, tOr, tNot, tAndV, tOrV, tNotV, tIf, rI, rI0, rU, rIxTH, rIxLH, rEqT, rNeT, rInT, rEq, rNe, scal_ss, scal_ii, scal_bb, scal_si, scal_is, CPow, at0, at1, at2, List.map_cons, List.map_nil, List.length_cons, List.length_nil, Nat.reduceSub, Nat.reduceAdd, Nat.zero_add, List.replicate_zero, List.reduceReplicate, List.append_nil, List.nil_append, List.cons_append, List.getElem?_cons_zero, List.getElem?_cons_succ, List.set_cons_zero, List.set_cons_succ, Option.some.injEq, exists_eq_left', exists_eq_left, V.ref.injEq, V.int.injEq, V.bl.injEq, V.str.injEq, V.ty.injEq, HO.tup.injEq, HO.lst.injEq, List.cons.injEq, and_true, true_and, and_assoc, exists_and_left, decide_eq_true_eq, Bool.not_eq_true', decide_eq_false_iff_not, ite_true, ite_false, if_true, if_false, Int.reduceToNat, eq_self_iff_true, $ls,*])
local macro_rules | `(tactic| simp_all only [$ls,*]) => `(tactic| (first | ((dsimp (config := { zetaDelta := true }) only [L2.start, Pr, tRev, tD1, tDPop1, tSl, tNoPart, tPart, rSlL, tDIn, tDNotIn, gSub, rSetL, tLst, tDNewK, tComp, L2.stC, tFor_eq, iList, iTup, iRng1, iRng2, iZip, iEnum, iDict, iStr, tChain, tSumV, tBM, rJoin, tJoined, jNil, jLit, jInt, jStr, tRaise, tDGet, tDGet2, tDGet1, sDPut, tSeq, tRet, tRetN, tIfS, tTest, tB, tOp, tUn, tVar, tC, tCB, tCons, tNil, tCall, tTupS, tAsg, gName, gNil, gCons, tPar, tNext, tDrop, tAnd, tOr, tNot, tAndV, tOrV, tNotV, tIf, rI, rI0, rU, rIxTH, rIxLH, rEqT, rNeT, rInT, rEq, rNe, scal_ss, scal_ii, scal_bb, scal_si, scal_is, CPow, List.getElem?_cons_zero, List.getElem?_cons_succ, List.set_cons_zero, List.set_cons_succ]); try simp! only [$ls,*]) | simp! only [$ls,*]))
seal L2.PE L2.PT L2.PW L2.PA L2.PS L2.ub L2.PG L2.F1 L2.PI L2.Ex L2.PO L2.jF L2.Jd L2.cF L2.CY L2.Jf L2.J4 L2.GG
theorem aB {P:Program} {w:World}:qa (bE P w):=vP P w
set_option genInjectivity false in
set_option genSizeOf false in
structure Txt (K:PySem.W.Frag) (mg:Str->Option Value) (aA tc:Addr):Prop where
 z_abs:mg "abs"=none
 z_all:mg "all"=none
 z_any:mg "any"=none
 z_bool:mg "bool"=none
 z_enumerate:mg "enumerate"=none
 z_int:mg "int"=none
 z_isinstance:mg "isinstance"=none
 z_len:mg "len"=none
 z_list:mg "list"=none
 z_range:mg "range"=none
 z_reversed:mg "reversed"=none
 z_sorted:mg "sorted"=none
 z_sum:mg "sum"=none
 z_tuple:mg "tuple"=none
 z_zip:mg "zip"=none
 Cb:Dn K mg "goals" (top 1)
 uQ:Dn K mg "is_ready" (top 2)
 m6:Dn K mg "ready_places" (top 3)
 zt:Dn K mg "levels" (top 4)
 EL:Dn K mg "ring" (top 5)
 jP:Dn K mg "common_divisor" (top 12)
 Cc:Dn K mg "share" (top 13)
 kI:Dn K mg "common_bottom" (top 14)
 kJ:Dn K mg "row_with_head" (top 16)
 xM:Dn K mg "swapped" (top 17)
 fP:Dn K mg "without_first_column" (top 18)
 Cd:Dn K mg "swept" (top 19)
 kK:Dn K mg "whole_answers" (top 20)
 sM:Dn K mg "column_of" (top 21)
 oF:Dn K mg "turned_rows" (top 22)
 qv:Dn K mg "steps_from" (top 24)
 Ce:Dn K mg "parts" (top 25)
 kL:Dn K mg "ways_of_picks" (top 29)
 kM:Dn K mg "checked_parts" (top 30)
 kO:Dn K mg "weighted_ways" (top 31)
 il:Dn K mg "all_weighted_ways" (top 32)
 m7:Dn K mg "total_weight" (top 33)
 sN:Dn K mg "part_rows" (top 34)
 xN:Dn K mg "gain_of" (top 36)
 xO:Dn K mg "book_of" (top 37)
 uR:Dn K mg "gains_of" (top 38)
 m8:Dn K mg "blank_worths" (top 39)
 oG:Dn K mg "with_worths" (top 40)
 sO:Dn K mg "worths_of" (top 41)
 oH:Dn K mg "with_visits" (top 42)
 zu:Dn K mg "visits" (top 43)
 sP:Dn K mg "_law_cell" (top 45)
 qw:Dn K mg "_law_mixed" (top 46)
 uS:Dn K mg "_law_low" (top 47)
 sQ:Dn K mg "_law_plus" (top 48)
 qx:Dn K mg "_law_times" (top 49)
 qy:Dn K mg "_law_share" (top 50)
 oI:Dn K mg "_law_turned" (top 51)
 qz:Dn K mg "_law_throw" (top 52)
 qA:Dn K mg "_law_board" (top 53)
 qB:Dn K mg "_law_picks" (top 54)
 sR:Dn K mg "_law_copy" (top 55)
 uT:Dn K mg "_law_got" (top 57)
 kP:Dn K mg "_law_is_share" (top 58)
 je:Dn K mg "_law_are_shares" (top 59)
 c_MOST_PLACES:∃t,mg "MOST_PLACES"=some (.int 40 t)
 c_MOST_PICKS:∃t,mg "MOST_PICKS"=some (.int 4096 t)
 k_Book:mg "Book"=some (.ref aA)
 bL:xq K aA
 na_Book_bottom:PySem.W.findIn K (.ref aA) "bottom"=some none
 na_Book_tops:PySem.W.findIn K (.ref aA) "tops"=some none
 Cf:Kx K mg "Book" "Book.__init__" (inClass (top 35) 0) aA
 jf:Jo K aA "as_shares" "Book.as_shares" (inClass (top 35) 2)
 m9:Jo K aA "scaled" "Book.scaled" (inClass (top 35) 1)
 Cg:Hf K mg "parts" tc
theorem KQ {C:List Value->Prop} (k:C []):∀us:List Value,us.length=0->C us:=λus h=>by
 cases us with
 | nil=>exact k
 | cons a us=>cases h
theorem Ci {C:List Value->Prop} {n:Nat} (k:∀a (us:List Value),us.length=n->C (a::us)):∀us:List Value,us.length=n+1->C us:=λus h=>by
 cases us with
 | nil=>cases h
 | cons a us=>exact k a us (Nat.succ.inj h)
theorem ir {C:List Value->Prop} (k:∀a,C [a]):∀us:List Value,us.length=1->C us:=Ci λa=>KQ (C:=λus=>C (a::us)) (k a)
theorem dH {C:List Value->Prop} (k:∀a b,C [a,b]):∀us:List Value,us.length=2->C us:=Ci λa=>ir (C:=λus=>C (a::us)) (k a)
theorem sS {C:List Value->Prop} (k:∀a b c,C [a,b,c]):∀us:List Value,us.length=3->C us:=Ci λa=>dH (C:=λus=>C (a::us)) (k a)
theorem KR {C:List Value->Prop} (k:∀a b c d,C [a,b,c,d]):∀us:List Value,us.length=4->C us:=Ci λa=>sS (C:=λus=>C (a::us)) (k a)
abbrev dsc:Array Value:=#[rawInt 123,rawInt 29,.str ((Str.ofString "parts"++".<locals>.")++"<lambda>") 0]
noncomputable def fc:Option Int->V
 | none=>.cu
 | some i=>.int i
theorem Dd {fs:Lv.Fs} {g:Int} (h0:0<=g) (h1:g< (fs.length:Nat)):fA (List.map fc fs) g=some (fc (Lv.lk fs g)):=by
 obtain⟨j,rfl⟩:=Zd h0
 have hj:j<fs.length:=by omega
 have e:fs[j]?=some fs[j]:=YQ hj
 rw[ql (f:=fc) e]
 congr 2
 unfold Lv.lk
 rw[YY,YR,e]
 rfl
theorem nh {o:Option Int}:(fc o=V.cu)↔o=none:=by cases o <;>simp [fc]
noncomputable def sT:Sp:=λvs H Q _=>∃v q,vs=[v]/\Rep H (oC q) v/\(Lv.fX q).length<=100/\∀l H',az H H'->H l=none->H' l=some (.lst (List.map V.int (Lv.fX q)))->Q (.ref l) H'
noncomputable def zv:Sp:=λvs H Q _=>∃v q f fs,vs=[v,.ref f]/\Rep H (oC q) v/\H f=some (.lst (List.map fc fs))/\(Lv.fX q).length<=100/\(∀g∈Lv.fX q,0<=g/\g< (fs.length:Nat))/\∀H',az H H'->Q (.bl (Lv.C6 fs q)) H'
noncomputable def eB (i:Nat):V:=.int i
noncomputable def vZ:Sp:=λvs H Q _=>∃a b f fs,vs=[.ref a,.ref f]/\Rep H (rY b) (.ref a)/\H f=some (.lst (List.map fc fs))/\fs.length=b.length/\b.length<=1000/\(∀q∈b,(Lv.fX q).length<=100)/\Lv.Good b/\∀l H',az H H'->H l=none->H' l=some (.lst (List.map eB (Lv.fresh b fs)))->Q (.ref l) H'
noncomputable def zw:Sp:=λvs H Q _=>∃a b,vs=[.ref a]/\Rep H (rY b) (.ref a)/\b.length<=1000/\(∀q∈b,(Lv.fX q).length<=100)/\Lv.Good b/\∀l H',az H H'->H l=none->H' l=some (.lst (List.map fc (Lv.r8 b)))->Q (.ref l) H'
structure UR (H:Hp) (b:List Pl) (a ff:Addr) (m:Nat) (σ:L2.St) (H':Hp):Prop where
 ex:∃fs L fr z,σ=[some (V.ref a),some (V.ref ff),some (V.int L),some (V.ref fr),z]/\H' ff=some (.lst (List.map fc fs))/\H' fr=some (.lst (List.map eB (Lv.fresh b fs)))/\fr≠ff/\az H H'/\fs.length=b.length/\Lv.dS fs<=m/\Lv.run b m fs L=Lv.r8 b
noncomputable def ni (b:List Pl):List Nat:=(List.range b.length).filter fun(i:Nat)=>(Lv.lk (Lv.r8 b) (i:Int)).isNone
theorem zy {b:List Pl} {i:Nat}:i∈ni b↔i<b.length/\Lv.lk (Lv.r8 b) (i:Int)=none:=by
 unfold ni
 rw[List.mem_filter,List.mem_range]
 simp
structure Bd (b:List Pl):Prop where
 len:b.length<=1000
 rR:∀q∈b,(Lv.fX q).length<=100
 good:Lv.Good b
noncomputable def uU:Sp:=λvs H Q _=>∃a b,vs=[.ref a]/\Rep H (rY b) (.ref a)/\Bd b/\∀l H',az H H'->H l=none->H' l=some (.lst (List.map eB (ni b)))->Q (.ref l) H'
noncomputable def oJ (H:Hp):Option (Int×Nat)->V->Prop
 | none,v=>v=.cu
 | some (h,w),v=>∃p,v=.ref p/\H p=some (.tup [.int h,.int (w:Int)])
theorem oJ.mono {H H':Hp} (s:az H H') {o:Option (Int×Nat)} {v:V} (h:oJ H o v):oJ H' o v:=by
 cases o with
 | none=>exact h
 | some x=>obtain⟨p,e,hp⟩:=h;exact⟨p,e,s _ _ hp⟩
theorem oJ.upd {H:Hp} {a:Addr} {o:HO} {par:Option (Int×Nat)} {v:V} (n:∀xs,H a≠some (.tup xs)) (h:oJ H par v):oJ (upd H a o) par v:=by
 cases par with
 | none=>exact h
 | some x=>obtain⟨p,e,hp⟩:=h;exact⟨p,e,by rw[aE (λz=>n _ (z▸hp))];exact hp⟩
structure fg (H:Hp) (d:Addr) (es:List Bf.En):Prop where
 ex:∃kvs,H d=some (.dK kvs)/\kvs.map (·.1)=(Bf.keys es).map Sum.inl/\∀(i:Nat) e,es[i]?=some e->∃v,kvs[i]?=some (Sum.inl e.1,v)/\oJ H e.2.1 v
theorem fg.mono {H H':Hp} (s:az H H') {d:Addr} {es:List Bf.En} (h:fg H d es):fg H' d es:=by
 obtain⟨kvs,hd,hk,hv⟩:=h
 exact⟨kvs,s _ _ hd,hk,λi e he=>by obtain⟨v,e1,e2⟩:=hv i e he;exact⟨v,e1,e2.mono s⟩⟩
theorem uV {κ:Type} [DecidableEq κ]:∀{kvs:List (κ×V)} {i:Nat} {k:κ} {v:V},(kvs.map (·.1)).Nodup->kvs[i]?=some (k,v)->gC kvs k=some v
 | [],i,k,v,_,h=>by simp at h
 | p::r,0,k,v,_,h=>by simp at h;subst h;exact i8 rfl
 | p::r,i+1,k,v,nd,h=>by
  simp at h
  rw[Zb,List.nodup_cons] at nd
  rw[gD (λz=>nd.1 (by rw[z];exact List.mem_map.mpr ⟨(k,v),YU h,rfl⟩))]
  exact uV nd.2 h
theorem lU {κ:Type} [DecidableEq κ]:∀{kvs:List (κ×V)} {k:κ},k∉kvs.map (·.1)->gC kvs k=none
 | [],k,_=>rfl
 | p::r,k,h=>by
  rw[Zb] at h
  rw[gD (λz=>h (by rw[z];exact YV))]
  exact lU λz=>h (YW _ z)
theorem zz {l:List Int} (h:l.Nodup):(l.map (Sum.inl:Int->Key)).Nodup:=by
 unfold List.Nodup at *
 rw[List.pairwise_map]
 exact h.imp λ{a b} R6 z=>R6 (by cases z;rfl)
theorem qC {l:List Int} {k:Int}:(Sum.inl k:Key)∈l.map Sum.inl↔k∈l:=by
 rw[List.mem_map]
 constructor
 ·rintro⟨x,hx,e⟩;cases e;exact hx
 ·intro h;exact⟨k,h,rfl⟩
theorem fg.get {H:Hp} {d:Addr} {es:List Bf.En} (h:fg H d es) (nd:(Bf.keys es).Nodup) {i:Nat} {e:Bf.En} (he:es[i]?=some e):∃v,jJ H d (.int e.1) (some v)/\oJ H e.2.1 v:=by
 obtain⟨kvs,hd,hk,hv⟩:=h
 obtain⟨v,e1,e2⟩:=hv i e he
 exact⟨v,.inl ⟨kvs,Sum.inl e.1,.inl hd,rfl,(uV (by rw[hk];exact zz nd) e1).symm⟩,e2⟩
theorem fg.out {H:Hp} {d:Addr} {es:List Bf.En} (h:fg H d es) {k:Int} (hk:k∉Bf.keys es):jJ H d (.int k) none:=by
 obtain⟨kvs,hd,Hh,_⟩:=h
 exact .inl ⟨kvs,Sum.inl k,.inl hd,rfl,(lU (by rw[Hh];exact λz=>hk (qC.mp z))).symm⟩
theorem fg.has {H:Hp} {d:Addr} {es:List Bf.En} (h:fg H d es) (nd:(Bf.keys es).Nodup) (k:Int):∃o,jJ H d (.int k) o/\o.isSome=decide (k∈Bf.keys es):=by
 by_cases c:k∈Bf.keys es
 ·obtain⟨e,he,rfl⟩:=List.mem_map.mp c
  obtain⟨i,hi⟩:=Zk he
  obtain⟨v,g,_⟩:=h.get nd hi
  exact⟨_,g,by simp [c]⟩
 ·exact⟨_,h.out c,by simp [c]⟩
theorem fg.put {H:Hp} {d:Addr} {es:List Bf.En} (h:fg H d es) {k:Int} {par:Option (Int×Nat)} {path:List Nat} {v:V} (hk:k∉Bf.keys es) (pv:oJ H par v) (hl:es.length<sizeLine):
  ∃o,uD H d (.int k) v (upd H d o)/\fg (upd H d o) d (es++ [(k,par,path)]):=by
 obtain⟨kvs,hd,Hh,hv⟩:=h
 have len:kvs.length=es.length:=by
  have:=congrArg List.length Hh
  unfold Bf.keys at this
  simpa using this
 have vn:gC kvs (Sum.inl k)=none:=lU (by rw[Hh];exact λz=>hk (qC.mp z))
 have nt:∀xs,H d≠some (.tup xs):=λxs z=>by rw[hd] at z;cases z
 refine⟨.dK (kvs++ [(Sum.inl k,v)]),?_,⟨kvs++ [(Sum.inl k,v)],ar,?_,λi e he=>?_⟩⟩
 ·have:=uD.k (k:=Sum.inl k) (v:=v) hd (by omega)
  rw[rN v vn] at this
  exact this
 ·unfold Bf.keys at *
  rw[Zc,Zc,Zc,Hh]
  rfl
 ·rcases Bf.d9 he with he | ⟨rfl,rfl⟩
  ·obtain⟨v',e1,e2⟩:=hv i e he
   exact⟨v',Bf.up e1,e2.upd nt⟩
  ·refine⟨v,?_,pv.upd nt⟩
   rw[Zv (by omega),len,Nat.sub_self]
   rfl
theorem pE {here:Int} {path:List Nat}:∀(gs:List Int) (w:Nat) (es:List Bf.En) (g:Int),Bf.fN here path w (gs++ [g]) es=(if g∈Bf.keys (Bf.fN here path w gs es) then Bf.fN here path w gs es else Bf.fN here path w gs es++ [(g,some (here,w+gs.length),path++ [w+gs.length])])
 | [],w,es,g=>rfl
 | x::gs,w,es,g=>by
  show Bf.fN here path (w+1) (gs++ [g]) _=_
  rw[pE gs (w+1)]
  show(if g∈Bf.keys (Bf.fN here path (w+1) gs _) then Bf.fN here path (w+1) gs _ else Bf.fN here path (w+1) gs _++ [(g,some (here,w+1+gs.length),path++ [w+1+gs.length])])=_
  rw[Y4,show w+1+gs.length=w+ (gs.length+1) by omega]
  rfl
structure US (H:Hp) (b:List Pl) (a d f:Addr) (st:Int) (m:Nat) (σ:L2.St) (H':Hp):Prop where
 ex:∃(t:Nat) (es:List Bf.En),∃z5 z6 z7,σ=[some (V.ref a),some (V.int st),some (V.ref d),some (V.ref f),some (V.int (t:Int)),z5,z6,z7]/\fg H' d es/\H' f=some (.lst (List.map V.int (Bf.keys es)))/\az H H'/\Bf.Inv b st t es/\Bf.A8 b m t es=Bf.steps b st/\b.length<m+t
noncomputable def v3:Sp:=λvs H Q _=>∃a b st,vs=[.ref a,.int st]/\Rep H (rY b) (.ref a)/\b.length<=1000/\(∀q∈b,(Lv.fX q).length<=100)/\Lv.Good b/\0<=st/\st<b.length/\∀d H',az H H'->H d=none->fg H' d (Bf.steps b st)->Q (.ref d) H'
structure Yi (H:Hp) (es:List Bf.En) (a d bk:Addr) (st g:Int) (path:List Nat) (m:Nat) (σ:L2.St) (H':Hp):Prop where
 ex:∃(e:Bf.En) (bs:List Nat) (v:V),es[m]?=some e/\oJ H' e.2.1 v/\H' bk=some (.lst (List.map eB bs))/\path=e.2.2++bs.reverse/\fg H' d es/\az H H'/\σ=[some (V.ref a),some (V.int st),some (V.int g),some (V.ref d),some (V.ref bk),some v]
structure UT (H:Hp) (a d f l:Addr) (st:Int) (t:Nat) (e:Bf.En) (gs:List Int) (es:List Bf.En) (k:Nat) (σ:L2.St) (H':Hp):Prop where
 ex:∃z6 z7,σ=[some (V.ref a),some (V.int st),some (V.ref d),some (V.ref f),some (V.int (t:Int)),some (V.int e.1),z6,z7]
 dr:fg H' d (Bf.fN e.1 e.2.2 0 (gs.take k) es)
 hf:H' f=some (.lst (List.map V.int (Bf.keys (Bf.fN e.1 e.2.2 0 (gs.take k) es))))
 hl:H' l=some (.lst (List.map V.int gs))
 sm:az H H'
noncomputable def Al {α:Type} (R:α->V->Prop):List α->List V->Prop
 | [],[]=>True
 | a::as,v::vs=>R a v/\Al R as vs
 | _,_=>False
theorem Al.length {α:Type} {R:α->V->Prop}:∀{as:List α} {vs:List V},Al R as vs->vs.length=as.length
 | [],[],_=>rfl
 | a::as,v::vs,h=>by simp [Al.length h.2]
theorem Al.imp {α:Type} {R S:α->V->Prop} (f:∀a v,R a v->S a v):∀{as:List α} {vs:List V},Al R as vs->Al S as vs
 | [],[],_=>trivial
 | a::as,v::vs,h=>⟨f _ _ h.1,Al.imp f h.2⟩
theorem Al.append {α:Type} {R:α->V->Prop}:∀{as bs:List α} {us vs:List V},Al R as us->Al R bs vs->Al R (as++bs) (us++vs)
 | [],_,[],_,_,k=>k
 | a::as,_,v::vs,_,h,k=>⟨h.1,Al.append h.2 k⟩
theorem Al.one {α:Type} {R:α->V->Prop} {a:α} {v:V} (h:R a v):Al R [a] [v]:=⟨h,trivial⟩
theorem Al.reverse {α:Type} {R:α->V->Prop}:∀{as:List α} {vs:List V},Al R as vs->Al R as.reverse vs.reverse
 | [],[],_=>trivial
 | a::as,v::vs,h=>by
  rw[List.reverse_cons,List.reverse_cons]
  exact(Al.reverse h.2).append (.one h.1)
theorem Al.get {α:Type} {R:α->V->Prop}:∀{as:List α} {vs:List V} {i:Nat} {v:V},Al R as vs->vs[i]?=some v->∃a,as[i]?=some a/\R a v:=by
 intro as
 induction as with
 | nil=>
  intro vs i v h e
  cases vs with
  | nil=>simp at e
  | cons u vs=>exact h.elim
 | cons a as ih=>
  intro vs i v h e
  cases vs with
  | nil=>exact h.elim
  | cons u vs=>
   cases i with
   | zero=>cases e;exact⟨a,rfl,h.1⟩
   | succ i=>exact ih (vs:=vs) (i:=i) h.2 e
theorem Al.at {α:Type} {R:α->V->Prop}:∀{as:List α} {vs:List V} {i:Nat} {a:α},Al R as vs->as[i]?=some a->∃v,vs[i]?=some v/\R a v:=by
 intro as
 induction as with
 | nil=>
  intro vs i v h e
  simp at e
 | cons a as ih=>
  intro vs i v h e
  cases vs with
  | nil=>exact h.elim
  | cons u vs=>
   cases i with
   | zero=>cases e;exact⟨u,rfl,h.1⟩
   | succ i=>exact ih (vs:=vs) (i:=i) h.2 e
theorem Al.of {α:Type} {R:α->V->Prop}:∀{as:List α} {vs:List V},vs.length=as.length->(∀(i:Nat) v a,vs[i]?=some v->as[i]?=some a->R a v)->Al R as vs
 | [],[],_,_=>trivial
 | [],_::_,l,_=>by simp at l
 | _::_,[],l,_=>by simp at l
 | a::as,u::vs,l,h=>⟨h 0 u a rfl rfl,Al.of (by simpa using l) λi v b e1 e2=>h (i+1) v b (by simpa using e1) (by simpa using e2)⟩
namespace Pr
open Bf Lv
noncomputable def kb (b:List Pl) (p:Int):List Int:=keys (steps b p)
noncomputable def In (b:List Pl) (p:Int):Prop:=0<=p/\p<b.length
section Q1
variable {b : List Pl} (gb : Good b)
include gb
theorem nj {p:Int} (h:In b p):(kb b p).Nodup:=(fb gb h.1 h.2).1.nd
theorem nk {p q:Int} (h:In b p) (hq:q∈kb b p):In b q:=by
 obtain⟨e,he,rfl⟩:=List.mem_map.mp hq
 exact(fb gb h.1 h.2).1.qW e he
theorem h8 {p:Int} (h:In b p):p∈kb b p:=List.mem_map.mpr ⟨_,YU (fb gb h.1 h.2).1.hd,rfl⟩
theorem qD {p q g:Int} (h:In b p) (hq:q∈kb b p) (hg:g∈fB b q):g∈kb b p:=by
 obtain⟨e,he,rfl⟩:=List.mem_map.mp hq
 obtain⟨j,hj⟩:=Zk he
 obtain⟨i,ei,h1,h2,_⟩:=(fb gb h.1 h.2).2 j e hj g hg
 exact List.mem_map.mpr ⟨ei,YU h1,h2⟩
theorem zA {p:Int} (h:In b p):∀(ws:List Nat) (q r:Int),q∈kb b p->go b q ws=some r->r∈kb b p
 | [],q,r,hq,e=>by cases e;exact hq
 | w::ws,q,r,hq,e=>by
  have e:(match (fB b q)[w]? with | some g=>go b g ws | none=>none)=some r:=e
  cases c:(fB b q)[w]? with
  | none=>rw[c] at e;cases e
  | some g=>rw[c] at e;exact zA h ws g r (qD gb h hq (YU c)) e
theorem uW {p q:Int} (h:In b p):q∈kb b p↔∃ws,go b p ws=some q:=by
 constructor
 ·intro hq
  obtain⟨e,he,rfl⟩:=List.mem_map.mp hq
  obtain⟨j,hj⟩:=Zk he
  exact⟨_,B1 (fb gb h.1 h.2).1 j e hj⟩
 ·rintro⟨ws,e⟩
  exact zA gb h ws p q (h8 gb h) e
theorem fh {p q r:Int} (h:In b p) (hq:q∈kb b p) (hr:r∈kb b q):r∈kb b p:=by
 obtain⟨ws,e⟩:=(uW gb (nk gb h hq)).mp hr
 exact zA gb h ws q r hq e
theorem zB {p:Int} (h:In b p):(kb b p).length<=b.length:=by
 have:=(fb gb h.1 h.2).1.rR
 unfold kb keys
 rw[YO]
 exact this
end Q1
theorem nv:∀{l m:List Int},l.Nodup->(∀x∈l,x∈m)->∃r,m.Perm (l++r)
 | [],m,_,_=>⟨m,.refl _⟩
 | x::l,m,nd,h=>by
  obtain⟨n1,n2⟩:=List.nodup_cons.mp nd
  obtain⟨r,p⟩:=nv (m:=m.erase x) n2 λy hy=>(List.mem_erase_of_ne (a:=y) (b:=x) λz=>n1 (by rw[<-z];exact hy)).mpr (h y (YW _ hy))
  exact⟨r,(List.perm_cons_erase (h x YV)).trans (p.cons x)⟩
theorem sub_len {l m:List Int} (hl:l.Nodup) (h:∀x∈l,x∈m):l.length<=m.length:=by
 obtain⟨r,p⟩:=nv hl h
 rw[p.length_eq,Zf]
 omega
theorem sub_eq {l m:List Int} (hl:l.Nodup) (hm:m.Nodup) (h:∀x∈l,x∈m) (e:m.length<=l.length):∀x∈m,x∈l:=λx hx=>by
 obtain⟨r,p⟩:=nv hl h
 have:=p.length_eq
 rw[Zf] at this
 have:r=[]:=List.length_eq_zero_iff.mp (by omega)
 subst this
 rw[ZM] at p
 exact p.mem_iff.mp hx
noncomputable def cE (b:List Pl) (p:Int):List Int:=(Nm.lM (kb b p)).filter λo=>decide (p∈kb b o)
noncomputable def rep (b:List Pl) (p:Int):Int:=(cE b p).headD (-1)
noncomputable def sU (b:List Pl) (n:Nat):List Int:=((List.range n).map fun(i:Nat)=>(i:Int)).filter λp=>decide (rep b p=p)
section Q2
variable {b : List Pl} (gb : Good b)
include gb
omit gb in
theorem c4 {p o:Int}:o∈cE b p↔o∈kb b p/\p∈kb b o:=by
 unfold cE
 rw[List.mem_filter,Nm.vS,decide_eq_true_eq]
theorem iL {p:Int} (h:In b p):(cE b p).Pairwise (·<·):=List.Pairwise.filter _ (Nm.EB (nj gb h))
theorem nA {p:Int} (h:In b p):p∈cE b p:=c4.mpr ⟨h8 gb h,h8 gb h⟩
theorem dz {p o:Int} (h:In b p) (ho:o∈cE b p):In b o:=nk gb h (c4.mp ho).1
theorem gI {p:Int} (h:In b p):cE b p≠[]:=List.ne_nil_of_mem (nA gb h)
theorem Cj {p o:Int} (ho:o∈cE b p):p∈cE b o:=c4.mpr (c4.mp ho).symm
theorem v5 {p o:Int} (h:In b p) (ho:o∈cE b p):∀x,x∈kb b p↔x∈kb b o:=λx=>by
 obtain⟨h1,h2⟩:=c4.mp ho
 exact⟨λhx=>fh gb (nk gb h h1) h2 hx,λhx=>fh gb h h1 hx⟩
theorem v7 {p o:Int} (h:In b p) (ho:o∈cE b p):(kb b p).length=(kb b o).length:=by
 have hi:=dz gb h ho
 exact Nat.le_antisymm (sub_len (nj gb h) λx hx=>(v5 gb h ho x).mp hx) (sub_len (nj gb hi) λx hx=>(v5 gb h ho x).mpr hx)
theorem pF {p o r:Int} (h:In b p) (ho:o∈cE b p) (hr:r∈cE b o):r∈cE b p:=by
 have hi:=dz gb h ho
 have KD:=dz gb hi hr
 obtain⟨h1,h2⟩:=c4.mp ho
 obtain⟨h3,h4⟩:=c4.mp hr
 exact c4.mpr ⟨fh gb h h1 h3,fh gb KD h4 h2⟩
omit gb in
theorem EM {l m:List Int} (hl:l.Pairwise (·<·)) (hm:m.Pairwise (·<·)) (h:∀x,x∈l↔x∈m):l=m:=by
 have p:l.Perm m:=(List.perm_ext_iff_of_nodup (hl.imp λh z=>by omega) (hm.imp λh z=>by omega)).mpr h
 have o1:l.Pairwise (·<=·):=hl.imp λh=>Int.le_of_lt h
 have o2:m.Pairwise (·<=·):=hm.imp λh=>Int.le_of_lt h
 rw[Nm.lN p o1,Nm.uI o2]
theorem qE {p o:Int} (h:In b p) (ho:o∈cE b p):cE b o=cE b p:=by
 have hi:=dz gb h ho
 refine EM (iL gb hi) (iL gb h) λx=>⟨λhx=>pF gb h ho hx,λhx=>pF gb hi (Cj gb ho) hx⟩
theorem lV {p:Int} (h:In b p):rep b p∈cE b p:=by
 unfold rep
 cases e:cE b p with
 | nil=>exact absurd e (gI gb h)
 | cons x r=>exact YV
theorem EN {p:Int} (h:In b p):In b (rep b p):=dz gb h (lV gb h)
theorem qF {p:Int} (h:In b p):cE b (rep b p)=cE b p:=qE gb h (lV gb h)
theorem Ck {p:Int} (h:In b p):rep b (rep b p)=rep b p:=by
 show(cE b (rep b p)).headD (-1)=_
 rw[qF gb h]
 rfl
theorem qG {p o:Int} (h:In b p) (ho:o∈cE b p):rep b o=rep b p:=by
 show(cE b o).headD (-1)=_
 rw[qE gb h ho]
 rfl
omit gb in
theorem ia {n:Nat} {p:Int}:p∈sU b n↔(0<=p/\p<n)/\rep b p=p:=by
 unfold sU
 rw[List.mem_filter,List.mem_map,decide_eq_true_eq]
 constructor
 ·rintro⟨⟨i,hi,rfl⟩,h⟩
  have:=List.mem_range.mp hi
  exact⟨⟨by omega,by omega⟩,h⟩
 ·rintro⟨⟨h1,h2⟩,h⟩
  exact⟨⟨p.toNat,List.mem_range.mpr (by omega),by omega⟩,h⟩
omit gb in
theorem EO {n:Nat}:(sU b n).Nodup:=by
 refine List.Pairwise.filter _ ?_
 rw[List.pairwise_map]
 exact List.nodup_range.imp λh z=>h (by omega)
omit gb in
theorem v8 {n:Nat}:(sU b n).length<=n:=by
 unfold sU
 refine Y2 (List.length_filter_le _ _) ?_
 rw[YO,Y9]
 exact YS _
omit gb in
theorem sV {n:Nat}:sU b (n+1)=if rep b (n:Int)=(n:Int) then sU b n++ [(n:Int)] else sU b n:=by
 unfold sU
 rw[List.range_succ,Zc,List.filter_append]
 by_cases c:rep b (n:Int)=(n:Int)
 ·rw[if_pos c]
  simp [c]
 ·rw[if_neg c]
  simp [c]
theorem Cm {p:Int} (h:In b p):rep b p∈sU b b.length:=ia.mpr ⟨EN gb h,Ck gb h⟩
end Q2
structure Told (b:List Pl) (ps:List Int):Prop where
 pm:ps.Perm (sU b b.length)
 od:ps.Pairwise λp q=>(kb b p).length<=(kb b q).length
section Q3
variable {b : List Pl} (gb : Good b) {ps : List Int} (T : Told b ps)
include gb T
omit gb in
theorem Told.nd:ps.Nodup:=T.pm.nodup_iff.mpr EO
omit gb in
theorem Told.De {p:Int} (h:p∈ps):In b p:=(ia.mp (T.pm.mem_iff.mp h)).1
omit gb in
theorem Told.rp {p:Int} (h:p∈ps):rep b p=p:=(ia.mp (T.pm.mem_iff.mp h)).2
theorem Told.has {p:Int} (h:In b p):rep b p∈ps:=T.pm.mem_iff.mpr (Cm gb h)
theorem Told.ER {p q:Int} (h:In b p) (hq:q∈kb b p):ps.idxOf (rep b q)<=ps.idxOf (rep b p):=by
 have hi:=nk gb h hq
 have sub:∀x∈kb b q,x∈kb b p:=λx hx=>fh gb h hq hx
 have le:=sub_len (nj gb hi) sub
 by_cases c:(kb b p).length<=(kb b q).length
 ·have:p∈kb b q:=sub_eq (nj gb hi) (nj gb h) sub c p (h8 gb h)
  rw[qG gb h (c4.mpr ⟨hq,this⟩)]
  exact YS _
 ·have l1:=ZR (T.has gb hi)
  have l2:=ZR (T.has gb h)
  rcases Nat.lt_or_ge (ps.idxOf (rep b p)) (ps.idxOf (rep b q)) with g | g
  ·have od:=List.pairwise_iff_getElem.mp T.od _ _ l2 l1 g
   rw[ZQ l2,ZQ l1,<-v7 gb h (lV gb h),<-v7 gb hi (lV gb hi)] at od
   omega
  ·exact g
end Q3
noncomputable def gp (b:List Pl):List Int->Nat->List (Int×Int)
 | [],_=>[]
 | p::ps,i=>(cE b p).map (λx=>(x,(i:Int)))++gp b ps (i+1)
theorem j9 (b:List Pl):∀(l m:List Int) (i:Nat),gp b (l++m) i=gp b l i++gp b m (i+l.length)
 | [],m,i=>rfl
 | p::l,m,i=>by
  rw[List.cons_append,gp,gp,j9 b l m (i+1),List.append_assoc,Y4,show i+1+l.length=i+ (l.length+1) by omega]
theorem jg {b:List Pl} {x j:Int}:∀{ps:List Int} {i:Nat},(x,j)∈gp b ps i↔∃t p,ps[t]?=some p/\x∈cE b p/\j=((i+t:Nat):Int)
 | [],i=>by
  constructor
  ·intro h;cases h
  ·rintro⟨t,p,h,_⟩;simp at h
 | q::ps,i=>by
  rw[gp,List.mem_append,List.mem_map,jg (ps:=ps)]
  constructor
  ·rintro(⟨y,hy,e⟩ | ⟨t,p,h1,h2,h3⟩)
   ·injection e with e1 e2
    subst e1 e2
    exact⟨0,q,rfl,hy,rfl⟩
   ·exact⟨t+1,p,by simpa using h1,h2,by rw[h3];congr 1;omega⟩
  ·rintro⟨t,p,h1,h2,h3⟩
   cases t with
   | zero=>simp at h1;subst h1;exact .inl ⟨x,h2,by rw[h3];rfl⟩
   | succ t=>exact .inr ⟨t,p,by simpa using h1,h2,by rw[h3];congr 1;omega⟩
theorem v9 {b:List Pl} (gb:Good b):∀{ps:List Int} {i:Nat},ps.Nodup->(∀p∈ps,In b p/\rep b p=p)->((gp b ps i).map (·.1)).Nodup
 | [],i,_,_=>List.nodup_nil
 | p::ps,i,nd,h=>by
  obtain⟨n1,n2⟩:=List.nodup_cons.mp nd
  have hp:=h p YV
  rw[gp,Zc,List.nodup_append]
  refine⟨?_,v9 gb n2 λq hq=>h q (YW _ hq),λx hx y hy e=>?_⟩
  ·rw[Zu,show((λx:Int×Int=>x.1) ∘λx=>(x,(i:Int)))=id from rfl,List.map_id]
   exact(iL gb hp.1).imp λh z=>by omega
  ·rw[Zu,show((λx:Int×Int=>x.1) ∘λx=>(x,(i:Int)))=id from rfl,List.map_id] at hx
   subst e
   obtain⟨⟨x',j⟩,hm,rfl⟩:=List.mem_map.mp hy
   obtain⟨t,q,h1,h2,_⟩:=jg.mp hm
   have hq:=h q (YW _ (YU h1))
   have e1:=qG gb hp.1 hx
   have e2:=qG gb hq.1 h2
   rw[hp.2] at e1
   rw[hq.2] at e2
   have:p=q:=e1.symm.trans e2
   exact n1 (this▸YU h1)
section Q9
variable {b : List Pl} (gb : Good b) {ps : List Int} (T : Told b ps)
include gb T
theorem Told.ES:((gp b ps 0).map (·.1)).Nodup:=v9 gb T.nd λp hp=>⟨T.De hp,T.rp hp⟩
theorem Told.Cn {x:Int} (h:In b x):(x,((ps.idxOf (rep b x):Nat):Int))∈gp b ps 0:=by
 have hm:=T.has gb h
 refine jg.mpr ⟨ps.idxOf (rep b x),rep b x,?_,?_,by rw[ZI]⟩
 ·have l:=ZR hm
  rw[YQ l,ZQ l]
 ·rw[qF gb h];exact nA gb h
theorem Told.ET {x j:Int} (h:(x,j)∈gp b ps 0):In b x:=by
 obtain⟨t,p,h1,h2,_⟩:=jg.mp h
 exact dz gb (T.De (YU h1)) h2
theorem Told.zC:Nm.lM ((gp b ps 0).map (·.1))=(List.range b.length).map fun(i:Nat)=>(i:Int):=by
 refine(Nm.lN ((List.perm_ext_iff_of_nodup ?_ (T.ES gb)).mpr λx=>?_) ?_).symm
 ·rw[List.nodup_iff_pairwise_ne,List.pairwise_map]
  exact List.nodup_range.imp λh z=>h (by omega)
 ·rw[List.mem_map,List.mem_map]
  constructor
  ·rintro⟨i,hi,rfl⟩
   have:=List.mem_range.mp hi
   exact⟨_,T.Cn gb (x:=(i:Int)) ⟨by omega,by omega⟩,rfl⟩
  ·rintro⟨⟨y,j⟩,hy,rfl⟩
   obtain⟨h0,h1⟩:=T.ET gb hy
   exact⟨y.toNat,List.mem_range.mpr (by omega),by show((y.toNat:Nat):Int)=y;omega⟩
 ·rw[List.pairwise_map]
  exact List.pairwise_lt_range.imp λh=>by omega
end Q9
noncomputable def off (b:List Pl) (ps:List Int) (i:Nat):Nat:=(gp b (ps.take i) 0).length
theorem nB {b:List Pl} {ps:List Int} {i:Nat} {p:Int} (e:ps[i]?=some p):off b ps (i+1)=off b ps i+ (cE b p).length:=by
 unfold off
 rw[Ze,e,Option.toList_some,j9,Zf,gp,gp,ZM,YO]
theorem Co {b:List Pl} {ps:List Int}:off b ps ps.length=(gp b ps 0).length:=by unfold off;rw[Zi (YS _)]
end Pr
namespace Dg
open Lv Bf
structure Down (b:List Pl) (rk:Int->Nat):Prop where
 good:Good b
 dn:∀(i:Nat) q,b[i]?=some q->∀g∈fX q,rk g<rk (i:Int)
 eO:∀q∈b,∀g ws,q=.eO g ws->ws≠[]
section DA
variable {b : List Pl} {rk : Int -> Nat} (D : Down b rk)
include D
end DA
end Dg
namespace Dg
abbrev Sh:=Wq.Sh
abbrev Wy:=List (Int×Int)
noncomputable def vl (x:Sh):Rat:=(x.1:Rat) / (x.2:Rat)
theorem nF {a:Int} (h:0<a):(a:Rat)≠0:=λz=>by
 have:a=0:=Rat.intCast_inj.mp z
 omega
theorem sW {x:Sh} {a b:Int} (hx:0<x.2) (hb:0<b) (h:x.1*b=a*x.2):vl x=(a:Rat) / (b:Rat):=by
 have h1:=nF hx
 have h2:=nF hb
 have h3:(x.1:Rat)* (b:Rat)=(a:Rat)* (x.2:Rat):=by rw[<-Rat.intCast_mul,<-Rat.intCast_mul,h]
 unfold vl
 generalize (x.1:Rat)=u at *
 generalize (x.2:Rat)=v at *
 generalize (a:Rat)=s at *
 generalize (b:Rat)=t at *
 grind
theorem uX {a b:Int} (h:0<b):vl (Wq.low a b)=(a:Rat) / (b:Rat):=sW (Wq.mZ h).1 h (Nm.rV a b)
theorem Hi {x y:Sh} (hx:0<x.2) (hy:0<y.2):vl (Wq.pl x y)=vl x+vl y:=by
 unfold Wq.pl
 rw[uX (Zm hx hy)]
 have h1:=nF hx
 have h2:=nF hy
 rw[Rat.intCast_add,Rat.intCast_mul,Rat.intCast_mul,Rat.intCast_mul]
 unfold vl
 generalize (x.1:Rat)=u at *
 generalize (x.2:Rat)=v at *
 generalize (y.1:Rat)=s at *
 generalize (y.2:Rat)=t at *
 grind
theorem Hj {x y:Sh} (hx:0<x.2) (hy:0<y.2):vl (Wq.tm x y)=vl x*vl y:=by
 unfold Wq.tm
 rw[uX (Zm hx hy)]
 have h1:=nF hx
 have h2:=nF hy
 rw[Rat.intCast_mul,Rat.intCast_mul]
 unfold vl
 generalize (x.1:Rat)=u at *
 generalize (x.2:Rat)=v at *
 generalize (y.1:Rat)=s at *
 generalize (y.2:Rat)=t at *
 grind
theorem EU {x y:Sh} (hx:Wq.Lw x) (hy:Wq.Lw y) (h:vl x=vl y):x=y:=by
 have h1:=nF hx.1
 have h2:=nF hy.1
 have c:(x.1:Rat)* (y.2:Rat)=(y.1:Rat)* (x.2:Rat):=by
  unfold vl at h
  generalize (x.1:Rat)=u at *
  generalize (x.2:Rat)=v at *
  generalize (y.1:Rat)=s at *
  generalize (y.2:Rat)=t at *
  grind
 rw[<-Rat.intCast_mul,<-Rat.intCast_mul] at c
 obtain⟨a,b⟩:=Nm.BO hx.1 hy.1 hx.2 hy.2 (Rat.intCast_inj.mp c)
 exact Prod.ext a b
noncomputable def tt (ws:Wy):Int:=if ws=[] then 1 else Wq.cJ ws
theorem cR (x:Int×Int) (ws:Wy):Wq.cJ (x::ws)=x.1+Wq.cJ ws:=rfl
noncomputable def kQ (d:Int) (v:Int->Rat):Wy->Rat
 | []=>0
 | x::ws=>(x.1:Rat) / (d:Rat)*v x.2+kQ d v ws
theorem nG {d:Int} {v v':Int->Rat}:∀{ws:Wy},(∀x∈ws,v x.2=v' x.2)->kQ d v ws=kQ d v' ws
 | [],_=>rfl
 | x::ws,h=>by
  unfold kQ
  rw[h x YV,nG λy hy=>h y (YW _ hy)]
abbrev Bk:=List Int×Int
noncomputable def val (S:Bk) (q:Int):Rat:=(S.1.getD q.toNat 0:Rat) / (S.2:Rat)
noncomputable def gu (ts:List Int) (ws:Wy):Int:=(ws.map λx=>x.1*ts.getD x.2.toNat 0).sum
theorem jh (ts:List Int) (d:Int) (q:Nat):(ts.map (·*d)).getD q 0=ts.getD q 0*d:=by
 rw[YR,YR,YT]
 cases ts[q]? with
 | none=>show(0:Int)=0*d;omega
 | some x=>rfl
theorem cB {ts:List Int} {p q:Nat} {x:Int} (h:p≠q):(ts.set p x).getD q 0=ts.getD q 0:=by
 rw[YR,YR,ZL h]
theorem c8 {ts:List Int} {p:Nat} {x:Int} (h:p<ts.length):(ts.set p x).getD p 0=x:=by
 rw[YR,ZU h]
 rfl
theorem sX {S:Bk} (B0:0<S.2) {d:Int} (d0:0<d):∀ws:Wy,(gu S.1 ws:Rat) / ((S.2*d:Int):Rat)=kQ d (val S) ws
 | []=>by show((0:Int):Rat) / _=0;grind
 | x::ws=>by
  have ih:=sX B0 d0 ws
  have h1:=nF B0
  have h2:=nF d0
  show(((x.1*S.1.getD x.2.toNat 0+gu S.1 ws:Int)):Rat) / ((S.2*d:Int):Rat)=(x.1:Rat) / (d:Rat)* ((S.1.getD x.2.toNat 0:Rat) / (S.2:Rat))+kQ d (val S) ws
  rw[<-ih,Rat.intCast_add,Rat.intCast_mul,Rat.intCast_mul]
  generalize (x.1:Rat)=u at *
  generalize (S.2:Rat)=v at *
  generalize (d:Rat)=t at *
  generalize ((S.1.getD x.2.toNat 0:Int):Rat)=s at *
  generalize ((gu S.1 ws:Int):Rat)=r at *
  grind
end Dg
namespace Dg
theorem UU:((1:Int):Rat) / ((1:Int):Rat)=1:=by
 have:((1:Int):Rat)=1:=rfl
 grind
theorem Jr:((0:Int):Rat) / ((1:Int):Rat)=0:=by
 have:((0:Int):Rat)=0:=rfl
 grind
noncomputable def pr (d:Int) (q:Int):Wy->Rat
 | []=>0
 | x::ws=>(if x.2=q then (x.1:Rat) / (d:Rat) else 0)+pr d q ws
theorem qH {d q:Int}:∀{ws:Wy},(∀x∈ws,x.2≠q)->pr d q ws=0
 | [],_=>rfl
 | x::ws,h=>by
  unfold pr
  rw[if_neg (h x YV),qH λy hy=>h y (YW _ hy)]
  grind
noncomputable def Runs (W:Int->Wy):List Int->(Int->Rat)->(Int->Rat)->Prop
 | [],f,g=>∀q,0<=q->g q=f q
 | p::os,f,g=>∃f1,(∀q,0<=q->f1 q=f q+f p*pr (tt (W p)) q (W p))/\Runs W os f1 g
noncomputable def bS (W:Int->Wy) (g:Int->Rat) (q:Int):List Int->Rat
 | []=>0
 | p::os=>g p*pr (tt (W p)) q (W p)+bS W g q os
theorem xP {W:Int->Wy} {g:Int->Rat} {q:Int} {os yD:List Int} (h:os.Perm yD):bS W g q os=bS W g q yD:=by
 induction h with
 | nil=>rfl
 | cons x _ ih=>unfold bS;rw[ih]
 | swap x y l=>unfold bS;unfold bS;grind
 | trans _ _ i1 i2=>rw[i1,i2]
theorem nH {W:Int->Wy} {g g':Int->Rat} {q:Int}:∀{os:List Int},(∀p∈os,(∃x∈W p,x.2=q)->g p=g' p)->bS W g q os=bS W g' q os
 | [],_=>rfl
 | p::os,h=>by
  unfold bS
  rw[nH λr hr=>h r (YW _ hr)]
  by_cases c:∃x∈W p,x.2=q
  ·rw[h p YV c]
  ·rw[qH λx hx z=>c ⟨x,hx,z⟩]
   grind
noncomputable def addW (c:Int):Wy->List Int->List Int
 | [],ts=>ts
 | x::ws,ts=>addW c ws (ts.set x.2.toNat (ts.getD x.2.toNat 0+c*x.1))
theorem nI (c:Int):∀(ws:Wy) (ts:List Int),(addW c ws ts).length=ts.length
 | [],_=>rfl
 | x::ws,ts=>by
  unfold addW
  rw[nI c ws,Zh]
theorem pG (c:Int) (x:Int×Int):∀(ws:Wy) (ts:List Int),addW c (ws++ [x]) ts=(addW c ws ts).set x.2.toNat ((addW c ws ts).getD x.2.toNat 0+c*x.1)
 | [],_=>rfl
 | y::ws,ts=>pG c x ws _
noncomputable def bV (q:Int) (ws:Wy):Int:=(ws.map λx=>if x.2=q then x.1 else 0).sum
theorem nJ {c q:Int} (q0:0<=q):∀{ws:Wy} {ts:List Int},(∀x∈ws,0<=x.2/\x.2< (ts.length:Int))->(addW c ws ts).getD q.toNat 0=ts.getD q.toNat 0+c*bV q ws
 | [],ts,_=>by show _=_+c*0;rw[Zs,Int.add_zero];rfl
 | x::ws,ts,h=>by
  obtain⟨x0,x1⟩:=h x YV
  have ih:=nJ (c:=c) q0 (ws:=ws) (ts:=ts.set x.2.toNat (ts.getD x.2.toNat 0+c*x.1)) λy hy=>by rw[Zh];exact h y (YW _ hy)
  show(addW c ws _).getD q.toNat 0=ts.getD q.toNat 0+c* ((if x.2=q then x.1 else 0)+bV q ws)
  rw[ih,Int.mul_add]
  by_cases e:x.2=q
  ·subst e
   rw[c8 (by omega),if_pos rfl]
   omega
  ·rw[cB (by omega),if_neg e]
   omega
theorem qI {d q:Int} (d0:0<d):∀ws:Wy,(bV q ws:Rat) / (d:Rat)=pr d q ws
 | []=>by show((0:Int):Rat) / _=0;grind
 | x::ws=>by
  have ih:=qI (q:=q) d0 ws
  have h1:=nF d0
  show(((if x.2=q then x.1 else 0)+bV q ws:Int):Rat) / (d:Rat)=(if x.2=q then (x.1:Rat) / (d:Rat) else 0)+pr d q ws
  rw[<-ih,Rat.intCast_add]
  split
  ·grind
  ·have:((0:Int):Rat)=0:=rfl
   grind
end Dg
namespace Dg
structure Yj (n:Nat) (G:Int) (i:Nat) (S:Bk):Prop where
 len:S.1.length=n
 pos:0<S.2
 dv:G∣S.2
 bb:Bt (4*i+4) S.2
 bt:∀q,(S.1.getD q 0).natAbs<=S.2.toNat * (6*i)
structure Yk (n:Nat) (i:Nat) (S:Bk):Prop where
 len:S.1.length=n
 pos:0<S.2
 bb:Bt (4*i+1) S.2
 bt:∀q,(S.1.getD q 0).natAbs<=32^i
end Dg
namespace Dg
noncomputable def dN (v:Int->Int):Wy->Int
 | []=>0
 | x::ws=>x.1*v x.2+dN v ws
theorem qJ {v:Int->Int} {M:Nat}:∀{ws:Wy},(∀x∈ws,1<=x.1/\(v x.2).natAbs<=M)->(dN v ws).natAbs<=(Wq.cJ ws).toNat *M/\0<=Wq.cJ ws
 | [],_=>⟨Y3 _,Int.le_refl _⟩
 | x::ws,h=>by
  obtain⟨h1,h2⟩:=h x YV
  obtain⟨i1,i2⟩:=qJ (ws:=ws) λy hy=>h y (YW _ hy)
  have m1:(x.1*v x.2).natAbs<=x.1.toNat *M:=by
   rw[Zq,show x.1.natAbs=x.1.toNat by omega]
   exact Z3 _ h2
  have e:(Wq.cJ (x::ws)).toNat=x.1.toNat+ (Wq.cJ ws).toNat:=by rw[cR];omega
  refine⟨?_,by rw[cR];omega⟩
  rw[e,Nat.add_mul]
  show(x.1*v x.2+dN v ws).natAbs<=_
  omega
theorem wa {v:Int->Int} {M:Nat}:∀{ws:Wy},(∀x∈ws,1<=x.1/\(v x.2).natAbs<=M)->(∃x∈ws,(v x.2).natAbs<M)->(dN v ws).natAbs< (Wq.cJ ws).toNat *M
 | [],_,h=>by obtain⟨x,hx,_⟩:=h;simp at hx
 | x::ws,h,k=>by
  obtain⟨h1,h2⟩:=h x YV
  have hw:∀y∈ws,1<=y.1/\(v y.2).natAbs<=M:=λy hy=>h y (YW _ hy)
  obtain⟨i1,i2⟩:=qJ hw
  have e:(Wq.cJ (x::ws)).toNat=x.1.toNat+ (Wq.cJ ws).toNat:=by rw[cR];omega
  have ab:(x.1*v x.2).natAbs=x.1.toNat * (v x.2).natAbs:=by rw[Zq,show x.1.natAbs=x.1.toNat by omega]
  have m1:x.1.toNat * (v x.2).natAbs<=x.1.toNat *M:=Z3 _ h2
  rw[e,Nat.add_mul]
  show(x.1*v x.2+dN v ws).natAbs<_
  obtain⟨y,hy,ly⟩:=k
  rcases List.mem_cons.mp hy with rfl | hy
  ·have:y.1.toNat * (v y.2).natAbs<y.1.toNat *M:=Nat.mul_lt_mul_of_pos_left ly (by omega)
   omega
  ·have:=wa hw ⟨y,hy,ly⟩
   omega
theorem wb (v:Int->Int):∀(ps:List Int),ps≠[]->∃q∈ps,∀p∈ps,(v p).natAbs<=(v q).natAbs
 | [],h=>absurd rfl h
 | [a],_=>⟨a,List.mem_singleton.mpr rfl,λp hp=>by rw[List.mem_singleton.mp hp];exact YS _⟩
 | a::b::l,_=>by
  obtain⟨q,hq,h⟩:=wb v (b::l) (by simp)
  by_cases c:(v q).natAbs<=(v a).natAbs
  ·refine⟨a,YV,λp hp=>?_⟩
   rcases List.mem_cons.mp hp with rfl | hp
   ·exact YS _
   ·exact Y2 (h p hp) c
  ·refine⟨q,YW _ hq,λp hp=>?_⟩
   rcases List.mem_cons.mp hp with rfl | hp
   ·omega
   ·exact h p hp
theorem xQ {ps:List Int} {W:Int->Wy} {lv:Int->Nat} {v:Int->Int} (h:∀p∈ps,tt (W p)*v p=dN v (W p)) (pos:∀p∈ps,∀x∈W p,1<=x.1) (out:∀q,q∉ps->v q=0) (dn:∀p∈ps,W p=[]\/∃x∈W p,lv x.2<lv p):∀p∈ps,v p=0:=by
 intro p0 Sn
 obtain⟨q,hq,mx⟩:=wb v ps (List.ne_nil_of_mem Sn)
 have all:∀r,(v r).natAbs<=(v q).natAbs:=λr=>by
  by_cases c:r∈ps
  ·exact mx r c
  ·rw[out r c];exact Y3 _
 by_cases M0:(v q).natAbs=0
 ·have:=mx p0 Sn
  omega
 ·exfalso
  have low:∀n,∀p∈ps,lv p<n->(v p).natAbs< (v q).natAbs:=by
   intro n
   induction n with
   | zero=>exact λp _ hl=>absurd hl (ZV _)
   | succ n ih=>
    intro p hp hl
    have e:=h p hp
    rcases dn p hp with z | ⟨x,hx,lx⟩
    ·rw[z] at e
     have e:1*v p=0:=e
     omega
    ·have k:=wa (v:=v) (M:=(v q).natAbs) (ws:=W p) (λy hy=>⟨pos p hp y hy,all _⟩) ⟨x,hx,by
      by_cases c:x.2∈ps
      ·exact ih _ c (by omega)
      ·rw[out _ c];show 0<_;omega⟩
     have et:tt (W p)=Wq.cJ (W p):=by unfold tt;rw[if_neg (List.ne_nil_of_mem hx)]
     have tp:=(qJ (v:=v) (M:=(v q).natAbs) (ws:=W p) λy hy=>⟨pos p hp y hy,all _⟩).2
     rw[<-e,Zq,et,show(Wq.cJ (W p)).natAbs=(Wq.cJ (W p)).toNat by omega] at k
     exact Nat.lt_of_mul_lt_mul_left k
  exact Zj _ (low _ q hq (Zl _))
end Dg
namespace aJ
abbrev Fm:=Nat->Int
noncomputable def X (w:Fm) (F:List Nat->Int):List Nat->Int
 | []=>0
 | c::cs=>w c*F cs - X w (λl=>F (c::l)) cs
noncomputable def D:List Fm->List Nat->Int
 | [],[]=>1
 | [],_::_=>0
 | w::rs,cs=>X w (D rs) cs
theorem lX (w:Fm):∀(cs:List Nat) (F G:List Nat->Int),X w (λl=>F l+G l) cs=X w F cs+X w G cs
 | [],_,_=>rfl
 | c::cs,F,G=>by
  simp only[X]
  rw[lX w cs (λl=>F (c::l)) (λl=>G (c::l)),Int.mul_add]
  omega
theorem lY (w:Fm) (k:Int):∀(cs:List Nat) (F:List Nat->Int),X w (λl=>k*F l) cs=k*X w F cs
 | [],_=>(Zs k).symm
 | c::cs,F=>by
  simp only[X]
  rw[lY w k cs (λl=>F (c::l)),Int.mul_sub,<-Zn,<-Zn,Y8 k (w c)]
theorem sY (w:Fm):∀(cs:List Nat),X w (λ_=>0) cs=0
 | []=>rfl
 | c::cs=>by simp only[X];rw[sY w cs];simp
theorem Cp (w:Fm) (cs:List Nat) (F:List Nat->Int):X w (λl=> - F l) cs= - X w F cs:=by
 have:=lY w (-1) cs F
 rw[Int.neg_one_mul] at this
 rw[<-this]
 congr 1;funext l;rw[Int.neg_one_mul]
theorem fQ (v w:Fm):∀(cs:List Nat) (F:List Nat->Int),X (λc=>v c+w c) F cs=X v F cs+X w F cs
 | [],_=>rfl
 | c::cs,F=>by
  simp only[X]
  rw[fQ v w cs (λl=>F (c::l)),Int.add_mul]
  omega
theorem ib (k:Int) (w:Fm):∀(cs:List Nat) (F:List Nat->Int),X (λc=>k*w c) F cs=k*X w F cs
 | [],_=>(Zs k).symm
 | c::cs,F=>by
  simp only[X]
  rw[ib k w cs (λl=>F (c::l)),Int.mul_sub,Zn]
theorem qK {v w:Fm}:∀{cs:List Nat} {F:List Nat->Int},(∀c∈cs,v c=w c)->X v F cs=X w F cs
 | [],_,_=>rfl
 | c::cs,F,h=>by
  simp only[X]
  rw[h c (YV ..),qK (cs:=cs) λc' hc=>h c' (YW _ hc)]
theorem pH {w:Fm}:∀{cs:List Nat} {F:List Nat->Int},(∀c∈cs,w c=0)->X w F cs=0
 | [],_,_=>rfl
 | c::cs,F,h=>by
  simp only[X]
  rw[h c (YV ..),pH (cs:=cs) λc' hc=>h c' (YW _ hc)]
  simp
theorem zD (w:Fm):∀(cs:List Nat) (F:List Nat->Int),X w (X w F) cs=0
 | [],_=>rfl
 | c::cs,F=>by
  simp only[X]
  have e:=lX w cs (λl=>w c*F l) (λl=> - X w (λm=>F (c::m)) l)
  have e2:X w (λl=>w c*F l - X w (λm=>F (c::m)) l) cs=X w (λl=>w c*F l+- X w (λm=>F (c::m)) l) cs:=by
   congr 1
  rw[e2,e,lY,Cp,zD w cs λm=>F (c::m)]
  omega
theorem zE (v w:Fm) (cs:List Nat) (F:List Nat->Int):X v (X w F) cs= - X w (X v F) cs:=by
 have e:=zD (λc=>v c+w c) cs F
 have e1:X (λc=>v c+w c) F=λl=>X v F l+X w F l:=by funext l;exact fQ v w l F
 rw[e1,fQ,lX,lX,zD,zD] at e
 omega
theorem wc {w:Fm}:∀{rs:List Fm} (_:w∈rs) (cs:List Nat),D (w::rs) cs=0
 | u::rs,h,cs=>by
  rcases List.mem_cons.mp h with rfl | h
  ·exact zD _ _ _
  ·show X w (X u (D rs)) cs=0
   rw[zE]
   have e:X w (D rs)=λ_=>0:=by funext l;exact wc h l
   rw[e,sY]
   rfl
noncomputable def Sp:List Fm->Fm->Prop
 | [],f=>∀j,f j=0
 | w::rs,f=>∃(c:Int) (g:Fm),Sp rs g/\∀j,f j=c*w j+g j
theorem Sp.congr {f g:Fm}:∀{rs:List Fm},Sp rs f->(∀j,f j=g j)->Sp rs g
 | [],h,e=>λj=>by rw[<-e];exact h j
 | w::rs,⟨c,k,hk,e1⟩,e=>⟨c,k,hk,λj=>by rw[<-e];exact e1 j⟩
theorem Sp.zero:∀{rs:List Fm},Sp rs (λ_=>0)
 | []=>λ_=>rfl
 | _::_=>⟨0,_,Sp.zero,λj=>by simp⟩
theorem Sp.add {f g:Fm}:∀{rs:List Fm},Sp rs f->Sp rs g->Sp rs (λj=>f j+g j)
 | [],h,k=>λj=>by show f j+g j=0;rw[h j,k j];rfl
 | w::rs,⟨c,f',hf,e1⟩,⟨d,g',hg,e2⟩=>⟨c+d,_,hf.add hg,λj=>by show f j+g j=_;rw[e1,e2,Int.add_mul];omega⟩
theorem Sp.mul {f:Fm} (k:Int):∀{rs:List Fm},Sp rs f->Sp rs (λj=>k*f j)
 | [],h=>λj=>by show k*f j=0;rw[h j,Zs]
 | w::rs,⟨c,f',hf,e1⟩=>⟨k*c,_,hf.mul k,λj=>by show k*f j=_;rw[e1,Int.mul_add,Zn]⟩
theorem Sp.X {rs:List Fm} (w:Fm):∀(cs:List Nat) (F:Nat->List Nat->Int),(∀l,Sp rs (λj=>F j l))->Sp rs (λj=>aJ.X w (F j) cs)
 | [],_,_=>Sp.zero
 | c::cs,F,h=>by
  have h1:=(h cs).mul (w c)
  have h2:=(Sp.X w cs (λj l=>F j (c::l)) (λl=>h (c::l))).mul (-1)
  exact(h1.add h2).congr λj=>by simp only[aJ.X];rw[Int.neg_one_mul];omega
theorem Hk:∀(rs:List Fm) (l:List Nat),Sp rs (λj=>D rs (j::l))
 | [],l=>λj=>rfl
 | w::rs,l=>by
  refine⟨D rs l,_,(Sp.X w l (λj m=>D rs (j::m)) λm=>Hk rs m).mul (-1),λj=>?_⟩
  show w j*D rs l - X w (λm=>D rs (j::m)) l=_
  rw[Int.neg_one_mul,Y8]
  omega
theorem zF {us:List Fm}:∀{rs:List Fm} {g:Fm},Sp rs g->(∀r∈rs,r∈us)->∀cs,D (g::us) cs=0
 | [],g,h,_,cs=>pH λc _=>h c
 | w::rs,g,⟨c,g',h,e⟩,hs,cs=>by
  have e':g=λj=>c*w j+g' j:=funext e
  show X g (D us) cs=0
  rw[e',fQ,ib]
  have z1:X w (D us) cs=0:=wc (hs w (YV ..)) cs
  have z2:X g' (D us) cs=0:=zF h (λr hr=>hs r (YW _ hr)) cs
  rw[z1,z2];simp
theorem KU (rs:List Fm) (cs:List Nat) (v:Fm):Sp rs (λj=>D rs cs*v j+- D (v::rs) (j::cs)):=by
 refine(Sp.X v cs (λj m=>D rs (j::m)) λm=>Hk rs m).congr λj=>?_
 show _=D rs cs*v j+- (v j*D rs cs - X v (λm=>D rs (j::m)) cs)
 rw[Y8]
 omega
theorem main (rs:List Fm) (cs:List Nat) (u v:Fm) (j k:Nat) (h:∀c∈cs,D (v::rs) (c::cs)=0):
  D rs cs*D (v::u::rs) (j::k::cs)=D (u::rs) (k::cs)*D (v::rs) (j::cs) - D (v::rs) (k::cs)*D (u::rs) (j::cs):=by
 have s:=KU rs cs v
 have z:=zF (us:=u::rs) s (λr hr=>YW _ hr) (j::k::cs)
 have z':X (λj=>D rs cs*v j+- D (v::rs) (j::cs)) (D (u::rs)) (j::k::cs)=0:=z
 have e1:D rs cs*D (v::u::rs) (j::k::cs)=X (λj=>D rs cs*v j) (D (u::rs)) (j::k::cs):=(ib _ _ _ _).symm
 have e2:X (λj=>D rs cs*v j+- D (v::rs) (j::cs)) (D (u::rs)) (j::k::cs)=X (λj=>D rs cs*v j) (D (u::rs)) (j::k::cs)+X (λj=> - D (v::rs) (j::cs)) (D (u::rs)) (j::k::cs):=fQ _ _ _ _
 have e3:X (λj=> - D (v::rs) (j::cs)) (D (u::rs)) (j::k::cs)= - D (v::rs) (j::cs)*D (u::rs) (k::cs) - (- D (v::rs) (k::cs)*D (u::rs) (j::cs) - X (λj=> - D (v::rs) (j::cs)) (λl=>D (u::rs) (j::k::l)) cs):=rfl
 have e4:X (λj=> - D (v::rs) (j::cs)) (λl=>D (u::rs) (j::k::l)) cs=0:=pH λc hc=>by rw[h c hc];rfl
 rw[e1]
 rw[e2,e3,e4] at z'
 rw[Int.neg_mul,Int.neg_mul] at z'
 rw[Y8 (D (u::rs) (k::cs))]
 omega
noncomputable def Good:List Fm->List Nat->Prop
 | [],[]=>True
 | u::rs,k::cs=>Good rs cs/\D (u::rs) (k::cs)≠0
 | _,_=>False
theorem Good.ne:∀{rs:List Fm} {cs:List Nat},Good rs cs->D rs cs≠0
 | [],[],_=>by show(1:Int)≠0;decide
 | _::_,_::_,h=>h.2
 | [],_::_,h=>h.elim
 | _::_,[],h=>h.elim
theorem Good.Js:∀{rs:List Fm} {cs:List Nat},Good rs cs->∀(v:Fm) (c:Nat),c∈cs->D (v::rs) (c::cs)=0
 | [],[],_,_,_,hc=>by cases hc
 | u::rs,k::cs,h,v,c,hc=>by
  have hm:=main rs cs u v c k (λc hc=>h.1.Js v c hc)
  have hz:D (u::rs) (k::cs)*D (v::rs) (c::cs) - D (v::rs) (k::cs)*D (u::rs) (c::cs)=0:=by
   rcases List.mem_cons.mp hc with rfl | hc
   ·rw[Y8];omega
   ·rw[h.1.Js v c hc,h.1.Js u c hc];simp
  rw[hz] at hm
  rcases Int.mul_eq_zero.mp hm with h0 | h0
  ·exact absurd h0 h.1.ne
  ·exact h0
 | [],_::_,h,_,_,_=>h.elim
 | _::_,[],h,_,_,_=>h.elim
theorem zG {rs:List Fm} {cs:List Nat} (g:Good rs cs) (u v:Fm) (j k:Nat):
  D (u::rs) (k::cs)*D (v::rs) (j::cs) - D (v::rs) (k::cs)*D (u::rs) (j::cs)=D rs cs*D (v::u::rs) (j::k::cs):=
 (main rs cs u v j k (λc hc=>g.Js v c hc)).symm
noncomputable def dn:Nat->List Nat
 | 0=>[]
 | k+1=>k::dn k
theorem jQ:∀{n c:Nat},c∈dn n↔c<n
 | 0,c=>by simp [dn]
 | n+1,c=>by rw[dn,List.mem_cons,jQ];omega
theorem jR:∀n,(dn n).length=n
 | 0=>rfl
 | n+1=>by rw[dn,Y4,jR]
noncomputable def ng (i:Nat):Fm:=λc=>if c=i then -1 else 0
theorem zH (rs:List Fm) (u:Fm) (j k:Nat) (h:k<j):
  D (ng k::u::rs) (j::k::dn k)=D (u::rs) (j::dn k):=by
 show ng k j*D (u::rs) (k::dn k) - (ng k k*D (u::rs) (j::dn k) - X (ng k) (λl=>D (u::rs) (j::k::l)) (dn k))=_
 rw[pH (w:=ng k) λc hc=>by have:=jQ.mp hc;exact if_neg (by omega)]
 have a:ng k j=0:=if_neg (by omega)
 have b:ng k k= -1:=if_pos rfl
 rw[a,b]
 omega
noncomputable def sm:Nat->(Nat->Int)->Int
 | 0,_=>0
 | n+1,f=>sm n f+f n
theorem Dh (u:Fm) (F:List Nat->Int) (cs:List Nat):∀n,sm n (λi=>u i*X (ng i) F cs)=X (λc=>if c<n then - u c else 0) F cs
 | 0=>by
  show 0=_
  exact(pH λc _=>if_neg (by omega)).symm
 | n+1=>by
  show sm n _+u n*X (ng n) F cs=_
  rw[Dh u F cs n,<-ib,<-fQ]
  refine qK λc _=>?_
  show(if c<n then - u c else 0)+u n* (if c=n then -1 else 0)=_
  by_cases e:c=n
  ·subst e
   rw[if_neg (by omega),if_pos rfl,if_pos (by omega)]
   omega
  ·rw[if_neg e]
   by_cases l:c<n
   ·rw[if_pos l,if_pos (by omega)];simp
   ·rw[if_neg l,if_neg (by omega)];simp
theorem zI (rs:List Fm) (u:Fm) (k:Nat):
  sm k (λi=>u i*D (ng i::rs) (k::dn k))=u k*D rs (dn k) - D (u::rs) (k::dn k):=by
 have e:=Dh u (D rs) (k::dn k) k
 have e1:X (λc=>if c<k then - u c else 0) (D rs) (k::dn k)=X (λc=>(-1)*u c+u k* (if c=k then 1 else 0)) (D rs) (k::dn k):=by
  refine qK λc hc=>?_
  rcases List.mem_cons.mp hc with rfl | hc
  ·rw[if_neg (by omega),if_pos rfl];omega
  ·have:=jQ.mp hc
   rw[if_pos this,if_neg (by omega)];omega
 have e2:X (λc=>if c=k then (1:Int) else 0) (D rs) (k::dn k)=D rs (dn k):=by
  show(if k=k then (1:Int) else 0)*D rs (dn k) - X (λc=>if c=k then (1:Int) else 0) (λl=>D rs (k::l)) (dn k)=_
  rw[if_pos rfl,pH λc hc=>by have:=jQ.mp hc;exact if_neg (by omega)]
  omega
 have e3:sm k (λi=>u i*D (ng i::rs) (k::dn k))=sm k (λi=>u i*X (ng i) (D rs) (k::dn k)):=rfl
 rw[e3,e,e1,fQ,ib,ib,e2]
 show(-1)*D (u::rs) (k::dn k)+u k*D rs (dn k)=_
 omega
theorem perm {rs us:List Fm} (h:rs.Perm us):∃s:Int,(s=1\/s= -1)/\∀cs,D rs cs=s*D us cs:=by
 induction h with
 | nil=>exact⟨1,.inl rfl,λcs=>(Int.one_mul _).symm⟩
 | cons w _ ih=>
  obtain⟨s,h,e⟩:=ih
  refine⟨s,h,λcs=>?_⟩
  show X w _ cs=s*X w _ cs
  rw[<-lY]
  congr 1
  funext l
  exact e l
 | swap x y l=>exact⟨-1,.inr rfl,λcs=>by rw[Int.neg_one_mul];exact zE _ _ _ _⟩
 | trans _ _ UW UX=>
  obtain⟨s,h,e⟩:=UW
  obtain⟨t,k,f⟩:=UX
  refine⟨s*t,?_,λcs=>by rw[e,f,Zn]⟩
  rcases h with rfl | rfl <;>rcases k with rfl | rfl <;>decide
theorem Cq {rs us:List Fm} (h:rs.Perm us) (cs:List Nat):D rs cs≠0↔D us cs≠0:=by
 obtain⟨s,hs,e⟩:=perm h
 rw[e]
 rcases hs with rfl | rfl <;>omega
theorem dI {f g:Nat->Int}:∀{n},(∀i,i<n->f i=g i)->sm n f=sm n g
 | 0,_=>rfl
 | n+1,h=>by show sm n f+f n=sm n g+g n;rw[dI λi hi=>h i (by omega),h n (by omega)]
theorem nK (f g:Nat->Int):∀n,sm n (λi=>f i+g i)=sm n f+sm n g
 | 0=>rfl
 | n+1=>by show sm n _+ (f n+g n)=sm n f+f n+ (sm n g+g n);rw[nK f g n];omega
theorem fR (k:Int) (f:Nat->Int):∀n,sm n (λi=>k*f i)=k*sm n f
 | 0=>(Zs k).symm
 | n+1=>by show sm n _+k*f n=k* (sm n f+f n);rw[fR k f n,Int.mul_add]
theorem wd:∀n,sm n (λ_=>0)=0
 | 0=>rfl
 | n+1=>by show sm n _+0=0;rw[wd n];rfl
theorem qL (g:Nat->Int) (t:Nat):∀n,sm n (λj=>g j* (if j=t then 1 else 0))=if t<n then g t else 0
 | 0=>by rw[if_neg (by omega)];rfl
 | n+1=>by
  show sm n _+g n* (if n=t then 1 else 0)=_
  rw[qL g t n]
  by_cases e:n=t
  ·subst e;rw[if_neg (by omega),if_pos rfl,if_pos (by omega)];omega
  ·rw[if_neg e]
   by_cases l:t<n
   ·rw[if_pos l,if_pos (by omega)];omega
   ·rw[if_neg l,if_neg (by omega)];omega
end aJ
namespace aJ
noncomputable def pβ (β:Nat->Nat):List Nat->Nat
 | []=>1
 | c::cs=>β c*pβ β cs
theorem Hl {w:Fm} {β:Nat->Nat} (hw:∀c,(w c).natAbs<=β c):∀(cs:List Nat) (M:Nat) (F:List Nat->Int),(∀l,l.length+1=cs.length->(F l).natAbs<=M*pβ β l)->(X w F cs).natAbs<=cs.length* (M*pβ β cs)
 | [],_,_,_=>by simp [X]
 | c::cs,M,F,h=>by
  simp only[X]
  have h1:=Zq (w c) (F cs)
  have h2:=ZS (hw c) (h cs rfl)
  have h3:=Hl hw cs (M*β c) (λl=>F (c::l)) (λl hl=>by
   have:=h (c::l) (by simp only[Y4];omega)
   rw[pβ,<-Nat.mul_assoc] at this
   exact this)
  have h4:=Int.natAbs_sub_le (w c*F cs) (X w (λl=>F (c::l)) cs)
  have e:M*pβ β (c::cs)=β c* (M*pβ β cs):=by rw[pβ];grind
  have e2:M*β c*pβ β cs=β c* (M*pβ β cs):=by grind
  rw[Y4,Nat.add_mul,Nat.one_mul,e]
  rw[e2] at h3
  omega
theorem EV {β:Nat->Nat} {N:Nat}:∀{rs:List Fm} (cs:List Nat),(∀w∈rs,∀c,(w c).natAbs<=β c)->cs.length<=N->(D rs cs).natAbs<=N^rs.length*pβ β cs
 | [],[],_,_=>by simp [D,pβ]
 | [],_::_,_,_=>by simp [D]
 | w::rs,cs,h,hl=>by
  have h1:=Hl (h w (YV ..)) cs (N^rs.length) (D rs) (λl Ba=>EV l (λw hw=>h w (YW _ hw)) (by omega))
  show(X w (D rs) cs).natAbs<=_
  rw[Y4,Nat.pow_succ,Nat.mul_comm (N^_),Nat.mul_assoc]
  exact Y2 h1 (ZW _ hl)
end aJ
namespace aJ
noncomputable def fo (r:List Int):Fm:=λc=>r.getD c 0
noncomputable def bI (v:Fm) (rs:List Fm) (k m:Nat):List Int:=(List.range (m - k)).map λt=>D (v::rs) ((k+t)::dn k)
theorem df (v:Fm) (rs:List Fm) (k m:Nat):(bI v rs k m).length=m - k:=by simp [bI]
theorem xR {v:Fm} {rs:List Fm} {k m t:Nat} (h:k+t<m):(bI v rs k m)[t]?=some (D (v::rs) ((k+t)::dn k)):=by
 unfold bI
 rw[YT,Zz (by omega)]
 rfl
theorem Hm (v:Fm) (t:Nat):D [v] [t]=v t:=by
 show v t*1 - 0=v t
 omega
theorem uY {r:List Int} {m:Nat} (h:r.length=m):bI (fo r) [] 0 m=r:=by
 refine ZP λi=>?_
 by_cases l:i<m
 ·rw[xR (by omega),YQ (by omega)]
  show some (D [fo r] [0+i])=_
  rw[Hm,ZI]
  simp [fo,YR,YQ (show i<r.length by omega)]
 ·rw[Y5 (by rw[df];omega),Y5 (by omega)]
theorem c6 {k m:Nat} (h:k<m) (v:Fm) (rs:List Fm):bI v rs k m=D (v::rs) (k::dn k)::(List.range (m - (k+1))).map λt=>D (v::rs) ((k+1+t)::dn k):=by
 unfold bI
 rw[show m - k=(m - (k+1))+1 by omega,List.range_succ_eq_map,Zb,Zu]
 congr 1
 refine List.map_congr_left λt _=>?_
 show D (v::rs) ((k+ (t+1))::dn k)=_
 rw[show k+ (t+1)=k+1+t by omega]
theorem Cr {k m:Nat} (h:k<m) (u:Fm) (rs:List Fm):(bI u rs k m).tail=bI (ng k) (u::rs) (k+1) m:=by
 rw[c6 h,List.tail_cons]
 unfold bI
 refine List.map_congr_left λt _=>?_
 exact(zH rs u (k+1+t) k (by omega)).symm
theorem zipWith_map {α:Type} (f:Int->Int->Int) (g h:α->Int):∀l:List α,List.zipWith f (l.map g) (l.map h)=l.map λa=>f (g a) (h a)
 | []=>rfl
 | a::l=>by simp only[Zb,List.zipWith_cons_cons,zipWith_map f g h l]
theorem zJ {k m:Nat} (h:k<m) {rs:List Fm} (G:Good rs (dn k)) (u v:Fm):
  List.zipWith (λone other=>(D (u::rs) (k::dn k)*one - D (v::rs) (k::dn k)*other).fdiv (D rs (dn k))) (bI v rs k m).tail (bI u rs k m).tail=bI v (u::rs) (k+1) m:=by
 rw[c6 h,c6 h,List.tail_cons,List.tail_cons,zipWith_map]
 unfold bI
 refine List.map_congr_left λt _=>?_
 rw[zG G u v (k+1+t) k]
 exact Int.mul_fdiv_cancel_left _ G.ne
structure iM (U:List Fm) (n k:Nat) (rs V:List Fm):Prop where
 len:V.length=n
 rl:rs.length=k
 good:Good rs (dn k)
 own:∀i,i<k->V[i]?=some (ng i)
 perm:(rs++V.drop k).Perm U
 le:k<=n
theorem iM.start {U:List Fm}:iM U U.length 0 [] U:=⟨rfl,rfl,trivial,λi h=>absurd h (by omega),List.Perm.refl _,Y3 _⟩
theorem sZ {α:Type} {u a:α}:∀{l:List α} {i:Nat},l[i]?=some u->(u::l.set i a).Perm (a::l)
 | [],_,h=>by simp at h
 | b::l,0,h=>by
  simp at h;subst h
  exact List.Perm.swap _ _ _
 | b::l,i+1,h=>by
  simp only[Z4] at h
  show(u::b::l.set i a).Perm (a::b::l)
  exact(List.Perm.swap _ _ _).trans (((sZ h).cons b).trans (List.Perm.swap _ _ _))
noncomputable def lZ (V:List Fm) (k dk:Nat) (u a:Fm):List Fm:=(V.set k u).set dk a
theorem iM.step {U:List Fm} {n k dk:Nat} {rs V:List Fm} {u a:Fm} (S:iM U n k rs V) (hk:k<n) (hs:k<=dk) (hu:V[dk]?=some u) (ha:V[k]?=some a) (h:D (u::rs) (k::dn k)≠0):
  iM U n (k+1) (u::rs) ((lZ V k dk u a).set k (ng k)):=by
 have l:=S.len
 refine⟨by simp [lZ,l],by rw[Y4,S.rl],⟨S.good,h⟩,λi hi=>?_,?_,hk⟩
 ·by_cases e:i=k
  ·subst e
   rw[ZU (by simp [lZ];omega)]
  ·unfold lZ
   rw[ZL (by omega),ZL (by omega),ZL (by omega)]
   exact S.own i (by omega)
 ·refine List.Perm.trans ?_ S.perm
  have hd:V.drop k=a::V.drop (k+1):=by
   obtain⟨h1,h2⟩:=List.getElem?_eq_some_iff.mp ha
   rw[<-h2]
   exact List.drop_eq_getElem_cons h1
  have e1:((lZ V k dk u a).set k (ng k)).drop (k+1)=((V.drop (k+1)).set (dk - (k+1)) a)\/(dk=k/\((lZ V k dk u a).set k (ng k)).drop (k+1)=V.drop (k+1)):=by
   unfold lZ
   by_cases e:dk=k
   ·right
    subst e
    refine⟨rfl,?_⟩
    simp [List.drop_set]
   ·left
    simp [List.drop_set]
    intro hh
    omega
  have e2:(u::((lZ V k dk u a).set k (ng k)).drop (k+1)).Perm (a::V.drop (k+1)):=by
   rcases e1 with e1 | ⟨e,e1⟩
   ·by_cases e:dk=k
    ·subst e
     have:u=a:=by rw[hu] at ha;exact Zg ha
     subst this
     unfold lZ
     simp [List.drop_set]
    ·rw[e1]
     refine sZ ?_
     rw[List.getElem?_drop,show k+1+ (dk - (k+1))=dk by omega]
     exact hu
   ·subst e
    have:u=a:=by rw[hu] at ha;exact Zg ha
    subst this
    rw[e1]
  rw[hd]
  refine List.Perm.trans ?_ (e2.append_left rs)
  show(u::(rs++_)).Perm _
  exact(List.perm_middle).symm
noncomputable def pI (k:Nat) (rs V:List Fm):Prop:=∀u∈V.drop k,D (u::rs) (k::dn k)=0
theorem iM.Cs {U:List Fm} {n k:Nat} {rs V:List Fm} (S:iM U n k rs V) (z:pI k rs V) {u:Fm} (hu:u∈U):sm k (λi=>u i*D (ng i::rs) (k::dn k))=u k*D rs (dn k):=by
 rw[zI]
 have:D (u::rs) (k::dn k)=0:=by
  rcases List.mem_append.mp (S.perm.mem_iff.mpr hu) with h | h
  ·exact wc h _
  ·exact z u h
 omega
theorem iM.answers {U:List Fm} {n:Nat} {rs V:List Fm} (S:iM U n n rs V) {u:Fm} (hu:u∈U):sm n (λi=>u i*D (ng i::rs) (n::dn n))=u n*D rs (dn n):=by
 rw[zI]
 have h:u∈rs:=by
  rcases List.mem_append.mp (S.perm.mem_iff.mpr hu) with h | h
  ·exact h
  ·rw[List.drop_eq_nil_of_le (by rw[S.len];exact YS _)] at h;cases h
 rw[wc h]
 omega
theorem iM.all {U:List Fm} {n:Nat} {rs V:List Fm} (S:iM U n n rs V):rs.Perm U:=by
 have:=S.perm
 rw[List.drop_eq_nil_of_le (by rw[S.len];exact YS _),ZM] at this
 exact this
theorem iM.ne {U:List Fm} {n:Nat} {rs V:List Fm} (S:iM U n n rs V):D U (dn n)≠0:=(Cq S.all _).mp S.good.ne
end aJ
namespace aJ
theorem iM.cb {U:List Fm} {n k:Nat} {β:Nat->Nat} {rs V:List Fm} (S:iM U n k rs V) (b1:∀c,1<=β c) (hb:∀u∈U,∀c,(u c).natAbs<=β c):(∀u∈rs,∀c,(u c).natAbs<=β c)/\∀v∈V,∀c,(v c).natAbs<=β c:=by
 refine⟨λu hu=>hb u (S.perm.mem_iff.mp (List.mem_append_left _ hu)),λv hv=>?_⟩
 obtain⟨i,hi,rfl⟩:=Zo hv
 by_cases l:i<k
 ·have:=S.own i l
  rw[YQ hi] at this
  rw[Zg this]
  intro c
  unfold ng
  split
  ·exact b1 c
  ·exact Y3 _
 ·refine hb _ (S.perm.mem_iff.mp (Zp _ ?_))
  refine YU (i:=i - k) ?_
  rw[List.getElem?_drop,show k+ (i - k)=i by omega,YQ hi]
theorem zK {β:Nat->Nat} {b n:Nat} (h:∀c,c<n->β c<=b):∀k,k<=n->pβ β (dn k)<=b^k
 | 0,_=>YS _
 | k+1,hk=>by
  rw[dn,pβ,Nat.pow_succ,Nat.mul_comm]
  exact ZS (zK h k (by omega)) (h k (by omega))
theorem iM.So {U:List Fm} {n k b c:Nat} {β:Nat->Nat} {rs V:List Fm} (S:iM U n k rs V) (b1:∀j,1<=β j) (h:∀j,j<n->β j<=b) (hc:∀j,β j<=c) (hb:∀u∈U,∀j,(u j).natAbs<=β j) {v:Fm} (hv:v∈V) (j:Nat):(D (v::rs) (j::dn k)).natAbs<=(n+1)^ (n+1)* (c*b^k):=by
 obtain⟨h1,h2⟩:=S.cb b1 hb
 have le:=S.le
 have h3:=EV (N:=n+1) (β:=β) (rs:=v::rs) (j::dn k) (λw hw=>by
  rcases List.mem_cons.mp hw with rfl | hw
  ·exact h2 _ hv
  ·exact h1 w hw) (by rw[Y4,jR];omega)
 refine Y2 h3 (ZS ?_ ?_)
 ·rw[Y4,S.rl]
  exact ZC (by omega) (by omega)
 ·rw[pβ]
  exact ZS (hc j) (zK h k le)
theorem iM.Sr {U:List Fm} {n k b:Nat} {β:Nat->Nat} {rs V:List Fm} (S:iM U n k rs V) (b1:∀j,1<=β j) (h:∀j,j<n->β j<=b) (hb:∀u∈U,∀j,(u j).natAbs<=β j):(D rs (dn k)).natAbs<=(n+1)^ (n+1)*b^k:=by
 obtain⟨h1,h2⟩:=S.cb b1 hb
 have le:=S.le
 have h3:=EV (N:=n+1) (β:=β) (rs:=rs) (dn k) h1 (by rw[jR];omega)
 refine Y2 h3 (ZS ?_ (zK h k le))
 rw[S.rl]
 exact ZC (by omega) (by omega)
end aJ
namespace aJ
noncomputable def z0:Fm:=λ_=>0
noncomputable def aug (L:List (List Int)) (S:List Int):List (List Int):=List.zipWith (λr s=>r++ [s]) L S
noncomputable def cell (L:List (List Int)) (i j:Nat):Int:=(L.getD i []).getD j 0
structure Sq (L:List (List Int)) (n:Nat):Prop where
 len:L.length=n
 row:∀r∈L,r.length=n
theorem Sq.at {L:List (List Int)} {n i:Nat} (h:Sq L n) (hi:i<n):∃r,L[i]?=some r/\r.length=n/\r∈L:=by
 have:=h.len
 refine⟨L[i],by simp [this,hi],h.row _ (YZ _),YZ _⟩
theorem jl {L:List (List Int)} {S:List Int} {n i:Nat} {r:List Int} (hS:S.length=n) (hi:i<n) (e:L[i]?=some r):(aug L S)[i]?=some (r++ [S.getD i 0]):=by
 unfold aug
 rw[List.getElem?_zipWith,e,YQ (show i<S.length by omega)]
 simp [YR,YQ (show i<S.length by omega)]
theorem jm {L:List (List Int)} {S:List Int} {n:Nat} (hL:L.length=n) (hS:S.length=n):(aug L S).length=n:=by
 unfold aug
 rw[List.length_zipWith,hL,hS,Nat.min_self]
theorem zL {L:List (List Int)} {S:List Int} {n i j:Nat} (hq:Sq L n) (hS:S.length=n) (hi:i<n) (hj:j<n):(((aug L S).map fo).getD i z0) j=cell L i j:=by
 obtain⟨r,e,l,_⟩:=hq.at hi
 rw[YR,YT,jl hS hi e]
 show fo (r++ [S.getD i 0]) j=_
 unfold fo cell
 rw[YR,Zw (by omega),YR (l:=L),e]
 simp [YR]
theorem zM {L:List (List Int)} {S:List Int} {n i:Nat} (hq:Sq L n) (hS:S.length=n) (hi:i<n):(((aug L S).map fo).getD i z0) n=S.getD i 0:=by
 obtain⟨r,e,l,_⟩:=hq.at hi
 rw[YR,YT,jl hS hi e]
 show fo (r++ [S.getD i 0]) n=_
 unfold fo
 rw[YR,Zv (by omega),l]
 simp
theorem wm {L:List (List Int)} {S:List Int} {n i:Nat} (hq:Sq L n) (hS:S.length=n) (hi:i<n):((aug L S).map fo).getD i z0∈(aug L S).map fo:=by
 have l:((aug L S).map fo).length=n:=by rw[YO,jm hq.len hS]
 rw[YR,YQ (show i< ((aug L S).map fo).length by omega)]
 exact YZ _
noncomputable def uZ (L:List (List Int)) (n:Nat):Prop:=∃(g:Nat->Int) (k:Nat),k<n/\g k≠0/\∀i,i<n->sm n (λj=>g j*cell L i j)=0
theorem pJ {L:List (List Int)} {S:List Int} {n k:Nat} {rs V:List Fm} (hq:Sq L n) (hS:S.length=n) (St:iM ((aug L S).map fo) n k rs V) (hk:k<n) (z:pI k rs V):uZ L n:=by
 refine⟨λj=>if j<k then - D (ng j::rs) (k::dn k) else if j=k then D rs (dn k) else 0,k,hk,?_,λi hi=>?_⟩
 ·show(if k<k then _ else if k=k then D rs (dn k) else 0)≠0
  rw[if_neg (Zj _),if_pos rfl]
  exact St.good.ne
 ·have e:=St.Cs z (wm hq hS hi)
  have key:∀q,k+1<=q->sm q (λj=>(if j<k then - D (ng j::rs) (k::dn k) else if j=k then D rs (dn k) else 0)* (((aug L S).map fo).getD i z0) j)=0:=by
   intro q hq
   induction q with
   | zero=>omega
   | succ q ih=>
    by_cases c:q=k
    ·subst c
     show sm q _+_*_=0
     rw[if_neg (Zj _),if_pos rfl]
     have e2:sm q (λj=>(if j<q then - D (ng j::rs) (q::dn q) else if j=q then D rs (dn q) else 0)* (((aug L S).map fo).getD i z0) j)=sm q (λj=>(-1)* ((((aug L S).map fo).getD i z0) j*D (ng j::rs) (q::dn q))):=dI λi hi=>by
      rw[if_pos hi,Int.neg_mul,Int.neg_one_mul,Y8]
     rw[e2,fR,e,Y8 (D rs (dn q))]
     omega
    ·show sm q _+_*_=0
     rw[ih (by omega),if_neg (by omega),if_neg c]
     simp
  refine Eq.trans (dI λj hj=>?_) (key n (by omega))
  rw[zL hq hS hi hj]
noncomputable def tj (L:List (List Int)):List (List Int):=(List.range L.length).map λc=>L.map λr=>r.getD c 0
theorem zN {L:List (List Int)} {n:Nat} (h:Sq L n):Sq (tj L) n:=by
 refine⟨by unfold tj;rw[YO,Y9,h.len],λr hr=>?_⟩
 unfold tj at hr
 obtain⟨c,_,rfl⟩:=List.mem_map.mp hr
 rw[YO,h.len]
theorem wq {L:List (List Int)} {n c:Nat} (h:Sq L n) (hc:c<n):(tj L)[c]?=some (L.map λr=>r.getD c 0):=by
 unfold tj
 rw[YT,Zz (by rw[h.len];exact hc)]
 rfl
theorem tu {L:List (List Int)} {n i j:Nat} (h:Sq L n) (hi:i<n) (hj:j<n):cell (tj L) i j=cell L j i:=by
 obtain⟨r,e,l,_⟩:=h.at hj
 unfold cell
 rw[YR (l:=tj L),wq h hi,Option.getD_some,YR (l:=List.map _ _),YT,e,YR (l:=L),e]
 rfl
noncomputable def oK (L:List (List Int)) (s:Nat) (l:Int) (i:Nat):List Int:=
 if i=s then (L.getD i []).tail else List.zipWith (λone other=>((L.getD s []).headD 0*one - (L.getD i []).headD 0*other).fdiv l) (L.getD i []).tail (L.getD s []).tail
noncomputable def Jt (L:List (List Int)) (s:Nat) (l:Int):List (List Int):=(List.range L.length).map (oK L s l)
theorem getD_map {V:List Fm} {f:Fm->List Int} {i:Nat} {v:Fm} (h:V[i]?=some v):(V.map f).getD i []=f v:=by
 rw[YR,YT,h]
 rfl
theorem Ct {V:List Fm} {f:Fm->List Int} {k dk:Nat} {u a:Fm} (hu:V[dk]?=some u) (ha:V[k]?=some a):((V.map f).set k ((V.map f).getD dk [])).set dk ((V.map f).getD k [])=(lZ V k dk u a).map f:=by
 rw[getD_map hu,getD_map ha]
 unfold lZ
 rw[List.map_set,List.map_set]
theorem zO {V:List Fm} {k dk:Nat} {u a:Fm} (hu:V[dk]?=some u) (ha:V[k]?=some a):(lZ V k dk u a)[k]?=some u:=by
 have h1:=(List.getElem?_eq_some_iff.mp ha).1
 unfold lZ
 by_cases e:dk=k
 ·subst e
  rw[ZU (by simpa using h1)]
  rw[hu] at ha
  exact ha.symm
 ·rw[ZL e,ZU h1]
theorem zP {n k m dk:Nat} {rs V:List Fm} {u a:Fm} (G:Good rs (dn k)) (hm:k<m) (hu:V[dk]?=some u) (ha:V[k]?=some a):
  Jt ((lZ V k dk u a).map λv=>bI v rs k m) k (D rs (dn k))=((lZ V k dk u a).set k (ng k)).map λv=>bI v (u::rs) (k+1) m:=by
 have hk:=zO hu ha
 generalize lZ V k dk u a=W at *
 unfold Jt
 refine ZP λi=>?_
 rw[YT,YT,YO]
 by_cases l:i<W.length
 ·rw[Zz l]
  have ew:W[i]?=some W[i]:=YQ l
  by_cases e:i=k
  ·subst e
   rw[ZU l]
   show some (oK _ i _ i)=some _
   unfold oK
   rw[if_pos rfl,getD_map hk,Cr hm]
  ·rw[ZL (by omega),ew]
   show some (oK _ k _ i)=some (bI W[i] (u::rs) (k+1) m)
   unfold oK
   rw[if_neg e,getD_map ew,getD_map hk,<-zJ hm G u W[i]]
   have hh:∀v,(bI v rs k m).headD 0=D (v::rs) (k::dn k):=λv=>by rw[c6 hm];rfl
   rw[hh,hh]
 ·rw[Y5 (by rw[Y9];omega),Y5 (by rw[Zh];omega)]
  rfl
theorem u3 {L:List (List Int)} {m:Nat} (h:∀r∈L,r.length=m):(L.map fo).map (λv=>bI v [] 0 m)=L:=by
 rw[Zu]
 conv=>rhs;rw[<-List.map_id L]
 exact List.map_congr_left λr hr=>uY (h r hr)
theorem tw {v w:Fm}:∀{cs:List Nat} {F G:List Nat->Int},(∀c∈cs,v c=w c)->(∀l,(∀c∈l,c∈cs)->F l=G l)->X v F cs=X w G cs
 | [],_,_,_,_=>rfl
 | c::cs,F,G,h,k=>by
  simp only[X]
  rw[h c (YV ..),k cs λc' hc=>YW _ hc,tw (cs:=cs) (G:=λl=>G (c::l)) (λc' hc=>h c' (YW _ hc)) λl hl=>k (c::l) λc' hc=>?_]
  rcases List.mem_cons.mp hc with rfl | hc
  ·exact YV ..
  ·exact YW _ (hl c' hc)
theorem zQ {n:Nat}:∀(L:List (List Int)) (S:List Int),S.length=L.length->(∀r∈L,r.length=n)->∀cs:List Nat,(∀c∈cs,c<n)->D ((aug L S).map fo) cs=D (L.map fo) cs
 | [],[],_,_,_,_=>rfl
 | [],_::_,h,_,_,_=>by simp at h
 | _::_,[],h,_,_,_=>by simp at h
 | r::L,s::S,h,hr,cs,hc=>by
  show X (fo (r++ [s])) (D ((aug L S).map fo)) cs=X (fo r) (D (L.map fo)) cs
  refine tw (λc IZ=>?_) λl hl=>zQ L S (by simpa using h) (λq hq=>hr q (YW _ hq)) l λc BU=>hc c (hl c BU)
  unfold fo
  have:=hc c IZ
  have lr:=hr r (YV ..)
  rw[YR,Zw (by omega),YR]
end aJ
namespace Dg
noncomputable def zR (ps:List Int) (g:Nat->Int) (q:Int):Int:=if q∈ps then g (ps.idxOf q) else 0
theorem Cu {g:Nat->Int} {q w:Int}:∀{ps:List Int},ps.Nodup->aJ.sm ps.length (λj=>g j* (if q=ps.getD j 0 then w else 0))=w*zR ps g q:=by
 intro ps nd
 have key:∀n,n<=ps.length->aJ.sm n (λj=>g j* (if q=ps.getD j 0 then w else 0))=if q∈ps.take n then w*g (ps.idxOf q) else 0:=by
  intro n
  induction n with
  | zero=>intro _;rfl
  | succ n ih=>
   intro hn
   have e:ps[n]?=some ps[n]:=YQ (by omega)
   have eg:ps.getD n 0=ps[n]:=by rw[YR,e];rfl
   show aJ.sm n _+g n* (if q=ps.getD n 0 then w else 0)=_
   rw[ih (by omega),Ze,e,eg]
   by_cases c:q=ps[n]
   ·have Hn:q∉ps.take n:=by
     intro z
     obtain⟨j,hj,ej⟩:=Zo z
     rw[ZG] at hj
     rw[List.getElem_take] at ej
     have:=(ZT nd).mp (ej.trans c)
     omega
    have ix:ps.idxOf q=n:=by
     have l:=ZR (show q∈ps by rw[c];exact YZ _)
     exact(ZT nd).mp ((ZQ l).trans c)
    rw[if_neg Hn,if_pos c,if_pos (Zp _ (by rw[c];exact List.mem_singleton.mpr rfl)),ix,ZA,Y8]
   ·have m:q∈ps.take n++ (some ps[n]).toList↔q∈ps.take n:=by
     rw[List.mem_append]
     constructor
     ·rintro(h | h)
      ·exact h
      ·exact absurd (List.mem_singleton.mp h) c
     ·exact .inl
    rw[if_neg c,Zs,Int.add_zero]
    by_cases k:q∈ps.take n
    ·rw[if_pos k,if_pos (m.mpr k)]
    ·rw[if_neg k,if_neg (λz=>k (m.mp z))]
 have:=key ps.length (YS _)
 rw[Zi (YS _)] at this
 rw[this]
 unfold zR
 split
 ·rfl
 ·rw[Zs]
theorem wt {ps:List Int} {g:Nat->Int} (nd:ps.Nodup):∀ws:Wy,aJ.sm ps.length (λj=>g j*bV (ps.getD j 0) ws)=dN (zR ps g) ws
 | []=>by
  show aJ.sm ps.length (λj=>g j*0)=0
  rw[show(λj=>g j*0)=λ_=>(0:Int) from funext λj=>Zs _]
  exact aJ.wd _
 | x::ws=>by
  have e:(λj=>g j*bV (ps.getD j 0) (x::ws))=λj=>g j* (if x.2=ps.getD j 0 then x.1 else 0)+g j*bV (ps.getD j 0) ws:=funext λj=>by
   show g j* ((if x.2=ps.getD j 0 then x.1 else 0)+bV (ps.getD j 0) ws)=_
   rw[Int.mul_add]
  rw[e,aJ.nK,Cu nd,wt nd ws]
  rfl
noncomputable def iN (ps:List Int) (W:Int->Wy) (L:List (List Int)):Prop:=L.length=ps.length/\(∀r∈L,r.length=ps.length)/\∀i j,i<ps.length->j<ps.length->(L.getD i []).getD j 0=(if i=j then tt (W (ps.getD i 0)) else 0) - bV (ps.getD j 0) (W (ps.getD i 0))
theorem iN.sum {ps:List Int} {W:Int->Wy} {L:List (List Int)} (R:iN ps W L) (nd:ps.Nodup) (g:Nat->Int) {i:Nat} (hi:i<ps.length):aJ.sm ps.length (λj=>g j* (L.getD i []).getD j 0)=tt (W (ps.getD i 0))*g i - dN (zR ps g) (W (ps.getD i 0)):=by
 have e:aJ.sm ps.length (λj=>g j* (L.getD i []).getD j 0)=aJ.sm ps.length (λj=>tt (W (ps.getD i 0))* (g j* (if j=i then 1 else 0))+ (-1)* (g j*bV (ps.getD j 0) (W (ps.getD i 0)))):=aJ.dI λj hj=>by
  rw[R.2.2 i j hi hj]
  by_cases c:i=j
  ·subst c
   rw[if_pos rfl,if_pos rfl,Int.mul_sub,Int.mul_one,Y8 (g i) (tt _)]
   omega
  ·rw[if_neg c,if_neg (Ne.symm c),Int.mul_sub,Zs,Zs]
   omega
 rw[e,aJ.nK,aJ.fR,aJ.fR,aJ.qL,if_pos hi,wt nd]
 omega
end Dg
namespace Dg
theorem u4 {ps:List Int} (nd:ps.Nodup) (g:Nat->Int) {i:Nat} (hi:i<ps.length):zR ps g (ps.getD i 0)=g i:=by
 have eg:ps.getD i 0=ps[i]:=by rw[YR,YQ hi];rfl
 unfold zR
 rw[eg,if_pos (YZ hi)]
 congr 1
 have l:=ZR (YZ hi)
 exact(ZT nd).mp (ZQ l)
theorem iN.zT {ps:List Int} {W:Int->Wy} {lv:Int->Nat} {L:List (List Int)} (R:iN ps W L) (nd:ps.Nodup) (pos:∀p∈ps,∀x∈W p,1<=x.1) (dn:∀p∈ps,W p=[]\/∃x∈W p,lv x.2<lv p):¬aJ.uZ L ps.length:=by
 rintro⟨g,k,hk,gk,rel⟩
 apply gk
 have z:=xQ (ps:=ps) (W:=W) (lv:=lv) (v:=zR ps g) (λp hp=>?_) pos (λq hq=>if_neg hq) dn (ps.getD k 0) ?_
 ·rw[u4 nd g hk] at z
  exact z
 ·obtain⟨i,hi,rfl⟩:=Zo hp
  have eg:ps.getD i 0=ps[i]:=by rw[YR,YQ hi];rfl
  have e:=R.sum nd g hi
  have r:aJ.sm ps.length (λj=>g j* (L.getD i []).getD j 0)=0:=rel i hi
  rw[r] at e
  have o:=u4 nd g hi
  rw[eg] at e o
  rw[o]
  omega
 ·rw[YR,YQ hk]
  exact YZ hk
end Dg
noncomputable def Rw (H:Hp) (r:List Int) (x:V):Prop:=∃q,x=.ref q/\H q=some (.lst (List.map V.int r))
theorem Rw.mono {H H':Hp} {r:List Int} {x:V} (s:az H H') (h:Rw H r x):Rw H' r x:=by
 obtain⟨q,e,k⟩:=h
 exact⟨q,e,s _ _ k⟩
noncomputable def oh (H:Hp) (a:Addr) (L:List (List Int)):Prop:=∃xs,H a=some (.lst xs)/\Al (Rw H) L xs
theorem oh.mono {H H':Hp} {a:Addr} {L:List (List Int)} (s:az H H') (h:oh H a L):oh H' a L:=by
 obtain⟨xs,h1,h2⟩:=h
 exact⟨xs,s _ _ h1,h2.imp λ_ _ k=>k.mono s⟩
theorem zU {xs:List V} {k:Int} (h:0<=k):ou xs (some k) none=xs.drop k.toNat:=by
 unfold ou
 obtain⟨n,rfl⟩:=Zd h
 rw[HT.yH,HT.BA,YY]
 by_cases c:n<=xs.length
 ·rw[Nat.min_eq_left c,Zi (by rw[List.length_drop];exact YS _)]
 ·rw[Nat.min_eq_right (by omega),List.drop_eq_nil_of_le (YS _),List.drop_eq_nil_of_le (show xs.length<=n by omega)]
  simp
theorem tz (r:List Int):ou (List.map V.int r) (some 1) none=List.map V.int r.tail:=by
 rw[zU (by decide)]
 cases r <;>rfl
theorem eC {n i:Nat} (h:i<n):vI n (i:Int)=some i:=by
 unfold vI
 rw[if_pos (by omega),if_pos (by omega)]
 rfl
theorem nM {xs:List V} {L:List (List Int)} {H:Hp} {i:Nat} {r:List Int} (al:Al (Rw H) L xs) (e:L[i]?=some r):∃q,fA xs (i:Int)=some (.ref q)/\H q=some (.lst (List.map V.int r)):=by
 obtain⟨v,ev,q,rfl,hq⟩:=al.at e
 exact⟨q,bF ev,hq⟩
theorem EW {r:List Int} {j:Nat} (h:j<r.length):fA (List.map V.int r) (j:Int)=some (.int (r.getD j 0)):=by
 refine bF ?_
 rw[YT,YQ h]
 simp [YR,YQ h]
theorem jn {r:List Int} (h:0<r.length):fA (List.map V.int r) 0=some (.int (r.headD 0)):=by
 cases r with
 | nil=>cases h
 | cons a r=>exact bF (j:=0) rfl
theorem Al.set {α:Type} {R:α->V->Prop} {a:α} {v:V} (h:R a v):∀{as:List α} {vs:List V} {i:Nat},Al R as vs->Al R (as.set i a) (vs.set i v)
 | [],[],_,_=>trivial
 | _::_,_::_,0,k=>⟨h,k.2⟩
 | _::_,_::_,i+1,k=>⟨k.1,Al.set h k.2⟩
theorem qM {H:Hp} {p:Addr} {o:HO}:iu (upd H p o) p=iu H p:=by
 funext a
 unfold iu
 by_cases h:a=p
 ·rw[if_pos h,if_pos h]
 ·rw[if_neg h,if_neg h,aE h]
theorem Rw.push {H:Hp} {a q:Addr} {L:List (List Int)} {xs:List V} {r:List Int} (al:Al (Rw (iu H a)) L xs) (hq:H q=some (.lst (List.map V.int r))) (ne:q≠a):Al (Rw (iu (upd H a (.lst (xs++ [.ref q]))) a)) (L++ [r]) (xs++ [.ref q]):=by
 rw[qM]
 exact al.append (.one ⟨q,rfl,by rw[cN ne];exact hq⟩)
theorem zV {zs:List V} {f:Int->Int->Int} {as bs:List Int} (l:zs.length=min (List.map V.int as).length (List.map V.int bs).length) (h:∀(j:Nat) y,zs[j]?=some y->∀o1 o2,as[j]?=some o1->bs[j]?=some o2->y=.int (f o1 o2)):zs=List.map V.int (List.zipWith f as bs):=by
 rw[YO,YO] at l
 refine ZP λj=>?_
 by_cases c:j<min as.length bs.length
 ·have e1:as[j]?=some as[j]:=YQ (by omega)
  have e2:bs[j]?=some bs[j]:=YQ (by omega)
  rw[YQ (show j<zs.length by omega),h j _ (YQ (by omega)) _ _ e1 e2,YT,List.getElem?_zipWith,e1,e2]
  rfl
 ·rw[Y5 (by omega),Y5 (by rw[YO,List.length_zipWith];omega)]
noncomputable def EX:Sp:=λvs H Q _=>∃a L k,vs=[.ref a,.int (Nat.cast k)]/\oh H a L/\k<=L.length/\L.length<=64/\(∀r∈L,0<r.length)/\(∀i:Nat,k<=i->i<L.length->(L.getD i []).headD 0≠0->Q (.int i) H)/\((∀i:Nat,k<=i->i<L.length->(L.getD i []).headD 0=0)->Q .cu H)
noncomputable def zW:Sp:=λvs H Q _=>∃a L i j,vs=[.ref a,.int (Nat.cast i),.int (Nat.cast j)]/\oh H a L/\i<L.length/\j<L.length/\L.length<=64/\∀p H',az H H'->oh H' p ((L.set i (L.getD j [])).set j (L.getD i []))->Q (.ref p) H'
noncomputable def EY:Sp:=λvs H Q _=>∃a L s l m,vs=[.ref a,.int (Nat.cast s),.int l]/\oh H a L/\s<L.length/\L.length<=64/\m<=64/\(∀r∈L,r.length=m+1)/\l≠0/\Bt 4000 l/\(∀r∈L,∀x∈r,Bt 4000 x)/\∀p H',az H H'->oh H' p (aJ.Jt L s l)->Q (.ref p) H'
structure Ju (L:List (List Int)) (n m:Nat):Prop where
 len:L.length=n
 row:∀r∈L,r.length=m
 nm:n<=m
 KW:m<=64
 BF:∀k rs W,aJ.iM (L.map aJ.fo) n k rs W->Bt 4000 (aJ.D rs (aJ.dn k))/\∀v∈W,∀j,Bt 4000 (aJ.D (v::rs) (j::aJ.dn k))
noncomputable def EZ:Sp:=λvs H Q _=>∃a L n m,vs=[.ref a,.int (Nat.cast n)]/\oh H a L/\Ju L n m/\∀t p k rs W H',aJ.iM (L.map aJ.fo) n k rs W->(k<n->aJ.pI k rs W)->az H H'->H' t=some (.tup [.ref p,.int (Nat.cast k),.int (aJ.D rs (aJ.dn k))])->oh H' p (W.map λv=>aJ.bI v rs k m)->Q (.ref t) H'
noncomputable def qZ (d:Int):Int:=if 0<d then 1 else -1
noncomputable def nN (n:Nat) (rs:List aJ.Fm):List Int:=(List.range n).map λi=>aJ.D (aJ.ng i::rs) (n::aJ.dn n)*qZ (aJ.D rs (aJ.dn n))
theorem zX (d:Int):qZ d=1\/qZ d= -1:=by
 unfold qZ
 split
 ·exact .inl rfl
 ·exact .inr rfl
theorem zY {i d:Int}:IntMulOk i (qZ d):=by
 rcases zX d with h | h <;>rw[h] <;>exact mM
theorem E1 {U W rs:List aJ.Fm} {n:Nat} (St:aJ.iM U n n rs W):W.filterMap (λv=>some (aJ.D (v::rs) (n::aJ.dn n)*qZ (aJ.D rs (aJ.dn n))))=nN n rs:=by
 rw[List.filterMap_eq_map']
 unfold nN
 refine ZP λi=>?_
 rw[YT,YT]
 by_cases c:i<n
 ·rw[St.own i c,Zz c]
  rfl
 ·rw[Y5 (by rw[St.len];omega),Y5 (by rw[Y9];omega)]
  rfl
noncomputable def zZ:Sp:=λvs H Q _=>∃a c L S n,vs=[.ref a,.ref c]/\oh H a L/\H c=some (.lst (List.map V.int S))/\S.length=n/\aJ.Sq L n/\Ju (aJ.aug L S) n (n+1)/\
 (∀k rs W H',aJ.iM ((aJ.aug L S).map aJ.fo) n k rs W->k<n->aJ.pI k rs W->az H H'->Q .cu H')/\
 (∀rs W t p H',aJ.iM ((aJ.aug L S).map aJ.fo) n n rs W->az H H'->H' t=some (.tup [.ref p,.int (aJ.D rs (aJ.dn n)*qZ (aJ.D rs (aJ.dn n)))])->H' p=some (.lst (List.map V.int (nN n rs)))->Q (.ref t) H')
noncomputable def Aa:Sp:=λvs H Q _=>∃a L c,vs=[.ref a,.int (Nat.cast c)]/\oh H a L/\L.length<=64/\(∀r∈L,c<r.length)/\∀p H',az H H'->H' p=some (.lst (List.map V.int (L.map λr=>r.getD c 0)))->Q (.ref p) H'
noncomputable def Ab:Sp:=λvs H Q _=>∃a L n,vs=[.ref a]/\oh H a L/\aJ.Sq L n/\n<=64/\∀p H',az H H'->oh H' p (aJ.tj L)->Q (.ref p) H'
structure KY (L:List (List Int)) (S:List Int) (n:Nat) (x:List Int) (d:Int):Prop where
 len:x.length=n
 pos:0<d
 bd:Bt 4000 d
 bx:∀v∈x,Bt 4000 v
 eq:∀i,i<n->aJ.sm n (λj=>aJ.cell L i j*x.getD j 0)=S.getD i 0*d
 ne:aJ.D (L.map aJ.fo) (aJ.dn n)≠0
 Yl:d.natAbs=(aJ.D (L.map aJ.fo) (aJ.dn n)).natAbs
theorem Cv {d:Int} (h:d≠0):0<d*qZ d:=by
 unfold qZ
 split
 ·omega
 ·omega
theorem jo (x d:Int):(x*qZ d).natAbs=x.natAbs:=by
 rcases zX d with h | h <;>rw[h] <;>omega
theorem Ac {n i:Nat} {rs:List aJ.Fm} (h:i<n):(nN n rs).getD i 0=aJ.D (aJ.ng i::rs) (n::aJ.dn n)*qZ (aJ.D rs (aJ.dn n)):=by
 unfold nN
 rw[YR,YT,Zz h]
 rfl
theorem Ad {L:List (List Int)} {S:List Int} {n:Nat} {rs W:List aJ.Fm} (sq:aJ.Sq L n) (lS:S.length=n) (B:Ju (aJ.aug L S) n (n+1)) (St:aJ.iM ((aJ.aug L S).map aJ.fo) n n rs W):KY L S n (nN n rs) (aJ.D rs (aJ.dn n)*qZ (aJ.D rs (aJ.dn n))):=by
 refine⟨by unfold nN;rw[YO,Y9],Cv St.good.ne,?_,λv hv=>?_,λi hi=>?_,?_,?_⟩
 ·unfold Bt
  rw[jo]
  exact(B.BF _ _ _ St).1
 ·unfold nN at hv
  obtain⟨i,hi,rfl⟩:=List.mem_map.mp hv
  unfold Bt
  rw[jo]
  exact(B.BF _ _ _ St).2 _ (YU (St.own i (List.mem_range.mp hi))) n
 ·have e:=St.answers (aJ.wm sq lS hi)
  have e2:aJ.sm n (λj=>aJ.cell L i j* (nN n rs).getD j 0)=aJ.sm n (λj=>qZ (aJ.D rs (aJ.dn n))* ((((aJ.aug L S).map aJ.fo).getD i aJ.z0) j*aJ.D (aJ.ng j::rs) (n::aJ.dn n))):=aJ.dI λj hj=>by
   rw[Ac hj,aJ.zL sq lS hi hj,<-Zn,Y8]
  rw[e2,aJ.fR,e,aJ.zM sq lS hi,Y8,Zn]
 ·rw[<-aJ.zQ L S (by rw[lS,sq.len]) sq.row _ λc hc=>aJ.jQ.mp hc]
  exact St.ne
 ·rw[<-aJ.zQ L S (by rw[lS,sq.len]) sq.row _ λc hc=>aJ.jQ.mp hc,jo]
  obtain⟨s,hs,e⟩:=aJ.perm St.all
  rw[e]
  rcases hs with rfl | rfl <;>omega
theorem wu {L:List (List Int)} {S:List Int} {n b c:Nat} (sq:aJ.Sq L n) (lS:S.length=n) (Ym:n<64) (b1:1<=b) (bc:b<=c) (hL:∀r∈L,∀x∈r,x.natAbs<=b) (hS:∀x∈S,x.natAbs<=c) (top:(n+1)^ (n+1)* (c*b^n)<2^4000):Ju (aJ.aug L S) n (n+1):=by
 have ge:∀{i:Nat} {r:List Int},(aJ.aug L S)[i]?=some r->∃q,q∈L/\r=q++ [S.getD i 0]/\i<n:=λ{i r} e=>by
  have hi:i<n:=by have:=(List.getElem?_eq_some_iff.mp e).1;rw[aJ.jm sq.len lS] at this;exact this
  obtain⟨q,eq,_,mq⟩:=sq.at hi
  rw[aJ.jl lS hi eq] at e
  exact⟨q,mq,(Zg e).symm,hi⟩
 have hU:∀u∈(aJ.aug L S).map aJ.fo,∀j,(u j).natAbs<=if j<n then b else c:=λu hu j=>by
  obtain⟨r,hr,rfl⟩:=List.mem_map.mp hu
  obtain⟨i,ei⟩:=Zk hr
  obtain⟨q,mq,rfl,hi⟩:=ge ei
  have lq:=sq.row q mq
  unfold aJ.fo
  rw[YR]
  by_cases cj:j<n
  ·rw[if_pos cj,Zw (by omega),YQ (by omega)]
   exact hL q mq _ (YZ _)
  ·rw[if_neg cj,Zv (by omega)]
   by_cases e:j=n
   ·rw[e,lq,Nat.sub_self]
    show(S.getD i 0).natAbs<=c
    rw[YR,YQ (by omega)]
    exact hS _ (YZ _)
   ·rw[Y5 (by show 1<=_;omega)]
    exact Y3 _
 have β1:∀j,1<=if j<n then b else c:=λj=>by split <;>omega
 have βn:∀j,j<n->(if j<n then b else c)<=b:=λj hj=>by rw[if_pos hj];exact YS _
 have βc:∀j,(if j<n then b else c)<=c:=λj=>by split <;>omega
 refine⟨aJ.jm sq.len lS,λr hr=>?_,by omega,by omega,λk rs W St=>⟨?_,λv hv j=>?_⟩⟩
 ·obtain⟨i,ei⟩:=Zk hr
  obtain⟨q,mq,rfl,_⟩:=ge ei
  rw[Zf,sq.row q mq]
  rfl
 ·have h:=St.Sr β1 βn hU
  refine Zx (Y2 h (Z3 _ ?_)) top
  have:=ZC b1 St.le
  exact Y2 this (Nat.le_mul_of_pos_left _ (by omega))
 ·have h:=St.So β1 βn βc hU hv j
  exact Zx (Y2 h (Z3 _ (Z3 _ (ZC b1 St.le)))) top
theorem Ae {L:List (List Int)} {S:List Int} {n b c:Nat} {rs W:List aJ.Fm} (sq:aJ.Sq L n) (lS:S.length=n) (b1:1<=b) (bc:b<=c) (hL:∀r∈L,∀x∈r,x.natAbs<=b) (hS:∀x∈S,x.natAbs<=c) (St:aJ.iM ((aJ.aug L S).map aJ.fo) n n rs W):(aJ.D rs (aJ.dn n)*qZ (aJ.D rs (aJ.dn n))).natAbs<=(n+1)^ (n+1)*b^n/\∀v∈nN n rs,v.natAbs<=(n+1)^ (n+1)* (c*b^n):=by
 have hU:∀u∈(aJ.aug L S).map aJ.fo,∀j,(u j).natAbs<=if j<n then b else c:=λu hu j=>by
  obtain⟨r,hr,rfl⟩:=List.mem_map.mp hu
  obtain⟨i,ei⟩:=Zk hr
  have hi:i<n:=by have:=(List.getElem?_eq_some_iff.mp ei).1;rw[aJ.jm sq.len lS] at this;exact this
  obtain⟨q,eq,lq,mq⟩:=sq.at hi
  rw[aJ.jl lS hi eq] at ei
  cases ei
  unfold aJ.fo
  rw[YR]
  by_cases cj:j<n
  ·rw[if_pos cj,Zw (by omega),YQ (by omega)]
   exact hL q mq _ (YZ _)
  ·rw[if_neg cj,Zv (by omega)]
   by_cases e:j=n
   ·rw[e,lq,Nat.sub_self]
    show(S.getD i 0).natAbs<=c
    rw[YR,YQ (by omega)]
    exact hS _ (YZ _)
   ·rw[Y5 (by show 1<=_;omega)]
    exact Y3 _
 have β1:∀j,1<=if j<n then b else c:=λj=>by split <;>omega
 have βn:∀j,j<n->(if j<n then b else c)<=b:=λj hj=>by rw[if_pos hj];exact YS _
 have βc:∀j,(if j<n then b else c)<=c:=λj=>by split <;>omega
 refine⟨by rw[jo];exact St.Sr β1 βn hU,λv hv=>?_⟩
 unfold nN at hv
 obtain⟨i,hi,rfl⟩:=List.mem_map.mp hv
 rw[jo]
 exact St.So β1 βn βc hU (YU (St.own i (List.mem_range.mp hi))) n
namespace Dg
theorem tD (f g:Int->Int):∀ws:Wy,dN (λq=>f q+g q) ws=dN f ws+dN g ws
 | []=>rfl
 | x::ws=>by
  show x.1* (f x.2+g x.2)+dN (λq=>f q+g q) ws=x.1*f x.2+dN f ws+ (x.1*g x.2+dN g ws)
  rw[tD f g ws,Int.mul_add]
  omega
theorem tE (d:Int) (f:Int->Int):∀ws:Wy,dN (λq=>f q*d) ws=dN f ws*d
 | []=>by show(0:Int)=0*d;omega
 | x::ws=>by
  show x.1* (f x.2*d)+dN (λq=>f q*d) ws=(x.1*f x.2+dN f ws)*d
  rw[tE d f ws,Int.add_mul,Zn]
theorem nO {f g:Int->Int}:∀{ws:Wy},(∀x∈ws,f x.2=g x.2)->dN f ws=dN g ws
 | [],_=>rfl
 | x::ws,h=>by
  show x.1*f x.2+dN f ws=x.1*g x.2+dN g ws
  rw[h x YV,nO λy hy=>h y (YW _ hy)]
theorem jS (ts:List Int):∀ws:Wy,gu ts ws=dN (λq=>ts.getD q.toNat 0) ws
 | []=>rfl
 | x::ws=>by
  have:=jS ts ws
  show x.1*ts.getD x.2.toNat 0+gu ts ws=x.1*ts.getD x.2.toNat 0+_
  rw[this]
theorem Cw {ps:List Int} {W:Int->Wy} {L:List (List Int)} {S T x:List Int} {d r:Int} (R:iN ps W L) (nd:ps.Nodup) {i:Nat} (hi:i<ps.length)
  (sol:aJ.sm ps.length (λj=>aJ.cell L i j*x.getD j 0)=r*d) (zero:∀p∈ps,S.getD p.toNat 0=0)
  (Ss:∀j,j<ps.length->T.getD (ps.getD j 0).toNat 0=x.getD j 0) (KZ:∀y∈W (ps.getD i 0),y.2∉ps->T.getD y.2.toNat 0=S.getD y.2.toNat 0*d):
  tt (W (ps.getD i 0))*T.getD (ps.getD i 0).toNat 0=r*d - gu S (W (ps.getD i 0))*d+gu T (W (ps.getD i 0)):=by
 have e:=R.sum nd (λj=>x.getD j 0) hi
 have c:aJ.sm ps.length (λj=>x.getD j 0* (L.getD i []).getD j 0)=aJ.sm ps.length (λj=>aJ.cell L i j*x.getD j 0):=aJ.dI λj _=>Y8 _ _
 rw[c,sol] at e
 have k:dN (λq=>T.getD q.toNat 0) (W (ps.getD i 0))=dN (zR ps λj=>x.getD j 0) (W (ps.getD i 0))+gu S (W (ps.getD i 0))*d:=by
  rw[jS,<-tE,<-tD]
  refine nO λy hy=>?_
  by_cases m:y.2∈ps
  ·have lt:=ZR m
   have eg:ps.getD (ps.idxOf y.2) 0=y.2:=by rw[YR,YQ lt,ZQ lt];rfl
   have t1:=Ss _ lt
   rw[eg] at t1
   rw[t1,zero _ m,Int.zero_mul,Int.add_zero]
   unfold zR
   rw[if_pos m]
  ·rw[KZ y hy m]
   unfold zR
   rw[if_neg m,ZA]
 rw[Ss i hi,jS T,k]
 omega
end Dg
noncomputable def xS (ws:Dg.Wy):Dat:=.lst (ws.map cA)
noncomputable def bw (cL:List Dg.Wy) (p:Int):Dg.Wy:=cL.getD p.toNat []
noncomputable def gJ (ps:List Int):List (Key×V):=(List.range ps.length).map λi=>(Sum.inl (ps.getD i 0),.int (i:Int))
noncomputable def tF:Sp:=λvs H Q _=>∃(x wl:Addr) (ps:List Int) (xs:List V) (cL:List Dg.Wy),vs=[.ref x,.ref wl]/\H x=some (.lst (ps.map V.int))/\H wl=some (.lst xs)/\bu H (cL.map xS) xs/\ps.Nodup/\ps.length<=40/\(∀p∈ps,0<=p/\p< (cL.length:Int))/\(∀ws∈cL,ws.length<=5)/\
 ∀r L H',az H H'->oh H' r L->Dg.iN ps (bw cL) L->Q (.ref r) H'
noncomputable def nP:Sp:=λvs H Q _=>∃(a:Addr) (ws:Dg.Wy),vs=[.ref a]/\Rep H (xS ws) (.ref a)/\ws.length<=5/\∀H',az H H'->Q (.int (Dg.tt ws)) H'
theorem pK (ps:List Int):(gJ ps).map (·.1)=ps.map Sum.inl:=by
 unfold gJ
 rw[Zu]
 apply ZP
 intro i
 rw[YT,YT]
 by_cases h:i<ps.length
 ·rw[Zz h,YQ h]
  show some (Sum.inl (ps.getD i 0))=some (Sum.inl ps[i])
  rw[YR,YQ h]
  rfl
 ·rw[Y5 (by rw[Y9];omega),Y5 (by omega)]
  rfl
theorem Af {ps:List Int} (nd:ps.Nodup) {i:Nat} (h:i<ps.length):gC (gJ ps) (Sum.inl (ps.getD i 0))=some (.int (i:Int)):=by
 refine uV (i:=i) ?_ ?_
 ·rw[pK]
  exact zz nd
 ·unfold gJ
  rw[YT,Zz h]
  rfl
theorem tG {ps:List Int} {q:Int} (h:q∉ps):gC (gJ ps) (Sum.inl q)=none:=lU (by
 rw[pK]
 exact λz=>h (qC.mp z))
theorem xT {ps:List Int} {i:Nat} (h:i<ps.length):gJ (ps.take (i+1))=gJ (ps.take i)++ [(Sum.inl (ps.getD i 0),.int (i:Int))]:=by
 have l1:(ps.take (i+1)).length=i+1:=by rw[ZG];omega
 have l0:(ps.take i).length=i:=by rw[ZG];omega
 unfold gJ
 rw[l1,l0,List.range_succ,Zc]
 congr 1
 ·refine List.map_congr_left λj hj=>?_
  have:=List.mem_range.mp hj
  rw[YR,YR,List.getElem?_take_of_lt (by omega),List.getElem?_take_of_lt this]
 ·show[(Sum.inl ((ps.take (i+1)).getD i 0),V.int (i:Int))]=_
  rw[YR,List.getElem?_take_of_lt (Zl _),<-YR]
noncomputable def q9 (C:Addr) (H:Hp) (x:Addr) (S:Dg.Bk):Prop:=∃dx m,H x=some (.ins C dx [("tops",.ref m),("bottom",.int S.2)])/\H m=some (.lst (S.1.map V.int))
theorem q9.mono {C:Addr} {H H':Hp} {x:Addr} {S:Dg.Bk} (s:az H H') (h:q9 C H x S):q9 C H' x S:=by
 obtain⟨dx,m,h1,h2⟩:=h
 exact⟨dx,m,s _ _ h1,s _ _ h2⟩
noncomputable def xU:Sp:=λvs H Q _=>∃a b,vs=[.int a,.int b]/\Q (.int (Nm.g a b)) H
noncomputable def E2:Sp:=λvs H Q _=>∃a b,vs=[.int a,.int b]/\Bt 5000 b/\0<b/\∀p H',az H H'->H p=none->H' p=some (.tup (Pr (Nm.st a b) (Nm.sb a b)))->Q (.ref p) H'
noncomputable def E3:Sp:=λvs H Q _=>∃(a:Addr) (ws:List Wq.Sh) (Z:Int),vs=[.ref a]/\Rep H (.lst (ws.map cA)) (.ref a)/\ws.length<=60/\(∀x∈ws,0<x.2/\x.2∣Z)/\0<Z/\Bt 2000 Z/\Q (.int (Wq.eP 1 ws)) H
noncomputable def Ag (C:Addr):Sp:=λvs H Q _=>∃(x dx l:Addr) (ts:List Int) (b:Int),vs=[.ref x,.ref l,.int b]/\H x=some (.ins C dx [])/\H l=some (.lst (ts.map V.int))/\
 ∀m H',H m=none->H' m=some (.lst (ts.map V.int))->H' x=some (.ins C dx [("tops",.ref m),("bottom",.int b)])->(∀y o,y≠x->H y=some o->H' y=some o)->Q .cu H'
noncomputable def Ah (C:Addr):Sp:=λvs H Q _=>∃(x:Addr) (S:Dg.Bk) (d:Int),vs=[.ref x,.int d]/\q9 C H x S/\Bt 4000 d/\Bt 4000 S.2/\(∀t∈S.1,Bt 4000 t)/\S.1.length<=60/\
 ∀y dy m H',az H H'->H y=none->H m=none->H' y=some (.ins C dy [("tops",.ref m),("bottom",.int (S.2*d))])->H' m=some (.lst ((S.1.map (·*d)).map V.int))->Q (.ref y) H'
noncomputable def E4 (C:Addr):Sp:=λvs H Q _=>∃(x:Addr) (S:Dg.Bk),vs=[.ref x]/\q9 C H x S/\0<S.2/\Bt 5000 S.2/\S.1.length<=60/\∀l H',az H H'->H l=none->Rep H' (.lst ((S.1.map λt=>Wq.low t S.2).map cA)) (.ref l)->Q (.ref l) H'
noncomputable def E5:Sp:=λvs H Q _=>∃(a:V) (q:Pl),vs=[a]/\Rep H (oC q) a/\∀r H',az H H'->H' r=some (.tup (Pr (Wq.cv q).1 (Wq.cv q).2))->Q (.ref r) H'
noncomputable def E6 (C:Addr):Sp:=λvs H Q _=>∃(a:Addr) (ws:List Wq.Sh) (Z:Int),vs=[.ref a]/\Rep H (.lst (ws.map cA)) (.ref a)/\ws.length<=60/\(∀x∈ws,0<x.2/\x.2∣Z/\Bt 4000 x.1)/\0<Z/\Bt 2000 Z/\
 ∀x H',az H H'->q9 C H' x (ws.map (Wq.sc (Wq.eP 1 ws)),Wq.eP 1 ws)->Q (.ref x) H'
noncomputable def E7 (C:Addr):Sp:=λvs H Q _=>∃(x:Addr) (S:Dg.Bk),vs=[.ref x]/\q9 C H x S/\S.1.length<=60/\∀y H',az H H'->q9 C H' y (List.replicate S.1.length 0,S.2)->Q (.ref y) H'
namespace Dg
noncomputable def rh (n:Nat) (ws:Wy):Prop:=ws.length<=5/\∀x∈ws,1<=x.1/\x.1<=200000/\0<=x.2/\x.2< (n:Int)
theorem E8:∀{ws:Wy},(∀x∈ws,1<=x.1/\x.1<=200000)->(ws.length:Int)<=Wq.cJ ws/\Wq.cJ ws<=200000* (ws.length:Int)
 | [],_=>⟨Int.le_refl _,Int.le_refl _⟩
 | x::ws,h=>by
  have ih:=E8 (ws:=ws) λy hy=>h y (YW _ hy)
  have:=h x YV
  rw[cR,Y4]
  omega
theorem rh.Jk {n:Nat} {ws:Wy} (h:rh n ws):0<=Wq.cJ ws/\Wq.cJ ws<=1000000:=by
 have:=E8 λx hx=>⟨(h.2 x hx).1,(h.2 x hx).2.1⟩
 have l:=h.1
 omega
theorem rh.tt {n:Nat} {ws:Wy} (h:rh n ws):1<=tt ws/\tt ws<=1000000:=by
 have:=E8 λx hx=>⟨(h.2 x hx).1,(h.2 x hx).2.1⟩
 have l:=h.1
 unfold Dg.tt
 cases ws with
 | nil=>decide
 | cons x ws=>
  rw[if_neg (by simp)]
  rw[Y4] at this l
  omega
theorem wz {q:Int}:∀{ws:Wy},(∀x∈ws,1<=x.1)->0<=bV q ws/\bV q ws<=Wq.cJ ws
 | [],_=>⟨Int.le_refl _,Int.le_refl _⟩
 | x::ws,h=>by
  have ih:=wz (q:=q) (ws:=ws) λy hy=>h y (YW _ hy)
  have:=h x YV
  show 0<=(if x.2=q then x.1 else 0)+bV q ws/\(if x.2=q then x.1 else 0)+bV q ws<=_
  rw[cR]
  split <;>omega
theorem iN.ent {ps:List Int} {W:Int->Wy} {L:List (List Int)} {n:Nat} (R:iN ps W L) (w:∀p∈ps,rh n (W p)):∀r∈L,∀x∈r,x.natAbs<=2^20:=by
 intro r hr x hx
 obtain⟨i,hi,rfl⟩:=Zo hr
 have lr:=R.2.1 _ (YZ hi)
 obtain⟨j,hj,rfl⟩:=Zo hx
 have xV:i<ps.length:=by rw[<-R.1];exact hi
 have K0:j<ps.length:=by omega
 have e:=R.2.2 i j xV K0
 rw[YR (l:=L),YQ hi,Option.getD_some,YR,YQ hj,Option.getD_some] at e
 have mp:ps.getD i 0∈ps:=by rw[YR,YQ xV];exact YZ xV
 have k:=w _ mp
 obtain⟨t0,t1⟩:=k.tt
 obtain⟨u0,u1⟩:=k.Jk
 obtain⟨s0,s1⟩:=wz (q:=ps.getD j 0) λx hx=>(k.2 x hx).1
 rw[e]
 split <;>omega
theorem ic (n:Nat) (h:n<=31):(n+1)^ (n+1)<=2^ (5*n+5):=by
 have e:(2:Nat)^ (5*n+5)=32^ (n+1):=by rw[show 5*n+5=5* (n+1) by omega,Nat.pow_mul]
 rw[e]
 exact Nat.pow_le_pow_left (by omega) _
theorem Ai (n M:Nat) (h:n<=31) (h1:1<=n):(n+1)^ (n+1)* (2^ (M+61)* (2^20)^n)<2^ (M+92*n):=by
 refine Zx (ZW _ (ic n h)) ?_
 rw[<-Nat.pow_mul,<-Zy,<-Zy]
 exact Nat.pow_lt_pow_right (by decide) (by omega)
theorem Cy (n:Nat) (h:n<=31) (h1:1<=n):(n+1)^ (n+1)* (2^20)^n<2^ (92*n):=by
 refine Zx (ZW _ (ic n h)) ?_
 rw[<-Nat.pow_mul,<-Zy]
 exact Nat.pow_lt_pow_right (by decide) (by omega)
noncomputable def putK (ps xs ts:List Int):Nat->List Int
 | 0=>ts
 | k+1=>(putK ps xs ts k).set (ps.getD k 0).toNat (xs.getD k 0)
theorem jr (ps xs ts:List Int):∀k,(putK ps xs ts k).length=ts.length
 | 0=>rfl
 | k+1=>by unfold putK;rw[Zh,jr ps xs ts k]
theorem tH {ps xs ts:List Int} {q:Int} (q0:0<=q) (hp:∀p∈ps,0<=p) (h:q∉ps):∀k,k<=ps.length->(putK ps xs ts k).getD q.toNat 0=ts.getD q.toNat 0
 | 0,_=>rfl
 | k+1,hk=>by
  have e:ps.getD k 0=ps[k]:=by rw[YR,YQ (by omega)];rfl
  have m:=YZ (l:=ps) (n:=k) (by omega)
  have:=hp _ m
  unfold putK
  rw[cB (λz=>h (by rw[e] at z;rw[show q=ps[k] by omega];exact m)),tH q0 hp h k (by omega)]
theorem wA {ps xs ts:List Int} {n:Nat} (nd:ps.Nodup) (hp:∀p∈ps,0<=p/\p< (n:Int)) (lt:ts.length=n) {j:Nat}:∀k,k<=ps.length->j<k->(putK ps xs ts k).getD (ps.getD j 0).toNat 0=xs.getD j 0
 | 0,_,h=>absurd h (ZV _)
 | k+1,hk,h=>by
  have e:ps.getD k 0=ps[k]:=by rw[YR,YQ (by omega)];rfl
  have ej:ps.getD j 0=ps[j]:=by rw[YR,YQ (by omega)];rfl
  have m:=hp _ (YZ (l:=ps) (n:=k) (by omega))
  have mj:=hp _ (YZ (l:=ps) (n:=j) (by omega))
  unfold putK
  by_cases c:j=k
  ·subst c
   rw[c8 (by rw[jr,lt,e];omega)]
  ·rw[cB ?_,wA nd hp lt k (by omega) (by omega)]
   rw[e,ej]
   intro z
   exact c ((ZT nd).mp (show ps[j]=ps[k] by omega))
noncomputable def F7 (ps:List Int) (W:Int->Wy) (gt:List Int) (G:Int) (S T:Bk):Prop:=∃d,0<d/\T.2=S.2*d/\T.1.length=S.1.length/\(∀q,0<=q->q∉ps->T.1.getD q.toNat 0=S.1.getD q.toNat 0*d)/\
 ∀p∈ps,tt (W p)*T.1.getD p.toNat 0=tt (W p)*gt.getD p.toNat 0* (S.2 / G)*d+gu T.1 (W p)
structure Sz (n M:Nat) (S:Bk):Prop where
 len:S.1.length=n
 pos:0<S.2
 bb:Bt M S.2
 bt:∀q,Bt M (S.1.getD q 0)
theorem Sz.up {n M M':Nat} {S:Bk} (h:Sz n M S) (l:M<=M'):Sz n M' S:=⟨h.len,h.pos,h.bb.mono l,λq=>(h.bt q).mono l⟩
theorem Di {M:Nat} (ts:List Int) (h:∀q,Bt M (ts.getD q 0)):∀{ws:Wy},(∀x∈ws,1<=x.1)->(gu ts ws).natAbs<=(Wq.cJ ws).toNat *2^M/\0<=Wq.cJ ws
 | [],_=>⟨by show(0:Int).natAbs<=_;simp,Int.le_refl _⟩
 | x::ws,hw=>by
  obtain⟨ih,t0⟩:=Di ts h (ws:=ws) λy hy=>hw y (YW _ hy)
  have x0:=hw x YV
  have e:(Wq.cJ (x::ws)).toNat=x.1.toNat+ (Wq.cJ ws).toNat:=by rw[cR];omega
  have m:(x.1*ts.getD x.2.toNat 0).natAbs<=x.1.toNat *2^M:=by
   rw[Zq,show x.1.natAbs=x.1.toNat by omega]
   exact Z3 _ (Nat.le_of_lt (h _))
  refine⟨?_,by rw[cR];omega⟩
  rw[e,Nat.add_mul]
  show(x.1*ts.getD x.2.toNat 0+gu ts ws).natAbs<=_
  omega
theorem E9 {M n:Nat} {ts:List Int} {ws:Wy} (h:∀q,Bt M (ts.getD q 0)) (w:rh n ws):Bt (M+20) (gu ts ws):=by
 obtain⟨a,_⟩:=Di ts h λx hx=>(w.2 x hx).1
 have t:=w.Jk
 have e:(2:Nat)^ (M+20)=1048576*2^M:=by rw[Zy,Nat.mul_comm]
 have:(Wq.cJ ws).toNat *2^M<=1000000*2^M:=ZW _ (by omega)
 have:0<2^M:=Nat.pow_pos (by decide)
 unfold Bt
 omega
theorem Aj {M n:Nat} {S:Bk} {G g:Int} {ws:Wy} (h:Sz n M S) (w:rh n ws) (G0:0<G) (dv:G∣S.2) (hg:g.natAbs<=2^40*G.toNat):Bt (M+60) (tt ws*g* (S.2 / G))/\(tt ws*g* (S.2 / G)+gu S.1 ws).natAbs<=2^ (M+61):=by
 obtain⟨t0,t1⟩:=w.tt
 obtain⟨k,hk⟩:=dv
 have S0:=h.pos
 have ek:S.2 / G=k:=by rw[hk];exact Int.mul_ediv_cancel_left k (by omega)
 have k0:0<k:=by rw[hk] at S0;exact Int.pos_of_mul_pos_right S0 G0
 have eS:S.2.natAbs=G.toNat *k.toNat:=by rw[hk,Zq];congr 1 <;>omega
 have b1:=h.bb
 unfold Bt at b1
 have g1:(g*k).natAbs<=2^40*S.2.natAbs:=by
  rw[Zq,eS,<-Nat.mul_assoc,show k.natAbs=k.toNat by omega]
  exact ZW _ hg
 have g2:(tt ws*g* (S.2 / G)).natAbs<=1000000* (2^40*S.2.natAbs):=by
  rw[ek,Zn,Zq]
  exact ZS (by omega) g1
 have UY:(2:Nat)^ (M+60)=1152921504606846976*2^M:=by rw[Zy,Nat.mul_comm]
 have UZ:(2:Nat)^ (M+61)=2305843009213693952*2^M:=by rw[Zy,Nat.mul_comm]
 have s:=E9 h.bt w
 have e20:(2:Nat)^ (M+20)=1048576*2^M:=by rw[Zy,Nat.mul_comm]
 unfold Bt at s ⊢
 rw[UY,UZ]
 rw[e20] at s
 omega
theorem F7.ne {ps:List Int} {W:Int->Wy} {gt:List Int} {G:Int} {S T:Bk} (h:F7 ps W gt G S T) (B0:0<S.2) {q:Int} (q0:0<=q) (hq:q∉ps):val T q=val S q:=by
 obtain⟨d,d0,e2,_,o,_⟩:=h
 unfold val
 rw[o q q0 hq,e2,Rat.intCast_mul,Rat.intCast_mul]
 have h1:=nF B0
 have h2:=nF d0
 generalize (S.2:Rat)=v at *
 generalize (d:Rat)=t at *
 generalize ((S.1.getD q.toNat 0:Int):Rat)=s at *
 grind
theorem F7.eq {ps:List Int} {W:Int->Wy} {gt:List Int} {G:Int} {S T:Bk} (h:F7 ps W gt G S T) (B0:0<S.2) (G0:0<G) (dv:G∣S.2) {p:Int} (hp:p∈ps) (t0:0<tt (W p)):val T p=(gt.getD p.toNat 0:Rat) / (G:Rat)+kQ (tt (W p)) (val T) (W p):=by
 obtain⟨d,d0,e2,_,_,o⟩:=h
 have T0:0<T.2:=by rw[e2];exact Zm B0 d0
 have e:=o p hp
 rw[<-sX T0 t0 (W p)]
 obtain⟨k,hk⟩:=dv
 have ek:S.2 / G=k:=by rw[hk];exact Int.mul_ediv_cancel_left k (by omega)
 have k0:0<k:=by
  rw[hk] at B0
  exact Int.pos_of_mul_pos_right B0 G0
 unfold val
 rw[ek] at e
 have e':((tt (W p)*T.1.getD p.toNat 0:Int):Rat)=((tt (W p)*gt.getD p.toNat 0*k*d+gu T.1 (W p):Int):Rat):=by rw[e]
 rw[Rat.intCast_add,Rat.intCast_mul,Rat.intCast_mul,Rat.intCast_mul,Rat.intCast_mul] at e'
 rw[e2,hk]
 simp only[Rat.intCast_mul]
 have h1:=nF G0
 have h2:=nF d0
 have h3:=nF k0
 have h4:=nF t0
 generalize (k:Rat)=v at *
 generalize (G:Rat)=u at *
 generalize (d:Rat)=x at *
 generalize (tt (W p):Rat)=t at *
 generalize ((gt.getD p.toNat 0:Int):Rat)=s at *
 generalize ((gu T.1 (W p):Int):Rat)=r at *
 generalize ((T.1.getD p.toNat 0:Int):Rat)=y at *
 clear ek k0 hk e o T0 e2
 grind
end Dg
noncomputable def GS (p:Int×Int):Prop:=Bt 40 p.1/\Bt 20 p.2/\Wq.Lw p
noncomputable def ye (n:Nat):Pl->Prop
 | .fin g=>GS g
 | .eO g ws=>GS g/\0<ws.length/\Dg.rh n ws
 | .dR vT to=>(vT=1\/vT=2)/\0<to.length/\to.length<=4/\∀g∈to,0<=g/\g< (n:Int)
noncomputable def wB (b:List Pl) (p:Int):Nat:=match b[p.toNat]? with | some (.dR _ to)=>to.length | _=>1
noncomputable def jT (b:List Pl):Nat->List Int->Nat
 | a,[]=>a
 | a,p::ps=>jT b (a*wB b p) ps
structure Dj (b:List Pl) (rk:Int->Nat):Prop where
 good:Lv.Good b
 eO:∀(i:Nat) g ws,b[i]?=some (.eO g ws)->∃x∈ws,rk x.2<rk (i:Int)
 dR:∀(i:Nat) w to,b[i]?=some (.dR w to)->∀g∈to,rk g<rk (i:Int)
structure pL (b:List Pl) (rk:Int->Nat):Prop where
 pos:0<b.length
 len:b.length<=16
 ok:∀q∈b,ye b.length q
 jB:Dj b rk
 yd:∀p,Pr.In b p->jT b 1 (Pr.cE b p)<=4096
section LA
open Lv Bf
variable {b : List Pl} {rk : Int -> Nat} (D : Dj b rk)
include D
theorem Dj.lv:∀(m i:Nat),rk (i:Int)<m->i<b.length->lk (r8 b) (i:Int)≠none
 | 0,_,h,_=>absurd h (ZV _)
 | m+1,i,h,hi=>by
  have e:b[i]?=some b[i]:=YQ hi
  have ih:∀g∈fX b[i],rk g<rk (i:Int)->lk (r8 b) g≠none:=λg hg hr=>by
   obtain⟨h0,h1⟩:=D.good.qW _ (YU e) g hg
   obtain⟨j,rfl⟩:=Zd h0
   exact Dj.lv m j (by omega) (by omega)
  have E:=y7 D.good i _ e
  have nn:∀v,(r8 b)[i]?=some (some v)->lk (r8 b) (i:Int)≠none:=λv hv z=>by
   rw[EH.mpr hv] at z
   cases z
  cases q:b[i] with
  | fin w=>rw[q] at E;exact nn _ E
  | eO w ws=>
   rw[q] at E ih e
   rcases E with ⟨_,a2⟩ | ⟨v,hv,_⟩
   ·obtain⟨x,hx,rx⟩:=D.eO i w ws e
    have m:x.2∈ws.map (·.2):=List.mem_map.mpr ⟨x,hx,rfl⟩
    exact absurd (a2 x.2 m) (ih x.2 m rx)
   ·exact nn v hv
  | dR w to=>
   rw[q] at E ih e
   rcases E with ⟨_,g,hg,a2⟩ | ⟨v,hv,_⟩
   ·exact absurd a2 (ih g hg (D.dR i w to e g hg))
   ·exact nn v hv
theorem Dj.ring:ni b=[]:=by
 refine List.eq_nil_iff_forall_not_mem.mpr λi hi=>?_
 obtain⟨h1,h2⟩:=zy.mp hi
 exact D.lv _ i (Zl _) h1 h2
theorem Dj.within {p o:Int} (hp:Pr.In b p) (ho:o∈Pr.cE b p) (ne:o≠p):∃g∈fB b p,g∈Pr.cE b p:=by
 obtain⟨h1,h2⟩:=Pr.c4.mp ho
 obtain⟨ws,e⟩:=(Pr.uW D.good hp).mp h1
 cases ws with
 | nil=>cases e;exact absurd rfl ne
 | cons w ws=>
  have e:(match (fB b p)[w]? with | some g=>Bf.go b g ws | none=>none)=some o:=e
  cases c:(fB b p)[w]? with
  | none=>rw[c] at e;cases e
  | some g=>
   rw[c] at e
   have hg:=YU c
   have kg:=Pr.qD D.good hp (Pr.h8 D.good hp) hg
   have ig:=Pr.nk D.good hp kg
   have ko:o∈Pr.kb b g:=(Pr.uW D.good ig).mpr ⟨ws,e⟩
   exact⟨g,hg,Pr.c4.mpr ⟨kg,Pr.fh D.good ig ko h2⟩⟩
end LA
theorem u5 (rk:Int->Nat):∀(ps:List Int),ps≠[]->∃q∈ps,∀p∈ps,rk q<=rk p
 | [],h=>absurd rfl h
 | [a],_=>⟨a,List.mem_singleton.mpr rfl,λp hp=>by rw[List.mem_singleton.mp hp];exact YS _⟩
 | a::b::l,_=>by
  obtain⟨q,hq,h⟩:=u5 rk (b::l) (by simp)
  by_cases c:rk a<=rk q
  ·refine⟨a,YV,λp hp=>?_⟩
   rcases List.mem_cons.mp hp with rfl | hp
   ·exact YS _
   ·exact Y2 c (h p hp)
  ·refine⟨q,YW _ hq,λp hp=>?_⟩
   rcases List.mem_cons.mp hp with rfl | hp
   ·omega
   ·exact h p hp
noncomputable def kR (b:List Pl) (p:Int):Bool:=match b[p.toNat]? with | some (.dR _ _)=>true | _=>false
set_option tactic.hygienic true in
theorem wC {b:List Pl} (h:∀p,wB b p<=4):∀(ps:List Int) (a:Nat),jT b a ps<=a*4^ (ps.filter (kR b)).length
 | [],a=>by show a<=a*1;omega
 | p::ps,a=>by
  have ih:=wC h ps (a*wB b p)
  refine Y2 (show jT b (a*wB b p) ps<=_ from ih) ?_
  by_cases c:kR b p=true
  ·rw[List.filter_cons_of_pos c,Y4,Nat.pow_succ]
   have:=Z3 a (h p)
   calc a*wB b p*4^ (ps.filter (kR b)).length<=a*4*4^ (ps.filter (kR b)).length:=ZW _ this
    _=a* (4^ (ps.filter (kR b)).length*4):=by rw[Nat.mul_assoc,Nat.mul_comm 4]
  ·rw[List.filter_cons_of_neg c]
   have e:wB b p=1:=by
    unfold kR at c
    unfold wB
    split
    ·rename_i e;rw[e] at c;simp at c
    ·rfl
   rw[e,Nat.mul_one]
   exact YS _
set_option tactic.hygienic true in
theorem u6 {b:List Pl} (ok:∀q∈b,ye b.length q) (p:Int):1<=wB b p/\wB b p<=4:=by
 unfold wB
 split
 ·rename_i w to e
  have:=ok _ (YU e)
  exact⟨this.2.1,this.2.2.1⟩
 ·exact⟨YS _,by decide⟩
theorem wD {b:List Pl} (ok:∀q∈b,ye b.length q):∀(ps:List Int) (a:Nat),a<=jT b a ps
 | [],a=>YS _
 | p::ps,a=>Y2 (Nat.le_mul_of_pos_right a (u6 ok p).1) (wD ok ps _)
theorem Fb {b:List Pl} {rk:Int->Nat} (D:Dj b rk) (ok:∀q∈b,ye b.length q) (l8:b.length<=8) {p:Int} (hp:Pr.In b p):jT b 1 (Pr.cE b p)<=4096:=by
 refine Y2 (wC (λp=>(u6 ok p).2) _ _) ?_
 rw[Nat.one_mul]
 suffices h:((Pr.cE b p).filter (kR b)).length<=6 by
  exact Y2 (ZC (by decide) h) (by decide)
 have nd:(Pr.cE b p).Nodup:=(Pr.iL D.good hp).imp λh z=>by omega
 obtain⟨q,hq,mn⟩:=u5 rk _ (Pr.gI D.good hp)
 have iq:=Pr.dz D.good hp hq
 by_cases one:∀o∈Pr.cE b p,o=q
 ·have:=Pr.sub_len (l:=(Pr.cE b p).filter (kR b)) (m:=[q]) (nd.filter _) λx hx=>List.mem_singleton.mpr (one x (List.mem_filter.mp hx).1)
  have:((Pr.cE b p).filter (kR b)).length<=1:=this
  omega
 ·obtain⟨o,U0⟩:=Classical.not_forall.mp one
  obtain⟨ho,ne⟩:=Classical.not_imp.mp U0
  have ep:=Pr.qE D.good hp hq
  have wi:∀x,x∈Pr.cE b p->∃g∈Bf.fB b x,g∈Pr.cE b p:=λx hx=>by
   have ix:=Pr.dz D.good hp hx
   have ex:=Pr.qE D.good hp hx
   by_cases c:x=q
   ·subst c
    obtain⟨g,h1,h2⟩:=D.within ix (o:=o) (by rw[ex];exact ho) ne
    exact⟨g,h1,by rw[<-ex];exact h2⟩
   ·obtain⟨g,h1,h2⟩:=D.within ix (o:=q) (by rw[ex];exact hq) (λz=>c z.symm)
    exact⟨g,h1,by rw[<-ex];exact h2⟩
  have U1:∀x:Int,Pr.In b x->∃i:Nat,x=i/\∃pl,b[i]?=some pl/\Bf.fB b x=Lv.fX pl:=λx hx=>by
   obtain⟨i,rfl⟩:=Zd hx.1
   have hi:i<b.length:=by have:=hx.2;omega
   refine⟨i,rfl,b[i],YQ hi,?_⟩
   unfold Bf.fB
   rw[YY,YQ hi]
  have BW:kR b q=false:=by
   obtain⟨i,rfl,pl,e,eg⟩:=U1 q iq
   obtain⟨g,h1,h2⟩:=wi _ hq
   rw[eg] at h1
   unfold kR
   rw[YY,e]
   cases pl with
   | fin w=>rfl
   | eO w ws=>rfl
   | dR w to=>
    have:=D.dR i w to e g h1
    have:=mn g h2
    omega
  obtain⟨f,hf,mf⟩:=u5 rk ((List.range b.length).map fun(i:Nat)=>(i:Int)) (by
   have:0<b.length:=by have:=hp.1;have:=hp.2;omega
   intro z
   have k:=congrArg List.length z
   rw[YO,Y9,List.length_nil] at k
   omega)
  obtain⟨f,U2,rfl⟩:=List.mem_map.mp hf
  have lf:=List.mem_range.mp U2
  have inr:∀g:Int,Pr.In b g->rk (f:Int)<=rk g:=λg hg=>by
   obtain⟨j,rfl⟩:=Zd hg.1
   exact mf _ (List.mem_map.mpr ⟨j,List.mem_range.mpr (by have:=hg.2;omega),rfl⟩)
  have ef:∃w,b[f]?=some (.fin w):=by
   have e:b[f]?=some b[f]:=YQ lf
   have rg:=D.good.qW _ (YU e)
   cases c:b[f] with
   | fin w=>exact⟨w,by rw[e,c]⟩
   | eO w ws=>
    rw[c] at e rg
    obtain⟨x,hx,rx⟩:=D.eO f w ws e
    have:=inr x.2 (rg _ (List.mem_map.mpr ⟨x,hx,rfl⟩))
    omega
   | dR w to=>
    rw[c] at e rg
    have ne:=D.good.dR _ (YU e) w to rfl
    obtain⟨g,hg⟩:=List.exists_mem_of_ne_nil _ ne
    have:=D.dR f w to e g hg
    have:=inr g (rg _ hg)
    omega
  obtain⟨w,ef⟩:=ef
  have nf:(f:Int)∉Pr.cE b p:=λz=>by
   obtain⟨g,h1,_⟩:=wi _ z
   unfold Bf.fB at h1
   rw[YY,ef] at h1
   cases h1
  have:=Pr.sub_len (l:=(f:Int)::q::(Pr.cE b p).filter (kR b)) (m:=(List.range b.length).map fun(i:Nat)=>(i:Int)) ?_ ?_
  ·rw[Y4,Y4,YO,Y9] at this
   omega
  ·refine List.nodup_cons.mpr ⟨λz=>?_,List.nodup_cons.mpr ⟨λz=>?_,nd.filter _⟩⟩
   ·rcases List.mem_cons.mp z with z | z
    ·exact nf (by rw[z];exact hq)
    ·exact nf (List.mem_filter.mp z).1
   ·have:=(List.mem_filter.mp z).2
    rw[BW] at this
    cases this
  ·intro x hx
   have ix:Pr.In b x:=by
    rcases List.mem_cons.mp hx with rfl | hx
    ·exact⟨by omega,by omega⟩
    ·rcases List.mem_cons.mp hx with rfl | hx
     ·exact iq
     ·exact Pr.dz D.good hp (List.mem_filter.mp hx).1
   obtain⟨j,rfl⟩:=Zd ix.1
   exact List.mem_map.mpr ⟨j,List.mem_range.mpr (by have:=ix.2;omega),rfl⟩
noncomputable def yf:Pl->Option Int->Dg.Wy
 | .fin _,_=>[]
 | .eO _ ws,_=>ws
 | .dR _ to,k=>[(1,to.getD (k.getD 0).toNat 0)]
noncomputable def Fc:Pl->Option Int->Prop
 | .dR _ to,some k=>0<=k/\k< (to.length:Int)
 | .dR _ _,none=>False
 | _,_=>True
theorem ye.rR {n:Nat} {q:Pl} (h:ye n q):(Lv.fX q).length<=5:=by
 cases q with
 | fin g=>exact Y3 _
 | eO g ws=>simp only[Lv.fX,YO];exact h.2.2.1
 | dR w to=>have:=h.2.2.1;show to.length<=5;omega
theorem Dk {n:Nat} {q:Pl} {k:Option Int} (h:ye n q) (hk:Fc q k):Dg.rh n (yf q k)/\∀x∈yf q k,x.2∈Lv.fX q:=by
 cases q with
 | fin g=>exact⟨⟨Y3 _,by simp [yf]⟩,by simp [yf]⟩
 | eO g ws=>exact⟨h.2.2,λx hx=>List.mem_map.mpr ⟨x,hx,rfl⟩⟩
 | dR w to=>
  cases k with
  | none=>exact hk.elim
  | some k=>
   have hl:k.toNat<to.length:=by have:=hk.1;have:=hk.2;omega
   have m:to.getD k.toNat 0∈to:=by rw[YR,YQ hl];exact YZ hl
   have e:yf (.dR w to) (some k)=[(1,to.getD k.toNat 0)]:=rfl
   rw[e]
   refine⟨⟨by show 1<=5;omega,λx hx=>?_⟩,λx hx=>?_⟩
   ·rw[List.mem_singleton.mp hx]
    exact⟨by show(1:Int)<=1;omega,by show(1:Int)<=200000;omega,h.2.2.2 _ m⟩
   ·rw[List.mem_singleton.mp hx]
    exact m
noncomputable def dh (b:List Pl) (ks:List (Option Int)):List Dg.Wy:=List.zipWith yf b ks
noncomputable def gB (b:List Pl):Int:=Wq.eP 1 (b.map Wq.cv)
noncomputable def gT (b:List Pl):List Int:=(b.map Wq.cv).map (Wq.sc (gB b))
structure kT (b:List Pl) (ks:List (Option Int)):Prop where
 len:ks.length=b.length
 ok:∀(i:Nat) q k,b[i]?=some q->ks[i]?=some k->Fc q k
theorem kT.at {b:List Pl} {ks:List (Option Int)} (h:kT b ks) {i:Nat} (hi:i<b.length):∃q k,b[i]?=some q/\ks[i]?=some k/\Fc q k/\bw (dh b ks) (i:Int)=yf q k:=by
 have e1:b[i]?=some b[i]:=YQ hi
 have hk:i<ks.length:=by rw[h.len];exact hi
 have e2:ks[i]?=some ks[i]:=YQ hk
 refine⟨_,_,e1,e2,h.ok i _ _ e1 e2,?_⟩
 unfold bw dh
 rw[YY,YR,List.getElem?_zipWith,e1,e2]
 rfl
noncomputable def EqAt (b:List Pl) (ks:List (Option Int)) (p:Nat) (v:Int->Rat):Prop:=∀q k,b[p]?=some q->ks[p]?=some k->v (p:Int)=Dg.vl (Wq.cv q)+Dg.kQ (Dg.tt (yf q k)) v (yf q k)
theorem ma {n:Nat} {q:Pl} (h:ye n q):GS (Wq.cv q):=by
 cases q with
 | fin g=>exact h
 | eO g ws=>exact h.1
 | dR w to=>exact⟨by show Bt 40 0;exact Bt.of 1 (by decide) (by decide),by show Bt 20 1;exact Bt.of 1 (by decide) (by decide),by show(0:Int)<1;decide,by show Nm.g 0 1=1;decide⟩
noncomputable def pB (xs:List Wq.Sh):Int:=xs.foldr (λx y=>x.2*y) 1
theorem Ak:∀{xs:List Wq.Sh},(∀x∈xs,GS x)->0<pB xs/\Bt (20*xs.length+1) (pB xs)/\∀x∈xs,x.2∣pB xs
 | [],_=>⟨by decide,Bt.of 1 (by decide) (by decide),by simp⟩
 | x::xs,h=>by
  obtain⟨h1,h2,h3⟩:=Ak (xs:=xs) λy hy=>h y (YW _ hy)
  have g:=h x YV
  refine⟨Zm g.2.2.1 h1,?_,λy hy=>?_⟩
  ·have:=g.2.1.mul h2
   rw[show 20* (x::xs).length+1=20+ (20*xs.length+1) by rw[Y4];omega]
   exact this
  ·rcases List.mem_cons.mp hy with rfl | hy
   ·exact Int.dvd_mul_right _ _
   ·exact Int.dvd_trans (h3 y hy) (Int.dvd_mul_left _ _)
section WE
variable {b : List Pl} {rk : Int -> Nat} (B : pL b rk)
include B
theorem pL.rR:∀q∈b,(Lv.fX q).length<=100:=λq hq=>by have:=(B.ok q hq).rR;omega
theorem pL.bd:Bd b:=⟨by have:=B.len;omega,B.rR,B.jB.good⟩
theorem pL.wF:∀x∈b.map Wq.cv,GS x:=λx hx=>by
 obtain⟨q,hq,rfl⟩:=List.mem_map.mp hx
 exact ma (B.ok q hq)
theorem pL.bot:0<gB b/\Bt 321 (gB b)/\∀q∈b,(Wq.cv q).2∣gB b:=by
 obtain⟨p1,p2,p3⟩:=Ak B.wF
 obtain⟨l1,l2,l3,l4⟩:=Wq.lQ (xs:=b.map Wq.cv) (c:=1) (by decide) λx hx=>(B.wF x hx).2.2.1
 have d:=l4 (Z:=pB (b.map Wq.cv)) ⟨pB (b.map Wq.cv),by omega⟩ p3
 rw[YO] at p2
 have bl:=B.len
 exact⟨l1,(p2.mono (by omega)).le (by have:=ZO p1 d;have:0<gB b:=l1;unfold gB at *;omega),λq hq=>l3 _ (List.mem_map.mpr ⟨q,hq,rfl⟩)⟩
theorem pL.top (p:Nat):((gT b).getD p 0).natAbs<=2^40* (gB b).toNat:=by
 obtain⟨g0,g1,g2⟩:=B.bot
 unfold gT
 rw[YR,YT,YT]
 cases e:b[p]? with
 | none=>exact Y3 _
 | some q=>
  have hq:=YU e
  obtain⟨h1,h2,h3⟩:=ma (B.ok q hq)
  show(Wq.sc (gB b) (Wq.cv q)).natAbs<=_
  have:=Nm.eW (a:=gB b) h3.1 (g2 q hq)
  unfold Wq.sc
  unfold Bt at h1
  rw[Zq]
  exact ZS (by omega) (by omega)
theorem pL.gV {p:Nat} {q:Pl} (e:b[p]?=some q):((gT b).getD p 0:Rat) / (gB b:Rat)=Dg.vl (Wq.cv q):=by
 obtain⟨g0,g1,g2⟩:=B.bot
 have hq:=YU e
 obtain⟨h1,h2,h4⟩:=ma (B.ok q hq)
 have ee:(gT b).getD p 0=Wq.sc (gB b) (Wq.cv q):=by
  unfold gT
  rw[YR,YT,YT,e]
  rfl
 rw[ee]
 exact(Dg.sW h4.1 g0 (Wq.iK (g2 q hq)).symm).symm
theorem pL.dn {ks:List (Option Int)} (ko:kT b ks) {p:Int} (hp:Pr.In b p):bw (dh b ks) p=[]\/∃x∈bw (dh b ks) p,rk x.2<rk p:=by
 obtain⟨i,rfl⟩:=Zd hp.1
 obtain⟨q,k,e1,e2,po,ew⟩:=ko.at (i:=i) (by have:=hp.2;omega)
 rw[ew]
 cases q with
 | fin g=>exact .inl rfl
 | eO g ws=>exact .inr (B.jB.eO i g ws e1)
 | dR w to=>
  have h:=(Dk (B.ok _ (YU e1)) po).2
  refine .inr ⟨_,List.mem_singleton.mpr rfl,B.jB.dR i w to e1 _ (h _ (List.mem_singleton.mpr rfl))⟩
theorem pL.wk {ks:List (Option Int)} (ko:kT b ks) {p:Int} (hp:Pr.In b p):Dg.rh b.length (bw (dh b ks) p)/\∀x∈bw (dh b ks) p,x.2∈Bf.fB b p:=by
 obtain⟨i,rfl⟩:=Zd hp.1
 obtain⟨q,k,e1,e2,po,ew⟩:=ko.at (i:=i) (by have:=hp.2;omega)
 rw[ew]
 have h:=Dk (B.ok _ (YU e1)) po
 refine⟨h.1,λx hx=>?_⟩
 unfold Bf.fB
 rw[YY,e1]
 exact h.2 x hx
noncomputable def u7 (b:List Pl) (ps:List Int) (p:Int):Nat:=ps.idxOf (Pr.rep b p)
variable {ps : List Int} (T : Pr.Told b ps)
include T
theorem jU {i:Nat} {h p:Int} (e:ps[i]?=some h) (hp:p∈Pr.cE b h):u7 b ps p=i:=by
 have ih:=T.De (YU e)
 unfold u7
 rw[Pr.qG B.jB.good ih hp,T.rp (YU e)]
 have l:=ZR (YU e)
 obtain⟨hi,Fd⟩:=List.getElem?_eq_some_iff.mp e
 exact(ZT T.nd).mp ((ZQ l).trans Fd.symm)
theorem Dl {i:Nat} {h p:Int} (e:ps[i]?=some h) (hp:Pr.In b p) (z:u7 b ps p=i):p∈Pr.cE b h:=by
 have m:=T.has B.jB.good hp
 have l:=ZR m
 have e2:ps[u7 b ps p]?=some (Pr.rep b p):=by unfold u7;rw[YQ l,ZQ l]
 rw[z,e] at e2
 cases e2
 rw[Pr.qF B.jB.good hp]
 exact Pr.nA B.jB.good hp
theorem Dm {p:Int} (hp:Pr.In b p):u7 b ps p<ps.length:=ZR (T.has B.jB.good hp)
theorem qN {p g:Int} (hp:Pr.In b p) (hg:g∈Bf.fB b p):u7 b ps g<=u7 b ps p/\Pr.In b g:=by
 have k:=Pr.qD B.jB.good hp (Pr.h8 B.jB.good hp) hg
 exact⟨T.ER B.jB.good hp k,Pr.nk B.jB.good hp k⟩
theorem Am {i:Nat} (hi:i<=ps.length):Pr.off b ps i<=b.length:=by
 have h1:Pr.off b ps ps.length=b.length:=by
  rw[Pr.Co]
  have:=congrArg List.length (T.zC B.jB.good)
  rw[(Nm.eY _).length_eq,YO,YO,Y9] at this
  exact this
 have mono:∀k,i+k<=ps.length->Pr.off b ps i<=Pr.off b ps (i+k):=by
  intro k
  induction k with
  | zero=>intro _;exact YS _
  | succ k ih=>
   intro h
   rw[show i+ (k+1)=i+k+1 by omega,Pr.nB (YQ (show i+k<ps.length by omega))]
   have:=ih (by omega)
   omega
 have:=mono (ps.length - i) (by omega)
 rw[show i+ (ps.length - i)=ps.length by omega,h1] at this
 exact this
end WE
structure u9 (b:List Pl) (ks:List (Option Int)) (ps:List Int) (i:Nat) (S:Dg.Bk):Prop where
 sz:Dg.Sz b.length (330+92*Pr.off b ps i) S
 dv:gB b∣S.2
 eq:∀p:Nat,p<b.length->u7 b ps (p:Int)<i->EqAt b ks p (Dg.val S)
 zr:∀p:Int,Pr.In b p->i<=u7 b ps p->S.1.getD p.toNat 0=0
theorem u9.start {b:List Pl} {rk:Int->Nat} {ks:List (Option Int)} {ps:List Int} (B:pL b rk):u9 b ks ps 0 (List.replicate b.length 0,gB b):=by
 obtain⟨g0,g1,g2⟩:=B.bot
 have z:∀q,(List.replicate b.length (0:Int)).getD q 0=0:=λq=>by
  rw[YR,Z6]
  split <;>simp
 refine⟨⟨ZN,g0,g1.mono (by omega),λq=>?_⟩,Int.dvd_refl _,λp _ h=>absurd h (ZV _),λp _ _=>z _⟩
 show Bt _ ((List.replicate b.length (0:Int)).getD q 0)
 rw[z]
 exact Bt.mono (m:=1) (Bt.of 1 (by decide) (by decide)) (by omega)
theorem u9.step {b:List Pl} {rk:Int->Nat} {ks:List (Option Int)} {ps:List Int} {i:Nat} {S S':Dg.Bk} {h:Int} (B:pL b rk) (T:Pr.Told b ps) (ko:kT b ks) (I:u9 b ks ps i S) (e:ps[i]?=some h)
  (st:Dg.F7 (Pr.cE b h) (bw (dh b ks)) (gT b) (gB b) S S') (sz:Dg.Sz b.length (330+92*Pr.off b ps i+92* (Pr.cE b h).length) S'):u9 b ks ps (i+1) S':=by
 obtain⟨g0,_,_⟩:=B.bot
 have ih:=T.De (YU e)
 refine⟨?_,?_,λp hp hx=>?_,λp hp hx=>?_⟩
 ·rw[Pr.nB e,Nat.mul_add,<-Nat.add_assoc]
  exact sz
 ·obtain⟨d,_,e2,_⟩:=st
  rw[e2]
  exact Int.dvd_trans I.dv (Int.dvd_mul_right _ _)
 ·have ip:Pr.In b (p:Int):=⟨by omega,by omega⟩
  obtain⟨q,k,e1,ek,po,ew⟩:=ko.at hp
  intro q' k' C7 F8
  rw[e1] at C7
  rw[ek] at F8
  cases C7
  cases F8
  obtain⟨w5,wg⟩:=B.wk ko ip
  by_cases c:u7 b ps (p:Int)=i
  ·have m:=Dl B T e ip c
   have:=st.eq I.sz.pos g0 I.dv m (by have:=w5.tt;omega)
   rw[YY,B.gV e1,ew] at this
   exact this
  ·have old:=I.eq p hp (by omega) q k e1 ek
   have out:∀x:Int,Pr.In b x->u7 b ps x<i->Dg.val S' x=Dg.val S x:=λx hx hi=>st.ne I.sz.pos hx.1 λz=>by
    have:=jU B T e z
    omega
   rw[out _ ip (by omega),old]
   congr 1
   refine Dg.nG λx hx=>(out x.2 ?_ ?_).symm
   ·rw[<-ew] at hx
    exact(qN B T ip (wg x hx)).2
   ·rw[<-ew] at hx
    have:=(qN B T ip (wg x hx)).1
    omega
 ·obtain⟨d,_,_,_,o,_⟩:=st
  rw[o p hp.1 λz=>by have:=jU B T e z;omega,I.zr p hp (by omega),Int.zero_mul]
theorem wG {S:Dg.Bk} (h:0<S.2) (q:Int) (hq:q.toNat<S.1.length):Dg.vl (Wq.B9 (S.1.map λt=>Wq.low t S.2) q)=Dg.val S q:=by
 unfold Wq.B9 Dg.val
 rw[YR,YT,YR,YQ hq]
 exact Dg.uX h
noncomputable def nQ (tp:Addr):Sp:=λvs H Q _=>∃(a:Addr) (b:List Pl) (rk:Int->Nat),vs=[.ref a]/\Rep H (rY b) (.ref a)/\pL b rk/\H tp=some (.pQ dsc)/\
 ∀l ps as H',Pr.Told b ps->az H H'->H l=none->H' l=some (.lst (List.map V.ref as))->Al (λp v=>∃x,v=.ref x/\H' x=some (.lst ((Pr.cE b p).map V.int))) ps (as.map V.ref)->Q (.ref l) H'
noncomputable def vb:Sp:=λvs H Q _=>∃(a x:Addr) (b:List Pl) (ps:List Int),vs=[.ref a,.ref x]/\Rep H (rY b) (.ref a)/\H x=some (.lst (ps.map V.int))/\(∀p∈ps,Pr.In b p)/\(∀q∈b,ye b.length q)/\jT b 1 ps<=4096/\Q (.int (jT b 1 ps)) H
noncomputable def wH:Sp:=λvs H Q _=>∃(v:V) (q:Pl) (k:Option Int),vs=[v,fc k]/\Rep H (oC q) v/\Fc q k/\∀l H',az H H'->Rep H' (xS (yf q k)) (.ref l)->Q (.ref l) H'
noncomputable def An:Sp:=λvs H Q _=>∃(a c:Addr) (b:List Pl) (ks:List (Option Int)),vs=[.ref a,.ref c]/\Rep H (rY b) (.ref a)/\b.length<=60/\H c=some (.lst (ks.map fc))/\kT b ks/\
 ∀l xs H',az H H'->H l=none->H' l=some (.lst xs)->bu (iu H' l) ((dh b ks).map xS) xs->Q (.ref l) H'
noncomputable def Ao (C:Addr):Sp:=λvs H Q _=>∃(a:Addr) (b:List Pl) (rk:Int->Nat),vs=[.ref a]/\Rep H (rY b) (.ref a)/\pL b rk/\∀x H',az H H'->q9 C H' x (gT b,gB b)->Q (.ref x) H'
noncomputable def Ap (C:Addr):Sp:=λvs H Q _=>∃(bk gn pt wl:Addr) (S:Dg.Bk) (gt:List Int) (G:Int) (ps:List Int) (n M:Nat) (xs:List V) (cL:List Dg.Wy) (lv:Int->Nat),vs=[.ref bk,.ref gn,.ref pt,.ref wl]/\q9 C H bk S/\q9 C H gn (gt,G)/\H pt=some (.lst (ps.map V.int))/\H wl=some (.lst xs)/\bu H (cL.map xS) xs/\
 cL.length=n/\n<=16/\ps.Nodup/\0<ps.length/\ps.length<=16/\(∀p∈ps,0<=p/\p< (n:Int))/\(∀ws∈cL,Dg.rh n ws)/\(∀p∈ps,bw cL p=[]\/∃x∈bw cL p,lv x.2<lv p)/\
 Dg.Sz n M S/\M+92*ps.length<3900/\gt.length=n/\0<G/\Bt 400 G/\G∣S.2/\(∀q,(gt.getD q 0).natAbs<=2^40*G.toNat)/\(∀p∈ps,S.1.getD p.toNat 0=0)/\
 ∀x T H',az H H'->q9 C H' x T->Dg.F7 ps (bw cL) gt G S T->Dg.Sz n (M+92*ps.length) T->Q (.ref x) H'
noncomputable def Aq (tp:Addr):Sp:=λvs H Q _=>∃(a c:Addr) (b:List Pl) (rk:Int->Nat) (ks:List (Option Int)),vs=[.ref a,.ref c]/\Rep H (rY b) (.ref a)/\pL b rk/\H c=some (.lst (ks.map fc))/\kT b ks/\H tp=some (.pQ dsc)/\
 ∀l (S:Dg.Bk) H',az H H'->H l=none->Rep H' (.lst ((S.1.map λt=>Wq.low t S.2).map cA)) (.ref l)->Dg.Sz b.length 1900 S->gB b∣S.2->(∀p:Nat,p<b.length->EqAt b ks p (Dg.val S))->Q (.ref l) H'
namespace Dg
noncomputable def lsum (f:Int->Rat):List Int->Rat
 | []=>0
 | q::qs=>f q+lsum f qs
theorem dJ (f g:Int->Rat):∀qs,lsum (λq=>f q+g q) qs=lsum f qs+lsum g qs
 | []=>by show(0:Rat)=0+0;grind
 | q::qs=>by
  show f q+g q+lsum (λq=>f q+g q) qs=f q+lsum f qs+ (g q+lsum g qs)
  rw[dJ f g qs]
  grind
theorem js (c:Rat) (f:Int->Rat):∀qs,lsum (λq=>c*f q) qs=c*lsum f qs
 | []=>by show(0:Rat)=c*0;grind
 | q::qs=>by
  show c*f q+lsum (λq=>c*f q) qs=c* (f q+lsum f qs)
  rw[js c f qs]
  grind
theorem qO {f g:Int->Rat}:∀{qs:List Int},(∀q∈qs,f q<=g q)->lsum f qs<=lsum g qs
 | [],_=>Rat.le_refl
 | q::qs,h=>by
  have:=qO (f:=f) (g:=g) (qs:=qs) λx hx=>h x (YW _ hx)
  have:=h q YV
  show f q+lsum f qs<=g q+lsum g qs
  grind
theorem fS {f g:Int->Rat}:∀{qs:List Int},(∀q∈qs,f q=g q)->lsum f qs=lsum g qs
 | [],_=>rfl
 | q::qs,h=>by
  show f q+lsum f qs=g q+lsum g qs
  rw[h q YV,fS λx hx=>h x (YW _ hx)]
theorem fi (qs:List Int):lsum (λ_=>0) qs=0:=by
 induction qs with
 | nil=>rfl
 | cons q qs ih=>show(0:Rat)+lsum (λ_=>0) qs=0;rw[ih];grind
theorem tI {f:Int->Rat}:∀{qs:List Int},(∀q∈qs,0<=f q)->lsum f qs<=0->∀q∈qs,f q=0
 | [],_,_,q,hq=>by simp at hq
 | p::qs,h,k,q,hq=>by
  have h1:=h p YV
  have hs:∀q∈qs,0<=f q:=λx hx=>h x (YW _ hx)
  have h2:0<=lsum f qs:=by
   have:=qO (f:=λ_=>0) (g:=f) hs
   rw[fi] at this
   exact this
  have k:f p+lsum f qs<=0:=k
  rcases List.mem_cons.mp hq with rfl | hq
  ·grind
  ·exact tI hs (by grind) q hq
theorem nR {f:Int->Rat} {x:Int}:∀{qs:List Int},x∈qs->lsum f qs=f x+lsum f (qs.erase x)
 | [],h=>by simp at h
 | q::qs,h=>by
  by_cases c:q=x
  ·subst c
   rw[List.erase_cons_head]
   rfl
  ·have:x∈qs:=by
    rcases List.mem_cons.mp h with h | h
    ·exact absurd h.symm c
    ·exact h
   rw[List.erase_cons_tail (by simpa using c)]
   show f q+lsum f qs=f x+ (f q+lsum f (qs.erase x))
   rw[nR this]
   grind
noncomputable def t7 (d:Int) (qs:List Int):Wy->Rat
 | []=>0
 | x::ws=>(if x.2∈qs then (x.1:Rat) / (d:Rat) else 0)+t7 d qs ws
theorem tJ {c:Rat} {y:Int}:∀{qs:List Int},qs.Nodup->lsum (λq=>if y=q then c else 0) qs=if y∈qs then c else 0
 | [],_=>by rw[if_neg (by simp)];rfl
 | q::qs,h=>by
  have ih:=tJ (c:=c) (y:=y) (List.nodup_cons.mp h).2
  have nq:=(List.nodup_cons.mp h).1
  show(if y=q then c else 0)+lsum (λq=>if y=q then c else 0) qs=_
  rw[ih]
  by_cases e:y=q
  ·subst e
   rw[if_pos rfl,if_neg nq,if_pos YV]
   grind
  ·rw[if_neg e]
   by_cases m:y∈qs
   ·rw[if_pos m,if_pos (YW _ m)];grind
   ·rw[if_neg m,if_neg (λz=>by rcases List.mem_cons.mp z with z | z;exact e z;exact m z)];grind
theorem wI {d:Int} {qs:List Int} (nd:qs.Nodup):∀ws:Wy,lsum (λq=>pr d q ws) qs=t7 d qs ws
 | []=>fi qs
 | x::ws=>by
  have ih:=wI (d:=d) nd ws
  have e:(λq=>pr d q (x::ws))=λq=>(if x.2=q then (x.1:Rat) / (d:Rat) else 0)+pr d q ws:=rfl
  rw[e,dJ,ih,tJ nd]
  rfl
theorem Ho {a d:Int} (h:1<=a) (k:0<d):(0:Rat)< (a:Rat) / (d:Rat):=by
 rw[Rat.div_def]
 exact Rat.mul_pos (Rat.intCast_pos.mpr (by omega)) (Rat.inv_pos.mpr (Rat.intCast_pos.mpr k))
theorem vc {d:Int} (d0:0<d) {qs:List Int}:∀{ws:Wy},(∀x∈ws,1<=x.1)->0<=t7 d qs ws/\t7 d qs ws<=(Wq.cJ ws:Rat) / (d:Rat)/\((∃x∈ws,x.2∉qs)->t7 d qs ws< (Wq.cJ ws:Rat) / (d:Rat))
 | [],_=>by
  refine⟨Rat.le_refl,?_,fun⟨x,hx,_⟩=>by simp at hx⟩
  show(0:Rat)<=((0:Int):Rat) / _
  grind
 | x::ws,h=>by
  obtain⟨i1,i2,i3⟩:=vc d0 (qs:=qs) (ws:=ws) λy hy=>h y (YW _ hy)
  have c:=Ho (h x YV) d0
  have e:((Wq.cJ (x::ws):Int):Rat) / (d:Rat)=(x.1:Rat) / (d:Rat)+ (Wq.cJ ws:Rat) / (d:Rat):=by
   rw[cR,Rat.intCast_add]
   generalize (x.1:Rat)=a at *
   generalize (Wq.cJ ws:Rat)=b at *
   generalize (d:Rat)=u at *
   grind
  rw[e]
  show 0<=(if x.2∈qs then (x.1:Rat) / (d:Rat) else 0)+t7 d qs ws/\(if x.2∈qs then (x.1:Rat) / (d:Rat) else 0)+t7 d qs ws<=_/\(_->(if x.2∈qs then (x.1:Rat) / (d:Rat) else 0)+t7 d qs ws<_)
  generalize (x.1:Rat) / (d:Rat)=a at *
  generalize (Wq.cJ ws:Rat) / (d:Rat)=b at *
  generalize hi:t7 d qs ws=i at *
  by_cases m:x.2∈qs
  ·rw[if_pos m]
   refine⟨by grind,by grind,fun⟨y,hy,ny⟩=>?_⟩
   rcases List.mem_cons.mp hy with rfl | hy
   ·exact absurd m ny
   ·have:=i3 ⟨y,hy,ny⟩
    grind
  ·rw[if_neg m]
   exact⟨by grind,by grind,λ_=>by grind⟩
noncomputable def ab (x:Rat):Rat:=if 0<=x then x else -x
theorem Ar (x:Rat):0<=ab x/\x<=ab x/\-x<=ab x:=by
 unfold ab
 split <;>grind
theorem Hq {x y:Rat} (h1:x<=y) (h2:-x<=y):ab x<=y:=by
 unfold ab
 split <;>grind
theorem Cz {x:Rat} (h:ab x=0):x=0:=by
 obtain⟨a,b,c⟩:=Ar x
 grind
theorem Dp {d:Int} (d0:0<d) {q:Int}:∀{ws:Wy},(∀x∈ws,1<=x.1)->0<=pr d q ws
 | [],_=>Rat.le_refl
 | x::ws,h=>by
  have ih:=Dp d0 (q:=q) (ws:=ws) λy hy=>h y (YW _ hy)
  have c:=Ho (h x YV) d0
  show 0<=(if x.2=q then (x.1:Rat) / (d:Rat) else 0)+pr d q ws
  generalize (x.1:Rat) / (d:Rat)=a at *
  generalize pr d q ws=b at *
  split <;>grind
theorem tK {W:Int->Wy} {v:Int->Rat} {q:Int}:∀{ps:List Int},(∀p∈ps,0<=pr (tt (W p)) q (W p))->bS W v q ps<=bS W (λp=>ab (v p)) q ps/\-bS W v q ps<=bS W (λp=>ab (v p)) q ps
 | [],_=>⟨Rat.le_refl,by show -(0:Rat)<=0;grind⟩
 | p::ps,h=>by
  obtain⟨i1,i2⟩:=tK (W:=W) (v:=v) (q:=q) (ps:=ps) λx hx=>h x (YW _ hx)
  have c:=h p YV
  obtain⟨a0,a1,a2⟩:=Ar (v p)
  have m1:=Rat.mul_le_mul_of_nonneg_right a1 c
  have m2:=Rat.mul_le_mul_of_nonneg_right a2 c
  show v p*pr (tt (W p)) q (W p)+bS W v q ps<=ab (v p)*pr (tt (W p)) q (W p)+bS W (λp=>ab (v p)) q ps/\-(v p*pr (tt (W p)) q (W p)+bS W v q ps)<=ab (v p)*pr (tt (W p)) q (W p)+bS W (λp=>ab (v p)) q ps
  generalize pr (tt (W p)) q (W p)=u at *
  generalize ab (v p)=a at *
  generalize v p=b at *
  constructor <;>grind
theorem pM {W:Int->Wy} {v:Int->Rat} {qs:List Int} (nd:qs.Nodup):∀ps:List Int,lsum (λq=>bS W v q ps) qs=lsum (λp=>v p*t7 (tt (W p)) qs (W p)) ps
 | []=>fi qs
 | p::ps=>by
  have e:(λq=>bS W v q (p::ps))=λq=>v p*pr (tt (W p)) q (W p)+bS W v q ps:=rfl
  rw[e,dJ,js,wI nd,pM nd ps]
  rfl
theorem nS {ws:Wy} (h:∀x∈ws,1<=x.1):0<tt ws/\(Wq.cJ ws:Rat) / (tt ws:Rat)<=1/\(ws≠[]->(Wq.cJ ws:Rat) / (tt ws:Rat)=1)/\(ws=[]->(Wq.cJ ws:Rat) / (tt ws:Rat)=0):=by
 cases ws with
 | nil=>exact⟨by decide,by show((0:Int):Rat) / ((1:Int):Rat)<=1;rw[Jr];grind,λz=>absurd rfl z,λ_=>Jr⟩
 | cons x ws=>
  have e:tt (x::ws)=Wq.cJ (x::ws):=by unfold tt;rw[if_neg (by simp)]
  have p:0<Wq.cJ (x::ws):=by
   have:=h x YV
   have:=(wz (q:=0) (ws:=ws) λy hy=>h y (YW _ hy))
   rw[cR]
   omega
  have o:(Wq.cJ (x::ws):Rat) / (Wq.cJ (x::ws):Rat)=1:=by
   have:=nF p
   generalize (Wq.cJ (x::ws):Rat)=t at *
   grind
  rw[e]
  exact⟨p,by rw[o];exact Rat.le_refl,λ_=>o,λz=>by cases z⟩
theorem xW {ps:List Int} {W:Int->Wy} {lv:Int->Nat} {v:Int->Rat} (nd:ps.Nodup) (pos:∀p∈ps,∀x∈W p,1<=x.1) (h:∀q∈ps,v q=bS W v q ps) (dn:∀p∈ps,W p=[]\/∃x∈W p,lv x.2<lv p):∀p∈ps,v p=0:=by
 have le:∀q∈ps,ab (v q)<=bS W (λp=>ab (v p)) q ps:=λq hq=>by
  obtain⟨g1,g2⟩:=tK (W:=W) (v:=v) (q:=q) (ps:=ps) λp hp=>Dp (nS (pos p hp)).1 (pos p hp)
  rw[<-h q hq] at g1 g2
  exact Hq g1 g2
 have key:∀qs:List Int,qs.Nodup->(∀q∈qs,q∈ps)->lsum (λq=>ab (v q)) qs=lsum (λq=>ab (v q)) ps->∀p∈ps,t7 (tt (W p)) qs (W p)<1->v p=0:=by
  intro qs nq sub same p hp lt
  have e1:=qO (f:=λq=>ab (v q)) (g:=λq=>bS W (λp=>ab (v p)) q ps) (qs:=qs) λq hq=>le q (sub q hq)
  rw[same,pM nq] at e1
  have nn:∀p∈ps,0<=ab (v p)+-1* (ab (v p)*t7 (tt (W p)) qs (W p)):=λp hp=>by
   obtain⟨t1,t2,_,_⟩:=nS (pos p hp)
   obtain⟨i1,i2,_⟩:=vc t1 (qs:=qs) (pos p hp)
   have m:=Rat.mul_le_mul_of_nonneg_left (Rat.le_trans i2 t2) (Ar (v p)).1
   generalize ab (v p)=a at *
   generalize t7 (tt (W p)) qs (W p)=i at *
   grind
  have z:=tI (f:=λp=>ab (v p)+-1* (ab (v p)*t7 (tt (W p)) qs (W p))) nn (by rw[dJ,js];grind) p hp
  have z:ab (v p)+-1* (ab (v p)*t7 (tt (W p)) qs (W p))=0:=z
  refine Cz ?_
  generalize ab (v p)=a at *
  generalize t7 (tt (W p)) qs (W p)=i at *
  have:a* (1 - i)=0:=by grind
  rcases Rat.mul_eq_zero.mp this with h | h
  ·exact h
  ·grind
 have low:∀n,∀p∈ps,lv p<n->v p=0:=by
  intro n
  induction n with
  | zero=>exact λp _ hl=>absurd hl (ZV _)
  | succ n ih=>
   intro p hp hl
   obtain⟨t1,t2,t3,t4⟩:=nS (pos p hp)
   rcases dn p hp with z | ⟨x,hx,lx⟩
   ·refine key ps nd (λ_ h=>h) rfl p hp ?_
    rw[z]
    show(0:Rat)<1
    decide
   ·obtain⟨_,_,i3⟩:=vc t1 (qs:=ps.erase x.2) (pos p hp)
    have Hn:x.2∉ps.erase x.2:=λz=>(nd.mem_erase_iff.mp z).1 rfl
    have lt:=i3 ⟨x,hx,Hn⟩
    rw[t3 (List.ne_nil_of_mem hx)] at lt
    refine key (ps.erase x.2) (nd.erase _) (λq hq=>List.mem_of_mem_erase hq) ?_ p hp lt
    by_cases m:x.2∈ps
    ·rw[nR m,ih x.2 m (by omega)]
     show _=ab 0+_
     have:ab 0=0:=by decide
     rw[this]
     grind
    ·rw[List.erase_of_not_mem m]
 exact λp hp=>low _ p hp (Zl _)
end Dg
namespace Dg
noncomputable def jV (ps:List Int) (ws:Wy):Wy:=ws.filter λx=>decide (x.2∉ps)
theorem wJ {ps:List Int} {q:Int} (h:q∈ps):∀ws:Wy,bV q (jV ps ws)=0
 | []=>rfl
 | x::ws=>by
  have ih:=wJ h ws
  unfold jV at ih ⊢
  by_cases c:x.2∈ps
  ·rw[List.filter_cons_of_neg (by simpa using c)]
   exact ih
  ·rw[List.filter_cons_of_pos (by simpa using c)]
   show(if x.2=q then x.1 else 0)+bV q (ws.filter _)=0
   rw[if_neg (λz=>c (by rw[z];exact h)),ih]
   rfl
theorem tL {ps:List Int} {q:Int} (h:q∉ps):∀ws:Wy,bV q (jV ps ws)=bV q ws
 | []=>rfl
 | x::ws=>by
  have ih:=tL h ws
  unfold jV at ih ⊢
  by_cases c:x.2∈ps
  ·rw[List.filter_cons_of_neg (by simpa using c),ih]
   show _=(if x.2=q then x.1 else 0)+bV q ws
   rw[if_neg (λz=>h (by rw[<-z];exact c)),ZA]
  ·rw[List.filter_cons_of_pos (by simpa using c)]
   show(if x.2=q then x.1 else 0)+bV q (ws.filter _)=(if x.2=q then x.1 else 0)+bV q ws
   rw[ih]
noncomputable def gK (ps xs:List Int) (W:Int->Wy) (ts:List Int):Nat->List Int
 | 0=>ts
 | k+1=>addW (xs.getD k 0) (jV ps (W (ps.getD k 0))) ((gK ps xs W ts k).set (ps.getD k 0).toNat (xs.getD k 0*tt (W (ps.getD k 0))))
theorem gL (ps xs:List Int) (W:Int->Wy) (ts:List Int):∀k,(gK ps xs W ts k).length=ts.length
 | 0=>rfl
 | k+1=>by unfold gK;rw[nI,Zh,gL ps xs W ts k]
section PV
variable {ps xs ts : List Int} {W : Int -> Wy} {n : Nat} (nd : ps.Nodup) (hp : ∀ p ∈ ps, 0 <= p /\ p < (n : Int)) (lt : ts.length = n) (wk : ∀ p ∈ ps, rh n (W p))
include hp lt wk
theorem tM {k:Nat} (hk:k<ps.length):∀x∈jV ps (W (ps.getD k 0)),0<=x.2/\x.2< (((gK ps xs W ts k).set (ps.getD k 0).toNat (xs.getD k 0*tt (W (ps.getD k 0)))).length:Int):=λx hx=>by
 have m:ps.getD k 0∈ps:=by rw[YR,YQ hk];exact YZ hk
 have:=(wk _ m).2 x (List.mem_filter.mp hx).1
 rw[Zh,gL,lt]
 exact this.2.2
theorem tN {q:Int} (q0:0<=q) (h:q∉ps):∀k,k<=ps.length->(gK ps xs W ts k).getD q.toNat 0=ts.getD q.toNat 0+aJ.sm k (λj=>xs.getD j 0*bV q (W (ps.getD j 0)))
 | 0,_=>by show _=_+0;rw[Int.add_zero];rfl
 | k+1,hk=>by
  have m:ps.getD k 0∈ps:=by rw[YR,YQ (by omega)];exact YZ _
  have:=hp _ m
  show(addW _ _ _).getD q.toNat 0=_+ (aJ.sm k _+_)
  rw[nJ q0 (tM hp lt wk (by omega)),tL h,cB (λz=>h (by rw[show q=ps.getD k 0 by omega];exact m)),tN q0 h k (by omega),Int.add_assoc]
include nd
theorem wK {j:Nat}:∀k,k<=ps.length->j<k->(gK ps xs W ts k).getD (ps.getD j 0).toNat 0=xs.getD j 0*tt (W (ps.getD j 0))
 | 0,_,h=>absurd h (ZV _)
 | k+1,hk,h=>by
  have e:ps.getD k 0=ps[k]:=by rw[YR,YQ (by omega)];rfl
  have ej:ps.getD j 0=ps[j]:=by rw[YR,YQ (by omega)];rfl
  have m:=hp _ (YZ (l:=ps) (n:=k) (by omega))
  have mj:=hp _ (YZ (l:=ps) (n:=j) (by omega))
  show(addW _ _ _).getD (ps.getD j 0).toNat 0=_
  rw[nJ (by rw[ej];omega) (tM hp lt wk (by omega)),wJ (by rw[ej];exact YZ _),Zs,Int.add_zero]
  by_cases c:j=k
  ·subst c
   rw[c8 (by rw[gL,lt,e];omega)]
  ·rw[cB ?_,wK k (by omega) (by omega)]
   rw[e,ej]
   intro z
   exact c ((ZT nd).mp (show ps[j]=ps[k] by omega))
end PV
noncomputable def Jv (ps:List Int) (W:Int->Wy) (S T:Bk):Prop:=(T=S/\∀p∈ps,S.1.getD p.toNat 0=0)\/∃(d:Int) (x:List Int),0<d/\T.2=S.2*d/\T.1.length=S.1.length/\(∀j,j<ps.length->T.1.getD (ps.getD j 0).toNat 0=x.getD j 0*tt (W (ps.getD j 0)))/\∀q:Int,0<=q->T.1.getD q.toNat 0=S.1.getD q.toNat 0*d+aJ.sm ps.length (λi=>x.getD i 0*bV q (W (ps.getD i 0)))
theorem jW {W:Int->Wy} {g:Int->Rat} {q p:Int}:∀os:List Int,bS W g q (os++ [p])=bS W g q os+g p*pr (tt (W p)) q (W p)
 | []=>by show g p*pr (tt (W p)) q (W p)+0=0+_;grind
 | o::os=>by
  have:=jW (W:=W) (g:=g) (q:=q) (p:=p) os
  show g o*pr (tt (W o)) q (W o)+bS W g q (os++ [p])=g o*pr (tt (W o)) q (W o)+bS W g q os+_
  rw[this]
  grind
theorem kc {W:Int->Wy} {g:Int->Rat} {q:Int}:∀os yD:List Int,bS W g q (os++yD)=bS W g q os+bS W g q yD
 | [],yD=>by show _=0+_;grind
 | o::os,yD=>by
  have:=kc (W:=W) (g:=g) (q:=q) os yD
  show g o*pr (tt (W o)) q (W o)+bS W g q (os++yD)=g o*pr (tt (W o)) q (W o)+bS W g q os+_
  rw[this]
  grind
theorem gM {W:Int->Wy} {g:Int->Rat} {q:Int}:∀{os:List Int},(∀p∈os,g p=0\/∀x∈W p,x.2≠q)->bS W g q os=0
 | [],_=>rfl
 | o::os,h=>by
  show g o*pr (tt (W o)) q (W o)+bS W g q os=0
  rw[gM λp hp=>h p (YW _ hp)]
  rcases h o YV with z | z
  ·rw[z];grind
  ·rw[qH z];grind
theorem Jv.eq {ps:List Int} {W:Int->Wy} {S T:Bk} (h:Jv ps W S T) (B0:0<S.2) (t0:∀p∈ps,0<tt (W p)) {q:Int} (q0:0<=q):val T q=val S q+bS W (val T) q ps:=by
 rcases h with ⟨rfl,z⟩ | ⟨d,x,d0,e2,_,xi,all⟩
 ·rw[gM λp hp=>.inl (by unfold val;rw[z p hp];show((0:Int):Rat) / _=0;grind)]
  grind
 ·have T0:0<T.2:=by rw[e2];exact Zm B0 d0
  have key:∀k,k<=ps.length->bS W (val T) q (ps.take k)=(aJ.sm k (λi=>x.getD i 0*bV q (W (ps.getD i 0))):Rat) / (T.2:Rat):=by
   intro k
   induction k with
   | zero=>intro _;show(0:Rat)=((0:Int):Rat) / _;grind
   | succ k ih=>
    intro hk
    have e:ps.getD k 0=ps[k]:=by rw[YR,YQ (by omega)];rfl
    have tk:ps.take (k+1)=ps.take k++ [ps[k]]:=by rw[Ze,YQ (by omega)];rfl
    have tp:=t0 _ (YZ (show k<ps.length by omega))
    rw[tk,jW,ih (by omega),<-qI tp]
    show _+val T ps[k]*_=((aJ.sm k (λi=>x.getD i 0*bV q (W (ps.getD i 0)))+x.getD k 0*bV q (W (ps.getD k 0)):Int):Rat) / _
    have v:val T ps[k]=(x.getD k 0:Rat)* (tt (W ps[k]):Rat) / (T.2:Rat):=by
     have:=xi k (by omega)
     rw[e] at this
     unfold val
     rw[this,Rat.intCast_mul]
    rw[v,e,Rat.intCast_add,Rat.intCast_mul]
    have h1:=nF T0
    have h2:=nF tp
    generalize (T.2:Rat)=a at *
    generalize (tt (W ps[k]):Rat)=b at *
    generalize (x.getD k 0:Rat)=c at *
    generalize (bV q (W ps[k]):Rat)=u at *
    generalize ((aJ.sm k (λi=>x.getD i 0*bV q (W (ps.getD i 0))):Int):Rat)=m at *
    clear ih
    grind
  have k:=key ps.length (YS _)
  rw[List.take_length] at k
  rw[k]
  unfold val
  rw[all q q0,e2,Rat.intCast_add,Rat.intCast_mul,Rat.intCast_mul]
  have h1:=nF B0
  have h2:=nF d0
  generalize (S.2:Rat)=a at *
  generalize (d:Rat)=b at *
  generalize ((S.1.getD q.toNat 0:Int):Rat)=c at *
  generalize ((aJ.sm ps.length (λi=>x.getD i 0*bV q (W (ps.getD i 0))):Int):Rat)=m at *
  clear k key
  grind
theorem iN.turned {ps:List Int} {W:Int->Wy} {lv:Int->Nat} {L:List (List Int)} (R:iN ps W L) (nd:ps.Nodup) (pos:∀p∈ps,∀x∈W p,1<=x.1) (dn:∀p∈ps,W p=[]\/∃x∈W p,lv x.2<lv p):¬aJ.uZ (aJ.tj L) ps.length:=by
 rintro⟨g,k,hk,gk,rel⟩
 have sq:aJ.Sq L ps.length:=⟨R.1,R.2.1⟩
 apply gk
 have gd:∀i,i<ps.length->ps.getD i 0=ps[i]!/\ps.getD i 0∈ps:=λi hi=>⟨by rw[YR];simp [hi],by rw[YR,YQ hi];exact YZ hi⟩
 have row:∀i,i<ps.length->tt (W (ps.getD i 0))*g i=aJ.sm ps.length (λj=>g j*bV (ps.getD i 0) (W (ps.getD j 0))):=λi hi=>by
  have r:aJ.sm ps.length (λj=>g j*aJ.cell (aJ.tj L) i j)=0:=rel i hi
  have e:aJ.sm ps.length (λj=>g j*aJ.cell (aJ.tj L) i j)=aJ.sm ps.length (λj=>tt (W (ps.getD i 0))* (g j* (if j=i then 1 else 0))+ (-1)* (g j*bV (ps.getD i 0) (W (ps.getD j 0)))):=aJ.dI λj hj=>by
   rw[aJ.tu sq hi hj,show aJ.cell L j i=(L.getD j []).getD i 0 from rfl,R.2.2 j i hj hi]
   by_cases c:j=i
   ·subst c
    rw[if_pos rfl,if_pos rfl,Int.mul_sub,Int.mul_one,Y8 (g j) (tt _)]
    omega
   ·rw[if_neg c,if_neg c,Int.mul_sub,Zs,Zs]
    omega
  rw[e,aJ.nK,aJ.fR,aJ.fR,aJ.qL,if_pos hi] at r
  omega
 let v:Int->Rat:=λp=>if p∈ps then ((g (ps.idxOf p)*tt (W p):Int):Rat) else 0
 have Jw:∀i,i<ps.length->v (ps.getD i 0)=((g i*tt (W (ps.getD i 0)):Int):Rat):=λi hi=>by
  have m:=(gd i hi).2
  have o:=u4 nd g hi
  unfold zR at o
  rw[if_pos m] at o
  show(if ps.getD i 0∈ps then _ else _)=_
  rw[if_pos m,o]
 have key:∀q,∀k,k<=ps.length->bS W v q (ps.take k)=((aJ.sm k (λj=>g j*bV q (W (ps.getD j 0))):Int):Rat):=by
  intro q k
  induction k with
  | zero=>intro _;rfl
  | succ k ih=>
   intro hk
   have e:ps.getD k 0=ps[k]:=by rw[YR,YQ (by omega)];rfl
   have tk:ps.take (k+1)=ps.take k++ [ps[k]]:=by rw[Ze,YQ (by omega)];rfl
   have tp:=(nS (pos _ (YZ (show k<ps.length by omega)))).1
   have va:=Jw k (by omega)
   rw[e] at va
   rw[tk,jW,ih (by omega),<-qI tp,va]
   show _=((aJ.sm k (λj=>g j*bV q (W (ps.getD j 0)))+g k*bV q (W (ps.getD k 0)):Int):Rat)
   rw[e,Rat.intCast_add,Rat.intCast_mul,Rat.intCast_mul]
   have h2:=nF tp
   generalize (tt (W ps[k]):Rat)=b at *
   generalize (g k:Rat)=c at *
   generalize (bV q (W ps[k]):Rat)=u at *
   generalize ((aJ.sm k (λj=>g j*bV q (W (ps.getD j 0))):Int):Rat)=m at *
   clear ih va Jw
   grind
 have z:=xW (v:=v) (lv:=lv) nd pos (λq hq=>by
  obtain⟨i,hi,rfl⟩:=Zo hq
  have e:ps.getD i 0=ps[i]:=by rw[YR,YQ hi];rfl
  have k:=key ps[i] ps.length (YS _)
  rw[List.take_length] at k
  have va:=Jw i hi
  have r:=row i hi
  rw[e] at va r
  rw[k,va,<-r,Y8]) dn (ps.getD k 0) (gd k hk).2
 rw[Jw k hk] at z
 have z:g k*tt (W (ps.getD k 0))=0:=Rat.intCast_inj.mp z
 have tp:=(nS (pos _ (gd k hk).2)).1
 rcases Int.mul_eq_zero.mp z with h | h
 ·exact h
 ·omega
theorem Dq {f:Nat->Int} {b:Nat}:∀{n},(∀i,i<n->(f i).natAbs<=b)->(aJ.sm n f).natAbs<=n*b
 | 0,_=>by show(0:Int).natAbs<=_;simp
 | n+1,h=>by
  have ih:=Dq (f:=f) (b:=b) (n:=n) λi hi=>h i (by omega)
  have:=h n (Zl _)
  show(aJ.sm n f+f n).natAbs<=(n+1)*b
  rw[Nat.add_mul]
  omega
theorem Fe {n M X:Nat} {ps x:List Int} {W:Int->Wy} {d t q:Int} (p0:0<ps.length) (Jx:ps.length<=16) (wk:∀p∈ps,rh n (W p)) (zx:∀j,j<ps.length->(x.getD j 0).natAbs<=X) (hX:X<=2^ (M+ (25*ps.length+5))) (bd:Bt (25*ps.length+6) d) (bt:Bt M t):Bt (M+92*ps.length) (t*d+aJ.sm ps.length (λi=>x.getD i 0*bV q (W (ps.getD i 0)))):=by
 have s:=Dq (f:=λi=>x.getD i 0*bV q (W (ps.getD i 0))) (b:=X*1000000) (n:=ps.length) λi hi=>by
  have m:ps.getD i 0∈ps:=by rw[YR,YQ hi];exact YZ hi
  have k:=wz (q:=q) λy hy=>((wk _ m).2 y hy).1
  have u:=(wk _ m).Jk
  rw[Zq]
  exact ZS (zx i hi) (by omega)
 have b1:=bt.mul bd
 unfold Bt at b1 ⊢
 have e1:(2:Nat)^ (M+ (25*ps.length+6))=2^ (M+ (25*ps.length+5))*2:=by rw[show M+ (25*ps.length+6)=M+ (25*ps.length+5)+1 by omega,Nat.pow_succ]
 have e2:(2:Nat)^ (M+92*ps.length)=2^ (M+ (25*ps.length+5))*2^ (67*ps.length - 5):=by rw[<-Zy];congr 1;omega
 have e3:(2:Nat)^30<=2^ (67*ps.length - 5):=ZC (by decide) (by omega)
 have P0:0<2^ (M+ (25*ps.length+5)):=Nat.pow_pos (by decide)
 rw[e2]
 rw[e1] at b1
 generalize (2:Nat)^ (M+ (25*ps.length+5))=P at *
 have m1:ps.length* (X*1000000)<=16* (P*1000000):=ZS Jx (ZW _ hX)
 have m2:P*2^30<=P*2^ (67*ps.length - 5):=Z3 _ e3
 omega
end Dg
theorem CA {M:List (List Int)} {b:Nat} (h:∀r∈M,∀x∈r,x.natAbs<=b):∀r∈aJ.tj M,∀x∈r,x.natAbs<=b:=by
 intro r hr x hx
 unfold aJ.tj at hr
 obtain⟨c,hc,rfl⟩:=List.mem_map.mp hr
 obtain⟨q,hq,rfl⟩:=List.mem_map.mp hx
 rw[YR]
 cases e:q[c]? with
 | none=>exact Y3 _
 | some y=>exact h q hq y (YU e)
theorem Dg.iN.K1 {ps:List Int} {W:Int->Dg.Wy} {L:List (List Int)} {C x:List Int} {d:Int} (R:Dg.iN ps W L) (so:∀i,i<ps.length->aJ.sm ps.length (λj=>aJ.cell (aJ.tj L) i j*x.getD j 0)=C.getD i 0*d) {i:Nat} (hi:i<ps.length):x.getD i 0*Dg.tt (W (ps.getD i 0))=C.getD i 0*d+aJ.sm ps.length (λj=>x.getD j 0*Dg.bV (ps.getD i 0) (W (ps.getD j 0))):=by
 have sq:aJ.Sq L ps.length:=⟨R.1,R.2.1⟩
 have e:aJ.sm ps.length (λj=>aJ.cell (aJ.tj L) i j*x.getD j 0)=aJ.sm ps.length (λj=>Dg.tt (W (ps.getD i 0))* (x.getD j 0* (if j=i then 1 else 0))+ (-1)* (x.getD j 0*Dg.bV (ps.getD i 0) (W (ps.getD j 0)))):=aJ.dI λj hj=>by
  rw[aJ.tu sq hi hj,show aJ.cell L j i=(L.getD j []).getD i 0 from rfl,R.2.2 j i hj hi,Y8]
  by_cases c:j=i
  ·subst c
   rw[if_pos rfl,if_pos rfl,Int.mul_sub,Int.mul_one,Y8 (x.getD j 0) (Dg.tt _)]
   omega
  ·rw[if_neg c,if_neg c,Int.mul_sub,Zs,Zs]
   omega
 have s:=so i hi
 rw[e,aJ.nK,aJ.fR,aJ.fR,aJ.qL,if_pos hi] at s
 rw[Y8 (x.getD i 0)]
 omega
noncomputable def ind (st:Nat) (q:Int):Rat:=if q=(st:Int) then 1 else 0
noncomputable def kf (n:Nat):List Int:=(List.range n).map fun(i:Nat)=>(i:Int)
theorem fU {b:List Pl} {x:Int}:x∈kf b.length↔Pr.In b x:=by
 constructor
 ·intro hx
  obtain⟨j,hj,rfl⟩:=List.mem_map.mp hx
  have:=List.mem_range.mp hj
  exact⟨by omega,by omega⟩
 ·intro hx
  obtain⟨j,rfl⟩:=Zd hx.1
  exact List.mem_map.mpr ⟨j,List.mem_range.mpr (by have:=hx.2;omega),rfl⟩
theorem vd (n:Nat):(kf n).Nodup:=List.pairwise_map.mpr (List.nodup_range.imp λh z=>h (by omega))
noncomputable def Ff (b:List Pl) (ks:List (Option Int)) (st:Nat) (v:Int->Rat):Prop:=∀q,Pr.In b q->v q=ind st q+Dg.bS (bw (dh b ks)) v q (kf b.length)
structure tO (b:List Pl) (ks:List (Option Int)) (st:Nat) (os:List Int) (S:Dg.Bk):Prop where
 sz:Dg.Sz b.length (330+92*os.length) S
 eq:∀q,Pr.In b q->Dg.val S q=ind st q+Dg.bS (bw (dh b ks)) (Dg.val S) q os
theorem tO.start {b:List Pl} {ks:List (Option Int)} {st:Nat} (h:st<b.length):tO b ks st [] ((List.replicate b.length (0:Int)).set st 1,1):=by
 refine⟨⟨by rw[Zh,ZN],by show(0:Int)<1;decide,by show Bt (330+92*0) (1:Int);exact Bt.mono (m:=1) (Bt.of 1 (by decide) (by decide)) (by decide),λq=>?_⟩,λq hq=>?_⟩
 ·show Bt _ (((List.replicate b.length (0:Int)).set st 1).getD q 0)
  refine Bt.mono (m:=1) ?_ (by show 1<=330+92*0;decide)
  rw[YR,List.getElem?_set,Z6]
  split
  ·split <;>exact Bt.of 1 (by decide) (by decide)
  ·split <;>exact Bt.of 1 (by decide) (by decide)
 ·show(((List.replicate b.length (0:Int)).set st 1).getD q.toNat 0:Rat) / ((1:Int):Rat)=ind st q+0
  have q0:=hq.1
  unfold ind
  by_cases e:q=(st:Int)
  ·rw[if_pos e,e,YY,Dg.c8 (by rw[ZN];exact h),Dg.UU]
   grind
  ·rw[if_neg e,Dg.cB (by omega),YR,Z6]
   have:((if q.toNat<b.length then some (0:Int) else none).getD 0)=0:=by split <;>rfl
   rw[this,Dg.Jr]
   grind
theorem tO.step {b:List Pl} {rk:Int->Nat} {ks:List (Option Int)} {ps os:List Int} {st i:Nat} {S S':Dg.Bk} {h:Int} (B:pL b rk) (T:Pr.Told b ps) (ko:kT b ks) (I:tO b ks st os S) (e:ps[i]?=some h) (ho:∀q∈os,Pr.In b q/\i<u7 b ps q)
  (sv:Dg.Jv (Pr.cE b h) (bw (dh b ks)) S S') (sz:Dg.Sz b.length (330+92*os.length+92* (Pr.cE b h).length) S'):tO b ks st (os++Pr.cE b h) S':=by
 have ih:=T.De (YU e)
 have yg:∀q∈Pr.cE b h,Pr.In b q:=λq hq=>Pr.dz B.jB.good ih hq
 have t0:∀p∈Pr.cE b h,0<Dg.tt (bw (dh b ks) p):=λp hp=>by have:=(B.wk ko (yg p hp)).1.tt;omega
 have ve:∀q,0<=q->Dg.val S' q=Dg.val S q+Dg.bS (bw (dh b ks)) (Dg.val S') q (Pr.cE b h):=λq q0=>sv.eq I.sz.pos t0 q0
 have same:∀p∈os,Dg.val S p=Dg.val S' p:=λp hp=>by
  obtain⟨i1,i2⟩:=ho p hp
  rw[ve p i1.1,Dg.gM λr hr=>.inr λx hx z=>?_]
  ·grind
  ·have a:=(B.wk ko (yg r hr)).2 x hx
   have c:=(qN B T (yg r hr) a).1
   rw[z,jU B T e hr] at c
   omega
 refine⟨?_,λq hq=>?_⟩
 ·rw[Zf,Nat.mul_add,<-Nat.add_assoc]
  exact sz
 ·rw[ve q hq.1,I.eq q hq,Dg.kc,Dg.nH (g':=Dg.val S') λp hp _=>same p hp]
  grind
noncomputable def As (C:Addr):Sp:=λvs H Q _=>∃(bk pt wl:Addr) (S:Dg.Bk) (ps:List Int) (n M:Nat) (xs:List V) (cL:List Dg.Wy) (lv:Int->Nat),vs=[.ref bk,.ref pt,.ref wl]/\q9 C H bk S/\H pt=some (.lst (ps.map V.int))/\H wl=some (.lst xs)/\bu H (cL.map xS) xs/\
 cL.length=n/\n<=16/\ps.Nodup/\0<ps.length/\ps.length<=16/\(∀p∈ps,0<=p/\p< (n:Int))/\(∀ws∈cL,Dg.rh n ws)/\(∀p∈ps,bw cL p=[]\/∃x∈bw cL p,lv x.2<lv p)/\
 Dg.Sz n M S/\20<=M/\M+92*ps.length<3900/\
 ∀x T H',az H H'->q9 C H' x T->Dg.Jv ps (bw cL) S T->Dg.Sz n (M+92*ps.length) T->Q (.ref x) H'
noncomputable def Au (tp:Addr):Sp:=λvs H Q _=>∃(a c:Addr) (st:Nat) (b:List Pl) (rk:Int->Nat) (ks:List (Option Int)),vs=[.ref a,.ref c,.int (st:Int)]/\Rep H (rY b) (.ref a)/\pL b rk/\H c=some (.lst (ks.map fc))/\kT b ks/\H tp=some (.pQ dsc)/\st<b.length/\
 ∀l (S:Dg.Bk) H',az H H'->H l=none->Rep H' (.lst ((S.1.map λt=>Wq.low t S.2).map cA)) (.ref l)->Dg.Sz b.length (330+92*b.length) S->Ff b ks st (Dg.val S)->Q (.ref l) H'
noncomputable def Dr (K:PySem.W.Frag):Sp:=λvs H Q _=>∃a ns k,vs=[.ref a,.int k]/\aZ K H a (List.map V.int ns)/\0<=k/\k<1000/\∀n,Q (.int n) H
noncomputable def eD:Sp:=λvs H Q _=>∃c m,vs=[.int c,.int m]/\0<m/\∀r,0<=r->r<m->Q (.int r) H
noncomputable def jt:Sp:=λvs H Q _=>∃a b,vs=[.int a,.int b]/\0<b/\Bt 8900 b/\∀p H',az H H'->H p=none->H' p=some (.tup (Pr (Nm.st a b) (Nm.sb a b)))->Q (.ref p) H'
noncomputable def Rm (a:Wq.Sh):Prop:=Bt 4000 a.1/\Bt 4000 a.2/\0<a.2
noncomputable def Av:Sp:=λvs H Q _=>∃p q a b,vs=[.ref p,.ref q]/\H p=some (.tup (Pr a.1 a.2))/\H q=some (.tup (Pr b.1 b.2))/\Rm a/\Rm b/\
 ∀r H',az H H'->H r=none->H' r=some (.tup (Pr (Wq.pl a b).1 (Wq.pl a b).2))->Q (.ref r) H'
noncomputable def Aw:Sp:=λvs H Q _=>∃p q a b,vs=[.ref p,.ref q]/\H p=some (.tup (Pr a.1 a.2))/\H q=some (.tup (Pr b.1 b.2))/\Rm a/\Rm b/\
 ∀r H',az H H'->H r=none->H' r=some (.tup (Pr (Wq.tm a b).1 (Wq.tm a b).2))->Q (.ref r) H'
noncomputable def Ax:Sp:=λvs H Q _=>∃c n,vs=[.int c,.int n]/\0<n/\n<=60/\∀l H' s,az H H'->H l=none->H' l=some (.lst (List.map eB s))->s.Perm (List.range n.toNat)->Q (.ref l) H'
noncomputable def Fg:Sp:=λvs H Q _=>∃p x y,vs=[.ref p]/\H p=some (.tup (Pr x y))/\0<y/\Bt 5000 y/\Nm.g x y=1/\∀H',az H H'->Q (.bl true) H'
noncomputable def wL:Sp:=λvs H Q _=>∃(a:Addr) (ws:List (Int×Int)),vs=[.ref a,.int (ws.length:Nat)]/\Rep H (.lst (ws.map cA)) (.ref a)/\ws.length<=60/\(∀p∈ws,0<p.2/\Bt 5000 p.2/\Nm.g p.1 p.2=1)/\∀H',az H H'->Q (.bl true) H'
noncomputable def xX (Z M:Int) (x:Wq.Sh):Prop:=Wq.Lw x/\x.2∣Z/\Wq.Vb M x
noncomputable def Ay (s:List Nat) (k:Nat) (q:Pl):Prop:=ye s.length q/\match q with
 | .fin _=>True
 | .eO _ ws=>∃x∈ws,∃j,j<k/\s[j]?=some x.2.toNat
 | .dR _ to=>∀g∈to,∃j,j<k/\s[j]?=some g.toNat
noncomputable def WT (H:Hp) (n:Int) (x:V):Prop:=∃q w t,x=.ref q/\H q=some (.tup [.int w,.int t])/\(1<=w/\w<=200000)/\0<=t/\t<n
theorem WT.mono {H H':Hp} {n:Int} {x:V} (s:az H H') (h:WT H n x):WT H' n x:=by
 obtain⟨q,w,t,e,hq,r⟩:=h
 exact⟨q,w,t,e,s _ _ hq,r⟩
theorem WT.put {H:Hp} {n:Int} {x:V} {p:Addr} {xs:List V} {o:HO} (hp:H p=some (.lst xs)) (h:WT H n x):WT (upd H p o) n x:=by
 obtain⟨q,w,t,e,hq,r⟩:=h
 refine⟨q,w,t,e,?_,r⟩
 rw[aE (λz=>by rw[z,hp] at hq;cases hq)]
 exact hq
theorem CB {α:Type} {H:Hp} {f:α->Dat} {P:Nat->α->Prop}:∀{xs:List V},(∀(i:Nat) x,xs[i]?=some x->∃a,Rep H (f a) x/\P i a)->∃as:List α,bu H (as.map f) xs/\as.length=xs.length/\∀(i:Nat) a,as[i]?=some a->P i a:=by
 intro xs h
 have hc:∀i:Nat,∃a:Option α,∀x,xs[i]?=some x->∃a',a=some a'/\Rep H (f a') x/\P i a':=λi=>by
  cases e:xs[i]? with
  | none=>exact⟨none,λx z=>by cases z⟩
  | some x=>
   obtain⟨a,h1,h2⟩:=h i x e
   exact⟨some a,λy z=>by cases z;exact⟨a,rfl,h1,h2⟩⟩
 have ⟨g,hg⟩:=Classical.axiomOfChoice hc
 have key:∀n,n<=xs.length->∃as:List α,as.length=n/\∀(i:Nat) a,as[i]?=some a->g i=some a:=by
  intro n
  induction n with
  | zero=>exact λ_=>⟨[],rfl,λi a e=>by simp at e⟩
  | succ n ih=>
   intro hn
   obtain⟨as,l,o⟩:=ih (by omega)
   obtain⟨a,ea,_⟩:=hg n _ (YQ (show n<xs.length by omega))
   refine⟨as++ [a],by simp [l],λi b e=>?_⟩
   by_cases c:i<as.length
   ·rw[Zw c] at e
    exact o i b e
   ·rw[Zv (by omega)] at e
    have:i - as.length<1:=(List.getElem?_eq_some_iff.mp e).1
    rw[show i - as.length=0 by omega] at e
    cases e
    rw[show i=n by omega]
    exact ea
 obtain⟨as,l,o⟩:=key xs.length (YS _)
 refine⟨as,eZ l.symm λi y ey a ea=>?_,l,λi a ea=>?_⟩
 ·obtain⟨a',e1,r,_⟩:=hg i y ey
  rw[o i a ea] at e1
  cases e1
  exact r
 ·have hi:=(List.getElem?_eq_some_iff.mp ea).1
  obtain⟨a',e1,_,p⟩:=hg i _ (YQ (show i<xs.length by omega))
  rw[o i a ea] at e1
  cases e1
  exact p
noncomputable def Az:Sp:=λvs H Q _=>∃c k,vs=[.int c,.int k]/\0<=k/\k<1000/\∀p H' a,az H H'->H p=none->H' p=some (.tup (Pr a.1 a.2))->GS a->Q (.ref p) H'
noncomputable def AA:Sp:=λvs H Q _=>∃c k n,vs=[.int c,.int k,.int n]/\0<k/\k<n/\∀l H' xs,az H H'->H' l=some (.lst xs)->(∀x∈xs,WT H' n x)->(∃x∈xs,WT H' k x)->0<xs.length->xs.length<=5->Q (.ref l) H'
noncomputable def Ds (K:PySem.W.Frag):Sp:=λvs H Q _=>∃(a:Addr) (ns:List Int) (n:Nat),vs=[.ref a,.int 2,.int (n:Int)]/\aZ K H a (List.map V.int ns)/\0<n/\n<=8/\∀l H' (b:List Pl) rk,az H H'->H l=none->Rep H' (rY b) (.ref l)->b.length=n->pL b rk->Q (.ref l) H'
noncomputable def AB:Sp:=λvs H Q _=>∃(a:Addr) (b:List Pl) (c:Int),vs=[.ref a,.int c]/\Rep H (rY b) (.ref a)/\b.length<=16/\(∀q∈b,ye b.length q)/\∀l H' ks,az H H'->H l=none->H' l=some (.lst (List.map fc ks))->kT b ks->Q (.ref l) H'
noncomputable def wM:Sp:=λvs H Q _=>∃a b,vs=[.ref a]/\Rep H (rY b) (.ref a)/\b.length<=16/\∀l H',az H H'->H l=none->Rep H' (rY b) (.ref l)->Q (.ref l) H'
noncomputable def AD:Sp:=λvs H Q _=>∃(a:Addr) (i:Nat) (b:List Pl) (q:Pl),vs=[.ref a,.int (i:Int)]/\Rep H (rY b) (.ref a)/\b[i]?=some q/\∀r H',az H H'->H' r=some (.tup (Pr (Wq.cv q).1 (Wq.cv q).2))->Q (.ref r) H'
noncomputable def vf (S:Dg.Bk):List Wq.Sh:=S.1.map λt=>Wq.low t S.2
noncomputable def wN (K:PySem.W.Frag) (tp:Addr):Sp:=λvs H Q _=>∃(a:Addr) (ns:List Int),vs=[.ref a]/\H tp=some (.pQ dsc)/\aZ K H a (ns.map V.int)/\ns.length<=63/\∀H',Q (.bl true) H'
theorem Hr {s:List Nat} {b:List Pl} (pm:s.Perm (List.range s.length)) (l0:0<s.length) (l8:s.length<=8) (lb:b.length=s.length) (ok:∀(k:Nat) p q,s[k]?=some p->b[p]?=some q->Ay s k q):pL b (λg=>s.idxOf g.toNat):=by
 have at_:∀{p:Nat},p<b.length->∃k,s[k]?=some p:=λhp=>Zk (pm.mem_iff.mpr (List.mem_range.mpr (by omega)))
 have F9:∀q∈b,ye b.length q:=λq hq=>by
  obtain⟨p,ep⟩:=Zk hq
  obtain⟨k,ek⟩:=at_ (List.getElem?_eq_some_iff.mp ep).1
  rw[lb]
  exact(ok k p q ek ep).1
 have jB:Dj b (λg=>s.idxOf g.toNat):=by
  refine⟨⟨λq hq g hg=>?_,λq hq w to e=>?_⟩,λi g ws e=>?_,λi w to e g hg=>?_⟩
  ·have:=F9 q hq
   cases q with
   | fin w=>simp [Lv.fX] at hg
   | eO w ws=>
    obtain⟨x,hx,rfl⟩:=List.mem_map.mp hg
    exact(this.2.2.2 x hx).2.2
   | dR w to=>exact this.2.2.2 g hg
  ·subst e
   have:=(F9 _ hq).2.1
   exact λz=>by rw[z] at this;cases this
  ·obtain⟨k,ek⟩:=at_ (List.getElem?_eq_some_iff.mp e).1
   obtain⟨x,hx,j,jk,ej⟩:=(ok k i _ ek e).2
   refine⟨x,hx,?_⟩
   show s.idxOf x.2.toNat<s.idxOf ((i:Int)).toNat
   rw[YY,Lv.qq pm ej,Lv.qq pm ek]
   exact jk
  ·obtain⟨k,ek⟩:=at_ (List.getElem?_eq_some_iff.mp e).1
   obtain⟨j,jk,ej⟩:=(ok k i _ ek e).2 g hg
   show s.idxOf g.toNat<s.idxOf ((i:Int)).toNat
   rw[YY,Lv.qq pm ej,Lv.qq pm ek]
   exact jk
 exact⟨by omega,by omega,F9,jB,λp hp=>Fb jB F9 (by omega) hp⟩
theorem xX.rm {Z M:Int} {x:Wq.Sh} (h:xX Z M x) (Z0:0<Z) (bZ:Bt 1950 Z) (M0:0<=M) (bM:Bt 1950 M):Rm x:=by
 obtain⟨lx,d,v⟩:=h
 have l0:=lx.1
 have b2:Bt 1950 x.2:=bZ.le (by have:=ZO Z0 d;omega)
 have b1:Bt 3900 (M*x.2):=bM.mul b2
 exact⟨Bt.mono (b1.le (by obtain⟨v1,v2⟩:=v;omega)) (by decide),b2.mono (by decide),l0⟩
theorem AE {ss:List Wq.Sh} {q:Int} (h0:0<=q) (h:q< (ss.length:Int)):ss[q.toNat]?=some (Wq.B9 ss q):=by
 unfold Wq.B9
 rw[YR,YQ (show q.toNat<ss.length by omega)]
 rfl
theorem Hs {g:Int×Int} (gw:GS g):Wq.Vb (2^40) g:=by
 have h1:=gw.1
 have h2:=gw.2.2.1
 unfold Bt at h1
 have:(2:Int)^40*1<=2^40*g.2:=Int.mul_le_mul_of_nonneg_left (by omega) (by decide)
 unfold Wq.Vb
 omega
theorem vg {S:Dg.Bk} {n M:Nat} (Z:Dg.Sz n M S):∀x∈vf S,xX S.2 (2^M) x:=by
 intro x hx
 obtain⟨t,ht,rfl⟩:=List.mem_map.mp hx
 obtain⟨j,hj,rfl⟩:=Zo ht
 have bt:=Z.bt j
 rw[YR,YQ hj,Option.getD_some] at bt
 have S0:=Z.pos
 obtain⟨d,e⟩:=Wq.uP (a:=S.1[j]) (s:=S.1[j]) S0 S0 rfl
 have lw:=Wq.mZ (a:=S.1[j]) S0
 refine⟨lw,d,(Wq.m4 lw.1 S0 d).mpr ?_⟩
 rw[e]
 unfold Bt at bt
 have p:(2:Int)^M=((2^M:Nat):Int):=by rw[Int.natCast_pow];rfl
 have m:((2^M:Nat):Int)*1<=((2^M:Nat):Int)*S.2:=Int.mul_le_mul_of_nonneg_left (by omega) (by omega)
 rw[p]
 generalize ((2:Nat)^M)=N at *
 omega
theorem xX.add {Z M N:Int} {x y:Wq.Sh} (hx:xX Z N x) (hy:xX Z M y) (Z0:0<Z):xX Z (N+M) (Wq.pl x y):=by
 obtain⟨p1,p2,p3⟩:=Wq.Hg hx.1.1 hy.1.1 Z0 hx.2.1 hy.2.1
 refine⟨p1,p2,(Wq.m4 p1.1 Z0 p2).mpr ?_⟩
 have a1:=(Wq.m4 hx.1.1 Z0 hx.2.1).mp hx.2.2
 have a2:=(Wq.m4 hy.1.1 Z0 hy.2.1).mp hy.2.2
 rw[p3,Int.add_mul]
 omega
theorem lsum_snoc (f:Int->Rat) (q:Int):∀qs,Dg.lsum f (qs++ [q])=Dg.lsum f qs+f q
 | []=>by show f q+0=0+f q;grind
 | p::qs=>by
  show f p+Dg.lsum f (qs++ [q])=f p+Dg.lsum f qs+f q
  rw[lsum_snoc f q qs]
  grind
theorem AF {n i:Nat} (h:i<n):(kf n).take (i+1)=(kf n).take i++ [(i:Int)]:=by
 unfold kf
 rw[Ze,YT,Zz h]
 rfl
theorem jX {c:Rat} {y:Int} {w:Int->Rat}:∀{qs:List Int},qs.Nodup->y∈qs->Dg.lsum (λq=>(if y=q then c else 0)*w q) qs=c*w y
 | [],_,h=>by simp at h
 | q::qs,nd,h=>by
  show(if y=q then c else 0)*w q+Dg.lsum (λq=>(if y=q then c else 0)*w q) qs=c*w y
  by_cases e:y=q
  ·subst e
   have z:Dg.lsum (λq=>(if y=q then c else 0)*w q) qs=Dg.lsum (λ_=>0) qs:=Dg.fS λq hq=>by
    rw[if_neg (λz=>(List.nodup_cons.mp nd).1 (by rw[z];exact hq))]
    grind
   rw[if_pos rfl,z,Dg.fi]
   grind
  ·rw[if_neg e,jX (List.nodup_cons.mp nd).2 (by rcases List.mem_cons.mp h with h | h;exact absurd h e;exact h)]
   grind
theorem tP {d:Int} {w:Int->Rat} {ps:List Int} (nd:ps.Nodup):∀{ws:Dg.Wy},(∀x∈ws,x.2∈ps)->Dg.lsum (λq=>Dg.pr d q ws*w q) ps=Dg.kQ d w ws
 | [],_=>by
  have e:(λq=>Dg.pr d q []*w q)=λ_=>(0:Rat):=funext λq=>by show 0*w q=0;grind
  rw[e,Dg.fi]
  rfl
 | x::ws,h=>by
  have e:(λq=>Dg.pr d q (x::ws)*w q)=λq=>(if x.2=q then (x.1:Rat) / (d:Rat) else 0)*w q+Dg.pr d q ws*w q:=funext λq=>by
   show((if x.2=q then (x.1:Rat) / (d:Rat) else 0)+Dg.pr d q ws)*w q=_
   grind
  rw[e,Dg.dJ,jX nd (h x YV),tP nd λy hy=>h y (YW _ hy)]
  rfl
theorem wO {W:Int->Dg.Wy} {v w:Int->Rat} {qs:List Int} (nd:qs.Nodup):∀{ps:List Int},(∀p∈ps,∀x∈W p,x.2∈qs)->Dg.lsum (λq=>Dg.bS W v q ps*w q) qs=Dg.lsum (λp=>v p*Dg.kQ (Dg.tt (W p)) w (W p)) ps
 | [],_=>by
  have e:(λq=>Dg.bS W v q []*w q)=λ_=>(0:Rat):=funext λq=>by show 0*w q=0;grind
  rw[e,Dg.fi]
  rfl
 | p::ps,h=>by
  have e:(λq=>Dg.bS W v q (p::ps)*w q)=λq=>v p* (Dg.pr (Dg.tt (W p)) q (W p)*w q)+Dg.bS W v q ps*w q:=funext λq=>by
   show(v p*Dg.pr (Dg.tt (W p)) q (W p)+Dg.bS W v q ps)*w q=_
   grind
  rw[e,Dg.dJ,Dg.js,tP nd (h p YV),wO nd λr hr=>h r (YW _ hr)]
  rfl
theorem K2 {b:List Pl} {rk:Int->Nat} {ks:List (Option Int)} {st:Nat} {v w:Int->Rat} (B:pL b rk) (ko:kT b ks) (hst:st<b.length) (hv:Ff b ks st v) (hw:∀p:Nat,p<b.length->EqAt b ks p w):Dg.lsum (λp=>v p*Dg.vl (Wq.cv (b.getD p.toNat (.fin (0,1))))) (kf b.length)=w (st:Int):=by
 have we:∀p∈kf b.length,w p=Dg.vl (Wq.cv (b.getD p.toNat (.fin (0,1))))+Dg.kQ (Dg.tt (bw (dh b ks) p)) w (bw (dh b ks) p):=λp hp=>by
  have ip:=fU.mp hp
  obtain⟨j,rfl⟩:=Zd ip.1
  have hj:j<b.length:=by have:=ip.2;omega
  obtain⟨q,k,e1,ek,po,ew⟩:=ko.at hj
  rw[ew,hw j hj q k e1 ek,YY,YR,e1]
  rfl
 have a:Dg.lsum (λp=>v p*w p) (kf b.length)=Dg.lsum (λp=>v p*Dg.vl (Wq.cv (b.getD p.toNat (.fin (0,1))))) (kf b.length)+Dg.lsum (λp=>v p*Dg.kQ (Dg.tt (bw (dh b ks) p)) w (bw (dh b ks) p)) (kf b.length):=by
  rw[<-Dg.dJ]
  refine Dg.fS λp hp=>?_
  rw[we p hp]
  grind
 have c:Dg.lsum (λp=>v p*w p) (kf b.length)=w (st:Int)+Dg.lsum (λq=>Dg.bS (bw (dh b ks)) v q (kf b.length)*w q) (kf b.length):=by
  have i:=jX (c:=1) (y:=(st:Int)) (w:=w) (vd b.length) (fU.mpr ⟨by omega,by omega⟩)
  have e:Dg.lsum (λp=>v p*w p) (kf b.length)=Dg.lsum (λq=>(if (st:Int)=q then 1 else 0)*w q+Dg.bS (bw (dh b ks)) v q (kf b.length)*w q) (kf b.length):=Dg.fS λp hp=>by
   rw[hv p (fU.mp hp)]
   unfold ind
   by_cases z:p=(st:Int)
   ·rw[if_pos z,if_pos z.symm];grind
   ·rw[if_neg z,if_neg (Ne.symm z)];grind
  rw[e,Dg.dJ,i]
  grind
 rw[wO (vd _) λp hp x hx=>by have:=(B.wk ko (fU.mp hp)).1.2 x hx;exact fU.mpr ⟨this.2.2.1,this.2.2.2⟩] at c
 grind
theorem xX.mul {Z Z' M M':Int} {x y:Wq.Sh} (hx:xX Z M x) (hy:xX Z' M' y) (Z0:0<Z) (Su:0<Z'):xX (Z*Z') (M*M') (Wq.tm x y):=by
 have L0:0<Z*Z':=Zm Z0 Su
 have b0:0<x.2*y.2:=Zm hx.1.1 hy.1.1
 obtain⟨d,e⟩:=Wq.uP (a:=x.1*y.1) (b:=x.2*y.2) (L:=Z*Z') (s:=Wq.sc Z x*Wq.sc Z' y) b0 L0 (by
  have e1:=Wq.iK hx.2.1
  have e2:=Wq.iK hy.2.1
  calc x.1*y.1* (Z*Z')=(x.1*Z)* (y.1*Z'):=by grind
   _=(Wq.sc Z x*x.2)* (Wq.sc Z' y*y.2):=by rw[e1,e2]
   _=Wq.sc Z x*Wq.sc Z' y* (x.2*y.2):=by grind)
 have lw:=Wq.mZ (a:=x.1*y.1) b0
 refine⟨lw,d,(Wq.m4 lw.1 L0 d).mpr ?_⟩
 have a1:=(Wq.m4 hx.1.1 Z0 hx.2.1).mp hx.2.2
 have a2:=(Wq.m4 hy.1.1 Su hy.2.1).mp hy.2.2
 rw[e]
 have n1:(Wq.sc Z x).natAbs<=(M*Z).natAbs:=by omega
 have n2:(Wq.sc Z' y).natAbs<=(M'*Z').natAbs:=by omega
 have p1:0<=M*Z:=by omega
 have p2:0<=M'*Z':=by omega
 have n3:=ZS n1 n2
 rw[<-Zq,<-Zq] at n3
 have p3:0<=M*Z* (M'*Z'):=Int.mul_nonneg p1 p2
 have e3:M*M'* (Z*Z')=M*Z* (M'*Z'):=by grind
 rw[e3]
 omega
section
variable {P : Program} {w : World} {K : PySem.W.Frag} {mg : Str -> Option Value} {base : Heap}
variable {aA tc tp : Addr}
theorem AG {H:Hp} {ws:List (Int×Int)} {xs:List V} (rl:bu H (ws.map cA) xs) {i:Nat} {x:V} (ex:xs[i]?=some x):∃p t,ws[i]?=some p/\x=.ref t/\H t=some (.tup [.int p.1,.int p.2]):=by
 obtain⟨d,ed,rd⟩:=rl.get ex
 rw[YT] at ed
 obtain⟨p,ep,rfl⟩:=Option.map_eq_some_iff.mp ed
 obtain⟨t,rfl,ht⟩:=cM.mp rd
 exact⟨p,t,ep,rfl,ht⟩
theorem tQ:aM ["place"] ["place"] (ae (top 1)):=⟨rfl,rfl,rfl,by decide +kernel,rfl,by decide +kernel,by decide +kernel⟩
theorem AH (T:Txt K mg aA tc):bK P w K mg base (bE P w) 1 "goals" ["place"] sT:=by
 refine T.Cb.dW (λ_ _ _ _ _ _=>ir λ_=>rfl) λf fd F=>F.dZ tQ (λvs H Q E h=>?_) (λcw A outer s H vs Q E hr h=>?_)
 ·obtain⟨_,_,rfl,_⟩:=h;rfl
 ·refine(?_:let G_:Prop:=_;G_)
  intro G_
  obtain⟨v,q,rfl,rq,lq,kk⟩:=h
  dsimp only[G_]
  have nd:=tQ.nd
  refine⟨_,(af (bN (aU dq (aL aP (pv 0) ao (λ_ _=>rfl)) dc (bf _)) (au (aN (bP rfl (N:=["place"]) (so:=ae (top 1)) (N':=["weight","to"]) (k:=2) (fr:=[]) rfl rfl ⟨rfl,by decide +kernel,by decide +kernel,by decide +kernel,rfl,by decide +kernel,by decide +kernel⟩ (bo (K:=K) (aL aP (pv 0) ao (λ_ _=>rfl))) (λ_ _ _ _ _=>(cf (K:=K) (n:=2) rfl (aT (aG (i:=0) (show(["weight","to"]:List Str).Nodup by decide +kernel) rfl (Or.inl rfl)) (aT (aG (i:=1) (show(["weight","to"]:List Str).Nodup by decide +kernel) rfl (Or.inl rfl)) b9)))) (λ_ _ _ _ _=>bH)
   (λ_ _ _ _ _=>(pv 1)))))
   bq)
  (af (bN (aU dq (aL aP (pv 0) ao (λ_ _=>rfl)) dc (bf _)) (au (aN (dY (cH (K:=K)) (by rfl) T.z_list rfl (aa (aL aP (pv 0) ao (λ_ _=>rfl)) ag (se rfl)) (he:=se rfl) (hpl:=na rfl))))
   bq)
  (au (aN (c5 ag))))),?_⟩
  refine(?_:let cm:TS:=_;let cn:TS:=_;let cq:TS:=_;tSeq cm (tSeq cn cq) _ _ _)
  intro cm cn cq
  cases q with
  | fin w=>
   refine(?_:let G_:Prop:=_;G_)
   intro G_
   obtain⟨p,r,rfl,hp,_⟩:=de.mp rq
   dsimp only[G_]
   simp_all only[hp]
   rw[if_neg (by decide +kernel),if_neg (by decide +kernel)]
   exact⟨Y3 _,λl nl=>kk _ _ (ax nl) nl ar⟩
  | eO w ws=>
   refine(?_:let G_:Prop:=_;G_)
   intro G_
   obtain⟨p,r,l,xs,rfl,hp,_,hl,rl⟩:=cY.mp rq
   dsimp only[G_]
   simp_all only[hp]
   refine⟨⟨_,aZ.of hl⟩,?_⟩
   have lx:=rl.length
   rw[YO] at lx
   have S:Src (vB K l) (az H) ws.length (λi x H H3=>H3=H/\xs[i]?=some x):=by rw[lx];exact src_list (λH' s'=>aZ.of (s' _ _ hl))
   refine iJ ws (λp=>some p.2) S (λ_ _ _ _ h=>h.1) (by rw[sizeLine_eq];have:ws.length<=100:=(by simpa [Lv.fX] using lq);omega) ?_ ?_
   ·rintro i p x ep ⟨_,ex⟩
    refine(?_:let G_:Prop:=_;G_)
    intro G_
    obtain⟨p',t,Bl,rfl,ht⟩:=AG rl ex
    dsimp only[G_]
    rw[ep] at Bl
    cases Bl
    refine⟨t,_,_,rfl,eA.of ht,λY N y1 _=>?_⟩
    simp_all only[gm]
    exact y1 _ rfl
   ·intro D n1 n2
    rw[dX]
    exact kk _ _ (ax n2) n2 ar
  | dR w to=>
   refine(?_:let G_:Prop:=_;G_)
   intro G_
   obtain⟨p,l,rfl,hp,hl⟩:=cZ.mp rq
   dsimp only[G_]
   simp_all only[hp]
   rw[if_neg (by decide +kernel)]
   exact⟨_,.inl (aZ.of hl),λm nm=>kk _ _ (ax nm) nm ar⟩
theorem CC {fs:Lv.Fs} {q:Pl}:Lv.C6 fs q=match q with | .eO _ _=>(Lv.fX q).any (λg=>(Lv.lk fs g).isSome) | _=>(Lv.fX q).all λg=>(Lv.lk fs g).isSome:=by
 cases q <;>rfl
theorem kh:aM ["place","found","levelled"] ["place","found"] (ae (top 2)):=⟨rfl,rfl,rfl,by decide +kernel,rfl,by decide +kernel,by decide +kernel⟩
theorem Fh (T:Txt K mg aA tc):bK P w K mg base (bE P w) 2 "is_ready" ["place","found"] zv:=by
 have qP:bK P w K mg base (bE P w) 1 "goals" ["place"] sT:=AH T
 refine T.uQ.dW (λ_ _ _ _ _ _=>dH λ_ _=>rfl) λf fd F=>F.dZ kh (λvs H Q E h=>?_) (λcw A outer s H vs Q E hr h=>?_)
 ·obtain⟨_,_,_,_,rfl,_⟩:=h;rfl
 ·refine(?_:let G_:Prop:=_;G_)
  intro G_
  obtain⟨v,q,ff,fs,rfl,rq,hf,lq,gq,kk⟩:=h
  dsimp only[G_]
  have nd:=kh.nd
  refine⟨_,(af (fL (i:=2) rfl nd rfl rfl (N:=["place","found","levelled"]) (so:=ae (top 2)) (N':=["to","found"]) (k:=1) (fr:=[1]) rfl rfl ⟨rfl,by decide +kernel,by decide +kernel,by decide +kernel,rfl,by decide +kernel,by decide +kernel⟩ (bo (K:=K) (aH qP (hr.mono (by decide)) rfl aB.pass (aa (pv 0) ag (se rfl)) (he:=se rfl) (hpl:=na rfl))) (λ_ _ _ _ _=>(aG (i:=0) (show(["to","found"]:List Str).Nodup by decide +kernel) rfl (Or.inl rfl))) (λ_ _ _ _ _=>bH)
   (λ_ _ _ _ _=>(pT Bu (aL aO (pv 1) (pv 0) (λ_ _=>rfl)) eJ (bf _))))
  (af (bN (aU dq (aL aP (pv 0) ao (λ_ _=>rfl)) dc (bf _)) (au (aN (aR (rX (K:=K)) (by rfl) T.z_any rfl (aa (pv 2) ag (se rfl)) (he:=se rfl) (hpl:=na rfl))))
   bq)
  (au (aN (aR (j6 (K:=K)) (by rfl) T.z_all rfl (aa (pv 2) ag (se rfl)) (he:=se rfl) (hpl:=na rfl)))))),?_⟩
  refine(?_:let cm:TS:=_;let cn:TS:=_;let cq:TS:=_;tSeq cm (tSeq cn cq) _ _ _)
  intro cm cn cq
  refine(?_:let G_:Prop:=_;G_)
  intro G_
  obtain⟨p,k,r,rfl,hp⟩:=EC rq
  dsimp only[G_]
  simp_all only[sT]
  refine⟨q,rq,lq,λl H1 s1 nl hl=>⟨⟨_,aZ.of hl⟩,?_⟩⟩
  have K3:=s1 _ _ hf
  have Yn:=s1 _ _ hp
  have S:Src (vB K l) (az H1) (Lv.fX q).length (λi x H H3=>H3=H/\(List.map V.int (Lv.fX q))[i]?=some x):=by
   have:=src_list (K:=K) (a:=l) (xs:=List.map V.int (Lv.fX q)) (Ok:=az H1) (λH' s'=>aZ.of (s' _ _ hl))
   rw[YO] at this
   exact this
  refine pd (Lv.fX q) (λg=>some (.bl (Lv.lk fs g).isSome)) S (λ_ _ _ _ h=>h.1) (by rw[sizeLine_eq];omega) ?_ ?_
  ·rintro i g x eg ⟨_,ex⟩ Y N y1 _
   rw[YT,eg] at ex
   cases ex
   have:=gq g (YU eg)
   simp_all only[gm,K3,Dd this.1 this.2]
   have:=y1 _ rfl
   rw[show(!decide (fc (Lv.lk fs g)=V.cu))=(Lv.lk fs g).isSome from by cases Lv.lk fs g <;>simp [fc]]
   exact this
  ·intro D n1 n2
   rw[dX]
   have U3:List.map (λg=>V.bl (Lv.lk fs g).isSome) (Lv.fX q)=List.map V.bl ((Lv.fX q).map λg=>(Lv.lk fs g).isSome):=by rw[Zu];rfl
   rw[U3]
   have sD:=ax (o:=.lst (List.map V.bl ((Lv.fX q).map λg=>(Lv.lk fs g).isSome))) n2
   have fin:=kk _ (s1.trans sD)
   rw[CC] at fin
   cases q with
   | fin w=>
    refine(?_:let G_:Prop:=_;G_)
    intro G_
    obtain⟨p',r',e,B8,_⟩:=de.mp rq
    dsimp only[G_]
    cases e
    have qY:=sD _ _ (s1 _ _ B8)
    simp only[qY,at0]
    refine⟨_,rfl,_,rfl,rfl,?_⟩
    rw[if_neg (by decide +kernel)]
    refine⟨_,aZ.of ar,?_⟩
    rw[List.all_map]
    exact fin
   | eO w ws=>
    refine(?_:let G_:Prop:=_;G_)
    intro G_
    obtain⟨p',r',l',xs,e,B8,_⟩:=cY.mp rq
    dsimp only[G_]
    cases e
    have qY:=sD _ _ (s1 _ _ B8)
    simp only[qY,at0]
    refine⟨_,rfl,_,rfl,rfl,?_⟩
    rw[if_pos (by decide +kernel)]
    refine⟨_,aZ.of ar,?_⟩
    rw[List.any_map]
    exact fin
   | dR w to=>
    refine(?_:let G_:Prop:=_;G_)
    intro G_
    obtain⟨p',l',e,B8,_⟩:=cZ.mp rq
    dsimp only[G_]
    cases e
    have qY:=sD _ _ (s1 _ _ B8)
    simp only[qY,at0]
    refine⟨_,rfl,_,rfl,rfl,?_⟩
    rw[if_neg (by decide +kernel)]
    refine⟨_,aZ.of ar,?_⟩
    rw[List.all_map]
    exact fin
theorem fZ:aM ["board","found"] ["board","found"] (ae (top 3)):=⟨rfl,rfl,rfl,by decide +kernel,rfl,by decide +kernel,by decide +kernel⟩
theorem Fi (T:Txt K mg aA tc):bK P w K mg base (bE P w) 3 "ready_places" ["board","found"] vZ:=by
 have vh:bK P w K mg base (bE P w) 2 "is_ready" ["place","found"] zv:=Fh T
 refine T.m6.dW (λ_ _ _ _ _ _=>dH λ_ _=>rfl) λf fd F=>F.dZ fZ (λvs H Q E h=>?_) (λcw A outer s H vs Q E hr h=>?_)
 ·obtain⟨_,_,_,_,rfl,_⟩:=h;rfl
 ·refine(?_:let G_:Prop:=_;G_)
  intro G_
  obtain⟨a,b,ff,fs,rfl,rb,hf,lf,lb,gl,gb,kk⟩:=h
  dsimp only[G_]
  have nd:=fZ.nd
  refine⟨_,(au (aN (bP rfl (N:=["board","found"]) (so:=ae (top 3)) (N':=["number","place","found"]) (k:=2) (fr:=[1]) rfl rfl ⟨rfl,by decide +kernel,by decide +kernel,by decide +kernel,rfl,by decide +kernel,by decide +kernel⟩ (cG (K:=K) rfl T.z_enumerate (aa (pv 0) ag (se rfl))) (λ_ _ _ _ _=>(cf (K:=K) (n:=2) rfl (aT (aG (i:=0) (show(["number","place","found"]:List Str).Nodup by decide +kernel) rfl (Or.inl rfl)) (aT (aG (i:=1) (show(["number","place","found"]:List Str).Nodup by decide +kernel) rfl (Or.inl rfl)) b9)))) (λ_ _ _ _ _=>(qd (PW.pt (pw_and (aU um (aL aO (pv 2) (pv 0) (λ_ _=>rfl)) eJ (bf _)) (pw_and1 (gz (aH vh (hr.mono (by decide)) rfl aB.pass (aa (pv 1) (aa (pv 2) ag (se rfl)) (se rfl)) (he:=se rfl) (hpl:=na rfl))))))))
   (λ_ _ _ _ _=>(pv 0))))),?_⟩
  refine(?_:let G_:Prop:=_;G_)
  intro G_
  obtain⟨_,xs,e,ha,rl⟩:=bp.mp rb
  dsimp only[G_]
  cases e
  have lx:=rl.length
  rw[YO] at lx
  simp_all only[]
  refine⟨⟨_,aZ.of ha⟩,?_⟩
  have S:Src (G4 K a) (az H) (List.range b.length).length (λi v H H3=>∃p x,H p=none/\v=.ref p/\xs[i]?=some x/\H3=upd H p (.tup [.int i,x])):=by rw[Y9,lx];exact eX (λH' s'=>aZ.of (s' _ _ ha))
  refine pe (K:=K) (List.range b.length) (λi=>if Lv.fY b fs i=true then some (eB i) else none) S (λi u v _=>u=.int i/\xs[i]?=some v) ?_ (by rw[Y9,sizeLine_eq];omega) ?_ ?_
  ·intro i x H1 H2 hi s1 dm
   refine(?_:let G_:Prop:=_;G_)
   intro G_
   obtain⟨p,v,np,rfl,ev,rfl⟩:=dm
   dsimp only[G_]
   exact⟨ax np,p,_,_,rfl,eA.of ar,rfl,ev⟩
  ·rintro i j u v H3 ej s3 ⟨rfl,ev⟩ Y N y1 n1
   have:j=i:=by
    obtain⟨h1,h2⟩:=List.getElem?_eq_some_iff.mp ej
    rw[List.getElem_range] at h2
    exact h2.symm
   subst this
   refine(?_:let G_:Prop:=_;G_)
   intro G_
   obtain⟨q,eq,rq⟩:=d8 rl ev
   dsimp only[G_]
   have hj:j<b.length:=(List.getElem?_eq_some_iff.mp eq).1
   have Bb:=s3 _ _ hf
   have hq:=YU eq
   simp_all only[Bb,Dd (show(0:Int)<=(j:Int) by omega) (show(j:Int)< (fs.length:Nat) by omega),zv]
   have er:Lv.fY b fs j=((Lv.lk fs (j:Int)).isNone && Lv.C6 fs q):=by
    unfold Lv.fY Lv.lk
    rw[eq,YY]
   by_cases c:Lv.lk fs (j:Int)=none
   ·rw[if_pos (nh.mpr c)]
    refine⟨q,rq.mono s3,fs,rfl,gl q hq,λg hg=>?_,λH4 s4=>?_⟩
    ·rw[lf];exact gb.qW q hq g hg
    ·by_cases c2:Lv.C6 fs q=true
     ·rw[if_pos c2]
      exact y1 _ _ (by rw[if_pos (by rw[er,c,c2];rfl)];rfl) s4
     ·rw[if_neg c2]
      exact n1 _ (by rw[if_neg (by rw[er];simp [c2])]) s4
   ·rw[if_neg (λz=>c (nh.mp z))]
    have nr:¬Lv.fY b fs j=true:=by
     rw[er]
     cases h:Lv.lk fs (j:Int) with
     | none=>exact absurd h c
     | some u=>simp
    exact n1 _ (if_neg nr) (az.refl _)
  ·intro H2 s2 D n1 n2
   have e:List.filterMap (λi=>if Lv.fY b fs i=true then some (eB i) else none) (List.range b.length)=List.map eB (Lv.fresh b fs):=hJ eB (Lv.fY b fs) _
   rw[e]
   exact kk _ _ (s2.trans (ax n2)) (none_of s2 n2) ar
theorem pN:aM ["board","found","level","fresh","number"] ["board"] (ae (top 4)):=⟨rfl,rfl,rfl,by decide +kernel,rfl,by decide +kernel,by decide +kernel⟩
theorem Fj (T:Txt K mg aA tc):bK P w K mg base (bE P w) 4 "levels" ["board"] zw:=by
 have gN:bK P w K mg base (bE P w) 3 "ready_places" ["board","found"] vZ:=Fi T
 refine T.zt.dW (λ_ _ _ _ _ _=>ir λ_=>rfl) λf fd F=>F.dZ pN (λvs H Q E h=>?_) (λcw A outer s H vs Q E hr h=>?_)
 ·obtain⟨_,_,rfl,_⟩:=h;rfl
 ·refine(?_:let G_:Prop:=_;G_)
  intro G_
  obtain⟨a,b,rfl,rb,lb,gl,gb,kk⟩:=h
  dsimp only[G_]
  have nd:=pN.nd
  refine⟨_,(af (fL (i:=1) rfl nd rfl rfl (N:=["board","found","level","fresh","number"]) (so:=ae (top 4)) (N':=["place"]) (k:=1) (fr:=[]) rfl rfl ⟨rfl,by decide +kernel,by decide +kernel,by decide +kernel,rfl,by decide +kernel,by decide +kernel⟩ (bo (K:=K) (pv 0)) (λ_ _ _ _ _=>(aG (i:=0) (show(["place"]:List Str).Nodup by decide +kernel) rfl (Or.inl rfl))) (λ_ _ _ _ _=>bH)
   (λ_ _ _ _ _=>(i4 (aU dq (aL aP (pv 0) ao (λ_ _=>rfl)) dc (bf _)) ao eJ)))
  (af (aF (i:=2) nd rfl (Or.inl rfl) ao)
  (af (aF (i:=3) nd rfl (Or.inl rfl) (aH gN (hr.mono (by decide)) rfl aB.pass (aa (pv 0) (aa (pv 1) ag (se rfl)) (se rfl)) (he:=se rfl) (hpl:=na rfl)))
  (af (i5 PassesOwn.never (aU i6 (aR bz (by rfl) T.z_len Za (aa (pv 3) ag (se rfl)) (he:=se rfl) (hpl:=na rfl)) ao (bf _)) (af (bO PassesOwn.never rfl (bo (K:=K) (pv 3)) (aG (i:=4) nd rfl (Or.inl rfl)) (au (eL (pv 2) (eK (pv 1) (pv 4) set_list))))
  (af (aF (i:=2) nd rfl (Or.inl rfl) (aD ba (pv 2) ao))
  (au (aF (i:=3) nd rfl (Or.inl rfl) (aH gN (hr.mono (by decide)) rfl aB.pass (aa (pv 0) (aa (pv 1) ag (se rfl)) (se rfl)) (he:=se rfl) (hpl:=na rfl)))))))
  (au (aN (pv 1))))))),?_⟩
  refine(?_:let cm:TS:=_;let cn:TS:=_;let cq:TS:=_;let di:TS:=_;let gO:TS:=_;tSeq cm (tSeq cn (tSeq cq (tSeq di gO))) _ _ _)
  intro cm cn cq di gO
  refine(?_:let G_:Prop:=_;G_)
  intro G_
  obtain⟨_,xs,e,ha,rl⟩:=bp.mp rb
  dsimp only[G_]
  cases e
  have lx:=rl.length
  rw[YO] at lx
  simp_all only[vZ]
  refine⟨⟨_,aZ.of ha⟩,?_⟩
  have S:Src (vB K a) (az H) b.length (λi x H H3=>H3=H/\xs[i]?=some x):=by rw[lx];exact src_list (λH' s'=>aZ.of (s' _ _ ha))
  refine pd b (λq=>some (fc (Lv.G6 q))) S (λ_ _ _ _ h=>h.1) (by rw[sizeLine_eq];omega) ?_ ?_
  ·rintro i q x eq ⟨_,ex⟩ Y N y1 _
   refine(?_:let G_:Prop:=_;G_)
   intro G_
   obtain⟨q',Sv,rq⟩:=d8 rl ex
   dsimp only[G_]
   rw[eq] at Sv
   cases Sv
   have:=y1 _ rfl
   cases q with
   | fin w=>
    refine(?_:let G_:Prop:=_;G_)
    intro G_
    obtain⟨p,r,rfl,hp,_⟩:=de.mp rq
    dsimp only[G_]
    simp_all only[gm,hp]
    exact this
   | eO w ws=>
    refine(?_:let G_:Prop:=_;G_)
    intro G_
    obtain⟨p,r,l',ys,rfl,hp,_⟩:=cY.mp rq
    dsimp only[G_]
    simp_all only[gm,hp]
    rw[if_neg (by decide +kernel)]
    exact this
   | dR w to=>
    refine(?_:let G_:Prop:=_;G_)
    intro G_
    obtain⟨p,l',rfl,hp,_⟩:=cZ.mp rq
    dsimp only[G_]
    simp_all only[gm,hp]
    rw[if_neg (by decide +kernel)]
    exact this
  ·intro ff n1 n2
   rw[dX,show List.map (λq=>fc (Lv.G6 q)) b=List.map fc (Lv.og b) from by unfold Lv.og;rw[Zu];rfl]
   have sD:=ax (o:=.lst (List.map fc (Lv.og b))) n2
   refine⟨b,rb.mono sD,Lv.og b,ar,by simp [Lv.og],lb,gl,gb,λfr H1 s1 nf GU=>?_⟩
   have U4:H1 ff=some (.lst (List.map fc (Lv.og b))):=s1 _ _ ar
   have sH:=sD.trans s1
   refine rZ (UR H b a ff) (m:=b.length) ⟨_,_,_,_,rfl,U4,GU,(λz=>by rw[z,ar] at nf;cases nf),sH,by simp [Lv.og],by have:=Lv.mT (Lv.og b);simpa [Lv.og] using this,rfl⟩ ?_ ?_
   ·intro m σ H2 K4
    refine(?_:let G_:Prop:=_;G_)
    intro G_
    obtain⟨fs,L,fr,z,rfl,hf,xY,ne,s2,lf,nm,er⟩:=K4
    dsimp only[G_]
    simp_all only[]
    refine⟨_,xY,?_⟩
    by_cases c:Lv.fresh b fs=[]
    ·rw[c,if_neg (by simp)]
     have:Lv.run b m fs L=fs:=by
      cases m with
      | zero=>rfl
      | succ m=>
       show(if Lv.fresh b fs=[] then fs else _)=fs
       rw[if_pos c]
     rw[this] at er
     subst er
     exact kk _ _ s2 n2 hf
    ·have l0:(0:Int)< ((List.map eB (Lv.fresh b fs)).length:Nat):=by
      rw[YO]
      have:=List.length_pos_iff.mpr c
      omega
     rw[if_pos l0]
     have Yo:(Lv.fresh b fs).length<=1000:=by
      have:(Lv.fresh b fs).length<=b.length:=by
       have:=List.length_filter_le (Lv.fY b fs) (List.range b.length)
       rwa [Y9] at this
      omega
     refine⟨⟨_,aZ.of xY⟩,bD (src_list (Ok:=λH'=>H' fr=some (.lst (List.map eB (Lv.fresh b fs)))) (λH' e=>aZ.of e))
      (λj σ H'=>H' fr=some (.lst (List.map eB (Lv.fresh b fs)))/\H' ff=some (.lst (List.map fc (Lv.cD fs ((Lv.fresh b fs).take j) L)))/\az H H'/\∃z,σ=[some (V.ref a),some (V.ref ff),some (V.int L),some (V.ref fr),z])
      ⟨xY,by rw[List.take_zero];exact hf,s2,_,rfl⟩ (λ_ _ _ _ h=>h.1) ?_ ?_⟩
     ·intro j x σ H3 H4 hj dm dA
      refine(?_:let G_:Prop:=_;G_)
      intro G_
      obtain⟨h3,f3,s3,z,rfl⟩:=dm
      obtain⟨rfl,hx⟩:=dA
      rw[YT] at hx
      obtain⟨i,ei,rfl⟩:=Option.map_eq_some_iff.mp hx
      dsimp only[G_]
      have hi:=(Lv.hV.mp (YU ei)).1
      simp_all only[gSub,rSetL,eB]
      have ix:vI (List.map fc (Lv.cD fs ((Lv.fresh b fs).take j) L)).length (i:Int)=some i:=by
       unfold vI
       rw[if_pos (by omega),YO,Lv.lO,if_pos (by omega)]
       congr 1
      refine⟨_,f3,i,ix,by rw[aE ne];exact h3,?_,aX s3 n2,_,rfl⟩
      rw[ar,Ze,ei]
      show some (HO.lst ((List.map fc _).set i (fc (some L))))=_
      rw[<-List.map_set]
      congr 3
      unfold Lv.cD
      rw[List.foldl_append]
      rfl
     ·intro σ H3 bB
      refine(?_:let G_:Prop:=_;G_)
      intro G_
      obtain⟨h3,f3,s3,z,rfl⟩:=bB
      dsimp only[G_]
      rw[YO,Zi (YS _)] at f3
      simp_all only[vZ]
      refine⟨b,rb.mono s3,_,f3,by rw[Lv.lO];exact lf,lb,gl,gb,λYp H4 s4 n4 h4=>?_⟩
      have lt:=Lv.jO lf c L
      cases m with
      | zero=>omega
      | succ m=>
       refine⟨m,Zl _,_,_,_,_,rfl,s4 _ _ f3,h4,(λz=>by rw[z,f3] at n4;cases n4),s3.trans s4,by rw[Lv.lO];exact lf,by omega,?_⟩
       rw[<-er]
       show _=(if Lv.fresh b fs=[] then fs else _)
       rw[if_neg c]
   ·intro σ H1 Q1 Q2 hq hc
    simp only[L2.start,Pr,tRev,tD1,tDPop1,tSl,tNoPart,tPart,rSlL,tDIn,tDNotIn,gSub,rSetL,tLst,tDNewK,tComp,L2.stC,tFor_eq,iList,iTup,iRng1,iRng2,iZip,iEnum,iDict,iStr,tChain,tSumV,tBM,rJoin,tJoined,jNil,jLit,jInt,jStr,tRaise,tDGet,tDGet2,tDGet1,sDPut,Option.join_some,List.getElem?_nil,tSeq,tRet,tRetN,tIfS,tTest,tB,tOp,tUn,tVar,tC,tCB,tCons,tNil,tCall,tTupS,tAsg,gName,gNil,gCons,tPar,tNext,tDrop,tAnd,tOr,tNot,tAndV,tOrV,tNotV,tIf,rI,rI0,rU,rIxTH,rIxLH,rEqT,rNeT,rInT,rEq,rNe,scal_ss,scal_ii,scal_bb,scal_si,scal_is,CPow,at0,at1,at2,Zb,List.map_nil,Y4,List.length_nil,Nat.reduceSub,Nat.reduceAdd,ZI,List.replicate_zero,List.reduceReplicate,ZM,List.nil_append,List.cons_append,Z7,Z4,Z1,Z2,Option.some.injEq,exists_eq_left',exists_eq_left,V.ref.injEq,V.int.injEq,V.bl.injEq,V.str.injEq,V.ty.injEq,HO.tup.injEq,HO.lst.injEq,List.cons.injEq,and_true,true_and,and_assoc,exists_and_left,decide_eq_true_eq,Bool.not_eq_true',decide_eq_false_iff_not,ite_true,ite_false,if_true,if_false,Int.reduceToNat,eq_self_iff_true] at hc ⊢
    refine(?_:let G_:Prop:=_;G_)
    intro G_
    obtain⟨v,e1,ys,e2,xs,e3,q⟩:=hc
    dsimp only[G_]
    exact⟨v,e1,ys,e2,xs,e3,hq _ _ q⟩
theorem wQ:aM ["board"] ["board"] (ae (top 5)):=⟨rfl,rfl,rfl,by decide +kernel,rfl,by decide +kernel,by decide +kernel⟩
theorem CD (T:Txt K mg aA tc):bK P w K mg base (bE P w) 5 "ring" ["board"] uU:=by
 have AI:bK P w K mg base (bE P w) 4 "levels" ["board"] zw:=Fj T
 refine T.EL.dW (λ_ _ _ _ _ _=>ir λ_=>rfl) λf fd F=>F.dZ wQ (λvs H Q E h=>?_) (λcw A outer s H vs Q E hr h=>?_)
 ·obtain⟨_,_,rfl,_⟩:=h;rfl
 ·refine(?_:let G_:Prop:=_;G_)
  intro G_
  obtain⟨a,b,rfl,rb,B,kk⟩:=h
  dsimp only[G_]
  have nd:=wQ.nd
  refine⟨_,(au (aN (bP rfl (N:=["board"]) (so:=ae (top 5)) (N':=["number","level"]) (k:=2) (fr:=[]) rfl rfl ⟨rfl,by decide +kernel,by decide +kernel,by decide +kernel,rfl,by decide +kernel,by decide +kernel⟩ (cG (K:=K) rfl T.z_enumerate (aa (aH AI (hr.mono (by decide)) rfl aB.pass (aa (pv 0) ag (se rfl)) (he:=se rfl) (hpl:=na rfl)) ag (se rfl))) (λ_ _ _ _ _=>(cf (K:=K) (n:=2) rfl (aT (aG (i:=0) (show(["number","level"]:List Str).Nodup by decide +kernel) rfl (Or.inl rfl)) (aT (aG (i:=1) (show(["number","level"]:List Str).Nodup by decide +kernel) rfl (Or.inl rfl)) b9)))) (λ_ _ _ _ _=>(qd (aU um (pv 1) eJ (bf _))))
   (λ_ _ _ _ _=>(pv 0))))),?_⟩
  simp_all only[zw]
  refine⟨b,rb,B.len,B.rR,B.good,λf1 H1 s1 nf hf=>⟨⟨_,aZ.of hf⟩,?_⟩⟩
  have ll:=Lv.BZ B.good
  have bl:=B.len
  have S:Src (G4 K f1) (az H1) (List.range b.length).length (λi v H H3=>∃p x,H p=none/\v=.ref p/\(List.map fc (Lv.r8 b))[i]?=some x/\H3=upd H p (.tup [.int i,x])):=by
   have:=eX (K:=K) (a:=f1) (xs:=List.map fc (Lv.r8 b)) (Ok:=az H1) (λH' s'=>aZ.of (s' _ _ hf))
   rw[YO,ll] at this
   rw[Y9]
   exact this
  refine pe (K:=K) (List.range b.length) (λi=>if (Lv.lk (Lv.r8 b) (i:Int)).isNone=true then some (eB i) else none) S (λi u v _=>u=.int i/\v=fc (Lv.lk (Lv.r8 b) (i:Int))) ?_ (by rw[Y9,sizeLine_eq];omega) ?_ ?_
  ·intro i x H2 H3 hi s2 dm
   refine(?_:let G_:Prop:=_;G_)
   intro G_
   obtain⟨p,v,np,rfl,ev,rfl⟩:=dm
   dsimp only[G_]
   refine⟨ax np,p,_,_,rfl,eA.of ar,rfl,?_⟩
   rw[YT] at ev
   refine(?_:let G_:Prop:=_;G_)
   intro G_
   obtain⟨o,eo,rfl⟩:=Option.map_eq_some_iff.mp ev
   dsimp only[G_]
   unfold Lv.lk
   rw[YY,YR,eo]
   rfl
  ·rintro i j u v H3 ej s3 ⟨rfl,rfl⟩ Y N y1 n1
   have:j=i:=by
    obtain⟨h1,h2⟩:=List.getElem?_eq_some_iff.mp ej
    rw[List.getElem_range] at h2
    exact h2.symm
   subst this
   simp_all only[]
   cases h:Lv.lk (Lv.r8 b) (j:Int) with
   | none=>
    rw[if_pos (nh.mpr rfl)]
    exact y1 _ _ (by rw[h];rfl) (az.refl _)
   | some x=>
    rw[if_neg (by simp [fc])]
    exact n1 _ (by rw[h];rfl) (az.refl _)
  ·intro H2 s2 D n1 n2
   have e:List.filterMap (fun(i:Nat)=>if (Lv.lk (Lv.r8 b) (i:Int)).isNone=true then some (eB i) else none) (List.range b.length)=List.map eB (ni b):=hJ eB (fun(i:Nat)=>(Lv.lk (Lv.r8 b) (i:Int)).isNone) _
   rw[e]
   exact kk _ _ (s1.trans (s2.trans (ax n2))) (none_of (s1.trans s2) n2) ar
theorem iw:aM ["board","start","steps","found","turn","here","way","to"] ["board","start"] (ae (top 24)):=⟨rfl,rfl,rfl,by decide +kernel,rfl,by decide +kernel,by decide +kernel⟩
theorem Fk (T:Txt K mg aA tc):bK P w K mg base (bE P w) 2 "steps_from" ["board","start"] v3:=by
 have qP:bK P w K mg base (bE P w) 1 "goals" ["place"] sT:=AH T
 refine T.qv.dW (λ_ _ _ _ _ _=>dH λ_ _=>rfl) λf fd F=>F.dZ iw (λvs H Q E h=>?_) (λcw A outer s H vs Q E hr h=>?_)
 ·obtain⟨_,_,_,rfl,_⟩:=h;rfl
 ·refine(?_:let G_:Prop:=_;G_)
  intro G_
  obtain⟨a,b,st,rfl,rb,lb,rR,gb,h0,h1,kk⟩:=h
  dsimp only[G_]
  clear G_
  have nd:=iw.nd
  refine⟨_,(af (aF (i:=2) nd rfl (Or.inl rfl) (G7 (pv 1) eJ))
  (af (aF (i:=3) nd rfl (Or.inl rfl) (c5 (aa (pv 1) ag (se rfl))))
  (af (aF (i:=4) nd rfl (Or.inl rfl) ao)
  (af (i5 PassesOwn.never (aU oU (pv 4) (aR bz (by rfl) T.z_len Za (aa (pv 3) ag (se rfl)) (he:=se rfl) (hpl:=na rfl)) (bf _)) (af (aF (i:=5) nd rfl (Or.inl rfl) (aL aO (pv 3) (pv 4) (λ_ _=>rfl)))
  (af (bO PassesOwn.never rfl (cG (K:=K) rfl T.z_enumerate (aa (aH qP (hr.mono (by decide)) rfl aB.pass (aa (aL aO (pv 0) (pv 5) (λ_ _=>rfl)) ag (se rfl)) (he:=se rfl) (hpl:=na rfl)) ag (se rfl))) (cf (K:=K) (n:=2) rfl (aT (aG (i:=6) nd rfl (Or.inl rfl)) (aT (aG (i:=7) nd rfl (Or.inl rfl)) b9))) (au (bN (uc (xx (o8 hr) (pv 7) (pv 2))) (af (vM (o8 hr) (pv 2) (pv 7) (bT (aa (pv 5) (aa (pv 6) ag (se rfl)) (se rfl))) rfl)
  (au (cW (fW ZD ZJ ZK cz.r (pv 3) (aa (pv 7) ag (se rfl))))))
   bq)))
  (au (aF (i:=4) nd rfl (Or.inl rfl) (aD ba (pv 4) ao))))))
  (au (aN (pv 2))))))),?_⟩
  refine(?_:let cm:TS:=_;let cn:TS:=_;let cq:TS:=_;let di:TS:=_;let gO:TS:=_;tSeq cm (tSeq cn (tSeq cq (tSeq di gO))) _ _ _)
  intro cm cn cq di gO
  refine(?_:let G_:Prop:=_;G_)
  intro G_
  obtain⟨_,xs,e,ha,rl⟩:=bp.mp rb
  dsimp only[G_]
  clear G_
  cases e
  have lx:=rl.length
  rw[YO] at lx
  simp_all only[]
  intro d K5
  refine⟨Sum.inl st,rfl,ar,by decide,λf1 nf=>?_⟩
  have U5:upd (upd H d (.dK [])) d (.dK [(Sum.inl st,V.cu)])=upd H d (.dK [(Sum.inl st,V.cu)]):=Bh
  rw[U5] at nf ⊢
  have sd:=ax (o:=.dK [(Sum.inl st,V.cu)]) K5
  have sf:=ax (o:=.lst [V.int st]) nf
  have Sw:f1≠d:=λz=>by rw[z,ar] at nf;cases nf
  have U6:H f1=none:=none_of sd nf
  have D0:fg (upd (upd H d (.dK [(Sum.inl st,V.cu)])) f1 (.lst [V.int st])) d [(st,none,[])]:=by
   refine⟨_,sf _ _ ar,rfl,λi e he=>?_⟩
   match i,he with
   | 0,he=>cases he;exact⟨_,rfl,rfl⟩
  have K3:(upd (upd H d (.dK [(Sum.inl st,V.cu)])) f1 (.lst [V.int st])) f1=some (.lst [V.int st]):=ar
  have sH:=sd.trans sf
  generalize upd (upd H d (.dK [(Sum.inl st,V.cu)])) f1 (.lst [V.int st])=H1 at *
  refine rZ (US H b a d f1 st) (m:=b.length+1) ⟨0,[(st,none,[])],_,_,_,rfl,D0,K3,sH,Bf.y4 h0 h1,rfl,by omega⟩ ?_ ?_
  ·intro m σ H2 K4
   refine(?_:let G_:Prop:=_;G_)
   intro G_
   obtain⟨t,es,z5,z6,z7,rfl,dr,hf,s2,I,eb,lt⟩:=K4
   dsimp only[G_]
   clear G_
   have lk:(Bf.keys es).length=es.length:=by unfold Bf.keys;rw[YO]
   have fw:=I.toCore.rR
   simp_all only[]
   refine⟨_,hf,?_⟩
   rw[YO,lk]
   by_cases c:t<es.length
   ·rw[if_pos (by omega)]
    have et:es[t]?=some es[t]:=YQ c
    generalize es[t]=e at et
    have rg:=I.qW e (YU et)
    have ee:((e.1.toNat:Nat):Int)=e.1:=Int.toNat_of_nonneg rg.1
    have hb:e.1.toNat<b.length:=by omega
    have Sx:b[e.1.toNat]?=some b[e.1.toNat]:=YQ hb
    refine(?_:let G_:Prop:=_;G_)
    intro G_
    obtain⟨v,ev,rv⟩:=g8 rl Sx
    dsimp only[G_]
    clear G_
    have hq:=YZ hb
    generalize b[e.1.toNat]=q at *
    have ga:Bf.fB b e.1=Lv.fX q:=by unfold Bf.fB;rw[Sx]
    have av:fA xs e.1=some v:=by rw[<-ee];exact bF ev
    have ak:fA (List.map V.int (Bf.keys es)) (t:Int)=some (V.int e.1):=ql (by unfold Bf.keys;rw[YT,et];rfl)
    simp only[hf,ak,s2 _ _ ha,av,Option.some.injEq,HO.lst.injEq,exists_eq_left',V.int.injEq,V.ref.injEq,sT]
    refine⟨v,q,rfl,rv.mono s2,rR q hq,λl H3 s3 nl hl=>⟨⟨_,aZ.of hl⟩,?_⟩⟩
    have U7:=dr.mono s3
    have Bb:=s3 _ _ hf
    have U8:l≠d:=λz=>by
     refine(?_:let G_:Prop:=_;G_)
     intro G_
     obtain⟨kvs,hd,_⟩:=dr.ex
     dsimp only[G_]
     rw[z,hd] at nl;cases nl
    have Ht:l≠f1:=λz=>by rw[z,hf] at nl;cases nl
    refine bD (eX (Ok:=λH'=>H' l=some (.lst (List.map V.int (Lv.fX q)))) (λH' e=>aZ.of e)) (UT H a d f1 l st t e (Lv.fX q) es) ⟨⟨_,_,rfl⟩,U7,Bb,hl,s2.trans s3⟩ (λ_ _ _ _ h=>h.hl) ?_ ?_
    ·intro i x σ H4 H5 hi dm dA
     refine(?_:let G_:Prop:=_;G_)
     intro G_
     obtain⟨⟨z6,z7,rfl⟩,Jy,Jz,wR,s4⟩:=dm
     obtain⟨p,y,np,rfl,ey,rfl⟩:=dA
     rw[YO] at hi
     rw[YT] at ey
     obtain⟨g,eg,rfl⟩:=Option.map_eq_some_iff.mp ey
     dsimp only[G_]
     clear G_
     have s5:=ax (o:=.tup [.int i,.int g]) np
     refine⟨p,_,rfl,eA.of ar,rfl,?_⟩
     have K6:=Jy.mono s5
     have Sy:=s5 _ _ Jz
     have Hu:=s5 _ _ wR
     have SA:=s4.trans s5
     generalize upd H4 p (.tup [.int i,.int g])=H5 at *
     have M:=Bf.mU gb ((Lv.fX q).take i) 0 es (Bf.y8 I et) λj x hx=>by
      rw[ZI,ga]
      have hj:=(List.getElem?_eq_some_iff.mp hx).1
      rw[ZG] at hj
      rwa [List.getElem?_take_of_lt (by omega)] at hx
     have tk:(Lv.fX q).take (i+1)=(Lv.fX q).take i++ [g]:=by rw[Ze,eg];rfl
     have U9:((Lv.fX q).take i).length=i:=by rw[ZG];omega
     have nx:=pE (here:=e.1) (path:=e.2.2) ((Lv.fX q).take i) 0 es g
     rw[<-tk,U9,ZI] at nx
     have Va:=M.toCore.rR
     generalize Bf.fN e.1 e.2.2 0 ((Lv.fX q).take i) es=ei at *
     refine(?_:let G_:Prop:=_;G_)
     intro G_
     obtain⟨o,go,ho⟩:=K6.has M.nd g
     dsimp only[G_]
     simp_all only[]
     refine⟨o,go,?_⟩
     rw[ho]
     by_cases cg:g∈Bf.keys ei
     ·rw[if_neg (by simpa using cg)]
      rw[if_pos cg] at nx
      exact⟨⟨_,_,rfl⟩,by rw[nx];exact K6,by rw[nx];exact Sy,Hu,SA⟩
     ·rw[if_pos (by simpa using cg)]
      rw[if_neg cg] at nx
      refine⟨by decide,λp6 H6 s6 Yq e6=>?_⟩
      obtain⟨o7,pt,Vc⟩:=(K6.mono s6).put (par:=some (e.1,i)) (path:=e.2.2++ [i]) cg ⟨p6,rfl,e6⟩ (by rw[sizeLine_eq];omega)
      have Hv:=s6 _ _ Sy
      have Ga:=s6 _ _ Hu
      have K7:upd H6 d o7 f1=some (.lst (List.map V.int (Bf.keys ei))):=by rw[aE Sw];exact Hv
      have Yr:(Bf.keys ei).length=ei.length:=by unfold Bf.keys;rw[YO]
      refine⟨_,pt,.inl ⟨rfl,_,aZ.of K7⟩,f1,_,_,rfl,rfl,K7,by rw[YO,sizeLine_eq];omega,?_⟩
      have sF:az H (upd (upd H6 d o7) f1 (.lst (List.map V.int (Bf.keys ei)++ [V.int g]))):=aX (aX (SA.trans s6) K5) U6
      refine⟨⟨_,_,rfl⟩,?_,?_,?_,sF⟩
      ·rw[nx]
       refine(?_:let G_:Prop:=_;G_)
       intro G_
       obtain⟨kvs,k1,k2,k3⟩:=Vc.ex
       dsimp only[G_]
       refine⟨kvs,by rw[aE (Ne.symm Sw)];exact k1,k2,λj x hx=>?_⟩
       refine(?_:let G_:Prop:=_;G_)
       intro G_
       obtain⟨v,v1,v2⟩:=k3 j x hx
       dsimp only[G_]
       exact⟨v,v1,v2.upd λys z=>by rw[K7] at z;cases z⟩
      ·rw[nx,ar]
       unfold Bf.keys
       rw[Zc,Zc]
       rfl
      ·rw[aE Ht,aE U8]
       exact Ga
    ·intro σ H4 bB
     refine(?_:let G_:Prop:=_;G_)
     intro G_
     obtain⟨⟨z6,z7,rfl⟩,Jy,Jz,wR,s4⟩:=bB
     dsimp only[G_]
     rw[YO,Zi (YS _),<-ga] at Jy Jz
     simp_all only[]
     cases m with
     | zero=>omega
     | succ m=>
      refine⟨m,Zl _,⟨t+1,_,_,_,_,rfl,Jy,Jz,s4,Bf.turn gb I et,?_,by omega⟩⟩
      rw[<-eb]
      show _=(match es[t]? with | none=>es | some e=>Bf.A8 b m (t+1) (Bf.fN e.1 e.2.2 0 (Bf.fB b e.1) es))
      rw[et]
   ·rw[if_neg (by omega)]
    have:Bf.A8 b m t es=es:=by
     cases m with
     | zero=>rfl
     | succ m=>
      show(match es[t]? with | none=>es | some e=>Bf.A8 b m (t+1) (Bf.fN e.1 e.2.2 0 (Bf.fB b e.1) es))=es
      rw[Y5 (by omega)]
    rw[this] at eb
    subst eb
    exact kk _ _ s2 K5 dr
  ·intro σ H1 Q1 Q2 hq hc
   simp only[L2.start,Pr,tRev,tD1,tDPop1,tSl,tNoPart,tPart,rSlL,tDIn,tDNotIn,gSub,rSetL,tLst,tDNewK,tComp,L2.stC,tFor_eq,iList,iTup,iRng1,iRng2,iZip,iEnum,iDict,iStr,tChain,tSumV,tBM,rJoin,tJoined,jNil,jLit,jInt,jStr,tRaise,tDGet,tDGet2,tDGet1,sDPut,Option.join_some,List.getElem?_nil,tSeq,tRet,tRetN,tIfS,tTest,tB,tOp,tUn,tVar,tC,tCB,tCons,tNil,tCall,tTupS,tAsg,gName,gNil,gCons,tPar,tNext,tDrop,tAnd,tOr,tNot,tAndV,tOrV,tNotV,tIf,rI,rI0,rU,rIxTH,rIxLH,rEqT,rNeT,rInT,rEq,rNe,scal_ss,scal_ii,scal_bb,scal_si,scal_is,CPow,at0,at1,at2,Zb,List.map_nil,Y4,List.length_nil,Nat.reduceSub,Nat.reduceAdd,ZI,List.replicate_zero,List.reduceReplicate,ZM,List.nil_append,List.cons_append,Z7,Z4,Z1,Z2,Option.some.injEq,exists_eq_left',exists_eq_left,V.ref.injEq,V.int.injEq,V.bl.injEq,V.str.injEq,V.ty.injEq,HO.tup.injEq,HO.lst.injEq,List.cons.injEq,and_true,true_and,and_assoc,exists_and_left,decide_eq_true_eq,Bool.not_eq_true',decide_eq_false_iff_not,ite_true,ite_false,if_true,if_false,Int.reduceToNat,eq_self_iff_true] at hc ⊢
   refine(?_:let G_:Prop:=_;G_)
   intro G_
   obtain⟨v,e1,v1,e2,p,e3,x,e4,i,e5,q⟩:=hc
   dsimp only[G_]
   exact⟨v,e1,v1,e2,p,e3,x,e4,i,e5,hq _ _ q⟩
theorem wU (p:Int->Bool):∀l:List Int,l.filterMap (λo=>if p o=true then some o else none)=l.filter p
 | []=>rfl
 | x::l=>by
  rw[List.filterMap_cons,List.filter_cons,wU p l]
  by_cases c:p x=true
  ·simp [c]
  ·simp [c]
noncomputable def nU (H:Hp) (x:Addr):Int:=match H x with
 | some (.lst (.int j::_))=>j
 | _=>0
noncomputable def AJ (tp:Addr):Sp:=λvs H Q _=>∃a b,vs=[.ref a]/\Rep H (rY b) (.ref a)/\b.length<=63/\(∀q∈b,(Lv.fX q).length<=100)/\Lv.Good b/\H tp=some (.pQ dsc)/\
 ∀l ps as H',Pr.Told b ps->az H H'->H l=none->H' l=some (.lst (List.map V.ref as))->Al (λp v=>∃x,v=.ref x/\H' x=some (.lst (List.map V.int (Pr.cE b p)))/\H x=none) ps (as.map V.ref)->Q (.ref l) H'
theorem tR:aM ["board","reach","found","place","part"] ["board"] (ae (top 25)):=⟨rfl,rfl,rfl,by decide +kernel,rfl,by decide +kernel,by decide +kernel⟩
theorem Fl (T:Txt K mg aA tc) (LB:mY base mg tc tp):bK P w K mg base (bE P w) 3 "parts" ["board"] (AJ tp):=by
 have qQ:bK P w K mg base (bE P w) 2 "steps_from" ["board","start"] v3:=Fk T
 refine T.Ce.KO T.Cg (λ_ _ _ _ _ _=>ir λ_=>rfl) λf fd F hc=>F.UP hc tR (λvs H Q E h=>?_) (λA outer s H vs Q E hr h=>?_)
 ·obtain⟨_,_,rfl,_⟩:=h;rfl
 ·refine(?_:let G_:Prop:=_;G_)
  intro G_
  obtain⟨a,b,rfl,rb,lb,rR,gb,j8,kk⟩:=h
  dsimp only[G_]
  clear G_
  have nd:=tR.nd
  refine⟨_,(af (aF (i:=1) nd rfl (Or.inr rfl) (bP rfl (N:=["board","reach","found","place","part"]) (so:=ae (top 25)) (N':=["start","board"]) (k:=1) (fr:=[0]) rfl rfl ⟨rfl,by decide +kernel,by decide +kernel,by decide +kernel,rfl,by decide +kernel,by decide +kernel⟩ (cy rfl T.z_range (aa (aR bz (by rfl) T.z_len Za (aa (pv 0) ag (se rfl)) (he:=se rfl) (hpl:=na rfl)) ag (se rfl))) (λ_ _ _ _ _=>(aG (i:=0) (show(["start","board"]:List Str).Nodup by decide +kernel) rfl (Or.inl rfl))) (λ_ _ _ _ _=>bH)
   (λ_ _ _ _ _=>(aH qQ (hr.mono (by decide)) rfl aB.pass (aa (pv 1) (aa (pv 0) ag (se rfl)) (se rfl)) (he:=se rfl) (hpl:=na rfl)))))
  (af (aF (i:=2) nd rfl (Or.inl rfl) (c5 ag))
  (af (bO PassesOwn.never rfl (cy rfl T.z_range (aa (aR bz (by rfl) T.z_len Za (aa (pv 0) ag (se rfl)) (he:=se rfl) (hpl:=na rfl)) ag (se rfl))) (aG (i:=3) nd rfl (Or.inr rfl)) (af (fL (i:=4) rfl nd rfl rfl (N:=["board","reach","found","place","part"]) (so:=ae (top 25)) (N':=["other","reach","place"]) (k:=1) (fr:=[1,3]) rfl rfl ⟨rfl,by decide +kernel,by decide +kernel,by decide +kernel,rfl,by decide +kernel,by decide +kernel⟩ (bo (K:=K) (aR mQ (by rfl) T.z_sorted rfl (aa (aL aO (pv 1) (pv 3) (λ_ _=>rfl)) ag (se rfl)) (he:=se rfl) (hpl:=na rfl))) (λ_ _ _ _ _=>(aG (i:=0) (show(["other","reach","place"]:List Str).Nodup by decide +kernel) rfl (Or.inl rfl))) (λ_ _ _ _ _=>(qd (uc (yM (o8 hr) (pv 2) (aL aO (pv 1) (pv 0) (λ_ _=>rfl))))))
   (λ_ _ _ _ _=>(pv 0)))
  (au (bN (aU dq (aL aO (pv 4) ao (λ_ _=>rfl)) (pv 3) (bf _)) (au (cW (fW ZD ZJ ZK cz.r (pv 2) (aa (pv 4) ag (se rfl)))))
   bq))))
  (au (aN (zp (i:=1) (dsc:=dsc) (t0:=0) rfl T.z_sorted T.z_len LB rfl hr rfl (pv 2))))))),?_⟩
  refine(?_:let cm:TS:=_;let cn:TS:=_;let cq:TS:=_;let di:TS:=_;tSeq cm (tSeq cn (tSeq cq di)) _ _ _)
  intro cm cn cq di
  have sl:=sizeLine_eq
  refine(?_:let G_:Prop:=_;G_)
  intro G_
  obtain⟨_,xs,e,ha,rl⟩:=bp.mp rb
  dsimp only[G_]
  clear G_
  cases e
  have lx:=rl.length
  rw[YO] at lx
  change tSeq _ _ _ _ _
  refine aQ (λσ' H1=>az H H1/\∃r ys,H1 r=some (.lst ys)/\ys.length=b.length/\(∀(i:Nat) y,ys[i]?=some y->∃d,y=.ref d/\fg H1 d (Bf.steps b (i:Int)))/\σ'=[some (.ref a),some (.ref r),none,none,none]) ?_ (λN hN=>?_)
  case refine_2=>
   simp_all only[v3]
   refine⟨_,ha,by omega,by omega,?_⟩
   refine comp_map src_range (λ_ _ _ _ h=>by rw[h.1];exact az.refl _) (by omega) (λi y H4=>∃d,y=.ref d/\fg H4 d (Bf.steps b (i:Int))) (λi y H4 H5 s5 ⟨d,e,h⟩=>⟨d,e,h.mono s5⟩) ?_ ?_
   ·rintro i x w0 H4 H5 Q2 hi s4 ⟨rfl,rfl⟩ kq
    simp_all only[v3,ZA]
    exact⟨b,rb.mono s4,by omega,rR,gb,by omega,by omega,λd H6 s6 n6 dr=>kq _ _ s6 ⟨d,rfl,dr⟩⟩
   ·intro ys H5 s5 ly hy D n1 n2
    refine hN _ _ ⟨s5.trans (ax n2),D,ys,ar,by omega,λi y e=>?_,rfl⟩
    refine(?_:let G_:Prop:=_;G_)
    intro G_
    obtain⟨d,e1,h1⟩:=hy i y e
    dsimp only[G_]
    exact⟨d,e1,h1.mono (ax n2)⟩
  intro _ H1 bB
  refine(?_:let G_:Prop:=_;G_)
  intro G_
  obtain⟨s1,r,ys,Hw,ly,hy,rfl⟩:=bB
  dsimp only[G_]
  clear G_
  change tSeq _ _ _ _ _
  refine aQ (λσ' H2=>∃fa,H1 fa=none/\az H1 H2/\H2 fa=some (.lst [])/\σ'=[some (.ref a),some (.ref r),some (.ref fa),none,none]) ?_ (λN hN=>?_)
  case refine_2=>
   simp_all only[]
   exact⟨Y3 _,λfa nf=>hN _ _ ⟨fa,nf,ax nf,ar,rfl⟩⟩
  intro _ H2 bB
  refine(?_:let G_:Prop:=_;G_)
  intro G_
  obtain⟨fa,nf,s2,Vd,rfl⟩:=bB
  dsimp only[G_]
  clear G_
  have Fn:∀i:Nat,i<b.length->∃d kvs,ys[i]?=some (.ref d)/\fg H1 d (Bf.steps b (i:Int))/\H1 d=some (.dK kvs)/\gF kvs=Pr.kb b (i:Int)/\(∀p∈kvs,∃k,p.1=Sum.inl k)/\kvs.length=(Pr.kb b (i:Int)).length:=λi hi=>by
   refine(?_:let G_:Prop:=_;G_)
   intro G_
   obtain⟨d,e,dr⟩:=hy i _ (YQ (by omega))
   obtain⟨kvs,hd,hk,_⟩:=dr.ex
   dsimp only[G_]
   refine⟨d,kvs,by rw[YQ (by omega),e],dr,hd,?_,λp hp=>?_,?_⟩
   ·have:gF kvs=(kvs.map (·.1)).map (λk:Key=>match k with | .inl i=>i | .inr _=>(0:Int)):=by
     unfold gF
     rw[Zu]
     rfl
    rw[this,hk,Zu]
    unfold Pr.kb
    simp [Function.comp_def]
   ·have:p.1∈(Bf.keys (Bf.steps b (i:Int))).map Sum.inl:=by rw[<-hk];exact List.mem_map.mpr ⟨p,hp,rfl⟩
    refine(?_:let G_:Prop:=_;G_)
    intro G_
    obtain⟨k,_,e⟩:=List.mem_map.mp this
    dsimp only[G_]
    exact⟨k,e.symm⟩
   ·have:=congrArg List.length hk
    rw[YO,YO] at this
    exact this
  change tSeq _ _ _ _ _
  refine aQ (λσ' H3=>az H1 H3/\∃as,H3 fa=some (.lst (List.map V.ref as))/\Al (λp v=>∃x,v=.ref x/\H3 x=some (.lst (List.map V.int (Pr.cE b p)))/\H1 x=none) (Pr.sU b b.length) (as.map V.ref)/\∃z3 z4,σ'=[some (.ref a),some (.ref r),some (.ref fa),z3,z4]) ?_ (λN hN=>?_)
  case refine_2=>
   simp_all only[]
   refine⟨_,s2 _ _ (s1 _ _ ha),by omega,by omega,?_⟩
   refine bD (src_range (Ok:=λ_=>True)) (λi σ H3=>az H1 H3/\∃as,H3 fa=some (.lst (List.map V.ref as))/\Al (λp v=>∃x,v=.ref x/\H3 x=some (.lst (List.map V.int (Pr.cE b p)))/\H1 x=none/\x≠fa) (Pr.sU b i) (as.map V.ref)/\∃z3 z4,σ=[some (.ref a),some (.ref r),some (.ref fa),z3,z4]) ⟨s2,[],Vd,trivial,_,_,rfl⟩ (λ_ _ _ _ _=>trivial) ?_ ?_
   ·intro i x σ H3 H4 hi dm dA
    refine(?_:let G_:Prop:=_;G_)
    intro G_
    obtain⟨s3,as,Bb,al,z3,z4,rfl⟩:=dm
    obtain⟨rfl,rfl⟩:=dA
    dsimp only[G_]
    clear G_
    simp_all only[ZA]
    have Ve:i<b.length:=by omega
    have vi:Pr.In b (i:Int):=⟨by omega,by omega⟩
    refine(?_:let G_:Prop:=_;G_)
    intro G_
    obtain⟨d,kvs,ed,dr,hd,ek,ka,kl⟩:=Fn i Ve
    dsimp only[G_]
    clear G_
    have Ys:=Pr.zB gb vi
    refine⟨ys,s3 _ _ Hw,.ref d,bF ed,d,rfl,kvs,.inl (s3 _ _ hd),ka,by omega,λl nl=>?_⟩
    rw[ek]
    have sL:=ax (o:=.lst (List.map V.int (Nm.lM (Pr.kb b (i:Int))))) nl
    have Hu:(upd H4 l (.lst (List.map V.int (Nm.lM (Pr.kb b (i:Int)))))) l=some (.lst (List.map V.int (Nm.lM (Pr.kb b (i:Int))))):=ar
    generalize upd H4 l (.lst (List.map V.int (Nm.lM (Pr.kb b (i:Int)))))=H5 at *
    refine⟨⟨_,aZ.of Hu⟩,?_⟩
    have S:Src (vB K l) (az H5) (Nm.lM (Pr.kb b (i:Int))).length (λj x H H3=>H3=H/\(List.map V.int (Nm.lM (Pr.kb b (i:Int))))[j]?=some x):=by
     have:=src_list (K:=K) (a:=l) (xs:=List.map V.int (Nm.lM (Pr.kb b (i:Int)))) (Ok:=az H5) (λH' s'=>aZ.of (s' _ _ Hu))
     rw[YO] at this
     exact this
    refine du (Nm.lM (Pr.kb b (i:Int))) (λo=>if decide ((i:Int)∈Pr.kb b o)=true then some o else none) S (λ_ _ _ _ h=>h.1) (by rw[Nm.mP];omega) ?_ ?_
    ·rintro j o x eo ⟨_,ex⟩ Y N1 y1 n1
     rw[YT,eo] at ex
     cases ex
     have ho:=Nm.vS.mp (YU eo)
     obtain⟨SD,Vf⟩:=Pr.nk gb vi ho
     obtain⟨o,rfl⟩:=Zd SD
     refine(?_:let G_:Prop:=_;G_)
     intro G_
     obtain⟨d2,Vg,KL,Vh,hd2,Yt,Yu,Yv⟩:=Fn o (by omega)
     obtain⟨oo,g1,g2⟩:=(Vh.mono (s3.trans sL)).has (Pr.nj gb ⟨SD,Vf⟩) (i:Int)
     dsimp only[G_]
     simp_all only[s3.trans sL _ _ Hw,show fA ys (o:Int)=some (.ref d2) from bF KL]
     refine⟨oo,g1,?_⟩
     rw[g2]
     exact iG (λc=>y1 _ (if_pos c)) (λc=>n1 (if_neg c))
    ·intro D n1 n2
     rw[wU]
     have ep:(Nm.lM (Pr.kb b (i:Int))).filter (λo=>decide ((i:Int)∈Pr.kb b o))=Pr.cE b (i:Int):=rfl
     rw[ep]
     have ne:=Pr.gI gb vi
     have sD:=ax (o:=.lst (List.map V.int (Pr.cE b (i:Int)))) n2
     have hD:(upd H5 D (.lst (List.map V.int (Pr.cE b (i:Int))))) D=some (.lst (List.map V.int (Pr.cE b (i:Int)))):=ar
     generalize upd H5 D (.lst (List.map V.int (Pr.cE b (i:Int))))=H6 at *
     have Hx:az H1 H6:=s3.trans (sL.trans sD)
     have Hv:H6 fa=some (.lst (List.map V.ref as)):=sD _ _ (sL _ _ Bb)
     have nD:H1 D=none:=none_of (s3.trans sL) n2
     have Df:D≠fa:=λz=>by rw[z,sL _ _ Bb] at n2;cases n2
     have SE:Al (λp v=>∃x,v=V.ref x/\H6 x=some (.lst (List.map V.int (Pr.cE b p)))/\H1 x=none/\x≠fa) (Pr.sU b i) (as.map V.ref):=al.imp λp v ⟨x,e,h1,h2,h3⟩=>⟨x,e,sD _ _ (sL _ _ h1),h2,h3⟩
     have vj:=al.length
     rw[YO] at vj
     have Ba:=Pr.v8 (b:=b) (n:=i)
     cases ec:Pr.cE b (i:Int) with
     | nil=>exact absurd ec ne
     | cons x0 rest=>
      have Hy:Pr.rep b (i:Int)=x0:=by unfold Pr.rep;rw[ec];rfl
      refine⟨_,hD,.int x0,by rw[ec,Zb];exact at0,rfl,?_⟩
      by_cases c:x0=(i:Int)
      ·rw[if_pos (by rw[c])]
       refine⟨.inl ⟨rfl,_,aZ.of Hv⟩,fa,List.map V.ref as,.ref D,rfl,rfl,Hv,by rw[YO];omega,aX Hx nf,as++ [D],by rw[ar,Zc];rfl,?_,_,rfl⟩
       rw[Pr.sV,if_pos (by rw[Hy,c]),Zc]
       exact(SE.imp λp v ⟨x,e,h1,h2,h3⟩=>⟨x,e,by rw[aE h3];exact h1,h2,h3⟩).append (.one ⟨D,rfl,by rw[aE Df];exact hD,nD,Df⟩)
      ·rw[if_neg (by intro z;exact c (by injection z))]
       refine⟨Hx,as,Hv,?_,_,rfl⟩
       rw[Pr.sV,if_neg (by rw[Hy];exact c)]
       exact SE
   ·intro σ H3 bB
    refine(?_:let G_:Prop:=_;G_)
    intro G_
    obtain⟨s3,as,Bb,al,z3,z4,rfl⟩:=bB
    dsimp only[G_]
    rw[YY,<-lx] at al
    exact hN _ _ ⟨s3,as,Bb,al.imp λp v ⟨x,e,h1,h2,_⟩=>⟨x,e,h1,h2⟩,_,_,rfl⟩
  intro _ H3 bB
  refine(?_:let G_:Prop:=_;G_)
  intro G_
  obtain⟨s3,as,Bb,al,z3,z4,rfl⟩:=bB
  dsimp only[G_]
  simp_all only[zo]
  have each:∀x∈as,∃p,p∈Pr.sU b b.length/\H3 x=some (.lst (List.map V.int (Pr.cE b p)))/\H1 x=none/\nU H3 x=p/\Pr.In b p:=λx hx=>by
   obtain⟨i,ei⟩:=Zk hx
   obtain⟨p,ep,x',e,h1,h2⟩:=al.get (show(as.map V.ref)[i]?=some (.ref x) by rw[YT,ei];rfl)
   cases e
   have mp:=YU ep
   obtain⟨vi,er⟩:=Pr.ia.mp mp
   refine⟨p,mp,h1,h2,?_,vi⟩
   unfold nU
   rw[h1]
   unfold Pr.rep at er
   cases ec:Pr.cE b p with
   | nil=>exact absurd ec (Pr.gI gb vi)
   | cons x0 r0=>rw[ec] at er;exact er
  have emap:as.map (nU H3)=Pr.sU b b.length:=by
   apply ZP
   intro i
   rw[YT]
   cases ei:as[i]? with
   | none=>
    have l1:=al.length
    rw[YO] at l1
    have l2:=List.getElem?_eq_none_iff.mp ei
    rw[Y5 (by omega)]
    rfl
   | some x=>
    obtain⟨p,ep,x',e,h1,h2⟩:=al.get (show(as.map V.ref)[i]?=some (.ref x) by rw[YT,ei];rfl)
    cases e
    obtain⟨vi,er⟩:=Pr.ia.mp (YU ep)
    rw[ep]
    show some (nU H3 x)=some p
    unfold nU
    rw[h1]
    unfold Pr.rep at er
    cases ec:Pr.cE b p with
    | nil=>exact absurd ec (Pr.gI gb vi)
    | cons x0 r0=>rw[ec] at er;exact congrArg some er
  have vj:=al.length
  rw[YO] at vj
  have Ba:=Pr.v8 (b:=b) (n:=b.length)
  refine⟨as,Bb,by omega,λx=>((Pr.kb b (nU H3 x)).length:Int),ys,s3 _ _ Hw,s3 _ _ (s1 _ _ j8),λx hx=>?_,λp cs H4 s4 np hp pm pw=>?_⟩
  ·refine(?_:let G_:Prop:=_;G_)
   intro G_
   obtain⟨p,mp,h1,h2,h3,vi⟩:=each x hx
   obtain⟨i,rfl⟩:=Zd vi.1
   have i1:=vi.2
   obtain⟨d,kvs,ed,dr,hd,ek,ka,kl⟩:=Fn i (by omega)
   dsimp only[G_]
   show ∃j xs,H3 x=some (HO.lst (V.int j::xs))/\0<=j/\j<1000000/\∃x_1,ys[j.toNat]?=some (V.ref x_1)/\∃x_2,H3 x_1=some (HO.dK x_2)/\((Pr.kb b (nU H3 x)).length:Int)=((x_2.length:Nat):Int)
   rw[h3]
   have er:=(Pr.ia.mp mp).2
   unfold Pr.rep at er
   cases ec:Pr.cE b (i:Int) with
   | nil=>exact absurd ec (Pr.gI gb vi)
   | cons x0 r0=>
    rw[ec] at er h1
    have er:x0=(i:Int):=er
    subst er
    exact⟨(i:Int),_,h1,by omega,by omega,d,by rw[YY];exact ed,kvs,s3 _ _ hd,by rw[kl]⟩
  ·have K8:(cs.map (nU H3)).Perm (Pr.sU b b.length):=by rw[<-emap];exact pm.map _
   refine kk p (cs.map (nU H3)) cs H4 ⟨K8,?_⟩ ((s1.trans s3).trans s4) (none_of (s1.trans s3) np) hp ?_
   ·rw[List.pairwise_map]
    exact pw.imp λ{x y} (h:((Pr.kb b (nU H3 x)).length:Int)<=((Pr.kb b (nU H3 y)).length:Int))=>by omega
   ·refine Al.of (by rw[YO,YO]) λi v q e1 e2=>?_
    rw[YT] at e1 e2
    refine(?_:let G_:Prop:=_;G_)
    intro G_
    obtain⟨x,ex,rfl⟩:=Option.map_eq_some_iff.mp e1
    dsimp only[G_]
    rw[ex] at e2
    cases e2
    refine(?_:let G_:Prop:=_;G_)
    intro G_
    obtain⟨q,mq,h1,h2,h3,vi⟩:=each x (pm.mem_iff.mp (YU ex))
    dsimp only[G_]
    rw[h3]
    exact⟨x,rfl,s4 _ _ h1,none_of s1 h2⟩
theorem fj:aM ["rows","start","spot"] ["rows","start"] (ae (top 16)):=⟨rfl,rfl,rfl,by decide +kernel,rfl,by decide +kernel,by decide +kernel⟩
theorem Hz (T:Txt K mg aA tc):bK P w K mg base (bE P w) 1 "row_with_head" ["rows","start"] EX:=by
 refine T.kJ.dW (λ_ _ _ _ _ _=>dH λ_ _=>rfl) λf fd F=>F.dZ fj (λvs H Q E h=>?_) (λcw A outer s H vs Q E hr h=>?_)
 ·obtain⟨_,_,_,rfl,_⟩:=h;rfl
 ·refine(?_:let G_:Prop:=_;G_)
  intro G_
  obtain⟨a,L,k,rfl,⟨xs,ha,al⟩,kn,HF,ne,kS,kN⟩:=h
  dsimp only[G_]
  have nd:=fj.nd
  refine⟨_,(af (bO PassesOwn.never rfl (xm rfl T.z_range (aa (pv 1) (aa (aR bz (by rfl) T.z_len Za (aa (pv 0) ag (se rfl)) (he:=se rfl) (hpl:=na rfl)) ag (se rfl)) (se rfl))) (aG (i:=2) nd rfl (Or.inl rfl)) (au (bN (aU vF (aL aO (aL aO (pv 0) (pv 2) (λ_ _=>rfl)) ao (λ_ _=>rfl)) ao (bf _)) (au (aN (pv 2)))
   bq)))
  (au (aN eJ))),?_⟩
  have lx:=al.length
  simp_all only[]
  refine⟨_,ha,by omega,by omega,by omega,by omega,bD (src_range (Ok:=λ_=>True)) (λi σ H'=>H=H'/\(∀j:Nat,k<=j->j<k+i->(L.getD j []).headD 0=0)/\∃z,σ=[some (.ref a),some (.int (k:Int)),z]) ⟨rfl,λj h1 h2=>by omega,_,rfl⟩ (λ_ _ _ _ _=>trivial) ?_ ?_⟩
  ·intro i x σ H' Yw hi dm dA
   refine(?_:let G_:Prop:=_;G_)
   intro G_
   obtain⟨rfl,hz,z,rfl⟩:=dm
   obtain⟨rfl,rfl⟩:=dA
   have Fd:k+i<L.length:=by omega
   have er:L[k+i]?=some L[k+i]:=YQ Fd
   obtain⟨q,eq,hq⟩:=nM al er
   dsimp only[G_]
   have eh:=jn (ne L[k+i] (YZ Fd))
   have eg:L.getD (k+i) []=L[k+i]:=by rw[YR,er];rfl
   have ei:((k:Int)+ (i:Int))=((k+i:Nat):Int):=by omega
   rw[ei]
   simp_all only[ha,eq,hq,eh]
   refine iG (λc=>?_) (λc=>?_)
   ·exact kS (k+i) (by omega) Fd (by rw[eg];exact c)
   ·refine⟨λj h1 h2=>?_,_,rfl⟩
    by_cases e:j=k+i
    ·rw[e,eg]
     exact Decidable.not_not.mp c
    ·exact hz j h1 (by omega)
  ·intro σ H' bB
   refine(?_:let G_:Prop:=_;G_)
   intro G_
   obtain⟨rfl,hz,z,rfl⟩:=bB
   dsimp only[G_]
   simp_all only[]
   exact kN λi h1 h2=>hz i h1 (by omega)
theorem nV:aM ["rows","one","other","turned"] ["rows","one","other"] (ae (top 17)):=⟨rfl,rfl,rfl,by decide +kernel,rfl,by decide +kernel,by decide +kernel⟩
theorem Fo (T:Txt K mg aA tc):bK P w K mg base (bE P w) 1 "swapped" ["rows","one","other"] zW:=by
 refine T.xM.dW (λ_ _ _ _ _ _=>sS λ_ _ _=>rfl) λf fd F=>F.dZ nV (λvs H Q E h=>?_) (λcw A outer s H vs Q E hr h=>?_)
 ·obtain⟨_,_,_,_,rfl,_⟩:=h;rfl
 ·refine(?_:let G_:Prop:=_;G_)
  intro G_
  obtain⟨a,L,i,j,rfl,⟨xs,ha,al⟩,hi,hj,HF,kk⟩:=h
  dsimp only[G_]
  clear G_
  have nd:=nV.nd
  refine⟨_,(af (aF (i:=3) nd rfl (Or.inl rfl) (dY (cH (K:=K)) (by rfl) T.z_list rfl (aa (pv 0) ag (se rfl)) (he:=se rfl) (hpl:=na rfl)))
  (af (eL (aL aO (pv 0) (pv 2) (λ_ _=>rfl)) (eK (pv 3) (pv 1) set_list))
  (af (eL (aL aO (pv 0) (pv 1) (λ_ _=>rfl)) (eK (pv 3) (pv 2) set_list))
  (au (aN (pv 3)))))),?_⟩
  refine(?_:let cm:TS:=_;let cn:TS:=_;let cq:TS:=_;let di:TS:=_;tSeq cm (tSeq cn (tSeq cq di)) _ _ _)
  intro cm cn cq di
  have lx:=al.length
  have ei:L[i]?=some (L.getD i []):=by rw[YR,YQ hi];rfl
  have ej:L[j]?=some (L.getD j []):=by rw[YR,YQ hj];rfl
  refine(?_:let G_:Prop:=_;G_)
  intro G_
  obtain⟨qi,ai,Vi⟩:=nM al ei
  obtain⟨qj,aj,Vj⟩:=nM al ej
  dsimp only[G_]
  clear G_
  simp_all only[ha]
  refine⟨_,.inl (aZ.of ha),λm nm=>?_⟩
  have sm:=ax (o:=.lst xs) nm
  have hm:upd H m (.lst xs) m=some (.lst xs):=ar
  generalize upd H m (.lst xs)=H1 at *
  simp_all only[sm _ _ ha,aj]
  have am:a≠m:=λe=>by rw[e,nm] at ha;cases ha
  refine⟨_,hm,i,eC (by omega),_,by rw[aE am];exact sm _ _ ha,_,ai,_,ar,j,eC (by rw[Zh];omega),?_⟩
  have s2:=aX (o:=.lst ((xs.set i (V.ref qj)).set j (V.ref qi))) (aX (o:=.lst (xs.set i (V.ref qj))) sm nm) nm
  exact kk _ _ s2 ⟨_,ar,((al.imp λ_ _ h=>h.mono s2).set ⟨qj,rfl,s2 _ _ Vj⟩).set ⟨qi,rfl,s2 _ _ Vi⟩⟩
theorem c9:aM ["rows","spot","last","head","tail","left","number","row","first"] ["rows","spot","last"] (ae (top 18)):=⟨rfl,rfl,rfl,by decide +kernel,rfl,by decide +kernel,by decide +kernel⟩
theorem HG (T:Txt K mg aA tc):bK P w K mg base (bE P w) 1 "without_first_column" ["rows","spot","last"] EY:=by
 refine T.fP.dW (λ_ _ _ _ _ _=>sS λ_ _ _=>rfl) λf fd F=>F.dZ c9 (λvs H Q E h=>?_) (λcw A outer s H vs Q E hr h=>?_)
 ·obtain⟨_,_,_,_,_,rfl,_⟩:=h;rfl
 ·refine(?_:let G_:Prop:=_;G_)
  intro G_
  obtain⟨a,L,s',l,m,rfl,⟨xs,ha,al⟩,hs,HF,KW,SF,l0,bl,bx,kk⟩:=h
  dsimp only[G_]
  clear G_
  have nd:=c9.nd
  refine⟨_,(af (aF (i:=3) nd rfl (Or.inr rfl) (aL aO (aL aO (pv 0) (pv 1) (λ_ _=>rfl)) ao (λ_ _=>rfl)))
  (af (aF (i:=4) nd rfl (Or.inl rfl) (rL (rW (K:=K)) (aL aO (pv 0) (pv 1) (λ_ _=>rfl)) (vH ao) vG))
  (af (aF (i:=5) nd rfl (Or.inl rfl) (c5 ag))
  (af (bO PassesOwn.never rfl (cG (K:=K) rfl T.z_enumerate (aa (pv 0) ag (se rfl))) (cf (K:=K) (n:=2) rfl (aT (aG (i:=6) nd rfl (Or.inl rfl)) (aT (aG (i:=7) nd rfl (Or.inl rfl)) b9))) (au (bN (aU dq (pv 6) (pv 1) (bf _)) (au (cW (fW ZD ZJ ZK cz.r (pv 5) (aa (pv 4) ag (se rfl)))))
   (af (aF (i:=8) nd rfl (Or.inr rfl) (aL aO (pv 7) ao (λ_ _=>rfl)))
  (au (cW (fW ZD ZJ ZK cz.r (pv 5) (aa (bP rfl (N:=["rows","spot","last","head","tail","left","number","row","first"]) (so:=ae (top 18)) (N':=["one","other","last","head","first"]) (k:=2) (fr:=[2,3,8]) rfl rfl ⟨rfl,by decide +kernel,by decide +kernel,by decide +kernel,rfl,by decide +kernel,by decide +kernel⟩ (jc (K:=K) rfl T.z_zip (aa (rL (rW (K:=K)) (pv 7) (vH ao) vG) (aa (pv 4) ag (se rfl)) (se rfl))) (λ_ _ _ _ _=>(cf (K:=K) (n:=2) rfl (aT (aG (i:=0) (show(["one","other","last","head","first"]:List Str).Nodup by decide +kernel) rfl (Or.inl rfl)) (aT (aG (i:=1) (show(["one","other","last","head","first"]:List Str).Nodup by decide +kernel) rfl (Or.inl rfl)) b9)))) (λ_ _ _ _ _=>bH)
   (λ_ _ _ _ _=>(aD yO (aD mC (aD aV (pv 3) (pv 0)) (aD aV (pv 4) (pv 1))) (pv 2)))) ag (se rfl)))))))))
  (au (aN (pv 5))))))),?_⟩
  refine(?_:let cm:TS:=_;let cn:TS:=_;let cq:TS:=_;let di:TS:=_;let gO:TS:=_;tSeq cm (tSeq cn (tSeq cq (tSeq di gO))) _ _ _)
  intro cm cn cq di gO
  have sl:=sizeLine_eq
  have lx:=al.length
  have es:L[s']?=some (L.getD s' []):=by rw[YR,YQ hs];rfl
  refine(?_:let G_:Prop:=_;G_)
  intro G_
  obtain⟨qs,SG,SH⟩:=nM al es
  dsimp only[G_]
  clear G_
  have ls:=SF _ (YU es)
  have bs:=bx _ (YU es)
  have hh:=jn (r:=L.getD s' []) (by omega)
  have bh:Bt 4000 ((L.getD s' []).headD 0):=bs _ (by
   cases e:L.getD s' [] with
   | nil=>rw[e] at ls;cases ls
   | cons x r=>exact YV ..)
  have hw:∀i:Nat,aJ.oK L s' l i=if i=s' then (L.getD i []).tail else List.zipWith (λone other=>((L.getD s' []).headD 0*one - (L.getD i []).headD 0*other).fdiv l) (L.getD i []).tail (L.getD s' []).tail:=λi=>rfl
  generalize (L.getD s' []).headD 0=hd at *
  generalize L.getD s' []=R at *
  change tSeq _ _ _ _ _
  refine aQ (λσ' H1=>H=H1/\σ'=[some (.ref a),some (.int (s':Int)),some (.int l),some (.int hd),none,none,none,none,none]) ?_ (λN hN=>?_)
  case refine_2=>
   simp_all only[ha,SG,SH,hh]
   exact hN _ _ ⟨rfl,rfl⟩
  rintro _ _ ⟨rfl,rfl⟩
  change tSeq _ _ _ _ _
  refine aQ (λσ' H1=>az H H1/\∃tl,H1 tl=some (.lst (List.map V.int R.tail))/\σ'=[some (.ref a),some (.int (s':Int)),some (.int l),some (.int hd),some (.ref tl),none,none,none,none]) ?_ (λN hN=>?_)
  case refine_2=>
   simp_all only[ha,SG]
   exact⟨_,aZ.of SH,λtl Vk=>hN _ _ ⟨ax Vk,tl,by rw[ar,tz],rfl⟩⟩
  intro _ H1 bB
  refine(?_:let G_:Prop:=_;G_)
  intro G_
  obtain⟨vk,tl,K9,rfl⟩:=bB
  dsimp only[G_]
  clear G_
  change tSeq _ _ _ _ _
  refine aQ (λσ' H2=>az H1 H2/\∃lf,H1 lf=none/\H2 lf=some (.lst [])/\σ'=[some (.ref a),some (.int (s':Int)),some (.int l),some (.int hd),some (.ref tl),some (.ref lf),none,none,none]) ?_ (λN hN=>?_)
  case refine_2=>
   simp_all only[]
   exact⟨Y3 _,λlf nl=>hN _ _ ⟨ax nl,lf,nl,ar,rfl⟩⟩
  intro _ H2 bB
  refine(?_:let G_:Prop:=_;G_)
  intro G_
  obtain⟨SI,lf,Ht,Vl,rfl⟩:=bB
  dsimp only[G_]
  clear G_
  have Vm:tl≠lf:=λe=>by rw[e,Ht] at K9;cases K9
  change tSeq _ _ _ _ _
  refine aQ (λσ' H3=>az H1 H3/\oh H3 lf (aJ.Jt L s' l)/\∃z1 z2 z3,σ'=[some (.ref a),some (.int (s':Int)),some (.int l),some (.int hd),some (.ref tl),some (.ref lf),z1,z2,z3]) ?_ (λN hN=>?_)
  case refine_2=>
   simp_all only[]
   refine⟨⟨_,aZ.of (SI _ _ (vk _ _ ha))⟩,bD (eX (Ok:=az H1) (λH' s=>aZ.of (s _ _ (vk _ _ ha)))) (λi σ H3=>az H1 H3/\∃ys,H3 lf=some (.lst ys)/\Al (Rw (iu H3 lf)) ((List.range i).map (aJ.oK L s' l)) ys/\∃z1 z2 z3,σ=[some (.ref a),some (.int (s':Int)),some (.int l),some (.int hd),some (.ref tl),some (.ref lf),z1,z2,z3]) ⟨SI,[],Vl,trivial,_,_,_,rfl⟩ (λ_ _ _ _ h=>h.1) ?_ ?_⟩
   ·intro i x σ H3 H4 hi dm dA
    refine(?_:let G_:Prop:=_;G_)
    intro G_
    obtain⟨Fp,ys,La,ay,z1,z2,z3,rfl⟩:=dm
    obtain⟨p,y,np,rfl,ey,rfl⟩:=dA
    obtain⟨r,er,q,rfl,hq⟩:=al.get ey
    dsimp only[G_]
    clear G_
    have ly:=ay.length
    rw[YO,Y9] at ly
    have Vn:=SF _ (YU er)
    have SJ:=bx _ (YU er)
    have gr:L.getD i []=r:=by rw[YR,er];rfl
    refine⟨p,_,rfl,eA.of ar,rfl,?_⟩
    have s4:=ax (o:=.tup [.int i,.ref q]) np
    generalize upd H3 p (.tup [.int i,.ref q])=H4 at *
    have JA:=Fp.trans s4
    have wR:=s4 _ _ La
    have SK:=JA _ _ (vk _ _ hq)
    have SM:=JA _ _ K9
    have SN:=ay.imp λ_ _ h=>h.mono (gH (p:=lf) s4)
    have eR:(List.range (i+1)).map (aJ.oK L s' l)=(List.range i).map (aJ.oK L s' l)++ [aJ.oK L s' l i]:=by rw[List.range_succ,Zc];rfl
    simp_all only[cX]
    by_cases c:i=s'
    ·rw[if_pos (by omega)]
     refine⟨.inl ⟨rfl,_,aZ.of wR⟩,_,wR,by omega,aX JA Ht,_,ar,?_,_,rfl⟩
     rw[qM,eR]
     refine SN.append (.one ⟨tl,rfl,?_⟩)
     have Vo:r=R:=by
      subst c
      rw[er] at es
      cases es
      rfl
     rw[cN Vm,SM,hw,if_pos c,gr,Vo]
    ·rw[if_neg (by omega)]
     have Vp:=jn (r:=r) (by omega)
     simp_all only[SK,Vp,cX]
     refine⟨.inl ⟨rfl,_,aZ.of wR⟩,_,aZ.of SK,λp2 Vq=>?_⟩
     have s5:=ax (o:=.lst (ou (List.map V.int r) (some 1) none)) Vq
     have qY:upd H4 p2 (.lst (ou (List.map V.int r) (some 1) none)) p2=some (.lst (List.map V.int r.tail)):=by rw[ar,tz]
     generalize upd H4 p2 (.lst (ou (List.map V.int r) (some 1) none))=H5 at *
     have Vr:=JA.trans s5
     have SO:=s5 _ _ SM
     have Vs:Bt 4000 (r.headD 0):=SJ _ (by
      cases r with
      | nil=>cases Vn
      | cons x r=>exact YV ..)
     refine⟨⟨_,aZ.of qY⟩,⟨_,aZ.of SO⟩,?_⟩
     refine gZ (K:=K) (jb (λH' s'=>aZ.of (s' _ _ qY)) (λH' s'=>aZ.of (s' _ _ SO))) (λj u v _=>∃o1 o2,r.tail[j]?=some o1/\R.tail[j]?=some o2/\u=.int o1/\v=.int o2) ?_ (by rw[YO,YO,List.length_tail,List.length_tail];omega) (λj y _=>∀o1 o2,r.tail[j]?=some o1->R.tail[j]?=some o2->y=.int ((hd*o1 - r.headD 0*o2).fdiv l)) (λ_ _ _ _ _ h=>h) ?_ ?_
     ·intro j v H6 H7 hj s6 dm
      refine(?_:let G_:Prop:=_;G_)
      intro G_
      obtain⟨t,x,y,nt,rfl,ex,G3,rfl⟩:=dm
      rw[YT] at ex G3
      obtain⟨o1,e1,rfl⟩:=Option.map_eq_some_iff.mp ex
      obtain⟨o2,e2,rfl⟩:=Option.map_eq_some_iff.mp G3
      dsimp only[G_]
      exact⟨ax nt,t,_,_,rfl,eA.of ar,o1,o2,e1,e2,rfl,rfl⟩
     ·intro j u v H6 Q2 hj s6 dA kq
      refine(?_:let G_:Prop:=_;G_)
      intro G_
      obtain⟨o1,o2,e1,e2,rfl,rfl⟩:=dA
      dsimp only[G_]
      have b1:=SJ o1 (List.mem_of_mem_tail (YU e1))
      have b2:=bs o2 (List.mem_of_mem_tail (YU e2))
      simp_all only[]
      refine⟨bh.dE b1,Vs.dE b2,vN.of l0 bl,kq _ _ (az.refl _) λ_ _ f1 f2=>?_⟩
      rw[e1] at f1
      rw[e2] at f2
      cases f1
      cases f2
      rfl
     ·intro zs H6 s6 lz hz D n1 n2
      have ez:=zV (f:=λo1 o2=>(hd*o1 - r.headD 0*o2).fdiv l) lz hz
      have Ga:=s6 _ _ (s5 _ _ wR)
      refine⟨_,ax n2 _ _ Ga,by omega,aX ((Vr.trans s6).trans (ax n2)) Ht,_,ar,?_,_,rfl⟩
      rw[qM,eR]
      refine(SN.imp λ_ _ h=>h.mono (gH ((s5.trans s6).trans (ax n2)))).append (.one ⟨D,rfl,?_⟩)
      rw[cN (λe=>by rw[e,Ga] at n2;cases n2),ar,hw,if_neg c,gr,ez]
   ·intro σ H3 bB
    refine(?_:let G_:Prop:=_;G_)
    intro G_
    obtain⟨Fp,ys,La,ay,z1,z2,z3,rfl⟩:=bB
    dsimp only[G_]
    rw[lx] at ay
    exact hN _ _ ⟨Fp,⟨ys,La,ay.imp λ_ _ h=>h.mono hG⟩,_,_,_,rfl⟩
  intro _ H3 bB
  refine(?_:let G_:Prop:=_;G_)
  intro G_
  obtain⟨Fp,hm,z1,z2,z3,rfl⟩:=bB
  dsimp only[G_]
  simp_all only[]
  exact kk _ _ (vk.trans Fp) hm
theorem tS:aM ["rows","columns","last","column","spot","head"] ["rows","columns"] (ae (top 19)):=⟨rfl,rfl,rfl,by decide +kernel,rfl,by decide +kernel,by decide +kernel⟩
theorem HH (T:Txt K mg aA tc):bK P w K mg base (bE P w) 2 "swept" ["rows","columns"] EZ:=by
 have kU:bK P w K mg base (bE P w) 1 "row_with_head" ["rows","start"] EX:=Hz T
 have xZ:bK P w K mg base (bE P w) 1 "swapped" ["rows","one","other"] zW:=Fo T
 have fV:bK P w K mg base (bE P w) 1 "without_first_column" ["rows","spot","last"] EY:=HG T
 refine T.Cd.dW (λ_ _ _ _ _ _=>dH λ_ _=>rfl) λf fd F=>F.dZ tS (λvs H Q E h=>?_) (λcw A outer s H vs Q E hr h=>?_)
 ·obtain⟨_,_,_,_,rfl,_⟩:=h;rfl
 ·refine(?_:let G_:Prop:=_;G_)
  intro G_
  obtain⟨a,L,n,m,rfl,hM,B,kk⟩:=h
  dsimp only[G_]
  have nd:=tS.nd
  refine⟨_,(af (aF (i:=2) nd rfl (Or.inl rfl) ao)
  (af (bO PassesOwn.never rfl (cy rfl T.z_range (aa (pv 1) ag (se rfl))) (aG (i:=3) nd rfl (Or.inl rfl)) (af (aF (i:=4) nd rfl (Or.inl rfl) (aH kU (hr.mono (by decide)) rfl aB.pass (aa (pv 0) (aa (pv 3) ag (se rfl)) (se rfl)) (he:=se rfl) (hpl:=na rfl)))
  (af (bN (aU um (pv 4) eJ (bf _)) (au (aN (bT (aa (pv 0) (aa (pv 3) (aa (pv 2) ag (se rfl)) (se rfl)) (se rfl)))))
   bq)
  (af (aF (i:=0) nd rfl (Or.inl rfl) (aH xZ (hr.mono (by decide)) rfl aB.pass (aa (pv 0) (aa (pv 3) (aa (pv 4) ag (se rfl)) (se rfl)) (se rfl)) (he:=se rfl) (hpl:=na rfl)))
  (af (aF (i:=5) nd rfl (Or.inl rfl) (aL aO (aL aO (pv 0) (pv 3) (λ_ _=>rfl)) ao (λ_ _=>rfl)))
  (af (aF (i:=0) nd rfl (Or.inl rfl) (aH fV (hr.mono (by decide)) rfl aB.pass (aa (pv 0) (aa (pv 3) (aa (pv 2) ag (se rfl)) (se rfl)) (se rfl)) (he:=se rfl) (hpl:=na rfl)))
  (au (aF (i:=2) nd rfl (Or.inl rfl) (pv 5)))))))))
  (au (aN (bT (aa (pv 0) (aa (pv 1) (aa (pv 2) ag (se rfl)) (se rfl)) (se rfl))))))),?_⟩
  refine(?_:let cm:TS:=_;let cn:TS:=_;let cq:TS:=_;tSeq cm (tSeq cn cq) _ _ _)
  intro cm cn cq
  have sl:=sizeLine_eq
  have Bn:=B.nm
  have Bm:=B.KW
  have hlen:(L.map aJ.fo).length=n:=by rw[YO,B.len]
  change tSeq _ _ _ _ _
  refine aQ (λσ' H1=>H=H1/\σ'=[some (.ref a),some (.int (n:Int)),some (.int 1),none,none,none]) ?_ (λN hN=>?_)
  case refine_2=>
   simp_all only[]
   exact hN _ _ ⟨rfl,rfl⟩
  rintro _ _ ⟨rfl,rfl⟩
  change tSeq _ _ _ _ _
  refine aQ (λσ' H1=>az H H1/\∃p rs W,aJ.iM (L.map aJ.fo) n n rs W/\oh H1 p (W.map λv=>aJ.bI v rs n m)/\∃z1 z2 z3,σ'=[some (.ref p),some (.int (n:Int)),some (.int (aJ.D rs (aJ.dn n))),z1,z2,z3]) ?_ (λN hN=>?_)
  case refine_2=>
   simp_all only[]
   refine⟨by omega,by omega,bD (src_range (Ok:=λ_=>True)) (λi σ H1=>az H H1/\∃p rs W,aJ.iM (L.map aJ.fo) n i rs W/\oh H1 p (W.map λv=>aJ.bI v rs i m)/\∃z1 z2 z3,σ=[some (.ref p),some (.int (n:Int)),some (.int (aJ.D rs (aJ.dn i))),z1,z2,z3]) ?_ (λ_ _ _ _ _=>trivial) ?_ ?_⟩
   ·refine⟨az.refl _,a,[],L.map aJ.fo,?_,?_,_,_,_,rfl⟩
    ·have:=aJ.iM.start (U:=L.map aJ.fo)
     rw[hlen] at this
     exact this
    ·rw[aJ.u3 B.row]
     exact hM
   ·intro k x σ H1 H2 hi dm dA
    refine(?_:let G_:Prop:=_;G_)
    intro G_
    obtain⟨vk,p,rs,W,S,hW,z1,z2,z3,rfl⟩:=dm
    obtain⟨rfl,rfl⟩:=dA
    dsimp only[G_]
    have lW:=S.len
    have hk:k<n:=by omega
    have Lb:k<m:=by omega
    have rb:∀r∈W.map (λv=>aJ.bI v rs k m),∀x∈r,Bt 4000 x:=λr hr x hx=>by
     refine(?_:let G_:Prop:=_;G_)
     intro G_
     obtain⟨v,hv,rfl⟩:=List.mem_map.mp hr
     dsimp only[G_]
     unfold aJ.bI at hx
     refine(?_:let G_:Prop:=_;G_)
     intro G_
     obtain⟨t,_,rfl⟩:=List.mem_map.mp hx
     dsimp only[G_]
     exact(B.BF _ _ _ S).2 v hv _
    have db:=(B.BF _ _ _ S).1
    have Vt:(W.map λv=>aJ.bI v rs k m).length=n:=by rw[YO,lW]
    have Fq:∀r∈W.map (λv=>aJ.bI v rs k m),r.length=(m - (k+1))+1:=λr hr=>by
     refine(?_:let G_:Prop:=_;G_)
     intro G_
     obtain⟨v,_,rfl⟩:=List.mem_map.mp hr
     dsimp only[G_]
     rw[aJ.df]
     omega
    have SQ:∀(i:Nat) (v:aJ.Fm),W[i]?=some v->((W.map λv=>aJ.bI v rs k m).getD i []).headD 0=aJ.D (v::rs) (k::aJ.dn k):=λi v e=>by
     rw[aJ.getD_map e,aJ.c6 Lb]
     rfl
    change tSeq _ _ _ _ _
    rw[ZA]
    refine aQ (λσ' H3=>H2=H3/\((aJ.pI k rs W/\σ'=[some (.ref p),some (.int (n:Int)),some (.int (aJ.D rs (aJ.dn k))),some (.int (k:Int)),some .cu,z3])\/∃i u,k<=i/\i<n/\W[i]?=some u/\aJ.D (u::rs) (k::aJ.dn k)≠0/\σ'=[some (.ref p),some (.int (n:Int)),some (.int (aJ.D rs (aJ.dn k))),some (.int (k:Int)),some (.int (Nat.cast i)),z3])) ?_ (λN Dt=>?_)
    case refine_2=>
     simp_all only[EX]
     refine⟨_,k,rfl,hW,by omega,by omega,λr hr=>by rw[Fq r hr];omega,λi h1 h2 h3=>?_,λh=>?_⟩
     ·rw[Vt] at h2
      have ei:W[i]?=some W[i]:=YQ (by omega)
      rw[SQ i _ ei] at h3
      exact Dt _ _ ⟨rfl,.inr ⟨i,_,h1,h2,ei,h3,rfl⟩⟩
     ·refine Dt _ _ ⟨rfl,.inl ⟨λu hu=>?_,rfl⟩⟩
      refine(?_:let G_:Prop:=_;G_)
      intro G_
      obtain⟨i,xV,rfl⟩:=Zo hu
      dsimp only[G_]
      rw[List.length_drop] at xV
      have ei:W[k+i]?=some W[k+i]:=YQ (by omega)
      have:=h (k+i) (by omega) (by omega)
      rw[SQ _ _ ei] at this
      rw[List.getElem_drop]
      exact this
    rintro _ _ ⟨rfl,⟨yn,rfl⟩ | ⟨i,u,h1,h2,ei,Vu,rfl⟩⟩
    ·simp_all only[]
     exact⟨by decide,λt H3 s3 nt e3=>kk t p k rs W _ S (λ_=>yn) (vk.trans s3) e3 (hW.mono s3)⟩
    ·have ek:W[k]?=some W[k]:=YQ (by omega)
     change tSeq _ _ _ _ _
     refine aQ (λσ' H3=>H2=H3/\σ'=[some (.ref p),some (.int (n:Int)),some (.int (aJ.D rs (aJ.dn k))),some (.int (k:Int)),some (.int (Nat.cast i)),z3]) ?_ (λN Dt=>?_)
     case refine_2=>
      simp_all only[]
      rw[if_neg (by simp)]
      exact Dt _ _ ⟨rfl,rfl⟩
     rintro _ _ ⟨rfl,rfl⟩
     change tSeq _ _ _ _ _
     refine aQ (λσ' H3=>az H2 H3/\∃p2,oh H3 p2 ((aJ.lZ W k i u W[k]).map λv=>aJ.bI v rs k m)/\σ'=[some (.ref p2),some (.int (n:Int)),some (.int (aJ.D rs (aJ.dn k))),some (.int (k:Int)),some (.int (Nat.cast i)),z3]) ?_ (λN Dt=>?_)
     case refine_2=>
      simp_all only[zW]
      refine⟨_,k,rfl,i,rfl,hW,by omega,by omega,by omega,λp2 H3 s3 h3=>Dt _ _ ⟨s3,p2,?_,rfl⟩⟩
      rw[aJ.Ct ei ek] at h3
      exact h3
     intro _ H3 bB
     refine(?_:let G_:Prop:=_;G_)
     intro G_
     obtain⟨Fp,p2,SR,rfl⟩:=bB
     have Kp:=aJ.zO ei ek
     have Yx:(aJ.lZ W k i u W[k]).length=n:=by unfold aJ.lZ;rw[Zh,Zh,lW]
     have Vv:∀v∈aJ.lZ W k i u W[k],v∈W:=λv hv=>by
      unfold aJ.lZ at hv
      rcases List.mem_or_eq_of_mem_set hv with h | h
      ·rcases List.mem_or_eq_of_mem_set h with h | h
       ·exact h
       ·rw[h];exact YU ei
      ·rw[h];exact YZ _
     have HI:∀r∈(aJ.lZ W k i u W[k]).map (λv=>aJ.bI v rs k m),r.length=(m - (k+1))+1:=λr hr=>by
      obtain⟨v,_,rfl⟩:=List.mem_map.mp hr
      rw[aJ.df]
      omega
     have Ft:∀r∈(aJ.lZ W k i u W[k]).map (λv=>aJ.bI v rs k m),∀x∈r,Bt 4000 x:=λr hr x hx=>by
      obtain⟨v,hv,rfl⟩:=List.mem_map.mp hr
      exact rb _ (List.mem_map.mpr ⟨v,Vv v hv,rfl⟩) x hx
     have S2:=S.step hk h1 ei ek Vu
     have ew:=aJ.zP (n:=n) S.good Lb ei ek
     have e1:((aJ.lZ W k i u W[k]).map λv=>aJ.bI v rs k m)[k]?=some (aJ.bI u rs k m):=by rw[YT,Kp];rfl
     obtain⟨xs,Vw,al⟩:=id SR
     obtain⟨q,aq,hq⟩:=nM al e1
     dsimp only[G_]
     have ah:=jn (r:=aJ.bI u rs k m) (by rw[aJ.df];omega)
     have eh:(aJ.bI u rs k m).headD 0=aJ.D (u::rs) (k::aJ.dn k):=by rw[aJ.c6 Lb];rfl
     rw[eh] at ah
     change tSeq _ _ _ _ _
     refine aQ (λσ' H4=>H3=H4/\σ'=[some (.ref p2),some (.int (n:Int)),some (.int (aJ.D rs (aJ.dn k))),some (.int (k:Int)),some (.int (Nat.cast i)),some (.int (aJ.D (u::rs) (k::aJ.dn k)))]) ?_ (λN Dt=>?_)
     case refine_2=>
      simp_all only[Vw,aq,hq,ah]
      exact Dt _ _ ⟨rfl,rfl⟩
     rintro _ _ ⟨rfl,rfl⟩
     simp_all only[EY]
     refine⟨_,k,rfl,SR,by rw[YO];omega,by rw[YO];omega,m - (k+1),by omega,HI,S.good.ne,db,Ft,λp3 H4 s4 h4=>?_⟩
     rw[ew] at h4
     exact⟨vk.trans (Fp.trans s4),_,_,_,S2,h4,rfl,rfl,_,rfl⟩
   ·intro σ H1 bB
    refine(?_:let G_:Prop:=_;G_)
    intro G_
    obtain⟨vk,p,rs,W,S,hW,z1,z2,z3,rfl⟩:=bB
    dsimp only[G_]
    exact hN _ _ ⟨vk,p,rs,W,S,hW,_,_,_,rfl⟩
  intro _ H1 bB
  refine(?_:let G_:Prop:=_;G_)
  intro G_
  obtain⟨vk,p,rs,W,S,hW,z1,z2,z3,rfl⟩:=bB
  dsimp only[G_]
  simp_all only[]
  exact⟨by decide,λt H2 s2 nt e2=>kk t p n rs W _ S (λh=>absurd h (Zj _)) (vk.trans s2) e2 (hW.mono s2)⟩
theorem fk:aM ["rows","right","done","sign"] ["rows","right"] (ae (top 20)):=⟨rfl,rfl,rfl,by decide +kernel,rfl,by decide +kernel,by decide +kernel⟩
theorem Du (T:Txt K mg aA tc):bK P w K mg base (bE P w) 3 "whole_answers" ["rows","right"] zZ:=by
 have CF:bK P w K mg base (bE P w) 2 "swept" ["rows","columns"] EZ:=HH T
 refine T.kK.dW (λ_ _ _ _ _ _=>dH λ_ _=>rfl) λf fd F=>F.dZ fk (λvs H Q E h=>?_) (λcw A outer s H vs Q E hr h=>?_)
 ·obtain⟨_,_,_,_,_,rfl,_⟩:=h;rfl
 ·refine(?_:let G_:Prop:=_;G_)
  intro G_
  obtain⟨a,c,L,S,n,rfl,hM,hc,lS,sq,B,kN,kS⟩:=h
  dsimp only[G_]
  have nd:=fk.nd
  refine⟨_,(af (aF (i:=2) nd rfl (Or.inl rfl) (aH CF (hr.mono (by decide)) rfl aB.pass (aa (bP rfl (N:=["rows","right","done","sign"]) (so:=ae (top 20)) (N':=["row","side"]) (k:=2) (fr:=[]) rfl rfl ⟨rfl,by decide +kernel,by decide +kernel,by decide +kernel,rfl,by decide +kernel,by decide +kernel⟩ (jc (K:=K) rfl T.z_zip (aa (pv 0) (aa (pv 1) ag (se rfl)) (se rfl))) (λ_ _ _ _ _=>(cf (K:=K) (n:=2) rfl (aT (aG (i:=0) (show(["row","side"]:List Str).Nodup by decide +kernel) rfl (Or.inl rfl)) (aT (aG (i:=1) (show(["row","side"]:List Str).Nodup by decide +kernel) rfl (Or.inl rfl)) b9)))) (λ_ _ _ _ _=>bH)
   (λ_ _ _ _ _=>(aD Eb (pv 0) (c5 (aa (pv 1) ag (se rfl)))))) (aa (aR bz (by rfl) T.z_len Za (aa (pv 0) ag (se rfl)) (he:=se rfl) (hpl:=na rfl)) ag (se rfl)) (se rfl)) (he:=se rfl) (hpl:=na rfl)))
  (af (bN (aU oU (aL aP (pv 2) ao (λ_ _=>rfl)) (aR bz (by rfl) T.z_len Za (aa (pv 0) ag (se rfl)) (he:=se rfl) (hpl:=na rfl)) (bf _)) (au (aN eJ))
   bq)
  (af (aF (i:=3) nd rfl (Or.inr rfl) (i4 (aU i6 (aL aP (pv 2) ao (λ_ _=>rfl)) ao (bf _)) ao (CV yv ao)))
  (au (aN (bT (aa (bP rfl (N:=["rows","right","done","sign"]) (so:=ae (top 20)) (N':=["row","sign"]) (k:=1) (fr:=[3]) rfl rfl ⟨rfl,by decide +kernel,by decide +kernel,by decide +kernel,rfl,by decide +kernel,by decide +kernel⟩ (bo (K:=K) (aL aP (pv 2) ao (λ_ _=>rfl))) (λ_ _ _ _ _=>(aG (i:=0) (show(["row","sign"]:List Str).Nodup by decide +kernel) rfl (Or.inl rfl))) (λ_ _ _ _ _=>bH)
   (λ_ _ _ _ _=>(aD aV (aL aO (pv 0) ao (λ_ _=>rfl)) (pv 1)))) (aa (aD aV (aL aP (pv 2) ao (λ_ _=>rfl)) (pv 3)) ag (se rfl)) (se rfl)))))))),?_⟩
  refine(?_:let cm:TS:=_;let cn:TS:=_;let cq:TS:=_;let di:TS:=_;tSeq cm (tSeq cn (tSeq cq di)) _ _ _)
  intro cm cn cq di
  have sl:=sizeLine_eq
  refine(?_:let G_:Prop:=_;G_)
  intro G_
  obtain⟨xs,ha,al⟩:=id hM
  dsimp only[G_]
  have lx:=al.length
  have hl:=sq.len
  have HF:n+1<=64:=B.KW
  change tSeq _ _ _ _ _
  refine aQ (λσ' H1=>az H H1/\∃t p k rs W,aJ.iM ((aJ.aug L S).map aJ.fo) n k rs W/\(k<n->aJ.pI k rs W)/\H1 t=some (.tup [.ref p,.int (Nat.cast k),.int (aJ.D rs (aJ.dn k))])/\oh H1 p (W.map λv=>aJ.bI v rs k (n+1))/\σ'=[some (.ref a),some (.ref c),some (.ref t),none]) ?_ (λN hN=>?_)
  case refine_2=>
   simp_all only[EZ]
   refine⟨⟨_,aZ.of ha⟩,⟨_,aZ.of hc⟩,?_⟩
   refine gZ (K:=K) (jb (λH' s'=>aZ.of (s' _ _ ha)) (λH' s'=>aZ.of (s' _ _ hc))) (λi u v _=>∃r x,L[i]?=some r/\S[i]?=some x/\Rw H r u/\v=.int x) ?_ (by rw[YO];omega) (λi y H'=>∀r x,L[i]?=some r->S[i]?=some x->Rw H' (r++ [x]) y) (λ_ _ _ _ s h r x e1 e2=>(h r x e1 e2).mono s) ?_ ?_
   ·intro i v H2 H3 hi s2 dm
    refine(?_:let G_:Prop:=_;G_)
    intro G_
    obtain⟨t,x,y,nt,rfl,ex,ey,rfl⟩:=dm
    rw[YT] at ey
    obtain⟨z,ez,rfl⟩:=Option.map_eq_some_iff.mp ey
    obtain⟨r,er,hr⟩:=al.get ex
    dsimp only[G_]
    exact⟨ax nt,t,_,_,rfl,eA.of ar,r,z,er,ez,hr,rfl⟩
   ·intro i u v H2 Q2 hi s2 dA kq
    refine(?_:let G_:Prop:=_;G_)
    intro G_
    obtain⟨r,x,er,ex,⟨q,rfl,hq⟩,rfl⟩:=dA
    dsimp only[G_]
    have lr:=sq.row r (YU er)
    simp_all only[GI]
    refine⟨by decide,λm nm=>⟨_,ax nm _ _ (s2 _ _ hq),_,ar,by simp only[YO,Y4,List.length_nil];omega,λp np=>kq _ _ ((ax nm).trans (ax np)) λr' x' e1 e2=>?_⟩⟩
    rw[er] at e1
    rw[ex] at e2
    cases e1
    cases e2
    exact⟨p,rfl,by rw[ar,Zc];rfl⟩
   ·intro ys H2 s2 ly hy D n1 n2
    have s3:=s2.trans (ax (o:=.lst ys) n2)
    have hm:oh (upd H2 D (.lst ys)) D (aJ.aug L S):=by
     rw[YO] at ly
     refine⟨ys,ar,Al.of (by rw[aJ.jm hl lS];omega) λi y r e1 e2=>?_⟩
     have hi:=(List.getElem?_eq_some_iff.mp e1).1
     have er:L[i]?=some L[i]:=YQ (by omega)
     have ex:S[i]?=some (S.getD i 0):=by rw[YR,YQ (by omega)];rfl
     rw[aJ.jl lS (by omega) er] at e2
     cases e2
     exact(hy i y e1 _ _ er ex).mono (ax n2)
    refine⟨_,s3 _ _ ha,aJ.aug L S,n,by omega,hm,n+1,B,λt p k rs W H3 St yn s4 h4 h5=>hN _ _ ⟨s3.trans s4,t,p,k,rs,W,St,yn,h4,h5,rfl⟩⟩
  intro _ H1 bB
  refine(?_:let G_:Prop:=_;G_)
  intro G_
  obtain⟨vk,t,p,k,rs,W,St,yn,ht,hW,rfl⟩:=bB
  dsimp only[G_]
  have Vx:=vk _ _ ha
  have kn:=St.le
  change tSeq _ _ _ _ _
  refine aQ (λσ' H2=>H1=H2/\k=n/\σ'=[some (.ref a),some (.ref c),some (.ref t),none]) ?_ (λN hN=>?_)
  case refine_2=>
   simp_all only[ht,Vx]
   exact iG (λh=>kN k rs W _ St (by omega) (yn (by omega)) vk) (λh=>hN _ _ ⟨rfl,by omega,rfl⟩)
  intro _ _ bB
  refine(?_:let G_:Prop:=_;G_)
  intro G_
  obtain⟨rfl,rfl,rfl⟩:=bB
  dsimp only[G_]
  have d0:=St.good.ne
  change tSeq _ _ _ _ _
  refine aQ (λσ' H2=>H1=H2/\σ'=[some (.ref a),some (.ref c),some (.ref t),some (.int (qZ (aJ.D rs (aJ.dn k))))]) ?_ (λN hN=>?_)
  case refine_2=>
   simp_all only[ht]
   exact iG (λh=>hN _ _ ⟨rfl,by rw[qZ,if_pos h]⟩) (λh=>hN _ _ ⟨rfl,by rw[qZ,if_neg h]⟩)
  rintro _ _ ⟨rfl,rfl⟩
  refine(?_:let G_:Prop:=_;G_)
  intro G_
  obtain⟨ws,hp,aw⟩:=id hW
  dsimp only[G_]
  have lw:=aw.length
  have lW:=St.len
  rw[YO] at lw
  simp_all only[ht,hp]
  refine⟨⟨_,aZ.of hp⟩,?_⟩
  have S':Src (vB K p) (az H1) W.length (λi x H H3=>H3=H/\ws[i]?=some x):=by
   have:=src_list (K:=K) (a:=p) (xs:=ws) (Ok:=az H1) (λH2 s2=>aZ.of (s2 _ _ hp))
   rwa [lw] at this
  refine du W (λv=>some (aJ.D (v::rs) (k::aJ.dn k)*qZ (aJ.D rs (aJ.dn k)))) S' (λ_ _ _ _ h=>h.1) (by omega) ?_ ?_
  ·rintro i v x ev ⟨_,ex⟩ Y N y1 _
   refine(?_:let G_:Prop:=_;G_)
   intro G_
   obtain⟨r',HJ,q,rfl,hq⟩:=aw.get ex
   dsimp only[G_]
   rw[YT,ev] at HJ
   cases HJ
   have hh:=jn (r:=aJ.bI v rs k (k+1)) (by rw[aJ.df];omega)
   rw[show(aJ.bI v rs k (k+1)).headD 0=aJ.D (v::rs) (k::aJ.dn k) from by rw[aJ.c6 (Zl k)];rfl] at hh
   simp_all only[gm,hq,hh]
   exact⟨zY,y1 _ rfl⟩
  ·intro D n1 n2
   refine⟨_,ax n2 _ _ ht,_,at2,_,rfl,zY,by decide,λq H2 s2 nq e2=>kS rs W q D _ St (vk.trans ((ax n2).trans s2)) e2 ?_⟩
   rw[s2 _ _ ar,E1 St]
theorem eE {H:Hp} {ws:List (Int×Int)} {xs:List V} {i:Nat} {a:Int×Int} (r:bu H (ws.map cA) xs) (e:ws[i]?=some a):∃p,xs[i]?=some (.ref p)/\H p=some (.tup [.int a.1,.int a.2]):=by
 obtain⟨x,ex,rx⟩:=r.at (d:=cA a) (i:=i) (by rw[YT,e];rfl)
 obtain⟨p,rfl,hp⟩:=cM.mp rx
 exact⟨p,ex,hp⟩
theorem gc:aM ["ways"] ["ways"] (ae (top 33)):=⟨rfl,rfl,rfl,by decide +kernel,rfl,by decide +kernel,by decide +kernel⟩
theorem AK (T:Txt K mg aA tc):bK P w K mg base (bE P w) 1 "total_weight" ["ways"] nP:=by
 refine T.m7.dW (λ_ _ _ _ _ _=>ir λ_=>rfl) λf fd F=>F.dZ gc (λvs H Q E h=>?_) (λcw A outer s H vs Q E hr h=>?_)
 ·obtain⟨_,_,rfl,_⟩:=h;rfl
 ·refine(?_:let G_:Prop:=_;G_)
  intro G_
  obtain⟨a,ws,rfl,rf,l5,kk⟩:=h
  dsimp only[G_]
  have nd:=gc.nd
  refine⟨_,(au (aN (i4 (aU i6 (aR bz (by rfl) T.z_len Za (aa (pv 0) ag (se rfl)) (he:=se rfl) (hpl:=na rfl)) ao (bf _)) (aR (j5 (K:=K)) (by rfl) T.z_sum rfl (aa (bP rfl (N:=["ways"]) (so:=ae (top 33)) (N':=["weight","to"]) (k:=2) (fr:=[]) rfl rfl ⟨rfl,by decide +kernel,by decide +kernel,by decide +kernel,rfl,by decide +kernel,by decide +kernel⟩ (bo (K:=K) (pv 0)) (λ_ _ _ _ _=>(cf (K:=K) (n:=2) rfl (aT (aG (i:=0) (show(["weight","to"]:List Str).Nodup by decide +kernel) rfl (Or.inl rfl)) (aT (aG (i:=1) (show(["weight","to"]:List Str).Nodup by decide +kernel) rfl (Or.inl rfl)) b9)))) (λ_ _ _ _ _=>bH)
   (λ_ _ _ _ _=>(pv 0))) ag (se rfl)) (he:=se rfl) (hpl:=na rfl)) ao))),?_⟩
  refine(?_:let G_:Prop:=_;G_)
  intro G_
  obtain⟨_,xs,e,ha,rl⟩:=bp.mp rf
  dsimp only[G_]
  cases e
  have lx:=rl.length
  rw[YO] at lx
  simp_all only[]
  refine⟨xs,ha,?_⟩
  by_cases c:ws=[]
  ·subst c
   have l0:xs.length=0:=lx.symm
   rw[if_neg (by omega)]
   exact kk _ (az.refl _)
  ·have l0:=List.length_pos_iff.mpr c
   rw[if_pos (by omega)]
   refine⟨⟨_,aZ.of ha⟩,?_⟩
   have S:Src (vB K a) (az H) ws.length (λi x H H3=>H3=H/\xs[i]?=some x):=by rw[lx];exact src_list (λH' s'=>aZ.of (s' _ _ ha))
   refine iJ ws (λp=>some p.1) S (λ_ _ _ _ h=>h.1) (by rw[sizeLine_eq];omega) ?_ ?_
   ·rintro i p x ep ⟨_,ex⟩
    refine(?_:let G_:Prop:=_;G_)
    intro G_
    obtain⟨t,et,ht⟩:=eE rl ep
    dsimp only[G_]
    rw[ex] at et
    cases et
    refine⟨t,_,_,rfl,eA.of ht,λY N y1 _=>?_⟩
    simp_all only[gm]
    exact y1 _ rfl
   ·intro D n1 n2
    rw[dX]
    have:=kk _ (ax (o:=.lst (List.map V.int (ws.map λp=>p.1))) n2)
    unfold Dg.tt at this
    rw[if_neg c] at this
    exact⟨_,aZ.of ar,this⟩
theorem pO (q:Int) (ws:Dg.Wy) (x:Int×Int):Dg.bV q (ws++ [x])=Dg.bV q ws+if x.2=q then x.1 else 0:=by
 unfold Dg.bV
 rw[Zc,List.sum_append]
 simp
theorem ju:aM ["part","ways","spots","spot","place","rows","row","weight","to"] ["part","ways"] (ae (top 34)):=⟨rfl,rfl,rfl,by decide +kernel,rfl,by decide +kernel,by decide +kernel⟩
theorem AL (T:Txt K mg aA tc):bK P w K mg base (bE P w) 2 "part_rows" ["part","ways"] tF:=by
 have cP:bK P w K mg base (bE P w) 1 "total_weight" ["ways"] nP:=AK T
 refine T.sN.dW (λ_ _ _ _ _ _=>dH λ_ _=>rfl) λf fd F=>F.dZ ju (λvs H Q E h=>?_) (λcw A outer s H vs Q E hr h=>?_)
 ·obtain⟨_,_,_,_,_,rfl,_⟩:=h;rfl
 ·refine(?_:let G_:Prop:=_;G_)
  intro G_
  obtain⟨x,wl,ps,xs,cL,rfl,hx,hw,rl,Gb,l40,qW,w5,kk⟩:=h
  dsimp only[G_]
  clear G_
  have nd:=ju.nd
  refine⟨_,(af (aF (i:=2) nd rfl (Or.inl rfl) yN)
  (af (bO PassesOwn.never rfl (cG (K:=K) rfl T.z_enumerate (aa (pv 0) ag (se rfl))) (cf (K:=K) (n:=2) rfl (aT (aG (i:=3) nd rfl (Or.inl rfl)) (aT (aG (i:=4) nd rfl (Or.inl rfl)) b9))) (au (vM (o8 hr) (pv 2) (pv 4) (pv 3) rfl)))
  (af (aF (i:=5) nd rfl (Or.inl rfl) (c5 ag))
  (af (bO PassesOwn.never rfl (cG (K:=K) rfl T.z_enumerate (aa (pv 0) ag (se rfl))) (cf (K:=K) (n:=2) rfl (aT (aG (i:=3) nd rfl (Or.inl rfl)) (aT (aG (i:=4) nd rfl (Or.inl rfl)) b9))) (af (aF (i:=6) nd rfl (Or.inl rfl) (aD uC (c5 (aa ao ag (se rfl))) (aR bz (by rfl) T.z_len Za (aa (pv 0) ag (se rfl)) (he:=se rfl) (hpl:=na rfl))))
  (af (eL (aH cP (hr.mono (by decide)) rfl aB.pass (aa (aL aO (pv 1) (pv 4) (λ_ _=>rfl)) ag (se rfl)) (he:=se rfl) (hpl:=na rfl)) (eK (pv 6) (pv 3) set_list))
  (af (bO PassesOwn.never rfl (bo (K:=K) (aL aO (pv 1) (pv 4) (λ_ _=>rfl))) (cf (K:=K) (n:=2) rfl (aT (aG (i:=7) nd rfl (Or.inl rfl)) (aT (aG (i:=8) nd rfl (Or.inl rfl)) b9))) (au (bN (uc (yM (o8 hr) (pv 8) (pv 2))) (au (vv (pv 6) (BJ (o8 hr) (pv 2) (pv 8) (λ_ _=>rfl)) sG (pv 7) DY set_list))
   bq)))
  (au (cW (fW ZD ZJ ZK cz.r (pv 5) (aa (pv 6) ag (se rfl)))))))))
  (au (aN (pv 5))))))),?_⟩
  refine(?_:let cm:TS:=_;let cn:TS:=_;let cq:TS:=_;let di:TS:=_;let gO:TS:=_;tSeq cm (tSeq cn (tSeq cq (tSeq di gO))) _ _ _)
  intro cm cn cq di gO
  have sl:=sizeLine_eq
  have lx:=rl.length
  rw[YO] at lx
  change tSeq _ _ _ _ _
  refine aQ (λσ' H1=>∃d,az H H1/\H d=none/\H1 d=some (.dK [])/\σ'=[some (.ref x),some (.ref wl),some (.ref d),none,none,none,none,none,none]) ?_ (λN hN=>?_)
  case refine_2=>
   simp_all only[]
   exact λd n1=>hN _ _ ⟨d,ax n1,n1,ar,rfl⟩
  intro _ H1 bB
  refine(?_:let G_:Prop:=_;G_)
  intro G_
  obtain⟨d,s1,n1,hd,rfl⟩:=bB
  dsimp only[G_]
  clear G_
  change tSeq _ _ _ _ _
  refine aQ (λσ' H2=>az H H2/\H2 d=some (.dK (gJ ps))/\∃z3 z4,σ'=[some (.ref x),some (.ref wl),some (.ref d),z3,z4,none,none,none,none]) ?_ (λN hN=>?_)
  case refine_2=>
   simp_all only[]
   refine⟨⟨_,aZ.of (s1 _ _ hx)⟩,bD (eX (K:=K) (a:=x) (xs:=ps.map V.int) (Ok:=az H) (λH' s=>aZ.of (s _ _ hx))) (λi σ H3=>az H H3/\H3 d=some (.dK (gJ (ps.take i)))/\∃z3 z4,σ=[some (.ref x),some (.ref wl),some (.ref d),z3,z4,none,none,none,none]) ⟨s1,hd,_,_,rfl⟩ (λ_ _ _ _ h=>h.1) ?_ ?_⟩
   ·intro i y σ H3 H4 hi dm dA
    refine(?_:let G_:Prop:=_;G_)
    intro G_
    obtain⟨s3,JB,z3,z4,rfl⟩:=dm
    obtain⟨q,y,nq,rfl,ey,rfl⟩:=dA
    dsimp only[G_]
    clear G_
    rw[YO] at hi
    have ep:ps[i]?=some (ps.getD i 0):=by rw[YR,YQ hi];rfl
    rw[YT,ep] at ey
    cases ey
    refine⟨q,_,rfl,eA.of ar,rfl,?_⟩
    have s4:=ax (o:=.tup [.int (i:Int),.int (ps.getD i 0)]) nq
    generalize upd H3 q (.tup [.int (i:Int),.int (ps.getD i 0)])=H4 at *
    have Hn:ps.getD i 0∉ps.take i:=by
     intro z
     refine(?_:let G_:Prop:=_;G_)
     intro G_
     obtain⟨j,hj,ej⟩:=Zo z
     dsimp only[G_]
     rw[ZG] at hj
     rw[List.getElem_take] at ej
     have eg:ps.getD i 0=ps[i]:=by rw[YR,YQ hi];rfl
     have:=(ZT Gb).mp (ej.trans eg)
     omega
    have pt:=uD.k (k:=Sum.inl (ps.getD i 0)) (v:=.int (i:Int)) (s4 _ _ JB) (by unfold gJ;rw[YO,Y9,ZG];omega)
    rw[rN _ (tG Hn),<-xT hi] at pt
    simp_all only[]
    exact⟨_,pt,aX (s3.trans s4) n1,ar,_,rfl⟩
   ·intro σ H3 bB
    refine(?_:let G_:Prop:=_;G_)
    intro G_
    obtain⟨s3,JB,z3,z4,rfl⟩:=bB
    dsimp only[G_]
    rw[YO,Zi (YS _)] at JB
    exact hN _ _ ⟨s3,JB,_,_,rfl⟩
  intro _ H2 bB
  refine(?_:let G_:Prop:=_;G_)
  intro G_
  obtain⟨s2,hd2,z3,z4,rfl⟩:=bB
  dsimp only[G_]
  clear G_
  change tSeq _ _ _ _ _
  refine aQ (λσ' H3=>∃r,az H2 H3/\H2 r=none/\H3 r=some (.lst [])/\σ'=[some (.ref x),some (.ref wl),some (.ref d),z3,z4,some (.ref r),none,none,none]) ?_ (λN hN=>?_)
  case refine_2=>
   simp_all only[]
   exact⟨Y3 _,λr n3=>hN _ _ ⟨r,ax n3,n3,ar,rfl⟩⟩
  intro _ H3 bB
  refine(?_:let G_:Prop:=_;G_)
  intro G_
  obtain⟨r,s3,nr,Vy,rfl⟩:=bB
  dsimp only[G_]
  clear G_
  change tSeq _ _ _ _ _
  refine aQ (λσ' H4=>az H2 H4/\(∃L,oh H4 r L/\Dg.iN ps (bw cL) L)/\∃z3 z4 z6 z7 z8,σ'=[some (.ref x),some (.ref wl),some (.ref d),z3,z4,some (.ref r),z6,z7,z8]) ?_ (λN hN=>?_)
  case refine_2=>
   simp_all only[]
   refine⟨⟨_,aZ.of (s3 _ _ (s2 _ _ hx))⟩,bD (eX (K:=K) (a:=x) (xs:=ps.map V.int) (Ok:=az H2) (λH' s=>aZ.of (s _ _ (s2 _ _ hx)))) (λi σ H4=>az H2 H4/\(∃(Ls:List (List Int)) (ys:List V),H4 r=some (.lst ys)/\Al (Rw (iu H4 r)) Ls ys/\Ls.length=i/\(∀row∈Ls,row.length=ps.length)/\∀a j,a<i->j<ps.length->(Ls.getD a []).getD j 0=(if a=j then Dg.tt (bw cL (ps.getD a 0)) else 0) - Dg.bV (ps.getD j 0) (bw cL (ps.getD a 0)))/\∃z3 z4 z6 z7 z8,σ=[some (.ref x),some (.ref wl),some (.ref d),z3,z4,some (.ref r),z6,z7,z8]) ⟨s3,⟨[],[],Vy,trivial,rfl,by simp,λa j h=>absurd h (ZV _)⟩,_,_,_,_,_,rfl⟩ (λ_ _ _ _ h=>h.1) ?_ ?_⟩
   ·intro i y σ H4 H5 hi dm dA
    refine(?_:let G_:Prop:=_;G_)
    intro G_
    obtain⟨s4,⟨Ls,ys,JC,JD,ll,Fu,CG⟩,z3,z4,z6,z7,z8,rfl⟩:=dm
    obtain⟨q,y,nq,rfl,ey,rfl⟩:=dA
    dsimp only[G_]
    clear G_
    rw[YO] at hi
    have ep:ps[i]?=some (ps.getD i 0):=by rw[YR,YQ hi];rfl
    rw[YT,ep] at ey
    cases ey
    have mp:ps.getD i 0∈ps:=YU ep
    obtain⟨p0,p1⟩:=qW _ mp
    have ew:cL[(ps.getD i 0).toNat]?=some (bw cL (ps.getD i 0)):=by unfold bw;rw[YR (l:=cL),YQ (show(ps.getD i 0).toNat<cL.length by omega)];rfl
    have Vz:=w5 _ (YU ew)
    generalize hp:ps.getD i 0=p at *
    generalize CH:bw cL p=ws at *
    refine⟨q,_,rfl,eA.of ar,rfl,?_⟩
    have s5:=ax (o:=.tup [.int (i:Int),.int p]) nq
    generalize upd H4 q (.tup [.int (i:Int),.int p])=H5 at *
    obtain⟨v,ev,rv⟩:=rl.at (d:=xS ws) (i:=p.toNat) (by rw[YT,ew];rfl)
    refine(?_:let G_:Prop:=_;G_)
    intro G_
    obtain⟨wv,us,rfl,AM,ru⟩:=bp.mp rv
    dsimp only[G_]
    clear G_
    have Dv:fA xs p=some (.ref wv):=by have:=bF ev;rwa [Int.toNat_of_nonneg p0] at this
    have lu:=ru.length
    rw[YO] at lu
    simp_all only[BE,nP]
    have JE:=s4.trans s5
    refine⟨by decide,λm1 k1=>?_⟩
    have s6:=ax (o:=.lst [.int 0]) k1
    have h6:upd H5 m1 (.lst [.int 0]) m1=some (.lst [.int 0]):=ar
    generalize upd H5 m1 (.lst [.int 0])=H6 at *
    have SS:(ps.map V.int).length=ps.length:=YO ..
    refine⟨_,s6 _ _ (JE _ _ (s2 _ _ hx)),_,h6,by omega,by omega,by rw[SS,YY];show 1*ps.length<=_;omega,λro k2=>?_⟩
    rw[SS,YY,List.flatten_replicate_singleton]
    have s7:=ax (o:=.lst (List.replicate ps.length (V.int 0))) k2
    have h7:upd H6 ro (.lst (List.replicate ps.length (V.int 0))) ro=some (.lst ((List.replicate ps.length 0).map V.int)):=by rw[ar,List.map_replicate]
    generalize upd H6 ro (.lst (List.replicate ps.length (V.int 0)))=H7 at *
    have Gc:=JE.trans s6
    have SU:=Gc.trans s7
    refine⟨_,SU _ _ (s2 _ _ hw),_,Dv,wv,rfl,ws,rv.mono (s2.trans SU),Vz,λH8 s8=>⟨_,s8 _ _ h7,i,eC (by rw[YO,ZN];exact hi),?_⟩⟩
    rw[<-List.map_set]
    have s9:az H6 (upd H8 ro (.lst (((List.replicate ps.length 0).set i (Dg.tt ws)).map V.int))):=aX (s7.trans s8) k2
    have h9:upd H8 ro (.lst (((List.replicate ps.length 0).set i (Dg.tt ws)).map V.int)) ro=some (.lst (((List.replicate ps.length 0).set i (Dg.tt ws)).map V.int)):=ar
    generalize upd H8 ro (.lst (((List.replicate ps.length 0).set i (Dg.tt ws)).map V.int))=H9 at *
    have VA:=Gc.trans s9
    have SV:=s2.trans VA
    refine⟨_,SV _ _ hw,_,Dv,wv,rfl,⟨_,aZ.of (SV _ _ AM)⟩,bD (src_list (K:=K) (a:=wv) (xs:=us) (Ok:=az H6) (λH' s'=>aZ.of ((s2.trans (Gc.trans s')) _ _ AM))) (λt σ HA=>az H6 HA/\(∃iO:List Int,HA ro=some (.lst (iO.map V.int))/\iO.length=ps.length/\∀j,j<ps.length->iO.getD j 0=(if i=j then Dg.tt ws else 0) - Dg.bV (ps.getD j 0) (ws.take t))/\∃z7 z8,σ=[some (.ref x),some (.ref wl),some (.ref d),some (.int (i:Int)),some (.int p),some (.ref r),some (.ref ro),z7,z8]) ⟨s9,⟨_,h9,by rw[Zh,ZN],λj hj=>?_⟩,_,_,rfl⟩ (λ_ _ _ _ h=>h.1) ?_ ?_⟩
    ·show _=_ - 0
     by_cases c:i=j
     ·subst c
      rw[Dg.c8 (by rw[ZN];exact hj),if_pos rfl]
      omega
     ·rw[Dg.cB c,if_neg c,YR,Z6,if_pos hj]
      rfl
    ·intro t y σ HA HB ht dm dA
     refine(?_:let G_:Prop:=_;G_)
     intro G_
     obtain⟨sA,⟨iO,HK,JF,ent⟩,z7,z8,rfl⟩:=dm
     obtain⟨rfl,ey⟩:=dA
     have et:ws[t]?=some ws[t]:=YQ (by omega)
     obtain⟨ta,eta,VB⟩:=eE (ru.mono (s2.trans (Gc.trans sA))) et
     dsimp only[G_]
     clear G_
     rw[ey] at eta
     cases eta
     refine⟨ta,_,rfl,eA.of VB,rfl,?_⟩
     have tk:ws.take (t+1)=ws.take t++ [ws[t]]:=by rw[Ze,et];rfl
     generalize ws[t]=xw at *
     have SW:=(Gc.trans sA) _ _ hd2
     simp_all only[yu,Jc]
     by_cases c:xw.2∈ps
     ·have lt:=ZR c
      have Lc:ps.getD (ps.idxOf xw.2) 0=xw.2:=by rw[YR,YQ lt,ZQ lt];rfl
      have sv:=Af Gb lt
      rw[Lc] at sv
      have gt:jJ HB d (.int xw.2) (some (.int (ps.idxOf xw.2:Nat))):=.inl ⟨_,Sum.inl xw.2,.inl SW,rfl,sv.symm⟩
      refine⟨some (.int (ps.idxOf xw.2:Nat)),gt,?_⟩
      rw[if_pos (by rfl)]
      generalize hk:ps.idxOf xw.2=k at *
      have Ld:fA (iO.map V.int) (k:Int)=some (.int (iO.getD k 0)):=by have:=d6 (ns:=iO) (i:=(k:Int)) (by omega) (by omega);rwa [YY] at this
      refine⟨_,gt,_,_,rfl,HK,_,Ld,_,rfl,_,_,rfl,HK,k,eC (by rw[YO];omega),aX sA k2,⟨iO.set k (iO.getD k 0 - xw.1),by rw[ar,List.map_set],by rw[Zh];exact JF,λj hj=>?_⟩,_,rfl⟩
      rw[tk,pO]
      by_cases cj:k=j
      ·subst cj
       rw[Dg.c8 (by omega),ent k hj,if_pos Lc.symm]
       omega
      ·rw[Dg.cB cj,ent j hj,if_neg (show ¬xw.2=ps.getD j 0 from λz=>cj ?_)]
       ·omega
       ·have ej:ps.getD j 0=ps[j]:=by rw[YR,YQ hj];rfl
        have ek:ps.getD k 0=ps[k]:=by rw[YR,YQ lt];rfl
        exact(ZT Gb).mp (by rw[<-ek,<-ej,Lc,z])
     ·refine⟨none,.inl ⟨_,Sum.inl xw.2,.inl SW,rfl,(tG c).symm⟩,?_⟩
      rw[if_neg (by simp)]
      refine⟨sA,⟨iO,HK,JF,λj hj=>?_⟩,_,rfl⟩
      have mj:ps.getD j 0∈ps:=by rw[YR,YQ hj];exact YZ hj
      rw[ent j hj,tk,pO,if_neg (show ¬xw.2=ps.getD j 0 from λz=>c (by rw[z];exact mj))]
      omega
    ·intro σ HA bB
     refine(?_:let G_:Prop:=_;G_)
     intro G_
     obtain⟨sA,⟨iO,HK,JF,ent⟩,z7,z8,rfl⟩:=bB
     dsimp only[G_]
     rw[Zi (by omega)] at ent
     simp_all only[cX]
     have SX:=s5.trans (s6.trans sA)
     have SY:=SX _ _ JC
     have VC:ro≠r:=λz=>by rw[z,(s5.trans s6) _ _ JC] at k2;cases k2
     have ly:=JD.length
     refine⟨.inl ⟨rfl,_,aZ.of SY⟩,ys,SY,by omega,aX (Gc.trans sA) nr,⟨Ls++ [iO],ys++ [.ref ro],ar,Rw.push (JD.imp λ_ _ k=>k.mono (gH SX)) HK VC,by rw[Zf,ll];rfl,λrow Fq=>?_,λa j ha hj=>?_⟩,_,rfl⟩
     ·rcases List.mem_append.mp Fq with h | h
      ·exact Fu row h
      ·rw[List.mem_singleton.mp h];exact JF
     ·by_cases c:a=i
      ·subst c
       rw[show(Ls++ [iO]).getD a []=iO from by rw[YR,Zv (by omega),ll,Nat.sub_self];rfl,hp,CH]
       exact ent j hj
      ·rw[show(Ls++ [iO]).getD a []=Ls.getD a [] from by rw[YR,Zw (by omega),<-YR]]
       exact CG a j (by omega) hj
   ·intro σ H4 bB
    refine(?_:let G_:Prop:=_;G_)
    intro G_
    obtain⟨s4,⟨Ls,ys,JC,JD,ll,Fu,CG⟩,z3,z4,z6,z7,z8,rfl⟩:=bB
    dsimp only[G_]
    rw[YO] at ll CG
    exact hN _ _ ⟨s4,⟨Ls,⟨ys,JC,JD.imp λ_ _ k=>k.mono hG⟩,ll,Fu,CG⟩,_,_,_,_,_,rfl⟩
  intro _ H4 bB
  refine(?_:let G_:Prop:=_;G_)
  intro G_
  obtain⟨s4,⟨L,h1,h2⟩,z3,z4,z6,z7,z8,rfl⟩:=bB
  dsimp only[G_]
  simp_all only[]
  exact kk _ _ _ (s2.trans s4) h1 h2
theorem eF:aM ["one","other","rest"] ["one","other"] (ae (top 12)):=⟨rfl,rfl,rfl,by decide +kernel,rfl,by decide +kernel,by decide +kernel⟩
theorem Dw (T:Txt K mg aA tc):bK P w K mg base (bE P w) 1 "common_divisor" ["one","other"] xU:=by
 refine T.jP.dW (λ_ _ _ _ _ _=>dH λ_ _=>rfl) λf fd F=>F.dZ eF (λvs H Q E h=>?_) (λcw A outer s H vs Q E hr h=>?_)
 ·obtain⟨_,_,rfl,_⟩:=h;rfl
 ·refine(?_:let G_:Prop:=_;G_)
  intro G_
  obtain⟨a,b,rfl,k⟩:=h
  dsimp only[G_]
  have nd:=eF.nd
  refine⟨_,(af (aF (i:=0) nd rfl (Or.inl rfl) (aR mF (by rfl) T.z_abs rfl (aa (pv 0) ag (se rfl)) (he:=se rfl) (hpl:=na rfl)))
  (af (aF (i:=1) nd rfl (Or.inl rfl) (aR mF (by rfl) T.z_abs rfl (aa (pv 1) ag (se rfl)) (he:=se rfl) (hpl:=na rfl)))
  (af (i5 PassesOwn.never (aU vF (pv 1) ao (bf _)) (af (aF (i:=2) nd rfl (Or.inl rfl) (aD cQ (pv 0) (pv 1)))
  (af (aF (i:=0) nd rfl (Or.inl rfl) (pv 1))
  (au (aF (i:=1) nd rfl (Or.inl rfl) (pv 2))))))
  (au (aN (pv 0)))))),?_⟩
  refine(?_:let cm:TS:=_;let cn:TS:=_;let cq:TS:=_;let di:TS:=_;tSeq cm (tSeq cn (tSeq cq di)) _ _ _)
  intro cm cn cq di
  simp_all only[]
  refine rG (λσ H1=>H1=H/\∃(x y:Int) (z:Option V),σ=[some (.int x),some (.int y),z]/\0<=x/\0<=y/\Nm.g x y=Nm.g a b) (λσ _=>match σ with | [_,some (.int y),_]=>y.toNat | _=>0) ?_ ?_ ?_
  ·refine⟨rfl,_,_,_,rfl,?_,?_,?_⟩
   ·split <;>omega
   ·split <;>omega
   ·rw[show(if a<0 then -a else a)=(a.natAbs:Int) by split <;>omega,show(if b<0 then -b else b)=(b.natAbs:Int) by split <;>omega,Nm.yR,Nm.vO]
  ·intro σ H1 bB
   refine(?_:let G_:Prop:=_;G_)
   intro G_
   obtain⟨rfl,x,y,z,rfl,x0,y0,e⟩:=bB
   dsimp only[G_]
   simp_all only[]
   refine iG (λc=>?_) (λc=>?_)
   ·refine⟨by omega,y0,ZE _ (by omega),by rw[Nm.yS x0 (by omega),e],?_⟩
    have:=ZX x (show 0<y by omega)
    have:=ZE x (show y≠0 by omega)
    omega
   ·have z:y=0:=by omega
    subst z
    rw[Nm.yT x0] at e
    rw[e]
    exact k
  ·intro σ H1 Q1 Q2 hq hc
   simp only[L2.start,Pr,tRev,tD1,tDPop1,tSl,tNoPart,tPart,rSlL,tDIn,tDNotIn,gSub,rSetL,tLst,tDNewK,tComp,L2.stC,tFor_eq,iList,iTup,iRng1,iRng2,iZip,iEnum,iDict,iStr,tChain,tSumV,tBM,rJoin,tJoined,jNil,jLit,jInt,jStr,tRaise,tDGet,tDGet2,tDGet1,sDPut,Option.join_some,List.getElem?_nil,tSeq,tRet,tRetN,tIfS,tTest,tB,tOp,tUn,tVar,tC,tCB,tCons,tNil,tCall,tTupS,tAsg,gName,gNil,gCons,tPar,tNext,tDrop,tAnd,tOr,tNot,tAndV,tOrV,tNotV,tIf,rI,rI0,rU,rIxTH,rIxLH,rEqT,rNeT,rInT,rEq,rNe,scal_ss,scal_ii,scal_bb,scal_si,scal_is,CPow,at0,at1,at2,Zb,List.map_nil,Y4,List.length_nil,Nat.reduceSub,Nat.reduceAdd,ZI,List.replicate_zero,List.reduceReplicate,ZM,List.nil_append,List.cons_append,Z7,Z4,Z1,Z2,Option.some.injEq,exists_eq_left',exists_eq_left,V.ref.injEq,V.int.injEq,V.bl.injEq,V.str.injEq,V.ty.injEq,HO.tup.injEq,HO.lst.injEq,List.cons.injEq,and_true,true_and,and_assoc,exists_and_left,decide_eq_true_eq,Bool.not_eq_true',decide_eq_false_iff_not,ite_true,ite_false,if_true,if_false,Int.reduceToNat,eq_self_iff_true] at hc ⊢
   refine(?_:let G_:Prop:=_;G_)
   intro G_
   obtain⟨v,e1,e2,q⟩:=hc
   dsimp only[G_]
   exact⟨v,e1,e2,hq _ _ q⟩
theorem fm:aM ["several","common","one"] ["several"] (ae (top 14)):=⟨rfl,rfl,rfl,by decide +kernel,rfl,by decide +kernel,by decide +kernel⟩
theorem HL (T:Txt K mg aA tc):bK P w K mg base (bE P w) 2 "common_bottom" ["several"] E3:=by
 have dB:bK P w K mg base (bE P w) 1 "common_divisor" ["one","other"] xU:=Dw T
 refine T.kI.dW (λ_ _ _ _ _ _=>ir λ_=>rfl) λf fd F=>F.dZ fm (λvs H Q E h=>?_) (λcw A outer s H vs Q E hr h=>?_)
 ·obtain⟨_,_,_,rfl,_⟩:=h;rfl
 ·refine(?_:let G_:Prop:=_;G_)
  intro G_
  obtain⟨a,ws,Z,rfl,rf,lw,dv,Z0,bZ,kk⟩:=h
  dsimp only[G_]
  have nd:=fm.nd
  refine⟨_,(af (aF (i:=1) nd rfl (Or.inl rfl) ao)
  (af (bO PassesOwn.never rfl (bo (K:=K) (pv 0)) (aG (i:=2) nd rfl (Or.inl rfl)) (au (aF (i:=1) nd rfl (Or.inl rfl) (aD aV (aD dF (pv 1) (aH dB (hr.mono (by decide)) rfl aB.pass (aa (pv 1) (aa (aL aP (pv 2) ao (λ_ _=>rfl)) ag (se rfl)) (se rfl)) (he:=se rfl) (hpl:=na rfl))) (aL aP (pv 2) ao (λ_ _=>rfl))))))
  (au (aN (pv 1))))),?_⟩
  refine(?_:let cm:TS:=_;let cn:TS:=_;let cq:TS:=_;tSeq cm (tSeq cn cq) _ _ _)
  intro cm cn cq
  refine(?_:let G_:Prop:=_;G_)
  intro G_
  obtain⟨_,xs,e,ha,rl⟩:=bp.mp rf
  dsimp only[G_]
  cases e
  have lx:=rl.length
  rw[YO] at lx
  simp_all only[xU]
  refine⟨⟨_,aZ.of ha⟩,bD (src_list (Ok:=λH'=>H'=H) (λH2 s2=>by rw[s2];exact aZ.of ha)) (λi σ H'=>H'=H/\∃z,σ=[some (V.ref a),some (V.int (Wq.eP 1 (ws.take i))),z]) ⟨rfl,_,rfl⟩ (λ_ _ _ _ h=>h.1) ?_ ?_⟩
  ·intro i v σ H1 H2 hi dm dA
   refine(?_:let G_:Prop:=_;G_)
   intro G_
   obtain⟨rfl,z,rfl⟩:=dm
   obtain⟨rfl,ex⟩:=dA
   have xV:i<ws.length:=by omega
   have ew:ws[i]?=some ws[i]:=YQ xV
   obtain⟨p,ep,hp⟩:=eE rl ew
   dsimp only[G_]
   rw[ex] at ep
   cases ep
   have tk:ws.take (i+1)=ws.take i++ [ws[i]]:=by rw[Ze,ew];rfl
   refine(?_:let G_:Prop:=_;G_)
   intro G_
   obtain⟨l1,l2,l3,l4⟩:=Wq.lQ (xs:=ws.take i) (c:=1) (by decide) λx hx=>(dv x (List.mem_of_mem_take hx)).1
   dsimp only[G_]
   have lz:=l4 (Z:=Z) ⟨Z,by omega⟩ λx hx=>(dv x (List.mem_of_mem_take hx)).2
   have dw:=dv _ (YZ xV)
   have b1:Bt 2000 (Wq.eP 1 (ws.take i)):=bZ.le (by have:=ZO Z0 lz;omega)
   have b2:Bt 2000 (ws[i]).2:=bZ.le (by have:=ZO Z0 dw.2;omega)
   have g0:0<Nm.g (Wq.eP 1 (ws.take i)) (ws[i]).2:=Nm.mN (by omega)
   have bg:Bt 2000 (Nm.g (Wq.eP 1 (ws.take i)) (ws[i]).2):=b2.le (by have:=Nm.Ep (a:=Wq.eP 1 (ws.take i)) dw.1;omega)
   simp_all only[xU,hp]
   exact⟨eV.of g0 bg,Bt.dE (b1.le (Nm.eW g0 (Nm.lK _ _))) b2,by rw[tk,Wq.pC];rfl,_,rfl⟩
  ·intro σ H1 bB
   refine(?_:let G_:Prop:=_;G_)
   intro G_
   obtain⟨rfl,z,rfl⟩:=bB
   dsimp only[G_]
   simp_all only[]
   rw[Zi (by omega)]
   exact kk
theorem tT:aM ["top","bottom","divisor"] ["top","bottom"] (ae (top 13)):=⟨rfl,rfl,rfl,by decide +kernel,rfl,by decide +kernel,by decide +kernel⟩
theorem HM (T:Txt K mg aA tc):bK P w K mg base (bE P w) 2 "share" ["top","bottom"] E2:=by
 have dB:bK P w K mg base (bE P w) 1 "common_divisor" ["one","other"] xU:=Dw T
 refine T.Cc.dW (λ_ _ _ _ _ _=>dH λ_ _=>rfl) λf fd F=>F.dZ tT (λvs H Q E h=>?_) (λcw A outer s H vs Q E hr h=>?_)
 ·obtain⟨_,_,rfl,_⟩:=h;rfl
 ·refine(?_:let G_:Prop:=_;G_)
  intro G_
  obtain⟨a,b,rfl,bt,b0,kq⟩:=h
  dsimp only[G_]
  have nd:=tT.nd
  refine⟨_,(af (bN (aU dq (pv 1) ao (bf _)) (au mv)
   bq)
  (af (aF (i:=2) nd rfl (Or.inl rfl) (aH dB (hr.mono (by decide)) rfl aB.pass (aa (pv 0) (aa (pv 1) ag (se rfl)) (se rfl)) (he:=se rfl) (hpl:=na rfl)))
  (af (bN (aU oU (pv 1) ao (bf _)) (au (aF (i:=2) nd rfl (Or.inl rfl) (CV yv (pv 2))))
   bq)
  (au (aN (bT (aa (aD dF (pv 0) (pv 2)) (aa (aD dF (pv 1) (pv 2)) ag (se rfl)) (se rfl)))))))),?_⟩
  refine(?_:let cm:TS:=_;let cn:TS:=_;let cq:TS:=_;let di:TS:=_;tSeq cm (tSeq cn (tSeq cq di)) _ _ _)
  intro cm cn cq di
  have g0:0<Nm.g a b:=Nm.mN (by omega)
  have gb:Bt 5000 (Nm.g a b):=bt.le (by have:=Nm.yU (a:=a) (show b≠0 by omega);omega)
  unfold Nm.st Nm.sb at kq
  rw[if_neg (show ¬b<0 by omega),if_neg (show ¬b<0 by omega)] at kq
  simp_all only[xU]
  rw[if_neg (by omega),if_neg (by omega)]
  exact⟨eV.of g0 gb,eV.of g0 gb,by decide,λp H2 s1 n1 e=>kq p H2 s1 n1 e⟩
theorem nW:aM ["place"] ["place"] (ae (top 36)):=⟨rfl,rfl,rfl,by decide +kernel,rfl,by decide +kernel,by decide +kernel⟩
theorem HN (T:Txt K mg aA tc):bK P w K mg base (bE P w) 1 "gain_of" ["place"] E5:=by
 refine T.xN.dW (λ_ _ _ _ _ _=>ir λ_=>rfl) λf fd F=>F.dZ nW (λvs H Q E h=>?_) (λcw A outer s H vs Q E hr h=>?_)
 ·obtain⟨_,_,rfl,_⟩:=h;rfl
 ·refine(?_:let G_:Prop:=_;G_)
  intro G_
  obtain⟨a,q,rfl,rq,kk⟩:=h
  dsimp only[G_]
  have nd:=nW.nd
  refine⟨_,(au (aN (i4 (aU dq (aL aP (pv 0) ao (λ_ _=>rfl)) dc (bf _)) (bT (aa ao (aa ao ag (se rfl)) (se rfl))) (aL aP (pv 0) ao (λ_ _=>rfl))))),?_⟩
  cases q with
  | fin g=>
   refine(?_:let G_:Prop:=_;G_)
   intro G_
   obtain⟨t',r,e,x6,xY⟩:=de.mp rq
   dsimp only[G_]
   cases e
   simp_all only[x6]
   rw[if_neg (by decide +kernel)]
   exact kk _ _ (az.refl _) xY
  | eO g ws=>
   refine(?_:let G_:Prop:=_;G_)
   intro G_
   obtain⟨t',r,l,zs,e,x6,xY,Ba,rz⟩:=cY.mp rq
   dsimp only[G_]
   cases e
   simp_all only[x6]
   rw[if_neg (by decide +kernel)]
   exact kk _ _ (az.refl _) xY
  | dR w to=>
   refine(?_:let G_:Prop:=_;G_)
   intro G_
   obtain⟨t',l,e,x6,Ba⟩:=cZ.mp rq
   dsimp only[G_]
   cases e
   simp_all only[x6]
   exact⟨by decide,λp H2 s2 _ e2=>kk _ _ s2 e2⟩
theorem fq:aM ["self","tops","bottom"] ["self","tops","bottom"] (ae (inClass (top 35) 0)):=⟨rfl,rfl,rfl,by decide +kernel,rfl,by decide +kernel,by decide +kernel⟩
theorem wV (T:Txt K mg aA tc):mX P w K mg base (bE P w) 1 "Book" aA ["self","tops","bottom"] (Ag aA):=by
 refine T.Cf.dW (λ_ _ _ _ _ _=>sS λ_ _ _=>rfl) λf fd F=>F.dZ fq (λvs H Q E h=>?_) (λcw A outer s H vs Q E hr h=>?_)
 ·obtain⟨_,_,_,_,_,rfl,_⟩:=h;rfl
 ·refine(?_:let G_:Prop:=_;G_)
  intro G_
  obtain⟨x,dx,l,ts,b,rfl,hx,hl,kk⟩:=h
  dsimp only[G_]
  have nd:=fq.nd
  refine⟨_,(af (yB (pv 0) (dY (cH (K:=K)) (by rfl) T.z_list rfl (aa (pv 1) ag (se rfl)) (he:=se rfl) (hpl:=na rfl)) rfl)
  (au (yB (pv 0) (pv 2) rfl))),?_⟩
  simp_all only[Gz]
  refine⟨_,.inl (aZ.of hl),λm nm=>?_⟩
  have mx:m≠x:=λz=>by rw[z,hx] at nm;cases nm
  have VD:upd H m (.lst (ts.map V.int)) x=some (.ins aA dx []):=by rw[aE (Ne.symm mx)];exact hx
  refine⟨_,_,_,VD,T.bL,T.na_Book_tops,by decide,_,_,_,ar,T.bL,T.na_Book_bottom,by show(1:Nat)<1000;decide,?_⟩
  refine kk m _ nm ?_ ?_ ?_
  ·rw[aE mx,aE mx,ar]
  ·rw[ar]
   show some (HO.ins aA dx (if Str.ofString "tops"=Str.ofString "bottom" then _ else _))=_
   rw[if_neg (by decide +kernel)]
   rfl
  ·intro y o ny hy
   have ym:y≠m:=λz=>by rw[z,nm] at hy;cases hy
   rw[aE ny,aE ny,aE ym]
   exact hy
theorem nX:aM ["several","bottom"] ["several"] (ae (top 37)):=⟨rfl,rfl,rfl,by decide +kernel,rfl,by decide +kernel,by decide +kernel⟩
theorem HP (T:Txt K mg aA tc):bK P w K mg base (bE P w) 3 "book_of" ["several"] (E6 aA):=by
 have kW:bK P w K mg base (bE P w) 2 "common_bottom" ["several"] E3:=HL T
 have iP:mX P w K mg base (bE P w) 1 "Book" aA ["self","tops","bottom"] (Ag aA):=wV T
 refine T.xO.dW (λ_ _ _ _ _ _=>ir λ_=>rfl) λf fd F=>F.dZ nX (λvs H Q E h=>?_) (λcw A outer s H vs Q E hr h=>?_)
 ·obtain⟨_,_,_,rfl,_⟩:=h;rfl
 ·refine(?_:let G_:Prop:=_;G_)
  intro G_
  obtain⟨a,ws,Z,rfl,rf,lw,dv,Z0,bZ,kk⟩:=h
  dsimp only[G_]
  clear G_
  have nd:=nX.nd
  refine⟨_,(af (aF (i:=1) nd rfl (Or.inr rfl) (aH kW (hr.mono (by decide)) rfl aB.pass (aa (pv 0) ag (se rfl)) (he:=se rfl) (hpl:=na rfl)))
  (au (aN (vY iP (hr.mono (by decide)) rfl aB.pass (aa (bP rfl (N:=["several","bottom"]) (so:=ae (top 37)) (N':=["one","bottom"]) (k:=1) (fr:=[1]) rfl rfl ⟨rfl,by decide +kernel,by decide +kernel,by decide +kernel,rfl,by decide +kernel,by decide +kernel⟩ (bo (K:=K) (pv 0)) (λ_ _ _ _ _=>(aG (i:=0) (show(["one","bottom"]:List Str).Nodup by decide +kernel) rfl (Or.inl rfl))) (λ_ _ _ _ _=>bH)
   (λ_ _ _ _ _=>(aD aV (aL aP (pv 0) ao (λ_ _=>rfl)) (aD dF (pv 1) (aL aP (pv 0) ao (λ_ _=>rfl)))))) (aa (pv 1) ag (se rfl)) (se rfl)) (he:=se rfl) (hpl:=na rfl))))),?_⟩
  simp_all only[E3,oV]
  refine⟨ws,rf,lw,Z,λx hx=>⟨(dv x hx).1,(dv x hx).2.1⟩,Z0,bZ,?_⟩
  refine(?_:let G_:Prop:=_;G_)
  intro G_
  obtain⟨_,xs,e,ha,rl⟩:=bp.mp rf
  dsimp only[G_]
  clear G_
  cases e
  have lx:=rl.length
  rw[YO] at lx
  refine⟨⟨_,aZ.of ha⟩,?_⟩
  refine(?_:let G_:Prop:=_;G_)
  intro G_
  obtain⟨l1,l2,l3,l4⟩:=Wq.lQ (xs:=ws) (c:=1) (by decide) λx hx=>(dv x hx).1
  dsimp only[G_]
  clear G_
  have lz:=l4 (Z:=Z) ⟨Z,by omega⟩ λx hx=>(dv x hx).2.1
  have b1:Bt 2000 (Wq.eP 1 ws):=bZ.le (by have:=ZO Z0 lz;omega)
  have S:Src (vB K a) (az H) ws.length (λi x H H3=>H3=H/\xs[i]?=some x):=by rw[lx];exact src_list (λH' s'=>aZ.of (s' _ _ ha))
  refine du ws (λx=>some (Wq.sc (Wq.eP 1 ws) x)) S (λ_ _ _ _ h=>h.1) (by rw[sizeLine_eq];omega) ?_ ?_
  ·rintro i x v ep ⟨_,ex⟩ Y N y1 _
   refine(?_:let G_:Prop:=_;G_)
   intro G_
   obtain⟨t,et,ht⟩:=eE rl ep
   dsimp only[G_]
   rw[ex] at et
   cases et
   have dx:=dv x (YU ep)
   have b2:Bt 2000 x.2:=bZ.le (by have:=ZO Z0 dx.2.1;omega)
   simp_all only[gm,ht]
   exact⟨eV.of dx.1 b2,Bt.dE dx.2.2 (b1.le (Nm.eW dx.1 (l3 x (YU ep)))),y1 _ rfl⟩
  ·intro D n1 n2 x dx nx Le ne
   rw[dX] at nx Le ⊢
   have s1:=ax (H:=H) (o:=.lst (List.map V.int (ws.map (Wq.sc (Wq.eP 1 ws))))) n2
   have hD:upd H D (.lst (List.map V.int (ws.map (Wq.sc (Wq.eP 1 ws))))) D=some _:=ar
   have s2:=s1.trans (ax (o:=.own x) Le)
   have Fv:=ax (o:=.own x) Le _ _ hD
   generalize upd H D (.lst (List.map V.int (ws.map (Wq.sc (Wq.eP 1 ws)))))=H1 at *
   have xD:D≠x:=λz=>by rw[z,nx] at hD;cases hD
   refine⟨x,dx,D,_,_,rfl,ar,by rw[aE xD];exact Fv,λm H' nm hm kD ky=>⟨rfl,kk x H' (λy o hy=>?_) ⟨dx,m,kD,hm⟩⟩⟩
   have yx:y≠x:=λz=>by have:=s1 _ _ hy;rw[z,nx] at this;cases this
   exact ky y o yx (by rw[aE yx];exact s2 _ _ hy)
theorem Dx {a b:V}:List.lookup (Str.ofString "scaled") [(("tops":Str),a),(("bottom":Str),b)]=none:=rfl
theorem iy {a b:V}:List.lookup (Str.ofString "tops") [(("tops":Str),a),(("bottom":Str),b)]=some a:=rfl
theorem tU {a b:V}:List.lookup (Str.ofString "bottom") [(("tops":Str),a),(("bottom":Str),b)]=some b:=rfl
theorem gP:aM ["self","factor"] ["self","factor"] (ae (inClass (top 35) 1)):=⟨rfl,rfl,rfl,by decide +kernel,rfl,by decide +kernel,by decide +kernel⟩
theorem AN (T:Txt K mg aA tc):jd P w K mg base (bE P w) 3 aA "scaled" ["self","factor"] (Ah aA):=by
 have iP:mX P w K mg base (bE P w) 1 "Book" aA ["self","tops","bottom"] (Ag aA):=wV T
 refine T.m9.dW (λ_ _ _ _ _ _=>dH λ_ _=>rfl) λf fd F=>F.dZ gP (λvs H Q E h=>?_) (λcw A outer s H vs Q E hr h=>?_)
 ·obtain⟨_,_,_,rfl,_⟩:=h;rfl
 ·refine(?_:let G_:Prop:=_;G_)
  intro G_
  obtain⟨x,S,d,rfl,⟨dx,m,hx,hm⟩,bd,bb,bt,ln,kk⟩:=h
  dsimp only[G_]
  clear G_
  have nd:=gP.nd
  refine⟨_,(au (aN (vY iP (hr.mono (by decide)) rfl aB.pass (aa (bP rfl (N:=["self","factor"]) (so:=ae (inClass (top 35) 1)) (N':=["top","factor"]) (k:=1) (fr:=[1]) rfl rfl ⟨rfl,by decide +kernel,by decide +kernel,by decide +kernel,rfl,by decide +kernel,by decide +kernel⟩ (bo (K:=K) (dt (pv 0) rfl)) (λ_ _ _ _ _=>(aG (i:=0) (show(["top","factor"]:List Str).Nodup by decide +kernel) rfl (Or.inl rfl))) (λ_ _ _ _ _=>bH)
   (λ_ _ _ _ _=>(aD aV (pv 0) (pv 1)))) (aa (aD aV (dt (pv 0) rfl) (pv 1)) ag (se rfl)) (se rfl)) (he:=se rfl) (hpl:=na rfl)))),?_⟩
  simp_all only[i7,oV]
  refine⟨_,_,_,hx,T.bL,T.na_Book_tops,_,iy,m,rfl,⟨_,aZ.of hm⟩,?_⟩
  have S':Src (vB K m) (az H) S.1.length (λi x H H3=>H3=H/\(S.1.map V.int)[i]?=some x):=by
   have:=src_list (K:=K) (a:=m) (xs:=S.1.map V.int) (Ok:=az H) (λH' s'=>aZ.of (s' _ _ hm))
   rwa [YO] at this
  refine du S.1 (λt=>some (t*d)) S' (λ_ _ _ _ h=>h.1) (by rw[sizeLine_eq];omega) ?_ ?_
  ·rintro i t v et ⟨_,ex⟩ Y N y1 _
   rw[YT,et] at ex
   cases ex
   simp_all only[gm]
   exact⟨(bt t (YU et)).dE bd,y1 _ rfl⟩
  ·intro D n1 n2
   rw[dX]
   have s1:=ax (H:=H) (o:=.lst (List.map V.int (S.1.map (·*d)))) n2
   have hD:upd H D (.lst (List.map V.int (S.1.map (·*d)))) D=some (.lst (List.map V.int (S.1.map (·*d)))):=ar
   generalize upd H D (.lst (List.map V.int (S.1.map (·*d))))=H1 at *
   refine⟨_,_,_,s1 _ _ hx,T.bL,T.na_Book_bottom,_,tU,_,rfl,bb.dE bd,λy dy ny Dy ne=>?_⟩
   have s2:=s1.trans (ax (o:=.own y) Dy)
   have Fv:=ax (o:=.own y) Dy _ _ hD
   have xD:D≠y:=λz=>by rw[z,ny] at hD;cases hD
   refine⟨y,dy,D,_,_,rfl,ar,by rw[aE xD];exact Fv,λm' H' nm Bc kD ky=>⟨rfl,kk y dy m' H' (λz o hz=>?_) (none_of s1 ny) ?_ kD Bc⟩⟩
   ·have yx:z≠y:=λe=>by have:=s1 _ _ hz;rw[e,ny] at this;cases this
    exact ky z o yx (by rw[aE yx];exact s2 _ _ hz)
   ·have my:m'≠y:=λe=>by rw[e,ar] at nm;cases nm
    rw[aE my] at nm
    exact none_of s2 nm
theorem eG:aM ["self"] ["self"] (ae (inClass (top 35) 2)):=⟨rfl,rfl,rfl,by decide +kernel,rfl,by decide +kernel,by decide +kernel⟩
theorem Dz (T:Txt K mg aA tc):jd P w K mg base (bE P w) 3 aA "as_shares" ["self"] (E4 aA):=by
 have CI:bK P w K mg base (bE P w) 2 "share" ["top","bottom"] E2:=HM T
 refine T.jf.dW (λ_ _ _ _ _ _=>ir λ_=>rfl) λf fd F=>F.dZ eG (λvs H Q E h=>?_) (λcw A outer s H vs Q E hr h=>?_)
 ·obtain⟨_,_,rfl,_⟩:=h;rfl
 ·refine(?_:let G_:Prop:=_;G_)
  intro G_
  obtain⟨x,S,rfl,⟨dx,m,hx,hm⟩,b0,bb,ln,kk⟩:=h
  dsimp only[G_]
  have nd:=eG.nd
  refine⟨_,(au (aN (bP rfl (N:=["self"]) (so:=ae (inClass (top 35) 2)) (N':=["top","self"]) (k:=1) (fr:=[0]) rfl rfl ⟨rfl,by decide +kernel,by decide +kernel,by decide +kernel,rfl,by decide +kernel,by decide +kernel⟩ (bo (K:=K) (dt (pv 0) rfl)) (λ_ _ _ _ _=>(aG (i:=0) (show(["top","self"]:List Str).Nodup by decide +kernel) rfl (Or.inl rfl))) (λ_ _ _ _ _=>bH)
   (λ_ _ _ _ _=>(aH CI (hr.mono (by decide)) rfl aB.pass (aa (pv 0) (aa (qu (K:=K) (pv 1) rfl) ag (se rfl)) (se rfl)) (he:=se rfl) (hpl:=na rfl)))))),?_⟩
  simp_all only[i7]
  refine⟨_,_,_,hx,T.bL,T.na_Book_tops,_,iy,m,rfl,⟨_,aZ.of hm⟩,?_⟩
  refine comp_map (src_list (K:=K) (a:=m) (xs:=S.1.map V.int) (Ok:=az H) (λH' s'=>aZ.of (s' _ _ hm))) (λ_ _ _ _ h=>by rw[h.1];exact az.refl _) (by rw[YO,sizeLine_eq];omega) (λi y H4=>∀t,S.1[i]?=some t->∃p,y=.ref p/\H4 p=some (.tup (Pr (Wq.low t S.2).1 (Wq.low t S.2).2))) (λi y H4 H5 s5 h t e=>by obtain⟨p,e1,h1⟩:=h t e;exact⟨p,e1,s5 _ _ h1⟩) ?_ ?_
  ·rintro i v w0 H4 H5 Q2 hi s4 ⟨rfl,ex⟩ kq
   rw[YT] at ex
   refine(?_:let G_:Prop:=_;G_)
   intro G_
   obtain⟨t,et,rfl⟩:=Option.map_eq_some_iff.mp ex
   dsimp only[G_]
   simp_all only[E2,i7]
   refine⟨_,_,_,s4 _ _ hx,T.bL,T.na_Book_bottom,_,tU,_,rfl,bb,b0,λp H6 s6 n6 h6=>kq _ _ s6 λt' e'=>?_⟩
   rw[et] at e'
   cases e'
   exact⟨p,rfl,h6⟩
  ·intro ys H5 s5 ly hy D n1 n2
   rw[YO] at ly
   refine kk D _ (s5.trans (ax n2)) (none_of s5 n2) (bp.mpr ⟨D,ys,rfl,ar,eZ (by rw[YO];exact ly) λi y ey q eq=>?_⟩)
   rw[YT] at eq
   refine(?_:let G_:Prop:=_;G_)
   intro G_
   obtain⟨t,et,rfl⟩:=Option.map_eq_some_iff.mp eq
   obtain⟨p,e1,h1⟩:=hy i y ey t et
   dsimp only[G_]
   exact cM.mpr ⟨p,e1,ax n2 _ _ h1⟩
theorem DB {a b:V}:List.lookup (Str.ofString "as_shares") [(("tops":Str),a),(("bottom":Str),b)]=none:=rfl
theorem jv:aM ["rows","column"] ["rows","column"] (ae (top 21)):=⟨rfl,rfl,rfl,by decide +kernel,rfl,by decide +kernel,by decide +kernel⟩
theorem Fw (T:Txt K mg aA tc):bK P w K mg base (bE P w) 1 "column_of" ["rows","column"] Aa:=by
 refine T.sM.dW (λ_ _ _ _ _ _=>dH λ_ _=>rfl) λf fd F=>F.dZ jv (λvs H Q E h=>?_) (λcw A outer s H vs Q E hr h=>?_)
 ·obtain⟨_,_,_,rfl,_⟩:=h;rfl
 ·refine(?_:let G_:Prop:=_;G_)
  intro G_
  obtain⟨a,L,c,rfl,⟨xs,ha,al⟩,HF,hc,kk⟩:=h
  dsimp only[G_]
  have nd:=jv.nd
  refine⟨_,(au (aN (bP rfl (N:=["rows","column"]) (so:=ae (top 21)) (N':=["row","column"]) (k:=1) (fr:=[1]) rfl rfl ⟨rfl,by decide +kernel,by decide +kernel,by decide +kernel,rfl,by decide +kernel,by decide +kernel⟩ (bo (K:=K) (pv 0)) (λ_ _ _ _ _=>(aG (i:=0) (show(["row","column"]:List Str).Nodup by decide +kernel) rfl (Or.inl rfl))) (λ_ _ _ _ _=>bH)
   (λ_ _ _ _ _=>(aL aO (pv 0) (pv 1) (λ_ _=>rfl)))))),?_⟩
  have sl:=sizeLine_eq
  have lx:=al.length
  simp_all only[]
  refine⟨⟨_,aZ.of ha⟩,?_⟩
  have S:Src (vB K a) (az H) L.length (λi x H H3=>H3=H/\xs[i]?=some x):=by
   have:=src_list (K:=K) (a:=a) (xs:=xs) (Ok:=az H) (λH2 s2=>aZ.of (s2 _ _ ha))
   rwa [lx] at this
  refine du L (λr=>some (r.getD c 0)) S (λ_ _ _ _ h=>h.1) (by omega) ?_ ?_
  ·rintro i r x er ⟨_,ex⟩ Y N y1 _
   refine(?_:let G_:Prop:=_;G_)
   intro G_
   obtain⟨r',HJ,q,rfl,hq⟩:=al.get ex
   dsimp only[G_]
   rw[er] at HJ
   cases HJ
   have ai:=EW (hc r (YU er))
   simp_all only[gm,hq,ai]
   exact y1 _ rfl
  ·intro D n1 n2
   refine kk _ _ (ax n2) ?_
   rw[ar,show List.filterMap (λr:List Int=>some (r.getD c 0)) L=L.map λr=>r.getD c 0 from by rw[List.filterMap_eq_map']]
theorem gQ:aM ["rows"] ["rows"] (ae (top 22)):=⟨rfl,rfl,rfl,by decide +kernel,rfl,by decide +kernel,by decide +kernel⟩
theorem Fx (T:Txt K mg aA tc):bK P w K mg base (bE P w) 2 "turned_rows" ["rows"] Ab:=by
 have tV:bK P w K mg base (bE P w) 1 "column_of" ["rows","column"] Aa:=Fw T
 refine T.oF.dW (λ_ _ _ _ _ _=>ir λ_=>rfl) λf fd F=>F.dZ gQ (λvs H Q E h=>?_) (λcw A outer s H vs Q E hr h=>?_)
 ·obtain⟨_,_,_,rfl,_⟩:=h;rfl
 ·refine(?_:let G_:Prop:=_;G_)
  intro G_
  obtain⟨a,L,n,rfl,hM,sq,HF,kk⟩:=h
  dsimp only[G_]
  have nd:=gQ.nd
  refine⟨_,(au (aN (bP rfl (N:=["rows"]) (so:=ae (top 22)) (N':=["column","rows"]) (k:=1) (fr:=[0]) rfl rfl ⟨rfl,by decide +kernel,by decide +kernel,by decide +kernel,rfl,by decide +kernel,by decide +kernel⟩ (cy rfl T.z_range (aa (aR bz (by rfl) T.z_len Za (aa (pv 0) ag (se rfl)) (he:=se rfl) (hpl:=na rfl)) ag (se rfl))) (λ_ _ _ _ _=>(aG (i:=0) (show(["column","rows"]:List Str).Nodup by decide +kernel) rfl (Or.inl rfl))) (λ_ _ _ _ _=>bH)
   (λ_ _ _ _ _=>(aH tV (hr.mono (by decide)) rfl aB.pass (aa (pv 1) (aa (pv 0) ag (se rfl)) (se rfl)) (he:=se rfl) (hpl:=na rfl)))))),?_⟩
  have sl:=sizeLine_eq
  refine(?_:let G_:Prop:=_;G_)
  intro G_
  obtain⟨xs,ha,al⟩:=id hM
  dsimp only[G_]
  have lx:=al.length
  have hl:=sq.len
  simp_all only[ha]
  refine⟨by omega,by omega,?_⟩
  rw[show((xs.length:Int)).toNat=n by omega]
  refine comp_map src_range (λ_ _ _ _ h=>by rw[h.1];exact az.refl _) (by omega) (λi y H2=>Rw H2 (L.map λr:List Int=>r.getD i 0) y) (λi y H2 H3 s3 h=>Rw.mono s3 h) ?_ ?_
  ·rintro i x w0 H2 H3 Q2 hi s2 ⟨rfl,rfl⟩ kq
   simp_all only[Aa]
   refine⟨L,i,ZA _,hM.mono s2,by omega,λr hr=>by rw[sq.row r hr];exact hi,λp H4 s4 h4=>kq _ _ s4 ⟨p,rfl,h4⟩⟩
  ·intro ys H2 s2 ly hy D n1 n2
   refine kk _ _ (s2.trans (ax n2)) ⟨ys,ar,?_⟩
   refine Al.of (by rw[(aJ.zN sq).len];exact ly) λi y r e1 e2=>?_
   have hi:i<n:=by rw[<-ly];exact(List.getElem?_eq_some_iff.mp e1).1
   rw[aJ.wq sq hi] at e2
   cases e2
   exact(hy i y e1).mono (ax n2)
theorem ft:aM ["board","part","product","place"] ["board","part"] (ae (top 29)):=⟨rfl,rfl,rfl,by decide +kernel,rfl,by decide +kernel,by decide +kernel⟩
theorem Fy (T:Txt K mg aA tc):bK P w K mg base (bE P w) 1 "ways_of_picks" ["board","part"] vb:=by
 refine T.kL.dW (λ_ _ _ _ _ _=>dH λ_ _=>rfl) λf fd F=>F.dZ ft (λvs H Q E h=>?_) (λcw A outer s H vs Q E hr h=>?_)
 ·obtain⟨_,_,_,_,rfl,_⟩:=h;rfl
 ·refine(?_:let G_:Prop:=_;G_)
  intro G_
  obtain⟨a,x,b,ps,rfl,rb,hx,vi,ok,yd,kk⟩:=h
  dsimp only[G_]
  clear G_
  have nd:=ft.nd
  refine⟨_,(af (aF (i:=2) nd rfl (Or.inl rfl) ao)
  (af (bO PassesOwn.never rfl (bo (K:=K) (pv 1)) (aG (i:=3) nd rfl (Or.inl rfl)) (au (bN (aU dq (aL aP (aL aO (pv 0) (pv 3) (λ_ _=>rfl)) ao (λ_ _=>rfl)) dc (bf _)) (au (aF (i:=2) nd rfl (Or.inl rfl) (aD aV (pv 2) (aR bz (by rfl) T.z_len Za (aa (aL aP (aL aO (pv 0) (pv 3) (λ_ _=>rfl)) ao (λ_ _=>rfl)) ag (se rfl)) (he:=se rfl) (hpl:=na rfl)))))
   bq)))
  (au (aN (pv 2))))),?_⟩
  refine(?_:let cm:TS:=_;let cn:TS:=_;let cq:TS:=_;tSeq cm (tSeq cn cq) _ _ _)
  intro cm cn cq
  refine(?_:let G_:Prop:=_;G_)
  intro G_
  obtain⟨_,xs,e,ha,rl⟩:=bp.mp rb
  dsimp only[G_]
  clear G_
  cases e
  simp_all only[]
  refine⟨⟨_,aZ.of hx⟩,bD (src_list (Ok:=λH'=>H'=H) (λH2 s2=>by rw[s2];exact aZ.of hx)) (λi σ H'=>H'=H/\∃(k:Nat) (z:Option V),jT b k (ps.drop i)=jT b 1 ps/\σ=[some (V.ref a),some (V.ref x),some (V.int (k:Int)),z]) ⟨rfl,1,_,rfl,rfl⟩ (λ_ _ _ _ h=>h.1) ?_ ?_⟩
  ·intro i y σ H1 H2 hi dm dA
   refine(?_:let G_:Prop:=_;G_)
   intro G_
   obtain⟨rfl,k,z,ki,rfl⟩:=dm
   obtain⟨rfl,ex⟩:=dA
   dsimp only[G_]
   clear G_
   rw[YO] at hi
   rw[YT,YQ hi] at ex
   cases ex
   rw[List.drop_eq_getElem_cons hi] at ki
   have ip:=vi _ (YZ hi)
   generalize ps[i]=p at *
   obtain⟨p,rfl⟩:=Zd ip.1
   have hp:p<b.length:=by have:=ip.2;omega
   have eb:b[p]?=some b[p]:=YQ hp
   refine(?_:let G_:Prop:=_;G_)
   intro G_
   obtain⟨v,ev,rv⟩:=g8 rl eb
   dsimp only[G_]
   clear G_
   have ki:jT b (k*wB b (p:Int)) (ps.drop (i+1))=jT b 1 ps:=ki
   have ek:wB b (p:Int)=match b[p] with | .dR _ to=>to.length | _=>1:=by
    unfold wB
    rw[YY,eb]
    cases b[p] <;>rfl
   have k1:k<=4096:=by
    have:=wD ok (ps.drop (i+1)) (k*wB b (p:Int))
    have:=Nat.le_mul_of_pos_right k (u6 ok (p:Int)).1
    omega
   have pq:=ok _ (YZ hp)
   rw[ek] at ki
   generalize b[p]=q at *
   cases q with
   | fin g=>
    refine(?_:let G_:Prop:=_;G_)
    intro G_
    obtain⟨t,r,rfl,ht,_⟩:=de.mp rv
    dsimp only[G_]
    simp_all only[ha,show fA xs (p:Int)=some (.ref t) from bF ev,ht]
    rw[if_neg (by decide +kernel)]
    exact⟨k,by rw[<-ki,Nat.mul_one],rfl,_,rfl⟩
   | eO g ws=>
    refine(?_:let G_:Prop:=_;G_)
    intro G_
    obtain⟨t,r,l,zs,rfl,ht,_⟩:=cY.mp rv
    dsimp only[G_]
    simp_all only[ha,show fA xs (p:Int)=some (.ref t) from bF ev,ht]
    rw[if_neg (by decide +kernel)]
    exact⟨k,by rw[<-ki,Nat.mul_one],rfl,_,rfl⟩
   | dR vT to=>
    refine(?_:let G_:Prop:=_;G_)
    intro G_
    obtain⟨t,l,rfl,ht,hl⟩:=cZ.mp rv
    dsimp only[G_]
    simp_all only[ha,show fA xs (p:Int)=some (.ref t) from bF ev,ht,hl]
    have lt:(List.map V.int to).length=to.length:=YO ..
    have l4:=pq.2.2.1
    rw[lt]
    exact⟨(Bt.of (n:=13) 4096 (by omega) (by omega)).dE (Bt.of (n:=3) 4 (by omega) (by omega)),k*to.length,ki,by rw[Int.natCast_mul],_,rfl⟩
  ·intro σ H1 bB
   refine(?_:let G_:Prop:=_;G_)
   intro G_
   obtain⟨rfl,k,z,ki,rfl⟩:=bB
   dsimp only[G_]
   rw[YO,List.drop_length] at ki
   have ki:k=jT b 1 ps:=ki
   simp_all only[]
   rw[ki]
   exact kk
theorem fu:aM ["board","left","found","part"] ["board"] (ae (top 30)):=⟨rfl,rfl,rfl,by decide +kernel,rfl,by decide +kernel,by decide +kernel⟩
theorem AO (T:Txt K mg aA tc) (LB:mY base mg tc tp):bK P w K mg base (bE P w) 6 "checked_parts" ["board"] (nQ tp):=by
 have Fz:bK P w K mg base (bE P w) 5 "ring" ["board"] uU:=CD T
 have CJ:bK P w K mg base (bE P w) 3 "parts" ["board"] (AJ tp):=Fl T LB
 have kX:bK P w K mg base (bE P w) 1 "ways_of_picks" ["board","part"] vb:=Fy T
 refine T.kM.dW (λ_ _ _ _ _ _=>ir λ_=>rfl) λf fd F=>F.dZ fu (λvs H Q E h=>?_) (λcw A outer s H vs Q E hr h=>?_)
 ·obtain⟨_,_,_,rfl,_⟩:=h;rfl
 ·refine(?_:let G_:Prop:=_;G_)
  intro G_
  obtain⟨a,b,rk,rfl,rb,B,j8,kk⟩:=h
  dsimp only[G_]
  have nd:=fu.nd
  refine⟨_,(af (aF (i:=1) nd rfl (Or.inl rfl) (aH Fz (hr.mono (by decide)) rfl aB.pass (aa (pv 0) ag (se rfl)) (he:=se rfl) (hpl:=na rfl)))
  (af (bN (aU i6 (aR bz (by rfl) T.z_len Za (aa (pv 1) ag (se rfl)) (he:=se rfl) (hpl:=na rfl)) ao (bf _)) (au mv)
   bq)
  (af (aF (i:=2) nd rfl (Or.inl rfl) (aH CJ (hr.mono (by decide)) rfl aB.pass (aa (pv 0) ag (se rfl)) (he:=se rfl) (hpl:=na rfl)))
  (af (bO PassesOwn.never rfl (bo (K:=K) (pv 2)) (aG (i:=3) nd rfl (Or.inl rfl)) (au (bN (PW.pt (pw_or (aU i6 (aR bz (by rfl) T.z_len Za (aa (pv 3) ag (se rfl)) (he:=se rfl) (hpl:=na rfl)) (sr rfl T.c_MOST_PLACES) (bf _)) (pw_or1 (aU i6 (aH kX (hr.mono (by decide)) rfl aB.pass (aa (pv 0) (aa (pv 3) ag (se rfl)) (se rfl)) (he:=se rfl) (hpl:=na rfl)) (sr rfl T.c_MOST_PICKS) (bf _))))) (au mv)
   bq)))
  (au (aN (pv 2))))))),?_⟩
  refine(?_:let cm:TS:=_;let cn:TS:=_;let cq:TS:=_;let di:TS:=_;let gO:TS:=_;tSeq cm (tSeq cn (tSeq cq (tSeq di gO))) _ _ _)
  intro cm cn cq di gO
  have bl:=B.len
  simp_all only[uU,AJ]
  refine⟨b,rb,B.bd,λl H1 s1 n1 hl=>⟨_,hl,?_⟩⟩
  rw[B.jB.ring]
  rw[if_neg (by simp)]
  refine⟨b,rb.mono s1,by omega,B.rR,B.jB.good,s1 _ _ j8,λl2 ps as H2 td s2 n2 F2 al=>?_⟩
  have S1:Al (λp v=>∃x,v=.ref x/\H2 x=some (.lst ((Pr.cE b p).map V.int))) ps (as.map V.ref):=by
   refine Al.of al.length λi v p ev ep=>?_
   refine(?_:let G_:Prop:=_;G_)
   intro G_
   obtain⟨p',Bl,x,rfl,hx,_⟩:=al.get ev
   dsimp only[G_]
   rw[ep] at Bl
   cases Bl
   exact⟨x,rfl,hx⟩
  have Gd:=s1.trans s2
  refine⟨⟨_,aZ.of F2⟩,bD (src_list (Ok:=λH'=>H'=H2) (λH3 s3=>by rw[s3];exact aZ.of F2)) (λi σ H'=>H'=H2/\∃z,σ=[some (V.ref a),some (V.ref l),some (V.ref l2),z]) ⟨rfl,_,rfl⟩ (λ_ _ _ _ h=>h.1) ?_ ?_⟩
  ·intro i y σ H3 H4 hi dm dA
   refine(?_:let G_:Prop:=_;G_)
   intro G_
   obtain⟨rfl,z,rfl⟩:=dm
   obtain⟨rfl,ex⟩:=dA
   obtain⟨p,ep,x,rfl,hx⟩:=S1.get ex
   dsimp only[G_]
   have ip:=td.De (YU ep)
   have lp:(Pr.cE b p).length<=b.length:=by
    have:=Pr.sub_len (l:=Pr.cE b p) (m:=Pr.kb b p) ((Pr.iL B.jB.good ip).imp λh z=>by omega) λx hx=>(Pr.c4.mp hx).1
    have:=Pr.zB B.jB.good ip
    omega
   simp_all only[vb,hx]
   rw[if_neg (by rw[YO];omega)]
   have cp:=B.yd p ip
   refine⟨b,rb.mono Gd,Pr.cE b p,rfl,λq hq=>Pr.dz B.jB.good ip hq,B.ok,cp,?_⟩
   rw[if_neg (by omega)]
   exact⟨_,rfl⟩
  ·intro σ H3 bB
   refine(?_:let G_:Prop:=_;G_)
   intro G_
   obtain⟨rfl,z,rfl⟩:=bB
   dsimp only[G_]
   simp_all only[]
   exact kk l2 ps as _ td Gd (none_of s1 n2) F2 S1
theorem fv:aM ["place","way"] ["place","way"] (ae (top 31)):=⟨rfl,rfl,rfl,by decide +kernel,rfl,by decide +kernel,by decide +kernel⟩
theorem FA (T:Txt K mg aA tc):bK P w K mg base (bE P w) 1 "weighted_ways" ["place","way"] wH:=by
 refine T.kO.dW (λ_ _ _ _ _ _=>dH λ_ _=>rfl) λf fd F=>F.dZ fv (λvs H Q E h=>?_) (λcw A outer s H vs Q E hr h=>?_)
 ·obtain⟨_,_,_,rfl,_⟩:=h;rfl
 ·refine(?_:let G_:Prop:=_;G_)
  intro G_
  obtain⟨v,q,k,rfl,rv,pk,kk⟩:=h
  dsimp only[G_]
  have nd:=fv.nd
  refine⟨_,(af (bN (aU dq (aL aP (pv 0) ao (λ_ _=>rfl)) dc (bf _)) (au (aN (aL aP (pv 0) ao (λ_ _=>rfl))))
   bq)
  (af (bN (aU dq (aL aP (pv 0) ao (λ_ _=>rfl)) dc (bf _)) (au (aN (c5 (aa (bT (aa ao (aa (aL aO (aL aP (pv 0) ao (λ_ _=>rfl)) (pv 1) (λ_ _=>rfl)) ag (se rfl)) (se rfl))) ag (se rfl)))))
   bq)
  (au (aN (c5 ag))))),?_⟩
  refine(?_:let cm:TS:=_;let cn:TS:=_;let cq:TS:=_;tSeq cm (tSeq cn cq) _ _ _)
  intro cm cn cq
  cases q with
  | fin g=>
   refine(?_:let G_:Prop:=_;G_)
   intro G_
   obtain⟨t,r,rfl,ht,_⟩:=de.mp rv
   dsimp only[G_]
   simp_all only[ht]
   rw[if_neg (by decide +kernel),if_neg (by decide +kernel)]
   exact⟨Y3 _,λl nl=>kk l _ (ax nl) (bp.mpr ⟨l,[],rfl,ar,rfl⟩)⟩
  | eO g ws=>
   refine(?_:let G_:Prop:=_;G_)
   intro G_
   obtain⟨t,r,l,zs,rfl,ht,_,hl,rz⟩:=cY.mp rv
   dsimp only[G_]
   simp_all only[ht]
   exact kk l _ (az.refl _) (bp.mpr ⟨l,zs,rfl,hl,rz⟩)
  | dR vT to=>
   refine(?_:let G_:Prop:=_;G_)
   intro G_
   obtain⟨t,l,rfl,ht,hl⟩:=cZ.mp rv
   dsimp only[G_]
   cases k with
   | none=>exact pk.elim
   | some k=>
    obtain⟨k0,k1⟩:=pk
    have at1:fA (to.map V.int) k=some (.int (to.getD k.toNat 0)):=d6 k0 k1
    simp_all only[fc,ht,hl,at1]
    rw[if_neg (by decide +kernel)]
    exact⟨by decide,λp H2 s2 np hp=>⟨by decide,λl2 nl=>kk l2 _ (s2.trans (ax nl)) (bp.mpr ⟨l2,[.ref p],rfl,ar,⟨_,_,rfl,cM.mpr ⟨p,rfl,ax nl _ _ hp⟩,rfl⟩⟩)⟩⟩
theorem dM:aM ["board","picks"] ["board","picks"] (ae (top 32)):=⟨rfl,rfl,rfl,by decide +kernel,rfl,by decide +kernel,by decide +kernel⟩
theorem DC (T:Txt K mg aA tc):bK P w K mg base (bE P w) 2 "all_weighted_ways" ["board","picks"] An:=by
 have kY:bK P w K mg base (bE P w) 1 "weighted_ways" ["place","way"] wH:=FA T
 refine T.il.dW (λ_ _ _ _ _ _=>dH λ_ _=>rfl) λf fd F=>F.dZ dM (λvs H Q E h=>?_) (λcw A outer s H vs Q E hr h=>?_)
 ·obtain⟨_,_,_,_,rfl,_⟩:=h;rfl
 ·refine(?_:let G_:Prop:=_;G_)
  intro G_
  obtain⟨a,c,b,ks,rfl,rb,lb,hc,⟨lk,pk⟩,kk⟩:=h
  dsimp only[G_]
  have nd:=dM.nd
  refine⟨_,(au (aN (bP rfl (N:=["board","picks"]) (so:=ae (top 32)) (N':=["place","way"]) (k:=2) (fr:=[]) rfl rfl ⟨rfl,by decide +kernel,by decide +kernel,by decide +kernel,rfl,by decide +kernel,by decide +kernel⟩ (jc (K:=K) rfl T.z_zip (aa (pv 0) (aa (pv 1) ag (se rfl)) (se rfl))) (λ_ _ _ _ _=>(cf (K:=K) (n:=2) rfl (aT (aG (i:=0) (show(["place","way"]:List Str).Nodup by decide +kernel) rfl (Or.inl rfl)) (aT (aG (i:=1) (show(["place","way"]:List Str).Nodup by decide +kernel) rfl (Or.inl rfl)) b9)))) (λ_ _ _ _ _=>bH)
   (λ_ _ _ _ _=>(aH kY (hr.mono (by decide)) rfl aB.pass (aa (pv 0) (aa (pv 1) ag (se rfl)) (se rfl)) (he:=se rfl) (hpl:=na rfl)))))),?_⟩
  have sl:=sizeLine_eq
  refine(?_:let G_:Prop:=_;G_)
  intro G_
  obtain⟨_,xs,e,ha,rl⟩:=bp.mp rb
  dsimp only[G_]
  cases e
  have lx:=rl.length
  rw[YO] at lx
  simp_all only[wH]
  refine⟨⟨_,aZ.of ha⟩,⟨_,aZ.of hc⟩,?_⟩
  refine gZ (K:=K) (jb (λH' s'=>aZ.of (s' _ _ ha)) (λH' s'=>aZ.of (s' _ _ hc))) (λi u v H'=>∃q k,b[i]?=some q/\ks[i]?=some k/\Rep H (oC q) u/\v=fc k) ?_ (by rw[YO];omega) (λi y H'=>∃l,y=.ref l/\∀q k,b[i]?=some q->ks[i]?=some k->Rep H' (xS (yf q k)) (.ref l)) (λ_ _ _ _ s ⟨l,e,h⟩=>⟨l,e,λq k e1 e2=>(h q k e1 e2).mono s⟩) ?_ ?_
  ·intro i v H2 H3 hi s2 dm
   refine(?_:let G_:Prop:=_;G_)
   intro G_
   obtain⟨t,x,y,nt,rfl,ex,ey,rfl⟩:=dm
   rw[YT] at ey
   obtain⟨k,ek,rfl⟩:=Option.map_eq_some_iff.mp ey
   obtain⟨q,eq,rq⟩:=d8 rl ex
   dsimp only[G_]
   exact⟨ax nt,t,_,_,rfl,eA.of ar,q,k,eq,ek,rq,rfl⟩
  ·intro i u v H2 Q2 hi s2 dA kq
   refine(?_:let G_:Prop:=_;G_)
   intro G_
   obtain⟨q,k,eq,ek,rq,rfl⟩:=dA
   dsimp only[G_]
   simp_all only[wH]
   refine⟨q,k,rfl,rq.mono s2,pk i q k eq ek,λl H3 s3 r3=>kq _ _ s3 ⟨l,rfl,λq' k' e1 e2=>?_⟩⟩
   rw[eq] at e1
   rw[ek] at e2
   cases e1
   cases e2
   exact r3
  ·intro ys H2 s2 ly hy D n1 n2
   rw[YO] at ly
   have lz:(dh b ks).length=b.length:=by unfold dh;rw[List.length_zipWith];omega
   refine kk D ys _ (s2.trans (ax n2)) (none_of s2 n2) ar (eZ (by rw[lz];omega) λi y ey ws ew=>?_)
   have hi:i<b.length:=by have:=(List.getElem?_eq_some_iff.mp ew).1;omega
   refine(?_:let G_:Prop:=_;G_)
   intro G_
   obtain⟨l,rfl,hl⟩:=hy i y ey
   dsimp only[G_]
   have e1:b[i]?=some b[i]:=YQ hi
   have e2:ks[i]?=some ks[i]:=YQ (by omega)
   have e3:ws=yf b[i] ks[i]:=by
    unfold dh at ew
    rw[List.getElem?_zipWith,e1,e2] at ew
    exact(Zg ew).symm
   rw[e3]
   exact(hl _ _ e1 e2).mono (λa o h=>by
    have:a≠D:=λz=>by rw[z,n2] at h;cases h
    rw[cN this,aE this]
    exact h)
theorem kj:aM ["board"] ["board"] (ae (top 38)):=⟨rfl,rfl,rfl,by decide +kernel,rfl,by decide +kernel,by decide +kernel⟩
theorem FC (T:Txt K mg aA tc):bK P w K mg base (bE P w) 4 "gains_of" ["board"] (Ao aA):=by
 have x8:bK P w K mg base (bE P w) 1 "gain_of" ["place"] E5:=HN T
 have x9:bK P w K mg base (bE P w) 3 "book_of" ["several"] (E6 aA):=HP T
 refine T.uR.dW (λ_ _ _ _ _ _=>ir λ_=>rfl) λf fd F=>F.dZ kj (λvs H Q E h=>?_) (λcw A outer s H vs Q E hr h=>?_)
 ·obtain⟨_,_,_,rfl,_⟩:=h;rfl
 ·refine(?_:let G_:Prop:=_;G_)
  intro G_
  obtain⟨a,b,rk,rfl,rb,B,kk⟩:=h
  dsimp only[G_]
  have nd:=kj.nd
  refine⟨_,(au (aN (aH x9 (hr.mono (by decide)) rfl aB.pass (aa (bP rfl (N:=["board"]) (so:=ae (top 38)) (N':=["place"]) (k:=1) (fr:=[]) rfl rfl ⟨rfl,by decide +kernel,by decide +kernel,by decide +kernel,rfl,by decide +kernel,by decide +kernel⟩ (bo (K:=K) (pv 0)) (λ_ _ _ _ _=>(aG (i:=0) (show(["place"]:List Str).Nodup by decide +kernel) rfl (Or.inl rfl))) (λ_ _ _ _ _=>bH)
   (λ_ _ _ _ _=>(aH x8 (hr.mono (by decide)) rfl aB.pass (aa (pv 0) ag (se rfl)) (he:=se rfl) (hpl:=na rfl)))) ag (se rfl)) (he:=se rfl) (hpl:=na rfl)))),?_⟩
  simp_all only[E6]
  refine(?_:let G_:Prop:=_;G_)
  intro G_
  obtain⟨_,xs,e,ha,rl⟩:=bp.mp rb
  dsimp only[G_]
  cases e
  have lx:=rl.length
  rw[YO] at lx
  have bl:=B.len
  refine⟨⟨_,aZ.of ha⟩,?_⟩
  refine comp_map (src_list (K:=K) (a:=a) (xs:=xs) (Ok:=az H) (λH' s'=>aZ.of (s' _ _ ha))) (λ_ _ _ _ h=>by rw[h.1];exact az.refl _) (by rw[sizeLine_eq];omega) (λi y H4=>∀q,b[i]?=some q->∃p,y=.ref p/\H4 p=some (.tup (Pr (Wq.cv q).1 (Wq.cv q).2))) (λi y H4 H5 s5 h t e=>by obtain⟨p,e1,h1⟩:=h t e;exact⟨p,e1,s5 _ _ h1⟩) ?_ ?_
  ·rintro i v w0 H4 H5 Q2 hi s4 ⟨rfl,ex⟩ kq
   refine(?_:let G_:Prop:=_;G_)
   intro G_
   obtain⟨q,eq,rq⟩:=d8 rl ex
   dsimp only[G_]
   simp_all only[E5]
   refine⟨q,rq.mono s4,λr H6 s6 VE=>kq _ _ s6 λq' e'=>?_⟩
   rw[eq] at e'
   cases e'
   exact⟨r,rfl,VE⟩
  ·intro ys H5 s5 ly hy D n1 n2
   refine(?_:let G_:Prop:=_;G_)
   intro G_
   obtain⟨p1,p2,p3⟩:=Ak B.wF
   dsimp only[G_]
   rw[YO] at p2
   refine⟨b.map Wq.cv,bp.mpr ⟨D,ys,rfl,ar,eZ (by rw[YO];omega) λi y ey q eq=>?_⟩,by rw[YO];omega,pB (b.map Wq.cv),λx hx=>?_,p1,p2.mono (by omega),λx H6 s6 VF=>kk x H6 (s5.trans ((ax n2).trans s6)) VF⟩
   ·rw[YT] at eq
    refine(?_:let G_:Prop:=_;G_)
    intro G_
    obtain⟨t,et,rfl⟩:=Option.map_eq_some_iff.mp eq
    obtain⟨p,e1,h1⟩:=hy i y ey t et
    dsimp only[G_]
    exact cM.mpr ⟨p,e1,ax n2 _ _ h1⟩
   ·have g:=B.wF x hx
    exact⟨g.2.2.1,p3 x hx,g.1.mono (by decide)⟩
theorem gf:aM ["gains"] ["gains"] (ae (top 39)):=⟨rfl,rfl,rfl,by decide +kernel,rfl,by decide +kernel,by decide +kernel⟩
theorem HQ (T:Txt K mg aA tc):bK P w K mg base (bE P w) 3 "blank_worths" ["gains"] (E7 aA):=by
 have iP:mX P w K mg base (bE P w) 1 "Book" aA ["self","tops","bottom"] (Ag aA):=wV T
 refine T.m8.dW (λ_ _ _ _ _ _=>ir λ_=>rfl) λf fd F=>F.dZ gf (λvs H Q E h=>?_) (λcw A outer s H vs Q E hr h=>?_)
 ·obtain⟨_,_,rfl,_⟩:=h;rfl
 ·refine(?_:let G_:Prop:=_;G_)
  intro G_
  obtain⟨x,S,rfl,⟨dx,m,hx,hm⟩,ln,kk⟩:=h
  dsimp only[G_]
  clear G_
  have nd:=gf.nd
  refine⟨_,(au (aN (vY iP (hr.mono (by decide)) rfl aB.pass (aa (aD uC (c5 (aa ao ag (se rfl))) (aR bz (by rfl) T.z_len Za (aa (dt (pv 0) rfl) ag (se rfl)) (he:=se rfl) (hpl:=na rfl))) (aa (dt (pv 0) rfl) ag (se rfl)) (se rfl)) (he:=se rfl) (hpl:=na rfl)))),?_⟩
  simp_all only[i7,oV,BE]
  refine⟨by decide,λz nz=>?_⟩
  have s1:=ax (o:=.lst [V.int 0]) nz
  have hz:upd H z (.lst [V.int 0]) z=some (.lst [V.int 0]):=ar
  generalize upd H z (.lst [V.int 0])=H1 at *
  have ls:(S.1.map V.int).length=S.1.length:=YO ..
  have sl:=sizeLine_eq
  refine⟨_,_,_,s1 _ _ hx,T.bL,T.na_Book_tops,_,iy,_,rfl,_,s1 _ _ hm,_,hz,by omega,by omega,by rw[ls,YY];show 1*S.1.length<=_;omega,λD nD=>?_⟩
  rw[ls,YY,List.flatten_replicate_singleton] at *
  have s2:=s1.trans (ax (o:=.lst (List.replicate S.1.length (V.int 0))) nD)
  have hD:upd H1 D (.lst (List.replicate S.1.length (V.int 0))) D=some (.lst ((List.replicate S.1.length 0).map V.int)):=by rw[ar,List.map_replicate]
  generalize upd H1 D (.lst (List.replicate S.1.length (V.int 0)))=H2 at *
  refine⟨_,_,_,s2 _ _ hx,T.bL,T.na_Book_bottom,_,tU,λy dy ny Dy ne=>?_⟩
  have s3:=s2.trans (ax (o:=.own y) Dy)
  have Fv:=ax (o:=.own y) Dy _ _ hD
  have xD:D≠y:=λz=>by rw[z,ny] at hD;cases hD
  refine⟨y,dy,D,_,_,rfl,ar,by rw[aE xD];exact Fv,λm' H' nm Bc kD ky=>⟨rfl,kk y H' (λz o hz=>?_) ⟨dy,m',kD,Bc⟩⟩⟩
  have yx:z≠y:=λe=>by have:=s2 _ _ hz;rw[e,ny] at this;cases this
  exact ky z o yx (by rw[aE yx];exact s3 _ _ hz)
theorem gR:aM ["book","gains","part","ways","scale","right","place","gain","answers","told","top"] ["book","gains","part","ways"] (ae (top 40)):=⟨rfl,rfl,rfl,by decide +kernel,rfl,by decide +kernel,by decide +kernel⟩
theorem HR (T:Txt K mg aA tc):bK P w K mg base (bE P w) 4 "with_worths" ["book","gains","part","ways"] (Ap aA):=by
 have cP:bK P w K mg base (bE P w) 1 "total_weight" ["ways"] nP:=AK T
 have dO:bK P w K mg base (bE P w) 3 "whole_answers" ["rows","right"] zZ:=Du T
 have gS:bK P w K mg base (bE P w) 2 "part_rows" ["part","ways"] tF:=AL T
 have eQ:jd P w K mg base (bE P w) 3 aA "scaled" ["self","factor"] (Ah aA):=AN T
 refine T.oG.dW (λ_ _ _ _ _ _=>KR λ_ _ _ _=>rfl) λf fd F=>F.dZ gR (λvs H Q E h=>?_) (λcw A outer s H vs Q E hr h=>?_)
 ·obtain⟨_,_,_,_,_,_,_,_,_,_,_,_,_,rfl,_⟩:=h;rfl
 ·refine(?_:let G_:Prop:=_;G_)
  intro G_
  obtain⟨bk,gn,pt,wl,S,gt,G,ps,n,M,xs,cL,lv,rfl,hb,hg,hp,hw,rl,lw,VG,DD,p0,Jx,t8,wk,dn,Z,M0,lg,G0,bG,dv,gb,zr,kk⟩:=h
  dsimp only[G_]
  clear G_
  have nd:=gR.nd
  refine⟨_,(af (aF (i:=4) nd rfl (Or.inl rfl) (aD dF (dt (pv 0) rfl) (dt (pv 1) rfl)))
  (af (aF (i:=5) nd rfl (Or.inl rfl) (c5 ag))
  (af (bO PassesOwn.never rfl (bo (K:=K) (pv 2)) (aG (i:=6) nd rfl (Or.inl rfl)) (af (aF (i:=7) nd rfl (Or.inl rfl) (aD aV (aD aV (aH cP (hr.mono (by decide)) rfl aB.pass (aa (aL aO (pv 3) (pv 6) (λ_ _=>rfl)) ag (se rfl)) (he:=se rfl) (hpl:=na rfl)) (aL aO (dt (pv 1) rfl) (pv 6) (λ_ _=>rfl))) (pv 4)))
  (au (cW (fW ZD ZJ ZK cz.r (pv 5) (aa (aD ba (pv 7) (aR (j5 (K:=K)) (by rfl) T.z_sum rfl (aa (bP rfl (N:=["book","gains","part","ways","scale","right","place","gain","answers","told","top"]) (so:=ae (top 40)) (N':=["weight","to","book"]) (k:=2) (fr:=[0]) rfl rfl ⟨rfl,by decide +kernel,by decide +kernel,by decide +kernel,rfl,by decide +kernel,by decide +kernel⟩ (bo (K:=K) (aL aO (pv 3) (pv 6) (λ_ _=>rfl))) (λ_ _ _ _ _=>(cf (K:=K) (n:=2) rfl (aT (aG (i:=0) (show(["weight","to","book"]:List Str).Nodup by decide +kernel) rfl (Or.inl rfl)) (aT (aG (i:=1) (show(["weight","to","book"]:List Str).Nodup by decide +kernel) rfl (Or.inl rfl)) b9)))) (λ_ _ _ _ _=>bH)
   (λ_ _ _ _ _=>(aD aV (pv 0) (aL aO (qu (K:=K) (pv 2) rfl) (pv 1) (λ_ _=>rfl))))) ag (se rfl)) (he:=se rfl) (hpl:=na rfl))) ag (se rfl)))))))
  (af (aF (i:=8) nd rfl (Or.inl rfl) (aH dO (hr.mono (by decide)) rfl aB.pass (aa (aH gS (hr.mono (by decide)) rfl aB.pass (aa (pv 2) (aa (pv 3) ag (se rfl)) (se rfl)) (he:=se rfl) (hpl:=na rfl)) (aa (pv 5) ag (se rfl)) (se rfl)) (he:=se rfl) (hpl:=na rfl)))
  (af (aF (i:=9) nd rfl (Or.inl rfl) (C8 eQ T.bL (pv 0) (hr.mono (by decide)) aB.pass (aa (aL aP (pv 8) ao (λ_ _=>rfl)) ag (se rfl)) (hst:=se rfl) (hpl:=na rfl)))
  (af (bO PassesOwn.never rfl (jc (K:=K) rfl T.z_zip (aa (pv 2) (aa (aL aP (pv 8) ao (λ_ _=>rfl)) ag (se rfl)) (se rfl))) (cf (K:=K) (n:=2) rfl (aT (aG (i:=6) nd rfl (Or.inl rfl)) (aT (aG (i:=10) nd rfl (Or.inl rfl)) b9))) (au (eL (pv 10) (eK (dt (pv 9) rfl) (pv 6) set_list))))
  (au (aN (pv 9))))))))),?_⟩
  refine(?_:let cm:TS:=_;let cn:TS:=_;let cq:TS:=_;let di:TS:=_;let gO:TS:=_;let tW:TS:=_;let HS:TS:=_;tSeq cm (tSeq cn (tSeq cq (tSeq di (tSeq gO (tSeq tW HS))))) _ _ _)
  intro cm cn cq di gO tW HS
  have sl:=sizeLine_eq
  refine(?_:let G_:Prop:=_;G_)
  intro G_
  obtain⟨dx,m,DE,B5⟩:=hb
  obtain⟨dg,Yy,S3,VH⟩:=hg
  dsimp only[G_]
  clear G_
  have B0:=Z.pos
  have lS:=Z.len
  have VI:Bt M (S.2 / G):=Z.bb.le (Nm.eW G0 dv)
  have Lf:∀t∈S.1,Bt 4000 t:=λt ht=>by
   refine(?_:let G_:Prop:=_;G_)
   intro G_
   obtain⟨j,hj,rfl⟩:=Zo ht
   dsimp only[G_]
   have:=Z.bt j
   rw[YR,YQ hj] at this
   exact Bt.mono this (by omega)
  have HU:∀p:Nat,(p:Int)∈ps->∃wv us,fA xs (p:Int)=some (.ref wv)/\Rep H (xS (bw cL (p:Int))) (.ref wv)/\H wv=some (.lst us)/\bu H ((bw cL (p:Int)).map cA) us/\us.length=(bw cL (p:Int)).length/\Dg.rh n (bw cL (p:Int)):=λp hp=>by
   have hl:p<cL.length:=by have:=(t8 _ hp).2;omega
   have ew:cL[p]?=some (bw cL (p:Int)):=by
    unfold bw
    rw[YY,YR,YQ hl]
    rfl
   obtain⟨v,ev,rv⟩:=rl.at (d:=xS (bw cL (p:Int))) (i:=p) (by rw[YT,ew];rfl)
   refine(?_:let G_:Prop:=_;G_)
   intro G_
   obtain⟨wv,us,rfl,AM,ru⟩:=bp.mp rv
   dsimp only[G_]
   have lu:=ru.length
   rw[YO] at lu
   exact⟨wv,us,bF ev,rv,AM,ru,lu.symm,wk _ (YU ew)⟩
  have Be:∀p∈ps,Dg.rh n (bw cL p):=λp hp=>by
   obtain⟨p,rfl⟩:=Zd (t8 p hp).1
   refine(?_:let G_:Prop:=_;G_)
   intro G_
   obtain⟨_,_,_,_,_,_,_,h⟩:=HU p hp
   dsimp only[G_]
   exact h
  have rs:∀p∈ps,_:=λp hp=>Dg.Aj (g:=gt.getD p.toNat 0) Z (Be p hp) G0 dv (gb _)
  generalize hR:(λp:Int=>Dg.tt (bw cL p)*gt.getD p.toNat 0* (S.2 / G)+Dg.gu S.1 (bw cL p))=R at *
  have Re:∀p,R p=Dg.tt (bw cL p)*gt.getD p.toNat 0* (S.2 / G)+Dg.gu S.1 (bw cL p):=λp=>by rw[<-hR]
  change tSeq _ _ _ _ _
  refine aQ (λσ' H1=>H=H1/\σ'=[some (.ref bk),some (.ref gn),some (.ref pt),some (.ref wl),some (.int (S.2 / G)),none,none,none,none,none,none]) ?_ (λN hN=>?_)
  case refine_2=>
   simp_all only[i7]
   exact⟨_,_,_,DE,T.bL,T.na_Book_bottom,_,tU,_,_,_,S3,T.bL,T.na_Book_bottom,_,tU,_,rfl,_,rfl,eV.of G0 bG,hN _ _ ⟨rfl,rfl⟩⟩
  rintro _ _ ⟨rfl,rfl⟩
  change tSeq _ _ _ _ _
  refine aQ (λσ' H1=>∃r,az H H1/\H r=none/\H1 r=some (.lst [])/\σ'=[some (.ref bk),some (.ref gn),some (.ref pt),some (.ref wl),some (.int (S.2 / G)),some (.ref r),none,none,none,none,none]) ?_ (λN hN=>?_)
  case refine_2=>
   simp_all only[]
   exact⟨Y3 _,λr n3=>hN _ _ ⟨r,ax n3,n3,ar,rfl⟩⟩
  intro _ H1 bB
  refine(?_:let G_:Prop:=_;G_)
  intro G_
  obtain⟨r,s1,nr,Hw,rfl⟩:=bB
  dsimp only[G_]
  clear G_
  change tSeq _ _ _ _ _
  refine aQ (λσ' H2=>az H H2/\H2 r=some (.lst ((ps.map R).map V.int))/\∃z6 z7,σ'=[some (.ref bk),some (.ref gn),some (.ref pt),some (.ref wl),some (.int (S.2 / G)),some (.ref r),z6,z7,none,none,none]) ?_ (λN hN=>?_)
  case refine_2=>
   simp_all only[]
   refine⟨⟨_,aZ.of (s1 _ _ hp)⟩,bD (src_list (K:=K) (a:=pt) (xs:=ps.map V.int) (Ok:=az H) (λH' s=>aZ.of (s _ _ hp))) (λj σ H2=>az H H2/\H2 r=some (.lst (((ps.take j).map R).map V.int))/\∃z6 z7,σ=[some (.ref bk),some (.ref gn),some (.ref pt),some (.ref wl),some (.int (S.2 / G)),some (.ref r),z6,z7,none,none,none]) ⟨s1,Hw,_,_,rfl⟩ (λ_ _ _ _ h=>h.1) ?_ ?_⟩
   ·intro j y σ H2 H3 hj dm dA
    refine(?_:let G_:Prop:=_;G_)
    intro G_
    obtain⟨s2,FD,z6,z7,rfl⟩:=dm
    obtain⟨rfl,ey⟩:=dA
    dsimp only[G_]
    clear G_
    rw[YO] at hj
    rw[YT,YQ hj] at ey
    cases ey
    have mp:=YZ hj
    have tk:ps.take (j+1)=ps.take j++ [ps[j]]:=by rw[Ze,YQ hj];rfl
    rw[tk]
    generalize ps[j]=p at *
    obtain⟨p,rfl⟩:=Zd (t8 p mp).1
    refine(?_:let G_:Prop:=_;G_)
    intro G_
    obtain⟨wv,us,Dv,rv,AM,ru,lu,FE⟩:=HU p mp
    obtain⟨bR,_⟩:=rs _ mp
    dsimp only[G_]
    clear G_
    have VJ:fA (gt.map V.int) (p:Int)=some (.int (gt.getD p 0)):=by have:=d6 (ns:=gt) (i:=(p:Int)) (by omega) (by have:=(t8 _ mp).2;omega);rwa [YY] at this
    have eR:=Re (p:Int)
    rw[YY] at bR eR
    generalize bw cL (p:Int)=ws at *
    obtain⟨d0,d1⟩:=FE.tt
    have bd:Bt 20 (Dg.tt ws):=Bt.of 1000000 (by omega) (by omega)
    have w5:=FE.1
    have bg:Bt 440 (gt.getD p 0):=by
     have h1:=gb p
     have h2:Bt 440 (2^40*G):=by
      have k:Bt 400 G:=bG
      unfold Bt at k ⊢
      rw[Zq,show((2:Int)^40).natAbs=2^40 by decide,show 440=40+400 by decide,Zy]
      exact Nat.mul_lt_mul_of_pos_left k (by decide)
     refine h2.le ?_
     rw[Zq,show((2:Int)^40).natAbs=2^40 by decide,show G.natAbs=G.toNat by omega]
     exact h1
    simp_all only[nP,i7,cX]
    refine⟨_,s2 _ _ hw,_,Dv,wv,rfl,ws,rv.mono s2,w5,λH4 s4=>?_⟩
    have yh:=s2.trans s4
    refine⟨_,_,_,yh _ _ S3,T.bL,T.na_Book_tops,_,iy,_,rfl,_,yh _ _ VH,_,VJ,_,rfl,bd.dE bg,(bd.mul bg).dE VI (by omega),?_⟩
    refine⟨.inl ⟨rfl,_,aZ.of (s4 _ _ FD)⟩,_,yh _ _ hw,_,Dv,wv,rfl,⟨_,aZ.of (yh _ _ AM)⟩,?_⟩
    have S':Src (vB K wv) (az H4) ws.length (λi x H H3=>H3=H/\us[i]?=some x):=by rw[<-lu];exact src_list (λH' s'=>aZ.of (s' _ _ (yh _ _ AM)))
    refine iJ ws (λx=>some (x.1*S.1.getD x.2.toNat 0)) S' (λ_ _ _ _ h=>h.1) (by omega) ?_ ?_
    ·rintro j x v0 ex ⟨_,ey⟩
     refine(?_:let G_:Prop:=_;G_)
     intro G_
     obtain⟨t,et,ht⟩:=eE (ru.mono yh) ex
     dsimp only[G_]
     rw[ey] at et
     cases et
     refine(?_:let G_:Prop:=_;G_)
     intro G_
     obtain⟨x1,x2,x3,x4⟩:=FE.2 x (YU ex)
     dsimp only[G_]
     have VL:fA (S.1.map V.int) x.2=some (.int (S.1.getD x.2.toNat 0)):=d6 x3 (by omega)
     refine⟨t,_,_,rfl,eA.of ht,λY N y1 _=>?_⟩
     simp_all only[gm,i7]
     exact⟨_,_,_,yh _ _ DE,T.bL,T.na_Book_tops,_,iy,_,rfl,_,yh _ _ B5,_,VL,_,rfl,(Bt.of (n:=18) 200000 (by omega) (by omega)).dE (Z.bt _) (by omega),y1 _ rfl⟩
    ·intro D n1 n2
     rw[dX]
     have eR:R (p:Int)=Dg.tt ws*gt.getD p 0* (S.2 / G)+ (ws.map λx=>x.1*S.1.getD x.2.toNat 0).sum:=eR
     refine⟨_,aZ.of ar,_,ax n2 _ _ (s4 _ _ FD),by rw[YO,YO,ZG];omega,aX (yh.trans (ax n2)) nr,?_,_,rfl⟩
     rw[ar,<-eR,Zc,Zc]
     rfl
   ·intro σ H2 bB
    refine(?_:let G_:Prop:=_;G_)
    intro G_
    obtain⟨s2,FD,z6,z7,rfl⟩:=bB
    dsimp only[G_]
    rw[YO,List.take_length] at FD
    exact hN _ _ ⟨s2,FD,_,_,rfl⟩
  intro _ H2 bB
  refine(?_:let G_:Prop:=_;G_)
  intro G_
  obtain⟨s2,FD,z6,z7,rfl⟩:=bB
  dsimp only[G_]
  clear G_
  have lR:(ps.map R).length=ps.length:=YO ..
  have bR:∀x∈ps.map R,x.natAbs<=2^ (M+61):=λx hx=>by
   refine(?_:let G_:Prop:=_;G_)
   intro G_
   obtain⟨p,hp,rfl⟩:=List.mem_map.mp hx
   dsimp only[G_]
   rw[Re]
   exact(rs p hp).2
  have b1:(1:Nat)<=2^20:=by decide
  have bc:(2:Nat)^20<=2^ (M+61):=ZC (by decide) (by omega)
  have top:=Dg.Ai ps.length M (by omega) p0
  have Lg:(ps.length+1)^ (ps.length+1)* (2^ (M+61)* (2^20)^ps.length)<2^4000:=Y6 top (ZC (by decide) (by omega))
  change tSeq _ _ _ _ _
  refine aQ (λσ' H3=>∃u q d x L,az H2 H3/\H3 u=some (.tup [.ref q,.int d])/\H3 q=some (.lst (x.map V.int))/\Dg.iN ps (bw cL) L/\KY L (ps.map R) ps.length x d/\d.natAbs<=(ps.length+1)^ (ps.length+1)* (2^20)^ps.length/\(∀v∈x,v.natAbs<=(ps.length+1)^ (ps.length+1)* (2^ (M+61)* (2^20)^ps.length))/\σ'=[some (.ref bk),some (.ref gn),some (.ref pt),some (.ref wl),some (.int (S.2 / G)),some (.ref r),z6,z7,some (.ref u),none,none]) ?_ (λN hN=>?_)
  case refine_2=>
   simp_all only[tF,zZ]
   refine⟨ps,s2 _ _ hp,_,s2 _ _ hw,_,rl.mono s2,DD,by omega,λp hp=>by have:=t8 p hp;omega,λws CH=>(wk ws CH).1,λr2 L H3 s3 mt rp=>?_⟩
   have sq:aJ.Sq L ps.length:=⟨rp.1,rp.2.1⟩
   have hL:=rp.ent Be
   have sw:=wu sq lR (by omega) b1 bc hL bR Lg
   refine⟨L,mt,_,s3 _ _ FD,?_⟩
   rw[lR]
   refine⟨sq,sw,λk rs W H4 St hk st s4=>?_,λrs W t p H4 St s4 ht yi=>?_⟩
   ·exact absurd (aJ.pJ sq lR St hk st) (rp.zT DD (λp hp x hx=>((Be p hp).2 x hx).1) dn)
   ·obtain⟨z1,z2⟩:=Ae sq lR b1 bc hL bR St
    exact hN _ _ ⟨t,p,_,_,L,s3.trans s4,ht,yi,rp,Ad sq lR sw St,z1,z2,rfl⟩
  intro _ H3 bB
  refine(?_:let G_:Prop:=_;G_)
  intro G_
  obtain⟨u,q,d,x,L,s3,hu,hq,rp,so,zd,zx,rfl⟩:=bB
  dsimp only[G_]
  clear G_
  have Ge:=s2.trans s3
  have d0:=so.pos
  have lx:=so.len
  have Ft:Bt (92*ps.length) d:=Zx zd (Dg.Cy _ (by omega) p0)
  change tSeq _ _ _ _ _
  refine aQ (λσ' H4=>∃y dy m',az H3 H4/\H3 y=none/\H3 m'=none/\H4 y=some (.ins aA dy [("tops",.ref m'),("bottom",.int (S.2*d))])/\H4 m'=some (.lst ((S.1.map (·*d)).map V.int))/\σ'=[some (.ref bk),some (.ref gn),some (.ref pt),some (.ref wl),some (.int (S.2 / G)),some (.ref r),z6,z7,some (.ref u),some (.ref y),none]) ?_ (λN hN=>?_)
  case refine_2=>
   simp_all only[j1,hu]
   refine⟨_,_,Ge _ _ DE,Dx,bk,S,_,rfl,⟨_,_,Ge _ _ DE,Ge _ _ B5⟩,so.bd,Z.bb.mono (by omega),Lf,by omega,λy dy m' H4 s4 ny nm hy hm=>hN _ _ ⟨y,dy,m',s4,ny,nm,hy,hm,rfl⟩⟩
  intro _ H4 bB
  refine(?_:let G_:Prop:=_;G_)
  intro G_
  obtain⟨y,dy,m',s4,ny,JG,hy,Bc,rfl⟩:=bB
  dsimp only[G_]
  clear G_
  change tSeq _ _ _ _ _
  refine aQ (λσ' H5=>az H3 H5/\H5 y=some (.ins aA dy [("tops",.ref m'),("bottom",.int (S.2*d))])/\H5 m'=some (.lst ((Dg.putK ps x (S.1.map (·*d)) ps.length).map V.int))/\∃z6 Gf,σ'=[some (.ref bk),some (.ref gn),some (.ref pt),some (.ref wl),some (.int (S.2 / G)),some (.ref r),z6,z7,some (.ref u),some (.ref y),Gf]) ?_ (λN hN=>?_)
  case refine_2=>
   simp_all only[s4 _ _ hu]
   refine⟨⟨_,aZ.of (s4 _ _ (Ge _ _ hp))⟩,⟨_,aZ.of (s4 _ _ hq)⟩,bD (jb (K:=K) (Ok:=az H3) (λH' s=>aZ.of (s _ _ (Ge _ _ hp))) (λH' s=>aZ.of (s _ _ hq))) (λj σ H5=>az H3 H5/\H5 y=some (.ins aA dy [("tops",.ref m'),("bottom",.int (S.2*d))])/\H5 m'=some (.lst ((Dg.putK ps x (S.1.map (·*d)) j).map V.int))/\∃z6 Gf,σ=[some (.ref bk),some (.ref gn),some (.ref pt),some (.ref wl),some (.int (S.2 / G)),some (.ref r),z6,z7,some (.ref u),some (.ref y),Gf]) ⟨s4,hy,Bc,_,_,rfl⟩ (λ_ _ _ _ h=>h.1) ?_ ?_⟩
   ·intro j v0 σ H5 H6 hj dm dA
    refine(?_:let G_:Prop:=_;G_)
    intro G_
    obtain⟨s5,tX,vm,z6,Gf,rfl⟩:=dm
    obtain⟨t,x1,x2,nt,rfl,e1,e2,rfl⟩:=dA
    dsimp only[G_]
    clear G_
    have hj:j<ps.length:=by rw[YO,YO] at hj;omega
    have g1:ps.getD j 0=ps[j]:=by rw[YR,YQ hj];rfl
    have g2:x.getD j 0=x[j]:=by rw[YR,YQ (by omega)];rfl
    rw[YT,YQ hj] at e1
    rw[YT,YQ (show j<x.length by omega)] at e2
    cases e1
    cases e2
    have mp:=YZ hj
    have pk:Dg.putK ps x (S.1.map (·*d)) (j+1)=(Dg.putK ps x (S.1.map (·*d)) j).set (ps[j]).toNat x[j]:=by
     rw[<-g1,<-g2]
     rfl
    have lk:(Dg.putK ps x (S.1.map (·*d)) j).length=n:=by rw[Dg.jr,YO,lS]
    rw[pk]
    generalize Dg.putK ps x (S.1.map (·*d)) j=ts at *
    generalize x[j]=xj at *
    generalize ps[j]=p at *
    have ip:=t8 p mp
    obtain⟨p,rfl⟩:=Zd ip.1
    refine⟨t,_,rfl,eA.of ar,rfl,?_⟩
    have s6:=ax (o:=.tup [.int (p:Int),.int xj]) nt
    generalize upd H5 t (.tup [.int (p:Int),.int xj])=H6 at *
    simp_all only[i7]
    have ym:y≠m':=λz=>by rw[z,vm] at tX;cases tX
    have lm:p< (ts.map V.int).length:=by rw[YO];omega
    refine⟨_,_,_,s6 _ _ tX,T.bL,T.na_Book_tops,_,iy,_,rfl,_,s6 _ _ vm,p,eC lm,aX (s5.trans s6) JG,by rw[aE ym];exact s6 _ _ tX,?_,_,rfl⟩
    rw[ar,YY,List.map_set]
   ·intro σ H5 bB
    refine(?_:let G_:Prop:=_;G_)
    intro G_
    obtain⟨s5,tX,vm,z6,Gf,rfl⟩:=bB
    dsimp only[G_]
    have lm:min (List.map V.int ps).length (List.map V.int x).length=ps.length:=by rw[YO,YO];omega
    rw[lm] at vm
    exact hN _ _ ⟨s5,tX,vm,_,_,rfl⟩
  intro _ H5 bB
  refine(?_:let G_:Prop:=_;G_)
  intro G_
  obtain⟨s5,tX,vm,z6,Gf,rfl⟩:=bB
  dsimp only[G_]
  simp_all only[]
  have lT:(Dg.putK ps x (S.1.map (·*d)) ps.length).length=n:=by rw[Dg.jr,YO,lS]
  have out:∀q,0<=q->q∉ps->(Dg.putK ps x (S.1.map (·*d)) ps.length).getD q.toNat 0=S.1.getD q.toNat 0*d:=λq q0 hq=>by
   rw[Dg.tH q0 (λp hp=>(t8 p hp).1) hq _ (YS _),Dg.jh]
  have ins:∀j,j<ps.length->(Dg.putK ps x (S.1.map (·*d)) ps.length).getD (ps.getD j 0).toNat 0=x.getD j 0:=λj hj=>Dg.wA DD t8 (by rw[YO,lS]) _ (YS _) hj
  have bM:Bt (M+92*ps.length) (S.2*d):=Z.bb.mul Ft
  refine kk y (Dg.putK ps x (S.1.map (·*d)) ps.length,S.2*d) H5 (Ge.trans s5) ⟨dy,m',tX,vm⟩ ⟨d,d0,rfl,lT.trans lS.symm,out,λp hp=>?_⟩ ⟨lT,Zm B0 d0,bM,λk=>?_⟩
  ·refine(?_:let G_:Prop:=_;G_)
   intro G_
   obtain⟨i,hi,rfl⟩:=Zo hp
   dsimp only[G_]
   have g1:ps.getD i 0=ps[i]:=by rw[YR,YQ hi];rfl
   have sl:=so.eq i hi
   rw[YR (l:=ps.map R),YT,YQ hi] at sl
   have e:=Dg.Cw (S:=S.1) (T:=Dg.putK ps x (S.1.map (·*d)) ps.length) (x:=x) (d:=d) (r:=R ps[i]) rp DD hi sl zr ins (λy hy hn=>out y.2 (by have:=(Be _ (by rw[g1];exact hp)).2 y hy;omega) hn)
   rw[g1] at e
   show Dg.tt _* (Dg.putK ps x (S.1.map (·*d)) ps.length).getD _ 0=_
   rw[e,Re,Int.add_mul]
   show _=_+Dg.gu (Dg.putK ps x (S.1.map (·*d)) ps.length) _
   omega
  ·show Bt _ ((Dg.putK ps x (S.1.map (·*d)) ps.length).getD k 0)
   by_cases c:(k:Int)∈ps
   ·refine(?_:let G_:Prop:=_;G_)
    intro G_
    obtain⟨j,hj,ej⟩:=Zo c
    dsimp only[G_]
    have g1:ps.getD j 0=(k:Int):=by rw[YR,YQ hj,ej];rfl
    have e:=ins j hj
    rw[g1,YY] at e
    rw[e,YR,YQ (by omega)]
    exact Zx (zx _ (YZ _)) top
   ·have e:=out (k:Int) (by omega) c
    rw[YY] at e
    rw[e]
    exact(Z.bt k).mul Ft
theorem jw:aM ["board","picks","found","ways","gains","book","part"] ["board","picks"] (ae (top 41)):=⟨rfl,rfl,rfl,by decide +kernel,rfl,by decide +kernel,by decide +kernel⟩
theorem HV (T:Txt K mg aA tc) (LB:mY base mg tc tp):bK P w K mg base (bE P w) 7 "worths_of" ["board","picks"] (Aq tp):=by
 have dP:bK P w K mg base (bE P w) 6 "checked_parts" ["board"] (nQ tp):=AO T LB
 have cU:bK P w K mg base (bE P w) 2 "all_weighted_ways" ["board","picks"] An:=DC T
 have vo:bK P w K mg base (bE P w) 4 "gains_of" ["board"] (Ao aA):=FC T
 have nY:bK P w K mg base (bE P w) 3 "blank_worths" ["gains"] (E7 aA):=HQ T
 have oM:bK P w K mg base (bE P w) 4 "with_worths" ["book","gains","part","ways"] (Ap aA):=HR T
 have dC:jd P w K mg base (bE P w) 3 aA "as_shares" ["self"] (E4 aA):=Dz T
 refine T.sO.dW (λ_ _ _ _ _ _=>dH λ_ _=>rfl) λf fd F=>F.dZ jw (λvs H Q E h=>?_) (λcw A outer s H vs Q E hr h=>?_)
 ·obtain⟨_,_,_,_,_,rfl,_⟩:=h;rfl
 ·refine(?_:let G_:Prop:=_;G_)
  intro G_
  obtain⟨a,c,b,rk,ks,rfl,rb,B,hc,ko,j8,kk⟩:=h
  dsimp only[G_]
  have nd:=jw.nd
  refine⟨_,(af (aF (i:=2) nd rfl (Or.inl rfl) (aH dP (hr.mono (by decide)) rfl aB.pass (aa (pv 0) ag (se rfl)) (he:=se rfl) (hpl:=na rfl)))
  (af (aF (i:=3) nd rfl (Or.inl rfl) (aH cU (hr.mono (by decide)) rfl aB.pass (aa (pv 0) (aa (pv 1) ag (se rfl)) (se rfl)) (he:=se rfl) (hpl:=na rfl)))
  (af (aF (i:=4) nd rfl (Or.inl rfl) (aH vo (hr.mono (by decide)) rfl aB.pass (aa (pv 0) ag (se rfl)) (he:=se rfl) (hpl:=na rfl)))
  (af (aF (i:=5) nd rfl (Or.inl rfl) (aH nY (hr.mono (by decide)) rfl aB.pass (aa (pv 4) ag (se rfl)) (he:=se rfl) (hpl:=na rfl)))
  (af (bO PassesOwn.never rfl (bo (K:=K) (pv 2)) (aG (i:=6) nd rfl (Or.inl rfl)) (au (aF (i:=5) nd rfl (Or.inl rfl) (aH oM (hr.mono (by decide)) rfl aB.pass (aa (pv 5) (aa (pv 4) (aa (pv 6) (aa (pv 3) ag (se rfl)) (se rfl)) (se rfl)) (se rfl)) (he:=se rfl) (hpl:=na rfl)))))
  (au (aN (zk dC T.bL (pv 5) (hr.mono (by decide)) aB.pass)))))))),?_⟩
  refine(?_:let cm:TS:=_;let cn:TS:=_;let cq:TS:=_;let di:TS:=_;let gO:TS:=_;let tW:TS:=_;tSeq cm (tSeq cn (tSeq cq (tSeq di (tSeq gO tW)))) _ _ _)
  intro cm cn cq di gO tW
  have bl:=B.len
  refine(?_:let G_:Prop:=_;G_)
  intro G_
  obtain⟨g0,g1,g2⟩:=B.bot
  dsimp only[G_]
  have S4:(gT b).length=b.length:=by unfold gT;rw[YO,YO]
  have Lh:(dh b ks).length=b.length:=by unfold dh;rw[List.length_zipWith,ko.len];omega
  simp_all only[nQ,An,Ao,E7]
  refine⟨b,rb,rk,B,j8,λl ps as H1 td s1 nl hl al=>⟨b,rb.mono s1,by omega,ks,s1 _ _ hc,ko,λwl xs H2 s2 nw hw oj=>⟨b,rb.mono (s1.trans s2),rk,B,λgn H3 s3 hg=>⟨_,hg,by show(gT b).length<=60;omega,λbk H4 s4 hb=>?_⟩⟩⟩⟩
  have VM:=s2.trans (s3.trans s4)
  have yh:=s3.trans s4
  have VN:=oj.mono hG
  have la:=al.length
  rw[YO] at la
  refine⟨⟨_,aZ.of (VM _ _ hl)⟩,bD (src_list (K:=K) (a:=l) (xs:=as.map V.ref) (Ok:=az H3) (λH' s=>aZ.of ((s3.trans s) _ _ (s2 _ _ hl)))) (λi σ H5=>az H3 H5/\∃bk S z,q9 aA H5 bk S/\u9 b ks ps i S/\σ=[some (.ref a),some (.ref c),some (.ref l),some (.ref wl),some (.ref gn),some (.ref bk),z]) ⟨s4,bk,_,_,hb,by rw[S4];exact u9.start B,rfl⟩ (λ_ _ _ _ h=>h.1) ?_ ?_⟩
  ·intro i y σ H5 H6 hi dm dA
   refine(?_:let G_:Prop:=_;G_)
   intro G_
   obtain⟨s5,bk,S,z,AQ,W,rfl⟩:=dm
   obtain⟨rfl,ex⟩:=dA
   rw[YO] at hi
   obtain⟨p,ep,x,rfl,hx⟩:=al.get ex
   dsimp only[G_]
   have ip:=td.De (YU ep)
   have HW:=s2.trans (s3.trans s5)
   have lp:0< (Pr.cE b p).length:=List.length_pos_iff.mpr (Pr.gI B.jB.good ip)
   have o1:=Am B td (i:=i+1) (by omega)
   rw[Pr.nB ep] at o1
   have yg:∀q∈Pr.cE b p,Pr.In b q:=λq hq=>Pr.dz B.jB.good ip hq
   simp_all only[Ap]
   refine⟨S,AQ,gT b,gB b,hg.mono s5,Pr.cE b p,HW _ _ hx,b.length,330+92*Pr.off b ps i,xs,(s3.trans s5) _ _ hw,dh b ks,VN.mono (s3.trans s5),Lh,bl,(Pr.iL B.jB.good ip).imp (λh z=>by omega),lp,by omega,yg,λws CH=>?_,rk,λq hq=>B.dn ko (yg q hq),W.sz,by omega,S4,g0,g1.mono (by decide),W.dv,B.top,λq hq=>W.zr q (yg q hq) (by rw[jU B td ep hq];exact YS _),λx2 T2 H7 s7 h7 st sz=>⟨s5.trans s7,x2,T2,h7,W.step B td ko ep st sz,rfl,_,rfl⟩⟩
   refine(?_:let G_:Prop:=_;G_)
   intro G_
   obtain⟨j,hj,rfl⟩:=Zo CH
   have K0:j<b.length:=by omega
   obtain⟨q,k,e1,e2,po,ew⟩:=ko.at K0
   dsimp only[G_]
   have:=(B.wk ko (p:=(j:Int)) ⟨by omega,by omega⟩).1
   unfold bw at this
   rw[YY,YR,YQ hj] at this
   exact this
  ·intro σ H5 bB
   refine(?_:let G_:Prop:=_;G_)
   intro G_
   obtain⟨s5,bk,S,z,AQ,W,rfl⟩:=bB
   dsimp only[G_]
   rw[YO,la] at W
   simp_all only[j1]
   refine(?_:let G_:Prop:=_;G_)
   intro G_
   obtain⟨dx,m,hx,hm⟩:=id AQ
   dsimp only[G_]
   have W0:=W.sz.pos
   have o1:=Am B td (i:=ps.length) (YS _)
   have sz:=W.sz.up (M':=1900) (by omega)
   refine⟨_,_,hx,DB,bk,S,rfl,AQ,W0,sz.bb.mono (by decide),by rw[sz.len];omega,λl6 H6 s6 n6 r6=>kk l6 S H6 (s1.trans (s2.trans (s3.trans (s5.trans s6)))) (none_of (s1.trans (s2.trans (s3.trans s5))) n6) r6 sz W.dv λp hp=>W.eq p hp (Dm B td ⟨by omega,by omega⟩)⟩
theorem AR {rs:List Int} {x:Int}:D7 (.int x) (List.map V.int rs)=decide (x∈rs):=by
 unfold D7
 rw[List.any_map,Bool.eq_iff_iff,List.any_eq_true]
 simp only[Function.comp,vL,beq_iff_eq,decide_eq_true_eq]
 constructor
 ·rintro⟨i,hi,rfl⟩;exact hi
 ·intro h;exact⟨x,h,rfl⟩
theorem AS (ns:List Int):(List.map V.int ns).all dD=true:=by
 rw[List.all_eq_true]
 intro v hv
 obtain⟨i,_,rfl⟩:=List.mem_map.mp hv
 rfl
theorem gU:aM ["book","part","ways","coming","answers","told","place","top","weight","to"] ["book","part","ways"] (ae (top 42)):=⟨rfl,rfl,rfl,by decide +kernel,rfl,by decide +kernel,by decide +kernel⟩
theorem HX (T:Txt K mg aA tc):bK P w K mg base (bE P w) 4 "with_visits" ["book","part","ways"] (As aA):=by
 have cP:bK P w K mg base (bE P w) 1 "total_weight" ["ways"] nP:=AK T
 have dO:bK P w K mg base (bE P w) 3 "whole_answers" ["rows","right"] zZ:=Du T
 have oN:bK P w K mg base (bE P w) 2 "turned_rows" ["rows"] Ab:=Fx T
 have gS:bK P w K mg base (bE P w) 2 "part_rows" ["part","ways"] tF:=AL T
 have eQ:jd P w K mg base (bE P w) 3 aA "scaled" ["self","factor"] (Ah aA):=AN T
 refine T.oH.dW (λ_ _ _ _ _ _=>sS λ_ _ _=>rfl) λf fd F=>F.dZ gU (λvs H Q E h=>?_) (λcw A outer s H vs Q E hr h=>?_)
 ·obtain⟨_,_,_,_,_,_,_,_,_,_,rfl,_⟩:=h;rfl
 ·refine(?_:let G_:Prop:=_;G_)
  intro G_
  obtain⟨bk,pt,wl,S,ps,n,M,xs,cL,lv,rfl,hb,hp,hw,rl,lw,VG,DD,p0,Jx,t8,wk,dn,Z,VO,M0,kk⟩:=h
  dsimp only[G_]
  clear G_
  have nd:=gU.nd
  refine⟨_,(af (fL (i:=3) rfl nd rfl rfl (N:=["book","part","ways","coming","answers","told","place","top","weight","to"]) (so:=ae (top 42)) (N':=["place","book"]) (k:=1) (fr:=[0]) rfl rfl ⟨rfl,by decide +kernel,by decide +kernel,by decide +kernel,rfl,by decide +kernel,by decide +kernel⟩ (bo (K:=K) (pv 1)) (λ_ _ _ _ _=>(aG (i:=0) (show(["place","book"]:List Str).Nodup by decide +kernel) rfl (Or.inl rfl))) (λ_ _ _ _ _=>bH)
   (λ_ _ _ _ _=>(aL aO (qu (K:=K) (pv 1) rfl) (pv 0) (λ_ _=>rfl))))
  (af (bN (jD (gz (aR (sI (K:=K)) (by rfl) T.z_any rfl (aa (pv 3) ag (se rfl)) (he:=se rfl) (hpl:=na rfl)))) (au (aN (pv 0)))
   bq)
  (af (aF (i:=4) nd rfl (Or.inl rfl) (aH dO (hr.mono (by decide)) rfl aB.pass (aa (aH oN (hr.mono (by decide)) rfl aB.pass (aa (aH gS (hr.mono (by decide)) rfl aB.pass (aa (pv 1) (aa (pv 2) ag (se rfl)) (se rfl)) (he:=se rfl) (hpl:=na rfl)) ag (se rfl)) (he:=se rfl) (hpl:=na rfl)) (aa (pv 3) ag (se rfl)) (se rfl)) (he:=se rfl) (hpl:=na rfl)))
  (af (aF (i:=5) nd rfl (Or.inl rfl) (C8 eQ T.bL (pv 0) (hr.mono (by decide)) aB.pass (aa (aL aP (pv 4) ao (λ_ _=>rfl)) ag (se rfl)) (hst:=se rfl) (hpl:=na rfl)))
  (af (bO PassesOwn.never rfl (jc (K:=K) rfl T.z_zip (aa (pv 1) (aa (aL aP (pv 4) ao (λ_ _=>rfl)) ag (se rfl)) (se rfl))) (cf (K:=K) (n:=2) rfl (aT (aG (i:=6) nd rfl (Or.inl rfl)) (aT (aG (i:=7) nd rfl (Or.inl rfl)) b9))) (af (eL (aD aV (pv 7) (aH cP (hr.mono (by decide)) rfl aB.pass (aa (aL aO (pv 2) (pv 6) (λ_ _=>rfl)) ag (se rfl)) (he:=se rfl) (hpl:=na rfl))) (eK (dt (pv 5) rfl) (pv 6) set_list))
  (au (bO PassesOwn.never rfl (bo (K:=K) (aL aO (pv 2) (pv 6) (λ_ _=>rfl))) (cf (K:=K) (n:=2) rfl (aT (aG (i:=8) nd rfl (Or.inl rfl)) (aT (aG (i:=9) nd rfl (Or.inl rfl)) b9))) (au (bN (aU (oB (K:=K)) (pv 9) (pv 1) rfl) (au (vv (dt (pv 5) rfl) (pv 9) sG (aD aV (pv 7) (pv 8)) DX set_list))
   bq))))))
  (au (aN (pv 5)))))))),?_⟩
  refine(?_:let cm:TS:=_;let cn:TS:=_;let cq:TS:=_;let di:TS:=_;let gO:TS:=_;let tW:TS:=_;tSeq cm (tSeq cn (tSeq cq (tSeq di (tSeq gO tW)))) _ _ _)
  intro cm cn cq di gO tW
  have sl:=sizeLine_eq
  refine(?_:let G_:Prop:=_;G_)
  intro G_
  obtain⟨dx,m,DE,B5⟩:=id hb
  have B0:=Z.pos
  have lS:=Z.len
  have Lf:∀t∈S.1,Bt 4000 t:=λt ht=>by
   obtain⟨j,hj,rfl⟩:=Zo ht
   have:=Z.bt j
   rw[YR,YQ hj] at this
   exact Bt.mono this (by omega)
  have HU:∀p:Nat,(p:Int)∈ps->∃wv us,fA xs (p:Int)=some (.ref wv)/\Rep H (xS (bw cL (p:Int))) (.ref wv)/\H wv=some (.lst us)/\bu H ((bw cL (p:Int)).map cA) us/\us.length=(bw cL (p:Int)).length/\Dg.rh n (bw cL (p:Int)):=λp hp=>by
   have hl:p<cL.length:=by have:=(t8 _ hp).2;omega
   have ew:cL[p]?=some (bw cL (p:Int)):=by
    unfold bw
    rw[YY,YR,YQ hl]
    rfl
   obtain⟨v,ev,rv⟩:=rl.at (d:=xS (bw cL (p:Int))) (i:=p) (by rw[YT,ew];rfl)
   obtain⟨wv,us,rfl,AM,ru⟩:=bp.mp rv
   have lu:=ru.length
   rw[YO] at lu
   exact⟨wv,us,bF ev,rv,AM,ru,lu.symm,wk _ (YU ew)⟩
  have Be:∀p∈ps,Dg.rh n (bw cL p):=λp hp=>by
   obtain⟨p,rfl⟩:=Zd (t8 p hp).1
   obtain⟨_,_,_,_,_,_,_,h⟩:=HU p hp
   exact h
  obtain⟨C,hC⟩:∃C:List Int,C=ps.map λp=>S.1.getD p.toNat 0:=⟨_,rfl⟩
  dsimp only[G_]
  clear G_
  have lC:C.length=ps.length:=by rw[hC,YO]
  change tSeq _ _ _ _ _
  refine aQ (λσ' H1=>∃co,az H H1/\H1 co=some (.lst (C.map V.int))/\σ'=[some (.ref bk),some (.ref pt),some (.ref wl),some (.ref co),none,none,none,none,none,none]) ?_ (λN hN=>?_)
  case refine_2=>
   simp_all only[]
   refine⟨⟨_,aZ.of hp⟩,?_⟩
   have S':Src (vB K pt) (az H) ps.length (λi x H H3=>H3=H/\(ps.map V.int)[i]?=some x):=by
    have:=src_list (K:=K) (a:=pt) (xs:=ps.map V.int) (Ok:=az H) (λH2 s2=>aZ.of (s2 _ _ hp))
    rwa [YO] at this
   refine du ps (λp=>some (S.1.getD p.toNat 0)) S' (λ_ _ _ _ h=>h.1) (by omega) ?_ ?_
   ·rintro i p x ep ⟨_,ex⟩ Y N y1 _
    rw[YT,ep] at ex
    cases ex
    have ip:=t8 p (YU ep)
    have VP:fA (S.1.map V.int) p=some (.int (S.1.getD p.toNat 0)):=d6 ip.1 (by omega)
    simp_all only[gm,i7]
    exact⟨_,_,_,DE,T.bL,T.na_Book_tops,_,iy,_,rfl,_,B5,_,VP,y1 _ rfl⟩
   ·intro D n1 n2
    rw[dX]
    exact hN _ _ ⟨D,ax n2,by rw[ar,hC],rfl⟩
  intro _ H1 bB
  refine(?_:let G_:Prop:=_;G_)
  intro G_
  obtain⟨co,s1,Jg,rfl⟩:=bB
  dsimp only[G_]
  clear G_
  change tSeq _ _ _ _ _
  refine aQ (λσ' H2=>H1=H2/\σ'=[some (.ref bk),some (.ref pt),some (.ref wl),some (.ref co),none,none,none,none,none,none]) ?_ (λN hN=>?_)
  case refine_2=>
   simp_all only[]
   refine⟨C,aZ.of Jg,?_⟩
   by_cases c0:∀p∈ps,S.1.getD p.toNat 0=0
   ·rw[if_pos (by
     rw[List.any_eq_false]
     intro x hx
     rw[hC] at hx
     refine(?_:let G_:Prop:=_;G_)
     intro G_
     obtain⟨p,hp,rfl⟩:=List.mem_map.mp hx
     dsimp only[G_]
     rw[c0 p hp]
     decide)]
    exact kk bk S H1 s1 (hb.mono s1) (.inl ⟨rfl,c0⟩) (Z.up (by omega))
   ·rw[if_neg (λz=>c0 λp hp=>by
     rw[List.any_eq_false] at z
     have:=z (S.1.getD p.toNat 0) (by rw[hC];exact List.mem_map.mpr ⟨p,hp,rfl⟩)
     simpa using this)]
    exact hN _ _ ⟨rfl,rfl⟩
  rintro _ _ ⟨rfl,rfl⟩
  have bC:∀x∈C,x.natAbs<=2^M:=λx hx=>by
   rw[hC] at hx
   refine(?_:let G_:Prop:=_;G_)
   intro G_
   obtain⟨p,hp,rfl⟩:=List.mem_map.mp hx
   dsimp only[G_]
   exact Nat.le_of_lt (Z.bt _)
  have b1:(1:Nat)<=2^20:=by decide
  have bc:(2:Nat)^20<=2^M:=ZC (by decide) VO
  have Li:(ps.length+1)^ (ps.length+1)* (2^M* (2^20)^ps.length)<=2^ (M+ (25*ps.length+5)):=by
   refine Y2 (ZW _ (Dg.ic ps.length (by omega))) ?_
   rw[<-Nat.pow_mul,<-Zy,<-Zy]
   exact ZC (by decide) (by omega)
  have VQ:(ps.length+1)^ (ps.length+1)* (2^20)^ps.length<=2^ (25*ps.length+5):=by
   refine Y2 (ZW _ (Dg.ic ps.length (by omega))) ?_
   rw[<-Nat.pow_mul,<-Zy]
   exact ZC (by decide) (by omega)
  have Lg:(ps.length+1)^ (ps.length+1)* (2^M* (2^20)^ps.length)<2^4000:=Zx Li (Nat.pow_lt_pow_right (by decide) (by omega))
  change tSeq _ _ _ _ _
  refine aQ (λσ' H3=>∃u q d x L,az H1 H3/\H3 u=some (.tup [.ref q,.int d])/\H3 q=some (.lst (x.map V.int))/\Dg.iN ps (bw cL) L/\KY (aJ.tj L) C ps.length x d/\d.natAbs<=(ps.length+1)^ (ps.length+1)* (2^20)^ps.length/\(∀v∈x,v.natAbs<=(ps.length+1)^ (ps.length+1)* (2^M* (2^20)^ps.length))/\σ'=[some (.ref bk),some (.ref pt),some (.ref wl),some (.ref co),some (.ref u),none,none,none,none,none]) ?_ (λN hN=>?_)
  case refine_2=>
   simp_all only[tF,zZ,Ab]
   refine⟨ps,s1 _ _ hp,_,s1 _ _ hw,_,rl.mono s1,DD,by omega,λp hp=>by have:=t8 p hp;omega,λws CH=>(wk ws CH).1,λr2 L H3 s3 mt rp=>?_⟩
   have sq:aJ.Sq L ps.length:=⟨rp.1,rp.2.1⟩
   have HY:=aJ.zN sq
   have hL:∀r∈aJ.tj L,∀x∈r,x.natAbs<=2^20:=CA (rp.ent Be)
   have sw:=wu HY lC (by omega) b1 bc hL bC Lg
   refine⟨L,mt,ps.length,sq,by omega,λr5 H5 s5 VR=>⟨_,VR,C,(s3.trans s5) _ _ Jg,?_⟩⟩
   rw[lC]
   refine⟨HY,sw,λk rs W H4 St hk st s4=>?_,λrs W t p H4 St s4 ht yi=>?_⟩
   ·exact absurd (aJ.pJ HY lC St hk st) (rp.turned DD (λp hp x hx=>((Be p hp).2 x hx).1) dn)
   ·obtain⟨z1,z2⟩:=Ae HY lC b1 bc hL bC St
    exact hN _ _ ⟨t,p,_,_,L,s3.trans (s5.trans s4),ht,yi,rp,Ad HY lC sw St,z1,z2,rfl⟩
  intro _ H3 bB
  refine(?_:let G_:Prop:=_;G_)
  intro G_
  obtain⟨u,q,d,x,L,s3,hu,hq,rp,so,zd,zx,rfl⟩:=bB
  dsimp only[G_]
  clear G_
  have ya:=s1.trans s3
  have d0:=so.pos
  have lx:=so.len
  have Ft:Bt (25*ps.length+6) d:=Zx (Y2 zd VQ) (Nat.pow_lt_pow_right (by decide) (by omega))
  have bX:∀v∈x,Bt (M+ (25*ps.length+6)) v:=λv hv=>Zx (Y2 (zx v hv) Li) (Nat.pow_lt_pow_right (by decide) (by omega))
  change tSeq _ _ _ _ _
  refine aQ (λσ' H4=>∃y dy m',az H3 H4/\H3 y=none/\H3 m'=none/\H4 y=some (.ins aA dy [("tops",.ref m'),("bottom",.int (S.2*d))])/\H4 m'=some (.lst ((S.1.map (·*d)).map V.int))/\σ'=[some (.ref bk),some (.ref pt),some (.ref wl),some (.ref co),some (.ref u),some (.ref y),none,none,none,none]) ?_ (λN hN=>?_)
  case refine_2=>
   simp_all only[j1,hu]
   refine⟨_,_,ya _ _ DE,Dx,bk,S,_,rfl,⟨_,_,ya _ _ DE,ya _ _ B5⟩,so.bd,Z.bb.mono (by omega),Lf,by omega,λy dy m' H4 s4 ny nm hy hm=>hN _ _ ⟨y,dy,m',s4,ny,nm,hy,hm,rfl⟩⟩
  intro _ H4 bB
  refine(?_:let G_:Prop:=_;G_)
  intro G_
  obtain⟨y,dy,m',s4,ny,JG,hy,Bc,rfl⟩:=bB
  dsimp only[G_]
  clear G_
  change tSeq _ _ _ _ _
  refine aQ (λσ' H5=>az H3 H5/\H5 y=some (.ins aA dy [("tops",.ref m'),("bottom",.int (S.2*d))])/\H5 m'=some (.lst ((Dg.gK ps x (bw cL) (S.1.map (·*d)) ps.length).map V.int))/\∃z6 z7 z8 z9,σ'=[some (.ref bk),some (.ref pt),some (.ref wl),some (.ref co),some (.ref u),some (.ref y),z6,z7,z8,z9]) ?_ (λN hN=>?_)
  case refine_2=>
   simp_all only[s4 _ _ hu]
   refine⟨⟨_,aZ.of (s4 _ _ (ya _ _ hp))⟩,⟨_,aZ.of (s4 _ _ hq)⟩,bD (jb (K:=K) (Ok:=az H3) (λH' s=>aZ.of (s _ _ (ya _ _ hp))) (λH' s=>aZ.of (s _ _ hq))) (λj σ H5=>az H3 H5/\H5 y=some (.ins aA dy [("tops",.ref m'),("bottom",.int (S.2*d))])/\H5 m'=some (.lst ((Dg.gK ps x (bw cL) (S.1.map (·*d)) j).map V.int))/\∃z6 z7 z8 z9,σ=[some (.ref bk),some (.ref pt),some (.ref wl),some (.ref co),some (.ref u),some (.ref y),z6,z7,z8,z9]) ⟨s4,hy,Bc,_,_,_,_,rfl⟩ (λ_ _ _ _ h=>h.1) ?_ ?_⟩
   ·intro j v0 σ H5 H6 hj dm dA
    refine(?_:let G_:Prop:=_;G_)
    intro G_
    obtain⟨s5,tX,vm,z6,z7,z8,z9,rfl⟩:=dm
    obtain⟨t,x1,x2,nt,rfl,e1,e2,rfl⟩:=dA
    dsimp only[G_]
    clear G_
    have hj:j<ps.length:=by rw[YO,YO] at hj;omega
    have g1:ps.getD j 0=ps[j]:=by rw[YR,YQ hj];rfl
    have g2:x.getD j 0=x[j]:=by rw[YR,YQ (by omega)];rfl
    rw[YT,YQ hj] at e1
    rw[YT,YQ (show j<x.length by omega)] at e2
    cases e1
    cases e2
    have mp:=YZ hj
    have S5:=bX _ (YZ (show j<x.length by omega))
    have pk:Dg.gK ps x (bw cL) (S.1.map (·*d)) (j+1)=Dg.addW x[j] (Dg.jV ps (bw cL ps[j])) ((Dg.gK ps x (bw cL) (S.1.map (·*d)) j).set (ps[j]).toNat (x[j]*Dg.tt (bw cL ps[j]))):=by
     rw[<-g1,<-g2]
     rfl
    have lk:(Dg.gK ps x (bw cL) (S.1.map (·*d)) j).length=n:=by rw[Dg.gL,YO,lS]
    rw[pk]
    generalize Dg.gK ps x (bw cL) (S.1.map (·*d)) j=ts at *
    generalize x[j]=xj at *
    generalize ps[j]=p at *
    have ip:=t8 p mp
    obtain⟨p,rfl⟩:=Zd ip.1
    refine(?_:let G_:Prop:=_;G_)
    intro G_
    obtain⟨wv,us,Dv,rv,AM,ru,lu,FE⟩:=HU p mp
    dsimp only[G_]
    clear G_
    generalize bw cL (p:Int)=ws at *
    obtain⟨t1,t9⟩:=FE.tt
    have w5:=FE.1
    have bd:Bt 20 (Dg.tt ws):=Bt.of 1000000 (by omega) (by omega)
    refine⟨t,_,rfl,eA.of ar,rfl,?_⟩
    have s6:=ax (o:=.tup [.int (p:Int),.int xj]) nt
    generalize upd H5 t (.tup [.int (p:Int),.int xj])=H6 at *
    have ym:y≠m':=λz=>by rw[z,vm] at tX;cases tX
    have Hx:=s5.trans s6
    have S6:=ya.trans Hx
    simp_all only[i7,nP]
    refine⟨_,S6 _ _ hw,_,Dv,wv,rfl,ws,rv.mono S6,w5,λH7 s7=>⟨S5.dE bd (by omega),?_⟩⟩
    have VS:=Hx.trans s7
    have VT:p< (ts.map V.int).length:=by rw[YO];omega
    refine⟨_,_,_,(s6.trans s7) _ _ tX,T.bL,T.na_Book_tops,_,iy,_,rfl,_,(s6.trans s7) _ _ vm,p,eC VT,?_⟩
    rw[<-List.map_set,YY]
    have lm:(ts.set p (xj*Dg.tt ws)).length=n:=by rw[Zh];exact lk
    generalize ts.set p (xj*Dg.tt ws)=tq at *
    have s8:az H3 (upd H7 m' (.lst (tq.map V.int))):=aX VS JG
    have VU:upd H7 m' (.lst (tq.map V.int)) m'=some (.lst (tq.map V.int)):=ar
    have VW:upd H7 m' (.lst (tq.map V.int)) y=some (.ins aA dy [("tops",.ref m'),("bottom",.int (S.2*d))]):=by rw[aE ym];exact(s6.trans s7) _ _ tX
    generalize upd H7 m' (.lst (tq.map V.int))=H8 at *
    have HZ:=ya _ _ AM
    refine⟨_,(ya.trans s8) _ _ hw,_,Dv,wv,rfl,⟨_,aZ.of (s8 _ _ HZ)⟩,bD (src_list (K:=K) (a:=wv) (xs:=us) (Ok:=az H3) (λH2 VX=>aZ.of (VX _ _ HZ))) (λj σ H9=>az H3 H9/\H9 y=some (.ins aA dy [("tops",.ref m'),("bottom",.int (S.2*d))])/\H9 m'=some (.lst ((Dg.addW xj (Dg.jV ps (ws.take j)) tq).map V.int))/\∃z8 z9,σ=[some (.ref bk),some (.ref pt),some (.ref wl),some (.ref co),some (.ref u),some (.ref y),some (.int (p:Int)),some (.int xj),z8,z9]) ⟨s8,VW,VU,_,_,rfl⟩ (λ_ _ _ _ h=>h.1) ?_ ?_⟩
    ·intro j y0 σ HA HB hj dm dA
     refine(?_:let G_:Prop:=_;G_)
     intro G_
     obtain⟨sA,FF,FG,z8,z9,rfl⟩:=dm
     obtain⟨rfl,ey⟩:=dA
     have S7:j<ws.length:=by omega
     have ej:ws[j]?=some ws[j]:=YQ S7
     obtain⟨t,et,ht⟩:=eE (ru.mono (ya.trans sA)) ej
     dsimp only[G_]
     clear G_
     rw[ey] at et
     cases et
     refine⟨t,_,rfl,eA.of ht,rfl,?_⟩
     have mj:ws[j]∈ws:=YZ S7
     refine(?_:let G_:Prop:=_;G_)
     intro G_
     obtain⟨x1,x2,x3,x4⟩:=FE.2 _ mj
     dsimp only[G_]
     clear G_
     have la:(Dg.addW xj (Dg.jV ps (ws.take j)) tq).length=n:=by rw[Dg.nI];exact lm
     have tk:ws.take (j+1)=ws.take j++ [ws[j]]:=by rw[Ze,ej];rfl
     have ot:Dg.jV ps (ws.take (j+1))=Dg.jV ps (ws.take j)++ (if (ws[j]).2∈ps then [] else [ws[j]]):=by
      rw[tk]
      unfold Dg.jV
      rw[List.filter_append]
      congr 1
      by_cases c:(ws[j]).2∈ps
      ·rw[if_pos c,List.filter_cons_of_neg (by simpa using c)];rfl
      ·rw[if_neg c,List.filter_cons_of_pos (by simpa using c)];rfl
     rw[ot]
     generalize S8:Dg.addW xj (Dg.jV ps (ws.take j)) tq=A0 at *
     generalize ws[j]=wj at *
     have Ld:fA (A0.map V.int) wj.2=some (.int (A0.getD wj.2.toNat 0)):=d6 x3 (by omega)
     simp_all only[i7,yu,Jc,J7]
     have ym:y≠m':=λz=>by rw[z,FG] at FF;cases FF
     have ix:vI (A0.map V.int).length wj.2=some wj.2.toNat:=by
      have:=eC (n:=(A0.map V.int).length) (i:=wj.2.toNat) (by rw[YO];omega)
      rwa [Int.toNat_of_nonneg x3] at this
     refine⟨_,.inl (aZ.of ((ya.trans sA) _ _ hp)),rfl,AS _,?_⟩
     by_cases c:wj.2∈ps
     ·have iv:D7 (V.int wj.2) (ps.map V.int)=true:=by rw[AR];exact decide_eq_true c
      rw[iv]
      rw[if_neg (by decide),if_pos c,ZM,S8]
      exact⟨sA,FF,FG,_,rfl⟩
     ·have iv:D7 (V.int wj.2) (ps.map V.int)=false:=by rw[AR];exact decide_eq_false c
      rw[iv,if_pos (by decide),if_neg c,Dg.pG,S8]
      refine⟨_,_,_,FF,T.bL,T.na_Book_tops,_,iy,_,rfl,_,FG,_,Ld,S5.dE (Bt.of (n:=18) 200000 (by omega) (by omega)) (by omega),_,rfl,_,rfl,_,FG,_,ix,aX sA JG,by rw[aE ym];exact FF,?_,_,rfl⟩
      rw[ar,List.map_set]
    ·intro σ HA bB
     refine(?_:let G_:Prop:=_;G_)
     intro G_
     obtain⟨sA,FF,FG,z8,z9,rfl⟩:=bB
     dsimp only[G_]
     rw[Zi (by omega)] at FG
     exact⟨sA,FF,FG,_,_,_,_,rfl⟩
   ·intro σ H5 bB
    refine(?_:let G_:Prop:=_;G_)
    intro G_
    obtain⟨s5,tX,vm,z6,z7,z8,z9,rfl⟩:=bB
    dsimp only[G_]
    have lm:min (List.map V.int ps).length (List.map V.int x).length=ps.length:=by rw[YO,YO];omega
    rw[lm] at vm
    exact hN _ _ ⟨s5,tX,vm,_,_,_,_,rfl⟩
  intro _ H5 bB
  refine(?_:let G_:Prop:=_;G_)
  intro G_
  obtain⟨s5,tX,vm,z6,z7,z8,z9,rfl⟩:=bB
  dsimp only[G_]
  simp_all only[]
  have lt:(S.1.map (·*d)).length=n:=by rw[YO,lS]
  have lT:(Dg.gK ps x (bw cL) (S.1.map (·*d)) ps.length).length=n:=by rw[Dg.gL,lt]
  have sq:aJ.Sq L ps.length:=⟨rp.1,rp.2.1⟩
  have ins:∀j,j<ps.length->(Dg.gK ps x (bw cL) (S.1.map (·*d)) ps.length).getD (ps.getD j 0).toNat 0=x.getD j 0*Dg.tt (bw cL (ps.getD j 0)):=λj hj=>Dg.wK DD t8 lt Be _ (YS _) hj
  have all:∀q:Int,0<=q->(Dg.gK ps x (bw cL) (S.1.map (·*d)) ps.length).getD q.toNat 0=S.1.getD q.toNat 0*d+aJ.sm ps.length (λi=>x.getD i 0*Dg.bV q (bw cL (ps.getD i 0))):=λq q0=>by
   by_cases c:q∈ps
   ·refine(?_:let G_:Prop:=_;G_)
    intro G_
    obtain⟨i,hi,rfl⟩:=Zo c
    dsimp only[G_]
    have g1:ps.getD i 0=ps[i]:=by rw[YR,YQ hi];rfl
    have e1:=ins i hi
    have e2:=rp.K1 so.eq hi
    rw[hC,YR (l:=ps.map _),YT,YQ hi] at e2
    rw[g1] at e1 e2
    rw[e1,e2]
    rfl
   ·rw[Dg.tN t8 lt Be q0 c _ (YS _),Dg.jh]
  refine kk y (Dg.gK ps x (bw cL) (S.1.map (·*d)) ps.length,S.2*d) H5 (ya.trans s5) ⟨dy,m',tX,vm⟩ (.inr ⟨d,x,d0,rfl,lT.trans lS.symm,ins,all⟩) ⟨lT,Zm B0 d0,(Z.bb.mul Ft).mono (by omega),λk=>?_⟩
  show Bt _ ((Dg.gK ps x (bw cL) (S.1.map (·*d)) ps.length).getD k 0)
  have e:=all (k:Int) (by omega)
  rw[YY] at e
  rw[e]
  exact Dg.Fe p0 Jx Be (λj hj=>zx _ (by rw[YR,YQ (by omega)];exact YZ _)) Li Ft (Z.bt k)
theorem pP:aM ["board","picks","start","found","ways","book","part"] ["board","picks","start"] (ae (top 43)):=⟨rfl,rfl,rfl,by decide +kernel,rfl,by decide +kernel,by decide +kernel⟩
theorem Ia (T:Txt K mg aA tc) (LB:mY base mg tc tp):bK P w K mg base (bE P w) 7 "visits" ["board","picks","start"] (Au tp):=by
 have dP:bK P w K mg base (bE P w) 6 "checked_parts" ["board"] (nQ tp):=AO T LB
 have cU:bK P w K mg base (bE P w) 2 "all_weighted_ways" ["board","picks"] An:=DC T
 have oO:bK P w K mg base (bE P w) 4 "with_visits" ["book","part","ways"] (As aA):=HX T
 have iP:mX P w K mg base (bE P w) 1 "Book" aA ["self","tops","bottom"] (Ag aA):=wV T
 have dC:jd P w K mg base (bE P w) 3 aA "as_shares" ["self"] (E4 aA):=Dz T
 refine T.zu.dW (λ_ _ _ _ _ _=>sS λ_ _ _=>rfl) λf fd F=>F.dZ pP (λvs H Q E h=>?_) (λcw A outer s H vs Q E hr h=>?_)
 ·obtain⟨_,_,_,_,_,_,rfl,_⟩:=h;rfl
 ·refine(?_:let G_:Prop:=_;G_)
  intro G_
  obtain⟨a,c,st,b,rk,ks,rfl,rb,B,hc,ko,j8,hst,kk⟩:=h
  dsimp only[G_]
  clear G_
  have nd:=pP.nd
  refine⟨_,(af (aF (i:=3) nd rfl (Or.inl rfl) (aH dP (hr.mono (by decide)) rfl aB.pass (aa (pv 0) ag (se rfl)) (he:=se rfl) (hpl:=na rfl)))
  (af (aF (i:=4) nd rfl (Or.inl rfl) (aH cU (hr.mono (by decide)) rfl aB.pass (aa (pv 0) (aa (pv 1) ag (se rfl)) (se rfl)) (he:=se rfl) (hpl:=na rfl)))
  (af (aF (i:=5) nd rfl (Or.inl rfl) (vY iP (hr.mono (by decide)) rfl aB.pass (aa (aD uC (c5 (aa ao ag (se rfl))) (aR bz (by rfl) T.z_len Za (aa (pv 0) ag (se rfl)) (he:=se rfl) (hpl:=na rfl))) (aa ao ag (se rfl)) (se rfl)) (he:=se rfl) (hpl:=na rfl)))
  (af (eL ao (eK (dt (pv 5) rfl) (pv 2) set_list))
  (af (bO PassesOwn.never rfl (qr (K:=K) rfl T.z_reversed (aa (pv 3) ag (se rfl))) (aG (i:=6) nd rfl (Or.inl rfl)) (au (aF (i:=5) nd rfl (Or.inl rfl) (aH oO (hr.mono (by decide)) rfl aB.pass (aa (pv 5) (aa (pv 6) (aa (pv 4) ag (se rfl)) (se rfl)) (se rfl)) (he:=se rfl) (hpl:=na rfl)))))
  (au (aN (zk dC T.bL (pv 5) (hr.mono (by decide)) aB.pass)))))))),?_⟩
  refine(?_:let cm:TS:=_;let cn:TS:=_;let cq:TS:=_;let di:TS:=_;let gO:TS:=_;let tW:TS:=_;tSeq cm (tSeq cn (tSeq cq (tSeq di (tSeq gO tW)))) _ _ _)
  intro cm cn cq di gO tW
  have bl:=B.len
  have sl:=sizeLine_eq
  refine(?_:let G_:Prop:=_;G_)
  intro G_
  obtain⟨_,xb,e,ha,VY⟩:=bp.mp rb
  dsimp only[G_]
  clear G_
  cases e
  have lx:=VY.length
  rw[YO] at lx
  change tSeq _ _ _ _ _
  refine aQ (λσ' H1=>∃l ps as,Pr.Told b ps/\az H H1/\H1 l=some (.lst (List.map V.ref as))/\Al (λp v=>∃x,v=.ref x/\H1 x=some (.lst ((Pr.cE b p).map V.int))) ps (as.map V.ref)/\σ'=[some (.ref a),some (.ref c),some (.int (st:Int)),some (.ref l),none,none,none]) ?_ (λN hN=>?_)
  case refine_2=>
   simp_all only[nQ]
   exact⟨b,rb,rk,B,j8,λl ps as H1 td s1 nl hl al=>hN _ _ ⟨l,ps,as,td,s1,hl,al,rfl⟩⟩
  intro _ H1 bB
  refine(?_:let G_:Prop:=_;G_)
  intro G_
  obtain⟨l,ps,as,td,s1,hl,al,rfl⟩:=bB
  dsimp only[G_]
  clear G_
  change tSeq _ _ _ _ _
  refine aQ (λσ' H2=>∃wl xs,az H1 H2/\H2 wl=some (.lst xs)/\bu H2 ((dh b ks).map xS) xs/\σ'=[some (.ref a),some (.ref c),some (.int (st:Int)),some (.ref l),some (.ref wl),none,none]) ?_ (λN hN=>?_)
  case refine_2=>
   simp_all only[An]
   exact⟨b,rb.mono s1,by omega,ks,s1 _ _ hc,ko,λwl xs H2 s2 nw hw oj=>hN _ _ ⟨wl,xs,s2,hw,oj.mono hG,rfl⟩⟩
  intro _ H2 bB
  refine(?_:let G_:Prop:=_;G_)
  intro G_
  obtain⟨wl,xs,s2,hw,rl,rfl⟩:=bB
  dsimp only[G_]
  clear G_
  have Gd:=s1.trans s2
  change tSeq _ _ _ _ _
  refine aQ (λσ' H3=>∃y dy m,az H2 H3/\H2 m=none/\H3 y=some (.ins aA dy [("tops",.ref m),("bottom",.int 1)])/\H3 m=some (.lst ((List.replicate b.length 0).map V.int))/\σ'=[some (.ref a),some (.ref c),some (.int (st:Int)),some (.ref l),some (.ref wl),some (.ref y),none]) ?_ (λN hN=>?_)
  case refine_2=>
   simp_all only[oV,BE]
   refine⟨by decide,λz nz=>?_⟩
   have s3:=ax (o:=.lst [V.int 0]) nz
   have hz:upd H2 z (.lst [V.int 0]) z=some (.lst [V.int 0]):=ar
   generalize upd H2 z (.lst [V.int 0])=H3 at *
   refine⟨_,(Gd.trans s3) _ _ ha,_,hz,by omega,by omega,by rw[YY];show 1*xb.length<=_;omega,λD nD=>?_⟩
   rw[YY,List.flatten_replicate_singleton,<-lx] at *
   have s4:=s3.trans (ax (o:=.lst (List.replicate b.length (V.int 0))) nD)
   have hD:upd H3 D (.lst (List.replicate b.length (V.int 0))) D=some (.lst ((List.replicate b.length 0).map V.int)):=by rw[ar,List.map_replicate]
   generalize upd H3 D (.lst (List.replicate b.length (V.int 0)))=H4 at *
   intro y dy ny Dy ne
   have s5:=s4.trans (ax (o:=.own y) Dy)
   have Fv:=ax (o:=.own y) Dy _ _ hD
   have xD:D≠y:=λz=>by rw[z,ny] at hD;cases hD
   refine⟨y,dy,D,_,_,rfl,ar,by rw[aE xD];exact Fv,λm' H' nm Bc kD ky=>⟨rfl,hN _ _ ⟨y,dy,m',λz o hz=>?_,?_,kD,Bc,rfl⟩⟩⟩
   ·have yx:z≠y:=λe=>by have:=s4 _ _ hz;rw[e,ny] at this;cases this
    exact ky z o yx (by rw[aE yx];exact s5 _ _ hz)
   ·have my:m'≠y:=λe=>by rw[e,ar] at nm;cases nm
    rw[aE my] at nm
    exact none_of s5 nm
  intro _ H3 bB
  refine(?_:let G_:Prop:=_;G_)
  intro G_
  obtain⟨y,dy,m,s3,nm,hy,hm,rfl⟩:=bB
  dsimp only[G_]
  have ym:y≠m:=λz=>by rw[z,hm] at hy;cases hy
  change tSeq _ _ _ _ _
  refine aQ (λσ' H4=>az H2 H4/\q9 aA H4 y ((List.replicate b.length (0:Int)).set st 1,1)/\σ'=[some (.ref a),some (.ref c),some (.int (st:Int)),some (.ref l),some (.ref wl),some (.ref y),none]) ?_ (λN hN=>?_)
  case refine_2=>
   simp_all only[i7]
   refine⟨_,_,_,hy,T.bL,T.na_Book_tops,_,iy,_,rfl,_,hm,st,eC (by rw[YO,ZN];exact hst),hN _ _ ⟨aX s3 nm,⟨dy,m,by rw[aE ym];exact hy,?_⟩,rfl⟩⟩
   rw[ar,List.map_set]
  intro _ H4 bB
  refine(?_:let G_:Prop:=_;G_)
  intro G_
  obtain⟨s4,hb,rfl⟩:=bB
  dsimp only[G_]
  have la:=al.length
  rw[YO] at la
  have Lh:(dh b ks).length=b.length:=by unfold dh;rw[List.length_zipWith,ko.len];omega
  have Ib:∀{os:List Int},os.Nodup->(∀q∈os,Pr.In b q)->os.length<=b.length:=λ{os} h1 h2=>by
   have:=Pr.sub_len (m:=kf b.length) h1 λq hq=>fU.mpr (h2 q hq)
   unfold kf at this
   rwa [YO,Y9] at this
  change tSeq _ _ _ _ _
  refine aQ (λσ' H5=>az H2 H5/\∃bk S z os,q9 aA H5 bk S/\os.Nodup/\(∀q,q∈os↔Pr.In b q)/\tO b ks st os S/\σ'=[some (.ref a),some (.ref c),some (.int (st:Int)),some (.ref l),some (.ref wl),some (.ref bk),z]) ?_ (λN hN=>?_)
  case refine_2=>
   simp_all only[zh]
   have yh:=s2.trans s4
   refine⟨_,aZ.of (yh _ _ hl),bD (B4 (K:=K) (a:=l) (xs:=as.map V.ref) (Ok:=az H2) (λH' s=>aZ.of ((s2.trans s) _ _ hl))) (λi σ H5=>az H2 H5/\∃bk S z os,q9 aA H5 bk S/\os.Nodup/\(∀q,q∈os↔Pr.In b q/\ps.length<=u7 b ps q+i)/\tO b ks st os S/\σ=[some (.ref a),some (.ref c),some (.int (st:Int)),some (.ref l),some (.ref wl),some (.ref bk),z]) ⟨s4,y,_,_,[],hb,List.nodup_nil,λq=>⟨λh=>by simp at h,λh=>by have:=Dm B td h.1;have:=h.2;omega⟩,tO.start hst,rfl⟩ (λ_ _ _ _ h=>h.1) ?_ ?_⟩
   ·intro i v σ H5 H6 hi dm dA
    refine(?_:let G_:Prop:=_;G_)
    intro G_
    obtain⟨s5,bk,S,z,os,AQ,Gg,mo,I,rfl⟩:=dm
    obtain⟨rfl,ex⟩:=dA
    rw[YO] at hi
    obtain⟨p,ep,x,rfl,hx⟩:=al.reverse.get ex
    dsimp only[G_]
    have Fd:i<ps.length:=by omega
    rw[List.getElem?_reverse Fd] at ep
    have ip:=td.De (YU ep)
    have yg:∀q∈Pr.cE b p,Pr.In b q:=λq hq=>Pr.dz B.jB.good ip hq
    have lp:0< (Pr.cE b p).length:=List.length_pos_iff.mpr (Pr.gI B.jB.good ip)
    have Gb:(Pr.cE b p).Nodup:=(Pr.iL B.jB.good ip).imp λh z=>by omega
    have S9:(os++Pr.cE b p).Nodup:=List.nodup_append.mpr ⟨Gg,Gb,λq hq r hr z=>by
     have:=((mo q).mp hq).2
     rw[z,jU B td ep hr] at this
     omega⟩
    have o1:=Ib S9 λq hq=>by
     rcases List.mem_append.mp hq with h | h
     ·exact((mo q).mp h).1
     ·exact yg q h
    rw[Zf] at o1
    simp_all only[As]
    refine⟨S,AQ,Pr.cE b p,(s2.trans s5) _ _ hx,b.length,330+92*os.length,xs,s5 _ _ hw,dh b ks,rl.mono s5,Lh,bl,Gb,lp,by omega,yg,λws CH=>?_,rk,λq hq=>B.dn ko (yg q hq),I.sz,by omega,by omega,λx2 T2 H7 s7 h7 sv sz=>⟨s5.trans s7,x2,T2,h7,_,os++Pr.cE b p,S9,λq=>?_,I.step B td ko ep (λq hq=>⟨((mo q).mp hq).1,by have:=((mo q).mp hq).2;omega⟩) sv sz,rfl,rfl⟩⟩
    ·refine(?_:let G_:Prop:=_;G_)
     intro G_
     obtain⟨j,hj,rfl⟩:=Zo CH
     dsimp only[G_]
     have:=(B.wk ko (p:=(j:Int)) ⟨by omega,by omega⟩).1
     unfold bw at this
     rw[YY,YR,YQ hj] at this
     exact this
    ·rw[List.mem_append]
     constructor
     ·rintro(h | h)
      ·exact⟨((mo q).mp h).1,by have:=((mo q).mp h).2;omega⟩
      ·exact⟨yg q h,by rw[jU B td ep h];omega⟩
     ·rintro⟨h1,h2⟩
      by_cases c:ps.length<=u7 b ps q+i
      ·exact .inl ((mo q).mpr ⟨h1,c⟩)
      ·exact .inr (Dl B td ep h1 (by omega))
   ·intro σ H5 bB
    refine(?_:let G_:Prop:=_;G_)
    intro G_
    obtain⟨s5,bk,S,z,os,AQ,Gg,mo,I,rfl⟩:=bB
    dsimp only[G_]
    rw[YO,la] at mo
    exact hN _ _ ⟨s5,bk,S,z,os,AQ,Gg,λq=>⟨λh=>((mo q).mp h).1,λh=>(mo q).mpr ⟨h,by omega⟩⟩,I,rfl⟩
  intro _ H5 bB
  refine(?_:let G_:Prop:=_;G_)
  intro G_
  obtain⟨s5,bk,S,z,os,AQ,Gg,mo,I,rfl⟩:=bB
  dsimp only[G_]
  simp_all only[j1]
  refine(?_:let G_:Prop:=_;G_)
  intro G_
  obtain⟨dx,m',hx,Bc⟩:=id AQ
  dsimp only[G_]
  have V0:=I.sz.pos
  have o1:=Ib Gg λq hq=>(mo q).mp hq
  have sz:=I.sz.up (M':=330+92*b.length) (by omega)
  have pm:os.Perm (kf b.length):=(List.perm_ext_iff_of_nodup Gg (vd _)).mpr λq=>(mo q).trans fU.symm
  refine⟨_,_,hx,DB,bk,S,rfl,AQ,V0,sz.bb.mono (by omega),by rw[sz.len];omega,λl6 H6 s6 n6 r6=>kk l6 S H6 (Gd.trans (s5.trans s6)) (none_of (Gd.trans s5) n6) r6 sz λq hq=>?_⟩
  rw[I.eq q hq,Dg.xP pm]
theorem jx:aM ["_law_script","_law_k","_law_number"] ["_law_script","_law_k"] (ae (top 45)):=⟨rfl,rfl,rfl,by decide +kernel,rfl,by decide +kernel,by decide +kernel⟩
theorem wW (T:Txt K mg aA tc):bK P w K mg base (bE P w) 1 "_law_cell" ["_law_script","_law_k"] (Dr K):=by
 refine T.sP.dW (λ_ _ _ _ _ _=>dH λ_ _=>rfl) λf fd F=>F.dZ jx (λvs H Q E h=>?_) (λcw A outer s H vs Q E hr h=>?_)
 ·obtain⟨_,_,_,rfl,_⟩:=h;rfl
 ·refine(?_:let G_:Prop:=_;G_)
  intro G_
  obtain⟨a,ns,k,rfl,hS,k0,k1,kk⟩:=h
  dsimp only[G_]
  have nd:=jx.nd
  refine⟨_,(af (bN (aU oU (pv 1) (aR (iI (K:=K)) (by rfl) T.z_len Za (aa (pv 0) ag (se rfl)) (he:=se rfl) (hpl:=na rfl)) (bf _)) (au (aN (aL (pb (K:=K)) (pv 0) (pv 1) (λ_ _=>rfl))))
   bq)
  (af (aF (i:=2) nd rfl (Or.inl rfl) (aD ba (aD aV (pv 1) ao) ao))
  (af (bN (aU i6 (aR (iI (K:=K)) (by rfl) T.z_len Za (aa (pv 0) ag (se rfl)) (he:=se rfl) (hpl:=na rfl)) ao (bf _)) (au (aF (i:=2) nd rfl (Or.inl rfl) (aD ba (aD aV (aD cQ (aL (pb (K:=K)) (pv 0) (aD cQ (aD aV (pv 1) ao) (aR (iI (K:=K)) (by rfl) T.z_len Za (aa (pv 0) ag (se rfl)) (he:=se rfl) (hpl:=na rfl))) (λ_ _=>rfl)) ao) ao) (aD aV (aD aV (pv 1) (pv 1)) ao))))
   bq)
  (au (aN (aD cQ (aD aV (pv 2) (pv 2)) ao)))))),?_⟩
  refine(?_:let cm:TS:=_;let cn:TS:=_;let cq:TS:=_;let di:TS:=_;tSeq cm (tSeq cn (tSeq cq di)) _ _ _)
  intro cm cn cq di
  simp_all only[Eh]
  have j2:k*k<=1000000:=Int.le_trans (Int.mul_le_mul (show k<=1000 by omega) (show k<=1000 by omega) k0 (by decide)) (by decide)
  have j3:0<=k*k:=Int.mul_nonneg k0 k0
  refine⟨ns,hS,iG (λc=>⟨ns,hS,k0,c,kk _⟩) (λc=>⟨cC (by omega) (by omega),ns,hS,iG (λz=>?_) (λz=>?_)⟩)⟩
  ·have m1:=ZE (ns.getD (k*5 % (ns.length:Int)).toNat 0) (show(2147483647:Int)≠0 by decide)
   have m2:=ZX (ns.getD (k*5 % (ns.length:Int)).toNat 0) (show(0:Int)<2147483647 by decide)
   exact⟨cC (by omega) (by omega),ns,hS,z,ns,hS,ZE _ (by omega),ZX _ z,by decide,mM,cC (by omega) (by omega),cC (by omega) (by omega),cC (by omega) (by omega),by decide,kk _⟩
  ·exact⟨cC (by omega) (by omega),by decide,kk _⟩
theorem iz:aM ["_law_cell_here","_law_many"] ["_law_cell_here","_law_many"] (ae (top 46)):=⟨rfl,rfl,rfl,by decide +kernel,rfl,by decide +kernel,by decide +kernel⟩
theorem nZ (T:Txt K mg aA tc):bK P w K mg base (bE P w) 1 "_law_mixed" ["_law_cell_here","_law_many"] eD:=by
 refine T.qw.dW (λ_ _ _ _ _ _=>dH λ_ _=>rfl) λf fd F=>F.dZ iz (λvs H Q E h=>?_) (λcw A outer s H vs Q E hr h=>?_)
 ·obtain⟨_,_,rfl,_⟩:=h;rfl
 ·refine(?_:let G_:Prop:=_;G_)
  intro G_
  obtain⟨c,m,rfl,m0,kk⟩:=h
  dsimp only[G_]
  have nd:=iz.nd
  refine⟨_,(au (aN (aD cQ (aD dF (aD cQ (aD aV (aD cQ (pv 0) (aD iF ao ao)) ao) (aD iF ao ao)) (aD iF ao ao)) (pv 1)))),?_⟩
  simp_all only[]
  have h1:=ZE c (show((2:Int)^64)≠0 by decide)
  have h2:=ZX c (show(0:Int)<2^64 by decide)
  exact⟨by decide,by decide,by decide,by decide,cC (by omega) (by omega),by decide,by decide,by decide,by decide,by decide,by decide,by decide,eV.lit,m0,kk _ (ZE _ (by omega)) (ZX _ m0)⟩
theorem km:aM ["_law_top","_law_bottom","_law_one","_law_other"] ["_law_top","_law_bottom"] (ae (top 47)):=⟨rfl,rfl,rfl,by decide +kernel,rfl,by decide +kernel,by decide +kernel⟩
theorem qR (T:Txt K mg aA tc):bK P w K mg base (bE P w) 1 "_law_low" ["_law_top","_law_bottom"] jt:=by
 refine T.uS.dW (λ_ _ _ _ _ _=>dH λ_ _=>rfl) λf fd F=>F.dZ km (λvs H Q E h=>?_) (λcw A outer s H vs Q E hr h=>?_)
 ·obtain⟨_,_,rfl,_⟩:=h;rfl
 ·refine(?_:let G_:Prop:=_;G_)
  intro G_
  obtain⟨a,b,rfl,b0,bb,k⟩:=h
  dsimp only[G_]
  have nd:=km.nd
  refine⟨_,(af (aF (i:=2) nd rfl (Or.inl rfl) (aR mF (by rfl) T.z_abs rfl (aa (pv 0) ag (se rfl)) (he:=se rfl) (hpl:=na rfl)))
  (af (aF (i:=3) nd rfl (Or.inl rfl) (pv 1))
  (af (i5 PassesOwn.never (aU i6 (pv 3) ao (bf _)) (au (DW (i:=2) (j:=3) rfl nd rfl rfl (by decide) rfl rfl (aa (pv 3) (aa (aD cQ (pv 2) (pv 3)) ag (se rfl)) (se rfl)) rfl)))
  (au (aN (bT (aa (aD dF (pv 0) (pv 2)) (aa (aD dF (pv 1) (pv 2)) ag (se rfl)) (se rfl)))))))),?_⟩
  refine(?_:let cm:TS:=_;let cn:TS:=_;let cq:TS:=_;let di:TS:=_;tSeq cm (tSeq cn (tSeq cq di)) _ _ _)
  intro cm cn cq di
  simp_all only[]
  refine rG (λσ H1=>H1=H/\∃x y:Int,σ=[some (.int a),some (.int b),some (.int x),some (.int y)]/\0<=x/\0<=y/\Nm.g x y=Nm.g a b) (λσ _=>match σ with | [_,_,_,some (.int y)]=>y.toNat | _=>0) ?_ ?_ ?_
  ·refine⟨rfl,_,_,rfl,?_,by omega,?_⟩
   ·split <;>omega
   ·rw[show(if a<0 then -a else a)=(a.natAbs:Int) by split <;>omega,Nm.yR]
  ·intro σ H1 bB
   refine(?_:let G_:Prop:=_;G_)
   intro G_
   obtain⟨rfl,x,y,rfl,x0,y0,e⟩:=bB
   dsimp only[G_]
   simp_all only[]
   refine iG (λc=>?_) (λc=>?_)
   ·refine⟨c,y0,ZE _ (by omega),by rw[Nm.yS x0 c,e],?_⟩
    have:=ZX x c
    have:=ZE x (show y≠0 by omega)
    omega
   ·have z:y=0:=by omega
    subst z
    rw[Nm.yT x0] at e
    rw[e]
    have g0:0<Nm.g a b:=Nm.mN (by omega)
    have gb:Bt 8900 (Nm.g a b):=bb.le (by have:=Nm.Ep (a:=a) b0;omega)
    obtain⟨e1,e2⟩:=Nm.uF (a:=a) b0
    rw[e1,e2] at k
    exact⟨eV.of g0 gb,eV.of g0 gb,by decide,λp H2 s1 n1 e=>k p H2 s1 n1 e⟩
  ·intro σ H1 Q1 Q2 hq hc
   simp only[L2.start,Pr,tRev,tD1,tDPop1,tSl,tNoPart,tPart,rSlL,tDIn,tDNotIn,gSub,rSetL,tLst,tDNewK,tComp,L2.stC,tFor_eq,iList,iTup,iRng1,iRng2,iZip,iEnum,iDict,iStr,tChain,tSumV,tBM,rJoin,tJoined,jNil,jLit,jInt,jStr,tRaise,tDGet,tDGet2,tDGet1,sDPut,Option.join_some,List.getElem?_nil,tSeq,tRet,tRetN,tIfS,tTest,tB,tOp,tUn,tVar,tC,tCB,tCons,tNil,tCall,tTupS,tAsg,gName,gNil,gCons,tPar,tNext,tDrop,tAnd,tOr,tNot,tAndV,tOrV,tNotV,tIf,rI,rI0,rU,rIxTH,rIxLH,rEqT,rNeT,rInT,rEq,rNe,scal_ss,scal_ii,scal_bb,scal_si,scal_is,CPow,at0,at1,at2,Zb,List.map_nil,Y4,List.length_nil,Nat.reduceSub,Nat.reduceAdd,ZI,List.replicate_zero,List.reduceReplicate,ZM,List.nil_append,List.cons_append,Z7,Z4,Z1,Z2,Option.some.injEq,exists_eq_left',exists_eq_left,V.ref.injEq,V.int.injEq,V.bl.injEq,V.str.injEq,V.ty.injEq,HO.tup.injEq,HO.lst.injEq,List.cons.injEq,and_true,true_and,and_assoc,exists_and_left,decide_eq_true_eq,Bool.not_eq_true',decide_eq_false_iff_not,ite_true,ite_false,if_true,if_false,Int.reduceToNat,eq_self_iff_true] at hc ⊢
   refine(?_:let G_:Prop:=_;G_)
   intro G_
   obtain⟨v,e1,i,e2,q⟩:=hc
   dsimp only[G_]
   exact⟨v,e1,i,e2,hq _ _ q⟩
theorem jy:aM ["_law_one","_law_other"] ["_law_one","_law_other"] (ae (top 48)):=⟨rfl,rfl,rfl,by decide +kernel,rfl,by decide +kernel,by decide +kernel⟩
theorem FH (T:Txt K mg aA tc):bK P w K mg base (bE P w) 2 "_law_plus" ["_law_one","_law_other"] Av:=by
 have c7:bK P w K mg base (bE P w) 1 "_law_low" ["_law_top","_law_bottom"] jt:=qR T
 refine T.sQ.dW (λ_ _ _ _ _ _=>dH λ_ _=>rfl) λf fd F=>F.dZ jy (λvs H Q E h=>?_) (λcw A outer s H vs Q E hr h=>?_)
 ·obtain⟨_,_,_,_,rfl,_⟩:=h;rfl
 ·refine(?_:let G_:Prop:=_;G_)
  intro G_
  obtain⟨p,q,a,b,rfl,hp,hq,ga,gb,k⟩:=h
  dsimp only[G_]
  have nd:=jy.nd
  refine⟨_,(au (aN (aH c7 (hr.mono (by decide)) rfl aB.pass (aa (aD ba (aD aV (aL aP (pv 0) ao (λ_ _=>rfl)) (aL aP (pv 1) ao (λ_ _=>rfl))) (aD aV (aL aP (pv 1) ao (λ_ _=>rfl)) (aL aP (pv 0) ao (λ_ _=>rfl)))) (aa (aD aV (aL aP (pv 0) ao (λ_ _=>rfl)) (aL aP (pv 1) ao (λ_ _=>rfl))) ag (se rfl)) (se rfl)) (he:=se rfl) (hpl:=na rfl)))),?_⟩
  simp only[Pr] at hp hq
  simp_all only[jt,hp,hq]
  refine⟨ga.1.dE gb.2.1,gb.1.dE ga.2.1,ga.2.1.dE gb.2.1,?_⟩
  exact⟨Zm ga.2.2 gb.2.2,(ga.2.1.mul gb.2.1).mono (by decide),λr H' s' n' e=>k r H' s' n' e⟩
theorem iA:aM ["_law_one","_law_other"] ["_law_one","_law_other"] (ae (top 49)):=⟨rfl,rfl,rfl,by decide +kernel,rfl,by decide +kernel,by decide +kernel⟩
theorem FI (T:Txt K mg aA tc):bK P w K mg base (bE P w) 2 "_law_times" ["_law_one","_law_other"] Aw:=by
 have c7:bK P w K mg base (bE P w) 1 "_law_low" ["_law_top","_law_bottom"] jt:=qR T
 refine T.qx.dW (λ_ _ _ _ _ _=>dH λ_ _=>rfl) λf fd F=>F.dZ iA (λvs H Q E h=>?_) (λcw A outer s H vs Q E hr h=>?_)
 ·obtain⟨_,_,_,_,rfl,_⟩:=h;rfl
 ·refine(?_:let G_:Prop:=_;G_)
  intro G_
  obtain⟨p,q,a,b,rfl,hp,hq,ga,gb,k⟩:=h
  dsimp only[G_]
  have nd:=iA.nd
  refine⟨_,(au (aN (aH c7 (hr.mono (by decide)) rfl aB.pass (aa (aD aV (aL aP (pv 0) ao (λ_ _=>rfl)) (aL aP (pv 1) ao (λ_ _=>rfl))) (aa (aD aV (aL aP (pv 0) ao (λ_ _=>rfl)) (aL aP (pv 1) ao (λ_ _=>rfl))) ag (se rfl)) (se rfl)) (he:=se rfl) (hpl:=na rfl)))),?_⟩
  simp only[Pr] at hp hq
  simp_all only[jt,hp,hq]
  refine⟨ga.1.dE gb.1,ga.2.1.dE gb.2.1,?_⟩
  exact⟨Zm ga.2.2 gb.2.2,(ga.2.1.mul gb.2.1).mono (by decide),λr H' s' n' e=>k r H' s' n' e⟩
theorem fz:aM ["_law_found","_law_number"] ["_law_found"] (ae (top 58)):=⟨rfl,rfl,rfl,by decide +kernel,rfl,by decide +kernel,by decide +kernel⟩
theorem Ic (T:Txt K mg aA tc):bK P w K mg base (bE P w) 2 "_law_is_share" ["_law_found"] Fg:=by
 have c7:bK P w K mg base (bE P w) 1 "_law_low" ["_law_top","_law_bottom"] jt:=qR T
 refine T.kP.dW (λ_ _ _ _ _ _=>ir λ_=>rfl) λf fd F=>F.dZ fz (λvs H Q E h=>?_) (λcw A outer s H vs Q E hr h=>?_)
 ·obtain⟨_,_,_,rfl,_⟩:=h;rfl
 ·refine(?_:let G_:Prop:=_;G_)
  intro G_
  obtain⟨p,x,y,rfl,hp,y0,JH,g1,k⟩:=h
  dsimp only[G_]
  have nd:=fz.nd
  refine⟨_,(af (bN (PW.pt (pw_or (jD (gz (aR (g5 (K:=K)) (by rfl) T.z_isinstance rfl (aa (pv 0) (aa (lH (v:=V.ty "tuple") rfl T.z_tuple rfl rfl) ag (se rfl)) (se rfl)) (he:=se rfl) (hpl:=na rfl)))) (pw_or1 (aU vF (aR xB (by rfl) T.z_len Za (aa (pv 0) ag (se rfl)) (he:=se rfl) (hpl:=na rfl)) ao (bf _))))) (au (aN mr))
   bq)
  (af (bO PassesOwn.never rfl (BX (K:=K) (pv 0)) (aG (i:=1) nd rfl (Or.inl rfl)) (au (bN (PW.pt (pw_or (jD (gz (aR (g5 (K:=K)) (by rfl) T.z_isinstance rfl (aa (pv 1) (aa (lH (v:=V.ty "int") rfl T.z_int rfl rfl) ag (se rfl)) (se rfl)) (he:=se rfl) (hpl:=na rfl)))) (pw_or1 (gz (aR (g5 (K:=K)) (by rfl) T.z_isinstance rfl (aa (pv 1) (aa (lH (v:=V.ty "bool") rfl T.z_bool rfl rfl) ag (se rfl)) (se rfl)) (he:=se rfl) (hpl:=na rfl)))))) (au (aN mr))
   bq)))
  (au (aN (DS (pT i6 (aL aP (pv 0) ao (λ_ _=>rfl)) ao (bf _)) (DR (pT (xE hr.yC) (aH c7 (hr.mono (by decide)) rfl aB.pass (aa (aL aP (pv 0) ao (λ_ _=>rfl)) (aa (aL aP (pv 0) ao (λ_ _=>rfl)) ag (se rfl)) (se rfl)) (he:=se rfl) (hpl:=na rfl)) (pv 0) (bf _)))))))),?_⟩
  refine(?_:let cm:TS:=_;let cn:TS:=_;let cq:TS:=_;tSeq cm (tSeq cn cq) _ _ _)
  intro cm cn cq
  simp only[Pr] at hp
  simp_all only[hp]
  refine⟨_,gi.tup hp,_,Ej,?_⟩
  rw[if_neg (by decide)]
  refine⟨⟨_,eA.of hp⟩,Bs (K:=K) (a:=p) (xs:=[V.int x,V.int y]) (λi σ H2=>H2=H/\∃v,σ=[some (.ref p),v]) ⟨rfl,_,rfl⟩ (λi σ H2 _ ⟨e,_⟩=>by rw[e];exact eA.of hp) ?_ ?_⟩
  ·intro i z σ H2 hi VZ
   refine(?_:let G_:Prop:=_;G_)
   intro G_
   obtain⟨rfl,v,rfl⟩:=VZ
   obtain⟨j,rfl⟩:∃j,z=V.int j:=by
    match i,hi with
    | 0,hi=>exact⟨x,by simpa using hi.symm⟩
    | 1,hi=>exact⟨y,by simpa using hi.symm⟩
   dsimp only[G_]
   simp_all only[]
   refine⟨_,gi.int j,_,Ei,?_⟩
   rw[if_neg (by decide)]
   refine⟨_,gi.int j,_,El,?_⟩
   rw[if_neg (by decide)]
   exact⟨_,rfl⟩
  ·intro σ H2 bB
   refine(?_:let G_:Prop:=_;G_)
   intro G_
   obtain⟨rfl,v,rfl⟩:=bB
   dsimp only[G_]
   simp_all only[hp,jt]
   have e1:Nm.st x y=x:=by rw[(Nm.uF y0).1,g1,Int.ediv_one]
   have e2:Nm.sb x y=y:=by rw[(Nm.uF y0).2,g1,Int.ediv_one]
   rw[e1,e2,if_pos y0]
   exact⟨y0,JH.mono (by decide),λp1 H3 s3 n3 h3=>⟨_,h3,_,s3 _ _ hp,rfl,rfl,by rw[rT];exact k _ s3⟩⟩
theorem el:aM ["_law_found","_law_many"] ["_law_found","_law_many"] (ae (top 59)):=⟨rfl,rfl,rfl,by decide +kernel,rfl,by decide +kernel,by decide +kernel⟩
theorem FJ (T:Txt K mg aA tc):bK P w K mg base (bE P w) 3 "_law_are_shares" ["_law_found","_law_many"] wL:=by
 have kZ:bK P w K mg base (bE P w) 2 "_law_is_share" ["_law_found"] Fg:=Ic T
 refine T.je.dW (λ_ _ _ _ _ _=>dH λ_ _=>rfl) λf fd F=>F.dZ el (λvs H Q E h=>?_) (λcw A outer s H vs Q E hr h=>?_)
 ·obtain⟨_,_,rfl,_⟩:=h;rfl
 ·refine(?_:let G_:Prop:=_;G_)
  intro G_
  obtain⟨a,ws,rfl,ra,lw,gw,kk⟩:=h
  dsimp only[G_]
  have nd:=el.nd
  refine⟨_,(af (bN (PW.pt (pw_or (jD (gz (aR (g5 (K:=K)) (by rfl) T.z_isinstance rfl (aa (pv 0) (aa (lH (v:=V.ty "list") rfl T.z_list rfl rfl) ag (se rfl)) (se rfl)) (he:=se rfl) (hpl:=na rfl)))) (pw_or1 (aU vF (aR bz (by rfl) T.z_len Za (aa (pv 0) ag (se rfl)) (he:=se rfl) (hpl:=na rfl)) (pv 1) (bf _))))) (au (aN mr))
   bq)
  (au (aN (aR (j6 (K:=K)) (by rfl) T.z_all rfl (aa (bP rfl (N:=["_law_found","_law_many"]) (so:=ae (top 59)) (N':=["_law_one"]) (k:=1) (fr:=[]) rfl rfl ⟨rfl,by decide +kernel,by decide +kernel,by decide +kernel,rfl,by decide +kernel,by decide +kernel⟩ (bo (K:=K) (pv 0)) (λ_ _ _ _ _=>(aG (i:=0) (show(["_law_one"]:List Str).Nodup by decide +kernel) rfl (Or.inl rfl))) (λ_ _ _ _ _=>bH)
   (λ_ _ _ _ _=>(aH kZ (hr.mono (by decide)) rfl aB.pass (aa (pv 0) ag (se rfl)) (he:=se rfl) (hpl:=na rfl)))) ag (se rfl)) (he:=se rfl) (hpl:=na rfl))))),?_⟩
  refine(?_:let G_:Prop:=_;G_)
  intro G_
  obtain⟨_,xs,e,ha,rl⟩:=bp.mp ra
  dsimp only[G_]
  cases e
  have lx:=rl.length
  rw[YO] at lx
  simp_all only[]
  refine⟨_,gi.lst ha,_,Ek,?_⟩
  rw[if_neg (by decide)]
  refine⟨_,ha,?_⟩
  rw[if_neg (by omega)]
  refine⟨⟨_,aZ.of ha⟩,?_⟩
  refine comp_map (src_list (Ok:=az H) (λH' s'=>aZ.of (s' _ _ ha))) (λ_ _ _ _ h=>by rw[h.1];exact az.refl _) (by rw[sizeLine_eq];omega) (λi y H4=>y=.bl true) (λi y H4 H5 s5 h=>h) ?_ ?_
  ·rintro i x w0 H4 H5 Q2 hi s4 ⟨rfl,ex⟩ kq
   refine(?_:let G_:Prop:=_;G_)
   intro G_
   obtain⟨d,ed,rd⟩:=rl.get ex
   rw[YT] at ed
   obtain⟨w1,ew,rfl⟩:=Option.map_eq_some_iff.mp ed
   obtain⟨p,rfl,hp⟩:=cM.mp rd
   obtain⟨g1,g2,g3⟩:=gw w1 (YU ew)
   dsimp only[G_]
   simp_all only[Fg]
   exact⟨_,_,s4 _ _ hp,g1,g2,g3,λH6 s6=>kq _ _ s6 rfl⟩
  ·intro ys H4 s4 ly hy D n1 n2
   have ey:ys=List.map V.bl (List.replicate ys.length true):=by
    rw[List.map_replicate]
    exact List.eq_replicate_iff.mpr ⟨rfl,λb hb=>by
     obtain⟨i,ei⟩:=Zk hb
     exact hy i b ei⟩
   refine⟨List.replicate ys.length true,aZ.of (by rw[<-ey];exact ar),?_⟩
   rw[show(List.replicate ys.length true).all id=true by simp]
   exact kk _ (s4.trans (ax n2))
theorem iB:aM ["_law_cell_here","_law_k","_law_way","_law_top","_law_bottom"] ["_law_cell_here","_law_k"] (ae (top 50)):=⟨rfl,rfl,rfl,by decide +kernel,rfl,by decide +kernel,by decide +kernel⟩
theorem FK (T:Txt K mg aA tc):bK P w K mg base (bE P w) 2 "_law_share" ["_law_cell_here","_law_k"] Az:=by
 have c7:bK P w K mg base (bE P w) 1 "_law_low" ["_law_top","_law_bottom"] jt:=qR T
 have aS:bK P w K mg base (bE P w) 1 "_law_mixed" ["_law_cell_here","_law_many"] eD:=nZ T
 refine T.qy.dW (λ_ _ _ _ _ _=>dH λ_ _=>rfl) λf fd F=>F.dZ iB (λvs H Q E h=>?_) (λcw A outer s H vs Q E hr h=>?_)
 ·obtain⟨_,_,rfl,_⟩:=h;rfl
 ·refine(?_:let G_:Prop:=_;G_)
  intro G_
  obtain⟨c,k,rfl,k0,k1,kk⟩:=h
  dsimp only[G_]
  have nd:=iB.nd
  refine⟨_,(af (aF (i:=2) nd rfl (Or.inl rfl) (aH aS (hr.mono (by decide)) rfl aB.pass (aa (aD ba (pv 0) (aD aV ao (pv 1))) (aa ao ag (se rfl)) (se rfl)) (he:=se rfl) (hpl:=na rfl)))
  (af (aF (i:=3) nd rfl (Or.inl rfl) (aD mC (aH aS (hr.mono (by decide)) rfl aB.pass (aa (aD ba (aD ba (pv 0) (aD aV ao (pv 1))) ao) (aa ao ag (se rfl)) (se rfl)) (he:=se rfl) (hpl:=na rfl)) ao))
  (af (aF (i:=4) nd rfl (Or.inl rfl) ao)
  (af (bN (aU oU (pv 2) ao (bf _)) (au (aF (i:=4) nd rfl (Or.inl rfl) (aD ba ao (aH aS (hr.mono (by decide)) rfl aB.pass (aa (aD ba (aD ba (pv 0) (aD aV ao (pv 1))) ao) (aa ao ag (se rfl)) (se rfl)) (he:=se rfl) (hpl:=na rfl)))))
   bq)
  (af (bN (aU dq (pv 2) ao (bf _)) (af (aF (i:=3) nd rfl (Or.inl rfl) (aD mC (aD cQ (aD aV (aD ba (pv 0) ao) (aD ba (aD aV (pv 1) (pv 1)) ao)) (aD mC (aD aV ao (aD iF ao ao)) ao)) (aD mC (aD iF ao ao) ao)))
  (au (aF (i:=4) nd rfl (Or.inl rfl) (aD ba ao (aD cQ (aD aV (aD ba (pv 0) ao) (aD ba (aD aV (pv 1) (pv 1)) ao)) (aD iF ao ao))))))
   bq)
  (au (aN (aH c7 (hr.mono (by decide)) rfl aB.pass (aa (pv 3) (aa (pv 4) ag (se rfl)) (se rfl)) (he:=se rfl) (hpl:=na rfl))))))))),?_⟩
  refine(?_:let cm:TS:=_;let cn:TS:=_;let cq:TS:=_;let di:TS:=_;let gO:TS:=_;let tW:TS:=_;tSeq cm (tSeq cn (tSeq cq (tSeq di (tSeq gO tW)))) _ _ _)
  intro cm cn cq di gO tW
  have j2:k*k<=1000000:=Int.le_trans (Int.mul_le_mul (show k<=1000 by omega) (show k<=1000 by omega) k0 (by decide)) (by decide)
  have j3:0<=k*k:=Int.mul_nonneg k0 k0
  have fin:∀x y:Int,Bt 40 x->Bt 20 y->0<y->0<y/\Bt 8900 y/\∀p H',az H H'->H p=none->H' p=some (.tup [V.int (Nm.st x y),V.int (Nm.sb x y)])->Q (.ref p) H':=λx y bx JH y0=>
   ⟨y0,JH.mono (by decide),λp H' s' n' e=>kk p H' (Nm.st x y,Nm.sb x y) s' n' e ⟨bx.le (Nm.Er (by omega)),JH.le (Nm.Es (by omega)),Nm.yV (by omega),Nm.yW (by omega)⟩⟩
  have BF:∀c1 c2:Int,Bt 40 (c1 % (2*10^12 - 1) - (10^12 - 1))/\Bt 20 (1+c2 % 10^6)/\0<1+c2 % 10^6:=λc1 c2=>by
   have h1:=ZE c1 (show(2*10^12 - 1:Int)≠0 by decide)
   have h2:=ZX c1 (show(0:Int)<2*10^12 - 1 by decide)
   have h3:=ZE c2 (show(10^6:Int)≠0 by decide)
   have h4:=ZX c2 (show(0:Int)<10^6 by decide)
   exact⟨Bt.of (10^12) (by omega) (by omega),Bt.of (10^6) (by omega) (by omega),by omega⟩
  simp_all only[jt,eD]
  have bs:∀{t r:Int},0<=t->t<19->0<=r->r<12->Bt 40 (t - 9)/\Bt 20 (1+r):=λa b c d=>⟨Bt.of 60 (by omega) (by omega),Bt.of 60 (by omega) (by omega)⟩
  refine⟨cC,by decide,λwy w0 w1=>⟨cC,by decide,λt t0 t1=>iG (λc1=>⟨cC,by decide,λr r0 r1=>iG (λc2=>?_) (λc2=>?_)⟩) (λc1=>iG (λc2=>?_) (λc2=>?_))⟩⟩
  ·exfalso
   omega
  ·exact fin (t - 9) (1+r) (bs t0 t1 r0 r1).1 (bs t0 t1 r0 r1).2 (by omega)
  ·have bg:=BF ((c+1)* (k*k+71)) ((c+3)* (k*k+5))
   exact⟨cC (by omega) (by omega),mM (by omega) (by omega),by decide,by decide,by decide,cC,by decide,by decide,by decide,by decide,cC (by omega) (by omega),mM (by omega) (by omega),by decide,by decide,by decide,by decide,fin _ _ bg.1 bg.2.1 bg.2.2⟩
  ·exact fin (t - 9) 1 (bs t0 t1 (Int.le_refl 0) (by decide)).1 (Bt.of 60 (by omega) (by omega)) (by decide)
theorem gW:aM ["_law_cell_here","_law_n","_law_first","_law_keyed"] ["_law_cell_here","_law_n"] (ae (top 51)):=⟨rfl,rfl,rfl,by decide +kernel,rfl,by decide +kernel,by decide +kernel⟩
theorem FL (T:Txt K mg aA tc):bK P w K mg base (bE P w) 2 "_law_turned" ["_law_cell_here","_law_n"] Ax:=by
 have aS:bK P w K mg base (bE P w) 1 "_law_mixed" ["_law_cell_here","_law_many"] eD:=nZ T
 refine T.oI.dW (λ_ _ _ _ _ _=>dH λ_ _=>rfl) λf fd F=>F.dZ gW (λvs H Q E h=>?_) (λcw A outer s H vs Q E hr h=>?_)
 ·obtain⟨_,_,rfl,_⟩:=h;rfl
 ·refine(?_:let G_:Prop:=_;G_)
  intro G_
  obtain⟨c,n,rfl,n0,n1,kk⟩:=h
  dsimp only[G_]
  clear G_
  have nd:=gW.nd
  refine⟨_,(af (aF (i:=2) nd rfl (Or.inr rfl) (aD cQ (pv 0) ao))
  (af (aF (i:=3) nd rfl (Or.inl rfl) (aR (mW (K:=K)) (by rfl) T.z_sorted rfl (aa (bP rfl (N:=["_law_cell_here","_law_n","_law_first","_law_keyed"]) (so:=ae (top 51)) (N':=["_law_k","_law_first"]) (k:=1) (fr:=[2]) rfl rfl ⟨rfl,by decide +kernel,by decide +kernel,by decide +kernel,rfl,by decide +kernel,by decide +kernel⟩ (cy rfl T.z_range (aa (pv 1) ag (se rfl))) (λ_ _ _ _ _=>(aG (i:=0) (show(["_law_k","_law_first"]:List Str).Nodup by decide +kernel) rfl (Or.inl rfl))) (λ_ _ _ _ _=>bH)
   (λ_ _ _ _ _=>(bT (aa (aH aS (hr.mono (by decide)) rfl aB.pass (aa (aD ba (aD aV (pv 1) (aD ba (aD aV (pv 0) (pv 0)) ao)) (pv 0)) (aa (aD iF ao ao) ag (se rfl)) (se rfl)) (he:=se rfl) (hpl:=na rfl)) (aa (pv 0) ag (se rfl)) (se rfl))))) ag (se rfl)) (he:=se rfl) (hpl:=na rfl)))
  (au (aN (bP rfl (N:=["_law_cell_here","_law_n","_law_first","_law_keyed"]) (so:=ae (top 51)) (N':=["_law_pair"]) (k:=1) (fr:=[]) rfl rfl ⟨rfl,by decide +kernel,by decide +kernel,by decide +kernel,rfl,by decide +kernel,by decide +kernel⟩ (bo (K:=K) (pv 3)) (λ_ _ _ _ _=>(aG (i:=0) (show(["_law_pair"]:List Str).Nodup by decide +kernel) rfl (Or.inl rfl))) (λ_ _ _ _ _=>bH)
   (λ_ _ _ _ _=>(aL aP (pv 0) ao (λ_ _=>rfl)))))))),?_⟩
  refine(?_:let cm:TS:=_;let cn:TS:=_;let cq:TS:=_;tSeq cm (tSeq cn cq) _ _ _)
  intro cm cn cq
  simp_all only[]
  obtain⟨N,rfl⟩:=Zd (Int.le_of_lt n0)
  rw[YY] at kk
  refine⟨by decide,by omega,by omega,?_⟩
  refine comp_map src_range (λ_ _ _ _ h=>by rw[h.1];exact az.refl _) (by rw[sizeLine_eq];omega) (λi y H4=>∃tt a,y=.ref tt/\H4 tt=some (.tup [.int a,.int ((i:Nat):Int)])) (λi y H4 H5 s5 ⟨tt,a,e,h⟩=>⟨tt,a,e,s5 _ _ h⟩) ?_ ?_
  ·rintro i x w0 H9 CK Q2 hi s9 ⟨rfl,rfl⟩ kq
   simp_all only[eD]
   have ii:(0:Int)+ (i:Int)=(i:Int):=ZA _
   rw[ii]
   have j0:(0:Int)<=(i:Int):=by omega
   have jq:IntMulOk (i:Int) (i:Int):=cC (by omega) (by omega)
   have j2:(i:Int)* (i:Int)<=40000:=Int.le_trans (Int.mul_le_mul (show(i:Int)<=200 by omega) (show(i:Int)<=200 by omega) j0 (by decide)) (by decide)
   have j3:0<=(i:Int)* (i:Int):=Int.mul_nonneg j0 j0
   exact⟨jq,mM (by omega) (by omega),by decide,by decide,by decide,by decide,λr r0 r1=>⟨by decide,λq5 V1 JI Ie e11=>kq _ _ JI ⟨q5,r,rfl,e11⟩⟩⟩
  intro ys H9 s9 ly hy D9 JJ Ie
  have V2:=s9.trans (ax (o:=.lst ys) Ie)
  have V3:(upd H9 D9 (.lst ys)) D9=some (.lst ys):=ar
  have Lj:∀(i:Nat) y,ys[i]?=some y->∃tt a,y=.ref tt/\(upd H9 D9 (.lst ys)) tt=some (.tup [.int a,.int ((i:Nat):Int)]):=λi y e=>by
   refine(?_:let G_:Prop:=_;G_)
   intro G_
   obtain⟨tt,a,e1,e2⟩:=hy i y e
   dsimp only[G_]
   exact⟨tt,a,e1,ax Ie _ _ e2⟩
  generalize upd H9 D9 (.lst ys)=CK at *
  have each:∀y∈ys,∃tt a b',y=.ref tt/\CK tt=some (.tup [.int a,.int b']):=λy V4=>by
   obtain⟨i,ei⟩:=Zk V4
   refine(?_:let G_:Prop:=_;G_)
   intro G_
   obtain⟨tt,a,e1,e2⟩:=Lj i y ei
   dsimp only[G_]
   exact⟨tt,a,_,e1,e2⟩
  have ly:ys.length=N:=by simpa using ly
  refine⟨ys,aZ.of V3,by omega,each,λl11 zs V5 pz=>?_⟩
  have hg:∃g:V->Nat,g=λv=>match v with | .ref tt=>(match CK tt with | some (.tup [_,.int i])=>i.toNat | _=>0) | _=>0:=⟨_,rfl⟩
  obtain⟨g,hg⟩:=hg
  have gy:∀(i:Nat) y,ys[i]?=some y->g y=i:=λi y e=>by
   refine(?_:let G_:Prop:=_;G_)
   intro G_
   obtain⟨tt,a,rfl,e2⟩:=Lj i y e
   dsimp only[G_]
   rw[hg]
   simp only[e2,YY]
  have mg:ys.map g=List.range N:=by
   apply ZP
   intro i
   rw[YT]
   by_cases hi:i<N
   ·rw[Zz hi,YQ (show i<ys.length by omega)]
    show some (g _)=_
    rw[gy i _ (YQ (by omega))]
   ·rw[Y5 (show(List.range N).length<=i by rw[Y9];omega),Y5 (show ys.length<=i by omega)]
    rfl
  have pm:(zs.map g).Perm (List.range N):=by rw[<-mg];exact pz.map g
  have zl:zs.length=N:=by rw[pz.length_eq];omega
  have ez:∀z∈zs,∃tt a,z=.ref tt/\CK tt=some (.tup [.int a,.int ((g z:Nat):Int)]):=λz hz=>by
   obtain⟨i,ei⟩:=Zk (pz.mem_iff.mp hz)
   refine(?_:let G_:Prop:=_;G_)
   intro G_
   obtain⟨tt,a,e1,e2⟩:=Lj i z ei
   dsimp only[G_]
   exact⟨tt,a,e1,by rw[gy i z ei];exact e2⟩
  have JI:=ax (o:=.lst zs) V5
  have Ta:(upd CK l11 (.lst zs)) l11=some (.lst zs):=ar
  generalize upd CK l11 (.lst zs)=V1 at *
  refine⟨⟨_,aZ.of Ta⟩,?_⟩
  refine du zs (λz=>some ((g z:Nat):Int)) (src_list (K:=K) (λH' s'=>aZ.of (s' _ _ Ta))) (λ_ _ _ _ h=>h.1) (by rw[sizeLine_eq];omega) ?_ ?_
  ·rintro i1 z x eg ⟨_,ex⟩ Y N1 y1 n1
   rw[eg] at ex
   cases ex
   refine(?_:let G_:Prop:=_;G_)
   intro G_
   obtain⟨tt,a,rfl,e2⟩:=ez z (YU eg)
   dsimp only[G_]
   simp_all only[gm,JI _ _ e2]
   exact y1 _ rfl
  intro Yz YA Tb
  rw[dX]
  have e12:List.map V.int (zs.map λz=>((g z:Nat):Int))=List.map eB (zs.map g):=by rw[Zu,Zu];rfl
  rw[e12]
  have Lk:=V2.trans JI
  exact kk _ _ _ (Lk.trans (ax Tb)) (none_of Lk Tb) ar pm
theorem iC:aM ["_law_cell_here","_law_k","_law_n","_law_ways_here","_law_j","_law_weight","_law_sure"] ["_law_cell_here","_law_k","_law_n"] (ae (top 52)):=⟨rfl,rfl,rfl,by decide +kernel,rfl,by decide +kernel,by decide +kernel⟩
theorem FN (T:Txt K mg aA tc):bK P w K mg base (bE P w) 2 "_law_throw" ["_law_cell_here","_law_k","_law_n"] AA:=by
 have aS:bK P w K mg base (bE P w) 1 "_law_mixed" ["_law_cell_here","_law_many"] eD:=nZ T
 refine T.qz.dW (λ_ _ _ _ _ _=>sS λ_ _ _=>rfl) λf fd F=>F.dZ iC (λvs H Q E h=>?_) (λcw A outer s H vs Q E hr h=>?_)
 ·obtain⟨_,_,_,rfl,_⟩:=h;rfl
 ·refine(?_:let G_:Prop:=_;G_)
  intro G_
  obtain⟨c,k,n,rfl,k0,kn,kk⟩:=h
  dsimp only[G_]
  have nd:=iC.nd
  refine⟨_,(af (aF (i:=3) nd rfl (Or.inl rfl) (c5 ag))
  (af (bO PassesOwn.never rfl (cy rfl T.z_range (aa (aH aS (hr.mono (by decide)) rfl aB.pass (aa (aD ba (pv 0) ao) (aa ao ag (se rfl)) (se rfl)) (he:=se rfl) (hpl:=na rfl)) ag (se rfl))) (aG (i:=4) nd rfl (Or.inl rfl)) (af (aF (i:=5) nd rfl (Or.inl rfl) (aD ba ao (aH aS (hr.mono (by decide)) rfl aB.pass (aa (aD ba (pv 0) (aD aV ao (pv 4))) (aa ao ag (se rfl)) (se rfl)) (he:=se rfl) (hpl:=na rfl))))
  (af (bN (aU dq (aH aS (hr.mono (by decide)) rfl aB.pass (aa (aD ba (pv 0) ao) (aa ao ag (se rfl)) (se rfl)) (he:=se rfl) (hpl:=na rfl)) ao (bf _)) (au (aF (i:=5) nd rfl (Or.inl rfl) (aD ba ao (aH aS (hr.mono (by decide)) rfl aB.pass (aa (aD ba (pv 0) (aD aV ao (pv 4))) (aa ao ag (se rfl)) (se rfl)) (he:=se rfl) (hpl:=na rfl)))))
   bq)
  (au (cW (fW ZD ZJ ZK cz.r (pv 3) (aa (bT (aa (pv 5) (aa (aH aS (hr.mono (by decide)) rfl aB.pass (aa (aD ba (aD ba (pv 0) (aD aV ao (pv 4))) ao) (aa (pv 2) ag (se rfl)) (se rfl)) (he:=se rfl) (hpl:=na rfl)) ag (se rfl)) (se rfl))) ag (se rfl))))))))
  (af (aF (i:=6) nd rfl (Or.inl rfl) (bT (aa (aD ba ao (aH aS (hr.mono (by decide)) rfl aB.pass (aa (aD ba (pv 0) ao) (aa ao ag (se rfl)) (se rfl)) (he:=se rfl) (hpl:=na rfl))) (aa (aH aS (hr.mono (by decide)) rfl aB.pass (aa (aD ba (pv 0) ao) (aa (pv 1) ag (se rfl)) (se rfl)) (he:=se rfl) (hpl:=na rfl)) ag (se rfl)) (se rfl))))
  (af (cW (fW ZD PySem.F.slot_list_insert PySem.F.type_list_insert xK.r (pv 3) (aa (aH aS (hr.mono (by decide)) rfl aB.pass (aa (aD ba (pv 0) ao) (aa (aD ba (aR bz (by rfl) T.z_len Za (aa (pv 3) ag (se rfl)) (he:=se rfl) (hpl:=na rfl)) ao) ag (se rfl)) (se rfl)) (he:=se rfl) (hpl:=na rfl)) (aa (pv 6) ag (se rfl)) (se rfl))))
  (au (aN (pv 3))))))),?_⟩
  refine(?_:let cm:TS:=_;let cn:TS:=_;let cq:TS:=_;let di:TS:=_;let gO:TS:=_;tSeq cm (tSeq cn (tSeq cq (tSeq di gO))) _ _ _)
  intro cm cn cq di gO
  simp_all only[eD]
  refine⟨Y3 _,λp np=>⟨by decide,λr r0 r1=>⟨by omega,by omega,?_⟩⟩⟩
  refine bD (src_range (Ok:=λ_=>True)) (λi σ H'=>az H H'/\∃xs z4 z5,H' p=some (.lst xs)/\xs.length=i/\(∀x∈xs,WT H' n x)/\σ=[some (.int c),some (.int k),some (.int n),some (V.ref p),z4,z5,none])
   ⟨ax np,[],_,_,ar,rfl,by simp,rfl⟩ (λ_ _ _ _ _=>trivial) ?_ ?_
  ·intro i x σ H1 H2 hi dm dA
   refine(?_:let G_:Prop:=_;G_)
   intro G_
   obtain⟨sm,xs,z4,z5,hp,lx,wx,rfl⟩:=dm
   obtain⟨rfl,rfl⟩:=dA
   dsimp only[G_]
   simp_all only[eD]
   have sz:xs.length<sizeLine:=by rw[sizeLine_eq];omega
   have fin:∀w t p1 H3,az H2 H3->H2 p1=none->H3 p1=some (.tup [.int w,.int t])->(1<=w/\w<=200000)->0<=t->t<n->az H (upd H3 p (.lst (xs++ [V.ref p1])))/\∃uH,upd H3 p (.lst (xs++ [V.ref p1])) p=some (.lst uH)/\uH.length=i+1/\(∀x∈uH,WT (upd H3 p (.lst (xs++ [V.ref p1]))) n x):=λw t p1 H3 s3 n3 e3 w0 t0 t1=>by
    refine⟨aX (sm.trans s3) np,_,ar,by simp [lx],λx hx=>?_⟩
    have Tc:=s3 _ _ hp
    rcases List.mem_append.mp hx with hx | hx
    ·exact((wx x hx).mono s3).put Tc
    ·rw[List.mem_singleton.mp hx]
     exact WT.put Tc ⟨p1,w,t,rfl,e3,w0,t0,t1⟩
   have go:∀w:Int,(1<=w/\w<=200000)->J8 K "list" (V.ref p) H2/\IntMulOk 29 (0+ (i:Int))/\0<n/\∀t,0<=t->t<n->2<=sizeLine/\∀p1 H3,az H2 H3->H2 p1=none->H3 p1=some (.tup [.int w,.int t])->cX (V.ref p) [V.ref p1] H3 λ_ H'=>az H H'/\∃uH,H' p=some (.lst uH)/\uH.length=i+1/\(∀x∈uH,WT H' n x)/\∃x,some (V.int w)=x:=λw w0=>
    ⟨.inl ⟨rfl,_,aZ.of hp⟩,cC,by omega,λt t0 t1=>⟨by decide,λp1 H3 s3 n3 e3=>⟨p,xs,_,rfl,rfl,s3 _ _ hp,sz,let ⟨a,uH,b,c,d⟩:=fin w t p1 H3 s3 n3 e3 w0 t0 t1;⟨a,uH,b,c,d,_,rfl⟩⟩⟩⟩
   refine⟨cC,by decide,λr r0 r1=>⟨by decide,λr2 _ _=>iG (λ_=>⟨cC,by decide,λr3 YB YC=>?_⟩) (λ_=>?_)⟩⟩
   ·exact go _ ⟨by omega,by omega⟩
   ·exact go _ ⟨by omega,by omega⟩
  ·intro σ H1 bB
   refine(?_:let G_:Prop:=_;G_)
   intro G_
   obtain⟨sm,xs,z4,z5,hp,lx,wx,rfl⟩:=bB
   dsimp only[G_]
   simp_all only[eD,G9,tBM]
   have sz:xs.length<sizeLine:=by rw[sizeLine_eq];omega
   refine⟨by decide,λw w0 w1=>⟨k0,λt t0 t1=>⟨by decide,λp1 H2 s2 n2 e2=>?_⟩⟩⟩
   have qY:=s2 _ _ hp
   refine⟨.inl ⟨rfl,_,aZ.of qY⟩,xs,qY,by omega,λr r0 r1=>⟨xs,qY,r0,by omega,sz,kk p _ _ (aX (sm.trans s2) np) ar (λx hx=>?_) ⟨_,Zp _ YV,WT.put qY ⟨p1,_,t,rfl,e2,⟨by omega,by omega⟩,t0,t1⟩⟩ (by rw[Zf,Y4];omega) (by simp;omega)⟩⟩
   rcases List.mem_append.mp hx with hx | hx
   ·exact((wx x (List.mem_of_mem_take hx)).mono s2).put qY
   ·rcases List.mem_cons.mp hx with rfl | hx
    ·exact WT.put qY ⟨p1,_,t,rfl,e2,⟨by omega,by omega⟩,t0,by omega⟩
    ·exact((wx x (List.mem_of_mem_drop hx)).mono s2).put qY
theorem jz:aM ["_law_board_here","_law_found","_law_what"] ["_law_board_here"] (ae (top 55)):=⟨rfl,rfl,rfl,by decide +kernel,rfl,by decide +kernel,by decide +kernel⟩
theorem FO (T:Txt K mg aA tc):bK P w K mg base (bE P w) 1 "_law_copy" ["_law_board_here"] wM:=by
 refine T.sR.dW (λ_ _ _ _ _ _=>ir λ_=>rfl) λf fd F=>F.dZ jz (λvs H Q E h=>?_) (λcw A outer s H vs Q E hr h=>?_)
 ·obtain⟨_,_,rfl,_⟩:=h;rfl
 ·refine(?_:let G_:Prop:=_;G_)
  intro G_
  obtain⟨a,b,rfl,rb,bl,kk⟩:=h
  dsimp only[G_]
  have nd:=jz.nd
  refine⟨_,(af (aF (i:=1) nd rfl (Or.inl rfl) (c5 ag))
  (af (bO PassesOwn.never rfl (bo (K:=K) (pv 0)) (aG (i:=2) nd rfl (Or.inl rfl)) (au (bN (aU dq (aL aP (pv 2) ao (λ_ _=>rfl)) dc (bf _)) (au (cW (fW ZD ZJ ZK cz.r (pv 1) (aa (pv 2) ag (se rfl)))))
   (au (cW (fW ZD ZJ ZK cz.r (pv 1) (aa (bT (aa (aL aP (pv 2) ao (λ_ _=>rfl)) (aa (aL aP (pv 2) ao (λ_ _=>rfl)) (aa (dY (cH (K:=K)) (by rfl) T.z_list rfl (aa (aL aP (pv 2) ao (λ_ _=>rfl)) ag (se rfl)) (he:=se rfl) (hpl:=na rfl)) ag (se rfl)) (se rfl)) (se rfl))) ag (se rfl))))))))
  (au (aN (pv 1))))),?_⟩
  refine(?_:let cm:TS:=_;let cn:TS:=_;let cq:TS:=_;tSeq cm (tSeq cn cq) _ _ _)
  intro cm cn cq
  refine(?_:let G_:Prop:=_;G_)
  intro G_
  obtain⟨_,xs,e,ha,rl⟩:=bp.mp rb
  dsimp only[G_]
  cases e
  have lx:=rl.length
  rw[YO] at lx
  simp_all only[]
  refine⟨Y3 _,λp np=>?_⟩
  have s0:=ax (o:=.lst []) np
  refine⟨⟨_,aZ.of (s0 _ _ ha)⟩,bD (src_list (Ok:=az H) (λH2 s2=>aZ.of (s2 _ _ ha)))
   (λi σ H'=>az H H'/\∃ys z2,H' p=some (.lst ys)/\bu (iu H' p) ((b.take i).map oC) ys/\σ=[some (V.ref a),some (V.ref p),z2])
   ⟨s0,[],_,ar,by simp [bu],rfl⟩ (λ_ _ _ _ h=>h.1) ?_ ?_⟩
  ·intro i v σ H1 H2 hi dm dA
   refine(?_:let G_:Prop:=_;G_)
   intro G_
   obtain⟨sm,ys,z2,hp,ry,rfl⟩:=dm
   obtain⟨rfl,ex⟩:=dA
   obtain⟨q,eq,rq⟩:=d8 rl ex
   dsimp only[G_]
   have ly:=ry.length
   rw[YO,ZG] at ly
   have tk:b.take (i+1)=b.take i++ [q]:=by rw[Ze,eq];rfl
   have sz:ys.length<sizeLine:=by rw[sizeLine_eq];omega
   have fin:∀H3 v',az H2 H3->Rep (iu H3 p) (oC q) v'->az H (upd H3 p (.lst (ys++ [v'])))/\∃Ku,upd H3 p (.lst (ys++ [v'])) p=some (.lst Ku)/\bu (iu (upd H3 p (.lst (ys++ [v']))) p) ((b.take (i+1)).map oC) Ku/\∃x,some v=x:=λH3 v' s3 r3=>by
    refine⟨aX (sm.trans s3) np,_,ar,?_,_,rfl⟩
    rw[tk,Zc,Zb,List.map_nil]
    exact y3 (ry.mono (gH s3)) r3
   have rx:=rq.mono sm
   cases q with
   | fin w=>
    refine(?_:let G_:Prop:=_;G_)
    intro G_
    obtain⟨t',r,rfl,x6,_⟩:=de.mp rx
    dsimp only[G_]
    simp_all only[x6,cX,tBM]
    exact⟨.inl ⟨rfl,_,aZ.of hp⟩,_,hp,sz,fin H2 _ (az.refl _) (rq.mono (gG sm np))⟩
   | eO w ws=>
    refine(?_:let G_:Prop:=_;G_)
    intro G_
    obtain⟨t',r,l,zs,rfl,V6,xY,GW,rz⟩:=cY.mp rq
    dsimp only[G_]
    have x6:=sm _ _ V6
    have Ba:=sm _ _ GW
    simp_all only[x6]
    rw[if_neg (by decide +kernel)]
    simp_all only[cX,tBM,x6]
    refine⟨.inl ⟨rfl,_,aZ.of hp⟩,_,.inl (aZ.of Ba),λm nm=>⟨by decide,λu H4 s4 nu eu=>?_⟩⟩
    have s3:=(ax (o:=.lst zs) nm).trans s4
    have Ll:m≠p:=λz=>by rw[z,hp] at nm;cases nm
    have Lm:u≠p:=λz=>by rw[z,ax (o:=.lst zs) nm _ _ hp] at nu;cases nu
    have sh:=gG (sm.trans s3) np
    exact⟨_,s3 _ _ hp,sz,fin H4 _ s3 (cY.mpr ⟨u,r,m,zs,rfl,by rw[cN Lm];exact eu,sh _ _ xY,by rw[cN Ll];exact s4 _ _ ar,rz.mono sh⟩)⟩
   | dR w to=>
    refine(?_:let G_:Prop:=_;G_)
    intro G_
    obtain⟨t',l,rfl,x6,Ba⟩:=cZ.mp rx
    dsimp only[G_]
    simp_all only[x6]
    rw[if_neg (by decide +kernel)]
    simp_all only[cX,tBM,x6]
    refine⟨.inl ⟨rfl,_,aZ.of hp⟩,_,.inl (aZ.of Ba),λm nm=>⟨by decide,λu H4 s4 nu eu=>?_⟩⟩
    have s3:=(ax (o:=.lst (List.map V.int to)) nm).trans s4
    have Ll:m≠p:=λz=>by rw[z,hp] at nm;cases nm
    have Lm:u≠p:=λz=>by rw[z,ax (o:=.lst (List.map V.int to)) nm _ _ hp] at nu;cases nu
    exact⟨_,s3 _ _ hp,sz,fin H4 _ s3 (cZ.mpr ⟨u,m,rfl,by rw[cN Lm];exact eu,by rw[cN Ll];exact s4 _ _ ar⟩)⟩
  ·intro σ H1 bB
   refine(?_:let G_:Prop:=_;G_)
   intro G_
   obtain⟨sm,ys,z2,hp,ry,rfl⟩:=bB
   dsimp only[G_]
   simp_all only[]
   refine kk p H1 sm np (bp.mpr ⟨p,ys,rfl,hp,?_⟩)
   have:=ry.mono hG
   rw[Zi (by omega)] at this
   exact this
theorem iD:aM ["_law_script","_law_at","_law_n","_law_turned_here","_law_board_here","_law_k","_law_cell_here","_law_kind","_law_ways_here"] ["_law_script","_law_at","_law_n"] (ae (top 53)):=⟨rfl,rfl,rfl,by decide +kernel,rfl,by decide +kernel,by decide +kernel⟩
theorem FP (T:Txt K mg aA tc):bK P w K mg base (bE P w) 3 "_law_board" ["_law_script","_law_at","_law_n"] (Ds K):=by
 have da:bK P w K mg base (bE P w) 1 "_law_cell" ["_law_script","_law_k"] (Dr K):=wW T
 have aS:bK P w K mg base (bE P w) 1 "_law_mixed" ["_law_cell_here","_law_many"] eD:=nZ T
 have jA:bK P w K mg base (bE P w) 2 "_law_share" ["_law_cell_here","_law_k"] Az:=FK T
 have oP:bK P w K mg base (bE P w) 2 "_law_turned" ["_law_cell_here","_law_n"] Ax:=FL T
 have qS:bK P w K mg base (bE P w) 2 "_law_throw" ["_law_cell_here","_law_k","_law_n"] AA:=FN T
 refine T.qA.dW (λ_ _ _ _ _ _=>sS λ_ _ _=>rfl) λf fd F=>F.dZ iD (λvs H Q E h=>?_) (λcw A outer s H vs Q E hr h=>?_)
 ·obtain⟨_,_,_,rfl,_⟩:=h;rfl
 ·refine(?_:let G_:Prop:=_;G_)
  intro G_
  obtain⟨a,ns,n,rfl,hS,n0,n8,kk⟩:=h
  dsimp only[G_]
  clear G_
  have nd:=iD.nd
  refine⟨_,(af (aF (i:=3) nd rfl (Or.inr rfl) (aH oP (hr.mono (by decide)) rfl aB.pass (aa (aH da (hr.mono (by decide)) rfl aB.pass (aa (pv 0) (aa (pv 1) ag (se rfl)) (se rfl)) (he:=se rfl) (hpl:=na rfl)) (aa (pv 2) ag (se rfl)) (se rfl)) (he:=se rfl) (hpl:=na rfl)))
  (af (fL (i:=4) rfl nd rfl rfl (N:=["_law_script","_law_at","_law_n","_law_turned_here","_law_board_here","_law_k","_law_cell_here","_law_kind","_law_ways_here"]) (so:=ae (top 53)) (N':=["_law_place"]) (k:=1) (fr:=[]) rfl rfl ⟨rfl,by decide +kernel,by decide +kernel,by decide +kernel,rfl,by decide +kernel,by decide +kernel⟩ (bo (K:=K) (pv 3)) (λ_ _ _ _ _=>(aG (i:=0) (show(["_law_place"]:List Str).Nodup by decide +kernel) rfl (Or.inl rfl))) (λ_ _ _ _ _=>bH)
   (λ_ _ _ _ _=>eJ))
  (af (bO PassesOwn.never rfl (cy rfl T.z_range (aa (pv 2) ag (se rfl))) (aG (i:=5) nd rfl (Or.inr rfl)) (af (aF (i:=6) nd rfl (Or.inr rfl) (aH da (hr.mono (by decide)) rfl aB.pass (aa (pv 0) (aa (aD ba (aD ba (pv 1) ao) (pv 5)) ag (se rfl)) (se rfl)) (he:=se rfl) (hpl:=na rfl)))
  (af (aF (i:=7) nd rfl (Or.inl rfl) (aH aS (hr.mono (by decide)) rfl aB.pass (aa (aD ba (pv 6) ao) (aa ao ag (se rfl)) (se rfl)) (he:=se rfl) (hpl:=na rfl)))
  (au (bN (PW.pt (pw_or (aU dq (pv 5) ao (bf _)) (pw_or1 (aU dq (pv 7) ao (bf _))))) (au (eL (bT (aa dc (aa (aH jA (hr.mono (by decide)) rfl aB.pass (aa (pv 6) (aa (pv 5) ag (se rfl)) (se rfl)) (he:=se rfl) (hpl:=na rfl)) ag (se rfl)) (se rfl))) (eK (pv 4) (aL aO (pv 3) (pv 5) (λ_ _=>rfl)) set_list)))
   (au (bN (aU oU (pv 7) ao (bf _)) (af (fL (i:=8) rfl nd rfl rfl (N:=["_law_script","_law_at","_law_n","_law_turned_here","_law_board_here","_law_k","_law_cell_here","_law_kind","_law_ways_here"]) (so:=ae (top 53)) (N':=["_law_weight","_law_to","_law_turned_here"]) (k:=2) (fr:=[3]) rfl rfl ⟨rfl,by decide +kernel,by decide +kernel,by decide +kernel,rfl,by decide +kernel,by decide +kernel⟩ (bo (K:=K) (aH qS (hr.mono (by decide)) rfl aB.pass (aa (pv 6) (aa (pv 5) (aa (pv 2) ag (se rfl)) (se rfl)) (se rfl)) (he:=se rfl) (hpl:=na rfl))) (λ_ _ _ _ _=>(cf (K:=K) (n:=2) rfl (aT (aG (i:=0) (show(["_law_weight","_law_to","_law_turned_here"]:List Str).Nodup by decide +kernel) rfl (Or.inl rfl)) (aT (aG (i:=1) (show(["_law_weight","_law_to","_law_turned_here"]:List Str).Nodup by decide +kernel) rfl (Or.inl rfl)) b9)))) (λ_ _ _ _ _=>bH)
   (λ_ _ _ _ _=>(bT (aa (pv 0) (aa (aL aO (pv 2) (pv 1) (λ_ _=>rfl)) ag (se rfl)) (se rfl)))))
  (au (eL (bT (aa dc (aa (aH jA (hr.mono (by decide)) rfl aB.pass (aa (pv 6) (aa (pv 5) ag (se rfl)) (se rfl)) (he:=se rfl) (hpl:=na rfl)) (aa (pv 8) ag (se rfl)) (se rfl)) (se rfl))) (eK (pv 4) (aL aO (pv 3) (pv 5) (λ_ _=>rfl)) set_list))))
   (af (fL (i:=8) rfl nd rfl rfl (N:=["_law_script","_law_at","_law_n","_law_turned_here","_law_board_here","_law_k","_law_cell_here","_law_kind","_law_ways_here"]) (so:=ae (top 53)) (N':=["_law_j","_law_turned_here","_law_k","_law_cell_here"]) (k:=1) (fr:=[3,5,6]) rfl rfl ⟨rfl,by decide +kernel,by decide +kernel,by decide +kernel,rfl,by decide +kernel,by decide +kernel⟩ (cy rfl T.z_range (aa (aD ba ao (aH aS (hr.mono (by decide)) rfl aB.pass (aa (aD ba (pv 6) ao) (aa ao ag (se rfl)) (se rfl)) (he:=se rfl) (hpl:=na rfl))) ag (se rfl))) (λ_ _ _ _ _=>(aG (i:=0) (show(["_law_j","_law_turned_here","_law_k","_law_cell_here"]:List Str).Nodup by decide +kernel) rfl (Or.inl rfl))) (λ_ _ _ _ _=>bH)
   (λ_ _ _ _ _=>(aL aO (pv 1) (aH aS (hr.mono (by decide)) rfl aB.pass (aa (aD ba (pv 3) (aD aV ao (pv 0))) (aa (pv 2) ag (se rfl)) (se rfl)) (he:=se rfl) (hpl:=na rfl)) (λ_ _=>rfl))))
  (au (eL (bT (aa dc (aa (aD ba ao (aH aS (hr.mono (by decide)) rfl aB.pass (aa (aD ba (pv 6) ao) (aa ao ag (se rfl)) (se rfl)) (he:=se rfl) (hpl:=na rfl))) (aa (pv 8) ag (se rfl)) (se rfl)) (se rfl))) (eK (pv 4) (aL aO (pv 3) (pv 5) (λ_ _=>rfl)) set_list)))))))))))
  (au (aN (pv 4)))))),?_⟩
  refine(?_:let cm:TS:=_;let cn:TS:=_;let cq:TS:=_;let di:TS:=_;tSeq cm (tSeq cn (tSeq cq di)) _ _ _)
  intro cm cn cq di
  simp_all only[Dr,Ax]
  refine⟨ns,hS,by decide,by decide,λc=>⟨by omega,by omega,λl H1 sg s1 nl hl pm=>⟨⟨_,aZ.of hl⟩,?_⟩⟩⟩
  rw[YY] at pm
  have sl:sg.length=n:=by rw[pm.length_eq,Y9]
  subst sl
  refine comp_map (src_list (Ok:=az H1) (λH' s'=>aZ.of (s' _ _ hl))) (λ_ _ _ _ h=>by rw[h.1];exact az.refl _) (by rw[sizeLine_eq,YO];omega) (λi y H4=>y=.cu) (λi y H4 H5 s5 h=>h) ?_ ?_
  ·rintro i x w0 H4 H5 Q2 hi s4 ⟨rfl,ex⟩ kq
   simp_all only[]
   exact kq _ _ (az.refl _) rfl
  intro ys H2 s2 ly hy m n1 n2
  rw[YO] at ly
  have s3:az H1 (upd H2 m (.lst ys)):=s2.trans (ax n2)
  have nm:H m=none:=none_of (s1.trans s2) n2
  have V7:(upd H2 m (.lst ys)) m=some (.lst ys):=ar
  generalize upd H2 m (.lst ys)=H3 at *
  refine⟨by omega,by omega,bD (src_range (Ok:=λ_=>True)) (λi σ H'=>az H1 H'/\∃xs z5 z6 z7 z8,H' m=some (.lst xs)/\xs.length=sg.length/\(∃qs:Nat->Pl,∀j k,j<i->sg[j]?=some k->Ay sg j (qs k)/\∃v,xs[k]?=some v/\Rep (iu H' m) (oC (qs k)) v)/\σ=[some (V.ref a),some (V.int 2),some (V.int (sg.length:Int)),some (V.ref l),some (V.ref m),z5,z6,z7,z8])
   ⟨s3,ys,_,_,_,_,V7,by omega,⟨λ_=>.fin (0,1),λj k hj=>absurd hj (ZV _)⟩,rfl⟩ (λ_ _ _ _ _=>trivial) ?_ ?_⟩
  ·intro i x σ H4 H5 hi dm dA
   refine(?_:let G_:Prop:=_;G_)
   intro G_
   obtain⟨s4,xs,z5,z6,z7,z8,hm,lx,⟨qs,gx⟩,rfl⟩:=dm
   obtain⟨rfl,rfl⟩:=dA
   dsimp only[G_]
   have hi:i<sg.length:=by have:i< ((sg.length:Nat):Int).toNat:=hi;omega
   obtain⟨k,hk⟩:∃k,sg[i]?=some k:=⟨_,YQ hi⟩
   have kn:k<sg.length:=List.mem_range.mp (pm.mem_iff.mp (YU hk))
   have at_:∀t:Int,0<=t->t< (sg.length:Int)->∃k':Nat,k'<sg.length/\sg[t.toNat]?=some k'/\fA (List.map eB sg) t=some (V.int (k':Int)):=λt t0 t1=>by
    obtain⟨j,rfl⟩:=Zd t0
    obtain⟨k',DF⟩:∃k',sg[j]?=some k':=⟨_,YQ (by omega)⟩
    exact⟨k',List.mem_range.mp (pm.mem_iff.mp (YU DF)),by rw[YY];exact DF,ql (f:=eB) DF⟩
   have ak:fA (List.map eB sg) ((0:Int)+ (i:Int))=some (V.int (k:Int)):=by rw[ZA];exact ql (f:=eB) hk
   have kx:vI xs.length (k:Int)=some k:=by
    unfold vI
    rw[if_pos (by omega),if_pos (by omega)]
    simp
   have wR:=s4 _ _ hl
   have fin:∀H6 v q,az H5 H6->Rep (iu H6 m) (oC q) v->Ay sg i q->az H1 (upd H6 m (.lst (xs.set k v)))/\∃uH,upd H6 m (.lst (xs.set k v)) m=some (.lst uH)/\uH.length=sg.length/\(∃qs:Nat->Pl,∀j k',j<i+1->sg[j]?=some k'->Ay sg j (qs k')/\∃v',uH[k']?=some v'/\Rep (iu (upd H6 m (.lst (xs.set k v))) m) (oC (qs k')) v'):=λH6 v q s6 r6 g6=>by
    have sh:az (iu H6 m) (iu (upd H6 m (.lst (xs.set k v))) m):=gG qk (if_pos rfl)
    refine⟨aX (s4.trans s6) (none_of s2 n2),_,ar,by rw[Zh];exact lx,λk'=>if k'=k then q else qs k',λj k' hj DF=>?_⟩
    by_cases ck:k'=k
    ·subst ck
     have ji:j=i:=Lv.zf pm DF hk
     subst ji
     dsimp only
     rw[if_pos rfl]
     exact⟨g6,v,by rw[ZU (by omega)],r6.mono sh⟩
    ·have:j<i:=by
      by_cases cj:j=i
      ·subst cj
       rw[hk] at DF
       cases DF
       exact absurd rfl ck
      ·omega
     dsimp only
     rw[if_neg ck]
     refine(?_:let G_:Prop:=_;G_)
     intro G_
     obtain⟨g',v',e',r'⟩:=gx j k' this DF
     dsimp only[G_]
     exact⟨g',v',by rw[ZL (Ne.symm ck)];exact e',(r'.mono (gH s6)).mono sh⟩
   have FQ:∀{H6:Hp} {p:Addr},az H5 H6->H6 p=none->p≠m:=λs6 np z=>by rw[z,s6 _ _ hm] at np;cases np
   simp_all only[Dr,eD,Az,AA]
   refine⟨ns,(s1.trans s4).seq hS,by omega,by omega,λcc=>⟨by decide,λkd YD YE=>?_⟩⟩
   have xV:(0:Int)+ (i:Int)< (sg.length:Int):=by omega
   have fe:∀(p:Addr) (H':Hp) (a:Int×Int),az H5 H'->H5 p=none->H' p=some (HO.tup [V.int a.fst,V.int a.snd])->GS a->∀(p1:Addr) (H6:Hp),az H' H6->H' p1=none->H6 p1=some (HO.tup [V.str (Str.ofString "end"),V.ref p])->Rep (iu H6 m) (oC (.fin a)) (.ref p1):=λp H' a s' n' e' _ p1 H6 s6 n6 e6=>by
    refine de.mpr ⟨p1,p,rfl,?_,?_⟩
    ·rw[cN (FQ s' n6)];exact e6
    ·rw[cN (FQ (az.refl _) n')];exact s6 _ _ e'
   refine iG (λ_=>?_) (λc0=>iG (λ_=>?_) (λ_=>iG (λ_=>?_) (λ_=>?_)))
   ·refine⟨by omega,by omega,λp H6 w s6 n6 e6 g6=>⟨by decide,λp1 H7 s7 n7 e7=>?_⟩⟩
    refine(?_:let G_:Prop:=_;G_)
    intro G_
    obtain⟨x1,x2,x3,x4,x5⟩:=fin H7 (.ref p1) (.fin w) (s6.trans s7) (fe p H6 w s6 n6 e6 g6 p1 H7 s7 n7 e7) ⟨g6,trivial⟩
    dsimp only[G_]
    exact⟨_,(s6.trans s7) _ _ wR,_,ak,_,_,rfl,(s6.trans s7) _ _ hm,k,kx,x1,x2,x3,x4,x5,_,rfl⟩
   ·refine⟨by omega,by omega,λp H6 w s6 n6 e6 g6=>⟨by decide,λp1 H7 s7 n7 e7=>?_⟩⟩
    refine(?_:let G_:Prop:=_;G_)
    intro G_
    obtain⟨x1,x2,x3,x4,x5⟩:=fin H7 (.ref p1) (.fin w) (s6.trans s7) (fe p H6 w s6 n6 e6 g6 p1 H7 s7 n7 e7) ⟨g6,trivial⟩
    dsimp only[G_]
    exact⟨_,(s6.trans s7) _ _ wR,_,ak,_,_,rfl,(s6.trans s7) _ _ hm,k,kx,x1,x2,x3,x4,x5,_,rfl⟩
   ·refine⟨by omega,xV,λt H6 ts s6 e6 w6 sure l0 l6=>⟨⟨_,aZ.of e6⟩,?_⟩⟩
    have Ga:=s6 _ _ wR
    refine(?_:let G_:Prop:=_;G_)
    intro G_
    obtain⟨x0,V8,V9⟩:=sure
    dsimp only[G_]
    obtain⟨i0,Td⟩:=Zk V8
    refine gZ (K:=K) (src_list (Ok:=az H6) (λH' s'=>aZ.of (s' _ _ e6))) (λj a b H3=>∃w t,a=.int w/\b=.int t/\(1<=w/\w<=200000)/\0<=t/\t< (sg.length:Int)/\(j=i0->t< (i:Int))) (λj x H7 H8 hj s7 ⟨e,ex⟩=>?_) (by rw[sizeLine_eq];omega) (λj y H7=>∃q:Int×Int,Rep H7 (cA q) y/\(1<=q.1/\q.1<=200000/\0<=q.2/\q.2< (sg.length:Int))/\(j=i0->∃j',j'<i/\sg[j']?=some q.2.toNat)) (λj y H7 H8 s8 ⟨q,r,z⟩=>⟨q,r.mono s8,z⟩) ?_ ?_
    ·subst e
     refine(?_:let G_:Prop:=_;G_)
     intro G_
     obtain⟨q,w,t',rfl,hq,w0,t0,t1⟩:=w6 x (YU ex)
     dsimp only[G_]
     refine⟨az.refl _,q,_,_,rfl,eA.of (s7 _ _ hq),w,t',rfl,rfl,w0,t0,t1,λz=>?_⟩
     subst z
     rw[Td] at ex
     cases ex
     refine(?_:let G_:Prop:=_;G_)
     intro G_
     obtain⟨q2,w2,t2,e2,BW,_,_,YF⟩:=V9
     dsimp only[G_]
     cases e2
     rw[hq] at BW
     cases BW
     omega
    ·intro j a b H7 Q7 hj s7 dA kq
     refine(?_:let G_:Prop:=_;G_)
     intro G_
     obtain⟨w,t',rfl,rfl,w0,t0,t1,t2⟩:=dA
     obtain⟨k',YG,C7,F8⟩:=at_ t' t0 t1
     dsimp only[G_]
     simp_all only[s7 _ _ Ga,F8]
     exact⟨by decide,λq H8 s8 n8 e8=>kq _ _ s8 ⟨(w,(k':Int)),cM.mpr ⟨q,rfl,e8⟩,⟨w0.1,w0.2,by show(0:Int)<=(k':Int);omega,by show(k':Int)< (sg.length:Int);omega⟩,λz=>⟨t'.toNat,by have:=t2 z;omega,C7⟩⟩⟩
    ·intro us H7 s7 lu hu D n8 n9
     refine(?_:let G_:Prop:=_;G_)
     intro G_
     obtain⟨ws,oj,lw,Te⟩:=CB (f:=cA) (P:=λj (q:Int×Int)=>(1<=q.1/\q.1<=200000/\0<=q.2/\q.2< (sg.length:Int))/\(j=i0->∃j',j'<i/\sg[j']?=some q.2.toNat)) (H:=H7) (xs:=us) λj x ex=>hu j x ex
     dsimp only[G_]
     refine⟨by omega,by omega,λp H9 w s9 JJ e9 g9=>⟨by decide,λp1 CK JK Ie e10=>?_⟩⟩
     have Tf:=s6.trans (s7.trans ((ax (o:=.lst us) n9).trans s9))
     have FR:=Tf.trans JK
     have mD:D≠m:=FQ (s6.trans s7) n9
     have mp:p≠m:=FQ (s6.trans (s7.trans (ax (o:=.lst us) n9))) JJ
     have Ln:p1≠m:=FQ Tf Ie
     have rm:bu (iu CK m) (ws.map cA) us:=by
      refine eZ lw.symm λj y ey q eq=>?_
      refine(?_:let G_:Prop:=_;G_)
      intro G_
      obtain⟨d,ed,rd⟩:=oj.get ey
      dsimp only[G_]
      rw[YT,eq] at ed
      cases ed
      refine(?_:let G_:Prop:=_;G_)
      intro G_
      obtain⟨tt,rfl,Lo⟩:=cM.mp rd
      dsimp only[G_]
      refine cM.mpr ⟨tt,rfl,?_⟩
      have h1:=(s6.trans s7) _ _ hm
      rw[cN (λz=>by rw[z,h1] at Lo;cases Lo)]
      exact JK _ _ (s9 _ _ (ax n9 _ _ Lo))
     have li:i0<ws.length:=by have:=(List.getElem?_eq_some_iff.mp Td).1;omega
     have ld:Ay sg i (.eO w ws):=by
      refine⟨⟨g9,by omega,by omega,λx hx=>?_⟩,ws[i0],YZ li,(Te i0 _ (YQ li)).2 rfl⟩
      obtain⟨j,ej⟩:=Zk hx
      exact(Te j x ej).1
     obtain⟨x1,x2,x3,x4,x5⟩:=fin CK (.ref p1) (.eO w ws) FR (cY.mpr ⟨p1,p,D,us,rfl,by rw[cN Ln];exact e10,by rw[cN mp];exact JK _ _ e9,by rw[cN mD];exact JK _ _ (s9 _ _ ar),rm⟩) ld
     exact⟨_,FR _ _ wR,_,ak,_,_,rfl,FR _ _ hm,k,kx,x1,x2,x3,x4,x5,_,rfl⟩
   ·refine⟨by decide,λr r0 r1=>⟨by omega,by omega,?_⟩⟩
    refine comp_map src_range (λ_ _ _ _ h=>by rw[h.1];exact az.refl _) (by rw[sizeLine_eq];omega) (λj y H4=>∃t,y=.int t/\0<=t/\t< (sg.length:Int)/\∃j',j'<i/\sg[j']?=some t.toNat) (λi y H4 H5 s5 h=>h) ?_ ?_
    ·rintro j x w0 H6 H7 Q7 hj s6 ⟨rfl,rfl⟩ kq
     simp_all only[eD,s6 _ _ wR]
     refine⟨cC,by omega,λt t0 t1=>?_⟩
     refine(?_:let G_:Prop:=_;G_)
     intro G_
     obtain⟨k',k1,C7,F8⟩:=at_ t t0 (by omega)
     dsimp only[G_]
     exact⟨_,F8,kq _ _ (az.refl _) ⟨_,rfl,by omega,by omega,t.toNat,by omega,by rw[YY];exact C7⟩⟩
    ·intro us H6 s6 lu hu D n8 n9
     obtain⟨to,rfl⟩:∃to:List Int,us=to.map V.int:=by
      refine⟨us.map λv=>match v with | .int t=>t | _=>0,?_⟩
      rw[Zu]
      apply ZP
      intro j
      rw[YT]
      cases ej:us[j]? with
      | none=>rfl
      | some y=>
       refine(?_:let G_:Prop:=_;G_)
       intro G_
       obtain⟨t,rfl,_⟩:=hu j y ej
       dsimp only[G_]
       rfl
     refine⟨by decide,λr' YH YI=>⟨by decide,λp1 H7 s7 JJ e7=>?_⟩⟩
     have Lp:=s6.trans ((ax (o:=.lst (List.map V.int to)) n9).trans s7)
     have mD:D≠m:=FQ s6 n9
     have Ln:p1≠m:=FQ (s6.trans (ax (o:=.lst (List.map V.int to)) n9)) JJ
     rw[YO] at lu
     have gt:∀g∈to,0<=g/\g< (sg.length:Int)/\∃j',j'<i/\sg[j']?=some g.toNat:=λg hg=>by
      obtain⟨j,ej⟩:=Zk hg
      obtain⟨t,e,t0,t1,t2⟩:=hu j (.int g) (by rw[YT,ej];rfl)
      cases e
      exact⟨t0,t1,t2⟩
     obtain⟨x1,x2,x3,x4,x5⟩:=fin H7 (.ref p1) (.dR (1+r') to) Lp (cZ.mpr ⟨p1,D,rfl,by rw[cN Ln];exact e7,by rw[cN mD];exact s7 _ _ ar⟩) ⟨⟨by omega,by omega,by omega,λg hg=>⟨(gt g hg).1,(gt g hg).2.1⟩⟩,λg hg=>(gt g hg).2.2⟩
     exact⟨_,Lp _ _ wR,_,ak,_,_,rfl,Lp _ _ hm,k,kx,x1,x2,x3,x4,x5,_,rfl⟩
  ·intro σ H4 bB
   refine(?_:let G_:Prop:=_;G_)
   intro G_
   obtain⟨s4,xs,z5,z6,z7,z8,hm,lx,⟨qs,gx⟩,rfl⟩:=bB
   dsimp only[G_]
   simp_all only[]
   have qW:∀x∈sg,x<sg.length:=λx hx=>List.mem_range.mp (pm.mem_iff.mp hx)
   have lq:((List.range sg.length).map qs).length=sg.length:=by rw[YO,Y9]
   refine kk m H4 ((List.range sg.length).map qs) _ (s1.trans s4) nm (bp.mpr ⟨m,xs,rfl,hm,eZ (by rw[lq];exact lx) λp y ey q eq=>?_⟩) lq (Hr pm n0 n8 lq λk p q ek eq=>?_)
   ·have hp:p<sg.length:=by have:=(List.getElem?_eq_some_iff.mp ey).1;omega
    rw[YT,Zz hp] at eq
    cases eq
    obtain⟨j,ej⟩:=Zk (pm.mem_iff.mpr (List.mem_range.mpr hp))
    obtain⟨_,v,ev,rv⟩:=gx j p (by have:=(List.getElem?_eq_some_iff.mp ej).1;simpa using this) ej
    rw[ey] at ev
    cases ev
    exact rv.mono hG
   ·have hp:=qW p (YU ek)
    rw[YT,Zz hp] at eq
    cases eq
    exact(gx k p (by have:=(List.getElem?_eq_some_iff.mp ek).1;simpa using this) ek).1
theorem iE:aM ["_law_board_here","_law_cell_here","_law_picks_here","_law_place"] ["_law_board_here","_law_cell_here"] (ae (top 54)):=⟨rfl,rfl,rfl,by decide +kernel,rfl,by decide +kernel,by decide +kernel⟩
theorem FT (T:Txt K mg aA tc):bK P w K mg base (bE P w) 2 "_law_picks" ["_law_board_here","_law_cell_here"] AB:=by
 have aS:bK P w K mg base (bE P w) 1 "_law_mixed" ["_law_cell_here","_law_many"] eD:=nZ T
 refine T.qB.dW (λ_ _ _ _ _ _=>dH λ_ _=>rfl) λf fd F=>F.dZ iE (λvs H Q E h=>?_) (λcw A outer s H vs Q E hr h=>?_)
 ·obtain⟨_,_,_,rfl,_⟩:=h;rfl
 ·refine(?_:let G_:Prop:=_;G_)
  intro G_
  obtain⟨a,b,c,rfl,rb,l16,F9,kk⟩:=h
  dsimp only[G_]
  clear G_
  have nd:=iE.nd
  refine⟨_,(af (aF (i:=2) nd rfl (Or.inl rfl) (c5 ag))
  (af (bO PassesOwn.never rfl (cy rfl T.z_range (aa (aR bz (by rfl) T.z_len Za (aa (pv 0) ag (se rfl)) (he:=se rfl) (hpl:=na rfl)) ag (se rfl))) (aG (i:=3) nd rfl (Or.inl rfl)) (au (bN (aU dq (aL aP (aL aO (pv 0) (pv 3) (λ_ _=>rfl)) ao (λ_ _=>rfl)) dc (bf _)) (au (cW (fW ZD ZJ ZK cz.r (pv 2) (aa (aH aS (hr.mono (by decide)) rfl aB.pass (aa (aD ba (pv 1) (aD aV ao (pv 3))) (aa (aR bz (by rfl) T.z_len Za (aa (aL aP (aL aO (pv 0) (pv 3) (λ_ _=>rfl)) ao (λ_ _=>rfl)) ag (se rfl)) (he:=se rfl) (hpl:=na rfl)) ag (se rfl)) (se rfl)) (he:=se rfl) (hpl:=na rfl)) ag (se rfl)))))
   (au (cW (fW ZD ZJ ZK cz.r (pv 2) (aa eJ ag (se rfl))))))))
  (au (aN (pv 2))))),?_⟩
  refine(?_:let cm:TS:=_;let cn:TS:=_;let cq:TS:=_;tSeq cm (tSeq cn cq) _ _ _)
  intro cm cn cq
  have sl:=sizeLine_eq
  refine(?_:let G_:Prop:=_;G_)
  intro G_
  obtain⟨_,xb,e,ha,rl⟩:=bp.mp rb
  dsimp only[G_]
  clear G_
  cases e
  have lx:=rl.length
  rw[YO] at lx
  simp_all only[]
  refine⟨Y3 _,λp np=>?_⟩
  have s0:=ax (o:=.lst []) np
  refine⟨_,s0 _ _ ha,by omega,by omega,bD (src_range (Ok:=λ_=>True)) (λi σ H'=>az H H'/\∃(ks:List (Option Int)) (z:Option V),H' p=some (.lst (ks.map fc))/\ks.length=i/\(∀(j:Nat) q k,b[j]?=some q->ks[j]?=some k->Fc q k)/\σ=[some (.ref a),some (.int c),some (.ref p),z]) ⟨s0,[],_,ar,rfl,λj q k _ e=>by simp at e,rfl⟩ (λ_ _ _ _ _=>trivial) ?_ ?_⟩
  ·intro i x σ H4 H5 hi dm dA
   refine(?_:let G_:Prop:=_;G_)
   intro G_
   obtain⟨s4,ks,z,yi,lk,Lq,rfl⟩:=dm
   obtain⟨rfl,rfl⟩:=dA
   have xV:i<b.length:=by have:i< ((xb.length:Nat):Int).toNat:=hi;omega
   have eb:b[i]?=some b[i]:=YQ xV
   obtain⟨v,ev,rv⟩:=g8 rl eb
   dsimp only[G_]
   clear G_
   have pq:=F9 _ (YZ xV)
   have fin:∀r:Option Int,Fc b[i] r->az H (upd H5 p (.lst (ks.map fc++ [fc r])))/\∃Lr:List (Option Int),upd H5 p (.lst (ks.map fc++ [fc r])) p=some (.lst (Lr.map fc))/\Lr.length=i+1/\(∀(j:Nat) q k,b[j]?=some q->Lr[j]?=some k->Fc q k):=λr po=>by
    refine⟨aX s4 np,ks++ [r],by rw[ar,Zc];rfl,by rw[Zf,lk];rfl,λj q k e1 e2=>?_⟩
    by_cases c:j<ks.length
    ·rw[Zw c] at e2
     exact Lq j q k e1 e2
    ·rw[Zv (by omega)] at e2
     have:j - ks.length<1:=(List.getElem?_eq_some_iff.mp e2).1
     rw[show j - ks.length=0 by omega] at e2
     cases e2
     rw[show j=i by omega,eb] at e1
     cases e1
     exact po
   have lp:(ks.map fc).length<sizeLine:=by rw[YO];omega
   generalize hq:b[i]=q at *
   cases q with
   | fin g=>
    refine(?_:let G_:Prop:=_;G_)
    intro G_
    obtain⟨t,r,rfl,ht,_⟩:=de.mp rv
    dsimp only[G_]
    simp_all only[ZA,s4 _ _ ha,show fA xb (i:Int)=some (.ref t) from bF ev,s4 _ _ ht,cX,tBM]
    rw[if_neg (by decide +kernel)]
    refine(?_:let G_:Prop:=_;G_)
    intro G_
    obtain⟨q1,q2,q3,q4,q5⟩:=fin none trivial
    dsimp only[G_]
    exact⟨.inl ⟨rfl,_,aZ.of yi⟩,_,yi,lp,q1,q2,q3,q4,q5,_,rfl⟩
   | eO g ws=>
    refine(?_:let G_:Prop:=_;G_)
    intro G_
    obtain⟨t,r,l',zs,rfl,ht,_⟩:=cY.mp rv
    dsimp only[G_]
    simp_all only[ZA,s4 _ _ ha,show fA xb (i:Int)=some (.ref t) from bF ev,s4 _ _ ht,cX,tBM]
    rw[if_neg (by decide +kernel)]
    refine(?_:let G_:Prop:=_;G_)
    intro G_
    obtain⟨q1,q2,q3,q4,q5⟩:=fin none trivial
    dsimp only[G_]
    exact⟨.inl ⟨rfl,_,aZ.of yi⟩,_,yi,lp,q1,q2,q3,q4,q5,_,rfl⟩
   | dR vT to=>
    refine(?_:let G_:Prop:=_;G_)
    intro G_
    obtain⟨t,l',rfl,ht,Ba⟩:=cZ.mp rv
    dsimp only[G_]
    simp_all only[ZA,s4 _ _ ha,show fA xb (i:Int)=some (.ref t) from bF ev,s4 _ _ ht,eD,cX,tBM]
    have lt:=pq.2.1
    refine⟨.inl ⟨rfl,_,aZ.of yi⟩,cC,_,s4 _ _ Ba,by rw[YO];omega,λr r0 r1=>?_⟩
    rw[YO] at r1
    refine(?_:let G_:Prop:=_;G_)
    intro G_
    obtain⟨q1,q2,q3,q4,q5⟩:=fin (some r) ⟨r0,r1⟩
    dsimp only[G_]
    exact⟨_,yi,lp,q1,q2,q3,q4,q5,_,rfl⟩
  ·intro σ H4 bB
   refine(?_:let G_:Prop:=_;G_)
   intro G_
   obtain⟨s4,ks,z,yi,lk,Lq,rfl⟩:=bB
   dsimp only[G_]
   simp_all only[]
   refine kk p H4 ks s4 np yi ⟨?_,Lq⟩
   rw[YY] at lk
   omega
theorem kr:aM ["_law_board_here","_law_place"] ["_law_board_here","_law_place"] (ae (top 57)):=⟨rfl,rfl,rfl,by decide +kernel,rfl,by decide +kernel,by decide +kernel⟩
theorem FU (T:Txt K mg aA tc):bK P w K mg base (bE P w) 1 "_law_got" ["_law_board_here","_law_place"] AD:=by
 refine T.uT.dW (λ_ _ _ _ _ _=>dH λ_ _=>rfl) λf fd F=>F.dZ kr (λvs H Q E h=>?_) (λcw A outer s H vs Q E hr h=>?_)
 ·obtain⟨_,_,_,_,rfl,_⟩:=h;rfl
 ·refine(?_:let G_:Prop:=_;G_)
  intro G_
  obtain⟨a,i,b,q,rfl,rb,eb,kk⟩:=h
  dsimp only[G_]
  have nd:=kr.nd
  refine⟨_,(af (bN (aU dq (aL aP (aL aO (pv 0) (pv 1) (λ_ _=>rfl)) ao (λ_ _=>rfl)) dc (bf _)) (au (aN (bT (aa ao (aa ao ag (se rfl)) (se rfl)))))
   bq)
  (au (aN (aL aP (aL aO (pv 0) (pv 1) (λ_ _=>rfl)) ao (λ_ _=>rfl))))),?_⟩
  refine(?_:let G_:Prop:=_;G_)
  intro G_
  obtain⟨_,xs,e,ha,rl⟩:=bp.mp rb
  dsimp only[G_]
  cases e
  refine(?_:let G_:Prop:=_;G_)
  intro G_
  obtain⟨v,ev,rq⟩:=g8 rl eb
  dsimp only[G_]
  have av:fA xs (i:Int)=some v:=bF ev
  cases q with
  | fin g=>
   refine(?_:let G_:Prop:=_;G_)
   intro G_
   obtain⟨t,r,rfl,ht,xY⟩:=de.mp rq
   dsimp only[G_]
   simp_all only[ha,av,ht]
   rw[if_neg (by decide +kernel)]
   exact kk _ _ (az.refl _) xY
  | eO g ws=>
   refine(?_:let G_:Prop:=_;G_)
   intro G_
   obtain⟨t,r,l,zs,rfl,ht,xY,_⟩:=cY.mp rq
   dsimp only[G_]
   simp_all only[ha,av,ht]
   rw[if_neg (by decide +kernel)]
   exact kk _ _ (az.refl _) xY
  | dR vT to=>
   refine(?_:let G_:Prop:=_;G_)
   intro G_
   obtain⟨t,l,rfl,ht,hl⟩:=cZ.mp rq
   dsimp only[G_]
   simp_all only[ha,av,ht]
   exact⟨by decide,λp H2 s2 _ e2=>kk _ _ s2 e2⟩
theorem AU:aM ["_law_script","_law_n","_law_board_here","_law_picks_here","_law_worths","_law_k","_law_start","_law_found","_law_total","_law_place"] ["_law_script"] (ae (top 60)):=⟨rfl,rfl,rfl,by decide +kernel,rfl,by decide +kernel,by decide +kernel⟩
theorem FV (T:Txt K mg aA tc) (LB:mY base mg tc tp) {f:Addr} {fd:FuncData} (F:uE K "law" "law" (top 60) f fd):dU P w K mg base (bE P w) 8 f fd ["_law_script"] (wN K tp):=by
 have da:bK P w K mg base (bE P w) 1 "_law_cell" ["_law_script","_law_k"] (Dr K):=wW T
 have qT:bK P w K mg base (bE P w) 3 "_law_board" ["_law_script","_law_at","_law_n"] (Ds K):=FP T
 have qU:bK P w K mg base (bE P w) 2 "_law_picks" ["_law_board_here","_law_cell_here"] AB:=FT T
 have kA:bK P w K mg base (bE P w) 1 "_law_copy" ["_law_board_here"] wM:=FO T
 have eI:bK P w K mg base (bE P w) 3 "_law_are_shares" ["_law_found","_law_many"] wL:=FJ T
 have vp:bK P w K mg base (bE P w) 1 "_law_got" ["_law_board_here","_law_place"] AD:=FU T
 have tY:bK P w K mg base (bE P w) 2 "_law_plus" ["_law_one","_law_other"] Av:=FH T
 have qV:bK P w K mg base (bE P w) 2 "_law_times" ["_law_one","_law_other"] Aw:=FI T
 have tZ:bK P w K mg base (bE P w) 7 "worths_of" ["board","picks"] (Aq tp):=HV T LB
 have AV:bK P w K mg base (bE P w) 7 "visits" ["board","picks","start"] (Au tp):=Ia T LB
 refine F.dZ AU (λvs H Q E h=>?_) (λcw A outer s H vs Q E hr h=>?_)
 ·obtain⟨_,_,rfl,_⟩:=h;rfl
 ·refine(?_:let G_:Prop:=_;G_)
  intro G_
  obtain⟨sa,ns,rfl,j8,hS,hlen,kk⟩:=h
  dsimp only[G_]
  have nd:=AU.nd
  refine⟨_,(af (aF (i:=1) nd rfl (Or.inl rfl) (aD ba ao (aD cQ (aH da (hr.mono (by decide)) rfl aB.pass (aa (pv 0) (aa ao ag (se rfl)) (se rfl)) (he:=se rfl) (hpl:=na rfl)) ao)))
  (af (aF (i:=2) nd rfl (Or.inl rfl) (aH qT (hr.mono (by decide)) rfl aB.pass (aa (pv 0) (aa ao (aa (pv 1) ag (se rfl)) (se rfl)) (se rfl)) (he:=se rfl) (hpl:=na rfl)))
  (af (aF (i:=3) nd rfl (Or.inl rfl) (aH qU (hr.mono (by decide)) rfl aB.pass (aa (pv 2) (aa (aH da (hr.mono (by decide)) rfl aB.pass (aa (pv 0) (aa ao ag (se rfl)) (se rfl)) (he:=se rfl) (hpl:=na rfl)) ag (se rfl)) (se rfl)) (he:=se rfl) (hpl:=na rfl)))
  (af (aF (i:=4) nd rfl (Or.inl rfl) (aH tZ (hr.mono (by decide)) rfl aB.pass (aa (aH kA (hr.mono (by decide)) rfl aB.pass (aa (pv 2) ag (se rfl)) (he:=se rfl) (hpl:=na rfl)) (aa (dY (cH (K:=K)) (by rfl) T.z_list rfl (aa (pv 3) ag (se rfl)) (he:=se rfl) (hpl:=na rfl)) ag (se rfl)) (se rfl)) (he:=se rfl) (hpl:=na rfl)))
  (af (bN (jD (gz (aH eI (hr.mono (by decide)) rfl aB.pass (aa (pv 4) (aa (pv 1) ag (se rfl)) (se rfl)) (he:=se rfl) (hpl:=na rfl)))) (au (aN mr))
   bq)
  (af (bO PassesOwn.never rfl (cy rfl T.z_range (aa ao ag (se rfl))) (aG (i:=5) nd rfl (Or.inl rfl)) (af (aF (i:=6) nd rfl (Or.inl rfl) (aD cQ (aH da (hr.mono (by decide)) rfl aB.pass (aa (pv 0) (aa (aD ba ao (pv 5)) ag (se rfl)) (se rfl)) (he:=se rfl) (hpl:=na rfl)) (pv 1)))
  (af (aF (i:=7) nd rfl (Or.inl rfl) (aH AV (hr.mono (by decide)) rfl aB.pass (aa (aH kA (hr.mono (by decide)) rfl aB.pass (aa (pv 2) ag (se rfl)) (he:=se rfl) (hpl:=na rfl)) (aa (dY (cH (K:=K)) (by rfl) T.z_list rfl (aa (pv 3) ag (se rfl)) (he:=se rfl) (hpl:=na rfl)) (aa (pv 6) ag (se rfl)) (se rfl)) (se rfl)) (he:=se rfl) (hpl:=na rfl)))
  (af (bN (jD (gz (aH eI (hr.mono (by decide)) rfl aB.pass (aa (pv 7) (aa (pv 1) ag (se rfl)) (se rfl)) (he:=se rfl) (hpl:=na rfl)))) (au (aN mr))
   bq)
  (af (aF (i:=8) nd rfl (Or.inl rfl) (bT (aa ao (aa ao ag (se rfl)) (se rfl))))
  (af (bO PassesOwn.never rfl (cy rfl T.z_range (aa (pv 1) ag (se rfl))) (aG (i:=9) nd rfl (Or.inl rfl)) (au (aF (i:=8) nd rfl (Or.inl rfl) (aH tY (hr.mono (by decide)) rfl aB.pass (aa (pv 8) (aa (aH qV (hr.mono (by decide)) rfl aB.pass (aa (aL aO (pv 7) (pv 9) (λ_ _=>rfl)) (aa (aH vp (hr.mono (by decide)) rfl aB.pass (aa (pv 2) (aa (pv 9) ag (se rfl)) (se rfl)) (he:=se rfl) (hpl:=na rfl)) ag (se rfl)) (se rfl)) (he:=se rfl) (hpl:=na rfl)) ag (se rfl)) (se rfl)) (he:=se rfl) (hpl:=na rfl)))))
  (au (bN (aU (xH hr.yC) (pv 8) (aL aO (pv 4) (pv 6) (λ_ _=>rfl)) (bf _)) (au (aN mr))
   bq))))))))
  (au (aN mr)))))))),?_⟩
  refine(?_:let cm:TS:=_;let cn:TS:=_;let cq:TS:=_;let di:TS:=_;let gO:TS:=_;let tW:TS:=_;let HS:TS:=_;tSeq cm (tSeq cn (tSeq cq (tSeq di (tSeq gO (tSeq tW HS))))) _ _ _)
  intro cm cn cq di gO tW HS
  have sl:=sizeLine_eq
  change tSeq _ _ _ _ _
  refine aQ (λσ' H1=>H=H1/\∃n:Nat,0<n/\n<=8/\σ'=[some (.ref sa),some (.int (n:Int)),none,none,none,none,none,none,none,none]) ?_ (λN hN=>?_)
  case refine_2=>
   simp_all only[Dr]
   exact⟨ns,hS,by decide,by decide,λc=>⟨by decide,hN _ _ ⟨rfl,(1+c % 8).toNat,by omega,by omega,by rw[Int.toNat_of_nonneg (by omega)]⟩⟩⟩
  intro _ _ bB
  refine(?_:let G_:Prop:=_;G_)
  intro G_
  obtain⟨rfl,n,n0,n8,rfl⟩:=bB
  dsimp only[G_]
  change tSeq _ _ _ _ _
  refine aQ (λσ' H1=>∃bl b rk,az H H1/\H bl=none/\Rep H1 (rY b) (.ref bl)/\b.length=n/\pL b rk/\σ'=[some (.ref sa),some (.int (n:Int)),some (.ref bl),none,none,none,none,none,none,none]) ?_ (λN hN=>?_)
  case refine_2=>
   simp_all only[]
   exact⟨sa,ns,n,rfl,hS,n0,n8,λl H1 b rk s1 nl rb lb B=>hN _ _ ⟨l,b,rk,s1,nl,rb,lb,B,rfl⟩⟩
  intro _ H1 bB
  refine(?_:let G_:Prop:=_;G_)
  intro G_
  obtain⟨bl,b,rk,s1,YJ,rb,lb,B,rfl⟩:=bB
  dsimp only[G_]
  change tSeq _ _ _ _ _
  refine aQ (λσ' H2=>∃pl ks,az H1 H2/\H1 pl=none/\H2 pl=some (.lst (List.map fc ks))/\kT b ks/\σ'=[some (.ref sa),some (.int (n:Int)),some (.ref bl),some (.ref pl),none,none,none,none,none,none]) ?_ (λN hN=>?_)
  case refine_2=>
   simp_all only[Dr,AB]
   exact⟨ns,s1.seq hS,by decide,by decide,λc=>⟨b,rb,by omega,B.ok,λl H2 ks s2 n2 h2 ko=>hN _ _ ⟨l,ks,s2,n2,h2,ko,rfl⟩⟩⟩
  intro _ H2 bB
  refine(?_:let G_:Prop:=_;G_)
  intro G_
  obtain⟨pl,ks,s2,YK,hpl,ko,rfl⟩:=bB
  dsimp only[G_]
  have Tg:=s1.trans s2
  change tSeq _ _ _ _ _
  refine aQ (λσ' H3=>∃wo S,az H2 H3/\Rep H3 (.lst ((vf S).map cA)) (.ref wo)/\Dg.Sz b.length 1900 S/\(∀p:Nat,p<b.length->EqAt b ks p (Dg.val S))/\σ'=[some (.ref sa),some (.int (n:Int)),some (.ref bl),some (.ref pl),some (.ref wo),none,none,none,none,none]) ?_ (λN hN=>?_)
  case refine_2=>
   simp_all only[Aq,wM]
   refine⟨b,rb.mono s2,by omega,λhd H3 s3 n3 r3=>⟨_,.inl (aZ.of (s3 _ _ hpl)),λm nm=>?_⟩⟩
   have s4:=ax (o:=.lst (List.map fc ks)) nm
   exact⟨b,r3.mono s4,rk,B,ks,ar,ko,(Tg.trans (s3.trans s4)) _ _ j8,λl S H5 s5 n5 r5 z5 d5 e5=>hN _ _ ⟨l,S,s3.trans (s4.trans s5),r5,z5,e5,rfl⟩⟩
  intro _ H3 bB
  refine(?_:let G_:Prop:=_;G_)
  intro G_
  obtain⟨wo,S,s3,Th,zS,eS,rfl⟩:=bB
  dsimp only[G_]
  have are:∀{M:Nat} {S:Dg.Bk},Dg.Sz b.length M S->M<=1900->(vf S).length=n/\∀p∈vf S,0<p.2/\Bt 5000 p.2/\Nm.g p.1 p.2=1:=λ{M S} z hM=>by
   refine⟨by unfold vf;rw[YO,z.len,lb],λp hp=>?_⟩
   have h:=vg z p hp
   exact⟨h.1.1,Bt.mono (z.bb.le (by have:=ZO z.pos h.2.1;have:=h.1.1;omega)) (by omega),h.1.2⟩
  have Wa:=Tg.trans s3
  have ya:=s2.trans s3
  change tSeq _ _ _ _ _
  refine aQ (λσ' H4=>az H3 H4/\σ'=[some (.ref sa),some (.int (n:Int)),some (.ref bl),some (.ref pl),some (.ref wo),none,none,none,none,none]) ?_ (λN hN=>?_)
  case refine_2=>
   simp_all only[wL]
   obtain⟨l1,l2⟩:=are zS (YS _)
   refine⟨vf S,by rw[l1],Th,by omega,l2,λH4 s4=>?_⟩
   rw[if_neg (by decide)]
   exact hN _ _ ⟨s4,rfl⟩
  rintro _ H4 ⟨s4,rfl⟩
  refine(?_:let G_:Prop:=_;G_)
  intro G_
  obtain⟨_,xw,ew,Wb,Wc⟩:=bp.mp Th
  dsimp only[G_]
  cases ew
  have YL:=(are zS (YS _)).1
  have Wd:=vg zS
  change tSeq _ _ _ _ _
  refine aQ (λσ' H5=>az H3 H5/\∃z5 z6 z7 z8 z9,σ'=[some (.ref sa),some (.int (n:Int)),some (.ref bl),some (.ref pl),some (.ref wo),z5,z6,z7,z8,z9]) ?_ (λN hN=>?_)
  case refine_2=>
   simp_all only[]
   refine⟨by decide,by decide,bD (src_range (Ok:=λ_=>True)) (λi σ H5=>az H3 H5/\∃z5 z6 z7 z8 z9,σ=[some (.ref sa),some (.int (n:Int)),some (.ref bl),some (.ref pl),some (.ref wo),z5,z6,z7,z8,z9]) ⟨s4,_,_,_,_,_,rfl⟩ (λ_ _ _ _ _=>trivial) ?_ ?_⟩
   ·intro i x σ H5 H6 hi dm dA
    refine(?_:let G_:Prop:=_;G_)
    intro G_
    obtain⟨s5,z5,z6,z7,z8,z9,rfl⟩:=dm
    obtain⟨rfl,rfl⟩:=dA
    dsimp only[G_]
    have hi:i<3:=hi
    have Ti:=Wa.trans s5
    change tSeq _ _ _ _ _
    refine aQ (λσ' H7=>H6=H7/\∃st:Nat,st<n/\σ'=[some (.ref sa),some (.int (n:Int)),some (.ref bl),some (.ref pl),some (.ref wo),some (.int (0+ (i:Int))),some (.int (st:Int)),z7,z8,z9]) ?_ (λN hN=>?_)
    case refine_2=>
     simp_all only[Dr]
     exact⟨ns,Ti.seq hS,by omega,by omega,λc=>⟨by omega,hN _ _ ⟨rfl,(c % (n:Int)).toNat,by have:=ZX c (show(0:Int)<n by omega);have:=ZE c (show(n:Int)≠0 by omega);omega,by rw[Int.toNat_of_nonneg (ZE c (by omega))]⟩⟩⟩
    intro _ _ bB
    refine(?_:let G_:Prop:=_;G_)
    intro G_
    obtain⟨rfl,st,hst,rfl⟩:=bB
    dsimp only[G_]
    have HW:=ya.trans s5
    have JE:=s3.trans s5
    change tSeq _ _ _ _ _
    refine aQ (λσ' H7=>∃fo S',az H6 H7/\Rep H7 (.lst ((vf S').map cA)) (.ref fo)/\Dg.Sz b.length 1070 S'/\Ff b ks st (Dg.val S')/\σ'=[some (.ref sa),some (.int (n:Int)),some (.ref bl),some (.ref pl),some (.ref wo),some (.int (0+ (i:Int))),some (.int (st:Int)),some (.ref fo),z8,z9]) ?_ (λN hN=>?_)
    case refine_2=>
     simp_all only[Au,wM]
     refine⟨b,rb.mono HW,by omega,λhd H7 s7 n7 r7=>⟨_,.inl (aZ.of ((JE.trans s7) _ _ hpl)),λm nm=>?_⟩⟩
     have s8:=ax (o:=.lst (List.map fc ks)) nm
     exact⟨st,rfl,b,r7.mono s8,rk,B,ks,ar,ko,(Ti.trans (s7.trans s8)) _ _ j8,by omega,λl S' H9 s9 n9 r9 z9 e9=>hN _ _ ⟨l,S',s7.trans (s8.trans s9),r9,z9.up (by omega),e9,rfl⟩⟩
    intro _ H7 bB
    refine(?_:let G_:Prop:=_;G_)
    intro G_
    obtain⟨fo,S',s7,Tj,Bg,We,rfl⟩:=bB
    obtain⟨_,xf,ef,Wf,Wg⟩:=bp.mp Tj
    dsimp only[G_]
    cases ef
    have YM:=(are Bg (by decide)).1
    have Ig:=vg Bg
    change tSeq _ _ _ _ _
    refine aQ (λσ' H8=>az H7 H8/\σ'=[some (.ref sa),some (.int (n:Int)),some (.ref bl),some (.ref pl),some (.ref wo),some (.int (0+ (i:Int))),some (.int (st:Int)),some (.ref fo),z8,z9]) ?_ (λN hN=>?_)
    case refine_2=>
     simp_all only[wL]
     obtain⟨l1,l2⟩:=are Bg (by decide)
     refine⟨vf S',by rw[l1],Tj,by omega,l2,λH8 s8=>?_⟩
     rw[if_neg (by decide)]
     exact hN _ _ ⟨s8,rfl⟩
    rintro _ H8 ⟨s8,rfl⟩
    change tSeq _ _ _ _ _
    refine aQ (λσ' H9=>∃to,az H8 H9/\H9 to=some (.tup (Pr 0 1))/\σ'=[some (.ref sa),some (.int (n:Int)),some (.ref bl),some (.ref pl),some (.ref wo),some (.int (0+ (i:Int))),some (.int (st:Int)),some (.ref fo),some (.ref to),z9]) ?_ (λN hN=>?_)
    case refine_2=>
     simp_all only[]
     exact⟨by decide,λp H9 s9 n9 h9=>hN _ _ ⟨p,s9,h9,rfl⟩⟩
    intro _ H9 bB
    refine(?_:let G_:Prop:=_;G_)
    intro G_
    obtain⟨to,s9,FW,rfl⟩:=bB
    obtain⟨g0,bG,dG⟩:=B.bot
    obtain⟨W,hW⟩:∃W:Int,W=2^1070:=⟨_,rfl⟩
    dsimp only[G_]
    have W0:0<=W:=by rw[hW];exact Int.pow_nonneg (by decide)
    have bW:Bt 1071 W:=by
     unfold Bt
     rw[hW,Int.natAbs_pow]
     exact Nat.pow_lt_pow_right (by decide) (by decide)
    rw[<-hW] at Ig
    have bM:∀j:Nat,j<=8->Bt 1950 ((j:Int)* (W*2^40))/\0<=(j:Int)* (W*2^40):=λj hj=>⟨Bt.mono (m:=4+ (1071+41)) ((Bt.of (n:=4) 8 (by omega) (by omega)).mul (bW.mul (Bt.of (n:=41) (2^40) (by decide) (by decide)))) (by decide),Int.mul_nonneg (by omega) (Int.mul_nonneg W0 (by decide))⟩
    have Z0:0<S'.2*gB b:=Zm Bg.pos g0
    have bZ:Bt 1950 (S'.2*gB b):=(Bg.bb.mul bG).mono (by decide)
    have lv:∀i:Int,0<=i->i< (b.length:Int)->Dg.vl (Wq.B9 (vf S') i)=Dg.val S' i:=λi h0 h1=>wG Bg.pos i (by rw[Bg.len];omega)
    have Lk:=HW.trans (s7.trans (s8.trans s9))
    have Wh:=s8.trans s9
    change tSeq _ _ _ _ _
    refine aQ (λσ' HA=>∃to x z9,az H7 HA/\HA to=some (.tup (Pr x.1 x.2))/\Wq.Lw x/\Dg.vl x=Dg.lsum (λp=>Dg.val S' p*Dg.vl (Wq.cv (b.getD p.toNat (.fin (0,1))))) (kf b.length)/\σ'=[some (.ref sa),some (.int (n:Int)),some (.ref bl),some (.ref pl),some (.ref wo),some (.int (0+ (i:Int))),some (.int (st:Int)),some (.ref fo),some (.ref to),z9]) ?_ (λN hN=>?_)
    case refine_2=>
     simp_all only[]
     refine⟨by omega,by omega,bD (src_range (Ok:=λ_=>True)) (λjj σ HA=>az H7 HA/\∃to x z9,HA to=some (.tup (Pr x.1 x.2))/\xX (S'.2*gB b) ((jj:Int)* (W*2^40)) x/\Dg.vl x=Dg.lsum (λp=>Dg.val S' p*Dg.vl (Wq.cv (b.getD p.toNat (.fin (0,1))))) ((kf b.length).take jj)/\σ=[some (.ref sa),some (.int (n:Int)),some (.ref bl),some (.ref pl),some (.ref wo),some (.int (0+ (i:Int))),some (.int (st:Int)),some (.ref fo),some (.ref to),z9]) ⟨Wh,to,(0,1),_,FW,⟨⟨by show(0:Int)<1;decide,by show Nm.g 0 1=1;decide⟩,⟨S'.2*gB b,by show _=1*_;omega⟩,by unfold Wq.Vb;show -(_*1)<=(0:Int)/\(0:Int)<=_*1;omega⟩,Dg.Jr,rfl⟩ (λ_ _ _ _ _=>trivial) ?_ ?_⟩
     ·intro p x0 σ HA HB hp dm dA
      refine(?_:let G_:Prop:=_;G_)
      intro G_
      obtain⟨sA,to,x,z9,FW,sx,vx,rfl⟩:=dm
      obtain⟨rfl,rfl⟩:=dA
      have hp:p<b.length:=by have:p< ((n:Nat):Int).toNat:=hp;omega
      have eb:b[p]?=some b[p]:=YQ hp
      have gg:=ma (B.ok _ (YZ hp))
      have sg:xX (gB b) (2^40) (Wq.cv b[p]):=⟨gg.2.2,dG _ (YZ hp),Hs gg⟩
      have Lu:=AE (ss:=vf S') (q:=(p:Int)) (by omega) (by omega)
      rw[YY] at Lu
      obtain⟨pw,Lx,Ly⟩:=eE Wg Lu
      have Lz:fA xf (p:Int)=some (.ref pw):=bF Lx
      have sy:=Ig _ (YU Lu)
      have vy:=lv (p:Int) (by omega) (by omega)
      have sm:=sy.mul sg Bg.pos g0
      obtain⟨m1,m2⟩:=bM p (by omega)
      dsimp only[G_]
      have m3:=bM 1 (by decide)
      rw[show((1:Nat):Int)* (W*2^40)=W*2^40 by omega] at m3
      have sn:=sx.add sm Z0
      have ls:Dg.lsum (λp=>Dg.val S' p*Dg.vl (Wq.cv (b.getD p.toNat (.fin (0,1))))) ((kf b.length).take (p+1))=Dg.vl x+Dg.val S' (p:Int)*Dg.vl (Wq.cv b[p]):=by
       rw[AF hp,lsum_snoc,<-vx,YY,YR,eb]
       rfl
      have Wi:=HW.trans (s7.trans sA)
      simp_all only[ZA,Av,Aw,AD]
      refine⟨_,sA _ _ Wf,_,Lz,p,rfl,b,rb.mono Wi,_,eb,λg HC sC hg=>⟨pw,rfl,_,(sA.trans sC) _ _ Ly,_,hg,sy.rm Bg.pos (Bg.bb.mono (by decide)) W0 (bW.mono (by decide)),sg.rm g0 (bG.mono (by decide)) (by decide) (Bt.mono (m:=41) (Bt.of (2^40) (by decide) (by decide)) (by decide)),λr1 HD sD nD hD=>⟨_,(sC.trans sD) _ _ FW,_,hD,sx.rm Z0 bZ m2 m1,sm.rm Z0 bZ m3.2 m3.1,λr2 HE sE nE hE=>⟨sA.trans (sC.trans (sD.trans sE)),r2,_,hE,?_,?_,rfl,_,rfl⟩⟩⟩⟩
      ·rw[show((p+1:Nat):Int)* (W*2^40)=(p:Int)* (W*2^40)+W*2^40 by rw[Int.natCast_add,Int.add_mul];omega]
       exact sn
      ·rw[ls,Dg.Hi sx.1.1 sm.1.1,Dg.Hj sy.1.1 sg.1.1,vy]
     ·intro σ HA bB
      refine(?_:let G_:Prop:=_;G_)
      intro G_
      obtain⟨sA,to,x,z9,FW,sx,vx,rfl⟩:=bB
      dsimp only[G_]
      have tk:(kf b.length).take ((n:Nat):Int).toNat=kf b.length:=by rw[YY,<-lb,Zi];unfold kf;rw[YO,Y9];exact YS _
      rw[tk] at vx
      exact hN _ _ ⟨to,x,z9,sA,FW,sx.1,vx,rfl⟩
    intro _ HA bB
    refine(?_:let G_:Prop:=_;G_)
    intro G_
    obtain⟨to,x,z9,sA,FW,lx,vx,rfl⟩:=bB
    have LC:=AE (ss:=vf S) (q:=(st:Int)) (by omega) (by omega)
    rw[YY] at LC
    obtain⟨pw,Lx,Ly⟩:=eE Wc LC
    have Lz:fA xw (st:Int)=some (.ref pw):=bF Lx
    have Wj:x=Wq.B9 (vf S) (st:Int):=by
     refine Dg.EU lx (Wd _ (YU LC)).1 ?_
     rw[vx,K2 B ko (by omega) We eS,show Dg.vl (Wq.B9 (vf S) (st:Int))=Dg.val S (st:Int) from wG zS.pos _ (by rw[zS.len];omega)]
    subst Wj
    dsimp only[G_]
    have LD:=s5.trans (s7.trans sA)
    simp_all only[]
    refine⟨_,LD _ _ Wb,_,Lz,pw,rfl,_,FW,_,LD _ _ Ly,rfl,rfl,?_⟩
    rw[if_neg (λz=>by rw[show GR (Pr (Wq.B9 (vf S) (st:Int)).1 (Wq.B9 (vf S) (st:Int)).2) _=true from rT _ _] at z;cases z)]
    exact⟨LD,_,rfl⟩
   ·intro σ H5 bB
    refine(?_:let G_:Prop:=_;G_)
    intro G_
    obtain⟨s5,z5,z6,z7,z8,z9,rfl⟩:=bB
    dsimp only[G_]
    exact hN _ _ ⟨s5,_,_,_,_,_,rfl⟩
  intro _ H5 bB
  refine(?_:let G_:Prop:=_;G_)
  intro G_
  obtain⟨s5,z5,z6,z7,z8,z9,rfl⟩:=bB
  dsimp only[G_]
  simp_all only[]
  exact kk _
end
theorem all_mk {l:PySem.W.OpenLaw} {w:World} {K:PySem.W.Frag} {h:Heap} {mg:Str->Option Value} {fa:Addr} (X:K.In h) (G:h.Ns mainGlobals mg) (Wk:mg "law"=some (.ref fa))
  {f0:Addr} {Wl Wm:Option Addr} {Wn:Array (Option Value)} {Wo Wp Wr Wt Tn Wu:Value} {f1:Addr} {Wv Ww:Option Addr} {Wx:Array (Option Value)} {Wz WA WB WC To WD:Value} {f2:Addr} {WG WH:Option Addr} {WI:Array (Option Value)} {WJ WK WL K8 Tp WM:Value} {f3:Addr} {WN WO:Option Addr} {WQ:Array (Option Value)} {WR WS WU WV Tq WW:Value} {f4:Addr} {WX WY:Option Addr} {WZ:Array (Option Value)} {W1 W2 W3 W4 Tr W5:Value} {f5:Addr} {W6 W7:Option Addr} {W8:Array (Option Value)} {W9 Xa Xb Xc Ts Xd:Value} {f6:Addr} {Xe Xf:Option Addr} {Xg:Array (Option Value)} {Xh Xi Xj Xk Tt Xl:Value} {f7:Addr} {Xm Xn:Option Addr} {Xo:Array (Option Value)} {Xp Xq Xr Xs Tu Xu:Value} {f8:Addr} {Xv Xw:Option Addr} {Xx:Array (Option Value)} {Xy Xz XA XB Tv XC:Value} {f9:Addr} {XD XF:Option Addr} {XG:Array (Option Value)} {XH XI XJ XM Tw XN:Value} {LF:Addr} {LG LH:Option Addr} {LI:Array (Option Value)} {LJ LK LL LM Ih LN:Value} {LO:Addr} {LP LQ:Option Addr} {LR:Array (Option Value)} {LS LU LV LW Ii LX:Value} {LY:Addr} {LZ L3:Option Addr} {L4:Array (Option Value)} {L5 L6 L7 L8 Ij L9:Value} {Ma:Addr} {Mb Mc:Option Addr} {Md:Array (Option Value)} {Me Mf Mg Mh Ik Mi:Value} {Mj:Addr} {Ml Mm:Option Addr} {Mn:Array (Option Value)} {Mo Mp Mq Mr Il Ms:Value} {Mt:Addr} {Mu Mv:Option Addr} {Mw:Array (Option Value)} {Mx My Mz MA Im MB:Value} {MC:Addr} {MD ME:Option Addr} {MF:Array (Option Value)} {MG MH MI MJ MK:Value} {ML:Addr} {MM MN:Option Addr} {MO:Array (Option Value)} {MP MQ MR MS Io MT:Value} {MU:Addr} {MV MW:Option Addr} {MX:Array (Option Value)} {MY MZ M3 M4 Ip M5:Value} {M6:Addr} {M7 M8:Option Addr} {M9:Array (Option Value)} {Na Nb Nc Nd Iq Nf:Value} {Ng:Addr} {Nh Ni:Option Addr} {Nj:Array (Option Value)} {Nk Nl Nn Np Ir Nq:Value} {Nr:Addr} {Nt Nu:Option Addr} {Nv:Array (Option Value)} {Nw Nx Ny Nz Iu NA:Value} {NB:Addr} {NC ND:Option Addr} {NF:Array (Option Value)} {NG NH NI NJ Iv NK:Value} {NL:Addr} {NM NN:Option Addr} {NO:Array (Option Value)} {NP NQ NR NS Iw NT:Value} {NU:Addr} {NV NW:Option Addr} {NX:Array (Option Value)} {NY NZ N0 N2 Iy N4:Value} {N5:Addr} {N6 N7:Option Addr} {N8:Array (Option Value)} {N9 Oa Ob Oc Iz Od:Value} {Oe:Addr} {Of Og:Option Addr} {Oh:Array (Option Value)} {Oi Oj Ol Om IA Oo:Value} {Oq:Addr} {Ot Ou:Option Addr} {Ov:Array (Option Value)} {Ow Ox Oy Oz IB OA:Value} {OB:Addr} {OC OD:Option Addr} {OE:Array (Option Value)} {OF OG OH OI IC OJ:Value} {OK:Addr} {OL OM:Option Addr} {ON:Array (Option Value)} {OO OP OQ OR ID OS:Value} {OT:Addr} {OU OV:Option Addr} {OW:Array (Option Value)} {OX OY OZ O0 IE O1:Value} {O2:Addr} {O3 O4:Option Addr} {O5:Array (Option Value)} {O6 O7 O8 O9 IF Pa:Value} {Pb:Addr} {Pc Pd:Option Addr} {Pe:Array (Option Value)} {Pf Pg Ph Pj IG Pk:Value} {Pn:Addr} {Po Pp:Option Addr} {Pq:Array (Option Value)} {Pt Pu Pw Px IH Py:Value} {Pz:Addr} {PB PD:Option Addr} {PF:Array (Option Value)} {PH PJ PK PL II PM:Value} {PN:Addr} {PQ PR:Option Addr} {PU:Array (Option Value)} {PX PY PZ P1 IJ P2:Value} {P4:Addr} {P5 P6:Option Addr} {P7:Array (Option Value)} {P8 P9 Qa Qb IK Qc:Value} {Qd:Addr} {Qe Qf:Option Addr} {Qg:Array (Option Value)} {Qh Qi Qj Qk IL Ql:Value} {Qm:Addr} {Qn Qo:Option Addr} {Qp:Array (Option Value)} {Qq Qr Qs Qt IM Qu:Value} {Qv:Addr} {Qw Qx:Option Addr} {Qy:Array (Option Value)} {Qz QA QB QC IP QD:Value} {QE:Addr} {QF QG:Option Addr} {QH:Array (Option Value)} {QI QJ QK QL IQ QM:Value} {QN:Addr} {QO QP:Option Addr} {QQ:Array (Option Value)} {QR QS QT QU IS QV:Value} {QW:Addr} {QX QY:Option Addr} {QZ:Array (Option Value)} {Q0 Q4 Q5 Q6 IT Q8:Value} {Ra:Addr} {Rb Rc:Option Addr} {Rf:Array (Option Value)} {Rg Rh Ri Rj IU Rk:Value} {Rl:Addr} {Rn Ro:Option Addr} {Rp:Array (Option Value)} {Rq Rr Rt Ru IV Rv:Value} {Rx:Addr} {Ry Rz:Option Addr} {RA:Array (Option Value)} {RB RC RD RE IW RF:Value} {oa:Tok} {oQ:Tok} {aA tc tp:Addr} {md:Addr} {AW AX:Option Addr} {AY:Array (Option Value)} {AZ A1 A2 A3 t5 A4:Value} {cK:Addr} {iQ iR:Option Addr} {iS:Array (Option Value)} {iT iU iV iW en iX:Value} {dj:Addr} {lh lj:Option Addr} {lA:Array (Option Value)} {lB lD lE lF gh lG:Value}
  (a0:PySem.W.nsIn K mainGlobals "goals"=some (some (.ref f0))) (l0:K.lookup f0=some ⟨Wo,Wl,.func (PySem.W.fnOf "goals" "goals" (aK (top 1)) (aI (top 1)) (ae (top 1)) .none Wp Wr Wt Wm Tn Wu),Wn⟩) (e0:PySem.W.codeIn K Tn "goals"=true) (k0:PySem.W.keepIn K (.ref f0)=true)
  (a1:PySem.W.nsIn K mainGlobals "is_ready"=some (some (.ref f1))) (l1:K.lookup f1=some ⟨Wz,Wv,.func (PySem.W.fnOf "is_ready" "is_ready" (aK (top 2)) (aI (top 2)) (ae (top 2)) .none WA WB WC Ww To WD),Wx⟩) (e1:PySem.W.codeIn K To "is_ready"=true) (k1:PySem.W.keepIn K (.ref f1)=true)
  (a2:PySem.W.nsIn K mainGlobals "ready_places"=some (some (.ref f2))) (l2:K.lookup f2=some ⟨WJ,WG,.func (PySem.W.fnOf "ready_places" "ready_places" (aK (top 3)) (aI (top 3)) (ae (top 3)) .none WK WL K8 WH Tp WM),WI⟩) (e2:PySem.W.codeIn K Tp "ready_places"=true) (k2:PySem.W.keepIn K (.ref f2)=true)
  (a3:PySem.W.nsIn K mainGlobals "levels"=some (some (.ref f3))) (l3:K.lookup f3=some ⟨WR,WN,.func (PySem.W.fnOf "levels" "levels" (aK (top 4)) (aI (top 4)) (ae (top 4)) .none WS WU WV WO Tq WW),WQ⟩) (e3:PySem.W.codeIn K Tq "levels"=true) (k3:PySem.W.keepIn K (.ref f3)=true)
  (a4:PySem.W.nsIn K mainGlobals "ring"=some (some (.ref f4))) (l4:K.lookup f4=some ⟨W1,WX,.func (PySem.W.fnOf "ring" "ring" (aK (top 5)) (aI (top 5)) (ae (top 5)) .none W2 W3 W4 WY Tr W5),WZ⟩) (e4:PySem.W.codeIn K Tr "ring"=true) (k4:PySem.W.keepIn K (.ref f4)=true)
  (a5:PySem.W.nsIn K mainGlobals "common_divisor"=some (some (.ref f5))) (l5:K.lookup f5=some ⟨W9,W6,.func (PySem.W.fnOf "common_divisor" "common_divisor" (aK (top 12)) (aI (top 12)) (ae (top 12)) .none Xa Xb Xc W7 Ts Xd),W8⟩) (e5:PySem.W.codeIn K Ts "common_divisor"=true) (k5:PySem.W.keepIn K (.ref f5)=true)
  (a6:PySem.W.nsIn K mainGlobals "share"=some (some (.ref f6))) (l6:K.lookup f6=some ⟨Xh,Xe,.func (PySem.W.fnOf "share" "share" (aK (top 13)) (aI (top 13)) (ae (top 13)) .none Xi Xj Xk Xf Tt Xl),Xg⟩) (e6:PySem.W.codeIn K Tt "share"=true) (k6:PySem.W.keepIn K (.ref f6)=true)
  (a7:PySem.W.nsIn K mainGlobals "common_bottom"=some (some (.ref f7))) (l7:K.lookup f7=some ⟨Xp,Xm,.func (PySem.W.fnOf "common_bottom" "common_bottom" (aK (top 14)) (aI (top 14)) (ae (top 14)) .none Xq Xr Xs Xn Tu Xu),Xo⟩) (e7:PySem.W.codeIn K Tu "common_bottom"=true) (k7:PySem.W.keepIn K (.ref f7)=true)
  (a8:PySem.W.nsIn K mainGlobals "row_with_head"=some (some (.ref f8))) (l8:K.lookup f8=some ⟨Xy,Xv,.func (PySem.W.fnOf "row_with_head" "row_with_head" (aK (top 16)) (aI (top 16)) (ae (top 16)) .none Xz XA XB Xw Tv XC),Xx⟩) (e8:PySem.W.codeIn K Tv "row_with_head"=true) (k8:PySem.W.keepIn K (.ref f8)=true)
  (a9:PySem.W.nsIn K mainGlobals "swapped"=some (some (.ref f9))) (l9:K.lookup f9=some ⟨XH,XD,.func (PySem.W.fnOf "swapped" "swapped" (aK (top 17)) (aI (top 17)) (ae (top 17)) .none XI XJ XM XF Tw XN),XG⟩) (e9:PySem.W.codeIn K Tw "swapped"=true) (k9:PySem.W.keepIn K (.ref f9)=true)
  (a10:PySem.W.nsIn K mainGlobals "without_first_column"=some (some (.ref LF))) (l10:K.lookup LF=some ⟨LJ,LG,.func (PySem.W.fnOf "without_first_column" "without_first_column" (aK (top 18)) (aI (top 18)) (ae (top 18)) .none LK LL LM LH Ih LN),LI⟩) (e10:PySem.W.codeIn K Ih "without_first_column"=true) (k10:PySem.W.keepIn K (.ref LF)=true)
  (a11:PySem.W.nsIn K mainGlobals "swept"=some (some (.ref LO))) (l11:K.lookup LO=some ⟨LS,LP,.func (PySem.W.fnOf "swept" "swept" (aK (top 19)) (aI (top 19)) (ae (top 19)) .none LU LV LW LQ Ii LX),LR⟩) (e11:PySem.W.codeIn K Ii "swept"=true) (k11:PySem.W.keepIn K (.ref LO)=true)
  (a12:PySem.W.nsIn K mainGlobals "whole_answers"=some (some (.ref LY))) (l12:K.lookup LY=some ⟨L5,LZ,.func (PySem.W.fnOf "whole_answers" "whole_answers" (aK (top 20)) (aI (top 20)) (ae (top 20)) .none L6 L7 L8 L3 Ij L9),L4⟩) (e12:PySem.W.codeIn K Ij "whole_answers"=true) (k12:PySem.W.keepIn K (.ref LY)=true)
  (a13:PySem.W.nsIn K mainGlobals "column_of"=some (some (.ref Ma))) (l13:K.lookup Ma=some ⟨Me,Mb,.func (PySem.W.fnOf "column_of" "column_of" (aK (top 21)) (aI (top 21)) (ae (top 21)) .none Mf Mg Mh Mc Ik Mi),Md⟩) (e13:PySem.W.codeIn K Ik "column_of"=true) (k13:PySem.W.keepIn K (.ref Ma)=true)
  (a14:PySem.W.nsIn K mainGlobals "turned_rows"=some (some (.ref Mj))) (l14:K.lookup Mj=some ⟨Mo,Ml,.func (PySem.W.fnOf "turned_rows" "turned_rows" (aK (top 22)) (aI (top 22)) (ae (top 22)) .none Mp Mq Mr Mm Il Ms),Mn⟩) (e14:PySem.W.codeIn K Il "turned_rows"=true) (k14:PySem.W.keepIn K (.ref Mj)=true)
  (a15:PySem.W.nsIn K mainGlobals "steps_from"=some (some (.ref Mt))) (l15:K.lookup Mt=some ⟨Mx,Mu,.func (PySem.W.fnOf "steps_from" "steps_from" (aK (top 24)) (aI (top 24)) (ae (top 24)) .none My Mz MA Mv Im MB),Mw⟩) (e15:PySem.W.codeIn K Im "steps_from"=true) (k15:PySem.W.keepIn K (.ref Mt)=true)
  (a16:PySem.W.nsIn K mainGlobals "parts"=some (some (.ref MC))) (l16:K.lookup MC=some ⟨MG,MD,.func (PySem.W.fnOf "parts" "parts" (aK (top 25)) (aI (top 25)) (ae (top 25)) .none MH MI MJ ME (Value.ref tc) MK),MF⟩) (e16:PySem.W.codeIn K (Value.ref tc) "parts"=true) (k16:PySem.W.keepIn K (.ref MC)=true)
  (a17:PySem.W.nsIn K mainGlobals "ways_of_picks"=some (some (.ref ML))) (l17:K.lookup ML=some ⟨MP,MM,.func (PySem.W.fnOf "ways_of_picks" "ways_of_picks" (aK (top 29)) (aI (top 29)) (ae (top 29)) .none MQ MR MS MN Io MT),MO⟩) (e17:PySem.W.codeIn K Io "ways_of_picks"=true) (k17:PySem.W.keepIn K (.ref ML)=true)
  (a18:PySem.W.nsIn K mainGlobals "checked_parts"=some (some (.ref MU))) (l18:K.lookup MU=some ⟨MY,MV,.func (PySem.W.fnOf "checked_parts" "checked_parts" (aK (top 30)) (aI (top 30)) (ae (top 30)) .none MZ M3 M4 MW Ip M5),MX⟩) (e18:PySem.W.codeIn K Ip "checked_parts"=true) (k18:PySem.W.keepIn K (.ref MU)=true)
  (a19:PySem.W.nsIn K mainGlobals "weighted_ways"=some (some (.ref M6))) (l19:K.lookup M6=some ⟨Na,M7,.func (PySem.W.fnOf "weighted_ways" "weighted_ways" (aK (top 31)) (aI (top 31)) (ae (top 31)) .none Nb Nc Nd M8 Iq Nf),M9⟩) (e19:PySem.W.codeIn K Iq "weighted_ways"=true) (k19:PySem.W.keepIn K (.ref M6)=true)
  (a20:PySem.W.nsIn K mainGlobals "all_weighted_ways"=some (some (.ref Ng))) (l20:K.lookup Ng=some ⟨Nk,Nh,.func (PySem.W.fnOf "all_weighted_ways" "all_weighted_ways" (aK (top 32)) (aI (top 32)) (ae (top 32)) .none Nl Nn Np Ni Ir Nq),Nj⟩) (e20:PySem.W.codeIn K Ir "all_weighted_ways"=true) (k20:PySem.W.keepIn K (.ref Ng)=true)
  (a21:PySem.W.nsIn K mainGlobals "total_weight"=some (some (.ref Nr))) (l21:K.lookup Nr=some ⟨Nw,Nt,.func (PySem.W.fnOf "total_weight" "total_weight" (aK (top 33)) (aI (top 33)) (ae (top 33)) .none Nx Ny Nz Nu Iu NA),Nv⟩) (e21:PySem.W.codeIn K Iu "total_weight"=true) (k21:PySem.W.keepIn K (.ref Nr)=true)
  (a22:PySem.W.nsIn K mainGlobals "part_rows"=some (some (.ref NB))) (l22:K.lookup NB=some ⟨NG,NC,.func (PySem.W.fnOf "part_rows" "part_rows" (aK (top 34)) (aI (top 34)) (ae (top 34)) .none NH NI NJ ND Iv NK),NF⟩) (e22:PySem.W.codeIn K Iv "part_rows"=true) (k22:PySem.W.keepIn K (.ref NB)=true)
  (a23:PySem.W.nsIn K mainGlobals "gain_of"=some (some (.ref NL))) (l23:K.lookup NL=some ⟨NP,NM,.func (PySem.W.fnOf "gain_of" "gain_of" (aK (top 36)) (aI (top 36)) (ae (top 36)) .none NQ NR NS NN Iw NT),NO⟩) (e23:PySem.W.codeIn K Iw "gain_of"=true) (k23:PySem.W.keepIn K (.ref NL)=true)
  (a24:PySem.W.nsIn K mainGlobals "book_of"=some (some (.ref NU))) (l24:K.lookup NU=some ⟨NY,NV,.func (PySem.W.fnOf "book_of" "book_of" (aK (top 37)) (aI (top 37)) (ae (top 37)) .none NZ N0 N2 NW Iy N4),NX⟩) (e24:PySem.W.codeIn K Iy "book_of"=true) (k24:PySem.W.keepIn K (.ref NU)=true)
  (a25:PySem.W.nsIn K mainGlobals "gains_of"=some (some (.ref N5))) (l25:K.lookup N5=some ⟨N9,N6,.func (PySem.W.fnOf "gains_of" "gains_of" (aK (top 38)) (aI (top 38)) (ae (top 38)) .none Oa Ob Oc N7 Iz Od),N8⟩) (e25:PySem.W.codeIn K Iz "gains_of"=true) (k25:PySem.W.keepIn K (.ref N5)=true)
  (a26:PySem.W.nsIn K mainGlobals "blank_worths"=some (some (.ref Oe))) (l26:K.lookup Oe=some ⟨Oi,Of,.func (PySem.W.fnOf "blank_worths" "blank_worths" (aK (top 39)) (aI (top 39)) (ae (top 39)) .none Oj Ol Om Og IA Oo),Oh⟩) (e26:PySem.W.codeIn K IA "blank_worths"=true) (k26:PySem.W.keepIn K (.ref Oe)=true)
  (a27:PySem.W.nsIn K mainGlobals "with_worths"=some (some (.ref Oq))) (l27:K.lookup Oq=some ⟨Ow,Ot,.func (PySem.W.fnOf "with_worths" "with_worths" (aK (top 40)) (aI (top 40)) (ae (top 40)) .none Ox Oy Oz Ou IB OA),Ov⟩) (e27:PySem.W.codeIn K IB "with_worths"=true) (k27:PySem.W.keepIn K (.ref Oq)=true)
  (a28:PySem.W.nsIn K mainGlobals "worths_of"=some (some (.ref OB))) (l28:K.lookup OB=some ⟨OF,OC,.func (PySem.W.fnOf "worths_of" "worths_of" (aK (top 41)) (aI (top 41)) (ae (top 41)) .none OG OH OI OD IC OJ),OE⟩) (e28:PySem.W.codeIn K IC "worths_of"=true) (k28:PySem.W.keepIn K (.ref OB)=true)
  (a29:PySem.W.nsIn K mainGlobals "with_visits"=some (some (.ref OK))) (l29:K.lookup OK=some ⟨OO,OL,.func (PySem.W.fnOf "with_visits" "with_visits" (aK (top 42)) (aI (top 42)) (ae (top 42)) .none OP OQ OR OM ID OS),ON⟩) (e29:PySem.W.codeIn K ID "with_visits"=true) (k29:PySem.W.keepIn K (.ref OK)=true)
  (a30:PySem.W.nsIn K mainGlobals "visits"=some (some (.ref OT))) (l30:K.lookup OT=some ⟨OX,OU,.func (PySem.W.fnOf "visits" "visits" (aK (top 43)) (aI (top 43)) (ae (top 43)) .none OY OZ O0 OV IE O1),OW⟩) (e30:PySem.W.codeIn K IE "visits"=true) (k30:PySem.W.keepIn K (.ref OT)=true)
  (a31:PySem.W.nsIn K mainGlobals "_law_cell"=some (some (.ref O2))) (l31:K.lookup O2=some ⟨O6,O3,.func (PySem.W.fnOf "_law_cell" "_law_cell" (aK (top 45)) (aI (top 45)) (ae (top 45)) .none O7 O8 O9 O4 IF Pa),O5⟩) (e31:PySem.W.codeIn K IF "_law_cell"=true) (k31:PySem.W.keepIn K (.ref O2)=true)
  (a32:PySem.W.nsIn K mainGlobals "_law_mixed"=some (some (.ref Pb))) (l32:K.lookup Pb=some ⟨Pf,Pc,.func (PySem.W.fnOf "_law_mixed" "_law_mixed" (aK (top 46)) (aI (top 46)) (ae (top 46)) .none Pg Ph Pj Pd IG Pk),Pe⟩) (e32:PySem.W.codeIn K IG "_law_mixed"=true) (k32:PySem.W.keepIn K (.ref Pb)=true)
  (a33:PySem.W.nsIn K mainGlobals "_law_low"=some (some (.ref Pn))) (l33:K.lookup Pn=some ⟨Pt,Po,.func (PySem.W.fnOf "_law_low" "_law_low" (aK (top 47)) (aI (top 47)) (ae (top 47)) .none Pu Pw Px Pp IH Py),Pq⟩) (e33:PySem.W.codeIn K IH "_law_low"=true) (k33:PySem.W.keepIn K (.ref Pn)=true)
  (a34:PySem.W.nsIn K mainGlobals "_law_plus"=some (some (.ref Pz))) (l34:K.lookup Pz=some ⟨PH,PB,.func (PySem.W.fnOf "_law_plus" "_law_plus" (aK (top 48)) (aI (top 48)) (ae (top 48)) .none PJ PK PL PD II PM),PF⟩) (e34:PySem.W.codeIn K II "_law_plus"=true) (k34:PySem.W.keepIn K (.ref Pz)=true)
  (a35:PySem.W.nsIn K mainGlobals "_law_times"=some (some (.ref PN))) (l35:K.lookup PN=some ⟨PX,PQ,.func (PySem.W.fnOf "_law_times" "_law_times" (aK (top 49)) (aI (top 49)) (ae (top 49)) .none PY PZ P1 PR IJ P2),PU⟩) (e35:PySem.W.codeIn K IJ "_law_times"=true) (k35:PySem.W.keepIn K (.ref PN)=true)
  (a36:PySem.W.nsIn K mainGlobals "_law_share"=some (some (.ref P4))) (l36:K.lookup P4=some ⟨P8,P5,.func (PySem.W.fnOf "_law_share" "_law_share" (aK (top 50)) (aI (top 50)) (ae (top 50)) .none P9 Qa Qb P6 IK Qc),P7⟩) (e36:PySem.W.codeIn K IK "_law_share"=true) (k36:PySem.W.keepIn K (.ref P4)=true)
  (a37:PySem.W.nsIn K mainGlobals "_law_turned"=some (some (.ref Qd))) (l37:K.lookup Qd=some ⟨Qh,Qe,.func (PySem.W.fnOf "_law_turned" "_law_turned" (aK (top 51)) (aI (top 51)) (ae (top 51)) .none Qi Qj Qk Qf IL Ql),Qg⟩) (e37:PySem.W.codeIn K IL "_law_turned"=true) (k37:PySem.W.keepIn K (.ref Qd)=true)
  (a38:PySem.W.nsIn K mainGlobals "_law_throw"=some (some (.ref Qm))) (l38:K.lookup Qm=some ⟨Qq,Qn,.func (PySem.W.fnOf "_law_throw" "_law_throw" (aK (top 52)) (aI (top 52)) (ae (top 52)) .none Qr Qs Qt Qo IM Qu),Qp⟩) (e38:PySem.W.codeIn K IM "_law_throw"=true) (k38:PySem.W.keepIn K (.ref Qm)=true)
  (a39:PySem.W.nsIn K mainGlobals "_law_board"=some (some (.ref Qv))) (l39:K.lookup Qv=some ⟨Qz,Qw,.func (PySem.W.fnOf "_law_board" "_law_board" (aK (top 53)) (aI (top 53)) (ae (top 53)) .none QA QB QC Qx IP QD),Qy⟩) (e39:PySem.W.codeIn K IP "_law_board"=true) (k39:PySem.W.keepIn K (.ref Qv)=true)
  (a40:PySem.W.nsIn K mainGlobals "_law_picks"=some (some (.ref QE))) (l40:K.lookup QE=some ⟨QI,QF,.func (PySem.W.fnOf "_law_picks" "_law_picks" (aK (top 54)) (aI (top 54)) (ae (top 54)) .none QJ QK QL QG IQ QM),QH⟩) (e40:PySem.W.codeIn K IQ "_law_picks"=true) (k40:PySem.W.keepIn K (.ref QE)=true)
  (a41:PySem.W.nsIn K mainGlobals "_law_copy"=some (some (.ref QN))) (l41:K.lookup QN=some ⟨QR,QO,.func (PySem.W.fnOf "_law_copy" "_law_copy" (aK (top 55)) (aI (top 55)) (ae (top 55)) .none QS QT QU QP IS QV),QQ⟩) (e41:PySem.W.codeIn K IS "_law_copy"=true) (k41:PySem.W.keepIn K (.ref QN)=true)
  (a42:PySem.W.nsIn K mainGlobals "_law_got"=some (some (.ref QW))) (l42:K.lookup QW=some ⟨Q0,QX,.func (PySem.W.fnOf "_law_got" "_law_got" (aK (top 57)) (aI (top 57)) (ae (top 57)) .none Q4 Q5 Q6 QY IT Q8),QZ⟩) (e42:PySem.W.codeIn K IT "_law_got"=true) (k42:PySem.W.keepIn K (.ref QW)=true)
  (a43:PySem.W.nsIn K mainGlobals "_law_is_share"=some (some (.ref Ra))) (l43:K.lookup Ra=some ⟨Rg,Rb,.func (PySem.W.fnOf "_law_is_share" "_law_is_share" (aK (top 58)) (aI (top 58)) (ae (top 58)) .none Rh Ri Rj Rc IU Rk),Rf⟩) (e43:PySem.W.codeIn K IU "_law_is_share"=true) (k43:PySem.W.keepIn K (.ref Ra)=true)
  (a44:PySem.W.nsIn K mainGlobals "_law_are_shares"=some (some (.ref Rl))) (l44:K.lookup Rl=some ⟨Rq,Rn,.func (PySem.W.fnOf "_law_are_shares" "_law_are_shares" (aK (top 59)) (aI (top 59)) (ae (top 59)) .none Rr Rt Ru Ro IV Rv),Rp⟩) (e44:PySem.W.codeIn K IV "_law_are_shares"=true) (k44:PySem.W.keepIn K (.ref Rl)=true)
  (a45:PySem.W.nsIn K mainGlobals "law"=some (some (.ref Rx))) (l45:K.lookup Rx=some ⟨RB,Ry,.func (PySem.W.fnOf "law" "law" (aK (top 60)) (aI (top 60)) (ae (top 60)) .none RC RD RE Rz IW RF),RA⟩) (e45:PySem.W.codeIn K IW "law"=true) (k45:PySem.W.keepIn K (.ref Rx)=true)
  (z_abs:PySem.W.nsIn K mainGlobals "abs"=some none)
  (z_all:PySem.W.nsIn K mainGlobals "all"=some none)
  (z_any:PySem.W.nsIn K mainGlobals "any"=some none)
  (z_bool:PySem.W.nsIn K mainGlobals "bool"=some none)
  (z_enumerate:PySem.W.nsIn K mainGlobals "enumerate"=some none)
  (z_int:PySem.W.nsIn K mainGlobals "int"=some none)
  (z_isinstance:PySem.W.nsIn K mainGlobals "isinstance"=some none)
  (z_len:PySem.W.nsIn K mainGlobals "len"=some none)
  (z_list:PySem.W.nsIn K mainGlobals "list"=some none)
  (z_range:PySem.W.nsIn K mainGlobals "range"=some none)
  (z_reversed:PySem.W.nsIn K mainGlobals "reversed"=some none)
  (z_sorted:PySem.W.nsIn K mainGlobals "sorted"=some none)
  (z_sum:PySem.W.nsIn K mainGlobals "sum"=some none)
  (z_tuple:PySem.W.nsIn K mainGlobals "tuple"=some none)
  (z_zip:PySem.W.nsIn K mainGlobals "zip"=some none)
  (c_MOST_PLACES:PySem.W.nsIn K mainGlobals "MOST_PLACES"=some (some (.int 40 oa)))
  (c_MOST_PICKS:PySem.W.nsIn K mainGlobals "MOST_PICKS"=some (some (.int 4096 oQ)))
  (k_Book:PySem.W.nsIn K mainGlobals "Book"=some (some (.ref aA)))
  (cl_Bookpg:PySem.W.plainGet K aA Str.empty=true)
  (cl_Bookhd:PySem.W.hasDictIn K aA=true)
  (cl_Bookpo:PySem.W.plainOver K aA=true)
  (cl_Booksa:PySem.W.findIn K (.ref aA) "__setattr__"=some (some (.builtin "object.__setattr__")))
  (na_Book_bottom:PySem.W.findIn K (.ref aA) "bottom"=some none)
  (na_Book_tops:PySem.W.findIn K (.ref aA) "tops"=some none)
  (dia_Book:PySem.W.findIn K (.ref aA) "__init__"=some (some (.ref md)))
  (dii_Book:PySem.W.isFn K (.ref md)=true)
  (dil_Book:K.lookup md=some ⟨AZ,AW,.func (PySem.W.fnOf "__init__" "Book.__init__" (aK (inClass (top 35) 0)) (aI (inClass (top 35) 0)) (ae (inClass (top 35) 0)) .none A1 A2 A3 AX t5 A4),AY⟩)
  (dic_Book:PySem.W.codeIn K t5 "Book.__init__"=true)
  (dik_Book:PySem.W.keepIn K (.ref md)=true)
  (dim_Book:PySem.W.makesIn K aA=true)
  (diq_Book:PySem.W.keepIn K (.ref aA)=true)
  (dma_Book_as_shares:PySem.W.findIn K (.ref aA) "as_shares"=some (some (.ref cK)))
  (dmi_Book_as_shares:PySem.W.isFn K (.ref cK)=true)
  (dml_Book_as_shares:K.lookup cK=some ⟨iT,iQ,.func (PySem.W.fnOf "as_shares" "Book.as_shares" (aK (inClass (top 35) 2)) (aI (inClass (top 35) 2)) (ae (inClass (top 35) 2)) .none iU iV iW iR en iX),iS⟩)
  (dmc_Book_as_shares:PySem.W.codeIn K en "Book.as_shares"=true)
  (dmk_Book_as_shares:PySem.W.keepIn K (.ref cK)=true)
  (dma_Book_scaled:PySem.W.findIn K (.ref aA) "scaled"=some (some (.ref dj)))
  (dmi_Book_scaled:PySem.W.isFn K (.ref dj)=true)
  (dml_Book_scaled:K.lookup dj=some ⟨lB,lh,.func (PySem.W.fnOf "scaled" "Book.scaled" (aK (inClass (top 35) 1)) (aI (inClass (top 35) 1)) (ae (inClass (top 35) 1)) .none lD lE lF lj gh lG),lA⟩)
  (dmc_Book_scaled:PySem.W.codeIn K gh "Book.scaled"=true)
  (dmk_Book_scaled:PySem.W.keepIn K (.ref dj)=true)
  :∃fd:FuncData,(∀(s:Shared) (v:Value),BindsTo s fd ⟨[v],[]⟩ [("_law_script",v)])/\∀base:Heap,K.In base->base.Ns mainGlobals mg->mY base mg tc tp->dU l.prog w K mg base (bE l.prog w) 30 fa fd ["_law_script"] (wN K tp):=by
 have e:=Wk.symm.trans (YX X G a45)
 cases e
 have T:Txt K mg aA tc:=⟨Zt X G z_abs,Zt X G z_all,Zt X G z_any,Zt X G z_bool,Zt X G z_enumerate,Zt X G z_int,Zt X G z_isinstance,Zt X G z_len,Zt X G z_list,Zt X G z_range,Zt X G z_reversed,Zt X G z_sorted,Zt X G z_sum,Zt X G z_tuple,Zt X G z_zip,⟨_,_,aY l0 e0 k0,YX X G a0⟩,⟨_,_,aY l1 e1 k1,YX X G a1⟩,⟨_,_,aY l2 e2 k2,YX X G a2⟩,⟨_,_,aY l3 e3 k3,YX X G a3⟩,⟨_,_,aY l4 e4 k4,YX X G a4⟩,⟨_,_,aY l5 e5 k5,YX X G a5⟩,⟨_,_,aY l6 e6 k6,YX X G a6⟩,⟨_,_,aY l7 e7 k7,YX X G a7⟩,⟨_,_,aY l8 e8 k8,YX X G a8⟩,⟨_,_,aY l9 e9 k9,YX X G a9⟩,⟨_,_,aY l10 e10 k10,YX X G a10⟩,⟨_,_,aY l11 e11 k11,YX X G a11⟩,⟨_,_,aY l12 e12 k12,YX X G a12⟩,⟨_,_,aY l13 e13 k13,YX X G a13⟩,⟨_,_,aY l14 e14 k14,YX X G a14⟩,⟨_,_,aY l15 e15 k15,YX X G a15⟩,⟨_,_,aY l16 e16 k16,YX X G a16⟩,⟨_,_,aY l17 e17 k17,YX X G a17⟩,⟨_,_,aY l18 e18 k18,YX X G a18⟩,⟨_,_,aY l19 e19 k19,YX X G a19⟩,⟨_,_,aY l20 e20 k20,YX X G a20⟩,⟨_,_,aY l21 e21 k21,YX X G a21⟩,⟨_,_,aY l22 e22 k22,YX X G a22⟩,⟨_,_,aY l23 e23 k23,YX X G a23⟩,⟨_,_,aY l24 e24 k24,YX X G a24⟩,⟨_,_,aY l25 e25 k25,YX X G a25⟩,⟨_,_,aY l26 e26 k26,YX X G a26⟩,⟨_,_,aY l27 e27 k27,YX X G a27⟩,⟨_,_,aY l28 e28 k28,YX X G a28⟩,⟨_,_,aY l29 e29 k29,YX X G a29⟩,⟨_,_,aY l30 e30 k30,YX X G a30⟩,⟨_,_,aY l31 e31 k31,YX X G a31⟩,⟨_,_,aY l32 e32 k32,YX X G a32⟩,⟨_,_,aY l33 e33 k33,YX X G a33⟩,⟨_,_,aY l34 e34 k34,YX X G a34⟩,⟨_,_,aY l35 e35 k35,YX X G a35⟩,⟨_,_,aY l36 e36 k36,YX X G a36⟩,⟨_,_,aY l37 e37 k37,YX X G a37⟩,⟨_,_,aY l38 e38 k38,YX X G a38⟩,⟨_,_,aY l39 e39 k39,YX X G a39⟩,⟨_,_,aY l40 e40 k40,YX X G a40⟩,⟨_,_,aY l41 e41 k41,YX X G a41⟩,⟨_,_,aY l42 e42 k42,YX X G a42⟩,⟨_,_,aY l43 e43 k43,YX X G a43⟩,⟨_,_,aY l44 e44 k44,YX X G a44⟩,⟨_,YX X G c_MOST_PLACES⟩,⟨_,YX X G c_MOST_PICKS⟩,YX X G k_Book,⟨cl_Bookpg,cl_Bookhd,cl_Bookpo,cl_Booksa⟩,na_Book_bottom,na_Book_tops,⟨_,_,aY dil_Book dic_Book dik_Book,⟨dim_Book,dia_Book,dii_Book,diq_Book⟩,YX X G k_Book⟩,⟨_,_,aY dml_Book_as_shares dmc_Book_as_shares dmk_Book_as_shares,⟨dma_Book_as_shares,dmi_Book_as_shares,dmk_Book_as_shares⟩⟩,⟨_,_,aY dml_Book_scaled dmc_Book_scaled dmk_Book_scaled,⟨dma_Book_scaled,dmi_Book_scaled,dmk_Book_scaled⟩⟩,⟨_,_,_,_,_,YX X G a16,l16,rfl⟩⟩
 exact⟨_,λs v=>.of_eq rfl,λbase _ _ LB=>(FV T LB (aY l45 e45 k45)).mono (by decide)⟩
theorem walk {tc tp:Addr} {l:PySem.W.OpenLaw} {q:Program} {loose:List Str} {XP:(Str->Option Value)->Heap->Prop} {YP:World->Heap->Prop} {d:DefRec} {K:Params->PySem.W.Frag} (hn:l.most=some 63) (GO:d.params.defaults=[])
  (hY:∀(w:World) (h:Heap),YP w h->(K w.params).In h) (KC:∀(w:World) (h:Heap),YP w h->h.get? tp=some (PySem.W.tabObj #[])/\PySem.W.CodeHd h tc tp/\(K w.params).lookup tp=none)
  (F:∀(w:World) (mg:Str->Option Value) (fa:Addr) (h:Heap),(K w.params).In h->h.Ns mainGlobals mg->mg d.name=some (.ref fa)->
   ∃fd:FuncData,(∀(s:Shared) (u:Value),BindsTo s fd ⟨[u],[]⟩ [("_law_script",u)])/\∀base:Heap,(K w.params).In base->base.Ns mainGlobals mg->mY base mg tc tp->dU l.prog w (K w.params) mg base (bE l.prog w) 30 fa fd ["_law_script"] (wN (K w.params) tp)):
  PySem.W.WalkO q loose XP YP l.row.toRowW d [] (λf vs=>PySem.call f vs):=
 L2.zj (tc:=tc) (tp:=tp) (dsc:=dsc) (n:=63) (k:=30) (x:="_law_script") (CX:=λw=>bE l.prog w) (sp:=λw=>wN (K w.params) tp) hn (by decide) GO ⟨rfl,by decide,by decide⟩ hY KC F (λ_ _ a ns hl hT hS=>⟨a,ns,rfl,hT,hS,hl,λ_=>rfl⟩) λ_ _ _ _ _ z=>(vP _ _) _ _ _ _ _ z
end K34
open PySem PySem.W PyProof.Rows
set_option maxRecDepth 100000 in
set_option maxHeartbeats 0 in
theorem PySem.Challenge.cw_pressluck_k34_worths_are_sums_of_visits_holds : PySem.Challenge.rw_pressluck_k34_worths_are_sums_of_visits.Holds := by
  w_on; refine holds_law (by decide +kernel) fun XO => ?_
  refine holds_open (q := K34.vw) (loose := []) (Xt := (fun s => xlAt K34.vw [] s && recOk (RowW.records (OpenRow.toRowW (PySem.W.OpenLaw.row PySem.Challenge.rw_pressluck_k34_worths_are_sums_of_visits))) s)) (XP := XL K34.vw []) (Yf := Hook.obs (PySem.W.kmHook K34.pre.heap_1 K34.CL K34.DG [166])) (Ya := Hook.val (PySem.W.kmHook K34.pre.heap_1 K34.CL K34.DG [166])) (YP := Hook.says (PySem.W.kmHook K34.pre.heap_1 K34.CL K34.DG [166])) (N := 5336) (Hd.wY (by kernel_rfl) (by decide) (fun s => by kernel_rfl) K34.run) (Hook.of (PySem.W.kmHook K34.pre.heap_1 K34.CL K34.DG [166])) (Hook.keeps (PySem.W.kmHook K34.pre.heap_1 K34.CL K34.DG [166])) (fun s e => xl_of s (Bool.and_eq_true_iff.mp e).1) XL.keeps (by rfl) (by rfl) (by rfl) (fun s e => recFacts_of (Bool.and_eq_true_iff.mp e).2) (by rfl) (by first | assumption | decide +kernel) (by decide +kernel) ⟨rfl, rfl, rfl, rfl, rfl, by decide +kernel⟩ ?hw ?hc
  (case hw => w_witness2)
  k_fill
  refine K34.walk (tc := 168) (tp := 166) (l := PySem.Challenge.rw_pressluck_k34_worths_are_sums_of_visits) rfl rfl (fun w h Y => PySem.W.km_in_of Y) (fun w h Y => ⟨PySem.W.km_tabs_of Y _ (.head _), PySem.W.codeHd_of_K (PySem.W.km_in_of Y) (by kernel_rfl), by kernel_rfl⟩) ?F
  case F =>
    intro w mg fa h KX G GP
    refine' K34.all_mk (tc := 168) (tp := 166) KX G GP ?a0 ?l0 ?e0 ?k0 ?a1 ?l1 ?e1 ?k1 ?a2 ?l2 ?e2 ?k2 ?a3 ?l3 ?e3 ?k3 ?a4 ?l4 ?e4 ?k4 ?a5 ?l5 ?e5 ?k5 ?a6 ?l6 ?e6 ?k6 ?a7 ?l7 ?e7 ?k7 ?a8 ?l8 ?e8 ?k8 ?a9 ?l9 ?e9 ?k9 ?a10 ?l10 ?e10 ?k10 ?a11 ?l11 ?e11 ?k11 ?a12 ?l12 ?e12 ?k12 ?a13 ?l13 ?e13 ?k13 ?a14 ?l14 ?e14 ?k14 ?a15 ?l15 ?e15 ?k15 ?a16 ?l16 ?e16 ?k16 ?a17 ?l17 ?e17 ?k17 ?a18 ?l18 ?e18 ?k18 ?a19 ?l19 ?e19 ?k19 ?a20 ?l20 ?e20 ?k20 ?a21 ?l21 ?e21 ?k21 ?a22 ?l22 ?e22 ?k22 ?a23 ?l23 ?e23 ?k23 ?a24 ?l24 ?e24 ?k24 ?a25 ?l25 ?e25 ?k25 ?a26 ?l26 ?e26 ?k26 ?a27 ?l27 ?e27 ?k27 ?a28 ?l28 ?e28 ?k28 ?a29 ?l29 ?e29 ?k29 ?a30 ?l30 ?e30 ?k30 ?a31 ?l31 ?e31 ?k31 ?a32 ?l32 ?e32 ?k32 ?a33 ?l33 ?e33 ?k33 ?a34 ?l34 ?e34 ?k34 ?a35 ?l35 ?e35 ?k35 ?a36 ?l36 ?e36 ?k36 ?a37 ?l37 ?e37 ?k37 ?a38 ?l38 ?e38 ?k38 ?a39 ?l39 ?e39 ?k39 ?a40 ?l40 ?e40 ?k40 ?a41 ?l41 ?e41 ?k41 ?a42 ?l42 ?e42 ?k42 ?a43 ?l43 ?e43 ?k43 ?a44 ?l44 ?e44 ?k44 ?a45 ?l45 ?e45 ?k45 ?z_abs ?z_all ?z_any ?z_bool ?z_enumerate ?z_int ?z_isinstance ?z_len ?z_list ?z_range ?z_reversed ?z_sorted ?z_sum ?z_tuple ?z_zip ?c_MOST_PLACES ?c_MOST_PICKS ?k_Book ?cl_Bookpg ?cl_Bookhd ?cl_Bookpo ?cl_Booksa ?na_Book_bottom ?na_Book_tops ?dia_Book ?dii_Book ?dil_Book ?dic_Book ?dik_Book ?dim_Book ?diq_Book ?dma_Book_as_shares ?dmi_Book_as_shares ?dml_Book_as_shares ?dmc_Book_as_shares ?dmk_Book_as_shares ?dma_Book_scaled ?dmi_Book_scaled ?dml_Book_scaled ?dmc_Book_scaled ?dmk_Book_scaled
    (case a0 => k_is)
    (case l0 => k_is)
    (case e0 => k_is)
    (case k0 => k_is)
    (case a1 => k_is)
    (case l1 => k_is)
    (case e1 => k_is)
    (case k1 => k_is)
    (case a2 => k_is)
    (case l2 => k_is)
    (case e2 => k_is)
    (case k2 => k_is)
    (case a3 => k_is)
    (case l3 => k_is)
    (case e3 => k_is)
    (case k3 => k_is)
    (case a4 => k_is)
    (case l4 => k_is)
    (case e4 => k_is)
    (case k4 => k_is)
    (case a5 => k_is)
    (case l5 => k_is)
    (case e5 => k_is)
    (case k5 => k_is)
    (case a6 => k_is)
    (case l6 => k_is)
    (case e6 => k_is)
    (case k6 => k_is)
    (case a7 => k_is)
    (case l7 => k_is)
    (case e7 => k_is)
    (case k7 => k_is)
    (case a8 => k_is)
    (case l8 => k_is)
    (case e8 => k_is)
    (case k8 => k_is)
    (case a9 => k_is)
    (case l9 => k_is)
    (case e9 => k_is)
    (case k9 => k_is)
    (case a10 => k_is)
    (case l10 => k_is)
    (case e10 => k_is)
    (case k10 => k_is)
    (case a11 => k_is)
    (case l11 => k_is)
    (case e11 => k_is)
    (case k11 => k_is)
    (case a12 => k_is)
    (case l12 => k_is)
    (case e12 => k_is)
    (case k12 => k_is)
    (case a13 => k_is)
    (case l13 => k_is)
    (case e13 => k_is)
    (case k13 => k_is)
    (case a14 => k_is)
    (case l14 => k_is)
    (case e14 => k_is)
    (case k14 => k_is)
    (case a15 => k_is)
    (case l15 => k_is)
    (case e15 => k_is)
    (case k15 => k_is)
    (case a16 => k_is)
    (case l16 => k_is)
    (case e16 => k_is)
    (case k16 => k_is)
    (case a17 => k_is)
    (case l17 => k_is)
    (case e17 => k_is)
    (case k17 => k_is)
    (case a18 => k_is)
    (case l18 => k_is)
    (case e18 => k_is)
    (case k18 => k_is)
    (case a19 => k_is)
    (case l19 => k_is)
    (case e19 => k_is)
    (case k19 => k_is)
    (case a20 => k_is)
    (case l20 => k_is)
    (case e20 => k_is)
    (case k20 => k_is)
    (case a21 => k_is)
    (case l21 => k_is)
    (case e21 => k_is)
    (case k21 => k_is)
    (case a22 => k_is)
    (case l22 => k_is)
    (case e22 => k_is)
    (case k22 => k_is)
    (case a23 => k_is)
    (case l23 => k_is)
    (case e23 => k_is)
    (case k23 => k_is)
    (case a24 => k_is)
    (case l24 => k_is)
    (case e24 => k_is)
    (case k24 => k_is)
    (case a25 => k_is)
    (case l25 => k_is)
    (case e25 => k_is)
    (case k25 => k_is)
    (case a26 => k_is)
    (case l26 => k_is)
    (case e26 => k_is)
    (case k26 => k_is)
    (case a27 => k_is)
    (case l27 => k_is)
    (case e27 => k_is)
    (case k27 => k_is)
    (case a28 => k_is)
    (case l28 => k_is)
    (case e28 => k_is)
    (case k28 => k_is)
    (case a29 => k_is)
    (case l29 => k_is)
    (case e29 => k_is)
    (case k29 => k_is)
    (case a30 => k_is)
    (case l30 => k_is)
    (case e30 => k_is)
    (case k30 => k_is)
    (case a31 => k_is)
    (case l31 => k_is)
    (case e31 => k_is)
    (case k31 => k_is)
    (case a32 => k_is)
    (case l32 => k_is)
    (case e32 => k_is)
    (case k32 => k_is)
    (case a33 => k_is)
    (case l33 => k_is)
    (case e33 => k_is)
    (case k33 => k_is)
    (case a34 => k_is)
    (case l34 => k_is)
    (case e34 => k_is)
    (case k34 => k_is)
    (case a35 => k_is)
    (case l35 => k_is)
    (case e35 => k_is)
    (case k35 => k_is)
    (case a36 => k_is)
    (case l36 => k_is)
    (case e36 => k_is)
    (case k36 => k_is)
    (case a37 => k_is)
    (case l37 => k_is)
    (case e37 => k_is)
    (case k37 => k_is)
    (case a38 => k_is)
    (case l38 => k_is)
    (case e38 => k_is)
    (case k38 => k_is)
    (case a39 => k_is)
    (case l39 => k_is)
    (case e39 => k_is)
    (case k39 => k_is)
    (case a40 => k_is)
    (case l40 => k_is)
    (case e40 => k_is)
    (case k40 => k_is)
    (case a41 => k_is)
    (case l41 => k_is)
    (case e41 => k_is)
    (case k41 => k_is)
    (case a42 => k_is)
    (case l42 => k_is)
    (case e42 => k_is)
    (case k42 => k_is)
    (case a43 => k_is)
    (case l43 => k_is)
    (case e43 => k_is)
    (case k43 => k_is)
    (case a44 => k_is)
    (case l44 => k_is)
    (case e44 => k_is)
    (case k44 => k_is)
    (case a45 => k_is)
    (case l45 => k_is)
    (case e45 => k_is)
    (case k45 => k_is)
    (case z_abs => k_is)
    (case z_all => k_is)
    (case z_any => k_is)
    (case z_bool => k_is)
    (case z_enumerate => k_is)
    (case z_int => k_is)
    (case z_isinstance => k_is)
    (case z_len => k_is)
    (case z_list => k_is)
    (case z_range => k_is)
    (case z_reversed => k_is)
    (case z_sorted => k_is)
    (case z_sum => k_is)
    (case z_tuple => k_is)
    (case z_zip => k_is)
    (case c_MOST_PLACES => k_is)
    (case c_MOST_PICKS => k_is)
    (case k_Book => k_is)
    (case cl_Bookpg => k_is)
    (case cl_Bookhd => k_is)
    (case cl_Bookpo => k_is)
    (case cl_Booksa => k_is)
    (case na_Book_bottom => k_is)
    (case na_Book_tops => k_is)
    (case dia_Book => k_is)
    (case dii_Book => k_is)
    (case dil_Book => k_is)
    (case dic_Book => k_is)
    (case dik_Book => k_is)
    (case dim_Book => k_is)
    (case diq_Book => k_is)
    (case dma_Book_as_shares => k_is)
    (case dmi_Book_as_shares => k_is)
    (case dml_Book_as_shares => k_is)
    (case dmc_Book_as_shares => k_is)
    (case dmk_Book_as_shares => k_is)
    (case dma_Book_scaled => k_is)
    (case dmi_Book_scaled => k_is)
    (case dml_Book_scaled => k_is)
    (case dmc_Book_scaled => k_is)
    (case dmk_Book_scaled => k_is)
