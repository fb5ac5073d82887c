import PyProof.Rows.All
import Wide.All
import OpenK.AllK
import Wide.FinOn
import Lean
import PyProof.EqAt
import PyProof.EqKinds
import PyProof.TupleCall
import PyProof.NeKinds
import PySem.Challenge.RW_pressluck_k41_worths_that_fit
set_option Elab.async false
set_option linter.all false
set_option maxRecDepth 100000
theorem aac : type_of% @List.length_map := @List.length_map
theorem aad : type_of% @List.getElem?_eq_getElem := @List.getElem?_eq_getElem
theorem aae : type_of% @List.getD_eq_getElem?_getD := @List.getD_eq_getElem?_getD
theorem aaf : type_of% @List.getElem?_map := @List.getElem?_map
theorem aag : type_of% @List.mem_of_getElem? := @List.mem_of_getElem?
theorem aah : type_of% @Nat.le_refl := @Nat.le_refl
theorem aai : type_of% @List.mem_cons_self := @List.mem_cons_self
theorem aaj : type_of% @List.mem_cons_of_mem := @List.mem_cons_of_mem
theorem aak : type_of% @Int.toNat_natCast := @Int.toNat_natCast
theorem aal : type_of% @List.size_toArray := @List.size_toArray
theorem aam : type_of% @PySem.W.mg_of := @PySem.W.mg_of
theorem aan : type_of% @List.getElem_mem := @List.getElem_mem
theorem aao : type_of% @Nat.ne_of_lt := @Nat.ne_of_lt
theorem aap : type_of% @Nat.le_trans := @Nat.le_trans
theorem aaq : type_of% @List.length_cons := @List.length_cons
theorem aar : type_of% @List.getElem?_eq_none := @List.getElem?_eq_none
theorem aas : type_of% @Nat.zero_le := @Nat.zero_le
theorem aat : type_of% @PySem.boot_len := @PySem.boot_len
theorem aau : type_of% @Nat.lt_of_lt_of_le := @Nat.lt_of_lt_of_le
theorem aav : type_of% @Int.eq_ofNat_of_zero_le := @Int.eq_ofNat_of_zero_le
theorem aaw : type_of% @Bool.false_ne_true := @Bool.false_ne_true
theorem aax : type_of% @List.getElem?_of_mem := @List.getElem?_of_mem
theorem aay : type_of% @List.length_range := @List.length_range
theorem aaz : type_of% @List.map_cons := @List.map_cons
theorem aaA : type_of% @Int.mul_comm := @Int.mul_comm
theorem aaB : type_of% @List.map_append := @List.map_append
theorem aaC : type_of% @Option.some.inj := @Option.some.inj
theorem aaD : type_of% @Int.mul_assoc := @Int.mul_assoc
theorem aaE : type_of% @Int.mul_pos := @Int.mul_pos
theorem aaF : type_of% @List.take_add_one := @List.take_add_one
theorem aaG : type_of% @Nat.lt_irrefl := @Nat.lt_irrefl
theorem aaH : type_of% @List.take_of_length_le := @List.take_of_length_le
theorem aaI : type_of% @List.mem_append_right := @List.mem_append_right
theorem aaJ : type_of% @List.length_append := @List.length_append
theorem aaK : type_of% @List.length_set := @List.length_set
theorem aaL : type_of% @List.getElem?_set_ne := @List.getElem?_set_ne
theorem aaM : type_of% @Nat.lt_succ_self := @Nat.lt_succ_self
theorem aaN : type_of% @List.lookup_cons := @List.lookup_cons
theorem aaO : type_of% @PySem.F.plainAttrs_list := @PySem.F.plainAttrs_list
theorem aaP : type_of% @PySem.W.mg_none_of := @PySem.W.mg_none_of
theorem aaQ : type_of% @List.ext_getElem? := @List.ext_getElem?
theorem aaR : type_of% @List.getElem?_range := @List.getElem?_range
theorem aaS : type_of% @List.idxOf_lt_length_of_mem := @List.idxOf_lt_length_of_mem
theorem aaT : type_of% @List.map_map := @List.map_map
theorem aaU : type_of% @List.getElem?_set_self := @List.getElem?_set_self
theorem aaV : type_of% @Nat.zero_add := @Nat.zero_add
theorem aaW : type_of% @List.getElem_idxOf := @List.getElem_idxOf
theorem aaX : type_of% @List.getElem_of_mem := @List.getElem_of_mem
theorem aaY : type_of% @List.append_nil := @List.append_nil
theorem aaZ : type_of% @List.length_take := @List.length_take
theorem aa0 : type_of% @List.getElem?_append_right := @List.getElem?_append_right
theorem aa1 : type_of% @List.getElem?_append_left := @List.getElem?_append_left
theorem aa2 : type_of% @List.map_nil := @List.map_nil
theorem aa3 : type_of% @Int.natAbs_mul := @Int.natAbs_mul
theorem aa4 : type_of% @Bool.and_eq_true := @Bool.and_eq_true
theorem aa5 : type_of% @PySem.W.kia_one := @PySem.W.kia_one
theorem aa6 : type_of% @PySem.mem_of_lookup := @PySem.mem_of_lookup
theorem aa7 : type_of% @PySem.F.slot_list_append := @PySem.F.slot_list_append
theorem aa8 : type_of% @PySem.F.type_list_append := @PySem.F.type_list_append
theorem aa9 : type_of% @Int.emod_nonneg := @Int.emod_nonneg
theorem aba : type_of% @List.length_replicate := @List.length_replicate
theorem abb : type_of% @List.length_nil := @List.length_nil
theorem abc : type_of% @Nat.not_lt_zero := @Nat.not_lt_zero
theorem abd : type_of% @Nat.lt_of_le_of_lt := @Nat.lt_of_le_of_lt
theorem abe : type_of% @Int.le_of_dvd := @Int.le_of_dvd
theorem abf : type_of% @List.set_cons_zero := @List.set_cons_zero
theorem abg : type_of% @List.set_cons_succ := @List.set_cons_succ
theorem abh : type_of% @List.getElem_inj := @List.getElem_inj
theorem abi : type_of% @List.getElem?_cons_succ := @List.getElem?_cons_succ
theorem abj : type_of% @Int.toNat_of_nonneg := @Int.toNat_of_nonneg
theorem abk : type_of% @Int.emod_lt_of_pos := @Int.emod_lt_of_pos
theorem abl : type_of% @Nat.pow_le_pow_right := @Nat.pow_le_pow_right
theorem abm : type_of% @Nat.lt_succ_of_lt := @Nat.lt_succ_of_lt
theorem abn : type_of% @List.filterMap_append := @List.filterMap_append
theorem abo : type_of% @List.cons_append := @List.cons_append
theorem abp : type_of% @List.getElem?_cons_zero := @List.getElem?_cons_zero
theorem abq : type_of% @Option.some.injEq := @Option.some.injEq
theorem abr : type_of% @List.length_zipWith := @List.length_zipWith
theorem abt : type_of% @List.filterMap_cons := @List.filterMap_cons
theorem abu : type_of% @List.mem_append_left := @List.mem_append_left
theorem abv : type_of% @Array.length_toList := @Array.length_toList
theorem abw : type_of% @List.replicate_zero := @List.replicate_zero
theorem abx : type_of% @Nat.mul_le_mul_left := @Nat.mul_le_mul_left
theorem aby : type_of% @List.getElem?_zipWith := @List.getElem?_zipWith
namespace Hd
open PySem PySem.W PyProof.Rows
noncomputable def wK (ok:Thread->Bool) (st:SharedT->Thread->Option (SharedT×Thread)) (n:Nat):SharedT->Thread->Option SharedT:=
 @Nat.rec (λ_=>SharedT->Thread->Option SharedT) (λ_ _=>none)
  (λ_ ih s t=>@Bool.rec (λ_=>Option SharedT) (@Bool.rec (λ_=>Option SharedT) none (@Option.rec (SharedT×Thread) (λ_=>Option SharedT) none (λr=>@Prod.rec _ _ (λ_=>Option SharedT) (λa b=>ih a b) r) (st s t)) (ok t)) (some s) (through t)) n
theorem nF {tb:String->Option Builtin} {p:Program} {w:World} {n₀:Nat} {ann:Option Value}:∀(n:Nat) (s:SharedT) (t:Thread) (s':SharedT),wK (stepOk n₀ ann) (stepT (denote tb) p w) n s t=some s'->topRun tb p w n₀ ann n s.abs t=some s'.abs
 | 0,_,_,_,h=>by cases h
 | n+1,s,t,s',h=>by
  unfold topRun
  replace h:@Bool.rec (λ_=>Option SharedT) (@Bool.rec (λ_=>Option SharedT) none (@Option.rec (SharedT×Thread) (λ_=>Option SharedT) none (λr=>@Prod.rec _ _ (λ_=>Option SharedT) (λa b=>wK (stepOk n₀ ann) (stepT (denote tb) p w) n a b) r) (stepT (denote tb) p w s t)) (stepOk n₀ ann t)) (some s) (through t)=some s':=h
  cases ht:through t with
  | true=>rw[ht] at h;cases h;rfl
  | false=>
   rw[ht] at h
   cases hk:stepOk n₀ ann t with
   | false=>rw[hk] at h;cases h
   | true=>
    rw[hk] at h
    cases hs:stepT (denote tb) p w s t with
    | none=>rw[hs] at h;cases h
    | some r=>obtain⟨s₂,t₂⟩:=r;rw[hs] at h;rw[stepT_spec hs];exact nF n s₂ t₂ s' h
noncomputable def bt (P:Params):BT:=((boot_heap P).objs.toList.foldl (fun(x:BT×Nat) o=>(x.1.ins x.2 o,x.2+1)) (.nil,0)).1
noncomputable def zk (w:World) (os:OsState):SharedT:=⟨bt w.params,11,{},Array.mk [],boot_drawn,boot_toks,os⟩
theorem yh (w:World) (os:OsState):(zk w os).abs=⟨boot_heap w.params,Array.mk [],boot_drawn,boot_toks,os⟩:=by kernel_rfl
theorem vd (w:World):((boot_heap w.params).isNs mainGlobals && (Array.mk []:Array GenState).size==0,(boot_heap w.params).objs.size,(boot_heap w.params).nsMap mainGlobals "__annotations__")=(true,11,some (.ref 6)):=by kernel_rfl
theorem zm {p q:Program} {loose:List Str} {Xt:Shared->Bool} {α:Type} {Yf:Shared->α} {Ya:World->α} {N:Nat} {g0:Bool}
  (Im:∀w:World,(fencedOpening treeTable p w N).map (λs=>(s.heap,s.gens,s.drawn,s.toks))=some (boot_heap w.params,Array.mk [],boot_drawn,boot_toks))
  (run:∀(w:World) (os:OsState),(wK (stepOk 11 (some (.ref 6))) (stepT (denote treeTable) p w) N (zk w os) (topStub p)).map (λs=>((staticsOk (importedModules p.main.body) (boot_heap w.params) s.abs.heap && namesBound p s.abs.heap && gensDone s.abs && laidKept (boot_heap w.params) s.abs.heap),openSeen q loose (importedModules p.main.body) Xt g0 s.abs,Yf s.abs))=some (true,openGood q loose,Ya w)):
  LeftO p q loose Xt Yf Ya N g0:=λw=>by
 obtain⟨⟨h,gs,d,k,os⟩,e,e'⟩:=Option.map_eq_some_iff.mp (Im w)
 obtain⟨rfl,rfl,rfl,rfl⟩:h=boot_heap w.params/\gs=Array.mk []/\d=boot_drawn/\k=boot_toks:=by simpa using e'
 obtain⟨z1,z2,z3⟩:_/\_/\_:=by simpa only[Prod.mk.injEq] using vd w
 obtain⟨s,r,l⟩:=Option.map_eq_some_iff.mp (run w os)
 obtain⟨l1,l2,l3⟩:_/\_/\_:=by simpa only[Prod.mk.injEq] using l
 have r:=nF _ _ _ _ r
 rw[yh] at r
 have t:topFrom treeTable p w N ⟨boot_heap w.params,Array.mk [],boot_drawn,boot_toks,os⟩=some s.abs:=by
  unfold topFrom
  dsimp only
  rw[z1,z2,z3,r]
  show(match staticsOk (importedModules p.main.body) (boot_heap w.params) s.abs.heap && namesBound p s.abs.heap && gensDone s.abs && laidKept (boot_heap w.params) s.abs.heap with | true=>_ | false=>_)=_
  rw[l1]
 unfold openEnds
 rw[e]
 show((topFrom treeTable p w N ⟨boot_heap w.params,Array.mk [],boot_drawn,boot_toks,os⟩)).map _=_
 rw[t]
 show some (_,_)=_
 rw[l2,l3]
noncomputable def Runs (p q:Program) (loose:List Str) (Xt:Shared->Bool) {α:Type} (Yf:Shared->α) (Ya:World->α) (N:Nat) (g0:Bool) (w:World):Prop:=
 ∀os:OsState,(wK (PySem.W.Fast.tw6613529449190102663 11 (some (.ref 6))) (PySem.W.Fast.tw10156331382660048174 (PySem.W.Fast.tw11892475500146522536 PySem.W.Fast.tw14364793385576792824) p w) N (zk w os) (topStub p)).map (λs=>((staticsOk (importedModules p.main.body) (boot_heap w.params) s.abs.heap && namesBound p s.abs.heap && gensDone s.abs && laidKept (boot_heap w.params) s.abs.heap),PySem.W.Fast.tw4187177175401517315 q loose (importedModules p.main.body) Xt g0 s.abs,Yf s.abs))=some (true,openGood q loose,Ya w)
theorem yi {p q:Program} {loose:List Str} {Xt:Shared->Bool} {α:Type} {Yf:Shared->α} {Ya:World->α} {N:Nat} {g0:Bool}
  (e:opening p=plainProg p.main.scope.names) (hN:Nat.ble 600 N=true) (f:∀s,fenceModules? p s=some s)
  (run:∀w:World,Runs p q loose Xt Yf Ya N g0 w):
  LeftO p q loose Xt Yf Ya N g0:=by
 refine zm (boot_open e hN f) ?_
 unfold Runs at run
 rw[PySem.W.Fast.te6613529449190102663,PySem.W.Fast.te10156331382660048174,PySem.W.Fast.te11892475500146522536,PySem.W.Fast.te14364793385576792824,PySem.W.Fast.te4187177175401517315]
 exact run
end Hd
namespace K41
open PySem PySem.Spec PyProof.Rows
noncomputable def top (i:Nat):Stmt:=PySem.Challenge.pw_pressluck_k41_worths_that_fit.main.body.getD i (.Pass ⟨0,0,0,0⟩)
end K41
section Mw
open PySem PySem.W PyProof.Rows
local macro_rules | `(tactic| o_head $H) => `(tactic| (refine (fun (_ : PySem.W.Hook) => ?_) $H; assumption))
theorem K41.pre (h:PySem.W.OpenRow.Holds (PySem.W.OpenLaw.row PySem.Challenge.rw_pressluck_k41_worths_that_fit)):PySem.W.OpenRow.Holds (PySem.W.OpenLaw.row PySem.Challenge.rw_pressluck_k41_worths_that_fit):=by
 k_head
noncomputable def K41.Ef:List Addr:=[2,3,15,18,19,20,23,24,25,28,29,30,33,34,35,38,39,40,47,48,49,50,53,60,61,62,65,72,74,75,77,78,79,80,81,84,91,92,93,96,98,99,101,102,103,105,106,108,109,110,112,113,115,116,117,119,120,122,123,124,126,127,129,130,131,134,135,136,138,139,141,142,143,146,147,148,150,151,153,154,155,158,159,160,162,163,165,166,167,169,170,172,173,174,176,177,179,180,181,184,185,186,189,190,191,193,194,196,197,205,207,208,210,211,212,215,216,217,220,221,222,223,224,225,226,229,231,232,234,235,236,239,240,241,244,245,246,248,249,251,252,253,256,257,258,261,262,263,265,266,268,269,270,273,274,275,277,278,280,281,282,285,286,287,290,291,292,294,295,297,298,299,301,302,304,305,306,308,309,311,312,313,315,316,318,319,320,322,323,325,326,327,329,330,332,333,334,337,338,339,341,342,344,345,346,349,350,358,360,361,363,364,365,368,369,377,379,380,382,383,384,387,388,389,391,392,394,395,396,398,399,401,402,403,406,407,408,410,411,413,414]
theorem K41.zo (P:PySem.Params):K41.Ef=(K41.pre.heap_1 P).map (·.1):=by kernel_rfl
noncomputable def K41.vw:PySem.Program:={PySem.Challenge.pw_pressluck_k41_worths_that_fit with main:={PySem.Challenge.pw_pressluck_k41_worths_that_fit.main with body:=[K41.top 1,K41.top 2,K41.top 3,K41.top 4,K41.top 5,K41.top 7,K41.top 8,K41.top 9,K41.top 10,K41.top 12,K41.top 13,K41.top 14,K41.top 16,K41.top 17,K41.top 18,K41.top 19,K41.top 20,K41.top 22,K41.top 23,K41.top 25,K41.top 26,K41.top 27,K41.top 28,K41.top 29,K41.top 30,K41.top 31,K41.top 32,K41.top 33,K41.top 34,K41.top 35,K41.top 36,K41.top 37,K41.top 38,K41.top 40,K41.top 41,K41.top 42,K41.top 43,K41.top 44,K41.top 45,K41.top 47,K41.top 48,K41.top 49,K41.top 50,K41.top 51,K41.top 52,K41.top 53,K41.top 54,K41.top 55,K41.top 56,K41.top 57,K41.top 58,K41.top 59,K41.top 60,K41.top 61,K41.top 62,K41.top 63,K41.top 64,K41.top 65]}}
theorem K41.run (w:World):Hd.Runs (RowW.prog (OpenRow.toRowW (PySem.W.OpenLaw.row PySem.Challenge.rw_pressluck_k41_worths_that_fit))) K41.vw [] (λs=>xlAt K41.vw [] s && recOk (RowW.records (OpenRow.toRowW (PySem.W.OpenLaw.row PySem.Challenge.rw_pressluck_k41_worths_that_fit))) s) (Hook.obs (PySem.W.kmHook K41.pre.heap_1 K41.Ef K41.zo [156])) (Hook.val (PySem.W.kmHook K41.pre.heap_1 K41.Ef K41.zo [156])) 5594 true w:=λos=>by kernel_rfl
end Mw
set_option tactic.hygienic false
set_option compiler.extract_closed false
set_option hygiene false in
local macro_rules | `(tactic| symm) => `(tactic| (refine (?_ : let G_ : Prop := _; G_); intro G_))
set_option hygiene false in
local macro_rules | `(tactic| nofun) => `(tactic| dsimp only [G_])
local macro_rules | `(tactic| ac_rfl) => `(tactic| decide +kernel)
local macro_rules | `(tactic| omega) => `(tactic| lia)
namespace L2
open PySem PySem.Spec PyProof.Rows
abbrev Key:=Sum Int Str
noncomputable def nG:Key->Value->Bool
 | .inl k,v=>Value.isInt k v
 | .inr x,v=>Value.isStrOf x v
noncomputable def E3 (w:World):Key->Int
 | .inl k=>hashInt k
 | .inr x=>hashStr w x
theorem cv:∀{k:Key} {v:Value},nG k v=true->(∃i t,k=Sum.inl i/\v=Value.int i t)\/(∃x t,k=Sum.inr x/\v=Value.str x t)
 | .inl i,v,h=>by
  obtain⟨t,e⟩:=Value.isInt_shape (k:=i) (v:=v) h
  exact .inl ⟨i,t,rfl,e⟩
 | .inr x,v,h=>by
  obtain⟨t,e⟩:=Value.isStrOf_shape (x:=x) (v:=v) h
  exact .inr ⟨x,t,rfl,e⟩
theorem yj (i:Int) (t:Tok):nG (.inl i) (.int i t)=true:=by simp [nG,Value.isInt]
theorem yk (x:Str) (t:Tok):nG (.inr x) (.str x t)=true:=by simp [nG,Value.isStrOf]
theorem E4 (a b:Int):decide ((Sum.inl a:Key)=Sum.inl b)=(a==b):=by
 by_cases e:a=b
 ·subst e;simp
 ·have h:¬(Sum.inl a:Key)=Sum.inl b:=λq=>e (Sum.inl.inj q)
  rw[decide_eq_false h]
  exact(beq_eq_false_iff_ne.mpr e).symm
theorem E5 (a b:Str):decide ((Sum.inr a:Key)=Sum.inr b)=decide (a=b):=by
 by_cases e:a=b
 ·subst e;simp
 ·have h:¬(Sum.inr a:Key)=Sum.inr b:=λq=>e (Sum.inr.inj q)
  rw[decide_eq_false h,decide_eq_false e]
theorem E6 (a:Int) (b:Str):decide ((Sum.inl a:Key)=Sum.inr b)=false:=decide_eq_false (λq=>nomatch q)
theorem E7 (a:Str) (b:Int):decide ((Sum.inr a:Key)=Sum.inl b)=false:=decide_eq_false (λq=>nomatch q)
noncomputable def cq (prog:Program) (w:World):PySem.KeyKind prog w Key where
 is:=nG
 hash:=E3 w
 inj:=λv a b ha hb=>by
  rcases cv ha with ⟨i,t,rfl,rfl⟩ | ⟨x,t,rfl,rfl⟩
  ·rcases cv hb with ⟨j,u,rfl,e⟩ | ⟨y,u,rfl,e⟩
   ·injection e with e1 _;rw[e1]
   ·exact nomatch e
  ·rcases cv hb with ⟨j,u,rfl,e⟩ | ⟨y,u,rfl,e⟩
   ·exact nomatch e
   ·injection e with e1 _;rw[e1]
 byValue:=λk v h=>by
  rcases cv h with ⟨i,t,rfl,rfl⟩ | ⟨x,t,rfl,rfl⟩ <;>rfl
 pyHash:=λhv h=>by
  rcases cv hv with ⟨i,t,rfl,rfl⟩ | ⟨x,t,rfl,rfl⟩
  ·exact wpAny_pyHash_int h
  ·exact wpAny_pyHash_str h
 eqBool:=λhu hv h=>by
  rcases cv hu with ⟨i,t,rfl,rfl⟩ | ⟨x,t,rfl,rfl⟩
  ·rcases cv hv with ⟨j,u,rfl,rfl⟩ | ⟨y,u,rfl,rfl⟩
   ·rw[E4] at h;exact wpAny_eqBool_int h
   ·rw[E6] at h;exact SeqAt.EqAt.int_str i t y u _ _ _ _ h
  ·rcases cv hv with ⟨j,u,rfl,rfl⟩ | ⟨y,u,rfl,rfl⟩
   ·rw[E7] at h;exact SeqAt.EqAt.str_int x t j u _ _ _ _ h
   ·rw[E5] at h;exact wpAny_eqBool_str h
 «strs»:=λk x t v h=>by
  rcases cv h with ⟨i,u,rfl,e⟩ | ⟨y,u,rfl,e⟩
  ·exact nomatch e
  ·injection e with e1 _
   subst e1
   cases v <;>rfl
theorem tG (prog:Program) (w:World) (i:Int) (t:Tok):(cq prog w).is (.inl i) (.int i t)=true:=yj i t
theorem tH (prog:Program) (w:World) (x:Str) (t:Tok):(cq prog w).is (.inr x) (.str x t)=true:=yk x t
end L2
namespace L2
open PySem PySem.Spec PyProof.Rows
inductive V where
 | b9 | bl (b:Bool) | int (i:Int) | str (x:Str) | zf (b:Array UInt8) | E8 (b:UInt64) | ref (a:Addr) | ty (n:String)
 deriving DecidableEq
noncomputable def RelV:V->Value->Prop
 | .b9,u=>u=Value.none
 | .bl b,u=>u=Value.bool b
 | .int i,u=>∃t,u=Value.int i t
 | .str x,u=>∃t,u=Value.str x t
 | .zf b,u=>∃t,u=Value.bytes b t
 | .E8 b,u=>∃t,u=Value.float b t
 | .ref a,u=>u=Value.ref a
 | .ty n,u=>u=Value.type n
abbrev bz:List V->List Value->Prop:=Paired RelV
theorem bz.length {xs:List V} {us:List Value} (r:bz xs us):xs.length=us.length:=Paired.length r
theorem bz.get:∀{xs:List V} {us:List Value} {i:Nat} {x:V},bz xs us->xs[i]?=some x->∃u,us[i]?=some u/\RelV x u
 | _,_,_,_,.nil,e=>by simp at e
 | _,_,0,_,.cons r _,e=>by simp at e;subst e;exact⟨_,rfl,r⟩
 | _,_,i+1,x,.cons _ t,e=>by
  obtain⟨u,h1,h2⟩:=bz.get (i:=i) (x:=x) t (by simpa using e)
  exact⟨u,by simpa using h1,h2⟩
theorem bz.set {x:V} {u:Value} (r:RelV x u):∀{xs:List V} {us:List Value} (i:Nat),bz xs us->bz (xs.set i x) (us.set i u)
 | _,_,_,.nil=>.nil
 | _,_,0,.cons _ t=>.cons r t
 | _,_,i+1,.cons q t=>.cons q (bz.set r i t)
theorem bz.append:∀{xs ys:List V} {us ws:List Value},bz xs us->bz ys ws->bz (xs++ys) (us++ws)
 | _,_,_,_,.nil,s=>s
 | _,_,_,_,.cons r t,s=>.cons r (bz.append t s)
theorem bz.take:∀{xs:List V} {us:List Value} (n:Nat),bz xs us->bz (xs.take n) (us.take n)
 | _,_,0,_=>.nil
 | _,_,_+1,.nil=>.nil
 | _,_,n+1,.cons r t=>.cons r (bz.take n t)
theorem bz.drop:∀{xs:List V} {us:List Value} (n:Nat),bz xs us->bz (xs.drop n) (us.drop n)
 | _,_,0,r=>r
 | _,_,_+1,.nil=>.nil
 | _,_,n+1,.cons _ t=>bz.drop n t
noncomputable def iN:Option V->Option Value->Prop
 | some v,some u=>RelV v u
 | none,none=>True
 | _,_=>False
noncomputable def KV {κ:Type}:List (κ×V)->List (κ×Value)->Prop:=Paired fun(p:κ×V) (q:κ×Value)=>p.1=q.1/\RelV p.2 q.2
noncomputable def kV:Key->V
 | .inl i=>.int i
 | .inr x=>.str x
inductive HO where
 | lst (xs:List V)
 | tup (xs:List V)
 | dK (kvs:List (Key×V)) | dT (kvs:List (List Key×V))
 | set (S:Int->Bool) (n:Nat)
 | ins (C dx:Addr) (fs:List (Str×V))
 | own (x:Addr)
 | xd (fs:List (Str×V))
 | met (f x:Addr)
 | lP (lo hi:Int)
 | tq (o:Obj) (u:HO)
 | tu (ps:Array Value)
 | ext (φ:Heap->Prop)
abbrev Hp:=Addr->Option HO
noncomputable def upd (H:Hp) (a:Addr) (o:HO):Hp:=λb=>if b=a then some o else H b
theorem ar {H:Hp} {a:Addr} {o:HO}:upd H a o a=some o:=by unfold upd;rw[if_pos rfl]
theorem aJ {H:Hp} {a b:Addr} {o:HO} (h:b≠a):upd H a o b=H b:=by unfold upd;rw[if_neg h]
theorem Cv {H:Hp} {a:Addr} {o u:HO}:upd (upd H a o) a u=upd H a u:=by
 funext b;unfold upd;split <;>rfl
theorem Io {H:Hp} {a b:Addr} {o u:HO} (h:H a=some o) (h':H b=some u) (d:o≠u):a≠b:=by
 intro e;subst e;rw[h] at h';exact d (aaC h')
theorem bD {H:Hp} {a b:Addr} {o:HO} (h:H a=some o) (h':H b=none):a≠b:=by
 intro e;subst e;rw[h] at h';cases h'
noncomputable def TabAt (H:Hp) (h:Heap) (a:Addr) (ps:Array Value):Prop:=∃mo:Array Value,h.get? a=some {cls:=.none,data:=.fields mo}/\
 (mo=#[]\/∃(l c:Value) (c1:Addr) (q:Str) (t:Tok),ps=#[l,c,.str q t]/\mo=#[l,c,.ref c1]/\H c1=some (.own a)/\h.CodeRec (.ref c1) q)
section
variable (P : Program) (w : World)
noncomputable def cw (H:Hp) (h:Heap) (a:Addr):HO->Prop
 | .lst xs=>xs.length<=sizeLine/\∃(aV:List Value) (n:Nat),bz xs aV/\h.get? a=some {cls:=.type "list",data:=.seq aV.toArray n}
 | .tup xs=>xs.length<=sizeLine/\∃aV:List Value,bz xs aV/\IsTup h a aV.toArray
 | .dK kvs=>kvs.length<=sizeLine/\(a==sysModules)=false/\∃vs,KV kvs vs/\h.DictOf (cq P w) a vs
 | .dT kvs=>kvs.length<=sizeLine/\(a==sysModules)=false/\∃xs:List (List Key×Addr×Value),
   Paired (fun(p:List Key×V) (q:List Key×Addr×Value)=>p.1=q.1/\H q.2.1=some (.tup (p.1.map kV))/\RelV p.2 q.2.2) kvs xs/\
   ∃o es ep,h.get? a=some o/\o.ExactDict/\o.data=.dict es ep/\es.toList=xs.map (entryOfKey (tupleKind (cq P w)))/\(xs.map (·.1)).Nodup
 | .set S n=>h.SetOf (intKind P w) a S n
 | .ins C dx fs=>H dx=some (.own a)/\fs.length<=1000/\dx≠a/\h.get? a=some (PySem.W.instObj C dx)/\
   ∃mA,h.Ns1 dx mA/\(∀f,iN (fs.lookup f) (mA f))/\PySem.Within mA (fs.map (·.1))
 | .own _=>∃o,h.get? a=some o
 | .xd fs=>∃mA,h.Ns1 a mA/\∀f,iN (fs.lookup f) (mA f)
 | .lP lo hi=>∃t u v,h.get? a=some {cls:=.type "range",data:=.fields #[.int lo t,.int hi u,.int 1 v]}
 | .tq o u=>h.get? a=some o/\cw H h a u
 | .tu ps=>TabAt H h a ps
 | .met f x=>h.get? a=some (PySem.W.methodObj (.ref f) (.ref x))
 | .ext φ=>φ h/\(∃o,h.get? a=some o)/\∀h1 h2:Heap,φ h1->(∀o,h1.get? a=some o->h2.get? a=some o)->φ h2
noncomputable def gX (H:Hp) (h:Heap):Prop:=∀a o,H a=some o->cw P w H h a o
end
section
variable {P : Program} {w : World} {H H' : Hp} {h h' : Heap} {a : Addr} {o : HO}
theorem cw.lt (x:cw P w H h a o):a<h.objs.size:=by
 cases o with
 | lst xs=>obtain⟨_,_,_,_,e⟩:=x;exact Heap.lt_size e
 | tup xs=>obtain⟨_,_,_,p⟩:=x;exact p.lt
 | dK kvs=>obtain⟨_,_,_,_,o,_,_,e,_⟩:=x;exact Heap.lt_size e
 | dT kvs=>obtain⟨_,_,_,_,o,_,_,e,_⟩:=x;exact Heap.lt_size e
 | set S n=>obtain⟨o,_,_,_,e,_⟩:=x;exact Heap.lt_size e
 | ins C dx fs=>obtain⟨_,_,_,e,_⟩:=x;exact Heap.lt_size e
 | own y=>obtain⟨_,e⟩:=x;exact Heap.lt_size e
 | xd fs=>obtain⟨_,⟨_,_,_,e,_⟩,_⟩:=x;exact Heap.lt_size e
 | lP lo hi=>obtain⟨_,_,_,e⟩:=x;exact Heap.lt_size e
 | tq ob u=>obtain⟨e,_⟩:=x;exact Heap.lt_size e
 | tu ps=>obtain⟨_,e,_⟩:=x;exact Heap.lt_size e
 | met f y=>exact Heap.lt_size (show h.get? a=some _ from x)
 | ext φ=>obtain⟨_,⟨_,e⟩,_⟩:=x;exact Heap.lt_size e
theorem Paired.E9 {α β:Type} {F G:α->β->Prop}:∀{l₁:List α} {l₂:List β},Paired F l₁ l₂->(∀a b,F a b->G a b)->Paired G l₁ l₂
 | _,_,.nil,_=>.nil
 | _,_,.cons r t,f=>.cons (f _ _ r) (Paired.E9 t f)
theorem cw.pI (x:cw P w H h a o) (k:∀b u,(b=a\/H b=some (.own a))->h.get? b=some u->h'.get? b=some u)
  (ho:∀b,H b=some (.own a)->H' b=some (.own a)) (ht:∀b xs,H b=some (.tup xs)->H' b=some (.tup xs)):cw P w H' h' a o:=by
 induction o with
 | lst xs=>obtain⟨z,aV,n,r,e⟩:=x;exact⟨z,aV,n,r,k _ _ (.inl rfl) e⟩
 | tup xs=>obtain⟨z,aV,r,ob,e,c⟩:=x;exact⟨z,aV,r,ob,k _ _ (.inl rfl) e,c⟩
 | dK kvs=>obtain⟨z,y,vs,r,ob,es,ep,e,c⟩:=x;exact⟨z,y,vs,r,ob,es,ep,k _ _ (.inl rfl) e,c⟩
 | dT kvs=>
  obtain⟨z,y,xs,r,ob,es,ep,e,c⟩:=x
  exact⟨z,y,xs,Paired.E9 r λp q z=>⟨z.1,ht _ _ z.2.1,z.2.2⟩,ob,es,ep,k _ _ (.inl rfl) e,c⟩
 | set S n=>obtain⟨ob,es,ep,t,e,c⟩:=x;exact⟨ob,es,ep,t,k _ _ (.inl rfl) e,c⟩
 | ins C dx fs=>
  obtain⟨d,z,ne,e,mA,⟨od,es,ep,e2,c⟩,r⟩:=x
  exact⟨ho _ d,z,ne,k _ _ (.inl rfl) e,mA,⟨od,es,ep,k _ _ (.inr d) e2,c⟩,r⟩
 | own y=>obtain⟨ob,e⟩:=x;exact⟨ob,k _ _ (.inl rfl) e⟩
 | xd fs=>obtain⟨mA,⟨od,es,ep,e,c⟩,r⟩:=x;exact⟨mA,⟨od,es,ep,k _ _ (.inl rfl) e,c⟩,r⟩
 | lP lo hi=>obtain⟨t,u,v,e⟩:=x;exact⟨t,u,v,k _ _ (.inl rfl) e⟩
 | tq ob u ih=>obtain⟨e,q⟩:=x;exact⟨k _ _ (.inl rfl) e,ih q⟩
 | tu ps=>
  obtain⟨mo,e,q⟩:=x
  refine⟨mo,k _ _ (.inl rfl) e,?_⟩
  rcases q with q | ⟨l,c,c1,qn,t,e1,e2,e3,c2,o2,Mx,t2,f1,f2,f3,f4⟩
  ·exact .inl q
  ·cases f1
   exact .inr ⟨l,c,c1,qn,t,e1,e2,ho _ e3,c1,o2,Mx,t2,rfl,k _ _ (.inr e3) f2,f3,f4⟩
 | met f y=>
  have e:h.get? a=some (PySem.W.methodObj (.ref f) (.ref y)):=x
  show h'.get? a=some (PySem.W.methodObj (.ref f) (.ref y))
  exact k a _ (.inl rfl) e
 | ext φ=>obtain⟨p,⟨o,e⟩,st⟩:=x;exact⟨st _ _ p λo q=>k _ _ (.inl rfl) q,⟨o,k _ _ (.inl rfl) e⟩,st⟩
theorem gX.lt (x:gX P w H h) (e:H a=some o):a<h.objs.size:=(x a o e).lt
theorem gX.fresh (x:gX P w H h) (e:h.objs.size<=a):H a=none:=by
 cases q:H a with
 | none=>rfl
 | some u=>exact absurd (aau (x.lt q) e) (aaG _)
theorem gX.kept (x:gX P w H h) (k:∀b u,h.get? b=some u->h'.get? b=some u):gX P w H h':=λa o e=>
 (x a o e).pI (λb u _ q=>k b u q) (λ_ q=>q) λ_ _ q=>q
theorem gX.laid (x:gX P w H h) (k:∀b u,h.get? b=some u->h'.get? b=some u) (hp:h.objs.size<=a) (new:cw P w (upd H a o) h' a o):gX P w (upd H a o) h':=λb u e=>by
 have hn:=x.fresh hp
 by_cases hb:b=a
 ·subst hb;rw[ar] at e;cases e;exact new
 ·rw[aJ hb] at e
  exact(x b u e).pI (λc v _ q=>k c v q) (λc q=>by rw[aJ (bD q hn)];exact q) λc xs q=>by rw[aJ (bD q hn)];exact q
end
noncomputable def Rd (H:Hp) (a:Addr) (u:HO):Prop:=H a=some u\/∃o,H a=some (.tq o u)
theorem Rd.ok {P:Program} {w:World} {H:Hp} {h:Heap} {a:Addr} {u:HO} (r:Rd H a u) (x:gX P w H h):cw P w H h a u:=by
 rcases r with r | ⟨o,r⟩
 ·exact x a u r
 ·obtain⟨_,q⟩:=x a _ r
  exact q
noncomputable def Ip:Option HO->Prop
 | some (.lst _)=>True
 | some (.dK _)=>True
 | some (.dT _)=>True
 | some (.set _ _)=>True
 | some (.ins _ _ _)=>True
 | some (.ext _)=>True
 | _=>False
section
variable {P : Program} {w : World} {H : Hp} {h h' : Heap} {x e : Addr} {o' : HO}
theorem gX.write (ok:gX P w H h) (mu:Ip (H x)) (he:e=x\/H e=some (.own x)) (k:∀b u,b≠e->h.get? b=some u->h'.get? b=some u) (HI:∃u,h'.get? e=some u)
  (new:cw P w (upd H x o') h' x o'):gX P w (upd H x o') h':=λb u q=>by
 have Iq:∀c y,H c=some (.own y)->c≠x:=λc y r z=>by subst z;rw[r] at mu;exact mu
 have My:∀c xs,H c=some (.tup xs)->c≠x:=λc xs r z=>by subst z;rw[r] at mu;exact mu
 by_cases hb:b=x
 ·subst hb;rw[ar] at q;cases q;exact new
 ·rw[aJ hb] at q
  by_cases Fb:b=e
  ·have q':H b=some (.own x):=by
    rcases he with z | z
    ·exact absurd (Fb.trans z) hb
    ·rw[Fb];exact z
   rw[q] at q';cases q'
   obtain⟨v,hv⟩:=HI
   exact⟨v,by rw[Fb];exact hv⟩
  ·refine(ok b u q).pI (λc v hc r=>k c v ?_ r) (λc r=>by rw[aJ (Iq c b r)];exact r) λc xs r=>by rw[aJ (My c xs r)];exact r
   rcases hc with rfl | hc
   ·exact Fb
   ·rintro rfl
    rcases he with z | z
    ·exact Iq c b hc z
    ·rw[hc] at z;cases z;exact hb rfl
end
structure Un (fs ex:List Addr) (H H':Hp) (h h':Heap):Prop where
 keep:∀b o,h.get? b=some o->H b=none->b∉fs->b∉ex->h'.get? b=some o
 slot:∀b o,h.get? b=some o->H b=none->b∈fs->b∉ex->∃sl,h'.get? b=some {o with slots:=sl}
 free:∀b o,h.get? b=some o->H b=none->b∉ex->H' b=none
 there:∀b o,h.get? b=some o->b∉ex->∃o',h'.get? b=some o'
 lQ:∀b xs,H b=some (.tup xs)->H' b=some (.tup xs)
 nH:∀b o u,H b=some (.tq o u)->H' b=some (.tq o u)
 nI:∀b ps,H b=some (.tu ps)->∃more,H' b=some (.tu (ps++more))
section
variable {fs XF ex Cw : List Addr} {H H1 H2 : Hp} {h h1 h2 h' : Heap} {a x e : Addr} {o : HO}
theorem Un.any (u:Un fs ex H H1 h h1) {b:Addr} {ob:Obj} (q:h.get? b=some ob) (n:H b=none) (hx:b∉ex):∃sl,h1.get? b=some {ob with slots:=sl}:=by
 by_cases hb:b∈fs
 ·exact u.slot b ob q n hb hx
 ·exact⟨ob.slots,u.keep b ob q n hb hx⟩
theorem Un.kept (k:∀b u,h.get? b=some u->h'.get? b=some u):Un fs ex H H h h':=
 ⟨λb ob q _ _ _=>k b ob q,λb ob q _ _ _=>⟨ob.slots,k b ob q⟩,λ_ _ _ n _=>n,λb ob q _=>⟨ob,k b ob q⟩,λ_ _ q=>q,λ_ _ _ q=>q,λ_ ps q=>⟨#[],by rw[q];simp⟩⟩
theorem Un.refl:Un fs ex H H h h:=Un.kept λ_ _ q=>q
theorem Un.laid (k:∀b u,h.get? b=some u->h'.get? b=some u) (hp:h.objs.size<=a) (hn:H a=none):Un fs ex H (upd H a o) h h' where
 keep:=λb u q _ _ _=>k b u q
 slot:=λb u q _ _ _=>⟨u.slots,k b u q⟩
 free:=λb u q n _=>by rw[aJ (aao (aau (Heap.lt_size q) hp))];exact n
 there:=λb u q _=>⟨u,k b u q⟩
 lQ:=λb xs q=>by rw[aJ (bD q hn)];exact q
 nH:=λb u xs q=>by rw[aJ (bD q hn)];exact q
 nI:=λb ps q=>⟨#[],by rw[aJ (bD q hn),q];simp⟩
theorem Un.write (mu:Ip (H x)) (he:e=x\/H e=some (.own x)) (k:∀b u,b≠e->h.get? b=some u->h'.get? b=some u) (HI:∃u,h'.get? e=some u):Un fs ex H (upd H x o) h h':=by
 have hx:∀b,H b=none->b≠x:=λb n z=>by subst z;rw[n] at mu;exact mu
 have hb:∀b,H b=none->b≠e:=λb n z=>by
  subst z
  rcases he with r | r
  ·exact hx b n r
  ·rw[n] at r;cases r
 have hm:∀b u,H b=some u->¬Ip (some u)->b≠x:=λb u q nm z=>by subst z;rw[q] at mu;exact nm mu
 refine⟨λb u q n _ _=>k b u (hb b n) q,λb u q n _ _=>⟨u.slots,k b u (hb b n) q⟩,λb u q n _=>by rw[aJ (hx b n)];exact n,λb u q _=>?_,
  λb xs q=>by rw[aJ (hm b _ q λz=>z)];exact q,λb u xs q=>by rw[aJ (hm b _ q λz=>z)];exact q,λb ps q=>⟨#[],by rw[aJ (hm b _ q λz=>z),q];simp⟩⟩
 by_cases Fb:b=e
 ·subst Fb;exact HI
 ·exact⟨u,k b u Fb q⟩
end
noncomputable def LD (h:Heap) (H:Hp):List Addr:=(List.range h.objs.size).filter λa=>(H a).isSome
noncomputable def nJ (h:Heap) (H:Hp):Heap:=PySem.W.hideAll h (LD h H)
theorem yl (h:Heap) (H:Hp):(nJ h H).objs.size=h.objs.size:=PySem.W.hideAll_size _ _
theorem zp {h:Heap} {H:Hp} {b:Addr} {o:Obj} (e:h.get? b=some o) (n:H b=none):(nJ h H).get? b=some o:=
 PySem.W.hideAll_get _ e λhm=>by
  have q:(H b).isSome=true:=(List.mem_filter.mp hm).2
  rw[n] at q;simp at q
theorem Cy {h:Heap} {H:Hp} {b:Addr} {o:Obj} (e:(nJ h H).get? b=some o):h.get? b=some o/\H b=none:=by
 have e':h.get? b=some o:=PySem.W.of_hideAll (LD h H) e
 refine⟨e',?_⟩
 cases q:H b with
 | none=>rfl
 | some x=>
  have hm:b∈LD h H:=List.mem_filter.mpr ⟨List.mem_range.mpr (Heap.lt_size e'),by simp [q]⟩
  have z:(nJ h H).get? b=none:=PySem.W.hideAll_none (LD h H) hm
  rw[z] at e;cases e
noncomputable def Cz (g h:Heap) (L:Addr):List (Addr×Obj):=(List.range h.objs.size).filterMap λa=>if a=L\/(g.get? a).isSome=true then none else (h.get? a).map λo=>(a,o)
noncomputable def rest (g h:Heap) (L d:Addr):List (Addr×Obj):=(Cz g h L).filter λp=>decide (p.1≠d)
end L2
namespace L2
open PySem PySem.Spec PyProof.Rows
structure Mod (K:PySem.W.Frag) (mg:Str->Option Value) (base:Heap):Prop where
 Ir:K.In base
 glob:base.Ns mainGlobals mg
 blt:∃mb,base.Ns builtinsNs mb/\∀x:Str,x≠"__name__"->mb x=bootBuiltins x
 nolimit:base.NoLimit
structure Cx where
 prog:Program
 w:World
 K:PySem.W.Frag
 mg:Str->Option Value
 base:Heap
 A:Around
 N:List Str
 s₀:Shared
 H₀:Hp
 env:Env
 outer:List Env
 stack:List Env
 ex:List Addr
 fn:Str->Bool
 calm:Bool
 pn:List (Addr×Obj)
 xe:Value->Shared->Prop
def tI (l:List Env):List Addr:=l.filterMap (·.frame)
abbrev Cx.fs (X:Cx):List Addr:=tI X.outer
noncomputable def Mz (sc:Scope) (x:Str):Prop:=sc.names.lookup x=some .local\/sc.names.lookup x=some .cell\/sc.names.lookup x=some .free
noncomputable def Loc (sc:Scope) (x:Str):Prop:=sc.names.lookup x=some .local\/sc.names.lookup x=some .cell
noncomputable def Look (env:Env) (h:Heap) (m:Str->Option Value) (x:Str) (u:Value):Prop:=
 (env.kindOf x=some .local/\m x=some u)\/((env.kindOf x=some .cell\/env.kindOf x=some .free)/\∃c,env.cells.lookup x=some c/\h.IsCell c (some u))
structure Cx.Ok (X:Cx):Prop where
 mod:Mod X.K X.mg X.base
 kind:X.env.scope.kind=.function
 glob:X.env.globals=mainGlobals
 blt:X.env.builtins=builtinsNs
 above:X.s₀.heap.objs.size<=X.env.locals
 inj:∀x y c,X.env.cells.lookup x=some c->X.env.cells.lookup y=some c->x=y
 has:∀x,(X.env.kindOf x=some .cell\/X.env.kindOf x=some .free)->∃c,X.env.cells.lookup x=some c
 HJ:∀x c,X.fn x=true->X.env.cells.lookup x=some c->X.s₀.heap.objs.size<=c
 hd:X.calm=true->X.A.handled=none
 frames:X.A.frames=some X.stack
 zq:X.stack=X.outer\/(X.stack=X.env::X.outer/\X.env.frame=some X.env.locals)
 MA:∀b∈X.ex,b≠X.env.locals/\∀x c,X.env.cells.lookup x=some c->c≠b
 bs:∀b o,X.base.get? b=some o->X.s₀.heap.get? b=some o/\X.H₀ b=none
 zt:X.base.objs.size<=X.s₀.heap.objs.size
 yn:∀b o,X.base.get? b=some o->b∉X.ex
 zu:∀b∈X.ex,b∉X.fs
 kc:X.s₀.heap.FunFrames X.base X.outer
 Eg:∀b∈X.fs,X.H₀ b=none
structure Inv (X:Cx) (pins:List (Addr×Obj)) (σ:List (Option V)) (H:Hp) (s:Shared):Prop where
 ok:X.Ok
 os:s.os=X.s₀.os
 bare:AllBare s.gens
 base:Un X.fs X.ex X.H₀ H X.s₀.heap s.heap
 loc:∃m,s.heap.Ns X.env.locals m/\∀(i:Nat) (x:Str) (v:V),X.N[i]?=some x->σ[i]?=some (some v)->Mz X.env.scope x->∃u,RelV v u/\Look X.env s.heap m x u
 cell:∀x c,X.env.cells.lookup x=some c->∃v,s.heap.IsCell c v
 free:H X.env.locals=none
 g7:∀x c,X.env.cells.lookup x=some c->H c=none
 pin:∀p∈X.pn++pins,s.heap.get? p.1=some p.2/\H p.1=none/\p.1≠X.env.locals/\p.1∉X.fs/\∀v,p.2.data≠.cell v
 bT:gX X.prog X.w H s.heap
 len:σ.length=X.N.length
section
variable {X : Cx} {pins : List (Addr × Obj)} {σ : List (Option V)} {H H' : Hp} {s : Shared} {h' : Heap}
theorem Cx.Ok.MB (ok:X.Ok) {b:Addr} {o:Obj} (e:X.base.get? b=some o):b∉X.fs:=λhb=>by
 have:=(ok.kc.mem hb).1
 rw[e] at this;cases this
theorem Inv.bs (I:Inv X pins σ H s):∀b o,X.base.get? b=some o->s.heap.get? b=some o/\H b=none:=λb o e=>
 ⟨I.base.keep b o (I.ok.bs b o e).1 (I.ok.bs b o e).2 (I.ok.MB e) (I.ok.yn b o e),I.base.free b o (I.ok.bs b o e).1 (I.ok.bs b o e).2 (I.ok.yn b o e)⟩
theorem Inv.bk (I:Inv X pins σ H s):∀b o,X.base.get? b=some o->s.heap.get? b=some o:=λb o e=>(I.bs b o e).1
theorem Inv.mod (I:Inv X pins σ H s):Mod X.K X.mg X.base:=I.ok.mod
theorem Inv.lU (I:Inv X pins σ H s):X.K.In s.heap:=I.ok.mod.Ir.keeps I.bk
theorem Inv.lt (I:Inv X pins σ H s):X.env.locals<s.heap.objs.size:=let ⟨_,hn,_⟩:=I.loc;hn.lt
theorem Inv.sz (I:Inv X pins σ H s):X.s₀.heap.objs.size<=s.heap.objs.size:=aap I.ok.above (Nat.le_of_lt I.lt)
theorem Inv.MC (I:Inv X pins σ H s) {a:Addr} (h:s.heap.objs.size<=a):a∉X.fs:=λhb=>by
 obtain⟨_,o,ho,_⟩:=I.ok.kc.mem hb
 exact absurd (aau (Heap.lt_size ho) (aap I.sz h)) (aaG _)
theorem Inv.Fc (I:Inv X pins σ H s):∀x c,X.env.cells.lookup x=some c->c≠X.env.locals:=λx c e z=>by
 obtain⟨v,o,ho,hd⟩:=I.cell x c e
 obtain⟨m,⟨o',es,ep,Fd,Iu,_⟩,_⟩:=I.loc
 rw[z,Fd] at ho;cases ho;rw[Iu] at hd;cases hd
theorem Inv.kc (I:Inv X pins σ H s):s.heap.FunFrames X.base X.outer:=by
 have all:∀(l:List Env),(∀b∈tI l,b∈X.fs)->X.s₀.heap.FunFrames X.base l->s.heap.FunFrames X.base l:=by
  intro l
  induction l with
  | nil=>intro _ _;trivial
  | cons env r ih=>
   intro hs hl
   obtain⟨hk,⟨L,o,hf,hn,ho,hd⟩,hr⟩:=hl
   have hL:L∈X.fs:=hs L (by unfold tI;rw[abt,hf];exact aai)
   obtain⟨sl,e⟩:=I.base.slot L o ho (I.ok.Eg L hL) hL λz=>I.ok.zu L z hL
   exact⟨hk,⟨L,_,hf,hn,e,hd⟩,ih (λb hb=>hs b (by unfold tI;rw[abt,hf];exact aaj _ hb)) hr⟩
 exact all X.outer (λ_ hb=>hb) I.ok.kc
theorem Inv.stack (I:Inv X pins σ H s):s.heap.FunFrames X.base X.stack:=by
 rcases I.ok.zq with e | ⟨e,hf⟩
 ·rw[e];exact I.kc
 ·rw[e]
  obtain⟨m,hn,_⟩:=I.loc
  refine .cons (by rw[I.ok.kind];decide) hf hn ?_ I.kc
  exact Heap.get?_none_of_le (aap I.ok.zt I.ok.above)
theorem Inv.qT (I:Inv X pins σ H s):∀b∈tI X.stack,b∈X.env.locals::X.fs:=λb hb=>by
 rcases I.ok.zq with e | ⟨e,hf⟩
 ·rw[e] at hb;exact aaj _ hb
 ·rw[e] at hb
  unfold tI at hb
  rw[abt,hf] at hb
  exact hb
theorem Inv.wL (I:Inv X pins σ H s):∀b∈tI X.stack,H b=none:=λb hb=>by
 rcases List.mem_cons.mp (I.qT b hb) with e | hb
 ·rw[e];exact I.free
 ·obtain⟨_,o,ho,_⟩:=I.ok.kc.mem hb
  exact I.base.free b o ho (I.ok.Eg b hb) λz=>I.ok.zu b z hb
theorem Inv.step {g':Array GenState} {t':Nat} {d':Drawn} {ch:List Addr} (I:Inv X pins σ H s)
  (Ck:∀b∈ch,(b∈X.ex\/X.s₀.heap.objs.size<=b)/\b≠X.env.locals/\(∀x c,X.env.cells.lookup x=some c->c≠b)/\∀p∈X.pn++pins,p.1≠b)
  (keep:∀b o,b≠X.env.locals->b∉X.fs->b∉ch->s.heap.get? b=some o->H b=none->h'.get? b=some o)
  (slot:∀b o,b≠X.env.locals->b∈X.fs->b∉ch->s.heap.get? b=some o->H b=none->∃sl,h'.get? b=some {o with slots:=sl}) (free:∀b o,b∉ch->s.heap.get? b=some o->H b=none->H' b=none)
  (there:∀b o,b∉ch->s.heap.get? b=some o->∃o',h'.get? b=some o')
  (lQ:∀b xs,H b=some (.tup xs)->H' b=some (.tup xs)) (nH:∀b o u,H b=some (.tq o u)->H' b=some (.tq o u)) (nI:∀b ps,H b=some (.tu ps)->∃more,H' b=some (.tu (ps++more)))
  (ns:∀m,s.heap.Ns X.env.locals m->h'.Ns X.env.locals m) (bT:gX X.prog X.w H' h') (hg:AllBare g'):
  Inv X pins σ H' {s with heap:=h',gens:=g',drawn:=d',toks:=t'}:=by
 have Vw:∀b o,X.s₀.heap.get? b=some o->b≠X.env.locals:=λb o e=>aao (aau (Heap.lt_size e) I.ok.above)
 have LF:∀b o,X.s₀.heap.get? b=some o->b∉X.ex->b∉ch:=λb o e hx hb=>by
  rcases(Ck b hb).1 with z | z
  ·exact hx z
  ·exact absurd (aau (Heap.lt_size e) z) (aaG _)
 have cellK:∀x c,X.env.cells.lookup x=some c->∀v,s.heap.IsCell c v->h'.IsCell c v:=λx c e v ⟨o,ho,hd⟩=>by
  have Eh:c∉ch:=λz=>(Ck c z).2.2.1 x c e rfl
  by_cases hc:c∈X.fs
  ·obtain⟨sl,q⟩:=slot c o (I.Fc x c e) hc Eh ho (I.g7 x c e)
   exact⟨_,q,hd⟩
  ·exact⟨o,keep c o (I.Fc x c e) hc Eh ho (I.g7 x c e),hd⟩
 refine⟨I.ok,I.os,hg,⟨λb o e n hb hx=>?_,λb o e n hb hx=>?_,λb o e n hx=>?_,λb o e hx=>?_,λb xs e=>lQ b xs (I.base.lQ b xs e),λb o xs e=>nH b o xs (I.base.nH b o xs e),λb ps e=>?_⟩,?_,λx c e=>?_,?_,λx c e=>?_,λp hp=>?_,bT,I.len⟩
 ·exact keep b o (Vw b o e) hb (LF b o e hx) (I.base.keep b o e n hb hx) (I.base.free b o e n hx)
 ·obtain⟨sl,e1⟩:=I.base.slot b o e n hb hx
  obtain⟨XG,e2⟩:=slot b _ (Vw b o e) hb (LF b o e hx) e1 (I.base.free b o e n hx)
  exact⟨XG,e2⟩
 ·obtain⟨o',e1⟩:=I.base.there b o e hx
  exact free b o' (LF b o e hx) e1 (I.base.free b o e n hx)
 ·obtain⟨o',e1⟩:=I.base.there b o e hx
  exact there b o' (LF b o e hx) e1
 ·obtain⟨m1,e1⟩:=I.base.nI b ps e
  obtain⟨m2,e2⟩:=nI b _ e1
  exact⟨m1++m2,by rw[e2,Array.append_assoc]⟩
 ·obtain⟨m,hn,hl⟩:=I.loc
  refine⟨m,ns m hn,λi x v e1 e2 e3=>?_⟩
  obtain⟨u,r,l⟩:=hl i x v e1 e2 e3
  refine⟨u,r,?_⟩
  rcases l with l | ⟨k,c,e,z⟩
  ·exact .inl l
  ·exact .inr ⟨k,c,e,cellK x c e _ z⟩
 ·obtain⟨v,z⟩:=I.cell x c e
  exact⟨v,cellK x c e v z⟩
 ·obtain⟨m,⟨o,_,_,ho,_⟩,_⟩:=I.loc
  exact free _ o (λz=>(Ck _ z).2.1 rfl) ho I.free
 ·obtain⟨v,o,ho,hd⟩:=I.cell x c e
  exact free c o (λz=>(Ck c z).2.2.1 x c e rfl) ho (I.g7 x c e)
 ·obtain⟨e,n,ne,nf,d⟩:=I.pin p hp
  have Eh:p.1∉ch:=λz=>(Ck p.1 z).2.2.2 p hp rfl
  exact⟨keep p.1 p.2 ne nf Eh e n,free p.1 p.2 Eh e n,ne,nf,d⟩
theorem Inv.un {t':Nat} (I:Inv X pins σ H s) (u:Un X.fs [] H H' s.heap h') (bT:gX X.prog X.w H' h'):Inv X pins σ H' {s with heap:=h',toks:=t'}:=by
 obtain⟨m,⟨o,es,ep,ho,r⟩,_⟩:=id I.loc
 obtain⟨sl,hL⟩:=u.any ho I.free (by simp)
 exact I.step (g':=s.gens) (d':=s.drawn) (ch:=[]) (λ_ z=>nomatch z) (λb o _ hb _ e n=>u.keep b o e n hb (by simp)) (λb o _ hb _ e n=>u.slot b o e n hb (by simp)) (λb o _ e n=>u.free b o e n (by simp)) (λb o _ e=>u.there b o e (by simp)) u.lQ u.nH u.nI (λm' hm=>by
  obtain⟨o',MD,CA,Fd,r'⟩:=hm
  rw[ho] at Fd;cases Fd
  exact⟨_,MD,CA,hL,r'⟩) bT I.bare
theorem Inv.call {g':Array GenState} {t':Nat} {d':Drawn} {ch:List Addr} (I:Inv X pins σ H s) (u:Un (tI X.stack) ch H H' s.heap h') (bT:gX X.prog X.w H' h') (hg:AllBare g')
  (Ck:∀b∈ch,(b∈X.ex\/X.s₀.heap.objs.size<=b)/\b≠X.env.locals/\(∀x c,X.env.cells.lookup x=some c->c≠b)/\∀p∈X.pn++pins,p.1≠b):
  Inv X pins σ H' {s with heap:=h',gens:=g',drawn:=d',toks:=t'}:=by
 obtain⟨m,⟨o,es,ep,ho,r⟩,_⟩:=id I.loc
 obtain⟨sl,hL⟩:=u.any ho I.free λz=>(Ck _ z).2.1 rfl
 exact I.step (ch:=ch) Ck (λb o hL hb hc e n=>u.keep b o e n (λz=>(List.mem_cons.mp (I.qT b z)).elim hL hb) hc) (λb o _ _ hc e n=>u.any e n hc) (λb o hc e n=>u.free b o e n hc) (λb o hc e=>u.there b o e hc) u.lQ u.nH u.nI (λm' hm=>by
  obtain⟨o',MD,CA,Fd,r'⟩:=hm
  rw[ho] at Fd;cases Fd
  exact⟨_,MD,CA,hL,r'⟩) bT hg
theorem Inv.turned {t':Nat} {it:Addr} (I:Inv X pins σ H s) (k:∀b o,b≠it->s.heap.get? b=some o->h'.get? b=some o) (hn:H it=none) (hL:it≠X.env.locals)
  (h1:it∈X.ex\/X.s₀.heap.objs.size<=it) (h2:∀x c,X.env.cells.lookup x=some c->c≠it) (h3:∀p∈X.pn++pins,p.1≠it):Inv X pins σ H {s with heap:=h',toks:=t'}:=by
 have Vx:∀b u,H b=some u->b≠it:=λb u e z=>by rw[z,hn] at e;cases e
 refine I.step (g':=s.gens) (d':=s.drawn) (ch:=[it]) (λb hb=>?_) (λb o _ _ hc e _=>k b o (λz=>hc (by simp [z])) e) (λb o _ _ hc e _=>⟨o.slots,k b o (λz=>hc (by simp [z])) e⟩) (λ_ _ _ _ n=>n)
  (λb o hc e=>⟨o,k b o (λz=>hc (by simp [z])) e⟩) (λ_ _ e=>e) (λ_ _ _ e=>e) (λb ps e=>⟨#[],by rw[e];simp⟩) (λm hm=>?_) (λb u e=>?_) I.bare
 ·have e:b=it:=by simpa using hb
  subst e
  exact⟨h1,hL,h2,h3⟩
 ·obtain⟨o,es,ep,ho,r⟩:=hm
  exact⟨o,es,ep,k _ o (Ne.symm hL) ho,r⟩
 ·refine(I.bT b u e).pI (λc v hc q=>k c v ?_ q) (λ_ q=>q) λ_ _ q=>q
  rcases hc with z | z
  ·rw[z];exact Vx b u e
  ·exact Vx c _ z
theorem Inv.tok (I:Inv X pins σ H s) (t:Nat):Inv X pins σ H {s with toks:=t}:=I.un (h':=s.heap) (t':=t) Un.refl I.bT
theorem Inv.kept {t':Nat} (I:Inv X pins σ H s) (k:∀b u,s.heap.get? b=some u->h'.get? b=some u):Inv X pins σ H {s with heap:=h',toks:=t'}:=I.un (Un.kept k) (I.bT.kept k)
theorem Inv.laid {a:Addr} {o:HO} {t':Nat} (I:Inv X pins σ H s) (k:∀b u,s.heap.get? b=some u->h'.get? b=some u) (hp:s.heap.objs.size<=a) (new:cw X.prog X.w (upd H a o) h' a o):
  Inv X pins σ (upd H a o) {s with heap:=h',toks:=t'}:=I.un (Un.laid k hp (I.bT.fresh hp)) (I.bT.laid k hp new)
theorem Inv.write {x e:Addr} {o:HO} {t':Nat} (I:Inv X pins σ H s) (mu:Ip (H x)) (he:e=x\/H e=some (.own x)) (k:∀b u,b≠e->s.heap.get? b=some u->h'.get? b=some u) (HI:∃u,h'.get? e=some u)
  (new:cw X.prog X.w (upd H x o) h' x o):Inv X pins σ (upd H x o) {s with heap:=h',toks:=t'}:=I.un (Un.write mu he k HI) (I.bT.write mu he k HI new)
theorem Inv.jA {Ei:List (Addr×Obj)} (I:Inv X pins σ H s) (h:∀p∈Ei,s.heap.get? p.1=some p.2/\H p.1=none/\p.1≠X.env.locals/\p.1∉X.fs/\∀v,p.2.data≠.cell v):Inv X Ei σ H s:=
 ⟨I.ok,I.os,I.bare,I.base,I.loc,I.cell,I.free,I.g7,λp hp=>(List.mem_append.mp hp).elim (λz=>I.pin p (abu _ z)) (h p),I.bT,I.len⟩
theorem tJ {N:List Str} (hN:N.Nodup) {i j:Nat} {x:Str} (a:N[i]?=some x) (b:N[j]?=some x):i=j:=by
 obtain⟨h1,e1⟩:=List.getElem?_eq_some_iff.mp a
 obtain⟨h2,e2⟩:=List.getElem?_eq_some_iff.mp b
 exact(abh hN).mp (e1.trans e2.symm)
theorem qa {M:Model} {A:Around} {E:Value->Shared->Prop} {i:Nat} {x:Str} {v:V} {u:Value} {Q:Unit->Shared->Prop} (I:Inv X pins σ H s) (hN:X.N.Nodup) (hi:X.N[i]?=some x) (hx:Loc X.env.scope x) (r:RelV v u)
  (h:∀s',Inv X pins (σ.set i (some v)) H s'->(∃a,Heap.SameBut a s.heap s'.heap/\(a=X.env.locals\/X.env.cells.lookup x=some a))->Q () s') (hf:X.fn x=true\/X.env.scope.names.lookup x=some .local:=by first | exact .inl rfl | exact .inr rfl | assumption):wpAny M A (storeName X.env x u) Q E s:=by
 obtain⟨m,hn,hl⟩:=id I.loc
 have ME:(X.env.scope.kind==.class || (X.env.scope.kind==.module && X.env.locals !=X.env.globals))=false:=by rw[I.ok.kind];rfl
 have Vy:i<σ.length:=by rw[I.len];exact(List.getElem?_eq_some_iff.mp hi).1
 have Fc:=I.Fc
 have tracked:∀{a:Addr} {h':Heap},(∃o,s.heap.get? a=some o/\H a=none)->Heap.SameBut a s.heap h'->gX X.prog X.w H h':=λ{a h'} ha hs b ob e=>by
  obtain⟨_,_,Ej⟩:=ha
  refine(I.bT b ob e).pI (λc w' hc q=>(hs.2 c ?_).trans q) (λ_ q=>q) λ_ _ q=>q
  rintro rfl
  rcases hc with rfl | hc
  ·rw[Ej] at e;cases e
  ·rw[Ej] at hc;cases hc
 rcases hx with hk | hk
 ·refine wpAny_storeName_local hk hn (λh' XH hs=>?_) ME
  obtain⟨oL,_,_,Ek,_⟩:=id hn
  refine h _ ⟨I.ok,I.os,I.bare,⟨λb o e n hb hx=>?_,λb o e n hb hx=>?_,I.base.free,λb o e hx=>?_,I.base.lQ,I.base.nH,I.base.nI⟩,⟨_,XH,λj y v' e1 e2 e3=>?_⟩,λy c e=>?_,I.free,I.g7,λp hp=>?_,tracked ⟨oL,Ek,I.free⟩ hs,by simpa using I.len⟩ ⟨_,hs,.inl rfl⟩
  ·exact(hs.2 b (aao (aau (Heap.lt_size e) I.ok.above))).trans (I.base.keep b o e n hb hx)
  ·obtain⟨sl,e1⟩:=I.base.slot b o e n hb hx
   exact⟨sl,(hs.2 b (aao (aau (Heap.lt_size e) I.ok.above))).trans e1⟩
  ·obtain⟨o',e1⟩:=I.base.there b o e hx
   exact⟨o',(hs.2 b (aao (aau (Heap.lt_size e) I.ok.above))).trans e1⟩
  ·by_cases hj:j=i
   ·subst hj
    rw[hi] at e1;cases e1
    rw[aaU Vy] at e2
    cases e2
    exact⟨u,r,.inl ⟨hk,by simp⟩⟩
   ·rw[aaL (Ne.symm hj)] at e2
    obtain⟨u',r',q⟩:=hl j y v' e1 e2 e3
    refine⟨u',r',?_⟩
    rcases q with ⟨k,e⟩ | ⟨k,c,e,z⟩
    ·refine .inl ⟨k,?_⟩
     have:y≠x:=λe=>hj (tJ hN e1 (e▸hi))
     simp [this,e]
    ·exact .inr ⟨k,c,e,z.sameBut hs (Fc y c e)⟩
  ·obtain⟨w',z⟩:=I.cell y c e
   exact⟨w',z.sameBut hs (Fc y c e)⟩
  ·obtain⟨e,n,ne,nf,d⟩:=I.pin p hp
   exact⟨(hs.2 p.1 ne).trans e,n,ne,nf,d⟩
 ·have MF:X.fn x=true:=by
   rcases hf with z | z
   ·exact z
   ·rw[z] at hk;cases hk
  obtain⟨c,hc⟩:=I.ok.has x (.inl hk)
  obtain⟨w',z⟩:=I.cell x c hc
  refine wpAny_storeName_cell I.ok.kind hk hc z (λh' Vz hs=>?_)
  obtain⟨oc,VA,MG⟩:=id z
  refine h {s with heap:=h'} ⟨I.ok,I.os,I.bare,⟨λb o e n hb hx=>?_,λb o e n hb hx=>?_,I.base.free,λb o e hx=>?_,I.base.lQ,I.base.nH,I.base.nI⟩,⟨m,hn.sameBut hs (Ne.symm (Fc x c hc)),λj y v' e1 e2 e3=>?_⟩,λy c' e=>?_,I.free,I.g7,λp hp=>?_,tracked ⟨oc,VA,I.g7 x c hc⟩ hs,by simpa using I.len⟩ ⟨c,hs,.inr hc⟩
  ·exact(hs.2 b (aao (aau (Heap.lt_size e) (I.ok.HJ x c MF hc)))).trans (I.base.keep b o e n hb hx)
  ·obtain⟨sl,e1⟩:=I.base.slot b o e n hb hx
   exact⟨sl,(hs.2 b (aao (aau (Heap.lt_size e) (I.ok.HJ x c MF hc)))).trans e1⟩
  ·obtain⟨o',e1⟩:=I.base.there b o e hx
   exact⟨o',(hs.2 b (aao (aau (Heap.lt_size e) (I.ok.HJ x c MF hc)))).trans e1⟩
  ·by_cases hj:j=i
   ·subst hj
    rw[hi] at e1;cases e1
    rw[aaU Vy] at e2
    cases e2
    exact⟨u,r,.inr ⟨.inl hk,c,hc,Vz⟩⟩
   ·rw[aaL (Ne.symm hj)] at e2
    obtain⟨u',r',q⟩:=hl j y v' e1 e2 e3
    refine⟨u',r',?_⟩
    rcases q with q | ⟨k,c',e,z'⟩
    ·exact .inl q
    ·refine .inr ⟨k,c',e,z'.sameBut hs ?_⟩
     rintro rfl
     exact hj (tJ hN e1 (I.ok.inj _ _ _ e hc▸hi))
  ·by_cases LG:c'=c
   ·subst LG;exact⟨_,Vz⟩
   ·obtain⟨w2,z2⟩:=I.cell y c' e
    exact⟨w2,z2.sameBut hs LG⟩
  ·obtain⟨e,n,ne,nf,d⟩:=I.pin p hp
   refine⟨(hs.2 p.1 ?_).trans e,n,ne,nf,d⟩
   intro q
   rw[q,VA] at e
   have q':oc=p.2:=aaC e
   exact d w' (by rw[<-q'];exact MG)
theorem jB {M:Model} {A:Around} {E:Value->Shared->Prop} {i:Nat} {x:Str} {v:V} {u:Value} {Q:Unit->Shared->Prop} (I:Inv X pins σ H s) (hN:X.N.Nodup) (hi:X.N[i]?=some x) (hx:Loc X.env.scope x) (r:RelV v u)
  (h:∀s',Inv X pins (σ.set i (some v)) H s'->Q () s') (hf:X.fn x=true\/X.env.scope.names.lookup x=some .local:=by first | exact .inl rfl | exact .inr rfl | assumption):wpAny M A (storeName X.env x u) Q E s:=
 qa I hN hi hx r (λs' I' _=>h s' I') hf
theorem Inv.Iv {s':Shared} {ch:List Addr} (I:Inv X pins σ H s) (ho:s'.os=s.os) (u:Un (tI X.stack) ch H H' s.heap s'.heap) (bT:gX X.prog X.w H' s'.heap) (hg:AllBare s'.gens)
  (Ck:∀b∈ch,(b∈X.ex\/X.s₀.heap.objs.size<=b)/\b≠X.env.locals/\(∀x c,X.env.cells.lookup x=some c->c≠b)/\∀p∈X.pn++pins,p.1≠b):Inv X pins σ H' s':=by
 obtain⟨h',g',d',t',o'⟩:=s'
 have e:o'=s.os:=ho
 subst e
 exact I.call (g':=g') (t':=t') (d':=d') u bT hg Ck
end
abbrev XK:=Value->Option Addr->Hp->Prop
abbrev St:=List (Option V)
abbrev VK:=V->Hp->Prop
abbrev TE:=St->Hp->VK->Prop
abbrev TT:=St->Hp->(Bool->Hp->Prop)->Prop
abbrev TA:=St->Hp->(List V->Hp->Prop)->Prop
structure Ends where
 nx:St->Hp->Prop
 rt:VK
 bk:St->Hp->Prop:=λ_ _=>False
 ct:St->Hp->Prop:=λ_ _=>False
abbrev TS:=Ends->St->Hp->Prop
noncomputable def EP (X:Cx) (pins:List (Addr×Obj)) (σ:St) (Q:VK) (u:Value) (s':Shared):Prop:=∃v H',Inv X pins σ H' s'/\RelV v u/\Q v H'
noncomputable def TP (X:Cx) (pins:List (Addr×Obj)) (σ:St) (Q:Bool->Hp->Prop) (b:Bool) (s':Shared):Prop:=∃H',Inv X pins σ H' s'/\Q b H'
noncomputable def AP (X:Cx) (pins:List (Addr×Obj)) (σ:St) (Q:List V->Hp->Prop) (us:List Value) (s':Shared):Prop:=∃vs H',Inv X pins σ H' s'/\bz vs us/\Q vs H'
noncomputable def SP (X:Cx) (pins:List (Addr×Obj)) (D:Ends) (f:Flow) (s':Shared):Prop:=
 match f with
 | .next=>∃σ' H',Inv X pins σ' H' s'/\D.nx σ' H'
 | .brk=>∃σ' H',Inv X pins σ' H' s'/\D.bk σ' H'
 | .cont=>∃σ' H',Inv X pins σ' H' s'/\D.ct σ' H'
 | .ret u=>∃v σ' H',Inv X pins σ' H' s'/\RelV v u/\D.rt v H'
noncomputable def PE (X:Cx) (e:Expr) (t:TE):Prop:=
 ∀(pins:List (Addr×Obj)) (s:Shared) (σ:St) (H:Hp) (Q:VK),Inv X pins σ H s->t σ H Q->wpAny (model X.prog X.w) X.A (eval e X.env) (EP X pins σ Q) X.xe s
noncomputable def PT (X:Cx) (e:Expr) (t:TT):Prop:=
 ∀(pins:List (Addr×Obj)) (s:Shared) (σ:St) (H:Hp) (Q:Bool->Hp->Prop),Inv X pins σ H s->t σ H Q->wpAny (model X.prog X.w) X.A (isTrue e X.env (eval e X.env)) (TP X pins σ Q) X.xe s
noncomputable def PW (X:Cx) (e:Expr) (t:TT):Prop:=
 ∀(whole:Sem Value) (pins:List (Addr×Obj)) (s:Shared) (σ:St) (H:Hp) (Q:Bool->Hp->Prop),Inv X pins σ H s->t σ H Q->wpAny (model X.prog X.w) X.A (isTrue e X.env whole) (TP X pins σ Q) X.xe s
theorem PW.pt {X:Cx} {e:Expr} {t:TT} (h:PW X e t):PT X e t:=h _
noncomputable def PA (X:Cx) (es:List Expr) (t:TA):Prop:=
 ∀(pos:Pos) (pins:List (Addr×Obj)) (s:Shared) (σ:St) (H:Hp) (Q:List V->Hp->Prop),Inv X pins σ H s->t σ H Q->wpAny (model X.prog X.w) X.A (spliced (backTo pos (starEach es X.env))) (AP X pins σ Q) X.xe s
noncomputable def PS (X:Cx) (st:Stmt) (t:TS):Prop:=
 ∀(pins:List (Addr×Obj)) (s:Shared) (σ:St) (H:Hp) (D:Ends),Inv X pins σ H s->t D σ H->wpAny (model X.prog X.w) X.A (exec st X.env) (SP X pins D) X.xe s
noncomputable def vf (X:Cx) (st:List Stmt) (t:TS):Prop:=
 ∀(pins:List (Addr×Obj)) (s:Shared) (σ:St) (H:Hp) (D:Ends),Inv X pins σ H s->t D σ H->wpAny (model X.prog X.w) X.A (execs st X.env) (SP X pins D) X.xe s
theorem cB {α:Type} {t:Sem α} {Q Q':α->Shared->Prop} {M:Model} {A:Around} {E:Value->Shared->Prop} {s:Shared} (h:wpAny M A t Q E s) (hQ:∀a s,Q a s->Q' a s):wpAny M A t Q' E s:=wpAny_mono h hQ λ_ _ x=>x
end L2
namespace L2
open PySem PySem.Spec PyProof.Rows
section
variable {X : Cx}
noncomputable def tVar (i:Nat):TE:=λσ H Q=>∃v,σ[i]?=some (some v)/\Q v H
noncomputable def tC (v:V):TE:=λ_ H Q=>Q v H
theorem Fe {i:Nat} {x:Str} {pos:Pos} (hN:X.N[i]?=some x) (hv:Mz X.env.scope x) (hd:(x==("__debug__":Str))=false:=by decide) (tK:(x==("__classdict__":Str))=false:=by decide):PE X (.Name x pos) (tVar i):=by
 intro pins s σ H Q I h
 obtain⟨v,e,h⟩:=h
 obtain⟨m,hn,hl⟩:=I.loc
 obtain⟨u,r,l⟩:=hl i x v hN e hv
 have fin:EP X pins σ Q u s:=⟨v,H,I,r,h⟩
 rcases l with ⟨hk,hm⟩ | ⟨hk,c,hc,qb⟩
 ·exact wpAny_Name (wpAny_loadName_local I.ok.kind hk hn hm fin) hd
 ·rcases hk with hk | hk
  ·exact wpAny_Name (wpAny_loadName_cell I.ok.kind hk hc qb fin) hd
  ·exact wpAny_Name (wpAny_loadName_free I.ok.kind hk hc qb fin tK) hd
theorem ao {i j pos}:PE X (.Constant (.int i) j pos) (tC (.int i)):=λ_ _ _ H _ I h=>wpAny_Constant_int ⟨.int i,H,I.tok _,⟨_,rfl⟩,h⟩
theorem gL {b j pos}:PE X (.Constant (.bool b) j pos) (tC (.bl b)):=λ_ _ _ H _ I h=>Constant_bool ⟨.bl b,H,I,rfl,h⟩
theorem eL {j pos}:PE X (.Constant .none j pos) (tC .b9):=λ_ _ _ H _ I h=>Constant_none ⟨.b9,H,I,rfl,h⟩
theorem cK {x j pos}:PE X (.Constant (.str x) j pos) (tC (.str x)):=λ_ _ _ H _ I h=>Calls.Constant_str ⟨.str x,H,I.tok _,⟨_,rfl⟩,h⟩
noncomputable def Gl (X:Cx) (x:Str):Prop:=X.env.kindOf x=some .globalImplicit
theorem qU {E:Value->Shared->Prop} {pins:List (Addr×Obj)} {s:Shared} {σ:St} {H:Hp} {x:Str} {u:Value} {pos:Pos} {Q:Value->Shared->Prop} (I:Inv X pins σ H s) (hg:Gl X x) (hm:X.mg x=some u) (h:Q u s)
  (hd:(x==("__debug__":Str))=false:=by decide):wpAny (model X.prog X.w) X.A (eval (.Name x pos) X.env) Q E s:=
 Calls.Name_function_global I.ok.kind hg (Calls.loadGlobal_global (by rw[I.ok.glob];exact I.mod.glob.keeps I.bk) hm h) hd
theorem g8 {E:Value->Shared->Prop} {pins:List (Addr×Obj)} {s:Shared} {σ:St} {H:Hp} {x:Str} {u:Value} {pos:Pos} {Q:Value->Shared->Prop} (I:Inv X pins σ H s) (hg:Gl X x) (hm:X.mg x=none) (hv:bootBuiltins x=some u) (h:Q u s)
  (hn:x≠"__name__":=by decide) (hd:(x==("__debug__":Str))=false:=by decide):wpAny (model X.prog X.w) X.A (eval (.Name x pos) X.env) Q E s:=by
 obtain⟨mb,h1,h2⟩:=I.mod.blt
 exact Calls.Name_function_global I.ok.kind hg (Calls.loadGlobal_builtin (by rw[I.ok.glob];exact I.mod.glob.keeps I.bk) hm (by rw[I.ok.blt];exact h1.keeps I.bk) ((h2 x hn).trans hv) h) hd
theorem CB {x:Str} {v:V} {u:Value} {pos:Pos} (hg:Gl X x) (hm:X.mg x=some u) (r:RelV v u) (hd:(x==("__debug__":Str))=false:=by decide):PE X (.Name x pos) (tC v):=
 λ_ _ _ H _ I h=>qU I hg hm ⟨v,H,I,r,h⟩ hd
theorem fh {x:Str} {v:V} {u:Value} {pos:Pos} (hg:Gl X x) (hm:X.mg x=none) (hv:bootBuiltins x=some u) (r:RelV v u) (hn:x≠"__name__":=by decide) (hd:(x==("__debug__":Str))=false:=by decide):PE X (.Name x pos) (tC v):=
 λ_ _ _ H _ I h=>g8 I hg hm hv ⟨v,H,I,r,h⟩ hn hd
noncomputable def XI (ta tb:TE) (k:Int->Int->Hp->Prop):St->Hp->Prop:=λσ H=>ta σ H λx H1=>tb σ H1 λy H2=>∃i j,x=.int i/\y=.int j/\k i j H2
variable {a b : Expr} {ta tb : TE} {pos : Pos}
noncomputable def PC (X:Cx) (op:CmpOp) (a b:Expr) (t:TE):Prop:=
 ∀(pins:List (Addr×Obj)) (s:Shared) (σ:St) (H:Hp) (Q:VK),Inv X pins σ H s->t σ H Q->
  wpAny (model X.prog X.w) X.A (eval a X.env) (λv s₁=>wpAny (model X.prog X.w) X.A (eval b X.env) (λu s₂=>wpAny (model X.prog X.w) X.A (compareOp op v u) (EP X pins σ Q) X.xe s₂) X.xe s₁) X.xe s
theorem zv (b:Expr) {op:CmpOp} (h:op≠.In) (h2:op≠.NotIn):behindInMarks op b=false:=by
 have e1:(op==CmpOp.In)=false:=by cases op <;>first | rfl | exact absurd rfl h
 have e2:(op==CmpOp.NotIn)=false:=by cases op <;>first | rfl | exact absurd rfl h2
 cases b <;>simp [behindInMarks,e1,e2]
noncomputable def yo (p:Int->Int->Bool) (ta tb:TE):TE:=λσ H Q=>XI ta tb (λi j H2=>Q (.bl (p i j)) H2) σ H
abbrev tLt:TE->TE->TE:=yo λi j=>decide (i<j)
abbrev tLe:TE->TE->TE:=yo λi j=>decide (i<=j)
abbrev tGt:TE->TE->TE:=yo λi j=>decide (j<i)
abbrev tGe:TE->TE->TE:=yo λi j=>decide (j<=i)
abbrev XJ:TE->TE->TE:=yo λi j=>decide (i=j)
abbrev XM:TE->TE->TE:=yo λi j=>!decide (i=j)
noncomputable def tB (t:TE):TT:=λσ H Q=>t σ H λx H1=>∃c,x=.bl c/\Q c H1
theorem vg {op:CmpOp} {t:TE} (h:PC X op a b t) (h1:behindInMarks op b=false:=by first | exact zv _ (by decide) (by decide) | rfl):PT X (.Compare a [op] [b] pos) (tB t):=by
 intro pins s σ H Q I hw
 refine wpAny_isTrue_Compare1 (cB (h pins s σ H _ I hw) λv s1 h1=>cB h1 λu s2 h2=>cB h2 λc s3 cU=>?_) h1
 obtain⟨x,H1,I1,r1,q1⟩:=cU
 obtain⟨d,rfl,q⟩:=q1
 cases r1
 exact wpAny_truthy_bool ⟨H1,I1,q⟩
theorem di {e:Expr} {t:TE} (h:PE X e t) (he:∀whole,isTrue e X.env whole=(do let v <-whole;standAt e.pos;holding [v] (truthy v)):=by intro _;rfl):PT X e (tB t):=by
 intro pins s σ H Q I hw
 refine isTrue_plain (cB (h pins s σ H _ I hw) λv s1 cU=>?_) (he _)
 obtain⟨x,H1,I1,r1,q1⟩:=cU
 obtain⟨d,rfl,q⟩:=q1
 cases r1
 exact wpAny_truthy_bool ⟨H1,I1,q⟩
variable {tA LH : TT} {rest : List Expr}
noncomputable def tAnd (t u:TT):TT:=λσ H Q=>t σ H λc H1=>if c=true then u σ H1 Q else Q false H1
noncomputable def tOr (t u:TT):TT:=λσ H Q=>t σ H λc H1=>if c=true then Q true H1 else u σ H1 Q
noncomputable def tNot (t:TT):TT:=λσ H Q=>t σ H λc H1=>Q (!c) H1
theorem pw_and1 (ha:PT X a tA):PW X (.BoolOp .And [a] pos) tA:=by
 intro wh pins s σ H Q I h
 refine isTrue_and (cB (ha pins s σ H Q I h) λc s1 e=>?_)
 cases c with
 | true=>exact isTrue_and_nil e
 | false=>exact e
theorem pw_or1 (ha:PT X a tA):PW X (.BoolOp .Or [a] pos) tA:=by
 intro wh pins s σ H Q I h
 refine isTrue_or (cB (ha pins s σ H Q I h) λc s1 e=>?_)
 cases c with
 | false=>exact isTrue_or_nil e
 | true=>exact e
theorem pw_and (ha:PT X a tA) (hb:PW X (.BoolOp .And (b::rest) pos) LH):PW X (.BoolOp .And (a::b::rest) pos) (tAnd tA LH):=by
 intro wh pins s σ H Q I h
 refine isTrue_and (cB (ha pins s σ H _ I h) λc s1 ⟨H1,I1,q1⟩=>?_)
 cases c with
 | true=>exact hb wh pins s1 σ H1 Q I1 q1
 | false=>exact⟨H1,I1,q1⟩
theorem pw_or (ha:PT X a tA) (hb:PW X (.BoolOp .Or (b::rest) pos) LH):PW X (.BoolOp .Or (a::b::rest) pos) (tOr tA LH):=by
 intro wh pins s σ H Q I h
 refine isTrue_or (cB (ha pins s σ H _ I h) λc s1 ⟨H1,I1,q1⟩=>?_)
 cases c with
 | true=>exact⟨H1,I1,q1⟩
 | false=>exact hb wh pins s1 σ H1 Q I1 q1
theorem gh (ha:PT X a tA):PT X (.UnaryOp .Not a pos) (tNot tA):=by
 intro pins s σ H Q I h
 exact isTrue_not (ha pins s σ H (λc H1=>Q (!c) H1) I h)
noncomputable def tAndV (ta tb:TE):TE:=λσ H Q=>ta σ H λx H1=>∃c,x=.bl c/\if c=true then tb σ H1 Q else Q (.bl false) H1
noncomputable def tOrV (ta tb:TE):TE:=λσ H Q=>ta σ H λx H1=>∃c,x=.bl c/\if c=true then Q (.bl true) H1 else tb σ H1 Q
noncomputable def tNotV (ta:TE):TE:=λσ H Q=>ta σ H λx H1=>∃c,x=.bl c/\Q (.bl (!c)) H1
theorem zw {op} {t:TE} (h:PE X a t):PE X (.BoolOp op [a] pos) t:=λpins s σ H Q I hw=>BoolOp_one (h pins s σ H Q I hw)
theorem zy (ha:PE X a ta) (hb:PE X (.BoolOp .And (b::rest) pos) tb):PE X (.BoolOp .And (a::b::rest) pos) (tAndV ta tb):=by
 intro pins s σ H Q I h
 refine BoolOp_and (cB (ha pins s σ H _ I h) λv s1 cU=>?_)
 obtain⟨x,H1,I1,r1,q1⟩:=cU
 obtain⟨c,rfl,q1⟩:=q1
 cases r1
 refine wpAny_truthy_bool ?_
 cases c with
 | true=>exact hb pins s1 σ H1 Q I1 q1
 | false=>exact⟨.bl false,H1,I1,rfl,q1⟩
noncomputable def tIf (t:TT) (ta tb:TE):TE:=λσ H Q=>t σ H λc H1=>if c=true then ta σ H1 Q else tb σ H1 Q
theorem hG {c:Expr} (hc:PT X c tA) (ha:PE X a ta) (hb:PE X b tb):PE X (.IfExp c a b pos) (tIf tA ta tb):=by
 intro pins s σ H Q I h
 refine wpAny_IfExp (cB (hc pins s σ H _ I h) λd s1 ⟨H1,I1,q1⟩=>?_)
 cases d with
 | true=>exact ha pins s1 σ H1 Q I1 q1
 | false=>exact hb pins s1 σ H1 Q I1 q1
end
end L2
namespace L2
open PySem PySem.Spec PyProof.Rows
noncomputable def bo (K:PySem.W.Frag) (H:Hp) (a:Addr) (xs:List V):Prop:=
 Rd H a (.lst xs)\/
  ∃(o:Obj) (aV:Array Value) (n:Nat),K.lookup a=some o/\o.cls=.type "list"/\o.dict=none/\o.data=.seq aV n/\aV.size<=sizeLine/\bz xs aV.toList
noncomputable def dZ (K:PySem.W.Frag) (H:Hp) (a:Addr) (xs:List V):Prop:=
 Rd H a (.tup xs)\/
  ∃(o:Obj) (aV:Array Value) (n:Nat),K.lookup a=some o/\o.cls=.type "tuple"/\o.data=.seq aV n/\aV.size<=sizeLine/\bz xs aV.toList
noncomputable def MH:Value->Option V
 | .none=>some .b9
 | .bool b=>some (.bl b)
 | .int i _=>some (.int i)
 | .str x _=>some (.str x)
 | .bytes b _=>some (.zf b)
 | .float b _=>some (.E8 b)
 | .ref a=>some (.ref a)
 | .type n=>some (.ty n)
 | _=>none
theorem RelV.abs {x:V} {u:Value} (r:RelV x u):MH u=some x:=by
 cases x with
 | b9=>cases r;rfl
 | bl _=>cases r;rfl
 | int _=>obtain⟨t,rfl⟩:=r;rfl
 | str _=>obtain⟨t,rfl⟩:=r;rfl
 | zf _=>obtain⟨t,rfl⟩:=r;rfl
 | E8 _=>obtain⟨t,rfl⟩:=r;rfl
 | ref _=>cases r;rfl
 | ty _=>cases r;rfl
theorem RelV.inj {x y:V} {u:Value} (r:RelV x u) (q:RelV y u):x=y:=aaC (r.abs.symm.trans q.abs)
theorem bz.inj:∀{xs ys:List V} {us:List Value},bz xs us->bz ys us->xs=ys
 | _,_,_,.nil,.nil=>rfl
 | _,_,_,.cons r t,.cons r' t'=>by rw[r.inj r',bz.inj t t']
section
variable {X : Cx} {pins : List (Addr × Obj)} {σ : St} {H : Hp} {s : Shared} {a : Addr} {xs ys : List V}
theorem bo.of {K:PySem.W.Frag} (h:H a=some (.lst xs)):bo K H a xs:=.inl (.inl h)
theorem dZ.of {K:PySem.W.Frag} (h:H a=some (.tup xs)):dZ K H a xs:=.inl (.inl h)
theorem Inv.list (I:Inv X pins σ H s) (h:bo X.K H a xs):∃aV:List Value,bz xs aV/\PlainL s.heap a aV.toArray/\xs.length<=sizeLine:=by
 rcases h with h | ⟨o,aV,n,hk,hc,hd,hs,hz,r⟩
 ·obtain⟨z,aV,n,r,e⟩:=h.ok I.bT
  exact⟨aV,r,⟨_,n,e,rfl,rfl,rfl⟩,z⟩
 ·refine⟨aV.toList,r,⟨o,n,I.lU a o hk,hc,hd,by simpa using hs⟩,?_⟩
  have e:=r.length
  simp only[abv] at e
  omega
theorem Inv.tuple (I:Inv X pins σ H s) (h:dZ X.K H a xs):∃aV:List Value,bz xs aV/\IsTup s.heap a aV.toArray/\xs.length<=sizeLine:=by
 rcases h with h | ⟨o,aV,n,hk,hc,hs,hz,r⟩
 ·obtain⟨z,aV,r,p⟩:=h.ok I.bT
  exact⟨aV,r,p,z⟩
 ·refine⟨aV.toList,r,⟨o,I.lU a o hk,hc,n,by simpa using hs⟩,?_⟩
  have e:=r.length
  simp only[abv] at e
  omega
theorem Inv.jC (I:Inv X pins σ H s) (h:bo X.K H a xs) (h':bo X.K H a ys):xs=ys:=by
 obtain⟨aV,r,⟨o,n,e,_,_,d⟩,_⟩:=I.list h
 obtain⟨its',r',⟨o',n',e',_,_,d'⟩,_⟩:=I.list h'
 rw[e] at e';cases e'
 rw[d] at d'
 injection d' with d1 _
 have:aV=its':=by simpa using congrArg Array.toList d1
 subst this
 exact r.inj r'
theorem Inv.yp (I:Inv X pins σ H s) (h:dZ X.K H a xs) (h':dZ X.K H a ys):xs=ys:=by
 obtain⟨aV,r,⟨o,e,_,n,d⟩,_⟩:=I.tuple h
 obtain⟨its',r',⟨o',e',_,n',d'⟩,_⟩:=I.tuple h'
 rw[e] at e';cases e'
 rw[d] at d'
 injection d' with d1 _
 have:aV=its':=by simpa using congrArg Array.toList d1
 subst this
 exact r.inj r'
end
abbrev Cx.kf (X:Cx) (E:Value->Shared->Prop):Cx:={X with xe:=E}
abbrev Cx.HK (X:Cx):Cx:=X.kf λ_ _=>False
theorem Cx.Ok.kf {X:Cx} (ok:X.Ok) (E:Value->Shared->Prop):(X.kf E).Ok:=
 ⟨ok.mod,ok.kind,ok.glob,ok.blt,ok.above,ok.inj,ok.has,ok.HJ,ok.hd,ok.frames,ok.zq,ok.MA,ok.bs,ok.zt,ok.yn,ok.zu,ok.kc,ok.Eg⟩
theorem Cx.Ok.gm {X:Cx} {E:Value->Shared->Prop} (ok:(X.kf E).Ok):X.Ok:=
 ⟨ok.mod,ok.kind,ok.glob,ok.blt,ok.above,ok.inj,ok.has,ok.HJ,ok.hd,ok.frames,ok.zq,ok.MA,ok.bs,ok.zt,ok.yn,ok.zu,ok.kc,ok.Eg⟩
section
variable {X : Cx} {pins : List (Addr × Obj)} {σ : St} {H : Hp} {s : Shared} {E : Value -> Shared -> Prop}
theorem Inv.kf (I:Inv X pins σ H s) (E:Value->Shared->Prop):Inv (X.kf E) pins σ H s:=⟨I.ok.kf E,I.os,I.bare,I.base,I.loc,I.cell,I.free,I.g7,I.pin,I.bT,I.len⟩
theorem Inv.gm (I:Inv (X.kf E) pins σ H s):Inv X pins σ H s:=⟨I.ok.gm,I.os,I.bare,I.base,I.loc,I.cell,I.free,I.g7,I.pin,I.bT,I.len⟩
theorem SP.gm {D:Ends} {f:Flow} {s':Shared} (h:SP (X.kf E) pins D f s'):SP X pins D f s':=by
 cases f with
 | next=>obtain⟨σ',H',I,q⟩:=h;exact⟨σ',H',I.gm,q⟩
 | brk=>obtain⟨σ',H',I,q⟩:=h;exact⟨σ',H',I.gm,q⟩
 | cont=>obtain⟨σ',H',I,q⟩:=h;exact⟨σ',H',I.gm,q⟩
 | ret u=>obtain⟨v,σ',H',I,r,q⟩:=h;exact⟨v,σ',H',I.gm,r,q⟩
theorem vf.HK {st:List Stmt} {t:TS} (h:vf X.HK st t):vf X st t:=λpins s σ H D I hw=>
 wpAny_mono (h pins s σ H D (I.kf _) hw) (λ_ _ q=>q.gm) λ_ _ z=>False.elim z
end
section
variable {X : Cx} {st : Stmt} {rest : List Stmt} {t u : TS} {e : Expr} {te : TE} {pos : Pos}
noncomputable def tNext:TS:=λD σ H=>D.nx σ H
noncomputable def tSeq (t u:TS):TS:=λD σ H=>t {D with nx:=u D} σ H
theorem ba:vf X [] tNext:=λ_ _ σ H _ I h=>wpAny_execs_nil ⟨σ,H,I,h⟩
theorem ae (h1:PS X st t) (h2:vf X rest u):vf X (st::rest) (tSeq t u):=by
 intro pins s σ H D I h
 refine wpAny_execs_cons (cB (h1 pins s σ H {D with nx:=u D} I h) λf s1 q=>?_)
 cases f with
 | next=>
  obtain⟨σ',H',I',q⟩:=q
  exact h2 pins s1 σ' H' D I' q
 | ret v=>exact q
 | brk=>exact q
 | cont=>exact q
theorem au (h1:PS X st t):vf X [st] t:=by
 intro pins s σ H D I h
 refine wpAny_execs_cons (cB (h1 pins s σ H D I h) λf s1 q=>?_)
 cases f with
 | next=>exact wpAny_execs_nil q
 | ret v=>exact q
 | brk=>exact q
 | cont=>exact q
theorem Inv.quiet {pins:List (Addr×Obj)} {σ:St} {H:Hp} {s:Shared} (I:Inv X pins σ H s):interactive X.env=false:=by simp [interactive,I.ok.kind]
noncomputable def tDrop (te:TE):TS:=λD σ H=>te σ H λ_ H1=>D.nx σ H1
theorem c5 (he:PE X e te) (hs:swapsWith e none pos.line X.env=pure false:=by rfl):PS X (.Expr e pos) (tDrop te):=by
 intro pins s σ H D I h
 exact wpAny_Expr_any (cB (he pins s σ H _ I h) λv s1 ⟨x,H1,I1,r1,q1⟩=>⟨σ,H1,I1,q1⟩) I.quiet hs
noncomputable def tRet (te:TE):TS:=λD σ H=>te σ H D.rt
theorem aN (he:PE X e te):PS X (.Return (some e) pos) (tRet te):=by
 intro pins s σ H D I h
 exact wpAny_Return_some (cB (he pins s σ H _ I h) λv s1 ⟨x,H1,I1,r1,q1⟩=>⟨x,σ,H1,I1,r1,q1⟩)
noncomputable def tRetN:TS:=λD _ H=>D.rt .b9 H
noncomputable def tIfS (c:TT) (t u:TS):TS:=λD σ H=>c σ H λb H1=>if b=true then t D σ H1 else u D σ H1
theorem bF {c:Expr} {a b:List Stmt} {tc:TT} (hc:PT X c tc) (ha:vf X a t) (hb:vf X b u):PS X (.If c a b pos) (tIfS tc t u):=by
 intro pins s σ H D I h
 refine wpAny_If (cB (hc pins s σ H _ I h) λd s1 ⟨H1,I1,q1⟩=>?_)
 cases d with
 | true=>exact ha pins s1 σ H1 D I1 q1
 | false=>exact hb pins s1 σ H1 D I1 q1
noncomputable def Ff:TS:=λ_ _ _=>False
theorem nK:PS X st Ff:=λ_ _ _ _ _ _ h=>h.elim
end
abbrev TG:=V->St->Hp->(St->Hp->Prop)->Prop
abbrev El:=List V->St->Hp->(St->Hp->Prop)->Prop
noncomputable def PG (X:Cx) (target:Expr) (t:TG):Prop:=
 ∀(pins:List (Addr×Obj)) (s:Shared) (σ:St) (H:Hp) (v:V) (u:Value) (Q:St->Hp->Prop),Inv X pins σ H s->RelV v u->t v σ H Q->
  wpAny (model X.prog X.w) X.A (assign target X.env u) (λ_ s'=>∃σ' H',Inv X pins σ' H' s'/\Q σ' H') X.xe s
noncomputable def HL (X:Cx) (ts:List Expr) (t:El):Prop:=
 ∀(pins:List (Addr×Obj)) (s:Shared) (σ:St) (H:Hp) (vs:List V) (us:List Value) (Q:St->Hp->Prop),Inv X pins σ H s->bz vs us->t vs σ H Q->
  wpAny (model X.prog X.w) X.A (assignInOrder ((assignEach ts X.env).map (·.2)) us) (λ_ s'=>∃σ' H',Inv X pins σ' H' s'/\Q σ' H') X.xe s
abbrev zA:=V->V->V->Hp->(Hp->Prop)->Prop
noncomputable def Fg (X:Cx) (t:zA):Prop:=
 ∀(pins:List (Addr×Obj)) (s:Shared) (σ:St) (H:Hp) (o i v:V) (ov iv u:Value) (Q:Hp->Prop),Inv X pins σ H s->RelV o ov->RelV i iv->RelV v u->t o i v H Q->
  wpAny (model X.prog X.w) X.A (setItem ov iv u) (λ_ s'=>∃H',Inv X pins σ H' s'/\Q H') X.xe s
abbrev LI:=V->V->Hp->VK->Prop
noncomputable def VB (X:Cx) (op:Operator) (t:LI):Prop:=
 ∀(pins:List (Addr×Obj)) (s:Shared) (σ:St) (H:Hp) (x y:V) (v u:Value) (Q:VK),Inv X pins σ H s->RelV x v->RelV y u->t x y H Q->
  wpAny (model X.prog X.w) X.A (inplaceOp op v u) (EP X pins σ Q) X.xe s
section
variable {X : Cx} {pos : Pos}
noncomputable def gName (i:Nat):TG:=λv σ H Q=>Q (σ.set i (some v)) H
theorem aG {i:Nat} {x:Str} (hN:X.N.Nodup) (hi:X.N[i]?=some x) (hx:Loc X.env.scope x) (hf:X.fn x=true\/X.env.scope.names.lookup x=some .local:=by first | exact .inl rfl | exact .inr rfl | assumption):PG X (.Name x pos) (gName i):=by
 intro pins s σ H v u Q I r h
 exact wpAny_assign_Name (jB I hN hi hx r (λs' I'=>⟨_,H,I',h⟩) hf)
noncomputable def gNil:El:=λvs σ H Q=>vs=[]/\Q σ H
noncomputable def gCons (t:TG) (u:El):El:=λvs σ H Q=>∃v r,vs=v::r/\t v σ H λσ' H'=>u r σ' H' Q
theorem bV:HL X [] gNil:=by
 intro pins s σ H vs us Q I r h
 obtain⟨e,h⟩:=h
 subst e
 cases r
 exact assignInOrder_nil ⟨σ,H,I,h⟩
theorem aU {e:Expr} {es:List Expr} {t:TG} {u:El} (h1:PG X e t) (h2:HL X es u)
  (hs:(assignEach (e::es) X.env).map (·.2)=assign e X.env::(assignEach es X.env).map (·.2):=by rfl):HL X (e::es) (gCons t u):=by
 intro pins s σ H vs us Q I r h
 obtain⟨v,vr,e1,h⟩:=h
 subst e1
 cases r with
 | cons r rr=>
  rw[hs]
  refine assignInOrder_cons (cB (h1 pins s σ H _ _ _ I r h) λ_ s1 ⟨σ1,H1,I1,q1⟩=>?_)
  exact h2 pins s1 σ1 H1 _ _ Q I1 rr q1
noncomputable def zB (K:PySem.W.Frag) (n:Nat) (t:El):TG:=λv σ H Q=>∃a xs,v=.ref a/\dZ K H a xs/\xs.length=n/\t xs σ H Q
theorem Fh {es:List Expr} {k:Nat} {t:El} {n:Nat} (hc:X.calm=true) (h:HL X es t)
  (hn:(assignEach es X.env).length=n:=by rfl) (hst:(assignEach es X.env).findIdx? (·.1)=none:=by rfl):PG X (.Tuple es k pos) (zB X.K n t):=by
 intro pins s σ H v u Q I r hw
 obtain⟨a,xs,e1,hq,hl,hw⟩:=hw
 subst e1
 cases r
 obtain⟨aV,rv,ht,hz⟩:=I.tuple hq
 refine assign_Tuple_tuple (I.ok.hd hc) ht (by simp [hn,<-hl,rv.length]) hst λh' hx=>?_
 have I1:Inv X pins σ H {s with heap:=h'}:=I.kept (t':=s.toks) λb o e=>hx b o (aao (Heap.lt_size e)) e
 exact h pins _ σ H xs _ Q I1 (by simpa using rv) hw
noncomputable def gSub (to ti:TE) (t:zA):TG:=λv σ H Q=>to σ H λo H1=>ti σ H1 λi H2=>t o i v H2 λH3=>Q σ H3
theorem fu {o i:Expr} {to ti:TE} {t:zA} (ho:PE X o to) (hi:PE X i ti) (hs:Fg X t)
  (ha:∀v,assign (.Subscript o i pos) X.env v=(do
   let ov <-holding [v] (eval o X.env)
   let iv <-holding [v,ov] (eval i X.env)
   standAt pos
   holding [v,ov,iv] (setItem ov iv v)
   release [v,ov,iv] []):=by intro _;rfl):PG X (.Subscript o i pos) (gSub to ti t):=by
 intro pins s σ H v u Q I r h
 rw[ha]
 refine wpAny_bind (wpAny_holding (cB (ho pins s σ H _ I h) λov s1 cU=>?_))
 obtain⟨x,H1,I1,r1,q1⟩:=cU
 refine wpAny_bind (wpAny_holding (cB (hi pins s1 σ H1 _ I1 q1) λiv s2 cU=>?_))
 obtain⟨y,H2,I2,r2,q2⟩:=cU
 refine wpAny_bind (wpAny_standAt (wpAny_bind (wpAny_holding (cB (hs pins s2 σ H2 x y v ov iv u _ I2 r1 r2 r q2) λ_ s3 ⟨H3,I3,q3⟩=>?_))))
 exact wpAny_release ⟨σ,H3,I3,q3⟩
noncomputable def tAsg (te:TE) (g:TG):TS:=λD σ H=>te σ H λx H1=>g x σ H1 D.nx
theorem eM {tg e:Expr} {te:TE} {g:TG} (he:PE X e te) (hg:PG X tg g) (hs:swapsWithSole [tg] e pos.line X.env=pure false:=by rfl) (hw:swappedStores [tg] e X.env=pure none:=by rfl)
  (h1:(assignEach [tg] X.env).map (·.2)=[assign tg X.env]:=by rfl):PS X (.Assign [tg] e pos) (tAsg te g):=by
 intro pins s σ H D I h
 refine wpAny_Assign_stores (cB (he pins s σ H _ I h) λv s1 cU=>?_) hs hw
 obtain⟨x,H1,I1,r1,q1⟩:=cU
 rw[h1]
 exact cB (hg pins s1 σ H1 x v _ I1 r1 q1) λ_ s2 q=>q
theorem aF {i:Nat} {x:Str} {e:Expr} {te:TE} {pos':Pos} (hN:X.N.Nodup) (hi:X.N[i]?=some x) (hx:Loc X.env.scope x) (he:PE X e te) (hs:swapsWith e (some (.Name x pos')) pos.line X.env=pure false:=by rfl) (hf:X.fn x=true\/X.env.scope.names.lookup x=some .local:=by first | exact .inl rfl | exact .inr rfl | assumption):
  PS X (.Assign [.Name x pos'] e pos) (tAsg te (gName i)):=by
 intro pins s σ H D I h
 refine wpAny_Assign_Name (cB (he pins s σ H _ I h) λv s1 cU=>?_) hs
 obtain⟨y,H1,I1,r1,q1⟩:=cU
 exact jB I1 hN hi hx r1 (λs2 I2=>⟨_,H1,I2,q1⟩) hf
noncomputable def tPar (i j:Nat) (ta:TA):TS:=λD σ H=>ta σ H λvs H1=>∃v w,vs=[v,w]/\D.nx ((σ.set i (some v)).set j (some w)) H1
theorem Fi {i j:Nat} {x y:Str} {a b:Expr} {ta:TA} {px py pt:Pos} {kt k2 MI} (hc:X.calm=true) (hN:X.N.Nodup) (hi:X.N[i]?=some x) (hj:X.N[j]?=some y) (MJ:i≠j)
  (hx:X.env.scope.names.lookup x=some .local) (hy:X.env.scope.names.lookup y=some .local) (ha:PA X [a,b] ta)
  (hw:swappedStores [.Tuple [.Name x px,.Name y py] kt pt] (.Tuple [a,b] k2 MI) X.env=pure (some [x,y]))
  (hs:swapsWithSole [.Tuple [.Name x px,.Name y py] kt pt] (.Tuple [a,b] k2 MI) pos.line X.env=pure false:=by rfl):
  PS X (.Assign [.Tuple [.Name x px,.Name y py] kt pt] (.Tuple [a,b] k2 MI) pos) (tPar i j ta):=by
 intro pins s σ H D I h
 rw[exec_Assign_arm]
 refine wpAny_bind (wpAny_standAt ?_)
 rw[hs]
 refine wpAny_bind (wpAny_pure ?_)
 rw[if_neg (by decide)]
 refine wpAny_bind (Tuple_ (cB (ha _ pins s σ H _ I h) λus s1 cU=>?_))
 obtain⟨vs,H1,I1,r1,q1⟩:=cU
 obtain⟨v,w,e1,q1⟩:=q1
 subst e1
 obtain⟨u1,u2,rfl,rv,qV⟩:∃u1 u2,us=[u1,u2]/\RelV v u1/\RelV w u2:=by
  cases r1 with
  | cons p q=>
   cases q with
   | cons p' q'=>
    cases q'
    exact⟨_,_,rfl,p,p'⟩
 refine wpAny_newObj_type ?_ (by show 2<=sizeLine;decide)
 have I2:Inv X pins σ H1 {s1 with heap:=s1.heap.push {cls:=.type "tuple",data:=.seq [u1,u2].toArray}}:=I1.kept (t':=s1.toks) λb o e=>Heap.get?_push_of_some _ e
 rw[hw]
 refine wpAny_bind (wpAny_pure ?_)
 show wpAny (model X.prog X.w) X.A (do rule "assign.swapped-stores";let items <-unpackItems (.ref s1.heap.objs.size) 2 none;assignInOrder [λv=>bindName X.env y v,λv=>bindName X.env x v] items.reverse;pure Flow.next) _ _ _
 refine wpAny_bind (wpAny_rule (wpAny_bind (unpackItems_tuple (items:=#[u1,u2]) (I.ok.hd hc) (IsTup.new s1.heap _) λh' qc=>?_)))
 have I3:=I2.kept (h':=h') (t':=s1.toks) λb o e=>qc b o (aao (Heap.lt_size e)) e
 show wpAny _ _ (assignInOrder [λv=>bindName X.env y v,λv=>bindName X.env x v] [u2,u1] >>=λ_=>pure Flow.next) _ _ _
 refine wpAny_bind (assignInOrder_cons (wpAny_bindName (jB I3 hN hj (.inl hy) qV (λs2 I4=>?_) (.inr hy))))
 refine assignInOrder_cons (wpAny_bindName (jB I4 hN hi (.inl hx) rv (λs3 I5=>assignInOrder_nil (wpAny_pure ?_)) (.inr hx)))
 rw[List.set_comm _ _ (Ne.symm MJ)] at I5
 exact⟨_,H1,I5,q1⟩
noncomputable def Em (to ti te:TE) (CC:V->V->Hp->VK->Prop) (LJ:LI) (CD:zA):TS:=λD σ H=>to σ H λo H1=>ti σ H1 λi H2=>CC o i H2 λx H3=>te σ H3 λy H4=>LJ x y H4 λz H5=>CD o i z H5 λH6=>D.nx σ H6
noncomputable def Iw (X:Cx) (t:V->V->Hp->VK->Prop):Prop:=
 ∀(pins:List (Addr×Obj)) (s:Shared) (σ:St) (H:Hp) (o i:V) (ov iv:Value) (Q:VK),Inv X pins σ H s->RelV o ov->RelV i iv->t o i H Q->
  wpAny (model X.prog X.w) X.A (getItem ov iv) (EP X pins σ Q) X.xe s
theorem CF {o i e:Expr} {to ti te:TE} {CC:V->V->Hp->VK->Prop} {LJ:LI} {CD:zA} {op:Operator} {lV:Pos} (ho:PE X o to) (hi:PE X i ti) (hg:Iw X CC) (he:PE X e te) (hp:VB X op LJ) (hs:Fg X CD)
  (ha:∀ov iv new,augStore i ov iv new=(do holding [new,ov,iv] (setItem ov iv new);release [new,ov,iv] [];pure .next):=by intros;rfl):PS X (.AugAssign (.Subscript o i lV) op e pos) (Em to ti te CC LJ CD):=by
 intro pins s σ H D I h
 refine wpAny_AugAssign_SubscriptAny (cB (ho pins s σ H _ I h) λov s1 cU=>?_) ha
 obtain⟨x1,H1,I1,r1,q1⟩:=cU
 refine cB (hi pins s1 σ H1 _ I1 q1) λiv s2 cU=>?_
 obtain⟨x2,H2,I2,r2,q2⟩:=cU
 refine cB (hg pins s2 σ H2 x1 x2 ov iv _ I2 r1 r2 q2) λold s3 cU=>?_
 obtain⟨x3,H3,I3,r3,q3⟩:=cU
 refine cB (he pins s3 σ H3 _ I3 q3) λv s4 cU=>?_
 obtain⟨x4,H4,I4,r4,q4⟩:=cU
 refine cB (hp pins s4 σ H4 x3 x4 old v _ I4 r3 r4 q4) λnew s5 cU=>?_
 obtain⟨x5,H5,I5,r5,q5⟩:=cU
 exact cB (hs pins s5 σ H5 x1 x2 x5 ov iv new _ I5 r1 r2 r5 q5) λ_ s6 ⟨H6,I6,q6⟩=>⟨σ,H6,I6,q6⟩
noncomputable def VC (f:Int->Int->Int):LI:=λx y H Q=>∃i j,x=.int i/\y=.int j/\Q (.int (f i j)) H
theorem Fj:VB X .Sub (VC λi j=>i - j):=by
 intro pins s σ H x y v u Q I r1 r2 h
 obtain⟨i,j,e1,e2,q⟩:=h
 subst e1;subst e2
 obtain⟨t,rfl⟩:=r1
 obtain⟨t',rfl⟩:=r2
 exact isub_int ⟨.int _,H,I.tok _,⟨_,rfl⟩,q⟩
end
section
variable {X : Cx} {pos : Pos}
noncomputable def qW (c:TT) (tb:TS):TS:=λD σ H=>∃W:Nat->St->Hp->Prop,(∃m,W m σ H)/\∀m σ H,W m σ H->
 c σ H λb H1=>if b=true then ∃N:St->Hp->Prop,(∀σ' H',N σ' H'->∃m',m'<m/\W m' σ' H')/\tb {D with nx:=N,ct:=N,bk:=D.nx} σ H1 else D.nx σ H1
theorem hJ {c:Expr} {body:List Stmt} {tc:TT} {tb:TS} (hp:PassesOwn (model X.prog X.w) X.A X.env X.xe) (hc:PT X c tc) (hb:vf X body tb):PS X (.While c body [] pos) (qW tc tb):=by
 intro pins s σ H D I h
 obtain⟨W,⟨m0,w0⟩,turn⟩:=h
 refine wpAny_While (codeAny_whileLoop (λn s'=>∃σ' H',Inv X pins σ' H' s'/\W n σ' H') ?_ m0 ⟨σ,H,I,w0⟩)
 rintro n s1 ⟨σ1,H1,I1,w1⟩
 refine wpAny_passesOwn hp (cB (hc pins s1 σ1 H1 _ I1 (turn n σ1 H1 w1)) λb s2 ⟨H2,I2,q2⟩=>?_)
 cases b with
 | true=>
  obtain⟨N,hN,q2⟩:=q2
  rw[if_pos rfl]
  refine wpAny_passesOwn hp (cB (hb pins s2 σ1 H2 _ I2 q2) λf s3 q3=>?_)
  cases f with
  | next=>
   obtain⟨σ3,H3,I3,n3⟩:=q3
   obtain⟨m',hm,w3⟩:=hN σ3 H3 n3
   exact⟨m',hm,σ3,H3,I3,w3⟩
  | cont=>
   obtain⟨σ3,H3,I3,n3⟩:=q3
   obtain⟨m',hm,w3⟩:=hN σ3 H3 n3
   exact⟨m',hm,σ3,H3,I3,w3⟩
  | brk=>exact q3
  | ret v=>exact q3
 | false=>
  rw[if_neg aaw]
  exact wpAny_execs_nil ⟨σ1,H2,I2,q2⟩
end
structure It where
 go:Nat->Hp->Prop
 vh:Nat->Hp->V->Hp->Prop
 stop:Nat->Hp->Prop
noncomputable def iO (X:Cx) (pins:List (Addr×Obj)) (H:Hp) (b:Addr):Prop:=
 H b=none/\b≠X.env.locals/\b∉X.fs/\(b∈X.ex\/X.s₀.heap.objs.size<=b)/\(∀x c,X.env.cells.lookup x=some c->c≠b)/\∀p∈X.pn++pins,p.1≠b
theorem Inv.vi {X:Cx} {pins:List (Addr×Obj)} {σ:St} {H H':Hp} {s:Shared} {b:Addr} (I:Inv X pins σ H s) (hb:s.heap.objs.size<=b) (hn:H' b=none):iO X pins H' b:=by
 refine⟨hn,Nat.ne_of_gt (aau I.lt hb),I.MC hb,.inr (aap I.sz hb),λx c e z=>?_,λp hp z=>?_⟩
 ·obtain⟨v,q⟩:=I.cell x c e
  exact absurd (aau q.lt (by rw[z];exact hb)) (aaG _)
 ·exact absurd (aau (Heap.lt_size (I.pin p hp).1) (by rw[z];exact hb)) (aaG _)
structure Turn (P:Program) (w:World) (K:PySem.W.Frag) (tg:Expr) (J:It) (fp:List Addr) (it:Addr) (tn:Nat->Heap->Prop):Prop where
 mem:it∈fp
 obj:∀i h,tn i h->∀b∈fp,∃o,h.get? b=some o/\∀v,o.data≠.cell v
 keep:∀i h h',tn i h->(∀b∈fp,∀o,h.get? b=some o->h'.get? b=some o)->tn i h'
 item:∀(X:Cx),X.prog=P->X.w=w->X.K=K->X.calm=true->∀(i:Nat) (pins:List (Addr×Obj)) (s:Shared) (σ:St) (H:Hp) (E:Value->Shared->Prop),Inv X pins σ H s->(∀b∈fp,iO X pins H b)->tn i s.heap->J.go i H->
  wpAny (model P w) X.A (pyNext (.ref it)) (λr s1=>∃u,r=some u/\
   wpAny (model P w) X.A (letOwnedTupleGo tg (.ref it) u) (λ_ s2=>∃x H',Inv X pins σ H' s2/\RelV x u/\J.vh i H x H'/\tn (i+1) s2.heap/\∀b∈fp,H' b=none) E s1) E s
 done:∀(X:Cx),X.prog=P->X.w=w->X.K=K->X.calm=true->∀(i:Nat) (pins:List (Addr×Obj)) (s:Shared) (σ:St) (H:Hp) (E:Value->Shared->Prop),Inv X pins σ H s->(∀b∈fp,iO X pins H b)->tn i s.heap->J.stop i H->
  wpAny (model P w) X.A (pyNext (.ref it)) (λr s1=>r=none/\Inv X pins σ H s1) E s
 self:∀(A:Around) (i:Nat) (s:Shared) (Q:Value->Shared->Prop) (E:Value->Shared->Prop),tn i s.heap->Q (.ref it) s->wpAny (model P w) A (pyIter (.ref it)) Q E s
abbrev TI:=St->Hp->(It->Hp->Prop)->Prop
noncomputable def VD (X:Cx) (pins:List (Addr×Obj)) (σ:St) (tg:Expr) (R:It->Hp->Prop) (Eo:Value) (s2:Shared):Prop:=
 ∃(it:Addr) (fp:List Addr) (tn:Nat->Heap->Prop) (J:It) (H':Hp),Eo=.ref it/\Inv X pins σ H' s2/\Turn X.prog X.w X.K tg J fp it tn/\tn 0 s2.heap/\(∀b∈fp,iO X pins H' b)/\R J H'
noncomputable def PI (X:Cx) (tg iter:Expr) (wi:TI):Prop:=
 ∀(pins:List (Addr×Obj)) (s:Shared) (σ:St) (H:Hp) (R:It->Hp->Prop),Inv X pins σ H s->wi σ H R->
  wpAny (model X.prog X.w) X.A (eval iter X.env) (λv s1=>wpAny (model X.prog X.w) X.A (pyIter v) (VD X pins σ tg R) X.xe s1) X.xe s
theorem zC {M:Model} {A:Around} {E:Value->Shared->Prop} {s:Shared} {tg:Expr} {it:Addr} {u:Value} {o:Obj} {n:String} {vs:Array Value} {Q:Unit->Shared->Prop} (ho:s.heap.get? it=some o) (hc:o.cls=.type n) (hd:o.data=.fields vs)
  (hn:["enumerate","zip","dict_itemiterator","dict_reverseitemiterator","odict_iterator","itertools.zip_longest","itertools.pairwise"].contains n=false) (hQ:Q () s):wpAny M A (letOwnedTupleGo tg (.ref it) u) Q E s:=by
 unfold letOwnedTupleGo
 cases tg <;>first
  | exact wpAny_pure hQ
  | (cases u <;>first
    | exact wpAny_pure hQ
    | (refine wpAny_bind (wpAny_load ho ?_)
       rw[hc,hd]
       show wpAny M A (if (["enumerate","zip","dict_itemiterator","dict_reverseitemiterator","odict_iterator","itertools.zip_longest","itertools.pairwise"].contains n && vs[0]?==some (rawInt _))=true then _ else _) Q E s
       rw[if_neg (by intro h;rw[hn,Bool.false_and] at h;cases h)]
       exact wpAny_pure hQ))
noncomputable def vj (K:PySem.W.Frag) (a:Addr):It:=
 ⟨λi H=>∃xs x,bo K H a xs/\xs[i]?=some x,λi H x H'=>H'=H/\∀xs,bo K H a xs->xs[i]?=some x,λi H=>∃xs,bo K H a xs/\xs.length<=i⟩
noncomputable def Iy (K:PySem.W.Frag) (a:Addr):It:=
 ⟨λi H=>∃xs x,dZ K H a xs/\xs[i]?=some x,λi H x H'=>H'=H/\∀xs,dZ K H a xs->xs[i]?=some x,λi H=>∃xs,dZ K H a xs/\xs.length<=i⟩
noncomputable def HM (lo:Int) (n:Nat):It:=⟨λi _=>i<n,λi H x H'=>H'=H/\x=.int (lo+i),λi _=>n<=i⟩
theorem yq {P:Program} {w:World} {K:PySem.W.Frag} {tg:Expr} (a it:Addr):Turn P w K tg (vj K a) [it] it (λi h=>h.IsListIter it a i) where
 mem:=by simp
 obj:=λi h st b hb=>by
  have e:b=it:=by simpa using hb
  subst e
  obtain⟨o,e,c,d⟩:=st
  exact⟨o,e,λv z=>by rw[d] at z;cases z⟩
 keep:=λi h h' st k=>st.at λo e=>k it (by simp) o e
 item:=by
  intro X hP hw hK hc i pins s σ H E I hf st hg
  subst hP hw hK
  obtain⟨xs,x,hq,hx⟩:=hg
  obtain⟨aV,rv,p,hz⟩:=I.list hq
  obtain⟨u,hu,ru⟩:=rv.get hx
  obtain⟨f0,f1,f2,f3,f4,f5⟩:=hf it (by simp)
  refine wpAny_pyNext_list_item st p.isList (x:=u) (by simpa using hu) λh' yr sb=>?_
  have I1:Inv X pins σ H {s with heap:=h'}:=I.turned (t':=s.toks) (λb o hb e=>(sb.2 b hb).trans e) f0 f1 f3 f4 f5
  obtain⟨o,e,c,d⟩:=id yr
  exact⟨u,rfl,zC (s:={s with heap:=h'}) e c d (by decide) ⟨x,H,I1,ru,⟨rfl,λys hy=>by rw[I.jC hy hq];exact hx⟩,yr,λb hb=>(hf b hb).1⟩⟩
 done:=by
  intro X hP hw hK hc i pins s σ H E I hf st hg
  subst hP hw hK
  obtain⟨xs,hq,hx⟩:=hg
  obtain⟨aV,rv,p,hz⟩:=I.list hq
  obtain⟨f0,f1,f2,f3,f4,f5⟩:=hf it (by simp)
  have hl:=rv.length
  exact wpAny_pyNext_list_end (I.ok.hd hc) st p.isList (by simp;omega) λh' eb=>⟨rfl,I.turned (t':=s.toks) (λb o hb e=>eb b o hb e) f0 f1 f3 f4 f5⟩
 self:=λ_ _ _ _ _ st h=>wpAny_pyIter_listiter st h
theorem vk {P:Program} {w:World} {K:PySem.W.Frag} {tg:Expr} (a it:Addr):Turn P w K tg (Iy K a) [it] it (λi h=>h.IsTupleIter it a i) where
 mem:=by simp
 obj:=λi h st b hb=>by
  have e:b=it:=by simpa using hb
  subst e
  obtain⟨o,e,c,d⟩:=st
  exact⟨o,e,λv z=>by rw[d] at z;cases z⟩
 keep:=λi h h' st k=>st.at λo e=>k it (by simp) o e
 item:=by
  intro X hP hw hK hc i pins s σ H E I hf st hg
  subst hP hw hK
  obtain⟨xs,x,hq,hx⟩:=hg
  obtain⟨aV,rv,p,hz⟩:=I.tuple hq
  obtain⟨u,hu,ru⟩:=rv.get hx
  obtain⟨f0,f1,f2,f3,f4,f5⟩:=hf it (by simp)
  refine wpAny_pyNext_tuple_item st (show s.heap.IsTuple a aV.toArray from p) (x:=u) (by simpa using hu) λh' yr sb=>?_
  have I1:Inv X pins σ H {s with heap:=h'}:=I.turned (t':=s.toks) (λb o hb e=>(sb.2 b hb).trans e) f0 f1 f3 f4 f5
  obtain⟨o,e,c,d⟩:=id yr
  exact⟨u,rfl,zC (s:={s with heap:=h'}) e c d (by decide) ⟨x,H,I1,ru,⟨rfl,λys hy=>by rw[I.yp hy hq];exact hx⟩,yr,λb hb=>(hf b hb).1⟩⟩
 done:=by
  intro X hP hw hK hc i pins s σ H E I hf st hg
  subst hP hw hK
  obtain⟨xs,hq,hx⟩:=hg
  obtain⟨aV,rv,p,hz⟩:=I.tuple hq
  obtain⟨f0,f1,f2,f3,f4,f5⟩:=hf it (by simp)
  have hl:=rv.length
  exact wpAny_pyNext_tuple_end (I.ok.hd hc) st (show s.heap.IsTuple a aV.toArray from p) (by simp;omega) λh' eb=>⟨rfl,I.turned (t':=s.toks) (λb o hb e=>eb b o hb e) f0 f1 f3 f4 f5⟩
 self:=λ_ _ _ _ _ st h=>wpAny_pyIter_tupleiter st h
theorem vo {P:Program} {w:World} {K:PySem.W.Frag} {tg:Expr} (it:Addr) (lo:Int) (n:Nat):Turn P w K tg (HM lo n) [it] it (λi h=>IsRangeIter h it (lo+ (i:Nat)*1) ((n:Int) - (i:Nat)) 1) where
 mem:=by simp
 obj:=λi h st b hb=>by
  have e:b=it:=by simpa using hb
  subst e
  exact⟨_,st,λv z=>by
   have z':Data.fields _=Data.cell v:=z
   cases z'⟩
 keep:=λi h h' st k=>k it (by simp) _ st
 item:=by
  intro X hP hw hK hc i pins s σ H E I hf st hg
  subst hP hw hK
  obtain⟨f0,f1,f2,f3,f4,f5⟩:=hf it (by simp)
  have W:=Walks.range (prog:=X.prog) (w:=X.w) (I.ok.hd hc) it lo 1 n
  refine W.item i s _ _ hg st λv h' tk hv yr kk=>?_
  obtain⟨t,rfl⟩:=hv
  have I1:Inv X pins σ H {s with heap:=h',toks:=tk}:=I.turned (λb o hb e=>kk b o (by simpa using hb) e) f0 f1 f3 f4 f5
  refine⟨_,rfl,zC (s:={s with heap:=h',toks:=tk}) (n:="range_iterator") yr rfl rfl (by decide) ⟨.int (lo+i),H,I1,⟨t,?_⟩,⟨rfl,rfl⟩,yr,λb hb=>(hf b hb).1⟩⟩
  rw[Int.mul_one]
 done:=by
  intro X hP hw hK hc i pins s σ H E I hf st hg
  subst hP hw hK
  obtain⟨f0,f1,f2,f3,f4,f5⟩:=hf it (by simp)
  exact wpAny_pyNext_range_end (I.ok.hd hc) st (by have:n<=i:=hg;omega) λh' eb=>⟨rfl,I.turned (t':=s.toks) (λb o hb e=>eb b o hb e) f0 f1 f3 f4 f5⟩
 self:=λ_ _ _ _ _ st h=>wpAny_pyIter_rangeiter st h
end L2
namespace L2
open PySem PySem.Spec PyProof.Rows
section
variable {X : Cx} {tg : Expr}
noncomputable def iList (K:PySem.W.Frag) (tl:TE):TI:=λσ H R=>tl σ H λx H1=>∃a,x=.ref a/\(∃xs,bo K H1 a xs)/\R (vj K a) H1
noncomputable def iTup (K:PySem.W.Frag) (tl:TE):TI:=λσ H R=>tl σ H λx H1=>∃a,x=.ref a/\(∃xs,dZ K H1 a xs)/\R (Iy K a) H1
theorem CG {l:Expr} {tl:TE} (hl:PE X l tl):PI X tg l (iList X.K tl):=by
 intro pins s σ H R I h
 refine cB (hl pins s σ H _ I h) λv s1 cU=>?_
 obtain⟨x,H1,I1,r1,q1⟩:=cU
 obtain⟨a,e,⟨xs,hq⟩,q⟩:=q1
 subst e
 cases r1
 obtain⟨aV,rv,p,hz⟩:=I1.list hq
 refine wpAny_pyIter_list p.isList ?_
 refine⟨s1.heap.objs.size,[s1.heap.objs.size],_,_,H1,rfl,I1.kept (t':=s1.toks) λb o e=>Heap.get?_push_of_some _ e,yq a _,⟨_,Heap.get?_push_size _ rfl,rfl,rfl⟩,λb hb=>?_,q⟩
 have e:b=s1.heap.objs.size:=by simpa using hb
 subst e
 exact I1.vi (aah _) (I1.bT.fresh (aah _))
theorem Fk {l:Expr} {tl:TE} (hl:PE X l tl):PI X tg l (iTup X.K tl):=by
 intro pins s σ H R I h
 refine cB (hl pins s σ H _ I h) λv s1 cU=>?_
 obtain⟨x,H1,I1,r1,q1⟩:=cU
 obtain⟨a,e,⟨xs,hq⟩,q⟩:=q1
 subst e
 cases r1
 obtain⟨aV,rv,p,hz⟩:=I1.tuple hq
 refine wpAny_pyIter_tuple (show s1.heap.IsTuple a aV.toArray from p) ?_
 refine⟨s1.heap.objs.size,[s1.heap.objs.size],_,_,H1,rfl,I1.kept (t':=s1.toks) λb o e=>Heap.get?_push_of_some _ e,vk a _,⟨_,Heap.get?_push_size _ rfl,rfl,rfl⟩,λb hb=>?_,q⟩
 have e:b=s1.heap.objs.size:=by simpa using hb
 subst e
 exact I1.vi (aah _) (I1.bT.fresh (aah _))
theorem tL {pins:List (Addr×Obj)} {σ:St} {H:Hp} {s:Shared} {R:It->Hp->Prop} {E:Value->Shared->Prop} {lo hi:Int} {t u v:Tok} {tk:Nat} (I:Inv X pins σ H s) (h1:-(2^62)<=lo) (h2:lo<2^62) (h3:-(2^62)<=hi) (h4:hi<2^62)
  (q:R (HM lo (hi - lo).toNat) H):wpAny (model X.prog X.w) X.A (pyIter (.ref s.heap.objs.size)) (VD X pins σ tg R) E {s with heap:=s.heap.push {cls:=.type "range",data:=.fields #[.int lo t,.int hi u,.int 1 v]},toks:=tk}:=by
 refine wpAny_pyIter_range (IsRange.new ..) (small_one h1 h2 h3 h4) ?_
 have I1:Inv X pins σ H {s with heap:=s.heap.push {cls:=.type "range",data:=.fields #[.int lo t,.int hi u,.int 1 v]},toks:=tk}:=I.kept λb o e=>Heap.get?_push_of_some _ e
 refine⟨(s.heap.push {cls:=.type "range",data:=.fields #[.int lo t,.int hi u,.int 1 v]}).objs.size,[(s.heap.push {cls:=.type "range",data:=.fields #[.int lo t,.int hi u,.int 1 v]}).objs.size],_,_,H,rfl,
  I1.kept (t':=tk) λb o e=>Heap.get?_push_of_some _ e,vo _ lo (hi - lo).toNat,?_,λb hb=>?_,q⟩
 ·have e1:lo+ ((0:Nat):Int)*1=lo:=by simp
  have e2:(((hi - lo).toNat:Nat):Int) - ((0:Nat):Int)=Builtin.Range.rangeSize lo hi 1:=by rw[rangeSize_one];split <;>omega
  show IsRangeIter _ _ (lo+ ((0:Nat):Int)*1) ((((hi - lo).toNat:Nat):Int) - ((0:Nat):Int)) 1
  rw[e1,e2]
  exact Heap.get?_push_size _ rfl
 ·have e:b=(s.heap.push {cls:=.type "range",data:=.fields #[.int lo t,.int hi u,.int 1 v]}).objs.size:=by simpa using hb
  subst e
  exact I1.vi (aah _) (I1.bT.fresh (aah _))
noncomputable def iRng1 (ta:TA):TI:=λσ H R=>ta σ H λvs H1=>∃j:Int,vs=[.int j]/\-(2^62)<=j/\j<2^62/\R (HM 0 j.toNat) H1
noncomputable def iRng2 (ta:TA):TI:=λσ H R=>ta σ H λvs H1=>∃i j:Int,vs=[.int i,.int j]/\(-(2^62)<=i/\i<2^62/\-(2^62)<=j/\j<2^62)/\R (HM i (j - i).toNat) H1
theorem c6 {a:Expr} {ta:TA} {p pos:Pos} (hg:Gl X "range") (hm:X.mg "range"=none) (ha:PA X [a] ta) (hs:starEach [a] X.env=[(false,eval a X.env)]:=by rfl):PI X tg (.Call (.Name "range" p) [a] [] pos) (iRng1 ta):=by
 intro pins s σ H R I h
 refine Call_ (g8 I hg hm boot_range (PyProof.Rows.callWith_type1 (cB (ha pos pins s σ H _ I h) λus s1 cU=>?_) hs rfl))
 obtain⟨vs,H1,I1,r1,q1⟩:=cU
 obtain⟨j,e,q1,q2,q⟩:=q1
 subst e
 cases r1 with
 | cons r rr=>
  cases rr
  obtain⟨t,rfl⟩:=r
  exact call_range_1 (tL I1 (by omega) (by omega) q1 q2 (by simpa using q))
theorem yt {a b:Expr} {ta:TA} {p pos:Pos} (hg:Gl X "range") (hm:X.mg "range"=none) (ha:PA X [a,b] ta) (hs:starEach [a,b] X.env=[(false,eval a X.env),(false,eval b X.env)]:=by rfl) (Ep:starEach [b] X.env=[(false,eval b X.env)]:=by rfl):
  PI X tg (.Call (.Name "range" p) [a,b] [] pos) (iRng2 ta):=by
 intro pins s σ H R I h
 refine Call_ (g8 I hg hm boot_range (PyProof.Rows.callWith_type1 (cB (ha pos pins s σ H _ I h) λus s1 cU=>?_) (by rw[hs,Ep]) (by rw[Ep];rfl)))
 obtain⟨vs,H1,I1,r1,q1⟩:=cU
 obtain⟨i,j,e,⟨q1,q2,q3,q4⟩,q⟩:=q1
 subst e
 cases r1 with
 | cons r rr=>
  cases rr with
  | cons r' rr=>
   cases rr
   obtain⟨t,rfl⟩:=r
   obtain⟨t',rfl⟩:=r'
   exact call_range_2 (tL I1 q1 q2 q3 q4 q)
noncomputable def Iz (wi:TI) (g:TG) (tb:TS):TS:=λD σ H=>wi σ H λJ H1=>∃W:Nat->Nat->St->Hp->Prop,(∃m,W 0 m σ H1)/\∀i m σ H,W i m σ H->
 (J.stop i H/\D.nx σ H)\/(J.go i H/\∃N:St->Hp->Prop,(∀σ' H',N σ' H'->∃m',m'<m/\W (i+1) m' σ' H')/\∀x H',J.vh i H x H'->g x σ H' λσ2 H2=>tb {D with nx:=N,ct:=N,bk:=D.nx} σ2 H2)
noncomputable def nM (fp:List Addr) (h:Heap):List (Addr×Obj):=fp.filterMap λb=>(h.get? b).map λo=>(b,o)
theorem gp {fp:List Addr} {h:Heap} {b:Addr} {o:Obj} (hb:b∈fp) (e:h.get? b=some o):(b,o)∈nM fp h:=List.mem_filterMap.mpr ⟨b,hb,by rw[e];rfl⟩
theorem yu {fp:List Addr} {h:Heap} {p:Addr×Obj} (hp:p∈nM fp h):p.1∈fp/\h.get? p.1=some p.2:=by
 obtain⟨b,hb,e⟩:=List.mem_filterMap.mp hp
 cases q:h.get? b with
 | none=>rw[q] at e;cases e
 | some o=>
  rw[q] at e
  have e':(b,o)=p:=aaC e
  subst e'
  exact⟨hb,q⟩
theorem Inv.pinned {pins:List (Addr×Obj)} {σ:St} {H:Hp} {s:Shared} {fp:List Addr} (I:Inv X pins σ H s) (hf:∀b∈fp,iO X pins H b) (ho:∀b∈fp,∃o,s.heap.get? b=some o/\∀v,o.data≠.cell v):Inv X (pins++nM fp s.heap) σ H s:=
 I.jA λp hp=>(List.mem_append.mp hp).elim (λz=>I.pin p (aaI _ z)) λz=>by
  obtain⟨hb,e⟩:=yu z
  obtain⟨f0,f1,f2,_⟩:=hf p.1 hb
  obtain⟨o,e',d⟩:=ho p.1 hb
  rw[e] at e';cases e'
  exact⟨e,f0,f1,f2,d⟩
theorem Inv.nN {pins pl:List (Addr×Obj)} {σ:St} {H:Hp} {s:Shared} (I:Inv X (pins++pl) σ H s):Inv X pins σ H s:=I.jA λp hp=>I.pin p (aaI _ (abu _ hp))
theorem cu {iter:Expr} {body:List Stmt} {wi:TI} {g:TG} {tb:TS} {pos:Pos} (hp:PassesOwn (model X.prog X.w) X.A X.env X.xe) (hc:X.calm=true) (hi:PI X tg iter wi) (hg:PG X tg g) (hb:vf X body tb)
  (hs:∀x,foldedSetIterable iter X.env x=pure x:=by intro _;rfl):PS X (.For tg iter body [] pos) (Iz wi g tb):=by
 intro pins s σ H D I h
 refine wpAny_For (cB (hi pins s σ H _ I h) λv s1 h1=>cB h1 λEo s2 h2=>?_) hs
 obtain⟨it,fp,tn,J,H2,e,I2,T,vq,f2,W,⟨m0,w0⟩,turn⟩:=h2
 subst e
 have vv:∀{H':Hp},(∀b∈fp,H' b=none)->∀b∈fp,iO X pins H' b:=λhn b hb=>⟨hn b hb,(f2 b hb).2⟩
 refine codeAny_forLoop_any (λn s'=>∃i σ' H',Inv X pins σ' H' s'/\tn i s'.heap/\(∀b∈fp,H' b=none)/\W i n σ' H') ?_ m0 ⟨0,σ,H2,I2,vq,λb hb=>(f2 b hb).1,w0⟩
 rintro n s3 ⟨i,σ3,H3,I3,VE,VF,w3⟩
 rcases turn i n σ3 H3 w3 with ⟨stop,qn⟩ | ⟨go,N,hN,step⟩
 ·refine wpAny_passesOwn hp (cB (T.done X rfl rfl rfl hc i pins s3 σ3 H3 X.xe I3 (vv VF) VE stop) λr s4 ⟨hr,I4⟩=>?_)
  subst hr
  exact wpAny_execs_nil ⟨σ3,H3,I4,qn⟩
 ·refine wpAny_passesOwn hp (cB (T.item X rfl rfl rfl hc i pins s3 σ3 H3 X.xe I3 (vv VF) VE go) λr s4 ⟨u,hr,h4⟩=>?_)
  subst hr
  refine wpAny_passesOwn hp (cB h4 λ_ s5 cU=>?_)
  obtain⟨x,H5,I5,r5,y5,MK,XN⟩:=cU
  have XO:=I5.pinned (vv XN) (T.obj _ _ MK)
  refine wpAny_passesOwn hp (cB (hg _ s5 σ3 H5 x u _ XO r5 (step x H5 y5)) λ_ s6 ⟨σ6,H6,I6,q6⟩=>?_)
  refine wpAny_passesOwn hp (cB (hb _ s6 σ6 H6 _ I6 q6) λf s7 q7=>?_)
  have again:∀{σ7:St} {H7:Hp},Inv X (pins++nM fp s5.heap) σ7 H7 s7->N σ7 H7->∃m,m<n/\∃i σ' H',Inv X pins σ' H' s7/\tn i s7.heap/\(∀b∈fp,H' b=none)/\W i m σ' H':=λ{σ7 H7} I7 n7=>by
   obtain⟨m',hm,w7⟩:=hN σ7 H7 n7
   refine⟨m',hm,i+1,σ7,H7,I7.nN,T.keep _ _ _ MK λb hb o e=>(I7.pin (b,o) (aaI _ (aaI _ (gp hb e)))).1,λb hb=>?_,w7⟩
   obtain⟨o,e,d⟩:=T.obj _ _ MK b hb
   exact(I7.pin (b,o) (aaI _ (aaI _ (gp hb e)))).2.1
  cases f with
  | next=>obtain⟨σ7,H7,I7,n7⟩:=q7;exact again I7 n7
  | cont=>obtain⟨σ7,H7,I7,n7⟩:=q7;exact again I7 n7
  | brk=>obtain⟨σ7,H7,I7,q7⟩:=q7;exact⟨σ7,H7,I7.nN,q7⟩
  | ret v=>obtain⟨x7,σ7,H7,I7,r7,q7⟩:=q7;exact⟨x7,σ7,H7,I7.nN,r7,q7⟩
end
theorem CH {K:PySem.W.Frag} {a:Addr} {xs:List V} {g:TG} {tb:TS} {D:Ends} {σ:St} {H:Hp} (Pv:Nat->St->Hp->Prop) (h0:Pv 0 σ H) (hl:∀i σ H,i<=xs.length->Pv i σ H->dZ K H a xs)
  (hs:∀i x σ H,xs[i]?=some x->Pv i σ H->g x σ H λσ2 H2=>tb {D with nx:=Pv (i+1),ct:=Pv (i+1),bk:=D.nx} σ2 H2) (hd:∀σ H,Pv xs.length σ H->D.nx σ H):
  ∃W:Nat->Nat->St->Hp->Prop,(∃m,W 0 m σ H)/\∀i m σ H,W i m σ H->
   ((Iy K a).stop i H/\D.nx σ H)\/((Iy K a).go i H/\∃N:St->Hp->Prop,(∀σ' H',N σ' H'->∃m',m'<m/\W (i+1) m' σ' H')/\∀x H',(Iy K a).vh i H x H'->g x σ H' λσ2 H2=>tb {D with nx:=N,ct:=N,bk:=D.nx} σ2 H2):=by
 refine⟨λi m σ H=>m=xs.length - i/\i<=xs.length/\Pv i σ H,⟨xs.length,by simp,aas _,h0⟩,?_⟩
 rintro i m σ H ⟨rfl,hi,p⟩
 have q:=hl i σ H hi p
 by_cases fE:i<xs.length
 ·refine .inr ⟨⟨xs,xs[i],q,by simp [fE]⟩,Pv (i+1),λσ' H' p'=>⟨xs.length - (i+1),by omega,rfl,fE,p'⟩,λx H' y=>?_⟩
  obtain⟨e,y⟩:=y
  subst e
  exact hs i x σ _ (y xs q) p
 ·have e:i=xs.length:=by omega
  subst e
  exact .inl ⟨⟨xs,q,aah _⟩,hd σ H p⟩
theorem tM {c:TT} {tb:TS} {D:Ends} {σ:St} {H:Hp} (Pv:St->Hp->Prop) (μ:St->Hp->Nat) (h0:Pv σ H)
  (hs:∀σ H,Pv σ H->c σ H λb H1=>if b=true then tb {D with nx:=λσ' H'=>Pv σ' H'/\μ σ' H'<μ σ H,ct:=λσ' H'=>Pv σ' H'/\μ σ' H'<μ σ H,bk:=D.nx} σ H1 else D.nx σ H1)
  (mono:∀σ H Q Q',(∀b H1,Q b H1->Q' b H1)->c σ H Q->c σ H Q'):qW c tb D σ H:=by
 refine⟨λm σ H=>m=μ σ H/\Pv σ H,⟨_,rfl,h0⟩,?_⟩
 rintro m σ H ⟨rfl,p⟩
 refine mono σ H _ _ (λb H1 q=>?_) (hs σ H p)
 cases b with
 | true=>exact⟨_,λσ' H' ⟨p',l⟩=>⟨_,l,rfl,p'⟩,q⟩
 | false=>exact q
end L2
namespace L2
open PySem PySem.Spec PyProof.Rows
abbrev R2:=V->V->Hp->VK->Prop
noncomputable def kh (X:Cx) (f:Value->Value->Sem Value) (r:R2):Prop:=
 ∀(pins:List (Addr×Obj)) (s:Shared) (σ:St) (H:Hp) (x y:V) (v u:Value) (Q:VK),Inv X pins σ H s->RelV x v->RelV y u->r x y H Q->
  wpAny (model X.prog X.w) X.A (f v u) (EP X pins σ Q) X.xe s
noncomputable def LK (X:Cx) (f:Value->Sem Value) (r:V->Hp->VK->Prop):Prop:=
 ∀(pins:List (Addr×Obj)) (s:Shared) (σ:St) (H:Hp) (x:V) (v:Value) (Q:VK),Inv X pins σ H s->RelV x v->r x H Q->
  wpAny (model X.prog X.w) X.A (f v) (EP X pins σ Q) X.xe s
noncomputable def cQ (X:Cx) (f:Value) (r:List V->Hp->VK->Prop):Prop:=
 ∀(pins:List (Addr×Obj)) (s:Shared) (σ:St) (H:Hp) (xs:List V) (us:List Value) (Q:VK),Inv X pins σ H s->bz xs us->r xs H Q->
  wpAny (model X.prog X.w) X.A (call f us) (EP X pins σ Q) X.xe s
noncomputable def tOp (r:R2) (ta tb:TE):TE:=λσ H Q=>ta σ H λx H1=>tb σ H1 λy H2=>r x y H2 Q
noncomputable def tUn (r:V->Hp->VK->Prop) (ta:TE):TE:=λσ H Q=>ta σ H λx H1=>r x H1 Q
noncomputable def rI (C:Int->Int->Prop) (g:Int->Int->V):R2:=λx y H Q=>∃i j,x=.int i/\y=.int j/\C i j/\Q (g i j) H
noncomputable def rI0 (g:Int->Int->V):R2:=λx y H Q=>∃i j,x=.int i/\y=.int j/\Q (g i j) H
noncomputable def rU (g:Int->V):V->Hp->VK->Prop:=λx H Q=>∃i,x=.int i/\Q (g i) H
section
variable {X : Cx} {a b c : Expr} {ta tb tc : TE} {pos : Pos}
theorem Fl (ha:PE X a ta) (hb:PE X b tb) {pins:List (Addr×Obj)} {s:Shared} {σ:St} {H:Hp} {R:V->V->Hp->Prop} (I:Inv X pins σ H s)
  (h:ta σ H λx H1=>tb σ H1 λy H2=>R x y H2) {Q:Value->Shared->Prop} {f:Value->Value->Sem Value}
  (hf:∀v u s2 x y H2,Inv X pins σ H2 s2->RelV x v->RelV y u->R x y H2->wpAny (model X.prog X.w) X.A (f v u) Q X.xe s2):
  wpAny (model X.prog X.w) X.A (eval a X.env) (λv s₁=>wpAny (model X.prog X.w) X.A (eval b X.env) (λu s₂=>wpAny (model X.prog X.w) X.A (f v u) Q X.xe s₂) X.xe s₁) X.xe s:=by
 refine cB (ha pins s σ H _ I h) λv s1 cU=>?_
 obtain⟨x,H1,I1,r1,q1⟩:=cU
 refine cB (hb pins s1 σ H1 _ I1 q1) λu s2 cU=>?_
 obtain⟨y,H2,I2,r2,q2⟩:=cU
 exact hf v u s2 x y H2 I2 r1 r2 q2
theorem aI {op:Operator} {r:R2} (ho:kh X (binaryOp op) r) (ha:PE X a ta) (hb:PE X b tb):PE X (.BinOp a op b pos) (tOp r ta tb):=by
 intro pins s σ H Q I h
 exact wpAny_BinOp (Fl ha hb I h λv u s2 x y H2 I2 rx ry q=>ho pins s2 σ H2 x y v u Q I2 rx ry q)
theorem zD {op:UnaryOp} {r:V->Hp->VK->Prop} (ho:LK X (unaryOp op) r) (ha:PE X a ta):PE X (.UnaryOp op a pos) (tUn r ta):=by
 intro pins s σ H Q I h
 exact UnaryOp_ (cB (ha pins s σ H _ I h) λv s1 ⟨x,H1,I1,r1,q1⟩=>ho pins s1 σ H1 x v Q I1 r1 q1)
theorem IA {f:Value->Value->Sem Value} {C:Int->Int->Prop} {g:Int->Int->Int}
  (rule:∀(i j:Int) (t u:Tok) (s:Shared) (Q:Value->Shared->Prop) (E:Value->Shared->Prop),C i j->Q (.int (g i j) s.toks) {s with toks:=s.toks+1}->wpAny (model X.prog X.w) X.A (f (.int i t) (.int j u)) Q E s):
  kh X f (rI C λi j=>.int (g i j)):=by
 intro pins s σ H x y v u Q I rx ry h
 obtain⟨i,j,rfl,rfl,hc,q⟩:=h
 obtain⟨t,rfl⟩:=rx
 obtain⟨t',rfl⟩:=ry
 exact rule i j t t' s _ _ hc ⟨.int (g i j),H,I.tok _,⟨_,rfl⟩,q⟩
theorem IB {f:Value->Value->Sem Value} {g:Int->Int->Int}
  (rule:∀(i j:Int) (t u:Tok) (s:Shared) (Q:Value->Shared->Prop) (E:Value->Shared->Prop),Q (.int (g i j) s.toks) {s with toks:=s.toks+1}->wpAny (model X.prog X.w) X.A (f (.int i t) (.int j u)) Q E s):
  kh X f (rI0 λi j=>.int (g i j)):=by
 intro pins s σ H x y v u Q I rx ry h
 obtain⟨i,j,rfl,rfl,q⟩:=h
 obtain⟨t,rfl⟩:=rx
 obtain⟨t',rfl⟩:=ry
 exact rule i j t t' s _ _ ⟨.int (g i j),H,I.tok _,⟨_,rfl⟩,q⟩
theorem IC {f:Value->Value->Sem Value} {g:Int->Int->Bool}
  (rule:∀(i j:Int) (t u:Tok) (s:Shared) (Q:Value->Shared->Prop) (E:Value->Shared->Prop),Q (.bool (g i j)) s->wpAny (model X.prog X.w) X.A (f (.int i t) (.int j u)) Q E s):
  kh X f (rI0 λi j=>.bl (g i j)):=by
 intro pins s σ H x y v u Q I rx ry h
 obtain⟨i,j,rfl,rfl,q⟩:=h
 obtain⟨t,rfl⟩:=rx
 obtain⟨t',rfl⟩:=ry
 exact rule i j t t' s _ _ ⟨.bl (g i j),H,I,rfl,q⟩
noncomputable def CPow (i j:Int):Prop:=0<=j/\j<=1000000/\i.natAbs<2^64
theorem bA:kh X (binaryOp .Add) (rI0 λi j=>.int (i+j)):=IB λ_ _ _ _ _ _ _ q=>add_int q
theorem nO:kh X (binaryOp .Sub) (rI0 λi j=>.int (i - j)):=IB λ_ _ _ _ _ _ _ q=>sub_int q
theorem Fn:kh X (binaryOp .Mod) (rI (λ_ j=>0<j) λi j=>.int (i % j)):=IA λi j _ _ _ _ _ hc q=>by
 have h1:(0:Int)<j:=hc
 exact mod_int' (by omega) (by rw[Int.fmod_eq_emod_of_nonneg i (by omega)];exact q)
theorem jb:kh X (binaryOp .Pow) (rI CPow λi j=>.int (i^j.toNat)):=IA λ_ _ _ _ _ _ _ hc q=>pow_int_small hc.1 hc.2.1 hc.2.2 q
theorem XQ {f:Value->Sem Value} {g:Int->Int}
  (rule:∀(i:Int) (t:Tok) (s:Shared) (Q:Value->Shared->Prop) (E:Value->Shared->Prop),Q (.int (g i) s.toks) {s with toks:=s.toks+1}->wpAny (model X.prog X.w) X.A (f (.int i t)) Q E s):
  LK X f (rU λi=>.int (g i)):=by
 intro pins s σ H x v Q I rx h
 obtain⟨i,rfl,q⟩:=h
 obtain⟨t,rfl⟩:=rx
 exact rule i t s _ _ ⟨.int (g i),H,I.tok _,⟨_,rfl⟩,q⟩
theorem vx:LK X (unaryOp .USub) (rU λi=>.int (-i)):=XQ λ_ _ _ _ _ q=>neg_int q
end
noncomputable def vy:V->V->Bool
 | .b9,.b9=>true | .b9,.int _=>true | .int _,.b9=>true | .b9,.bl _=>true | .bl _,.b9=>true | .b9,.str _=>true | .str _,.b9=>true
 | .int _,.int _=>true | .bl _,.bl _=>true | .str _,.str _=>true | .zf _,.zf _=>true
 | .int _,.str _=>true | .str _,.int _=>true | .bl _,.str _=>true | .str _,.bl _=>true
 | _,_=>false
noncomputable def rEq:R2:=λx y H Q=>vy x y=true/\Q (.bl (decide (x=y))) H
noncomputable def rNe:R2:=λx y H Q=>vy x y=true/\Q (.bl (!decide (x=y))) H
theorem wM {i j:Int}:decide (V.int i=V.int j)=(i==j):=by
 rw[Bool.eq_iff_iff]
 simp
theorem zE {i j:Bool}:decide (V.bl i=V.bl j)=(i==j):=by
 rw[Bool.eq_iff_iff]
 simp
theorem wN {i j:Str}:decide (V.str i=V.str j)=(i==j):=by
 rw[Bool.eq_iff_iff]
 simp
theorem wO {i j:Array UInt8}:decide (V.zf i=V.zf j)=(i.toList==j.toList):=by
 rw[Bool.eq_iff_iff]
 cases i
 cases j
 simp
section
variable {X : Cx} {a b c : Expr} {ta tb tc : TE} {pos : Pos}
theorem bI {pins:List (Addr×Obj)} {σ:St} {H:Hp} {s:Shared} {Q:VK} {k k':Bool} (I:Inv X pins σ H s) (q:Q (.bl k) H) (e:k=k'):EP X pins σ Q (.bool k') s:=by
 subst e
 exact⟨.bl k,H,I,rfl,q⟩
theorem cL:kh X (compareOp .Eq) rEq:=by
 intro pins s σ H x y v u Q I rx ry h
 obtain⟨hs,q⟩:=h
 cases x with
 | b9=>
  cases rx
  cases y with
  | b9=>cases ry;exact PySem.EqNone.eq_none_none (bI I q (by simp))
  | bl j=>cases ry;exact PySem.EqNone.eq_none_bool (bI I q (by simp))
  | int j=>obtain⟨t',rfl⟩:=ry;exact PySem.EqNone.eq_none_int (bI I q (by simp))
  | str j=>obtain⟨t',rfl⟩:=ry;exact PySem.EqNone.eq_none_str (bI I q (by simp))
  | _=>exact absurd (show false=true from hs) aaw
 | bl i=>
  cases rx
  cases y with
  | b9=>cases ry;exact PySem.EqNone.eq_bool_none (bI I q (by simp))
  | bl j=>cases ry;exact eq_bool (bI I q zE)
  | str j=>obtain⟨t',rfl⟩:=ry;exact PySem.EqMixed.eq_bool_str (bI I q (by simp))
  | _=>exact absurd (show false=true from hs) aaw
 | int i=>
  obtain⟨t,rfl⟩:=rx
  cases y with
  | b9=>cases ry;exact PySem.EqNone.eq_int_none (bI I q (by simp))
  | int j=>obtain⟨t',rfl⟩:=ry;exact eq_int (bI I q wM)
  | str j=>obtain⟨t',rfl⟩:=ry;exact PySem.EqMixed.eq_int_str (bI I q (by simp))
  | _=>exact absurd (show false=true from hs) aaw
 | str i=>
  obtain⟨t,rfl⟩:=rx
  cases y with
  | b9=>cases ry;exact PySem.EqNone.eq_str_none (bI I q (by simp))
  | bl j=>cases ry;exact PySem.EqMixed.eq_str_bool (bI I q (by simp))
  | int j=>obtain⟨t',rfl⟩:=ry;exact PySem.EqMixed.eq_str_int (bI I q (by simp))
  | str j=>obtain⟨t',rfl⟩:=ry;exact eq_str (bI I q wN)
  | _=>exact absurd (show false=true from hs) aaw
 | zf i=>
  obtain⟨t,rfl⟩:=rx
  cases y with
  | zf j=>obtain⟨t',rfl⟩:=ry;exact PySem.W.eq_bytes (bI I q wO)
  | _=>exact absurd (show false=true from hs) aaw
 | _=>cases y <;>exact absurd (show false=true from hs) aaw
theorem iU:kh X (compareOp .NotEq) rNe:=by
 intro pins s σ H x y v u Q I rx ry h
 obtain⟨hs,q⟩:=h
 cases x with
 | b9=>
  cases rx
  cases y with
  | b9=>cases ry;exact PySem.EqNone.ne_none_none (bI I q (by simp))
  | bl j=>cases ry;exact PySem.EqNone.ne_none_bool (bI I q (by simp))
  | int j=>obtain⟨t',rfl⟩:=ry;exact PySem.EqNone.ne_none_int (bI I q (by simp))
  | str j=>obtain⟨t',rfl⟩:=ry;exact PySem.EqNone.ne_none_str (bI I q (by simp))
  | _=>exact absurd (show false=true from hs) aaw
 | bl i=>
  cases rx
  cases y with
  | b9=>cases ry;exact PySem.EqNone.ne_bool_none (bI I q (by simp))
  | bl j=>cases ry;exact ne_bool (bI I q (congrArg not zE))
  | str j=>obtain⟨t',rfl⟩:=ry;exact PySem.EqMixed.ne_bool_str (bI I q (by simp))
  | _=>exact absurd (show false=true from hs) aaw
 | int i=>
  obtain⟨t,rfl⟩:=rx
  cases y with
  | b9=>cases ry;exact PySem.EqNone.ne_int_none (bI I q (by simp))
  | int j=>obtain⟨t',rfl⟩:=ry;exact ne_int (bI I q (congrArg not wM))
  | str j=>obtain⟨t',rfl⟩:=ry;exact PySem.EqMixed.ne_int_str (bI I q (by simp))
  | _=>exact absurd (show false=true from hs) aaw
 | str i=>
  obtain⟨t,rfl⟩:=rx
  cases y with
  | b9=>cases ry;exact PySem.EqNone.ne_str_none (bI I q (by simp))
  | bl j=>cases ry;exact PySem.EqMixed.ne_str_bool (bI I q (by simp))
  | int j=>obtain⟨t',rfl⟩:=ry;exact PySem.EqMixed.ne_str_int (bI I q (by simp))
  | str j=>obtain⟨t',rfl⟩:=ry;exact ne_str (bI I q (congrArg not wN))
  | _=>exact absurd (show false=true from hs) aaw
 | zf i=>
  obtain⟨t,rfl⟩:=rx
  cases y with
  | zf j=>obtain⟨t',rfl⟩:=ry;exact PySem.W.ne_bytes (bI I q (congrArg not wO))
  | _=>exact absurd (show false=true from hs) aaw
 | _=>cases y <;>exact absurd (show false=true from hs) aaw
theorem nP:kh X (compareOp .Lt) (rI0 λi j=>.bl (decide (i<j))):=IC λ_ _ _ _ _ _ _ q=>lt_int q
theorem jD:kh X (compareOp .Gt) (rI0 λi j=>.bl (decide (j<i))):=IC λ_ _ _ _ _ _ _ q=>gt_int q
theorem vA:kh X (compareOp .Is) (λx y H Q=>y=.b9/\Q (.bl (decide (x=.b9))) H):=by
 intro pins s σ H x y v u Q I rx ry h
 obtain⟨rfl,q⟩:=h
 cases ry
 refine is_none_gen (bI I q ?_)
 cases x <;>first
  | (cases rx;rfl)
  | (obtain⟨t,rfl⟩:=rx;rfl)
theorem wQ:kh X (compareOp .IsNot) (λx y H Q=>y=.b9/\Q (.bl (!decide (x=.b9))) H):=by
 intro pins s σ H x y v u Q I rx ry h
 obtain⟨rfl,q⟩:=h
 cases ry
 refine isnot_none_gen (bI I q ?_)
 cases x <;>first
  | (cases rx;rfl)
  | (obtain⟨t,rfl⟩:=rx;rfl)
theorem aS (b:Expr) {op:CmpOp} (h:op≠.In:=by decide) (h2:op≠.NotIn:=by decide):behindInMarks op b=false:=by
 have e1:(op==CmpOp.In)=false:=by cases op <;>first | rfl | exact absurd rfl h
 have e2:(op==CmpOp.NotIn)=false:=by cases op <;>first | rfl | exact absurd rfl h2
 cases b <;>simp [behindInMarks,e1,e2]
theorem iD {op:CmpOp} {r:R2} (ho:kh X (compareOp op) r) (ha:PE X a ta) (hb:PE X b tb) (hm:behindInMarks op b=false):PE X (.Compare a [op] [b] pos) (tOp r ta tb):=by
 intro pins s σ H Q I h
 exact wpAny_Compare1 (Fl ha hb I h λv u s2 x y H2 I2 rx ry q=>ho pins s2 σ H2 x y v u Q I2 rx ry q) hm
noncomputable def tTest (t:TE):TT:=λσ H Q=>t σ H λx H'=>∃k,x=.bl k/\Q k H'
theorem aO {op:CmpOp} {r:R2} (ho:kh X (compareOp op) r) (ha:PE X a ta) (hb:PE X b tb) (hm:behindInMarks op b=false):PT X (.Compare a [op] [b] pos) (tTest (tOp r ta tb)):=by
 intro pins s σ H Q I h
 refine wpAny_isTrue_Compare1 (cB (ha pins s σ H _ I h) λv s1 ⟨x,H1,I1,r1,q1⟩=>cB (hb pins s1 σ H1 _ I1 q1) λu s2 ⟨y,H2,I2,r2,q2⟩=>
  cB (ho pins s2 σ H2 x y v u _ I2 r1 r2 q2) λc s3 ⟨z,H3,I3,r3,k,e,q3⟩=>?_) hm
 subst e
 cases r3
 exact wpAny_truthy_bool ⟨H3,I3,q3⟩
noncomputable def tChain (r r':R2) (ta tb tc:TE):TE:=λσ H Q=>ta σ H λx H1=>tb σ H1 λy H2=>r x y H2 λz H3=>∃k,z=.bl k/\
 (if k=true then tc σ H3 λw' H4=>r' y w' H4 Q else Q (.bl false) H3)
theorem nQ:(sizeLine:Nat)<2^63:=by rw[sizeLine_eq];decide
theorem vals1 {x:V} {us:List Value} (r:bz [x] us):∃u,us=[u]/\RelV x u:=by
 cases r with
 | cons r1 r2=>cases r2;exact⟨_,rfl,r1⟩
theorem vals2 {x y:V} {us:List Value} (r:bz [x,y] us):∃u w',us=[u,w']/\RelV x u/\RelV y w':=by
 cases r with
 | cons r1 r2=>
  cases r2 with
  | cons r3 r4=>cases r4;exact⟨_,_,rfl,r1,r3⟩
theorem nR:cQ X (.builtin "abs") (λxs H Q=>∃i,xs=[.int i]/\Q (.int (if i<0 then -i else i)) H):=by
 intro pins s σ H xs us Q I r h
 obtain⟨i,rfl,q⟩:=h
 obtain⟨u,rfl,t,rfl⟩:=vals1 r
 exact call_abs_int λu tk=>⟨.int (if i<0 then -i else i),H,I.tok _,⟨_,rfl⟩,q⟩
end
end L2
namespace L2
open PySem PySem.Spec PyProof.Rows
structure vB (h:Heap) (x dx C:Addr) (mA:Str->Option Value):Prop where
 obj:h.get? x=some (PySem.W.instObj C dx)
 ns:h.Ns1 dx mA
 ne:dx≠x
set_option tactic.hygienic true in
theorem yv {h:Heap} {dx:Addr} {mA:Str->Option Value} (n:h.Ns1 dx mA):∃od,h.get? dx=some od/\∀name,PySem.W.lookIn name od=some (mA name):=by
 obtain⟨o,es,ep,ho,hd,hk,_,hm⟩:=n
 refine⟨o,ho,λname=>?_⟩
 have e:=hm name
 unfold nsFind findBy at e
 rw[<-Array.find?_toList] at e
 unfold PySem.W.lookIn
 rw[hd]
 dsimp only
 split
 ·rename_i y q
  rw[q] at e
  exact congrArg some e
 ·rename_i q
  rw[q] at e
  have a:es.toList.any (·.refKey)=false:=by
   rw[List.any_eq_false]
   intro y hy
   obtain⟨z,t,ML⟩:=hk y (Array.mem_toList_iff.mp hy)
   simp [DictEntry.refKey,ML]
  have a':¬es.toList.any (·.refKey)=true:=by rw[a];exact aaw
  rw[if_neg a']
  exact congrArg some e
theorem vB.look {h:Heap} {x dx C:Addr} {mA:Str->Option Value} (I:vB h x dx C mA):∃od,PySem.W.InstAt h x (PySem.W.instObj C dx) C (some od)/\∀name,PySem.W.lookIn name od=some (mA name):=
 let ⟨od,ho,hl⟩:=yv I.ns
 ⟨od,⟨I.obj,rfl,rfl,ho⟩,hl⟩
section
variable {prog : Program} {w : World} {A : Around} {E : Value -> Shared -> Prop} {s : Shared} {K : PySem.W.Frag} {x dx C f : Addr} {mA : Str -> Option Value} {name : Str} {v : Value}
theorem get_map {expr:Bool} {Q:Value->Shared->Prop} (X:K.In s.heap) (I:vB s.heap x dx C mA) (hg:PySem.W.plainGet K C name=true) (hh:PySem.W.hasDictIn K C=true)
  (ha:PySem.W.findIn K (.ref C) name=some none) (hv:mA name=some v) (Fo:PySem.W.handedIn v=true) (h:Q v {s with toks:=s.toks+1}):
  wpAny (model prog w) A (getAttr (.ref x) name expr) Q E s:=by
 obtain⟨od,J,hl⟩:=I.look
 exact PySem.W.get_value X J (PySem.W.plainGet_of hg).1 (PySem.W.findObj_own hh ha rfl (by rw[hl,hv])) Fo h
theorem zF {pl:Sem Bool} {Q:Value×List Value->Shared->Prop} (X:K.In s.heap) (I:vB s.heap x dx C mA) (hg:PySem.W.plainGet K C name=true)
  (hf:PySem.W.findIn K (.ref C) name=some (some (.ref f))) (ht:PySem.W.isFn K (.ref f)=true) (hv:mA name=none) (h:Q (.ref f,[.ref x]) s):
  wpAny (model prog w) A (getMethod (.ref x) name pl) Q E s:=by
 obtain⟨od,J,hl⟩:=I.look
 exact PySem.W.method_fn X J (PySem.W.plainGet_of hg).1 (PySem.W.plainGet_of hg).2 hf (beq_iff_eq.mp ht) (by show(PySem.W.lookIn name od).map (·.isSome)=some false;rw[hl,hv];rfl) h
theorem CI {ns:List Str} {Q:Unit->Shared->Prop} (X:K.In s.heap) (I:vB s.heap x dx C mA)
  (hs:PySem.W.findIn K (.ref C) "__setattr__"=some (some (.builtin "object.__setattr__"))) (hp:PySem.W.plainOver K C=true) (ht:PySem.W.takerIn K C name=some none) (hh:PySem.W.hasDictIn K C=true)
  (hw:PySem.Within mA ns) (hsz:ns.length<=sizeLine)
  (h:∀h',vB h' x dx C (λy=>if y=name then some v else mA y)->Heap.SameBut dx s.heap h'->Q () {s with heap:=h',toks:=s.toks+2}):
  wpAny (model prog w) A (setAttr (.ref x) name v) Q E s:=by
 obtain⟨od,J,hl⟩:=I.look
 refine PySem.W.set_plain X J hs (PySem.W.osa_open (s:={s with toks:=s.toks+1}) (r:=none) X J hp ht λb=>?_)
 obtain⟨cd,hc,Iu⟩:=PySem.W.any_some hh
 have hx:s.heap.get? x=some ⟨.ref C,some dx,.plain,#[]⟩:=I.obj
 refine wpAny_bind (wpAny_pure (wpAny_bind (wpAny_bind (wpAny_loadPart hx (wpAny_bind (PySem.W.Looks.here (s:={s with toks:=s.toks+1}) (PySem.W.looks_clsIn X hc) ?_))))))
 rw[Iu]
 refine wpAny_pure (a:=some dx) (wpAny_bind (wpAny_pure (wpAny_bind ?_)))
 refine wpAny_nsSet1 (s:={s with toks:=s.toks+1}) I.ns λh' LL Ep=>?_
 obtain⟨oD,esD,epD,XR,XS,XT⟩:=LL.count (PySem.Within.cons name v hw)
 refine wpAny_bind (wpAny_lookBehind XR (by rw[XS];exact pastItsLine_dict (aap XT (by rw[aaq];omega))) ?_)
 exact wpAny_pure (h _ ⟨(Ep.2 _ (Ne.symm I.ne)).trans I.obj,LL,I.ne⟩ Ep)
theorem zG {R:Result->Shared->Prop} {vs:List Value} {kw:List (Str×Value)} (X:K.In s.heap) (hm:PySem.W.makesIn K C=true)
  (hi:PySem.W.findIn K (.ref C) "__init__"=some (some (.ref f))) (hf:PySem.W.typeIn K (.ref f)=some (.type "function"))
  (h:codeAny (model prog w) (A.under (.builtin "type.__call__" ⟨.ref C::vs,kw⟩)) (.call (.ref f) ⟨.ref (s.heap.objs.size+1)::vs,kw⟩) (PySem.W.InitBack (s.heap.objs.size+1) R)
   {s with heap:=(s.heap.push PySem.W.emptyDict).push (PySem.W.instObj C s.heap.objs.size)}):
  codeAny (model prog w) A (.call (.ref C) ⟨vs,kw⟩) R s:=by
 obtain⟨hh,g,d,t,os⟩:=s
 exact PySem.W.make_core (PySem.W.makes_of X hm) (PySem.W.looks_findIn X hi) (λself=>PySem.W.bind_fn X self hf) (.inl rfl) h
end
noncomputable def iP (f:Str) (v:V):List (Str×V)->List (Str×V)
 | []=>[(f,v)]
 | (g,x)::r=>if g=f then (g,v)::r else (g,x)::iP f v r
theorem kX (f g:Str) (v:V):∀fs:List (Str×V),(iP f v fs).lookup g=if g=f then some v else fs.lookup g
 | []=>by
  show List.lookup g [(f,v)]=_
  by_cases h:g=f
  ·have hb:(g==f)=true:=beq_iff_eq.mpr h
   simp only[List.lookup,hb,if_pos h]
  ·have hb:(g==f)=false:=beq_eq_false_iff_ne.mpr h
   simp only[List.lookup,hb,if_neg h]
 | (k,x)::r=>by
  have ih:=kX f g v r
  rw[show iP f v ((k,x)::r)=(if k=f then (k,v)::r else (k,x)::iP f v r) from rfl]
  by_cases hk:k=f
  ·rw[if_pos hk]
   by_cases h:g=k
   ·have hb:(g==k)=true:=beq_iff_eq.mpr h
    simp only[List.lookup,hb,if_pos (h.trans hk)]
   ·have hb:(g==k)=false:=beq_eq_false_iff_ne.mpr h
    simp only[List.lookup,hb,if_neg (λe:g=f=>h (e.trans hk.symm))]
  ·rw[if_neg hk]
   by_cases h:g=k
   ·have hb:(g==k)=true:=beq_iff_eq.mpr h
    simp only[List.lookup,hb,if_neg (λe:g=f=>hk (h.symm.trans e))]
   ·have hb:(g==k)=false:=beq_eq_false_iff_ne.mpr h
    simp only[List.lookup,hb]
    exact ih
theorem kj (f:Str) (v:V):∀fs:List (Str×V),f∈(iP f v fs).map (·.1)/\∀g,g∈fs.map (·.1)->g∈(iP f v fs).map (·.1)
 | []=>⟨by simp [iP],λg h=>by simp at h⟩
 | (k,x)::r=>by
  obtain⟨i1,i2⟩:=kj f v r
  rw[show iP f v ((k,x)::r)=(if k=f then (k,v)::r else (k,x)::iP f v r) from rfl]
  by_cases hk:k=f
  ·rw[if_pos hk]
   subst hk
   exact⟨by simp,λg h=>by simpa using h⟩
  ·rw[if_neg hk]
   refine⟨?_,λg h=>?_⟩
   ·rw[aaz]
    exact aaj _ i1
   ·rw[aaz] at h ⊢
    rcases List.mem_cons.mp h with e | e
    ·exact List.mem_cons.mpr (.inl e)
    ·exact aaj _ (i2 g e)
theorem kY (f:Str) (v:V):∀fs:List (Str×V),(iP f v fs).length<=fs.length+1
 | []=>by simp [iP]
 | (k,x)::r=>by
  have ih:=kY f v r
  rw[show iP f v ((k,x)::r)=(if k=f then (k,v)::r else (k,x)::iP f v r) from rfl]
  by_cases hk:k=f
  ·rw[if_pos hk,aaq,aaq];omega
  ·rw[if_neg hk,aaq,aaq];omega
theorem iN.some_of {v:V} {o:Option Value} (r:iN (some v) o):∃u,o=some u/\RelV v u:=by
 cases o with
 | none=>exact(show False from r).elim
 | some u=>exact⟨u,rfl,r⟩
theorem iN.none_of {o:Option Value} (r:iN none o):o=none:=by
 cases o with
 | none=>rfl
 | some u=>exact(show False from r).elim
theorem yw {v:V} {u:Value} (r:RelV v u):PySem.W.handedIn u=true:=by
 cases v with
 | b9=>cases (show u=Value.none from r);rfl
 | bl b=>cases (show u=Value.bool b from r);rfl
 | int i=>obtain⟨t,e⟩:=(show ∃t,u=Value.int i t from r);cases e;rfl
 | str x=>obtain⟨t,e⟩:=(show ∃t,u=Value.str x t from r);cases e;rfl
 | zf b=>obtain⟨t,e⟩:=(show ∃t,u=Value.bytes b t from r);cases e;rfl
 | E8 b=>obtain⟨t,e⟩:=(show ∃t,u=Value.float b t from r);cases e;rfl
 | ref a=>cases (show u=Value.ref a from r);rfl
 | ty n=>cases (show u=Value.type n from r);rfl
section
variable {P : Program} {w : World} {H H' : Hp} {h h' : Heap} {a C dx : Addr} {fs XF : List (Str × V)}
theorem mV (bT:gX P w H h) (e:H a=some (.ins C dx fs)):∃mA,vB h a dx C mA/\(∀f,iN (fs.lookup f) (mA f))/\PySem.Within mA (fs.map (·.1))/\fs.length<=1000/\H dx=some (.own a):=by
 obtain⟨d,z,ne,ob,mA,n,r,q⟩:=(show cw P w H h a (.ins C dx fs) from bT a _ e)
 exact⟨mA,⟨ob,n,ne⟩,r,q,z,d⟩
end
structure yy (K:PySem.W.Frag) (C:Addr):Prop where
 pg:PySem.W.plainGet K C Str.empty=true
 hd:PySem.W.hasDictIn K C=true
 po:PySem.W.plainOver K C=true
 sa:PySem.W.findIn K (.ref C) "__setattr__"=some (some (.builtin "object.__setattr__"))
theorem yy.get {K:PySem.W.Frag} {C:Addr} (c:yy K C) (f:Str):PySem.W.plainGet K C f=true:=c.pg
noncomputable def km (K:PySem.W.Frag) (C:Addr) (f:Str):Prop:=PySem.W.findIn K (.ref C) f=some none
theorem km.ID {K:PySem.W.Frag} {C:Addr} {f:Str} (n:km K C f):PySem.W.takerIn K C f=some none:=by
 unfold PySem.W.takerIn
 rw[show PySem.W.findIn K (.ref C) f=some none from n]
 rfl
structure Con (K:PySem.W.Frag) (C:Addr) (f:Str) (v:V) (u:Value):Prop where
 at_:PySem.W.findIn K (.ref C) f=some (some u)
 rel:RelV v u
 get:PySem.W.specialIn K u "__get__"=some none
 cp:PySem.W.copiedNames.contains f=false
structure zH (K:PySem.W.Frag) (C:Addr) (m:Str) (f:Addr):Prop where
 at_:PySem.W.findIn K (.ref C) m=some (some (.ref f))
 fn:PySem.W.isFn K (.ref f)=true
 kp:PySem.W.keepIn K (.ref f)=true
section
variable {X : Cx} {pins : List (Addr × Obj)} {σ : St} {H : Hp} {s : Shared} {a C dx : Addr} {fs : List (Str × V)} {f : Str} {v : V} {A : Around} {E : Value -> Shared -> Prop}
theorem vC {b:Bool} {Q:Value->Shared->Prop} (I:Inv X pins σ H s) (e:H a=some (.ins C dx fs)) (c:yy X.K C) (n:km X.K C f) (l:fs.lookup f=some v)
  (h:∀u s',Inv X pins σ H s'->RelV v u->Q u s'):wpAny (model X.prog X.w) A (getAttr (.ref a) f b) Q E s:=by
 obtain⟨mA,O,r,_,_,_⟩:=mV I.bT e
 obtain⟨u,hu,ru⟩:=iN.some_of (v:=v) (o:=mA f) (by rw[<-l];exact r f)
 exact get_map I.lU O (c.get f) c.hd n hu (yw ru) (h u _ (I.tok _) ru)
theorem nS {m:Str} {g:Addr} {pl:Sem Bool} {Q:Value×List Value->Shared->Prop} (I:Inv X pins σ H s) (e:H a=some (.ins C dx fs)) (c:yy X.K C) (k:zH X.K C m g) (l:fs.lookup m=none)
  (h:Q (.ref g,[.ref a]) s):wpAny (model X.prog X.w) A (getMethod (.ref a) m pl) Q E s:=by
 obtain⟨mA,O,r,_,_,_⟩:=mV I.bT e
 have hn:mA m=none:=iN.none_of (by rw[<-l];exact r m)
 exact zF I.lU O (c.get m) k.at_ k.fn hn h
theorem vD {y:V} {u:Value} {Q:Unit->Shared->Prop} (I:Inv X pins σ H s) (e:H a=some (.ins C dx fs)) (c:yy X.K C) (n:km X.K C f) (hl:fs.length<1000) (ry:RelV y u)
  (h:∀s',Inv X pins σ (upd H a (.ins C dx (iP f y fs))) s'->Q () s'):wpAny (model X.prog X.w) A (setAttr (.ref a) f u) Q E s:=by
 obtain⟨mA,O,r,wi,_,ho⟩:=mV I.bT e
 have hz:(fs.map (·.1)).length<=sizeLine:=by rw[aac,sizeLine_eq];omega
 refine CI I.lU O c.sa c.po n.ID c.hd wi hz λh' O' sb=>h _ ?_
 have hd:∃o,h'.get? dx=some o:=let ⟨o,_,_,e',_⟩:=O'.ns;⟨o,e'⟩
 refine I.write (x:=a) (e:=dx) (by rw[e];exact True.intro) (.inr ho) (λb q hb z=>(sb.2 b hb).trans z) hd ?_
 refine⟨by rw[aJ O.ne];exact ho,?_,O.ne,O'.obj,_,O'.ns,λg=>?_,λg hg=>?_⟩
 ·have:=kY f y fs;omega
 ·show iN ((iP f y fs).lookup g) (if g=f then some u else mA g)
  rw[kX]
  by_cases q:g=f
  ·rw[if_pos q,if_pos q];exact ry
  ·rw[if_neg q,if_neg q];exact r g
 ·by_cases q:g=f
  ·rw[q];exact(kj f y fs).1
  ·refine(kj f y fs).2 g (wi g λz=>hg ?_)
   show(if g=f then some u else mA g)=none
   rw[if_neg q];exact z
theorem Inv.made (I:Inv X pins σ H s):Inv X pins σ (upd (upd H s.heap.objs.size (.own (s.heap.objs.size+1))) (s.heap.objs.size+1) (.ins C s.heap.objs.size []))
  {s with heap:=(s.heap.push PySem.W.emptyDict).push (PySem.W.instObj C s.heap.objs.size)}:=by
 have e1:(s.heap.push PySem.W.emptyDict).get? s.heap.objs.size=some PySem.W.emptyDict:=Heap.get?_push_size s.heap rfl
 have e2:((s.heap.push PySem.W.emptyDict).push (PySem.W.instObj C s.heap.objs.size)).get? (s.heap.objs.size+1)=some (PySem.W.instObj C s.heap.objs.size):=by
  have:=Heap.get?_push_size (s.heap.push PySem.W.emptyDict) (o:=PySem.W.instObj C s.heap.objs.size) rfl
  rwa [Heap.size_push] at this
 have e3:(s.heap.push PySem.W.emptyDict).Ns s.heap.objs.size (λ_=>none):=⟨PySem.W.emptyDict,#[],_,e1,rfl,(λe he=>absurd he (by simp)),λ_=>rfl⟩
 have I1:=I.laid (a:=s.heap.objs.size) (o:=.own (s.heap.objs.size+1)) (h':=s.heap.push PySem.W.emptyDict) (t':=s.toks) (λb u q=>Heap.get?_push_of_some _ q) (aah _) ⟨_,e1⟩
 refine I1.laid (a:=s.heap.objs.size+1) (o:=.ins C s.heap.objs.size []) (t':=s.toks) (λb u q=>Heap.get?_push_of_some _ q) (Nat.le_of_eq (Heap.size_push _ _)) ?_
 have ne:s.heap.objs.size≠s.heap.objs.size+1:=aao (aaM _)
 refine⟨by rw[aJ ne,ar],aas _,ne,e2,λ_=>none,(Heap.Ns1.of_empty e3).at λo q=>Heap.get?_push_of_some _ q,λ_=>True.intro,λy hy=>absurd rfl hy⟩
theorem CJ {prog:Program} {w:World} {env:Env} {e:Expr} {f:Str} {pos:Pos} {s:Shared} {Q:Value->Shared->Prop} (hb:attributeBase e f env (eval e env)=eval e env)
  (h:wpAny (model prog w) A (eval e env) (λo s₁=>wpAny (model prog w) A (getAttr o f true) Q E s₁) E s):wpAny (model prog w) A (eval (.Attribute e f pos) env) Q E s:=
 Attribute_any_ h (by rw[arm_eval_Attribute,hb])
end
noncomputable def lX (K:PySem.W.Frag) (ta:TE) (f:Str):TE:=λσ H Q=>ta σ H λx H1=>∃a C dx fs v,x=.ref a/\H1 a=some (.ins C dx fs)/\yy K C/\km K C f/\fs.lookup f=some v/\Q v H1
noncomputable def IE (K:PySem.W.Frag) (ta tv:TE) (f:Str):TS:=λD σ H=>tv σ H λy H1=>ta σ H1 λx H2=>∃a C dx fs,x=.ref a/\H2 a=some (.ins C dx fs)/\yy K C/\km K C f/\fs.length<1000/\
 D.nx σ (upd H2 a (.ins C dx (iP f y fs)))
section
variable {X : Cx} {o e value : Expr} {f : Str} {pos pos' lV : Pos} {ta tv : TE}
theorem d4 (he:PE X e ta) (hb:attributeBase e f X.env (eval e X.env)=eval e X.env):PE X (.Attribute e f pos) (lX X.K ta f):=by
 intro pins s σ H Q I h
 refine CJ hb (cB (he pins s σ H _ I h) λu s1 cU=>?_)
 obtain⟨x,H1,I1,rx,a,C,dx,fs,v,ex,ea,c,n,l,q⟩:=cU
 subst ex
 obtain rfl:u=Value.ref a:=rx
 exact vC I1 ea c n l λu' s2 I2 ru=>⟨v,H1,I2,ru,q⟩
theorem zI (ha:PE X o ta) (hv:PE X value tv) (hs:swapsWith value (some (.Attribute o f pos')) pos.line X.env=pure false):PS X (.Assign [.Attribute o f pos'] value pos) (IE X.K ta tv f):=by
 intro pins s σ H D I h
 refine plainObj_wpAny_Assign_Attribute (cB (hv pins s σ H _ I h) λu s1 ⟨y,H1,I1,ry,q⟩=>cB (ha pins s1 σ H1 _ I1 q) λov s2 cU=>?_) hs
 obtain⟨x,H2,I2,rx,a,C,dx,fs,ex,ea,c,n,l,q2⟩:=cU
 subst ex
 obtain rfl:ov=Value.ref a:=rx
 exact vD I2 ea c n l ry λs3 I3=>⟨σ,_,I3,q2⟩
end
section
variable {X : Cx} {pins : List (Addr × Obj)} {σ : St} {H : Hp} {s : Shared} {A : Around} {E : Value -> Shared -> Prop} {Q : Value -> Shared -> Prop} {c : Value} {b : Bool}
inductive fc (K:PySem.W.Frag) (H:Hp):V->Value->Prop where
 | b9:fc K H .b9 (.type "NoneType")
 | bl (x:Bool):fc K H (.bl x) (.type "bool")
 | int (i:Int):fc K H (.int i) (.type "int")
 | str (x:Str):fc K H (.str x) (.type "str")
 | E8 (x:UInt64):fc K H (.E8 x) (.type "float")
 | lst {a:Addr} {xs:List V} (e:H a=some (.lst xs)):fc K H (.ref a) (.type "list")
 | tq {a:Addr} {o:Obj} {xs:List V} (e:H a=some (.tq o (.lst xs))):fc K H (.ref a) (.type "list")
 | tup {a:Addr} {xs:List V} (e:H a=some (.tup xs)):fc K H (.ref a) (.type "tuple")
 | dK {a:Addr} {kvs:List (Key×V)} (e:H a=some (.dK kvs)):fc K H (.ref a) (.type "dict")
 | dT {a:Addr} {kvs:List (List Key×V)} (e:H a=some (.dT kvs)):fc K H (.ref a) (.type "dict")
 | ins {a C dx:Addr} {fs:List (Str×V)} (e:H a=some (.ins C dx fs)) (cl:yy K C) (ha:PySem.W.findIn K (.ref C) "__class__"=some (some (.builtin "object.__class__")))
   (hn:PySem.W.specialIn K (.builtin "object.__class__") "__get__"=some (some (.builtin "getset_descriptor.__get__"))) (VG:PySem.W.takesIn K (.builtin "object.__class__")=some true)
   (hm:PySem.W.mroIn K C (.type "object")=some true):fc K H (.ref a) (.ref C)
theorem yz {x:V} {u t:Value} (I:Inv X pins σ H s) (rx:RelV x u) (ty:fc X.K H x t) (e:PySem.W.kitOne X.K t c=some b) (h:∀tk,Q (.bool b) {s with toks:=tk}):
  wpAny (model X.prog X.w) A (call (.builtin "isinstance") [u,c]) Q E s:=by
 cases ty with
 | b9=>cases (show u=Value.none from rx);exact aa5 PySem.W.kitx_none I.lU True.intro e (λz=>nomatch z) h
 | bl y=>cases (show u=Value.bool y from rx);exact aa5 PySem.W.kitx_bool I.lU True.intro e (λz=>nomatch z) h
 | int i=>obtain⟨t,q⟩:=(show ∃t,u=Value.int i t from rx);cases q;exact aa5 PySem.W.kitx_int I.lU True.intro e (λz=>nomatch z) h
 | str y=>obtain⟨t,q⟩:=(show ∃t,u=Value.str y t from rx);cases q;exact aa5 PySem.W.kitx_str I.lU True.intro e (λz=>nomatch z) h
 | E8 y=>obtain⟨t,q⟩:=(show ∃t,u=Value.float y t from rx);cases q;exact aa5 PySem.W.kitx_float I.lU True.intro e (λz=>nomatch z) h
 | @lst a xs ea=>
  cases (show u=Value.ref a from rx)
  obtain⟨_,_,n,_,h1⟩:=(show cw X.prog X.w H s.heap a (.lst xs) from I.bT a _ ea)
  exact aa5 PySem.W.kitx_list I.lU ⟨_,h1,rfl⟩ e (λz=>nomatch z) h
 | @tq a ob xs ea=>
  cases (show u=Value.ref a from rx)
  obtain⟨_,_,_,n,_,h1⟩:=(show cw X.prog X.w H s.heap a (.tq ob (.lst xs)) from I.bT a _ ea)
  exact aa5 PySem.W.kitx_list I.lU ⟨_,h1,rfl⟩ e (λz=>nomatch z) h
 | @tup a xs ea=>
  cases (show u=Value.ref a from rx)
  obtain⟨_,_,_,p⟩:=(show cw X.prog X.w H s.heap a (.tup xs) from I.bT a _ ea)
  obtain⟨o,h1,h2,_⟩:=p
  exact aa5 PySem.W.kitx_tuple I.lU ⟨o,h1,h2⟩ e (λz=>nomatch z) h
 | @dK a kvs ea=>
  cases (show u=Value.ref a from rx)
  obtain⟨_,_,vs,_,p⟩:=(show cw X.prog X.w H s.heap a (.dK kvs) from I.bT a _ ea)
  obtain⟨o,es,ep,h1,h2,_⟩:=p
  exact aa5 PySem.W.kitx_dict I.lU ⟨o,h1,h2.1⟩ e (λz=>nomatch z) h
 | @dT a kvs ea=>
  cases (show u=Value.ref a from rx)
  obtain⟨_,_,xs,_,o,es,ep,h1,h2,_⟩:=(show cw X.prog X.w H s.heap a (.dT kvs) from I.bT a _ ea)
  exact aa5 PySem.W.kitx_dict I.lU ⟨o,h1,h2.1⟩ e (λz=>nomatch z) h
 | @ins a C dx fs ea cl ha hn VG hm=>
  cases (show u=Value.ref a from rx)
  obtain⟨mA,O,_⟩:=mV I.bT ea
  obtain⟨od,J,_⟩:=O.look
  exact aa5 (PySem.W.kitx_own (cl.get _) cl.hd ha hn VG hm) I.lU J e (λz=>nomatch z) h
end
end L2
namespace L2
open PySem PySem.Spec PyProof.Rows
structure dc (k:Nat) (A:Around):Prop where
 hd:A.handled=none
 dp:A.depth+3*k+5<recursionLimit
 un:A.units+16*k+200<cLine
theorem dc.mono {j k:Nat} {A:Around} (r:dc k A) (h:j<=k):dc j A:=⟨r.hd,by have:=r.dp;omega,by have:=r.un;omega⟩
theorem dc.deeper {k:Nat} {A:Around} (r:dc (k+1) A) (env:Env):dc k (A.deeper env):=
 ⟨r.hd,by have:=r.dp;show A.depth+1+3*k+5<_;omega,by have:=r.un;show A.units+3+16*k+200<_;omega⟩
theorem vE {A:Around} {C:Addr} {us:List Value} {kw:List (Str×Value)}:(A.under (.builtin "type.__call__" ⟨.ref C::us,kw⟩)).depth=A.depth+1:=by
 first | rfl | simp [Around.under,Code.weight,Code.isCreation,Code.isGuard,Code.isCaller,Code.frames,Code.isFrame,guardIds]
theorem vF {A:Around} {C:Addr} {us:List Value} {kw:List (Str×Value)}:(A.under (.builtin "type.__call__" ⟨.ref C::us,kw⟩)).units=A.units+1:=by
 first | rfl | simp [Around.under,Code.cUnits,Code.frames,Code.isFrame]
theorem dc.make {k:Nat} {A:Around} (r:dc (k+1) A) (C:Addr) (us:List Value) (kw:List (Str×Value)):dc k (A.under (.builtin "type.__call__" ⟨.ref C::us,kw⟩)):=
 ⟨r.hd,by have:=r.dp;rw[vE];omega,by have:=r.un;rw[vF];omega⟩
theorem dc.depth {k:Nat} {A:Around} (r:dc k A):A.depth<recursionLimit:=by have:=r.dp;omega
theorem dc.units {k:Nat} {A:Around} (r:dc k A):A.units+64<cLine:=by have:=r.un;omega
theorem dc.vG {k:Nat} {A:Around} (r:dc k A):A.units<cLine:=by have:=r.un;omega
noncomputable def tNil:TA:=λ_ H Q=>Q [] H
noncomputable def tCons (ta:TE) (tr:TA):TA:=λσ H Q=>ta σ H λx H1=>tr σ H1 λxs H2=>Q (x::xs) H2
section
variable {X : Cx} {e : Expr} {es : List Expr} {te : TE} {t : TA} {pos : Pos}
theorem ag:PA X [] tNil:=λ_ _ _ _ H Q I h=>Calls.spliced_nil ⟨[],H,I,.nil,h⟩
theorem aa (ha:PE X e te) (hr:PA X es t) (hs:starEach (e::es) X.env=(false,eval e X.env)::starEach es X.env:=by rfl):PA X (e::es) (tCons te t):=by
 intro pos pins s σ H Q I h
 rw[hs]
 show wpAny _ _ (spliced ((false,eval e X.env)::backTo pos (starEach es X.env))) _ _ s
 refine Calls.spliced_cons (cB (ha pins s σ H _ I h) λu s1 cU=>?_)
 obtain⟨x,H1,I1,r1,q1⟩:=cU
 exact cB (hr pos pins s1 σ H1 _ I1 q1) λus s2 ⟨xs,H2,I2,r2,q2⟩=>⟨x::xs,H2,I2,.cons r1 r2,q2⟩
noncomputable def tLst (t:TA):TE:=λσ H Q=>t σ H λxs H1=>xs.length<=sizeLine/\∀p,H1 p=none->Q (.ref p) (upd H1 p (.lst xs))
theorem cV (h:PA X es t):PE X (.List es pos) (tLst t):=by
 intro pins s σ H Q I hq
 refine wpAny_List_spliced (cB (h pos pins s σ H _ I hq) λus s1 ⟨xs,H1,I1,r,z,q⟩=>⟨by rw[<-r.length];exact z,?_⟩)
 have hf:H1 s1.heap.objs.size=none:=I1.bT.fresh (aah _)
 refine⟨.ref s1.heap.objs.size,upd H1 s1.heap.objs.size (.lst xs),I1.laid (t':=s1.toks) (λb u e=>Heap.get?_push_of_some _ e) (aah _) ?_,rfl,q _ hf⟩
 exact⟨z,us,0,r,Heap.get?_push_size _ rfl⟩
end
abbrev Sp:=List V->Hp->VK->XK->Prop
abbrev kr:=List Env->Hp->Shared->XK->Value->Shared->Prop
structure vH (P:Program) (w:World) (K:PySem.W.Frag) (mg:Str->Option Value) (base:Heap) (A:Around) (outer:List Env) (s:Shared) (H:Hp):Prop where
 frames:A.frames=some outer
 mod:Mod K mg base
 bs:∀b o,base.get? b=some o->s.heap.get? b=some o/\H b=none
 zt:base.objs.size<=s.heap.objs.size
 kc:s.heap.FunFrames base outer
 Eg:∀b∈tI outer,H b=none
 bT:gX P w H s.heap
 bare:AllBare s.gens
noncomputable def CE (outer:List Env) (P:Program) (w:World) (H:Hp) (s:Shared) (Q:VK) (u:Value) (s':Shared):Prop:=
 ∃v H',s'.os=s.os/\AllBare s'.gens/\Un (tI outer) [] H H' s.heap s'.heap/\gX P w H' s'.heap/\RelV v u/\Q v H'
noncomputable def CR (CX:kr) (outer:List Env) (P:Program) (w:World) (H:Hp) (s:Shared) (Q:VK) (E:XK) (r:Result) (s':Shared):Prop:=
 match r with
 | .ok (.ret u)=>CE outer P w H s Q u s'
 | .ok _=>False
 | .error e=>CX outer H s E e s'
structure eD (P:Program) (w:World) (K:PySem.W.Frag) (mg:Str->Option Value) (base:Heap) (CX:kr) (k:Nat) (f:Addr) (fd:FuncData) (ps:List Str) (sp:Sp):Prop where
 len:∀vs H Q E,sp vs H Q E->vs.length=ps.length
 run:∀(A:Around) (outer:List Env) (s:Shared) (H:Hp) (args:Args) (us:List Value) (vs:List V) (Q:VK) (E:XK),dc k A->vH P w K mg base A outer s H->BindsTo s fd args (ps.zip us)->bz vs us->sp vs H Q E->
  codeAny (model P w) A (.call (.ref f) args) (CR CX outer P w H s Q E) s
theorem eD.mono {P:Program} {w:World} {K:PySem.W.Frag} {mg:Str->Option Value} {base:Heap} {CX:kr} {j k:Nat} {f:Addr} {fd:FuncData} {ps:List Str} {sp:Sp} (F:eD P w K mg base CX j f fd ps sp) (h:j<=k):
  eD P w K mg base CX k f fd ps sp:=⟨F.len,λA outer s H args us vs Q E hr=>F.run A outer s H args us vs Q E (hr.mono h)⟩
theorem vH.make {P:Program} {w:World} {K:PySem.W.Frag} {mg:Str->Option Value} {base:Heap} {A:Around} {outer:List Env} {s:Shared} {H:Hp} (e:vH P w K mg base A outer s H) (C:Addr) (us:List Value) (kw:List (Str×Value)):
  vH P w K mg base (A.under (.builtin "type.__call__" ⟨.ref C::us,kw⟩)) outer s H:=⟨by first | exact e.frames | (simpa [Around.under,Code.envs,Code.isFrame,pushEnvs] using e.frames),e.mod,e.bs,e.zt,e.kc,e.Eg,e.bT,e.bare⟩
section
variable {X : Cx} {pins : List (Addr × Obj)} {σ : St} {H : Hp} {s s' : Shared}
theorem Inv.IF (I:Inv X pins σ H s):vH X.prog X.w X.K X.mg X.base X.A X.stack s H:=
 ⟨I.ok.frames,I.ok.mod,I.bs,aap I.ok.zt I.sz,I.stack,I.wL,I.bT,I.bare⟩
theorem Inv.after {Q:VK} {u:Value} (I:Inv X pins σ H s) (h:CE X.stack X.prog X.w H s Q u s'):EP X pins σ Q u s':=by
 obtain⟨v,H',os,bare,un,bT,r,q⟩:=h
 obtain⟨hh,g,d,t,XU⟩:=s'
 obtain rfl:XU=s.os:=os
 exact⟨v,H',I.call (h':=hh) (g':=g) (d':=d) (t':=t) (ch:=[]) un bT bare (λb z=>absurd z (by simp)),r,q⟩
end
noncomputable def tCall (sp:Sp) (pJ:List V) (E:XK) (t:TA):TE:=λσ H Q=>t σ H λvs H1=>sp (vs++pJ) H1 Q E
noncomputable def qd (C:Addr) (m:Str) (sp:Sp) (pJ:List V) (E:XK) (ta:TE) (t:TA):TE:=λσ H Q=>ta σ H λx H1=>∃a dx fs,x=.ref a/\H1 a=some (.ins C dx fs)/\fs.lookup m=none/\
 t σ H1 λvs H2=>sp (x::(vs++pJ)) H2 Q E
noncomputable def tN (C:Addr) (sp:Sp) (pJ:List V) (E:XK) (t:TA):TE:=λσ H Q=>t σ H λvs H1=>∀x dx,H1 x=none->H1 dx=none->dx≠x->
 sp (.ref x::(vs++pJ)) (upd (upd H1 dx (.own x)) x (.ins C dx [])) (λv H2=>v=.b9/\Q (.ref x) H2) E
noncomputable def Binds (K:PySem.W.Frag) (fd:FuncData) (ps:List Str) (ds:List Value):Prop:=
 ∀(s:Shared) (us:List Value),K.In s.heap->(us++ds).length=ps.length->BindsTo s fd ⟨us,[]⟩ (ps.zip (us++ds))
theorem Binds.all {K:PySem.W.Frag} {fd:FuncData} {ps:List Str} (h:∀us:List Value,us.length=ps.length->bindArgs fd ⟨us,[]⟩=pure (ps.zip us)):Binds K fd ps []:=λs us _ hl=>by
 rw[aaY] at hl ⊢
 exact .of_eq (h us hl)
noncomputable def eN (CX:kr) (X:Cx) (E:XK):Prop:=∀(pins:List (Addr×Obj)) (σ:St) (H:Hp) (s:Shared) (e:Value) (s':Shared),Inv X pins σ H s->CX X.stack H s E e s'->X.xe e s'
section
variable {X : Cx} {CX : kr} {k : Nat} {f C : Addr} {fd : FuncData} {ps : List Str} {sp : Sp} {pJ : List V} {ds : List Value} {E : XK} {x m : Str} {p pos apos : Pos} {e o : Expr} {es : List Expr} {ta : TE} {t : TA}
theorem vI {pins:List (Addr×Obj)} {σ:St} {H:Hp} {s:Shared} {Q:VK} {us:List Value} {vs:List V} (F:eD X.prog X.w X.K X.mg X.base CX k f fd ps sp) (hr:dc k X.A) (hb:Binds X.K fd ps ds) (hd:bz pJ ds) (hx:eN CX X E)
  (I:Inv X pins σ H s) (r:bz vs us) (h:sp (vs++pJ) H Q E):wpAny (model X.prog X.w) X.A (call (.ref f) us) (EP X pins σ Q) X.xe s:=by
 have r2:bz (vs++pJ) (us++ds):=r.append hd
 have hl:(us++ds).length=ps.length:=by rw[<-r2.length];exact F.len _ _ _ _ h
 refine wpAny_call (codeAny_mono (F.run X.A X.stack s H ⟨us,[]⟩ (us++ds) (vs++pJ) Q E hr I.IF (hb s us I.lU hl) r2 h) λr s' hq=>?_)
 cases r with
 | error e=>exact hx pins σ H s e s' I hq
 | ok fl=>
  cases fl with
  | ret u=>exact I.after hq
  | next=>exact False.elim hq
  | brk=>exact False.elim hq
  | cont=>exact False.elim hq
theorem CK (F:eD X.prog X.w X.K X.mg X.base CX k f fd ps sp) (hr:dc k X.A) (hg:Gl X x) (hm:X.mg x=some (.ref f)) (hk:PySem.W.keepIn X.K (.ref f)=true) (hb:Binds X.K fd ps ds) (hd:bz pJ ds) (hx:eN CX X E)
  (ha:PA X (e::es) t) (zJ:(x==("__debug__":Str))=false:=by decide) (he:starEach (e::es) X.env=(false,eval e X.env)::starEach es X.env:=by rfl) (hpl:(backTo pos (starEach es X.env)).any (·.1)=false:=by rfl):
  PE X (.Call (.Name x p) (e::es) [] pos) (tCall sp pJ E t):=by
 intro pins s σ H Q I h
 refine wpAny_Call_Name_kw (qU I hg hm ?_ zJ)
 refine PySem.W.callWith_K (h₀:=X.base) I.ok.mod.Ir hk (cB (ha pos pins s σ H _ I h) λus s1 ⟨vs,H1,I1,r,q⟩=>⟨I1.lU,?_⟩) he hpl
 exact vI F hr hb hd hx I1 r q
theorem CL {pl:Sem Bool} (he:PE X o ta) (c:yy X.K C) (hm:zH X.K C m f) (F:eD X.prog X.w X.K X.mg X.base CX k f fd ps sp) (hr:dc k X.A) (hb:Binds X.K fd ps ds) (hd:bz pJ ds) (hx:eN CX X E) (ha:PA X (e::es) t)
  (hst:starEach (e::es) X.env=(false,eval e X.env)::starEach es X.env:=by rfl) (hpl:(backTo pos (starEach es X.env)).any (·.1)=false:=by rfl)
  (ht:eval (.Call (.Attribute o m apos) (e::es) [] pos) X.env=(do
   let ov <-eval o X.env
   standAt apos.atName
   let (f,first) <-holding [ov] (getMethod ov m pl)
   callWith pos f first (backTo pos (starEach (e::es) X.env)) (backToKw pos (keywordEach [] X.env))):=by rfl):
  PE X (.Call (.Attribute o m apos) (e::es) [] pos) (qd C m sp pJ E ta t):=by
 intro pins s σ H Q I h
 refine PySem.W.methodCall_KW (pl:=pl) (cB (he pins s σ H _ I h) λu s1 cU=>?_) ht
 obtain⟨x,H1,I1,rx,a,dx,fs,ex,ea,l,q⟩:=cU
 subst ex
 obtain rfl:u=Value.ref a:=rx
 refine nS I1 ea c hm l ?_
 refine PySem.W.callWith_K (first:=[.ref a]) (h₀:=X.base) I.ok.mod.Ir hm.kp (cB (ha pos pins s1 σ H1 _ I1 q) λus s2 ⟨vs,H2,I2,r,q2⟩=>⟨I2.lU,?_⟩) hst hpl
 exact vI (us:=.ref a::us) (vs:=.ref a::vs) F hr hb hd hx I2 (.cons rfl r) q2
theorem zK {pl:Sem Bool} (he:PE X o ta) (c:yy X.K C) (hm:zH X.K C m f) (F:eD X.prog X.w X.K X.mg X.base CX k f fd ps sp) (hr:dc k X.A) (hb:Binds X.K fd ps ds) (hd:bz pJ ds) (hx:eN CX X E)
  (ht:eval (.Call (.Attribute o m apos) [] [] pos) X.env=(do
   let ov <-eval o X.env
   standAt apos.atName
   let (f,first) <-holding [ov] (getMethod ov m pl)
   callWith pos f first (backTo pos (starEach [] X.env)) (backToKw pos (keywordEach [] X.env))):=by rfl):
  PE X (.Call (.Attribute o m apos) [] [] pos) (qd C m sp pJ E ta tNil):=by
 intro pins s σ H Q I h
 refine PySem.W.methodCall_KW (pl:=pl) (cB (he pins s σ H _ I h) λu s1 cU=>?_) ht
 obtain⟨x,H1,I1,rx,a,dx,fs,ex,ea,l,q⟩:=cU
 subst ex
 obtain rfl:u=Value.ref a:=rx
 refine nS I1 ea c hm l ?_
 exact PySem.W.callWith_K0 (first:=[.ref a]) I1.lU hm.kp (vI (us:=[.ref a]) (vs:=[.ref a]) F hr hb hd hx I1 (.cons rfl .nil) q)
structure Mk (K:PySem.W.Frag) (C f:Addr):Prop where
 makes:PySem.W.makesIn K C=true
 init:PySem.W.findIn K (.ref C) "__init__"=some (some (.ref f))
 fn:PySem.W.isFn K (.ref f)=true
 kp:PySem.W.keepIn K (.ref C)=true
theorem zL {pins:List (Addr×Obj)} {σ:St} {H:Hp} {s:Shared} {Q:VK} {us:List Value} {vs:List V} (M:Mk X.K C f) (F:eD X.prog X.w X.K X.mg X.base CX k f fd ps sp) (hr:dc (k+1) X.A) (hb:Binds X.K fd ps ds) (hd:bz pJ ds)
  (hx:eN CX X E) (I:Inv X pins σ H s) (r:bz vs us)
  (h:∀x dx,H x=none->H dx=none->dx≠x->sp (.ref x::(vs++pJ)) (upd (upd H dx (.own x)) x (.ins C dx [])) (λv H2=>v=.b9/\Q (.ref x) H2) E):
  wpAny (model X.prog X.w) X.A (call (.ref C) us) (EP X pins σ Q) X.xe s:=by
 have hq:=h (s.heap.objs.size+1) s.heap.objs.size (I.bT.fresh (Nat.le_succ _)) (I.bT.fresh (aah _)) (aao (aaM _))
 have I2:=Inv.made (C:=C) I
 have r2:bz (V.ref (s.heap.objs.size+1)::(vs++pJ)) (Value.ref (s.heap.objs.size+1)::(us++ds)):=.cons rfl (r.append hd)
 have hl:(Value.ref (s.heap.objs.size+1)::us++ds).length=ps.length:=by
  have e:=r2.length
  rw[F.len _ _ _ _ hq] at e
  exact e.symm
 refine wpAny_call (zG (f:=f) I.lU M.makes M.init (beq_iff_eq.mp M.fn) (codeAny_mono (F.run _ X.stack _ _ ⟨Value.ref (s.heap.objs.size+1)::us,[]⟩ (Value.ref (s.heap.objs.size+1)::(us++ds)) _ _ E (hr.make C us [])
  (I2.IF.make C us []) (hb _ (Value.ref (s.heap.objs.size+1)::us) I2.lU hl) r2 hq) λr s' IG=>?_))
 cases r with
 | error e=>exact hx pins σ _ _ e s' I2 IG
 | ok fl=>
  cases fl with
  | ret u=>
   obtain⟨v,H',I3,rv,ev,q3⟩:=I2.after IG
   subst ev
   exact⟨rv,⟨V.ref (s.heap.objs.size+1),H',I3,rfl,q3⟩⟩
  | next=>exact False.elim IG
  | brk=>exact False.elim IG
  | cont=>exact False.elim IG
theorem CM (M:Mk X.K C f) (F:eD X.prog X.w X.K X.mg X.base CX k f fd ps sp) (hr:dc (k+1) X.A) (hg:Gl X x) (hm:X.mg x=some (.ref C)) (hb:Binds X.K fd ps ds) (hd:bz pJ ds) (hx:eN CX X E)
  (ha:PA X (e::es) t) (zJ:(x==("__debug__":Str))=false:=by decide) (he:starEach (e::es) X.env=(false,eval e X.env)::starEach es X.env:=by rfl) (hpl:(backTo pos (starEach es X.env)).any (·.1)=false:=by rfl):
  PE X (.Call (.Name x p) (e::es) [] pos) (tN C sp pJ E t):=by
 intro pins s σ H Q I h
 refine wpAny_Call_Name_kw (qU I hg hm ?_ zJ)
 refine PySem.W.callWith_K (h₀:=X.base) I.ok.mod.Ir M.kp (cB (ha pos pins s σ H _ I h) λus s1 ⟨vs,H1,I1,r,q⟩=>⟨I1.lU,?_⟩) he hpl
 exact zL M F hr hb hd hx I1 r q
end
section
variable {X : Cx} {CX : kr} {k : Nat} {f C : Addr} {fd : FuncData} {ps ks : List Str} {sp : Sp} {E : XK} {x m : Str} {p pos apos XW : Pos} {e o : Expr} {es : List Expr} {kws : List Keyword} {te ta : TE} {t tk : TA} {nm : Option Str}
structure MM (K:PySem.W.Frag) (fd:FuncData) (ps ks:List Str) (g:List Value->List Value->List Value) (gV:List V->List V->List V):Prop where
 to:∀(s:Shared) (us ws:List Value),K.In s.heap->(g us ws).length=ps.length->BindsTo s fd ⟨us,ks.zip ws⟩ (ps.zip (g us ws))
 rel:∀{vs:List V} {us:List Value} {zs:List V} {ws:List Value},bz vs us->bz zs ws->bz (gV vs zs) (g us ws)
variable {g : List Value -> List Value -> List Value} {gV : List V -> List V -> List V}
end
structure aQ (N P:List Str) (sc:Scope):Prop where
 kind:sc.kind=.function
 co:sc.isCoroutine=false
 gen:sc.isGenerator=false
 nd:N.Nodup
 pre:N.take P.length=P
 par:∀x∈P,sc.names.lookup x=some .local\/sc.names.lookup x=some .cell
 Fp:∀y∈sc.names,y.2≠.free
theorem qe {kindOf:Str->Option NameKind} {x:Str}:∀{binds:List (Str×Value)} {m:Str->Option Value},(∀v,(x,v)∉binds)->bindL kindOf binds m x=m x
 | [],_,_=>rfl
 | (n,v)::r,m,h=>by
  unfold bindL
  rw[qe λw hw=>h w (aaj _ hw)]
  split
  ·have:x≠n:=by rintro rfl;exact h v aai
   simp [this]
  ·rfl
theorem qg {kindOf:Str->Option NameKind} {x:Str}:∀{binds:List (Str×Value)} {m:Str->Option Value},(∀v,(x,v)∉binds)->bindC kindOf binds m x=m x
 | [],_,_=>rfl
 | (n,v)::r,m,h=>by
  unfold bindC
  rw[qg λw hw=>h w (aaj _ hw)]
  split
  ·rfl
  ·have:x≠n:=by rintro rfl;exact h v aai
   simp [this]
theorem qh {kindOf:Str->Option NameKind} {x:Str} {v:Value}:∀{P:List Str} {vs:List Value} {i:Nat} {m:Str->Option Value},P.Nodup->P[i]?=some x->vs[i]?=some v->kindOf x=some .local->
  bindL kindOf (P.zip vs) m x=some v
 | [],_,_,_,_,h,_,_=>by simp at h
 | _::_,[],_,_,_,_,h,_=>by simp at h
 | p::P,w::vs,0,m,nd,h1,h2,hk=>by
  simp at h1 h2;subst h1;subst h2
  show bindL kindOf ((p,w)::P.zip vs) m p=_
  unfold bindL
  rw[qe λv hv=>(List.nodup_cons.mp nd).1 (List.of_mem_zip hv).1,if_pos hk]
  simp
 | p::P,w::vs,i+1,m,nd,h1,h2,hk=>by
  show bindL kindOf ((p,w)::P.zip vs) m x=_
  unfold bindL
  exact qh (i:=i) (List.nodup_cons.mp nd).2 (by simpa using h1) (by simpa using h2) hk
theorem qk {kindOf:Str->Option NameKind} {x:Str} {v:Value}:∀{P:List Str} {vs:List Value} {i:Nat} {m:Str->Option Value},P.Nodup->P[i]?=some x->vs[i]?=some v->kindOf x≠some .local->
  bindC kindOf (P.zip vs) m x=some v
 | [],_,_,_,_,h,_,_=>by simp at h
 | _::_,[],_,_,_,_,h,_=>by simp at h
 | p::P,w::vs,0,m,nd,h1,h2,hk=>by
  simp at h1 h2;subst h1;subst h2
  show bindC kindOf ((p,w)::P.zip vs) m p=_
  unfold bindC
  rw[qg λv hv=>(List.nodup_cons.mp nd).1 (List.of_mem_zip hv).1,if_neg hk]
  simp
 | p::P,w::vs,i+1,m,nd,h1,h2,hk=>by
  show bindC kindOf ((p,w)::P.zip vs) m x=_
  unfold bindC
  exact qk (i:=i) (List.nodup_cons.mp nd).2 (by simpa using h1) (by simpa using h2) hk
noncomputable def start (N:List Str) (vs:List V):St:=vs.map some++List.replicate (N.length - vs.length) none
noncomputable def vJ (CX:kr) (P:Program) (w:World) (K:PySem.W.Frag) (mg:Str->Option Value) (base:Heap) (N:List Str) (qual:Str) (scope:Scope) (f:Addr) (cd:Value) (A:Around) (outer:List Env) (s:Shared) (H:Hp) (E:XK):Cx where
 prog:=P
 w:=w
 K:=K
 mg:=mg
 base:=base
 A:=A.deeper (envOfC qual scope s.heap.objs.size f cd)
 N:=N
 s₀:=s
 H₀:=H
 env:=envOfC qual scope s.heap.objs.size f cd
 outer:=outer
 stack:=envOfC qual scope s.heap.objs.size f cd::outer
 ex:=[]
 calm:=true
 fn:=λ_=>true
 pn:=[]
 xe:=λe s'=>wpAny (model P w) (A.deeper (envOfC qual scope s.heap.objs.size f cd)) (leaving (envOfC qual scope s.heap.objs.size f cd) e) (λ_ Fq=>CX outer H s E e Fq) (λe' Fq=>CX outer H s E e' Fq) s'
theorem tO {sc:Scope} {n:Nat} {x:Str} (h:sc.names.lookup x=some .cell):∃c,(cellsFrom n sc.names []).lookup x=some c:=by
 have q:=PySem.W.cellsFrom_some sc.names n [] (.inl h)
 exact Option.isSome_iff_exists.mp q
theorem yA {CX:kr} {P:Program} {w:World} {K:PySem.W.Frag} {mg:Str->Option Value} {base:Heap} {N ps:List Str} {qual:Str} {scope:Scope} {f:Addr} {cd:Value} {A:Around} {outer:List Env} {s s1:Shared} {H:Hp} {E:XK} {us:List Value} {vs:List V}
  (S:aQ N ps scope) (hd:A.handled=none) (e0:vH P w K mg base A outer s H) (hl:vs.length=ps.length) (r:bz vs us)
  (x:InCallC s s.heap.objs.size (bindL (envOfC qual scope s.heap.objs.size f cd).kindOf (ps.zip us) λ_=>none) (cellsFrom (s.heap.objs.size+1) scope.names []) (bindC (envOfC qual scope s.heap.objs.size f cd).kindOf (ps.zip us) λ_=>none) s1):
  Inv (vJ CX P w K mg base N qual scope f cd A outer s H E) [] (start N vs) H s1:=by
 have hpl:ps.length<=N.length:=by have:=congrArg List.length S.pre;rw[aaZ] at this;omega
 obtain⟨h1,tk,rfl,hk⟩:=x.done
 have IH:∀b:Addr,b∉(vJ CX P w K mg base N qual scope f cd A outer s H E).ex:=λb z=>absurd (show b∈([]:List Addr) from z) (by simp)
 refine⟨⟨e0.mod,S.kind,rfl,rfl,aah _,λy z c h1 h2=>?_,λy hy=>?_,λy c _ h=>?_,λ_=>hd,Around.frames_deeper e0.frames,.inr ⟨rfl,rfl⟩,λb z=>absurd z (IH b),e0.bs,e0.zt,λb _ _=>IH b,λb z=>absurd z (IH b),e0.kc,e0.Eg⟩,
  rfl,e0.bare,Un.kept hk,⟨_,x.toInCall.ns,λi y v h1 h2 h3=>?_⟩,λy c h=>⟨_,x.cell y c h⟩,e0.bT.fresh (aah _),λy c h=>?_,λp hp=>absurd (show p∈([]:List (Addr×Obj)) from hp) (by simp),e0.bT.kept hk,?_⟩
 ·exact name_of_addr x.apart (aa6 h1) (aa6 h2)
 ·have hy:scope.names.lookup y=some .cell\/scope.names.lookup y=some .free:=hy
  rcases hy with hy | hy
  ·exact tO hy
  ·exact absurd rfl (S.Fp _ (aa6 hy))
 ·exact Nat.le_of_lt (x.above y c (aa6 h))
 ·have hi:i<vs.length:=by
   unfold start at h2
   by_cases hi:i<vs.length
   ·exact hi
   ·rw[aa0 (by simpa using hi)] at h2
    rw[List.getElem?_replicate] at h2
    split at h2 <;>cases h2
  have ha:vs[i]?=some v:=by
   unfold start at h2
   rw[aa1 (by simpa using hi),aaf] at h2
   cases e:vs[i]? with
   | none=>rw[e] at h2;cases h2
   | some a=>rw[e] at h2;cases h2;rfl
  obtain⟨u,hu,rv⟩:=r.get ha
  have hp:ps[i]?=some y:=by
   rw[<-S.pre,List.getElem?_take_of_lt (by omega)];exact h1
  have VH:ps.Nodup:=by rw[<-S.pre];exact S.nd.sublist (List.take_sublist _ _)
  refine⟨u,rv,?_⟩
  rcases S.par y (aag hp) with k | k
  ·exact .inl ⟨k,qh VH hp hu k⟩
  ·obtain⟨c,e⟩:=tO (n:=s.heap.objs.size+1) k
   refine .inr ⟨.inl k,c,e,?_⟩
   have q:=x.cell y c e
   rw[qk VH hp hu (by show scope.names.lookup y≠_;rw[k];decide)] at q
   exact q
 ·exact e0.bT.fresh (Nat.le_of_lt (x.above y c (aa6 h)))
 ·unfold start
  show _=N.length
  rw[aaJ,aac,aba]
  omega
theorem Er {CX:kr} {P:Program} {w:World} {K:PySem.W.Frag} {mg:Str->Option Value} {base:Heap} {k:Nat} {f:Addr} {name qual:Str} {params:Arguments} {body:List Stmt} {scope:Scope} {dV kV doc pm cG ct oc:Value} {an od:Option Addr}
  {zg:Array (Option Value)} {N ps:List Str} {sp:Sp} (lk:K.lookup f=some ⟨oc,od,.func (PySem.W.fnOf name qual params body scope dV kV doc pm an cG ct),zg⟩) (tK:PySem.W.codeIn K cG qual=true) (S:aQ N ps scope)
  (len:∀vs H Q E,sp vs H Q E->vs.length=ps.length)
  (tP:∀(A:Around) (outer:List Env) (s:Shared) (H:Hp) (vs:List V) (Q:VK) (E:XK),dc k (A.deeper (envOfC qual scope s.heap.objs.size f cG))->sp vs H Q E->
   ∃t,vf (vJ CX P w K mg base N qual scope f cG A outer s H E) body t/\t {nx:=λ_ H'=>Q .b9 H',rt:=Q} (start N vs) H):
  eD P w K mg base CX (k+1) f (PySem.W.fnOf name qual params body scope dV kV doc pm an cG ct) ps sp:=by
 refine⟨len,λA outer s H args us vs Q E hr e0 hb r Cm=>?_⟩
 have hl:=len _ _ _ _ Cm
 have KX:K.In s.heap:=e0.mod.Ir.keeps λb o e=>(e0.bs b o e).1
 have lim:s.heap.NoLimit:=e0.mod.nolimit.keeps λb o e=>(e0.bs b o e).1
 have nU:∀y∈ps.zip us,scope.names.lookup y.1=some .local\/(scope.names.lookup y.1=some .cell/\((cellsFrom (s.heap.objs.size+1) scope.names []).lookup y.1).isSome=true):=fun⟨n,v⟩ hy=>by
  rcases S.par n (List.of_mem_zip hy).1 with q | q
  ·exact .inl q
  ·exact .inr ⟨q,PySem.W.cellsFrom_some _ _ _ (.inl q)⟩
 refine codeAny_call_function hr.depth (KX _ _ lk) rfl S.co S.gen rfl (PySem.W.codeRec_of KX tK) (hb _ _ _ _ ?_)
 refine wpAny_newFunctionEnv_cells S.kind nU λenv he s1 x=>?_
 subst he
 refine⟨lim.keeps x.toInCall.keep,codeAny_func ?_⟩
 obtain⟨t,ht,hq⟩:=tP A outer s H vs Q E (hr.deeper _) Cm
 have I:Inv (vJ CX P w K mg base N qual scope f cG A outer s H E) [] (start N vs) H s1:=yA S hr.hd e0 hl r x
 refine wpAny_mono (ht [] s1 (start N vs) H _ I hq) (λfl s' hs=>?_) λe s' hs=>hs
 have fin:∀{σ':St} {H':Hp} {v:V} {u:Value},Inv (vJ CX P w K mg base N qual scope f cG A outer s H E) [] σ' H' s'->RelV v u->Q v H'->CE outer P w H s Q u s':=
  λ{σ' H' v u} J rv q=>⟨v,H',J.os,J.bare,J.base,J.bT,rv,q⟩
 cases fl with
 | ret u=>
  obtain⟨v,σ',H',J,rv,q⟩:=hs
  exact fin J rv q
 | next=>
  obtain⟨σ',H',J,q⟩:=hs
  exact fin (v:=V.b9) (u:=Value.none) J rfl q
 | brk=>
  obtain⟨_,_,_,q⟩:=hs
  exact False.elim q
 | cont=>
  obtain⟨_,_,_,q⟩:=hs
  exact False.elim q
end L2
namespace L2
open PySem PySem.Spec PyProof.Rows
section
variable {X : Cx} {x : Str} {p pos : Pos} {e : Expr} {es : List Expr} {t : TA} {id T : String} {r : List V -> Hp -> VK -> Prop}
noncomputable def tCB (r:List V->Hp->VK->Prop) (t:TA):TE:=λσ H Q=>t σ H λvs H1=>r vs H1 Q
theorem aP (hc:cQ X (.builtin id) r) (hg:Gl X x) (hm:X.mg x=none) (hv:bootBuiltins x=some (.builtin id)) (ha:PA X (e::es) t) (hn:x≠"__name__":=by decide) (zJ:(x==("__debug__":Str))=false:=by decide)
  (he:starEach (e::es) X.env=(false,eval e X.env)::starEach es X.env:=by rfl) (hpl:(backTo pos (starEach es X.env)).any (·.1)=false:=by rfl):PE X (.Call (.Name x p) (e::es) [] pos) (tCB r t):=by
 intro pins s σ H Q I h
 refine wpAny_Call_Name_kw (g8 I hg hm hv ?_ hn zJ)
 exact PyProof.Rows.callWith_builtin1 (cB (ha pos pins s σ H _ I h) λus s1 ⟨vs,H1,I1,r1,q1⟩=>hc pins s1 σ H1 vs us Q I1 r1 q1) he hpl
theorem eG (hc:cQ X (.type T) r) (hg:Gl X x) (hm:X.mg x=none) (hv:bootBuiltins x=some (.type T)) (ha:PA X (e::es) t) (hn:x≠"__name__":=by decide) (zJ:(x==("__debug__":Str))=false:=by decide)
  (he:starEach (e::es) X.env=(false,eval e X.env)::starEach es X.env:=by rfl) (hpl:(backTo pos (starEach es X.env)).any (·.1)=false:=by rfl):PE X (.Call (.Name x p) (e::es) [] pos) (tCB r t):=by
 intro pins s σ H Q I h
 refine wpAny_Call_Name_kw (g8 I hg hm hv ?_ hn zJ)
 exact PyProof.Rows.callWith_type1 (cB (ha pos pins s σ H _ I h) λus s1 ⟨vs,H1,I1,r1,q1⟩=>hc pins s1 σ H1 vs us Q I1 r1 q1) he hpl
end
end L2
namespace HT
open PySem PyProof.Rows
section
open PySem.SeqAt
open PySem.AutoSeq1 (wpAny_loadPart')
open PySem.MeetsSeq PySem.MeetsSeq2 PySem.MeetsSeq3
end
section
variable {prog : Program} {w : World} {A : Around} {E : Value -> Shared -> Prop} {s : Shared}
noncomputable def tQ (n d:Nat):Option Int->Nat
 | none=>d
 | some v=>if v<0 then (v+ (n:Int)).toNat else min v.toNat n
theorem zM (n d:Nat):tQ n d none=d:=rfl
theorem CN (n d k:Nat):tQ n d (some (k:Int))=min k n:=by
 show(if (k:Int)<0 then ((k:Int)+ (n:Int)).toNat else min (k:Int).toNat n)=min k n
 rw[if_neg (by omega),aak]
end
end HT
namespace L2
open PySem PySem.Spec PyProof.Rows
abbrev TO:=St->Hp->(Option Int->Hp->Prop)->Prop
noncomputable def PO (X:Cx) (e:Option Expr) (t:TO):Prop:=
 ∀(pins:List (Addr×Obj)) (s:Shared) (σ:St) (H:Hp) (Q:Option Int->Hp->Prop),Inv X pins σ H s->t σ H Q->
  wpAny (model X.prog X.w) X.A (evalPart e X.env) (λu s'=>∃o H',Inv X pins σ H' s'/\IsPart u o/\Q o H') X.xe s
noncomputable def tNoPart:TO:=λ_ H Q=>Q none H
noncomputable def tPart (t:TE):TO:=λσ H Q=>t σ H λx H1=>∃i,x=.int i/\Q (some i) H1
theorem intsAre_of {ns:List Int}:∀{us:List Value},bz (ns.map V.int) us->IntsAre us ns:=by
 induction ns with
 | nil=>intro us r;rw[aa2] at r;cases r;exact .nil
 | cons n ns ih=>
  intro us r
  rw[aaz] at r
  cases r with
  | cons r1 r2=>
   obtain⟨t,e⟩:=r1
   subst e
   exact .cons n t (ih r2)
section
variable {X : Cx} {e : Expr} {te : TE} {lo hi : Option Expr} {tl th : TO} {pos p2 : Pos}
theorem wR:PO X none tNoPart:=by
 intro pins s σ H Q I h
 rw[evalPart_none]
 exact wpAny_pure ⟨none,H,I,.none,h⟩
theorem wU (h:PE X e te):PO X (some e) (tPart te):=by
 intro pins s σ H Q I hw
 rw[evalPart_some]
 refine cB (h pins s σ H _ I hw) λu s1 cU=>?_
 obtain⟨x,H1,I1,r1,q1⟩:=cU
 obtain⟨i,rfl,q⟩:=q1
 obtain⟨t,rfl⟩:=r1
 exact⟨some i,H1,I1,.int i t,q⟩
noncomputable def LM (X:Cx) (r:V->Option Int->Option Int->Hp->VK->Prop):Prop:=
 ∀(pins:List (Addr×Obj)) (s:Shared) (σ:St) (H:Hp) (x:V) (v vl vu:Value) (lo hi:Option Int) (sl:Addr) (Q:VK),Inv X pins σ H s->RelV x v->s.heap.IsSliceOf sl vl vu .none->IsPart vl lo->IsPart vu hi->r x lo hi H Q->
  ∃T id,typeLookup (.type T) "__getitem__"=pure (some (.builtin id))/\s.TypeIs v T/\wpAny (model X.prog X.w) X.A (getItem v (.ref sl)) (EP X pins σ Q) X.xe s
noncomputable def tSl (r:V->Option Int->Option Int->Hp->VK->Prop) (te:TE) (tl th:TO):TE:=λσ H Q=>te σ H λx H1=>tl σ H1 λl H2=>th σ H2 λu H3=>r x l u H3 Q
theorem tR {r:V->Option Int->Option Int->Hp->VK->Prop} (hr:LM X r) (he:PE X e te) (hl:PO X lo tl) (hu:PO X hi th):PE X (.Subscript e (.Slice lo hi none p2) pos) (tSl r te tl th):=by
 intro pins s σ H Q I h
 refine Subscript_ (cB (he pins s σ H _ I h) λv s1 cU=>?_)
 obtain⟨x,H1,I1,r1,q1⟩:=cU
 refine wpAny_Slice (cB (hl pins s1 σ H1 _ I1 q1) λvl s2 ⟨l,H2,I2,pl,q2⟩=>cB (hu pins s2 σ H2 _ I2 q2) λvu s3 cU=>?_)
 obtain⟨u,H3,I3,pu,q3⟩:=cU
 rw[evalPart_none]
 refine wpAny_pure ?_
 have I4:Inv X pins σ H3 {s3 with heap:=s3.heap.push {cls:=.type "slice",data:=.fields #[vl,vu,.none]}}:=I3.kept (t':=s3.toks) λb ob q=>Heap.get?_push_of_some _ q
 obtain⟨T,id,hT,ht,hg⟩:=hr pins {s3 with heap:=s3.heap.push {cls:=.type "slice",data:=.fields #[vl,vu,.none]}} σ H3 x v vl vu l u s3.heap.objs.size Q I4 r1 (Heap.IsSliceOf.new ..) pl pu q3
 show wpAny (model X.prog X.w) X.A (subscriptTail e (.Slice lo hi none p2) v (.ref s3.heap.objs.size)) (EP X pins σ Q) X.xe {s3 with heap:=s3.heap.push {cls:=.type "slice",data:=.fields #[vl,vu,.none]}}
 exact tail_any (ops:=[.ref s3.heap.objs.size,v]) ht hT hg (by with_unfolding_all rfl)
noncomputable def pK (xs:List V) (lo hi:Option Int):List V:=(xs.drop (HT.tQ xs.length 0 lo)).take (HT.tQ xs.length xs.length hi - HT.tQ xs.length 0 lo)
theorem tS (xs:List V) (lo hi:Option Int):(pK xs lo hi).length<=xs.length:=by
 unfold pK
 rw[aaZ,List.length_drop]
 omega
end
end L2
namespace L2
open PySem PySem.Spec PyProof.Rows
noncomputable def wV (n:Nat) (i:Int):Option Nat:=if 0<=i then (if i<n then some i.toNat else none) else if -(n:Int)<=i then some (i+n).toNat else none
noncomputable def eE {α:Type} (xs:List α) (i:Int):Option α:=(wV xs.length i).bind λj=>xs[j]?
theorem wW {n:Nat} {i:Int} {j:Nat} (h:wV n i=some j):seqIndex? i n=some j/\j<n/\-(n:Int)<=i/\i<n:=by
 unfold wV at h
 by_cases h0:0<=i
 ·rw[if_pos h0] at h
  by_cases h1:i<n
  ·rw[if_pos h1] at h
   have e:i.toNat=j:=aaC h
   exact⟨by rw[seqIndex_of h0 h1,e],by omega,by omega,h1⟩
  ·rw[if_neg h1] at h;cases h
 ·rw[if_neg h0] at h
  by_cases h1:-(n:Int)<=i
  ·rw[if_pos h1] at h
   have e:(i+n).toNat=j:=aaC h
   exact⟨by rw[seqIndex_neg (by omega) h1,e],by omega,h1,by omega⟩
  ·rw[if_neg h1] at h;cases h
theorem qX {α:Type} {xs:List α} {i:Int} {v:α} (h:eE xs i=some v):∃j,seqIndex? i xs.length=some j/\xs[j]?=some v/\j<xs.length/\-(xs.length:Int)<=i/\i<xs.length:=by
 unfold eE at h
 cases e:wV xs.length i with
 | none=>rw[e] at h;cases h
 | some j=>
  rw[e] at h
  obtain⟨h1,h2,h3,h4⟩:=wW e
  exact⟨j,h1,h,h2,h3,h4⟩
theorem bE {α:Type} {xs:List α} {j:Nat} {v:α} (h:xs[j]?=some v):eE xs (j:Int)=some v:=by
 have hj:j<xs.length:=(List.getElem?_eq_some_iff.mp h).1
 have e:wV xs.length (j:Int)=some j:=by
  unfold wV
  rw[if_pos (by omega),if_pos (by omega)];simp
 unfold eE;rw[e];exact h
noncomputable def CO (b:Expr):Prop:=∀o i,subscripted b false o i=operate [o,i] (getItem o i)
noncomputable def Es (X:Cx) (r:R2):Prop:=
 ∀(value slice:Expr) (pins:List (Addr×Obj)) (s:Shared) (σ:St) (H:Hp) (x y:V) (v u:Value) (Q:VK),Inv X pins σ H s->RelV x v->RelV y u->r x y H Q->
  subscripted slice false v u=operate [v,u] (getItem v u)->wpAny (model X.prog X.w) X.A (subscriptTail value slice v u) (EP X pins σ Q) X.xe s
noncomputable def Ft (X:Cx) (id:String) (r:V->List V->Hp->VK->Prop):Prop:=
 ∀(pins:List (Addr×Obj)) (s:Shared) (σ:St) (H:Hp) (x:V) (xs:List V) (v:Value) (us:List Value) (Q:VK),Inv X pins σ H s->RelV x v->bz xs us->r x xs H Q->
  wpAny (model X.prog X.w) X.A (call (.builtin id) (v::us)) (EP X pins σ Q) X.xe s
section
variable {X : Cx} {a b : Expr} {ta tb : TE} {pos : Pos}
theorem aD {r:R2} (hr:Es X r) (ha:PE X a ta) (hb:PE X b tb) (hs:CO b):PE X (.Subscript a b pos) (tOp r ta tb):=by
 intro pins s σ H Q I h
 exact Subscript_ (Fl ha hb I h λv u s2 x y H2 I2 rx ry q=>hr a b pins s2 σ H2 x y v u Q I2 rx ry q (hs _ _))
noncomputable def MN (K:PySem.W.Frag):R2:=λx y H Q=>∃p xs i v,x=.ref p/\y=.int i/\bo K H p xs/\eE xs i=some v/\Q v H
noncomputable def MO (K:PySem.W.Frag):R2:=λx y H Q=>∃p xs i v,x=.ref p/\y=.int i/\dZ K H p xs/\eE xs i=some v/\Q v H
theorem wX:Es X (MN X.K):=by
 intro value slice pins s σ H x y v u Q I rx ry h hs
 obtain⟨p,xs,i,z,rfl,rfl,hq,he,q⟩:=h
 cases rx
 obtain⟨t,rfl⟩:=ry
 obtain⟨aV,r,pl,hz⟩:=I.list hq
 obtain⟨j,h1,h2,h3,h4,h5⟩:=qX he
 obtain⟨w,ew,qV⟩:=r.get h2
 have hl:=r.length
 have hn:=nQ
 have fin:EP X pins σ Q w s:=⟨z,H,I,qV,q⟩
 by_cases h0:0<=i
 ·have hj:i.toNat=j:=by
   rw[seqIndex_of h0 h5] at h1
   exact aaC h1
  exact item_listR pl.isList h0 (by omega) (by rw[hj];simpa using ew) fin hs
 ·have hj:(i+ (aV.toArray.size:Int)).toNat=j:=by
   rw[seqIndex_neg (by omega) h4] at h1
   rw[aal,<-hl]
   exact aaC h1
  exact subscriptTail_builtinR (x:=w) pl.isList.typeIs slot_list_getitem.lookup
   (wpAny_getItem_list_neg (Q:=λr s'=>r=w/\EP X pins σ Q r s') pl.isList (by omega) (by rw[aal] <;>omega) (by omega) (by rw[hj];simpa using ew) ⟨rfl,fin⟩) hs
theorem Fu:Es X (MO X.K):=by
 intro value slice pins s σ H x y v u Q I rx ry h hs
 obtain⟨p,xs,i,z,rfl,rfl,hq,he,q⟩:=h
 cases rx
 obtain⟨t,rfl⟩:=ry
 obtain⟨aV,r,pl,hz⟩:=I.tuple hq
 obtain⟨j,h1,h2,h3,h4,h5⟩:=qX he
 obtain⟨w,ew,qV⟩:=r.get h2
 have hl:=r.length
 have hn:=nQ
 have fin:EP X pins σ Q w s:=⟨z,H,I,qV,q⟩
 exact subscriptTail_builtinR (x:=w) pl.typeIs slot_tuple_getitem.lookup
  (getItem_tuple (j:=j) (Q:=λr s'=>r=w/\EP X pins σ Q r s') pl (by omega) (by omega) (by rw[aal,<-hl];exact h1) (by simpa using ew) ⟨rfl,fin⟩) hs
theorem vK (aV:List Value) (n j:Nat) (u:Value):Obj.mapSeq (·.setIfInBounds j u) {cls:=.type "list",data:=.seq aV.toArray n}={cls:=.type "list",data:=.seq (aV.set j u).toArray n}:=by
 simp [Obj.mapSeq]
theorem Inv.lst {pins:List (Addr×Obj)} {σ:St} {H:Hp} {s:Shared} {p:Addr} {xs:List V} (I:Inv X pins σ H s) (h:H p=some (.lst xs)):
  ∃(aV:List Value) (n:Nat),bz xs aV/\s.heap.get? p=some {cls:=.type "list",data:=.seq aV.toArray n}/\xs.length<=sizeLine:=by
 obtain⟨z,aV,n,r,e⟩:=I.bT p _ h
 exact⟨aV,n,r,e,z⟩
theorem Inv.Fv {pins:List (Addr×Obj)} {σ:St} {H:Hp} {s:Shared} {p:Addr} {xs ys:List V} {aV its':List Value} {n n':Nat} {f:Obj->Obj} (I:Inv X pins σ H s) (h:H p=some (.lst xs))
  (ho:s.heap.get? p=some {cls:=.type "list",data:=.seq aV.toArray n}) (hf:f {cls:=.type "list",data:=.seq aV.toArray n}={cls:=.type "list",data:=.seq its'.toArray n'}) (r:bz ys its') (hz:ys.length<=sizeLine) (t:Nat):
  Inv X pins σ (upd H p (.lst ys)) {s with heap:=s.heap.update p f,toks:=t}:=by
 have e:(s.heap.update p f).get? p=some {cls:=.type "list",data:=.seq its'.toArray n'}:=by
  rw[Heap.get?_update_self f ho (by rw[hf] <;>rfl),hf]
 refine I.write (x:=p) (e:=p) (by rw[h];trivial) (.inl rfl) (λb u hb q=>(Heap.get?_update_other _ _ (Ne.symm hb)).trans q) ⟨_,e⟩ ?_
 exact⟨hz,its',n',r,e⟩
noncomputable def rSetL:V->V->V->Hp->(Hp->Prop)->Prop:=λo i v H Q=>∃p xs k j,o=.ref p/\i=.int k/\H p=some (.lst xs)/\wV xs.length k=some j/\Q (upd H p (.lst (xs.set j v)))
theorem set_list:Fg X rSetL:=by
 intro pins s σ H o i v ov iv u Q I ro ri rv h
 obtain⟨p,xs,k,j,rfl,rfl,hp,hj,q⟩:=h
 cases ro
 obtain⟨t,rfl⟩:=ri
 obtain⟨aV,n,r,ho,hz⟩:=I.lst hp
 obtain⟨h1,h2,h3,h4⟩:=wW hj
 have hl:=r.length
 have hn:=nQ
 have I':Inv X pins σ (upd H p (.lst (xs.set j v))) {s with heap:=s.heap.update p (Obj.mapSeq (·.setIfInBounds j u))}:=
  I.Fv hp ho (vK aV n j u) (r.set rv j) (by rw[aaK];exact hz) s.toks
 by_cases h0:0<=k
 ·have hk:k.toNat=j:=by
   rw[seqIndex_of h0 h4] at h1
   exact aaC h1
  exact PySem.W.ki_setAt ho h0 (by omega) (by rw[aal,<-hl];exact h4) (by rw[hk];exact⟨_,I',q⟩)
 ·have hk:(k+ (aV.toArray.size:Int)).toNat=j:=by
   rw[seqIndex_neg (by omega) h3] at h1
   rw[aal,<-hl]
   exact aaC h1
  exact PySem.W.ki_setBack ho (by omega) (by rw[aal,<-hl];exact h3) (by omega) (by rw[hk];exact⟨_,I',q⟩)
theorem qY (lo hi:Option Int) (n:Nat):(sliceBounds lo hi none n).1=((HT.tQ n 0 lo:Nat):Int)/\(sliceBounds lo hi none n).2.1=((HT.tQ n n hi:Nat):Int)/\(sliceBounds lo hi none n).2.2=1:=by
 refine⟨?_,?_,rfl⟩
 ·cases lo with
  | none=>simp [sliceBounds,HT.tQ]
  | some i=>
   simp only[sliceBounds,HT.tQ,Option.getD_none,show(1:Int) >0 by decide,if_true]
   by_cases h:i<0
   ·simp only[h,if_true] <;>omega
   ·simp only[h,if_false] <;>omega
 ·cases hi with
  | none=>simp [sliceBounds,HT.tQ]
  | some i=>
   simp only[sliceBounds,HT.tQ,Option.getD_none,show(1:Int) >0 by decide,if_true]
   by_cases h:i<0
   ·simp only[h,if_true] <;>omega
   ·simp only[h,if_false] <;>omega
theorem pL (aV:List Value) (lo hi:Option Int):slicePick aV.toArray lo hi none=((aV.drop (HT.tQ aV.length 0 lo)).take (HT.tQ aV.length aV.length hi - HT.tQ aV.length 0 lo)).toArray:=by
 obtain⟨h1,h2,h3⟩:=qY lo hi aV.toArray.size
 unfold slicePick
 rw[h1,h2,h3]
 simp only[sliceRange_one,pick_run,aal] <;>rfl
noncomputable def rSlL (K:PySem.W.Frag):V->Option Int->Option Int->Hp->VK->Prop:=λx lo hi H Q=>∃a xs,x=.ref a/\bo K H a xs/\∀p,H p=none->Q (.ref p) (upd H p (.lst (pK xs lo hi)))
theorem CP:LM X (rSlL X.K):=by
 intro pins s σ H x v vl vu lo hi sl Q I rx hs pl pu h
 obtain⟨a,xs,rfl,hx,q⟩:=h
 cases rx
 obtain⟨aV,r,ht,hz⟩:=I.list hx
 have hlen:=r.length
 refine⟨"list",_,slot_list_getitem.lookup,ht.isList.typeIs,?_⟩
 refine wpAny_getItem_list_slice ht.isList hs pl pu .none (by simp) ?_ (by rw[aal] <;>omega)
 rw[pL,<-hlen]
 refine⟨.ref s.heap.objs.size,_,I.laid (t':=s.toks) (o:=.lst (pK xs lo hi)) (λb ob q=>Heap.get?_push_of_some _ q) (aah _) ?_,rfl,q _ (I.bT.fresh (aah _))⟩
 exact⟨aap (tS xs lo hi) hz,_,0,(r.drop (HT.tQ xs.length 0 lo)).take (HT.tQ xs.length xs.length hi - HT.tQ xs.length 0 lo),Heap.get?_push_size _ rfl⟩
noncomputable def iV:V->Bool
 | .b9=>true
 | .bl _=>true
 | .int _=>true
 | .str _=>true
 | _=>false
noncomputable def Fw:V->V->Bool
 | .b9,.b9=>true
 | .bl a,.bl b=>a==b
 | .bl a,.int b=>(if a then 1 else 0)==b
 | .int a,.bl b=>a==(if b then 1 else 0)
 | .int a,.int b=>a==b
 | .str a,.str b=>a==b
 | _,_=>false
theorem zN {A:Around} {s:Shared} {y x:V} {u v:Value} (ry:RelV y u) (rx:RelV x v) (fy:iV y=true) (fx:iV x=true):SeqAt.EqAt A s u v (Fw y x):=by
 cases y with
 | b9=>
  cases ry
  cases x with
  | b9=>cases rx;exact SeqAt.EqAt.same _
  | bl b=>cases rx;exact SeqAt.EqAt.none_bool b
  | int b=>obtain⟨t,rfl⟩:=rx;exact SeqAt.EqAt.none_int b t
  | str b=>obtain⟨t,rfl⟩:=rx;exact SeqAt.EqAt.none_str b t
  | _=>exact absurd (show false=true from fx) aaw
 | bl a=>
  cases ry
  cases x with
  | b9=>cases rx;exact SeqAt.EqAt.bool_none a
  | bl b=>cases rx;exact SeqAt.EqAt.bool_bool a b
  | int b=>obtain⟨t,rfl⟩:=rx;exact SeqAt.EqAt.bool_int a b t
  | str b=>obtain⟨t,rfl⟩:=rx;exact SeqAt.EqAt.bool_str a b t
  | _=>exact absurd (show false=true from fx) aaw
 | int a=>
  obtain⟨t',rfl⟩:=ry
  cases x with
  | b9=>cases rx;exact SeqAt.EqAt.int_none a t'
  | bl b=>cases rx;exact SeqAt.EqAt.int_bool a t' b
  | int b=>obtain⟨t,rfl⟩:=rx;exact SeqAt.EqAt.int_int a t' b t
  | str b=>obtain⟨t,rfl⟩:=rx;exact SeqAt.EqAt.int_str a t' b t
  | _=>exact absurd (show false=true from fx) aaw
 | str a=>
  obtain⟨t',rfl⟩:=ry
  cases x with
  | b9=>cases rx;exact SeqAt.EqAt.str_none a t'
  | bl b=>cases rx;exact SeqAt.EqAt.str_bool a t' b
  | int b=>obtain⟨t,rfl⟩:=rx;exact SeqAt.EqAt.str_int a t' b t
  | str b=>obtain⟨t,rfl⟩:=rx;exact SeqAt.EqAt.str_str a t' b t
  | _=>exact absurd (show false=true from fx) aaw
 | _=>exact absurd (show false=true from fy) aaw
noncomputable def XX (x:V) (xs:List V):Bool:=xs.any λy=>Fw y x
theorem gu:cQ X (.builtin "len") (λxs H Q=>∃p ys,xs=[.ref p]/\(bo X.K H p ys\/dZ X.K H p ys)/\Q (.int ys.length) H):=by
 intro pins s σ H xs us Q I r h
 obtain⟨p,ys,rfl,hq,q⟩:=h
 obtain⟨u,rfl,rx⟩:=vals1 r
 cases rx
 have hn:=nQ
 rcases hq with hq | hq
 ·obtain⟨aV,r',pl,hz⟩:=I.list hq
  have hlen:=r'.length
  exact Calls.call_len_list pl.isList (by simp only[aal] <;>omega) ⟨.int ys.length,H,I.tok _,⟨s.toks+1,by rw[aal,hlen]⟩,q⟩
 ·obtain⟨aV,r',pl,hz⟩:=I.tuple hq
  have hlen:=r'.length
  exact len_tuple pl (by simp only[aal] <;>omega) ⟨.int ys.length,H,I.tok _,⟨s.toks+1,by rw[aal,hlen]⟩,q⟩
theorem qZ:cQ X (.type "list") (λxs H Q=>∃p ys,xs=[.ref p]/\(bo X.K H p ys\/dZ X.K H p ys)/\∀l,H l=none->Q (.ref l) (upd H l (.lst ys))):=by
 intro pins s σ H xs us Q I r h
 obtain⟨p,ys,rfl,hq,q⟩:=h
 obtain⟨u,rfl,rx⟩:=vals1 r
 cases rx
 have fin:∀(aV:List Value),bz ys aV->ys.length<=sizeLine->∀(h':Heap) (c':Nat),(∀b o',s.heap.get? b=some o'->h'.get? b=some o')->
   h'.get? s.heap.objs.size=some {cls:=.type "list",dict:=none,data:=.seq aV.toArray c',slots:=#[]}->EP X pins σ Q (.ref s.heap.objs.size) {s with heap:=h'}:=λaV r' hz h' c' kp e=>
  ⟨.ref s.heap.objs.size,_,I.laid (t':=s.toks) kp (aah _) (show cw X.prog X.w _ h' _ (.lst ys) from⟨hz,aV,c',r',e⟩),rfl,q _ (I.bT.fresh (aah _))⟩
 rcases hq with hq | hq
 ·obtain⟨aV,r',pl,hz⟩:=I.list hq
  have hlen:=r'.length
  obtain⟨o,ho,hc,n,hd⟩:=pl.isList
  exact call_list_seq p (.inl rfl) ho hc hd (λh' c' kp e=>fin aV r' hz h' c' kp e) (by simp only[aal] <;>omega)
 ·obtain⟨aV,r',pl,hz⟩:=I.tuple hq
  have hlen:=r'.length
  obtain⟨o,ho,hc,n,hd⟩:=pl
  exact call_list_seq p (.inr rfl) ho hc hd (λh' c' kp e=>fin aV r' hz h' c' kp e) (by simp only[aal] <;>omega)
noncomputable def LN (K:PySem.W.Frag) (T:String) (x:V) (H:Hp):Prop:=match x with
 | .str _=>T="str"
 | .int _=>T="int"
 | .ref p=>(T="list"/\∃xs,bo K H p xs)\/(T="tuple"/\∃o,K.lookup p=some o/\o.cls=.type "tuple"/\o.dict=none)\/
   (T="dict"/\((∃kvs,H p=some (.dK kvs))\/∃kvs,H p=some (.dT kvs)))\/(T="set"/\∃S n,H p=some (.set S n))
 | _=>False
theorem zO {pins:List (Addr×Obj)} {σ:St} {H:Hp} {s:Shared} {T:String} {x:V} {v:Value} (I:Inv X pins σ H s) (r:RelV x v) (ty:LN X.K T x H):
  s.TypeIs v T/\∀a,v=.ref a->∃ob,s.heap.get? a=some ob/\ob.dict=none:=by
 cases x with
 | str z=>
  obtain⟨t,rfl⟩:=r
  cases (show T="str" from ty)
  exact⟨typeIs_str s z t,λ_ e=>nomatch e⟩
 | int i=>
  obtain⟨t,rfl⟩:=r
  cases (show T="int" from ty)
  exact⟨typeIs_int s i t,λ_ e=>nomatch e⟩
 | ref p=>
  cases r
  rcases ty with ⟨rfl,xs,hq⟩ | ⟨rfl,o,hk,hc,hd⟩ | ⟨rfl,hk⟩ | ⟨rfl,S,n,hk⟩
  ·obtain⟨aV,_,pl,_⟩:=I.list hq
   refine⟨pl.isList.typeIs,λa e=>?_⟩
   cases e
   obtain⟨o,n,e,c,hd,_⟩:=pl
   exact⟨o,e,hd⟩
  ·refine⟨⟨o,I.lU p o hk,hc⟩,λa e=>?_⟩
   cases e
   exact⟨o,I.lU _ o hk,hd⟩
  ·have z:∃o,s.heap.get? p=some o/\o.ExactDict:=by
    rcases hk with ⟨kvs,hk⟩ | ⟨kvs,hk⟩
    ·obtain⟨_,_,_,_,o,_,_,e,ex,_⟩:=I.bT p _ hk
     exact⟨o,e,ex⟩
    ·obtain⟨_,_,_,_,o,_,_,e,ex,_⟩:=I.bT p _ hk
     exact⟨o,e,ex⟩
   obtain⟨o,e,ex⟩:=z
   refine⟨⟨o,e,ex.1⟩,λa e2=>?_⟩
   cases e2
   exact⟨o,e,ex.2.1⟩
  ·obtain⟨o,_,_,_,e,ex,_⟩:=I.bT p _ hk
   refine⟨⟨o,e,ex.1⟩,λa e2=>?_⟩
   cases e2
   exact⟨o,e,ex.2.1⟩
 | _=>exact False.elim ty
noncomputable def II (K:PySem.W.Frag) (T:String) (r:V->List V->Hp->VK->Prop) (to:TE):TE:=λσ H Q=>to σ H λx H1=>LN K T x H1/\r x [] H1 Q
noncomputable def tBM (K:PySem.W.Frag) (T:String) (r:V->List V->Hp->VK->Prop) (to:TE) (t:TA):TE:=λσ H Q=>to σ H λx H1=>LN K T x H1/\t σ H1 λxs H2=>r x xs H2 Q
variable {o e : Expr} {es : List Expr} {to : TE} {t : TA} {name : Str} {apos fH : Pos} {T id : String} {r : V -> List V -> Hp -> VK -> Prop}
theorem Fx (pa:PlainAttrs T) (slot:Slot T name id) (MP:typeOf (.builtin id)=pure (.type "method_descriptor")) (hm:Ft X id r) (ho:PE X o to)
  (zP:attributeBase o name X.env (eval o X.env)=eval o X.env:=by rfl) (zQ:(apos.endLine==fH.line)=true:=by rfl):PE X (.Call (.Attribute o name apos) [] [] fH) (II X.K T r to):=by
 intro pins s σ H Q I h
 refine wpAny_Call_method0_late zP zQ (cB (ho pins s σ H _ I h) λv s1 cU=>?_)
 obtain⟨x,H1,I1,r1,ty,q1⟩:=cU
 obtain⟨h1,h2⟩:=zO I1 r1 ty
 exact⟨T,id,pa,slot,MP,h1,h2,Calls.callWith_builtin rfl (PySem.evalArgs_none (hm pins s1 σ H1 x [] v [] Q I1 r1 .nil q1))⟩
theorem fi (pa:PlainAttrs T) (slot:Slot T name id) (MP:typeOf (.builtin id)=pure (.type "method_descriptor")) (hm:Ft X id r) (ho:PE X o to) (ha:PA X (e::es) t)
  (zP:attributeBase o name X.env (eval o X.env)=eval o X.env:=by rfl)
  (MQ:((backTo fH (starEach (e::es) X.env)).all (λx=>!x.1) && (backToKw fH (keywordEach [] X.env)).all (λx=>x.1.isSome)
   && decide ((e::es).length+ ([]:List Keyword).length+ (if ([]:List Keyword).isEmpty then 0 else 1)<30))=true:=by rfl)
  (zQ:(apos.endLine==fH.line)=true:=by rfl) (hs:starEach (e::es) X.env=(false,eval e X.env)::starEach es X.env:=by rfl) (Fy:(backTo fH (starEach es X.env)).any (·.1)=false:=by rfl):
  PE X (.Call (.Attribute o name apos) (e::es) [] fH) (tBM X.K T r to t):=by
 intro pins s σ H Q I h
 refine wpAny_Call_method_late zP MQ zQ rfl (cB (ho pins s σ H _ I h) λv s1 cU=>?_)
 obtain⟨x,H1,I1,r1,ty,q1⟩:=cU
 obtain⟨h1,h2⟩:=zO I1 r1 ty
 refine⟨T,id,pa,slot,MP,h1,h2,?_⟩
 have hA:=ha fH pins s1 σ H1 _ I1 q1
 rw[hs] at hA ⊢
 refine Calls.callWith_builtin (by show(false || (backTo fH (starEach es X.env)).any (·.1))=false;rw[Fy] <;>rfl) (Calls.evalArgs_plain ?_)
 exact cB hA λus s2 ⟨vs,H2,I2,r2,q2⟩=>hm pins s2 σ H2 x vs v us Q I2 r1 r2 q2
end
end L2
namespace L2
open PySem PySem.Spec PyProof.Rows
noncomputable def HN (X:Cx) (id:String) (r:V->List V->Hp->VK->Prop):Prop:=
 ∀(pins:List (Addr×Obj)) (s:Shared) (σ:St) (H:Hp) (x:V) (xs:List V) (v:Value) (us:List Value) (Q:VK),Inv X pins σ H s->RelV x v->bz xs us->r x xs H Q->
  wpAny (model X.prog X.w) X.A (call (.builtin id) (v::us)) (EP X pins σ Q) X.xe s
theorem bz.one:∀{x:V} {us:List Value},bz [x] us->∃u,us=[u]/\RelV x u
 | _,_,.cons r .nil=>⟨_,rfl,r⟩
theorem bz.zero:∀{us:List Value},bz [] us->us=[]
 | _,.nil=>rfl
theorem bz.rep {xs:List V} {us:List Value} (h:bz xs us):∀k:Nat,bz (List.replicate k xs).flatten (List.replicate k us).flatten
 | 0=>.nil
 | k+1=>by
  rw[List.replicate_succ,List.replicate_succ,List.flatten_cons,List.flatten_cons]
  exact bz.append h (bz.rep h k)
theorem foldl_rep (aV:List Value):∀(k:Nat) (acc:List Value),
  List.foldl (λx1 x2=>x1++x2) acc.toArray (List.replicate k aV.toArray)=(acc++ (List.replicate k aV).flatten).toArray
 | 0,acc=>by simp
 | k+1,acc=>by
  have e:acc.toArray++aV.toArray=(acc++aV).toArray:=by simp
  have e2:(acc++aV)++ (List.replicate k aV).flatten=acc++ (List.replicate (k+1) aV).flatten:=by
   rw[List.replicate_succ,List.flatten_cons,List.append_assoc]
  rw[<-e2,<-foldl_rep aV k (acc++aV),<-e,List.replicate_succ,List.foldl_cons]
section
variable {X : Cx} {pins : List (Addr × Obj)} {σ : St} {H : Hp} {s : Shared} {l b : Addr} {xs ys zs : List V}
theorem Inv.Fz {aV its':List Value} {n:Nat} {f:Array Value->Array Value} {t':Nat} (I:Inv X pins σ H s) (hH:H l=some (.lst xs))
  (e:s.heap.get? l=some {cls:=.type "list",data:=.seq aV.toArray n}) (hf:f aV.toArray=its'.toArray) (hv:bz ys its') (hz:ys.length<=sizeLine):
  Inv X pins σ (upd H l (.lst ys)) {s with heap:=s.heap.update l (Obj.mapSeq f),toks:=t'}:=by
 have q:=PySem.IsL.update e f
 rw[hf] at q
 refine I.write (x:=l) (e:=l) (by rw[hH];exact trivial) (.inl rfl) (λb' u hb hu=>(Heap.get?_update_other s.heap (Obj.mapSeq f) (Ne.symm hb)).trans hu) ⟨_,q⟩ ?_
 exact⟨hz,its',_,hv,q⟩
theorem Inv.vL {aV:List Value} {t':Nat} (I:Inv X pins σ H s) (hv:bz ys aV) (hz:ys.length<=sizeLine):
  Inv X pins σ (upd H s.heap.objs.size (.lst ys)) {s with heap:=s.heap.push {cls:=.type "list",data:=.seq aV.toArray},toks:=t'}:=
 I.laid (λ_ _ q=>Heap.get?_push_of_some _ q) (aah _) ⟨hz,aV,0,hv,Heap.get?_push_size _ rfl⟩
theorem Inv.fresh (I:Inv X pins σ H s):H s.heap.objs.size=none:=I.bT.fresh (aah _)
theorem Inv.yB (I:Inv X pins σ H s) (hH:H l=some (.lst xs)):xs.length<=sizeLine/\∃(aV:List Value) (n:Nat),bz xs aV/\xs.length=aV.length/\s.heap.get? l=some {cls:=.type "list",data:=.seq aV.toArray n}:=by
 obtain⟨z,aV,n,r,e⟩:=I.bT l _ hH
 exact⟨z,aV,n,r,r.length,e⟩
theorem zR {n:Nat} (h:n<=sizeLine):Builtin.List.listTooLong n=false:=by
 unfold Builtin.List.listTooLong
 exact decide_eq_false (by omega)
end
section
variable {X : Cx}
noncomputable def dB:V->List V->Hp->VK->Prop:=λx vs H Q=>∃l xs y,x=.ref l/\vs=[y]/\H l=some (.lst xs)/\xs.length<sizeLine/\Q .b9 (upd H l (.lst (xs++ [y])))
theorem cM:HN X "list.append" dB:=by
 intro pins s σ H x vs v us Q I rx rv h
 obtain⟨l,xs,y,rfl,rfl,hH,hz,q⟩:=h
 cases rx
 obtain⟨u,rfl,ru⟩:=rv.one
 obtain⟨z,aV,n,r,hl,e⟩:=I.yB hH
 refine call_meets F.slot_list_append ⟨_,e,rfl⟩ F.entry_list_append (F.args_list_append_2 _ _) (PySem.list_append l aV.toArray n u (by rw[aal];omega)) ⟨e,?_⟩
 refine⟨.b9,_,I.Fz (its':=aV++ [u]) hH e (by simp) (r.append (.cons ru .nil)) ?_,rfl,q⟩
 rw[aaJ,List.length_singleton]
 omega
noncomputable def zS:V->List V->Hp->VK->Prop:=λx vs H Q=>∃l xs,x=.ref l/\vs=[]/\H l=some (.lst xs)/\Q .b9 (upd H l (.lst []))
theorem zT:HN X "list.clear" zS:=by
 intro pins s σ H x vs v us Q I rx rv h
 obtain⟨l,xs,rfl,rfl,hH,q⟩:=h
 cases rx
 have LO:=rv.zero
 subst LO
 obtain⟨z,aV,n,r,hl,e⟩:=I.yB hH
 refine call_meets F.slot_list_clear ⟨_,e,rfl⟩ F.entry_list_clear (F.args_list_clear_1 _) (AutoSeq1.list_clear_list_0 l aV.toArray n (by rw[aal];omega)) ⟨e,?_⟩
 exact⟨.b9,_,I.Fz (its':=[]) (ys:=[]) hH e rfl .nil (aas _),rfl,q⟩
noncomputable def IJ:R2:=λx y H Q=>∃l b xs zs,x=.ref l/\y=.ref b/\H l=some (.lst xs)/\H b=some (.lst zs)/\xs.length+zs.length<=sizeLine/\∀p,H p=none->Q (.ref p) (upd H p (.lst (xs++zs)))
theorem FA:kh X (binaryOp .Add) IJ:=by
 intro pins s σ H x y v u Q I rx ry h
 obtain⟨l,b,xs,zs,rfl,rfl,hH,hB,hz,q⟩:=h
 cases rx
 cases ry
 obtain⟨z,aV,n,r,hl,e⟩:=I.yB hH
 obtain⟨z2,lY,n2,r2,CQ,e2⟩:=I.yB hB
 refine PySem.P.add_list e e2 ?_ (by rw[aal,aal];omega)
 have ea:aV.toArray++lY.toArray=(aV++lY).toArray:=by simp
 rw[ea]
 exact⟨.ref _,_,I.vL (t':=s.toks) (r.append r2) (by rw[aaJ];omega),rfl,q _ I.fresh⟩
noncomputable def CS:R2:=λx y H Q=>∃l k xs,x=.ref l/\y=.int k/\H l=some (.lst xs)/\-(2^63)<=k/\k<2^63/\xs.length*k.toNat<=sizeLine/\
 ∀p,H p=none->Q (.ref p) (upd H p (.lst (List.replicate k.toNat xs).flatten))
theorem len_rep {α:Type} (xs:List α) (k:Nat):(List.replicate k xs).flatten.length=k*xs.length:=by
 induction k with
 | zero=>simp
 | succ k ih=>rw[List.replicate_succ,List.flatten_cons,aaJ,ih,Nat.succ_mul,Nat.add_comm]
theorem vM:kh X (binaryOp .Mult) CS:=by
 intro pins s σ H x y v u Q I rx ry h
 obtain⟨l,k,xs,rfl,rfl,hH,h1,h2,hz,q⟩:=h
 cases rx
 obtain⟨t,rfl⟩:=ry
 obtain⟨z,aV,n,r,hl,e⟩:=I.yB hH
 have hlen:aV.toArray.size*k.toNat<=sizeLine:=by rw[aal,<-hl];exact hz
 have MR:¬aV.toArray.size*k.toNat >(2^63 - 1) / 8:=by
  have:(sizeLine:Nat)<=(2^63 - 1) / 8:=by decide
  omega
 have FC:¬(!Builtin.List.listFitsIndex k)=true:=by
  rw[fitsIndex_both h1 h2]
  exact aaw
 have IK:¬Builtin.List.listTooLong (aV.toArray.size*k.toNat)=true:=by
  rw[zR hlen]
  exact aaw
 have MS:List.foldl (λx1 x2=>x1++x2) #[] (List.replicate (if aV.toArray.isEmpty=true then 0 else k.toNat) aV.toArray)=(List.replicate k.toNat aV).flatten.toArray:=by
  have f0:∀m:Nat,List.foldl (λx1 x2=>x1++x2) #[] (List.replicate m aV.toArray)=(List.replicate m aV).flatten.toArray:=λm=>by
   have:=foldl_rep aV m []
   rw[List.nil_append] at this
   exact this
  rw[f0]
  cases aV with
  | nil=>simp
  | cons a r'=>rw[if_neg (by simp)]
 refine wpAny_binaryOp_repeat_ref (T:="list") (U:="int") (by decide) ⟨_,e,rfl⟩ (λs'=>typeIs_int s' k t) noFill_list_mul F.fills_int_mul F.slot_int_rmul repeat_list F.slot_int_index.lookup
  (call_meets F.slot_int_rmul (typeIs_int s k t) F.entry_int_rmul (F.args_int_rmul_2 _ _) (int___rmul___int_list k t l aV.toArray n)
   ⟨e,rfl,⟨_,e,rfl⟩,call_meets F.slot_list_mul ⟨_,e,rfl⟩ F.entry_list_mul (F.args_list_mul_2 _ _) (AutoListH.list___mul___list_int_3 l aV.toArray n k t FC MR IK) ⟨e,?_⟩⟩)
 rw[MS]
 exact⟨.ref _,_,I.vL (t':=s.toks) (r.rep k.toNat) (by rw[len_rep,Nat.mul_comm];exact hz),rfl,q _ I.fresh⟩
end
section
variable {prog : Program} {w : World} {A : Around} {E : Value -> Shared -> Prop} {s : Shared}
end
section
variable {X : Cx}
end
end L2
namespace L2
open PySem PySem.Spec PyProof.Rows
section
variable {κ : Type} [DecidableEq κ]
noncomputable def hV (kvs:List (κ×V)) (k:κ):Option V:=(kvs.find? λkv=>decide (kv.1=k)).map (·.2)
noncomputable def putK (kvs:List (κ×V)) (k:κ) (v:V):List (κ×V):=
 if (kvs.any λkv=>decide (kv.1=k))=true then kvs.map (λkv=>if kv.1=k then (kv.1,v) else kv) else kvs++ [(k,v)]
noncomputable def IL (kvs:List (κ×V)) (k:κ):List (κ×V):=kvs.filter λkv=>decide (kv.1≠k)
theorem jE {p:κ×V} {r:List (κ×V)} {k:κ} (e:p.1=k):hV (p::r) k=some p.2:=by simp [hV,List.find?_cons,e]
theorem hX {p:κ×V} {r:List (κ×V)} {k:κ} (e:¬p.1=k):hV (p::r) k=hV r k:=by simp [hV,List.find?_cons,e]
theorem nV (k:κ):∀kvs:List (κ×V),(kvs.any λkv=>decide (kv.1=k))=(hV kvs k).isSome
 | []=>rfl
 | p::r=>by
  rw[List.any_cons]
  by_cases e:p.1=k
  ·simp only[jE e,decide_eq_true e,Bool.true_or,Option.isSome_some]
  ·rw[hX e,decide_eq_false e,Bool.false_or];exact nV k r
theorem kZ (kvs:List (κ×V)) (k:κ) (v:V):(putK kvs k v).length<=kvs.length+1:=by
 unfold putK
 split
 ·rw[aac];omega
 ·rw[aaJ,aaq,abb];omega
theorem tT {kvs:List (κ×V)} {k:κ} (v:V) (h:hV kvs k=none):putK kvs k v=kvs++ [(k,v)]:=by
 unfold putK
 rw[nV,h]
 exact if_neg (by decide)
theorem iN.fI {o:Option V} {u:Option Value} (r:iN o u):o.isSome=u.isSome:=by
 cases o with
 | none=>cases u with
  | none=>rfl
  | some _=>exact(show False from r).elim
 | some _=>cases u with
  | none=>exact(show False from r).elim
  | some _=>rfl
theorem KV.val {kvs:List (κ×V)} {vs:List (κ×Value)} (r:KV kvs vs) (k:κ):iN (hV kvs k) (valueAt vs k):=by
 unfold KV at r
 induction r with
 | nil=>exact True.intro
 | @cons p q ps qs h t ih=>
  obtain⟨h1,h2⟩:=h
  by_cases e:p.1=k
  ·have e':q.1=k:=h1.symm.trans e
   have b:valueAt (q::qs) k=some q.2:=by simp [valueAt,List.find?_cons,e']
   rw[jE e,b];exact h2
  ·have e':¬q.1=k:=λz=>e (h1.trans z)
   have b:valueAt (q::qs) k=valueAt qs k:=by simp [valueAt,List.find?_cons,e']
   rw[hX e,b];exact ih
theorem KV.any {kvs:List (κ×V)} {vs:List (κ×Value)} (r:KV kvs vs) (k:κ):(kvs.any λkv=>decide (kv.1=k))=vs.any λkv=>decide (kv.1=k):=by
 unfold KV at r
 induction r with
 | nil=>rfl
 | cons h t ih=>rw[List.any_cons,List.any_cons,ih,h.1]
theorem KV.FD {kvs:List (κ×V)} {vs:List (κ×Value)} (r:KV kvs vs) (k:κ) {y:V} {u:Value} (ry:RelV y u):
  KV (kvs.map λkv=>if kv.1=k then (kv.1,y) else kv) (vs.map λkv=>if kv.1=k then (kv.1,u) else kv):=by
 unfold KV at r ⊢
 induction r with
 | nil=>exact .nil
 | @cons p q ps qs h t ih=>
  rw[aaz,aaz]
  refine .cons ?_ ih
  obtain⟨h1,h2⟩:=h
  by_cases e:p.1=k
  ·rw[if_pos e,if_pos (h1.symm.trans e)];exact⟨h1,ry⟩
  ·rw[if_neg e,if_neg (λz=>e (h1.trans z))];exact⟨h1,h2⟩
theorem KV.put {kvs:List (κ×V)} {vs:List (κ×Value)} (r:KV kvs vs) (k:κ) {y:V} {u:Value} (ry:RelV y u):KV (putK kvs k y) (stored vs k u):=by
 unfold putK stored
 rw[r.any k]
 by_cases e:(vs.any λkv=>decide (kv.1=k))=true
 ·rw[if_pos e,if_pos e];exact r.FD k ry
 ·rw[if_neg e,if_neg e];exact Paired.snoc r ⟨rfl,ry⟩
theorem KV.length {kvs:List (κ×V)} {vs:List (κ×Value)} (r:KV kvs vs):kvs.length=vs.length:=Paired.length r
end
theorem lh {P:Program} {w:World} {k:Key} {u:Value} (r:RelV (kV k) u):(cq P w).is k u=true:=by
 cases k with
 | inl i=>obtain⟨t,e⟩:=(show ∃t,u=Value.int i t from r);subst e;exact tG P w i t
 | inr x=>obtain⟨t,e⟩:=(show ∃t,u=Value.str x t from r);subst e;exact tH P w x t
theorem qm {P:Program} {w:World}:∀{ks:List Key} {us:List Value},bz (ks.map kV) us->ItemsAre (cq P w) ks us
 | [],_,r=>by rw[aa2] at r;cases r;exact .nil
 | k::ks,_,r=>by
  rw[aaz] at r
  cases r with
  | cons h t=>exact .cons (lh h) (qm t)
abbrev KT (H:Hp):List (List Key×V)->List (List Key×Addr×Value)->Prop:=Paired λp q=>p.1=q.1/\H q.2.1=some (.tup (p.1.map kV))/\RelV p.2 q.2.2
theorem KT.val {H:Hp} {kvs:List (List Key×V)} {xs:List (List Key×Addr×Value)} (r:KT H kvs xs) (k:List Key):iN (hV kvs k) ((atKey xs k).map (·.2)):=by
 induction r with
 | nil=>exact True.intro
 | @cons p q ps qs h t ih=>
  obtain⟨h1,_,h2⟩:=h
  by_cases e:p.1=k
  ·have e':q.1=k:=h1.symm.trans e
   have b:atKey (q::qs) k=some q.2:=by simp [atKey,List.find?_cons,e']
   rw[jE e,b];exact h2
  ·have e':¬q.1=k:=λz=>e (h1.trans z)
   have b:atKey (q::qs) k=atKey qs k:=by simp [atKey,List.find?_cons,e']
   rw[hX e,b];exact ih
theorem KT.FD {H:Hp} {kvs:List (List Key×V)} {xs:List (List Key×Addr×Value)} (r:KT H kvs xs) (k:List Key) {y:V} {u:Value} (ry:RelV y u):
  KT H (kvs.map λkv=>if kv.1=k then (kv.1,y) else kv) (xs.map (putAt k u)):=by
 induction r with
 | nil=>exact .nil
 | @cons p q ps qs h t ih=>
  rw[aaz,aaz]
  refine .cons ?_ ih
  obtain⟨h1,h2,h3⟩:=h
  unfold putAt
  by_cases e:p.1=k
  ·rw[if_pos e,if_pos (h1.symm.trans e)];exact⟨h1,h2,ry⟩
  ·rw[if_neg e,if_neg (λz=>e (h1.trans z))];exact⟨h1,h2,h3⟩
theorem KT.put {H:Hp} {kvs:List (List Key×V)} {xs:List (List Key×Addr×Value)} (r:KT H kvs xs) (k:List Key) {b:Addr} {y:V} {u:Value} (hb:H b=some (.tup (k.map kV))) (ry:RelV y u):
  KT H (putK kvs k y) (storedH xs k b u):=by
 have e:(kvs.any λkv=>decide (kv.1=k))=(atKey xs k).isSome:=by
  rw[nV,(r.val k).fI,Option.isSome_map]
 unfold putK storedH
 rw[e]
 by_cases q:(atKey xs k).isSome=true
 ·rw[if_pos q,if_pos q];exact r.FD k ry
 ·rw[if_neg q,if_neg q];exact Paired.snoc r ⟨rfl,hb,ry⟩
theorem KT.keeps {H H':Hp} {kvs:List (List Key×V)} {xs:List (List Key×Addr×Value)} (r:KT H kvs xs) (ht:∀b ys,H b=some (.tup ys)->H' b=some (.tup ys)):KT H' kvs xs:=
 Paired.E9 r λ_ _ z=>⟨z.1,ht _ _ z.2.1,z.2.2⟩
section
variable {P : Program} {w : World} {H : Hp} {h : Heap} {a : Addr}
theorem Et {u:HO} (ok:gX P w H h) (e:Rd H a u):cw P w H h a u:=e.ok ok
theorem qo {kvs:List (Key×V)} (ok:gX P w H h) (e:Rd H a (.dK kvs)):kvs.length<=sizeLine/\(a==sysModules)=false/\∃vs,KV kvs vs/\h.DictOf (cq P w) a vs:=
 show cw P w H h a (.dK kvs) from Et ok e
theorem Eu {kvs:List (Key×V)} (ok:gX P w H h) (e:H a=some (.dK kvs)):kvs.length<=sizeLine/\(a==sysModules)=false/\∃vs,KV kvs vs/\h.DictOf (cq P w) a vs:=qo ok (.inl e)
theorem nW {ks:List Key} (ok:gX P w H h) (e:H a=some (.tup (ks.map kV))):(tupleKind (cq P w)).is h ks a:=by
 obtain⟨_,aV,r,o,h1,h2,n,h3⟩:=(show cw P w H h a (.tup (ks.map kV)) from ok a _ e)
 exact⟨o,aV.toArray,n,h1,h2,h3,by simpa using qm r⟩
theorem tU {kvs:List (List Key×V)} (ok:gX P w H h) (e:Rd H a (.dT kvs)):kvs.length<=sizeLine/\(a==sysModules)=false/\
  ∃xs,KT H kvs xs/\h.DictOfH (tupleKind (cq P w)) a xs:=by
 obtain⟨z,y,xs,r,o,es,ep,h1,h2,h3,h4,h5⟩:=(show cw P w H h a (.dT kvs) from Et ok e)
 refine⟨z,y,xs,r,o,es,ep,h1,h2,h3,h4,λx hx=>?_,h5⟩
 have all:∀{l:List (List Key×V)} {m:List (List Key×Addr×Value)},KT H l m->∀x∈m,(tupleKind (cq P w)).is h x.1 x.2.1:=by
  intro l m q
  induction q with
  | nil=>intro x hx;exact nomatch hx
  | @cons p q ps qs hq t ih=>
   intro x hx
   rcases List.mem_cons.mp hx with e | hx
   ·subst e
    exact nW ok (by rw[<-hq.1];exact hq.2.1)
   ·exact ih x hx
 exact all r x hx
theorem IM {kvs:List (List Key×V)} (ok:gX P w H h) (e:H a=some (.dT kvs)):kvs.length<=sizeLine/\(a==sysModules)=false/\
  ∃xs,KT H kvs xs/\h.DictOfH (tupleKind (cq P w)) a xs:=tU ok (.inl e)
end
noncomputable def kA (H:Hp) (a:Addr) (y:V) (r:Option V):Prop:=
 (∃kvs k,Rd H a (.dK kvs)/\y=kV k/\r=hV kvs k)\/∃kvs k b,Rd H a (.dT kvs)/\y=.ref b/\H b=some (.tup (k.map kV))/\r=hV kvs k
noncomputable def vN (H:Hp) (a:Addr) (y v:V) (H':Hp):Prop:=
 (∃kvs k,H a=some (.dK kvs)/\y=kV k/\kvs.length<sizeLine/\H'=upd H a (.dK (putK kvs k v)))\/
 ∃kvs k b,H a=some (.dT kvs)/\y=.ref b/\H b=some (.tup (k.map kV))/\kvs.length<sizeLine/\H'=upd H a (.dT (putK kvs k v))
theorem vN.k {H:Hp} {a:Addr} {kvs:List (Key×V)} {k:Key} {v:V} (e:H a=some (.dK kvs)) (hl:kvs.length<sizeLine):vN H a (kV k) v (upd H a (.dK (putK kvs k v))):=.inl ⟨kvs,k,e,rfl,hl,rfl⟩
section
variable {X : Cx} {pins : List (Addr × Obj)} {σ : St} {H : Hp} {s : Shared} {a : Addr} {y v : V} {u r : Value} {o : Option V} {A : Around} {E : Value -> Shared -> Prop}
theorem Inv.CT (I:Inv X pins σ H s):sysModules<s.heap.objs.size:=by
 have h:mainGlobals<s.heap.objs.size:=(I.mod.glob.keeps I.bk).lt
 exact Nat.lt_trans (by decide) h
theorem yC {Q:Value->Shared->Prop} (hu:A.units+1<cLine) (I:Inv X pins σ H s) (g:kA H a y (some v)) (ry:RelV y u) (h:∀w' s',Inv X pins σ H s'->RelV v w'->Q w' s'):
  wpAny (model X.prog X.w) A (getItem (.ref a) u) Q E s:=by
 rcases g with ⟨kvs,k,e,ey,l⟩ | ⟨kvs,k,b,e,ey,eb,l⟩
 ·subst ey
  obtain⟨z,hd,vs,rel,dd⟩:=qo I.bT e
  obtain⟨w',hw,qV⟩:=iN.some_of (v:=v) (o:=valueAt vs k) (by rw[l];exact rel.val k)
  exact wpAny_getItem_of (lh ry) dd.mapOf hw (h w' _ (I.tok _) qV)
 ·subst ey
  cases (show u=Value.ref b from ry)
  obtain⟨z,hd,xs,rel,dd⟩:=tU I.bT e
  obtain⟨w',hw,qV⟩:=iN.some_of (v:=v) (o:=(atKey xs k).map (·.2)) (by rw[l];exact rel.val k)
  obtain⟨p,hp,tw⟩:=Option.map_eq_some_iff.mp hw
  refine wpAny_getItem_heap (tupleKind_room_in1 hu) (nW I.bT eb) dd hp ?_
  rw[tw]
  exact h w' _ (I.tok _) qV
theorem MT {Q:Value->Shared->Prop} (hu:A.units+1<cLine) (I:Inv X pins σ H s) (g:kA H a y o) (ry:RelV y u) (h:∀s',Inv X pins σ H s'->Q (.bool o.isSome) s'):
  wpAny (model X.prog X.w) A (compareOp .In u (.ref a)) Q E s:=by
 rcases g with ⟨kvs,k,e,ey,l⟩ | ⟨kvs,k,b,e,ey,eb,l⟩
 ·subst ey
  obtain⟨z,hd,vs,rel,dd⟩:=qo I.bT e
  refine wpAny_in_of (lh ry) hd dd.mapOf ?_
  rw[<-(rel.val k).fI,<-l]
  exact h _ (I.tok _)
 ·subst ey
  cases (show u=Value.ref b from ry)
  obtain⟨z,hd,xs,rel,dd⟩:=tU I.bT e
  refine wpAny_in_heap (tupleKind_room_in1 hu) (nW I.bT eb) hd dd ?_
  have q:=(rel.val k).fI
  rw[Option.isSome_map] at q
  rw[<-q,<-l]
  exact h _ (I.tok _)
theorem CU {Q:Value->Shared->Prop} (hu:A.units+1<cLine) (I:Inv X pins σ H s) (g:kA H a y o) (ry:RelV y u) (h:∀s',Inv X pins σ H s'->Q (.bool (!o.isSome)) s'):
  wpAny (model X.prog X.w) A (compareOp .NotIn u (.ref a)) Q E s:=by
 rcases g with ⟨kvs,k,e,ey,l⟩ | ⟨kvs,k,b,e,ey,eb,l⟩
 ·subst ey
  obtain⟨z,hd,vs,rel,dd⟩:=qo I.bT e
  refine wpAny_notIn_of (lh ry) hd dd.mapOf ?_
  rw[<-(rel.val k).fI,<-l]
  exact h _ (I.tok _)
 ·subst ey
  cases (show u=Value.ref b from ry)
  obtain⟨z,hd,xs,rel,dd⟩:=tU I.bT e
  refine wpAny_notIn_heap (tupleKind_room_in1 hu) (nW I.bT eb) hd dd ?_
  have q:=(rel.val k).fI
  rw[Option.isSome_map] at q
  rw[<-q,<-l]
  exact h _ (I.tok _)
theorem q9 {h':Heap} {t':Nat} {ob:HO} (I:Inv X pins σ H s) (mu:Ip (H a)) (hs:Heap.SameBut a s.heap h') (he:∃q,h'.get? a=some q) (new:cw X.prog X.w (upd H a ob) h' a ob):
  Inv X pins σ (upd H a ob) {s with heap:=h',toks:=t'}:=
 I.write (x:=a) (e:=a) mu (.inl rfl) (λb q hb z=>(hs.2 b hb).trans z) he new
theorem zU {P:Program} {w:World} {H':Hp} {h':Heap} {kvs:List (Key×V)} {vs:List (Key×Value)} (z:kvs.length<=sizeLine) (hd:(a==sysModules)=false) (rel:KV kvs vs) (dd:h'.DictOf (cq P w) a vs):
  cw P w H' h' a (.dK kvs):=⟨z,hd,vs,rel,dd⟩
theorem yD {H':Hp} {Q:Unit->Shared->Prop} (hu:A.units+1<cLine) (I:Inv X pins σ H s) (g:vN H a y v H') (ry:RelV y u) (rv:RelV v r) (h:∀s',Inv X pins σ H' s'->Q () s'):
  wpAny (model X.prog X.w) A (setItem (.ref a) u r) Q E s:=by
 rcases g with ⟨kvs,k,e,ey,l,eH⟩ | ⟨kvs,k,b,e,ey,eb,l,eH⟩
 ·subst ey eH
  obtain⟨z,hd,vs,rel,dd⟩:=Eu I.bT e
  have hz:vs.length<=sizeLine:=by rw[<-rel.length];exact z
  have hl:(putK kvs k v).length<=sizeLine:=by have:=kZ kvs k v;omega
  refine wpAny_setItem_pairs (hsz:=hz) (lh ry) dd λh' CV hs=>h _ ?_
  have he:∃q,h'.get? a=some q:=let ⟨q,_,_,hq,_⟩:=CV;⟨q,hq⟩
  exact q9 I (by rw[e];exact True.intro) hs he (zU hl hd (rel.put k rv) CV)
 ·subst ey eH
  cases (show u=Value.ref b from ry)
  obtain⟨z,hd,xs,rel,dd⟩:=IM I.bT e
  have hz:xs.length<=sizeLine:=by rw[<-Paired.length rel];exact z
  have hl:(putK kvs k v).length<=sizeLine:=by have:=kZ kvs k v;omega
  refine wpAny_setItem_heap (hsz:=hz) (tupleKind_room_in1 hu) (nW I.bT eb) dd λh' CV hs=>h _ ?_
  obtain⟨q,es,ep,hq,h2,h3,h4,_,h5⟩:=CV
  refine q9 I (by rw[e];exact True.intro) hs ⟨q,hq⟩ ⟨hl,hd,_,(rel.put k eb rv).keeps λc ys ec=>?_,q,es,ep,hq,h2,h3,h4,h5⟩
  rw[aJ (Io ec e (λz=>nomatch z))]
  exact ec
end
section
variable {X : Cx} {pins : List (Addr × Obj)} {σ : St} {H : Hp} {s : Shared} {a : Addr} {kvs : List (Key × V)} {k : Key} {u : Value} {A : Around} {E : Value -> Shared -> Prop}
end
noncomputable def IP (i:Expr):Prop:=∀ov iv,subscripted i false ov iv=operate [ov,iv] (getItem ov iv)
theorem CW {prog:Program} {w:World} {A:Around} {E:Value->Shared->Prop} {s:Shared} {env:Env} {value slice:Expr} {pos:Pos} {T id:String} {Q:Value->Shared->Prop}
  (hl:typeLookup (.type T) "__getitem__"=pure (some (.builtin id))) (hs:IP slice)
  (h:wpAny (model prog w) A (eval value env) (λo s₁=>wpAny (model prog w) A (eval slice env) (λi s₂=>s₂.TypeIs o T/\wpAny (model prog w) A (getItem o i) Q E s₂) E s₁) E s):
  wpAny (model prog w) A (eval (.Subscript value slice pos) env) Q E s:=by
 refine Subscript_ (wpAny_mono h (λo s₁ h₁=>wpAny_mono h₁ (λi s₂ h₂=>?_) λ_ _ x=>x) λ_ _ x=>x)
 obtain⟨hT,h₂⟩:=h₂
 unfold subscriptTail
 refine wpAny_bind ?_
 rw[getitemInPython_of_ne hT.not_modules]
 refine wpAny_bind (wpAny_specialOf hT hl ?_)
 have fin:wpAny (model prog w) A (subscripted slice false o i) (λr s₃=>wpAny (model prog w) A (letTemporaryGo value o r >>=λ_=>pure r) Q E s₃) E s₂:=by
  rw[hs o i]
  exact wpAny_operating (wpAny_mono h₂ (λr s₃ h₃=>wpAny_bind (wpAny_letTemporaryGo (wpAny_pure h₃))) λ_ _ x=>x)
 first
  | exact wpAny_pure (wpAny_bind fin)
  | exact wpAny_bind (wpAny_pure (wpAny_bind fin))
  | exact wpAny_bind fin
theorem tV {X:Cx} {pins:List (Addr×Obj)} {σ:St} {H:Hp} {s:Shared} {a:Addr} {y:V} {o:Option V} (I:Inv X pins σ H s) (g:kA H a y o):s.TypeIs (.ref a) "dict":=by
 rcases g with ⟨kvs,k,e,_,_⟩ | ⟨kvs,k,b,e,_,_,_⟩
 ·obtain⟨_,_,vs,_,dd⟩:=qo I.bT e
  exact dd.typeIs
 ·obtain⟨_,_,xs,_,dd⟩:=tU I.bT e
  exact dd.typeIs
noncomputable def tDGet (td ty:TE):TE:=λσ H Q=>td σ H λx H1=>ty σ H1 λy H2=>∃a v,x=.ref a/\kA H2 a y (some v)/\Q v H2
noncomputable def tDIn (ty td:TE):TE:=λσ H Q=>ty σ H λy H1=>td σ H1 λx H2=>∃a o,x=.ref a/\kA H2 a y o/\Q (.bl o.isSome) H2
noncomputable def tDNotIn (ty td:TE):TE:=λσ H Q=>ty σ H λy H1=>td σ H1 λx H2=>∃a o,x=.ref a/\kA H2 a y o/\Q (.bl (!o.isSome)) H2
noncomputable def sDPut (td ty tv:TE):TS:=λD σ H=>tv σ H λv H1=>td σ H1 λx H2=>ty σ H2 λy H3=>∃a H4,x=.ref a/\vN H3 a y v H4/\D.nx σ H4
section
variable {X : Cx} {o i e value : Expr} {pos pos' lV : Pos} {td ty tv : TE}
theorem CY (hu:X.A.units+1<cLine) (ho:PE X o td) (hi:PE X i ty) (hs:IP i):PE X (.Subscript o i pos) (tDGet td ty):=by
 intro pins s σ H Q I h
 refine CW PySem.F.slot_dict_getitem.lookup hs (cB (ho pins s σ H _ I h) λu s1 ⟨x,H1,I1,rx,q1⟩=>cB (hi pins s1 σ H1 _ I1 q1) λiv s2 cU=>?_)
 obtain⟨y,H2,I2,ry,a,v,ex,g,q2⟩:=cU
 subst ex
 obtain rfl:u=Value.ref a:=rx
 exact⟨tV I2 g,yC hu I2 g ry λw' s3 I3 qV=>⟨v,H2,I3,qV,q2⟩⟩
theorem zV (hu:X.A.units+1<cLine) (hi:PE X i ty) (ho:PE X o td):PC X .In i o (tDIn ty td):=by
 intro pins s σ H Q I h
 refine cB (hi pins s σ H _ I h) λiv s1 ⟨y,H1,I1,ry,q1⟩=>cB (ho pins s1 σ H1 _ I1 q1) λu s2 cU=>?_
 obtain⟨x,H2,I2,rx,a,ov,ex,g,q2⟩:=cU
 subst ex
 obtain rfl:u=Value.ref a:=rx
 exact MT hu I2 g ry λs3 I3=>⟨.bl ov.isSome,H2,I3,rfl,q2⟩
theorem yE (hu:X.A.units+1<cLine) (hi:PE X i ty) (ho:PE X o td):PC X .NotIn i o (tDNotIn ty td):=by
 intro pins s σ H Q I h
 refine cB (hi pins s σ H _ I h) λiv s1 ⟨y,H1,I1,ry,q1⟩=>cB (ho pins s1 σ H1 _ I1 q1) λu s2 cU=>?_
 obtain⟨x,H2,I2,rx,a,ov,ex,g,q2⟩:=cU
 subst ex
 obtain rfl:u=Value.ref a:=rx
 exact CU hu I2 g ry λs3 I3=>⟨.bl (!ov.isSome),H2,I3,rfl,q2⟩
theorem wY (hu:X.A.units+1<cLine) (ho:PE X o td) (hi:PE X i ty) (hv:PE X value tv) (hs:swapsWith value (some (.Subscript o i pos')) pos.line X.env=pure false):
  PS X (.Assign [.Subscript o i pos'] value pos) (sDPut td ty tv):=by
 intro pins s σ H D I h
 refine wpAny_Assign_Subscript (cB (hv pins s σ H _ I h) λr s1 ⟨v,H1,I1,rv,q1⟩=>cB (ho pins s1 σ H1 _ I1 q1) λu s2 ⟨x,H2,I2,rx,q2⟩=>cB (hi pins s2 σ H2 _ I2 q2) λiv s3 cU=>?_) hs
 obtain⟨y,H3,I3,ry,a,H4,ex,g,q3⟩:=cU
 subst ex
 obtain rfl:u=Value.ref a:=rx
 exact yD hu I3 g ry rv λs4 I4=>⟨σ,H4,I4,q3⟩
end
theorem tW {P:Program} {w:World} {H:Hp} (h:Heap) (hb:sysModules<h.objs.size):cw P w H (h.push {cls:=.type "dict",data:=.dict #[]}) h.objs.size (.dK []):=
 ⟨aas _,beq_eq_false_iff_ne.mpr (Ne.symm (aao hb)),[],.nil,Heap.DictOf.new h⟩
noncomputable def tDNewK:TE:=λ_ H Q=>∀p,H p=none->Q (.ref p) (upd H p (.dK []))
section
variable {X : Cx} {pos : Pos}
theorem zW:PE X (.Dict [] [] pos) tDNewK:=λpins s σ H Q I h=>
 wpAny_Dict_empty ⟨.ref s.heap.objs.size,_,I.laid (a:=s.heap.objs.size) (o:=.dK []) (t':=s.toks) (λ_ _ q=>Heap.get?_push_of_some _ q) (aah _) (tW s.heap I.CT),rfl,h _ (I.bT.fresh (aah _))⟩
end
abbrev VV:List (V×V)->List (Value×Value)->Prop:=Paired λp q=>RelV p.1 q.1/\RelV p.2 q.2
structure M1 (X:Cx) (o:Expr) (m:Str) (apos:Pos) (e:Expr) (fH:Pos):Prop where
 base:attributeBase o m X.env (eval o X.env)=eval o X.env
 tX:((backTo fH (starEach [e] X.env)).all (λx=>!x.1) && (backToKw fH (keywordEach [] X.env)).all (λx=>x.1.isSome)
  && decide (([e]:List Expr).length+ ([]:List Keyword).length+ (if ([]:List Keyword).isEmpty then 0 else 1)<30))=true
 line:(apos.endLine==fH.line)=true
 trees:backTo fH (starEach [e] X.env)=[(false,eval e X.env)]
structure M2 (X:Cx) (o:Expr) (m:Str) (apos:Pos) (e f:Expr) (fH:Pos):Prop where
 base:attributeBase o m X.env (eval o X.env)=eval o X.env
 tX:((backTo fH (starEach [e,f] X.env)).all (λx=>!x.1) && (backToKw fH (keywordEach [] X.env)).all (λx=>x.1.isSome)
  && decide (([e,f]:List Expr).length+ ([]:List Keyword).length+ (if ([]:List Keyword).isEmpty then 0 else 1)<30))=true
 line:(apos.endLine==fH.line)=true
 trees:backTo fH (starEach [e,f] X.env)=[(false,eval e X.env),(false,eval f X.env)]
noncomputable def MU (H:Hp) (a:Addr):Prop:=(∃kvs,Rd H a (.dK kvs))\/∃kvs,Rd H a (.dT kvs)
section
variable {X : Cx} {pins : List (Addr × Obj)} {σ : St} {H : Hp} {s : Shared} {a : Addr} {y d : V} {u r : Value} {o : Option V} {A : Around} {E : Value -> Shared -> Prop}
end
noncomputable def tDGet1 (td ty:TE):TE:=λσ H Q=>td σ H λx H1=>∃a,x=.ref a/\MU H1 a/\ty σ H1 λy H2=>∃o,kA H2 a y o/\Q (o.getD .b9) H2
noncomputable def tDGet2 (td ty tx:TE):TE:=λσ H Q=>td σ H λx H1=>∃a,x=.ref a/\MU H1 a/\ty σ H1 λy H2=>tx σ H2 λz H3=>∃o,kA H3 a y o/\Q (o.getD z) H3
noncomputable def tDPop1 (td ty:TE):TE:=λσ H Q=>td σ H λx H1=>∃a,x=.ref a/\MU H1 a/\ty σ H1 λy H2=>∃kvs k v,H2 a=some (.dK kvs)/\y=kV k/\hV kvs k=some v/\Q v (upd H2 a (.dK (IL kvs k)))
section
variable {X : Cx} {o e f : Expr} {apos fH : Pos} {td ty tx : TE}
end
section
variable {X : Cx} {pins : List (Addr × Obj)} {σ : St} {H : Hp} {s : Shared} {a : Addr} {kvs : List (Key × V)} {A : Around} {E : Value -> Shared -> Prop}
end
section
variable {X : Cx} {pins : List (Addr × Obj)} {σ : St} {H : Hp} {s : Shared} {a : Addr} {y : V} {u : Value} {A : Around} {E : Value -> Shared -> Prop}
end
end L2
namespace Cn
open PySem PySem.W PySem.Calls PyProof.Rows
theorem lZ {P:Params} {h:Heap}:∀(ns:List Int) (vs:List Value),WellAll P h vs (ns.map WData.int)->IntsAre vs ns:=by
 intro ns
 induction ns with
 | nil=>
  intro vs w
  rw[aa2] at w
  cases w
  exact .nil
 | cons n ns ih=>
  intro vs w
  rw[aaz] at w
  cases w with
  | cons a b=>
   cases a
   exact .cons _ _ (ih _ b)
theorem yF {l:OpenLaw} {n:Nat} (hn:l.most=some n) {P:Params} {h:Heap} {args:List WData} {vals:List Value}
  (CZ:l.row.toRowW.claim.pre args=true) (C0:WellAll P h vals args):
  ∃a vs ns,vals=[Value.ref a]/\args=[WData.list (ns.map WData.int)]/\h.get? a=some {cls:=.type "list",data:=.seq vs.toArray}/\IntsAre vs ns/\ns.length<=n:=by
 have gN:WShape.hasAll [] args [.list .int]=true:=(pre_splitW CZ).1
 have hc:l.pre.holds [] {args:=args}=true:=(pre_splitW CZ).2
 obtain⟨d,r,rfl,h1,h2⟩:=hasAllW_cons gN
 obtain rfl:=hasAllW_nil h2
 obtain⟨xs,rfl,h3⟩:=hasW_list h1
 obtain⟨ns,rfl⟩:=items_int h3
 have hlen:ns.length<=n:=by
  unfold OpenLaw.pre at hc
  have h4:(WTm.not (.lt (.lit (.int (n:Int))) (.len (.arg 0)))).holds [] {args:=[.list (ns.map .int)]}=true:=by
   have h4:=(holds_andW hc).1
   rw[hn] at h4
   exact h4
  have h5:=condW_of h4 (w_not (w_lt w_lit (w_len_list (w_arg rfl))))
  rw[aac] at h5
  refine Nat.le_of_not_lt λq=>?_
  have q':(n:Int)< ((ns.length:Nat):Int):=by omega
  first
   | (rw[decide_eq_true q'] at h5;exact absurd h5 (by decide))
   | (simp at h5;omega)
 cases C0 with
 | cons w1 w2=>
  cases w2
  cases w1 with
  | list ho yG=>exact⟨_,_,ns,rfl,rfl,ho,lZ ns _ yG,hlen⟩
theorem yH (l:OpenLaw) (args:List WData):l.row.toRowW.claim.post args (.bool true) args=true:=
 postW_of (r:=l.row.toRowW) (X:=(true==true))
  (show WShape.has [] (.bool true) .bool=true by first | rfl | decide | simp [WShape.has,WShape.arms,WShape.armsAll])
  (show(WTm.eq .res (.lit (.bool true))).value [] {args:=args,res:=some (.bool true),after:=args}=some (.bool (true==true)) from w_eq_bool (w_res rfl) w_lit) rfl
theorem tY {l:OpenLaw} {n:Nat} {q:Program} {loose:List Str} {XP:(Str->Option Value)->Heap->Prop} {YP:World->Heap->Prop} {d:DefRec}
  (hn:l.most=some n) (IQ:d.params.defaults=[])
  (call:∀(w:World) (s₀ s₁:Shared) (mg mb:Str->Option Value) (fa:Addr) (o:Obj) (pm cd doc:Value) (a:Addr) (vs:List Value) (ns:List Int),
   Ground q loose [] XP w s₀ mg mb s₁.heap->YP w s₁.heap->
   s₁.heap.get? fa=some o->o.data=.func (docDef d.name d.params d.body d.scope pm cd doc)->s₁.heap.CodeRec cd d.name->mg d.name=some (.ref fa)->
   s₁.heap.get? a=some {cls:=.type "list",data:=.seq vs.toArray}->IntsAre vs ns->ns.length<=n->s₁.gens=#[]->
   codeAny (model l.prog w) callerA (.call (.ref fa) ⟨[.ref a],[]⟩) (λr s'=>r=.ok (.ret (.bool true))/\OldK s₁.heap s'.heap/\s'.os=s₁.os/\AllBare s'.gens) s₁):
  WalkO q loose XP YP l.row.toRowW d [] (λf vs=>PySem.call f vs):=by
 intro w s₀ s₁ mg mb G Y fa o pm cd doc dV kV ho hd tK hD IS hg args vals as CZ XY hrd C0 hlo
 obtain rfl:dV=.none:=Dflts.none hD IQ
 obtain rfl:kV=.none:=Dflts.noKw hD
 obtain⟨a,vs,ns,rfl,rfl,FE,hints,hlen⟩:=yF hn CZ C0
 refine enter_call (codeAny_mono (call w s₀ s₁ mg mb fa o pm cd doc a vs ns G Y ho (fd_plain hd) tK IS FE hints hlen hg) λr s' hq=>?_)
 obtain⟨rfl,h2,h3,h4⟩:=hq
 exact⟨.inl ⟨.bool true,.bool true,[],rfl,λ_=>rfl,.bool true,yH l _,λ_=>⟨List.Pairwise.nil,λ_ hm=>(nomatch hm)⟩⟩,h2,h3,h4⟩
section
variable {prog : Program} {w : World} {A : Around} {E : Value -> Shared -> Prop} {s : Shared} {K : Frag}
noncomputable def rh (h:Heap):Heap:={h with objs:=#[]}
theorem nX (h:Heap) (b:Addr):(rh h).get? b=none:=by
 cases e:(rh h).get? b with
 | none=>rfl
 | some o=>exact absurd (Heap.lt_size e) (abc _)
noncomputable def ledger (h:Heap) (L d:Addr):List (Addr×Obj):=(List.range h.objs.size).filterMap λa=>if a=L\/a=d then none else (h.get? a).map λo=>(a,o)
set_option tactic.hygienic true in
theorem gv {h:Heap} {L d a:Addr} {o:Obj}:(a,o)∈ledger h L d↔a≠L/\a≠d/\h.get? a=some o:=by
 unfold ledger
 rw[List.mem_filterMap]
 constructor
 ·rintro⟨b,_,e⟩
  split at e
  ·cases e
  ·rename_i hb
   obtain⟨o',ho,e'⟩:=Option.map_eq_some_iff.mp e
   cases e'
   exact⟨λq=>hb (.inl q),λq=>hb (.inr q),ho⟩
 ·rintro⟨n1,n2,ho⟩
  refine⟨a,List.mem_range.mpr (Heap.lt_size ho),?_⟩
  rw[if_neg (show ¬(a=L\/a=d) from λq=>q.elim n1 n2),ho] <;>rfl
theorem FF {h:Heap} {L:Addr} {m:Str->Option Value} (n:h.Ns L m):Fr (rh h) L h m:=
 ⟨n,λb o e=>(by rw[nX] at e;cases e),aas _⟩
end
end Cn
namespace L2
open PySem PySem.Spec PyProof.Rows
theorem qp:∀{vs:List Value} {ns:List Int},IntsAre vs ns->bz (ns.map V.int) vs
 | _,_,.nil=>.nil
 | _,_,.cons n t h=>.cons ⟨t,rfl⟩ (qp h)
end L2
namespace L2
open PySem PySem.Spec PyProof.Rows
abbrev KOf {K:PySem.W.Frag} {h:Heap} (_:K.In h):PySem.W.Frag:=K
end L2
namespace L2
open PySem PySem.Spec PyProof.Rows
noncomputable def inClass (s:Stmt) (j:Nat):Stmt:=match s with
 | .ClassDef _ _ _ body _ _ _ _ _ _ _=>body.getD j (.Pass ⟨0,0,0,0⟩)
 | _=>.Pass ⟨0,0,0,0⟩
noncomputable def aM (s:Stmt):Arguments:=match s with
 | .FunctionDef _ a _ _ _ _ _ _ _ _=>a
 | _=>{posonlyargs:=[],args:=[],vararg:=none,kwonlyargs:=[],kw_defaults:=[],kwarg:=none,defaults:=[]}
noncomputable def aL (s:Stmt):List Stmt:=match s with
 | .FunctionDef _ _ b _ _ _ _ _ _ _=>b
 | _=>[]
noncomputable def af (s:Stmt):Scope:=match s with
 | .FunctionDef _ _ _ _ _ _ sc _ _ _=>sc
 | _=>{kind:=.function,names:=[],isGenerator:=false,isCoroutine:=false}
abbrev CX0:kr:=λ_ _ _ _ _ _=>False
abbrev E0:XK:=λ_ _ _=>False
structure vO (K:PySem.W.Frag) (x qual:Str) (st:Stmt) (f:Addr) (fd:FuncData):Prop where
 ex:∃(oc:Value) (od:Option Addr) (kV doc pm:Value) (an:Option Addr) (cG ct:Value) (zg:Array (Option Value)),
  fd=PySem.W.fnOf x qual (aM st) (aL st) (af st) .none kV doc pm an cG ct/\K.lookup f=some ⟨oc,od,.func fd,zg⟩/\PySem.W.codeIn K cG qual=true
 kp:PySem.W.keepIn K (.ref f)=true
section
variable {P : Program} {w : World} {K : PySem.W.Frag} {mg : Str -> Option Value} {base : Heap}
theorem vO.binds {x qual:Str} {st:Stmt} {f:Addr} {fd:FuncData} {ps:List Str} (F:vO K x qual st f fd)
  (h:∀(kV doc pm:Value) (an:Option Addr) (cG ct:Value) (us:List Value),us.length=ps.length->bindArgs (PySem.W.fnOf x qual (aM st) (aL st) (af st) .none kV doc pm an cG ct) ⟨us,[]⟩=pure (ps.zip us)):Binds K fd ps []:=by
 obtain⟨oc,od,kV,doc,pm,an,cG,ct,zg,rfl,lk,tK⟩:=F.ex
 exact .all (h kV doc pm an cG ct)
theorem aX {x qual:Str} {st:Stmt} {f:Addr} {oc:Value} {od an:Option Addr} {zg:Array (Option Value)} {kV doc pm cG ct:Value} (l:K.lookup f=some ⟨oc,od,.func (PySem.W.fnOf x qual (aM st) (aL st) (af st) .none kV doc pm an cG ct),zg⟩)
  (c:PySem.W.codeIn K cG qual=true) (k:PySem.W.keepIn K (.ref f)=true):vO K x qual st f (PySem.W.fnOf x qual (aM st) (aL st) (af st) .none kV doc pm an cG ct):=⟨⟨oc,od,kV,doc,pm,an,cG,ct,zg,rfl,l,c⟩,k⟩
end
theorem qq {A:Around} {k:Nat} (hr:dc k A):A.units+1<cLine:=abd (Nat.add_le_add_left (by decide:1<=64) _) hr.units
section
variable {X : Cx}
theorem pv (i:Nat) {x:Str} {pos:Pos} (hN:X.N[i]?=some x:=by rfl) (hv:Mz X.env.scope x:=by first | exact Or.inl rfl | exact Or.inr (Or.inl rfl) | exact Or.inr (Or.inr rfl)) (hd:(x==("__debug__":Str))=false:=by decide)
  (tK:(x==("__classdict__":Str))=false:=by decide):PE X (.Name x pos) (tVar i):=Fe hN hv hd tK
end
theorem IT {A B:Prop} (h:A):if true=true then A else B:=by
 rw[if_pos rfl]
 exact h
theorem hZ {c A B:Prop} [Decidable c] (h1:c->A) (h2:¬c->B):if c then A else B:=by
 by_cases h:c
 ·rw[if_pos h]
  exact h1 h
 ·rw[if_neg h]
  exact h2 h
noncomputable def az (H H':Hp):Prop:=∀b o,H b=some o->H' b=some o
theorem az.refl (H:Hp):az H H:=λ_ _ h=>h
theorem az.trans {H H1 H2:Hp} (a:az H H1) (b:az H1 H2):az H H2:=λc o h=>b c o (a c o h)
theorem az.seq {K:PySem.W.Frag} {H H':Hp} {a:Addr} {xs:List V} (e:az H H') (h:bo K H a xs):bo K H' a xs:=by
 rcases h with (h | ⟨o,h⟩) | h
 ·exact .inl (.inl (e _ _ h))
 ·exact .inl (.inr ⟨o,e _ _ h⟩)
 ·exact .inr h
end L2
namespace L2
open PySem PySem.Spec PyProof.Rows
section
variable {X : Cx}
end
section
variable {κ : Type} [DecidableEq κ]
end
end L2
namespace L2
open PySem PySem.Spec PyProof.Rows
noncomputable def Bt (n:Nat) (i:Int):Prop:=i.natAbs<2^n
theorem Bt.mono {m n:Nat} {i:Int} (h:Bt m i) (q:m<=n):Bt n i:=aau h (abl (by decide) q)
theorem Bt.bits {n:Nat} {i:Int} (h:Bt n i):Builtin.Int.intBits i<=n:=PyProof.Rows.intBits_le h
theorem Bt.mul {m n:Nat} {i j:Int} (h1:Bt m i) (h2:Bt n j):Bt (m+n) (i*j):=by
 unfold Bt at *
 rw[aa3,Nat.pow_add]
 exact Nat.mul_lt_mul_of_lt_of_lt h1 h2
theorem Bt.add {n:Nat} {i j:Int} (h1:Bt n i) (h2:Bt n j):Bt (n+1) (i+j):=by
 unfold Bt at *
 rw[Nat.pow_succ]
 generalize 2^n=p at *
 omega
theorem Bt.le {n:Nat} {i j:Int} (h:Bt n j) (q:i.natAbs<=j.natAbs):Bt n i:=abd q h
theorem Bt.of {n:Nat} {i:Int} (b:Nat) (h1:-(b:Int)<=i) (h2:i<=(b:Int)) (h:b<2^n:=by ac_rfl):Bt n i:=by
 unfold Bt
 exact abd (by omega) h
theorem Bt.log {n:Nat} {i:Int} (h:Bt n i) (q:n<=9000:=by decide):i.natAbs.log2<9000:=by
 by_cases z:i.natAbs=0
 ·rw[z];decide
 ·exact aau ((Nat.log2_lt z).mpr h) q
theorem Bt.dM {m n:Nat} {i j:Int} (h1:Bt m i) (h2:Bt n j) (q:m+n<=134217728:=by decide):IntMulOk i j:=mulOk_of_bits h1.bits h2.bits q
theorem cW {i j:Int} (h1:-(2^64)<i:=by decide) (h2:i<2^64:=by decide):IntMulOk i j:=.of_left (intBits_le_64 h1 h2)
theorem nY {i j:Int} (h1:-(2^64)<j:=by decide) (h2:j<2^64:=by decide):IntMulOk i j:=.of_right (intBits_le_64 h1 h2)
section
variable {X : Cx}
theorem aY:kh X (binaryOp .Mult) (rI IntMulOk λi j=>.int (i*j)):=IA λ_ _ _ _ _ _ _ hc q=>mul_int q hc
noncomputable def fJ (_ j:Int):Prop:=0<j/\j.natAbs.log2<9000
theorem fJ.of {i j:Int} {n:Nat} (h:0<j) (b:Bt n j) (q:n<=9000:=by decide):fJ i j:=⟨h,b.log q⟩
theorem fJ.lit {i j:Int} (h:0<j:=by decide) (q:j.natAbs.log2<9000:=by decide):fJ i j:=⟨h,q⟩
theorem dS:kh X (binaryOp .FloorDiv) (rI fJ λi j=>.int (i / j)):=IA λi j _ _ _ _ _ hc q=>by
 have h1:(0:Int)<j:=hc.1
 exact floordiv_int (by omega) (by rw[Int.fdiv_eq_ediv_of_nonneg i (by omega)];exact q) (.inl (PyProof.noPylong_of_log2 hc.2))
noncomputable def wZ (_ j:Int):Prop:=j≠0/\j.natAbs.log2<9000
theorem wZ.of {i j:Int} {n:Nat} (h:j≠0) (b:Bt n j) (q:n<=9000:=by decide):wZ i j:=⟨h,b.log q⟩
theorem zX:kh X (binaryOp .FloorDiv) (rI wZ λi j=>.int (i.fdiv j)):=IA λ_ _ _ _ _ _ _ hc q=>floordiv_int hc.1 q (.inl (PyProof.noPylong_of_log2 hc.2))
theorem c7:kh X (binaryOp .Mod) (rI (λ_ j=>0<j) λi j=>.int (i % j)):=Fn
noncomputable def rIxTH:R2:=λx y H Q=>∃p xs i v,x=.ref p/\y=.int i/\H p=some (.tup xs)/\eE xs i=some v/\Q v H
theorem aH:Es X rIxTH:=λvalue slice pins s σ H x y v u Q I rx ry ⟨p,xs,i,z,e1,e2,e3,e4,q⟩ hs=>
 Fu value slice pins s σ H x y v u Q I rx ry ⟨p,xs,i,z,e1,e2,dZ.of e3,e4,q⟩ hs
noncomputable def rIxLH:R2:=λx y H Q=>∃p xs i v,x=.ref p/\y=.int i/\H p=some (.lst xs)/\eE xs i=some v/\Q v H
theorem aE:Es X rIxLH:=λvalue slice pins s σ H x y v u Q I rx ry ⟨p,xs,i,z,e1,e2,e3,e4,q⟩ hs=>
 wX value slice pins s σ H x y v u Q I rx ry ⟨p,xs,i,z,e1,e2,bo.of e3,e4,q⟩ hs
noncomputable def tTupS (t:TA):TE:=λσ H Q=>t σ H λxs H1=>xs.length<=sizeLine/\∀p H2,az H1 H2->H1 p=none->H2 p=some (.tup xs)->Q (.ref p) H2
theorem ax {H:Hp} {p:Addr} {o:HO} (h:H p=none):az H (upd H p o):=λb u e=>by
 rw[aJ (bD e h)]
 exact e
theorem bL {es:List Expr} {t:TA} {x1} {pos:Pos} (h:PA X es t):PE X (.Tuple es x1 pos) (tTupS t):=λpins s σ H Q I hq=>
 cB (h:=wpAny_Tuple_spliced (cB (h pos pins s σ H _ I hq) λus s1 ⟨xs,H1,I1,r,z,q⟩=>⟨by rw[<-r.length];exact z,by
  have hf:H1 s1.heap.objs.size=none:=I1.bT.fresh (aah _)
  refine⟨.ref s1.heap.objs.size,upd H1 s1.heap.objs.size (.tup xs),I1.laid (t':=s1.toks) (λb u e=>Heap.get?_push_of_some _ e) (aah _) ?_,rfl,q _ _ (ax hf) hf ar⟩
  exact⟨z,us,r,⟨_,Heap.get?_push_size _ rfl,rfl,_,rfl⟩⟩⟩)) λ_ _ z=>z
theorem qr:cQ X (.builtin "len") (λxs H Q=>∃p ys,xs=[.ref p]/\H p=some (.tup ys)/\Q (.int ys.length) H):=λpins s σ H xs us Q I r ⟨p,ys,e,h,q⟩=>
 gu pins s σ H xs us Q I r ⟨p,ys,e,.inr (dZ.of h),q⟩
theorem bB:cQ X (.builtin "len") (λxs H Q=>∃p ys,xs=[.ref p]/\H p=some (.lst ys)/\Q (.int ys.length) H):=λpins s σ H xs us Q I r ⟨p,ys,e,h,q⟩=>
 gu pins s σ H xs us Q I r ⟨p,ys,e,.inl (bo.of h),q⟩
theorem yI:cQ X (.builtin "len") (λxs H Q=>∃p ns,xs=[.ref p]/\bo X.K H p (List.map V.int ns)/\Q (.int (List.length ns:Nat)) H):=λpins s σ H xs us Q I r ⟨p,ns,e,h,q⟩=>
 gu pins s σ H xs us Q I r ⟨p,_,e,.inl h,by rw[aac];exact q⟩
noncomputable def FG (K:PySem.W.Frag):R2:=λx y H Q=>∃p ns i,x=.ref p/\y=.int i/\bo K H p (List.map V.int ns)/\0<=i/\i< (List.length ns:Nat)/\Q (.int (ns.getD i.toNat 0)) H
theorem dC {ns:List Int} {i:Int} (h0:0<=i) (h1:i< (ns.length:Nat)):eE (ns.map V.int) i=some (.int (ns.getD i.toNat 0)):=by
 obtain⟨j,rfl⟩:=aav h0
 refine bE ?_
 have hj:j<ns.length:=by omega
 rw[aaf,aad hj]
 simp [aae,aad hj]
theorem zY:Es X (FG X.K):=λvalue slice pins s σ H x y v u Q I rx ry ⟨p,ns,i,e1,e2,e3,h0,h1,q⟩ hs=>
 wX value slice pins s σ H x y v u Q I rx ry ⟨p,_,i,_,e1,e2,e3,dC h0 h1,q⟩ hs
structure bU (P:Program) (w:World) (K:PySem.W.Frag) (mg:Str->Option Value) (base:Heap) (CX:kr) (k:Nat) (x:Str) (ps:List Str) (sp:Sp):Prop where
 ex:∃f fd,eD P w K mg base CX k f fd ps sp/\mg x=some (.ref f)/\PySem.W.keepIn K (.ref f)=true/\Binds K fd ps []
theorem aK {CX:kr} {k:Nat} {x:Str} {ps:List Str} {sp:Sp} {E:XK} {e:Expr} {es:List Expr} {t:TA} {p pos:Pos} (C:bU X.prog X.w X.K X.mg X.base CX k x ps sp) (hr:dc k X.A) (hg:Gl X x) (hx:eN CX X E) (ha:PA X (e::es) t)
  (zJ:(x==("__debug__":Str))=false:=by decide) (he:starEach (e::es) X.env=(false,eval e X.env)::starEach es X.env:=by rfl) (hpl:(backTo pos (starEach es X.env)).any (·.1)=false:=by rfl):
  PE X (.Call (.Name x p) (e::es) [] pos) (tCall sp [] E t):=by
 obtain⟨f,fd,F,hm,hk,hb⟩:=C.ex
 exact CK F hr hg hm hk hb .nil hx ha zJ he hpl
end
noncomputable def rj (CX:kr):Prop:=∀outer H s e s',¬CX outer H s (λ_ _ _=>False) e s'
theorem rj.pass {CX:kr} (h:rj CX) {X:Cx}:eN CX X E0:=λ_ _ H s e s' _ z=>(h _ H s e s' z).elim
section
variable {P : Program} {w : World} {K : PySem.W.Frag} {mg : Str -> Option Value} {base : Heap} {CX : kr}
theorem vO.d5 {x qual:Str} {st:Stmt} {f:Addr} {fd:FuncData} {N ps:List Str} {k:Nat} {sp:Sp} (F:vO K x qual st f fd) (S:aQ N ps (af st)) (len:∀vs H Q E,sp vs H Q E->vs.length=ps.length)
  (tP:∀(cG:Value) (A:Around) (outer:List Env) (s:Shared) (H:Hp) (vs:List V) (Q:VK) (E:XK),dc k (A.deeper (envOfC qual (af st) s.heap.objs.size f cG))->sp vs H Q E->
   ∃t,vf (vJ CX P w K mg base N qual (af st) f cG A outer s H E).HK (aL st) t/\t {nx:=λ_ H'=>Q .b9 H',rt:=Q} (start N vs) H):eD P w K mg base CX (k+1) f fd ps sp:=by
 obtain⟨oc,od,kV,doc,pm,an,cG,ct,zg,rfl,lk,tK⟩:=F.ex
 refine Er lk tK S len λA outer s H vs Q E hr Cm=>?_
 obtain⟨t,h,q⟩:=tP cG A outer s H vs Q E hr Cm
 exact⟨t,h.HK,q⟩
structure Dn (K:PySem.W.Frag) (mg:Str->Option Value) (x:Str) (st:Stmt):Prop where
 ex:∃f fd,vO K x x st f fd/\mg x=some (.ref f)
theorem Dn.d3 {x:Str} {st:Stmt} {ps:List Str} {k:Nat} {sp:Sp} (D:Dn K mg x st)
  (hb:∀(kV doc pm:Value) (an:Option Addr) (cG ct:Value) (us:List Value),us.length=ps.length->bindArgs (PySem.W.fnOf x x (aM st) (aL st) (af st) .none kV doc pm an cG ct) ⟨us,[]⟩=pure (ps.zip us))
  (h:∀f fd,vO K x x st f fd->eD P w K mg base CX k f fd ps sp):bU P w K mg base CX k x ps sp:=by
 obtain⟨f,fd,F,hm⟩:=D.ex
 exact⟨f,fd,h f fd F,hm,F.kp,F.binds hb⟩
end
section
variable {X : Cx}
noncomputable def HP (xs ys:List V):Bool:=(List.range (min xs.length ys.length)).all (λj=>Fw (xs.getD j .b9) (ys.getD j .b9)) && xs.length==ys.length
theorem mW {xs:List V} (h:xs.all iV=true) {j:Nat} (hj:j<xs.length):iV (xs.getD j .b9)=true:=by
 rw[aae,aad hj]
 exact List.all_eq_true.mp h _ (aan hj)
theorem rn {xs:List V} {us:List Value} (r:bz xs us) {j:Nat} (hj:j<us.length):RelV (xs.getD j .b9) us[j]:=by
 have hl:=r.length
 have hx:j<xs.length:=by omega
 obtain⟨u,e1,e2⟩:=r.get (aad hx)
 rw[aad hj] at e1
 cases e1
 rw[aae,aad hx]
 exact e2
noncomputable def rEqT:R2:=λx y H Q=>∃p q xs ys,x=.ref p/\y=.ref q/\H p=some (.tup xs)/\H q=some (.tup ys)/\xs.all iV=true/\ys.all iV=true/\Q (.bl (HP xs ys)) H
theorem qt (hu:X.A.units<cLine):kh X (compareOp .Eq) rEqT:=by
 intro pins s σ H x y v u Q I rx ry h
 obtain⟨p,q,xs,ys,rfl,rfl,hp,hq,fx,fy,k⟩:=h
 cases rx
 cases ry
 obtain⟨aV,r,pl,hz⟩:=I.tuple (dZ.of hp)
 obtain⟨lY,r2,MV,XZ⟩:=I.tuple (dZ.of hq)
 have l1:=r.length
 have l2:=r2.length
 refine SeqAt.eq_tupleAt (e:=λj=>Fw (xs.getD j .b9) (ys.getD j .b9)) pl MV hu (λj h1 h2=>?_) ⟨.bl _,H,I,rfl,?_⟩
 ·rw[aal] at h1 h2
  exact zN (rn r h1) (rn r2 h2) (mW fx (by omega)) (mW fy (by omega))
 ·rw[aal,aal,<-l1,<-l2]
  exact k
noncomputable def rInT:R2:=λx y H Q=>∃p xs,y=.ref p/\H p=some (.tup xs)/\iV x=true/\xs.all iV=true/\Q (.bl (XX x xs)) H
theorem zZ:cQ X (.builtin "isinstance") (λxs H Q=>∃x c t b,xs=[x,.ty c]/\fc X.K H x t/\PySem.W.kitOne X.K t (.type c)=some b/\Q (.bl b) H):=by
 intro pins s σ H xs us Q I r h
 obtain⟨x,c,t,b,rfl,ty,e,q⟩:=h
 obtain⟨u,u',rfl,rx,rc⟩:=vals2 r
 cases rc
 exact yz I rx ty e λtk=>⟨.bl b,H,I.tok tk,rfl,q⟩
end
theorem at0 {α:Type} {x:α} {l:List α}:eE (x::l) 0=some x:=bE (j:=0) rfl
theorem at1 {α:Type} {x y:α} {l:List α}:eE (x::y::l) 1=some y:=bE (j:=1) rfl
theorem at2 {α:Type} {x y z:α} {l:List α}:eE (x::y::z::l) 2=some z:=bE (j:=2) rfl
noncomputable def Pr (a b:Int):List V:=[.int a,.int b]
theorem Aa {K:PySem.W.Frag}:PySem.W.kitOne K (.type "int") (.type "int")=some true:=by unfold PySem.W.kitOne;rw[if_pos (by ac_rfl)]
theorem Ab {K:PySem.W.Frag}:PySem.W.kitOne K (.type "tuple") (.type "tuple")=some true:=by unfold PySem.W.kitOne;rw[if_pos (by ac_rfl)]
theorem Ac {K:PySem.W.Frag}:PySem.W.kitOne K (.type "list") (.type "list")=some true:=by unfold PySem.W.kitOne;rw[if_pos (by ac_rfl)]
theorem C1 {K:PySem.W.Frag} {t c:String} {b:Bool} (h1:(Value.type t==Value.type c)=false:=by ac_rfl) (h2:PySem.W.kitMeta c=true:=by ac_rfl) (h3:(PySem.fastBuiltinMro t).map (·.contains (Value.type c))=some b:=by ac_rfl):
  PySem.W.kitOne K (.type t) (.type c)=some b:=by
 unfold PySem.W.kitOne PySem.W.kitCls PySem.W.subIn
 rw[if_neg (by rw[h1];decide)]
 dsimp only
 rw[if_pos h2]
 exact h3
theorem Ad {K:PySem.W.Frag}:PySem.W.kitOne K (.type "int") (.type "bool")=some false:=C1
theorem Ae (a b c d:Int):HP [.int a,.int b] [.int c,.int d]=(a==c && b==d):=by
 show(([0,1]:List Nat).all (λj=>Fw (([.int a,.int b]:List V).getD j .b9) (([.int c,.int d]:List V).getD j .b9)) && true)=_
 simp [Fw]
theorem nZ (a b:Int):HP [.int a,.int b] [.int a,.int b]=true:=by
 rw[Ae]
 simp
end L2
namespace Nm
noncomputable def g (a b:Int):Int:=(Int.gcd a b:Nat)
theorem FH (a b:Int):0<=g a b:=Int.natCast_nonneg _
theorem lA {a b:Int} (h:b≠0):0<g a b:=by
 have:=Int.gcd_pos_of_ne_zero_right a h
 unfold g
 omega
theorem jF (a b:Int):g a b∣a:=Int.gcd_dvd_left ..
theorem fj (a b:Int):g a b∣b:=Int.gcd_dvd_right ..
theorem rA (a b:Int):g a b=g b a:=by unfold g;rw[Int.gcd_comm]
theorem FI {a b:Int} (h:0<b):g a b<=b:=abe h (fj a b)
theorem Af (a b:Int):g (a.natAbs:Int) b=g a b:=by
 unfold g Int.gcd
 rw[Int.natAbs_natCast]
theorem xa (a b:Int):g a (b.natAbs:Int)=g a b:=by
 rw[rA,Af,rA]
theorem Ew (a b:Int):g (-a) b=g a b:=by
 unfold g Int.gcd
 rw[Int.natAbs_neg]
theorem Ag {a b:Int} (ha:0<=a) (_hb:0<b):g b (a % b)=g a b:=by
 unfold g Int.gcd
 rw[Int.natAbs_emod_of_nonneg ha,Nat.gcd_comm b.natAbs,<-Nat.gcd_rec,Nat.gcd_comm]
theorem Ah {a:Int} (ha:0<=a):g a 0=a:=by
 unfold g
 rw[Int.gcd_zero_right]
 omega
theorem Ai {a b:Int} (h:b≠0):g a b<=(b.natAbs:Int):=by
 rw[<-xa]
 exact FI (by omega)
theorem C3 {a b:Int} (h:b≠0):g (a / g a b) (b / g a b)=1:=by
 have p:0<Int.gcd a b:=Int.gcd_pos_of_ne_zero_right a h
 unfold g
 rw[Int.gcd_ediv_gcd_ediv_gcd p]
 rfl
theorem C4 {a b:Int} (h:0<b):0<b / g a b:=Int.ediv_pos_of_pos_of_dvd h (FH a b) (fj a b)
theorem yJ (a b:Int):(a / g a b)*b=a* (b / g a b):=by
 rw[<-Int.mul_ediv_assoc _ (fj a b),aaA a b,Int.mul_ediv_assoc _ (jF a b),aaA]
theorem mX {q a b:Int} (h:q∣a*b) (c:Int.gcd a q=1):q∣b:=by
 have h1:=(Int.dvd_gcd_mul_iff_dvd_mul (k:=q) (n:=a) (m:=b)).mpr h
 rw[Int.gcd_comm,c] at h1
 simpa using h1
theorem C5 {p q p' q':Int} (h:0<q) (h':0<q') (e:g p q=1) (e':g p' q'=1) (c:p*q'=p'*q):p=p'/\q=q':=by
 have c1:Int.gcd p q=1:=by unfold g at e;omega
 have c2:Int.gcd p' q'=1:=by unfold g at e';omega
 have d1:q∣q':=by
  have:q∣p*q':=⟨p',by rw[c,aaA]⟩
  exact mX this c1
 have d2:q'∣q:=by
  have:q'∣p'*q:=⟨p,by rw[<-c,aaA]⟩
  exact mX this c2
 have eq:q=q':=by
  have:=abe h' d1
  have:=abe h d2
  omega
 subst eq
 exact⟨Int.eq_of_mul_eq_mul_right (by omega) c,rfl⟩
theorem dU {a g:Int} (_h:0<g) (d:g∣a):(a / g).natAbs<=a.natAbs:=by
 rw[Int.natAbs_ediv_of_dvd d]
 exact Nat.div_le_self _ _
theorem back {a b c d p q x y:Int} (hq:0<q) (hd:0<d) (e:p* (b*d)=(a*d - c*b)*q) (f:x* (q*d)=(p*d+c*q)*y):x*b=a*y:=by
 have h:(x*b)* (q*d)=(a*y)* (q*d):=by grind
 exact Int.eq_of_mul_eq_mul_right (by have:=aaE hq hd;omega) h
end Nm
namespace L2
open PySem PySem.Spec PyProof.Rows PySem.W
theorem cw.get {P:Program} {w:World} {H:Hp} {h:Heap} {a:Addr}:∀{o:HO},cw P w H h a o->∃ob,h.get? a=some ob
 | .lst _,x=>let ⟨_,_,_,_,e⟩:=x;⟨_,e⟩
 | .tup _,x=>let ⟨_,_,_,o,e,_⟩:=x;⟨o,e⟩
 | .dK _,x=>let ⟨_,_,_,_,o,_,_,e,_⟩:=x;⟨o,e⟩
 | .dT _,x=>let ⟨_,_,_,_,o,_,_,e,_⟩:=x;⟨o,e⟩
 | .set _ _,x=>by
  obtain⟨o,es,ep,t,e,_⟩:=x
  exact⟨o,e⟩
 | .ins _ _ _,x=>let ⟨_,_,_,e,_⟩:=x;⟨_,e⟩
 | .own _,x=>x
 | .xd _,x=>by
  obtain⟨mA,⟨o,es,ep,e,_⟩,_⟩:=x
  exact⟨o,e⟩
 | .lP _ _,x=>let ⟨_,_,_,e⟩:=x;⟨_,e⟩
 | .tq _ _,x=>⟨_,x.1⟩
 | .tu _,⟨_,x,_⟩=>⟨_,x⟩
 | .met _ _,x=>⟨_,x⟩
 | .ext _,x=>x.2.1
structure X0 (P:Program) (w:World) (l:List Env) (H:Hp) (s:Shared) (H':Hp) (ad:Addr) (cls:Value) (s':Shared):Prop where
 os:s'.os=s.os
 bare:AllBare s'.gens
 un:Un (tI l) [] H H' s.heap s'.heap
 bT:gX P w H' s'.heap
 fl:∃B a0,Heap.FlyingW B l ad cls a0 s'.heap/\(∀b o,s.heap.get? b=some o->H b=none->b∉tI l->B.get? b=some o)/\(∀b o,s.heap.get? b=some o->b∉tI l->∃o',B.get? b=some o')/\
  (∀b u o,H' b=some u->s'.heap.get? b=some o->B.get? b=some o)
noncomputable def bN (P:Program) (w:World):kr:=λl H s E e s'=>∃ad cls H',e=.ref ad/\X0 P w l H s H' ad cls s'/\E cls none H'
theorem xc (P:Program) (w:World):rj (bN P w):=λ_ _ _ _ _ ⟨_,_,_,_,_,h⟩=>h
section
variable {P : Program} {w : World} {K : PySem.W.Frag} {mg : Str -> Option Value} {base : Heap} {N : List Str} {qual : Str} {scope : Scope} {f : Addr} {cG : Value} {A : Around} {outer : List Env} {s0 : Shared} {H0 : Hp} {E : XK}
end
end L2
namespace L2
open PySem PySem.Spec PyProof.Rows PySem.W
abbrev X1:List Value:=[.type "ValueError",.type "Exception",.type "BaseException",.type "object"]
abbrev VI:String:="ValueError.__new__"
noncomputable def tRaise (C:Addr) (E:XK) (t:TA):TS:=λ_ σ H=>t σ H λvs H1=>vs.length<=sizeLine/\E (.ref C) none H1
section
variable {P : Program} {w : World} {K : PySem.W.Frag} {mg : Str -> Option Value} {base : Heap} {N : List Str} {qual : Str} {scope : Scope} {f : Addr} {cG : Value} {A : Around} {outer : List Env} {s0 : Shared} {H0 : Hp} {E : XK}
end
section
variable {X : Cx} {pins : List (Addr × Obj)} {σ : St} {H H' : Hp} {s s' : Shared}
abbrev Cx.mark (X:Cx) (ad:Addr):Cx:={X with A:=X.A.mark (some (.ref ad)),calm:=false,xe:=λ_ _=>False}
end
section
variable {X : Cx} {CX : kr} {k : Nat} {x : Str} {ps : List Str} {sp : Sp} {E : XK} {e : Expr} {es : List Expr} {t : TA} {p pos : Pos}
variable {cx n : Str} {np X2 X3 lV : Pos} {b₀ : Stmt} {VJ : List Stmt} {i : Nat} {ts : TS} {C2 : Addr}
end
end L2
namespace Nm
noncomputable def st (a b:Int):Int:=if b<0 then -(a / g a b) else a / g a b
noncomputable def sb (a b:Int):Int:=if b<0 then -(b / g a b) else b / g a b
set_option tactic.hygienic true in
theorem Aj {a b:Int} (h:b≠0):0<sb a b:=by
 have g0:=lA (a:=a) h
 unfold sb
 split
 ·rename_i hb
  have h1:0< (-b) / g a b:=Int.ediv_pos_of_pos_of_dvd (by omega) (FH a b) (Int.dvd_neg.mpr (fj a b))
  rw[Int.neg_ediv_of_dvd (fj a b)] at h1
  exact h1
 ·exact C4 (by omega)
theorem C6 (a b:Int):g a (-b)=g a b:=by rw[rA,Ew,rA]
theorem Ak {a b:Int} (h:b≠0):g (st a b) (sb a b)=1:=by
 have e:=C3 (a:=a) h
 unfold st sb
 split
 ·rw[Ew,C6];exact e
 ·exact e
theorem oa (a b:Int):st a b*b=a*sb a b:=by
 have e:=yJ a b
 unfold st sb
 split
 ·rw[Int.neg_mul,e,Int.mul_neg]
 ·exact e
theorem FJ {a b:Int} (h:b≠0):(st a b).natAbs<=a.natAbs:=by
 have:=dU (lA (a:=a) h) (jF a b)
 unfold st
 split <;>omega
theorem FK {a b:Int} (h:b≠0):(sb a b).natAbs<=b.natAbs:=by
 have:=dU (lA (a:=a) h) (fj a b)
 unfold sb
 split <;>omega
theorem og {a b:Int} (h:0<b):st a b=a / g a b/\sb a b=b / g a b:=by
 unfold st sb
 rw[if_neg (by omega),if_neg (by omega)]
 exact⟨rfl,rfl⟩
end Nm
namespace L2
open PySem PySem.Spec PyProof.Rows
section
variable {P : Program} {w : World} {K : PySem.W.Frag} {mg : Str -> Option Value} {base : Heap} {CX : kr}
end
noncomputable def noStar:Expr->Bool
 | .Starred _ _=>false
 | _=>true
theorem se {e:Expr} {es:List Expr} {env:Env} (h:noStar e=true):starEach (e::es) env=(false,eval e env)::starEach es env:=by
 cases e <;>first | rfl | exact absurd h aaw
theorem na {env:Env} {pos:Pos}:∀{es:List Expr},es.all noStar=true->(backTo pos (starEach es env)).any (·.1)=false
 | [],_=>rfl
 | e::es,h=>by
  rw[List.all_cons,aa4] at h
  rw[se h.1]
  show(false || (backTo pos (starEach es env)).any (·.1))=false
  rw[na h.2]
  rfl
end L2
namespace L2
open PySem PySem.Spec PyProof.Rows PySem.W
structure MW (K:PySem.W.Frag) (C:Addr):Prop where
 cls:(clsIn K C).isSome=true
 ga:findIn K (.ref C) "__getattribute__"=some (some (.builtin "BaseException.__getattribute__"))
 gt:findIn K (.ref C) "__getattr__"=some none
 cl:findIn K (.ref C) "__class__"=some (some (.builtin "object.__class__"))
 be:mroIn K C (.type "BaseException")=some true
 ob:mroIn K C (.type "object")=some true
section
variable {prog : Program} {w : World} {A : Around} {E : Value -> Shared -> Prop} {K : PySem.W.Frag} {h : Heap} {g : Array GenState} {d : Drawn} {t : Nat} {os : OsState} {a C : Addr} {o : Obj}
end
section
variable {X : Cx}
end
end L2
namespace L2
open PySem PySem.Spec PyProof.Rows
theorem jc {env:Env}:∀(names:List (Str×NameKind)) (cs:List (Str×Addr)),(∀n,(n,NameKind.free)∈names->∃c,env.cells.lookup n=some c)->(∀x c,cs.lookup x=some c->env.cells.lookup x=some c)->
  ∃cl,(forIn names cs fun(x:Str×NameKind) (r:List (Str×Addr))=>(if (x.2==NameKind.free)=true then do let c <-cellOf env x.1;pure (ForInStep.yield ((x.1,c)::r)) else pure (ForInStep.yield r):Sem (ForInStep (List (Str×Addr)))))=pure cl/\
   (∀x c,cl.lookup x=some c->env.cells.lookup x=some c)/\(∀n,((n,NameKind.free)∈names\/(cs.lookup n).isSome=true)->∃c,cl.lookup n=some c)/\(∀x c,(x,c)∈cl->(env.cells.lookup x=some c/\(x,NameKind.free)∈names)\/(x,c)∈cs)
 | [],cs,_,h=>⟨cs,rfl,h,(λn hn=>by
   rcases hn with hn | hn
   ·exact absurd hn (by simp)
   ·exact Option.isSome_iff_exists.mp hn),λx c m=>.inr m⟩
 | (n,k)::r,cs,hf,h=>by
  by_cases hk:k=.free
  ·subst hk
   obtain⟨c,hc⟩:=hf n aai
   obtain⟨cl,e,h1,h2,h3⟩:=jc r ((n,c)::cs) (λm hm=>hf m (aaj _ hm)) (λx c' hx=>by
    rw[aaN] at hx
    cases q:x==n with
    | true=>
     rw[q] at hx
     have e1:x=n:=by simpa using q
     cases hx
     rw[e1];exact hc
    | false=>rw[q] at hx;exact h x c' hx)
   refine⟨cl,?_,h1,λm hm=>h2 m ?_,λx c' m=>?_⟩
   rotate_left 2
   ·rcases h3 x c' m with ⟨q1,q2⟩ | m
    ·exact .inl ⟨q1,aaj _ q2⟩
    ·rcases List.mem_cons.mp m with e | m
     ·cases e
      exact .inl ⟨hc,aai⟩
     ·exact .inr m
   ·rw[List.forIn_cons]
    have X4:cellOf env n=pure c:=by unfold cellOf;rw[hc]
    simp only[beq_self_eq_true,if_true,X4,pure_bind]
    exact e
   ·rcases hm with hm | hm
    ·rcases List.mem_cons.mp hm with z | z
     ·cases z
      right
      rw[aaN]
      simp
     ·exact .inl z
    ·right
     rw[aaN]
     cases q:m==n with
     | true=>rfl
     | false=>exact hm
  ·obtain⟨cl,e,h1,h2,h3⟩:=jc r cs (λm hm=>hf m (aaj _ hm)) h
   refine⟨cl,?_,h1,λm hm=>h2 m ?_,λx c' m=>(h3 x c' m).imp (λq=>⟨q.1,aaj _ q.2⟩) id⟩
   ·rw[List.forIn_cons]
    have:(k==NameKind.free)=false:=by simpa using hk
    simp only[this,Bool.false_eq_true,if_false,pure_bind]
    exact e
   ·rcases hm with hm | hm
    ·rcases List.mem_cons.mp hm with z | z
     ·cases z;exact absurd rfl hk
     ·exact .inl z
    ·exact .inr hm
theorem fv {env:Env} {scope:Scope} (hf:∀n,(n,NameKind.free)∈scope.names->∃c,env.cells.lookup n=some c):
  ∃cl,closureFor scope env=pure cl/\(∀x c,cl.lookup x=some c->env.cells.lookup x=some c)/\(∀n,(n,NameKind.free)∈scope.names->∃c,cl.lookup n=some c)/\(∀x c,(x,c)∈cl->env.cells.lookup x=some c/\(x,NameKind.free)∈scope.names):=by
 obtain⟨cl,e,h1,h2,h3⟩:=jc (env:=env) scope.names [] hf (λx c h=>by simp at h)
 refine⟨cl,?_,h1,λn hn=>h2 n (.inl hn),λx c m=>(h3 x c m).elim id λz=>absurd z (by simp)⟩
 unfold closureFor
 simp only[bind_pure]
 exact e
structure eI (N:List Str) (so:Scope) (N':List Str) (scope:Scope) (k:Nat) (fr:List Nat):Prop where
 kind:scope.kind=.function
 FL:∀y∈scope.names,y.2=.cell->scope.names.lookup y.1=some .cell/\(y.1,NameKind.free)∉scope.names
 locs:∀y∈scope.names,y.2=.local->scope.names.lookup y.1=some .local
 outer:∀y∈scope.names,y.2=.free->(so.names.lookup y.1=some .cell\/so.names.lookup y.1=some .free)
 len:N'.length=k+fr.length
 at_:∀t,t<fr.length->(fr[t]?).bind (λj=>N[j]?)=N'[k+t]?
 MX:∀x∈N'.drop k,scope.names.lookup x=some .free
noncomputable def stC (k:Nat) (fr:List Nat) (σ:St):St:=List.replicate k none++fr.map λj=>(σ[j]?).join
noncomputable def ma (X:Cx) (N:List Str) (scope:Scope) (cl:List (Str×Addr)) (C:Addr) (s:Shared) (H:Hp) (ex:List Addr):Cx where
 prog:=X.prog
 w:=X.w
 K:=X.K
 mg:=X.mg
 base:=X.base
 A:=X.A
 N:=N
 s₀:=s
 H₀:=H
 env:=compEnvC scope cl C X.env
 outer:=X.stack
 stack:=X.stack
 ex:=ex
 calm:=X.calm
 fn:=λx=>scope.names.lookup x==some .cell
 pn:=[]
 xe:=λ_ _=>False
theorem en {env:Env}:∀{names:List (Str×NameKind)} {x:Str},names.lookup x=some .free->
  (names.map fun(n,k)=>if (k==NameKind.free && env.scope.kind==.function && env.kindOf n==some .cell) then (n,NameKind.cell) else (n,k)).lookup x=some .cell\/
  (names.map fun(n,k)=>if (k==NameKind.free && env.scope.kind==.function && env.kindOf n==some .cell) then (n,NameKind.cell) else (n,k)).lookup x=some .free
 | [],_,h=>by simp at h
 | (n,k)::r,x,h=>by
  have ih:=@en env r x
  show List.lookup x ((if (k==NameKind.free && env.scope.kind==.function && env.kindOf n==some .cell)=true then (n,NameKind.cell) else (n,k))::_)=_\/List.lookup x ((if (k==NameKind.free && env.scope.kind==.function && env.kindOf n==some .cell)=true then (n,NameKind.cell) else (n,k))::_)=_
  cases hx:x==n with
  | true=>
   simp only[aaN,hx] at h
   cases h
   by_cases hc:(NameKind.free==NameKind.free && env.scope.kind==.function && env.kindOf n==some .cell)=true
   ·rw[if_pos hc];left;simp [aaN,hx]
   ·rw[if_neg hc];right;simp [aaN,hx]
  | false=>
   simp only[aaN,hx] at h
   by_cases hc:(k==NameKind.free && env.scope.kind==.function && env.kindOf n==some .cell)=true
   ·rw[if_pos hc];simp only[aaN,hx];exact ih h
   ·rw[if_neg hc];simp only[aaN,hx];exact ih h
theorem jG {env:Env}:∀{names:List (Str×NameKind)} {x:Str},
  ((names.map fun(n,k)=>if (k==NameKind.free && env.scope.kind==.function && env.kindOf n==some .cell) then (n,NameKind.cell) else (n,k)).lookup x=some .cell\/
  (names.map fun(n,k)=>if (k==NameKind.free && env.scope.kind==.function && env.kindOf n==some .cell) then (n,NameKind.cell) else (n,k)).lookup x=some .free)->(x,NameKind.free)∈names\/(x,NameKind.cell)∈names
 | [],_,h=>by simp at h
 | (n,k)::r,x,h=>by
  have ih:=@jG env r x
  have up:((x,NameKind.free)∈r\/(x,NameKind.cell)∈r)->((x,NameKind.free)∈(n,k)::r\/(x,NameKind.cell)∈(n,k)::r):=λz=>z.imp (aaj _) (aaj _)
  have h:List.lookup x ((if (k==NameKind.free && env.scope.kind==.function && env.kindOf n==some .cell)=true then (n,NameKind.cell) else (n,k))::_)=_\/List.lookup x ((if (k==NameKind.free && env.scope.kind==.function && env.kindOf n==some .cell)=true then (n,NameKind.cell) else (n,k))::_)=_:=h
  cases hx:x==n with
  | true=>
   have e1:x=n:=by simpa using hx
   subst e1
   by_cases hc:(k==NameKind.free && env.scope.kind==.function && env.kindOf x==some .cell)=true
   ·have:k=.free:=by
     simp only[aa4] at hc
     simpa using hc.1.1
    subst this
    exact .inl aai
   ·rw[if_neg hc] at h
    simp only[aaN,hx] at h
    rcases h with h | h
    ·cases h;exact .inr aai
    ·cases h;exact .inl aai
  | false=>
   by_cases hc:(k==NameKind.free && env.scope.kind==.function && env.kindOf n==some .cell)=true
   ·rw[if_pos hc] at h;simp only[aaN,hx] at h;exact up (ih h)
   ·rw[if_neg hc] at h;simp only[aaN,hx] at h;exact up (ih h)
theorem kB:∀(names:List (Str×NameKind)) (h:Heap) (acc:List (Str×Addr)) (x:Str) (c:Addr),(x,c)∈cellsFrom h.objs.size names acc->
  (x,c)∈acc\/(h.objs.size<=c/\(pushCells h names).IsCell c none/\(x,NameKind.cell)∈names)
 | [],h,acc,x,c,m=>.inl m
 | (n,k)::r,h,acc,x,c,m=>by
  unfold cellsFrom at m
  unfold pushCells
  by_cases hk:(k==NameKind.cell)=true
  ·rw[if_pos hk] at m ⊢
   have ih:=kB r (h.push {cls:=.type "cell",data:=.cell none}) ((n,h.objs.size)::acc) x c
   rw[Heap.size_push] at ih
   rcases ih m with m | ⟨q1,q2,q3⟩
   ·rcases List.mem_cons.mp m with e | m
    ·cases e
     have hk:k=.cell:=by simpa using hk
     subst hk
     refine .inr ⟨aah _,?_,aai⟩
     have q:(h.push {cls:=.type "cell",data:=.cell none}).IsCell h.objs.size none:=⟨_,Heap.get?_push_size _ rfl,rfl⟩
     exact q.keeps λb o e=>pushCells_keeps r _ b o e
    ·exact .inl m
   ·exact .inr ⟨by omega,q2,aaj _ q3⟩
  ·rw[if_neg hk] at m ⊢
   rcases kB r h acc x c m with m | ⟨q1,q2,q3⟩
   ·exact .inl m
   ·exact .inr ⟨q1,q2,aaj _ q3⟩
theorem kC:∀(names:List (Str×NameKind)) (n lo:Nat) (acc:List (Str×Addr)),(∀x c,(x,c)∈acc->c<n)->(∀x y c,lo<=c->(x,c)∈acc->(y,c)∈acc->x=y)->
  ∀x y c,lo<=c->(x,c)∈cellsFrom n names acc->(y,c)∈cellsFrom n names acc->x=y
 | [],n,lo,acc,h1,h2,x,y,c,hl,m1,m2=>h2 x y c hl m1 m2
 | (z,k)::r,n,lo,acc,h1,h2,x,y,c,hl,m1,m2=>by
  unfold cellsFrom at m1 m2
  by_cases hk:(k==NameKind.cell)=true
  ·rw[if_pos hk] at m1 m2
   refine kC r (n+1) lo _ (λx c m=>?_) (λx y c hl m1 m2=>?_) x y c hl m1 m2
   ·rcases List.mem_cons.mp m with e | m
    ·cases e;exact aaM _
    ·exact abm (h1 x c m)
   ·rcases List.mem_cons.mp m1 with e1 | m1 <;>rcases List.mem_cons.mp m2 with e2 | m2
    ·cases e1;cases e2;rfl
    ·cases e1;exact absurd (h1 _ _ m2) (aaG _)
    ·cases e2;exact absurd (h1 _ _ m1) (aaG _)
    ·exact h2 x y c hl m1 m2
  ·rw[if_neg hk] at m1 m2
   exact kC r n lo acc h1 h2 x y c hl m1 m2
theorem gz:∀(names:List (Str×NameKind)) (n:Nat) (acc:List (Str×Addr)) (x:Str),(x,NameKind.cell)∉names->(cellsFrom n names acc).lookup x=acc.lookup x
 | [],n,acc,x,_=>rfl
 | (z,k)::r,n,acc,x,h=>by
  have hr:(x,NameKind.cell)∉r:=λm=>h (aaj _ m)
  unfold cellsFrom
  by_cases hk:(k==NameKind.cell)=true
  ·rw[if_pos hk,gz r _ _ x hr,aaN]
   have hk:k=.cell:=by simpa using hk
   subst hk
   have:(x==z)=false:=by
    cases q:x==z with
    | false=>rfl
    | true=>
     have e:x=z:=by simpa using q
     subst e
     exact absurd aai h
   rw[this]
  ·rw[if_neg hk]
   exact gz r n acc x hr
theorem kD:∀(names:List (Str×NameKind)) (n:Nat) (acc:List (Str×Addr)) (x:Str),((x,NameKind.cell)∈names\/(acc.lookup x).isSome=true)->((cellsFrom n names acc).lookup x).isSome=true
 | [],n,acc,x,h=>by
  rcases h with h | h
  ·simp at h
  ·exact h
 | (z,k)::r,n,acc,x,h=>by
  unfold cellsFrom
  by_cases hk:(k==NameKind.cell)=true
  ·rw[if_pos hk]
   refine kD r _ _ x ?_
   rcases h with h | h
   ·rcases List.mem_cons.mp h with e | h
    ·cases e
     right
     rw[aaN]
     simp
    ·exact .inl h
   ·right
    rw[aaN]
    cases q:x==z with
    | true=>rfl
    | false=>exact h
  ·rw[if_neg hk]
   refine kD r _ _ x ?_
   rcases h with h | h
   ·rcases List.mem_cons.mp h with e | h
    ·cases e;exact absurd rfl hk
    ·exact .inl h
   ·exact .inr h
section
variable {M : Model} {A : Around} {E : Value -> Shared -> Prop} {s : Shared}
theorem jH {scope:Scope} {globals:Addr} {closure:List (Str×Addr)} {qual:Str} {func:Option Addr} {code:Value} {outer:Env} {Q:Env->Shared->Prop}
  (hQ:Q (newEnv scope s.heap.objs.size globals (cellsFrom (s.heap.objs.size+1) scope.names closure) qual func code (some outer) builtinsNs)
   {s with heap:=pushCells (s.heap.push {cls:=.type "dict",data:=.dict #[]}) scope.names}):
  wpAny M A (newFunctionEnv scope globals closure [] qual func code (some outer)) Q E s:=by
 simp only[newFunctionEnv,Option.isSome_some,if_true]
 refine wpAny_bind (wpAny_alloc ?_)
 refine wpAny_bind (wpAny_layCells _ (λname kind cells=>by cases X5:kind==NameKind.cell <;>simp [X5]) _ _ _ _ ?_)
 rw[show({s with heap:=s.heap.push {cls:=.type "dict",data:=.dict #[]}}:Shared).heap.objs.size=s.heap.objs.size+1 from Heap.size_push ..]
 refine wpAny_bind ?_
 rw[List.forIn_nil]
 exact wpAny_pure (wpAny_pure hQ)
end
structure FN (X:Cx) (scope:Scope) (cl:List (Str×Addr)) (lo:Nat) (C:Addr) (h1:Heap):Prop where
 old:∀x c,cl.lookup x=some c->X.env.cells.lookup x=some c\/(lo<=c/\C<c/\h1.IsCell c none)
 inj:∀x y c,C<c->cl.lookup x=some c->cl.lookup y=some c->x=y
 has:∀n,(n,NameKind.free)∈scope.names\/(n,NameKind.cell)∈scope.names->∃c,cl.lookup n=some c
 MX:∀n,scope.names.lookup n=some .free->∀c,cl.lookup n=some c->X.env.cells.lookup n=some c
 own:∀x c,scope.names.lookup x=some .cell->cl.lookup x=some c->lo<=c
section
variable {X : Cx} {pins : List (Addr × Obj)} {σ : St} {H : Hp} {s : Shared} {N' : List Str} {scope : Scope} {k : Nat} {fr : List Nat} {cl : List (Str × Addr)}
theorem FO {C:Addr} {fp:List Addr} {h1:Heap} (I:Inv X pins σ H s) (S:eI X.N X.env.scope N' scope k fr) (B:FN X scope cl s.heap.objs.size C h1)
  (hC:s.heap.objs.size<=C) (f2:∀b∈fp,iO X pins H b) (lt:∀b∈fp,b<s.heap.objs.size):(ma X N' scope cl C s H fp).Ok where
 mod:=I.ok.mod
 kind:=S.kind
 glob:=I.ok.glob
 blt:=I.ok.blt
 above:=hC
 inj:=λx y c h1 h2=>by
  rcases B.old _ _ h1 with o1 | o1 <;>rcases B.old _ _ h2 with o2 | o2
  ·exact I.ok.inj x y c o1 o2
  ·exact B.inj x y c o2.2.1 h1 h2
  ·exact B.inj x y c o1.2.1 h1 h2
  ·exact B.inj x y c o1.2.1 h1 h2
 has:=λx hx=>B.has x (jG hx)
 HJ:=λx c z e=>B.own x c (by
  have z:(scope.names.lookup x==some NameKind.cell)=true:=z
  simpa using z) e
 hd:=I.ok.hd
 frames:=I.ok.frames
 zq:=.inl rfl
 MA:=λb hb=>⟨aao (aau (lt b hb) hC),λx c e=>(B.old _ _ e).elim (λo=>(f2 b hb).2.2.2.2.1 x c o) λo=>Nat.ne_of_gt (aau (lt b hb) o.1)⟩
 bs:=I.bs
 zt:=aap I.ok.zt I.sz
 yn:=λb o e hb=>by
  rcases(f2 b hb).2.2.2.1 with z | z
  ·exact I.ok.yn b o e z
  ·exact absurd (aau (Heap.lt_size e) (aap I.ok.zt z)) (aaG _)
 zu:=λb hb z=>by
  rcases List.mem_cons.mp (I.qT b z) with q | q
  ·exact(f2 b hb).2.1 q
  ·exact(f2 b hb).2.2.1 q
 kc:=I.stack
 Eg:=I.wL
theorem C7 {C:Addr} {fp:List Addr} {h1:Heap} {tk:Nat} {m:Str->Option Value} (I:Inv X pins σ H s) (S:eI X.N X.env.scope N' scope k fr) (B:FN X scope cl s.heap.objs.size C h1)
  (hC:s.heap.objs.size<=C) (f2:∀b∈fp,iO X pins H b) (lt:∀b∈fp,b<s.heap.objs.size) (old:∀b o,s.heap.get? b=some o->h1.get? b=some o) (hn:h1.Ns C m):
  Inv (ma X N' scope cl C s H fp) [] (stC k fr σ) H {s with heap:=h1,toks:=tk}:=by
 refine⟨FO I S B hC f2 lt,rfl,I.bare,Un.kept old,⟨m,hn,λi x v e1 e2 e3=>?_⟩,λx c e=>?_,I.bT.fresh hC,λx c e=>(B.old _ _ e).elim (λo=>I.g7 x c o) λo=>I.bT.fresh o.1,λp hp=>absurd (show p∈([]:List (Addr×Obj)) from hp) (by simp),I.bT.kept old,?_⟩
 ·have e1:N'[i]?=some x:=e1
  unfold stC at e2
  by_cases hi:i<k
  ·rw[aa1 (by simpa using hi),List.getElem?_replicate,if_pos hi] at e2
   cases e2
  ·rw[aa0 (by simpa using hi),aba,aaf] at e2
   cases q:fr[i - k]? with
   | none=>rw[q] at e2;cases e2
   | some j=>
    rw[q] at e2
    have e2:(σ[j]?).join=some v:=aaC e2
    have ej:σ[j]?=some (some v):=by
     cases z:σ[j]? with
     | none=>rw[z] at e2;cases e2
     | some o=>rw[z] at e2;exact congrArg some e2
    have fE:i - k<fr.length:=(List.getElem?_eq_some_iff.mp q).1
    have HQ:=S.at_ (i - k) fE
    rw[q,show k+ (i - k)=i by omega,e1] at HQ
    have HQ:X.N[j]?=some x:=HQ
    have X6:x∈N'.drop k:=List.mem_iff_getElem?.mpr ⟨i - k,by rw[List.getElem?_drop,show k+ (i - k)=i by omega];exact e1⟩
    have IU:=S.MX x X6
    have IV:(x,NameKind.free)∈scope.names:=aa6 IU
    have C8:=S.outer _ IV rfl
    obtain⟨m0,hn0,IW⟩:=I.loc
    obtain⟨u,r,l⟩:=IW j x v HQ ej (.inr C8)
    refine⟨u,r,.inr ⟨en IU,?_⟩⟩
    rcases l with ⟨kk,_⟩ | ⟨_,c,e,z⟩
    ·have kk:X.env.scope.names.lookup x=some .local:=kk
     rcases C8 with q1 | q1
     ·rw[kk] at q1;cases q1
     ·rw[kk] at q1;cases q1
    ·obtain⟨c',e'⟩:=B.has x (.inl IV)
     have ec:=B.MX x IU _ e'
     rw[e] at ec
     cases ec
     obtain⟨ob,ho,hd⟩:=z
     exact⟨c,e',ob,old _ _ ho,hd⟩
 ·rcases B.old _ _ e with o | o
  ·obtain⟨v,ob,ho,hd⟩:=I.cell x c o
   exact⟨v,ob,old _ _ ho,hd⟩
  ·exact⟨none,o.2.2⟩
 ·unfold stC
  rw[aaJ,aba,aac]
  exact S.len.symm
end
section
variable {prog : Program} {w : World} {A : Around} {E : Value -> Shared -> Prop} {R : Result -> Shared -> Prop} {s : Shared}
theorem h8 {elt target iter:Expr} {ifs:List Expr} {scope:Scope} {pos:Pos} {it acc:Value} {env:Env} (I:Nat->Shared->Prop)
  (turn:∀n s,I n s->wpAny (model prog w) A (pyNext it) (λr s₁=>match r with
   | none=>R (.ok .next) s₁
   | some v=>wpAny (model prog w) A (letOwnedTupleGo target it v) (λ_ VL=>wpAny (model prog w) A (assign target env v) (λ_ s₂=>
     wpAny (model prog w) A (forIn ifs true λc r=>if r=true then do let ok <-isTrue c env (eval c env);pure (ForInStep.yield ok) else pure (ForInStep.yield r)) (λok s₃=>
      if ok=true then wpAny (model prog w) A (eval elt env) (λx s₄=>
       wpAny (model prog w) A (call (.builtin "list.append") [acc,x]) (λ_ s₅=>∃m,m<n/\I m s₅) (λ_ _=>False) s₄) (notedBy (model prog w) A env λx s'=>R (.error x) s') s₃
      else ∃m,m<n/\I m s₃) (λ_ _=>False) s₂) (λ_ _=>False) VL) (λ_ _=>False) s₁) (λ_ _=>False) s)
  (n:Nat) (h:I n s):
  codeAny (model prog w) A (.compLoop (.ListComp elt [⟨target,iter,ifs,0⟩] scope pos) 0 it acc env) R s:=by
 refine codeAny_loop rfl I (λn s hI=>?_) n h
 show wpAny _ A ((compTurn (.ListComp elt [⟨target,iter,ifs,0⟩] scope pos) 0 it acc env).onRaise (λx=>do noteFrame x env;theTreesLotGoes x)) _ _ s
 refine wpAny_noted ?_
 rw[compTurn_list]
 refine wpAny_bind (wpAny_standAt (wpAny_bind (wpAny_mono (turn n s hI) (λr s₁ h₁=>?_) λ_ _ h'=>h'.elim)))
 cases r with
 | none=>exact wpAny_pure h₁
 | some v=>
  refine wpAny_bind (wpAny_mono h₁ (λ_ VL X7=>?_) λ_ _ h'=>h'.elim)
  refine wpAny_bind (wpAny_mono X7 (λ_ s₂ h₂=>wpAny_bind (wpAny_mono h₂ (λok s₃ h₃=>?_) λ_ _ h'=>h'.elim)) λ_ _ h'=>h'.elim)
  cases ok with
  | false=>exact wpAny_pure ⟨rfl,h₃⟩
  | true=>
   exact wpAny_bind (wpAny_bind (wpAny_mono h₃ (λx s₄ h₄=>wpAny_bind (wpAny_mono h₄ (λ_ s₅ h₅=>wpAny_pure (wpAny_pure ⟨rfl,h₅⟩)) λ_ _ h'=>h'.elim)) λ_ _ h'=>h'))
end
noncomputable def FP (X:Cx) (ifs:List Expr) (t:TT):Prop:=
 ∀(pins:List (Addr×Obj)) (s:Shared) (σ:St) (H:Hp) (Q:Bool->Hp->Prop),Inv X pins σ H s->t σ H Q->
  wpAny (model X.prog X.w) X.A (forIn ifs true λc r=>if r=true then do let ok <-isTrue c X.env (eval c X.env);pure (ForInStep.yield ok) else pure (ForInStep.yield r)) (TP X pins σ Q) X.xe s
noncomputable def gA:TT:=λ_ H Q=>Q true H
theorem bJ {X:Cx}:FP X [] gA:=λ_ _ _ H _ I h=>wpAny_tests_nil ⟨H,I,h⟩
theorem jI {X:Cx} {c:Expr} {t:TT} (h:PT X c t):FP X [c] t:=λpins s σ H Q I hq=>wpAny_tests_one (h pins s σ H Q I hq)
section
variable {X : Cx}
noncomputable def fz (J:It) (g:TG) (tc:TT) (te:TE) (σ0:St) (H1:Hp) (fin:List V->Hp->Prop):Prop:=
 ∃W:Nat->Nat->List V->St->Hp->Prop,(∃m,W 0 m [] σ0 H1)/\∀i m ys σ2 H2,W i m ys σ2 H2->
  (J.stop i H2/\fin ys H2)\/
  (J.go i H2/\∀x H3,J.vh i H2 x H3->g x σ2 H3 λσ3 H4=>tc σ3 H4 λb H5=>if b=true then te σ3 H5 λy H6=>ys.length<sizeLine/\∃m',m'<m/\W (i+1) m' (ys++ [y]) σ3 H6 else ∃m',m'<m/\W (i+1) m' ys σ3 H5)
noncomputable def eO (aV:List Value) (n:Nat):Obj:={cls:=.type "list",data:=.seq aV.toArray n}
theorem Am {elt target iter:Expr} {ifs:List Expr} {scope:Scope} {pos:Pos} {g:TG} {tc:TT} {te:TE} {k:Nat} {fr:List Nat} {N':List Str} {cl:List (Str×Addr)} {pins:List (Addr×Obj)} {σ:St} {H2:Hp} {s2:Shared}
  {it:Addr} {fp:List Addr} {tn:Nat->Heap->Prop} {J:It} {fin:List V->Hp->Prop} {R0:Result->Shared->Prop} {XE:List (Str×Addr)->Addr->Shared->Hp->List Addr->Value->Shared->Prop}
  (hc:X.calm=true) (S:eI X.N X.env.scope N' scope k fr) (c1:∀x c,cl.lookup x=some c->X.env.cells.lookup x=some c) (c2:∀n,(n,NameKind.free)∈scope.names->∃c,cl.lookup n=some c) (cin:∀x c,(x,c)∈cl->∃y,X.env.cells.lookup y=some c) (LP:∀x,(x,NameKind.cell)∈scope.names->∀c,(x,c)∉cl)
  (hg:∀cl C s H ex,PG (ma X N' scope cl C s H ex) target g) (ht:∀cl C s H ex,FP (ma X N' scope cl C s H ex) ifs tc) (he:∀cl C s H ex,PE ((ma X N' scope cl C s H ex).kf (XE cl C s H ex)) elt te)
  (I2:Inv X pins σ H2 s2) (T:Turn X.prog X.w X.K target J fp it tn) (vq:tn 0 s2.heap) (f2:∀b∈fp,iO X pins H2 b) (hb:fz J g tc te (stC k fr σ) H2 fin)
  (hR:∀(C:Addr),C=(s2.heap.push {cls:=.type "list",dict:=none,data:=.seq ([]:List Value).toArray}).objs.size->∀(s':Shared) (m:Str->Option Value) (ys:List V) (aV:List Value) (n:Nat) (H':Hp),s2.heap.objs.size<C->s'.heap.Ns C m->bz ys aV->ys.length<=sizeLine->s'.heap.get? s2.heap.objs.size=some (eO aV n)->H' s2.heap.objs.size=none->H' C=none->fin ys H'->
   s'.os=s2.os->AllBare s'.gens->Un (tI X.stack) fp H2 H' s2.heap s'.heap->gX X.prog X.w H' s'.heap->R0 (.ok .next) s')
  (hE:∀cl C x s',C=(s2.heap.push {cls:=.type "list",dict:=none,data:=.seq ([]:List Value).toArray}).objs.size->s2.heap.objs.size<C->XE cl C s2 H2 fp x s'->notedBy (model X.prog X.w) X.A (compEnvC scope cl C X.env) (λy Fq=>R0 (.error y) Fq) x s'):
  codeAny (model X.prog X.w) X.A (.compStart (.ListComp elt [⟨target,iter,ifs,0⟩] scope pos) 0 (.ref it) (.ref s2.heap.objs.size) (compEnvC scope (cellsFrom ((s2.heap.push {cls:=.type "list",dict:=none,data:=.seq ([]:List Value).toArray}).objs.size+1) scope.names cl) (s2.heap.push {cls:=.type "list",dict:=none,data:=.seq ([]:List Value).toArray}).objs.size X.env)) R0 {s2 with heap:=pushCells ((s2.heap.push {cls:=.type "list",dict:=none,data:=.seq ([]:List Value).toArray}).push {cls:=.type "dict",data:=.dict #[]}) scope.names}:=by
 obtain⟨W,⟨m0,w0⟩,turn⟩:=hb
 have lt:∀b∈fp,b<s2.heap.objs.size:=λb hb=>by
  obtain⟨o,e,_⟩:=T.obj _ _ vq b hb
  exact Heap.lt_size e
 generalize MY:s2.heap.push {cls:=.type "list",dict:=none,data:=.seq ([]:List Value).toArray}=G2 at hR hE ⊢
 have HR:G2.objs.size=s2.heap.objs.size+1:=by rw[<-MY,Heap.size_push]
 have VM:s2.heap.objs.size≠G2.objs.size:=by rw[HR];exact aao (aaM _)
 have hC:s2.heap.objs.size<=G2.objs.size:=by rw[HR];exact Nat.le_succ _
 have old:∀b o,s2.heap.get? b=some o->(pushCells (G2.push {cls:=.type "dict",data:=.dict #[]}) scope.names).get? b=some o:=λb o e=>by
  refine pushCells_keeps _ _ b o (Heap.get?_push_of_some _ ?_)
  rw[<-MY]
  exact Heap.get?_push_of_some _ e
 have C9:(pushCells (G2.push {cls:=.type "dict",data:=.dict #[]}) scope.names).get? s2.heap.objs.size=some (eO [] 0):=by
  refine pushCells_keeps _ _ _ _ (Heap.get?_push_of_some _ ?_)
  rw[<-MY]
  exact Heap.get?_push_size _ rfl
 have MZ:(pushCells (G2.push {cls:=.type "dict",data:=.dict #[]}) scope.names).Ns G2.objs.size λ_=>none:=(Heap.Ns.new G2 (.type "dict")).keeps (pushCells_keeps _ _)
 have VN:∀x c,(x,c)∈cl->c<G2.objs.size+1:=λx c m=>by
  obtain⟨y,hy⟩:=cin x c m
  obtain⟨v,q⟩:=I2.cell y c hy
  rw[HR]
  exact abm (abm q.lt)
 have B:FN X scope (cellsFrom (G2.objs.size+1) scope.names cl) s2.heap.objs.size G2.objs.size (pushCells (G2.push {cls:=.type "dict",data:=.dict #[]}) scope.names):=by
  have own:=kB scope.names (G2.push {cls:=.type "dict",data:=.dict #[]}) cl
  rw[Heap.size_push] at own
  refine⟨λx c e=>?_,λx y c hc h1 h2=>?_,λn hn=>?_,λn hn c e=>?_,λx c hx e=>?_⟩
  ·by_cases hx:(x,NameKind.cell)∈scope.names
   ·rcases own x c (aa6 e) with m | ⟨q1,q2,_⟩
    ·
     exfalso
     exact LP x hx c m
    ·exact .inr ⟨aap hC (Nat.le_of_succ_le q1),q1,q2⟩
   ·rw[gz _ _ _ _ hx] at e
    exact .inl (c1 x c e)
  ·exact kC scope.names (G2.objs.size+1) (G2.objs.size+1) cl VN (λx y c hl m1 _=>absurd (VN x c m1) (Nat.not_lt.mpr hl)) x y c hc (aa6 h1) (aa6 h2)
  ·refine Option.isSome_iff_exists.mp (kD _ _ _ n ?_)
   rcases hn with hn | hn
   ·obtain⟨c,e⟩:=c2 n hn
    exact .inr (by rw[e];rfl)
   ·exact .inl hn
  ·have hx:(n,NameKind.cell)∉scope.names:=λm=>by
    have:=(S.FL _ m rfl).1
    rw[hn] at this
    cases this
   rw[gz _ _ _ _ hx] at e
   exact c1 n c e
  ·have hx:=aa6 hx
   rcases own x c (aa6 e) with m | ⟨q1,q2,_⟩
   ·exact absurd m (LP x hx c)
   ·exact aap hC (Nat.le_of_succ_le q1)
 generalize pushCells (G2.push {cls:=.type "dict",data:=.dict #[]}) scope.names=h₁ at *
 generalize cellsFrom (G2.objs.size+1) scope.names cl=vP at *
 generalize FQ:s2.heap.objs.size=D at *
 generalize hCc:G2.objs.size=C at *
 have fD:H2 D=none:=by rw[<-FQ];exact I2.bT.fresh (aah _)
 have cells:∀x c,vP.lookup x=some c->c≠D:=λx c e=>by
  rcases B.old _ _ e with o | o
  ·obtain⟨v,q⟩:=I2.cell x c o
   rw[<-FQ]
   exact aao q.lt
  ·exact Nat.ne_of_gt (Nat.lt_trans (by rw[HR];exact aaM _) o.2.1)
 have loop:∀(Eo:Addr) (s3:Shared),Eo=it->(∃tk,s3={s2 with heap:=h₁,toks:=tk})->
   codeAny (model X.prog X.w) X.A (.compLoop (.ListComp elt [⟨target,iter,ifs,0⟩] scope pos) 0 (.ref Eo) (.ref D) (compEnvC scope vP C X.env)) R0 s3:=by
  rintro Eo s3 rfl ⟨tk,rfl⟩
  have I3:Inv (ma X N' scope vP C s2 H2 fp) [] (stC k fr σ) H2 {s2 with heap:=h₁,toks:=tk}:=C7 I2 S (by rw[FQ];exact B) (by rw[FQ];exact hC) f2 (by rw[FQ];exact lt) old MZ
  have vv:∀{H':Hp} {o:Obj},(∀b∈fp,H' b=none)->∀b∈fp,iO (ma X N' scope vP C s2 H2 fp) [(D,o)] H' b:=λ{H' o} hn b hb=>
   ⟨hn b hb,aao (aau (lt b hb) hC),λz=>by
    rcases List.mem_cons.mp (I2.qT b z) with q | q
    ·exact(f2 b hb).2.1 q
    ·exact(f2 b hb).2.2.1 q,.inl hb,λx c e=>(B.old _ _ e).elim (λo=>(f2 b hb).2.2.2.2.1 x c o) (λo=>Nat.ne_of_gt (aau (lt b hb) o.1)),λp hp=>by
    have e:p=(D,o):=by simpa [ma] using hp
    rw[e]
    exact Nat.ne_of_gt (lt b hb)⟩
  have M3:∀{σ':St} {H':Hp} {s':Shared} {o:Obj},Inv (ma X N' scope vP C s2 H2 fp) [] σ' H' s'->s'.heap.get? D=some o->H' D=none->(∀v,o.data≠.cell v)->Inv (ma X N' scope vP C s2 H2 fp) [(D,o)] σ' H' s':=λ{σ' H' s' o} I' e n hd=>
   I'.jA λp hp=>by
    have q:p=(D,o):=by simpa using hp
    subst q
    refine⟨e,n,VM,λz=>?_,hd⟩
    obtain⟨_,ob,ho,_⟩:=I2.stack.mem z
    exact absurd (Heap.lt_size ho) (by rw[FQ];exact aaG _)
  have X8:∀{aV:List Value} {n:Nat} (v:Option Value),(eO aV n).data≠.cell v:=λv z=>by
   have z:Data.seq _ _=Data.cell v:=z
   cases z
  refine h8 (λn s'=>∃i ys σ' H' aV zh,Inv (ma X N' scope vP C s2 H2 fp) [] σ' H' s'/\tn i s'.heap/\(∀b∈fp,H' b=none)/\s'.heap.get? D=some (eO aV zh)/\H' D=none/\bz ys aV/\ys.length<=sizeLine/\W i n ys σ' H') ?_ m0
   ⟨0,[],_,H2,[],0,I3,T.keep _ _ _ vq (λb _ o e=>old b o e),λb hb=>(f2 b hb).1,C9,fD,.nil,aas _,w0⟩
  rintro n s4 ⟨i,ys,σ4,H4,aV,zh,I4,VO,VP,X9,VQ,LQ,VR,w4⟩
  have VS:=M3 I4 X9 VQ X8
  rcases turn i n ys σ4 H4 w4 with ⟨stop,qf⟩ | ⟨go,step⟩
  ·refine cB (T.done (ma X N' scope vP C s2 H2 fp) rfl rfl rfl hc i _ s4 σ4 H4 _ VS (vv VP) VO stop) λr s5 ⟨hr,I5⟩=>?_
   subst hr
   obtain⟨m5,Yb,_⟩:=I5.loc
   exact hR C rfl s5 m5 ys aV zh H4 (by rw[HR];exact aaM _) Yb LQ VR (I5.pin (D,eO aV zh) (aaI _ aai)).1 VQ I5.free qf I5.os I5.bare I5.base I5.bT
  ·refine cB (T.item (ma X N' scope vP C s2 H2 fp) rfl rfl rfl hc i _ s4 σ4 H4 _ VS (vv VP) VO go) λr s5 ⟨u,hr,h5⟩=>?_
   subst hr
   refine cB h5 λ_ s6 cU=>?_
   obtain⟨x,H6,I6,r6,y6,M4,Yc⟩:=cU
   have Yd:=I6.pinned (vv Yc) (T.obj _ _ M4)
   refine cB (hg vP C s2 H2 fp _ s6 σ4 H6 x u _ Yd r6 (step x H6 y6)) λ_ s7 ⟨σ7,H7,I7,q7⟩=>?_
   refine cB (ht vP C s2 H2 fp _ s7 σ7 H7 _ I7 q7) λok s8 ⟨H8,I8,q8⟩=>?_
   have back:∀{σ':St} {H':Hp} {s':Shared},Inv (ma X N' scope vP C s2 H2 fp) ([(D,eO aV zh)]++nM fp s6.heap) σ' H' s'->tn (i+1) s'.heap/\(∀b∈fp,H' b=none)/\s'.heap.get? D=some (eO aV zh)/\H' D=none:=λ{σ' H' s'} I'=>by
    have pD:=I'.pin (D,eO aV zh) (aaI _ (abu _ (by simp)))
    refine⟨T.keep _ _ _ M4 λb hb o e=>(I'.pin (b,o) (aaI _ (aaI _ (gp hb e)))).1,λb hb=>?_,pD.1,pD.2.1⟩
    obtain⟨o,e,d⟩:=T.obj _ _ M4 b hb
    exact(I'.pin (b,o) (aaI _ (aaI _ (gp hb e)))).2.1
   cases ok with
   | false=>
    rw[if_neg aaw]
    rw[if_neg aaw] at q8
    obtain⟨m',hm,w8⟩:=q8
    obtain⟨b1,b2,b3,b4⟩:=back I8
    exact⟨m',hm,i+1,ys,σ7,H8,aV,zh,I8.jA (λp hp=>absurd hp (by simp)),b1,b2,b3,b4,LQ,VR,w8⟩
   | true=>
    rw[if_pos rfl]
    rw[if_pos rfl] at q8
    refine wpAny_mono (he vP C s2 H2 fp _ s8 σ7 H8 _ (I8.kf _) q8) (λy s9 ⟨z,H9,I9,r9,fE,m',hm,w9⟩=>?_) λx s' hx=>hE vP C x s' rfl (by rw[HR];exact aaM _) hx
    have I9:=I9.gm
    obtain⟨b1,b2,b3,b4⟩:=back I9
    have hl:=LQ.length
    refine call_meets F.slot_list_append ⟨_,b3,rfl⟩ F.entry_list_append (F.args_list_append_2 _ _) (PySem.list_append D aV.toArray zh y (by rw[aal];omega)) ⟨b3,?_⟩
    obtain⟨c',q⟩:∃c',(s9.heap.update D (Obj.mapSeq λx=>x.push y)).get? D=some (eO (aV++ [y]) c'):=by
     have q:=PySem.IsL.update b3 (λx=>x.push y)
     rw[show aV.toArray.push y=(aV++ [y]).toArray by simp] at q
     exact⟨_,q⟩
    have Ye:Inv (ma X N' scope vP C s2 H2 fp) [] σ7 H9 s9:=I9.jA (λp hp=>absurd hp (by simp))
    have kp:∀b o,b≠D->s9.heap.get? b=some o->(s9.heap.update D (Obj.mapSeq λx=>x.push y)).get? b=some o:=λb o hb e=>(Heap.get?_update_other s9.heap (Obj.mapSeq λx=>x.push y) (Ne.symm hb)).trans e
    have Yg:=Ye.turned (t':=s9.toks) (it:=D) (h':=s9.heap.update D (Obj.mapSeq λx=>x.push y)) kp b4 VM (.inr (by show s2.heap.objs.size<=D;rw[FQ];exact aah _)) (λx c e=>cells x c e) (λp hp=>absurd hp (by simp [ma]))
    refine⟨m',hm,i+1,ys++ [z],σ7,H9,aV++ [y],c',Yg,T.keep _ _ _ b1 (λb hb o e=>kp b o (aao (lt b hb)) e),b2,q,b4,LQ.append (.cons r9 .nil),?_,w9⟩
    ·rw[aaJ,List.length_singleton]
     omega
 exact codeAny_compStart_list (loop it _ rfl ⟨_,rfl⟩) (T.self _ 0 _ _ _ (T.keep _ _ _ vq (λb _ o e=>old b o e)) (loop it _ rfl ⟨_,rfl⟩))
theorem qu {elt target iter:Expr} {ifs:List Expr} {scope:Scope} {pos:Pos} {g:TG} {tc:TT} {te:TE} {k:Nat} {fr:List Nat} {N':List Str} {cl:List (Str×Addr)} {pins:List (Addr×Obj)} {σ:St} {H2:Hp} {s2:Shared}
  {it:Addr} {fp:List Addr} {tn:Nat->Heap->Prop} {J:It} {E:Value->Shared->Prop} {fin:List V->Hp->Prop} {RR:Value->Addr->Result->Shared->Prop} {XE:List (Str×Addr)->Addr->Shared->Hp->List Addr->Value->Shared->Prop}
  (hc:X.calm=true) (S:eI X.N X.env.scope N' scope k fr) (c1:∀x c,cl.lookup x=some c->X.env.cells.lookup x=some c) (c2:∀n,(n,NameKind.free)∈scope.names->∃c,cl.lookup n=some c) (cin:∀x c,(x,c)∈cl->∃y,X.env.cells.lookup y=some c) (LP:∀x,(x,NameKind.cell)∈scope.names->∀c,(x,c)∉cl)
  (hg:∀cl C s H ex,PG (ma X N' scope cl C s H ex) target g) (ht:∀cl C s H ex,FP (ma X N' scope cl C s H ex) ifs tc) (he:∀cl C s H ex,PE ((ma X N' scope cl C s H ex).kf (XE cl C s H ex)) elt te)
  (I2:Inv X pins σ H2 s2) (T:Turn X.prog X.w X.K target J fp it tn) (vq:tn 0 s2.heap) (f2:∀b∈fp,iO X pins H2 b) (hb:fz J g tc te (stC k fr σ) H2 fin)
  (hR:∀(C:Addr) (s':Shared) (m:Str->Option Value) (ys:List V) (aV:List Value) (n:Nat) (H':Hp),s2.heap.objs.size<C->s'.heap.Ns C m->bz ys aV->ys.length<=sizeLine->s'.heap.get? s2.heap.objs.size=some (eO aV n)->H' s2.heap.objs.size=none->H' C=none->fin ys H'->
   s'.os=s2.os->AllBare s'.gens->Un (tI X.stack) fp H2 H' s2.heap s'.heap->gX X.prog X.w H' s'.heap->RR (.ref s2.heap.objs.size) C (.ok .next) s')
  (hE:∀cl C x s',s2.heap.objs.size<C->XE cl C s2 H2 fp x s'->notedBy (model X.prog X.w) X.A (compEnvC scope cl C X.env) (λy Fq=>RR (.ref s2.heap.objs.size) C (.error y) Fq) x s'):
  wpAny (model X.prog X.w) X.A (newList []) (λacc s₃=>wpAny (model X.prog X.w) X.A (newFunctionEnv scope X.env.globals cl [] X.env.qual none .none (some X.env)) (λIX s₄=>
   codeAny (model X.prog X.w) X.A (.compStart (.ListComp elt [⟨target,iter,ifs,0⟩] scope pos) 0 (.ref it) acc {IX with scope:=relabel scope X.env}) (RR acc IX.locals) s₄) E s₃) E s2:=by
 refine wpAny_newObj_type (jH ?_)
 exact Am (R0:=RR _ _) hc S c1 c2 cin LP hg ht he I2 T vq f2 hb (λC e=>by subst e;exact hR _) (λcl C x s' e=>by subst e;exact hE cl _ x s')
theorem comp_back {fp:List Addr} {pins:List (Addr×Obj)} {σ:St} {H2 H':Hp} {s2 s':Shared} {C:Addr} {ys:List V} {aV:List Value} {n:Nat} {h':Heap} (I2:Inv X pins σ H2 s2) (f2:∀b∈fp,iO X pins H2 b) (hC:s2.heap.objs.size<C)
  (vl:bz ys aV) (sz:ys.length<=sizeLine) (hD:s'.heap.get? s2.heap.objs.size=some (eO aV n)) (nD:H' s2.heap.objs.size=none) (nC:H' C=none)
  (os:s'.os=s2.os) (bare:AllBare s'.gens) (un:Un (tI X.stack) fp H2 H' s2.heap s'.heap) (bT:gX X.prog X.w H' s'.heap) (hs:Heap.SameBut C s'.heap h'):
  Inv X pins σ (upd H' s2.heap.objs.size (.lst ys)) {s' with heap:=h'}:=by
 have M5:∀b o,s2.heap.get? b=some o->b≠C:=λb o e=>aao (Nat.lt_trans (Heap.lt_size e) hC)
 have Yh:∀b o,s2.heap.get? b=some o->b≠s2.heap.objs.size:=λb o e=>aao (Heap.lt_size e)
 have tk:∀b u,H' b=some u->b≠s2.heap.objs.size:=λb u e z=>by rw[z,nD] at e;cases e
 have tC:∀b u,H' b=some u->b≠C:=λb u e z=>by rw[z,nC] at e;cases e
 have fD:H2 s2.heap.objs.size=none:=I2.bT.fresh (aah _)
 have t2:∀b u,H2 b=some u->b≠s2.heap.objs.size:=λb u e z=>by rw[z,fD] at e;cases e
 refine I2.Iv (s':={s' with heap:=h'}) (ch:=fp) os ⟨λb o e m hb hx=>?_,λb o e m hb hx=>?_,λb o e m hx=>?_,λb o e hx=>?_,λb xs e=>?_,λb o u e=>?_,λb ps e=>?_⟩ (λb u e=>?_) bare λb hb=>?_
 ·exact(hs.2 b (M5 b o e)).trans (un.keep b o e m hb hx)
 ·obtain⟨sl,q⟩:=un.slot b o e m hb hx
  exact⟨sl,(hs.2 b (M5 b o e)).trans q⟩
 ·rw[aJ (Yh b o e)]
  exact un.free b o e m hx
 ·obtain⟨o',q⟩:=un.there b o e hx
  exact⟨o',(hs.2 b (M5 b o e)).trans q⟩
 ·rw[aJ (t2 b _ e)]
  exact un.lQ b xs e
 ·rw[aJ (t2 b _ e)]
  exact un.nH b o u e
 ·obtain⟨mo,q⟩:=un.nI b ps e
  exact⟨mo,by rw[aJ (t2 b _ e)];exact q⟩
 ·by_cases hb:b=s2.heap.objs.size
  ·subst hb
   rw[ar] at e
   cases e
   exact⟨sz,aV,n,vl,(hs.2 _ (aao hC)).trans hD⟩
  ·rw[aJ hb] at e
   exact(bT b u e).pI (λc v hc q=>(hs.2 c (by
    rcases hc with rfl | hc
    ·exact tC _ _ e
    ·exact tC _ _ hc)).trans q) (λc r=>by rw[aJ (tk _ _ r)];exact r) λc xs r=>by rw[aJ (tk _ _ r)];exact r
 ·exact⟨(f2 b hb).2.2.2.1,(f2 b hb).2.1,(f2 b hb).2.2.2.2.1,(f2 b hb).2.2.2.2.2⟩
noncomputable def tComp (wi:TI) (g:TG) (tc:TT) (te:TE) (k:Nat) (fr:List Nat):TE:=λσ H Q=>wi σ H λJ H1=>fz J g tc te (stC k fr σ) H1 λys H2=>∀D,H1 D=none->H2 D=none->Q (.ref D) (upd H2 D (.lst ys))
theorem bO {elt target iter:Expr} {ifs:List Expr} {scope so:Scope} {pos:Pos} {wi:TI} {g:TG} {tc:TT} {te:TE} {k:Nat} {fr:List Nat} {N N':List Str} (hc:X.calm=true) (hN:X.N=N) (M6:X.env.scope=so) (S:eI N so N' scope k fr)
  (hi:PI X target iter wi) (hg:∀cl C s H ex,PG (ma X N' scope cl C s H ex) target g) (ht:∀cl C s H ex,FP (ma X N' scope cl C s H ex) ifs tc) (he:∀cl C s H ex,PE (ma X N' scope cl C s H ex) elt te)
  (hs:∀x,foldedSetIterable iter X.env x=pure x:=by intro _;rfl):PE X (.ListComp elt [⟨target,iter,ifs,0⟩] scope pos) (tComp wi g tc te k fr):=by
 subst hN M6
 intro pins s σ H Q I h
 rw[eval_ListComp]
 obtain⟨cl,Dc,c1,c2,c3⟩:=fv (env:=X.env) (scope:=scope) λn hn=>I.ok.has n (S.outer _ hn rfl)
 refine wpAny_comprehension_free (use:=none) (cl:=cl) rfl hs Dc S.kind S.locs ?_
 refine cB (hi pins s σ H _ I h) λv s1 h1=>cB h1 λEo s2 h2=>?_
 obtain⟨it,fp,tn,J,H2,rfl,I2,T,vq,f2,hb⟩:=h2
 refine qu (RR:=λacc C=>compPost (model X.prog X.w) X.A X.xe none (EP X pins σ Q) acc C) hc S c1 c2 (λx c m=>⟨x,(c3 x c m).1⟩) (λx hx c m=>(S.FL _ hx rfl).2 (c3 x c m).2) (XE:=λ_ _ _ _ _ _ _=>False) hg ht he I2 T vq f2 hb ?_ (λ_ _ _ _ _ z=>False.elim z)
 intro C s' m ys aV n H' hC hn vl sz hD nD nC fin os bare un bT
 exact⟨m,hn,λh' M7=>⟨.ref _,_,comp_back I2 f2 hC vl sz hD nD nC os bare un bT M7,rfl,fin _ (I2.bT.fresh (aah _)) nD⟩⟩
theorem gC {elt target iter:Expr} {ifs:List Expr} {scope so:Scope} {pos IY py:Pos} {wi:TI} {g:TG} {tc:TT} {te:TE} {k:Nat} {fr:List Nat} {N N':List Str} {y:Str} {i:Nat} (hc:X.calm=true) (hN:X.N.Nodup) (hy:X.N[i]?=some y) (hl:X.env.scope.names.lookup y=some .local)
  (Yi:X.N=N) (M6:X.env.scope=so) (S:eI N so N' scope k fr)
  (hi:PI X target iter wi) (hg:∀cl C s H ex,PG (ma X N' scope cl C s H ex) target g) (ht:∀cl C s H ex,FP (ma X N' scope cl C s H ex) ifs tc) (he:∀cl C s H ex,PE (ma X N' scope cl C s H ex) elt te)
  (M8:swapsWith (.ListComp elt [⟨target,iter,ifs,0⟩] scope pos) (some (.Name y py)) IY.line X.env=pure true:=by rfl)
  (hs:∀x,foldedSetIterable iter X.env x=pure x:=by intro _;rfl):PS X (.Assign [.Name y py] (.ListComp elt [⟨target,iter,ifs,0⟩] scope pos) IY) (tAsg (tComp wi g tc te k fr) (gName i)):=by
 subst Yi M6
 intro pins s σ H D I h
 rw[exec_Assign_Name_used _ _ _ _ M8]
 obtain⟨cl,Dc,c1,c2,c3⟩:=fv (env:=X.env) (scope:=scope) λn hn=>I.ok.has n (S.outer _ hn rfl)
 refine wpAny_bind (wpAny_standAt (wpAny_bind ?_))
 show wpAny _ X.A (do let _ <-comprehension (.ListComp elt [⟨target,iter,ifs,0⟩] scope pos) scope X.env _ (newList []) false (eval iter X.env) (some (assign (.Name y py) X.env))) _ _ s
 refine wpAny_bind (wpAny_mono (wpAny_comprehension_free (use:=some (assign (.Name y py) X.env)) (Q:=λ_ s'=>SP X pins D .next s') (cl:=cl) rfl hs Dc S.kind S.locs ?_) (λ_ s' hq=>wpAny_pure (wpAny_pure hq)) λ_ _ e=>e)
 refine cB (hi pins s σ H _ I h) λv s1 h1=>cB h1 λEo s2 h2=>?_
 obtain⟨it,fp,tn,J,H2,rfl,I2,T,vq,f2,hb⟩:=h2
 refine qu (RR:=λacc C=>compPost (model X.prog X.w) X.A X.xe (some (assign (.Name y py) X.env)) (λ_ s'=>SP X pins D .next s') acc C) hc S c1 c2 (λx c m=>⟨x,(c3 x c m).1⟩) (λx hx c m=>(S.FL _ hx rfl).2 (c3 x c m).2) (XE:=λ_ _ _ _ _ _ _=>False) hg ht he I2 T vq f2 hb ?_ (λ_ _ _ _ _ z=>False.elim z)
 intro C s' m ys aV n H' hC hn vl sz hD nD nC fin os bare un bT
 have I3:Inv X pins σ (upd H' s2.heap.objs.size (.lst ys)) s':=comp_back (h':=s'.heap) I2 f2 hC vl sz hD nD nC os bare un bT (.refl ..)
 refine wpAny_assign_Name (qa (v:=.ref s2.heap.objs.size) I3 hN hy (.inl hl) rfl (λs4 I4 ch=>?_) (.inr hl))
 have VT:X.env.locals<s2.heap.objs.size:=I2.lt
 obtain⟨a,Yj,ha⟩:=ch
 have aC:a≠C:=by
  rcases ha with rfl | ha
  ·exact aao (Nat.lt_trans VT hC)
  ·obtain⟨v,q⟩:=I2.cell _ _ ha
   exact aao (Nat.lt_trans q.lt hC)
 refine⟨m,hn.sameBut Yj (Ne.symm aC),λh' M7=>⟨_,_,?_,fin _ (I2.bT.fresh (aah _)) nD⟩⟩
 have Yk:(upd H' s2.heap.objs.size (.lst ys)) C=none:=by rw[aJ (Nat.ne_of_gt hC)];exact nC
 exact I4.turned (t':=s4.toks) (it:=C) (h':=h') (λb o hb e=>(M7.2 b hb).trans e) Yk (Nat.ne_of_gt (Nat.lt_trans VT hC)) (.inr (aap I2.sz (Nat.le_of_lt hC))) (λx c e z=>by
  obtain⟨v,q⟩:=I2.cell x c e
  exact absurd (Nat.lt_trans q.lt hC) (by rw[z];exact aaG _)) (λp hp z=>by
  have:=Heap.lt_size (I2.pin p hp).1
  rw[z] at this
  exact absurd (Nat.lt_trans this hC) (aaG _))
end
structure Src (J:It) (Ok:Hp->Prop) (n:Nat) (Item:Nat->V->Hp->Hp->Prop):Prop where
 go:∀i H,i<n->Ok H->J.go i H
 vh:∀i H x H3,i<n->Ok H->J.vh i H x H3->Item i x H H3
 stop:∀H,Ok H->J.stop n H
theorem src_list {K:PySem.W.Frag} {a:Addr} {xs:List V} {Ok:Hp->Prop} (h:∀H,Ok H->bo K H a xs):Src (vj K a) Ok xs.length (λi x H H3=>H3=H/\xs[i]?=some x) where
 go:=λi H hi ok=>⟨xs,xs[i],h H ok,by simp [hi]⟩
 vh:=λi H x H3 hi ok ⟨e,y⟩=>⟨e,y xs (h H ok)⟩
 stop:=λH ok=>⟨xs,h H ok,aah _⟩
theorem src_range {lo:Int} {n:Nat} {Ok:Hp->Prop}:Src (HM lo n) Ok n (λi x H H3=>H3=H/\x=.int (lo+i)) where
 go:=λ_ _ hi _=>hi
 vh:=λ_ _ _ _ _ _ y=>y
 stop:=λ_ _=>aah _
theorem iE {J:It} {g:TG} {tc:TT} {te:TE} {σ0:St} {H1:Hp} {fin:List V->Hp->Prop} {n:Nat} {Item:Nat->V->Hp->Hp->Prop} (S:Src J (az H1) n Item) (FR:St->Prop) (h0:FR σ0) (P:Nat->List V->Hp->Prop) (p0:P 0 [] H1) (hz:n<=sizeLine)
  (hs:∀i x σ H ys H3 (Q:St->V->Hp->Prop) (N:St->Hp->Prop),i<n->az H1 H->P i ys H->ys.length<=i->FR σ->Item i x H H3->
   (∀σ3 y H6,FR σ3->az H1 H6->P (i+1) (ys++ [y]) H6->Q σ3 y H6)->(∀σ3 H5,FR σ3->az H1 H5->P (i+1) ys H5->N σ3 H5)->
   g x σ H3 λσ3 H4=>tc σ3 H4 λb H5=>if b=true then te σ3 H5 λy H6=>Q σ3 y H6 else N σ3 H5)
  (kE:∀ys H,az H1 H->P n ys H->ys.length<=n->fin ys H):fz J g tc te σ0 H1 fin:=by
 refine⟨λi m ys σ H=>m=n - i/\i<=n/\ys.length<=i/\FR σ/\az H1 H/\P i ys H,⟨n,by simp,aas _,aah _,h0,az.refl _,p0⟩,?_⟩
 rintro i m ys σ H ⟨rfl,hi,hl,ow,sm,p⟩
 by_cases fE:i<n
 ·refine .inr ⟨S.go i H fE sm,λx H3 y=>hs i x σ H ys H3 (λσ3 y H6=>ys.length<sizeLine/\∃m',m'<n - i/\m'=n - (i+1)/\i+1<=n/\(ys++ [y]).length<=i+1/\FR σ3/\az H1 H6/\P (i+1) (ys++ [y]) H6)
   (λσ3 H5=>∃m',m'<n - i/\m'=n - (i+1)/\i+1<=n/\ys.length<=i+1/\FR σ3/\az H1 H5/\P (i+1) ys H5) fE sm p hl ow (S.vh i H x H3 fE sm y) (λσ3 y H6 o s6 q=>?_) (λσ3 H5 o s5 q=>?_)⟩
  ·exact⟨by omega,n - (i+1),by omega,rfl,fE,by rw[aaJ,List.length_singleton];omega,o,s6,q⟩
  ·exact⟨n - (i+1),by omega,rfl,fE,by omega,o,s5,q⟩
 ·have e:i=n:=by omega
  subst e
  exact .inl ⟨S.stop H sm,kE ys H sm p hl⟩
theorem comp_map {J:It} {te:TE} {tl:St} {H1:Hp} {fin:List V->Hp->Prop} {n:Nat} {Item:Nat->V->Hp->Hp->Prop} (S:Src J (az H1) n Item) (sub:∀i x H H3,Item i x H H3->az H H3) (hz:n<=sizeLine)
  (R:Nat->V->Hp->Prop) (mono:∀i y H H',az H H'->R i y H->R i y H')
  (hs:∀i x w H H3 (Q:VK),i<n->az H1 H->Item i x H H3->(∀y H6,az H3 H6->R i y H6->Q y H6)->te ((w::tl).set 0 (some x)) H3 Q)
  (kE:∀ys H,az H1 H->ys.length=n->(∀i y,ys[i]?=some y->R i y H)->fin ys H):fz J (gName 0) gA te (none::tl) H1 fin:=by
 refine⟨λi m ys σ H=>m=n - i/\i<=n/\ys.length=i/\(∃w,σ=w::tl)/\az H1 H/\∀j y,ys[j]?=some y->R j y H,⟨n,by simp,aas _,rfl,⟨_,rfl⟩,az.refl _,λj y e=>by simp at e⟩,?_⟩
 rintro i m ys σ H ⟨rfl,hi,hl,⟨w,rfl⟩,sm,p⟩
 by_cases fE:i<n
 ·refine .inr ⟨S.go i H fE sm,λx H3 y=>?_⟩
  have it:=S.vh i H x H3 fE sm y
  have s3:=sub i x H H3 it
  unfold gName gA
  refine IT ?_
  refine hs i x w H H3 _ fE sm it λy H6 s6 r=>⟨by omega,n - (i+1),by omega,rfl,fE,by rw[aaJ,List.length_singleton];omega,⟨_,rfl⟩,sm.trans (s3.trans s6),λj z e=>?_⟩
  by_cases hj:j<i
  ·rw[aa1 (by omega)] at e
   exact mono j z _ _ (s3.trans s6) (p j z e)
  ·rw[aa0 (by omega)] at e
   have e2:j - ys.length=0:=by
    by_cases q:j - ys.length=0
    ·exact q
    ·rw[aar (by simp;omega)] at e;cases e
   rw[e2] at e
   simp at e
   subst e
   have:j=i:=by omega
   subst this
   exact r
 ·have e:i=n:=by omega
  subst e
  exact .inl ⟨S.stop H sm,kE ys H sm hl p⟩
noncomputable def Ex (J:It) (g:TG) (tb:TS) (D:Ends) (σ:St) (H:Hp):Prop:=
 ∃W:Nat->Nat->St->Hp->Prop,(∃m,W 0 m σ H)/\∀i m σ H,W i m σ H->
  (J.stop i H/\D.nx σ H)\/(J.go i H/\∃N:St->Hp->Prop,(∀σ' H',N σ' H'->∃m',m'<m/\W (i+1) m' σ' H')/\∀x H',J.vh i H x H'->g x σ H' λσ2 H2=>tb {D with nx:=N,ct:=N,bk:=D.nx} σ2 H2)
theorem tFor_eq {wi:TI} {g:TG} {tb:TS} {D:Ends} {σ:St} {H:Hp}:Iz wi g tb D σ H=wi σ H λJ H1=>Ex J g tb D σ H1:=rfl
theorem bP {J:It} {g:TG} {tb:TS} {D:Ends} {σ:St} {H:Hp} {n:Nat} {Item:Nat->V->Hp->Hp->Prop} {Ok:Hp->Prop} (S:Src J Ok n Item) (Pv:Nat->St->Hp->Prop) (h0:Pv 0 σ H) (bT:∀i σ H,i<=n->Pv i σ H->Ok H)
  (hs:∀i x σ H H3,i<n->Pv i σ H->Item i x H H3->g x σ H3 λσ2 H2=>tb {D with nx:=Pv (i+1),ct:=Pv (i+1),bk:=D.nx} σ2 H2) (hd:∀σ H,Pv n σ H->D.nx σ H):Ex J g tb D σ H:=by
 refine⟨λi m σ H=>m=n - i/\i<=n/\Pv i σ H,⟨n,by simp,aas _,h0⟩,?_⟩
 rintro i m σ H ⟨rfl,hi,p⟩
 by_cases fE:i<n
 ·exact .inr ⟨S.go i H fE (bT i σ H hi p),Pv (i+1),λσ' H' p'=>⟨n - (i+1),by omega,rfl,fE,p'⟩,λx H' y=>hs i x σ H H' fE p (S.vh i H x H' fE (bT i σ H hi p) y)⟩
 ·have e:i=n:=by omega
  subst e
  exact .inl ⟨S.stop H (bT i σ H hi p),hd σ H p⟩
theorem eJ {K:PySem.W.Frag} {J:It} {te:TE} {tl:St} {H1:Hp} {fin:List V->Hp->Prop} {n:Nat} {Item:Nat->V->Hp->Hp->Prop} (S:Src J (az H1) n Item) (IZ:Nat->V->V->Hp->Prop)
  (tp:∀i x H H3,i<n->az H1 H->Item i x H H3->az H H3/\∃p a b,x=.ref p/\dZ K H3 p [a,b]/\IZ i a b H3) (hz:n<=sizeLine)
  (R:Nat->V->Hp->Prop) (mono:∀i y H H',az H H'->R i y H->R i y H')
  (hs:∀i a b H3 (Q:VK),i<n->az H1 H3->IZ i a b H3->(∀y H6,az H3 H6->R i y H6->Q y H6)->te (some a::some b::tl) H3 Q)
  (kE:∀ys H,az H1 H->ys.length=n->(∀(i:Nat) y,ys[i]?=some y->R i y H)->fin ys H):fz J (zB K 2 (gCons (gName 0) (gCons (gName 1) gNil))) gA te (none::none::tl) H1 fin:=by
 refine⟨λi m ys σ H=>m=n - i/\i<=n/\ys.length=i/\(∃w w',σ=w::w'::tl)/\az H1 H/\∀(j:Nat) y,ys[j]?=some y->R j y H,⟨n,by simp,aas _,rfl,⟨_,_,rfl⟩,az.refl _,λj y e=>by simp at e⟩,?_⟩
 rintro i m ys σ H ⟨rfl,hi,hl,⟨w,w',rfl⟩,sm,p⟩
 by_cases fE:i<n
 ·refine .inr ⟨S.go i H fE sm,λx H3 y=>?_⟩
  obtain⟨s3,q,a,b,rfl,sq,it⟩:=tp i x H H3 fE sm (S.vh i H x H3 fE sm y)
  refine⟨q,_,rfl,sq,rfl,_,_,rfl,_,_,rfl,rfl,?_⟩
  unfold gA
  refine IT ?_
  refine hs i a b H3 _ fE (sm.trans s3) it λy H6 s6 r=>⟨by omega,n - (i+1),by omega,rfl,fE,by rw[aaJ,List.length_singleton];omega,⟨_,_,rfl⟩,sm.trans (s3.trans s6),λj z e=>?_⟩
  by_cases hj:j<i
  ·rw[aa1 (by omega)] at e
   exact mono j z _ _ (s3.trans s6) (p j z e)
  ·rw[aa0 (by omega)] at e
   have e2:j - ys.length=0:=by
    by_cases q:j - ys.length=0
    ·exact q
    ·rw[aar (by simp;omega)] at e;cases e
   rw[e2] at e
   simp at e
   subst e
   have:j=i:=by omega
   subst this
   exact r
 ·have e:i=n:=by omega
  subst e
  exact .inl ⟨S.stop H sm,kE ys H sm hl p⟩
end L2
namespace L2
open PySem PySem.Spec PyProof.Rows
section
variable {X : Cx} {pins : List (Addr × Obj)} {σ : St} {H : Hp} {s : Shared}
theorem Inv.moved {h':Heap} {t':Nat} {ch:List Addr} (I:Inv X pins σ H s) (f:∀b∈ch,iO X pins H b) (k:∀b o,b∉ch->s.heap.get? b=some o->h'.get? b=some o):Inv X pins σ H {s with heap:=h',toks:=t'}:=by
 have Eh:∀b u,H b=some u->b∉ch:=λb u e z=>by rw[(f b z).1] at e;cases e
 refine I.step (g':=s.gens) (d':=s.drawn) (ch:=ch) (λb hb=>⟨(f b hb).2.2.2.1,(f b hb).2.1,(f b hb).2.2.2.2.1,(f b hb).2.2.2.2.2⟩) (λb o _ _ hc e _=>k b o hc e) (λb o _ _ hc e _=>⟨o.slots,k b o hc e⟩) (λ_ _ _ _ n=>n)
  (λb o hc e=>⟨o,k b o hc e⟩) (λ_ _ e=>e) (λ_ _ _ e=>e) (λb ps e=>⟨#[],by rw[e];simp⟩) (λm hm=>?_) (λb u e=>?_) I.bare
 ·obtain⟨o,es,ep,ho,r⟩:=hm
  exact⟨o,es,ep,k _ o (λz=>(f _ z).2.1 rfl) ho,r⟩
 ·refine(I.bT b u e).pI (λc v hc q=>k c v ?_ q) (λ_ q=>q) λ_ _ q=>q
  rcases hc with z | z
  ·rw[z];exact Eh b u e
  ·exact Eh c _ z
theorem Inv.take {ad:Addr} {o:HO} (I:Inv X pins σ H s) (f:iO X pins H ad) (new:X.s₀.heap.objs.size<=ad) (ok:cw X.prog X.w (upd H ad o) s.heap ad o):Inv X pins σ (upd H ad o) s:=by
 obtain⟨hn,nL,nf,_,nc,np⟩:=f
 have tk:∀b u,H b=some u->b≠ad:=λb u e z=>by rw[z,hn] at e;cases e
 refine⟨I.ok,I.os,I.bare,⟨I.base.keep,I.base.slot,λb ob e m hx=>?_,I.base.there,λb xs e=>?_,λb ob u e=>?_,λb ps e=>?_⟩,I.loc,I.cell,?_,λx c e=>?_,λp hp=>?_,λb u e=>?_,I.len⟩
 ·rw[aJ (aao (aau (Heap.lt_size e) new))]
  exact I.base.free b ob e m hx
 ·have q:=I.base.lQ b xs e
  rw[aJ (tk b _ q)];exact q
 ·have q:=I.base.nH b ob u e
  rw[aJ (tk b _ q)];exact q
 ·obtain⟨mo,q⟩:=I.base.nI b ps e
  exact⟨mo,by rw[aJ (tk b _ q)];exact q⟩
 ·rw[aJ (Ne.symm nL)];exact I.free
 ·rw[aJ (nc x c e)];exact I.g7 x c e
 ·obtain⟨a,b,c⟩:=I.pin p hp
  exact⟨a,by rw[aJ (np p hp)];exact b,c⟩
 ·by_cases hb:b=ad
  ·subst hb
   rw[ar] at e
   cases e
   exact ok
  ·rw[aJ hb] at e
   exact(I.bT b u e).pI (λ_ _ _ q=>q) (λc r=>by rw[aJ (tk _ _ r)];exact r) λc xs r=>by rw[aJ (tk _ _ r)];exact r
end
noncomputable def M9 (K:PySem.W.Frag) (a b:Addr):It:=
 ⟨λi H=>∃xs ys x y,bo K H a xs/\bo K H b ys/\xs[i]?=some x/\ys[i]?=some y,
  λi H v H'=>∃p,H p=none/\v=.ref p/\∃x y,(∀xs,bo K H a xs->xs[i]?=some x)/\(∀ys,bo K H b ys->ys[i]?=some y)/\H'=upd H p (.tup [x,y]),
  λi H=>∃xs ys,bo K H a xs/\bo K H b ys/\(i=min xs.length ys.length)⟩
theorem An {P:Program} {w:World} {K:PySem.W.Frag} {elts:List Expr} {k:Nat} {pos:Pos} (z TI TO i1 i2 a b:Addr) (D:ZipApart z TI TO i1 i2 a b):
  Turn P w K (.Tuple elts k pos) (M9 K a b) [z,TI,TO,i1,i2] z (λi h=>IsZip h z TI TO .none/\IsPair h TI (.ref i1) (.ref i2)/\(∃x y,IsPair h TO x y)/\h.IsListIter i1 a i/\h.IsListIter i2 b i) where
 mem:=by simp
 obj:=λi h st c hc=>by
  obtain⟨hz,Ey,⟨x,y,Ez⟩,⟨o1,e1,_,d1⟩,⟨o2,e2,_,d2⟩⟩:=st
  simp only[List.mem_cons,List.not_mem_nil,or_false] at hc
  rcases hc with rfl | rfl | rfl | rfl | rfl
  ·exact⟨_,hz,λv q=>by cases q⟩
  ·exact⟨_,Ey,λv q=>by cases q⟩
  ·exact⟨_,Ez,λv q=>by cases q⟩
  ·exact⟨_,e1,λv q=>by rw[d1] at q;cases q⟩
  ·exact⟨_,e2,λv q=>by rw[d2] at q;cases q⟩
 keep:=λi h h' st kp=>by
  obtain⟨hz,Ey,⟨x,y,Ez⟩,h1,h2⟩:=st
  exact⟨kp z (by simp) _ hz,kp TI (by simp) _ Ey,⟨x,y,kp TO (by simp) _ Ez⟩,h1.at λo e=>kp i1 (by simp) o e,h2.at λo e=>kp i2 (by simp) o e⟩
 item:=by
  intro X hP hw hK hc i pins s σ H E I hf st hg
  subst hP hw hK
  obtain⟨xs,ys,x,y,Dd,Ao,hx,hy⟩:=hg
  obtain⟨jd,r1,p1,z1⟩:=I.list Dd
  obtain⟨lY,r2,p2,z2⟩:=I.list Ao
  obtain⟨u,eu,ru⟩:=r1.get hx
  obtain⟨v,ev,rv⟩:=r2.get hy
  obtain⟨hz,Ey,⟨x0,y0,Ez⟩,h1,h2⟩:=st
  have W:=WalksT.zip2 (prog:=X.prog) (w:=X.w) (I.ok.hd hc) z TI TO i1 i2 a b D jd.toArray lY.toArray
  have li:i<min jd.toArray.size lY.toArray.size:=by
   have a1:=(List.getElem?_eq_some_iff.mp eu).1
   have a2:=(List.getElem?_eq_some_iff.mp ev).1
   simp only[aal]
   omega
  refine W.item i s _ _ li ⟨hz,Ey,⟨x0,y0,Ez⟩,h1,h2,p1.isList,p2.isList⟩ λT vals h' tk Co hT hI hm kk=>?_
  have sub:∀c∈[z,TO,i1,i2],c∈[z,TI,TO,i1,i2]:=λc hc=>by simp at hc ⊢;rcases hc with rfl | rfl | rfl | rfl <;>simp
  have I1:Inv X pins σ H {s with heap:=h',toks:=tk}:=I.moved (ch:=[z,TO,i1,i2]) (λc hc=>hf c (sub c hc)) kk
  have fT:iO X pins H T:=I.vi hT (I.bT.fresh hT)
  refine⟨_,rfl,W.go elts k pos i T _ _ _ hm λtz vq I0=>?_⟩
  have I2:Inv X pins σ H {s with heap:=tz,toks:=tk}:=I1.moved (s:={s with heap:=h',toks:=tk}) (t':=tk) (ch:=[z,TO,i1,i2]) (λc hc=>hf c (sub c hc)) I0
  obtain⟨x',y',ex,ey,rfl⟩:=Co
  have Cw:jd[i]?=some x':=by simpa using ex
  have Ja:lY[i]?=some y':=by simpa using ey
  rw[eu] at Cw;cases Cw
  rw[ev] at Ja;cases Ja
  have Na:=W.apart _ _ _ hm
  obtain⟨oT,eT,cT,nT,dT⟩:=hI
  have Nb:IsTup tz T #[u,v]:=⟨oT,I0 _ _ Na eT,cT,nT,dT⟩
  have I3:Inv X pins σ (upd H T (.tup [x,y])) {s with heap:=tz,toks:=tk}:=
   I2.take fT (aap I.sz hT) ⟨by show 2<=sizeLine;decide,[u,v],.cons ru (.cons rv .nil),Nb⟩
  obtain⟨b1,b2,b3,b4,b5,_,_⟩:=vq
  refine⟨.ref T,_,I3,rfl,⟨T,fT.1,rfl,x,y,λiW q=>?_,λNc q=>?_,rfl⟩,⟨b1,b2,b3,b4,b5⟩,λc hc=>?_⟩
  ·rw[I.jC q Dd];exact hx
  ·rw[I.jC q Ao];exact hy
  ·rw[aJ (λq=>?_)]
   ·exact(hf c hc).1
   ·subst q
    obtain⟨o,e,_⟩:∃o,s.heap.get? c=some o/\True:=by
     simp only[List.mem_cons,List.not_mem_nil,or_false] at hc
     obtain⟨o1,e1,_⟩:=h1
     obtain⟨o2,e2,_⟩:=h2
     rcases hc with rfl | rfl | rfl | rfl | rfl
     ·exact⟨_,hz,trivial⟩
     ·exact⟨_,Ey,trivial⟩
     ·exact⟨_,Ez,trivial⟩
     ·exact⟨_,e1,trivial⟩
     ·exact⟨_,e2,trivial⟩
    exact absurd (Heap.lt_size e) (Nat.not_lt.mpr hT)
 done:=by
  intro X hP hw hK hc i pins s σ H E I hf st hg
  subst hP hw hK
  obtain⟨xs,ys,Dd,Ao,hi⟩:=hg
  obtain⟨jd,r1,p1,z1⟩:=I.list Dd
  obtain⟨lY,r2,p2,z2⟩:=I.list Ao
  obtain⟨hz,Ey,Ez,h1,h2⟩:=st
  have W:=WalksT.zip2 (prog:=X.prog) (w:=X.w) (I.ok.hd hc) z TI TO i1 i2 a b D jd.toArray lY.toArray
  have l1:=r1.length
  have l2:=r2.length
  have e:i=min jd.toArray.size lY.toArray.size:=by simp only[aal];omega
  subst e
  have sub:∀c∈[z,TO,i1,i2],c∈[z,TI,TO,i1,i2]:=λc hc=>by simp at hc ⊢;rcases hc with rfl | rfl | rfl | rfl <;>simp
  exact W.done s _ _ ⟨hz,Ey,Ez,h1,h2,p1.isList,p2.isList⟩ λh' tk kk=>⟨rfl,I.moved (ch:=[z,TO,i1,i2]) (λc hc=>hf c (sub c hc)) kk⟩
 self:=λ_ _ _ _ _ st h=>wpAny_pyIter_zip st.1 h
noncomputable def Jb (K:PySem.W.Frag) (a:Addr):It:=
 ⟨λi H=>∃xs x,bo K H a xs/\xs[i]?=some x,
  λi H v H'=>∃p,H p=none/\v=.ref p/\∃x,(∀xs,bo K H a xs->xs[i]?=some x)/\H'=upd H p (.tup [.int i,x]),
  λi H=>∃xs,bo K H a xs/\xs.length=i⟩
theorem yK {P:Program} {w:World} {K:PySem.W.Frag} {elts:List Expr} {k:Nat} {pos:Pos} (e it a:Addr) (LR:e≠it) (hle:a≠e) (VU:a≠it):
  Turn P w K (.Tuple elts k pos) (Jb K a) [e,it] e (λi h=>(∃old,IsEnum h e it i old)/\h.IsListIter it a i) where
 mem:=by simp
 obj:=λi h st c hc=>by
  obtain⟨⟨old,he⟩,⟨o1,e1,_,d1⟩⟩:=st
  simp only[List.mem_cons,List.not_mem_nil,or_false] at hc
  rcases hc with rfl | rfl
  ·exact⟨_,he,λv q=>by cases q⟩
  ·exact⟨_,e1,λv q=>by rw[d1] at q;cases q⟩
 keep:=λi h h' st kp=>by
  obtain⟨⟨old,he⟩,h1⟩:=st
  exact⟨⟨old,kp e (by simp) _ he⟩,h1.at λo q=>kp it (by simp) o q⟩
 item:=by
  intro X hP hw hK hc i pins s σ H E I hf st hg
  subst hP hw hK
  obtain⟨xs,x,Dd,hx⟩:=hg
  obtain⟨jd,r1,p1,z1⟩:=I.list Dd
  obtain⟨u,eu,ru⟩:=r1.get hx
  obtain⟨he,h1⟩:=st
  have W:=WalksT.enumerate (prog:=X.prog) (w:=X.w) (I.ok.hd hc) e it a LR hle VU jd.toArray
  have li:i<jd.toArray.size:=by
   have a1:=(List.getElem?_eq_some_iff.mp eu).1
   simp only[aal]
   omega
  refine W.item i s _ _ li ⟨he,h1,p1.isList⟩ λT vals h' tk Co hT hI hm kk=>?_
  have I1:Inv X pins σ H {s with heap:=h',toks:=tk}:=I.moved (ch:=[e,it]) hf kk
  have fT:iO X pins H T:=I.vi hT (I.bT.fresh hT)
  refine⟨_,rfl,W.go elts k pos i T _ _ _ hm λtz vq I0=>?_⟩
  have I2:Inv X pins σ H {s with heap:=tz,toks:=tk}:=I1.moved (s:={s with heap:=h',toks:=tk}) (t':=tk) (ch:=[e,it]) hf I0
  obtain⟨t,x',ex,rfl⟩:=Co
  have Cw:jd[i]?=some x':=by simpa using ex
  rw[eu] at Cw;cases Cw
  have Na:=W.apart _ _ _ hm
  obtain⟨oT,eT,cT,nT,dT⟩:=hI
  have Nb:IsTup tz T #[.int i t,u]:=⟨oT,I0 _ _ Na eT,cT,nT,dT⟩
  have I3:Inv X pins σ (upd H T (.tup [.int i,x])) {s with heap:=tz,toks:=tk}:=
   I2.take fT (aap I.sz hT) ⟨by show 2<=sizeLine;decide,[.int i t,u],.cons ⟨t,rfl⟩ (.cons ru .nil),Nb⟩
  obtain⟨b1,b2,_⟩:=vq
  refine⟨.ref T,_,I3,rfl,⟨T,fT.1,rfl,x,λiW q=>?_,rfl⟩,⟨b1,b2⟩,λc hc=>?_⟩
  ·rw[I.jC q Dd];exact hx
  ·rw[aJ (λq=>?_)]
   ·exact(hf c hc).1
   ·subst q
    obtain⟨o,e,_⟩:∃o,s.heap.get? c=some o/\True:=by
     simp only[List.mem_cons,List.not_mem_nil,or_false] at hc
     obtain⟨old,he⟩:=he
     obtain⟨o1,e1,_⟩:=h1
     rcases hc with rfl | rfl
     ·exact⟨_,he,trivial⟩
     ·exact⟨_,e1,trivial⟩
    exact absurd (Heap.lt_size e) (Nat.not_lt.mpr hT)
 done:=by
  intro X hP hw hK hc i pins s σ H E I hf st hg
  subst hP hw hK
  obtain⟨xs,Dd,hi⟩:=hg
  obtain⟨jd,r1,p1,z1⟩:=I.list Dd
  obtain⟨he,h1⟩:=st
  have W:=WalksT.enumerate (prog:=X.prog) (w:=X.w) (I.ok.hd hc) e it a LR hle VU jd.toArray
  have l1:=r1.length
  have e:i=jd.toArray.size:=by simp only[aal];omega
  subst e
  exact W.done s _ _ ⟨he,h1,p1.isList⟩ λh' tk kk=>⟨rfl,I.moved (ch:=[_,it]) hf kk⟩
 self:=λ_ _ _ _ _ st h=>by
  obtain⟨⟨old,he⟩,_⟩:=st
  exact wpAny_pyIter_enum he h
section
variable {X : Cx} {elts : List Expr} {kk : Nat} {lV : Pos}
noncomputable def iZip (K:PySem.W.Frag) (ta:TA):TI:=λσ H R=>ta σ H λvs H1=>∃a b,vs=[.ref a,.ref b]/\(∃xs,bo K H1 a xs)/\(∃ys,bo K H1 b ys)/\R (M9 K a b) H1
theorem FT {a b:Expr} {ta:TA} {p pos:Pos} (hg:Gl X "zip") (hm:X.mg "zip"=none) (ha:PA X [a,b] ta) (hs:starEach [a,b] X.env=[(false,eval a X.env),(false,eval b X.env)]:=by rfl) (Ep:starEach [b] X.env=[(false,eval b X.env)]:=by rfl):
  PI X (.Tuple elts kk lV) (.Call (.Name "zip" p) [a,b] [] pos) (iZip X.K ta):=by
 intro pins s σ H R I h
 refine Call_ (g8 I hg hm rfl (PyProof.Rows.callWith_type1 (cB (ha pos pins s σ H _ I h) λus s1 cU=>?_) (by rw[hs,Ep]) (by rw[Ep];rfl)))
 obtain⟨vs,H1,I1,r1,q1⟩:=cU
 obtain⟨a,b,e,⟨xs,q1⟩,⟨ys,q2⟩,q⟩:=q1
 subst e
 obtain⟨u,u',rfl,ra,rb⟩:=vals2 r1
 cases ra
 cases rb
 obtain⟨jd,v1,p1,z1⟩:=I1.list q1
 obtain⟨lY,v2,p2,z2⟩:=I1.list q2
 refine call_zip_2 p1.isList p2.isList λh' b1 b2 b3 b4 b5 b6 kp=>?_
 refine wpAny_pyIter_zip b1 ?_
 have I2:Inv X pins σ H1 {s1 with heap:=h'}:=I1.kept (t':=s1.toks) kp
 have la:a<s1.heap.objs.size:=by obtain⟨o,e,_⟩:=p1.isList;exact Heap.lt_size e
 have lb:b<s1.heap.objs.size:=by obtain⟨o,e,_⟩:=p2.isList;exact Heap.lt_size e
 refine⟨s1.heap.objs.size+4,[s1.heap.objs.size+4,s1.heap.objs.size+2,s1.heap.objs.size+3,s1.heap.objs.size,s1.heap.objs.size+1],_,_,H1,rfl,I2,
  An (s1.heap.objs.size+4) (s1.heap.objs.size+2) (s1.heap.objs.size+3) s1.heap.objs.size (s1.heap.objs.size+1) a b (by constructor <;>(first | exact aao (by omega) | exact Nat.ne_of_gt (by omega) | exact aao la | exact aao lb | exact aao (aau la (Nat.le_add_right _ _)) | exact aao (aau lb (Nat.le_add_right _ _)))),⟨b1,b2,⟨_,_,b3⟩,b4,b5⟩,λc hc=>?_,q⟩
 have EA:s1.heap.objs.size<=c:=by
  simp only[List.mem_cons,List.not_mem_nil,or_false] at hc
  rcases hc with rfl | rfl | rfl | rfl | rfl <;>omega
 exact I1.vi EA (I1.bT.fresh EA)
noncomputable def iEnum (K:PySem.W.Frag) (ta:TA):TI:=λσ H R=>ta σ H λvs H1=>∃a,vs=[.ref a]/\(∃xs,bo K H1 a xs)/\R (Jb K a) H1
theorem rC {a:Expr} {ta:TA} {p pos:Pos} (hg:Gl X "enumerate") (hm:X.mg "enumerate"=none) (ha:PA X [a] ta) (hs:starEach [a] X.env=[(false,eval a X.env)]:=by rfl):
  PI X (.Tuple elts kk lV) (.Call (.Name "enumerate" p) [a] [] pos) (iEnum X.K ta):=by
 intro pins s σ H R I h
 refine Call_ (g8 I hg hm rfl (PyProof.Rows.callWith_type1 (cB (ha pos pins s σ H _ I h) λus s1 cU=>?_) hs rfl))
 obtain⟨vs,H1,I1,r1,q1⟩:=cU
 obtain⟨a,e,⟨xs,q1⟩,q⟩:=q1
 subst e
 obtain⟨u,rfl,ra⟩:=vals1 r1
 cases ra
 obtain⟨jd,v1,p1,z1⟩:=I1.list q1
 refine call_enumerate_list p1.isList λh' b1 b2 b3 kp=>?_
 refine wpAny_pyIter_enum b1 ?_
 have I2:Inv X pins σ H1 {s1 with heap:=h'}:=I1.kept (t':=s1.toks) kp
 have la:a<s1.heap.objs.size:=by obtain⟨o,e,_⟩:=p1.isList;exact Heap.lt_size e
 refine⟨s1.heap.objs.size+1,[s1.heap.objs.size+1,s1.heap.objs.size],_,_,H1,rfl,I2,
  yK (s1.heap.objs.size+1) s1.heap.objs.size a (Nat.ne_of_gt (aaM _)) (aao (abm la)) (aao la),⟨⟨_,b1⟩,b2⟩,λc hc=>?_,q⟩
 have EA:s1.heap.objs.size<=c:=by
  simp only[List.mem_cons,List.not_mem_nil,or_false] at hc
  rcases hc with rfl | rfl <;>omega
 exact I1.vi EA (I1.bT.fresh EA)
end
theorem jJ {K:PySem.W.Frag} {a b:Addr} {xs ys:List V} {Ok:Hp->Prop} (h1:∀H,Ok H->bo K H a xs) (h2:∀H,Ok H->bo K H b ys):
  Src (M9 K a b) Ok (min xs.length ys.length) (λi v H H3=>∃p x y,H p=none/\v=.ref p/\xs[i]?=some x/\ys[i]?=some y/\H3=upd H p (.tup [x,y])) where
 go:=λi H hi ok=>⟨xs,ys,xs[i]'(by omega),ys[i]'(by omega),h1 H ok,h2 H ok,by simp,by simp⟩
 vh:=λi H x H3 hi ok ⟨p,n,e,u,v,e1,e2,e3⟩=>⟨p,u,v,n,e,e1 xs (h1 H ok),e2 ys (h2 H ok),e3⟩
 stop:=λH ok=>⟨xs,ys,h1 H ok,h2 H ok,rfl⟩
theorem fK {K:PySem.W.Frag} {a:Addr} {xs:List V} {Ok:Hp->Prop} (h1:∀H,Ok H->bo K H a xs):
  Src (Jb K a) Ok xs.length (λi v H H3=>∃p x,H p=none/\v=.ref p/\xs[i]?=some x/\H3=upd H p (.tup [.int i,x])) where
 go:=λi H hi ok=>⟨xs,xs[i],h1 H ok,by simp [hi]⟩
 vh:=λi H x H3 hi ok ⟨p,n,e,u,e1,e3⟩=>⟨p,u,n,e,e1 xs (h1 H ok),e3⟩
 stop:=λH ok=>⟨xs,h1 H ok,rfl⟩
end L2
namespace L2
open PySem PySem.Spec PyProof.Rows
inductive Dat where
 | b9 | bl (b:Bool) | int (i:Int) | str (x:Str) | tup (l:List Dat) | lst (l:List Dat)
mutual
noncomputable def Rep (H:Hp):Dat->V->Prop
 | .b9,v=>v=.b9
 | .bl b,v=>v=.bl b
 | .int i,v=>v=.int i
 | .str x,v=>v=.str x
 | .tup ds,v=>∃p vs,v=.ref p/\H p=some (.tup vs)/\bu H ds vs
 | .lst ds,v=>∃p vs,v=.ref p/\H p=some (.lst vs)/\bu H ds vs
noncomputable def bu (H:Hp):List Dat->List V->Prop
 | [],vs=>vs=[]
 | d::ds,vs=>∃v r,vs=v::r/\Rep H d v/\bu H ds r
end
mutual
theorem Rep.mono {H H':Hp} (s:az H H'):∀{d:Dat} {v:V},Rep H d v->Rep H' d v
 | .b9,_,h=>by rw[Rep] at *;exact h
 | .bl _,_,h=>by rw[Rep] at *;exact h
 | .int _,_,h=>by rw[Rep] at *;exact h
 | .str _,_,h=>by rw[Rep] at *;exact h
 | .tup _,_,h=>by
  rw[Rep] at *
  obtain⟨p,vs,e,hp,r⟩:=h
  exact⟨p,vs,e,s _ _ hp,bu.mono s r⟩
 | .lst _,_,h=>by
  rw[Rep] at *
  obtain⟨p,vs,e,hp,r⟩:=h
  exact⟨p,vs,e,s _ _ hp,bu.mono s r⟩
theorem bu.mono {H H':Hp} (s:az H H'):∀{ds:List Dat} {vs:List V},bu H ds vs->bu H' ds vs
 | [],_,h=>by rw[bu] at *;exact h
 | _::_,_,h=>by
  rw[bu] at *
  obtain⟨v,r,e,h1,h2⟩:=h
  exact⟨v,r,e,Rep.mono s h1,bu.mono s h2⟩
end
theorem bu.length {H:Hp}:∀{ds:List Dat} {vs:List V},bu H ds vs->ds.length=vs.length
 | [],_,h=>by rw[bu] at h;subst h;rfl
 | _::_,_,h=>by
  rw[bu] at h
  obtain⟨v,r,rfl,_,h2⟩:=h
  simp [h2.length]
theorem bu.get {H:Hp}:∀{ds:List Dat} {vs:List V} {i:Nat} {v:V},bu H ds vs->vs[i]?=some v->∃d,ds[i]?=some d/\Rep H d v
 | [],_,i,v,h,e=>by rw[bu] at h;subst h;simp at e
 | d::ds,_,i,v,h,e=>by
  rw[bu] at h
  obtain⟨v',r,rfl,h1,h2⟩:=h
  cases i with
  | zero=>simp at e;subst e;exact⟨d,rfl,h1⟩
  | succ i=>simp at e;obtain⟨d',e',r'⟩:=h2.get e;exact⟨d',by simpa using e',r'⟩
theorem bu.at {H:Hp}:∀{ds:List Dat} {vs:List V} {i:Nat} {d:Dat},bu H ds vs->ds[i]?=some d->∃v,vs[i]?=some v/\Rep H d v
 | [],_,i,v,h,e=>by simp at e
 | d::ds,_,i,d',h,e=>by
  rw[bu] at h
  obtain⟨v',r,rfl,h1,h2⟩:=h
  cases i with
  | zero=>simp at e;subst e;exact⟨v',rfl,h1⟩
  | succ i=>simp at e;obtain⟨v,e',r'⟩:=h2.at e;exact⟨v,by simpa using e',r'⟩
theorem bu.of {H:Hp}:∀{ds:List Dat} {vs:List V},ds.length=vs.length->(∀(i:Nat) d v,ds[i]?=some d->vs[i]?=some v->Rep H d v)->bu H ds vs
 | [],[],_,_=>by rw[bu]
 | [],_::_,h,_=>by simp at h
 | _::_,[],h,_=>by simp at h
 | d::ds,v::vs,h,k=>by
  rw[bu]
  exact⟨v,vs,rfl,k 0 d v rfl rfl,bu.of (by simpa using h) λi d' v' e1 e2=>k (i+1) d' v' (by simpa using e1) (by simpa using e2)⟩
theorem bu.append {H:Hp}:∀{as bs:List Dat} {us vs:List V},bu H as us->bu H bs vs->bu H (as++bs) (us++vs)
 | [],_,_,_,h,k=>by rw[bu] at h;subst h;exact k
 | _::_,_,_,_,h,k=>by
  rw[bu] at h
  obtain⟨v,r,rfl,h1,h2⟩:=h
  show bu H (_::(_++_)) (_::(_++_))
  rw[bu]
  exact⟨_,_,rfl,h1,h2.append k⟩
noncomputable def depth:Dat->Nat
 | .tup l=>1+dL l
 | .lst l=>1+dL l
 | _=>0
where dL:List Dat->Nat
 | []=>0
 | d::ds=>max (depth d) (dL ds)
theorem fL {d:Dat}:∀{ds:List Dat},d∈ds->depth d<=depth.dL ds
 | e::ds,h=>by
  rw[depth.dL]
  rcases List.mem_cons.mp h with rfl | h
  ·exact Nat.le_max_left _ _
  ·exact aap (fL h) (Nat.le_max_right _ _)
section
variable {X : Cx} {pins : List (Addr × Obj)} {σ : St} {H : Hp} {s : Shared}
theorem all_true (n:Nat):((List.range n).all λ_=>true)=true:=by simp
theorem Ap (I:Inv X pins σ H s):∀(n:Nat) (d:Dat),depth d<=n->∀(v v':V) (u u':Value) (A:Around),Rep H d v->Rep H d v'->RelV v u->RelV v' u'->A.units+n<cLine->SeqAt.EqAt A s u u' true:=by
 intro n
 induction n with
 | zero=>
  intro d hd v v' u u' A h h' r r' hu
  cases d with
  | b9=>rw[Rep] at h h';subst h h';cases r;cases r';exact SeqAt.EqAt.same _
  | bl b=>rw[Rep] at h h';subst h h';cases r;cases r';exact SeqAt.EqAt.same _
  | int i=>rw[Rep] at h h';subst h h';obtain⟨t,rfl⟩:=r;obtain⟨t',rfl⟩:=r';have:=SeqAt.EqAt.int_int (A:=A) (s:=s) i t i t';simpa using this
  | str x=>rw[Rep] at h h';subst h h';obtain⟨t,rfl⟩:=r;obtain⟨t',rfl⟩:=r';have:=SeqAt.EqAt.str_str (A:=A) (s:=s) x t x t';simpa using this
  | tup l=>rw[depth] at hd;omega
  | lst l=>rw[depth] at hd;omega
 | succ n ih=>
  intro d hd v v' u u' A h h' r r' hu
  cases d with
  | b9=>rw[Rep] at h h';subst h h';cases r;cases r';exact SeqAt.EqAt.same _
  | bl b=>rw[Rep] at h h';subst h h';cases r;cases r';exact SeqAt.EqAt.same _
  | int i=>rw[Rep] at h h';subst h h';obtain⟨t,rfl⟩:=r;obtain⟨t',rfl⟩:=r';have:=SeqAt.EqAt.int_int (A:=A) (s:=s) i t i t';simpa using this
  | str x=>rw[Rep] at h h';subst h h';obtain⟨t,rfl⟩:=r;obtain⟨t',rfl⟩:=r';have:=SeqAt.EqAt.str_str (A:=A) (s:=s) x t x t';simpa using this
  | tup l=>
   rw[Rep] at h h'
   obtain⟨p,vs,rfl,hp,rl⟩:=h
   obtain⟨p',Jc,rfl,ia,Aq⟩:=h'
   cases r
   cases r'
   rw[depth] at hd
   by_cases Jd:p=p'
   ·subst Jd;exact SeqAt.EqAt.same _
   obtain⟨aV,rv,pl,hz⟩:=I.tuple (dZ.of hp)
   obtain⟨its',Ar,FU,Nd⟩:=I.tuple (dZ.of ia)
   have e1:=rl.length
   have e2:=Aq.length
   have l1:=rv.length
   have l2:=Ar.length
   have R:=SeqAt.RcAt.tuples (A:=A) (e:=λ_=>true) pl FU (by omega) (λj h1 h2=>?_)
   ·simp only[aal,all_true,Bool.true_and] at R
    rw[show(aV.length==its'.length)=true by simp;omega] at R
    exact .of_refs Jd R
   ·rw[aal] at h1 h2
    obtain⟨d,ed⟩:∃d,l[j]?=some d:=⟨l[j]'(by omega),by simp⟩
    obtain⟨v1,f1,q1⟩:=rl.at ed
    obtain⟨v2,f2,q2⟩:=Aq.at ed
    obtain⟨u1,g1,w1⟩:=rv.get f1
    obtain⟨u2,g2,w2⟩:=Ar.get f2
    have a1:aV.toArray[j]=u1:=by simpa [aad h1] using g1
    have a2:its'.toArray[j]=u2:=by simpa [aad h2] using g2
    rw[a1,a2]
    have:=fL (aag ed)
    exact ih d (by omega) v1 v2 u1 u2 A.in1 q1 q2 w1 w2 (by show A.units+1+n<cLine;omega)
  | lst l=>
   rw[Rep] at h h'
   obtain⟨p,vs,rfl,hp,rl⟩:=h
   obtain⟨p',Jc,rfl,ia,Aq⟩:=h'
   cases r
   cases r'
   rw[depth] at hd
   by_cases Jd:p=p'
   ·subst Jd;exact SeqAt.EqAt.same _
   obtain⟨aV,rv,pl,hz⟩:=I.list (bo.of hp)
   obtain⟨its',Ar,FU,Nd⟩:=I.list (bo.of ia)
   have e1:=rl.length
   have e2:=Aq.length
   have l1:=rv.length
   have l2:=Ar.length
   have R:=SeqAt.RcAt.lists (A:=A) (e:=λ_=>true) pl.isList FU.isList (by simp only[aal];omega) (by omega) (λj h1 h2=>?_)
   ·rw[all_true] at R
    exact .of_refs Jd R
   ·rw[aal] at h1 h2
    obtain⟨d,ed⟩:∃d,l[j]?=some d:=⟨l[j]'(by omega),by simp⟩
    obtain⟨v1,f1,q1⟩:=rl.at ed
    obtain⟨v2,f2,q2⟩:=Aq.at ed
    obtain⟨u1,g1,w1⟩:=rv.get f1
    obtain⟨u2,g2,w2⟩:=Ar.get f2
    have a1:aV.toArray[j]=u1:=by simpa [aad h1] using g1
    have a2:its'.toArray[j]=u2:=by simpa [aad h2] using g2
    rw[a1,a2]
    have:=fL (aag ed)
    exact ih d (by omega) v1 v2 u1 u2 A.in1 q1 q2 w1 w2 (by show A.units+1+n<cLine;omega)
end
section
variable {X : Cx}
noncomputable def Je (b:Bool):R2:=λx y H Q=>∃d,Rep H d x/\Rep H d y/\(∃p,x=.ref p)/\depth d<=40/\Q (.bl b) H
theorem As {pins:List (Addr×Obj)} {σ:St} {H:Hp} {s:Shared} {d:Dat} {p p':Addr} (I:Inv X pins σ H s) (hu:X.A.units+64<cLine) (h:Rep H d (.ref p)) (h':Rep H d (.ref p')) (hd:depth d<=40):
  (∃aV its':List Value,IsTup s.heap p aV.toArray/\IsTup s.heap p' its'.toArray/\aV.length=its'.length/\∀j (h1:j<aV.toArray.size) (h2:j<its'.toArray.size),SeqAt.EqAt X.A.in1 s aV.toArray[j] its'.toArray[j] true)\/
  (∃aV its':List Value,s.heap.IsList p aV.toArray/\s.heap.IsList p' its'.toArray/\aV.length=its'.length/\∀j (h1:j<aV.toArray.size) (h2:j<its'.toArray.size),SeqAt.EqAt X.A.in1 s aV.toArray[j] its'.toArray[j] true):=by
 cases d with
 | b9=>rw[Rep] at h;cases h
 | bl b=>rw[Rep] at h;cases h
 | int i=>rw[Rep] at h;cases h
 | str x=>rw[Rep] at h;cases h
 | tup l=>
  left
  rw[Rep] at h h'
  obtain⟨_,vs,e,hp,rl⟩:=h
  cases e
  obtain⟨_,Jc,e,ia,Aq⟩:=h'
  cases e
  rw[depth] at hd
  obtain⟨aV,rv,pl,hz⟩:=I.tuple (dZ.of hp)
  obtain⟨its',Ar,FU,Nd⟩:=I.tuple (dZ.of ia)
  have e1:=rl.length
  have e2:=Aq.length
  have l1:=rv.length
  have l2:=Ar.length
  refine⟨aV,its',pl,FU,by omega,λj h1 h2=>?_⟩
  rw[aal] at h1 h2
  obtain⟨d,ed⟩:∃d,l[j]?=some d:=⟨l[j]'(by omega),by simp⟩
  obtain⟨v1,f1,q1⟩:=rl.at ed
  obtain⟨v2,f2,q2⟩:=Aq.at ed
  obtain⟨u1,g1,w1⟩:=rv.get f1
  obtain⟨u2,g2,w2⟩:=Ar.get f2
  have a1:aV.toArray[j]=u1:=by simpa [aad h1] using g1
  have a2:its'.toArray[j]=u2:=by simpa [aad h2] using g2
  rw[a1,a2]
  have:=fL (aag ed)
  exact Ap I 40 d (by omega) v1 v2 u1 u2 X.A.in1 q1 q2 w1 w2 (by show X.A.units+1+40<cLine;omega)
 | lst l=>
  right
  rw[Rep] at h h'
  obtain⟨_,vs,e,hp,rl⟩:=h
  cases e
  obtain⟨_,Jc,e,ia,Aq⟩:=h'
  cases e
  rw[depth] at hd
  obtain⟨aV,rv,pl,hz⟩:=I.list (bo.of hp)
  obtain⟨its',Ar,FU,Nd⟩:=I.list (bo.of ia)
  have e1:=rl.length
  have e2:=Aq.length
  have l1:=rv.length
  have l2:=Ar.length
  refine⟨aV,its',pl.isList,FU.isList,by omega,λj h1 h2=>?_⟩
  rw[aal] at h1 h2
  obtain⟨d,ed⟩:∃d,l[j]?=some d:=⟨l[j]'(by omega),by simp⟩
  obtain⟨v1,f1,q1⟩:=rl.at ed
  obtain⟨v2,f2,q2⟩:=Aq.at ed
  obtain⟨u1,g1,w1⟩:=rv.get f1
  obtain⟨u2,g2,w2⟩:=Ar.get f2
  have a1:aV.toArray[j]=u1:=by simpa [aad h1] using g1
  have a2:its'.toArray[j]=u2:=by simpa [aad h2] using g2
  rw[a1,a2]
  have:=fL (aag ed)
  exact Ap I 40 d (by omega) v1 v2 u1 u2 X.A.in1 q1 q2 w1 w2 (by show X.A.units+1+40<cLine;omega)
theorem Au (hu:X.A.units+64<cLine):kh X (compareOp .Eq) (Je true):=by
 intro pins s σ H x y v u Q I rx ry h
 obtain⟨d,h1,h2,⟨p,rfl⟩,hd,q⟩:=h
 obtain⟨p',rfl⟩:∃p',y=.ref p':=by
  cases d with
  | b9=>rw[Rep] at h1;cases h1
  | bl b=>rw[Rep] at h1;cases h1
  | int i=>rw[Rep] at h1;cases h1
  | str x=>rw[Rep] at h1;cases h1
  | tup l=>rw[Rep] at h2;obtain⟨p',_,e,_⟩:=h2;exact⟨p',e⟩
  | lst l=>rw[Rep] at h2;obtain⟨p',_,e,_⟩:=h2;exact⟨p',e⟩
 cases rx
 cases ry
 rcases As I hu h1 h2 hd with ⟨aV,its',a,b,e,k⟩ | ⟨aV,its',a,b,e,k⟩
 ·refine SeqAt.eq_tupleAt (e:=λ_=>true) a b (by omega) k ⟨.bl true,H,I,?_,q⟩
  show Value.bool _=Value.bool true
  rw[all_true,aal,aal,e]
  simp
 ·refine SeqAt.eq_listAt (e:=λ_=>true) a b (by simp only[aal];exact e) (by omega) k ⟨.bl true,H,I,?_,q⟩
  show Value.bool _=Value.bool true
  rw[all_true]
theorem FV (hu:X.A.units+64<cLine):kh X (compareOp .NotEq) (Je false):=by
 intro pins s σ H x y v u Q I rx ry h
 obtain⟨d,h1,h2,⟨p,rfl⟩,hd,q⟩:=h
 obtain⟨p',rfl⟩:∃p',y=.ref p':=by
  cases d with
  | b9=>rw[Rep] at h1;cases h1
  | bl b=>rw[Rep] at h1;cases h1
  | int i=>rw[Rep] at h1;cases h1
  | str x=>rw[Rep] at h1;cases h1
  | tup l=>rw[Rep] at h2;obtain⟨p',_,e,_⟩:=h2;exact⟨p',e⟩
  | lst l=>rw[Rep] at h2;obtain⟨p',_,e,_⟩:=h2;exact⟨p',e⟩
 cases rx
 cases ry
 rcases As I hu h1 h2 hd with ⟨aV,its',a,b,e,k⟩ | ⟨aV,its',a,b,e,k⟩
 ·refine SeqAt.RcNeAt.tuples (A:=X.A) (e:=λ_=>true) a b (by omega) k X.prog X.w X.xe _ ⟨.bl false,H,I,?_,q⟩
  show Value.bool _=Value.bool false
  rw[all_true,aal,aal,e]
  simp
 ·refine SeqAt.RcNeAt.lists (A:=X.A) (e:=λ_=>true) a b (by simp only[aal];exact e) (by omega) k X.prog X.w X.xe _ ⟨.bl false,H,I,?_,q⟩
  show Value.bool _=Value.bool false
  rw[all_true]
  rfl
noncomputable def rNeT:R2:=λx y H Q=>∃p q xs ys,x=.ref p/\y=.ref q/\H p=some (.tup xs)/\H q=some (.tup ys)/\xs.all iV=true/\ys.all iV=true/\Q (.bl (!HP xs ys)) H
theorem yL (hu:X.A.units<cLine):kh X (compareOp .NotEq) rNeT:=by
 intro pins s σ H x y v u Q I rx ry h
 obtain⟨p,q,xs,ys,rfl,rfl,hp,hq,fx,fy,k⟩:=h
 cases rx
 cases ry
 obtain⟨aV,r,pl,hz⟩:=I.tuple (dZ.of hp)
 obtain⟨lY,r2,MV,XZ⟩:=I.tuple (dZ.of hq)
 have l1:=r.length
 have l2:=r2.length
 refine SeqAt.RcNeAt.tuples (A:=X.A) (e:=λj=>Fw (xs.getD j .b9) (ys.getD j .b9)) pl MV hu (λj h1 h2=>?_) X.prog X.w X.xe _ ⟨.bl _,H,I,rfl,?_⟩
 ·rw[aal] at h1 h2
  exact zN (rn r h1) (rn r2 h2) (mW fx (by omega)) (mW fy (by omega))
 ·rw[aal,aal,<-l1,<-l2]
  exact k
end
end L2
namespace Nm
noncomputable def ins (x:Int):List Int->List Int
 | []=>[x]
 | y::r=>if x<=y then x::y::r else y::ins x r
noncomputable def mY:List Int->List Int
 | []=>[]
 | x::r=>ins x (mY r)
theorem oh (x:Int):∀l,(ins x l).Perm (x::l)
 | []=>.refl _
 | y::r=>by
  unfold ins
  split
  ·exact .refl _
  ·exact((oh x r).cons y).trans (.swap ..)
theorem fM:∀l,(mY l).Perm l
 | []=>.refl _
 | x::r=>(oh x _).trans ((fM r).cons x)
set_option tactic.hygienic true in
theorem xg (x:Int):∀l:List Int,l.Pairwise (·<=·)->(ins x l).Pairwise (·<=·)
 | [],_=>by unfold ins;simp
 | y::r,h=>by
  unfold ins
  rw[List.pairwise_cons] at h
  split
  ·rename_i c
   rw[List.pairwise_cons,List.pairwise_cons]
   refine⟨λz hz=>?_,h.1,h.2⟩
   rcases List.mem_cons.mp hz with rfl | hz
   ·exact c
   ·have:=h.1 z hz;omega
  ·rename_i c
   rw[List.pairwise_cons]
   refine⟨λz hz=>?_,xg x r h.2⟩
   rcases List.mem_cons.mp ((oh x r).mem_iff.mp hz) with rfl | hz
   ·omega
   ·exact h.1 z hz
theorem rE:∀l:List Int,(mY l).Pairwise (·<=·)
 | []=>by unfold mY;simp
 | x::r=>xg x _ (rE r)
theorem oi (l:List Int):(mY l).length=l.length:=(fM l).length_eq
theorem xi:∀{a b:List Int},a.Perm b->a.Pairwise (·<=·)->b.Pairwise (·<=·)->a=b
 | [],b,p,_,_=>by simpa using p.symm.eq_nil
 | x::a,[],p,_,_=>by simpa using p.eq_nil
 | x::a,y::b,p,ha,hb=>by
  rw[List.pairwise_cons] at ha hb
  have e:x=y:=by
   have h1:y∈x::a:=p.mem_iff.mpr aai
   have h2:x∈y::b:=p.mem_iff.mp aai
   rcases List.mem_cons.mp h1 with h1 | h1
   ·exact h1.symm
   ·rcases List.mem_cons.mp h2 with h2 | h2
    ·exact h2
    ·have:=ha.1 y h1
     have:=hb.1 x h2
     omega
  subst e
  rw[xi ((List.perm_cons x).mp p) ha.2 hb.2]
theorem mZ {a b:List Int} (p:a.Perm b) (o:a.Pairwise (·<=·)):a=mY b:=xi (p.trans (fM b).symm) o (rE b)
theorem vQ {a:List Int} (o:a.Pairwise (·<=·)):mY a=a:=(mZ (.refl _) o).symm
theorem xk {a:Int} {l:List Int}:a∈mY l↔a∈l:=(fM l).mem_iff
theorem FW {l:List Int} (h:l.Nodup):(mY l).Pairwise (·<·):=by
 have n:(mY l).Nodup:=(fM l).nodup_iff.mpr h
 have o:=rE l
 exact(List.pairwise_and_iff.mpr ⟨o,n⟩).imp λ{a b} ⟨x,y⟩=>by omega
end Nm
namespace L2
open PySem PySem.Spec PyProof.Rows PySem.W
section
variable {X : Cx}
theorem vR {us:List Value} {ns:List Int} (h:IntsAre us ns):∃xs,us.toArray=intItems xs/\preSum (numAt xs) xs.size=ns.sum:=by
 obtain⟨xs,hx⟩:=h.allInts.items
 refine⟨xs,hx,?_⟩
 have e1:ns=xs.toList.map (·.1):=by
  rw[<-nums_intItems,<-hx]
  exact h.numsOf.symm
 rw[preSum_eq,aaH (by simp),e1]
theorem vS (hc:X.calm=true):cQ X (.builtin "sum") (λxs H Q=>∃p ns,xs=[.ref p]/\bo X.K H p (List.map V.int ns)/\Q (.int ns.sum) H):=by
 intro pins s σ H xs us Q I r h
 obtain⟨p,ns,rfl,hq,q⟩:=h
 obtain⟨u,rfl,rx⟩:=vals1 r
 cases rx
 obtain⟨aV,rv,pl,hz⟩:=I.list hq
 obtain⟨ys,e1,e2⟩:=vR (intsAre_of rv)
 have hl:=pl.isList
 rw[e1] at hl
 refine sum_intListG (I.ok.hd hc) hl λh' tk t' hk=>⟨.int ns.sum,H,I.kept (t':=tk) hk,⟨t',?_⟩,q⟩
 rw[e2]
theorem rF {us:List Value} {ns:List Int} (h:IntsAre us ns):bz (ns.map V.int) us:=by
 induction h with
 | nil=>exact .nil
 | cons n t _ ih=>exact .cons ⟨t,rfl⟩ ih
noncomputable def ib (kvs:List (Key×V)):List Int:=kvs.map λp=>match p.1 with | .inl i=>i | .inr _=>0
noncomputable def allI (kvs:List (Key×V)):Prop:=∀p∈kvs,∃i,p.1=Sum.inl i
theorem pM (hc:X.calm=true):cQ X (.builtin "sorted") (λxs H Q=>∃d kvs,xs=[.ref d]/\Rd H d (.dK kvs)/\allI kvs/\kvs.length<64/\∀l,H l=none->Q (.ref l) (upd H l (.lst (List.map V.int (Nm.mY (ib kvs)))))):=by
 intro pins s σ H xs us Q I r h
 obtain⟨d,kvs,rfl,hd,yG,hn,q⟩:=h
 obtain⟨u,rfl,rx⟩:=vals1 r
 cases rx
 obtain⟨hz,lo,vs,kv,dd⟩:=qo I.bT hd
 have hlen:kvs.length=vs.length:=Paired.length kv
 obtain⟨ep,HQ⟩:=dd.dictAt
 refine Calls.call_function_entry kind_sorted plain_sorted entry_sorted (args_sorted1 _) ?_
 unfold Builtin.«sorted»
 refine wpAny_bind (m:=checkCount "sorted" 1 1 _) (wpAny_pure ?_)
 refine wpAny_bind (kdu_collect (A:=X.A.in1) (kdl_dict (kvs:=vs) (ep:=ep) lo) (I.ok.hd hc) HQ (by rw[<-hlen,sizeLine_eq];omega) λh' tk acc hk C9=>?_)
 have hl:acc.toList.length=vs.length:=by rw[abv];exact C9.1
 have hI:IntsAre acc.toList (ib kvs):=by
  have all:∀(j:Nat) v,acc.toList[j]?=some v->∃i t,v=Value.int i t/\(ib kvs)[j]?=some i:=λj v e=>by
   obtain⟨k,x,hx,hk⟩:=C9.2 j v (by rw[<-Array.getElem?_toList];exact e)
   obtain⟨p,e1,e2⟩:∃p,kvs[j]?=some p/\p.1=k:=by
    have:∀{as:List (Key×V)} {bs:List (Key×Value)} (j:Nat) {b},KV as bs->bs[j]?=some b->∃a,as[j]?=some a/\a.1=b.1:=by
     intro as bs j b r
     induction r generalizing j with
     | nil=>intro e;simp at e
     | cons r1 r2 ih=>
      intro e
      cases j with
      | zero=>simp at e;subst e;exact⟨_,rfl,r1.1⟩
      | succ j=>simp at e;obtain⟨a,e1,e2⟩:=ih j e;exact⟨a,by simpa using e1,e2⟩
    obtain⟨a,e1,e2⟩:=this j kv hx
    exact⟨a,e1,e2⟩
   obtain⟨i,hi⟩:=yG p (aag e1)
   rw[<-e2,hi] at hk
   have hk:nG (.inl i) v=true:=hk
   rcases cv hk with ⟨i',t,e3,e4⟩ | ⟨x',t,e3,_⟩
   ·cases e3
    refine⟨i,t,e4,?_⟩
    unfold ib
    rw[aaf,e1]
    simp [hi]
   ·cases e3
  have go:∀(us:List Value) (ns:List Int),us.length=ns.length->(∀(j:Nat) v,us[j]?=some v->∃i t,v=Value.int i t/\ns[j]?=some i)->IntsAre us ns:=by
   intro us
   induction us with
   | nil=>intro ns hl _;cases ns with | nil=>exact .nil | cons _ _=>simp at hl
   | cons u us ih=>
    intro ns hl k
    cases ns with
    | nil=>simp at hl
    | cons n ns=>
     obtain⟨i,t,rfl,e⟩:=k 0 u rfl
     simp at e
     subst e
     exact .cons n t (ih ns (by simpa using hl) λj v e=>by
      obtain⟨i,t,e1,e2⟩:=k (j+1) v (by simpa using e)
      exact⟨i,t,e1,by simpa using e2⟩)
  refine go _ _ ?_ all
  unfold ib
  rw[aac,hl,hlen]
 refine wpAny_bind (wpAny_newList ?_ (by rw[hl,<-hlen,sizeLine_eq];omega))
 have Ek:(h'.push (seqObj "list" acc.toList.toArray 0)).get? h'.objs.size=some (seqObj "list" acc.toList.toArray 0):=Heap.get?_push_size _ rfl
 have I1:Inv X pins σ H {s with heap:=h',toks:=tk}:=I.kept (t':=tk) hk
 refine wpAny_bind (wpAny_holding (wpAny_call_entry slot_list_sort ⟨_,Ek,rfl⟩ entry_list_sort (list_sort_tree Ek hI (by omega) λout ns' a1 a2 a3=>⟨_,rfl,?_⟩) (args_list_sort _)))
 obtain rfl:=Nm.mZ a2 a3
 obtain⟨e,he⟩:=sortedHeap_at (out:=out) Ek
 have fr:=I1.bT.fresh (a:=h'.objs.size) (aah _)
 refine wpAny_pure ⟨_,rfl,.ref h'.objs.size,_,I1.laid (t':=tk) (λb o eb=>?_) (aah _) (o:=.lst (List.map V.int (Nm.mY (ib kvs)))) ⟨?_,out.toList,e,rF a1,?_⟩,rfl,q _ fr⟩
 ·rw[sortedHeap_old (aao (Heap.lt_size eb)) (by rw[Heap.size_push];exact abm (Heap.lt_size eb))]
  exact Heap.get?_push_of_some _ eb
 ·rw[aac,Nm.oi,sizeLine_eq]
  unfold ib
  rw[aac]
  omega
 ·exact he
end
section
variable {X : Cx} {pins : List (Addr × Obj)} {σ : St} {H : Hp} {s : Shared}
end
noncomputable def Yl (d:Addr) (o:Obj) (kvs:List (Key×V)):It:=
 ⟨λi H=>H d=some (.tq o (.dK kvs))/\i<kvs.length,λi H x H'=>H'=H/\∃p,kvs[i]?=some p/\x=kV p.1,λi H=>H d=some (.tq o (.dK kvs))/\i=kvs.length⟩
section
variable {X : Cx} {x : Str} {Ym : Pos}
noncomputable def iDict (tl:TE):TI:=λσ H R=>tl σ H λv H1=>∃d kvs,v=.ref d/\H1 d=some (.dK kvs)/\∀o,R (Yl d o kvs) (upd H1 d (.tq o (.dK kvs)))
end
end L2
namespace L2
open PySem PySem.Spec PyProof.Rows PySem.W
section
variable {X : Cx} {K : PySem.W.Frag}
theorem bj {tg l:Expr} {tl:TE} (hl:PE X l tl) (hK:X.K=K:=by rfl):PI X tg l (iList K tl):=by subst hK;exact CG hl
theorem De {tg l:Expr} {tl:TE} (hl:PE X l tl) (hK:X.K=K:=by rfl):PI X tg l (iTup K tl):=by subst hK;exact Fk hl
theorem jK {elts:List Expr} {kk:Nat} {lV:Pos} {a b:Expr} {ta:TA} {p pos:Pos} (hg:Gl X "zip") (hm:X.mg "zip"=none) (ha:PA X [a,b] ta) (n1:noStar a=true:=by rfl) (n2:noStar b=true:=by rfl) (hK:X.K=K:=by rfl):
  PI X (.Tuple elts kk lV) (.Call (.Name "zip" p) [a,b] [] pos) (iZip K ta):=by subst hK;exact FT hg hm ha (by rw[se n1,se n2];rfl) (by rw[se n2];rfl)
theorem cR {elts:List Expr} {kk:Nat} {lV:Pos} {a:Expr} {ta:TA} {p pos:Pos} (hg:Gl X "enumerate") (hm:X.mg "enumerate"=none) (ha:PA X [a] ta) (n1:noStar a=true:=by rfl) (hK:X.K=K:=by rfl):
  PI X (.Tuple elts kk lV) (.Call (.Name "enumerate" p) [a] [] pos) (iEnum K ta):=by subst hK;exact rC hg hm ha (by rw[se n1];rfl)
theorem bX {es:List Expr} {k:Nat} {t:El} {n:Nat} {pos:Pos} (hc:X.calm=true) (h:HL X es t) (hn:(assignEach es X.env).length=n:=by rfl) (hst:(assignEach es X.env).findIdx? (·.1)=none:=by rfl) (hK:X.K=K:=by rfl):PG X (.Tuple es k pos) (zB K n t):=by
 subst hK;exact Fh hc h hn hst
theorem qv (hK:X.K=K:=by rfl):Es X (FG K):=by subst hK;exact zY
theorem je (hK:X.K=K:=by rfl):cQ X (.builtin "len") (λxs H Q=>∃p ns,xs=[.ref p]/\bo K H p (List.map V.int ns)/\Q (.int (List.length ns:Nat)) H):=by subst hK;exact yI
theorem cS (hK:X.K=K:=by rfl):cQ X (.type "list") (λxs H Q=>∃p ys,xs=[.ref p]/\(bo K H p ys\/dZ K H p ys)/\∀l,H l=none->Q (.ref l) (upd H l (.lst ys))):=by subst hK;exact qZ
theorem dk (hK:X.K=K:=by rfl):cQ X (.builtin "isinstance") (λxs H Q=>∃x c t b,xs=[x,.ty c]/\fc K H x t/\PySem.W.kitOne K t (.type c)=some b/\Q (.bl b) H):=by subst hK;exact zZ
theorem ic (hc:X.calm=true:=by rfl) (hK:X.K=K:=by rfl):cQ X (.builtin "sum") (λxs H Q=>∃p ns,xs=[.ref p]/\bo K H p (List.map V.int ns)/\Q (.int ns.sum) H):=by subst hK;exact vS hc
theorem oj (hc:X.calm=true:=by rfl):cQ X (.builtin "sorted") (λxs H Q=>∃d kvs,xs=[.ref d]/\Rd H d (.dK kvs)/\allI kvs/\kvs.length<64/\∀l,H l=none->Q (.ref l) (upd H l (.lst (List.map V.int (Nm.mY (ib kvs)))))):=pM hc
theorem tZ (hK:X.K=K:=by rfl):LM X (rSlL K):=by subst hK;exact CP
theorem HN.r {id:String} {r:V->List V->Hp->VK->Prop} (h:HN X id r):Ft X id r:=h
end
end L2
namespace Nm
abbrev Ws:=List (Int×Int)
noncomputable def keys (ws:Ws):List Int:=ws.map (·.1)
noncomputable def look:Ws->Int->Int
 | [],_=>0
 | p::r,k=>if p.1=k then p.2 else look r k
noncomputable def put:Ws->Int->Int->Ws
 | [],k,v=>[(k,v)]
 | p::r,k,v=>if p.1=k then (k,v)::r else p::put r k v
noncomputable def Nf (ws:Ws):Int:=(ws.map (·.2)).sum
structure Over (as ws:Ws) (B T:Int):Prop where
 nd:(keys ws).Nodup
 perm:(keys as).Perm (keys ws)
 val:∀k∈keys ws,look as k*T=look ws k*B
end Nm
namespace L2
open PySem PySem.Spec PyProof.Rows
noncomputable def bC (p:Int×Int):Dat:=.tup [.int p.1,.int p.2]
theorem cn {H:Hp} {r:Int×Int} {v:V}:Rep H (bC r) v↔∃p,v=.ref p/\H p=some (.tup [.int r.1,.int r.2]):=by
 unfold bC
 simp only[Rep,bu]
 constructor
 ·rintro⟨p,vs,rfl,hp,a,b,rfl,rfl,c,d,rfl,rfl,rfl⟩
  exact⟨p,rfl,hp⟩
 ·rintro⟨p,rfl,hp⟩
  exact⟨p,_,rfl,hp,_,_,rfl,rfl,_,_,rfl,rfl,rfl⟩
theorem aT {H:Hp} {ds:List Dat} {v:V}:Rep H (.lst ds) v↔∃p vs,v=.ref p/\H p=some (.lst vs)/\bu H ds vs:=by rw[Rep]
noncomputable def VW (H H':Hp):Prop:=∀p xs,(H p=some (.tup xs)->H' p=some (.tup xs))/\(H p=some (.lst xs)->H' p=some (.lst xs))
mutual
theorem Rep.Jf {H H':Hp} (s:VW H H'):∀{d:Dat} {v:V},Rep H d v->Rep H' d v
 | .b9,_,h=>by rw[Rep] at *;exact h
 | .bl _,_,h=>by rw[Rep] at *;exact h
 | .int _,_,h=>by rw[Rep] at *;exact h
 | .str _,_,h=>by rw[Rep] at *;exact h
 | .tup _,_,h=>by
  rw[Rep] at *
  obtain⟨p,vs,e,hp,r⟩:=h
  exact⟨p,vs,e,(s _ _).1 hp,bu.Jf s r⟩
 | .lst _,_,h=>by
  rw[Rep] at *
  obtain⟨p,vs,e,hp,r⟩:=h
  exact⟨p,vs,e,(s _ _).2 hp,bu.Jf s r⟩
theorem bu.Jf {H H':Hp} (s:VW H H'):∀{ds:List Dat} {vs:List V},bu H ds vs->bu H' ds vs
 | [],_,h=>by rw[bu] at *;exact h
 | _::_,_,h=>by
  rw[bu] at *
  obtain⟨v,r,e,h1,h2⟩:=h
  exact⟨v,r,e,Rep.Jf s h1,bu.Jf s h2⟩
end
theorem none_of {H H':Hp} (s:az H H') {p:Addr} (h:H' p=none):H p=none:=by
 cases e:H p with
 | none=>rfl
 | some o=>rw[s p o e] at h;cases h
end L2
namespace Nm
end Nm
namespace L2
open PySem PySem.Spec PyProof.Rows
theorem dm {α:Type} {J:It} {tc:TT} {te:TE} {tl:St} {H1:Hp} {fin:List V->Hp->Prop} {Item:Nat->V->Hp->Hp->Prop} (as:List α) (f:α->Option Int) (S:Src J (az H1) as.length Item) (sub:∀i x H H3,Item i x H H3->H3=H) (hz:as.length<=sizeLine)
  (hs:∀i a x,as[i]?=some a->Item i x H1 H1->∀(Y:VK) (N:Hp->Prop),(∀z,f a=some z->Y (.int z) H1)->(f a=none->N H1)->tc (some x::tl) H1 λb H5=>if b=true then te (some x::tl) H5 Y else N H5)
  (kE:fin (List.map V.int (as.filterMap f)) H1):fz J (gName 0) tc te (none::tl) H1 fin:=by
 refine iE S (λσ=>∃w0,σ=w0::tl) ⟨_,rfl⟩ (λi ys H=>H=H1/\ys=List.map V.int ((as.take i).filterMap f)) ⟨rfl,by simp⟩ hz ?_ ?_
 ·rintro i x σ H ys H3 Q N hi sm ⟨rfl,rfl⟩ hl ⟨w0,rfl⟩ it kq kn
  obtain rfl:=sub _ _ _ _ it
  have ea:as[i]?=some as[i]:=aad hi
  refine hs i _ x ea it _ _ (λz e=>kq _ _ _ ⟨_,rfl⟩ sm ⟨rfl,?_⟩) (λe=>kn _ _ ⟨_,rfl⟩ sm ⟨rfl,?_⟩)
  ·rw[aaF,ea,abn,aaB]
   simp [e]
  ·rw[aaF,ea,abn,aaB]
   simp [e]
 ·rintro ys H sm ⟨rfl,rfl⟩ hl
  rw[aaH (aah _)]
  exact kE
theorem gD {K:PySem.W.Frag} {α:Type} {J:It} {tc:TT} {te:TE} {tl:St} {H1:Hp} {fin:List V->Hp->Prop} {Item:Nat->V->Hp->Hp->Prop} (as:List α) (f:α->Option Int) (S:Src J (az H1) as.length Item) (sub:∀i x H H3,Item i x H H3->H3=H) (hz:as.length<=sizeLine)
  (hs:∀i a x,as[i]?=some a->Item i x H1 H1->∃p u v,x=.ref p/\dZ K H1 p [u,v]/\∀(Y:VK) (N:Hp->Prop),(∀z,f a=some z->Y (.int z) H1)->(f a=none->N H1)->tc (some u::some v::tl) H1 λb H5=>if b=true then te (some u::some v::tl) H5 Y else N H5)
  (kE:fin (List.map V.int (as.filterMap f)) H1):fz J (zB K 2 (gCons (gName 0) (gCons (gName 1) gNil))) tc te (none::none::tl) H1 fin:=by
 refine iE S (λσ=>∃w0 w1,σ=w0::w1::tl) ⟨_,_,rfl⟩ (λi ys H=>H=H1/\ys=List.map V.int ((as.take i).filterMap f)) ⟨rfl,by simp⟩ hz ?_ ?_
 ·rintro i x σ H ys H3 Q N hi sm ⟨rfl,rfl⟩ hl ⟨w0,w1,rfl⟩ it kq kn
  obtain rfl:=sub _ _ _ _ it
  have ea:as[i]?=some as[i]:=aad hi
  obtain⟨p,u,v,rfl,sq,k⟩:=hs i _ x ea it
  refine⟨p,_,rfl,sq,rfl,_,_,rfl,_,_,rfl,rfl,?_⟩
  refine k _ _ (λz e=>kq _ _ _ ⟨_,_,rfl⟩ sm ⟨rfl,?_⟩) (λe=>kn _ _ ⟨_,_,rfl⟩ sm ⟨rfl,?_⟩)
  ·rw[aaF,ea,abn,aaB]
   simp [e]
  ·rw[aaF,ea,abn,aaB]
   simp [e]
 ·rintro ys H sm ⟨rfl,rfl⟩ hl
  rw[aaH (aah _)]
  exact kE
theorem dR {α β:Type} (f:α->β) (l:List α):l.filterMap (λa=>some (f a))=l.map f:=by
 rw[<-List.filterMap_eq_map];rfl
end L2
namespace L2
open PySem PySem.Spec PyProof.Rows PySem.W
section
variable {X : Cx} {K : PySem.W.Frag}
theorem oq:∀{us:List Value} {bs:List Bool},bz (bs.map V.bl) us->LSm.BoolsAre us bs
 | _,[],.nil=>.nil
 | _,b::bs,.cons r t=>by
  have e:_=Value.bool b:=r
  subst e
  exact .cons b (oq t)
theorem vT (hc:X.calm=true):cQ X (.builtin "all") (λxs H Q=>∃p bs,xs=[.ref p]/\bo X.K H p (List.map V.bl bs)/\Q (.bl (bs.all id)) H):=by
 intro pins s σ H xs us Q I r h
 obtain⟨p,bs,rfl,hq,q⟩:=h
 obtain⟨u,rfl,rx⟩:=vals1 r
 cases rx
 obtain⟨aV,rv,pl,hz⟩:=I.list hq
 have hb:=oq rv
 have hl:=pl.isList
 have fE:p<s.heap.objs.size:=by obtain⟨_,e,_⟩:=hl;exact Heap.lt_size e
 refine call_all_walk (wpAny_pyIter_list hl ?_)
 refine⟨s.heap.objs.size,[s.heap.objs.size,p],[s.heap.objs.size],aV.toArray.size,_,_,λi=>(bs[i]?).getD true,rfl,Walks.list (A:=X.A.in1) (I.ok.hd hc) _ p (aao fE) aV.toArray,
  ⟨⟨_,Heap.get?_push_size _ rfl,rfl,rfl⟩,hl.push _⟩,λi v s' Q' E' hP hQ=>?_,λh' tk hk=>?_⟩
 ·obtain⟨b,e,rfl⟩:=hb.get i v (by simpa using hP)
  simp only[e,Option.getD_some] at hQ
  exact wpAny_truthy_bool hQ
 ·have e:((List.range aV.toArray.size).all λi=>(bs[i]?).getD true)=bs.all id:=by
   rw[aal,hb.length];exact LSm.range_all bs
  rw[e]
  exact⟨.bl _,H,I.kept (t':=tk) (LSm.kept_iter hk),rfl,q⟩
theorem vU (hc:X.calm=true):cQ X (.builtin "any") (λxs H Q=>∃p bs,xs=[.ref p]/\bo X.K H p (List.map V.bl bs)/\Q (.bl (bs.any id)) H):=by
 intro pins s σ H xs us Q I r h
 obtain⟨p,bs,rfl,hq,q⟩:=h
 obtain⟨u,rfl,rx⟩:=vals1 r
 cases rx
 obtain⟨aV,rv,pl,hz⟩:=I.list hq
 have hb:=oq rv
 have hl:=pl.isList
 have fE:p<s.heap.objs.size:=by obtain⟨_,e,_⟩:=hl;exact Heap.lt_size e
 refine call_any_walk (wpAny_pyIter_list hl ?_)
 refine⟨s.heap.objs.size,[s.heap.objs.size,p],[s.heap.objs.size],aV.toArray.size,_,_,λi=>(bs[i]?).getD false,rfl,Walks.list (A:=X.A.in1) (I.ok.hd hc) _ p (aao fE) aV.toArray,
  ⟨⟨_,Heap.get?_push_size _ rfl,rfl,rfl⟩,hl.push _⟩,λi v s' Q' E' hP hQ=>?_,λh' tk hk=>?_⟩
 ·obtain⟨b,e,rfl⟩:=hb.get i v (by simpa using hP)
  simp only[e,Option.getD_some] at hQ
  exact wpAny_truthy_bool hQ
 ·have e:((List.range aV.toArray.size).any λi=>(bs[i]?).getD false)=bs.any id:=by
   rw[aal,hb.length];exact LSm.range_any bs
  rw[e]
  exact⟨.bl _,H,I.kept (t':=tk) (LSm.kept_iter hk),rfl,q⟩
theorem lB (hc:X.calm=true:=by rfl) (hK:X.K=K:=by rfl):cQ X (.builtin "all") (λxs H Q=>∃p bs,xs=[.ref p]/\bo K H p (List.map V.bl bs)/\Q (.bl (bs.all id)) H):=by subst hK;exact vT hc
theorem t6 (hc:X.calm=true:=by rfl) (hK:X.K=K:=by rfl):cQ X (.builtin "any") (λxs H Q=>∃p bs,xs=[.ref p]/\bo K H p (List.map V.bl bs)/\Q (.bl (bs.any id)) H):=by subst hK;exact vU hc
noncomputable def tSumV (to:TE):TE:=λσ H Q=>to σ H λv H1=>∃d kvs ns,v=.ref d/\H1 d=some (.dK kvs)/\kvs.map (·.2)=List.map V.int ns/\Q (.int ns.sum) H1
theorem qw {α:Type} {J:It} {tc:TT} {te:TE} {tl:St} {H1:Hp} {fin:List V->Hp->Prop} {Item:Nat->V->Hp->Hp->Prop} (as:List α) (f:α->Option V) (S:Src J (az H1) as.length Item) (sub:∀i x H H3,Item i x H H3->H3=H) (hz:as.length<=sizeLine)
  (hs:∀i a x,as[i]?=some a->Item i x H1 H1->∀(Y:VK) (N:Hp->Prop),(∀z,f a=some z->Y z H1)->(f a=none->N H1)->tc (some x::tl) H1 λb H5=>if b=true then te (some x::tl) H5 Y else N H5)
  (kE:fin (as.filterMap f) H1):fz J (gName 0) tc te (none::tl) H1 fin:=by
 refine iE S (λσ=>∃w0,σ=w0::tl) ⟨_,rfl⟩ (λi ys H=>H=H1/\ys=(as.take i).filterMap f) ⟨rfl,by simp⟩ hz ?_ ?_
 ·rintro i x σ H ys H3 Q N hi sm ⟨rfl,rfl⟩ hl ⟨w0,rfl⟩ it kq kn
  obtain rfl:=sub _ _ _ _ it
  have ea:as[i]?=some as[i]:=aad hi
  refine hs i _ x ea it _ _ (λz e=>kq _ _ _ ⟨_,rfl⟩ sm ⟨rfl,?_⟩) (λe=>kn _ _ ⟨_,rfl⟩ sm ⟨rfl,?_⟩)
  ·rw[aaF,ea,abn]
   simp [e]
  ·rw[aaF,ea,abn]
   simp [e]
 ·rintro ys H sm ⟨rfl,rfl⟩ hl
  rw[aaH (aah _)]
  exact kE
theorem aR {a b:TS} {D:Ends} {σ:St} {H:Hp} (C:St->Hp->Prop) (hb:∀σ' H',C σ' H'->b D σ' H') (ha:∀N:St->Hp->Prop,(∀σ' H',C σ' H'->N σ' H')->a {D with nx:=N} σ H):tSeq a b D σ H:=ha _ hb
end
end L2
namespace Nm
noncomputable def pos (ps:Ws):Ws:=ps.filter λp=>decide (0<p.2)
end Nm
namespace L2
open PySem PySem.Spec PyProof.Rows PySem.W
inductive Pl where
 | fin (w:Int×Int) | dA (w:Int×Int) (ws:List (Int×Int)) | cD (br:Int) (to:List Int)
noncomputable def jf:Pl->Dat
 | .fin w=>.tup [.str (Str.ofString "end"),bC w]
 | .dA w ws=>.tup [.str (Str.ofString "throw"),bC w,.lst (ws.map bC)]
 | .cD br to=>.tup [.str (Str.ofString "pick"),.int br,.lst (to.map .int)]
noncomputable def ou (b:List Pl):Dat:=.lst (b.map jf)
theorem iF {H:Hp}:∀{ns:List Int} {vs:List V},bu H (ns.map Dat.int) vs↔vs=ns.map V.int
 | [],vs=>by simp only[aa2,bu]
 | n::ns,vs=>by
  simp only[aaz,bu,Rep]
  constructor
  ·rintro⟨v,r,rfl,rfl,h⟩
   rw[iF.mp h]
  ·rintro rfl
   exact⟨_,_,rfl,rfl,iF.mpr rfl⟩
theorem cX {H:Hp} {w:Int×Int} {v:V}:Rep H (jf (.fin w)) v↔∃p q,v=.ref p/\H p=some (.tup [.str (Str.ofString "end"),.ref q])/\H q=some (.tup [.int w.1,.int w.2]):=by
 show Rep H (.tup [.str (Str.ofString "end"),bC w]) v↔_
 rw[Rep]
 simp only[bu,cn]
 constructor
 ·rintro⟨p,vs,rfl,hp,_,_,rfl,e,_,_,rfl,⟨q,rfl,hq⟩,rfl⟩
  rw[Rep] at e
  subst e
  exact⟨p,q,rfl,hp,hq⟩
 ·rintro⟨p,q,rfl,hp,hq⟩
  exact⟨p,_,rfl,hp,_,_,rfl,by rw[Rep],_,_,rfl,⟨q,rfl,hq⟩,rfl⟩
theorem cN {H:Hp} {w:Int×Int} {ws:List (Int×Int)} {v:V}:Rep H (jf (.dA w ws)) v↔∃p q l xs,v=.ref p/\H p=some (.tup [.str (Str.ofString "throw"),.ref q,.ref l])/\H q=some (.tup [.int w.1,.int w.2])/\H l=some (.lst xs)/\bu H (ws.map bC) xs:=by
 show Rep H (.tup [.str (Str.ofString "throw"),bC w,.lst (ws.map bC)]) v↔_
 rw[Rep]
 simp only[bu,cn]
 constructor
 ·rintro⟨p,vs,rfl,hp,_,_,rfl,e,_,_,rfl,⟨q,rfl,hq⟩,_,_,rfl,k,rfl⟩
  rw[Rep] at e
  subst e
  obtain⟨l,xs,rfl,hl,r⟩:=aT.mp k
  exact⟨p,q,l,xs,rfl,hp,hq,hl,r⟩
 ·rintro⟨p,q,l,xs,rfl,hp,hq,hl,r⟩
  exact⟨p,_,rfl,hp,_,_,rfl,by rw[Rep],_,_,rfl,⟨q,rfl,hq⟩,_,_,rfl,aT.mpr ⟨l,xs,rfl,hl,r⟩,rfl⟩
theorem cH {H:Hp} {br:Int} {to:List Int} {v:V}:Rep H (jf (.cD br to)) v↔∃p l,v=.ref p/\H p=some (.tup [.str (Str.ofString "pick"),.int br,.ref l])/\H l=some (.lst (to.map V.int)):=by
 show Rep H (.tup [.str (Str.ofString "pick"),.int br,.lst (to.map .int)]) v↔_
 rw[Rep]
 simp only[bu]
 constructor
 ·rintro⟨p,vs,rfl,hp,_,_,rfl,e,_,_,rfl,e2,_,_,rfl,k,rfl⟩
  rw[Rep] at e
  rw[Rep] at e2
  subst e e2
  obtain⟨l,xs,rfl,hl,r⟩:=aT.mp k
  rw[iF] at r
  subst r
  exact⟨p,l,rfl,hp,hl⟩
 ·rintro⟨p,l,rfl,hp,hl⟩
  exact⟨p,_,rfl,hp,_,_,rfl,by rw[Rep],_,_,rfl,by rw[Rep],_,_,rfl,aT.mpr ⟨l,_,rfl,hl,iF.mpr rfl⟩,rfl⟩
theorem FX {H:Hp} {q:Pl} {v:V} (h:Rep H (jf q) v):∃p k r,v=.ref p/\H p=some (.tup (.str k::r)):=by
 cases q with
 | fin w=>obtain⟨p,q,rfl,hp,_⟩:=cX.mp h;exact⟨p,_,_,rfl,hp⟩
 | dA w ws=>obtain⟨p,q,l,xs,rfl,hp,_⟩:=cN.mp h;exact⟨p,_,_,rfl,hp⟩
 | cD br to=>obtain⟨p,l,rfl,hp,_⟩:=cH.mp h;exact⟨p,_,_,rfl,hp⟩
theorem eP {ds:List Dat} {n:Nat} (h:∀d∈ds,depth d<=n):depth.dL ds<=n:=by
 induction ds with
 | nil=>rw[depth.dL];omega
 | cons d ds ih=>
  rw[depth.dL]
  have:=h d aai
  have:=ih λe he=>h e (aaj _ he)
  omega
theorem gE (p:Int×Int):depth (bC p)=1:=by simp [bC,depth,depth.dL]
theorem Av (q:Pl):depth (jf q)<=3:=by
 cases q with
 | fin w=>simp [jf,depth,depth.dL,gE]
 | dA w ws=>
  have:=eP (ds:=ws.map bC) (n:=1) λd hd=>by obtain⟨p,_,rfl⟩:=List.mem_map.mp hd;rw[gE];exact aah _
  simp only[jf,depth,depth.dL,gE]
  omega
 | cD br to=>
  have:=eP (ds:=to.map Dat.int) (n:=0) λd hd=>by obtain⟨p,_,rfl⟩:=List.mem_map.mp hd;simp [depth]
  simp only[jf,depth,depth.dL]
  omega
theorem Aw (b:List Pl):depth (ou b)<=40:=by
 have:=eP (ds:=b.map jf) (n:=3) λd hd=>by obtain⟨p,_,rfl⟩:=List.mem_map.mp hd;exact Av p
 unfold ou
 rw[depth]
 omega
theorem dN {H:Hp} {b:List Pl} {xs:List V} {i:Nat} {x:V} (h:bu H (b.map jf) xs) (e:xs[i]?=some x):∃q,b[i]?=some q/\Rep H (jf q) x:=by
 obtain⟨d,ed,rd⟩:=h.get e
 rw[aaf] at ed
 obtain⟨q,eq,rfl⟩:=Option.map_eq_some_iff.mp ed
 exact⟨q,eq,rd⟩
theorem dq {H:Hp} {b:List Pl} {xs:List V} {i:Nat} {q:Pl} (h:bu H (b.map jf) xs) (e:b[i]?=some q):∃x,xs[i]?=some x/\Rep H (jf q) x:=
 h.at (by rw[aaf,e];rfl)
theorem dD {α:Type} {H:Hp} {f:α->Dat} {as:List α} {ys:List V} (hl:ys.length=as.length) (h:∀(i:Nat) y,ys[i]?=some y->∀a,as[i]?=some a->Rep H (f a) y):bu H (as.map f) ys:=
 bu.of (by rw[aac,hl]) λi d v e1 e2=>by
  rw[aaf] at e1
  obtain⟨a,ea,rfl⟩:=Option.map_eq_some_iff.mp e1
  exact h i v e2 a ea
noncomputable def cI (H:Hp) (p:Addr):Hp:=λa=>if a=p then none else H a
theorem bK {H:Hp} {p a:Addr} (h:a≠p):cI H p a=H a:=if_neg h
theorem rG {H:Hp} {p:Addr} {o:HO}:az (cI H p) (upd H p o):=λa u e=>by
 unfold cI at e
 by_cases h:a=p
 ·rw[if_pos h] at e;cases e
 ·rw[if_neg h] at e;rw[aJ h];exact e
theorem cf {H:Hp} {p:Addr}:az (cI H p) H:=λa u e=>by
 unfold cI at e
 by_cases h:a=p
 ·rw[if_pos h] at e;cases e
 ·rw[if_neg h] at e;exact e
theorem eQ {H0 H:Hp} {p:Addr} (s:az H0 H) (n:H0 p=none):az H0 (cI H p):=λa u e=>by
 rw[bK (λz=>by rw[z,n] at e;cases e)]
 exact s _ _ e
theorem bQ {H H':Hp} {p:Addr} (s:az H H'):az (cI H p) (cI H' p):=λa u e=>by
 unfold cI at *
 by_cases h:a=p
 ·rw[if_pos h] at e;cases e
 ·rw[if_neg h] at e ⊢;exact s _ _ e
theorem aZ {H0 H:Hp} {p:Addr} {o:HO} (s:az H0 H) (n:H0 p=none):az H0 (upd H p o):=(eQ s n).trans rG
theorem t7 {H:Hp} {p:Addr} {ds:List Dat} {xs:List V} {d:Dat} {v:V} (h:bu (cI H p) ds xs) (k:Rep (cI H p) d v):bu (cI (upd H p (.lst (xs++ [v]))) p) (ds++ [d]) (xs++ [v]):=by
 have s:az (cI H p) (cI (upd H p (.lst (xs++ [v]))) p):=eQ rG (if_pos rfl)
 refine(h.mono s).append ?_
 rw[bu]
 exact⟨v,[],rfl,k.mono s,by rw[bu]⟩
theorem ie {α β:Type} {f:α->β} {as:List α} {i:Nat} {a:α} (h:as[i]?=some a):eE (as.map f) (i:Int)=some (f a):=bE (by rw[aaf,h];rfl)
theorem t8 {c:TT} {tb:TS} {D:Ends} {σ:St} {H:Hp} (W:Nat->St->Hp->Prop) {m:Nat} (h0:W m σ H)
  (hs:∀m σ H,W m σ H->c σ H λb H1=>if b=true then tb {D with nx:=λσ' H'=>∃m',m'<m/\W m' σ' H',ct:=λσ' H'=>∃m',m'<m/\W m' σ' H',bk:=D.nx} σ H1 else D.nx σ H1)
  (mono:∀σ H Q Q',(∀b H1,Q b H1->Q' b H1)->c σ H Q->c σ H Q'):qW c tb D σ H:=by
 refine⟨W,⟨m,h0⟩,λm σ H w=>mono σ H _ _ (λb H1 q=>?_) (hs m σ H w)⟩
 cases b with
 | true=>exact⟨_,λ_ _ h=>h,q⟩
 | false=>exact q
theorem qx {K:PySem.W.Frag} {α:Type} {J:It} {tc:TT} {te:TE} {tl:St} {H1:Hp} {fin:List V->Hp->Prop} {Item:Nat->V->Hp->Hp->Prop} (as:List α) (f:α->Option V) (S:Src J (az H1) as.length Item) (IZ:Nat->V->V->Hp->Prop)
  (tp:∀i x H H3,i<as.length->az H1 H->Item i x H H3->az H H3/\∃p a b,x=.ref p/\dZ K H3 p [a,b]/\IZ i a b H3) (hz:as.length<=sizeLine)
  (hs:∀i a u v H3,as[i]?=some a->az H1 H3->IZ i u v H3->∀(Y:VK) (N:Hp->Prop),(∀z H6,f a=some z->az H3 H6->Y z H6)->(∀H6,f a=none->az H3 H6->N H6)->tc (some u::some v::tl) H3 λb H5=>if b=true then te (some u::some v::tl) H5 Y else N H5)
  (kE:∀H2,az H1 H2->fin (as.filterMap f) H2):fz J (zB K 2 (gCons (gName 0) (gCons (gName 1) gNil))) tc te (none::none::tl) H1 fin:=by
 refine iE S (λσ=>∃w0 w1,σ=w0::w1::tl) ⟨_,_,rfl⟩ (λi ys _=>ys=(as.take i).filterMap f) (by simp) hz ?_ ?_
 ·rintro i x σ H ys H3 Q N hi sm rfl hl ⟨w0,w1,rfl⟩ it kq kn
  obtain⟨s3,p,u,v,rfl,sq,i2⟩:=tp i x H H3 hi sm it
  have ea:as[i]?=some as[i]:=aad hi
  refine⟨p,_,rfl,sq,rfl,_,_,rfl,_,_,rfl,rfl,?_⟩
  refine hs i _ u v H3 ea (sm.trans s3) i2 _ _ (λz H6 e s6=>kq _ _ _ ⟨_,_,rfl⟩ (sm.trans (s3.trans s6)) ?_) (λH6 e s6=>kn _ _ ⟨_,_,rfl⟩ (sm.trans (s3.trans s6)) ?_)
  ·rw[aaF,ea,abn]
   simp [e]
  ·rw[aaF,ea,abn]
   simp [e]
 ·rintro ys H sm rfl hl
  rw[aaH (aah _)]
  exact kE H sm
theorem dO {α:Type} (f:α->V) (p:α->Bool):∀l:List α,l.filterMap (λi=>if p i=true then some (f i) else none)=(l.filter p).map f
 | []=>rfl
 | x::l=>by
  rw[abt,List.filter_cons]
  by_cases c:p x=true
  ·simp only[c,if_true,aaz,dO f p l]
  ·simp only[c,if_false,dO f p l]
   rfl
section
variable {X : Cx} {K : PySem.W.Frag}
theorem vV (hc:X.calm=true):cQ X (.builtin "max") (λxs H Q=>∃p ns,xs=[.ref p]/\bo X.K H p (List.map V.int ns)/\0<ns.length/\∀M,M∈ns->(∀a∈ns,a<=M)->Q (.int M) H):=by
 intro pins s σ H xs us Q I r h
 obtain⟨p,ns,rfl,hq,Ng,q⟩:=h
 obtain⟨u,rfl,rx⟩:=vals1 r
 cases rx
 obtain⟨aV,rv,pl,hz⟩:=I.list hq
 have hi:=intsAre_of rv
 have hl:=pl.isList
 obtain⟨xs,e⟩:=hi.allInts.items
 have EB:ns=xs.toList.map (·.1):=by rw[<-hi.numsOf,<-nums_intItems,<-e]
 have hsz:0<xs.size:=by
  have h3:=Ng;rw[EB,aac,abv] at h3;exact h3
 rw[e] at hl
 refine max_intList (I.ok.hd hc) hl hsz λv h' tk hv hk=>?_
 obtain⟨t,rfl⟩:=intItems_at hv
 obtain⟨h1,h2⟩:=argBest_gt (numAt xs) (xs.size - 1)
 refine⟨.int _,H,I.kept (t':=tk) hk,⟨t,rfl⟩,q _ ?_ λa ha=>?_⟩
 ·rw[EB,numAt_eq];exact getD_mem (by rw[aac,abv];omega)
 ·rw[EB] at ha
  obtain⟨j,hj,rfl⟩:=mem_getD ha
  rw[aac,abv] at hj
  rw[<-numAt_eq];exact h2 j (by omega)
theorem ua (hc:X.calm=true:=by rfl) (hK:X.K=K:=by rfl):cQ X (.builtin "max") (λxs H Q=>∃p ns,xs=[.ref p]/\bo K H p (List.map V.int ns)/\0<ns.length/\∀M,M∈ns->(∀a∈ns,a<=M)->Q (.int M) H):=by subst hK;exact vV hc
end
end L2
namespace Lv
open L2
abbrev Fs:=List (Option Int)
noncomputable def gc:Pl->List Int
 | .fin _=>[]
 | .dA _ ws=>ws.map (·.2)
 | .cD _ to=>to
noncomputable def lk (fs:Fs) (g:Int):Option Int:=fs.getD g.toNat none
noncomputable def EC (fs:Fs) (q:Pl):Bool:=
 match q with
 | .dA _ ws=>(ws.map (·.2)).any λg=>(lk fs g).isSome
 | .fin _=>true
 | .cD _ to=>to.all λg=>(lk fs g).isSome
noncomputable def gO (b:List Pl) (fs:Fs) (i:Nat):Bool:=(fs.getD i none).isNone && (match b[i]? with | some q=>EC fs q | none=>false)
noncomputable def fresh (b:List Pl) (fs:Fs):List Nat:=(List.range b.length).filter (gO b fs)
noncomputable def cO (fs:Fs) (is:List Nat) (L:Int):Fs:=is.foldl (λacc i=>acc.set i (some L)) fs
noncomputable def run (b:List Pl):Nat->Fs->Int->Fs
 | 0,fs,_=>fs
 | m+1,fs,L=>if fresh b fs=[] then fs else run b m (cO fs (fresh b fs) L) (L+1)
noncomputable def Jg:Pl->Option Int
 | .fin _=>some 0
 | _=>none
noncomputable def pG (b:List Pl):Fs:=b.map Jg
noncomputable def ub (b:List Pl):Fs:=run b b.length (pG b) 1
noncomputable def eA (fs:Fs):Nat:=fs.countP (·.isNone)
theorem m4 (fs:Fs):∀(is:List Nat) (L:Int),(cO fs is L).length=fs.length
 | is,L=>by
  induction is generalizing fs with
  | nil=>rfl
  | cons i is ih=>
   show(cO (fs.set i (some L)) is L).length=_
   rw[ih,aaK]
theorem xl (L:Int):∀(is:List Nat) (fs:Fs) (k:Nat),(cO fs is L)[k]?=if k∈is/\k<fs.length then some (some L) else fs[k]?
 | [],fs,k=>by simp [cO]
 | i::is,fs,k=>by
  show(cO (fs.set i (some L)) is L)[k]?=_
  rw[xl L is,aaK]
  by_cases h:k<fs.length
  ·by_cases h1:k∈is
   ·rw[if_pos ⟨h1,h⟩,if_pos ⟨aaj _ h1,h⟩]
   ·rw[if_neg (λz=>h1 z.1)]
    by_cases h2:k=i
    ·subst h2
     rw[if_pos ⟨aai,h⟩,aaU h]
    ·rw[if_neg (λz=>(List.mem_cons.mp z.1).elim h2 h1),aaL (Ne.symm h2)]
  ·rw[if_neg (λz=>h z.2),if_neg (λz=>h z.2),aar (by rw[aaK];omega),aar (by omega)]
theorem cZ (x:Option Int) (fs:Fs):eA (x::fs)=eA fs+if x.isNone then 1 else 0:=by
 unfold eA
 rw[List.countP_cons]
theorem qy (L:Int):∀(fs:Fs) (i:Nat),eA (fs.set i (some L))<=eA fs
 | [],i=>by simp
 | x::fs,0=>by
  rw[abf,cZ,cZ]
  simp
 | x::fs,i+1=>by
  rw[abg,cZ,cZ]
  have:=qy L fs i
  omega
theorem uc (L:Int):∀(fs:Fs) (i:Nat),fs[i]?=some none->eA (fs.set i (some L))<eA fs
 | [],i,h=>by simp at h
 | x::fs,0,h=>by
  simp at h
  subst h
  rw[abf,cZ,cZ]
  simp
 | x::fs,i+1,h=>by
  rw[abg,cZ,cZ]
  have:=uc L fs i (by simpa using h)
  omega
theorem qz (L:Int):∀(is:List Nat) (fs:Fs),eA (cO fs is L)<=eA fs
 | [],fs=>aah _
 | i::is,fs=>aap (qz L is (fs.set i (some L))) (qy L fs i)
theorem rH (L:Int) {is:List Nat} {fs:Fs} (h:is≠[]) (k:∀i∈is,fs[i]?=some none):eA (cO fs is L)<eA fs:=by
 cases is with
 | nil=>exact absurd rfl h
 | cons i is=>exact abd (qz L is _) (uc L fs i (k i aai))
theorem iG {b:List Pl} {fs:Fs} {i:Nat}:i∈fresh b fs↔i<b.length/\gO b fs i=true:=by
 unfold fresh
 rw[List.mem_filter,List.mem_range]
theorem oz {b:List Pl} {fs:Fs} (hl:fs.length=b.length) {i:Nat} (h:i∈fresh b fs):fs[i]?=some none:=by
 obtain⟨h1,h2⟩:=iG.mp h
 unfold gO at h2
 rw[aa4] at h2
 have e:fs[i]?=some fs[i]:=aad (by omega)
 rw[aae,e] at h2
 rw[e]
 cases h:fs[i] with
 | none=>rfl
 | some v=>rw[h] at h2;simp at h2
noncomputable def At (fs:Fs) (L:Int) (i:Nat):Pl->Prop
 | .fin _=>fs[i]?=some (some 0)
 | .dA _ ws=>(fs[i]?=some none/\∀g∈ws.map (·.2),∀u,lk fs g=some u->u=L - 1)\/
   ∃v,fs[i]?=some (some v)/\1<=v/\(∃g∈ws.map (·.2),lk fs g=some (v - 1))/\∀g∈ws.map (·.2),∀u,lk fs g=some u->v - 1<=u
 | .cD _ to=>(fs[i]?=some none/\((∀g∈to,(lk fs g).isSome=true)->∃g∈to,lk fs g=some (L - 1)))\/
   ∃v,fs[i]?=some (some v)/\1<=v/\(∀g∈to,∃u,lk fs g=some u/\u<=v - 1)/\∃g∈to,lk fs g=some (v - 1)
structure Good (b:List Pl):Prop where
 lP:∀q∈b,∀g∈gc q,0<=g/\g<b.length
 cD:∀q∈b,∀w to,q=.cD w to->to≠[]
structure Inv (b:List Pl) (fs:Fs) (L:Int):Prop where
 len:fs.length=b.length
 lt:∀(i:Nat) (v:Int),fs[i]?=some (some v)->0<=v/\v<L
 at_:∀(i:Nat) q,b[i]?=some q->At fs L i q
theorem Ax {b:List Pl} (g:Good b):Inv b (pG b) 1:=by
 have h0:∀(i:Nat) (v:Int),(pG b)[i]?=some (some v)->v=0:=λi v e=>by
  unfold pG at e
  rw[aaf] at e
  obtain⟨q,_,e⟩:=Option.map_eq_some_iff.mp e
  cases q <;>simp [Jg] at e
  exact e.symm
 have hk:∀(g u:Int),lk (pG b) g=some u->u=0:=λg u e=>by
  unfold lk at e
  rw[aae] at e
  cases h:(pG b)[g.toNat]? with
  | none=>rw[h] at e;simp at e
  | some o=>rw[h] at e;simp at e;subst e;exact h0 _ _ h
 refine⟨by simp [pG],λi v e=>by have:=h0 i v e;omega,λi q e=>?_⟩
 have e2:(pG b)[i]?=some (Jg q):=by unfold pG;rw[aaf,e];rfl
 cases q with
 | fin w=>exact e2
 | dA w ws=>exact .inl ⟨e2,λg _ u h=>hk g u h⟩
 | cD w to=>
  refine .inl ⟨e2,λh=>?_⟩
  cases to with
  | nil=>exact absurd rfl (g.cD _ (aag e) _ _ rfl)
  | cons x r=>
   refine⟨x,aai,?_⟩
   have:=h x aai
   obtain⟨u,hu⟩:=Option.isSome_iff_exists.mp this
   have:=hk x u hu
   rw[hu,this]
   rfl
theorem qA {fs:Fs} {g:Int} {u:Int}:lk fs g=some u↔fs[g.toNat]?=some (some u):=by
 unfold lk
 rw[aae]
 cases h:fs[g.toNat]? with
 | none=>simp
 | some o=>simp
theorem step {b:List Pl} (gb:Good b) {fs:Fs} {L:Int} (I:Inv b fs L) (L1:1<=L):Inv b (cO fs (fresh b fs) L) (L+1):=by
 have hl:=I.len
 have get:∀(k:Nat),(cO fs (fresh b fs) L)[k]?=if k∈fresh b fs/\k<fs.length then some (some L) else fs[k]?:=xl L _ _
 have old:∀(k:Nat) (v:Int),fs[k]?=some (some v)->(cO fs (fresh b fs) L)[k]?=some (some v):=λk v e=>by
  rw[get,if_neg,e]
  intro z
  rw[oz hl z.1] at e
  cases e
 have yM:∀(g u:Int),lk fs g=some u->lk (cO fs (fresh b fs) L) g=some u:=λg u h=>qA.mpr (old _ _ (qA.mp h))
 have vL:∀(g u:Int),lk (cO fs (fresh b fs) L) g=some u->lk fs g=some u\/u=L:=λg u h=>by
  have h:=qA.mp h
  rw[get] at h
  split at h
  ·right;simpa using h.symm
  ·exact .inl (qA.mpr h)
 refine⟨by rw[m4];exact hl,λi v e=>?_,λi q e=>?_⟩
 ·rw[get] at e
  split at e
  ·simp at e;omega
  ·have:=I.lt i v e;omega
 ·have hi:i<b.length:=(List.getElem?_eq_some_iff.mp e).1
  have A:=I.at_ i q e
  have rd:∀(q:Pl),b[i]?=some q->fs[i]?=some none->(i∈fresh b fs↔EC fs q=true):=λq e e2=>by
   rw[iG]
   unfold gO
   rw[aae,e2,e]
   simp [hi]
  cases q with
  | fin w=>exact old _ _ A
  | dA w ws=>
   rcases A with ⟨a1,a2⟩ | ⟨v,a1,a2,⟨x,hx,a3⟩,a4⟩
   ·by_cases c:i∈fresh b fs
    ·right
     refine⟨L,by rw[get,if_pos ⟨c,by omega⟩],L1,?_,λg hg u h=>?_⟩
     ·have:=(rd _ e a1).mp c
      have:(ws.map (·.2)).any (λg=>(lk fs g).isSome)=true:=this
      obtain⟨x,hx,h⟩:=List.any_eq_true.mp this
      obtain⟨u,hu⟩:=Option.isSome_iff_exists.mp h
      have:=a2 x hx u hu
      subst this
      exact⟨x,hx,yM _ _ hu⟩
     ·rcases vL _ _ h with h | h
      ·have:=a2 g hg u h;omega
      ·omega
    ·left
     refine⟨by rw[get,if_neg (λz=>c z.1)];exact a1,λg hg u h=>?_⟩
     rcases vL _ _ h with h | h
     ·exfalso
      refine c ((rd _ e a1).mpr ?_)
      show(ws.map (·.2)).any (λg=>(lk fs g).isSome)=true
      exact List.any_eq_true.mpr ⟨g,hg,by rw[h];rfl⟩
     ·omega
   ·right
    refine⟨v,old _ _ a1,a2,⟨x,hx,yM _ _ a3⟩,λg hg u h=>?_⟩
    rcases vL _ _ h with h | h
    ·exact a4 g hg u h
    ·have:=I.lt i v a1;omega
  | cD w to=>
   rcases A with ⟨a1,a2⟩ | ⟨v,a1,a2,a3,x,hx,a4⟩
   ·by_cases c:i∈fresh b fs
    ·right
     have r:=(rd _ e a1).mp c
     have r:to.all (λg=>(lk fs g).isSome)=true:=r
     have r:=List.all_eq_true.mp r
     obtain⟨x,hx,h⟩:=a2 r
     refine⟨L,by rw[get,if_pos ⟨c,by omega⟩],L1,λg hg=>?_,x,hx,yM _ _ h⟩
     obtain⟨u,hu⟩:=Option.isSome_iff_exists.mp (r g hg)
     exact⟨u,yM _ _ hu,by have:=I.lt _ _ (qA.mp hu);omega⟩
    ·left
     refine⟨by rw[get,if_neg (λz=>c z.1)];exact a1,λh=>?_⟩
     have:¬∀g∈to,(lk fs g).isSome=true:=λz=>c ((rd _ e a1).mpr (show to.all (λg=>(lk fs g).isSome)=true from List.all_eq_true.mpr z))
     have:∃g∈to,lk fs g=none:=by
      apply Classical.byContradiction
      intro n
      apply this
      intro g hg
      cases h:lk fs g with
      | none=>exact absurd ⟨g,hg,h⟩ n
      | some u=>rfl
     obtain⟨g,hg,hn⟩:=this
     obtain⟨u,hu⟩:=Option.isSome_iff_exists.mp (h g hg)
     refine⟨g,hg,?_⟩
     rcases vL _ _ hu with h | h
     ·rw[hn] at h;cases h
     ·rw[hu,h];congr 1;omega
   ·right
    refine⟨v,old _ _ a1,a2,λg hg=>?_,x,hx,yM _ _ a4⟩
    obtain⟨u,h1,h2⟩:=a3 g hg
    exact⟨u,yM _ _ h1,h2⟩
noncomputable def Ends (fs:Fs) (i:Nat):Pl->Prop
 | .fin _=>fs[i]?=some (some 0)
 | .dA _ ws=>(fs[i]?=some none/\∀g∈ws.map (·.2),lk fs g=none)\/
   ∃v,fs[i]?=some (some v)/\1<=v/\(∃g∈ws.map (·.2),lk fs g=some (v - 1))/\∀g∈ws.map (·.2),∀u,lk fs g=some u->v - 1<=u
 | .cD _ to=>(fs[i]?=some none/\∃g∈to,lk fs g=none)\/
   ∃v,fs[i]?=some (some v)/\1<=v/\(∀g∈to,∃u,lk fs g=some u/\u<=v - 1)/\∃g∈to,lk fs g=some (v - 1)
theorem Dh {b:List Pl} {fs:Fs} {L:Int} (I:Inv b fs L) (h:fresh b fs=[]) (i:Nat) (q:Pl) (e:b[i]?=some q):Ends fs i q:=by
 have hi:i<b.length:=(List.getElem?_eq_some_iff.mp e).1
 have nr:fs[i]?=some none->EC fs q=false:=λe2=>by
  have:i∉fresh b fs:=by rw[h];simp
  rw[iG] at this
  cases hr:EC fs q with
  | false=>rfl
  | true=>
   exfalso
   apply this
   refine⟨hi,?_⟩
   unfold gO
   rw[aae,e2,e]
   simp [hr]
 have A:=I.at_ i q e
 cases q with
 | fin w=>exact A
 | dA w ws=>
  rcases A with ⟨a1,a2⟩ | A
  ·refine .inl ⟨a1,λg hg=>?_⟩
   have:=nr a1
   have:(ws.map (·.2)).any (λg=>(lk fs g).isSome)=false:=this
   have:=List.any_eq_false.mp this g hg
   simpa using this
  ·exact .inr A
 | cD w to=>
  rcases A with ⟨a1,a2⟩ | A
  ·refine .inl ⟨a1,?_⟩
   have:=nr a1
   have:to.all (λg=>(lk fs g).isSome)=false:=this
   obtain⟨g,hg,n⟩:=List.all_eq_false.mp this
   exact⟨g,hg,by simpa using n⟩
  ·exact .inr A
theorem kF {b:List Pl} {fs:Fs} (hl:fs.length=b.length) (h:fresh b fs≠[]) (L:Int):eA (cO fs (fresh b fs) L)<eA fs:=rH L h λ_ hi=>oz hl hi
theorem rJ {b:List Pl} (gb:Good b):∀(m:Nat) (fs:Fs) (L:Int),Inv b fs L->1<=L->eA fs<=m->∃L',L'<=L+m/\Inv b (run b m fs L) L'/\fresh b (run b m fs L)=[]
 | 0,fs,L,I,L1,h=>by
  refine⟨L,by omega,I,?_⟩
  show fresh b fs=[]
  apply Classical.byContradiction
  intro n
  have:=kF I.len n L
  omega
 | m+1,fs,L,I,L1,h=>by
  show ∃L',L'<=L+ (m+1:Nat)/\Inv b (if fresh b fs=[] then fs else run b m (cO fs (fresh b fs) L) (L+1)) L'/\fresh b (if fresh b fs=[] then fs else run b m (cO fs (fresh b fs) L) (L+1))=[]
  by_cases c:fresh b fs=[]
  ·rw[if_pos c]
   exact⟨L,by omega,I,c⟩
  ·rw[if_neg c]
   have:=kF I.len c L
   obtain⟨L',h1,h2⟩:=rJ gb m _ _ (step gb I L1) (by omega) (by omega)
   exact⟨L',by omega,h2⟩
theorem oA (fs:Fs):eA fs<=fs.length:=List.countP_le_length
theorem Di {b:List Pl} (gb:Good b):(ub b).length=b.length:=by
 obtain⟨L,_,I,_⟩:=rJ gb b.length _ _ (Ax gb) (by decide) (by have:=oA (pG b);simpa [pG] using this)
 exact I.len
theorem Ay {b:List Pl} (gb:Good b) (i:Nat) (q:Pl) (e:b[i]?=some q):Ends (ub b) i q:=by
 obtain⟨L,_,I,f⟩:=rJ gb b.length _ _ (Ax gb) (by decide) (by have:=oA (pG b);simpa [pG] using this)
 exact Dh I f i q e
end Lv
namespace Bf
open L2 Lv
abbrev En:=Int×Option (Int×Nat)×List Nat
noncomputable def keys (es:List En):List Int:=es.map (·.1)
noncomputable def fF (b:List Pl) (k:Int):List Int:=match b[k.toNat]? with | some q=>gc q | none=>[]
noncomputable def gF (here:Int) (path:List Nat):Nat->List Int->List En->List En
 | _,[],es=>es
 | w,g::gs,es=>gF here path (w+1) gs (if g∈keys es then es else es++ [(g,some (here,w),path++ [w])])
noncomputable def Cp (b:List Pl):Nat->Nat->List En->List En
 | 0,_,es=>es
 | m+1,t,es=>match es[t]? with | none=>es | some e=>Cp b m (t+1) (gF e.1 e.2.2 0 (fF b e.1) es)
noncomputable def steps (b:List Pl) (start:Int):List En:=Cp b (b.length+1) 0 [(start,none,[])]
structure Core (b:List Pl) (start:Int) (es:List En):Prop where
 nd:(keys es).Nodup
 lP:∀e∈es,0<=e.1/\e.1<b.length
 hd:es[0]?=some (start,none,[])
 par:∀(i:Nat) e,es[i]?=some e->0<i->∃(j:Nat) (ej:En) (w:Nat),j<i/\es[j]?=some ej/\e.2.1=some (ej.1,w)/\(fF b ej.1)[w]?=some e.1/\e.2.2=ej.2.2++ [w]
 mono:∀(i j:Nat) ei ej,i<=j->es[i]?=some ei->es[j]?=some ej->ei.2.2.length<=ej.2.2.length
structure HS (b:List Pl) (start:Int) (t:Nat) (e:En) (k:Nat) (es:List En):Prop extends Core b start es where
 at_:es[t]?=some e
 top:∀(i:Nat) ei,es[i]?=some ei->ei.2.2.length<=e.2.2.length+1
 old:∀(j:Nat) ej,j<t->es[j]?=some ej->∀g∈fF b ej.1,∃(i:Nat) (ei:En),es[i]?=some ei/\ei.1=g/\ei.2.2.length<=ej.2.2.length+1
 now:∀g∈(fF b e.1).take k,∃(i:Nat) (ei:En),es[i]?=some ei/\ei.1=g/\ei.2.2.length<=e.2.2.length+1
structure Inv (b:List Pl) (start:Int) (t:Nat) (es:List En):Prop extends Core b start es where
 top:∀(i:Nat) ei et,es[i]?=some ei->es[t]?=some et->ei.2.2.length<=et.2.2.length+1
 old:∀(j:Nat) ej,j<t->es[j]?=some ej->∀g∈fF b ej.1,∃(i:Nat) (ei:En),es[i]?=some ei/\ei.1=g/\ei.2.2.length<=ej.2.2.length+1
theorem eU {α:Type} {l:List α} {x y:α} {i:Nat} (h:(l++ [x])[i]?=some y):l[i]?=some y\/(i=l.length/\y=x):=by
 by_cases c:i<l.length
 ·rw[aa1 c] at h
  exact .inl h
 ·rw[aa0 (by omega)] at h
  have:i - l.length=0:=by
   by_cases q:i - l.length=0
   ·exact q
   ·rw[aar (by simp;omega)] at h;cases h
  rw[this] at h
  simp at h
  exact .inr ⟨by omega,h.symm⟩
theorem up {α:Type} {l:List α} {x y:α} {i:Nat} (h:l[i]?=some y):(l++ [x])[i]?=some y:=by
 rw[aa1 (List.getElem?_eq_some_iff.mp h).1]
 exact h
theorem one {b:List Pl} (gb:Good b) {start:Int} {t:Nat} {e:En} {k:Nat} {es:List En} {g:Int} (M:HS b start t e k es) (hg:(fF b e.1)[k]?=some g):
  HS b start t e (k+1) (if g∈keys es then es else es++ [(g,some (e.1,k),e.2.2++ [k])]):=by
 have tk:(fF b e.1).take (k+1)=(fF b e.1).take k++ [g]:=by rw[aaF,hg];rfl
 by_cases c:g∈keys es
 ·rw[if_pos c]
  refine {M with now:=λx hx=>?_}
  rw[tk] at hx
  rcases List.mem_append.mp hx with hx | hx
  ·exact M.now x hx
  ·have:x=g:=by simpa using hx
   subst this
   obtain⟨ei,LR,rfl⟩:=List.mem_map.mp c
   obtain⟨i,hi⟩:=aax LR
   exact⟨i,ei,hi,rfl,M.top i ei hi⟩
 ·rw[if_neg c]
  have rg:0<=g/\g<b.length:=by
   unfold fF at hg
   cases hb:b[e.1.toNat]? with
   | none=>rw[hb] at hg;simp at hg
   | some q=>
    rw[hb] at hg
    exact gb.lP q (aag hb) g (aag hg)
  have tl:t<es.length:=(List.getElem?_eq_some_iff.mp M.at_).1
  refine⟨⟨?_,λx hx=>?_,up M.hd,λi x hx i0=>?_,λi j ei ej MJ hi hj=>?_⟩,up M.at_,λi ei hi=>?_,λj ej hj FY x hx=>?_,λx hx=>?_⟩
  ·unfold keys at *
   rw[aaB]
   refine List.nodup_append.mpr ⟨M.nd,by simp,λa ha b' Yn=>?_⟩
   have:b'=g:=by simpa using Yn
   subst this
   intro z
   exact c (z▸ha)
  ·rcases List.mem_append.mp hx with hx | hx
   ·exact M.lP x hx
   ·have:x=(g,some (e.1,k),e.2.2++ [k]):=by simpa using hx
    subst this
    exact rg
  ·rcases eU hx with hx | ⟨rfl,rfl⟩
   ·obtain⟨j,ej,w,a1,a2,a3⟩:=M.par i x hx i0
    exact⟨j,ej,w,a1,up a2,a3⟩
   ·exact⟨t,e,k,tl,up M.at_,rfl,hg,rfl⟩
  ·rcases eU hi with hi | ⟨rfl,rfl⟩
   ·rcases eU hj with hj | ⟨rfl,rfl⟩
    ·exact M.mono i j ei ej MJ hi hj
    ·have:=M.top i ei hi
     simpa using this
   ·rcases eU hj with hj | ⟨rfl,rfl⟩
    ·have:=(List.getElem?_eq_some_iff.mp hj).1
     omega
    ·exact aah _
  ·rcases eU hi with hi | ⟨rfl,rfl⟩
   ·exact M.top i ei hi
   ·simp
  ·rcases eU FY with FY | ⟨rfl,rfl⟩
   ·obtain⟨i,ei,a1,a2⟩:=M.old j ej hj FY x hx
    exact⟨i,ei,up a1,a2⟩
   ·omega
  ·rw[tk] at hx
   rcases List.mem_append.mp hx with hx | hx
   ·obtain⟨i,ei,a1,a2⟩:=M.now x hx
    exact⟨i,ei,up a1,a2⟩
   ·have:x=g:=by simpa using hx
    subst this
    exact⟨es.length,(x,some (e.1,k),e.2.2++ [k]),by rw[aa0 (aah _)];simp,rfl,by simp⟩
theorem oB {b:List Pl} (gb:Good b) {start:Int} {t:Nat} {e:En}:∀(gs:List Int) (k:Nat) (es:List En),HS b start t e k es->(∀(i:Nat) g,gs[i]?=some g->(fF b e.1)[k+i]?=some g)->HS b start t e (k+gs.length) (gF e.1 e.2.2 k gs es)
 | [],k,es,M,_=>M
 | g::gs,k,es,M,h=>by
  have:=oB gb gs (k+1) _ (one gb M (h 0 g rfl)) λi x hx=>by
   have:=h (i+1) x (by simpa using hx)
   rwa [show k+1+i=k+ (i+1) by omega]
  rw[aaq,show k+ (gs.length+1)=k+1+gs.length by omega]
  exact this
theorem Az {b:List Pl} {start:Int} {t:Nat} {e:En} {es:List En} (I:Inv b start t es) (h:es[t]?=some e):HS b start t e 0 es:=
 {I with at_:=h,top:=λi ei hi=>I.top i ei e hi h,now:=λg hg=>by simp at hg}
theorem FZ {b:List Pl} {start:Int} {t:Nat} {e:En} {es:List En} (M:HS b start t e (fF b e.1).length es):Inv b start (t+1) es:=by
 refine {M with top:=λi ei et hi ht=>?_,old:=λj ej hj FY g hg=>?_}
 ·have h1:=M.top i ei hi
  have h2:=M.mono t (t+1) e et (by omega) M.at_ ht
  omega
 ·by_cases c:j<t
  ·exact M.old j ej c FY g hg
  ·have:j=t:=by omega
   subst this
   rw[M.at_] at FY
   cases FY
   exact M.now g (by rw[aaH (aah _)];exact hg)
theorem turn {b:List Pl} (gb:Good b) {start:Int} {t:Nat} {e:En} {es:List En} (I:Inv b start t es) (h:es[t]?=some e):Inv b start (t+1) (gF e.1 e.2.2 0 (fF b e.1) es):=by
 have:=oB gb (fF b e.1) 0 es (Az I h) λi g hg=>by rw[aaV];exact hg
 rw[aaV] at this
 exact FZ this
theorem Ax {b:List Pl} {start:Int} (h0:0<=start) (h1:start<b.length):Inv b start 0 [(start,none,[])]:=by
 refine⟨⟨by simp [keys],λe he=>?_,rfl,λi e he hi=>?_,λi j ei ej _ hi hj=>?_⟩,λi ei et hi ht=>?_,λj ej hj=>by omega⟩
 ·have:e=(start,none,[]):=by simpa using he
  subst this
  exact⟨h0,h1⟩
 ·rw[aar (by simp;omega)] at he
  cases he
 ·cases i with
  | zero=>simp at hi;subst hi;simp
  | succ i=>rw[aar (by simp)] at hi;cases hi
 ·cases i with
  | zero=>simp at hi;subst hi;simp
  | succ i=>rw[aar (by simp)] at hi;cases hi
theorem xm:∀(n:Nat) (l:List Nat),l.Nodup->(∀x∈l,x<n)->l.length<=n
 | 0,l,_,h=>by
  cases l with
  | nil=>exact aah _
  | cons x r=>have:=h x aai;omega
 | n+1,l,nd,h=>by
  have:=xm n (l.erase n) (nd.erase n) λx hx=>by
   have h1:=(nd.mem_erase_iff).mp hx
   have:=h x h1.2
   have:=h1.1
   omega
  have:=List.length_erase (a:=n) (l:=l)
  split at this <;>omega
theorem F0 {n:Nat} {l:List Int} (nd:l.Nodup) (h:∀x∈l,0<=x/\x< (n:Int)):l.length<=n:=by
 have:=xm n (l.map Int.toNat) (by
  unfold List.Nodup at *
  rw[List.pairwise_map]
  refine nd.imp_of_mem ?_
  intro a b ha hb VX z
  have:=h a ha
  have:=h b hb
  omega) λx hx=>by
   obtain⟨y,hy,rfl⟩:=List.mem_map.mp hx
   have:=h y hy
   omega
 rwa [aac] at this
theorem Core.tX {b:List Pl} {start:Int} {es:List En} (C:Core b start es):es.length<=b.length:=by
 have:=F0 (n:=b.length) C.nd λx hx=>by
  obtain⟨e,he,rfl⟩:=List.mem_map.mp hx
  exact C.lP e he
 unfold keys at this
 rwa [aac] at this
theorem xn {b:List Pl} (gb:Good b) {start:Int}:∀(m t:Nat) (es:List En),Inv b start t es->b.length<m+t->∃t',es.length<=(Cp b m t es).length/\(Cp b m t es).length<=t'/\Inv b start t' (Cp b m t es)
 | 0,t,es,I,h=>⟨t,aah _,by have:=I.toCore.tX;show es.length<=t;omega,I⟩
 | m+1,t,es,I,h=>by
  unfold Cp
  cases ht:es[t]? with
  | none=>exact⟨t,aah _,List.getElem?_eq_none_iff.mp ht,I⟩
  | some e=>
   obtain⟨t',a1,a2,a3⟩:=xn gb m (t+1) _ (turn gb I ht) (by omega)
   refine⟨t',aap ?_ a1,a2,a3⟩
   have:∀(gs:List Int) (k:Nat) (es:List En),es.length<=(gF e.1 e.2.2 k gs es).length:=by
    intro gs
    induction gs with
    | nil=>intro k es;exact aah _
    | cons g gs ih=>
     intro k es
     unfold gF
     refine aap ?_ (ih (k+1) _)
     split
     ·exact aah _
     ·simp
   exact this _ _ _
theorem fN {b:List Pl} (gb:Good b) {start:Int} (h0:0<=start) (h1:start<b.length):Core b start (steps b start)/\
  ∀(j:Nat) ej,(steps b start)[j]?=some ej->∀g∈fF b ej.1,∃(i:Nat) (ei:En),(steps b start)[i]?=some ei/\ei.1=g/\ei.2.2.length<=ej.2.2.length+1:=by
 obtain⟨t,_,a2,I⟩:=xn gb (b.length+1) 0 _ (Ax (b:=b) h0 h1) (by omega)
 refine⟨I.toCore,λj ej hj=>I.old j ej ?_ hj⟩
 have:=(List.getElem?_eq_some_iff.mp hj).1
 show j<t
 unfold steps at *
 omega
noncomputable def go (b:List Pl):Int->List Nat->Option Int
 | k,[]=>some k
 | k,w::ws=>match (fF b k)[w]? with | some g=>go b g ws | none=>none
theorem xp {b:List Pl}:∀{ws:List Nat} {k g:Int} {w:Nat},go b k (ws++ [w])=(match go b k ws with | some x=>(fF b x)[w]? | none=>none)
 | [],k,g,w=>by
  show(match (fF b k)[w]? with | some g=>go b g [] | none=>none)=(fF b k)[w]?
  cases (fF b k)[w]? <;>rfl
 | v::ws,k,g,w=>by
  show(match (fF b k)[v]? with | some g=>go b g (ws++ [w]) | none=>none)=(match (match (fF b k)[v]? with | some g=>go b g ws | none=>none) with | some x=>(fF b x)[w]? | none=>none)
  cases (fF b k)[v]? with
  | none=>rfl
  | some x=>exact xp (g:=g)
theorem Dj {b:List Pl} {start:Int} {es:List En} (C:Core b start es):∀(i:Nat) (e:En),es[i]?=some e->go b start e.2.2=some e.1:=by
 intro i
 induction i using Nat.strongRecOn with
 | ind i ih=>
  intro e he
  by_cases c:i=0
  ·subst c
   rw[C.hd] at he
   cases he
   rfl
  ·obtain⟨j,ej,w,a1,a2,a3,a4,a5⟩:=C.par i e he (by omega)
   rw[a5,xp (g:=e.1),ih j a1 ej a2]
   exact a4
end Bf
namespace PySem
section
variable {prog : Program} {w : World} {A : Around} {E : Value -> Shared -> Prop} {s : Shared}
end
end PySem
namespace L2
open PySem PySem.Spec PyProof.Rows PySem.W
section
variable {X : Cx} {K : PySem.W.Frag}
noncomputable def tRev (K:PySem.W.Frag) (te:TE):TE:=λσ H Q=>te σ H λv H1=>∃p xs,v=.ref p/\bo K H1 p xs/\∀l,H1 l=none->Q (.ref l) (upd H1 l (.lst xs.reverse))
noncomputable def tD1 (tk tv:TE):TE:=λσ H Q=>∀d,H d=none->tk σ (upd H d (.dK [])) λx H1=>tv σ H1 λv H2=>∃k,x=kV k/\H2 d=some (.dK [])/\Q (.ref d) (upd H2 d (.dK [(k,v)]))
theorem Jh {ke ve:Expr} {tk tv:TE} {pos:Pos} (hk:PE X ke tk) (hv:PE X ve tv):PE X (.Dict [some ke] [ve] pos) (tD1 tk tv):=by
 intro pins s σ H Q I h
 refine wpAny_Dict_pairs (knd:=cq X.prog X.w) (pairs:=[(eval ke X.env,do let x <-eval ve X.env;standAt pos;pure x)]) rfl (by simp) (by simp) ?_
 have fr:=I.bT.fresh (a:=s.heap.objs.size) (aah _)
 have I1:Inv X pins σ (upd H s.heap.objs.size (.dK [])) {s with heap:=s.heap.push {cls:=.type "dict",data:=.dict #[]}}:=I.laid (t':=s.toks) (λ_ _ q=>Heap.get?_push_of_some _ q) (aah _) (tW s.heap I.CT)
 unfold evalPairs
 refine wpAny_bind (cB (hk pins _ σ _ _ I1 (h _ fr)) λku s1 cU=>?_)
 obtain⟨x,H1,I2,rx,q1⟩:=cU
 refine wpAny_bind (wpAny_holding (wpAny_bind (cB (hv pins _ σ _ _ I2 q1) λvu s2 ⟨v,H2,I3,rv,k,ex,hd,q⟩=>wpAny_bind (wpAny_standAt (wpAny_pure ?_)))))
 subst ex
 obtain⟨z,lo,vs,kv,dd⟩:=Eu I3.bT hd
 cases kv
 unfold evalPairs
 refine wpAny_bind (wpAny_holding (wpAny_pure (wpAny_pure ⟨[(k,vu)],⟨lh rx,rfl,trivial⟩,dd,λh' CV hs=>?_⟩)))
 have CV:h'.DictOf (cq X.prog X.w) s.heap.objs.size [(k,vu)]:=CV
 have he:∃q,h'.get? s.heap.objs.size=some q:=let ⟨q,_,_,hq,_⟩:=CV;⟨q,hq⟩
 exact⟨.ref s.heap.objs.size,_,q9 I3 (by rw[hd];exact True.intro) hs he (zU (kvs:=[(k,v)]) (by rw[sizeLine_eq];simp) lo (.cons ⟨rfl,rv⟩ .nil) CV),rfl,q⟩
end
end L2
namespace KS
open PySem PySem.W PyProof.Rows
noncomputable def Bd {α:Type} (lt:Nat->Nat->Bool) (n:Nat) (post:α->Prop):KasT α->Prop
 | .ret a=>post a
 | .ask i j k=>i<n/\j<n/\Bd lt n post (k (lt i j))
theorem Bd.bind {α β:Type} {lt:Nat->Nat->Bool} {n:Nat} {post:β->Prop} {f:α->KasT β}:∀{t:KasT α},Bd lt n (λa=>Bd lt n post (f a)) t->Bd lt n post (t.bind f)
 | .ret _,h=>h
 | .ask _ _ _,⟨h1,h2,h3⟩=>⟨h1,h2,Bd.bind h3⟩
theorem Bd.mono {α:Type} {lt:Nat->Nat->Bool} {n:Nat} {p q:α->Prop} (VY:∀a,p a->q a):∀{t:KasT α},Bd lt n p t->Bd lt n q t
 | .ret _,h=>VY _ h
 | .ask _ _ _,⟨h1,h2,h3⟩=>⟨h1,h2,Bd.mono VY h3⟩
theorem Bd.wp {α:Type} {lt:Nat->Nat->Bool} {n:Nat} {post:α->Prop} {cmp:Nat->Nat->(Bool->Shared->Prop)->Shared->Prop} {Q:α->Shared->Prop} {s:Shared}
  (hc:∀i j C,i<n->j<n->C (lt i j) s->cmp i j C s) (hq:∀a,post a->Q a s):∀{t:KasT α},Bd lt n post t->t.kasWp cmp Q s
 | .ret _,h=>hq _ h
 | .ask i j k,⟨h1,h2,h3⟩=>hc i j _ h1 h2 (Bd.wp hc hq h3)
noncomputable def Pm (n:Nat) (p:Array Nat):Prop:=p.Perm (List.range n).toArray
theorem Pm.lt {n:Nat} {p:Array Nat} (h:Pm n p) (hn:0<n) (i:Nat):p.getD i 0<n:=by
 by_cases hi:i<p.size
 ·have:p.getD i 0=p[i]:=by simp [Array.getD,hi]
  rw[this]
  have hm:p[i]∈p:=Array.getElem_mem hi
  have:=(Array.Perm.mem_iff h).mp hm
  simpa using this
 ·have:p.getD i 0=0:=by simp [Array.getD,hi]
  omega
theorem Pm.rev {n:Nat} {p:Array Nat} (h:Pm n p) (i j:Nat):Pm n (kas_rev p i j):=(mirror_perm _ _ _ _).trans h
theorem Pm.Yo {n:Nat} {p:Array Nat} (h:Pm n p) (i j:Nat):Pm n (bubble p i j):=(bubble_perm _ _ _).trans h
variable {lt : Nat -> Nat -> Bool} {n : Nat}
theorem vW {p:Array Nat} (h:Pm n p) (hn:0<n):∀f k,Bd lt n (λ_=>True) (kas_asc p f k)
 | 0,_=>trivial
 | f+1,k=>by
  refine⟨h.lt hn _,h.lt hn _,?_⟩
  dsimp only
  split
  ·trivial
  ·exact vW h hn f (k+1)
theorem m6 (hn:0<n):∀f (p:Array Nat) k q,Pm n p->Bd lt n (λr=>Pm n r.1) (kas_desc f p k q)
 | 0,p,k,q,h=>h
 | f+1,p,k,q,h=>by
  refine⟨h.lt hn _,h.lt hn _,?_⟩
  dsimp only
  split
  ·split
   ·exact m6 hn f _ _ _ (h.rev _ _)
   ·exact m6 hn f _ _ _ h
  ·refine⟨h.lt hn _,h.lt hn _,?_⟩
   dsimp only
   split
   ·exact h
   ·exact m6 hn f _ _ _ h
theorem ue (hn:0<n) {p:Array Nat} (h:Pm n p) (m r:Nat):Bd lt n (λr=>Pm n r.2) (kas_tail3 m r p):=
 Bd.bind ((vW (h.rev _ _) hn _ _).mono λ_ _=>h.rev _ _)
theorem lC (hn:0<n) {p:Array Nat} (h:Pm n p) (m r:Nat):Bd lt n (λr=>Pm n r.2) (kas_descPart m r p):=by
 refine Bd.bind ((m6 hn _ _ _ _ h).mono λx hx=>?_)
 split
 ·exact ue hn (hx.rev _ _) _ _
 ·exact ue hn hx _ _
theorem AA (hn:0<n) {p:Array Nat} (h:Pm n p) (r:Nat):Bd lt n (λr=>Pm n r.2) (kas_count r p):=by
 refine Bd.bind ((vW h hn _ _).mono λm _=>?_)
 split
 ·exact h
 ·split
  ·refine⟨h.lt hn _,h.lt hn _,?_⟩
   dsimp only
   split
   ·exact h
   ·exact lC hn (h.rev _ _) _ _
  ·exact lC hn h _ _
theorem oC (hn:0<n) {p:Array Nat} (h:Pm n p) (k:Nat):∀f l r,Bd lt n (λ_=>True) (kas_place p k f l r)
 | 0,_,_=>trivial
 | f+1,l,r=>by
  unfold kas_place
  split
  ·trivial
  ·refine⟨h.lt hn _,h.lt hn _,?_⟩
   dsimp only
   split
   ·exact oC hn h k f _ _
   ·exact oC hn h k f _ _
theorem AB (hn:0<n):∀f (p:Array Nat) k,Pm n p->Bd lt n (Pm n) (kas_bin f p k)
 | 0,p,k,h=>h
 | f+1,p,k,h=>Bd.bind ((oC hn h k _ _ _).mono λl _=>AB hn f _ _ (h.Yo _ _))
theorem Dk (hn:0<n):Bd lt n (Pm n) (kas_sort n):=by
 refine Bd.bind ((AA hn (Array.Perm.refl _) n).mono λr hr=>?_)
 split
 ·exact AB hn _ _ _ hr
 ·exact hr
section
variable {prog : Program} {w : World} {A : Around} {E : Value -> Shared -> Prop} {s : Shared} {vs : List Value} {κ : SortKind}
theorem md {R:List Nat->Prop} {a:Addr} {m:Nat} {P:PySem.Fin->Shared->Prop} (ho:s.heap.get? a=some (seqObj "list" vs.toArray m)) (F1:vs.length<64)
  (nU:2<=vs.length->∀h' Q',(∀b o,b≠a->s.heap.get? b=some o->h'.get? b=some o)->Q' κ {s with heap:=h'}->wpAny (model prog w) A (keyKind' vs.toArray) Q' (λ_ _=>False) {s with heap:=h'})
  (AD:∀i j h' C,i<vs.length->j<vs.length->(∀b o,b≠a->s.heap.get? b=some o->h'.get? b=some o)->C (lt i j) {s with heap:=h'}->kas_ask prog w A κ vs i j C {s with heap:=h'})
  (Nh:2<=vs.length->Bd lt vs.length (λp=>Pm vs.length p/\R p.toList) (kas_sort vs.length)) (h0:vs.length<2->R (List.range vs.length))
  (h:∀p:List Nat,p.Perm (List.range vs.length)->R p->P (.done (.ret .none)) {s with heap:=sortedHeap s.heap a vs (p.map λi=>vs.getD i Value.none).toArray}):
  wpAny (model prog w) A (Builtin.«list.sort» ⟨[.ref a],[]⟩) P E s:=by
 rw[list_sort_plain]
 have ha:a<s.heap.objs.size:=Heap.lt_size ho
 refine wpAny_bind (listItems_at ho rfl ?_)
 refine wpAny_bind (listUpdate_at ho rfl ?_ (by rw[aal,sizeLine_eq];omega) (aas _))
 obtain⟨e1,Cq⟩:∃e1,(s.heap.update a (Obj.mapSeq λ_=>#[])).get? a=some (seqObj "list" #[] e1):=⟨_,get?_update_seq ho (λ_=>#[])⟩
 refine wpAny_bind (seqEpoch_at Cq rfl ?_)
 refine wpAny_bind (wpAny_newTuple ?_ (by show vs.length<=_;rw[sizeLine_eq];omega))
 refine wpAny_bind (wpAny_newList ?_ (aas _))
 refine wpAny_holding ?_
 have LS:(((s.heap.update a (Obj.mapSeq λ_=>#[])).push (seqObj "tuple" vs.toArray 0)).push (seqObj "list" #[] 0)).get? a=some (seqObj "list" #[] e1):=by
  rw[Heap.get?_push_ne _ _ _ (by rw[size_push',Heap.size_update];exact aao (abm ha)),Heap.get?_push_ne _ _ _ (by rw[Heap.size_update];exact aao ha)]
  exact Cq
 have keep:∀b o,b≠a->s.heap.get? b=some o->(((s.heap.update a (Obj.mapSeq λ_=>#[])).push (seqObj "tuple" vs.toArray 0)).push (seqObj "list" #[] 0)).get? b=some o:=λb o hb q=>
  Heap.get?_push_of_some _ (Heap.get?_push_of_some _ ((Heap.get?_update_other _ _ (Ne.symm hb)).trans q))
 show wpAny (model prog w) A _ P E {s with heap:=((s.heap.update a (Obj.mapSeq λ_=>#[])).push (seqObj "tuple" vs.toArray 0)).push (seqObj "list" #[] 0)}
 dsimp only
 have hsz:vs.toArray.size=vs.length:=by simp
 have gd:∀(l:List Value),(List.range l.length).map (λi=>l.getD i Value.none)=l:=λl=>by
  apply aaQ
  intro i
  rw[aaf]
  by_cases hi:i<l.length
  ·rw[aaR hi,aad hi]
   simp [hi]
  ·rw[aar (by rw[aay];omega),aar (by omega)]
   rfl
 by_cases h2:vs.toArray.size<2
 ·rw[if_pos h2,if_pos h2]
  refine wpAny_bind (wpAny_pure ?_)
  rw[StateT.run_pure]
  refine wpAny_bind (wpAny_pure ?_)
  dsimp only
  refine wpAny_bind (seqEpoch_at LS rfl ?_)
  refine wpAny_bind (listUpdate_at LS rfl ?_ (hsz2:=by rw[Array.size_map];show(pairsOf vs).size<=_;rw[pairsOf_size,sizeLine_eq];omega))
  simp only[bne_self_eq_false,Bool.false_eq_true,if_false]
  have e:(vs.toArray.zip vs.toArray).map (fun(x:Keyed)=>x.2)=((List.range vs.length).map λi=>vs.getD i Value.none).toArray:=by
   rw[gd]
   apply Array.toList_inj.mp
   rw[Array.toList_map]
   simp [List.map_snd_zip]
  refine wpAny_pure ?_
  have:=h (List.range vs.length) (List.Perm.refl _) (h0 (by omega))
  rw[<-e] at this
  exact this
 ·have tz:2<=vs.length:=by omega
  rw[if_neg h2,if_neg h2]
  refine wpAny_bind (wpAny_mono (nU tz _ (λκ' s'=>κ'=κ/\s'={s with heap:=((s.heap.update a (Obj.mapSeq λ_=>#[])).push (seqObj "tuple" vs.toArray 0)).push (seqObj "list" #[] 0)}) keep ⟨rfl,rfl⟩) ?_ λ_ _ x=>x.elim)
  rintro κ' s' ⟨rfl,rfl⟩
  refine wpAny_bind (wpAny_mono (kat_run (ks:=vs) (vs:=vs) (Q:=λyr s'=>s'={s with heap:=((s.heap.update a (Obj.mapSeq λ_=>#[])).push (seqObj "tuple" vs.toArray 0)).push (seqObj "list" #[] 0)}/\∃p:Array Nat,p.size=vs.length/\arrOf yr=p.map (kas_item (vs.toArray.zip vs.toArray))/\failedOf yr=none/\Pm vs.length p/\R p.toList)
   (G:=λp s'=>s'={s with heap:=((s.heap.update a (Obj.mapSeq λ_=>#[])).push (seqObj "tuple" vs.toArray 0)).push (seqObj "list" #[] 0)}/\Pm vs.length p/\R p.toList) rfl tz F1 (λp yr s' a1 a2 a3 a4=>⟨a4.1,p,a1,a2,a3,a4.2⟩) ?_) ?_ λ_ _ e=>e)
  ·exact Bd.wp (lt:=lt) (n:=vs.length) (λi j C hi hj hC=>AD i j _ C hi hj keep hC) (λp hp=>⟨rfl,hp⟩) (Nh tz)
  rintro⟨⟨⟩,yr⟩ s' ⟨rfl,p,hp,Yp,hf,pm,hR⟩
  dsimp only
  have C8:=kat_snds (ks:=vs) (vs:=vs) rfl Yp
  rw[C8]
  refine wpAny_bind (seqEpoch_at LS rfl ?_)
  refine wpAny_bind (listUpdate_at LS rfl ?_ (aas _) (by rw[aal,aac,abv,hp,sizeLine_eq];omega))
  rw[hf]
  simp only[bne_self_eq_false,Bool.false_eq_true,if_false]
  exact wpAny_pure (h p.toList (by have:=pm.toList;simpa using this) hR)
theorem rK {R:List Nat->Prop} {l:Addr} {Q:Value->Shared->Prop} (hl:s.heap.IsList l vs.toArray) (F1:vs.length<64)
  (nU:2<=vs.length->∀h' Q',(∀b o,s.heap.get? b=some o->h'.get? b=some o)->Q' κ {s with heap:=h'}->wpAny (model prog w) A.in1.in1 (keyKind' vs.toArray) Q' (λ_ _=>False) {s with heap:=h'})
  (AD:∀i j h' C,i<vs.length->j<vs.length->(∀b o,s.heap.get? b=some o->h'.get? b=some o)->C (lt i j) {s with heap:=h'}->kas_ask prog w A.in1.in1 κ vs i j C {s with heap:=h'})
  (Nh:2<=vs.length->Bd lt vs.length (λp=>Pm vs.length p/\R p.toList) (kas_sort vs.length)) (h0:vs.length<2->R (List.range vs.length))
  (h:∀p:List Nat,p.Perm (List.range vs.length)->R p->Q (.ref (s.heap.objs.size+1)) {s with heap:=sortedAll s.heap vs (p.map λi=>vs.getD i Value.none).toArray}):
  wpAny (model prog w) A (call (.builtin "sorted") [.ref l]) Q E s:=by
 refine Calls.call_function_entry kind_sorted plain_sorted entry_sorted (args_sorted1 _) ?_
 unfold Builtin.«sorted»
 refine wpAny_bind (m:=checkCount "sorted" 1 1 _) (wpAny_pure ?_)
 refine wpAny_bind (collect_list hl ?_ (by rw[sizeLine_eq];omega))
 refine wpAny_bind (wpAny_newList ?_ (by rw[sizeLine_eq];omega))
 have hsz:((s.heap.push (seqObj "list" #[] 0)).update s.heap.objs.size (Obj.mapSeq (·++vs.toArray))).objs.size=s.heap.objs.size+1:=by
  rw[Heap.size_update,size_push']
 have Ek:(((s.heap.push (seqObj "list" #[] 0)).update s.heap.objs.size (Obj.mapSeq (·++vs.toArray))).push (seqObj "list" vs.toArray 0)).get? (s.heap.objs.size+1)=some (seqObj "list" vs.toArray 0):=by
  rw[<-hsz];exact Heap.get?_push_size _ rfl
 have keep:∀b o,s.heap.get? b=some o->b≠s.heap.objs.size+1/\(((s.heap.push (seqObj "list" #[] 0)).update s.heap.objs.size (Obj.mapSeq (·++vs.toArray))).push (seqObj "list" vs.toArray 0)).get? b=some o:=λb o q=>by
  have fE:b<s.heap.objs.size:=Heap.lt_size q
  refine⟨aao (abm fE),?_⟩
  rw[Heap.get?_push_ne _ _ _ (by rw[hsz];exact aao (abm fE)),Heap.get?_update_ne _ _ _ _ (aao fE),Heap.get?_push_ne _ _ _ (aao fE)]
  exact q
 show wpAny _ _ _ _ _ {s with heap:=((s.heap.push (seqObj "list" #[] 0)).update s.heap.objs.size (Obj.mapSeq (·++vs.toArray))).push (seqObj "list" vs.toArray 0)}
 rw[hsz]
 refine wpAny_bind (wpAny_holding (wpAny_call_entry slot_list_sort ⟨_,Ek,rfl⟩ entry_list_sort (md (lt:=lt) (κ:=κ) Ek F1 (λh2 h' Q' hk hq=>nU h2 h' Q' (λb o q=>hk b o (keep b o q).1 (keep b o q).2) hq)
  (λi j h' C hi hj hk hC=>AD i j h' C hi hj (λb o q=>hk b o (keep b o q).1 (keep b o q).2) hC) Nh h0 λp hp hR=>⟨_,rfl,?_⟩) (args_list_sort _)))
 exact wpAny_pure ⟨_,rfl,h p hp hR⟩
theorem uf {l:Addr} {Q:Value->Shared->Prop} (hl:s.heap.IsList l vs.toArray) (F1:vs.length<64)
  (nU:2<=vs.length->∀h' Q',(∀b o,s.heap.get? b=some o->h'.get? b=some o)->Q' κ {s with heap:=h'}->wpAny (model prog w) A.in1.in1 (keyKind' vs.toArray) Q' (λ_ _=>False) {s with heap:=h'})
  (AD:∀i j h' C,i<vs.length->j<vs.length->(∀b o,s.heap.get? b=some o->h'.get? b=some o)->C (lt i j) {s with heap:=h'}->kas_ask prog w A.in1.in1 κ vs i j C {s with heap:=h'})
  (h:∀p:List Nat,p.Perm (List.range vs.length)->Q (.ref (s.heap.objs.size+1)) {s with heap:=sortedAll s.heap vs (p.map λi=>vs.getD i Value.none).toArray}):
  wpAny (model prog w) A (call (.builtin "sorted") [.ref l]) Q E s:=
 rK (R:=λ_=>True) hl F1 nU AD (λh2=>(Dk (by omega)).mono λ_ hp=>⟨hp,trivial⟩) (λ_=>trivial) λp hp _=>h p hp
noncomputable def Ni (x y:Int×Int):Bool:=if x.1=y.1 then decide (x.2<y.2) else decide (x.1<y.1)
theorem Dl {x y:Addr} {ox oy:Obj} {a b c d:Int} {t1 t2 t3 t4:Tok} {n k:Nat} {C:Bool->Shared->Prop} (hx:s.heap.get? x=some ox) (dx:ox.data=.seq #[.int a t1,.int b t2] n) (hy:s.heap.get? y=some oy) (dy:oy.data=.seq #[.int c t3,.int d t4] k)
  (h:C (Ni (a,b) (c,d)) s):wpAny (model prog w) A (keyLt' (tuples' true) (.ref x) (.ref y)) C E s:=by
 refine kat_lt hx dx hy dy (kat_cons (wpAny_eqBool_int ?_))
 unfold Ni at h
 dsimp only at h
 by_cases e:a=c
 ·rw[if_pos e] at h
  subst e
  rw[show(a==a)=true by simp]
  refine kat_yes (kat_cons (wpAny_eqBool_int ?_))
  by_cases e2:b=d
  ·subst e2
   rw[show(b==b)=true by simp]
   refine kat_yes (kat_nil ?_)
   simpa using h
  ·rw[show(b==d)=false by simpa using e2]
   refine kat_no (kat_one _ _ ?_)
   exact CmpOf.ints_lt (P:=λi v=>∃t,v=Value.int (if i=0 then b else d) t) (λi=>if i=0 then b else d) (λi v h=>h) 0 1 _ _ s _ _ ⟨t2,rfl⟩ ⟨t4,rfl⟩ h
 ·rw[if_neg e] at h
  rw[show(a==c)=false by simpa using e]
  exact kat_no (oneLt_int h)
end
end KS
namespace L2
open PySem PySem.Spec PyProof.Rows PySem.W
section
variable {X : Cx} {K : PySem.W.Frag}
theorem yN {xs:List V} {us:List Value} (r:bz xs us) (p:List Nat) (hp:p.Perm (List.range us.length)):∃ys,ys.Perm xs/\bz ys (p.map λi=>us.getD i Value.none):=by
 have hl:=r.length
 have get:∀i,i<us.length->∃x u,xs[i]?=some x/\us[i]?=some u/\RelV x u:=by
  clear hp hl
  induction r with
  | nil=>intro i hi;simp at hi
  | cons r1 r2 ih=>
   intro i hi
   cases i with
   | zero=>exact⟨_,_,rfl,rfl,r1⟩
   | succ i=>
    obtain⟨x,u,a1,a2,a3⟩:=ih i (by simpa using hi)
    exact⟨x,u,by simpa using a1,by simpa using a2,a3⟩
 refine⟨p.map λi=>xs.getD i .b9,?_,?_⟩
 ·refine(hp.map _).trans ?_
  rw[<-hl]
  have:(List.range xs.length).map (λi=>xs.getD i V.b9)=xs:=by
   apply aaQ
   intro i
   rw[aaf]
   by_cases hi:i<xs.length
   ·rw[aaR hi,aad hi]
    simp [hi]
   ·rw[aar (by rw[aay];omega),aar (by omega)]
    rfl
  rw[this]
 ·have hb:∀i∈p,i<us.length:=λi hi=>List.mem_range.mp (hp.mem_iff.mp hi)
  clear hp
  induction p with
  | nil=>exact .nil
  | cons i p ih=>
   obtain⟨x,u,a1,a2,a3⟩:=get i (hb i aai)
   refine .cons ?_ (ih λj hj=>hb j (aaj _ hj))
   show RelV (xs.getD i V.b9) (us.getD i Value.none)
   rw[aae,aae,a1,a2]
   exact a3
noncomputable def AE (H:Hp) (xs:List V):Prop:=∀x∈xs,∃t a b,x=.ref t/\H t=some (.tup [.int a,.int b])
theorem pN:cQ X (.builtin "sorted") (λxs H Q=>∃p ys,xs=[.ref p]/\bo X.K H p ys/\ys.length<64/\AE H ys/\∀l zs,H l=none->zs.Perm ys->Q (.ref l) (upd H l (.lst zs))):=by
 intro pins s σ H xs us Q I r h
 obtain⟨p,ys,rfl,hq,hn,hP,q⟩:=h
 obtain⟨u,rfl,rx⟩:=vals1 r
 cases rx
 obtain⟨aV,rv,pl,hz⟩:=I.list hq
 have hl:=rv.length
 have each:∀v∈aV,∃t o a b t1 t2 n,v=.ref t/\s.heap.get? t=some o/\o.cls=.type "tuple"/\o.data=.seq #[.int a t1,.int b t2] n:=by
  clear hq hl q pl hz hn
  induction rv with
  | nil=>intro v hv;simp at hv
  | cons r1 r2 ih=>
   intro v hv
   rcases List.mem_cons.mp hv with rfl | hv
   ·obtain⟨t,a,b,rfl,ht⟩:=hP _ aai
    cases r1
    obtain⟨is2,v2,tp,_⟩:=I.tuple (dZ.of ht)
    obtain⟨o,ho,hc,n,hd⟩:=tp
    cases v2 with
    | cons q1 q2=>
     cases q2 with
     | cons q3 q4=>
      cases q4
      obtain⟨t1,rfl⟩:=q1
      obtain⟨t2,rfl⟩:=q3
      exact⟨t,o,a,b,t1,t2,n,rfl,ho,hc,by simpa using hd⟩
   ·exact ih (λx hx=>hP x (aaj _ hx)) v hv
 have Ji:∀i:Nat,∃pr:Int×Int,∀v,aV[i]?=some v->∃t o t1 t2 n,v=.ref t/\s.heap.get? t=some o/\o.cls=.type "tuple"/\o.data=.seq #[.int pr.1 t1,.int pr.2 t2] n:=λi=>by
  cases hi:aV[i]? with
  | none=>exact⟨(0,0),λv hv=>by cases hv⟩
  | some v=>
   obtain⟨t,o,a,b,t1,t2,n,e1,e2,e3,e4⟩:=each v (aag hi)
   exact⟨(a,b),λv' hv=>by cases hv;exact⟨t,o,t1,t2,n,e1,e2,e3,e4⟩⟩
 obtain⟨f,hf⟩:=Classical.skolem.mp Ji
 refine KS.uf (lt:=λi j=>KS.Ni (f i) (f j)) (κ:=tuples' true) pl.isList (by omega) (λh2 h' Q' hk hq=>?_) (λi j h' C hi hj hk hC=>?_) λp hp=>?_
 ·have lQ:∀(l:List Value),(∀v∈l,v∈aV)->∃fs,KatTups h' l fs/\fs.length=l.length/\∀v∈fs,∃a t,v=Value.int a t:=by
   intro l
   induction l with
   | nil=>intro _;exact⟨[],trivial,rfl,λv hv=>by simp at hv⟩
   | cons v l ih=>
    intro hm
    obtain⟨fs,k1,k2,k3⟩:=ih λx hx=>hm x (aaj _ hx)
    obtain⟨t,o,a,b,t1,t2,n,rfl,e2,e3,e4⟩:=each v (hm v aai)
    refine⟨.int a t1::fs,KatTups.cons (hk _ _ e2) e3 e4 rfl k1,by simp [k2],λx hx=>?_⟩
    rcases List.mem_cons.mp hx with rfl | hx
    ·exact⟨a,t1,rfl⟩
    ·exact k3 x hx
  obtain⟨fs,k1,k2,k3⟩:=lQ aV λv hv=>hv
  exact kat_kind (T:=.type "int") (s:={s with heap:=h'}) k1 (by omega) (λv hv=>by obtain⟨a,t,rfl⟩:=k3 v hv;exact .now) (by decide) hq
 ·obtain⟨t,o,t1,t2,n,e1,e2,e3,e4⟩:=hf i _ (aad hi)
  obtain⟨t',o',t3,t4,n',AF,Nj,e3',Yq⟩:=hf j _ (aad hj)
  unfold kas_ask
  rw[aae,aae,aad hi,aad hj,e1,AF]
  exact KS.Dl (s:={s with heap:=h'}) (hk _ _ e2) e4 (hk _ _ Nj) Yq hC
 ·obtain⟨zs,pz,vz⟩:=yN rv p hp
  obtain⟨e,he⟩:=sortedAll_at s.heap aV (p.map λi=>aV.getD i Value.none).toArray
  have fr:=I.bT.fresh (a:=s.heap.objs.size+1) (Nat.le_succ _)
  refine⟨.ref (s.heap.objs.size+1),_,I.laid (t':=s.toks) (λ_ _=>sortedAll_old) (Nat.le_succ _) (o:=.lst zs) ⟨?_,_,e,vz,?_⟩,rfl,q _ _ fr pz⟩
  ·rw[pz.length_eq,sizeLine_eq];omega
  ·exact he
theorem oE (hK:X.K=K:=by rfl):cQ X (.builtin "sorted") (λxs H Q=>∃p ys,xs=[.ref p]/\bo K H p ys/\ys.length<64/\AE H ys/\∀l zs,H l=none->zs.Perm ys->Q (.ref l) (upd H l (.lst zs))):=by subst hK;exact pN
end
end L2
namespace Lv
open L2
theorem F2 {fs:Fs} {k:Nat} {u:Int}:lk fs (k:Int)=some u↔fs[k]?=some (some u):=by
 rw[qA,aak]
noncomputable def nm (s:List Nat) (g:Int):Int:=((s.getD g.toNat 0:Nat):Int)
noncomputable def Yr (s:List Nat):Pl->Pl
 | .fin w=>.fin w
 | .dA w ws=>.dA w (ws.map λp=>(p.1,nm s p.2))
 | .cD w to=>.cD w (to.map (nm s))
noncomputable def turn (s:List Nat) (b:List Pl):List Pl:=(List.range b.length).map λj=>Yr s (b.getD (s.idxOf j) (.fin (0,1)))
section
variable {s : List Nat} {n : Nat} (p : s.Perm (List.range n))
include p
theorem AG:s.Nodup:=p.nodup_iff.mpr List.nodup_range
theorem AH {i i' j:Nat} (h:s[i]?=some j) (h':s[i']?=some j):i=i':=by
 have l1:=(List.getElem?_eq_some_iff.mp h).1
 exact(List.getElem?_inj l1 (AG p)).mp (h.trans h'.symm)
theorem rL {i j:Nat} (h:s[i]?=some j):s.idxOf j=i:=by
 have hm:j∈s:=aag h
 have hl:s.idxOf j<s.length:=List.idxOf_lt_length_iff.mpr hm
 have:s[s.idxOf j]?=some j:=by rw[aad hl,aaW]
 exact AH p this h
end
end Lv
namespace PySem
open Builtin Builtin.Str
section
variable {prog : Program} {w : World} {A : Around} {E : Value -> Shared -> Prop} {s : Shared} {x y : Str} {t u : Tok} {Q : Value -> Shared -> Prop}
end
end PySem
namespace L2
open PySem PySem.Spec PyProof.Rows PySem.W
section
variable {X : Cx} {K : PySem.W.Frag}
noncomputable def Ys (z:Str):It:=⟨λi _=>i<z.cps.size,λi H x H'=>H'=H/\∃c,z.cps[i]?=some c/\x=.str ⟨#[c]⟩,λi _=>z.cps.size<=i⟩
noncomputable def iStr (tl:TE):TI:=λσ H R=>tl σ H λx H1=>∃z,x=.str z/\z.cps.all (·<128)=true/\R (Ys z) H1
theorem ug {x:Str} {i:Int} {pos:Pos} (hg:Gl X x) (h:∃t,X.mg x=some (.int i t)) (hd:(x==("__debug__":Str))=false:=by decide):PE X (.Name x pos) (tC (.int i)):=by
 obtain⟨t,h⟩:=h
 exact CB hg h ⟨t,rfl⟩ hd
end
end L2
namespace PySem
end PySem
namespace PySem
section
variable {M : Model} {A : Around} {E : Value -> Shared -> Prop} {s : Shared} {env : Env}
end
end PySem
namespace L2
open PySem PySem.Spec PyProof.Rows PySem.W
section
variable {M : Model} {A : Around} {E : Value -> Shared -> Prop} {s : Shared} {B : Heap} {l : List Env} {ad L : Addr} {cls a0 : Value}
end
section
variable {P : Program} {w : World} {K : PySem.W.Frag} {mg : Str -> Option Value} {base : Heap} {N : List Str} {qual : Str} {scope : Scope} {f : Addr} {cG : Value} {A : Around} {outer : List Env} {s0 : Shared} {H0 : Hp} {E : XK}
end
end L2
namespace L2
open PySem PySem.Spec PyProof.Rows PySem.W
section
variable {X : Cx}
noncomputable def Jj:V->List V->Hp->VK->Prop:=λx vs H Q=>∃l xs i y,x=.ref l/\vs=[.int i,y]/\H l=some (.lst xs)/\0<=i/\i<=(xs.length:Nat)/\xs.length<sizeLine/\Q .b9 (upd H l (.lst (xs.take i.toNat++y::xs.drop i.toNat)))
theorem yO:HN X "list.insert" Jj:=by
 intro pins s σ H x vs v us Q I rx rv h
 obtain⟨l,xs,i,y,rfl,rfl,hH,h0,h1,hz,q⟩:=h
 cases rx
 obtain⟨u1,u2,rfl,⟨t,rfl⟩,ru⟩:=vals2 rv
 obtain⟨z,aV,n,r,hl,e⟩:=I.yB hH
 have sl:=sizeLine_eq
 refine call_meets PySem.F.slot_list_insert ⟨_,e,rfl⟩ PySem.F.entry_list_insert (PySem.F.args_list_insert_3 _ _ _) (AutoSeq1.list_insert_list_int_val_1 l aV.toArray n i t u2 (by rw[fitsIndex_both (by omega) (by omega)];decide) (by rw[aal];omega)) ⟨e,?_⟩
 have k2:(if i<0 then (i+ (aV.toArray.size:Int)).toNat else min i.toNat aV.toArray.size)=i.toNat:=by
  rw[if_neg (by omega),aal]
  omega
 refine⟨.b9,_,I.Fz (its':=aV.take i.toNat++u2::aV.drop i.toNat) hH e ?_ ?_ ?_,rfl,q⟩
 ·show(aV.toArray.extract 0 (if i<0 then (i+ (aV.toArray.size:Int)).toNat else min i.toNat aV.toArray.size)).push u2++aV.toArray.extract (if i<0 then (i+ (aV.toArray.size:Int)).toNat else min i.toNat aV.toArray.size)=_
  rw[k2]
  apply Array.toList_inj.mp
  simp [aaH]
 ·exact(r.take _).append (.cons ru (r.drop _))
 ·simp
  omega
end
end L2
namespace L2
open PySem PySem.Spec PyProof.Rows
structure qB (P:Program) (w:World) (K:PySem.W.Frag) (mg:Str->Option Value) (base:Heap) (CX:kr) (k:Nat) (x:Str) (C:Addr) (ps:List Str) (sp:Sp):Prop where
 ex:∃f fd,Mk K C f/\eD P w K mg base CX k f fd ps sp/\mg x=some (.ref C)/\Binds K fd ps []
section
variable {X : Cx}
theorem AI {CX:kr} {k:Nat} {x:Str} {C:Addr} {ps:List Str} {sp:Sp} {E:XK} {e:Expr} {es:List Expr} {t:TA} {p pos:Pos} (M:qB X.prog X.w X.K X.mg X.base CX k x C ps sp) (hr:dc (k+1) X.A) (hg:Gl X x) (hx:eN CX X E) (ha:PA X (e::es) t)
  (zJ:(x==("__debug__":Str))=false:=by decide) (he:starEach (e::es) X.env=(false,eval e X.env)::starEach es X.env:=by rfl) (hpl:(backTo pos (starEach es X.env)).any (·.1)=false:=by rfl):
  PE X (.Call (.Name x p) (e::es) [] pos) (tN C sp [] E t):=by
 obtain⟨f,fd,m,F,hm,hb⟩:=M.ex
 exact CM m F hr hg hm hb .nil hx ha zJ he hpl
end
structure Nk (K:PySem.W.Frag) (mg:Str->Option Value) (x qual:Str) (st:Stmt) (C:Addr):Prop where
 ex:∃f fd,vO K "__init__" qual st f fd/\Mk K C f/\mg x=some (.ref C)
theorem Nk.d3 {P:Program} {w:World} {K:PySem.W.Frag} {mg:Str->Option Value} {base:Heap} {CX:kr} {x qual:Str} {st:Stmt} {C:Addr} {ps:List Str} {k:Nat} {sp:Sp} (D:Nk K mg x qual st C)
  (hb:∀(kV doc pm:Value) (an:Option Addr) (cG ct:Value) (us:List Value),us.length=ps.length->bindArgs (PySem.W.fnOf "__init__" qual (aM st) (aL st) (af st) .none kV doc pm an cG ct) ⟨us,[]⟩=pure (ps.zip us))
  (h:∀f fd,vO K "__init__" qual st f fd->eD P w K mg base CX k f fd ps sp):qB P w K mg base CX k x C ps sp:=by
 obtain⟨f,fd,F,m,hm⟩:=D.ex
 exact⟨f,fd,m,h f fd F,hm,F.binds hb⟩
end L2
namespace L2
open PySem PySem.Spec PyProof.Rows
noncomputable instance HU:DecidableEq PyData:=λ_ _=>Classical.propDecidable _
mutual
noncomputable def gN:PyData->Bool
 | .int _=>true
 | .str x=>PyData.canLay0 (.str x)
 | .tuple xs=>kG xs
 | _=>false
noncomputable def kG:List PyData->Bool
 | []=>true
 | x::xs=>gN x && kG xs
end
mutual
theorem Dm:∀(d:PyData),gN d=true->d.canLay0=true
 | .none,h=>by simp [gN] at h
 | .bool _,h=>by simp [gN] at h
 | .int _,_=>by simp [PyData.canLay0]
 | .str x,h=>by rw[gN] at h;exact h
 | .list _,h=>by simp [gN] at h
 | .tuple xs,h=>by rw[gN] at h;rw[PyData.canLay0];exact uh xs h
 | .dict _,h=>by simp [gN] at h
theorem uh:∀(xs:List PyData),kG xs=true->PyData.canLayAll0 xs=true
 | [],_=>by simp [PyData.canLayAll0]
 | x::xs,h=>by
  rw[kG,aa4] at h
  rw[PyData.canLayAll0,aa4]
  exact⟨Dm x h.1,uh xs h.2⟩
end
mutual
theorem F4:∀(x y:PyData),gN x=true->gN y=true->PyData.eqv x y=decide (x=y)
 | .int i,y,_,hy=>by
  cases y with
  | int j=>
   rw[PyData.eqv]
   by_cases c:i=j
   ·subst c;simp
   ·rw[decide_eq_false (λe=>c (by injection e))]
    simp [c]
  | str _=>simp [PyData.eqv]
  | tuple _=>simp [PyData.eqv]
  | _=>simp [gN] at hy
 | .str a,y,_,hy=>by
  cases y with
  | str b=>
   rw[PyData.eqv]
   by_cases c:a=b
   ·subst c;simp
   ·rw[decide_eq_false (λe=>c (by injection e))]
    simp [c]
  | int _=>simp [PyData.eqv]
  | tuple _=>simp [PyData.eqv]
  | _=>simp [gN] at hy
 | .tuple xs,y,hx,hy=>by
  cases y with
  | tuple ys=>
   rw[gN] at hx hy
   rw[PyData.eqv,xq xs ys hx hy]
   by_cases c:xs=ys
   ·subst c;simp
   ·rw[decide_eq_false c,decide_eq_false (λe=>c (by injection e))]
  | int _=>simp [PyData.eqv]
  | str _=>simp [PyData.eqv]
  | _=>simp [gN] at hy
 | .none,_,h,_=>by simp [gN] at h
 | .bool _,_,h,_=>by simp [gN] at h
 | .list _,_,h,_=>by simp [gN] at h
 | .dict _,_,h,_=>by simp [gN] at h
theorem xq:∀(xs ys:List PyData),kG xs=true->kG ys=true->PyData.eqvAll xs ys=decide (xs=ys)
 | [],[],_,_=>by simp [PyData.eqvAll]
 | [],_::_,_,_=>by simp [PyData.eqvAll]
 | _::_,[],_,_=>by simp [PyData.eqvAll]
 | x::xs,y::ys,hx,hy=>by
  rw[kG,aa4] at hx hy
  rw[PyData.eqvAll,F4 x y hx.1 hy.1,xq xs ys hx.2 hy.2]
  by_cases c:x=y
  ·subst c
   by_cases d:xs=ys
   ·subst d;simp
   ·rw[decide_eq_false d,decide_eq_false (λe=>d (List.cons.inj e).2)];simp
  ·rw[decide_eq_false c,decide_eq_false (λe=>c (List.cons.inj e).1)];simp
end
mutual
theorem vX {h h':Heap} {d:Addr} {o:Obj} {es ep} (ho:h.get? d=some o) (hd:o.data=.dict es ep) (hs:Heap.SameBut d h h'):∀(x:PyData) (v:Value) (as:List Addr),gN x=true->Reads h v x as->Reads h' v x as
 | .int _,_,_,_,r=>by cases r;exact .int _ _
 | .str _,_,_,_,r=>by cases r;exact .str _ _
 | .tuple xs,_,_,hx,r=>by
  rw[gN] at hx
  cases r with
  | @tuple a o' vs n _ _ e c q t=>
   have ne:a≠d:=λz=>by
    subst z
    rw[ho] at e
    cases e
    rw[hd] at q
    cases q
   exact .tuple ((hs.2 a ne).trans e) c q (lD ho hd hs xs _ _ hx t)
 | .none,_,_,h,_=>by simp [gN] at h
 | .bool _,_,_,h,_=>by simp [gN] at h
 | .list _,_,_,h,_=>by simp [gN] at h
 | .dict _,_,_,h,_=>by simp [gN] at h
theorem lD {h h':Heap} {d:Addr} {o:Obj} {es ep} (ho:h.get? d=some o) (hd:o.data=.dict es ep) (hs:Heap.SameBut d h h'):∀(xs:List PyData) (vs:List Value) (as:List Addr),kG xs=true->ReadsAll h vs xs as->ReadsAll h' vs xs as
 | [],_,_,_,r=>by cases r;exact .nil
 | x::xs,_,_,hx,r=>by
  rw[kG,aa4] at hx
  cases r with
  | cons r1 r2=>exact .cons (vX ho hd hs x _ _ hx.1 r1) (lD ho hd hs xs _ _ hx.2 r2)
end
mutual
noncomputable def xt (w:World):PyData->Int
 | .int i=>E3 w (.inl i)
 | .str x=>E3 w (.inr x)
 | .tuple xs=>reduceHash (Builtin.Tuple.tupleHashOf (fk w xs))
 | _=>0
noncomputable def fk (w:World):List PyData->List Int
 | []=>[]
 | x::xs=>xt w x::fk w xs
end
mutual
noncomputable def LU:PyData->Nat
 | .tuple xs=>oF xs+1
 | _=>1
noncomputable def oF:List PyData->Nat
 | []=>0
 | x::xs=>LU x+oF xs
end
section
variable {prog : Program} {w : World}
noncomputable def PH (prog:Program) (w:World) (m:Nat) (h:Heap) (d:PyData) (v:Value):Prop:=∀(A:Around) (E:Value->Shared->Prop) (s:Shared) (Q:Int->Shared->Prop),s.heap=h->A.units+m<cLine->
 Q (xt w d) {s with toks:=s.toks+LU d}->wpAny (model prog w) A (pyHash v) Q E s
inductive ED (prog:Program) (w:World) (m:Nat) (h:Heap):List PyData->List Value->Prop
 | nil:ED prog w m h [] []
 | cons {d v ds vs}:PH prog w m h d v->ED prog w m h ds vs->ED prog w m h (d::ds) (v::vs)
theorem yP (xs ys:List PyData):fk w (xs++ys)=fk w xs++fk w ys:=by
 induction xs with
 | nil=>simp [fk]
 | cons x xs ih=>simp [fk,ih]
theorem AJ (xs ys:List PyData):oF (xs++ys)=oF xs+oF ys:=by
 induction xs with
 | nil=>simp [oF]
 | cons x xs ih=>simp [oF,ih,Nat.add_assoc]
theorem AK {m:Nat} {h:Heap} {ds:List PyData} {a:Addr} {o:Obj} {items n} (ho:h.get? a=some o) (hc:o.cls=.type "tuple") (hd:o.data=.seq items n) (hi:ED prog w m h ds items.toList):PH prog w (m+1) h (.tuple ds) (.ref a):=by
 intro A E s Q hh hu hq
 subst hh
 have hT:s.TypeIs (.ref a) "tuple":=⟨o,ho,hc⟩
 have Yt:A.units<cLine:=by omega
 unfold pyHash
 first | unfold pyHashByItsType | skip
 first | refine wpAny_bind (wpAny_cRoomFor_or (.inr Yt) ?_) | skip
 refine wpAny_bind (wpAny_specialOf hT F.slot_tuple_hash.lookup ?_)
 show wpAny _ _ (if (some (Value.builtin "tuple.__hash__")==some Value.none)=true then _ else _) Q E s
 rw[if_neg (by rw[beq_builtin_none];exact aaw)]
 refine wpAny_bind (wpAny_specialOf hT F.slot_tuple_hash.lookup ?_)
 show wpAny _ _ (callSpecialIfBoundUnlessNone? (.ref a) "__hash__" _ >>=_) Q E s
 refine wpAny_bind (wpAny_callSpecialIfBoundUnlessNone?_slot hT F.slot_tuple_hash (wpAny_call_entry F.slot_tuple_hash hT F.entry_tuple_hash ?_ (F.args_tuple_hash_1 _)))
 show wpAny _ _ (Builtin.Tuple.tupleItemsOf (.ref a) >>=_) _ _ s
 refine wpAny_bind (wpAny_tupleItemsOf ho hd ?_)
 refine wpAny_bind ?_
 rw[<-Array.forIn_toList]
 refine wpAny_forIn_list _
  (λrest (b:Array Int) s'=>∃done left,ds=done++left/\ED prog w m s.heap left rest/\b.toList=fk w done/\s'={s with toks:=s.toks+oF done})
  _ ?_ ?_ _ _ ⟨[],ds,rfl,hi,rfl,rfl⟩
 ·rintro x rest b s' ⟨done,left,rfl,hl,hb,rfl⟩
  cases hl with
  | @cons k _ dG _ h1 tD=>
   refine wpAny_bind (h1 _ _ _ _ rfl (by show A.units+1+m<cLine;omega) ?_)
   have e1:(b.push (xt w k)).toList=fk w (done++ [k]):=by rw[yP];simp [hb,fk]
   have e2:s.toks+oF done+LU k=s.toks+oF (done++ [k]):=by rw[AJ];simp [oF,Nat.add_assoc]
   first
    | exact wpAny_pure ⟨done++ [k],dG,by simp,tD,e1,by rw[<-e2]⟩
    | exact wpAny_bind (wpAny_pure (wpAny_pure ⟨done++ [k],dG,by simp,tD,e1,by rw[<-e2]⟩))
 ·rintro b s' ⟨done,left,rfl,hl,hb,rfl⟩
  cases hl
  rw[aaY] at hq
  show wpAny _ _ (retInt (Builtin.Tuple.tupleHashOf b.toList)) _ _ _
  rw[hb]
  refine wpAny_ret_mkInt ?_
  show wpAny _ _ (if (decide (-(2:Int)^63<=Builtin.Tuple.tupleHashOf (fk w done)) && decide (Builtin.Tuple.tupleHashOf (fk w done)<2^63))=true then _ else _) Q E _
  rw[xt,LU] at hq
  unfold reduceHash at hq
  by_cases hr:(decide (-(2:Int)^63<=Builtin.Tuple.tupleHashOf (fk w done)) && decide (Builtin.Tuple.tupleHashOf (fk w done)<2^63))=true
  ·rw[if_pos hr]
   rw[if_pos hr] at hq
   exact wpAny_pure (by simpa [Nat.add_assoc] using hq)
  ·rw[if_neg hr]
   rw[if_neg hr] at hq
   exact wpAny_bind (wpAny_rule (wpAny_pure (by simpa [Nat.add_assoc] using hq)))
mutual
theorem F5 {h:Heap}:∀(d:PyData) (v:Value) (as:List Addr),gN d=true->Reads h v d as->PH prog w d.depth h d v
 | .int i,_,_,_,r=>by
  cases r with
  | int _ t=>
   intro A E s Q _ _ hq
   exact(cq prog w).pyHash (k:=.inl i) (lh (k:=.inl i) ⟨t,rfl⟩) hq
 | .str x,_,_,_,r=>by
  cases r with
  | str _ t=>
   intro A E s Q _ _ hq
   exact(cq prog w).pyHash (k:=.inr x) (lh (k:=.inr x) ⟨t,rfl⟩) hq
 | .tuple xs,_,_,hx,r=>by
  rw[gN] at hx
  cases r with
  | tuple e c q t=>exact AK e c q (xu xs _ _ hx t)
 | .none,_,_,h,_=>by simp [gN] at h
 | .bool _,_,_,h,_=>by simp [gN] at h
 | .list _,_,_,h,_=>by simp [gN] at h
 | .dict _,_,_,h,_=>by simp [gN] at h
theorem xu {h:Heap}:∀(ds:List PyData) (vs:List Value) (as:List Addr),kG ds=true->ReadsAll h vs ds as->ED prog w (PyData.depthAll ds) h ds vs
 | [],_,_,_,r=>by cases r;exact .nil
 | x::xs,_,_,hx,r=>by
  rw[kG,aa4] at hx
  cases r with
  | cons r1 r2=>
   have p1:=F5 x _ _ hx.1 r1
   have p2:=xu xs _ _ hx.2 r2
   have up:∀{m m':Nat} {ds:List PyData} {vs:List Value},m<=m'->ED prog w m h ds vs->ED prog w m' h ds vs:=λl q=>by
    induction q with
    | nil=>exact .nil
    | cons p _ ih=>exact .cons (λA E s Q e u=>p A E s Q e (by omega)) ih
   refine .cons (λA E s Q e u=>p1 A E s Q e ?_) (up ?_ p2)
   ·rw[PyData.depthAll] at u
    omega
   ·rw[PyData.depthAll]
    omega
end
theorem uj {h:Heap} {k:Nat} {a:Addr} {o:Obj} {items n} (ho:h.get? a=some o) (hc:o.cls=.type "tuple") (hd:o.data=.seq items n) (hi:∀v∈items.toList,∀(A:Around) (E:Value->Shared->Prop) (s:Shared) (Q:Bool->Shared->Prop),s.heap=h->Q true s->wpAny (model prog w) A (eqIsQuiet k v) Q E s)
  (A:Around) (E:Value->Shared->Prop) (s:Shared) (Q:Bool->Shared->Prop) (hh:s.heap=h) (hq:Q true s):wpAny (model prog w) A (eqIsQuiet (k+1) (.ref a)) Q E s:=by
 subst hh
 have hT:s.TypeIs (.ref a) "tuple":=⟨o,ho,hc⟩
 unfold eqIsQuiet
 refine wpAny_bind (wpAny_specialOf hT F.slot_tuple_eq.lookup ?_)
 show wpAny _ _ (isInstance (.ref a) (.type "tuple") >>=_) _ _ s
 refine wpAny_bind (wpAny_isInstance hT isSubtype_tuple_tuple ?_)
 simp only[Bool.not_true,Bool.false_eq_true,if_false]
 refine wpAny_bind (wpAny_seqItems ho hd ?_)
 refine wpAny_bind ?_
 show wpAny _ _ (forIn items _ _) _ _ s
 rw[<-Array.forIn_toList]
 refine wpAny_forIn_list _ (λrest r s'=>r.1=none/\s'=s/\∀v∈rest,v∈items.toList) _ ?_ ?_ _ _ ⟨rfl,rfl,λ_ h=>h⟩
 ·rintro v rest r s' ⟨hr,rfl,yG⟩
  refine wpAny_bind (hi v (yG v aai) _ _ _ _ rfl ?_)
  simp only[Bool.not_true,Bool.false_eq_true,if_false]
  exact wpAny_pure ⟨rfl,rfl,λu Yu=>yG u (aaj _ Yu)⟩
 ·rintro⟨r1,r2⟩ s' ⟨hr,rfl,_⟩
  simp only at hr
  subst hr
  exact wpAny_pure hq
mutual
theorem yQ {h:Heap}:∀(d:PyData) (v:Value) (as:List Addr) (k:Nat),gN d=true->d.depth<=k->Reads h v d as->∀(A:Around) (E:Value->Shared->Prop) (s:Shared) (Q:Bool->Shared->Prop),s.heap=h->Q true s->wpAny (model prog w) A (eqIsQuiet k v) Q E s
 | .int _,_,_,_,_,_,r=>by
  cases r
  intro A E s Q _ hq
  rw[eqIsQuiet_byValue _ rfl]
  exact wpAny_pure hq
 | .str _,_,_,_,_,_,r=>by
  cases r
  intro A E s Q _ hq
  rw[eqIsQuiet_byValue _ rfl]
  exact wpAny_pure hq
 | .tuple xs,_,_,k,hx,hk,r=>by
  rw[gN] at hx
  rw[PyData.depth] at hk
  cases k with
  | zero=>omega
  | succ k=>
   cases r with
   | tuple e c q t=>exact uj e c q (oG xs _ _ k hx (by omega) t)
 | .none,_,_,_,h,_,_=>by simp [gN] at h
 | .bool _,_,_,_,h,_,_=>by simp [gN] at h
 | .list _,_,_,_,h,_,_=>by simp [gN] at h
 | .dict _,_,_,_,h,_,_=>by simp [gN] at h
theorem oG {h:Heap}:∀(ds:List PyData) (vs:List Value) (as:List Addr) (k:Nat),kG ds=true->PyData.depthAll ds<=k->ReadsAll h vs ds as->∀v∈vs,∀(A:Around) (E:Value->Shared->Prop) (s:Shared) (Q:Bool->Shared->Prop),s.heap=h->Q true s->wpAny (model prog w) A (eqIsQuiet k v) Q E s
 | [],_,_,_,_,_,r=>by
  cases r
  intro v hv
  simp at hv
 | x::xs,_,_,k,hx,hk,r=>by
  rw[kG,aa4] at hx
  rw[PyData.depthAll] at hk
  cases r with
  | cons r1 r2=>
   intro v hv
   rcases List.mem_cons.mp hv with rfl | hv
   ·exact yQ x _ _ k hx.1 (by omega) r1
   ·exact oG xs _ _ k hx.2 (by omega) r2 v hv
end
end
end L2
namespace L2
open PySem PySem.Spec PyProof.Rows
mutual
noncomputable def toP:Dat->PyData
 | .b9=>.none
 | .bl b=>.bool b
 | .int i=>.int i
 | .str x=>.str x
 | .tup l=>.tuple (toPL l)
 | .lst l=>.list (toPL l)
noncomputable def toPL:List Dat->List PyData
 | []=>[]
 | d::ds=>toP d::toPL ds
end
section
variable {P : Program} {w : World} {H : Hp} {h : Heap}
mutual
theorem oH (ok:gX P w H h):∀(d:Dat) (v:V) (u:Value),Rep H d v->RelV v u->∃as,Reads h u (toP d) as
 | .b9,v,u,r,q=>by
  rw[Rep] at r
  subst r
  cases (show u=Value.none from q)
  exact⟨_,.none⟩
 | .bl b,v,u,r,q=>by
  rw[Rep] at r
  subst r
  cases (show u=Value.bool b from q)
  exact⟨_,.bool b⟩
 | .int i,v,u,r,q=>by
  rw[Rep] at r
  subst r
  obtain⟨t,rfl⟩:=(show ∃t,u=Value.int i t from q)
  exact⟨_,.int i t⟩
 | .str x,v,u,r,q=>by
  rw[Rep] at r
  subst r
  obtain⟨t,rfl⟩:=(show ∃t,u=Value.str x t from q)
  exact⟨_,.str x t⟩
 | .tup l,v,u,r,q=>by
  rw[Rep] at r
  obtain⟨p,vs,rfl,hp,rl⟩:=r
  cases (show u=Value.ref p from q)
  obtain⟨_,aV,rv,o,h1,h2,n,h3⟩:=(show cw P w H h p (.tup vs) from ok p _ hp)
  obtain⟨as,ra⟩:=kH ok l vs aV rl rv
  exact⟨as,.tuple h1 h2 h3 (by simpa using ra)⟩
 | .lst l,v,u,r,q=>by
  rw[Rep] at r
  obtain⟨p,vs,rfl,hp,rl⟩:=r
  cases (show u=Value.ref p from q)
  obtain⟨_,aV,n,rv,h1⟩:=(show cw P w H h p (.lst vs) from ok p _ hp)
  obtain⟨as,ra⟩:=kH ok l vs aV rl rv
  exact⟨p::as,.list h1 rfl rfl (by simpa using ra)⟩
theorem kH (ok:gX P w H h):∀(ds:List Dat) (vs:List V) (us:List Value),bu H ds vs->bz vs us->∃as,ReadsAll h us (toPL ds) as
 | [],vs,us,r,q=>by
  rw[bu] at r
  subst r
  cases q
  exact⟨_,.nil⟩
 | d::ds,vs,us,r,q=>by
  rw[bu] at r
  obtain⟨v,rest,rfl,r1,r2⟩:=r
  cases q with
  | cons q1 q2=>
   obtain⟨a1,h1⟩:=oH ok d v _ r1 q1
   obtain⟨a2,h2⟩:=kH ok ds rest _ r2 q2
   exact⟨_,.cons h1 h2⟩
end
end
abbrev Rows:=List (Dat×Addr×Int)
abbrev RwN:Rows->List (PyData×Addr×Value)->Prop:=Paired λp q=>toP p.1=q.1/\p.2.1=q.2.1/\∃t,q.2.2=Value.int p.2.2 t
section
variable {P : Program} {w : World} {H : Hp} {h : Heap} {a : Addr}
end
section
variable {X : Cx} {P : Program} {w : World} {o i e value : Expr} {pos pos' lV : Pos} {td ty tv : TE}
end
end L2
namespace KS
open PySem PySem.W PyProof.Rows
section
variable {prog : Program} {w : World} {A : Around} {E : Value -> Shared -> Prop} {s : Shared}
end
end KS
namespace L2
open PySem PySem.Spec PyProof.Rows PySem.W
section
variable {X : Cx} {K : PySem.W.Frag}
noncomputable def F6 (K:PySem.W.Frag):V->List V->Hp->VK->Prop:=λx vs H Q=>∃l ns k,x=.ref l/\vs=[.int k]/\bo K H l (List.map V.int ns)/\k∈ns/\ns.length<=1000/\Q (.int (ns.idxOf k:Nat)) H
theorem yR:Ft X "list.index" (F6 X.K):=by
 intro pins s σ H x vs v us Q I rx rv h
 obtain⟨l,ns,k,rfl,rfl,hq,hk,hn,q⟩:=h
 cases rx
 obtain⟨u,rfl,ru⟩:=vals1 rv
 obtain⟨t,rfl⟩:=ru
 obtain⟨aV,r,pl,hz⟩:=I.list hq
 have A1:=intsAre_of r
 have fE:=aaS hk
 have lI:=A1.length
 obtain⟨⟨c1,d1,d2,sl⟩,ho,e1,m,e2⟩:=pl.isList
 cases e1
 cases e2
 have hit:=isInt_at k A1 (ns.idxOf k) (by omega) fE
 refine call_meets PySem.F.slot_list_index ⟨_,ho,rfl⟩ PySem.F.entry_list_index (PySem.F.args_list_index_2 _ _) (PySem.SeqAt.list_indexAt l aV.toArray m d1 sl (.int k t) (isInt k) (ns.idxOf k) (by rw[aal];omega) (by omega) (hit.trans (by simp)) (λj hj hl=>?_)) ⟨ho,λy hy=>?_,⟨.int _,H,I.tok _,⟨_,rfl⟩,q⟩⟩
 ·rw[aal] at hj
  exact(isInt_at k A1 j hj (by omega)).trans (ne_of_lt_idxOf hl _)
 ·exact(eq_isInt k t A1 y (List.mem_toArray.mp hy)).at _ _
theorem vY (hK:X.K=K:=by rfl):Ft X "list.index" (F6 K):=by subst hK;exact yR
end
end L2
namespace L2
open PySem PySem.Spec PyProof.Rows PySem.W
section
variable {X : Cx} {K : PySem.W.Frag}
theorem qC {P:Program} {w:World} {H:Hp} {h:Heap} (ok:gX P w H h) {ds:List Dat} {xs:List V} {us:List Value} (r:bu H ds xs) (v:bz xs us) {i:Nat} {u:Value} (e:us[i]?=some u):∃d as,ds[i]?=some d/\Reads h u (toP d) as:=by
 have l1:=r.length
 have l2:=v.length
 have hi:=(List.getElem?_eq_some_iff.mp e).1
 have ex:xs[i]?=some (xs[i]'(by omega)):=aad (by omega)
 obtain⟨u',e1,rv⟩:=v.get ex
 rw[e] at e1
 cases e1
 obtain⟨d,ed,rd⟩:=r.get ex
 obtain⟨as,ra⟩:=oH ok d _ _ rd rv
 exact⟨d,as,ed,ra⟩
end
end L2
namespace L2
open PySem PySem.Spec PyProof.Rows
structure pO (base:Heap) (mg:Str->Option Value) (tc tp:Addr):Prop where
 blt:base.BuiltinsAt mg tp
 code:PySem.W.CodeHd base tc tp
theorem law_callT {P:Program} {tp tc:Addr} {dsc:Array Value} {w:World} {K:PySem.W.Frag} {mg mb:Str->Option Value} {CX:kr} {k:Nat} {fa a:Addr} {fd:FuncData} {x:Str} {sp:Sp} {s₁:Shared} {vs:List Value} {ns:List Int}
  (KX:K.In s₁.heap) (EB:s₁.heap.Ns mainGlobals mg) (hb:s₁.heap.Ns builtinsNs mb) (Nl:∀x:Str,x≠"__name__"->mb x=bootBuiltins x) (F7:s₁.heap.NoLimit) (hg:s₁.gens=#[])
  (ha:s₁.heap.get? a=some {cls:=.type "list",data:=.seq vs.toArray}) (hi:IntsAre vs ns) (hl:ns.length<=sizeLine) (hr:dc k callerA)
  (lE:s₁.heap.get? tp=some (PySem.W.tabObj #[])) (VZ:PySem.W.CodeHd s₁.heap tc tp) (Yv:K.lookup tp=none) (HV:s₁.heap.BuiltinsAt mg tp)
  (F:∀base:Heap,K.In base->base.Ns mainGlobals mg->pO base mg tc tp->eD P w K mg base CX k fa fd [x] sp) (AL:∀(s:Shared) (u:Value),BindsTo s fd ⟨[u],[]⟩ [(x,u)])
  (Cm:∀H:Hp,H tp=some (.tu dsc)->bo K H a (ns.map V.int)->sp [.ref a] H (λv _=>v=.bl true) λ_ _ _=>False)
  (Nn:∀H e s',CX [] H s₁ (λ_ _ _=>False) e s'->False):
  codeAny (model P w) callerA (.call (.ref fa) ⟨[.ref a],[]⟩) (λr s'=>r=.ok (.ret (.bool true))/\OldK s₁.heap s'.heap/\s'.os=s₁.os/\AllBare s'.gens) s₁:=by
 have rv:=qp hi
 have Np:=hi.length
 have V0:tp≠a:=λz=>by rw[z,ha] at lE;cases lE
 have core:∀H:Hp,(∀b,b≠tp->H b=none\/∃o xs,H b=some (.tq o (.lst xs)))->H tp=some (.tu dsc)->bo K H a (ns.map V.int)->gX P w H s₁.heap->(∀b,H b≠none->b=a\/b=tp)->(H a≠none->K.lookup a=none)->
   codeAny (model P w) callerA (.call (.ref fa) ⟨[.ref a],[]⟩) (λr s'=>r=.ok (.ret (.bool true))/\OldK s₁.heap s'.heap/\s'.os=s₁.os/\AllBare s'.gens) s₁:=by
  intro H hO hT hS bT hA hK
  have rM:∀{b:Addr} {o:Obj},s₁.heap.get? b=some o->H b=none->(nJ s₁.heap H).get? b=some o:=λe n=>zp e n
  have IH:∀{b:Addr} {o:Obj} {es:Array DictEntry} {ep:Nat},s₁.heap.get? b=some o->o.data=.dict es ep->H b=none:=λ{b o es ep} e d=>by
   cases q:H b with
   | none=>rfl
   | some u=>
    rcases hA b (by rw[q];simp) with e' | e'
    ·subst e'
     rw[ha] at e;cases e
     have d':Data.seq vs.toArray _=Data.dict es ep:=d
     cases d'
    ·subst e'
     rw[lE] at e;cases e
     cases d
  have LV:∀{b:Addr} {m:Str->Option Value},s₁.heap.Ns b m->(nJ s₁.heap H).Ns b m:=λ{b m} ⟨o,es,ep,e,d,r⟩=>⟨o,es,ep,rM e (IH e d),d,r⟩
  have V3:K.In (nJ s₁.heap H):=λb o e=>rM (KX b o e) (by
   cases q:H b with
   | none=>rfl
   | some u=>
    rcases hA b (by rw[q];simp) with e' | e'
    ·subst e'
     rw[hK (by rw[q];simp)] at e;cases e
    ·subst e'
     rw[Yv] at e;cases e)
  have hM:Mod K mg (nJ s₁.heap H):=⟨V3,LV EB,⟨mb,LV hb,Nl⟩,let ⟨mc,h1,h2⟩:=F7;⟨mc,LV h1,h2⟩⟩
  have e0:vH P w K mg (nJ s₁.heap H) callerA [] s₁ H:=⟨rfl,hM,λb o e=>Cy e,Nat.le_of_eq (yl _ _),trivial,λb hb=>absurd (show b∈([]:List Addr) from hb) (by simp),bT,.of_eq hg⟩
  have Yw:pO (nJ s₁.heap H) mg tc tp:=by
   have look:∀{b:Addr} {o:Obj},s₁.heap.get? b=some o->b≠tp->o.cls≠.type "list"->(nJ s₁.heap H).get? b=some o:=λ{b o} e n c=>rM e (by
    cases q:H b with
    | none=>rfl
    | some u=>
     rcases hA b (by rw[q];simp) with e' | e'
     ·subst e'
      rw[ha] at e;cases e
      exact absurd rfl c
     ·exact absurd e' n)
   obtain⟨bm,o,b1,b2,b3,b4,b5,b6,b7⟩:=HV
   obtain⟨o',Jc,file,tf,flags,tg,Yx,text,tt,c1,c2,c3⟩:=VZ
   exact⟨⟨bm,o,b1,b2,b3,b4,look b5 b4 (λz=>by rw[b6] at z;injection z with z;exact absurd z (by decide)),b6,b7⟩,⟨o',Jc,file,tf,flags,tg,Yx,text,tt,look c1 c3.2.2.2.2.2.2.2 (λz=>by rw[c2] at z;injection z with z;exact absurd z (by decide)),c2,c3⟩⟩
  refine codeAny_mono ((F _ V3 (LV EB) Yw).run callerA [] s₁ H ⟨[.ref a],[]⟩ [.ref a] [.ref a] _ _ hr e0 (AL s₁ (.ref a)) (.cons rfl .nil) (Cm H hT hS)) λr s' h=>?_
  cases r with
  | error e=>exact(Nn H e s' h).elim
  | ok fl=>
   cases fl with
   | next=>exact False.elim h
   | brk=>exact False.elim h
   | cont=>exact False.elim h
   | ret u=>
    obtain⟨v,H',os,bare,un,Jk,r',q⟩:=h
    have q':v=.bl true:=q
    subst q'
    obtain rfl:u=Value.bool true:=r'
    have fin:∀b o,b≠tp->s₁.heap.get? b=some o->s'.heap.get? b=some o:=λb o hb e=>by
     cases q:H b with
     | none=>exact un.keep b o e q (by intro z;exact absurd (show b∈([]:List Addr) from z) (by simp)) (by simp)
     | some u=>
      rcases hO b hb with z | ⟨ob,xs,z⟩
      ·rw[q] at z;cases z
      ·have z2:=un.nH b ob _ z
       obtain⟨e1,_⟩:=bT b _ z
       obtain⟨e2,_⟩:=Jk b _ z2
       rw[e] at e1;cases e1
       exact e2
    obtain⟨more,hm⟩:=un.nI tp _ hT
    obtain⟨mo,e7,_⟩:=Jk tp _ hm
    have Jl:s'.heap.get? tp=some {cls:=.none,data:=.fields (#[]++mo)}:=by rw[Array.empty_append];exact e7
    refine⟨rfl,⟨λb o e=>?_,λb o e=>?_⟩,os,bare⟩
    ·by_cases hb:b=tp
     ·subst hb
      rw[lE] at e
      cases e
      exact .inr (.inl ⟨(VZ.tab lE).isCodeTable,rfl,_,mo,rfl,Jl⟩)
     ·exact .inl (fin b o hb e)
    ·by_cases hb:b=tp
     ·subst hb
      exact⟨_,Jl⟩
     ·exact⟨o,fin b o hb e⟩
 cases hk:K.lookup a with
 | some o=>
  have e:=KX a o hk
  rw[ha] at e
  cases e
  refine core (λb=>if b=tp then some (.tu dsc) else none) (λb hb=>.inl (if_neg hb)) (if_pos rfl) (.inr ⟨_,vs.toArray,_,hk,rfl,rfl,rfl,by rw[aal,Np];exact hl,by simpa using rv⟩) (λb u z=>?_) (λb z=>?_) λz=>absurd (if_neg (Ne.symm V0)) z
  ·by_cases hb:b=tp
   ·have z':=(if_pos hb).symm.trans z
    cases z'
    subst hb
    exact⟨#[],lE,.inl rfl⟩
   ·have z':=(if_neg hb).symm.trans z
    cases z'
  ·by_cases hb:b=tp
   ·exact .inr hb
   ·exact absurd (if_neg hb) z
 | none=>
  refine core (λb=>if b=tp then some (.tu dsc) else if b=a then some (.tq {cls:=.type "list",data:=.seq vs.toArray} (.lst (ns.map V.int))) else none) (λb hb=>?_) (if_pos rfl) (.inl (.inr ⟨{cls:=.type "list",data:=.seq vs.toArray},(if_neg (Ne.symm V0)).trans (if_pos rfl)⟩)) (λb u z=>?_) (λb z=>?_) λ_=>hk
  ·by_cases Dp:b=a
   ·exact .inr ⟨_,_,(if_neg hb).trans (if_pos Dp)⟩
   ·exact .inl ((if_neg hb).trans (if_neg Dp))
  ·by_cases hb:b=tp
   ·have z':=(if_pos hb).symm.trans z
    cases z'
    subst hb
    exact⟨#[],lE,.inl rfl⟩
   ·by_cases Dp:b=a
    ·have z':=((if_neg hb).trans (if_pos Dp)).symm.trans z
     cases z'
     subst Dp
     exact⟨ha,by rw[aac];exact hl,vs,_,rv,ha⟩
    ·have z':=((if_neg hb).trans (if_neg Dp)).symm.trans z
     cases z'
  ·by_cases hb:b=tp
   ·exact .inr hb
   ·by_cases Dp:b=a
    ·exact .inl Dp
    ·exact absurd ((if_neg hb).trans (if_neg Dp)) z
theorem AM {tp tc:Addr} {dsc:Array Value} {l:PySem.W.OpenLaw} {n k:Nat} {q:Program} {loose:List Str} {XP:(Str->Option Value)->Heap->Prop} {YP:World->Heap->Prop} {d:DefRec} {K:Params->PySem.W.Frag} {CX:World->kr} {sp:World->Sp} {x:Str}
  (hn:l.most=some n) (LL:n<=sizeLine) (IQ:d.params.defaults=[]) (hr:dc k callerA)
  (hY:∀(w:World) (h:Heap),YP w h->(K w.params).In h)
  (Nq:∀(w:World) (h:Heap),YP w h->h.get? tp=some (PySem.W.tabObj #[])/\PySem.W.CodeHd h tc tp/\(K w.params).lookup tp=none)
  (F:∀(w:World) (mg:Str->Option Value) (fa:Addr) (h:Heap),(K w.params).In h->h.Ns mainGlobals mg->mg d.name=some (.ref fa)->
   ∃fd:FuncData,(∀(s:Shared) (u:Value),BindsTo s fd ⟨[u],[]⟩ [(x,u)])/\
    ∀base:Heap,(K w.params).In base->base.Ns mainGlobals mg->pO base mg tc tp->eD l.prog w (K w.params) mg base (CX w) k fa fd [x] (sp w))
  (Cm:∀(w:World) (H:Hp) (a:Addr) (ns:List Int),ns.length<=n->H tp=some (.tu dsc)->bo (K w.params) H a (ns.map V.int)->sp w [.ref a] H (λv _=>v=.bl true) λ_ _ _=>False)
  (Nn:∀(w:World) (H:Hp) (s:Shared) (e:Value) (s':Shared),CX w [] H s (λ_ _ _=>False) e s'->False):
  PySem.W.WalkO q loose XP YP l.row.toRowW d [] (λf vs=>PySem.call f vs):=by
 refine Cn.tY hn IQ λw s₀ s₁ mg mb fa o pm cd doc a vs ns G Y ho hd tK IS FE hints hlen hg=>?_
 have KX:=hY w _ Y
 obtain⟨fd,hb,hF⟩:=F w mg fa _ KX G.T.g IS
 obtain⟨t1,t2,t3⟩:=Nq w _ Y
 have HV:s₁.heap.BuiltinsAt mg tp:=by
  obtain⟨bm,ob,b1,b2,b3,b4,b5,b6⟩:=G.T.bmain
  refine⟨bm,ob,b1,b2,λq=>?_,λq=>?_,b3,b4,b5,b6⟩
  ·obtain⟨o,es,ep,e,hd,_⟩:=G.T.g
   rw[q,e] at b3;cases b3;rw[hd] at b6;cases b6
  ·rw[q,t1] at b3;cases b3;cases b4
 exact law_callT KX G.T.g G.T.b G.T.builtins G.T.nolimit hg FE hints (aap hlen LL) hr t1 t2 t3 HV hF hb (λH hO hS=>Cm w H a ns hlen hO hS) λH e s'=>Nn w H s₁ e s'
end L2
namespace L2
open PySem PySem.Spec PyProof.Rows
structure oI (P:Program) (w:World) (K:PySem.W.Frag) (mg:Str->Option Value) (base:Heap) (CX:kr) (k:Nat) (C:Addr) (m:Str) (ps:List Str) (sp:Sp):Prop where
 ex:∃f fd,zH K C m f/\eD P w K mg base CX k f fd ps sp/\Binds K fd ps []
section
variable {X : Cx} {CX : kr} {k : Nat} {C : Addr} {m : Str} {ps : List Str} {sp : Sp} {E : XK} {e o : Expr} {es : List Expr} {ta : TE} {t : TA} {pos apos : Pos} {pl : Sem Bool}
theorem Jm (M:oI X.prog X.w X.K X.mg X.base CX k C m ps sp) (c:yy X.K C) (he:PE X o ta) (hr:dc k X.A) (hx:eN CX X E) (ha:PA X (e::es) t)
  (hst:starEach (e::es) X.env=(false,eval e X.env)::starEach es X.env:=by rfl) (hpl:(backTo pos (starEach es X.env)).any (·.1)=false:=by rfl)
  (ht:eval (.Call (.Attribute o m apos) (e::es) [] pos) X.env=(do
   let ov <-eval o X.env
   standAt apos.atName
   let (f,first) <-holding [ov] (getMethod ov m pl)
   callWith pos f first (backTo pos (starEach (e::es) X.env)) (backToKw pos (keywordEach [] X.env))):=by rfl):
  PE X (.Call (.Attribute o m apos) (e::es) [] pos) (qd C m sp [] E ta t):=by
 obtain⟨f,fd,hm,F,hb⟩:=M.ex
 exact CL he c hm F hr hb .nil hx ha hst hpl ht
theorem F8 (M:oI X.prog X.w X.K X.mg X.base CX k C m ps sp) (c:yy X.K C) (he:PE X o ta) (hr:dc k X.A) (hx:eN CX X E)
  (ht:eval (.Call (.Attribute o m apos) [] [] pos) X.env=(do
   let ov <-eval o X.env
   standAt apos.atName
   let (f,first) <-holding [ov] (getMethod ov m pl)
   callWith pos f first (backTo pos (starEach [] X.env)) (backToKw pos (keywordEach [] X.env))):=by rfl):
  PE X (.Call (.Attribute o m apos) [] [] pos) (qd C m sp [] E ta tNil):=by
 obtain⟨f,fd,hm,F,hb⟩:=M.ex
 exact zK he c hm F hr hb .nil hx ht
end
structure LW (K:PySem.W.Frag) (C:Addr) (m qual:Str) (st:Stmt):Prop where
 ex:∃f fd,vO K m qual st f fd/\zH K C m f
theorem LW.d3 {P:Program} {w:World} {K:PySem.W.Frag} {mg:Str->Option Value} {base:Heap} {CX:kr} {m qual:Str} {st:Stmt} {C:Addr} {ps:List Str} {k:Nat} {sp:Sp} (D:LW K C m qual st)
  (hb:∀(kV doc pm:Value) (an:Option Addr) (cG ct:Value) (us:List Value),us.length=ps.length->bindArgs (PySem.W.fnOf m qual (aM st) (aL st) (af st) .none kV doc pm an cG ct) ⟨us,[]⟩=pure (ps.zip us))
  (h:∀f fd,vO K m qual st f fd->eD P w K mg base CX k f fd ps sp):oI P w K mg base CX k C m ps sp:=by
 obtain⟨f,fd,F,hm⟩:=D.ex
 exact⟨f,fd,hm,h f fd F,F.binds hb⟩
end L2
namespace L2
open PySem PySem.Spec PyProof.Rows PySem.W
abbrev iH (mp:Pos):Arguments:={posonlyargs:=[],args:=[{arg:="members",annotation:=none,pos:=mp}],vararg:=none,kwonlyargs:=[],kw_defaults:=[],kwarg:=none,defaults:=[]}
abbrev gG (p2 p3 p4 p5 p6 p7 p8:Pos):Expr:=.Call (.Name "len" p2) [.Subscript (.Name "reach" p3) (.Subscript (.Name "members" p4) (.Constant (.int 0) 0 p5) p6) p7] [] p8
abbrev df:Scope:={kind:=.function,names:=[(Str.ofString "members",.local),(Str.ofString "reach",.free),(Str.ofString "len",.globalImplicit)],isGenerator:=false,isCoroutine:=false,more:=[]}
section
variable {prog : Program} {w : World} {A : Around} {s : Shared}
theorem AN {mg mb:Str->Option Value} {qual:Str} {mp p2 p3 p4 p5 p6 p7 p8:Pos} {Dq:List (Str×Addr)} {pm EE:Value} {f c1 cell ra b d:Addr} {rs ms:Array Value} {i:Int} {t0:Tok} {kvs:List (Key×Value)} {Q:Value->Shared->Prop} {E:Value->Shared->Prop}
  (hf:s.heap.get? f=some (kla_obj "<lambda>" qual (iH mp) (gG p2 p3 p4 p5 p6 p7 p8) df Dq pm c1 EE)) (tK:s.heap.CodeRec (.ref c1) qual) (Jn:A.depth<recursionLimit) (F7:s.heap.NoLimit)
  (hg:s.heap.Ns mainGlobals mg) (hlen:mg "len"=none) (hb:s.heap.Ns builtinsNs mb) (Nl:∀x:Str,x≠"__name__"->mb x=bootBuiltins x)
  (Dc:Dq.lookup (Str.ofString "reach")=some cell) (qb:s.heap.IsCell cell (some (.ref ra))) (LX:s.heap.IsList ra rs) (Yy:s.heap.IsList b ms) (h0:ms[0]?=some (.int i t0)) (Yz:0<=i) (hi:i<2^63)
  (Nr:rs[i.toNat]?=some (.ref d)) (hd:(d==sysModules)=false) (dd:s.heap.DictOf (cq prog w) d kvs) (FC:(kvs.length:Int)<2^63)
  (h:∀h' tk t,(∀x o,s.heap.get? x=some o->h'.get? x=some o)->Q (.int kvs.length t) {s with heap:=h',toks:=tk}):
  wpAny (model prog w) A (call (.ref f) [.ref b]) Q E s:=by
 refine wpAny_call (kla_callFunE Jn hf rfl rfl rfl rfl tK ?_)
 have AL:bindArgs (kla_fn "<lambda>" qual (iH mp) (gG p2 p3 p4 p5 p6 p7 p8) df Dq pm (.ref c1) EE) ⟨[.ref b],[]⟩=pure [(Str.ofString "members",.ref b)]:=rfl
 rw[AL]
 have YA:∀x∈df.names,x.2≠NameKind.cell:=by ac_rfl
 have IW:∀x∈[(Str.ofString "members",Value.ref b)],df.names.lookup x.1=some NameKind.local:=λx hx=>by rw[List.mem_singleton.mp hx];rfl
 refine wpAny_pure (wpAny_newFunctionEnv YA IW (λh₁ EB V4=>⟨F7.fresh _ V4,?_⟩) rfl)
 have hk:∀x o,s.heap.get? x=some o->h₁.get? x=some o:=λx o e=>V4.extBut x o (aao (Heap.lt_size e)) (Heap.get?_push_of_some _ e)
 show codeAny _ _ (.expr (gG p2 p3 p4 p5 p6 p7 p8) (envX qual df s.heap.objs.size f (.ref c1) Dq)) _ _
 refine kla_codeExpr ?_
 refine wpAny_Call_Name_kw (Calls.Name_function_global rfl rfl (Calls.loadGlobal_builtin (hg.keeps hk) hlen (hb.keeps hk) ((Nl _ (by decide)).trans (show bootBuiltins "len"=some (.builtin "len") from rfl)) ?_) (by decide))
 refine PyProof.Rows.callWith_builtin1 ?_
 refine Calls.spliced_cons (Subscript_ (wpAny_Name (wpAny_loadName_free rfl rfl Dc (qb.keeps hk) ?_)))
 refine Subscript_ (wpAny_Name (wpAny_loadName_local rfl rfl EB (v:=.ref b) rfl (wpAny_Constant_int ?_)))
 obtain⟨om,m1,m2,m3⟩:=Yy
 obtain⟨orr,r1,r2,r3⟩:=LX
 refine item_listR (s:={s with heap:=h₁,toks:=_}) (l:=b) (items:=ms) ⟨om,hk _ _ m1,m2,m3⟩ (by decide) (by decide) (x:=.int i t0) h0 ?_
 refine item_listR (s:={s with heap:=h₁,toks:=_}) (l:=ra) (items:=rs) ⟨orr,hk _ _ r1,r2,r3⟩ Yz hi (x:=.ref d) Nr (Calls.spliced_nil ?_)
 obtain⟨o,es,ep,e1,e2⟩:=dd
 exact call_len_dict hd (show(Shared.mk _ _ _ _ _).heap.DictOf (cq prog w) d kvs from⟨o,es,ep,hk _ _ e1,e2⟩) FC (h _ _ _ hk)
end
noncomputable def AO (tp:Addr) (dsc:Array Value) (i:Nat) (te:TE):TE:=λσ H Q=>te σ H λv H1=>∃(a:Addr) (bs:List Addr) (key:Addr->Int) (ra:Addr) (rs:List V),v=.ref a/\H1 a=some (.lst (List.map V.ref bs))/\bs.length<64/\σ[i]?=some (some (.ref ra))/\H1 ra=some (.lst rs)/\H1 tp=some (.tu dsc)/\
 (∀b∈bs,∃j xs d kvs,H1 b=some (.lst (.int j::xs))/\0<=j/\j<1000000/\rs[j.toNat]?=some (.ref d)/\H1 d=some (.dK kvs)/\key b=(kvs.length:Int))/\
 ∀p cs H2,az H1 H2->H1 p=none->H2 p=some (.lst (List.map V.ref cs))->cs.Perm bs->cs.Pairwise (λb c=>key b<=key c)->Q (.ref p) H2
noncomputable def Cr:Value->Addr
 | .ref a=>a
 | _=>0
theorem qD:∀{bs:List Addr} {aV:List Value},bz (bs.map V.ref) aV->aV=bs.map Value.ref
 | [],_,.nil=>rfl
 | _::bs,_,.cons r t=>by rw[qD (bs:=bs) t,show _=Value.ref _ from r];rfl
section
variable {X : Cx}
theorem AQ {i k:Nat} {tc tp:Addr} {dsc:Array Value} {t0:Tok} {e:Expr} {te:TE} {p1 pos kp lp mp p2 p3 p4 p5 p6 p7 p8:Pos} (hg:Gl X "sorted") (hm:X.mg "sorted"=none) (hl:X.mg "len"=none) (hB:pO X.base X.mg tc tp)
  (EF:X.env.code=.ref tc) (hr:dc k X.A) (Jo:dsc=#[rawInt lp.line,rawInt lp.col,.str (X.env.qual++"<lambda>") t0]) (he:PE X e te) (hN:X.N[i]?=some "reach":=by rfl) (hv:X.env.kindOf "reach"=some .cell:=by rfl) (n1:noStar e=true:=by rfl):
  PE X (.Call (.Name "sorted" p1) [e] [⟨some "key",.Lambda (iH mp) (gG p2 p3 p4 p5 p6 p7 p8) df lp,kp⟩] pos) (AO tp dsc i te):=by
 intro pins s σ H Q I h
 refine wpAny_Call_Name_kw (g8 I hg hm (u:=.builtin "sorted") rfl ?_ (by decide) (by decide))
 refine PyProof.Rows.callWith_kw (e:=e) (rest:=[]) ?_ (by rw[se n1];rfl) (by rw[se n1];rfl) rfl rfl
 rw[se n1]
 show wpAny _ _ (spliced [(false,eval e X.env)]) _ _ s
 refine Calls.spliced_cons (cB (he pins s σ H _ I h) λu s1 ⟨x,H1,I1,r1,q1⟩=>Calls.spliced_nil ?_)
 obtain⟨a,bs,key,ra,rs,rfl,ha,F1,eσ,LX,lE,YB,q⟩:=q1
 cases r1
 obtain⟨cell,ec⟩:=I1.ok.has "reach" (.inl hv)
 obtain⟨cl,V5,c1,c2,c3⟩:=fv (env:=X.env) (scope:=df) (λn hn=>by
  have:n="reach":=by
   simp only[List.mem_cons,Prod.mk.injEq,List.not_mem_nil,or_false] at hn
   rcases hn with ⟨_,z⟩ | ⟨z,_⟩ | ⟨_,z⟩
   ·cases z
   ·exact z
   ·cases z
  rw[this]
  exact⟨cell,ec⟩)
 have Dc:cl.lookup (Str.ofString "reach")=some cell:=by
  obtain⟨c,ee⟩:=c2 "reach" (.tail _ (.head _))
  have:=c1 _ _ ee
  rw[ec] at this
  cases this
  exact ee
 have mk:∀R:Value->Shared->Prop,(∀f c1 pm EE H2 s2,Inv X pins σ H2 s2->az H1 H2->s2.heap.get? f=some (kla_obj "<lambda>" (X.env.qual++"<lambda>") (iH mp) (gG p2 p3 p4 p5 p6 p7 p8) df cl pm c1 EE)->s2.heap.CodeRec (.ref c1) (X.env.qual++"<lambda>")->R (.ref f) s2)->
   wpAny (model X.prog X.w) X.A (makeFunction "<lambda>" (X.env.qual++"<lambda>") (iH mp) (.expr (gG p2 p3 p4 p5 p6 p7 p8)) df X.env [] [] [] lp lp.line) R X.xe s1:=by
  intro R hR
  obtain⟨mo,e1,e2⟩:=I1.bT tp _ lE
  have Nt:=I1.mod.glob.keeps I1.bk
  have hC:=hB.code.keeps I1.bk
  have V6:=hB.blt.keeps I1.bk
  rcases e2 with rfl | ⟨l,c,c',qn,t,f1,rfl,f3,f4⟩
  ·refine kla_makeFunction (mg:=X.mg) (c:=tc) (P:=tp) V5 I1.ok.glob Nt EF hC e1 trivial rfl (λz=>?_) V6 λc' EE h' tk hx EA fE Nu LY=>?_
   ·obtain⟨o,es,ep,ee,hd,_⟩:=Nt
    rw[z,e1] at ee;cases ee;cases hd
   have LY:h'.get? tp=some (tabObj #[rawInt lp.line,rawInt lp.col,.ref c']):=LY
   have nc:H1 c'=none:=I1.bT.fresh EA
   have ntc:tp≠c':=λz=>by rw[z,nc] at lE;cases lE
   have kk:∀b o,b≠tp->s1.heap.get? b=some o->(h'.push (kla_obj "<lambda>" (X.env.qual++"<lambda>") (iH mp) (gG p2 p3 p4 p5 p6 p7 p8) df cl ((X.mg "__name__").getD .none) c' EE)).get? b=some o:=λb o hb ee=>Heap.get?_push_of_some _ (hx b o hb ee)
   obtain⟨V7,oc,vs,t2,g1,g2,g3,g4⟩:=Nu
   cases g1
   refine hR _ c' _ _ (upd H1 c' (.own tp)) _ (I1.un (t':=tk) ⟨λb o ee n _ _=>kk b o (λz=>by rw[z,lE] at n;cases n) ee,λb o ee n _ _=>⟨o.slots,kk b o (λz=>by rw[z,lE] at n;cases n) ee⟩,λb o ee n _=>?_,λb o ee _=>?_,λb xs ee=>?_,λb o u ee=>?_,λb ps ee=>⟨#[],?_⟩⟩ λb o ee=>?_) (λb o ee=>?_) (Heap.get?_push_size _ rfl) ⟨c',oc,vs,t2,rfl,Heap.get?_push_of_some _ g2,g3,g4⟩
   ·rw[aJ (aao (aau (Heap.lt_size ee) EA))];exact n
   ·by_cases hb:b=tp
    ·subst hb;exact⟨_,Heap.get?_push_of_some _ LY⟩
    ·exact⟨o,kk b o hb ee⟩
   ·rw[aJ (bD ee nc)];exact ee
   ·rw[aJ (bD ee nc)];exact ee
   ·rw[aJ (bD ee nc),ee,Array.append_empty]
   ·by_cases hb:b=c'
    ·subst hb
     rw[ar] at ee
     cases ee
     exact⟨oc,Heap.get?_push_of_some _ g2⟩
    ·rw[aJ hb] at ee
     by_cases V8:b=tp
     ·subst V8
      rw[lE] at ee
      cases ee
      exact⟨_,Heap.get?_push_of_some _ LY,.inr ⟨_,_,c',_,_,Jo,rfl,ar,c',oc,vs,t2,rfl,Heap.get?_push_of_some _ g2,g3,g4⟩⟩
     ·refine(I1.bT b o ee).pI (λx u qc e3=>kk x u (λz=>?_) e3) (λx e3=>by rw[aJ (bD e3 nc)];exact e3) λx xs e3=>by rw[aJ (bD e3 nc)];exact e3
      rcases qc with qc | qc
      ·exact V8 (qc.symm.trans z)
      ·rw[z,lE] at qc;cases qc
   ·rw[aJ (bD ee nc)];exact ee
  ·rw[Jo] at f1
   have f1:=congrArg Array.toList f1
   simp only[List.cons.injEq,and_true] at f1
   obtain⟨f1,f2,f5⟩:=f1
   injection f5 with f5 _
   subst f1 f2 f5
   have ht:TriplesOk [rawInt lp.line,rawInt lp.col,Value.ref c']:=by simp [TriplesOk,rawInt]
   have hf:codeAmong lp [rawInt lp.line,rawInt lp.col,Value.ref c']=some (.ref c'):=by simp [codeAmong,rawInt]
   refine kla_makeFunctionHit (mg:=X.mg) (c:=tc) (P:=tp) V5 I1.ok.glob Nt EF hC e1 ht hf V6 λEE h' tk hk hsz=>?_
   obtain⟨V7,oc,vs,t2,g1,g2,g3,g4⟩:=f4
   cases g1
   exact hR _ c' _ _ H1 _ (I1.kept (t':=tk) λb o ee=>Heap.get?_push_of_some _ (hk b o ee)) (az.refl _) (Heap.get?_push_size _ rfl) ⟨c',oc,vs,t2,rfl,Heap.get?_push_of_some _ (hk _ _ g2),g3,g4⟩
 refine PyProof.Rows.kws_cons (kla_eval rfl (mk _ λf c' pm EE H2 s2 I2 sm hf tK=>PyProof.Rows.kws_nil ?_))
 show wpAny _ _ (call (.builtin "sorted") [.ref a] [(Str.ofString "key",.ref f)]) _ _ _
 obtain⟨m2,F9,CQ⟩:=I2.loc
 obtain⟨aV,n,rv,eo,hz⟩:=I2.lst (sm _ _ ha)
 have Nv:=qD rv
 subst Nv
 have qb:s2.heap.IsCell cell (some (.ref ra)):=by
  obtain⟨u,ru,lu⟩:=CQ i "reach" (.ref ra) hN eσ (.inr (.inl hv))
  cases ru
  rcases lu with ⟨hk,_⟩ | ⟨_,c,e1,e2⟩
  ·rw[hv] at hk;cases hk
  ·rw[ec] at e1;cases e1;exact e2
 have nL:∀{b:Addr} {u:HO},H2 b=some u->b≠X.env.locals:=λe z=>by rw[z,I2.free] at e;cases e
 have dL:∀{b:Addr} {o:Obj},s2.heap.get? b=some o->(∀es ep,o.data≠.dict es ep)->b≠X.env.locals:=λe hd z=>by
  obtain⟨o',es,ep,e',Iu,_⟩:=F9
  rw[z,e'] at e;cases e;exact hd es ep Iu
 refine ksk_sorted (h₀:=Cn.rh s2.heap) (L:=X.env.locals) (m:=m2) (news:=Cn.ledger s2.heap X.env.locals X.env.locals) (kz:=bs.map key) (vs:=bs.map Value.ref) (f:=.ref f) (b:=false) (Cn.FF F9)
  (λp hp=>by obtain⟨x,o⟩:=p;obtain⟨n1,_,ee⟩:=Cn.gv.mp hp;exact⟨ee,n1,Cn.nX _ _⟩) ⟨_,eo,rfl,_,rfl⟩ (by rw[aac,aac]) (by rw[aac];exact F1) (ksk_s1 _ _) (λx=>ksk_l1 _ _) (λx=>ksk_t1 _ _) ?turn ?done
 case turn=>
  intro j v k0 ev ek h3 tk own F3 N3
  rw[aaf] at ev ek
  obtain⟨b,eb,rfl⟩:=Option.map_eq_some_iff.mp ev
  rw[eb] at ek
  cases ek
  have kp:∀x o,x≠X.env.locals->s2.heap.get? x=some o->h3.get? x=some o:=λx o hx ee=>(N3 (x,o) (abu _ (Cn.gv.mpr ⟨hx,hx,ee⟩))).1
  have kb:∀x o,X.base.get? x=some o->h3.get? x=some o:=λx o ee=>kp x o (λz=>by
   have l1:x<X.base.objs.size:=Heap.lt_size ee
   have l2:=I2.ok.zt
   have l3:=I2.ok.above
   rw[z] at l1
   exact absurd (aau l1 (aap l2 l3)) (aaG _)) (I2.bk x o ee)
  obtain⟨j0,xs,d,kvs,hb,g0,g1,gd,hd,Nw⟩:=YB b (aag eb)
  obtain⟨itb,nb,YC,YD,_⟩:=I2.lst (sm _ _ hb)
  obtain⟨itr,nr,YE,YF,_⟩:=I2.lst (sm _ _ LX)
  obtain⟨mb,YG,Nx⟩:=I2.mod.blt
  obtain⟨ui,YH,t1,rfl⟩:=YC.get (i:=0) (x:=.int j0) rfl
  obtain⟨ud,YI,YJ⟩:=YE.get gd
  obtain rfl:ud=Value.ref d:=YJ
  obtain⟨z1,YK,vs,rel,o,es,ep,ed,Ny⟩:=I2.bT d _ (sm _ _ hd)
  obtain⟨V7,oc,Mx,t2,w1,w2,w3,w4⟩:=tK
  cases w1
  obtain⟨oe,V9,Wb⟩:=qb
  have sl:=sizeLine_eq
  have rl:=rel.length
  refine AN (s:={s2 with heap:=h3,toks:=tk}) (kvs:=vs) (kp _ _ (dL hf λ_ _ z=>by cases z) hf) ⟨c',oc,Mx,t2,rfl,kp _ _ (dL w2 λ_ _ z=>by rw[w3] at z;cases z) w2,w3,w4⟩ hr.depth (I2.mod.nolimit.keeps kb) (I2.mod.glob.keeps kb) hl (YG.keeps kb) Nx Dc
   ⟨oe,kp _ _ (dL V9 λ_ _ z=>by rw[Wb] at z;cases z) V9,Wb⟩ ⟨_,kp _ _ (nL (sm _ _ LX)) YF,rfl,_,rfl⟩ ⟨_,kp _ _ (nL (sm _ _ hb)) YD,rfl,_,rfl⟩ (by simpa using YH) g0 (by omega) (by simpa using YI) YK ⟨o,es,ep,kp _ _ (nL (sm _ _ hd)) ed,Ny⟩ (by omega) λh4 YL t4 k4=>?_
  rw[Nw,show((kvs.length:Nat):Int)=((vs.length:Nat):Int) by rw[rl]]
  exact⟨h4,YL,t4,rfl,rfl,F3.kept k4,N3.grown k4⟩
 case done=>
  intro D h3 tk out c F3 N3 lt ko
  obtain⟨ps,hp,ho,hs⟩:=ko
  have ez:(bs.map key).zip (bs.map Value.ref)=bs.map λb=>(key b,Value.ref b):=by
   rw[List.zip_map',]
  rw[ez] at hp
  have mem:∀p∈ps,p=(key (Cr p.2),Value.ref (Cr p.2)):=λp ia=>by
   obtain⟨b,_,rfl⟩:=List.mem_map.mp (hp.mem_iff.mp ia)
   rfl
  have nd:(D:Addr)≠X.env.locals:=(N3 _ (.head _)).2.1
  have dn:s2.heap.get? D=none:=by
   cases ee:s2.heap.get? D with
   | none=>rfl
   | some o=>exact absurd (lt (D,o) (Cn.gv.mpr ⟨nd,nd,ee⟩)) (aaG _)
  have hD:H2 D=none:=by
   cases ee:H2 D with
   | none=>rfl
   | some o=>
    obtain⟨ob,e'⟩:=cw.get (I2.bT D o ee)
    rw[dn] at e';cases e'
  have kp:∀x o,x≠X.env.locals->s2.heap.get? x=some o->h3.get? x=some o:=λx o hx ee=>(N3 (x,o) (aaj _ (Cn.gv.mpr ⟨hx,hx,ee⟩))).1
  have Nz:out=((ps.map λp=>Cr p.2).map Value.ref).toArray:=by
   have:out.toList=(ps.map λp=>Cr p.2).map Value.ref:=by
    rw[ho,aaT]
    exact List.map_congr_left λp ia=>congrArg Prod.snd (mem p ia)
   rw[<-this,Array.toArray_toList]
  have pm:(ps.map λp=>Cr p.2).Perm bs:=by
   have:=hp.map λp=>Cr p.2
   rw[aaT] at this
   exact this.trans (List.Perm.of_eq (by rw[show((λp:Int×Value=>Cr p.2) ∘λb=>(key b,Value.ref b))=id from rfl,List.map_id]))
  have pl:=pm.length_eq
  have Wc:=(N3 _ (.head _)).1
  have sl:=sizeLine_eq
  refine⟨.ref D,upd H2 D (.lst ((ps.map λp=>Cr p.2).map V.ref)),I2.step (ch:=[]) (g':=s2.gens) (d':=s2.drawn) (t':=tk) (λ_ z=>nomatch z) (λb o h1 _ _ ee _=>kp b o h1 ee) (λb o h1 _ _ ee _=>⟨o.slots,kp b o h1 ee⟩) (λb o _ ee n=>?_) (λb o _ ee=>?_) (λb xs ee=>?_) (λb o u ee=>?_) (λb qs ee=>⟨#[],?_⟩) (λm hn=>?_) (λb o ee=>?_) I2.bare,rfl,?_⟩
  ·rw[aJ (λz=>by rw[z,dn] at ee;cases ee)];exact n
  ·by_cases hb:b=X.env.locals
   ·obtain⟨o',_,_,e',_⟩:=F3.ns
    exact⟨o',by rw[hb];exact e'⟩
   ·exact⟨o,kp b o hb ee⟩
  ·rw[aJ (bD ee hD)];exact ee
  ·rw[aJ (bD ee hD)];exact ee
  ·rw[aJ (bD ee hD),ee,Array.append_empty]
  ·have e1:=hn.eq_nsMap
   have e2:=F9.eq_nsMap
   rw[e1,<-e2]
   exact F3.ns
  ·by_cases hb:b=D
   ·subst hb
    rw[ar] at ee
    cases ee
    refine⟨by rw[aac,pl];omega,(ps.map λp=>Cr p.2).map Value.ref,c,?_,by rw[Nz] at Wc;exact Wc⟩
    generalize (ps.map λp=>Cr p.2)=cs
    induction cs with
    | nil=>exact .nil
    | cons x cs ih=>exact .cons rfl ih
   ·rw[aJ hb] at ee
    refine(I2.bT b o ee).pI (λx u qc e3=>kp x u (λz=>?_) e3) (λx e3=>by rw[aJ (bD e3 hD)];exact e3) λx xs e3=>by rw[aJ (bD e3 hD)];exact e3
    rcases qc with qc | qc
    ·subst qc;exact nL ee z
    ·exact nL qc z
  ·refine q D _ _ (sm.trans λb o ee=>by rw[aJ (bD ee hD)];exact ee) ?_ ar pm ?_
   ·cases ee:H1 D with
    | none=>rfl
    | some o=>rw[sm _ _ ee] at hD;cases hD
   ·rw[List.pairwise_map]
    refine hs.imp_of_mem λ{x y} hx hy hle=>?_
    have hle:x.1<=y.1:=hle
    rw[mem x hx,mem y hy] at hle
    exact hle
end
noncomputable def Jp (K:PySem.W.Frag) (mg:Str->Option Value) (x:Str) (tc:Addr):Prop:=∃f oc od fd zg,mg x=some (.ref f)/\K.lookup f=some ⟨oc,od,.func fd,zg⟩/\fd.code=.ref tc
section
variable {P : Program} {w : World} {K : PySem.W.Frag} {mg : Str -> Option Value} {base : Heap} {CX : kr}
theorem vO.YM {x qual:Str} {st:Stmt} {f tc:Addr} {fd:FuncData} {N ps:List Str} {k:Nat} {sp:Sp} (F:vO K x qual st f fd) (hc:fd.code=.ref tc) (S:aQ N ps (af st)) (len:∀vs H Q E,sp vs H Q E->vs.length=ps.length)
  (tP:∀(A:Around) (outer:List Env) (s:Shared) (H:Hp) (vs:List V) (Q:VK) (E:XK),dc k (A.deeper (envOfC qual (af st) s.heap.objs.size f (.ref tc)))->sp vs H Q E->
   ∃t,vf (vJ CX P w K mg base N qual (af st) f (.ref tc) A outer s H E).HK (aL st) t/\t {nx:=λ_ H'=>Q .b9 H',rt:=Q} (start N vs) H):eD P w K mg base CX (k+1) f fd ps sp:=by
 obtain⟨oc,od,kV,doc,pm,an,cG,ct,zg,rfl,lk,tK⟩:=F.ex
 have hc:cG=.ref tc:=hc
 subst hc
 refine Er lk tK S len λA outer s H vs Q E hr Cm=>?_
 obtain⟨t,h,q⟩:=tP A outer s H vs Q E hr Cm
 exact⟨t,h.HK,q⟩
theorem Dn.NA {x:Str} {st:Stmt} {ps:List Str} {k:Nat} {sp:Sp} {tc:Addr} (D:Dn K mg x st) (L:Jp K mg x tc)
  (hb:∀(kV doc pm:Value) (an:Option Addr) (cG ct:Value) (us:List Value),us.length=ps.length->bindArgs (PySem.W.fnOf x x (aM st) (aL st) (af st) .none kV doc pm an cG ct) ⟨us,[]⟩=pure (ps.zip us))
  (h:∀f fd,vO K x x st f fd->fd.code=.ref tc->eD P w K mg base CX k f fd ps sp):bU P w K mg base CX k x ps sp:=by
 obtain⟨f,fd,F,hm⟩:=D.ex
 obtain⟨f',oc,od,fd',zg,h1,h2,h3⟩:=L
 rw[hm] at h1
 cases h1
 obtain⟨oc',od',_,_,_,_,_,_,YN,_,lk,_⟩:=F.ex
 rw[lk] at h2
 cases h2
 exact⟨f,fd,h f fd F h3,hm,F.kp,F.binds hb⟩
end
end L2
namespace L2
open PySem PySem.Spec PyProof.Rows PySem.W
mutual
noncomputable def uk:PyData->Bool
 | .none=>true
 | .int _=>true
 | .str x=>PyData.canLay0 (.str x)
 | .tuple xs=>um xs
 | .list xs=>um xs
 | _=>false
noncomputable def um:List PyData->Bool
 | []=>true
 | x::xs=>uk x && um xs
end
mutual
theorem m7:∀(d:PyData),uk d=true->d.canLay0=true
 | .none,_=>by simp [PyData.canLay0]
 | .bool _,h=>by simp [uk] at h
 | .int _,_=>by simp [PyData.canLay0]
 | .str x,h=>by rw[uk] at h;exact h
 | .list xs,h=>by rw[uk] at h;rw[PyData.canLay0];exact oJ xs h
 | .tuple xs,h=>by rw[uk] at h;rw[PyData.canLay0];exact oJ xs h
 | .dict _,h=>by simp [uk] at h
theorem oJ:∀(xs:List PyData),um xs=true->PyData.canLayAll0 xs=true
 | [],_=>by simp [PyData.canLayAll0]
 | x::xs,h=>by
  rw[um,aa4] at h
  rw[PyData.canLayAll0,aa4]
  exact⟨m7 x h.1,oJ xs h.2⟩
end
mutual
theorem xv:∀(x y:PyData),uk x=true->uk y=true->PyData.eqv x y=decide (x=y)
 | .none,y,_,hy=>by cases y <;>simp [PyData.eqv]
 | .int i,y,_,hy=>by
  cases y with
  | int j=>
   rw[PyData.eqv]
   by_cases c:i=j
   ·subst c;simp
   ·rw[decide_eq_false (λe=>c (by injection e))]
    simp [c]
  | bool _=>simp [uk] at hy
  | _=>simp [PyData.eqv]
 | .str a,y,_,hy=>by
  cases y with
  | str b=>
   rw[PyData.eqv]
   by_cases c:a=b
   ·subst c;simp
   ·rw[decide_eq_false (λe=>c (by injection e))]
    simp [c]
  | _=>simp [PyData.eqv]
 | .tuple xs,y,hx,hy=>by
  cases y with
  | tuple ys=>
   rw[uk] at hx hy
   rw[PyData.eqv,oK xs ys hx hy]
   by_cases c:xs=ys
   ·subst c;simp
   ·rw[decide_eq_false c,decide_eq_false (λe=>c (by injection e))]
  | _=>simp [PyData.eqv]
 | .list xs,y,hx,hy=>by
  cases y with
  | list ys=>
   rw[uk] at hx hy
   rw[PyData.eqv,oK xs ys hx hy]
   by_cases c:xs=ys
   ·subst c;simp
   ·rw[decide_eq_false c,decide_eq_false (λe=>c (by injection e))]
  | _=>simp [PyData.eqv]
 | .bool _,_,h,_=>by simp [uk] at h
 | .dict _,_,h,_=>by simp [uk] at h
theorem oK:∀(xs ys:List PyData),um xs=true->um ys=true->PyData.eqvAll xs ys=decide (xs=ys)
 | [],[],_,_=>by simp [PyData.eqvAll]
 | [],_::_,_,_=>by simp [PyData.eqvAll]
 | _::_,[],_,_=>by simp [PyData.eqvAll]
 | x::xs,y::ys,hx,hy=>by
  rw[um,aa4] at hx hy
  rw[PyData.eqvAll,xv x y hx.1 hy.1,oK xs ys hx.2 hy.2]
  by_cases c:x=y
  ·subst c
   by_cases d:xs=ys
   ·subst d;simp
   ·rw[decide_eq_false d,decide_eq_false (λe=>d (List.cons.inj e).2)];simp
  ·rw[decide_eq_false c,decide_eq_false (λe=>c (List.cons.inj e).1)];simp
end
section
variable {X : Cx} {K : PySem.W.Frag}
noncomputable def Ke (d:Dat):Prop:=uk (toP d)=true/\(toP d).depth<=8
theorem Ga {A:Around} {s:Shared} {a b:PyData} {u v:Value} {as bs:List Addr} (ra:Reads s.heap u a as) (rb:Reads s.heap v b bs) (ha:uk a=true) (hb:uk b=true) (da:a.depth<=8) (db:b.depth<=8) (hu:A.units+8<cLine):SeqAt.EqAt A s u v (decide (a=b)):=λprog w E Q h=>
 SeqAt.eqBoolOverData _ _ _ _ _ _ _ _ _ _ _ _ ra rb (m7 _ ha) (m7 _ hb) (by omega) (by rw[xv _ _ ha hb];exact h)
theorem AR {s:Shared} {ds:List Dat} {d:Dat} (me:∀e∈ds,Ke e) {u:Value} {e:Dat} {bs:List Addr} [Decidable (∃cs,Reads s.heap u (toP d) cs)] (he:e∈ds) (re:Reads s.heap u (toP e) bs):decide (∃cs,Reads s.heap u (toP d) cs)=decide (toP e=toP d):=by
 by_cases c:toP e=toP d
 ·rw[decide_eq_true c,decide_eq_true ⟨bs,by rw[<-c];exact re⟩]
 ·rw[decide_eq_false c,decide_eq_false]
  rintro⟨cs,rc⟩
  exact c (SeqAt.Reads.unique _ _ _ _ _ (m7 _ (me e he).1) re rc)
noncomputable def NB:V->List V->Hp->VK->Prop:=λx vs H Q=>∃l xs ds v d i,x=.ref l/\vs=[v]/\H l=some (.lst xs)/\bu H ds xs/\(∀e∈ds,Ke e)/\Rep H d v/\Ke d/\(ds.map toP)[i]?=some (toP d)/\(∀j,j<i->(ds.map toP)[j]?≠some (toP d))/\i<100000/\Q (.int (i:Nat)) H
theorem yS (hu:X.A.units+64<cLine):Ft X "list.index" NB:=by
 classical
 intro pins s σ H x vs v us Q I rx rv h
 obtain⟨l,xs,ds,y,d,i,rfl,rfl,hp,rd,me,YO,hd,hi,YQ,i6,q⟩:=h
 cases rx
 obtain⟨u,rfl,ru⟩:=vals1 rv
 obtain⟨aV,r,pl,hz⟩:=I.list (bo.of hp)
 obtain⟨as,ra⟩:=oH I.bT d y u YO ru
 have l1:=rd.length
 have l2:=r.length
 have at_:∀(j:Nat) (hj:j<aV.length),∃e bs,ds[j]?=some e/\e∈ds/\Reads s.heap aV[j] (toP e) bs:=λj hj=>by
  obtain⟨e,bs,ed,re⟩:=qC I.bT rd r (aad hj)
  exact⟨e,bs,ed,aag ed,re⟩
 have YR:i<aV.length:=by
  have:=(List.getElem?_eq_some_iff.mp hi).1
  rw[aac] at this
  omega
 obtain⟨⟨c1,d1,d2,sl⟩,ho,e1,m,e2⟩:=pl.isList
 cases e1
 cases e2
 have hit:decide (∃cs,Reads s.heap aV[i] (toP d) cs)=true:=by
  obtain⟨e,bs,ed,he,re⟩:=at_ i YR
  rw[AR me he re]
  rw[aaf,ed] at hi
  exact decide_eq_true (aaC hi)
 refine call_meets PySem.F.slot_list_index ⟨_,ho,rfl⟩ PySem.F.entry_list_index (PySem.F.args_list_index_2 _ _) (PySem.SeqAt.list_indexAt l aV.toArray m d1 sl u (λu=>decide (∃cs,Reads s.heap u (toP d) cs)) i (by rw[aal];omega) (by omega) hit (λj hj hl=>?_)) ⟨ho,λy hy=>?_,⟨.int _,H,I.tok _,⟨_,rfl⟩,q⟩⟩
 ·rw[aal] at hj
  obtain⟨e,bs,ed,he,re⟩:=at_ j hj
  show decide (∃cs,Reads s.heap aV[j] (toP d) cs)=false
  rw[AR me he re]
  refine decide_eq_false λz=>YQ j hl ?_
  rw[aaf,ed]
  exact congrArg some z
 ·obtain⟨j,ej⟩:=aax (List.mem_toArray.mp hy)
  obtain⟨e,bs,ed,re⟩:=qC I.bT rd r ej
  have he:=aag ed
  show SeqAt.EqAt _ _ _ _ (decide _)
  rw[AR me he re]
  exact Ga re ra (me e he).1 hd.1 (me e he).2 hd.2 (by show X.A.units+1+8<cLine;omega)
end
end L2
namespace L2
open PySem PyProof.Rows
theorem exV {b:V} {Q:V->Prop}:(∃v,(some (some b):Option (Option V))=some (some v)/\Q v)=Q b:=propext ⟨fun⟨_,e,h⟩=>by cases e;exact h,λh=>⟨b,rfl,h⟩⟩
theorem exI {a:Int} {Q:Int->Prop}:(∃i,V.int a=V.int i/\Q i)=Q a:=propext ⟨fun⟨_,e,h⟩=>by cases e;exact h,λh=>⟨a,rfl,h⟩⟩
theorem exB {a:Bool} {Q:Bool->Prop}:(∃i,V.bl a=V.bl i/\Q i)=Q a:=propext ⟨fun⟨_,e,h⟩=>by cases e;exact h,λh=>⟨a,rfl,h⟩⟩
theorem exR {a:Addr} {Q:Addr->Prop}:(∃i,V.ref a=V.ref i/\Q i)=Q a:=propext ⟨fun⟨_,e,h⟩=>by cases e;exact h,λh=>⟨a,rfl,h⟩⟩
theorem exS {a:Str} {Q:Str->Prop}:(∃i,V.str a=V.str i/\Q i)=Q a:=propext ⟨fun⟨_,e,h⟩=>by cases e;exact h,λh=>⟨a,rfl,h⟩⟩
theorem exII {a b:Int} {Q:Int->Int->Prop}:(∃i j,V.int a=V.int i/\V.int b=V.int j/\Q i j)=Q a b:=propext ⟨fun⟨_,_,e,f,h⟩=>by cases e;cases f;exact h,λh=>⟨a,b,rfl,rfl,h⟩⟩
theorem exRI {a:Addr} {k:Int} {Q:Addr->List V->Int->V->Prop}:(∃p xs i v,V.ref a=V.ref p/\V.int k=V.int i/\Q p xs i v)=∃xs v,Q a xs k v:=propext ⟨fun⟨_,xs,_,v,e,f,h⟩=>by cases e;cases f;exact⟨xs,v,h⟩,fun⟨xs,v,h⟩=>⟨a,xs,k,v,rfl,rfl,h⟩⟩
theorem exRa {α:Type} {a:Addr} {Q:Addr->α->Prop}:(∃p v,V.ref a=V.ref p/\Q p v)=∃v,Q a v:=propext ⟨fun⟨_,v,e,h⟩=>by cases e;exact⟨v,h⟩,fun⟨v,h⟩=>⟨a,v,rfl,h⟩⟩
theorem exRb {α β:Type} {a:Addr} {Q:Addr->α->β->Prop}:(∃p v u,V.ref a=V.ref p/\Q p v u)=∃v u,Q a v u:=propext ⟨fun⟨_,v,u,e,h⟩=>by cases e;exact⟨v,u,h⟩,fun⟨v,u,h⟩=>⟨a,v,u,rfl,h⟩⟩
theorem scal_ss {a b:Str}:vy (.str a) (.str b)=true:=rfl
theorem scal_ii {a b:Int}:vy (.int a) (.int b)=true:=rfl
theorem scal_bb {a b:Bool}:vy (.bl a) (.bl b)=true:=rfl
theorem scal_si {a:Str} {b:Int}:vy (.str a) (.int b)=true:=rfl
theorem scal_is {a:Int} {b:Str}:vy (.int a) (.str b)=true:=rfl
end L2
namespace L2
open PySem PySem.Spec PyProof.Rows
section
variable {X : Cx}
theorem AS:Iw X rIxLH:=by
 intro pins s σ H x y v u Q I rx ry h
 obtain⟨p,xs,i,z,rfl,rfl,hq,he,q⟩:=h
 cases rx
 obtain⟨t,rfl⟩:=ry
 obtain⟨aV,r,pl,hz⟩:=I.list (bo.of hq)
 obtain⟨j,h1,h2,h3,h4,h5⟩:=qX he
 obtain⟨w,ew,qV⟩:=r.get h2
 have hl:=r.length
 have hn:=nQ
 have fin:EP X pins σ Q w s:=⟨z,H,I,qV,q⟩
 by_cases h0:0<=i
 ·have hj:i.toNat=j:=by
   rw[seqIndex_of h0 h5] at h1
   exact aaC h1
  exact wpAny_getItem_list pl.isList h0 (by omega) (by rw[hj];simpa using ew) fin
 ·have hj:(i+ (aV.toArray.size:Int)).toNat=j:=by
   rw[seqIndex_neg (by omega) h4] at h1
   rw[aal,<-hl]
   exact aaC h1
  exact wpAny_getItem_list_neg pl.isList (by omega) (by rw[aal] <;>omega) (by omega) (by rw[hj];simpa using ew) fin
theorem xx {K:PySem.W.Frag} {e:Expr} {f:Str} {pos:Pos} {ta:TE} (he:PE X e ta) (hb:attributeBase e f X.env (eval e X.env)=eval e X.env) (hK:X.K=K:=by rfl):PE X (.Attribute e f pos) (lX K ta f):=by subst hK;exact d4 he hb
end
end L2
namespace Wq
abbrev Sh:=Int×Int
noncomputable def Lw (x:Sh):Prop:=0<x.2/\Nm.g x.1 x.2=1
noncomputable def sc (L:Int) (x:Sh):Int:=x.1* (L / x.2)
theorem kI {L:Int} {x:Sh} (h:x.2∣L):sc L x*x.2=x.1*L:=by
 unfold sc
 rw[aaD,Int.ediv_mul_cancel h]
theorem AU {L s:Int} {x:Sh} (h:Lw x) (L0:0<L) (e:x.1*L=s*x.2):x.2∣L/\sc L x=s:=by
 have c:Int.gcd x.1 x.2=1:=by have:=h.2;unfold Nm.g at this;omega
 have d:x.2∣L:=Nm.mX (q:=x.2) (a:=x.1) ⟨s,by rw[e,aaA]⟩ c
 refine⟨d,?_⟩
 have:=kI d
 rw[e] at this
 exact Int.eq_of_mul_eq_mul_right (by have:=h.1;omega) this
noncomputable def low (a b:Int):Sh:=(Nm.st a b,Nm.sb a b)
theorem fA {a b:Int} (h:0<b):Lw (low a b):=⟨Nm.Aj (by omega),Nm.Ak (by omega)⟩
theorem vZ {a b L s:Int} (h:0<b) (L0:0<L) (e:a*L=s*b):(low a b).2∣L/\sc L (low a b)=s:=by
 refine AU (fA h) L0 ?_
 have c:=Nm.oa a b
 show Nm.st a b*L=s*Nm.sb a b
 refine Int.eq_of_mul_eq_mul_right (show b≠0 by omega) ?_
 calc Nm.st a b*L*b=(Nm.st a b*b)*L:=Int.mul_right_comm ..
  _=a*Nm.sb a b*L:=by rw[c]
  _=(a*L)*Nm.sb a b:=Int.mul_right_comm ..
  _=s*b*Nm.sb a b:=by rw[e]
  _=s*Nm.sb a b*b:=Int.mul_right_comm ..
noncomputable def pl (x y:Sh):Sh:=low (x.1*y.2+y.1*x.2) (x.2*y.2)
noncomputable def tm (x y:Sh):Sh:=low (x.1*y.1) (x.2*y.2)
theorem EG {L:Int} {x y:Sh} (hx:0<x.2) (hy:0<y.2) (L0:0<L) (dx:x.2∣L) (dy:y.2∣L):Lw (pl x y)/\(pl x y).2∣L/\sc L (pl x y)=sc L x+sc L y:=by
 have e1:=kI dx
 have e2:=kI dy
 refine⟨fA (aaE hx hy),vZ (aaE hx hy) L0 ?_⟩
 calc (x.1*y.2+y.1*x.2)*L=(x.1*L)*y.2+ (y.1*L)*x.2:=by rw[Int.add_mul,Int.mul_right_comm,Int.mul_right_comm y.1]
  _=sc L x*x.2*y.2+sc L y*y.2*x.2:=by rw[e1,e2]
  _=(sc L x+sc L y)* (x.2*y.2):=by rw[Int.add_mul,aaD,aaD,aaA y.2 x.2]
theorem AV {L W w:Int} {y:Sh} (hy:0<y.2) (L0:0<L) (W0:0<W) (dy:y.2∣L):Lw (tm (low w W) y)/\(tm (low w W) y).2∣L*W/\sc (L*W) (tm (low w W) y)=w*sc L y:=by
 have lw:=fA (a:=w) W0
 have e2:=kI dy
 have c:Nm.st w W*W=w*Nm.sb w W:=Nm.oa w W
 refine⟨fA (aaE lw.1 hy),vZ (aaE lw.1 hy) (aaE L0 W0) ?_⟩
 show Nm.st w W*y.1* (L*W)=w*sc L y* (Nm.sb w W*y.2)
 have r:∀a b c d:Int,a*b* (c*d)=(a*d)* (b*c):=by
  intro a b c d
  rw[aaA c d,aaD a b,<-aaD b d,aaA b d,aaD d b,<-aaD a d]
 calc Nm.st w W*y.1* (L*W)=(Nm.st w W*W)* (y.1*L):=r ..
  _=(w*Nm.sb w W)* (sc L y*y.2):=by rw[c,e2]
  _=w*sc L y* (Nm.sb w W*y.2):=by rw[aaA (sc L y) y.2,r w (Nm.sb w W) y.2 (sc L y)]
noncomputable def wsum (L:Int) (ws:List (Int×Int)) (v:Int->Sh):Int:=(ws.map λp=>p.1*sc L (v p.2)).sum
noncomputable def jg (W:Int) (v:Int->Sh):Sh->List (Int×Int)->Sh
 | a,[]=>a
 | a,p::ws=>jg W v (pl a (tm (low p.1 W) (v p.2))) ws
theorem xy {L W:Int} {v:Int->Sh} (L0:0<L) (W0:0<W):∀{ws:List (Int×Int)} {a:Sh},(∀p∈ws,0< (v p.2).2/\(v p.2).2∣L)->Lw a->a.2∣L*W->Lw (jg W v a ws)/\(jg W v a ws).2∣L*W/\sc (L*W) (jg W v a ws)=sc (L*W) a+wsum L ws v
 | [],a,_,la,da=>⟨la,da,by show sc (L*W) a=sc (L*W) a+0;omega⟩
 | p::ws,a,h,la,da=>by
  have hp:=h p (aai ..)
  obtain⟨t1,t2,t3⟩:=AV (w:=p.1) hp.1 L0 W0 hp.2
  obtain⟨q1,q2,q3⟩:=EG la.1 t1.1 (aaE L0 W0) da t2
  obtain⟨r1,r2,r3⟩:=xy (v:=v) L0 W0 (ws:=ws) (λq hq=>h q (aaj _ hq)) q1 q2
  refine⟨r1,r2,?_⟩
  show sc (L*W) (jg W v (pl a (tm (low p.1 W) (v p.2))) ws)=_
  rw[r3,q3,t3]
  show _=sc (L*W) a+ (p.1*sc L (v p.2)+wsum L ws v)
  omega
end Wq
namespace Wq
open L2
noncomputable def eV (a b:Sh):Bool:=decide (a.1*b.2<b.1*a.2)
noncomputable def b8 (ws:List Sh) (i:Int):Sh:=ws.getD i.toNat (0,1)
noncomputable def c4 (br:Int) (ws:List Sh):Sh->List Int->Sh
 | a,[]=>a
 | a,t::to=>c4 br ws (if (br=1/\eV a (b8 ws t)=true)\/(br=2/\eV (b8 ws t) a=true) then b8 ws t else a) to
noncomputable def cm (eW:List (Int×Int)):Int:=(eW.map (·.1)).sum
noncomputable def NC (ws:List Sh):Pl->Sh
 | .fin g=>g
 | .dA g eW=>jg (cm eW) (b8 ws) g eW
 | .cD br to=>c4 br ws (b8 ws (to.getD 0 0)) to
end Wq
namespace Wq
open L2
noncomputable def uo (c b:Int):Int:=c / Nm.g c b*b
noncomputable def fB:Int->List Sh->Int
 | c,[]=>c
 | c,x::xs=>fB (uo c x.2) xs
theorem Dr {c b:Int} (hc:0<c) (hb:0<b):0<uo c b/\c∣uo c b/\b∣uo c b/\∀{Z:Int},c∣Z->b∣Z->uo c b∣Z:=by
 have g0:=Nm.lA (a:=c) (b:=b) (by omega)
 have gl:=Nm.jF c b
 have gr:=Nm.fj c b
 obtain⟨u,hu⟩:=gl
 obtain⟨v,hv⟩:=gr
 have e1:c / Nm.g c b=u:=by
  calc c / Nm.g c b=Nm.g c b*u / Nm.g c b:=by rw[<-hu]
   _=u:=Int.mul_ediv_cancel_left _ (by omega)
 have u0:0<u:=by rw[<-e1];exact Int.ediv_pos_of_pos_of_dvd hc (Nm.FH c b) ⟨u,hu⟩
 unfold uo
 rw[e1]
 refine⟨aaE u0 hb,⟨v,?_⟩,Int.dvd_mul_left ..,λ{Z} h1 h2=>?_⟩
 ·calc u*b=u* (Nm.g c b*v):=by rw[<-hv]
   _=(Nm.g c b*u)*v:=by rw[<-aaD,aaA u]
   _=c*v:=by rw[<-hu]
 ·obtain⟨z,hz⟩:=h2
  have cp:Int.gcd v u=1:=by
   have h:=Int.gcd_ediv_gcd_ediv_gcd (i:=c) (j:=b) (by unfold Nm.g at g0;omega)
   have e2:b / Nm.g c b=v:=by
    calc b / Nm.g c b=Nm.g c b*v / Nm.g c b:=by rw[<-hv]
     _=v:=Int.mul_ediv_cancel_left _ (by omega)
   have h':Int.gcd (c / Nm.g c b) (b / Nm.g c b)=1:=h
   rw[e1,e2,Int.gcd_comm] at h'
   exact h'
  obtain⟨k,hk⟩:=h1
  have m:u*k=v*z:=by
   refine Int.eq_of_mul_eq_mul_left (show Nm.g c b≠0 by omega) ?_
   calc Nm.g c b* (u*k)=(Nm.g c b*u)*k:=(aaD ..).symm
    _=c*k:=by rw[<-hu]
    _=Z:=hk.symm
    _=b*z:=hz
    _=(Nm.g c b*v)*z:=by rw[<-hv]
    _=_:=aaD ..
  obtain⟨j,hj⟩:=Nm.mX (q:=u) (a:=v) (b:=z) ⟨k,m.symm⟩ cp
  exact⟨j,by rw[hz,hj,<-aaD,aaA b u]⟩
theorem m8:∀{xs:List Sh} {c:Int},0<c->(∀x∈xs,0<x.2)->0<fB c xs/\c∣fB c xs/\(∀x∈xs,x.2∣fB c xs)/\∀{Z:Int},c∣Z->(∀x∈xs,x.2∣Z)->fB c xs∣Z
 | [],c,hc,_=>⟨hc,Int.dvd_refl c,by simp,λh _=>h⟩
 | x::xs,c,hc,h=>by
  obtain⟨a1,a2,a3,a4⟩:=Dr hc (h x (aai ..))
  obtain⟨b1,b2,b3,b4⟩:=m8 (xs:=xs) a1 λy hy=>h y (aaj _ hy)
  refine⟨b1,Int.dvd_trans a2 b2,λy hy=>?_,λ{Z} h1 h2=>b4 (a4 h1 (h2 x (aai ..))) λy hy=>h2 y (aaj _ hy)⟩
  rcases List.mem_cons.mp hy with rfl | hy
  ·exact Int.dvd_trans a3 b2
  ·exact b3 y hy
noncomputable def Vb (M:Int) (x:Sh):Prop:= -(M*x.2)<=x.1/\x.1<=M*x.2
theorem qE {L M:Int} {x:Sh} (hx:0<x.2) (L0:0<L) (d:x.2∣L):Vb M x↔-(M*L)<=sc L x/\sc L x<=M*L:=by
 have e:=kI d
 have k:M*L*x.2=M*x.2*L:=Int.mul_right_comm ..
 have i1:∀p q:Int,p<=q↔p*L<=q*L:=λp q=>⟨λh=>Int.mul_le_mul_of_nonneg_right h (by omega),λh=>Int.le_of_mul_le_mul_right h L0⟩
 have i2:∀p q:Int,p<=q↔p*x.2<=q*x.2:=λp q=>⟨λh=>Int.mul_le_mul_of_nonneg_right h (by omega),λh=>Int.le_of_mul_le_mul_right h hx⟩
 unfold Vb
 rw[i1 (-(M*x.2)),i1 x.1,i2 (-(M*L)),i2 (sc L x),e,Int.neg_mul,Int.neg_mul,k]
end Wq
namespace Wq
theorem qF:∀{xs:List Sh} {c:Int} {x:Sh},fB c (xs++ [x])=uo (fB c xs) x.2
 | [],_,_=>rfl
 | y::xs,c,x=>qF (xs:=xs) (c:=uo c y.2) (x:=x)
noncomputable def dt:L2.Pl->Sh
 | .fin g=>g
 | .dA g _=>g
 | .cD _ _=>(0,1)
end Wq
namespace Wq
end Wq
namespace Wq
end Wq
namespace Wq
theorem qG {br:Int} {ws:List Sh}:∀{to:List Int} {a:Sh} {t:Int},c4 br ws a (to++ [t])=if (br=1/\eV (c4 br ws a to) (b8 ws t)=true)\/(br=2/\eV (b8 ws t) (c4 br ws a to)=true) then b8 ws t else c4 br ws a to
 | [],_,_=>rfl
 | q::to,a,t=>qG (to:=to) (t:=t)
end Wq
namespace Wq
theorem uq {P:Sh->Prop} {br:Int} {ws:List Sh}:∀{to:List Int} {a:Sh},P a->(∀t∈to,P (b8 ws t))->P (c4 br ws a to)
 | [],_,h,_=>h
 | t::to,a,h,hs=>by
  show P (c4 br ws (if _ then b8 ws t else a) to)
  refine uq ?_ λu hu=>hs u (aaj _ hu)
  split
  ·exact hs t (aai ..)
  ·exact h
end Wq
namespace K41
open PySem PySem.Spec PyProof.Rows L2
set_option maxHeartbeats 4000000
local macro_rules | `(tactic| simp! only [$ls,*]) => `(tactic| simp only [↓exV, ↓exI, ↓exB, ↓exR, ↓exS, ↓exII, ↓exRI, ↓exRa, ↓exRb, L2.start, Pr, tRev, tD1, tDPop1, tSl, tNoPart, tPart, rSlL, tDIn, tDNotIn, gSub, rSetL, tLst, tDNewK, tComp, L2.stC, tFor_eq, iList, iTup, iRng1, iRng2, iZip, iEnum, iDict, iStr, tChain, tSumV, tBM, tRaise, tDGet, tDGet2, tDGet1, sDPut, Option.join_some, List.getElem?_nil,  tSeq, tRet, tRetN, tIfS, tTest, tB, tOp, tUn, tVar, tC, tCB, tCons, tNil, tCall, tTupS, tAsg, gName, gNil, gCons, tPar, tNext, tDrop, tAnd, tOr, tNot, tAndV, tOrV, tNotV, tIf, rI, rI0, rU, rIxTH, rIxLH, rEqT, rNeT, rInT, rEq, rNe, scal_ss, scal_ii, scal_bb, scal_si, scal_is, CPow, at0, at1, at2, List.map_cons, List.map_nil, List.length_cons, List.length_nil, Nat.reduceSub, Nat.reduceAdd, Nat.zero_add, List.replicate_zero, List.reduceReplicate, List.append_nil, List.nil_append, List.cons_append, List.getElem?_cons_zero, List.getElem?_cons_succ, List.set_cons_zero, List.set_cons_succ, Option.some.injEq, exists_eq_left', exists_eq_left, V.ref.injEq, V.int.injEq, V.bl.injEq, V.str.injEq, V.ty.injEq, HO.tup.injEq, HO.lst.injEq, List.cons.injEq, and_true, true_and, and_assoc, exists_and_left, decide_eq_true_eq, Bool.not_eq_true', decide_eq_false_iff_not, ite_true, ite_false, if_true, if_false, Int.reduceToNat, eq_self_iff_true, $ls,*])
local macro_rules | `(tactic| simp_all only [$ls,*]) => `(tactic| (first | ((dsimp (config := { zetaDelta := true }) only [L2.start, Pr, tRev, tD1, tDPop1, tSl, tNoPart, tPart, rSlL, tDIn, tDNotIn, gSub, rSetL, tLst, tDNewK, tComp, L2.stC, tFor_eq, iList, iTup, iRng1, iRng2, iZip, iEnum, iDict, iStr, tChain, tSumV, tBM, tRaise, tDGet, tDGet2, tDGet1, sDPut, tSeq, tRet, tRetN, tIfS, tTest, tB, tOp, tUn, tVar, tC, tCB, tCons, tNil, tCall, tTupS, tAsg, gName, gNil, gCons, tPar, tNext, tDrop, tAnd, tOr, tNot, tAndV, tOrV, tNotV, tIf, rI, rI0, rU, rIxTH, rIxLH, rEqT, rNeT, rInT, rEq, rNe, scal_ss, scal_ii, scal_bb, scal_si, scal_is, CPow, List.getElem?_cons_zero, List.getElem?_cons_succ, List.set_cons_zero, List.set_cons_succ]); try simp! only [$ls,*]) | simp! only [$ls,*]))
seal L2.PE L2.PT L2.PW L2.PA L2.PS L2.vf L2.PG L2.HL L2.PI L2.FP L2.PO L2.kh L2.LK L2.cQ L2.Es L2.LM L2.Ft L2.HN
theorem aB {P:Program} {w:World}:rj (bN P w):=xc P w
set_option genInjectivity false in
set_option genSizeOf false in
structure Txt (K:PySem.W.Frag) (mg:Str->Option Value) (aA tc:Addr):Prop where
 z_abs:mg "abs"=none
 z_all:mg "all"=none
 z_any:mg "any"=none
 z_bool:mg "bool"=none
 z_enumerate:mg "enumerate"=none
 z_int:mg "int"=none
 z_isinstance:mg "isinstance"=none
 z_len:mg "len"=none
 z_list:mg "list"=none
 z_max:mg "max"=none
 z_range:mg "range"=none
 z_sorted:mg "sorted"=none
 z_sum:mg "sum"=none
 z_tuple:mg "tuple"=none
 z_zip:mg "zip"=none
 Ds:Dn K mg "goals" (top 1)
 v3:Dn K mg "is_ready" (top 2)
 oM:Dn K mg "ready_places" (top 3)
 AW:Dn K mg "levels" (top 4)
 Gb:Dn K mg "ring" (top 5)
 kJ:Dn K mg "common_divisor" (top 12)
 Dt:Dn K mg "share" (top 13)
 mh:Dn K mg "common_bottom" (top 14)
 mr:Dn K mg "row_with_head" (top 16)
 yT:Dn K mg "swapped" (top 17)
 gH:Dn K mg "without_first_column" (top 18)
 Du:Dn K mg "swept" (top 19)
 mv:Dn K mg "whole_answers" (top 20)
 rN:Dn K mg "steps_from" (top 22)
 Dv:Dn K mg "parts" (top 23)
 mw:Dn K mg "ways_of_picks" (top 27)
 mz:Dn K mg "checked_parts" (top 28)
 mB:Dn K mg "weighted_ways" (top 29)
 iQ:Dn K mg "all_weighted_ways" (top 30)
 oN:Dn K mg "total_weight" (top 31)
 ur:Dn K mg "part_rows" (top 32)
 yU:Dn K mg "gain_of" (top 34)
 yV:Dn K mg "book_of" (top 35)
 v5:Dn K mg "gains_of" (top 36)
 oO:Dn K mg "blank_worths" (top 37)
 pP:Dn K mg "with_worths" (top 38)
 rO:Dn K mg "wanted_way" (top 40)
 pQ:Dn K mg "better_ways" (top 41)
 v7:Dn K mg "picks_of" (top 42)
 jh:Dn K mg "with_best_worths" (top 43)
 uu:Dn K mg "best_pick" (top 44)
 Gc:Dn K mg "best" (top 45)
 uv:Dn K mg "_law_cell" (top 47)
 rP:Dn K mg "_law_mixed" (top 48)
 v8:Dn K mg "_law_low" (top 49)
 uw:Dn K mg "_law_plus" (top 50)
 rQ:Dn K mg "_law_times" (top 51)
 rR:Dn K mg "_law_share" (top 52)
 pR:Dn K mg "_law_turned" (top 53)
 rS:Dn K mg "_law_throw" (top 54)
 rT:Dn K mg "_law_board" (top 55)
 ux:Dn K mg "_law_copy" (top 57)
 uy:Dn K mg "_law_ways" (top 58)
 mC:Dn K mg "_law_is_share" (top 60)
 jL:Dn K mg "_law_are_shares" (top 61)
 uz:Dn K mg "_law_less" (top 62)
 yW:Dn K mg "_law_by" (top 63)
 rV:Dn K mg "_law_holds" (top 64)
 c_MOST_PLACES:∃t,mg "MOST_PLACES"=some (.int 40 t)
 c_MOST_PICKS:∃t,mg "MOST_PICKS"=some (.int 4096 t)
 k_Book:mg "Book"=some (.ref aA)
 cF:yy K aA
 na_Book_bottom:PySem.W.findIn K (.ref aA) "bottom"=some none
 na_Book_tops:PySem.W.findIn K (.ref aA) "tops"=some none
 Dw:Nk K mg "Book" "Book.__init__" (inClass (top 33) 0) aA
 jM:LW K aA "as_shares" "Book.as_shares" (inClass (top 33) 2)
 oP:LW K aA "scaled" "Book.scaled" (inClass (top 33) 1)
 Dx:Jp K mg "parts" tc
theorem ND {C:List Value->Prop} (k:C []):∀us:List Value,us.length=0->C us:=λus h=>by
 cases us with
 | nil=>exact k
 | cons a us=>cases h
theorem AX {C:List Value->Prop} {n:Nat} (k:∀a (us:List Value),us.length=n->C (a::us)):∀us:List Value,us.length=n+1->C us:=λus h=>by
 cases us with
 | nil=>cases h
 | cons a us=>exact k a us (Nat.succ.inj h)
theorem iR {C:List Value->Prop} (k:∀a,C [a]):∀us:List Value,us.length=1->C us:=AX λa=>ND (C:=λus=>C (a::us)) (k a)
theorem d6 {C:List Value->Prop} (k:∀a b,C [a,b]):∀us:List Value,us.length=2->C us:=AX λa=>iR (C:=λus=>C (a::us)) (k a)
theorem pS {C:List Value->Prop} (k:∀a b c,C [a,b,c]):∀us:List Value,us.length=3->C us:=AX λa=>d6 (C:=λus=>C (a::us)) (k a)
theorem Gd {C:List Value->Prop} (k:∀a b c d,C [a,b,c,d]):∀us:List Value,us.length=4->C us:=AX λa=>pS (C:=λus=>C (a::us)) (k a)
theorem NF {C:List Value->Prop} (k:∀a b c d e,C [a,b,c,d,e]):∀us:List Value,us.length=5->C us:=AX λa=>Gd (C:=λus=>C (a::us)) (k a)
abbrev dsc:Array Value:=#[rawInt 119,rawInt 29,.str ((Str.ofString "parts"++".<locals>.")++"<lambda>") 0]
noncomputable def fC:Option Int->V
 | none=>.b9
 | some i=>.int i
noncomputable def Ge:Option Int->Dat
 | none=>.b9
 | some i=>.int i
theorem rW {H:Hp} {ps:List (Option Int)} {l:Addr} (h:H l=some (.lst (List.map fC ps))):Rep H (.lst (ps.map Ge)) (.ref l):=by
 refine aT.mpr ⟨l,_,rfl,h,dD (by rw[aac]) λi y ey o eo=>?_⟩
 rw[aaf,eo] at ey
 cases ey
 cases o <;>simp [Ge,fC,Rep]
theorem EH {fs:Lv.Fs} {g:Int} (h0:0<=g) (h1:g< (fs.length:Nat)):eE (List.map fC fs) g=some (fC (Lv.lk fs g)):=by
 obtain⟨j,rfl⟩:=aav h0
 have hj:j<fs.length:=by omega
 have e:fs[j]?=some fs[j]:=aad hj
 rw[ie (f:=fC) e]
 congr 2
 unfold Lv.lk
 rw[aak,aae,e]
 rfl
theorem oQ {o:Option Int}:(fC o=V.b9)↔o=none:=by cases o <;>simp [fC]
noncomputable def uA:Sp:=λvs H Q _=>∃v q,vs=[v]/\Rep H (jf q) v/\(Lv.gc q).length<=100/\∀l H',az H H'->H l=none->H' l=some (.lst (List.map V.int (Lv.gc q)))->Q (.ref l) H'
noncomputable def AY:Sp:=λvs H Q _=>∃v q f fs,vs=[v,.ref f]/\Rep H (jf q) v/\H f=some (.lst (List.map fC fs))/\(Lv.gc q).length<=100/\(∀g∈Lv.gc q,0<=g/\g< (fs.length:Nat))/\∀H',az H H'->Q (.bl (Lv.EC fs q)) H'
noncomputable def fg (i:Nat):V:=.int i
noncomputable def xA:Sp:=λvs H Q _=>∃a b f fs,vs=[.ref a,.ref f]/\Rep H (ou b) (.ref a)/\H f=some (.lst (List.map fC fs))/\fs.length=b.length/\b.length<=1000/\(∀q∈b,(Lv.gc q).length<=100)/\Lv.Good b/\∀l H',az H H'->H l=none->H' l=some (.lst (List.map fg (Lv.fresh b fs)))->Q (.ref l) H'
noncomputable def AZ:Sp:=λvs H Q _=>∃a b,vs=[.ref a]/\Rep H (ou b) (.ref a)/\b.length<=1000/\(∀q∈b,(Lv.gc q).length<=100)/\Lv.Good b/\∀l H',az H H'->H l=none->H' l=some (.lst (List.map fC (Lv.ub b)))->Q (.ref l) H'
structure YS (H:Hp) (b:List Pl) (a ff:Addr) (m:Nat) (σ:L2.St) (H':Hp):Prop where
 ex:∃fs L fr z,σ=[some (V.ref a),some (V.ref ff),some (V.int L),some (V.ref fr),z]/\H' ff=some (.lst (List.map fC fs))/\H' fr=some (.lst (List.map fg (Lv.fresh b fs)))/\fr≠ff/\az H H'/\fs.length=b.length/\Lv.eA fs<=m/\Lv.run b m fs L=Lv.ub b
noncomputable def oR (b:List Pl):List Nat:=(List.range b.length).filter fun(i:Nat)=>(Lv.lk (Lv.ub b) (i:Int)).isNone
theorem A0 {b:List Pl} {i:Nat}:i∈oR b↔i<b.length/\Lv.lk (Lv.ub b) (i:Int)=none:=by
 unfold oR
 rw[List.mem_filter,List.mem_range]
 simp
structure Bd (b:List Pl):Prop where
 len:b.length<=1000
 tX:∀q∈b,(Lv.gc q).length<=100
 good:Lv.Good b
noncomputable def v9:Sp:=λvs H Q _=>∃a b,vs=[.ref a]/\Rep H (ou b) (.ref a)/\Bd b/\∀l H',az H H'->H l=none->H' l=some (.lst (List.map fg (oR b)))->Q (.ref l) H'
noncomputable def pT (H:Hp):Option (Int×Nat)->V->Prop
 | none,v=>v=.b9
 | some (h,w),v=>∃p,v=.ref p/\H p=some (.tup [.int h,.int (w:Int)])
theorem pT.mono {H H':Hp} (s:az H H') {o:Option (Int×Nat)} {v:V} (h:pT H o v):pT H' o v:=by
 cases o with
 | none=>exact h
 | some x=>obtain⟨p,e,hp⟩:=h;exact⟨p,e,s _ _ hp⟩
theorem pT.upd {H:Hp} {a:Addr} {o:HO} {par:Option (Int×Nat)} {v:V} (n:∀xs,H a≠some (.tup xs)) (h:pT H par v):pT (upd H a o) par v:=by
 cases par with
 | none=>exact h
 | some x=>obtain⟨p,e,hp⟩:=h;exact⟨p,e,by rw[aJ (λz=>n _ (z▸hp))];exact hp⟩
structure fO (H:Hp) (d:Addr) (es:List Bf.En):Prop where
 ex:∃kvs,H d=some (.dK kvs)/\kvs.map (·.1)=(Bf.keys es).map Sum.inl/\∀(i:Nat) e,es[i]?=some e->∃v,kvs[i]?=some (Sum.inl e.1,v)/\pT H e.2.1 v
theorem fO.mono {H H':Hp} (s:az H H') {d:Addr} {es:List Bf.En} (h:fO H d es):fO H' d es:=by
 obtain⟨kvs,hd,hk,hv⟩:=h
 exact⟨kvs,s _ _ hd,hk,λi e he=>by obtain⟨v,e1,e2⟩:=hv i e he;exact⟨v,e1,e2.mono s⟩⟩
theorem wa {κ:Type} [DecidableEq κ]:∀{kvs:List (κ×V)} {i:Nat} {k:κ} {v:V},(kvs.map (·.1)).Nodup->kvs[i]?=some (k,v)->hV kvs k=some v
 | [],i,k,v,_,h=>by simp at h
 | p::r,0,k,v,_,h=>by simp at h;subst h;exact jE rfl
 | p::r,i+1,k,v,nd,h=>by
  simp at h
  rw[aaz,List.nodup_cons] at nd
  rw[hX (λz=>nd.1 (by rw[z];exact List.mem_map.mpr ⟨(k,v),aag h,rfl⟩))]
  exact wa nd.2 h
theorem m9 {κ:Type} [DecidableEq κ]:∀{kvs:List (κ×V)} {k:κ},k∉kvs.map (·.1)->hV kvs k=none
 | [],k,_=>rfl
 | p::r,k,h=>by
  rw[aaz] at h
  rw[hX (λz=>h (by rw[z];exact aai))]
  exact m9 λz=>h (aaj _ z)
theorem A2 {l:List Int} (h:l.Nodup):(l.map (Sum.inl:Int->Key)).Nodup:=by
 unfold List.Nodup at *
 rw[List.pairwise_map]
 exact h.imp λ{a b} VX z=>VX (by cases z;rfl)
theorem rY {l:List Int} {k:Int}:(Sum.inl k:Key)∈l.map Sum.inl↔k∈l:=by
 rw[List.mem_map]
 constructor
 ·rintro⟨x,hx,e⟩;cases e;exact hx
 ·intro h;exact⟨k,h,rfl⟩
theorem fO.get {H:Hp} {d:Addr} {es:List Bf.En} (h:fO H d es) (nd:(Bf.keys es).Nodup) {i:Nat} {e:Bf.En} (he:es[i]?=some e):∃v,kA H d (.int e.1) (some v)/\pT H e.2.1 v:=by
 obtain⟨kvs,hd,hk,hv⟩:=h
 obtain⟨v,e1,e2⟩:=hv i e he
 exact⟨v,.inl ⟨kvs,Sum.inl e.1,.inl hd,rfl,(wa (by rw[hk];exact A2 nd) e1).symm⟩,e2⟩
theorem fO.out {H:Hp} {d:Addr} {es:List Bf.En} (h:fO H d es) {k:Int} (hk:k∉Bf.keys es):kA H d (.int k) none:=by
 obtain⟨kvs,hd,Jq,_⟩:=h
 exact .inl ⟨kvs,Sum.inl k,.inl hd,rfl,(m9 (by rw[Jq];exact λz=>hk (rY.mp z))).symm⟩
theorem fO.has {H:Hp} {d:Addr} {es:List Bf.En} (h:fO H d es) (nd:(Bf.keys es).Nodup) (k:Int):∃o,kA H d (.int k) o/\o.isSome=decide (k∈Bf.keys es):=by
 by_cases c:k∈Bf.keys es
 ·obtain⟨e,he,rfl⟩:=List.mem_map.mp c
  obtain⟨i,hi⟩:=aax he
  obtain⟨v,g,_⟩:=h.get nd hi
  exact⟨_,g,by simp [c]⟩
 ·exact⟨_,h.out c,by simp [c]⟩
theorem fO.put {H:Hp} {d:Addr} {es:List Bf.En} (h:fO H d es) {k:Int} {par:Option (Int×Nat)} {path:List Nat} {v:V} (hk:k∉Bf.keys es) (pv:pT H par v) (hl:es.length<sizeLine):
  ∃o,vN H d (.int k) v (upd H d o)/\fO (upd H d o) d (es++ [(k,par,path)]):=by
 obtain⟨kvs,hd,Jq,hv⟩:=h
 have len:kvs.length=es.length:=by
  have:=congrArg List.length Jq
  unfold Bf.keys at this
  simpa using this
 have vn:hV kvs (Sum.inl k)=none:=m9 (by rw[Jq];exact λz=>hk (rY.mp z))
 have nt:∀xs,H d≠some (.tup xs):=λxs z=>by rw[hd] at z;cases z
 refine⟨.dK (kvs++ [(Sum.inl k,v)]),?_,⟨kvs++ [(Sum.inl k,v)],ar,?_,λi e he=>?_⟩⟩
 ·have:=vN.k (k:=Sum.inl k) (v:=v) hd (by omega)
  rw[tT v vn] at this
  exact this
 ·unfold Bf.keys at *
  rw[aaB,aaB,aaB,Jq]
  rfl
 ·rcases Bf.eU he with he | ⟨rfl,rfl⟩
  ·obtain⟨v',e1,e2⟩:=hv i e he
   exact⟨v',Bf.up e1,e2.upd nt⟩
  ·refine⟨v,?_,pv.upd nt⟩
   rw[aa0 (by omega),len,Nat.sub_self]
   rfl
theorem qH {here:Int} {path:List Nat}:∀(gs:List Int) (w:Nat) (es:List Bf.En) (g:Int),Bf.gF here path w (gs++ [g]) es=(if g∈Bf.keys (Bf.gF here path w gs es) then Bf.gF here path w gs es else Bf.gF here path w gs es++ [(g,some (here,w+gs.length),path++ [w+gs.length])])
 | [],w,es,g=>rfl
 | x::gs,w,es,g=>by
  show Bf.gF here path (w+1) (gs++ [g]) _=_
  rw[qH gs (w+1)]
  show(if g∈Bf.keys (Bf.gF here path (w+1) gs _) then Bf.gF here path (w+1) gs _ else Bf.gF here path (w+1) gs _++ [(g,some (here,w+1+gs.length),path++ [w+1+gs.length])])=_
  rw[aaq,show w+1+gs.length=w+ (gs.length+1) by omega]
  rfl
structure YT (H:Hp) (b:List Pl) (a d f:Addr) (st:Int) (m:Nat) (σ:L2.St) (H':Hp):Prop where
 ex:∃(t:Nat) (es:List Bf.En),∃z5 z6 z7,σ=[some (V.ref a),some (V.int st),some (V.ref d),some (V.ref f),some (V.int (t:Int)),z5,z6,z7]/\fO H' d es/\H' f=some (.lst (List.map V.int (Bf.keys es)))/\az H H'/\Bf.Inv b st t es/\Bf.Cp b m t es=Bf.steps b st/\b.length<m+t
noncomputable def xB:Sp:=λvs H Q _=>∃a b st,vs=[.ref a,.int st]/\Rep H (ou b) (.ref a)/\b.length<=1000/\(∀q∈b,(Lv.gc q).length<=100)/\Lv.Good b/\0<=st/\st<b.length/\∀d H',az H H'->H d=none->fO H' d (Bf.steps b st)->Q (.ref d) H'
structure BkW (H:Hp) (es:List Bf.En) (a d bk:Addr) (st g:Int) (path:List Nat) (m:Nat) (σ:L2.St) (H':Hp):Prop where
 ex:∃(e:Bf.En) (bs:List Nat) (v:V),es[m]?=some e/\pT H' e.2.1 v/\H' bk=some (.lst (List.map fg bs))/\path=e.2.2++bs.reverse/\fO H' d es/\az H H'/\σ=[some (V.ref a),some (V.int st),some (V.int g),some (V.ref d),some (V.ref bk),some v]
structure YU (H:Hp) (a d f l:Addr) (st:Int) (t:Nat) (e:Bf.En) (gs:List Int) (es:List Bf.En) (k:Nat) (σ:L2.St) (H':Hp):Prop where
 ex:∃z6 z7,σ=[some (V.ref a),some (V.int st),some (V.ref d),some (V.ref f),some (V.int (t:Int)),some (V.int e.1),z6,z7]
 dr:fO H' d (Bf.gF e.1 e.2.2 0 (gs.take k) es)
 hf:H' f=some (.lst (List.map V.int (Bf.keys (Bf.gF e.1 e.2.2 0 (gs.take k) es))))
 hl:H' l=some (.lst (List.map V.int gs))
 sm:az H H'
noncomputable def Al {α:Type} (R:α->V->Prop):List α->List V->Prop
 | [],[]=>True
 | a::as,v::vs=>R a v/\Al R as vs
 | _,_=>False
theorem Al.length {α:Type} {R:α->V->Prop}:∀{as:List α} {vs:List V},Al R as vs->vs.length=as.length
 | [],[],_=>rfl
 | a::as,v::vs,h=>by simp [Al.length h.2]
theorem Al.imp {α:Type} {R S:α->V->Prop} (f:∀a v,R a v->S a v):∀{as:List α} {vs:List V},Al R as vs->Al S as vs
 | [],[],_=>trivial
 | a::as,v::vs,h=>⟨f _ _ h.1,Al.imp f h.2⟩
theorem Al.append {α:Type} {R:α->V->Prop}:∀{as bs:List α} {us vs:List V},Al R as us->Al R bs vs->Al R (as++bs) (us++vs)
 | [],_,[],_,_,k=>k
 | a::as,_,v::vs,_,h,k=>⟨h.1,Al.append h.2 k⟩
theorem Al.one {α:Type} {R:α->V->Prop} {a:α} {v:V} (h:R a v):Al R [a] [v]:=⟨h,trivial⟩
theorem A3 {α:Type} {H:Hp} {f:α->Dat} {as:List α} {vs:List V} {i:Nat} {v:V} (h:bu H (as.map f) vs) (e:vs[i]?=some v):∃a,as[i]?=some a/\Rep H (f a) v:=by
 obtain⟨d,ed,rd⟩:=h.get e
 rw[aaf] at ed
 obtain⟨a,ea,rfl⟩:=Option.map_eq_some_iff.mp ed
 exact⟨a,ea,rd⟩
theorem Al.get {α:Type} {R:α->V->Prop}:∀{as:List α} {vs:List V} {i:Nat} {v:V},Al R as vs->vs[i]?=some v->∃a,as[i]?=some a/\R a v:=by
 intro as
 induction as with
 | nil=>
  intro vs i v h e
  cases vs with
  | nil=>simp at e
  | cons u vs=>exact h.elim
 | cons a as ih=>
  intro vs i v h e
  cases vs with
  | nil=>exact h.elim
  | cons u vs=>
   cases i with
   | zero=>cases e;exact⟨a,rfl,h.1⟩
   | succ i=>exact ih (vs:=vs) (i:=i) h.2 e
theorem Al.at {α:Type} {R:α->V->Prop}:∀{as:List α} {vs:List V} {i:Nat} {a:α},Al R as vs->as[i]?=some a->∃v,vs[i]?=some v/\R a v:=by
 intro as
 induction as with
 | nil=>
  intro vs i v h e
  simp at e
 | cons a as ih=>
  intro vs i v h e
  cases vs with
  | nil=>exact h.elim
  | cons u vs=>
   cases i with
   | zero=>cases e;exact⟨u,rfl,h.1⟩
   | succ i=>exact ih (vs:=vs) (i:=i) h.2 e
theorem Al.of {α:Type} {R:α->V->Prop}:∀{as:List α} {vs:List V},vs.length=as.length->(∀(i:Nat) v a,vs[i]?=some v->as[i]?=some a->R a v)->Al R as vs
 | [],[],_,_=>trivial
 | [],_::_,l,_=>by simp at l
 | _::_,[],l,_=>by simp at l
 | a::as,u::vs,l,h=>⟨h 0 u a rfl rfl,Al.of (by simpa using l) λi v b e1 e2=>h (i+1) v b (by simpa using e1) (by simpa using e2)⟩
namespace Pr
open Bf Lv
noncomputable def kb (b:List Pl) (p:Int):List Int:=keys (steps b p)
noncomputable def In (b:List Pl) (p:Int):Prop:=0<=p/\p<b.length
section Q1
variable {b : List Pl} (gb : Good b)
include gb
theorem oS {p:Int} (h:In b p):(kb b p).Nodup:=(fN gb h.1 h.2).1.nd
theorem oU {p q:Int} (h:In b p) (hq:q∈kb b p):In b q:=by
 obtain⟨e,he,rfl⟩:=List.mem_map.mp hq
 exact(fN gb h.1 h.2).1.lP e he
theorem iI {p:Int} (h:In b p):p∈kb b p:=List.mem_map.mpr ⟨_,aag (fN gb h.1 h.2).1.hd,rfl⟩
theorem rZ {p q g:Int} (h:In b p) (hq:q∈kb b p) (hg:g∈fF b q):g∈kb b p:=by
 obtain⟨e,he,rfl⟩:=List.mem_map.mp hq
 obtain⟨j,hj⟩:=aax he
 obtain⟨i,ei,h1,h2,_⟩:=(fN gb h.1 h.2).2 j e hj g hg
 exact List.mem_map.mpr ⟨ei,aag h1,h2⟩
theorem A4 {p:Int} (h:In b p):∀(ws:List Nat) (q r:Int),q∈kb b p->go b q ws=some r->r∈kb b p
 | [],q,r,hq,e=>by cases e;exact hq
 | w::ws,q,r,hq,e=>by
  have e:(match (fF b q)[w]? with | some g=>go b g ws | none=>none)=some r:=e
  cases c:(fF b q)[w]? with
  | none=>rw[c] at e;cases e
  | some g=>rw[c] at e;exact A4 h ws g r (rZ gb h hq (aag c)) e
theorem wb {p q:Int} (h:In b p):q∈kb b p↔∃ws,go b p ws=some q:=by
 constructor
 ·intro hq
  obtain⟨e,he,rfl⟩:=List.mem_map.mp hq
  obtain⟨j,hj⟩:=aax he
  exact⟨_,Dj (fN gb h.1 h.2).1 j e hj⟩
 ·rintro⟨ws,e⟩
  exact A4 gb h ws p q (iI gb h) e
theorem fP {p q r:Int} (h:In b p) (hq:q∈kb b p) (hr:r∈kb b q):r∈kb b p:=by
 obtain⟨ws,e⟩:=(wb gb (oU gb h hq)).mp hr
 exact A4 gb h ws q r hq e
theorem A5 {p:Int} (h:In b p):(kb b p).length<=b.length:=by
 have:=(fN gb h.1 h.2).1.tX
 unfold kb keys
 rw[aac]
 exact this
end Q1
theorem oV:∀{l m:List Int},l.Nodup->(∀x∈l,x∈m)->∃r,m.Perm (l++r)
 | [],m,_,_=>⟨m,.refl _⟩
 | x::l,m,nd,h=>by
  obtain⟨n1,n2⟩:=List.nodup_cons.mp nd
  obtain⟨r,p⟩:=oV (m:=m.erase x) n2 λy hy=>(List.mem_erase_of_ne (a:=y) (b:=x) λz=>n1 (by rw[<-z];exact hy)).mpr (h y (aaj _ hy))
  exact⟨r,(List.perm_cons_erase (h x aai)).trans (p.cons x)⟩
theorem sub_len {l m:List Int} (hl:l.Nodup) (h:∀x∈l,x∈m):l.length<=m.length:=by
 obtain⟨r,p⟩:=oV hl h
 rw[p.length_eq,aaJ]
 omega
theorem sub_eq {l m:List Int} (hl:l.Nodup) (hm:m.Nodup) (h:∀x∈l,x∈m) (e:m.length<=l.length):∀x∈m,x∈l:=λx hx=>by
 obtain⟨r,p⟩:=oV hl h
 have:=p.length_eq
 rw[aaJ] at this
 have:r=[]:=List.length_eq_zero_iff.mp (by omega)
 subst this
 rw[aaY] at p
 exact p.mem_iff.mp hx
noncomputable def c9 (b:List Pl) (p:Int):List Int:=(Nm.mY (kb b p)).filter λo=>decide (p∈kb b o)
noncomputable def rep (b:List Pl) (p:Int):Int:=(c9 b p).headD (-1)
noncomputable def me (b:List Pl) (n:Nat):List Int:=((List.range n).map fun(i:Nat)=>(i:Int)).filter λp=>decide (rep b p=p)
section Q2
variable {b : List Pl} (gb : Good b)
include gb
omit gb in
theorem dh {p o:Int}:o∈c9 b p↔o∈kb b p/\p∈kb b o:=by
 unfold c9
 rw[List.mem_filter,Nm.xk,decide_eq_true_eq]
theorem kK {p:Int} (h:In b p):(c9 b p).Pairwise (·<·):=List.Pairwise.filter _ (Nm.FW (oS gb h))
theorem oW {p:Int} (h:In b p):p∈c9 b p:=dh.mpr ⟨iI gb h,iI gb h⟩
theorem eX {p o:Int} (h:In b p) (ho:o∈c9 b p):In b o:=oU gb h (dh.mp ho).1
theorem jj {p:Int} (h:In b p):c9 b p≠[]:=List.ne_nil_of_mem (oW gb h)
theorem Dy {p o:Int} (ho:o∈c9 b p):p∈c9 b o:=dh.mpr (dh.mp ho).symm
theorem xC {p o:Int} (h:In b p) (ho:o∈c9 b p):∀x,x∈kb b p↔x∈kb b o:=λx=>by
 obtain⟨h1,h2⟩:=dh.mp ho
 exact⟨λhx=>fP gb (oU gb h h1) h2 hx,λhx=>fP gb h h1 hx⟩
theorem xE {p o:Int} (h:In b p) (ho:o∈c9 b p):(kb b p).length=(kb b o).length:=by
 have hi:=eX gb h ho
 exact Nat.le_antisymm (sub_len (oS gb h) λx hx=>(xC gb h ho x).mp hx) (sub_len (oS gb hi) λx hx=>(xC gb h ho x).mpr hx)
theorem qI {p o r:Int} (h:In b p) (ho:o∈c9 b p) (hr:r∈c9 b o):r∈c9 b p:=by
 have hi:=eX gb h ho
 have Nr:=eX gb hi hr
 obtain⟨h1,h2⟩:=dh.mp ho
 obtain⟨h3,h4⟩:=dh.mp hr
 exact dh.mpr ⟨fP gb h h1 h3,fP gb Nr h4 h2⟩
omit gb in
theorem Gf {l m:List Int} (hl:l.Pairwise (·<·)) (hm:m.Pairwise (·<·)) (h:∀x,x∈l↔x∈m):l=m:=by
 have p:l.Perm m:=(List.perm_ext_iff_of_nodup (hl.imp λh z=>by omega) (hm.imp λh z=>by omega)).mpr h
 have o1:l.Pairwise (·<=·):=hl.imp λh=>Int.le_of_lt h
 have o2:m.Pairwise (·<=·):=hm.imp λh=>Int.le_of_lt h
 rw[Nm.mZ p o1,Nm.vQ o2]
theorem sj {p o:Int} (h:In b p) (ho:o∈c9 b p):c9 b o=c9 b p:=by
 have hi:=eX gb h ho
 refine Gf (kK gb hi) (kK gb h) λx=>⟨λhx=>qI gb h ho hx,λhx=>qI gb hi (Dy gb ho) hx⟩
theorem nh {p:Int} (h:In b p):rep b p∈c9 b p:=by
 unfold rep
 cases e:c9 b p with
 | nil=>exact absurd e (jj gb h)
 | cons x r=>exact aai
theorem Gg {p:Int} (h:In b p):In b (rep b p):=eX gb h (nh gb h)
theorem sk {p:Int} (h:In b p):c9 b (rep b p)=c9 b p:=sj gb h (nh gb h)
theorem Dz {p:Int} (h:In b p):rep b (rep b p)=rep b p:=by
 show(c9 b (rep b p)).headD (-1)=_
 rw[sk gb h]
 rfl
theorem sr {p o:Int} (h:In b p) (ho:o∈c9 b p):rep b o=rep b p:=by
 show(c9 b o).headD (-1)=_
 rw[sj gb h ho]
 rfl
omit gb in
theorem iJ {n:Nat} {p:Int}:p∈me b n↔(0<=p/\p<n)/\rep b p=p:=by
 unfold me
 rw[List.mem_filter,List.mem_map,decide_eq_true_eq]
 constructor
 ·rintro⟨⟨i,hi,rfl⟩,h⟩
  have:=List.mem_range.mp hi
  exact⟨⟨by omega,by omega⟩,h⟩
 ·rintro⟨⟨h1,h2⟩,h⟩
  exact⟨⟨p.toNat,List.mem_range.mpr (by omega),by omega⟩,h⟩
omit gb in
theorem Gh {n:Nat}:(me b n).Nodup:=by
 refine List.Pairwise.filter _ ?_
 rw[List.pairwise_map]
 exact List.nodup_range.imp λh z=>h (by omega)
omit gb in
theorem xF {n:Nat}:(me b n).length<=n:=by
 unfold me
 refine aap (List.length_filter_le _ _) ?_
 rw[aac,aay]
 exact aah _
omit gb in
theorem uB {n:Nat}:me b (n+1)=if rep b (n:Int)=(n:Int) then me b n++ [(n:Int)] else me b n:=by
 unfold me
 rw[List.range_succ,aaB,List.filter_append]
 by_cases c:rep b (n:Int)=(n:Int)
 ·rw[if_pos c]
  simp [c]
 ·rw[if_neg c]
  simp [c]
theorem DB {p:Int} (h:In b p):rep b p∈me b b.length:=iJ.mpr ⟨Gg gb h,Dz gb h⟩
end Q2
structure Told (b:List Pl) (ps:List Int):Prop where
 pm:ps.Perm (me b b.length)
 od:ps.Pairwise λp q=>(kb b p).length<=(kb b q).length
section Q3
variable {b : List Pl} (gb : Good b) {ps : List Int} (T : Told b ps)
include gb T
omit gb in
theorem Told.nd:ps.Nodup:=T.pm.nodup_iff.mpr Gh
omit gb in
theorem Told.Jr {p:Int} (h:p∈ps):In b p:=(iJ.mp (T.pm.mem_iff.mp h)).1
omit gb in
theorem Told.rp {p:Int} (h:p∈ps):rep b p=p:=(iJ.mp (T.pm.mem_iff.mp h)).2
theorem Told.has {p:Int} (h:In b p):rep b p∈ps:=T.pm.mem_iff.mpr (DB gb h)
theorem Told.Gi {p q:Int} (h:In b p) (hq:q∈kb b p):ps.idxOf (rep b q)<=ps.idxOf (rep b p):=by
 have hi:=oU gb h hq
 have sub:∀x∈kb b q,x∈kb b p:=λx hx=>fP gb h hq hx
 have le:=sub_len (oS gb hi) sub
 by_cases c:(kb b p).length<=(kb b q).length
 ·have:p∈kb b q:=sub_eq (oS gb hi) (oS gb h) sub c p (iI gb h)
  rw[sr gb h (dh.mpr ⟨hq,this⟩)]
  exact aah _
 ·have l1:=aaS (T.has gb hi)
  have l2:=aaS (T.has gb h)
  rcases Nat.lt_or_ge (ps.idxOf (rep b p)) (ps.idxOf (rep b q)) with g | g
  ·have od:=List.pairwise_iff_getElem.mp T.od _ _ l2 l1 g
   rw[aaW l2,aaW l1,<-xE gb h (nh gb h),<-xE gb hi (nh gb hi)] at od
   omega
  ·exact g
end Q3
noncomputable def gY (b:List Pl):List Int->Nat->List (Int×Int)
 | [],_=>[]
 | p::ps,i=>(c9 b p).map (λx=>(x,(i:Int)))++gY b ps (i+1)
theorem lF (b:List Pl):∀(l m:List Int) (i:Nat),gY b (l++m) i=gY b l i++gY b m (i+l.length)
 | [],m,i=>rfl
 | p::l,m,i=>by
  rw[abo,gY,gY,lF b l m (i+1),List.append_assoc,aaq,show i+1+l.length=i+ (l.length+1) by omega]
theorem jN {b:List Pl} {x j:Int}:∀{ps:List Int} {i:Nat},(x,j)∈gY b ps i↔∃t p,ps[t]?=some p/\x∈c9 b p/\j=((i+t:Nat):Int)
 | [],i=>by
  constructor
  ·intro h;cases h
  ·rintro⟨t,p,h,_⟩;simp at h
 | q::ps,i=>by
  rw[gY,List.mem_append,List.mem_map,jN (ps:=ps)]
  constructor
  ·rintro(⟨y,hy,e⟩ | ⟨t,p,h1,h2,h3⟩)
   ·injection e with e1 e2
    subst e1 e2
    exact⟨0,q,rfl,hy,rfl⟩
   ·exact⟨t+1,p,by simpa using h1,h2,by rw[h3];congr 1;omega⟩
  ·rintro⟨t,p,h1,h2,h3⟩
   cases t with
   | zero=>simp at h1;subst h1;exact .inl ⟨x,h2,by rw[h3];rfl⟩
   | succ t=>exact .inr ⟨t,p,by simpa using h1,h2,by rw[h3];congr 1;omega⟩
theorem xG {b:List Pl} (gb:Good b):∀{ps:List Int} {i:Nat},ps.Nodup->(∀p∈ps,In b p/\rep b p=p)->((gY b ps i).map (·.1)).Nodup
 | [],i,_,_=>List.nodup_nil
 | p::ps,i,nd,h=>by
  obtain⟨n1,n2⟩:=List.nodup_cons.mp nd
  have hp:=h p aai
  rw[gY,aaB,List.nodup_append]
  refine⟨?_,xG gb n2 λq hq=>h q (aaj _ hq),λx hx y hy e=>?_⟩
  ·rw[aaT,show((λx:Int×Int=>x.1) ∘λx=>(x,(i:Int)))=id from rfl,List.map_id]
   exact(kK gb hp.1).imp λh z=>by omega
  ·rw[aaT,show((λx:Int×Int=>x.1) ∘λx=>(x,(i:Int)))=id from rfl,List.map_id] at hx
   subst e
   obtain⟨⟨x',j⟩,hm,rfl⟩:=List.mem_map.mp hy
   obtain⟨t,q,h1,h2,_⟩:=jN.mp hm
   have hq:=h q (aaj _ (aag h1))
   have e1:=sr gb hp.1 hx
   have e2:=sr gb hq.1 h2
   rw[hp.2] at e1
   rw[hq.2] at e2
   have:p=q:=e1.symm.trans e2
   exact n1 (this▸aag h1)
section Q9
variable {b : List Pl} (gb : Good b) {ps : List Int} (T : Told b ps)
include gb T
theorem Told.Gj:((gY b ps 0).map (·.1)).Nodup:=xG gb T.nd λp hp=>⟨T.Jr hp,T.rp hp⟩
theorem Told.DC {x:Int} (h:In b x):(x,((ps.idxOf (rep b x):Nat):Int))∈gY b ps 0:=by
 have hm:=T.has gb h
 refine jN.mpr ⟨ps.idxOf (rep b x),rep b x,?_,?_,by rw[aaV]⟩
 ·have l:=aaS hm
  rw[aad l,aaW l]
 ·rw[sk gb h];exact oW gb h
theorem Told.Gk {x j:Int} (h:(x,j)∈gY b ps 0):In b x:=by
 obtain⟨t,p,h1,h2,_⟩:=jN.mp h
 exact eX gb (T.Jr (aag h1)) h2
theorem Told.A6:Nm.mY ((gY b ps 0).map (·.1))=(List.range b.length).map fun(i:Nat)=>(i:Int):=by
 refine(Nm.mZ ((List.perm_ext_iff_of_nodup ?_ (T.Gj gb)).mpr λx=>?_) ?_).symm
 ·rw[List.nodup_iff_pairwise_ne,List.pairwise_map]
  exact List.nodup_range.imp λh z=>h (by omega)
 ·rw[List.mem_map,List.mem_map]
  constructor
  ·rintro⟨i,hi,rfl⟩
   have:=List.mem_range.mp hi
   exact⟨_,T.DC gb (x:=(i:Int)) ⟨by omega,by omega⟩,rfl⟩
  ·rintro⟨⟨y,j⟩,hy,rfl⟩
   obtain⟨h0,h1⟩:=T.Gk gb hy
   exact⟨y.toNat,List.mem_range.mpr (by omega),by show((y.toNat:Nat):Int)=y;omega⟩
 ·rw[List.pairwise_map]
  exact List.pairwise_lt_range.imp λh=>by omega
end Q9
noncomputable def off (b:List Pl) (ps:List Int) (i:Nat):Nat:=(gY b (ps.take i) 0).length
theorem oX {b:List Pl} {ps:List Int} {i:Nat} {p:Int} (e:ps[i]?=some p):off b ps (i+1)=off b ps i+ (c9 b p).length:=by
 unfold off
 rw[aaF,e,Option.toList_some,lF,aaJ,gY,gY,aaY,aac]
theorem DD {b:List Pl} {ps:List Int}:off b ps ps.length=(gY b ps 0).length:=by unfold off;rw[aaH (aah _)]
end Pr
namespace Dg
open Lv Bf
structure Down (b:List Pl) (rk:Int->Nat):Prop where
 good:Good b
 dn:∀(i:Nat) q,b[i]?=some q->∀g∈gc q,rk g<rk (i:Int)
 dA:∀q∈b,∀g ws,q=.dA g ws->ws≠[]
section DA
variable {b : List Pl} {rk : Int -> Nat} (D : Down b rk)
include D
end DA
end Dg
namespace Dg
abbrev Sh:=Wq.Sh
abbrev Wy:=List (Int×Int)
noncomputable def vl (x:Sh):Rat:=(x.1:Rat) / (x.2:Rat)
theorem uC {a:Int} (h:0<a):(a:Rat)≠0:=λz=>by
 have:a=0:=Rat.intCast_inj.mp z
 omega
theorem uD {x:Sh} {a b:Int} (hx:0<x.2) (hb:0<b) (h:x.1*b=a*x.2):vl x=(a:Rat) / (b:Rat):=by
 have h1:=uC hx
 have h2:=uC hb
 have h3:(x.1:Rat)* (b:Rat)=(a:Rat)* (x.2:Rat):=by rw[<-Rat.intCast_mul,<-Rat.intCast_mul,h]
 unfold vl
 generalize (x.1:Rat)=u at *
 generalize (x.2:Rat)=v at *
 generalize (a:Rat)=s at *
 generalize (b:Rat)=t at *
 grind
theorem su {a b:Int} (h:0<b):vl (Wq.low a b)=(a:Rat) / (b:Rat):=uD (Wq.fA h).1 h (Nm.oa a b)
theorem Js {x y:Sh} (hx:0<x.2) (hy:0<y.2):vl (Wq.pl x y)=vl x+vl y:=by
 unfold Wq.pl
 rw[su (aaE hx hy)]
 have h1:=uC hx
 have h2:=uC hy
 rw[Rat.intCast_add,Rat.intCast_mul,Rat.intCast_mul,Rat.intCast_mul]
 unfold vl
 generalize (x.1:Rat)=u at *
 generalize (x.2:Rat)=v at *
 generalize (y.1:Rat)=s at *
 generalize (y.2:Rat)=t at *
 grind
theorem Jt {x y:Sh} (hx:0<x.2) (hy:0<y.2):vl (Wq.tm x y)=vl x*vl y:=by
 unfold Wq.tm
 rw[su (aaE hx hy)]
 have h1:=uC hx
 have h2:=uC hy
 rw[Rat.intCast_mul,Rat.intCast_mul]
 unfold vl
 generalize (x.1:Rat)=u at *
 generalize (x.2:Rat)=v at *
 generalize (y.1:Rat)=s at *
 generalize (y.2:Rat)=t at *
 grind
theorem kL {x y:Sh} (hx:Wq.Lw x) (hy:Wq.Lw y) (h:vl x=vl y):x=y:=by
 have h1:=uC hx.1
 have h2:=uC hy.1
 have c:(x.1:Rat)* (y.2:Rat)=(y.1:Rat)* (x.2:Rat):=by
  unfold vl at h
  generalize (x.1:Rat)=u at *
  generalize (x.2:Rat)=v at *
  generalize (y.1:Rat)=s at *
  generalize (y.2:Rat)=t at *
  grind
 rw[<-Rat.intCast_mul,<-Rat.intCast_mul] at c
 obtain⟨a,b⟩:=Nm.C5 hx.1 hy.1 hx.2 hy.2 (Rat.intCast_inj.mp c)
 exact Prod.ext a b
noncomputable def tt (ws:Wy):Int:=if ws=[] then 1 else Wq.cm ws
theorem c8 (x:Int×Int) (ws:Wy):Wq.cm (x::ws)=x.1+Wq.cm ws:=rfl
noncomputable def de (d:Int) (v:Int->Rat):Wy->Rat
 | []=>0
 | x::ws=>(x.1:Rat) / (d:Rat)*v x.2+de d v ws
theorem jl {d:Int} {v v':Int->Rat}:∀{ws:Wy},(∀x∈ws,v x.2=v' x.2)->de d v ws=de d v' ws
 | [],_=>rfl
 | x::ws,h=>by
  unfold de
  rw[h x aai,jl λy hy=>h y (aaj _ hy)]
theorem xH {d:Int} (d0:0<d) {v:Int->Sh}:∀{ws:Wy} {a:Sh},0<a.2->(∀x∈ws,0< (v x.2).2)->0< (Wq.jg d v a ws).2/\vl (Wq.jg d v a ws)=vl a+de d (λi=>vl (v i)) ws
 | [],a,h,_=>⟨h,by show vl a=vl a+0;grind⟩
 | x::ws,a,h,hv=>by
  have hx:=hv x aai
  have lw:=Wq.fA (a:=x.1) d0
  have t0:0< (Wq.tm (Wq.low x.1 d) (v x.2)).2:=(Wq.fA (aaE lw.1 hx)).1
  have p0:0< (Wq.pl a (Wq.tm (Wq.low x.1 d) (v x.2))).2:=(Wq.fA (aaE h t0)).1
  obtain⟨i1,i2⟩:=xH d0 (v:=v) (ws:=ws) p0 λy hy=>hv y (aaj _ hy)
  refine⟨i1,?_⟩
  show vl (Wq.jg d v (Wq.pl a (Wq.tm (Wq.low x.1 d) (v x.2))) ws)=vl a+ ((x.1:Rat) / (d:Rat)*vl (v x.2)+de d (λi=>vl (v i)) ws)
  rw[i2,Js h t0,Jt lw.1 hx,su d0]
  grind
abbrev Bk:=List Int×Int
noncomputable def val (S:Bk) (q:Int):Rat:=(S.1.getD q.toNat 0:Rat) / (S.2:Rat)
noncomputable def gZ (ts:List Int) (ws:Wy):Int:=(ws.map λx=>x.1*ts.getD x.2.toNat 0).sum
theorem sE (ts:List Int) (d:Int) (q:Nat):(ts.map (·*d)).getD q 0=ts.getD q 0*d:=by
 rw[aae,aae,aaf]
 cases ts[q]? with
 | none=>show(0:Int)=0*d;omega
 | some x=>rfl
theorem fm {ts:List Int} {p q:Nat} {x:Int} (h:p≠q):(ts.set p x).getD q 0=ts.getD q 0:=by
 rw[aae,aae,aaL h]
theorem ij {ts:List Int} {p:Nat} {x:Int} (h:p<ts.length):(ts.set p x).getD p 0=x:=by
 rw[aae,aaU h]
 rfl
theorem uE {S:Bk} (B0:0<S.2) {d:Int} (d0:0<d):∀ws:Wy,(gZ S.1 ws:Rat) / ((S.2*d:Int):Rat)=de d (val S) ws
 | []=>by show((0:Int):Rat) / _=0;grind
 | x::ws=>by
  have ih:=uE B0 d0 ws
  have h1:=uC B0
  have h2:=uC d0
  show(((x.1*S.1.getD x.2.toNat 0+gZ S.1 ws:Int)):Rat) / ((S.2*d:Int):Rat)=(x.1:Rat) / (d:Rat)* ((S.1.getD x.2.toNat 0:Rat) / (S.2:Rat))+de d (val S) ws
  rw[<-ih,Rat.intCast_add,Rat.intCast_mul,Rat.intCast_mul]
  generalize (x.1:Rat)=u at *
  generalize (S.2:Rat)=v at *
  generalize (d:Rat)=t at *
  generalize ((S.1.getD x.2.toNat 0:Int):Rat)=s at *
  generalize ((gZ S.1 ws:Int):Rat)=r at *
  grind
end Dg
namespace Dg
theorem NG:((1:Int):Rat) / ((1:Int):Rat)=1:=by
 have:((1:Int):Rat)=1:=rfl
 grind
theorem Wd:((0:Int):Rat) / ((1:Int):Rat)=0:=by
 have:((0:Int):Rat)=0:=rfl
 grind
noncomputable def pr (d:Int) (q:Int):Wy->Rat
 | []=>0
 | x::ws=>(if x.2=q then (x.1:Rat) / (d:Rat) else 0)+pr d q ws
noncomputable def Runs (W:Int->Wy):List Int->(Int->Rat)->(Int->Rat)->Prop
 | [],f,g=>∀q,0<=q->g q=f q
 | p::os,f,g=>∃f1,(∀q,0<=q->f1 q=f q+f p*pr (tt (W p)) q (W p))/\Runs W os f1 g
noncomputable def jm (q:Int) (ws:Wy):Int:=(ws.map λx=>if x.2=q then x.1 else 0).sum
end Dg
namespace Dg
structure Wst (n:Nat) (G:Int) (i:Nat) (S:Bk):Prop where
 len:S.1.length=n
 pos:0<S.2
 dv:G∣S.2
 bb:Bt (4*i+4) S.2
 bt:∀q,(S.1.getD q 0).natAbs<=S.2.toNat * (6*i)
structure Vst (n:Nat) (i:Nat) (S:Bk):Prop where
 len:S.1.length=n
 pos:0<S.2
 bb:Bt (4*i+1) S.2
 bt:∀q,(S.1.getD q 0).natAbs<=32^i
end Dg
namespace Dg
noncomputable def d7 (v:Int->Int):Wy->Int
 | []=>0
 | x::ws=>x.1*v x.2+d7 v ws
theorem sG {v:Int->Int} {M:Nat}:∀{ws:Wy},(∀x∈ws,1<=x.1/\(v x.2).natAbs<=M)->(d7 v ws).natAbs<=(Wq.cm ws).toNat *M/\0<=Wq.cm ws
 | [],_=>⟨aas _,Int.le_refl _⟩
 | x::ws,h=>by
  obtain⟨h1,h2⟩:=h x aai
  obtain⟨i1,i2⟩:=sG (ws:=ws) λy hy=>h y (aaj _ hy)
  have m1:(x.1*v x.2).natAbs<=x.1.toNat *M:=by
   rw[aa3,show x.1.natAbs=x.1.toNat by omega]
   exact abx _ h2
  have e:(Wq.cm (x::ws)).toNat=x.1.toNat+ (Wq.cm ws).toNat:=by rw[c8];omega
  refine⟨?_,by rw[c8];omega⟩
  rw[e,Nat.add_mul]
  show(x.1*v x.2+d7 v ws).natAbs<=_
  omega
theorem xI {v:Int->Int} {M:Nat}:∀{ws:Wy},(∀x∈ws,1<=x.1/\(v x.2).natAbs<=M)->(∃x∈ws,(v x.2).natAbs<M)->(d7 v ws).natAbs< (Wq.cm ws).toNat *M
 | [],_,h=>by obtain⟨x,hx,_⟩:=h;simp at hx
 | x::ws,h,k=>by
  obtain⟨h1,h2⟩:=h x aai
  have hw:∀y∈ws,1<=y.1/\(v y.2).natAbs<=M:=λy hy=>h y (aaj _ hy)
  obtain⟨i1,i2⟩:=sG hw
  have e:(Wq.cm (x::ws)).toNat=x.1.toNat+ (Wq.cm ws).toNat:=by rw[c8];omega
  have ab:(x.1*v x.2).natAbs=x.1.toNat * (v x.2).natAbs:=by rw[aa3,show x.1.natAbs=x.1.toNat by omega]
  have m1:x.1.toNat * (v x.2).natAbs<=x.1.toNat *M:=abx _ h2
  rw[e,Nat.add_mul]
  show(x.1*v x.2+d7 v ws).natAbs<_
  obtain⟨y,hy,ly⟩:=k
  rcases List.mem_cons.mp hy with rfl | hy
  ·have:y.1.toNat * (v y.2).natAbs<y.1.toNat *M:=Nat.mul_lt_mul_of_pos_left ly (by omega)
   omega
  ·have:=xI hw ⟨y,hy,ly⟩
   omega
theorem xJ (v:Int->Int):∀(ps:List Int),ps≠[]->∃q∈ps,∀p∈ps,(v p).natAbs<=(v q).natAbs
 | [],h=>absurd rfl h
 | [a],_=>⟨a,List.mem_singleton.mpr rfl,λp hp=>by rw[List.mem_singleton.mp hp];exact aah _⟩
 | a::b::l,_=>by
  obtain⟨q,hq,h⟩:=xJ v (b::l) (by simp)
  by_cases c:(v q).natAbs<=(v a).natAbs
  ·refine⟨a,aai,λp hp=>?_⟩
   rcases List.mem_cons.mp hp with rfl | hp
   ·exact aah _
   ·exact aap (h p hp) c
  ·refine⟨q,aaj _ hq,λp hp=>?_⟩
   rcases List.mem_cons.mp hp with rfl | hp
   ·omega
   ·exact h p hp
theorem yX {ps:List Int} {W:Int->Wy} {lv:Int->Nat} {v:Int->Int} (h:∀p∈ps,tt (W p)*v p=d7 v (W p)) (pos:∀p∈ps,∀x∈W p,1<=x.1) (out:∀q,q∉ps->v q=0) (dn:∀p∈ps,W p=[]\/∃x∈W p,lv x.2<lv p):∀p∈ps,v p=0:=by
 intro p0 EI
 obtain⟨q,hq,mx⟩:=xJ v ps (List.ne_nil_of_mem EI)
 have all:∀r,(v r).natAbs<=(v q).natAbs:=λr=>by
  by_cases c:r∈ps
  ·exact mx r c
  ·rw[out r c];exact aas _
 by_cases M0:(v q).natAbs=0
 ·have:=mx p0 EI
  omega
 ·exfalso
  have low:∀n,∀p∈ps,lv p<n->(v p).natAbs< (v q).natAbs:=by
   intro n
   induction n with
   | zero=>exact λp _ hl=>absurd hl (abc _)
   | succ n ih=>
    intro p hp hl
    have e:=h p hp
    rcases dn p hp with z | ⟨x,hx,lx⟩
    ·rw[z] at e
     have e:1*v p=0:=e
     omega
    ·have k:=xI (v:=v) (M:=(v q).natAbs) (ws:=W p) (λy hy=>⟨pos p hp y hy,all _⟩) ⟨x,hx,by
      by_cases c:x.2∈ps
      ·exact ih _ c (by omega)
      ·rw[out _ c];show 0<_;omega⟩
     have et:tt (W p)=Wq.cm (W p):=by unfold tt;rw[if_neg (List.ne_nil_of_mem hx)]
     have tp:=(sG (v:=v) (M:=(v q).natAbs) (ws:=W p) λy hy=>⟨pos p hp y hy,all _⟩).2
     rw[<-e,aa3,et,show(Wq.cm (W p)).natAbs=(Wq.cm (W p)).toNat by omega] at k
     exact Nat.lt_of_mul_lt_mul_left k
  exact aaG _ (low _ q hq (aaM _))
end Dg
namespace aW
abbrev Fm:=Nat->Int
noncomputable def X (w:Fm) (F:List Nat->Int):List Nat->Int
 | []=>0
 | c::cs=>w c*F cs - X w (λl=>F (c::l)) cs
noncomputable def D:List Fm->List Nat->Int
 | [],[]=>1
 | [],_::_=>0
 | w::rs,cs=>X w (D rs) cs
theorem ni (w:Fm):∀(cs:List Nat) (F G:List Nat->Int),X w (λl=>F l+G l) cs=X w F cs+X w G cs
 | [],_,_=>rfl
 | c::cs,F,G=>by
  simp only[X]
  rw[ni w cs (λl=>F (c::l)) (λl=>G (c::l)),Int.mul_add]
  omega
theorem nj (w:Fm) (k:Int):∀(cs:List Nat) (F:List Nat->Int),X w (λl=>k*F l) cs=k*X w F cs
 | [],_=>(Int.mul_zero k).symm
 | c::cs,F=>by
  simp only[X]
  rw[nj w k cs (λl=>F (c::l)),Int.mul_sub,<-aaD,<-aaD,aaA k (w c)]
theorem uF (w:Fm):∀(cs:List Nat),X w (λ_=>0) cs=0
 | []=>rfl
 | c::cs=>by simp only[X];rw[uF w cs];simp
theorem DE (w:Fm) (cs:List Nat) (F:List Nat->Int):X w (λl=> - F l) cs= - X w F cs:=by
 have:=nj w (-1) cs F
 rw[Int.neg_one_mul] at this
 rw[<-this]
 congr 1;funext l;rw[Int.neg_one_mul]
theorem gI (v w:Fm):∀(cs:List Nat) (F:List Nat->Int),X (λc=>v c+w c) F cs=X v F cs+X w F cs
 | [],_=>rfl
 | c::cs,F=>by
  simp only[X]
  rw[gI v w cs (λl=>F (c::l)),Int.add_mul]
  omega
theorem iK (k:Int) (w:Fm):∀(cs:List Nat) (F:List Nat->Int),X (λc=>k*w c) F cs=k*X w F cs
 | [],_=>(Int.mul_zero k).symm
 | c::cs,F=>by
  simp only[X]
  rw[iK k w cs (λl=>F (c::l)),Int.mul_sub,aaD]
theorem sI {v w:Fm}:∀{cs:List Nat} {F:List Nat->Int},(∀c∈cs,v c=w c)->X v F cs=X w F cs
 | [],_,_=>rfl
 | c::cs,F,h=>by
  simp only[X]
  rw[h c (aai ..),sI (cs:=cs) λc' hc=>h c' (aaj _ hc)]
theorem qJ {w:Fm}:∀{cs:List Nat} {F:List Nat->Int},(∀c∈cs,w c=0)->X w F cs=0
 | [],_,_=>rfl
 | c::cs,F,h=>by
  simp only[X]
  rw[h c (aai ..),qJ (cs:=cs) λc' hc=>h c' (aaj _ hc)]
  simp
theorem A7 (w:Fm):∀(cs:List Nat) (F:List Nat->Int),X w (X w F) cs=0
 | [],_=>rfl
 | c::cs,F=>by
  simp only[X]
  have e:=ni w cs (λl=>w c*F l) (λl=> - X w (λm=>F (c::m)) l)
  have e2:X w (λl=>w c*F l - X w (λm=>F (c::m)) l) cs=X w (λl=>w c*F l+- X w (λm=>F (c::m)) l) cs:=by
   congr 1
  rw[e2,e,nj,DE,A7 w cs λm=>F (c::m)]
  omega
theorem A8 (v w:Fm) (cs:List Nat) (F:List Nat->Int):X v (X w F) cs= - X w (X v F) cs:=by
 have e:=A7 (λc=>v c+w c) cs F
 have e1:X (λc=>v c+w c) F=λl=>X v F l+X w F l:=by funext l;exact gI v w l F
 rw[e1,gI,ni,ni,A7,A7] at e
 omega
theorem xK {w:Fm}:∀{rs:List Fm} (_:w∈rs) (cs:List Nat),D (w::rs) cs=0
 | u::rs,h,cs=>by
  rcases List.mem_cons.mp h with rfl | h
  ·exact A7 _ _ _
  ·show X w (X u (D rs)) cs=0
   rw[A8]
   have e:X w (D rs)=λ_=>0:=by funext l;exact xK h l
   rw[e,uF]
   rfl
noncomputable def Sp:List Fm->Fm->Prop
 | [],f=>∀j,f j=0
 | w::rs,f=>∃(c:Int) (g:Fm),Sp rs g/\∀j,f j=c*w j+g j
theorem Sp.congr {f g:Fm}:∀{rs:List Fm},Sp rs f->(∀j,f j=g j)->Sp rs g
 | [],h,e=>λj=>by rw[<-e];exact h j
 | w::rs,⟨c,k,hk,e1⟩,e=>⟨c,k,hk,λj=>by rw[<-e];exact e1 j⟩
theorem Sp.zero:∀{rs:List Fm},Sp rs (λ_=>0)
 | []=>λ_=>rfl
 | _::_=>⟨0,_,Sp.zero,λj=>by simp⟩
theorem Sp.add {f g:Fm}:∀{rs:List Fm},Sp rs f->Sp rs g->Sp rs (λj=>f j+g j)
 | [],h,k=>λj=>by show f j+g j=0;rw[h j,k j];rfl
 | w::rs,⟨c,f',hf,e1⟩,⟨d,g',hg,e2⟩=>⟨c+d,_,hf.add hg,λj=>by show f j+g j=_;rw[e1,e2,Int.add_mul];omega⟩
theorem Sp.mul {f:Fm} (k:Int):∀{rs:List Fm},Sp rs f->Sp rs (λj=>k*f j)
 | [],h=>λj=>by show k*f j=0;rw[h j,Int.mul_zero]
 | w::rs,⟨c,f',hf,e1⟩=>⟨k*c,_,hf.mul k,λj=>by show k*f j=_;rw[e1,Int.mul_add,aaD]⟩
theorem Sp.X {rs:List Fm} (w:Fm):∀(cs:List Nat) (F:Nat->List Nat->Int),(∀l,Sp rs (λj=>F j l))->Sp rs (λj=>aW.X w (F j) cs)
 | [],_,_=>Sp.zero
 | c::cs,F,h=>by
  have h1:=(h cs).mul (w c)
  have h2:=(Sp.X w cs (λj l=>F j (c::l)) (λl=>h (c::l))).mul (-1)
  exact(h1.add h2).congr λj=>by simp only[aW.X];rw[Int.neg_one_mul];omega
theorem Ju:∀(rs:List Fm) (l:List Nat),Sp rs (λj=>D rs (j::l))
 | [],l=>λj=>rfl
 | w::rs,l=>by
  refine⟨D rs l,_,(Sp.X w l (λj m=>D rs (j::m)) λm=>Ju rs m).mul (-1),λj=>?_⟩
  show w j*D rs l - X w (λm=>D rs (j::m)) l=_
  rw[Int.neg_one_mul,aaA]
  omega
theorem A9 {us:List Fm}:∀{rs:List Fm} {g:Fm},Sp rs g->(∀r∈rs,r∈us)->∀cs,D (g::us) cs=0
 | [],g,h,_,cs=>qJ λc _=>h c
 | w::rs,g,⟨c,g',h,e⟩,hs,cs=>by
  have e':g=λj=>c*w j+g' j:=funext e
  show X g (D us) cs=0
  rw[e',gI,iK]
  have z1:X w (D us) cs=0:=xK (hs w (aai ..)) cs
  have z2:X g' (D us) cs=0:=A9 h (λr hr=>hs r (aaj _ hr)) cs
  rw[z1,z2];simp
theorem NH (rs:List Fm) (cs:List Nat) (v:Fm):Sp rs (λj=>D rs cs*v j+- D (v::rs) (j::cs)):=by
 refine(Sp.X v cs (λj m=>D rs (j::m)) λm=>Ju rs m).congr λj=>?_
 show _=D rs cs*v j+- (v j*D rs cs - X v (λm=>D rs (j::m)) cs)
 rw[aaA]
 omega
theorem main (rs:List Fm) (cs:List Nat) (u v:Fm) (j k:Nat) (h:∀c∈cs,D (v::rs) (c::cs)=0):
  D rs cs*D (v::u::rs) (j::k::cs)=D (u::rs) (k::cs)*D (v::rs) (j::cs) - D (v::rs) (k::cs)*D (u::rs) (j::cs):=by
 have s:=NH rs cs v
 have z:=A9 (us:=u::rs) s (λr hr=>aaj _ hr) (j::k::cs)
 have z':X (λj=>D rs cs*v j+- D (v::rs) (j::cs)) (D (u::rs)) (j::k::cs)=0:=z
 have e1:D rs cs*D (v::u::rs) (j::k::cs)=X (λj=>D rs cs*v j) (D (u::rs)) (j::k::cs):=(iK _ _ _ _).symm
 have e2:X (λj=>D rs cs*v j+- D (v::rs) (j::cs)) (D (u::rs)) (j::k::cs)=X (λj=>D rs cs*v j) (D (u::rs)) (j::k::cs)+X (λj=> - D (v::rs) (j::cs)) (D (u::rs)) (j::k::cs):=gI _ _ _ _
 have e3:X (λj=> - D (v::rs) (j::cs)) (D (u::rs)) (j::k::cs)= - D (v::rs) (j::cs)*D (u::rs) (k::cs) - (- D (v::rs) (k::cs)*D (u::rs) (j::cs) - X (λj=> - D (v::rs) (j::cs)) (λl=>D (u::rs) (j::k::l)) cs):=rfl
 have e4:X (λj=> - D (v::rs) (j::cs)) (λl=>D (u::rs) (j::k::l)) cs=0:=qJ λc hc=>by rw[h c hc];rfl
 rw[e1]
 rw[e2,e3,e4] at z'
 rw[Int.neg_mul,Int.neg_mul] at z'
 rw[aaA (D (u::rs) (k::cs))]
 omega
noncomputable def Good:List Fm->List Nat->Prop
 | [],[]=>True
 | u::rs,k::cs=>Good rs cs/\D (u::rs) (k::cs)≠0
 | _,_=>False
theorem Good.ne:∀{rs:List Fm} {cs:List Nat},Good rs cs->D rs cs≠0
 | [],[],_=>by show(1:Int)≠0;decide
 | _::_,_::_,h=>h.2
 | [],_::_,h=>h.elim
 | _::_,[],h=>h.elim
theorem Good.LZ:∀{rs:List Fm} {cs:List Nat},Good rs cs->∀(v:Fm) (c:Nat),c∈cs->D (v::rs) (c::cs)=0
 | [],[],_,_,_,hc=>by cases hc
 | u::rs,k::cs,h,v,c,hc=>by
  have hm:=main rs cs u v c k (λc hc=>h.1.LZ v c hc)
  have hz:D (u::rs) (k::cs)*D (v::rs) (c::cs) - D (v::rs) (k::cs)*D (u::rs) (c::cs)=0:=by
   rcases List.mem_cons.mp hc with rfl | hc
   ·rw[aaA];omega
   ·rw[h.1.LZ v c hc,h.1.LZ u c hc];simp
  rw[hz] at hm
  rcases Int.mul_eq_zero.mp hm with h0 | h0
  ·exact absurd h0 h.1.ne
  ·exact h0
 | [],_::_,h,_,_,_=>h.elim
 | _::_,[],h,_,_,_=>h.elim
theorem Ba {rs:List Fm} {cs:List Nat} (g:Good rs cs) (u v:Fm) (j k:Nat):
  D (u::rs) (k::cs)*D (v::rs) (j::cs) - D (v::rs) (k::cs)*D (u::rs) (j::cs)=D rs cs*D (v::u::rs) (j::k::cs):=
 (main rs cs u v j k (λc hc=>g.LZ v c hc)).symm
noncomputable def dn:Nat->List Nat
 | 0=>[]
 | k+1=>k::dn k
theorem kM:∀{n c:Nat},c∈dn n↔c<n
 | 0,c=>by simp [dn]
 | n+1,c=>by rw[dn,List.mem_cons,kM];omega
theorem kO:∀n,(dn n).length=n
 | 0=>rfl
 | n+1=>by rw[dn,aaq,kO]
noncomputable def ng (i:Nat):Fm:=λc=>if c=i then -1 else 0
theorem Bb (rs:List Fm) (u:Fm) (j k:Nat) (h:k<j):
  D (ng k::u::rs) (j::k::dn k)=D (u::rs) (j::dn k):=by
 show ng k j*D (u::rs) (k::dn k) - (ng k k*D (u::rs) (j::dn k) - X (ng k) (λl=>D (u::rs) (j::k::l)) (dn k))=_
 rw[qJ (w:=ng k) λc hc=>by have:=kM.mp hc;exact if_neg (by omega)]
 have a:ng k j=0:=if_neg (by omega)
 have b:ng k k= -1:=if_pos rfl
 rw[a,b]
 omega
noncomputable def sm:Nat->(Nat->Int)->Int
 | 0,_=>0
 | n+1,f=>sm n f+f n
theorem EJ (u:Fm) (F:List Nat->Int) (cs:List Nat):∀n,sm n (λi=>u i*X (ng i) F cs)=X (λc=>if c<n then - u c else 0) F cs
 | 0=>by
  show 0=_
  exact(qJ λc _=>if_neg (by omega)).symm
 | n+1=>by
  show sm n _+u n*X (ng n) F cs=_
  rw[EJ u F cs n,<-iK,<-gI]
  refine sI λc _=>?_
  show(if c<n then - u c else 0)+u n* (if c=n then -1 else 0)=_
  by_cases e:c=n
  ·subst e
   rw[if_neg (by omega),if_pos rfl,if_pos (by omega)]
   omega
  ·rw[if_neg e]
   by_cases l:c<n
   ·rw[if_pos l,if_pos (by omega)];simp
   ·rw[if_neg l,if_neg (by omega)];simp
theorem Bc (rs:List Fm) (u:Fm) (k:Nat):
  sm k (λi=>u i*D (ng i::rs) (k::dn k))=u k*D rs (dn k) - D (u::rs) (k::dn k):=by
 have e:=EJ u (D rs) (k::dn k) k
 have e1:X (λc=>if c<k then - u c else 0) (D rs) (k::dn k)=X (λc=>(-1)*u c+u k* (if c=k then 1 else 0)) (D rs) (k::dn k):=by
  refine sI λc hc=>?_
  rcases List.mem_cons.mp hc with rfl | hc
  ·rw[if_neg (by omega),if_pos rfl];omega
  ·have:=kM.mp hc
   rw[if_pos this,if_neg (by omega)];omega
 have e2:X (λc=>if c=k then (1:Int) else 0) (D rs) (k::dn k)=D rs (dn k):=by
  show(if k=k then (1:Int) else 0)*D rs (dn k) - X (λc=>if c=k then (1:Int) else 0) (λl=>D rs (k::l)) (dn k)=_
  rw[if_pos rfl,qJ λc hc=>by have:=kM.mp hc;exact if_neg (by omega)]
  omega
 have e3:sm k (λi=>u i*D (ng i::rs) (k::dn k))=sm k (λi=>u i*X (ng i) (D rs) (k::dn k)):=rfl
 rw[e3,e,e1,gI,iK,iK,e2]
 show(-1)*D (u::rs) (k::dn k)+u k*D rs (dn k)=_
 omega
theorem perm {rs us:List Fm} (h:rs.Perm us):∃s:Int,(s=1\/s= -1)/\∀cs,D rs cs=s*D us cs:=by
 induction h with
 | nil=>exact⟨1,.inl rfl,λcs=>(Int.one_mul _).symm⟩
 | cons w _ ih=>
  obtain⟨s,h,e⟩:=ih
  refine⟨s,h,λcs=>?_⟩
  show X w _ cs=s*X w _ cs
  rw[<-nj]
  congr 1
  funext l
  exact e l
 | swap x y l=>exact⟨-1,.inr rfl,λcs=>by rw[Int.neg_one_mul];exact A8 _ _ _ _⟩
 | trans _ _ YV L3=>
  obtain⟨s,h,e⟩:=YV
  obtain⟨t,k,f⟩:=L3
  refine⟨s*t,?_,λcs=>by rw[e,f,aaD]⟩
  rcases h with rfl | rfl <;>rcases k with rfl | rfl <;>decide
theorem DF {rs us:List Fm} (h:rs.Perm us) (cs:List Nat):D rs cs≠0↔D us cs≠0:=by
 obtain⟨s,hs,e⟩:=perm h
 rw[e]
 rcases hs with rfl | rfl <;>omega
theorem fQ {f g:Nat->Int}:∀{n},(∀i,i<n->f i=g i)->sm n f=sm n g
 | 0,_=>rfl
 | n+1,h=>by show sm n f+f n=sm n g+g n;rw[fQ λi hi=>h i (by omega),h n (by omega)]
theorem wc (f g:Nat->Int):∀n,sm n (λi=>f i+g i)=sm n f+sm n g
 | 0=>rfl
 | n+1=>by show sm n _+ (f n+g n)=sm n f+f n+ (sm n g+g n);rw[wc f g n];omega
theorem oY (k:Int) (f:Nat->Int):∀n,sm n (λi=>k*f i)=k*sm n f
 | 0=>(Int.mul_zero k).symm
 | n+1=>by show sm n _+k*f n=k* (sm n f+f n);rw[oY k f n,Int.mul_add]
theorem xM:∀n,sm n (λ_=>0)=0
 | 0=>rfl
 | n+1=>by show sm n _+0=0;rw[xM n];rfl
theorem Be (g:Nat->Int) (t:Nat):∀n,sm n (λj=>g j* (if j=t then 1 else 0))=if t<n then g t else 0
 | 0=>by rw[if_neg (by omega)];rfl
 | n+1=>by
  show sm n _+g n* (if n=t then 1 else 0)=_
  rw[Be g t n]
  by_cases e:n=t
  ·subst e;rw[if_neg (by omega),if_pos rfl,if_pos (by omega)];omega
  ·rw[if_neg e]
   by_cases l:t<n
   ·rw[if_pos l,if_pos (by omega)];omega
   ·rw[if_neg l,if_neg (by omega)];omega
end aW
namespace aW
noncomputable def pβ (β:Nat->Nat):List Nat->Nat
 | []=>1
 | c::cs=>β c*pβ β cs
theorem Jv {w:Fm} {β:Nat->Nat} (hw:∀c,(w c).natAbs<=β c):∀(cs:List Nat) (M:Nat) (F:List Nat->Int),(∀l,l.length+1=cs.length->(F l).natAbs<=M*pβ β l)->(X w F cs).natAbs<=cs.length* (M*pβ β cs)
 | [],_,_,_=>by simp [X]
 | c::cs,M,F,h=>by
  simp only[X]
  have h1:=aa3 (w c) (F cs)
  have h2:=Nat.mul_le_mul (hw c) (h cs rfl)
  have h3:=Jv hw cs (M*β c) (λl=>F (c::l)) (λl hl=>by
   have:=h (c::l) (by simp only[aaq];omega)
   rw[pβ,<-Nat.mul_assoc] at this
   exact this)
  have h4:=Int.natAbs_sub_le (w c*F cs) (X w (λl=>F (c::l)) cs)
  have e:M*pβ β (c::cs)=β c* (M*pβ β cs):=by rw[pβ];grind
  have e2:M*β c*pβ β cs=β c* (M*pβ β cs):=by grind
  rw[aaq,Nat.add_mul,Nat.one_mul,e]
  rw[e2] at h3
  omega
theorem Gm {β:Nat->Nat} {N:Nat}:∀{rs:List Fm} (cs:List Nat),(∀w∈rs,∀c,(w c).natAbs<=β c)->cs.length<=N->(D rs cs).natAbs<=N^rs.length*pβ β cs
 | [],[],_,_=>by simp [D,pβ]
 | [],_::_,_,_=>by simp [D]
 | w::rs,cs,h,hl=>by
  have h1:=Jv (h w (aai ..)) cs (N^rs.length) (D rs) (λl tD=>Gm l (λw hw=>h w (aaj _ hw)) (by omega))
  show(X w (D rs) cs).natAbs<=_
  rw[aaq,Nat.pow_succ,Nat.mul_comm (N^_),Nat.mul_assoc]
  exact aap h1 (Nat.mul_le_mul_right _ hl)
end aW
namespace aW
noncomputable def fo (r:List Int):Fm:=λc=>r.getD c 0
noncomputable def bS (v:Fm) (rs:List Fm) (k m:Nat):List Int:=(List.range (m - k)).map λt=>D (v::rs) ((k+t)::dn k)
theorem dE (v:Fm) (rs:List Fm) (k m:Nat):(bS v rs k m).length=m - k:=by simp [bS]
theorem yY {v:Fm} {rs:List Fm} {k m t:Nat} (h:k+t<m):(bS v rs k m)[t]?=some (D (v::rs) ((k+t)::dn k)):=by
 unfold bS
 rw[aaf,aaR (by omega)]
 rfl
theorem Jw (v:Fm) (t:Nat):D [v] [t]=v t:=by
 show v t*1 - 0=v t
 omega
theorem wd {r:List Int} {m:Nat} (h:r.length=m):bS (fo r) [] 0 m=r:=by
 refine aaQ λi=>?_
 by_cases l:i<m
 ·rw[yY (by omega),aad (by omega)]
  show some (D [fo r] [0+i])=_
  rw[Jw,aaV]
  simp [fo,aae,aad (show i<r.length by omega)]
 ·rw[aar (by rw[dE];omega),aar (by omega)]
theorem dj {k m:Nat} (h:k<m) (v:Fm) (rs:List Fm):bS v rs k m=D (v::rs) (k::dn k)::(List.range (m - (k+1))).map λt=>D (v::rs) ((k+1+t)::dn k):=by
 unfold bS
 rw[show m - k=(m - (k+1))+1 by omega,List.range_succ_eq_map,aaz,aaT]
 congr 1
 refine List.map_congr_left λt _=>?_
 show D (v::rs) ((k+ (t+1))::dn k)=_
 rw[show k+ (t+1)=k+1+t by omega]
theorem DG {k m:Nat} (h:k<m) (u:Fm) (rs:List Fm):(bS u rs k m).tail=bS (ng k) (u::rs) (k+1) m:=by
 rw[dj h,List.tail_cons]
 unfold bS
 refine List.map_congr_left λt _=>?_
 exact(Bb rs u (k+1+t) k (by omega)).symm
theorem zipWith_map {α:Type} (f:Int->Int->Int) (g h:α->Int):∀l:List α,List.zipWith f (l.map g) (l.map h)=l.map λa=>f (g a) (h a)
 | []=>rfl
 | a::l=>by simp only[aaz,List.zipWith_cons_cons,zipWith_map f g h l]
theorem Bg {k m:Nat} (h:k<m) {rs:List Fm} (G:Good rs (dn k)) (u v:Fm):
  List.zipWith (λone other=>(D (u::rs) (k::dn k)*one - D (v::rs) (k::dn k)*other).fdiv (D rs (dn k))) (bS v rs k m).tail (bS u rs k m).tail=bS v (u::rs) (k+1) m:=by
 rw[dj h,dj h,List.tail_cons,List.tail_cons,zipWith_map]
 unfold bS
 refine List.map_congr_left λt _=>?_
 rw[Ba G u v (k+1+t) k]
 exact Int.mul_fdiv_cancel_left _ G.ne
structure jn (U:List Fm) (n k:Nat) (rs V:List Fm):Prop where
 len:V.length=n
 rl:rs.length=k
 good:Good rs (dn k)
 own:∀i,i<k->V[i]?=some (ng i)
 perm:(rs++V.drop k).Perm U
 le:k<=n
theorem jn.start {U:List Fm}:jn U U.length 0 [] U:=⟨rfl,rfl,trivial,λi h=>absurd h (by omega),List.Perm.refl _,aas _⟩
theorem uG {α:Type} {u a:α}:∀{l:List α} {i:Nat},l[i]?=some u->(u::l.set i a).Perm (a::l)
 | [],_,h=>by simp at h
 | b::l,0,h=>by
  simp at h;subst h
  exact List.Perm.swap _ _ _
 | b::l,i+1,h=>by
  simp only[abi] at h
  show(u::b::l.set i a).Perm (a::b::l)
  exact(List.Perm.swap _ _ _).trans (((uG h).cons b).trans (List.Perm.swap _ _ _))
noncomputable def lG (V:List Fm) (k dH:Nat) (u a:Fm):List Fm:=(V.set k u).set dH a
theorem jn.step {U:List Fm} {n k dH:Nat} {rs V:List Fm} {u a:Fm} (S:jn U n k rs V) (hk:k<n) (hs:k<=dH) (hu:V[dH]?=some u) (ha:V[k]?=some a) (h:D (u::rs) (k::dn k)≠0):
  jn U n (k+1) (u::rs) ((lG V k dH u a).set k (ng k)):=by
 have l:=S.len
 refine⟨by simp [lG,l],by rw[aaq,S.rl],⟨S.good,h⟩,λi hi=>?_,?_,hk⟩
 ·by_cases e:i=k
  ·subst e
   rw[aaU (by simp [lG];omega)]
  ·unfold lG
   rw[aaL (by omega),aaL (by omega),aaL (by omega)]
   exact S.own i (by omega)
 ·refine List.Perm.trans ?_ S.perm
  have hd:V.drop k=a::V.drop (k+1):=by
   obtain⟨h1,h2⟩:=List.getElem?_eq_some_iff.mp ha
   rw[<-h2]
   exact List.drop_eq_getElem_cons h1
  have e1:((lG V k dH u a).set k (ng k)).drop (k+1)=((V.drop (k+1)).set (dH - (k+1)) a)\/(dH=k/\((lG V k dH u a).set k (ng k)).drop (k+1)=V.drop (k+1)):=by
   unfold lG
   by_cases e:dH=k
   ·right
    subst e
    refine⟨rfl,?_⟩
    simp [List.drop_set]
   ·left
    simp [List.drop_set]
    intro hh
    omega
  have e2:(u::((lG V k dH u a).set k (ng k)).drop (k+1)).Perm (a::V.drop (k+1)):=by
   rcases e1 with e1 | ⟨e,e1⟩
   ·by_cases e:dH=k
    ·subst e
     have:u=a:=by rw[hu] at ha;exact aaC ha
     subst this
     unfold lG
     simp [List.drop_set]
    ·rw[e1]
     refine uG ?_
     rw[List.getElem?_drop,show k+1+ (dH - (k+1))=dH by omega]
     exact hu
   ·subst e
    have:u=a:=by rw[hu] at ha;exact aaC ha
    subst this
    rw[e1]
  rw[hd]
  refine List.Perm.trans ?_ (e2.append_left rs)
  show(u::(rs++_)).Perm _
  exact(List.perm_middle).symm
noncomputable def qK (k:Nat) (rs V:List Fm):Prop:=∀u∈V.drop k,D (u::rs) (k::dn k)=0
theorem jn.DH {U:List Fm} {n k:Nat} {rs V:List Fm} (S:jn U n k rs V) (z:qK k rs V) {u:Fm} (hu:u∈U):sm k (λi=>u i*D (ng i::rs) (k::dn k))=u k*D rs (dn k):=by
 rw[Bc]
 have:D (u::rs) (k::dn k)=0:=by
  rcases List.mem_append.mp (S.perm.mem_iff.mpr hu) with h | h
  ·exact xK h _
  ·exact z u h
 omega
theorem jn.answers {U:List Fm} {n:Nat} {rs V:List Fm} (S:jn U n n rs V) {u:Fm} (hu:u∈U):sm n (λi=>u i*D (ng i::rs) (n::dn n))=u n*D rs (dn n):=by
 rw[Bc]
 have h:u∈rs:=by
  rcases List.mem_append.mp (S.perm.mem_iff.mpr hu) with h | h
  ·exact h
  ·rw[List.drop_eq_nil_of_le (by rw[S.len];exact aah _)] at h;cases h
 rw[xK h]
 omega
theorem jn.all {U:List Fm} {n:Nat} {rs V:List Fm} (S:jn U n n rs V):rs.Perm U:=by
 have:=S.perm
 rw[List.drop_eq_nil_of_le (by rw[S.len];exact aah _),aaY] at this
 exact this
theorem jn.ne {U:List Fm} {n:Nat} {rs V:List Fm} (S:jn U n n rs V):D U (dn n)≠0:=(DF S.all _).mp S.good.ne
end aW
namespace aW
theorem jn.cb {U:List Fm} {n k:Nat} {β:Nat->Nat} {rs V:List Fm} (S:jn U n k rs V) (b1:∀c,1<=β c) (hb:∀u∈U,∀c,(u c).natAbs<=β c):(∀u∈rs,∀c,(u c).natAbs<=β c)/\∀v∈V,∀c,(v c).natAbs<=β c:=by
 refine⟨λu hu=>hb u (S.perm.mem_iff.mp (abu _ hu)),λv hv=>?_⟩
 obtain⟨i,hi,rfl⟩:=aaX hv
 by_cases l:i<k
 ·have:=S.own i l
  rw[aad hi] at this
  rw[aaC this]
  intro c
  unfold ng
  split
  ·exact b1 c
  ·exact aas _
 ·refine hb _ (S.perm.mem_iff.mp (aaI _ ?_))
  refine aag (i:=i - k) ?_
  rw[List.getElem?_drop,show k+ (i - k)=i by omega,aad hi]
theorem Bh {β:Nat->Nat} {b n:Nat} (h:∀c,c<n->β c<=b):∀k,k<=n->pβ β (dn k)<=b^k
 | 0,_=>aah _
 | k+1,hk=>by
  rw[dn,pβ,Nat.pow_succ,Nat.mul_comm]
  exact Nat.mul_le_mul (Bh h k (by omega)) (h k (by omega))
theorem jn.We {U:List Fm} {n k b c:Nat} {β:Nat->Nat} {rs V:List Fm} (S:jn U n k rs V) (b1:∀j,1<=β j) (h:∀j,j<n->β j<=b) (hc:∀j,β j<=c) (hb:∀u∈U,∀j,(u j).natAbs<=β j) {v:Fm} (hv:v∈V) (j:Nat):(D (v::rs) (j::dn k)).natAbs<=(n+1)^ (n+1)* (c*b^k):=by
 obtain⟨h1,h2⟩:=S.cb b1 hb
 have le:=S.le
 have h3:=Gm (N:=n+1) (β:=β) (rs:=v::rs) (j::dn k) (λw hw=>by
  rcases List.mem_cons.mp hw with rfl | hw
  ·exact h2 _ hv
  ·exact h1 w hw) (by rw[aaq,kO];omega)
 refine aap h3 (Nat.mul_le_mul ?_ ?_)
 ·rw[aaq,S.rl]
  exact abl (by omega) (by omega)
 ·rw[pβ]
  exact Nat.mul_le_mul (hc j) (Bh h k le)
theorem jn.Wf {U:List Fm} {n k b:Nat} {β:Nat->Nat} {rs V:List Fm} (S:jn U n k rs V) (b1:∀j,1<=β j) (h:∀j,j<n->β j<=b) (hb:∀u∈U,∀j,(u j).natAbs<=β j):(D rs (dn k)).natAbs<=(n+1)^ (n+1)*b^k:=by
 obtain⟨h1,h2⟩:=S.cb b1 hb
 have le:=S.le
 have h3:=Gm (N:=n+1) (β:=β) (rs:=rs) (dn k) h1 (by rw[kO];omega)
 refine aap h3 (Nat.mul_le_mul ?_ (Bh h k le))
 rw[S.rl]
 exact abl (by omega) (by omega)
end aW
namespace aW
noncomputable def z0:Fm:=λ_=>0
noncomputable def aug (L:List (List Int)) (S:List Int):List (List Int):=List.zipWith (λr s=>r++ [s]) L S
noncomputable def cell (L:List (List Int)) (i j:Nat):Int:=(L.getD i []).getD j 0
structure Sq (L:List (List Int)) (n:Nat):Prop where
 len:L.length=n
 row:∀r∈L,r.length=n
theorem Sq.at {L:List (List Int)} {n i:Nat} (h:Sq L n) (hi:i<n):∃r,L[i]?=some r/\r.length=n/\r∈L:=by
 have:=h.len
 refine⟨L[i],by simp [this,hi],h.row _ (aan _),aan _⟩
theorem jO {L:List (List Int)} {S:List Int} {n i:Nat} {r:List Int} (hS:S.length=n) (hi:i<n) (e:L[i]?=some r):(aug L S)[i]?=some (r++ [S.getD i 0]):=by
 unfold aug
 rw[aby,e,aad (show i<S.length by omega)]
 simp [aae,aad (show i<S.length by omega)]
theorem jP {L:List (List Int)} {S:List Int} {n:Nat} (hL:L.length=n) (hS:S.length=n):(aug L S).length=n:=by
 unfold aug
 rw[abr,hL,hS,Nat.min_self]
theorem Bi {L:List (List Int)} {S:List Int} {n i j:Nat} (hq:Sq L n) (hS:S.length=n) (hi:i<n) (hj:j<n):(((aug L S).map fo).getD i z0) j=cell L i j:=by
 obtain⟨r,e,l,_⟩:=hq.at hi
 rw[aae,aaf,jO hS hi e]
 show fo (r++ [S.getD i 0]) j=_
 unfold fo cell
 rw[aae,aa1 (by omega),aae (l:=L),e]
 simp [aae]
theorem Bj {L:List (List Int)} {S:List Int} {n i:Nat} (hq:Sq L n) (hS:S.length=n) (hi:i<n):(((aug L S).map fo).getD i z0) n=S.getD i 0:=by
 obtain⟨r,e,l,_⟩:=hq.at hi
 rw[aae,aaf,jO hS hi e]
 show fo (r++ [S.getD i 0]) n=_
 unfold fo
 rw[aae,aa0 (by omega),l]
 simp
theorem xN {L:List (List Int)} {S:List Int} {n i:Nat} (hq:Sq L n) (hS:S.length=n) (hi:i<n):((aug L S).map fo).getD i z0∈(aug L S).map fo:=by
 have l:((aug L S).map fo).length=n:=by rw[aac,jP hq.len hS]
 rw[aae,aad (show i< ((aug L S).map fo).length by omega)]
 exact aan _
noncomputable def Bl (L:List (List Int)) (n:Nat):Prop:=∃(g:Nat->Int) (k:Nat),k<n/\g k≠0/\∀i,i<n->sm n (λj=>g j*cell L i j)=0
theorem yZ {L:List (List Int)} {S:List Int} {n k:Nat} {rs V:List Fm} (hq:Sq L n) (hS:S.length=n) (St:jn ((aug L S).map fo) n k rs V) (hk:k<n) (z:qK k rs V):Bl L n:=by
 refine⟨λj=>if j<k then - D (ng j::rs) (k::dn k) else if j=k then D rs (dn k) else 0,k,hk,?_,λi hi=>?_⟩
 ·show(if k<k then _ else if k=k then D rs (dn k) else 0)≠0
  rw[if_neg (aaG _),if_pos rfl]
  exact St.good.ne
 ·have e:=St.DH z (xN hq hS hi)
  have key:∀q,k+1<=q->sm q (λj=>(if j<k then - D (ng j::rs) (k::dn k) else if j=k then D rs (dn k) else 0)* (((aug L S).map fo).getD i z0) j)=0:=by
   intro q hq
   induction q with
   | zero=>omega
   | succ q ih=>
    by_cases c:q=k
    ·subst c
     show sm q _+_*_=0
     rw[if_neg (aaG _),if_pos rfl]
     have e2:sm q (λj=>(if j<q then - D (ng j::rs) (q::dn q) else if j=q then D rs (dn q) else 0)* (((aug L S).map fo).getD i z0) j)=sm q (λj=>(-1)* ((((aug L S).map fo).getD i z0) j*D (ng j::rs) (q::dn q))):=fQ λi hi=>by
      rw[if_pos hi,Int.neg_mul,Int.neg_one_mul,aaA]
     rw[e2,oY,e,aaA (D rs (dn q))]
     omega
    ·show sm q _+_*_=0
     rw[ih (by omega),if_neg (by omega),if_neg c]
     simp
  refine Eq.trans (fQ λj hj=>?_) (key n (by omega))
  rw[Bi hq hS hi hj]
noncomputable def pU (L:List (List Int)) (s:Nat) (l:Int) (i:Nat):List Int:=
 if i=s then (L.getD i []).tail else List.zipWith (λone other=>((L.getD s []).headD 0*one - (L.getD i []).headD 0*other).fdiv l) (L.getD i []).tail (L.getD s []).tail
noncomputable def L4 (L:List (List Int)) (s:Nat) (l:Int):List (List Int):=(List.range L.length).map (pU L s l)
theorem getD_map {V:List Fm} {f:Fm->List Int} {i:Nat} {v:Fm} (h:V[i]?=some v):(V.map f).getD i []=f v:=by
 rw[aae,aaf,h]
 rfl
theorem DI {V:List Fm} {f:Fm->List Int} {k dH:Nat} {u a:Fm} (hu:V[dH]?=some u) (ha:V[k]?=some a):((V.map f).set k ((V.map f).getD dH [])).set dH ((V.map f).getD k [])=(lG V k dH u a).map f:=by
 rw[getD_map hu,getD_map ha]
 unfold lG
 rw[List.map_set,List.map_set]
theorem Bo {V:List Fm} {k dH:Nat} {u a:Fm} (hu:V[dH]?=some u) (ha:V[k]?=some a):(lG V k dH u a)[k]?=some u:=by
 have h1:=(List.getElem?_eq_some_iff.mp ha).1
 unfold lG
 by_cases e:dH=k
 ·subst e
  rw[aaU (by simpa using h1)]
  rw[hu] at ha
  exact ha.symm
 ·rw[aaL e,aaU h1]
theorem Bp {n k m dH:Nat} {rs V:List Fm} {u a:Fm} (G:Good rs (dn k)) (hm:k<m) (hu:V[dH]?=some u) (ha:V[k]?=some a):
  L4 ((lG V k dH u a).map λv=>bS v rs k m) k (D rs (dn k))=((lG V k dH u a).set k (ng k)).map λv=>bS v (u::rs) (k+1) m:=by
 have hk:=Bo hu ha
 generalize lG V k dH u a=W at *
 unfold L4
 refine aaQ λi=>?_
 rw[aaf,aaf,aac]
 by_cases l:i<W.length
 ·rw[aaR l]
  have ew:W[i]?=some W[i]:=aad l
  by_cases e:i=k
  ·subst e
   rw[aaU l]
   show some (pU _ i _ i)=some _
   unfold pU
   rw[if_pos rfl,getD_map hk,DG hm]
  ·rw[aaL (by omega),ew]
   show some (pU _ k _ i)=some (bS W[i] (u::rs) (k+1) m)
   unfold pU
   rw[if_neg e,getD_map ew,getD_map hk,<-Bg hm G u W[i]]
   have hh:∀v,(bS v rs k m).headD 0=D (v::rs) (k::dn k):=λv=>by rw[dj hm];rfl
   rw[hh,hh]
 ·rw[aar (by rw[aay];omega),aar (by rw[aaK];omega)]
  rfl
theorem we {L:List (List Int)} {m:Nat} (h:∀r∈L,r.length=m):(L.map fo).map (λv=>bS v [] 0 m)=L:=by
 rw[aaT]
 conv=>rhs;rw[<-List.map_id L]
 exact List.map_congr_left λr hr=>wd (h r hr)
theorem uH {v w:Fm}:∀{cs:List Nat} {F G:List Nat->Int},(∀c∈cs,v c=w c)->(∀l,(∀c∈l,c∈cs)->F l=G l)->X v F cs=X w G cs
 | [],_,_,_,_=>rfl
 | c::cs,F,G,h,k=>by
  simp only[X]
  rw[h c (aai ..),k cs λc' hc=>aaj _ hc,uH (cs:=cs) (G:=λl=>G (c::l)) (λc' hc=>h c' (aaj _ hc)) λl hl=>k (c::l) λc' hc=>?_]
  rcases List.mem_cons.mp hc with rfl | hc
  ·exact aai ..
  ·exact aaj _ (hl c' hc)
theorem Bq {n:Nat}:∀(L:List (List Int)) (S:List Int),S.length=L.length->(∀r∈L,r.length=n)->∀cs:List Nat,(∀c∈cs,c<n)->D ((aug L S).map fo) cs=D (L.map fo) cs
 | [],[],_,_,_,_=>rfl
 | [],_::_,h,_,_,_=>by simp at h
 | _::_,[],h,_,_,_=>by simp at h
 | r::L,s::S,h,hr,cs,hc=>by
  show X (fo (r++ [s])) (D ((aug L S).map fo)) cs=X (fo r) (D (L.map fo)) cs
  refine uH (λc LG=>?_) λl hl=>Bq L S (by simpa using h) (λq hq=>hr q (aaj _ hq)) l λc Dc=>hc c (hl c Dc)
  unfold fo
  have:=hc c LG
  have lr:=hr r (aai ..)
  rw[aae,aa1 (by omega),aae]
end aW
namespace Dg
noncomputable def Cs (ps:List Int) (g:Nat->Int) (q:Int):Int:=if q∈ps then g (ps.idxOf q) else 0
theorem DJ {g:Nat->Int} {q w:Int}:∀{ps:List Int},ps.Nodup->aW.sm ps.length (λj=>g j* (if q=ps.getD j 0 then w else 0))=w*Cs ps g q:=by
 intro ps nd
 have key:∀n,n<=ps.length->aW.sm n (λj=>g j* (if q=ps.getD j 0 then w else 0))=if q∈ps.take n then w*g (ps.idxOf q) else 0:=by
  intro n
  induction n with
  | zero=>intro _;rfl
  | succ n ih=>
   intro hn
   have e:ps[n]?=some ps[n]:=aad (by omega)
   have eg:ps.getD n 0=ps[n]:=by rw[aae,e];rfl
   show aW.sm n _+g n* (if q=ps.getD n 0 then w else 0)=_
   rw[ih (by omega),aaF,e,eg]
   by_cases c:q=ps[n]
   ·have NI:q∉ps.take n:=by
     intro z
     obtain⟨j,hj,ej⟩:=aaX z
     rw[aaZ] at hj
     rw[List.getElem_take] at ej
     have:=(abh nd).mp (ej.trans c)
     omega
    have ix:ps.idxOf q=n:=by
     have l:=aaS (show q∈ps by rw[c];exact aan _)
     exact(abh nd).mp ((aaW l).trans c)
    rw[if_neg NI,if_pos c,if_pos (aaI _ (by rw[c];exact List.mem_singleton.mpr rfl)),ix,Int.zero_add,aaA]
   ·have m:q∈ps.take n++ (some ps[n]).toList↔q∈ps.take n:=by
     rw[List.mem_append]
     constructor
     ·rintro(h | h)
      ·exact h
      ·exact absurd (List.mem_singleton.mp h) c
     ·exact .inl
    rw[if_neg c,Int.mul_zero,Int.add_zero]
    by_cases k:q∈ps.take n
    ·rw[if_pos k,if_pos (m.mpr k)]
    ·rw[if_neg k,if_neg (λz=>k (m.mp z))]
 have:=key ps.length (aah _)
 rw[aaH (aah _)] at this
 rw[this]
 unfold Cs
 split
 ·rfl
 ·rw[Int.mul_zero]
theorem xO {ps:List Int} {g:Nat->Int} (nd:ps.Nodup):∀ws:Wy,aW.sm ps.length (λj=>g j*jm (ps.getD j 0) ws)=d7 (Cs ps g) ws
 | []=>by
  show aW.sm ps.length (λj=>g j*0)=0
  rw[show(λj=>g j*0)=λ_=>(0:Int) from funext λj=>Int.mul_zero _]
  exact aW.xM _
 | x::ws=>by
  have e:(λj=>g j*jm (ps.getD j 0) (x::ws))=λj=>g j* (if x.2=ps.getD j 0 then x.1 else 0)+g j*jm (ps.getD j 0) ws:=funext λj=>by
   show g j* ((if x.2=ps.getD j 0 then x.1 else 0)+jm (ps.getD j 0) ws)=_
   rw[Int.mul_add]
  rw[e,aW.wc,DJ nd,xO nd ws]
  rfl
noncomputable def pV (ps:List Int) (W:Int->Wy) (L:List (List Int)):Prop:=L.length=ps.length/\(∀r∈L,r.length=ps.length)/\∀i j,i<ps.length->j<ps.length->(L.getD i []).getD j 0=(if i=j then tt (W (ps.getD i 0)) else 0) - jm (ps.getD j 0) (W (ps.getD i 0))
theorem pV.sum {ps:List Int} {W:Int->Wy} {L:List (List Int)} (R:pV ps W L) (nd:ps.Nodup) (g:Nat->Int) {i:Nat} (hi:i<ps.length):aW.sm ps.length (λj=>g j* (L.getD i []).getD j 0)=tt (W (ps.getD i 0))*g i - d7 (Cs ps g) (W (ps.getD i 0)):=by
 have e:aW.sm ps.length (λj=>g j* (L.getD i []).getD j 0)=aW.sm ps.length (λj=>tt (W (ps.getD i 0))* (g j* (if j=i then 1 else 0))+ (-1)* (g j*jm (ps.getD j 0) (W (ps.getD i 0)))):=aW.fQ λj hj=>by
  rw[R.2.2 i j hi hj]
  by_cases c:i=j
  ·subst c
   rw[if_pos rfl,if_pos rfl,Int.mul_sub,Int.mul_one,aaA (g i) (tt _)]
   omega
  ·rw[if_neg c,if_neg (Ne.symm c),Int.mul_sub,Int.mul_zero,Int.mul_zero]
   omega
 rw[e,aW.wc,aW.oY,aW.oY,aW.Be,if_pos hi,xO nd]
 omega
end Dg
namespace Dg
theorem Br {ps:List Int} (nd:ps.Nodup) (g:Nat->Int) {i:Nat} (hi:i<ps.length):Cs ps g (ps.getD i 0)=g i:=by
 have eg:ps.getD i 0=ps[i]:=by rw[aae,aad hi];rfl
 unfold Cs
 rw[eg,if_pos (aan hi)]
 congr 1
 have l:=aaS (aan hi)
 exact(abh nd).mp (aaW l)
theorem pV.Bs {ps:List Int} {W:Int->Wy} {lv:Int->Nat} {L:List (List Int)} (R:pV ps W L) (nd:ps.Nodup) (pos:∀p∈ps,∀x∈W p,1<=x.1) (dn:∀p∈ps,W p=[]\/∃x∈W p,lv x.2<lv p):¬aW.Bl L ps.length:=by
 rintro⟨g,k,hk,gk,rel⟩
 apply gk
 have z:=yX (ps:=ps) (W:=W) (lv:=lv) (v:=Cs ps g) (λp hp=>?_) pos (λq hq=>if_neg hq) dn (ps.getD k 0) ?_
 ·rw[Br nd g hk] at z
  exact z
 ·obtain⟨i,hi,rfl⟩:=aaX hp
  have eg:ps.getD i 0=ps[i]:=by rw[aae,aad hi];rfl
  have e:=R.sum nd g hi
  have r:aW.sm ps.length (λj=>g j* (L.getD i []).getD j 0)=0:=rel i hi
  rw[r] at e
  have o:=Br nd g hi
  rw[eg] at e o
  rw[o]
  omega
 ·rw[aae,aad hk]
  exact aan hk
end Dg
noncomputable def Rw (H:Hp) (r:List Int) (x:V):Prop:=∃q,x=.ref q/\H q=some (.lst (List.map V.int r))
theorem Rw.mono {H H':Hp} {r:List Int} {x:V} (s:az H H') (h:Rw H r x):Rw H' r x:=by
 obtain⟨q,e,k⟩:=h
 exact⟨q,e,s _ _ k⟩
noncomputable def sJ (H:Hp) (a:Addr) (L:List (List Int)):Prop:=∃xs,H a=some (.lst xs)/\Al (Rw H) L xs
theorem sJ.mono {H H':Hp} {a:Addr} {L:List (List Int)} (s:az H H') (h:sJ H a L):sJ H' a L:=by
 obtain⟨xs,h1,h2⟩:=h
 exact⟨xs,s _ _ h1,h2.imp λ_ _ k=>k.mono s⟩
theorem Bu {xs:List V} {k:Int} (h:0<=k):pK xs (some k) none=xs.drop k.toNat:=by
 unfold pK
 obtain⟨n,rfl⟩:=aav h
 rw[HT.zM,HT.CN,aak]
 by_cases c:n<=xs.length
 ·rw[Nat.min_eq_left c,aaH (by rw[List.length_drop];exact aah _)]
 ·rw[Nat.min_eq_right (by omega),List.drop_eq_nil_of_le (aah _),List.drop_eq_nil_of_le (show xs.length<=n by omega)]
  simp
theorem uI (r:List Int):pK (List.map V.int r) (some 1) none=List.map V.int r.tail:=by
 rw[Bu (by decide)]
 cases r <;>rfl
theorem gJ {n i:Nat} (h:i<n):wV n (i:Int)=some i:=by
 unfold wV
 rw[if_pos (by omega),if_pos (by omega)]
 rfl
theorem oZ {xs:List V} {L:List (List Int)} {H:Hp} {i:Nat} {r:List Int} (al:Al (Rw H) L xs) (e:L[i]?=some r):∃q,eE xs (i:Int)=some (.ref q)/\H q=some (.lst (List.map V.int r)):=by
 obtain⟨v,ev,q,rfl,hq⟩:=al.at e
 exact⟨q,bE ev,hq⟩
theorem jQ {r:List Int} (h:0<r.length):eE (List.map V.int r) 0=some (.int (r.headD 0)):=by
 cases r with
 | nil=>cases h
 | cons a r=>exact bE (j:=0) rfl
theorem Al.set {α:Type} {R:α->V->Prop} {a:α} {v:V} (h:R a v):∀{as:List α} {vs:List V} {i:Nat},Al R as vs->Al R (as.set i a) (vs.set i v)
 | [],[],_,_=>trivial
 | _::_,_::_,0,k=>⟨h,k.2⟩
 | _::_,_::_,i+1,k=>⟨k.1,Al.set h k.2⟩
theorem sM {H:Hp} {p:Addr} {o:HO}:cI (upd H p o) p=cI H p:=by
 funext a
 unfold cI
 by_cases h:a=p
 ·rw[if_pos h,if_pos h]
 ·rw[if_neg h,if_neg h,aJ h]
theorem Rw.push {H:Hp} {a q:Addr} {L:List (List Int)} {xs:List V} {r:List Int} (al:Al (Rw (cI H a)) L xs) (hq:H q=some (.lst (List.map V.int r))) (ne:q≠a):Al (Rw (cI (upd H a (.lst (xs++ [.ref q]))) a)) (L++ [r]) (xs++ [.ref q]):=by
 rw[sM]
 exact al.append (.one ⟨q,rfl,by rw[bK ne];exact hq⟩)
theorem Bv {zs:List V} {f:Int->Int->Int} {as bs:List Int} (l:zs.length=min (List.map V.int as).length (List.map V.int bs).length) (h:∀(j:Nat) y,zs[j]?=some y->∀o1 o2,as[j]?=some o1->bs[j]?=some o2->y=.int (f o1 o2)):zs=List.map V.int (List.zipWith f as bs):=by
 rw[aac,aac] at l
 refine aaQ λj=>?_
 by_cases c:j<min as.length bs.length
 ·have e1:as[j]?=some as[j]:=aad (by omega)
  have e2:bs[j]?=some bs[j]:=aad (by omega)
  rw[aad (show j<zs.length by omega),h j _ (aad (by omega)) _ _ e1 e2,aaf,aby,e1,e2]
  rfl
 ·rw[aar (by omega),aar (by rw[aac,abr];omega)]
noncomputable def Gn:Sp:=λvs H Q _=>∃a L k,vs=[.ref a,.int (Nat.cast k)]/\sJ H a L/\k<=L.length/\L.length<=64/\(∀r∈L,0<r.length)/\(∀i:Nat,k<=i->i<L.length->(L.getD i []).headD 0≠0->Q (.int i) H)/\((∀i:Nat,k<=i->i<L.length->(L.getD i []).headD 0=0)->Q .b9 H)
noncomputable def Bw:Sp:=λvs H Q _=>∃a L i j,vs=[.ref a,.int (Nat.cast i),.int (Nat.cast j)]/\sJ H a L/\i<L.length/\j<L.length/\L.length<=64/\∀p H',az H H'->sJ H' p ((L.set i (L.getD j [])).set j (L.getD i []))->Q (.ref p) H'
noncomputable def Gp:Sp:=λvs H Q _=>∃a L s l m,vs=[.ref a,.int (Nat.cast s),.int l]/\sJ H a L/\s<L.length/\L.length<=64/\m<=64/\(∀r∈L,r.length=m+1)/\l≠0/\Bt 4000 l/\(∀r∈L,∀x∈r,Bt 4000 x)/\∀p H',az H H'->sJ H' p (aW.L4 L s l)->Q (.ref p) H'
structure L5 (L:List (List Int)) (n m:Nat):Prop where
 len:L.length=n
 row:∀r∈L,r.length=m
 nm:n<=m
 NJ:m<=64
 CT:∀k rs W,aW.jn (L.map aW.fo) n k rs W->Bt 4000 (aW.D rs (aW.dn k))/\∀v∈W,∀j,Bt 4000 (aW.D (v::rs) (j::aW.dn k))
noncomputable def Gq:Sp:=λvs H Q _=>∃a L n m,vs=[.ref a,.int (Nat.cast n)]/\sJ H a L/\L5 L n m/\∀t p k rs W H',aW.jn (L.map aW.fo) n k rs W->(k<n->aW.qK k rs W)->az H H'->H' t=some (.tup [.ref p,.int (Nat.cast k),.int (aW.D rs (aW.dn k))])->sJ H' p (W.map λv=>aW.bS v rs k m)->Q (.ref t) H'
noncomputable def tE (d:Int):Int:=if 0<d then 1 else -1
noncomputable def o3 (n:Nat) (rs:List aW.Fm):List Int:=(List.range n).map λi=>aW.D (aW.ng i::rs) (n::aW.dn n)*tE (aW.D rs (aW.dn n))
theorem Bx (d:Int):tE d=1\/tE d= -1:=by
 unfold tE
 split
 ·exact .inl rfl
 ·exact .inr rfl
theorem By {i d:Int}:IntMulOk i (tE d):=by
 rcases Bx d with h | h <;>rw[h] <;>exact nY
theorem Gr {U W rs:List aW.Fm} {n:Nat} (St:aW.jn U n n rs W):W.filterMap (λv=>some (aW.D (v::rs) (n::aW.dn n)*tE (aW.D rs (aW.dn n))))=o3 n rs:=by
 rw[List.filterMap_eq_map']
 unfold o3
 refine aaQ λi=>?_
 rw[aaf,aaf]
 by_cases c:i<n
 ·rw[St.own i c,aaR c]
  rfl
 ·rw[aar (by rw[St.len];omega),aar (by rw[aay];omega)]
  rfl
noncomputable def Gs:Sp:=λvs H Q _=>∃a c L S n,vs=[.ref a,.ref c]/\sJ H a L/\H c=some (.lst (List.map V.int S))/\S.length=n/\aW.Sq L n/\L5 (aW.aug L S) n (n+1)/\
 (∀k rs W H',aW.jn ((aW.aug L S).map aW.fo) n k rs W->k<n->aW.qK k rs W->az H H'->Q .b9 H')/\
 (∀rs W t p H',aW.jn ((aW.aug L S).map aW.fo) n n rs W->az H H'->H' t=some (.tup [.ref p,.int (aW.D rs (aW.dn n)*tE (aW.D rs (aW.dn n)))])->H' p=some (.lst (List.map V.int (o3 n rs)))->Q (.ref t) H')
structure Wg (L:List (List Int)) (S:List Int) (n:Nat) (x:List Int) (d:Int):Prop where
 len:x.length=n
 pos:0<d
 bd:Bt 4000 d
 bx:∀v∈x,Bt 4000 v
 eq:∀i,i<n->aW.sm n (λj=>aW.cell L i j*x.getD j 0)=S.getD i 0*d
 ne:aW.D (L.map aW.fo) (aW.dn n)≠0
 dnn:d.natAbs=(aW.D (L.map aW.fo) (aW.dn n)).natAbs
theorem DK {d:Int} (h:d≠0):0<d*tE d:=by
 unfold tE
 split
 ·omega
 ·omega
theorem jR (x d:Int):(x*tE d).natAbs=x.natAbs:=by
 rcases Bx d with h | h <;>rw[h] <;>omega
theorem Bz {n i:Nat} {rs:List aW.Fm} (h:i<n):(o3 n rs).getD i 0=aW.D (aW.ng i::rs) (n::aW.dn n)*tE (aW.D rs (aW.dn n)):=by
 unfold o3
 rw[aae,aaf,aaR h]
 rfl
theorem Gu {L:List (List Int)} {S:List Int} {n:Nat} {rs W:List aW.Fm} (sq:aW.Sq L n) (lS:S.length=n) (B:L5 (aW.aug L S) n (n+1)) (St:aW.jn ((aW.aug L S).map aW.fo) n n rs W):Wg L S n (o3 n rs) (aW.D rs (aW.dn n)*tE (aW.D rs (aW.dn n))):=by
 refine⟨by unfold o3;rw[aac,aay],DK St.good.ne,?_,λv hv=>?_,λi hi=>?_,?_,?_⟩
 ·unfold Bt
  rw[jR]
  exact(B.CT _ _ _ St).1
 ·unfold o3 at hv
  obtain⟨i,hi,rfl⟩:=List.mem_map.mp hv
  unfold Bt
  rw[jR]
  exact(B.CT _ _ _ St).2 _ (aag (St.own i (List.mem_range.mp hi))) n
 ·have e:=St.answers (aW.xN sq lS hi)
  have e2:aW.sm n (λj=>aW.cell L i j* (o3 n rs).getD j 0)=aW.sm n (λj=>tE (aW.D rs (aW.dn n))* ((((aW.aug L S).map aW.fo).getD i aW.z0) j*aW.D (aW.ng j::rs) (n::aW.dn n))):=aW.fQ λj hj=>by
   rw[Bz hj,aW.Bi sq lS hi hj,<-aaD,aaA]
  rw[e2,aW.oY,e,aW.Bj sq lS hi,aaA,aaD]
 ·rw[<-aW.Bq L S (by rw[lS,sq.len]) sq.row _ λc hc=>aW.kM.mp hc]
  exact St.ne
 ·rw[<-aW.Bq L S (by rw[lS,sq.len]) sq.row _ λc hc=>aW.kM.mp hc,jR]
  obtain⟨s,hs,e⟩:=aW.perm St.all
  rw[e]
  rcases hs with rfl | rfl <;>omega
theorem DL {L:List (List Int)} {S:List Int} {n b c:Nat} (sq:aW.Sq L n) (lS:S.length=n) (n63:n<64) (b1:1<=b) (bc:b<=c) (hL:∀r∈L,∀x∈r,x.natAbs<=b) (hS:∀x∈S,x.natAbs<=c) (top:(n+1)^ (n+1)* (c*b^n)<2^4000):L5 (aW.aug L S) n (n+1):=by
 have ge:∀{i:Nat} {r:List Int},(aW.aug L S)[i]?=some r->∃q,q∈L/\r=q++ [S.getD i 0]/\i<n:=λ{i r} e=>by
  have hi:i<n:=by have:=(List.getElem?_eq_some_iff.mp e).1;rw[aW.jP sq.len lS] at this;exact this
  obtain⟨q,eq,_,mq⟩:=sq.at hi
  rw[aW.jO lS hi eq] at e
  exact⟨q,mq,(aaC e).symm,hi⟩
 have hU:∀u∈(aW.aug L S).map aW.fo,∀j,(u j).natAbs<=if j<n then b else c:=λu hu j=>by
  obtain⟨r,hr,rfl⟩:=List.mem_map.mp hu
  obtain⟨i,ei⟩:=aax hr
  obtain⟨q,mq,rfl,hi⟩:=ge ei
  have lq:=sq.row q mq
  unfold aW.fo
  rw[aae]
  by_cases cj:j<n
  ·rw[if_pos cj,aa1 (by omega),aad (by omega)]
   exact hL q mq _ (aan _)
  ·rw[if_neg cj,aa0 (by omega)]
   by_cases e:j=n
   ·rw[e,lq,Nat.sub_self]
    show(S.getD i 0).natAbs<=c
    rw[aae,aad (by omega)]
    exact hS _ (aan _)
   ·rw[aar (by show 1<=_;omega)]
    exact aas _
 have β1:∀j,1<=if j<n then b else c:=λj=>by split <;>omega
 have βn:∀j,j<n->(if j<n then b else c)<=b:=λj hj=>by rw[if_pos hj];exact aah _
 have βc:∀j,(if j<n then b else c)<=c:=λj=>by split <;>omega
 refine⟨aW.jP sq.len lS,λr hr=>?_,by omega,by omega,λk rs W St=>⟨?_,λv hv j=>?_⟩⟩
 ·obtain⟨i,ei⟩:=aax hr
  obtain⟨q,mq,rfl,_⟩:=ge ei
  rw[aaJ,sq.row q mq]
  rfl
 ·have h:=St.Wf β1 βn hU
  refine abd (aap h (abx _ ?_)) top
  have:=abl b1 St.le
  exact aap this (Nat.le_mul_of_pos_left _ (by omega))
 ·have h:=St.We β1 βn βc hU hv j
  exact abd (aap h (abx _ (abx _ (abl b1 St.le)))) top
theorem Gv {L:List (List Int)} {S:List Int} {n b c:Nat} {rs W:List aW.Fm} (sq:aW.Sq L n) (lS:S.length=n) (b1:1<=b) (bc:b<=c) (hL:∀r∈L,∀x∈r,x.natAbs<=b) (hS:∀x∈S,x.natAbs<=c) (St:aW.jn ((aW.aug L S).map aW.fo) n n rs W):(aW.D rs (aW.dn n)*tE (aW.D rs (aW.dn n))).natAbs<=(n+1)^ (n+1)*b^n/\∀v∈o3 n rs,v.natAbs<=(n+1)^ (n+1)* (c*b^n):=by
 have hU:∀u∈(aW.aug L S).map aW.fo,∀j,(u j).natAbs<=if j<n then b else c:=λu hu j=>by
  obtain⟨r,hr,rfl⟩:=List.mem_map.mp hu
  obtain⟨i,ei⟩:=aax hr
  have hi:i<n:=by have:=(List.getElem?_eq_some_iff.mp ei).1;rw[aW.jP sq.len lS] at this;exact this
  obtain⟨q,eq,lq,mq⟩:=sq.at hi
  rw[aW.jO lS hi eq] at ei
  cases ei
  unfold aW.fo
  rw[aae]
  by_cases cj:j<n
  ·rw[if_pos cj,aa1 (by omega),aad (by omega)]
   exact hL q mq _ (aan _)
  ·rw[if_neg cj,aa0 (by omega)]
   by_cases e:j=n
   ·rw[e,lq,Nat.sub_self]
    show(S.getD i 0).natAbs<=c
    rw[aae,aad (by omega)]
    exact hS _ (aan _)
   ·rw[aar (by show 1<=_;omega)]
    exact aas _
 have β1:∀j,1<=if j<n then b else c:=λj=>by split <;>omega
 have βn:∀j,j<n->(if j<n then b else c)<=b:=λj hj=>by rw[if_pos hj];exact aah _
 have βc:∀j,(if j<n then b else c)<=c:=λj=>by split <;>omega
 refine⟨by rw[jR];exact St.Wf β1 βn hU,λv hv=>?_⟩
 unfold o3 at hv
 obtain⟨i,hi,rfl⟩:=List.mem_map.mp hv
 rw[jR]
 exact St.We β1 βn βc hU (aag (St.own i (List.mem_range.mp hi))) n
namespace Dg
theorem uJ (f g:Int->Int):∀ws:Wy,d7 (λq=>f q+g q) ws=d7 f ws+d7 g ws
 | []=>rfl
 | x::ws=>by
  show x.1* (f x.2+g x.2)+d7 (λq=>f q+g q) ws=x.1*f x.2+d7 f ws+ (x.1*g x.2+d7 g ws)
  rw[uJ f g ws,Int.mul_add]
  omega
theorem uK (d:Int) (f:Int->Int):∀ws:Wy,d7 (λq=>f q*d) ws=d7 f ws*d
 | []=>by show(0:Int)=0*d;omega
 | x::ws=>by
  show x.1* (f x.2*d)+d7 (λq=>f q*d) ws=(x.1*f x.2+d7 f ws)*d
  rw[uK d f ws,Int.add_mul,aaD]
theorem o4 {f g:Int->Int}:∀{ws:Wy},(∀x∈ws,f x.2=g x.2)->d7 f ws=d7 g ws
 | [],_=>rfl
 | x::ws,h=>by
  show x.1*f x.2+d7 f ws=x.1*g x.2+d7 g ws
  rw[h x aai,o4 λy hy=>h y (aaj _ hy)]
theorem kP (ts:List Int):∀ws:Wy,gZ ts ws=d7 (λq=>ts.getD q.toNat 0) ws
 | []=>rfl
 | x::ws=>by
  have:=kP ts ws
  show x.1*ts.getD x.2.toNat 0+gZ ts ws=x.1*ts.getD x.2.toNat 0+_
  rw[this]
theorem DM {ps:List Int} {W:Int->Wy} {L:List (List Int)} {S T x:List Int} {d r:Int} (R:pV ps W L) (nd:ps.Nodup) {i:Nat} (hi:i<ps.length)
  (sol:aW.sm ps.length (λj=>aW.cell L i j*x.getD j 0)=r*d) (zero:∀p∈ps,S.getD p.toNat 0=0)
  (Wh:∀j,j<ps.length->T.getD (ps.getD j 0).toNat 0=x.getD j 0) (NK:∀y∈W (ps.getD i 0),y.2∉ps->T.getD y.2.toNat 0=S.getD y.2.toNat 0*d):
  tt (W (ps.getD i 0))*T.getD (ps.getD i 0).toNat 0=r*d - gZ S (W (ps.getD i 0))*d+gZ T (W (ps.getD i 0)):=by
 have e:=R.sum nd (λj=>x.getD j 0) hi
 have c:aW.sm ps.length (λj=>x.getD j 0* (L.getD i []).getD j 0)=aW.sm ps.length (λj=>aW.cell L i j*x.getD j 0):=aW.fQ λj _=>aaA _ _
 rw[c,sol] at e
 have k:d7 (λq=>T.getD q.toNat 0) (W (ps.getD i 0))=d7 (Cs ps λj=>x.getD j 0) (W (ps.getD i 0))+gZ S (W (ps.getD i 0))*d:=by
  rw[kP,<-uK,<-uJ]
  refine o4 λy hy=>?_
  by_cases m:y.2∈ps
  ·have lt:=aaS m
   have eg:ps.getD (ps.idxOf y.2) 0=y.2:=by rw[aae,aad lt,aaW lt];rfl
   have t1:=Wh _ lt
   rw[eg] at t1
   rw[t1,zero _ m,Int.zero_mul,Int.add_zero]
   unfold Cs
   rw[if_pos m]
  ·rw[NK y hy m]
   unfold Cs
   rw[if_neg m,Int.zero_add]
 rw[Wh i hi,kP T,k]
 omega
end Dg
noncomputable def qL (ws:Dg.Wy):Dat:=.lst (ws.map bC)
noncomputable def cC (gf:List Dg.Wy) (p:Int):Dg.Wy:=gf.getD p.toNat []
noncomputable def ik (ps:List Int):List (Key×V):=(List.range ps.length).map λi=>(Sum.inl (ps.getD i 0),.int (i:Int))
noncomputable def BA:Sp:=λvs H Q _=>∃(x wl:Addr) (ps:List Int) (xs:List V) (gf:List Dg.Wy),vs=[.ref x,.ref wl]/\H x=some (.lst (ps.map V.int))/\H wl=some (.lst xs)/\bu H (gf.map qL) xs/\ps.Nodup/\ps.length<=40/\(∀p∈ps,0<=p/\p< (gf.length:Int))/\(∀ws∈gf,ws.length<=5)/\
 ∀r L H',az H H'->sJ H' r L->Dg.pV ps (cC gf) L->Q (.ref r) H'
noncomputable def uL:Sp:=λvs H Q _=>∃(a:Addr) (ws:Dg.Wy),vs=[.ref a]/\Rep H (qL ws) (.ref a)/\ws.length<=5/\∀H',az H H'->Q (.int (Dg.tt ws)) H'
theorem qM (ps:List Int):(ik ps).map (·.1)=ps.map Sum.inl:=by
 unfold ik
 rw[aaT]
 apply aaQ
 intro i
 rw[aaf,aaf]
 by_cases h:i<ps.length
 ·rw[aaR h,aad h]
  show some (Sum.inl (ps.getD i 0))=some (Sum.inl ps[i])
  rw[aae,aad h]
  rfl
 ·rw[aar (by rw[aay];omega),aar (by omega)]
  rfl
theorem BB {ps:List Int} (nd:ps.Nodup) {i:Nat} (h:i<ps.length):hV (ik ps) (Sum.inl (ps.getD i 0))=some (.int (i:Int)):=by
 refine wa (i:=i) ?_ ?_
 ·rw[qM]
  exact A2 nd
 ·unfold ik
  rw[aaf,aaR h]
  rfl
theorem uM {ps:List Int} {q:Int} (h:q∉ps):hV (ik ps) (Sum.inl q)=none:=m9 (by
 rw[qM]
 exact λz=>h (rY.mp z))
theorem y2 {ps:List Int} {i:Nat} (h:i<ps.length):ik (ps.take (i+1))=ik (ps.take i)++ [(Sum.inl (ps.getD i 0),.int (i:Int))]:=by
 have l1:(ps.take (i+1)).length=i+1:=by rw[aaZ];omega
 have l0:(ps.take i).length=i:=by rw[aaZ];omega
 unfold ik
 rw[l1,l0,List.range_succ,aaB]
 congr 1
 ·refine List.map_congr_left λj hj=>?_
  have:=List.mem_range.mp hj
  rw[aae,aae,List.getElem?_take_of_lt (by omega),List.getElem?_take_of_lt this]
 ·show[(Sum.inl ((ps.take (i+1)).getD i 0),V.int (i:Int))]=_
  rw[aae,List.getElem?_take_of_lt (aaM _),<-aae]
noncomputable def nk (C:Addr) (H:Hp) (x:Addr) (S:Dg.Bk):Prop:=∃dx m,H x=some (.ins C dx [("tops",.ref m),("bottom",.int S.2)])/\H m=some (.lst (S.1.map V.int))
theorem nk.mono {C:Addr} {H H':Hp} {x:Addr} {S:Dg.Bk} (s:az H H') (h:nk C H x S):nk C H' x S:=by
 obtain⟨dx,m,h1,h2⟩:=h
 exact⟨dx,m,s _ _ h1,s _ _ h2⟩
noncomputable def y3:Sp:=λvs H Q _=>∃a b,vs=[.int a,.int b]/\Q (.int (Nm.g a b)) H
noncomputable def Gw:Sp:=λvs H Q _=>∃a b,vs=[.int a,.int b]/\Bt 5000 b/\0<b/\∀p H',az H H'->H p=none->H' p=some (.tup (Pr (Nm.st a b) (Nm.sb a b)))->Q (.ref p) H'
noncomputable def Gx:Sp:=λvs H Q _=>∃(a:Addr) (ws:List Wq.Sh) (Z:Int),vs=[.ref a]/\Rep H (.lst (ws.map bC)) (.ref a)/\ws.length<=60/\(∀x∈ws,0<x.2/\x.2∣Z)/\0<Z/\Bt 2000 Z/\Q (.int (Wq.fB 1 ws)) H
noncomputable def DN (C:Addr):Sp:=λvs H Q _=>∃(x dx l:Addr) (ts:List Int) (b:Int),vs=[.ref x,.ref l,.int b]/\H x=some (.ins C dx [])/\H l=some (.lst (ts.map V.int))/\
 ∀m H',H m=none->H' m=some (.lst (ts.map V.int))->H' x=some (.ins C dx [("tops",.ref m),("bottom",.int b)])->(∀y o,y≠x->H y=some o->H' y=some o)->Q .b9 H'
noncomputable def EK (C:Addr):Sp:=λvs H Q _=>∃(x:Addr) (S:Dg.Bk) (d:Int),vs=[.ref x,.int d]/\nk C H x S/\Bt 4000 d/\Bt 4000 S.2/\(∀t∈S.1,Bt 4000 t)/\S.1.length<=60/\
 ∀y dy m H',az H H'->H y=none->H m=none->H' y=some (.ins C dy [("tops",.ref m),("bottom",.int (S.2*d))])->H' m=some (.lst ((S.1.map (·*d)).map V.int))->Q (.ref y) H'
noncomputable def Jx (C:Addr):Sp:=λvs H Q _=>∃(x:Addr) (S:Dg.Bk),vs=[.ref x]/\nk C H x S/\0<S.2/\Bt 5000 S.2/\S.1.length<=60/\∀l H',az H H'->H l=none->Rep H' (.lst ((S.1.map λt=>Wq.low t S.2).map bC)) (.ref l)->Q (.ref l) H'
noncomputable def Gy:Sp:=λvs H Q _=>∃(a:V) (q:Pl),vs=[a]/\Rep H (jf q) a/\∀r H',az H H'->H' r=some (.tup (Pr (Wq.dt q).1 (Wq.dt q).2))->Q (.ref r) H'
noncomputable def Gz (C:Addr):Sp:=λvs H Q _=>∃(a:Addr) (ws:List Wq.Sh) (Z:Int),vs=[.ref a]/\Rep H (.lst (ws.map bC)) (.ref a)/\ws.length<=60/\(∀x∈ws,0<x.2/\x.2∣Z/\Bt 4000 x.1)/\0<Z/\Bt 2000 Z/\
 ∀x H',az H H'->nk C H' x (ws.map (Wq.sc (Wq.fB 1 ws)),Wq.fB 1 ws)->Q (.ref x) H'
noncomputable def GA (C:Addr):Sp:=λvs H Q _=>∃(x:Addr) (S:Dg.Bk),vs=[.ref x]/\nk C H x S/\S.1.length<=60/\∀y H',az H H'->nk C H' y (List.replicate S.1.length 0,S.2)->Q (.ref y) H'
namespace Dg
noncomputable def xP (n:Nat) (ws:Wy):Prop:=ws.length<=5/\∀x∈ws,1<=x.1/\x.1<=200000/\0<=x.2/\x.2< (n:Int)
theorem GB:∀{ws:Wy},(∀x∈ws,1<=x.1/\x.1<=200000)->(ws.length:Int)<=Wq.cm ws/\Wq.cm ws<=200000* (ws.length:Int)
 | [],_=>⟨Int.le_refl _,Int.le_refl _⟩
 | x::ws,h=>by
  have ih:=GB (ws:=ws) λy hy=>h y (aaj _ hy)
  have:=h x aai
  rw[c8,aaq]
  omega
theorem xP.Nf {n:Nat} {ws:Wy} (h:xP n ws):0<=Wq.cm ws/\Wq.cm ws<=1000000:=by
 have:=GB λx hx=>⟨(h.2 x hx).1,(h.2 x hx).2.1⟩
 have l:=h.1
 omega
theorem xP.tt {n:Nat} {ws:Wy} (h:xP n ws):1<=tt ws/\tt ws<=1000000:=by
 have:=GB λx hx=>⟨(h.2 x hx).1,(h.2 x hx).2.1⟩
 have l:=h.1
 unfold Dg.tt
 cases ws with
 | nil=>decide
 | cons x ws=>
  rw[if_neg (by simp)]
  rw[aaq] at this l
  omega
theorem xQ {q:Int}:∀{ws:Wy},(∀x∈ws,1<=x.1)->0<=jm q ws/\jm q ws<=Wq.cm ws
 | [],_=>⟨Int.le_refl _,Int.le_refl _⟩
 | x::ws,h=>by
  have ih:=xQ (q:=q) (ws:=ws) λy hy=>h y (aaj _ hy)
  have:=h x aai
  show 0<=(if x.2=q then x.1 else 0)+jm q ws/\(if x.2=q then x.1 else 0)+jm q ws<=_
  rw[c8]
  split <;>omega
theorem pV.ent {ps:List Int} {W:Int->Wy} {L:List (List Int)} {n:Nat} (R:pV ps W L) (w:∀p∈ps,xP n (W p)):∀r∈L,∀x∈r,x.natAbs<=2^20:=by
 intro r hr x hx
 obtain⟨i,hi,rfl⟩:=aaX hr
 have lr:=R.2.1 _ (aan hi)
 obtain⟨j,hj,rfl⟩:=aaX hx
 have sN:i<ps.length:=by rw[<-R.1];exact hi
 have DO:j<ps.length:=by omega
 have e:=R.2.2 i j sN DO
 rw[aae (l:=L),aad hi,Option.getD_some,aae,aad hj,Option.getD_some] at e
 have mp:ps.getD i 0∈ps:=by rw[aae,aad sN];exact aan sN
 have k:=w _ mp
 obtain⟨t0,t1⟩:=k.tt
 obtain⟨u0,u1⟩:=k.Nf
 obtain⟨s0,s1⟩:=xQ (q:=ps.getD j 0) λx hx=>(k.2 x hx).1
 rw[e]
 split <;>omega
theorem qN (n:Nat) (h:n<=31):(n+1)^ (n+1)<=2^ (5*n+5):=by
 have e:(2:Nat)^ (5*n+5)=32^ (n+1):=by rw[show 5*n+5=5* (n+1) by omega,Nat.pow_mul]
 rw[e]
 exact Nat.pow_le_pow_left (by omega) _
theorem BC (n M:Nat) (h:n<=31) (h1:1<=n):(n+1)^ (n+1)* (2^ (M+61)* (2^20)^n)<2^ (M+92*n):=by
 refine abd (Nat.mul_le_mul_right _ (qN n h)) ?_
 rw[<-Nat.pow_mul,<-Nat.pow_add,<-Nat.pow_add]
 exact Nat.pow_lt_pow_right (by decide) (by omega)
theorem DP (n:Nat) (h:n<=31) (h1:1<=n):(n+1)^ (n+1)* (2^20)^n<2^ (92*n):=by
 refine abd (Nat.mul_le_mul_right _ (qN n h)) ?_
 rw[<-Nat.pow_mul,<-Nat.pow_add]
 exact Nat.pow_lt_pow_right (by decide) (by omega)
noncomputable def putK (ps xs ts:List Int):Nat->List Int
 | 0=>ts
 | k+1=>(putK ps xs ts k).set (ps.getD k 0).toNat (xs.getD k 0)
theorem jS (ps xs ts:List Int):∀k,(putK ps xs ts k).length=ts.length
 | 0=>rfl
 | k+1=>by unfold putK;rw[aaK,jS ps xs ts k]
theorem uN {ps xs ts:List Int} {q:Int} (q0:0<=q) (hp:∀p∈ps,0<=p) (h:q∉ps):∀k,k<=ps.length->(putK ps xs ts k).getD q.toNat 0=ts.getD q.toNat 0
 | 0,_=>rfl
 | k+1,hk=>by
  have e:ps.getD k 0=ps[k]:=by rw[aae,aad (by omega)];rfl
  have m:=aan (l:=ps) (n:=k) (by omega)
  have:=hp _ m
  unfold putK
  rw[fm (λz=>h (by rw[e] at z;rw[show q=ps[k] by omega];exact m)),uN q0 hp h k (by omega)]
theorem xR {ps xs ts:List Int} {n:Nat} (nd:ps.Nodup) (hp:∀p∈ps,0<=p/\p< (n:Int)) (lt:ts.length=n) {j:Nat}:∀k,k<=ps.length->j<k->(putK ps xs ts k).getD (ps.getD j 0).toNat 0=xs.getD j 0
 | 0,_,h=>absurd h (abc _)
 | k+1,hk,h=>by
  have e:ps.getD k 0=ps[k]:=by rw[aae,aad (by omega)];rfl
  have ej:ps.getD j 0=ps[j]:=by rw[aae,aad (by omega)];rfl
  have m:=hp _ (aan (l:=ps) (n:=k) (by omega))
  have mj:=hp _ (aan (l:=ps) (n:=j) (by omega))
  unfold putK
  by_cases c:j=k
  ·subst c
   rw[ij (by rw[jS,lt,e];omega)]
  ·rw[fm ?_,xR nd hp lt k (by omega) (by omega)]
   rw[e,ej]
   intro z
   exact c ((abh nd).mp (show ps[j]=ps[k] by omega))
noncomputable def DQ (ps:List Int) (W:Int->Wy) (gt:List Int) (G:Int) (S T:Bk):Prop:=∃d,0<d/\T.2=S.2*d/\T.1.length=S.1.length/\(∀q,0<=q->q∉ps->T.1.getD q.toNat 0=S.1.getD q.toNat 0*d)/\
 ∀p∈ps,tt (W p)*T.1.getD p.toNat 0=tt (W p)*gt.getD p.toNat 0* (S.2 / G)*d+gZ T.1 (W p)
structure Sz (n M:Nat) (S:Bk):Prop where
 len:S.1.length=n
 pos:0<S.2
 bb:Bt M S.2
 bt:∀q,Bt M (S.1.getD q 0)
theorem Sz.up {n M M':Nat} {S:Bk} (h:Sz n M S) (l:M<=M'):Sz n M' S:=⟨h.len,h.pos,h.bb.mono l,λq=>(h.bt q).mono l⟩
theorem EL {M:Nat} (ts:List Int) (h:∀q,Bt M (ts.getD q 0)):∀{ws:Wy},(∀x∈ws,1<=x.1)->(gZ ts ws).natAbs<=(Wq.cm ws).toNat *2^M/\0<=Wq.cm ws
 | [],_=>⟨by show(0:Int).natAbs<=_;simp,Int.le_refl _⟩
 | x::ws,hw=>by
  obtain⟨ih,t0⟩:=EL ts h (ws:=ws) λy hy=>hw y (aaj _ hy)
  have x0:=hw x aai
  have e:(Wq.cm (x::ws)).toNat=x.1.toNat+ (Wq.cm ws).toNat:=by rw[c8];omega
  have m:(x.1*ts.getD x.2.toNat 0).natAbs<=x.1.toNat *2^M:=by
   rw[aa3,show x.1.natAbs=x.1.toNat by omega]
   exact abx _ (Nat.le_of_lt (h _))
  refine⟨?_,by rw[c8];omega⟩
  rw[e,Nat.add_mul]
  show(x.1*ts.getD x.2.toNat 0+gZ ts ws).natAbs<=_
  omega
theorem GC {M n:Nat} {ts:List Int} {ws:Wy} (h:∀q,Bt M (ts.getD q 0)) (w:xP n ws):Bt (M+20) (gZ ts ws):=by
 obtain⟨a,_⟩:=EL ts h λx hx=>(w.2 x hx).1
 have t:=w.Nf
 have e:(2:Nat)^ (M+20)=1048576*2^M:=by rw[Nat.pow_add,Nat.mul_comm]
 have:(Wq.cm ws).toNat *2^M<=1000000*2^M:=Nat.mul_le_mul_right _ (by omega)
 have:0<2^M:=Nat.pow_pos (by decide)
 unfold Bt
 omega
theorem BD {M n:Nat} {S:Bk} {G g:Int} {ws:Wy} (h:Sz n M S) (w:xP n ws) (G0:0<G) (dv:G∣S.2) (hg:g.natAbs<=2^40*G.toNat):Bt (M+60) (tt ws*g* (S.2 / G))/\(tt ws*g* (S.2 / G)+gZ S.1 ws).natAbs<=2^ (M+61):=by
 obtain⟨t0,t1⟩:=w.tt
 obtain⟨k,hk⟩:=dv
 have S0:=h.pos
 have ek:S.2 / G=k:=by rw[hk];exact Int.mul_ediv_cancel_left k (by omega)
 have k0:0<k:=by rw[hk] at S0;exact Int.pos_of_mul_pos_right S0 G0
 have eS:S.2.natAbs=G.toNat *k.toNat:=by rw[hk,aa3];congr 1 <;>omega
 have b1:=h.bb
 unfold Bt at b1
 have g1:(g*k).natAbs<=2^40*S.2.natAbs:=by
  rw[aa3,eS,<-Nat.mul_assoc,show k.natAbs=k.toNat by omega]
  exact Nat.mul_le_mul_right _ hg
 have g2:(tt ws*g* (S.2 / G)).natAbs<=1000000* (2^40*S.2.natAbs):=by
  rw[ek,aaD,aa3]
  exact Nat.mul_le_mul (by omega) g1
 have YW:(2:Nat)^ (M+60)=1152921504606846976*2^M:=by rw[Nat.pow_add,Nat.mul_comm]
 have YX:(2:Nat)^ (M+61)=2305843009213693952*2^M:=by rw[Nat.pow_add,Nat.mul_comm]
 have s:=GC h.bt w
 have e20:(2:Nat)^ (M+20)=1048576*2^M:=by rw[Nat.pow_add,Nat.mul_comm]
 unfold Bt at s ⊢
 rw[YW,YX]
 rw[e20] at s
 omega
theorem DQ.ne {ps:List Int} {W:Int->Wy} {gt:List Int} {G:Int} {S T:Bk} (h:DQ ps W gt G S T) (B0:0<S.2) {q:Int} (q0:0<=q) (hq:q∉ps):val T q=val S q:=by
 obtain⟨d,d0,e2,_,o,_⟩:=h
 unfold val
 rw[o q q0 hq,e2,Rat.intCast_mul,Rat.intCast_mul]
 have h1:=uC B0
 have h2:=uC d0
 generalize (S.2:Rat)=v at *
 generalize (d:Rat)=t at *
 generalize ((S.1.getD q.toNat 0:Int):Rat)=s at *
 grind
theorem DQ.eq {ps:List Int} {W:Int->Wy} {gt:List Int} {G:Int} {S T:Bk} (h:DQ ps W gt G S T) (B0:0<S.2) (G0:0<G) (dv:G∣S.2) {p:Int} (hp:p∈ps) (t0:0<tt (W p)):val T p=(gt.getD p.toNat 0:Rat) / (G:Rat)+de (tt (W p)) (val T) (W p):=by
 obtain⟨d,d0,e2,_,_,o⟩:=h
 have T0:0<T.2:=by rw[e2];exact aaE B0 d0
 have e:=o p hp
 rw[<-uE T0 t0 (W p)]
 obtain⟨k,hk⟩:=dv
 have ek:S.2 / G=k:=by rw[hk];exact Int.mul_ediv_cancel_left k (by omega)
 have k0:0<k:=by
  rw[hk] at B0
  exact Int.pos_of_mul_pos_right B0 G0
 unfold val
 rw[ek] at e
 have e':((tt (W p)*T.1.getD p.toNat 0:Int):Rat)=((tt (W p)*gt.getD p.toNat 0*k*d+gZ T.1 (W p):Int):Rat):=by rw[e]
 rw[Rat.intCast_add,Rat.intCast_mul,Rat.intCast_mul,Rat.intCast_mul,Rat.intCast_mul] at e'
 rw[e2,hk]
 simp only[Rat.intCast_mul]
 have h1:=uC G0
 have h2:=uC d0
 have h3:=uC k0
 have h4:=uC t0
 generalize (k:Rat)=v at *
 generalize (G:Rat)=u at *
 generalize (d:Rat)=x at *
 generalize (tt (W p):Rat)=t at *
 generalize ((gt.getD p.toNat 0:Int):Rat)=s at *
 generalize ((gZ T.1 (W p):Int):Rat)=r at *
 generalize ((T.1.getD p.toNat 0:Int):Rat)=y at *
 clear ek k0 hk e o T0 e2
 grind
theorem xS {d:Int} (d0:0<d) {v:Int->Rat} {M:Rat}:∀{ws:Wy},(∀x∈ws,1<=x.1/\v x.2<=M)->de d v ws<=(Wq.cm ws:Rat) / (d:Rat)*M
 | [],_=>by show(0:Rat)<=((0:Int):Rat) / _*M;grind
 | x::ws,h=>by
  have ih:=xS d0 (v:=v) (M:=M) (ws:=ws) λy hy=>h y (aaj _ hy)
  obtain⟨x1,x2⟩:=h x aai
  show(x.1:Rat) / (d:Rat)*v x.2+de d v ws<=((x.1+Wq.cm ws:Int):Rat) / (d:Rat)*M
  rw[Rat.intCast_add]
  have c:(0:Rat)<=(x.1:Rat) / (d:Rat):=by
   rw[Rat.div_def]
   exact Rat.le_of_lt (Rat.mul_pos (Rat.intCast_pos.mpr (by omega)) (Rat.inv_pos.mpr (Rat.intCast_pos.mpr (by omega))))
  have m:=Rat.mul_le_mul_of_nonneg_left x2 c
  generalize v x.2=a at *
  generalize de d v ws=r at *
  generalize (x.1:Rat)=s at *
  generalize (Wq.cm ws:Rat)=t at *
  have e:(s+t) / (d:Rat)*M=s / (d:Rat)*M+t / (d:Rat)*M:=by grind
  rw[e]
  generalize s / (d:Rat)=u at *
  generalize t / (d:Rat)=w at *
  grind
theorem xT {d:Int} (d0:0<d) {v:Int->Rat} {M:Rat}:∀{ws:Wy},(∀x∈ws,1<=x.1/\v x.2<=M)->(∃x∈ws,v x.2<M)->de d v ws< (Wq.cm ws:Rat) / (d:Rat)*M
 | [],_,h=>by obtain⟨x,hx,_⟩:=h;simp at hx
 | x::ws,h,k=>by
  have hw:∀y∈ws,1<=y.1/\v y.2<=M:=λy hy=>h y (aaj _ hy)
  obtain⟨x1,x2⟩:=h x aai
  show(x.1:Rat) / (d:Rat)*v x.2+de d v ws< ((x.1+Wq.cm ws:Int):Rat) / (d:Rat)*M
  rw[Rat.intCast_add]
  have c:(0:Rat)< (x.1:Rat) / (d:Rat):=by
   rw[Rat.div_def]
   exact Rat.mul_pos (Rat.intCast_pos.mpr (by omega)) (Rat.inv_pos.mpr (Rat.intCast_pos.mpr (by omega)))
  have m:=Rat.mul_le_mul_of_nonneg_left x2 (Rat.le_of_lt c)
  have ih:=xS d0 hw
  have L3:(∃y∈ws,v y.2<M)->de d v ws< (Wq.cm ws:Rat) / (d:Rat)*M:=λz=>xT d0 hw z
  have m2:v x.2<M->(x.1:Rat) / (d:Rat)*v x.2< (x.1:Rat) / (d:Rat)*M:=λz=>Rat.mul_lt_mul_of_pos_left z c
  have k2:v x.2<M\/∃y∈ws,v y.2<M:=by
   obtain⟨y,hy,ly⟩:=k
   rcases List.mem_cons.mp hy with rfl | hy
   ·exact .inl ly
   ·exact .inr ⟨y,hy,ly⟩
  generalize v x.2=a at *
  generalize de d v ws=r at *
  generalize (x.1:Rat)=s at *
  generalize (Wq.cm ws:Rat)=t at *
  have e:(s+t) / (d:Rat)*M=s / (d:Rat)*M+t / (d:Rat)*M:=by grind
  rw[e]
  generalize s / (d:Rat)*M=u at *
  generalize t / (d:Rat)*M=w at *
  generalize s / (d:Rat)*a=z at *
  rcases k2 with k2 | k2
  ·have:=m2 k2
   grind
  ·have:=L3 k2
   grind
theorem xU (v:Int->Rat):∀(ps:List Int),ps≠[]->∃q∈ps,∀p∈ps,v p<=v q
 | [],h=>absurd rfl h
 | [a],_=>⟨a,List.mem_singleton.mpr rfl,λp hp=>by rw[List.mem_singleton.mp hp];exact Rat.le_refl⟩
 | a::b::l,_=>by
  obtain⟨q,hq,h⟩:=xU v (b::l) (by simp)
  rcases Rat.le_total (a:=v q) (b:=v a) with c | c
  ·refine⟨a,aai,λp hp=>?_⟩
   rcases List.mem_cons.mp hp with rfl | hp
   ·exact Rat.le_refl
   ·exact Rat.le_trans (h p hp) c
  ·refine⟨q,aaj _ hq,λp hp=>?_⟩
   rcases List.mem_cons.mp hp with rfl | hp
   ·exact c
   ·exact h p hp
theorem sub_zero {ps:List Int} {W:Int->Wy} {lv:Int->Nat} {v:Int->Rat} (h:∀p∈ps,v p<=de (tt (W p)) v (W p)) (pos:∀p∈ps,∀x∈W p,1<=x.1) (out:∀p∈ps,∀x∈W p,x.2∉ps->v x.2<=0) (dn:∀p∈ps,W p=[]\/∃x∈W p,lv x.2<lv p):∀p∈ps,v p<=0:=by
 intro p0 EI
 obtain⟨q,hq,mx⟩:=xU v ps (List.ne_nil_of_mem EI)
 rcases Rat.le_total (a:=v q) (b:=0) with M0 | M0
 ·exact Rat.le_trans (mx p0 EI) M0
 ·by_cases z:v q=0
  ·rw[<-z];exact mx p0 EI
  ·exfalso
   have M1:0<v q:=by grind
   have all:∀p∈ps,∀x∈W p,v x.2<=v q:=λp hp x hx=>by
    by_cases c:x.2∈ps
    ·exact mx _ c
    ·exact Rat.le_trans (out p hp x hx c) M0
   have low:∀n,∀p∈ps,lv p<n->v p<v q:=by
    intro n
    induction n with
    | zero=>exact λp _ hl=>absurd hl (abc _)
    | succ n ih=>
     intro p hp hl
     have e:=h p hp
     rcases dn p hp with z | ⟨x,hx,lx⟩
     ·rw[z] at e
      have e:v p<=0:=e
      grind
     ·have et:tt (W p)=Wq.cm (W p):=by unfold tt;rw[if_neg (List.ne_nil_of_mem hx)]
      have tp:0<tt (W p):=by
       rw[et]
       obtain⟨s0,s1⟩:=xQ (q:=x.2) (pos p hp)
       have:∀{ws:Wy},(∀y∈ws,1<=y.1)->x∈ws->0<Wq.cm ws:=by
        intro ws
        induction ws with
        | nil=>intro _ h;simp at h
        | cons y ws L3=>
         intro h1 h2
         have y1:=h1 y aai
         have:=(xQ (q:=x.2) λz hz=>h1 z (aaj y hz))
         rw[c8]
         omega
       exact this (pos p hp) hx
      have k:=xT tp (v:=v) (M:=v q) (ws:=W p) (λy hy=>⟨pos p hp y hy,all p hp y hy⟩) ⟨x,hx,by
       by_cases c:x.2∈ps
       ·exact ih _ c (by omega)
       ·have:=out p hp x hx c
        grind⟩
      have one:(Wq.cm (W p):Rat) / (tt (W p):Rat)*v q=v q:=by
       have:=uC tp
       rw[et] at this ⊢
       generalize (Wq.cm (W p):Rat)=t at *
       grind
      rw[one] at k
      grind
   exact Rat.lt_irrefl (low _ q hq (aaM _))
theorem jT {d:Int} {v v':Int->Rat}:∀ws:Wy,de d (λi=>v i - v' i) ws=de d v ws - de d v' ws
 | []=>by show(0:Rat)=0 - 0;grind
 | x::ws=>by
  have ih:=jT (d:=d) (v:=v) (v':=v') ws
  show(x.1:Rat) / (d:Rat)* (v x.2 - v' x.2)+de d (λi=>v i - v' i) ws=(x.1:Rat) / (d:Rat)*v x.2+de d v ws - ((x.1:Rat) / (d:Rat)*v' x.2+de d v' ws)
  rw[ih]
  grind
end Dg
noncomputable def GS (p:Int×Int):Prop:=Bt 40 p.1/\Bt 20 p.2/\Wq.Lw p
noncomputable def vb (n:Nat):Pl->Prop
 | .fin g=>GS g
 | .dA g ws=>GS g/\0<ws.length/\Dg.xP n ws
 | .cD br to=>(br=1\/br=2)/\0<to.length/\to.length<=4/\∀g∈to,0<=g/\g< (n:Int)
noncomputable def xV (b:List Pl) (p:Int):Nat:=match b[p.toNat]? with | some (.cD _ to)=>to.length | _=>1
noncomputable def kQ (b:List Pl):Nat->List Int->Nat
 | a,[]=>a
 | a,p::ps=>kQ b (a*xV b p) ps
structure DR (b:List Pl) (rk:Int->Nat):Prop where
 good:Lv.Good b
 dA:∀(i:Nat) g ws,b[i]?=some (.dA g ws)->∃x∈ws,rk x.2<rk (i:Int)
 cD:∀(i:Nat) w to,b[i]?=some (.cD w to)->∀g∈to,rk g<rk (i:Int)
structure j9 (b:List Pl) (rk:Int->Nat):Prop where
 pos:0<b.length
 len:b.length<=16
 ok:∀q∈b,vb b.length q
 gP:DR b rk
 zh:∀p,Pr.In b p->kQ b 1 (Pr.c9 b p)<=4096
section LA
open Lv Bf
variable {b : List Pl} {rk : Int -> Nat} (D : DR b rk)
include D
theorem DR.lv:∀(m i:Nat),rk (i:Int)<m->i<b.length->lk (ub b) (i:Int)≠none
 | 0,_,h,_=>absurd h (abc _)
 | m+1,i,h,hi=>by
  have e:b[i]?=some b[i]:=aad hi
  have ih:∀g∈gc b[i],rk g<rk (i:Int)->lk (ub b) g≠none:=λg hg hr=>by
   obtain⟨h0,h1⟩:=D.good.lP _ (aag e) g hg
   obtain⟨j,rfl⟩:=aav h0
   exact DR.lv m j (by omega) (by omega)
  have E:=Ay D.good i _ e
  have nn:∀v,(ub b)[i]?=some (some v)->lk (ub b) (i:Int)≠none:=λv hv z=>by
   rw[F2.mpr hv] at z
   cases z
  cases q:b[i] with
  | fin w=>rw[q] at E;exact nn _ E
  | dA w ws=>
   rw[q] at E ih e
   rcases E with ⟨_,a2⟩ | ⟨v,hv,_⟩
   ·obtain⟨x,hx,rx⟩:=D.dA i w ws e
    have m:x.2∈ws.map (·.2):=List.mem_map.mpr ⟨x,hx,rfl⟩
    exact absurd (a2 x.2 m) (ih x.2 m rx)
   ·exact nn v hv
  | cD w to=>
   rw[q] at E ih e
   rcases E with ⟨_,g,hg,a2⟩ | ⟨v,hv,_⟩
   ·exact absurd a2 (ih g hg (D.cD i w to e g hg))
   ·exact nn v hv
theorem DR.ring:oR b=[]:=by
 refine List.eq_nil_iff_forall_not_mem.mpr λi hi=>?_
 obtain⟨h1,h2⟩:=A0.mp hi
 exact D.lv _ i (aaM _) h1 h2
theorem DR.within {p o:Int} (hp:Pr.In b p) (ho:o∈Pr.c9 b p) (ne:o≠p):∃g∈fF b p,g∈Pr.c9 b p:=by
 obtain⟨h1,h2⟩:=Pr.dh.mp ho
 obtain⟨ws,e⟩:=(Pr.wb D.good hp).mp h1
 cases ws with
 | nil=>cases e;exact absurd rfl ne
 | cons w ws=>
  have e:(match (fF b p)[w]? with | some g=>Bf.go b g ws | none=>none)=some o:=e
  cases c:(fF b p)[w]? with
  | none=>rw[c] at e;cases e
  | some g=>
   rw[c] at e
   have hg:=aag c
   have kg:=Pr.rZ D.good hp (Pr.iI D.good hp) hg
   have ig:=Pr.oU D.good hp kg
   have ko:o∈Pr.kb b g:=(Pr.wb D.good ig).mpr ⟨ws,e⟩
   exact⟨g,hg,Pr.dh.mpr ⟨kg,Pr.fP D.good ig ko h2⟩⟩
end LA
theorem wm (rk:Int->Nat):∀(ps:List Int),ps≠[]->∃q∈ps,∀p∈ps,rk q<=rk p
 | [],h=>absurd rfl h
 | [a],_=>⟨a,List.mem_singleton.mpr rfl,λp hp=>by rw[List.mem_singleton.mp hp];exact aah _⟩
 | a::b::l,_=>by
  obtain⟨q,hq,h⟩:=wm rk (b::l) (by simp)
  by_cases c:rk a<=rk q
  ·refine⟨a,aai,λp hp=>?_⟩
   rcases List.mem_cons.mp hp with rfl | hp
   ·exact aah _
   ·exact aap c (h p hp)
  ·refine⟨q,aaj _ hq,λp hp=>?_⟩
   rcases List.mem_cons.mp hp with rfl | hp
   ·omega
   ·exact h p hp
noncomputable def mE (b:List Pl) (p:Int):Bool:=match b[p.toNat]? with | some (.cD _ _)=>true | _=>false
set_option tactic.hygienic true in
theorem xW {b:List Pl} (h:∀p,xV b p<=4):∀(ps:List Int) (a:Nat),kQ b a ps<=a*4^ (ps.filter (mE b)).length
 | [],a=>by show a<=a*1;omega
 | p::ps,a=>by
  have ih:=xW h ps (a*xV b p)
  refine aap (show kQ b (a*xV b p) ps<=_ from ih) ?_
  by_cases c:mE b p=true
  ·rw[List.filter_cons_of_pos c,aaq,Nat.pow_succ]
   have:=abx a (h p)
   calc a*xV b p*4^ (ps.filter (mE b)).length<=a*4*4^ (ps.filter (mE b)).length:=Nat.mul_le_mul_right _ this
    _=a* (4^ (ps.filter (mE b)).length*4):=by rw[Nat.mul_assoc,Nat.mul_comm 4]
  ·rw[List.filter_cons_of_neg c]
   have e:xV b p=1:=by
    unfold mE at c
    unfold xV
    split
    ·rename_i e;rw[e] at c;simp at c
    ·rfl
   rw[e,Nat.mul_one]
   exact aah _
set_option tactic.hygienic true in
theorem wo {b:List Pl} (ok:∀q∈b,vb b.length q) (p:Int):1<=xV b p/\xV b p<=4:=by
 unfold xV
 split
 ·rename_i w to e
  have:=ok _ (aag e)
  exact⟨this.2.1,this.2.2.1⟩
 ·exact⟨aah _,by decide⟩
theorem xX {b:List Pl} (ok:∀q∈b,vb b.length q):∀(ps:List Int) (a:Nat),a<=kQ b a ps
 | [],a=>aah _
 | p::ps,a=>aap (Nat.le_mul_of_pos_right a (wo ok p).1) (xX ok ps _)
theorem BE {b:List Pl} {rk:Int->Nat} (D:DR b rk) (ok:∀q∈b,vb b.length q) (l8:b.length<=8) {p:Int} (hp:Pr.In b p):kQ b 1 (Pr.c9 b p)<=4096:=by
 refine aap (xW (λp=>(wo ok p).2) _ _) ?_
 rw[Nat.one_mul]
 suffices h:((Pr.c9 b p).filter (mE b)).length<=6 by
  exact aap (abl (by decide) h) (by decide)
 have nd:(Pr.c9 b p).Nodup:=(Pr.kK D.good hp).imp λh z=>by omega
 obtain⟨q,hq,mn⟩:=wm rk _ (Pr.jj D.good hp)
 have iq:=Pr.eX D.good hp hq
 by_cases one:∀o∈Pr.c9 b p,o=q
 ·have:=Pr.sub_len (l:=(Pr.c9 b p).filter (mE b)) (m:=[q]) (nd.filter _) λx hx=>List.mem_singleton.mpr (one x (List.mem_filter.mp hx).1)
  have:((Pr.c9 b p).filter (mE b)).length<=1:=this
  omega
 ·obtain⟨o,YY⟩:=Classical.not_forall.mp one
  obtain⟨ho,ne⟩:=Classical.not_imp.mp YY
  have ep:=Pr.sj D.good hp hq
  have wi:∀x,x∈Pr.c9 b p->∃g∈Bf.fF b x,g∈Pr.c9 b p:=λx hx=>by
   have ix:=Pr.eX D.good hp hx
   have ex:=Pr.sj D.good hp hx
   by_cases c:x=q
   ·subst c
    obtain⟨g,h1,h2⟩:=D.within ix (o:=o) (by rw[ex];exact ho) ne
    exact⟨g,h1,by rw[<-ex];exact h2⟩
   ·obtain⟨g,h1,h2⟩:=D.within ix (o:=q) (by rw[ex];exact hq) (λz=>c z.symm)
    exact⟨g,h1,by rw[<-ex];exact h2⟩
  have YZ:∀x:Int,Pr.In b x->∃i:Nat,x=i/\∃pl,b[i]?=some pl/\Bf.fF b x=Lv.gc pl:=λx hx=>by
   obtain⟨i,rfl⟩:=aav hx.1
   have hi:i<b.length:=by have:=hx.2;omega
   refine⟨i,rfl,b[i],aad hi,?_⟩
   unfold Bf.fF
   rw[aak,aad hi]
  have Ao:mE b q=false:=by
   obtain⟨i,rfl,pl,e,eg⟩:=YZ q iq
   obtain⟨g,h1,h2⟩:=wi _ hq
   rw[eg] at h1
   unfold mE
   rw[aak,e]
   cases pl with
   | fin w=>rfl
   | dA w ws=>rfl
   | cD w to=>
    have:=D.cD i w to e g h1
    have:=mn g h2
    omega
  obtain⟨f,hf,mf⟩:=wm rk ((List.range b.length).map fun(i:Nat)=>(i:Int)) (by
   have:0<b.length:=by have:=hp.1;have:=hp.2;omega
   intro z
   have k:=congrArg List.length z
   rw[aac,aay,abb] at k
   omega)
  obtain⟨f,Y0,rfl⟩:=List.mem_map.mp hf
  have lf:=List.mem_range.mp Y0
  have inr:∀g:Int,Pr.In b g->rk (f:Int)<=rk g:=λg hg=>by
   obtain⟨j,rfl⟩:=aav hg.1
   exact mf _ (List.mem_map.mpr ⟨j,List.mem_range.mpr (by have:=hg.2;omega),rfl⟩)
  have ef:∃w,b[f]?=some (.fin w):=by
   have e:b[f]?=some b[f]:=aad lf
   have rg:=D.good.lP _ (aag e)
   cases c:b[f] with
   | fin w=>exact⟨w,by rw[e,c]⟩
   | dA w ws=>
    rw[c] at e rg
    obtain⟨x,hx,rx⟩:=D.dA f w ws e
    have:=inr x.2 (rg _ (List.mem_map.mpr ⟨x,hx,rfl⟩))
    omega
   | cD w to=>
    rw[c] at e rg
    have ne:=D.good.cD _ (aag e) w to rfl
    obtain⟨g,hg⟩:=List.exists_mem_of_ne_nil _ ne
    have:=D.cD f w to e g hg
    have:=inr g (rg _ hg)
    omega
  obtain⟨w,ef⟩:=ef
  have nf:(f:Int)∉Pr.c9 b p:=λz=>by
   obtain⟨g,h1,_⟩:=wi _ z
   unfold Bf.fF at h1
   rw[aak,ef] at h1
   cases h1
  have:=Pr.sub_len (l:=(f:Int)::q::(Pr.c9 b p).filter (mE b)) (m:=(List.range b.length).map fun(i:Nat)=>(i:Int)) ?_ ?_
  ·rw[aaq,aaq,aac,aay] at this
   omega
  ·refine List.nodup_cons.mpr ⟨λz=>?_,List.nodup_cons.mpr ⟨λz=>?_,nd.filter _⟩⟩
   ·rcases List.mem_cons.mp z with z | z
    ·exact nf (by rw[z];exact hq)
    ·exact nf (List.mem_filter.mp z).1
   ·have:=(List.mem_filter.mp z).2
    rw[Ao] at this
    cases this
  ·intro x hx
   have ix:Pr.In b x:=by
    rcases List.mem_cons.mp hx with rfl | hx
    ·exact⟨by omega,by omega⟩
    ·rcases List.mem_cons.mp hx with rfl | hx
     ·exact iq
     ·exact Pr.eX D.good hp (List.mem_filter.mp hx).1
   obtain⟨j,rfl⟩:=aav ix.1
   exact List.mem_map.mpr ⟨j,List.mem_range.mpr (by have:=ix.2;omega),rfl⟩
noncomputable def vc:Pl->Option Int->Dg.Wy
 | .fin _,_=>[]
 | .dA _ ws,_=>ws
 | .cD _ to,k=>[(1,to.getD (k.getD 0).toNat 0)]
noncomputable def HW:Pl->Option Int->Prop
 | .cD _ to,some k=>0<=k/\k< (to.length:Int)
 | .cD _ _,none=>False
 | _,_=>True
theorem vb.tX {n:Nat} {q:Pl} (h:vb n q):(Lv.gc q).length<=5:=by
 cases q with
 | fin g=>exact aas _
 | dA g ws=>simp only[Lv.gc,aac];exact h.2.2.1
 | cD w to=>have:=h.2.2.1;show to.length<=5;omega
theorem EM {n:Nat} {q:Pl} {k:Option Int} (h:vb n q) (hk:HW q k):Dg.xP n (vc q k)/\∀x∈vc q k,x.2∈Lv.gc q:=by
 cases q with
 | fin g=>exact⟨⟨aas _,by simp [vc]⟩,by simp [vc]⟩
 | dA g ws=>exact⟨h.2.2,λx hx=>List.mem_map.mpr ⟨x,hx,rfl⟩⟩
 | cD w to=>
  cases k with
  | none=>exact hk.elim
  | some k=>
   have hl:k.toNat<to.length:=by have:=hk.1;have:=hk.2;omega
   have m:to.getD k.toNat 0∈to:=by rw[aae,aad hl];exact aan hl
   have e:vc (.cD w to) (some k)=[(1,to.getD k.toNat 0)]:=rfl
   rw[e]
   refine⟨⟨by show 1<=5;omega,λx hx=>?_⟩,λx hx=>?_⟩
   ·rw[List.mem_singleton.mp hx]
    exact⟨by show(1:Int)<=1;omega,by show(1:Int)<=200000;omega,h.2.2.2 _ m⟩
   ·rw[List.mem_singleton.mp hx]
    exact m
noncomputable def cE (b:List Pl) (ks:List (Option Int)):List Dg.Wy:=List.zipWith vc b ks
noncomputable def gB (b:List Pl):Int:=Wq.fB 1 (b.map Wq.dt)
noncomputable def gT (b:List Pl):List Int:=(b.map Wq.dt).map (Wq.sc (gB b))
structure d8 (b:List Pl) (ks:List (Option Int)):Prop where
 len:ks.length=b.length
 ok:∀(i:Nat) q k,b[i]?=some q->ks[i]?=some k->HW q k
theorem d8.at {b:List Pl} {ks:List (Option Int)} (h:d8 b ks) {i:Nat} (hi:i<b.length):∃q k,b[i]?=some q/\ks[i]?=some k/\HW q k/\cC (cE b ks) (i:Int)=vc q k:=by
 have e1:b[i]?=some b[i]:=aad hi
 have hk:i<ks.length:=by rw[h.len];exact hi
 have e2:ks[i]?=some ks[i]:=aad hk
 refine⟨_,_,e1,e2,h.ok i _ _ e1 e2,?_⟩
 unfold cC cE
 rw[aak,aae,aby,e1,e2]
 rfl
noncomputable def EqAt (b:List Pl) (ks:List (Option Int)) (p:Nat) (v:Int->Rat):Prop:=∀q k,b[p]?=some q->ks[p]?=some k->v (p:Int)=Dg.vl (Wq.dt q)+Dg.de (Dg.tt (vc q k)) v (vc q k)
theorem nv {n:Nat} {q:Pl} (h:vb n q):GS (Wq.dt q):=by
 cases q with
 | fin g=>exact h
 | dA g ws=>exact h.1
 | cD w to=>exact⟨by show Bt 40 0;exact Bt.of 1 (by decide) (by decide),by show Bt 20 1;exact Bt.of 1 (by decide) (by decide),by show(0:Int)<1;decide,by show Nm.g 0 1=1;decide⟩
noncomputable def pB (xs:List Wq.Sh):Int:=xs.foldr (λx y=>x.2*y) 1
theorem BF:∀{xs:List Wq.Sh},(∀x∈xs,GS x)->0<pB xs/\Bt (20*xs.length+1) (pB xs)/\∀x∈xs,x.2∣pB xs
 | [],_=>⟨by decide,Bt.of 1 (by decide) (by decide),by simp⟩
 | x::xs,h=>by
  obtain⟨h1,h2,h3⟩:=BF (xs:=xs) λy hy=>h y (aaj _ hy)
  have g:=h x aai
  refine⟨aaE g.2.2.1 h1,?_,λy hy=>?_⟩
  ·have:=g.2.1.mul h2
   rw[show 20* (x::xs).length+1=20+ (20*xs.length+1) by rw[aaq];omega]
   exact this
  ·rcases List.mem_cons.mp hy with rfl | hy
   ·exact Int.dvd_mul_right _ _
   ·exact Int.dvd_trans (h3 y hy) (Int.dvd_mul_left _ _)
section WE
variable {b : List Pl} {rk : Int -> Nat} (B : j9 b rk)
include B
theorem j9.tX:∀q∈b,(Lv.gc q).length<=100:=λq hq=>by have:=(B.ok q hq).tX;omega
theorem j9.bd:Bd b:=⟨by have:=B.len;omega,B.tX,B.gP.good⟩
theorem j9.xY:∀x∈b.map Wq.dt,GS x:=λx hx=>by
 obtain⟨q,hq,rfl⟩:=List.mem_map.mp hx
 exact nv (B.ok q hq)
theorem j9.bot:0<gB b/\Bt 321 (gB b)/\∀q∈b,(Wq.dt q).2∣gB b:=by
 obtain⟨p1,p2,p3⟩:=BF B.xY
 obtain⟨l1,l2,l3,l4⟩:=Wq.m8 (xs:=b.map Wq.dt) (c:=1) (by decide) λx hx=>(B.xY x hx).2.2.1
 have d:=l4 (Z:=pB (b.map Wq.dt)) ⟨pB (b.map Wq.dt),by omega⟩ p3
 rw[aac] at p2
 have bl:=B.len
 exact⟨l1,(p2.mono (by omega)).le (by have:=abe p1 d;have:0<gB b:=l1;unfold gB at *;omega),λq hq=>l3 _ (List.mem_map.mpr ⟨q,hq,rfl⟩)⟩
theorem j9.top (p:Nat):((gT b).getD p 0).natAbs<=2^40* (gB b).toNat:=by
 obtain⟨g0,g1,g2⟩:=B.bot
 unfold gT
 rw[aae,aaf,aaf]
 cases e:b[p]? with
 | none=>exact aas _
 | some q=>
  have hq:=aag e
  obtain⟨h1,h2,h3⟩:=nv (B.ok q hq)
  show(Wq.sc (gB b) (Wq.dt q)).natAbs<=_
  have:=Nm.dU (a:=gB b) h3.1 (g2 q hq)
  unfold Wq.sc
  unfold Bt at h1
  rw[aa3]
  exact Nat.mul_le_mul (by omega) (by omega)
theorem j9.gV {p:Nat} {q:Pl} (e:b[p]?=some q):((gT b).getD p 0:Rat) / (gB b:Rat)=Dg.vl (Wq.dt q):=by
 obtain⟨g0,g1,g2⟩:=B.bot
 have hq:=aag e
 obtain⟨h1,h2,h4⟩:=nv (B.ok q hq)
 have ee:(gT b).getD p 0=Wq.sc (gB b) (Wq.dt q):=by
  unfold gT
  rw[aae,aaf,aaf,e]
  rfl
 rw[ee]
 exact(Dg.uD h4.1 g0 (Wq.kI (g2 q hq)).symm).symm
theorem j9.dn {ks:List (Option Int)} (ko:d8 b ks) {p:Int} (hp:Pr.In b p):cC (cE b ks) p=[]\/∃x∈cC (cE b ks) p,rk x.2<rk p:=by
 obtain⟨i,rfl⟩:=aav hp.1
 obtain⟨q,k,e1,e2,po,ew⟩:=ko.at (i:=i) (by have:=hp.2;omega)
 rw[ew]
 cases q with
 | fin g=>exact .inl rfl
 | dA g ws=>exact .inr (B.gP.dA i g ws e1)
 | cD w to=>
  have h:=(EM (B.ok _ (aag e1)) po).2
  refine .inr ⟨_,List.mem_singleton.mpr rfl,B.gP.cD i w to e1 _ (h _ (List.mem_singleton.mpr rfl))⟩
theorem j9.wk {ks:List (Option Int)} (ko:d8 b ks) {p:Int} (hp:Pr.In b p):Dg.xP b.length (cC (cE b ks) p)/\∀x∈cC (cE b ks) p,x.2∈Bf.fF b p:=by
 obtain⟨i,rfl⟩:=aav hp.1
 obtain⟨q,k,e1,e2,po,ew⟩:=ko.at (i:=i) (by have:=hp.2;omega)
 rw[ew]
 have h:=EM (B.ok _ (aag e1)) po
 refine⟨h.1,λx hx=>?_⟩
 unfold Bf.fF
 rw[aak,e1]
 exact h.2 x hx
noncomputable def xZ (b:List Pl) (ps:List Int) (p:Int):Nat:=ps.idxOf (Pr.rep b p)
variable {ps : List Int} (T : Pr.Told b ps)
include T
theorem wq {i:Nat} {h p:Int} (e:ps[i]?=some h) (hp:p∈Pr.c9 b h):xZ b ps p=i:=by
 have ih:=T.Jr (aag e)
 unfold xZ
 rw[Pr.sr B.gP.good ih hp,T.rp (aag e)]
 have l:=aaS (aag e)
 obtain⟨hi,DS⟩:=List.getElem?_eq_some_iff.mp e
 exact(abh T.nd).mp ((aaW l).trans DS.symm)
theorem Jy {i:Nat} {h p:Int} (e:ps[i]?=some h) (hp:Pr.In b p) (z:xZ b ps p=i):p∈Pr.c9 b h:=by
 have m:=T.has B.gP.good hp
 have l:=aaS m
 have e2:ps[xZ b ps p]?=some (Pr.rep b p):=by unfold xZ;rw[aad l,aaW l]
 rw[z,e] at e2
 cases e2
 rw[Pr.sk B.gP.good hp]
 exact Pr.oW B.gP.good hp
theorem Jz {p:Int} (hp:Pr.In b p):xZ b ps p<ps.length:=aaS (T.has B.gP.good hp)
theorem DT {p g:Int} (hp:Pr.In b p) (hg:g∈Bf.fF b p):xZ b ps g<=xZ b ps p/\Pr.In b g:=by
 have k:=Pr.rZ B.gP.good hp (Pr.iI B.gP.good hp) hg
 exact⟨T.Gi B.gP.good hp k,Pr.oU B.gP.good hp k⟩
theorem BG {i:Nat} (hi:i<=ps.length):Pr.off b ps i<=b.length:=by
 have h1:Pr.off b ps ps.length=b.length:=by
  rw[Pr.DD]
  have:=congrArg List.length (T.A6 B.gP.good)
  rw[(Nm.fM _).length_eq,aac,aac,aay] at this
  exact this
 have mono:∀k,i+k<=ps.length->Pr.off b ps i<=Pr.off b ps (i+k):=by
  intro k
  induction k with
  | zero=>intro _;exact aah _
  | succ k ih=>
   intro h
   rw[show i+ (k+1)=i+k+1 by omega,Pr.oX (aad (show i+k<ps.length by omega))]
   have:=ih (by omega)
   omega
 have:=mono (ps.length - i) (by omega)
 rw[show i+ (ps.length - i)=ps.length by omega,h1] at this
 exact this
end WE
structure GD (b:List Pl) (ks:List (Option Int)) (ps:List Int) (i:Nat) (S:Dg.Bk):Prop where
 sz:Dg.Sz b.length (330+92*Pr.off b ps i) S
 dv:gB b∣S.2
 eq:∀p:Nat,p<b.length->xZ b ps (p:Int)<i->EqAt b ks p (Dg.val S)
 zr:∀p:Int,Pr.In b p->i<=xZ b ps p->S.1.getD p.toNat 0=0
theorem GD.start {b:List Pl} {rk:Int->Nat} {ks:List (Option Int)} {ps:List Int} (B:j9 b rk):GD b ks ps 0 (List.replicate b.length 0,gB b):=by
 obtain⟨g0,g1,g2⟩:=B.bot
 have z:∀q,(List.replicate b.length (0:Int)).getD q 0=0:=λq=>by
  rw[aae,List.getElem?_replicate]
  split <;>simp
 refine⟨⟨aba,g0,g1.mono (by omega),λq=>?_⟩,Int.dvd_refl _,λp _ h=>absurd h (abc _),λp _ _=>z _⟩
 show Bt _ ((List.replicate b.length (0:Int)).getD q 0)
 rw[z]
 exact Bt.mono (m:=1) (Bt.of 1 (by decide) (by decide)) (by omega)
theorem x6 {S:Dg.Bk} (h:0<S.2) (q:Int) (hq:q.toNat<S.1.length):Dg.vl (Wq.b8 (S.1.map λt=>Wq.low t S.2) q)=Dg.val S q:=by
 unfold Wq.b8 Dg.val
 rw[aae,aaf,aae,aad hq]
 exact Dg.su h
noncomputable def wt (tp:Addr):Sp:=λvs H Q _=>∃(a:Addr) (b:List Pl) (rk:Int->Nat),vs=[.ref a]/\Rep H (ou b) (.ref a)/\j9 b rk/\H tp=some (.tu dsc)/\
 ∀l ps as H',Pr.Told b ps->az H H'->H l=none->H' l=some (.lst (List.map V.ref as))->Al (λp v=>∃x,v=.ref x/\H' x=some (.lst ((Pr.c9 b p).map V.int))) ps (as.map V.ref)->Q (.ref l) H'
noncomputable def wu:Sp:=λvs H Q _=>∃(a x:Addr) (b:List Pl) (ps:List Int),vs=[.ref a,.ref x]/\Rep H (ou b) (.ref a)/\H x=some (.lst (ps.map V.int))/\(∀p∈ps,Pr.In b p)/\(∀q∈b,vb b.length q)/\kQ b 1 ps<=4096/\Q (.int (kQ b 1 ps)) H
noncomputable def uO:Sp:=λvs H Q _=>∃(v:V) (q:Pl) (k:Option Int),vs=[v,fC k]/\Rep H (jf q) v/\HW q k/\∀l H',az H H'->Rep H' (qL (vc q k)) (.ref l)->Q (.ref l) H'
noncomputable def JA:Sp:=λvs H Q _=>∃(a c:Addr) (b:List Pl) (ks:List (Option Int)),vs=[.ref a,.ref c]/\Rep H (ou b) (.ref a)/\b.length<=60/\H c=some (.lst (ks.map fC))/\d8 b ks/\
 ∀l xs H',az H H'->H l=none->H' l=some (.lst xs)->bu (cI H' l) ((cE b ks).map qL) xs->Q (.ref l) H'
noncomputable def BH (C:Addr):Sp:=λvs H Q _=>∃(a:Addr) (b:List Pl) (rk:Int->Nat),vs=[.ref a]/\Rep H (ou b) (.ref a)/\j9 b rk/\∀x H',az H H'->nk C H' x (gT b,gB b)->Q (.ref x) H'
noncomputable def EN (C:Addr):Sp:=λvs H Q _=>∃(bk gn pt wl:Addr) (S:Dg.Bk) (gt:List Int) (G:Int) (ps:List Int) (n M:Nat) (xs:List V) (gf:List Dg.Wy) (lv:Int->Nat),vs=[.ref bk,.ref gn,.ref pt,.ref wl]/\nk C H bk S/\nk C H gn (gt,G)/\H pt=some (.lst (ps.map V.int))/\H wl=some (.lst xs)/\bu H (gf.map qL) xs/\
 gf.length=n/\n<=16/\ps.Nodup/\0<ps.length/\ps.length<=16/\(∀p∈ps,0<=p/\p< (n:Int))/\(∀ws∈gf,Dg.xP n ws)/\(∀p∈ps,cC gf p=[]\/∃x∈cC gf p,lv x.2<lv p)/\
 Dg.Sz n M S/\M+92*ps.length<3900/\gt.length=n/\0<G/\Bt 400 G/\G∣S.2/\(∀q,(gt.getD q 0).natAbs<=2^40*G.toNat)/\(∀p∈ps,S.1.getD p.toNat 0=0)/\
 ∀x T H',az H H'->nk C H' x T->Dg.DQ ps (cC gf) gt G S T->Dg.Sz n (M+92*ps.length) T->Q (.ref x) H'
noncomputable def GF (K:PySem.W.Frag):Sp:=λvs H Q _=>∃a ns k,vs=[.ref a,.int k]/\bo K H a (List.map V.int ns)/\0<=k/\k<1000/\∀n,Q (.int n) H
noncomputable def gQ:Sp:=λvs H Q _=>∃c m,vs=[.int c,.int m]/\0<m/\∀r,0<=r->r<m->Q (.int r) H
noncomputable def il:Sp:=λvs H Q _=>∃a b,vs=[.int a,.int b]/\0<b/\Bt 8900 b/\∀p H',az H H'->H p=none->H' p=some (.tup (Pr (Nm.st a b) (Nm.sb a b)))->Q (.ref p) H'
noncomputable def Rm (a:Wq.Sh):Prop:=Bt 4000 a.1/\Bt 4000 a.2/\0<a.2
noncomputable def BI:Sp:=λvs H Q _=>∃p q a b,vs=[.ref p,.ref q]/\H p=some (.tup (Pr a.1 a.2))/\H q=some (.tup (Pr b.1 b.2))/\Rm a/\Rm b/\
 ∀r H',az H H'->H r=none->H' r=some (.tup (Pr (Wq.pl a b).1 (Wq.pl a b).2))->Q (.ref r) H'
noncomputable def BJ:Sp:=λvs H Q _=>∃p q a b,vs=[.ref p,.ref q]/\H p=some (.tup (Pr a.1 a.2))/\H q=some (.tup (Pr b.1 b.2))/\Rm a/\Rm b/\
 ∀r H',az H H'->H r=none->H' r=some (.tup (Pr (Wq.tm a b).1 (Wq.tm a b).2))->Q (.ref r) H'
noncomputable def BK:Sp:=λvs H Q _=>∃c n,vs=[.int c,.int n]/\0<n/\n<=60/\∀l H' s,az H H'->H l=none->H' l=some (.lst (List.map fg s))->s.Perm (List.range n.toNat)->Q (.ref l) H'
noncomputable def GG:Sp:=λvs H Q _=>∃p x y,vs=[.ref p]/\H p=some (.tup (Pr x y))/\0<y/\Bt 5000 y/\Nm.g x y=1/\∀H',az H H'->Q (.bl true) H'
noncomputable def BL:Sp:=λvs H Q _=>∃(a:Addr) (ws:List (Int×Int)),vs=[.ref a,.int (ws.length:Nat)]/\Rep H (.lst (ws.map bC)) (.ref a)/\ws.length<=60/\(∀p∈ws,0<p.2/\Bt 5000 p.2/\Nm.g p.1 p.2=1)/\∀H',az H H'->Q (.bl true) H'
noncomputable def JB (H:Hp) (W:Int) (p:Int×Int) (x:V):Prop:=∃t r,x=.ref t/\H t=some (.tup [.ref r,.int p.2])/\H r=some (.tup (Pr (Wq.low p.1 W).1 (Wq.low p.1 W).2))
theorem JB.mono {H H':Hp} {W:Int} {p:Int×Int} {x:V} (h:JB H W p x) (s:az H H'):JB H' W p x:=by
 obtain⟨t,r,e,h1,h2⟩:=h
 exact⟨t,r,e,s _ _ h1,s _ _ h2⟩
noncomputable def zi (Z M:Int) (x:Wq.Sh):Prop:=Wq.Lw x/\x.2∣Z/\Wq.Vb M x
noncomputable def BM (s:List Nat) (k:Nat) (q:Pl):Prop:=vb s.length q/\match q with
 | .fin _=>True
 | .dA _ ws=>∃x∈ws,∃j,j<k/\s[j]?=some x.2.toNat
 | .cD _ to=>∀g∈to,∃j,j<k/\s[j]?=some g.toNat
noncomputable def WT (H:Hp) (n:Int) (x:V):Prop:=∃q w t,x=.ref q/\H q=some (.tup [.int w,.int t])/\(1<=w/\w<=200000)/\0<=t/\t<n
theorem WT.mono {H H':Hp} {n:Int} {x:V} (s:az H H') (h:WT H n x):WT H' n x:=by
 obtain⟨q,w,t,e,hq,r⟩:=h
 exact⟨q,w,t,e,s _ _ hq,r⟩
theorem WT.put {H:Hp} {n:Int} {x:V} {p:Addr} {xs:List V} {o:HO} (hp:H p=some (.lst xs)) (h:WT H n x):WT (upd H p o) n x:=by
 obtain⟨q,w,t,e,hq,r⟩:=h
 refine⟨q,w,t,e,?_,r⟩
 rw[aJ (λz=>by rw[z,hp] at hq;cases hq)]
 exact hq
theorem DU {α:Type} {H:Hp} {f:α->Dat} {P:Nat->α->Prop}:∀{xs:List V},(∀(i:Nat) x,xs[i]?=some x->∃a,Rep H (f a) x/\P i a)->∃as:List α,bu H (as.map f) xs/\as.length=xs.length/\∀(i:Nat) a,as[i]?=some a->P i a:=by
 intro xs h
 have hc:∀i:Nat,∃a:Option α,∀x,xs[i]?=some x->∃a',a=some a'/\Rep H (f a') x/\P i a':=λi=>by
  cases e:xs[i]? with
  | none=>exact⟨none,λx z=>by cases z⟩
  | some x=>
   obtain⟨a,h1,h2⟩:=h i x e
   exact⟨some a,λy z=>by cases z;exact⟨a,rfl,h1,h2⟩⟩
 have ⟨g,hg⟩:=Classical.axiomOfChoice hc
 have key:∀n,n<=xs.length->∃as:List α,as.length=n/\∀(i:Nat) a,as[i]?=some a->g i=some a:=by
  intro n
  induction n with
  | zero=>exact λ_=>⟨[],rfl,λi a e=>by simp at e⟩
  | succ n ih=>
   intro hn
   obtain⟨as,l,o⟩:=ih (by omega)
   obtain⟨a,ea,_⟩:=hg n _ (aad (show n<xs.length by omega))
   refine⟨as++ [a],by simp [l],λi b e=>?_⟩
   by_cases c:i<as.length
   ·rw[aa1 c] at e
    exact o i b e
   ·rw[aa0 (by omega)] at e
    have:i - as.length<1:=(List.getElem?_eq_some_iff.mp e).1
    rw[show i - as.length=0 by omega] at e
    cases e
    rw[show i=n by omega]
    exact ea
 obtain⟨as,l,o⟩:=key xs.length (aah _)
 refine⟨as,dD l.symm λi y ey a ea=>?_,l,λi a ea=>?_⟩
 ·obtain⟨a',e1,r,_⟩:=hg i y ey
  rw[o i a ea] at e1
  cases e1
  exact r
 ·have hi:=(List.getElem?_eq_some_iff.mp ea).1
  obtain⟨a',e1,_,p⟩:=hg i _ (aad (show i<xs.length by omega))
  rw[o i a ea] at e1
  cases e1
  exact p
noncomputable def BN:Sp:=λvs H Q _=>∃c k,vs=[.int c,.int k]/\0<=k/\k<1000/\∀p H' a,az H H'->H p=none->H' p=some (.tup (Pr a.1 a.2))->GS a->Q (.ref p) H'
noncomputable def BO:Sp:=λvs H Q _=>∃c k n,vs=[.int c,.int k,.int n]/\0<k/\k<n/\∀l H' xs,az H H'->H' l=some (.lst xs)->(∀x∈xs,WT H' n x)->(∃x∈xs,WT H' k x)->0<xs.length->xs.length<=5->Q (.ref l) H'
noncomputable def EO (K:PySem.W.Frag):Sp:=λvs H Q _=>∃(a:Addr) (ns:List Int) (n:Nat),vs=[.ref a,.int 2,.int (n:Int)]/\bo K H a (List.map V.int ns)/\0<n/\n<=8/\∀l H' (b:List Pl) rk,az H H'->H l=none->Rep H' (ou b) (.ref l)->b.length=n->j9 b rk->Q (.ref l) H'
noncomputable def bY (S:Dg.Bk):List Wq.Sh:=S.1.map λt=>Wq.low t S.2
noncomputable def x8 (K:PySem.W.Frag) (tp:Addr):Sp:=λvs H Q _=>∃(a:Addr) (ns:List Int),vs=[.ref a]/\H tp=some (.tu dsc)/\bo K H a (ns.map V.int)/\ns.length<=63/\∀H',Q (.bl true) H'
theorem JC {s:List Nat} {b:List Pl} (pm:s.Perm (List.range s.length)) (l0:0<s.length) (l8:s.length<=8) (lb:b.length=s.length) (ok:∀(k:Nat) p q,s[k]?=some p->b[p]?=some q->BM s k q):j9 b (λg=>s.idxOf g.toNat):=by
 have at_:∀{p:Nat},p<b.length->∃k,s[k]?=some p:=λhp=>aax (pm.mem_iff.mpr (List.mem_range.mpr (by omega)))
 have DV:∀q∈b,vb b.length q:=λq hq=>by
  obtain⟨p,ep⟩:=aax hq
  obtain⟨k,ek⟩:=at_ (List.getElem?_eq_some_iff.mp ep).1
  rw[lb]
  exact(ok k p q ek ep).1
 have gP:DR b (λg=>s.idxOf g.toNat):=by
  refine⟨⟨λq hq g hg=>?_,λq hq w to e=>?_⟩,λi g ws e=>?_,λi w to e g hg=>?_⟩
  ·have:=DV q hq
   cases q with
   | fin w=>simp [Lv.gc] at hg
   | dA w ws=>
    obtain⟨x,hx,rfl⟩:=List.mem_map.mp hg
    exact(this.2.2.2 x hx).2.2
   | cD w to=>exact this.2.2.2 g hg
  ·subst e
   have:=(DV _ hq).2.1
   exact λz=>by rw[z] at this;cases this
  ·obtain⟨k,ek⟩:=at_ (List.getElem?_eq_some_iff.mp e).1
   obtain⟨x,hx,j,jk,ej⟩:=(ok k i _ ek e).2
   refine⟨x,hx,?_⟩
   show s.idxOf x.2.toNat<s.idxOf ((i:Int)).toNat
   rw[aak,Lv.rL pm ej,Lv.rL pm ek]
   exact jk
  ·obtain⟨k,ek⟩:=at_ (List.getElem?_eq_some_iff.mp e).1
   obtain⟨j,jk,ej⟩:=(ok k i _ ek e).2 g hg
   show s.idxOf g.toNat<s.idxOf ((i:Int)).toNat
   rw[aak,Lv.rL pm ej,Lv.rL pm ek]
   exact jk
 exact⟨by omega,by omega,DV,gP,λp hp=>BE gP DV (by omega) hp⟩
theorem JD {L W M w:Int} {y:Wq.Sh} (hy:0<y.2) (L0:0<L) (W0:0<W) (dy:y.2∣L) (w0:0<=w) (w1:w<=W) (M0:0<=M) (v:Wq.Vb M y):Wq.Vb M (Wq.tm (Wq.low w W) y):=by
 obtain⟨t1,t2,t3⟩:=Wq.AV (w:=w) hy L0 W0 dy
 refine(Wq.qE t1.1 (aaE L0 W0) t2).mpr ?_
 obtain⟨c1,c2⟩:=(Wq.qE hy L0 dy).mp v
 have ml:0<=M*L:=Int.mul_nonneg M0 (by omega)
 have m1:=Int.mul_le_mul_of_nonneg_left c1 w0
 have m2:=Int.mul_le_mul_of_nonneg_left c2 w0
 have m3:=Int.mul_le_mul_of_nonneg_right w1 ml
 rw[Int.mul_neg] at m1
 have e:M* (L*W)=W* (M*L):=by rw[<-aaD,aaA (M*L) W]
 rw[t3,e]
 omega
theorem zi.rm {Z M:Int} {x:Wq.Sh} (h:zi Z M x) (Z0:0<Z) (bZ:Bt 1950 Z) (M0:0<=M) (bM:Bt 1950 M):Rm x:=by
 obtain⟨lx,d,v⟩:=h
 have l0:=lx.1
 have b2:Bt 1950 x.2:=bZ.le (by have:=abe Z0 d;omega)
 have b1:Bt 3900 (M*x.2):=bM.mul b2
 exact⟨Bt.mono (b1.le (by obtain⟨v1,v2⟩:=v;omega)) (by decide),b2.mono (by decide),l0⟩
theorem zi.acc {Z M N d w:Int} {x y:Wq.Sh} (hx:zi (Z*d) N x) (hy:zi Z M y) (Z0:0<Z) (d0:0<d) (w0:0<=w) (w1:w<=d) (M0:0<=M):zi (Z*d) M (Wq.tm (Wq.low w d) y)/\zi (Z*d) (N+M) (Wq.pl x (Wq.tm (Wq.low w d) y)):=by
 have Zd:0<Z*d:=aaE Z0 d0
 obtain⟨t1,t2,t3⟩:=Wq.AV (w:=w) hy.1.1 Z0 d0 hy.2.1
 have tv:=JD hy.1.1 Z0 d0 hy.2.1 w0 w1 M0 hy.2.2
 obtain⟨p1,p2,p3⟩:=Wq.EG hx.1.1 t1.1 Zd hx.2.1 t2
 refine⟨⟨t1,t2,tv⟩,p1,p2,(Wq.qE p1.1 Zd p2).mpr ?_⟩
 have a1:=(Wq.qE hx.1.1 Zd hx.2.1).mp hx.2.2
 have a2:=(Wq.qE t1.1 Zd t2).mp tv
 rw[p3,Int.add_mul]
 omega
theorem GH {w d:Int} (w0:0<=w) (w1:w<=1000000) (d0:0<d) (d1:d<=1000000):Rm (Wq.low w d):=by
 have g0:0<Nm.g w d:=Nm.lA (by omega)
 have q1:=Nm.dU (a:=w) g0 (Nm.jF w d)
 have q2:=Nm.dU (a:=d) g0 (Nm.fj w d)
 have e1:(Wq.low w d).1=w / Nm.g w d:=(Nm.og d0).1
 have e2:(Wq.low w d).2=d / Nm.g w d:=(Nm.og d0).2
 have lw:=Wq.fA (a:=w) d0
 exact⟨Bt.mono (m:=20) (Bt.of 1000000 (by omega) (by omega)) (by decide),Bt.mono (m:=20) (Bt.of 1000000 (by omega) (by omega)) (by decide),lw.1⟩
theorem GI {ss:List Wq.Sh} {q:Int} (h0:0<=q) (h:q< (ss.length:Int)):ss[q.toNat]?=some (Wq.b8 ss q):=by
 unfold Wq.b8
 rw[aae,aad (show q.toNat<ss.length by omega)]
 rfl
theorem DW {ss:List Wq.Sh} (h:∀x∈ss,0<x.2) (q:Int):0< (Wq.b8 ss q).2:=by
 unfold Wq.b8
 rw[aae]
 cases e:ss[q.toNat]? with
 | none=>exact Int.one_pos
 | some x=>exact h x (aag e)
theorem JE {ws:Dg.Wy} (h:∀y∈ws,1<=y.1) {x:Int×Int} (hx:x∈ws):x.1<=Dg.tt ws:=by
 have go:∀{ws:Dg.Wy},(∀y∈ws,1<=y.1)->0<=Wq.cm ws/\∀{x:Int×Int},x∈ws->x.1<=Wq.cm ws:=by
  intro ws
  induction ws with
  | nil=>exact λ_=>⟨Int.le_refl _,λhx=>by simp at hx⟩
  | cons y ws ih=>
   intro h
   obtain⟨i1,i2⟩:=ih λz hz=>h z (aaj _ hz)
   have h1:=h y aai
   rw[Dg.c8]
   refine⟨by omega,λhx=>?_⟩
   rcases List.mem_cons.mp hx with rfl | hx
   ·omega
   ·have:=i2 hx
    omega
 unfold Dg.tt
 rw[if_neg (List.ne_nil_of_mem hx)]
 exact(go h).2 hx
theorem JF {g:Int×Int} (gw:GS g):Wq.Vb (2^40) g:=by
 have h1:=gw.1
 have h2:=gw.2.2.1
 unfold Bt at h1
 have:(2:Int)^40*1<=2^40*g.2:=Int.mul_le_mul_of_nonneg_left (by omega) (by decide)
 unfold Wq.Vb
 omega
theorem iL {H H':Hp} {ws:List Wq.Sh} {l:Addr} (h:Rep H (.lst (ws.map bC)) (.ref l)) (kl:∀xs,H l=some (.lst xs)->H' l=some (.lst xs)) (kt:∀x vs,H x=some (.tup vs)->H' x=some (.tup vs)):Rep H' (.lst (ws.map bC)) (.ref l):=by
 obtain⟨_,xs,e,hl,rl⟩:=aT.mp h
 cases e
 have lx:=rl.length
 rw[aac] at lx
 refine aT.mpr ⟨l,xs,rfl,kl _ hl,dD lx.symm λi y ey a ea=>?_⟩
 obtain⟨d,ed,rd⟩:=rl.get ey
 rw[aaf,ea] at ed
 cases ed
 obtain⟨p,rfl,hp⟩:=cn.mp rd
 exact cn.mpr ⟨p,rfl,kt _ _ hp⟩
theorem qO {α:Type} [DecidableEq α]:∀{l m:List α},l.Nodup->(∀x∈l,x∈m)->l.length<=m.length
 | [],_,_,_=>aas _
 | x::l,m,nd,h=>by
  have hx:=h x aai
  have ih:=qO (l:=l) (m:=m.erase x) (List.nodup_cons.mp nd).2 λy hy=>by
   have ne:y≠x:=λz=>(List.nodup_cons.mp nd).1 (z▸hy)
   exact(List.mem_erase_of_ne ne).mpr (h y (aaj _ hy))
  rw[List.length_erase_of_mem hx] at ih
  have:0<m.length:=List.length_pos_of_mem hx
  rw[aaq]
  omega
noncomputable def L6:Pl->Int->Bool
 | .cD w _,br=>decide (w=br)
 | _,_=>false
noncomputable def NL:Pl->List (Option Int)
 | .cD _ to=>(List.range to.length).map fun(i:Nat)=>some (i:Int)
 | _=>[some 0]
noncomputable def y4:List Pl->List (List (Option Int))
 | []=>[[]]
 | q::b=>((NL q).map λk=>(y4 b).map λt=>k::t).flatten
structure wz (b:List Pl) (ks:List (Option Int)):Prop where
 pk:d8 b ks
 b9:∀(i:Nat) q k,b[i]?=some q->ks[i]?=some k->(∀w to,q≠.cD w to)->k=some 0
theorem wz.mem:∀{b:List Pl} {ks:List (Option Int)},wz b ks->ks∈y4 b
 | [],ks,h=>by
  have:=h.pk.len
  cases ks with
  | nil=>exact List.mem_singleton.mpr rfl
  | cons k ks=>simp at this
 | q::b,[],h=>by have:=h.pk.len;simp at this
 | q::b,k::ks,h=>by
  have ih:=wz.mem (b:=b) (ks:=ks) ⟨⟨by have:=h.pk.len;simpa using this,λi q k e1 e2=>h.pk.ok (i+1) q k e1 e2⟩,λi q k e1 e2=>h.b9 (i+1) q k e1 e2⟩
  have po:=h.pk.ok 0 q k rfl rfl
  refine List.mem_flatten.mpr ⟨_,List.mem_map.mpr ⟨k,?_,rfl⟩,List.mem_map.mpr ⟨ks,ih,rfl⟩⟩
  cases q with
  | fin g=>exact List.mem_singleton.mpr (h.b9 0 _ _ rfl rfl (by intro w to z;cases z))
  | dA g ws=>exact List.mem_singleton.mpr (h.b9 0 _ _ rfl rfl (by intro w to z;cases z))
  | cD w to=>
   cases k with
   | none=>exact po.elim
   | some k=>
    obtain⟨k0,k1⟩:=po
    exact List.mem_map.mpr ⟨k.toNat,List.mem_range.mpr (by omega),by rw[abj k0]⟩
section PO
variable {b : List Pl} {rk : Int -> Nat} (B : j9 b rk) {ps : List Int} {g u : Int -> Rat}
structure tF (b:List Pl) (ps:List Int) (g u:Int->Rat) (ks:List (Option Int)) (v:Int->Rat):Prop where
 eq:∀p∈ps,v p=g p+Dg.de (Dg.tt (cC (cE b ks) p)) v (cC (cE b ks) p)
 out:∀q,0<=q->q∉ps->v q=u q
noncomputable def kR (b:List Pl) (g:Int->Rat) (ks:List (Option Int)) (v:Int->Rat) (p:Int):Rat:=g p+Dg.de (Dg.tt (cC (cE b ks) p)) v (cC (cE b ks) p)
include B
theorem GJ {ks dG:List (Option Int)} {v v':Int->Rat} (fG:∀p∈ps,Pr.In b p) (GK:d8 b dG) (h:tF b ps g u ks v) (h':tF b ps g u dG v') (le:∀p∈ps,v p<=kR b g dG v p):∀p∈ps,v p<=v' p:=by
 intro p hp
 have:=Dg.sub_zero (ps:=ps) (W:=cC (cE b dG)) (lv:=rk) (v:=λi=>v i - v' i) (λp hp=>by
  rw[Dg.jT,h'.eq p hp]
  have:=le p hp
  unfold kR at this
  grind) (λp hp x hx=>((B.wk GK (fG p hp)).1.2 x hx).1) (λp hp x hx nx=>by
  have x0:=((B.wk GK (fG p hp)).1.2 x hx).2.2.1
  rw[h.out _ x0 nx,h'.out _ x0 nx]
  grind) (λp hp=>B.dn GK (fG p hp)) p hp
 have:v p - v' p<=0:=this
 grind
theorem GL {ks dG:List (Option Int)} {v v':Int->Rat} (fG:∀p∈ps,Pr.In b p) (GK:d8 b dG) (h:tF b ps g u ks v) (h':tF b ps g u dG v') (ge:∀p∈ps,kR b g dG v p<=v p):∀p∈ps,v' p<=v p:=by
 intro p hp
 have:=Dg.sub_zero (ps:=ps) (W:=cC (cE b dG)) (lv:=rk) (v:=λi=>v' i - v i) (λp hp=>by
  rw[Dg.jT,h'.eq p hp]
  have:=ge p hp
  unfold kR at this
  grind) (λp hp x hx=>((B.wk GK (fG p hp)).1.2 x hx).1) (λp hp x hx nx=>by
  have x0:=((B.wk GK (fG p hp)).1.2 x hx).2.2.1
  rw[h.out _ x0 nx,h'.out _ x0 nx]
  grind) (λp hp=>B.dn GK (fG p hp)) p hp
 have:v' p - v p<=0:=this
 grind
omit B in
theorem qP {d:Int} (d0:0<d) {v v':Int->Rat}:∀{ws:Dg.Wy},(∀x∈ws,1<=x.1/\v x.2<=v' x.2)->Dg.de d v ws<=Dg.de d v' ws
 | [],_=>Rat.le_refl
 | x::ws,h=>by
  have ih:=qP d0 (v:=v) (v':=v') (ws:=ws) λy hy=>h y (aaj _ hy)
  obtain⟨x1,x2⟩:=h x aai
  have c:(0:Rat)< (x.1:Rat) / (d:Rat):=by
   rw[Rat.div_def]
   exact Rat.mul_pos (Rat.intCast_pos.mpr (by omega)) (Rat.inv_pos.mpr (Rat.intCast_pos.mpr d0))
  have m:=Rat.mul_le_mul_of_nonneg_left x2 (Rat.le_of_lt c)
  show(x.1:Rat) / (d:Rat)*v x.2+Dg.de d v ws<=(x.1:Rat) / (d:Rat)*v' x.2+Dg.de d v' ws
  generalize (x.1:Rat) / (d:Rat)*v x.2=a at *
  generalize (x.1:Rat) / (d:Rat)*v' x.2=a' at *
  grind
theorem uP {ks:List (Option Int)} {v v':Int->Rat} {k1 k2:List (Option Int)} (fG:∀p∈ps,Pr.In b p) (ko:d8 b ks) (h:tF b ps g u k1 v) (h':tF b ps g u k2 v') (le:∀p∈ps,v p<=v' p) {p:Int} (hp:p∈ps):kR b g ks v p<=kR b g ks v' p:=by
 unfold kR
 have w:=(B.wk ko (fG p hp)).1
 have:=qP (d:=Dg.tt (cC (cE b ks) p)) (by have:=w.tt;omega) (v:=v) (v':=v') (ws:=cC (cE b ks) p) λx hx=>⟨(w.2 x hx).1,by
  by_cases c:x.2∈ps
  ·exact le _ c
  ·rw[h.out _ (w.2 x hx).2.2.1 c,h'.out _ (w.2 x hx).2.2.1 c]
   exact Rat.le_refl⟩
 grind
noncomputable def eB (b:List Pl) (ps:List Int) (br:Int) (k1 k2:List (Option Int)):Prop:=∀p:Nat,(p:Int)∈ps->∀q,b[p]?=some q->L6 q br=true->k1[p]?=k2[p]?
omit B in
theorem eB.symm {br:Int} {k1 k2:List (Option Int)} (h:eB b ps br k1 k2):eB b ps br k2 k1:=λp hp q e i=>(h p hp q e i).symm
omit B in
theorem eB.trans {br:Int} {k1 k2 k3:List (Option Int)} (h:eB b ps br k1 k2) (h':eB b ps br k2 k3):eB b ps br k1 k3:=λp hp q e i=>(h p hp q e i).trans (h' p hp q e i)
structure uQ (b:List Pl) (ps:List Int) (g u:Int->Rat) (ks:List (Option Int)) (dP:List (List (Option Int))) (fl:Option (Int->Rat)):Prop where
 ok:wz b ks
 nd:dP.Nodup
 new:ks∉dP
 all:∀h∈dP,wz b h
 floor:∀μ,fl=some μ->∀k v,d8 b k->tF b ps g u k v->eB b ps 1 k ks->(∀p∈ps,μ p<=v p)/\∃p∈ps,μ p<v p
 past:∀h∈dP,(∃μ,fl=some μ/\∃k v,d8 b k/\tF b ps g u k v/\eB b ps 1 k h/\∀p∈ps,v p<=μ p)\/(eB b ps 1 h ks/\∃w,tF b ps g u h w/\∀v,tF b ps g u ks v->(∀p∈ps,v p<=w p)/\∃p∈ps,v p<w p)
omit B in
theorem uQ.start {ks:List (Option Int)} (h:wz b ks):uQ b ps g u ks [] none:=
 ⟨h,List.nodup_nil,by simp,by simp,(λμ z=>by cases z),by simp⟩
omit B in
theorem uQ.left {ks:List (Option Int)} {dP:List (List (Option Int))} {fl:Option (Int->Rat)} (h:uQ b ps g u ks dP fl):dP.length< (y4 b).length:=by
 have:=qO (l:=ks::dP) (m:=y4 b) (List.nodup_cons.mpr ⟨h.new,h.nd⟩) λx hx=>by
  rcases List.mem_cons.mp hx with rfl | hx
  ·exact h.ok.mem
  ·exact(h.all x hx).mem
 rw[aaq] at this
 omega
theorem uQ.second {ks dG:List (Option Int)} {dP:List (List (Option Int))} {fl:Option (Int->Rat)} {v:Int->Rat} (fG:∀p∈ps,Pr.In b p) (h:uQ b ps g u ks dP fl) (hv:tF b ps g u ks v) (JG:wz b dG) (same:eB b ps 1 dG ks) (ge:∀p∈ps,kR b g dG v p<=v p) (st:∃p∈ps,kR b g dG v p<v p):uQ b ps g u dG (ks::dP) fl:=by
 have low:∀v',tF b ps g u dG v'->(∀p∈ps,v' p<=v p)/\∃p∈ps,v' p<v p:=λv' Fo=>by
  have le:=GL B fG JG.pk hv Fo ge
  obtain⟨p,hp,lt⟩:=st
  refine⟨le,p,hp,?_⟩
  have m:=uP B fG JG.pk Fo hv le hp
  have e:=Fo.eq p hp
  unfold kR at m lt
  grind
 have ne:dG≠ks:=λz=>by
  obtain⟨p,hp,lt⟩:=st
  have e:=hv.eq p hp
  unfold kR at lt
  rw[z] at lt
  grind
 refine⟨JG,List.nodup_cons.mpr ⟨h.new,h.nd⟩,λz=>?_,λx hx=>?_,λμ e k w hk hw sm=>h.floor μ e k w hk hw (sm.trans same),λx hx=>?_⟩
 ·rcases List.mem_cons.mp z with z | z
  ·exact ne z
  ·rcases h.past dG z with ⟨μ,e,k,w,hk,hw,sm,le⟩ | ⟨sm,w,hw,al⟩
   ·obtain⟨_,p,hp,lt⟩:=h.floor μ e k w hk hw (sm.trans same)
    have:=le p hp
    grind
   ·obtain⟨_,p,hp,lt⟩:=al v hv
    have:=(low w hw).1 p hp
    grind
 ·rcases List.mem_cons.mp hx with rfl | hx
  ·exact h.ok
  ·exact h.all x hx
 ·rcases List.mem_cons.mp hx with rfl | hx
  ·exact .inr ⟨same.symm,v,hv,low⟩
  ·rcases h.past x hx with p1 | ⟨sm,w,hw,al⟩
   ·exact .inl p1
   ·refine .inr ⟨sm.trans same.symm,w,hw,λv' Fo=>?_⟩
    obtain⟨a1,p,hp,a2⟩:=al v hv
    have l:=(low v' Fo).1
    exact⟨λq hq=>Rat.le_trans (l q hq) (a1 q hq),p,hp,by have:=l p hp;grind⟩
theorem uQ.first {ks dG:List (Option Int)} {dP:List (List (Option Int))} {fl:Option (Int->Rat)} {v:Int->Rat} (fG:∀p∈ps,Pr.In b p) (h:uQ b ps g u ks dP fl) (hv:tF b ps g u ks v) (JG:wz b dG)
  (le:∀k,d8 b k->eB b ps 1 k dG->∀p∈ps,v p<=kR b g k v p) (st:∃p∈ps,∀k,d8 b k->eB b ps 1 k dG->v p<kR b g k v p):uQ b ps g u dG (ks::dP) (some v):=by
 have HY:∀k w,d8 b k->tF b ps g u k w->eB b ps 1 k dG->(∀p∈ps,v p<=w p)/\∃p∈ps,v p<w p:=λk w hk hw sm=>by
  have l:=GJ B fG hk hv hw (le k hk sm)
  obtain⟨p,hp,lt⟩:=st
  refine⟨l,p,hp,?_⟩
  have m:=uP B fG hk hv hw l hp
  have e:=hw.eq p hp
  have t:=lt k hk sm
  unfold kR at m t
  grind
 have old:∀x∈ks::dP,∃k w,d8 b k/\tF b ps g u k w/\eB b ps 1 k x/\∀p∈ps,w p<=v p:=λx hx=>by
  rcases List.mem_cons.mp hx with rfl | hx
  ·exact⟨x,v,h.ok.pk,hv,λ_ _ _ _ _=>rfl,λp _=>Rat.le_refl⟩
  ·rcases h.past x hx with ⟨μ,e,k,w,hk,hw,sm,le⟩ | ⟨sm,w,hw,al⟩
   ·obtain⟨m,_⟩:=h.floor μ e ks v h.ok.pk hv (λ_ _ _ _ _=>rfl)
    exact⟨k,w,hk,hw,sm,λp hp=>Rat.le_trans (le p hp) (m p hp)⟩
   ·exact⟨ks,v,h.ok.pk,hv,sm.symm,λp _=>Rat.le_refl⟩
 refine⟨JG,List.nodup_cons.mpr ⟨h.new,h.nd⟩,λz=>?_,λx hx=>?_,λμ e k w hk hw sm=>?_,λx hx=>?_⟩
 ·obtain⟨k,w,hk,hw,sm,l⟩:=old dG z
  obtain⟨_,p,hp,lt⟩:=HY k w hk hw sm
  have:=l p hp
  grind
 ·rcases List.mem_cons.mp hx with rfl | hx
  ·exact h.ok
  ·exact h.all x hx
 ·cases e
  exact HY k w hk hw sm
 ·obtain⟨k,w,hk,hw,sm,l⟩:=old x hx
  exact .inl ⟨v,rfl,k,w,hk,hw,sm,l⟩
end PO
noncomputable def sgn (br:Int):Int:=if br=1 then 1 else -1
theorem GN (br:Int):sgn br=1\/sgn br= -1:=by
 unfold sgn
 split
 ·exact .inl rfl
 ·exact .inr rfl
noncomputable def BP (br:Int) (to ts:List Int) (w:Nat):Prop:=∀t∈to,sgn br*ts.getD t.toNat 0<=sgn br*ts.getD (to.getD w 0).toNat 0
noncomputable def pH (br:Int):Rat:=if br=1 then 1 else -1
noncomputable def pW (b:List Pl) (p:Nat) (v:Int->Rat):Prop:=∀q,b[p]?=some q->match q with
 | .fin g=>v (p:Int)=Dg.vl g
 | .dA g ws=>v (p:Int)=Dg.vl g+Dg.de (Dg.tt ws) v ws
 | .cD br to=>(∃t∈to,v (p:Int)=v t)/\∀t∈to,pH br*v t<=pH br*v (p:Int)
theorem wA {S:Dg.Bk} (h:0<S.2) {a b:Int}:S.1.getD a.toNat 0<S.1.getD b.toNat 0↔Dg.val S a<Dg.val S b:=by
 have h1:(0:Rat)< (S.2:Rat):=Rat.intCast_pos.mpr h
 have h2:(0:Rat)< (S.2:Rat)⁻¹:=Rat.inv_pos.mpr h1
 unfold Dg.val
 rw[<-Rat.intCast_lt_intCast,Rat.div_def,Rat.div_def]
 constructor
 ·exact λk=>Rat.mul_lt_mul_of_pos_right k h2
 ·exact λk=>Rat.lt_of_mul_lt_mul_right k (Rat.le_of_lt h2)
theorem wB {S:Dg.Bk} (h:0<S.2) {a b:Int}:S.1.getD a.toNat 0<=S.1.getD b.toNat 0↔Dg.val S a<=Dg.val S b:=by
 have:=wA h (a:=b) (b:=a)
 constructor
 ·intro k
  rcases Rat.le_total (a:=Dg.val S a) (b:=Dg.val S b) with c | c
  ·exact c
  ·by_cases e:Dg.val S a=Dg.val S b
   ·rw[e];exact Rat.le_refl
   ·have:=this.mpr (by grind)
    omega
 ·intro k
  by_cases c:S.1.getD b.toNat 0<S.1.getD a.toNat 0
  ·have:=this.mp c
   grind
  ·omega
noncomputable def y7 (b:List Pl) (ks:List (Option Int)) (p:Int):Int:=((cC (cE b ks) p).headD (1,0)).2
theorem o5 {b:List Pl} {ks:List (Option Int)} (ko:d8 b ks) {p:Nat} {br:Int} {to:List Int} (e:b[p]?=some (.cD br to)):∃k:Int,ks[p]?=some (some k)/\0<=k/\k< (to.length:Int)/\cC (cE b ks) (p:Int)=[(1,to.getD k.toNat 0)]/\y7 b ks (p:Int)=to.getD k.toNat 0/\to.getD k.toNat 0∈to:=by
 obtain⟨q,k,e1,e2,po,ew⟩:=ko.at (List.getElem?_eq_some_iff.mp e).1
 rw[e] at e1
 cases e1
 cases k with
 | none=>exact po.elim
 | some k=>
  obtain⟨k0,k1⟩:=po
  have hl:k.toNat<to.length:=by omega
  refine⟨k,e2,k0,k1,ew,by unfold y7;rw[ew];rfl,?_⟩
  rw[aae,aad hl]
  exact aan hl
structure iS (b:List Pl) (ks:List (Option Int)) (br:Int) (ts qs:List Int) (bs:List (Int×Int)):Prop where
 mem:∀x∈bs,x.1∈qs/\∃to,b[x.1.toNat]?=some (.cD br to)/\0<=x.2/\x.2< (to.length:Int)/\BP br to ts x.2.toNat/\ts.getD (to.getD x.2.toNat 0).toNat 0≠ts.getD (y7 b ks x.1).toNat 0
 b9:∀p∈qs,p∉bs.map (·.1)->∀to,b[p.toNat]?=some (.cD br to)->∀t∈to,sgn br*ts.getD t.toNat 0<=sgn br*ts.getD (y7 b ks p).toNat 0
 sub:(bs.map (·.1)).Sublist qs
theorem iS.start {b:List Pl} {ks:List (Option Int)} {br:Int} {ts:List Int}:iS b ks br ts [] []:=⟨by simp,by simp,List.Sublist.refl _⟩
noncomputable def eF (bs:List (Int×Int)) (ks:List (Option Int)):Nat->List (Option Int)
 | 0=>ks
 | j+1=>(eF bs ks j).set (bs.getD j (0,0)).1.toNat (some (bs.getD j (0,0)).2)
theorem jU (bs:List (Int×Int)) (ks:List (Option Int)):∀j,(eF bs ks j).length=ks.length
 | 0=>rfl
 | j+1=>by unfold eF;rw[aaK,jU bs ks j]
theorem ir {bs:List (Int×Int)} {ks:List (Option Int)} {p:Nat} (h0:∀x∈bs,0<=x.1) (h:(p:Int)∉bs.map (·.1)):∀j,j<=bs.length->(eF bs ks j)[p]?=ks[p]?
 | 0,_=>rfl
 | j+1,hj=>by
  have e:bs.getD j (0,0)=bs[j]:=by rw[aae,aad (by omega)];rfl
  have m:=aan (l:=bs) (n:=j) (by omega)
  have m0:=h0 _ m
  unfold eF
  rw[e,aaL (λz=>h (List.mem_map.mpr ⟨bs[j],m,by omega⟩)),ir h0 h j (by omega)]
theorem sO {bs:List (Int×Int)} {ks:List (Option Int)} (h0:∀x∈bs,0<=x.1/\x.1< (ks.length:Int)) (nd:(bs.map (·.1)).Nodup) {i:Nat}:∀j,j<=bs.length->i<j->∀x,bs[i]?=some x->(eF bs ks j)[x.1.toNat]?=some (some x.2)
 | 0,_,h,_,_=>absurd h (abc _)
 | j+1,hj,h,x,ex=>by
  have e:bs.getD j (0,0)=bs[j]:=by rw[aae,aad (by omega)];rfl
  have m:=h0 _ (aan (l:=bs) (n:=j) (by omega))
  have mx:=h0 _ (aag ex)
  unfold eF
  rw[e]
  by_cases c:i=j
  ·subst c
   rw[aad (show i<bs.length from hj)] at ex
   obtain rfl:=aaC ex
   rw[aaU (by rw[jU];omega)]
  ·rw[aaL ?_,sO h0 nd j (by omega) (by omega) x ex]
   intro z
   have li:i<bs.length:=by omega
   have lj:j<bs.length:=by omega
   rw[aad li] at ex
   obtain rfl:=aaC ex
   have l1:i< (bs.map (·.1)).length:=by rw[aac];exact li
   have l2:j< (bs.map (·.1)).length:=by rw[aac];exact lj
   have:(bs.map (·.1))[i]=(bs.map (·.1))[j]:=by rw[List.getElem_map,List.getElem_map];omega
   exact c ((abh nd).mp this)
section BS
variable {b : List Pl} {rk : Int -> Nat} (B : j9 b rk) {ps : List Int} {S T : Dg.Bk} {ks : List (Option Int)}
include B
theorem GO (ko:d8 b ks) (fG:∀p∈ps,Pr.In b p) (B0:0<S.2) (dv:gB b∣S.2) (st:Dg.DQ ps (cC (cE b ks)) (gT b) (gB b) S T):tF b ps (λp=>((gT b).getD p.toNat 0:Rat) / (gB b:Rat)) (Dg.val S) ks (Dg.val T):=
 ⟨λp hp=>st.eq B0 B.bot.1 dv hp (by have:=(B.wk ko (fG p hp)).1.tt;omega),λq q0 hq=>st.ne B0 q0 hq⟩
theorem iM {v:Int->Rat} {p:Nat} {br:Int} {to:List Int} (ko:d8 b ks) (e:b[p]?=some (.cD br to)):kR b (λp=>((gT b).getD p.toNat 0:Rat) / (gB b:Rat)) ks v (p:Int)=v (y7 b ks (p:Int)):=by
 obtain⟨k,_,_,_,ew,et,_⟩:=o5 ko e
 unfold kR
 dsimp only
 rw[ew,et,aak,B.gV e]
 show Dg.vl (0,1)+ (((1:Int):Rat) / ((1:Int):Rat)*v (to.getD k.toNat 0)+0)=v (to.getD k.toNat 0)
 have:Dg.vl (0,1)=0:=Dg.Wd
 rw[this,Dg.NG]
 grind
omit B in
theorem iu {v g:Int->Rat} {k1 k2:List (Option Int)} {p:Nat} (h1:d8 b k1) (h2:d8 b k2) (hp:p<b.length) (e:(∃br to,b[p]?=some (.cD br to))->k1[p]?=k2[p]?):kR b g k1 v (p:Int)=kR b g k2 v (p:Int):=by
 obtain⟨q,a1,e1,e2,_,ew⟩:=h1.at hp
 obtain⟨q',a2,AF,Nj,_,L7⟩:=h2.at hp
 rw[e1] at AF
 cases AF
 unfold kR
 have:vc q a1=vc q a2:=by
  cases q with
  | fin g=>rfl
  | dA g ws=>rfl
  | cD br to=>
   have:=e ⟨br,to,e1⟩
   rw[e2,Nj] at this
   cases this
   rfl
 rw[ew,L7,this]
omit B in
theorem sP {bs:List (Int×Int)} {br:Int} {ts qs:List Int} (K:wz b ks) (y8:∀p∈qs,Pr.In b p) (BQ:qs.Nodup) (W:iS b ks br ts qs bs):wz b (eF bs ks bs.length):=by
 have h0:∀x∈bs,0<=x.1/\x.1< (ks.length:Int):=λx hx=>by
  have:=y8 _ (W.mem x hx).1
  rw[K.pk.len]
  exact this
 have nd:(bs.map (·.1)).Nodup:=W.sub.nodup BQ
 have key:∀(i:Nat) q k,b[i]?=some q->(eF bs ks bs.length)[i]?=some k->HW q k/\((∀w to,q≠.cD w to)->k=some 0):=λi q k e1 e2=>by
  by_cases c:(i:Int)∈bs.map (·.1)
  ·obtain⟨x,hx,ex⟩:=List.mem_map.mp c
   obtain⟨j,ej⟩:=aax hx
   have hj:=(List.getElem?_eq_some_iff.mp ej).1
   have:=sO h0 nd bs.length (aah _) hj x ej
   rw[ex,aak,e2] at this
   cases this
   obtain⟨_,to,eb,x0,x1,_⟩:=W.mem x hx
   rw[ex,aak,e1] at eb
   cases eb
   exact⟨⟨x0,x1⟩,λh=>absurd rfl (h br to)⟩
  ·rw[ir (λx hx=>(h0 x hx).1) c _ (aah _)] at e2
   exact⟨K.pk.ok i q k e1 e2,K.b9 i q k e1 e2⟩
 exact⟨⟨by rw[jU];exact K.pk.len,λi q k e1 e2=>(key i q k e1 e2).1⟩,λi q k e1 e2=>(key i q k e1 e2).2⟩
omit B in
theorem sQ {bs:List (Int×Int)} {br:Int} {ts qs:List Int} (K:wz b ks) (y8:∀p∈qs,Pr.In b p) (BQ:qs.Nodup) (W:iS b ks br ts qs bs) {p:Nat} (hp:(p:Int)∈bs.map (·.1)):∃to,b[p]?=some (.cD br to)/\(∀t∈to,sgn br*ts.getD t.toNat 0<=sgn br*ts.getD (y7 b (eF bs ks bs.length) (p:Int)).toNat 0)/\ts.getD (y7 b (eF bs ks bs.length) (p:Int)).toNat 0≠ts.getD (y7 b ks (p:Int)).toNat 0:=by
 have h0:∀x∈bs,0<=x.1/\x.1< (ks.length:Int):=λx hx=>by
  have:=y8 _ (W.mem x hx).1
  rw[K.pk.len]
  exact this
 have nd:(bs.map (·.1)).Nodup:=W.sub.nodup BQ
 obtain⟨x,hx,ex⟩:=List.mem_map.mp hp
 obtain⟨j,ej⟩:=aax hx
 have e2:=sO h0 nd bs.length (aah _) (List.getElem?_eq_some_iff.mp ej).1 x ej
 obtain⟨_,to,eb,x0,x1,bw,ne⟩:=W.mem x hx
 rw[ex,aak] at eb e2
 rw[ex] at ne
 obtain⟨k,ek,_,_,_,et,_⟩:=o5 (sP K y8 BQ W).pk eb
 rw[e2] at ek
 cases ek
 rw[et]
 exact⟨to,eb,bw,ne⟩
theorem uR {dP:List (List (Option Int))} {fl:Option (Int->Rat)} {bs:List (Int×Int)} {qs:List Int} (fG:∀p∈ps,Pr.In b p) (T0:0<T.2) (h:uQ b ps (λp=>((gT b).getD p.toNat 0:Rat) / (gB b:Rat)) (Dg.val S) ks dP fl) (hv:tF b ps (λp=>((gT b).getD p.toNat 0:Rat) / (gB b:Rat)) (Dg.val S) ks (Dg.val T)) (hq:∀p∈qs,p∈ps) (BQ:qs.Nodup) (W:iS b ks 2 T.1 qs bs) (ne:bs≠[]):uQ b ps (λp=>((gT b).getD p.toNat 0:Rat) / (gB b:Rat)) (Dg.val S) (eF bs ks bs.length) (ks::dP) fl:=by
 have K:=h.ok
 have y8:∀p∈qs,Pr.In b p:=λp hp=>fG p (hq p hp)
 have K':=sP K y8 BQ W
 have pos:∀x∈bs,0<=x.1:=λx hx=>(y8 _ (W.mem x hx).1).1
 have lt:∀p:Nat,(p:Int)∈bs.map (·.1)->(p:Int)∈ps/\kR b (λp=>((gT b).getD p.toNat 0:Rat) / (gB b:Rat)) (eF bs ks bs.length) (Dg.val T) (p:Int)<Dg.val T (p:Int):=λp hp=>by
  obtain⟨to,eb,bw,nn⟩:=sQ K y8 BQ W hp
  obtain⟨k,_,_,_,ew,et,mt⟩:=o5 K.pk eb
  have mp:(p:Int)∈ps:=hq _ (by obtain⟨x,hx,ex⟩:=List.mem_map.mp hp;rw[<-ex];exact(W.mem x hx).1)
  refine⟨mp,?_⟩
  have e:=hv.eq _ mp
  rw[show _+_=kR b (λp=>((gT b).getD p.toNat 0:Rat) / (gB b:Rat)) ks (Dg.val T) (p:Int) from rfl,iM B K.pk eb] at e
  rw[iM B K'.pk eb,e]
  refine(wA T0).mp ?_
  have:=bw _ mt
  rw[<-et,show sgn 2= -1 from rfl] at this
  omega
 have other:∀p:Nat,(p:Int)∈ps->(p:Int)∉bs.map (·.1)->kR b (λp=>((gT b).getD p.toNat 0:Rat) / (gB b:Rat)) (eF bs ks bs.length) (Dg.val T) (p:Int)=Dg.val T (p:Int):=λp hp nb=>by
  have hpl:p<b.length:=by have:=(fG _ hp).2;omega
  rw[iu K'.pk K.pk hpl λ_=>ir pos nb _ (aah _)]
  exact(hv.eq _ hp).symm
 refine h.second B fG hv K' (λp hp q e i=>?_) (λp hp=>?_) ?_
 ·refine ir pos (λz=>?_) _ (aah _)
  obtain⟨to,eb,_⟩:=sQ K y8 BQ W z
  rw[e] at eb
  cases eb
  cases i
 ·obtain⟨p,rfl⟩:=aav (fG p hp).1
  by_cases c:(p:Int)∈bs.map (·.1)
  ·exact Rat.le_of_lt (lt p c).2
  ·rw[other p hp c];exact Rat.le_refl
 ·obtain⟨x,hx⟩:=List.exists_mem_of_ne_nil _ ne
  obtain⟨p,ep⟩:=aav (pos x hx)
  have m:(p:Int)∈bs.map (·.1):=List.mem_map.mpr ⟨x,hx,ep⟩
  exact⟨p,(lt p m).1,(lt p m).2⟩
theorem wC {dP:List (List (Option Int))} {fl:Option (Int->Rat)} {bs:List (Int×Int)} {qs q2:List Int} (fG:∀p∈ps,Pr.In b p) (T0:0<T.2) (h:uQ b ps (λp=>((gT b).getD p.toNat 0:Rat) / (gB b:Rat)) (Dg.val S) ks dP fl) (hv:tF b ps (λp=>((gT b).getD p.toNat 0:Rat) / (gB b:Rat)) (Dg.val S) ks (Dg.val T)) (hq:∀p∈qs,p∈ps) (BQ:qs.Nodup) (W:iS b ks 1 T.1 qs bs) (ne:bs≠[])
  (W2:iS b ks 2 T.1 q2 []) (Ao:∀p:Nat,(p:Int)∈ps->∀to,b[p]?=some (.cD 2 to)->(p:Int)∈q2):uQ b ps (λp=>((gT b).getD p.toNat 0:Rat) / (gB b:Rat)) (Dg.val S) (eF bs ks bs.length) (ks::dP) (some (Dg.val T)):=by
 have K:=h.ok
 have y8:∀p∈qs,Pr.In b p:=λp hp=>fG p (hq p hp)
 have K':=sP K y8 BQ W
 have pos:∀x∈bs,0<=x.1:=λx hx=>(y8 _ (W.mem x hx).1).1
 have at1:∀{k:List (Option Int)} {p:Nat} {to:List Int},d8 b k->eB b ps 1 k (eF bs ks bs.length)->(p:Int)∈ps->b[p]?=some (.cD 1 to)->kR b (λp=>((gT b).getD p.toNat 0:Rat) / (gB b:Rat)) k (Dg.val T) (p:Int)=kR b (λp=>((gT b).getD p.toNat 0:Rat) / (gB b:Rat)) (eF bs ks bs.length) (Dg.val T) (p:Int):=λ{k p to} hk sm hp e=>iu hk K'.pk (List.getElem?_eq_some_iff.mp e).1 λ_=>sm p hp _ e rfl
 have lt:∀p:Nat,(p:Int)∈bs.map (·.1)->(p:Int)∈ps/\(∃to,b[p]?=some (.cD 1 to))/\Dg.val T (p:Int)<kR b (λp=>((gT b).getD p.toNat 0:Rat) / (gB b:Rat)) (eF bs ks bs.length) (Dg.val T) (p:Int):=λp hp=>by
  obtain⟨to,eb,bw,nn⟩:=sQ K y8 BQ W hp
  obtain⟨k,_,_,_,ew,et,mt⟩:=o5 K.pk eb
  have mp:(p:Int)∈ps:=hq _ (by obtain⟨x,hx,ex⟩:=List.mem_map.mp hp;rw[<-ex];exact(W.mem x hx).1)
  refine⟨mp,⟨to,eb⟩,?_⟩
  have e:=hv.eq _ mp
  rw[show _+_=kR b (λp=>((gT b).getD p.toNat 0:Rat) / (gB b:Rat)) ks (Dg.val T) (p:Int) from rfl,iM B K.pk eb] at e
  rw[iM B K'.pk eb,e]
  refine(wA T0).mp ?_
  have:=bw _ mt
  rw[<-et,show sgn 1=1 from rfl] at this
  omega
 have old:∀p:Nat,(p:Int)∈ps->kR b (λp=>((gT b).getD p.toNat 0:Rat) / (gB b:Rat)) ks (Dg.val T) (p:Int)=Dg.val T (p:Int):=λp hp=>(hv.eq _ hp).symm
 refine h.first B fG hv K' (λk hk sm p hp=>?_) ?_
 ·obtain⟨p,rfl⟩:=aav (fG p hp).1
  have hpl:p<b.length:=by have:=(fG _ hp).2;omega
  have eb:b[p]?=some b[p]:=aad hpl
  cases q:b[p] with
  | fin g=>
   rw[iu hk K.pk hpl (fun⟨w,to,z⟩=>by rw[eb,q] at z;cases z),old p hp]
   exact Rat.le_refl
  | dA g ws=>
   rw[iu hk K.pk hpl (fun⟨w,to,z⟩=>by rw[eb,q] at z;cases z),old p hp]
   exact Rat.le_refl
  | cD br to=>
   rw[q] at eb
   have pq:=B.ok _ (aag eb)
   rcases pq.1 with w1 | w2
   ·subst w1
    rw[at1 hk sm hp eb]
    by_cases c:(p:Int)∈bs.map (·.1)
    ·exact Rat.le_of_lt (lt p c).2.2
    ·rw[iu K'.pk K.pk hpl λ_=>ir pos c _ (aah _),old p hp]
     exact Rat.le_refl
   ·subst w2
    obtain⟨k',_,_,_,_,et,mt⟩:=o5 hk eb
    have n2:=W2.b9 _ (Ao p hp to eb) (by simp) to (by rw[aak];exact eb) _ mt
    rw[<-old p hp,iM B K.pk eb,iM B hk eb,et]
    refine(wB T0).mp ?_
    rw[show sgn 2= -1 from rfl] at n2
    omega
 ·obtain⟨x,hx⟩:=List.exists_mem_of_ne_nil _ ne
  obtain⟨p,ep⟩:=aav (pos x hx)
  have m:(p:Int)∈bs.map (·.1):=List.mem_map.mpr ⟨x,hx,ep⟩
  obtain⟨h1,⟨to,h2⟩,h3⟩:=lt p m
  exact⟨p,h1,λk hk sm=>by rw[at1 hk sm h1 h2];exact h3⟩
end BS
noncomputable def BR:Sp:=λvs H Q _=>∃(v:V) (m:Addr) (br:Int) (to ts:List Int),vs=[v,.ref m]/\Rep H (jf (.cD br to)) v/\H m=some (.lst (ts.map V.int))/\0<to.length/\to.length<=4/\(∀g∈to,0<=g/\g< (ts.length:Int))/\(∀t∈ts,Bt 4000 t)/\
 ∀(w:Nat) H',az H H'->w<to.length->BP br to ts w->Q (.int (w:Int)) H'
noncomputable def g5 (b:List Pl) (br:Int) (ps:List Int):List Int:=ps.filter λp=>match b[p.toNat]? with | some q=>L6 q br | none=>false
theorem dW {b:List Pl} {br p:Int} {ps:List Int}:p∈g5 b br ps↔p∈ps/\∃to,b[p.toNat]?=some (.cD br to):=by
 unfold g5
 rw[List.mem_filter]
 constructor
 ·rintro⟨h1,h2⟩
  refine⟨h1,?_⟩
  cases e:b[p.toNat]? with
  | none=>rw[e] at h2;cases h2
  | some q=>
   rw[e] at h2
   cases q with
   | fin g=>cases h2
   | dA g ws=>cases h2
   | cD w to=>exact⟨to,by rw[show w=br from of_decide_eq_true h2]⟩
 ·rintro⟨h1,to,e⟩
  refine⟨h1,?_⟩
  rw[e]
  exact decide_eq_true rfl
noncomputable def x9:Sp:=λvs H Q _=>∃(bl pt:Addr) (br:Int) (b:List Pl) (ps:List Int),vs=[.ref bl,.ref pt,.int br]/\Rep H (ou b) (.ref bl)/\H pt=some (.lst (ps.map V.int))/\(∀p∈ps,Pr.In b p)/\ps.length<=16/\
 ∀l H',az H H'->H l=none->H' l=some (.lst ((g5 b br ps).map V.int))->Q (.ref l) H'
noncomputable def BU:Sp:=λvs H Q _=>∃(bl ql wl m:Addr) (b:List Pl) (ks:List (Option Int)) (br:Int) (ts qs:List Int) (xs:List V),vs=[.ref bl,.ref ql,.ref wl,.ref m]/\Rep H (ou b) (.ref bl)/\H ql=some (.lst (qs.map V.int))/\H wl=some (.lst xs)/\bu H ((cE b ks).map qL) xs/\H m=some (.lst (ts.map V.int))/\ts.length=b.length/\(∀t∈ts,Bt 4000 t)/\d8 b ks/\(∀q∈b,vb b.length q)/\(∀p∈qs,0<=p/\∃to,b[p.toNat]?=some (.cD br to))/\qs.length<=16/\
 ∀l bs H',az H H'->H l=none->Rep H' (.lst (bs.map bC)) (.ref l)->iS b ks br ts qs bs->Q (.ref l) H'
noncomputable def ER (C:Addr):Sp:=λvs H Q _=>∃(bk gn pt bl wl:Addr) (S:Dg.Bk) (b:List Pl) (rk:Int->Nat) (ks:List (Option Int)) (ps:List Int) (M:Nat) (xs:List V),vs=[.ref bk,.ref gn,.ref pt,.ref bl,.ref wl]/\nk C (cI H wl) bk S/\nk C (cI H wl) gn (gT b,gB b)/\cI H wl pt=some (.lst (ps.map V.int))/\Rep (cI H wl) (ou b) (.ref bl)/\j9 b rk/\H wl=some (.lst xs)/\bu (cI H wl) ((cE b ks).map qL) xs/\wz b ks/\
 ps.Nodup/\0<ps.length/\ps.length<=16/\(∀p∈ps,Pr.In b p)/\Dg.Sz b.length M S/\M+92*ps.length<3900/\gB b∣S.2/\(∀p∈ps,S.1.getD p.toNat 0=0)/\
 ∀x T dG iW H',az (cI H wl) (cI H' wl)->H' wl=some (.lst iW)->bu (cI H' wl) ((cE b dG).map qL) iW->wz b dG->Dg.DQ ps (cC (cE b dG)) (gT b) (gB b) S T->Dg.Sz b.length (M+92*ps.length) T->nk C (cI H' wl) x T->
  (∀p:Nat,(p:Int)∈ps->∀br to,b[p]?=some (.cD br to)->∀t∈to,sgn br*T.1.getD t.toNat 0<=sgn br*T.1.getD (y7 b dG (p:Int)).toNat 0)->Q (.ref x) H'
noncomputable def GP (ss:List Wq.Sh) (p:Nat):Pl->Option Int
 | .cD _ to=>some (((to.map (Wq.b8 ss)).idxOf (Wq.b8 ss (p:Int)):Nat):Int)
 | _=>none
noncomputable def JH:Sp:=λvs H Q _=>∃(v:V) (x:Addr) (wl:Addr) (q:Pl) (n p:Nat) (ss:List Wq.Sh),vs=[v,.ref x,.ref wl]/\Rep H (jf q) v/\vb n q/\ss.length=n/\p<n/\H x=some (.tup (Pr (Wq.b8 ss (p:Int)).1 (Wq.b8 ss (p:Int)).2))/\Rep H (.lst (ss.map bC)) (.ref wl)/\(∀br to,q=.cD br to->∃t∈to,Wq.b8 ss (p:Int)=Wq.b8 ss t)/\∀H',az H H'->Q (fC (GP ss p q)) H'
noncomputable def qQ (tp:Addr):Sp:=λvs H Q _=>∃(a:Addr) (b:List Pl) (rk:Int->Nat),vs=[.ref a]/\Rep H (ou b) (.ref a)/\j9 b rk/\H tp=some (.tu dsc)/\
 ∀t l1 l2 (S:Dg.Bk) (ks:List (Option Int)) H',az H H'->H' t=some (.tup [.ref l1,.ref l2])->H l1=none->H l2=none->Rep H' (.lst ((bY S).map bC)) (.ref l1)->H' l2=some (.lst (ks.map fC))->Dg.Sz b.length (330+92*b.length) S->gB b∣S.2->(∀p:Nat,p<b.length->pW b p (Dg.val S))->(∀p q,b[p]?=some q->ks[p]?=some (GP (bY S) p q))->ks.length=b.length->Q (.ref t) H'
structure uS (b:List Pl) (ps:List Int) (i:Nat) (S:Dg.Bk):Prop where
 sz:Dg.Sz b.length (330+92*Pr.off b ps i) S
 dv:gB b∣S.2
 eq:∀p:Nat,p<b.length->xZ b ps (p:Int)<i->pW b p (Dg.val S)
 zr:∀p:Int,Pr.In b p->i<=xZ b ps p->S.1.getD p.toNat 0=0
theorem uS.start {b:List Pl} {rk:Int->Nat} {ps:List Int} (B:j9 b rk):uS b ps 0 (List.replicate b.length 0,gB b):=by
 have h:=GD.start (ks:=[]) (ps:=ps) B
 exact⟨h.sz,h.dv,λp _ h=>absurd h (abc _),h.zr⟩
theorem GQ {S:Dg.Bk} (h:0<S.2) {br a c:Int} (k:sgn br*S.1.getD a.toNat 0<=sgn br*S.1.getD c.toNat 0):pH br*Dg.val S a<=pH br*Dg.val S c:=by
 unfold sgn at k
 unfold pH
 by_cases e:br=1
 ·rw[if_pos e] at k ⊢
  have:=(wB h (a:=a) (b:=c)).mp (by omega)
  grind
 ·rw[if_neg e] at k ⊢
  have:=(wB h (a:=c) (b:=a)).mp (by omega)
  grind
theorem uS.step {b:List Pl} {rk:Int->Nat} {ks:List (Option Int)} {ps:List Int} {i:Nat} {S S':Dg.Bk} {h:Int} (B:j9 b rk) (T:Pr.Told b ps) (ko:d8 b ks) (I:uS b ps i S) (e:ps[i]?=some h)
  (st:Dg.DQ (Pr.c9 b h) (cC (cE b ks)) (gT b) (gB b) S S') (sz:Dg.Sz b.length (330+92*Pr.off b ps i+92* (Pr.c9 b h).length) S')
  (best:∀p:Nat,(p:Int)∈Pr.c9 b h->∀br to,b[p]?=some (.cD br to)->∀t∈to,sgn br*S'.1.getD t.toNat 0<=sgn br*S'.1.getD (y7 b ks (p:Int)).toNat 0):uS b ps (i+1) S':=by
 obtain⟨g0,_,_⟩:=B.bot
 refine⟨?_,?_,λp hp hx=>?_,λp hp hx=>?_⟩
 ·rw[Pr.oX e,Nat.mul_add,<-Nat.add_assoc]
  exact sz
 ·obtain⟨d,_,e2,_⟩:=st
  rw[e2]
  exact Int.dvd_trans I.dv (Int.dvd_mul_right _ _)
 ·have ip:Pr.In b (p:Int):=⟨by omega,by omega⟩
  obtain⟨q,k,e1,ek,po,ew⟩:=ko.at hp
  obtain⟨w5,wg⟩:=B.wk ko ip
  intro q' AF
  rw[e1] at AF
  cases AF
  by_cases c:xZ b ps (p:Int)=i
  ·have m:=Jy B T e ip c
   have v:=st.eq I.sz.pos g0 I.dv m (by have:=w5.tt;omega)
   rw[aak,B.gV e1,ew] at v
   cases q with
   | fin g=>rw[v];show Dg.vl g+0=Dg.vl g;grind
   | dA g ws=>exact v
   | cD br to=>
    obtain⟨k',_,_,_,L7,et,mt⟩:=o5 ko e1
    have v2:Dg.val S' (p:Int)=Dg.val S' (y7 b ks (p:Int)):=by
     rw[ew,<-et] at L7
     rw[v,L7]
     show Dg.vl (0,1)+ (((1:Int):Rat) / ((1:Int):Rat)*Dg.val S' (y7 b ks (p:Int))+0)=_
     have:Dg.vl (0,1)=0:=Dg.Wd
     rw[this,Dg.NG]
     grind
    refine⟨⟨_,mt,by rw[<-et];exact v2⟩,λt ht=>?_⟩
    rw[v2]
    exact GQ sz.pos (best p m br to e1 t ht)
  ·have old:=I.eq p hp (by omega) q e1
   have out:∀x:Int,Pr.In b x->xZ b ps x<i->Dg.val S' x=Dg.val S x:=λx hx hi=>st.ne I.sz.pos hx.1 λz=>by
    have:=wq B T e z
    omega
   have GR:∀t∈Lv.gc q,Dg.val S' t=Dg.val S t:=λt ht=>by
    have hg:t∈Bf.fF b (p:Int):=by unfold Bf.fF;rw[aak,e1];exact ht
    have:=DT B T ip hg
    exact out t this.2 (by omega)
   have op:=out _ ip (by omega)
   cases q with
   | fin g=>rw[op];exact old
   | dA g ws=>
    rw[op,show Dg.val S (p:Int)=_ from old]
    congr 1
    exact Dg.jl λx hx=>(GR _ (List.mem_map.mpr ⟨x,hx,rfl⟩)).symm
   | cD br to=>
    obtain⟨⟨t1,m1,o1⟩,o2⟩:=old
    refine⟨⟨t1,m1,by rw[op,GR t1 m1];exact o1⟩,λt ht=>?_⟩
    rw[op,GR t ht]
    exact o2 t ht
 ·obtain⟨d,_,_,_,o,_⟩:=st
  rw[o p hp.1 λz=>by have:=wq B T e z;omega,I.zr p hp (by omega),Int.zero_mul]
theorem nA {S:Dg.Bk} {n M:Nat} (Z:Dg.Sz n M S):∀x∈bY S,zi S.2 (2^M) x:=by
 intro x hx
 obtain⟨t,ht,rfl⟩:=List.mem_map.mp hx
 obtain⟨j,hj,rfl⟩:=aaX ht
 have bt:=Z.bt j
 rw[aae,aad hj,Option.getD_some] at bt
 have S0:=Z.pos
 obtain⟨d,e⟩:=Wq.vZ (a:=S.1[j]) (s:=S.1[j]) S0 S0 rfl
 have lw:=Wq.fA (a:=S.1[j]) S0
 refine⟨lw,d,(Wq.qE lw.1 S0 d).mpr ?_⟩
 rw[e]
 unfold Bt at bt
 have p:(2:Int)^M=((2^M:Nat):Int):=by rw[Int.natCast_pow];rfl
 have m:((2^M:Nat):Int)*1<=((2^M:Nat):Int)*S.2:=Int.mul_le_mul_of_nonneg_left (by omega) (by omega)
 rw[p]
 generalize ((2:Nat)^M)=N at *
 omega
theorem BV {br:Int} {x y:Rat} (h:pH br*x<=pH br*y) (k:pH br*y<=pH br*x):x=y:=by
 unfold pH at h k
 by_cases c:br=1
 ·rw[if_pos c] at h k
  clear c
  grind
 ·rw[if_neg c] at h k
  clear c
  grind
theorem JI {x y:Wq.Sh} (hx:0<x.2) (hy:0<y.2):x.1*y.2 >y.1*x.2↔Dg.vl y<Dg.vl x:=by
 have h1:(0:Rat)< (x.2:Rat):=Rat.intCast_pos.mpr hx
 have h2:(0:Rat)< (y.2:Rat):=Rat.intCast_pos.mpr hy
 have h3:=Rat.mul_pos h1 h2
 have e1:((x.1*y.2:Int):Rat)=Dg.vl x* ((x.2:Rat)* (y.2:Rat)):=by
  rw[Rat.intCast_mul]
  unfold Dg.vl
  have:=Rat.ne_of_gt h1
  have:=Rat.ne_of_gt h2
  grind
 have e2:((y.1*x.2:Int):Rat)=Dg.vl y* ((x.2:Rat)* (y.2:Rat)):=by
  rw[Rat.intCast_mul]
  unfold Dg.vl
  have:=Rat.ne_of_gt h1
  have:=Rat.ne_of_gt h2
  grind
 show y.1*x.2<x.1*y.2↔_
 rw[<-Rat.intCast_lt_intCast,e1,e2]
 constructor
 ·intro h
  exact Rat.lt_of_mul_lt_mul_right h (Rat.le_of_lt h3)
 ·intro h
  exact Rat.mul_lt_mul_of_pos_right h h3
theorem jV {x y:Wq.Sh} (hx:0<x.2) (hy:0<y.2):Wq.eV x y=true↔Dg.vl x<Dg.vl y:=by
 unfold Wq.eV
 rw[decide_eq_true_iff]
 exact JI hy hx
theorem kT {br:Int} (hw:br=1\/br=2) {ws:List Wq.Sh}:∀{to:List Int} {a:Wq.Sh},0<a.2->(∀t∈to,0< (Wq.b8 ws t).2)->(Wq.c4 br ws a to=a\/∃t∈to,Wq.c4 br ws a to=Wq.b8 ws t)/\pH br*Dg.vl a<=pH br*Dg.vl (Wq.c4 br ws a to)/\∀t∈to,pH br*Dg.vl (Wq.b8 ws t)<=pH br*Dg.vl (Wq.c4 br ws a to)
 | [],a,_,_=>⟨.inl rfl,Rat.le_refl,by simp⟩
 | t::to,a,ha,h=>by
  have ht:=h t aai
  have hs:∀t∈to,0< (Wq.b8 ws t).2:=λx hx=>h x (aaj _ hx)
  have e:Wq.c4 br ws a (t::to)=Wq.c4 br ws (if (br=1/\Wq.eV a (Wq.b8 ws t)=true)\/(br=2/\Wq.eV (Wq.b8 ws t) a=true) then Wq.b8 ws t else a) to:=rfl
  rw[e]
  by_cases c:(br=1/\Wq.eV a (Wq.b8 ws t)=true)\/(br=2/\Wq.eV (Wq.b8 ws t) a=true)
  ·rw[if_pos c]
   obtain⟨i1,i2,i3⟩:=kT hw (ws:=ws) (to:=to) ht hs
   have up:pH br*Dg.vl a<=pH br*Dg.vl (Wq.b8 ws t):=by
    unfold pH
    rcases c with ⟨rfl,c⟩ | ⟨rfl,c⟩
    ·have:=(jV ha ht).mp c
     rw[if_pos rfl]
     grind
    ·have:=(jV ht ha).mp c
     rw[if_neg (by decide)]
     grind
   refine⟨.inr ?_,Rat.le_trans up i2,λx hx=>?_⟩
   ·rcases i1 with i1 | ⟨x,hx,i1⟩
    ·exact⟨t,aai,i1⟩
    ·exact⟨x,aaj _ hx,i1⟩
   ·rcases List.mem_cons.mp hx with rfl | hx
    ·exact i2
    ·exact i3 x hx
  ·rw[if_neg c]
   obtain⟨i1,i2,i3⟩:=kT hw (ws:=ws) (to:=to) ha hs
   have dn:pH br*Dg.vl (Wq.b8 ws t)<=pH br*Dg.vl a:=by
    unfold pH
    rcases hw with rfl | rfl
    ·rw[if_pos rfl]
     have:¬Dg.vl a<Dg.vl (Wq.b8 ws t):=λz=>c (.inl ⟨rfl,(jV ha ht).mpr z⟩)
     rcases Rat.le_total (a:=Dg.vl a) (b:=Dg.vl (Wq.b8 ws t)) with k | k
     ·grind
     ·grind
    ·rw[if_neg (by decide)]
     have:¬Dg.vl (Wq.b8 ws t)<Dg.vl a:=λz=>c (.inr ⟨rfl,(jV ht ha).mpr z⟩)
     grind
   refine⟨?_,i2,λx hx=>?_⟩
   ·rcases i1 with i1 | ⟨x,hx,i1⟩
    ·exact .inl i1
    ·exact .inr ⟨x,aaj _ hx,i1⟩
   ·rcases List.mem_cons.mp hx with rfl | hx
    ·exact Rat.le_trans dn i2
    ·exact i3 x hx
theorem d9 {S:Dg.Bk} {n M:Nat} (z:Dg.Sz n M S) {q:Int} (q0:0<=q) (q1:q< (n:Int)):(bY S)[q.toNat]?=some (Wq.b8 (bY S) q)/\zi S.2 (2^M) (Wq.b8 (bY S) q)/\Dg.vl (Wq.b8 (bY S) q)=Dg.val S q:=by
 have l:(bY S).length=n:=by unfold bY;rw[aac,z.len]
 have a:=GI (ss:=bY S) (q:=q) q0 (by omega)
 exact⟨a,nA z _ (aag a),x6 z.pos _ (by rw[z.len];omega)⟩
theorem GU {b:List Pl} {rk:Int->Nat} {S:Dg.Bk} {M p:Nat} {q:Pl} (B:j9 b rk) (z:Dg.Sz b.length M S) (L8:gB b∣S.2) (eb:b[p]?=some q) (h:pW b p (Dg.val S)):Wq.NC (bY S) q=Wq.b8 (bY S) (p:Int):=by
 have hp:=(List.getElem?_eq_some_iff.mp eb).1
 have pq:=B.ok _ (aag eb)
 have rg:=B.gP.good.lP _ (aag eb)
 obtain⟨_,sp,vp⟩:=d9 z (q:=(p:Int)) (by omega) (by omega)
 have gg:=nv pq
 have hq:=h q eb
 have av:∀i:Int,0< (Wq.b8 (bY S) i).2:=DW λx hx=>(nA z x hx).1.1
 cases q with
 | fin g=>exact Dg.kL gg.2.2 sp.1 (by rw[vp];exact(show Dg.val S (p:Int)=Dg.vl g from hq).symm)
 | dA g ws=>
  have JJ:Dg.tt ws=Wq.cm ws:=by unfold Dg.tt;rw[if_neg (λz=>by have:=pq.2.1;rw[z] at this;cases this)]
  obtain⟨t1,t9⟩:=pq.2.2.tt
  have d0:0<Wq.cm ws:=by omega
  obtain⟨v1,v2⟩:=Dg.xH (d:=Wq.cm ws) d0 (v:=Wq.b8 (bY S)) (ws:=ws) (a:=g) gg.2.2.1 λx _=>av _
  have dg:g.2∣S.2:=Int.dvd_trans (B.bot.2.2 _ (aag eb)) L8
  have Y1:=(Wq.xy (L:=S.2) (v:=Wq.b8 (bY S)) z.pos d0 (λx hx=>by
   have m:=d9 z (q:=x.2) (pq.2.2.2 x hx).2.2.1 (pq.2.2.2 x hx).2.2.2
   exact⟨m.2.1.1.1,m.2.1.2.1⟩) gg.2.2 (Int.dvd_trans dg (Int.dvd_mul_right _ _))).1
  refine Dg.kL Y1 sp.1 ?_
  show Dg.vl (Wq.jg (Wq.cm ws) (Wq.b8 (bY S)) g ws)=_
  rw[v2,vp,show Dg.val S (p:Int)=_ from hq,JJ]
  congr 1
  exact Dg.jl λx hx=>(d9 z (pq.2.2.2 x hx).2.2.1 (pq.2.2.2 x hx).2.2.2).2.2
 | cD br to=>
  obtain⟨⟨t1,m1,e1⟩,up⟩:=hq
  have m0:to.getD 0 0∈to:=by
   have:=pq.2.1
   cases to with
   | nil=>simp at this
   | cons x y=>simp
  have vt:∀t∈to,Dg.vl (Wq.b8 (bY S) t)=Dg.val S t:=λt ht=>(d9 z (rg t ht).1 (rg t ht).2).2.2
  obtain⟨b1,_,b3⟩:=kT pq.1 (ws:=bY S) (to:=to) (a:=Wq.b8 (bY S) (to.getD 0 0)) (av _) λt _=>av t
  have bt:∃t∈to,Wq.c4 br (bY S) (Wq.b8 (bY S) (to.getD 0 0)) to=Wq.b8 (bY S) t:=by
   rcases b1 with b1 | b1
   ·exact⟨_,m0,b1⟩
   ·exact b1
  obtain⟨t0,mt,et⟩:=bt
  show Wq.c4 br (bY S) (Wq.b8 (bY S) (to.getD 0 0)) to=_
  have c1:=b3 t1 m1
  rw[et,vt t1 m1,vt t0 mt,<-e1] at c1
  have c2:=up t0 mt
  rw[et]
  refine Dg.kL (d9 z (rg t0 mt).1 (rg t0 mt).2).2.1.1 sp.1 ?_
  rw[vt t0 mt,vp]
  exact BV c2 c1
theorem ES {b:List Pl} {rk:Int->Nat} {v v':Int->Rat} (B:j9 b rk) (h:∀p:Nat,p<b.length->pW b p v) (h':∀p:Nat,p<b.length->pW b p v'):∀p:Nat,p<b.length->v (p:Int)<=v' (p:Int):=by
 have ex:∀x:Int,∃ws:Dg.Wy,Pr.In b x->(∀y∈ws,1<=y.1/\Pr.In b y.2)/\(ws=[]\/∃y∈ws,rk y.2<rk x)/\v x - v' x<=Dg.de (Dg.tt ws) (λi=>v i - v' i) ws:=λx=>by
  by_cases c:Pr.In b x
  ·obtain⟨p,rfl⟩:=aav c.1
   have hp:p<b.length:=by have:=c.2;omega
   have eb:b[p]?=some b[p]:=aad hp
   have a:=h p hp _ eb
   have a':=h' p hp _ eb
   have pq:=B.ok _ (aan hp)
   have rg:=B.gP.good.lP _ (aan hp)
   have one:∀t,v (p:Int) - v' (p:Int)<=v t - v' t->v (p:Int) - v' (p:Int)<=Dg.de (Dg.tt [(1,t)]) (λi=>v i - v' i) [(1,t)]:=λt k=>by
    show _<=((1:Int):Rat) / ((1:Int):Rat)* (v t - v' t)+0
    rw[Dg.NG]
    grind
   cases q:b[p] with
   | fin g=>
    rw[q] at a a'
    refine⟨[],λ_=>⟨by simp,.inl rfl,?_⟩⟩
    show _<=(0:Rat)
    rw[show v (p:Int)=_ from a,show v' (p:Int)=_ from a']
    grind
   | dA g ws=>
    rw[q] at a a' eb pq rg
    refine⟨ws,λ_=>⟨λy hy=>⟨(pq.2.2.2 y hy).1,(pq.2.2.2 y hy).2.2⟩,.inr (B.gP.dA p g ws eb),?_⟩⟩
    rw[Dg.jT,show v (p:Int)=_ from a,show v' (p:Int)=_ from a']
    grind
   | cD br to=>
    rw[q] at a a' eb pq rg
    obtain⟨⟨t1,m1,e1⟩,u1⟩:=a
    obtain⟨⟨t2,m2,e2⟩,u2⟩:=a'
    rcases pq.1 with rfl | rfl
    ·refine⟨[(1,t1)],λ_=>⟨λy hy=>by rw[List.mem_singleton.mp hy];exact⟨Int.le_refl _,rg t1 m1⟩,.inr ⟨_,List.mem_singleton.mpr rfl,B.gP.cD p _ to eb t1 m1⟩,one t1 ?_⟩⟩
     have:=u2 t1 m1
     unfold pH at this
     rw[if_pos rfl] at this
     grind
    ·refine⟨[(1,t2)],λ_=>⟨λy hy=>by rw[List.mem_singleton.mp hy];exact⟨Int.le_refl _,rg t2 m2⟩,.inr ⟨_,List.mem_singleton.mpr rfl,B.gP.cD p _ to eb t2 m2⟩,one t2 ?_⟩⟩
     have:=u1 t2 m2
     unfold pH at this
     rw[if_neg (by decide)] at this
     grind
  ·exact⟨[],λz=>absurd z c⟩
 have ⟨W,hW⟩:=Classical.axiomOfChoice ex
 have ix:∀{x:Int},x∈(List.range b.length).map (fun(i:Nat)=>(i:Int))↔Pr.In b x:=λ{x}=>by
  constructor
  ·intro hx
   obtain⟨j,hj,rfl⟩:=List.mem_map.mp hx
   have:=List.mem_range.mp hj
   exact⟨by omega,by omega⟩
  ·intro hx
   obtain⟨j,rfl⟩:=aav hx.1
   exact List.mem_map.mpr ⟨j,List.mem_range.mpr (by have:=hx.2;omega),rfl⟩
 intro p hp
 have:=Dg.sub_zero (ps:=(List.range b.length).map (fun(i:Nat)=>(i:Int))) (W:=W) (lv:=rk) (v:=λi=>v i - v' i) (λx hx=>(hW x (ix.mp hx)).2.2) (λx hx y hy=>((hW x (ix.mp hx)).1 y hy).1) (λx hx y hy ny=>absurd (ix.mpr ((hW x (ix.mp hx)).1 y hy).2) ny) (λx hx=>(hW x (ix.mp hx)).2.1) (p:Int) (ix.mpr ⟨by omega,by omega⟩)
 have:v (p:Int) - v' (p:Int)<=0:=this
 grind
theorem DX {b:List Pl} {rk:Int->Nat} {S S':Dg.Bk} {M:Nat} (B:j9 b rk) (z:Dg.Sz b.length M S) (z':Dg.Sz b.length M S') (h:∀p:Nat,p<b.length->pW b p (Dg.val S)) (h':∀p:Nat,p<b.length->pW b p (Dg.val S')):bY S=bY S':=by
 have l:(bY S).length=b.length:=by unfold bY;rw[aac,z.len]
 have l':(bY S').length=b.length:=by unfold bY;rw[aac,z'.len]
 apply aaQ
 intro i
 by_cases hi:i<b.length
 ·obtain⟨a1,a2,a3⟩:=d9 z (q:=(i:Int)) (by omega) (by omega)
  obtain⟨b1,b2,b3⟩:=d9 z' (q:=(i:Int)) (by omega) (by omega)
  rw[aak] at a1 b1
  rw[a1,b1]
  congr 1
  refine Dg.kL a2.1 b2.1 ?_
  rw[a3,b3]
  have:=ES B h h' i hi
  have:=ES B h' h i hi
  grind
 ·rw[aar (by omega),aar (by omega)]
theorem GV {b:List Pl} {rk:Int->Nat} (B:j9 b rk) (l8:b.length<=8) {k:Nat} {g:Int×Int} (hg:GS g):j9 (b.set k (.fin g)) rk:=by
 have at_:∀{i:Nat} {q:Pl},(b.set k (.fin g))[i]?=some q->q=.fin g\/b[i]?=some q:=λ{i q} e=>by
  by_cases c:k=i
  ·subst c
   have hi:=(List.getElem?_eq_some_iff.mp e).1
   rw[aaK] at hi
   rw[aaU hi] at e
   exact .inl (aaC e).symm
  ·rw[aaL c] at e
   exact .inr e
 have len:(b.set k (.fin g)).length=b.length:=aaK ..
 have DV:∀q∈b.set k (.fin g),vb (b.set k (.fin g)).length q:=λq hq=>by
  obtain⟨i,ei⟩:=aax hq
  rw[len]
  rcases at_ ei with rfl | e
  ·exact hg
  ·exact B.ok q (aag e)
 have gP:DR (b.set k (.fin g)) rk:=by
  refine⟨⟨λq hq x hx=>?_,λq hq w to e=>?_⟩,λi g' ws e=>?_,λi w to e x hx=>?_⟩
  ·obtain⟨i,ei⟩:=aax hq
   rw[len]
   rcases at_ ei with rfl | e
   ·simp [Lv.gc] at hx
   ·exact B.gP.good.lP q (aag e) x hx
  ·obtain⟨i,ei⟩:=aax hq
   rcases at_ ei with rfl | e'
   ·cases e
   ·exact B.gP.good.cD q (aag e') w to e
  ·rcases at_ e with z | e
   ·cases z
   ·exact B.gP.dA i g' ws e
  ·rcases at_ e with z | e
   ·cases z
   ·exact B.gP.cD i w to e x hx
 exact⟨by rw[len];exact B.pos,by rw[len];exact B.len,DV,gP,λp hp=>BE gP DV (by omega) hp⟩
theorem BW {l:List Wq.Sh} {x:Wq.Sh} (h:x∈l):((List.range l.length).filterMap λk=>if l.getD k (0,1)=x then some (k:Int) else none)[0]?=some (((l.idxOf x:Nat)):Int):=by
 have e:((List.range l.length).filterMap λk=>if l.getD k (0,1)=x then some (k:Int) else none)=((List.range l.length).filter λk=>decide (l.getD k (0,1)=x)).map fun(k:Nat)=>(k:Int):=by
  induction List.range l.length with
  | nil=>rfl
  | cons k ks ih=>
   rw[abt,List.filter_cons,ih]
   by_cases c:l.getD k (0,1)=x
   ·rw[if_pos c,if_pos (decide_eq_true c)];rfl
   ·rw[if_neg c,if_neg (by simpa using c)]
 rw[e,aaf,<-List.head?_eq_getElem?,List.head?_filter]
 have lt:=aaS h
 have f:(List.range l.length).find? (λk=>decide (l.getD k (0,1)=x))=some (l.idxOf x):=by
  rw[List.find?_range_eq_some]
  refine⟨?_,List.mem_range.mpr lt,λj hj=>?_⟩
  ·rw[aae,aad lt,aaW lt]
   exact decide_eq_true rfl
  ·have lj:j<l.length:=by omega
   rw[aae,aad lj]
   have:=List.not_of_lt_findIdx (p:=λy=>y==x) (xs:=l) (i:=j) hj
   simpa using this
 rw[f]
 rfl
noncomputable def BX:Sp:=λvs H Q _=>∃p q a b,vs=[.ref p,.ref q]/\H p=some (.tup (Pr a.1 a.2))/\H q=some (.tup (Pr b.1 b.2))/\Rm a/\Rm b/\Q (.bl (Wq.eV a b)) H
noncomputable def ET:Sp:=λvs H Q _=>∃(a:Addr) (c:V) (i:Nat) (b:List Pl) (n:Nat) (g:Wq.Sh) (ws:Dg.Wy),vs=[.ref a,c,.int (i:Int)]/\Rep H (ou b) (.ref a)/\b[i]?=some (.dA g ws)/\vb n (.dA g ws)/\
 ∀l us H',az H H'->H l=none->H' l=some (.lst us)->us.length=ws.length->(∀(j:Nat) p x,ws[j]?=some p->us[j]?=some x->JB H' (Wq.cm ws) p x)->Q (.ref l) H'
noncomputable def GW:Sp:=λvs H Q _=>∃(a c:Addr) (i:Nat) (b:List Pl) (S:Dg.Bk) (q:Pl),vs=[.ref a,.ref c,.int (i:Int)]/\Rep H (ou b) (.ref a)/\Rep H (.lst ((bY S).map bC)) (.ref c)/\b[i]?=some q/\vb b.length q/\(Wq.dt q).2∣S.2/\Dg.Sz b.length 1900 S/\
 ∀r H',az H H'->H' r=some (.tup (Pr (Wq.NC (bY S) q).1 (Wq.NC (bY S) q).2))->Q (.ref r) H'
noncomputable def sR:Sp:=λvs H Q _=>∃(a t l1 l2:Addr) (b:List Pl) (rk:Int->Nat) (S:Dg.Bk) (ks:List (Option Int)),vs=[.ref a,.ref t]/\Rep H (ou b) (.ref a)/\j9 b rk/\H t=some (.tup [.ref l1,.ref l2])/\Rep H (.lst ((bY S).map bC)) (.ref l1)/\H l2=some (.lst (ks.map fC))/\Dg.Sz b.length 1900 S/\gB b∣S.2/\(∀p:Nat,p<b.length->pW b p (Dg.val S))/\(∀p q,b[p]?=some q->ks[p]?=some (GP (bY S) p q))/\ks.length=b.length/\∀H',az H H'->Q (.bl true) H'
noncomputable def wD:Sp:=λvs H Q _=>∃a b,vs=[.ref a]/\Rep H (ou b) (.ref a)/\b.length<=16/\∀l xs H',az H H'->H l=none->H' l=some (.lst xs)->bu (cI H' l) (b.map jf) xs->Q (.ref l) H'
section
variable {P : Program} {w : World} {K : PySem.W.Frag} {mg : Str -> Option Value} {base : Heap}
variable {aA tc tp : Addr}
theorem BY {H:Hp} {ws:List (Int×Int)} {xs:List V} (rl:bu H (ws.map bC) xs) {i:Nat} {x:V} (ex:xs[i]?=some x):∃p t,ws[i]?=some p/\x=.ref t/\H t=some (.tup [.int p.1,.int p.2]):=by
 obtain⟨d,ed,rd⟩:=rl.get ex
 rw[aaf] at ed
 obtain⟨p,ep,rfl⟩:=Option.map_eq_some_iff.mp ed
 obtain⟨t,rfl,ht⟩:=cn.mp rd
 exact⟨p,t,ep,rfl,ht⟩
theorem uT:aQ ["place"] ["place"] (af (top 1)):=⟨rfl,rfl,rfl,by ac_rfl,rfl,by ac_rfl,by ac_rfl⟩
theorem BZ (T:Txt K mg aA tc):bU P w K mg base (bN P w) 1 "goals" ["place"] uA:=by
 refine T.Ds.d3 (λ_ _ _ _ _ _=>iR λ_=>rfl) λf fd F=>F.d5 uT (λvs H Q E h=>?_) (λcG A outer s H vs Q E hr h=>?_)
 ·obtain⟨_,_,rfl,_⟩:=h;rfl
 ·symm
  obtain⟨v,q,rfl,rq,lq,kk⟩:=h
  nofun
  have nd:=uT.nd
  refine⟨_,(ae (bF (aO cL (aD aH (pv 0) ao (λ_ _=>rfl)) cK (aS _)) (au (aN (bO rfl (N:=["place"]) (so:=af (top 1)) (N':=["weight","to"]) (k:=2) (fr:=[]) rfl rfl ⟨rfl,by ac_rfl,by ac_rfl,by ac_rfl,rfl,by ac_rfl,by ac_rfl⟩ (bj (K:=K) (aD aH (pv 0) ao (λ_ _=>rfl))) (λ_ _ _ _ _=>(bX (K:=K) (n:=2) rfl (aU (aG (i:=0) (show(["weight","to"]:List Str).Nodup by ac_rfl) rfl (Or.inl rfl)) (aU (aG (i:=1) (show(["weight","to"]:List Str).Nodup by ac_rfl) rfl (Or.inl rfl)) bV)))) (λ_ _ _ _ _=>bJ)
   (λ_ _ _ _ _=>(pv 1)))))
   ba)
  (ae (bF (aO cL (aD aH (pv 0) ao (λ_ _=>rfl)) cK (aS _)) (au (aN (eG (cS (K:=K)) (by rfl) T.z_list rfl (aa (aD aH (pv 0) ao (λ_ _=>rfl)) ag (se rfl)) (he:=se rfl) (hpl:=na rfl))))
   ba)
  (au (aN (cV ag))))),?_⟩
  refine(?_:let cy:TS:=_;let cz:TS:=_;let cA:TS:=_;tSeq cy (tSeq cz cA) _ _ _)
  intro cy cz cA
  cases q with
  | fin w=>
   symm
   obtain⟨p,r,rfl,hp,_⟩:=cX.mp rq
   nofun
   simp_all only[hp]
   rw[if_neg (by ac_rfl),if_neg (by ac_rfl)]
   exact⟨aas _,λl nl=>kk _ _ (ax nl) nl ar⟩
  | dA w ws=>
   symm
   obtain⟨p,r,l,xs,rfl,hp,_,hl,rl⟩:=cN.mp rq
   nofun
   simp_all only[hp]
   refine⟨⟨_,bo.of hl⟩,?_⟩
   have lx:=rl.length
   rw[aac] at lx
   have S:Src (vj K l) (az H) ws.length (λi x H H3=>H3=H/\xs[i]?=some x):=by rw[lx];exact src_list (λH' s'=>bo.of (s' _ _ hl))
   refine gD ws (λp=>some p.2) S (λ_ _ _ _ h=>h.1) (by rw[sizeLine_eq];have:ws.length<=100:=(by simpa [Lv.gc] using lq);omega) ?_ ?_
   ·rintro i p x ep ⟨_,ex⟩
    symm
    obtain⟨p',t,CA,rfl,ht⟩:=BY rl ex
    nofun
    rw[ep] at CA
    cases CA
    refine⟨t,_,_,rfl,dZ.of ht,λY N y1 _=>?_⟩
    simp_all only[gA]
    exact y1 _ rfl
   ·intro D n1 n2
    rw[dR]
    exact kk _ _ (ax n2) n2 ar
  | cD w to=>
   symm
   obtain⟨p,l,rfl,hp,hl⟩:=cH.mp rq
   nofun
   simp_all only[hp]
   rw[if_neg (by ac_rfl)]
   exact⟨_,.inl (bo.of hl),λm nm=>kk _ _ (ax nm) nm ar⟩
theorem DY {fs:Lv.Fs} {q:Pl}:Lv.EC fs q=match q with | .dA _ _=>(Lv.gc q).any (λg=>(Lv.lk fs g).isSome) | _=>(Lv.gc q).all λg=>(Lv.lk fs g).isSome:=by
 cases q <;>rfl
theorem lH:aQ ["place","found","levelled"] ["place","found"] (af (top 2)):=⟨rfl,rfl,rfl,by ac_rfl,rfl,by ac_rfl,by ac_rfl⟩
theorem GX (T:Txt K mg aA tc):bU P w K mg base (bN P w) 2 "is_ready" ["place","found"] AY:=by
 have sS:bU P w K mg base (bN P w) 1 "goals" ["place"] uA:=BZ T
 refine T.v3.d3 (λ_ _ _ _ _ _=>d6 λ_ _=>rfl) λf fd F=>F.d5 lH (λvs H Q E h=>?_) (λcG A outer s H vs Q E hr h=>?_)
 ·obtain⟨_,_,_,_,rfl,_⟩:=h;rfl
 ·symm
  obtain⟨v,q,ff,fs,rfl,rq,hf,lq,gq,kk⟩:=h
  nofun
  have nd:=lH.nd
  refine⟨_,(ae (gC (i:=2) rfl nd rfl rfl (N:=["place","found","levelled"]) (so:=af (top 2)) (N':=["to","found"]) (k:=1) (fr:=[1]) rfl rfl ⟨rfl,by ac_rfl,by ac_rfl,by ac_rfl,rfl,by ac_rfl,by ac_rfl⟩ (bj (K:=K) (aK sS (hr.mono (by decide)) rfl aB.pass (aa (pv 0) ag (se rfl)) (he:=se rfl) (hpl:=na rfl))) (λ_ _ _ _ _=>(aG (i:=0) (show(["to","found"]:List Str).Nodup by ac_rfl) rfl (Or.inl rfl))) (λ_ _ _ _ _=>bJ)
   (λ_ _ _ _ _=>(iD wQ (aD aE (pv 1) (pv 0) (λ_ _=>rfl)) eL (aS _))))
  (ae (bF (aO cL (aD aH (pv 0) ao (λ_ _=>rfl)) cK (aS _)) (au (aN (aP (t6 (K:=K)) (by rfl) T.z_any rfl (aa (pv 2) ag (se rfl)) (he:=se rfl) (hpl:=na rfl))))
   ba)
  (au (aN (aP (lB (K:=K)) (by rfl) T.z_all rfl (aa (pv 2) ag (se rfl)) (he:=se rfl) (hpl:=na rfl)))))),?_⟩
  refine(?_:let cy:TS:=_;let cz:TS:=_;let cA:TS:=_;tSeq cy (tSeq cz cA) _ _ _)
  intro cy cz cA
  symm
  obtain⟨p,k,r,rfl,hp⟩:=FX rq
  nofun
  simp_all only[uA]
  refine⟨q,rq,lq,λl H1 s1 nl hl=>⟨⟨_,bo.of hl⟩,?_⟩⟩
  have NM:=s1 _ _ hf
  have hp1:=s1 _ _ hp
  have S:Src (vj K l) (az H1) (Lv.gc q).length (λi x H H3=>H3=H/\(List.map V.int (Lv.gc q))[i]?=some x):=by
   have:=src_list (K:=K) (a:=l) (xs:=List.map V.int (Lv.gc q)) (Ok:=az H1) (λH' s'=>bo.of (s' _ _ hl))
   rw[aac] at this
   exact this
  refine qw (Lv.gc q) (λg=>some (.bl (Lv.lk fs g).isSome)) S (λ_ _ _ _ h=>h.1) (by rw[sizeLine_eq];omega) ?_ ?_
  ·rintro i g x eg ⟨_,ex⟩ Y N y1 _
   rw[aaf,eg] at ex
   cases ex
   have:=gq g (aag eg)
   simp_all only[gA,NM,EH this.1 this.2]
   have:=y1 _ rfl
   rw[show(!decide (fC (Lv.lk fs g)=V.b9))=(Lv.lk fs g).isSome from by cases Lv.lk fs g <;>simp [fC]]
   exact this
  ·intro D n1 n2
   rw[dR]
   have Y2:List.map (λg=>V.bl (Lv.lk fs g).isSome) (Lv.gc q)=List.map V.bl ((Lv.gc q).map λg=>(Lv.lk fs g).isSome):=by rw[aaT];rfl
   rw[Y2]
   have sD:=ax (o:=.lst (List.map V.bl ((Lv.gc q).map λg=>(Lv.lk fs g).isSome))) n2
   have fin:=kk _ (s1.trans sD)
   rw[DY] at fin
   cases q with
   | fin w=>
    symm
    obtain⟨p',r',e,ia,_⟩:=cX.mp rq
    nofun
    cases e
    have tw:=sD _ _ (s1 _ _ ia)
    simp only[tw,at0]
    refine⟨_,rfl,_,rfl,rfl,?_⟩
    rw[if_neg (by ac_rfl)]
    refine⟨_,bo.of ar,?_⟩
    rw[List.all_map]
    exact fin
   | dA w ws=>
    symm
    obtain⟨p',r',l',xs,e,ia,_⟩:=cN.mp rq
    nofun
    cases e
    have tw:=sD _ _ (s1 _ _ ia)
    simp only[tw,at0]
    refine⟨_,rfl,_,rfl,rfl,?_⟩
    rw[if_pos (by ac_rfl)]
    refine⟨_,bo.of ar,?_⟩
    rw[List.any_map]
    exact fin
   | cD w to=>
    symm
    obtain⟨p',l',e,ia,_⟩:=cH.mp rq
    nofun
    cases e
    have tw:=sD _ _ (s1 _ _ ia)
    simp only[tw,at0]
    refine⟨_,rfl,_,rfl,rfl,?_⟩
    rw[if_neg (by ac_rfl)]
    refine⟨_,bo.of ar,?_⟩
    rw[List.all_map]
    exact fin
theorem gR:aQ ["board","found"] ["board","found"] (af (top 3)):=⟨rfl,rfl,rfl,by ac_rfl,rfl,by ac_rfl,by ac_rfl⟩
theorem GY (T:Txt K mg aA tc):bU P w K mg base (bN P w) 3 "ready_places" ["board","found"] xA:=by
 have wF:bU P w K mg base (bN P w) 2 "is_ready" ["place","found"] AY:=GX T
 refine T.oM.d3 (λ_ _ _ _ _ _=>d6 λ_ _=>rfl) λf fd F=>F.d5 gR (λvs H Q E h=>?_) (λcG A outer s H vs Q E hr h=>?_)
 ·obtain⟨_,_,_,_,rfl,_⟩:=h;rfl
 ·symm
  obtain⟨a,b,ff,fs,rfl,rb,hf,lf,lb,gl,gb,kk⟩:=h
  nofun
  have nd:=gR.nd
  refine⟨_,(au (aN (bO rfl (N:=["board","found"]) (so:=af (top 3)) (N':=["number","place","found"]) (k:=2) (fr:=[1]) rfl rfl ⟨rfl,by ac_rfl,by ac_rfl,by ac_rfl,rfl,by ac_rfl,by ac_rfl⟩ (cR (K:=K) rfl T.z_enumerate (aa (pv 0) ag (se rfl))) (λ_ _ _ _ _=>(bX (K:=K) (n:=2) rfl (aU (aG (i:=0) (show(["number","place","found"]:List Str).Nodup by ac_rfl) rfl (Or.inl rfl)) (aU (aG (i:=1) (show(["number","place","found"]:List Str).Nodup by ac_rfl) rfl (Or.inl rfl)) bV)))) (λ_ _ _ _ _=>(jI (PW.pt (pw_and (aO vA (aD aE (pv 2) (pv 0) (λ_ _=>rfl)) eL (aS _)) (pw_and1 (di (aK wF (hr.mono (by decide)) rfl aB.pass (aa (pv 1) (aa (pv 2) ag (se rfl)) (se rfl)) (he:=se rfl) (hpl:=na rfl))))))))
   (λ_ _ _ _ _=>(pv 0))))),?_⟩
  symm
  obtain⟨_,xs,e,ha,rl⟩:=aT.mp rb
  nofun
  cases e
  have lx:=rl.length
  rw[aac] at lx
  simp_all only[]
  refine⟨⟨_,bo.of ha⟩,?_⟩
  have S:Src (Jb K a) (az H) (List.range b.length).length (λi v H H3=>∃p x,H p=none/\v=.ref p/\xs[i]?=some x/\H3=upd H p (.tup [.int i,x])):=by rw[aay,lx];exact fK (λH' s'=>bo.of (s' _ _ ha))
  refine qx (K:=K) (List.range b.length) (λi=>if Lv.gO b fs i=true then some (fg i) else none) S (λi u v _=>u=.int i/\xs[i]?=some v) ?_ (by rw[aay,sizeLine_eq];omega) ?_ ?_
  ·intro i x H1 H2 hi s1 dI
   symm
   obtain⟨p,v,np,rfl,ev,rfl⟩:=dI
   nofun
   exact⟨ax np,p,_,_,rfl,dZ.of ar,rfl,ev⟩
  ·rintro i j u v H3 ej s3 ⟨rfl,ev⟩ Y N y1 n1
   have:j=i:=by
    obtain⟨h1,h2⟩:=List.getElem?_eq_some_iff.mp ej
    rw[List.getElem_range] at h2
    exact h2.symm
   subst this
   symm
   obtain⟨q,eq,rq⟩:=dN rl ev
   nofun
   have hj:j<b.length:=(List.getElem?_eq_some_iff.mp eq).1
   have Ct:=s3 _ _ hf
   have hq:=aag eq
   simp_all only[Ct,EH (show(0:Int)<=(j:Int) by omega) (show(j:Int)< (fs.length:Nat) by omega),AY]
   have er:Lv.gO b fs j=((Lv.lk fs (j:Int)).isNone && Lv.EC fs q):=by
    unfold Lv.gO Lv.lk
    rw[eq,aak]
   by_cases c:Lv.lk fs (j:Int)=none
   ·rw[if_pos (oQ.mpr c)]
    refine⟨q,rq.mono s3,fs,rfl,gl q hq,λg hg=>?_,λH4 s4=>?_⟩
    ·rw[lf];exact gb.lP q hq g hg
    ·by_cases c2:Lv.EC fs q=true
     ·rw[if_pos c2]
      exact y1 _ _ (by rw[if_pos (by rw[er,c,c2];rfl)];rfl) s4
     ·rw[if_neg c2]
      exact n1 _ (by rw[if_neg (by rw[er];simp [c2])]) s4
   ·rw[if_neg (λz=>c (oQ.mp z))]
    have nr:¬Lv.gO b fs j=true:=by
     rw[er]
     cases h:Lv.lk fs (j:Int) with
     | none=>exact absurd h c
     | some u=>simp
    exact n1 _ (if_neg nr) (az.refl _)
  ·intro H2 s2 D n1 n2
   have e:List.filterMap (λi=>if Lv.gO b fs i=true then some (fg i) else none) (List.range b.length)=List.map fg (Lv.fresh b fs):=dO fg (Lv.gO b fs) _
   rw[e]
   exact kk _ _ (s2.trans (ax n2)) (none_of s2 n2) ar
theorem qR:aQ ["board","found","level","fresh","number"] ["board"] (af (top 4)):=⟨rfl,rfl,rfl,by ac_rfl,rfl,by ac_rfl,by ac_rfl⟩
theorem GZ (T:Txt K mg aA tc):bU P w K mg base (bN P w) 4 "levels" ["board"] AZ:=by
 have iw:bU P w K mg base (bN P w) 3 "ready_places" ["board","found"] xA:=GY T
 refine T.AW.d3 (λ_ _ _ _ _ _=>iR λ_=>rfl) λf fd F=>F.d5 qR (λvs H Q E h=>?_) (λcG A outer s H vs Q E hr h=>?_)
 ·obtain⟨_,_,rfl,_⟩:=h;rfl
 ·symm
  obtain⟨a,b,rfl,rb,lb,gl,gb,kk⟩:=h
  nofun
  have nd:=qR.nd
  refine⟨_,(ae (gC (i:=1) rfl nd rfl rfl (N:=["board","found","level","fresh","number"]) (so:=af (top 4)) (N':=["place"]) (k:=1) (fr:=[]) rfl rfl ⟨rfl,by ac_rfl,by ac_rfl,by ac_rfl,rfl,by ac_rfl,by ac_rfl⟩ (bj (K:=K) (pv 0)) (λ_ _ _ _ _=>(aG (i:=0) (show(["place"]:List Str).Nodup by ac_rfl) rfl (Or.inl rfl))) (λ_ _ _ _ _=>bJ)
   (λ_ _ _ _ _=>(hG (aO cL (aD aH (pv 0) ao (λ_ _=>rfl)) cK (aS _)) ao eL)))
  (ae (aF (i:=2) nd rfl (Or.inl rfl) ao)
  (ae (aF (i:=3) nd rfl (Or.inl rfl) (aK iw (hr.mono (by decide)) rfl aB.pass (aa (pv 0) (aa (pv 1) ag (se rfl)) (se rfl)) (he:=se rfl) (hpl:=na rfl)))
  (ae (hJ PassesOwn.never (aO jD (aP bB (by rfl) T.z_len aat (aa (pv 3) ag (se rfl)) (he:=se rfl) (hpl:=na rfl)) ao (aS _)) (ae (cu PassesOwn.never rfl (bj (K:=K) (pv 3)) (aG (i:=4) nd rfl (Or.inl rfl)) (au (eM (pv 2) (fu (pv 1) (pv 4) set_list))))
  (ae (aF (i:=2) nd rfl (Or.inl rfl) (aI bA (pv 2) ao))
  (au (aF (i:=3) nd rfl (Or.inl rfl) (aK iw (hr.mono (by decide)) rfl aB.pass (aa (pv 0) (aa (pv 1) ag (se rfl)) (se rfl)) (he:=se rfl) (hpl:=na rfl)))))))
  (au (aN (pv 1))))))),?_⟩
  refine(?_:let cy:TS:=_;let cz:TS:=_;let cA:TS:=_;let du:TS:=_;let iy:TS:=_;tSeq cy (tSeq cz (tSeq cA (tSeq du iy))) _ _ _)
  intro cy cz cA du iy
  symm
  obtain⟨_,xs,e,ha,rl⟩:=aT.mp rb
  nofun
  cases e
  have lx:=rl.length
  rw[aac] at lx
  simp_all only[xA]
  refine⟨⟨_,bo.of ha⟩,?_⟩
  have S:Src (vj K a) (az H) b.length (λi x H H3=>H3=H/\xs[i]?=some x):=by rw[lx];exact src_list (λH' s'=>bo.of (s' _ _ ha))
  refine qw b (λq=>some (fC (Lv.Jg q))) S (λ_ _ _ _ h=>h.1) (by rw[sizeLine_eq];omega) ?_ ?_
  ·rintro i q x eq ⟨_,ex⟩ Y N y1 _
   symm
   obtain⟨q',Wi,rq⟩:=dN rl ex
   nofun
   rw[eq] at Wi
   cases Wi
   have:=y1 _ rfl
   cases q with
   | fin w=>
    symm
    obtain⟨p,r,rfl,hp,_⟩:=cX.mp rq
    nofun
    simp_all only[gA,hp]
    exact this
   | dA w ws=>
    symm
    obtain⟨p,r,l',ys,rfl,hp,_⟩:=cN.mp rq
    nofun
    simp_all only[gA,hp]
    rw[if_neg (by ac_rfl)]
    exact this
   | cD w to=>
    symm
    obtain⟨p,l',rfl,hp,_⟩:=cH.mp rq
    nofun
    simp_all only[gA,hp]
    rw[if_neg (by ac_rfl)]
    exact this
  ·intro ff n1 n2
   rw[dR,show List.map (λq=>fC (Lv.Jg q)) b=List.map fC (Lv.pG b) from by unfold Lv.pG;rw[aaT];rfl]
   have sD:=ax (o:=.lst (List.map fC (Lv.pG b))) n2
   refine⟨b,rb.mono sD,Lv.pG b,ar,by simp [Lv.pG],lb,gl,gb,λfr H1 s1 nf IU=>?_⟩
   have Y3:H1 ff=some (.lst (List.map fC (Lv.pG b))):=s1 _ _ ar
   have sH:=sD.trans s1
   refine t8 (YS H b a ff) (m:=b.length) ⟨_,_,_,_,rfl,Y3,IU,(λz=>by rw[z,ar] at nf;cases nf),sH,by simp [Lv.pG],by have:=Lv.oA (Lv.pG b);simpa [Lv.pG] using this,rfl⟩ ?_ ?_
   ·intro m σ H2 JK
    symm
    obtain⟨fs,L,fr,z,rfl,hf,y9,ne,s2,lf,nm,er⟩:=JK
    nofun
    simp_all only[]
    refine⟨_,y9,?_⟩
    by_cases c:Lv.fresh b fs=[]
    ·rw[c,if_neg (by simp)]
     have:Lv.run b m fs L=fs:=by
      cases m with
      | zero=>rfl
      | succ m=>
       show(if Lv.fresh b fs=[] then fs else _)=fs
       rw[if_pos c]
     rw[this] at er
     subst er
     exact kk _ _ s2 n2 hf
    ·have l0:(0:Int)< ((List.map fg (Lv.fresh b fs)).length:Nat):=by
      rw[aac]
      have:=List.length_pos_iff.mpr c
      omega
     rw[if_pos l0]
     have lfr:(Lv.fresh b fs).length<=1000:=by
      have:(Lv.fresh b fs).length<=b.length:=by
       have:=List.length_filter_le (Lv.gO b fs) (List.range b.length)
       rwa [aay] at this
      omega
     refine⟨⟨_,bo.of y9⟩,bP (src_list (Ok:=λH'=>H' fr=some (.lst (List.map fg (Lv.fresh b fs)))) (λH' e=>bo.of e))
      (λj σ H'=>H' fr=some (.lst (List.map fg (Lv.fresh b fs)))/\H' ff=some (.lst (List.map fC (Lv.cO fs ((Lv.fresh b fs).take j) L)))/\az H H'/\∃z,σ=[some (V.ref a),some (V.ref ff),some (V.int L),some (V.ref fr),z])
      ⟨y9,by rw[List.take_zero];exact hf,s2,_,rfl⟩ (λ_ _ _ _ h=>h.1) ?_ ?_⟩
     ·intro j x σ H3 H4 hj dI dJ
      symm
      obtain⟨h3,f3,s3,z,rfl⟩:=dI
      obtain⟨rfl,hx⟩:=dJ
      rw[aaf] at hx
      obtain⟨i,ei,rfl⟩:=Option.map_eq_some_iff.mp hx
      nofun
      have hi:=(Lv.iG.mp (aag ei)).1
      simp_all only[gSub,rSetL,fg]
      have ix:wV (List.map fC (Lv.cO fs ((Lv.fresh b fs).take j) L)).length (i:Int)=some i:=by
       unfold wV
       rw[if_pos (by omega),aac,Lv.m4,if_pos (by omega)]
       congr 1
      refine⟨_,f3,i,ix,by rw[aJ ne];exact h3,?_,aZ s3 n2,_,rfl⟩
      rw[ar,aaF,ei]
      show some (HO.lst ((List.map fC _).set i (fC (some L))))=_
      rw[<-List.map_set]
      congr 3
      unfold Lv.cO
      rw[List.foldl_append]
      rfl
     ·intro σ H3 bH
      symm
      obtain⟨h3,f3,s3,z,rfl⟩:=bH
      nofun
      rw[aac,aaH (aah _)] at f3
      simp_all only[xA]
      refine⟨b,rb.mono s3,_,f3,by rw[Lv.m4];exact lf,lb,gl,gb,λfr2 H4 s4 n4 h4=>?_⟩
      have lt:=Lv.kF lf c L
      cases m with
      | zero=>omega
      | succ m=>
       refine⟨m,aaM _,_,_,_,_,rfl,s4 _ _ f3,h4,(λz=>by rw[z,f3] at n4;cases n4),s3.trans s4,by rw[Lv.m4];exact lf,by omega,?_⟩
       rw[<-er]
       show _=(if Lv.fresh b fs=[] then fs else _)
       rw[if_neg c]
   ·intro σ H1 Q1 Q2 hq hc
    simp only[L2.start,Pr,tRev,tD1,tDPop1,tSl,tNoPart,tPart,rSlL,tDIn,tDNotIn,gSub,rSetL,tLst,tDNewK,tComp,L2.stC,tFor_eq,iList,iTup,iRng1,iRng2,iZip,iEnum,iDict,iStr,tChain,tSumV,tBM,tRaise,tDGet,tDGet2,tDGet1,sDPut,Option.join_some,List.getElem?_nil,tSeq,tRet,tRetN,tIfS,tTest,tB,tOp,tUn,tVar,tC,tCB,tCons,tNil,tCall,tTupS,tAsg,gName,gNil,gCons,tPar,tNext,tDrop,tAnd,tOr,tNot,tAndV,tOrV,tNotV,tIf,rI,rI0,rU,rIxTH,rIxLH,rEqT,rNeT,rInT,rEq,rNe,scal_ss,scal_ii,scal_bb,scal_si,scal_is,CPow,at0,at1,at2,aaz,aa2,aaq,abb,Nat.reduceSub,Nat.reduceAdd,aaV,abw,List.reduceReplicate,aaY,List.nil_append,abo,abp,abi,abf,abg,abq,exists_eq_left',exists_eq_left,V.ref.injEq,V.int.injEq,V.bl.injEq,V.str.injEq,V.ty.injEq,HO.tup.injEq,HO.lst.injEq,List.cons.injEq,and_true,true_and,and_assoc,exists_and_left,decide_eq_true_eq,Bool.not_eq_true',decide_eq_false_iff_not,ite_true,ite_false,if_true,if_false,Int.reduceToNat,eq_self_iff_true] at hc ⊢
    symm
    obtain⟨v,e1,ys,e2,xs,e3,q⟩:=hc
    nofun
    exact⟨v,e1,ys,e2,xs,e3,hq _ _ q⟩
theorem ya:aQ ["board"] ["board"] (af (top 5)):=⟨rfl,rfl,rfl,by ac_rfl,rfl,by ac_rfl,by ac_rfl⟩
theorem DZ (T:Txt K mg aA tc):bU P w K mg base (bN P w) 5 "ring" ["board"] v9:=by
 have B1:bU P w K mg base (bN P w) 4 "levels" ["board"] AZ:=GZ T
 refine T.Gb.d3 (λ_ _ _ _ _ _=>iR λ_=>rfl) λf fd F=>F.d5 ya (λvs H Q E h=>?_) (λcG A outer s H vs Q E hr h=>?_)
 ·obtain⟨_,_,rfl,_⟩:=h;rfl
 ·symm
  obtain⟨a,b,rfl,rb,B,kk⟩:=h
  nofun
  have nd:=ya.nd
  refine⟨_,(au (aN (bO rfl (N:=["board"]) (so:=af (top 5)) (N':=["number","level"]) (k:=2) (fr:=[]) rfl rfl ⟨rfl,by ac_rfl,by ac_rfl,by ac_rfl,rfl,by ac_rfl,by ac_rfl⟩ (cR (K:=K) rfl T.z_enumerate (aa (aK B1 (hr.mono (by decide)) rfl aB.pass (aa (pv 0) ag (se rfl)) (he:=se rfl) (hpl:=na rfl)) ag (se rfl))) (λ_ _ _ _ _=>(bX (K:=K) (n:=2) rfl (aU (aG (i:=0) (show(["number","level"]:List Str).Nodup by ac_rfl) rfl (Or.inl rfl)) (aU (aG (i:=1) (show(["number","level"]:List Str).Nodup by ac_rfl) rfl (Or.inl rfl)) bV)))) (λ_ _ _ _ _=>(jI (aO vA (pv 1) eL (aS _))))
   (λ_ _ _ _ _=>(pv 0))))),?_⟩
  simp_all only[AZ]
  refine⟨b,rb,B.len,B.tX,B.good,λf1 H1 s1 nf hf=>⟨⟨_,bo.of hf⟩,?_⟩⟩
  have ll:=Lv.Di B.good
  have bl:=B.len
  have S:Src (Jb K f1) (az H1) (List.range b.length).length (λi v H H3=>∃p x,H p=none/\v=.ref p/\(List.map fC (Lv.ub b))[i]?=some x/\H3=upd H p (.tup [.int i,x])):=by
   have:=fK (K:=K) (a:=f1) (xs:=List.map fC (Lv.ub b)) (Ok:=az H1) (λH' s'=>bo.of (s' _ _ hf))
   rw[aac,ll] at this
   rw[aay]
   exact this
  refine qx (K:=K) (List.range b.length) (λi=>if (Lv.lk (Lv.ub b) (i:Int)).isNone=true then some (fg i) else none) S (λi u v _=>u=.int i/\v=fC (Lv.lk (Lv.ub b) (i:Int))) ?_ (by rw[aay,sizeLine_eq];omega) ?_ ?_
  ·intro i x H2 H3 hi s2 dI
   symm
   obtain⟨p,v,np,rfl,ev,rfl⟩:=dI
   nofun
   refine⟨ax np,p,_,_,rfl,dZ.of ar,rfl,?_⟩
   rw[aaf] at ev
   symm
   obtain⟨o,eo,rfl⟩:=Option.map_eq_some_iff.mp ev
   nofun
   unfold Lv.lk
   rw[aak,aae,eo]
   rfl
  ·rintro i j u v H3 ej s3 ⟨rfl,rfl⟩ Y N y1 n1
   have:j=i:=by
    obtain⟨h1,h2⟩:=List.getElem?_eq_some_iff.mp ej
    rw[List.getElem_range] at h2
    exact h2.symm
   subst this
   simp_all only[]
   cases h:Lv.lk (Lv.ub b) (j:Int) with
   | none=>
    rw[if_pos (oQ.mpr rfl)]
    exact y1 _ _ (by rw[h];rfl) (az.refl _)
   | some x=>
    rw[if_neg (by simp [fC])]
    exact n1 _ (by rw[h];rfl) (az.refl _)
  ·intro H2 s2 D n1 n2
   have e:List.filterMap (fun(i:Nat)=>if (Lv.lk (Lv.ub b) (i:Int)).isNone=true then some (fg i) else none) (List.range b.length)=List.map fg (oR b):=dO fg (fun(i:Nat)=>(Lv.lk (Lv.ub b) (i:Int)).isNone) _
   rw[e]
   exact kk _ _ (s1.trans (s2.trans (ax n2))) (none_of (s1.trans s2) n2) ar
theorem iX:aQ ["board","start","steps","found","turn","here","way","to"] ["board","start"] (af (top 22)):=⟨rfl,rfl,rfl,by ac_rfl,rfl,by ac_rfl,by ac_rfl⟩
theorem G1 (T:Txt K mg aA tc):bU P w K mg base (bN P w) 2 "steps_from" ["board","start"] xB:=by
 have sS:bU P w K mg base (bN P w) 1 "goals" ["place"] uA:=BZ T
 refine T.rN.d3 (λ_ _ _ _ _ _=>d6 λ_ _=>rfl) λf fd F=>F.d5 iX (λvs H Q E h=>?_) (λcG A outer s H vs Q E hr h=>?_)
 ·obtain⟨_,_,_,rfl,_⟩:=h;rfl
 ·symm
  obtain⟨a,b,st,rfl,rb,lb,tX,gb,h0,h1,kk⟩:=h
  nofun
  clear G_
  have nd:=iX.nd
  refine⟨_,(ae (aF (i:=2) nd rfl (Or.inl rfl) (Jh (pv 1) eL))
  (ae (aF (i:=3) nd rfl (Or.inl rfl) (cV (aa (pv 1) ag (se rfl))))
  (ae (aF (i:=4) nd rfl (Or.inl rfl) ao)
  (ae (hJ PassesOwn.never (aO nP (pv 4) (aP bB (by rfl) T.z_len aat (aa (pv 3) ag (se rfl)) (he:=se rfl) (hpl:=na rfl)) (aS _)) (ae (aF (i:=5) nd rfl (Or.inl rfl) (aD aE (pv 3) (pv 4) (λ_ _=>rfl)))
  (ae (cu PassesOwn.never rfl (cR (K:=K) rfl T.z_enumerate (aa (aK sS (hr.mono (by decide)) rfl aB.pass (aa (aD aE (pv 0) (pv 5) (λ_ _=>rfl)) ag (se rfl)) (he:=se rfl) (hpl:=na rfl)) ag (se rfl))) (bX (K:=K) (n:=2) rfl (aU (aG (i:=6) nd rfl (Or.inl rfl)) (aU (aG (i:=7) nd rfl (Or.inl rfl)) bV))) (au (bF (vg (yE (qq hr) (pv 7) (pv 2))) (ae (wY (qq hr) (pv 2) (pv 7) (bL (aa (pv 5) (aa (pv 6) ag (se rfl)) (se rfl))) rfl)
  (au (c5 (fi aaO aa7 aa8 cM.r (pv 3) (aa (pv 7) ag (se rfl))))))
   ba)))
  (au (aF (i:=4) nd rfl (Or.inl rfl) (aI bA (pv 4) ao))))))
  (au (aN (pv 2))))))),?_⟩
  refine(?_:let cy:TS:=_;let cz:TS:=_;let cA:TS:=_;let du:TS:=_;let iy:TS:=_;tSeq cy (tSeq cz (tSeq cA (tSeq du iy))) _ _ _)
  intro cy cz cA du iy
  symm
  obtain⟨_,xs,e,ha,rl⟩:=aT.mp rb
  nofun
  clear G_
  cases e
  have lx:=rl.length
  rw[aac] at lx
  simp_all only[]
  intro d NN
  refine⟨Sum.inl st,rfl,ar,by decide,λf1 nf=>?_⟩
  have Y4:upd (upd H d (.dK [])) d (.dK [(Sum.inl st,V.b9)])=upd H d (.dK [(Sum.inl st,V.b9)]):=Cv
  rw[Y4] at nf ⊢
  have sd:=ax (o:=.dK [(Sum.inl st,V.b9)]) NN
  have sf:=ax (o:=.lst [V.int st]) nf
  have Wj:f1≠d:=λz=>by rw[z,ar] at nf;cases nf
  have Y5:H f1=none:=none_of sd nf
  have D0:fO (upd (upd H d (.dK [(Sum.inl st,V.b9)])) f1 (.lst [V.int st])) d [(st,none,[])]:=by
   refine⟨_,sf _ _ ar,rfl,λi e he=>?_⟩
   match i,he with
   | 0,he=>cases he;exact⟨_,rfl,rfl⟩
  have NM:(upd (upd H d (.dK [(Sum.inl st,V.b9)])) f1 (.lst [V.int st])) f1=some (.lst [V.int st]):=ar
  have sH:=sd.trans sf
  generalize upd (upd H d (.dK [(Sum.inl st,V.b9)])) f1 (.lst [V.int st])=H1 at *
  refine t8 (YT H b a d f1 st) (m:=b.length+1) ⟨0,[(st,none,[])],_,_,_,rfl,D0,NM,sH,Bf.Ax h0 h1,rfl,by omega⟩ ?_ ?_
  ·intro m σ H2 JK
   symm
   obtain⟨t,es,z5,z6,z7,rfl,dr,hf,s2,I,eb,lt⟩:=JK
   nofun
   clear G_
   have lk:(Bf.keys es).length=es.length:=by unfold Bf.keys;rw[aac]
   have fw:=I.toCore.tX
   simp_all only[]
   refine⟨_,hf,?_⟩
   rw[aac,lk]
   by_cases c:t<es.length
   ·rw[if_pos (by omega)]
    have et:es[t]?=some es[t]:=aad c
    generalize es[t]=e at et
    have rg:=I.lP e (aag et)
    have ee:((e.1.toNat:Nat):Int)=e.1:=abj rg.1
    have hb:e.1.toNat<b.length:=by omega
    have Wk:b[e.1.toNat]?=some b[e.1.toNat]:=aad hb
    symm
    obtain⟨v,ev,rv⟩:=dq rl Wk
    nofun
    clear G_
    have hq:=aan hb
    generalize b[e.1.toNat]=q at *
    have ga:Bf.fF b e.1=Lv.gc q:=by unfold Bf.fF;rw[Wk]
    have av:eE xs e.1=some v:=by rw[<-ee];exact bE ev
    have ak:eE (List.map V.int (Bf.keys es)) (t:Int)=some (V.int e.1):=ie (by unfold Bf.keys;rw[aaf,et];rfl)
    simp only[hf,ak,s2 _ _ ha,av,abq,HO.lst.injEq,exists_eq_left',V.int.injEq,V.ref.injEq,uA]
    refine⟨v,q,rfl,rv.mono s2,tX q hq,λl H3 s3 nl hl=>⟨⟨_,bo.of hl⟩,?_⟩⟩
    have Y6:=dr.mono s3
    have Ct:=s3 _ _ hf
    have Y7:l≠d:=λz=>by
     symm
     obtain⟨kvs,hd,_⟩:=dr.ex
     nofun
     rw[z,hd] at nl;cases nl
    have JL:l≠f1:=λz=>by rw[z,hf] at nl;cases nl
    refine bP (fK (Ok:=λH'=>H' l=some (.lst (List.map V.int (Lv.gc q)))) (λH' e=>bo.of e)) (YU H a d f1 l st t e (Lv.gc q) es) ⟨⟨_,_,rfl⟩,Y6,Ct,hl,s2.trans s3⟩ (λ_ _ _ _ h=>h.hl) ?_ ?_
    ·intro i x σ H4 H5 hi dI dJ
     symm
     obtain⟨⟨z6,z7,rfl⟩,L9,D1,yb,s4⟩:=dI
     obtain⟨p,y,np,rfl,ey,rfl⟩:=dJ
     rw[aac] at hi
     rw[aaf] at ey
     obtain⟨g,eg,rfl⟩:=Option.map_eq_some_iff.mp ey
     nofun
     clear G_
     have s5:=ax (o:=.tup [.int i,.int g]) np
     refine⟨p,_,rfl,dZ.of ar,rfl,?_⟩
     have NO:=L9.mono s5
     have Wl:=s5 _ _ D1
     have JM:=s5 _ _ yb
     have Wm:=s4.trans s5
     generalize upd H4 p (.tup [.int i,.int g])=H5 at *
     have M:=Bf.oB gb ((Lv.gc q).take i) 0 es (Bf.Az I et) λj x hx=>by
      rw[aaV,ga]
      have hj:=(List.getElem?_eq_some_iff.mp hx).1
      rw[aaZ] at hj
      rwa [List.getElem?_take_of_lt (by omega)] at hx
     have tk:(Lv.gc q).take (i+1)=(Lv.gc q).take i++ [g]:=by rw[aaF,eg];rfl
     have Y8:((Lv.gc q).take i).length=i:=by rw[aaZ];omega
     have nx:=qH (here:=e.1) (path:=e.2.2) ((Lv.gc q).take i) 0 es g
     rw[<-tk,Y8,aaV] at nx
     have Y9:=M.toCore.tX
     generalize Bf.gF e.1 e.2.2 0 ((Lv.gc q).take i) es=ei at *
     symm
     obtain⟨o,go,ho⟩:=NO.has M.nd g
     nofun
     simp_all only[]
     refine⟨o,go,?_⟩
     rw[ho]
     by_cases cg:g∈Bf.keys ei
     ·rw[if_neg (by simpa using cg)]
      rw[if_pos cg] at nx
      exact⟨⟨_,_,rfl⟩,by rw[nx];exact NO,by rw[nx];exact Wl,JM,Wm⟩
     ·rw[if_pos (by simpa using cg)]
      rw[if_neg cg] at nx
      refine⟨by decide,λp6 H6 s6 np6 e6=>?_⟩
      obtain⟨o7,pt,Za⟩:=(NO.mono s6).put (par:=some (e.1,i)) (path:=e.2.2++ [i]) cg ⟨p6,rfl,e6⟩ (by rw[sizeLine_eq];omega)
      have JN:=s6 _ _ Wl
      have D3:=s6 _ _ JM
      have NP:upd H6 d o7 f1=some (.lst (List.map V.int (Bf.keys ei))):=by rw[aJ Wj];exact JN
      have lke:(Bf.keys ei).length=ei.length:=by unfold Bf.keys;rw[aac]
      refine⟨_,pt,.inl ⟨rfl,_,bo.of NP⟩,f1,_,_,rfl,rfl,NP,by rw[aac,sizeLine_eq];omega,?_⟩
      have sF:az H (upd (upd H6 d o7) f1 (.lst (List.map V.int (Bf.keys ei)++ [V.int g]))):=aZ (aZ (Wm.trans s6) NN) Y5
      refine⟨⟨_,_,rfl⟩,?_,?_,?_,sF⟩
      ·rw[nx]
       symm
       obtain⟨kvs,k1,k2,k3⟩:=Za.ex
       nofun
       refine⟨kvs,by rw[aJ (Ne.symm Wj)];exact k1,k2,λj x hx=>?_⟩
       symm
       obtain⟨v,v1,v2⟩:=k3 j x hx
       nofun
       exact⟨v,v1,v2.upd λys z=>by rw[NP] at z;cases z⟩
      ·rw[nx,ar]
       unfold Bf.keys
       rw[aaB,aaB]
       rfl
      ·rw[aJ JL,aJ Y7]
       exact D3
    ·intro σ H4 bH
     symm
     obtain⟨⟨z6,z7,rfl⟩,L9,D1,yb,s4⟩:=bH
     nofun
     rw[aac,aaH (aah _),<-ga] at L9 D1
     simp_all only[]
     cases m with
     | zero=>omega
     | succ m=>
      refine⟨m,aaM _,⟨t+1,_,_,_,_,rfl,L9,D1,s4,Bf.turn gb I et,?_,by omega⟩⟩
      rw[<-eb]
      show _=(match es[t]? with | none=>es | some e=>Bf.Cp b m (t+1) (Bf.gF e.1 e.2.2 0 (Bf.fF b e.1) es))
      rw[et]
   ·rw[if_neg (by omega)]
    have:Bf.Cp b m t es=es:=by
     cases m with
     | zero=>rfl
     | succ m=>
      show(match es[t]? with | none=>es | some e=>Bf.Cp b m (t+1) (Bf.gF e.1 e.2.2 0 (Bf.fF b e.1) es))=es
      rw[aar (by omega)]
    rw[this] at eb
    subst eb
    exact kk _ _ s2 NN dr
  ·intro σ H1 Q1 Q2 hq hc
   simp only[L2.start,Pr,tRev,tD1,tDPop1,tSl,tNoPart,tPart,rSlL,tDIn,tDNotIn,gSub,rSetL,tLst,tDNewK,tComp,L2.stC,tFor_eq,iList,iTup,iRng1,iRng2,iZip,iEnum,iDict,iStr,tChain,tSumV,tBM,tRaise,tDGet,tDGet2,tDGet1,sDPut,Option.join_some,List.getElem?_nil,tSeq,tRet,tRetN,tIfS,tTest,tB,tOp,tUn,tVar,tC,tCB,tCons,tNil,tCall,tTupS,tAsg,gName,gNil,gCons,tPar,tNext,tDrop,tAnd,tOr,tNot,tAndV,tOrV,tNotV,tIf,rI,rI0,rU,rIxTH,rIxLH,rEqT,rNeT,rInT,rEq,rNe,scal_ss,scal_ii,scal_bb,scal_si,scal_is,CPow,at0,at1,at2,aaz,aa2,aaq,abb,Nat.reduceSub,Nat.reduceAdd,aaV,abw,List.reduceReplicate,aaY,List.nil_append,abo,abp,abi,abf,abg,abq,exists_eq_left',exists_eq_left,V.ref.injEq,V.int.injEq,V.bl.injEq,V.str.injEq,V.ty.injEq,HO.tup.injEq,HO.lst.injEq,List.cons.injEq,and_true,true_and,and_assoc,exists_and_left,decide_eq_true_eq,Bool.not_eq_true',decide_eq_false_iff_not,ite_true,ite_false,if_true,if_false,Int.reduceToNat,eq_self_iff_true] at hc ⊢
   symm
   obtain⟨v,e1,v1,e2,p,e3,x,e4,i,e5,q⟩:=hc
   nofun
   exact⟨v,e1,v1,e2,p,e3,x,e4,i,e5,hq _ _ q⟩
theorem yc (p:Int->Bool):∀l:List Int,l.filterMap (λo=>if p o=true then some o else none)=l.filter p
 | []=>rfl
 | x::l=>by
  rw[abt,List.filter_cons,yc p l]
  by_cases c:p x=true
  ·simp [c]
  ·simp [c]
noncomputable def o6 (H:Hp) (x:Addr):Int:=match H x with
 | some (.lst (.int j::_))=>j
 | _=>0
noncomputable def B2 (tp:Addr):Sp:=λvs H Q _=>∃a b,vs=[.ref a]/\Rep H (ou b) (.ref a)/\b.length<=63/\(∀q∈b,(Lv.gc q).length<=100)/\Lv.Good b/\H tp=some (.tu dsc)/\
 ∀l ps as H',Pr.Told b ps->az H H'->H l=none->H' l=some (.lst (List.map V.ref as))->Al (λp v=>∃x,v=.ref x/\H' x=some (.lst (List.map V.int (Pr.c9 b p)))/\H x=none) ps (as.map V.ref)->Q (.ref l) H'
theorem uU:aQ ["board","reach","found","place","part"] ["board"] (af (top 23)):=⟨rfl,rfl,rfl,by ac_rfl,rfl,by ac_rfl,by ac_rfl⟩
theorem G3 (T:Txt K mg aA tc) (LB:pO base mg tc tp):bU P w K mg base (bN P w) 3 "parts" ["board"] (B2 tp):=by
 have sT:bU P w K mg base (bN P w) 2 "steps_from" ["board","start"] xB:=G1 T
 refine T.Dv.NA T.Dx (λ_ _ _ _ _ _=>iR λ_=>rfl) λf fd F hc=>F.YM hc uU (λvs H Q E h=>?_) (λA outer s H vs Q E hr h=>?_)
 ·obtain⟨_,_,rfl,_⟩:=h;rfl
 ·symm
  obtain⟨a,b,rfl,rb,lb,tX,gb,lE,kk⟩:=h
  nofun
  clear G_
  have nd:=uU.nd
  refine⟨_,(ae (aF (i:=1) nd rfl (Or.inr rfl) (bO rfl (N:=["board","reach","found","place","part"]) (so:=af (top 23)) (N':=["start","board"]) (k:=1) (fr:=[0]) rfl rfl ⟨rfl,by ac_rfl,by ac_rfl,by ac_rfl,rfl,by ac_rfl,by ac_rfl⟩ (c6 rfl T.z_range (aa (aP bB (by rfl) T.z_len aat (aa (pv 0) ag (se rfl)) (he:=se rfl) (hpl:=na rfl)) ag (se rfl))) (λ_ _ _ _ _=>(aG (i:=0) (show(["start","board"]:List Str).Nodup by ac_rfl) rfl (Or.inl rfl))) (λ_ _ _ _ _=>bJ)
   (λ_ _ _ _ _=>(aK sT (hr.mono (by decide)) rfl aB.pass (aa (pv 1) (aa (pv 0) ag (se rfl)) (se rfl)) (he:=se rfl) (hpl:=na rfl)))))
  (ae (aF (i:=2) nd rfl (Or.inl rfl) (cV ag))
  (ae (cu PassesOwn.never rfl (c6 rfl T.z_range (aa (aP bB (by rfl) T.z_len aat (aa (pv 0) ag (se rfl)) (he:=se rfl) (hpl:=na rfl)) ag (se rfl))) (aG (i:=3) nd rfl (Or.inr rfl)) (ae (gC (i:=4) rfl nd rfl rfl (N:=["board","reach","found","place","part"]) (so:=af (top 23)) (N':=["other","reach","place"]) (k:=1) (fr:=[1,3]) rfl rfl ⟨rfl,by ac_rfl,by ac_rfl,by ac_rfl,rfl,by ac_rfl,by ac_rfl⟩ (bj (K:=K) (aP oj (by rfl) T.z_sorted rfl (aa (aD aE (pv 1) (pv 3) (λ_ _=>rfl)) ag (se rfl)) (he:=se rfl) (hpl:=na rfl))) (λ_ _ _ _ _=>(aG (i:=0) (show(["other","reach","place"]:List Str).Nodup by ac_rfl) rfl (Or.inl rfl))) (λ_ _ _ _ _=>(jI (vg (zV (qq hr) (pv 2) (aD aE (pv 1) (pv 0) (λ_ _=>rfl))))))
   (λ_ _ _ _ _=>(pv 0)))
  (au (bF (aO cL (aD aE (pv 4) ao (λ_ _=>rfl)) (pv 3) (aS _)) (au (c5 (fi aaO aa7 aa8 cM.r (pv 2) (aa (pv 4) ag (se rfl)))))
   ba))))
  (au (aN (AQ (i:=1) (dsc:=dsc) (t0:=0) rfl T.z_sorted T.z_len LB rfl hr rfl (pv 2))))))),?_⟩
  refine(?_:let cy:TS:=_;let cz:TS:=_;let cA:TS:=_;let du:TS:=_;tSeq cy (tSeq cz (tSeq cA du)) _ _ _)
  intro cy cz cA du
  have sl:=sizeLine_eq
  symm
  obtain⟨_,xs,e,ha,rl⟩:=aT.mp rb
  nofun
  clear G_
  cases e
  have lx:=rl.length
  rw[aac] at lx
  change tSeq _ _ _ _ _
  refine aR (λσ' H1=>az H H1/\∃r ys,H1 r=some (.lst ys)/\ys.length=b.length/\(∀(i:Nat) y,ys[i]?=some y->∃d,y=.ref d/\fO H1 d (Bf.steps b (i:Int)))/\σ'=[some (.ref a),some (.ref r),none,none,none]) ?_ (λN hN=>?_)
  case refine_2=>
   simp_all only[xB]
   refine⟨_,ha,by omega,by omega,?_⟩
   refine comp_map src_range (λ_ _ _ _ h=>by rw[h.1];exact az.refl _) (by omega) (λi y H4=>∃d,y=.ref d/\fO H4 d (Bf.steps b (i:Int))) (λi y H4 H5 s5 ⟨d,e,h⟩=>⟨d,e,h.mono s5⟩) ?_ ?_
   ·rintro i x w0 H4 H5 Q2 hi s4 ⟨rfl,rfl⟩ kq
    simp_all only[xB,Int.zero_add]
    exact⟨b,rb.mono s4,by omega,tX,gb,by omega,by omega,λd H6 s6 n6 dr=>kq _ _ s6 ⟨d,rfl,dr⟩⟩
   ·intro ys H5 s5 ly hy D n1 n2
    refine hN _ _ ⟨s5.trans (ax n2),D,ys,ar,by omega,λi y e=>?_,rfl⟩
    symm
    obtain⟨d,e1,h1⟩:=hy i y e
    nofun
    exact⟨d,e1,h1.mono (ax n2)⟩
  intro _ H1 bH
  symm
  obtain⟨s1,r,ys,JO,ly,hy,rfl⟩:=bH
  nofun
  clear G_
  change tSeq _ _ _ _ _
  refine aR (λσ' H2=>∃fa,H1 fa=none/\az H1 H2/\H2 fa=some (.lst [])/\σ'=[some (.ref a),some (.ref r),some (.ref fa),none,none]) ?_ (λN hN=>?_)
  case refine_2=>
   simp_all only[]
   exact⟨aas _,λfa nf=>hN _ _ ⟨fa,nf,ax nf,ar,rfl⟩⟩
  intro _ H2 bH
  symm
  obtain⟨fa,nf,s2,JP,rfl⟩:=bH
  nofun
  clear G_
  have G4:∀i:Nat,i<b.length->∃d kvs,ys[i]?=some (.ref d)/\fO H1 d (Bf.steps b (i:Int))/\H1 d=some (.dK kvs)/\ib kvs=Pr.kb b (i:Int)/\(∀p∈kvs,∃k,p.1=Sum.inl k)/\kvs.length=(Pr.kb b (i:Int)).length:=λi hi=>by
   symm
   obtain⟨d,e,dr⟩:=hy i _ (aad (by omega))
   obtain⟨kvs,hd,hk,_⟩:=dr.ex
   nofun
   refine⟨d,kvs,by rw[aad (by omega),e],dr,hd,?_,λp hp=>?_,?_⟩
   ·have:ib kvs=(kvs.map (·.1)).map (λk:Key=>match k with | .inl i=>i | .inr _=>(0:Int)):=by
     unfold ib
     rw[aaT]
     rfl
    rw[this,hk,aaT]
    unfold Pr.kb
    simp [Function.comp_def]
   ·have:p.1∈(Bf.keys (Bf.steps b (i:Int))).map Sum.inl:=by rw[<-hk];exact List.mem_map.mpr ⟨p,hp,rfl⟩
    symm
    obtain⟨k,_,e⟩:=List.mem_map.mp this
    nofun
    exact⟨k,e.symm⟩
   ·have:=congrArg List.length hk
    rw[aac,aac] at this
    exact this
  change tSeq _ _ _ _ _
  refine aR (λσ' H3=>az H1 H3/\∃as,H3 fa=some (.lst (List.map V.ref as))/\Al (λp v=>∃x,v=.ref x/\H3 x=some (.lst (List.map V.int (Pr.c9 b p)))/\H1 x=none) (Pr.me b b.length) (as.map V.ref)/\∃z3 z4,σ'=[some (.ref a),some (.ref r),some (.ref fa),z3,z4]) ?_ (λN hN=>?_)
  case refine_2=>
   simp_all only[]
   refine⟨_,s2 _ _ (s1 _ _ ha),by omega,by omega,?_⟩
   refine bP (src_range (Ok:=λ_=>True)) (λi σ H3=>az H1 H3/\∃as,H3 fa=some (.lst (List.map V.ref as))/\Al (λp v=>∃x,v=.ref x/\H3 x=some (.lst (List.map V.int (Pr.c9 b p)))/\H1 x=none/\x≠fa) (Pr.me b i) (as.map V.ref)/\∃z3 z4,σ=[some (.ref a),some (.ref r),some (.ref fa),z3,z4]) ⟨s2,[],JP,trivial,_,_,rfl⟩ (λ_ _ _ _ _=>trivial) ?_ ?_
   ·intro i x σ H3 H4 hi dI dJ
    symm
    obtain⟨s3,as,Ct,al,z3,z4,rfl⟩:=dI
    obtain⟨rfl,rfl⟩:=dJ
    nofun
    clear G_
    simp_all only[Int.zero_add]
    have Zb:i<b.length:=by omega
    have wG:Pr.In b (i:Int):=⟨by omega,by omega⟩
    symm
    obtain⟨d,kvs,ed,dr,hd,ek,ka,kl⟩:=G4 i Zb
    nofun
    clear G_
    have kbl:=Pr.A5 gb wG
    refine⟨ys,s3 _ _ JO,.ref d,bE ed,d,rfl,kvs,.inl (s3 _ _ hd),ka,by omega,λl nl=>?_⟩
    rw[ek]
    have sL:=ax (o:=.lst (List.map V.int (Nm.mY (Pr.kb b (i:Int))))) nl
    have JM:(upd H4 l (.lst (List.map V.int (Nm.mY (Pr.kb b (i:Int)))))) l=some (.lst (List.map V.int (Nm.mY (Pr.kb b (i:Int))))):=ar
    generalize upd H4 l (.lst (List.map V.int (Nm.mY (Pr.kb b (i:Int)))))=H5 at *
    refine⟨⟨_,bo.of JM⟩,?_⟩
    have S:Src (vj K l) (az H5) (Nm.mY (Pr.kb b (i:Int))).length (λj x H H3=>H3=H/\(List.map V.int (Nm.mY (Pr.kb b (i:Int))))[j]?=some x):=by
     have:=src_list (K:=K) (a:=l) (xs:=List.map V.int (Nm.mY (Pr.kb b (i:Int)))) (Ok:=az H5) (λH' s'=>bo.of (s' _ _ JM))
     rw[aac] at this
     exact this
    refine dm (Nm.mY (Pr.kb b (i:Int))) (λo=>if decide ((i:Int)∈Pr.kb b o)=true then some o else none) S (λ_ _ _ _ h=>h.1) (by rw[Nm.oi];omega) ?_ ?_
    ·rintro j o x eo ⟨_,ex⟩ Y N1 y1 n1
     rw[aaf,eo] at ex
     cases ex
     have ho:=Nm.xk.mp (aag eo)
     obtain⟨Wn,Zc⟩:=Pr.oU gb wG ho
     obtain⟨o,rfl⟩:=aav Wn
     symm
     obtain⟨d2,Ze,Ny,Zf,hd2,ek2,ka2,kl2⟩:=G4 o (by omega)
     obtain⟨oo,g1,g2⟩:=(Zf.mono (s3.trans sL)).has (Pr.oS gb ⟨Wn,Zc⟩) (i:Int)
     nofun
     simp_all only[s3.trans sL _ _ JO,show eE ys (o:Int)=some (.ref d2) from bE Ny]
     refine⟨oo,g1,?_⟩
     rw[g2]
     exact hZ (λc=>y1 _ (if_pos c)) (λc=>n1 (if_neg c))
    ·intro D n1 n2
     rw[yc]
     have ep:(Nm.mY (Pr.kb b (i:Int))).filter (λo=>decide ((i:Int)∈Pr.kb b o))=Pr.c9 b (i:Int):=rfl
     rw[ep]
     have ne:=Pr.jj gb wG
     have sD:=ax (o:=.lst (List.map V.int (Pr.c9 b (i:Int)))) n2
     have hD:(upd H5 D (.lst (List.map V.int (Pr.c9 b (i:Int))))) D=some (.lst (List.map V.int (Pr.c9 b (i:Int)))):=ar
     generalize upd H5 D (.lst (List.map V.int (Pr.c9 b (i:Int))))=H6 at *
     have Wo:az H1 H6:=s3.trans (sL.trans sD)
     have JN:H6 fa=some (.lst (List.map V.ref as)):=sD _ _ (sL _ _ Ct)
     have nD:H1 D=none:=none_of (s3.trans sL) n2
     have Df:D≠fa:=λz=>by rw[z,sL _ _ Ct] at n2;cases n2
     have Wp:Al (λp v=>∃x,v=V.ref x/\H6 x=some (.lst (List.map V.int (Pr.c9 b p)))/\H1 x=none/\x≠fa) (Pr.me b i) (as.map V.ref):=al.imp λp v ⟨x,e,h1,h2,h3⟩=>⟨x,e,sD _ _ (sL _ _ h1),h2,h3⟩
     have wH:=al.length
     rw[aac] at wH
     have tD:=Pr.xF (b:=b) (n:=i)
     cases ec:Pr.c9 b (i:Int) with
     | nil=>exact absurd ec ne
     | cons x0 rest=>
      have JQ:Pr.rep b (i:Int)=x0:=by unfold Pr.rep;rw[ec];rfl
      refine⟨_,hD,.int x0,by rw[ec,aaz];exact at0,rfl,?_⟩
      by_cases c:x0=(i:Int)
      ·rw[if_pos (by rw[c])]
       refine⟨.inl ⟨rfl,_,bo.of JN⟩,fa,List.map V.ref as,.ref D,rfl,rfl,JN,by rw[aac];omega,aZ Wo nf,as++ [D],by rw[ar,aaB];rfl,?_,_,rfl⟩
       rw[Pr.uB,if_pos (by rw[JQ,c]),aaB]
       exact(Wp.imp λp v ⟨x,e,h1,h2,h3⟩=>⟨x,e,by rw[aJ h3];exact h1,h2,h3⟩).append (.one ⟨D,rfl,by rw[aJ Df];exact hD,nD,Df⟩)
      ·rw[if_neg (by intro z;exact c (by injection z))]
       refine⟨Wo,as,JN,?_,_,rfl⟩
       rw[Pr.uB,if_neg (by rw[JQ];exact c)]
       exact Wp
   ·intro σ H3 bH
    symm
    obtain⟨s3,as,Ct,al,z3,z4,rfl⟩:=bH
    nofun
    rw[aak,<-lx] at al
    exact hN _ _ ⟨s3,as,Ct,al.imp λp v ⟨x,e,h1,h2,_⟩=>⟨x,e,h1,h2⟩,_,_,rfl⟩
  intro _ H3 bH
  symm
  obtain⟨s3,as,Ct,al,z3,z4,rfl⟩:=bH
  nofun
  simp_all only[AO]
  have each:∀x∈as,∃p,p∈Pr.me b b.length/\H3 x=some (.lst (List.map V.int (Pr.c9 b p)))/\H1 x=none/\o6 H3 x=p/\Pr.In b p:=λx hx=>by
   obtain⟨i,ei⟩:=aax hx
   obtain⟨p,ep,x',e,h1,h2⟩:=al.get (show(as.map V.ref)[i]?=some (.ref x) by rw[aaf,ei];rfl)
   cases e
   have mp:=aag ep
   obtain⟨wG,er⟩:=Pr.iJ.mp mp
   refine⟨p,mp,h1,h2,?_,wG⟩
   unfold o6
   rw[h1]
   unfold Pr.rep at er
   cases ec:Pr.c9 b p with
   | nil=>exact absurd ec (Pr.jj gb wG)
   | cons x0 r0=>rw[ec] at er;exact er
  have emap:as.map (o6 H3)=Pr.me b b.length:=by
   apply aaQ
   intro i
   rw[aaf]
   cases ei:as[i]? with
   | none=>
    have l1:=al.length
    rw[aac] at l1
    have l2:=List.getElem?_eq_none_iff.mp ei
    rw[aar (by omega)]
    rfl
   | some x=>
    obtain⟨p,ep,x',e,h1,h2⟩:=al.get (show(as.map V.ref)[i]?=some (.ref x) by rw[aaf,ei];rfl)
    cases e
    obtain⟨wG,er⟩:=Pr.iJ.mp (aag ep)
    rw[ep]
    show some (o6 H3 x)=some p
    unfold o6
    rw[h1]
    unfold Pr.rep at er
    cases ec:Pr.c9 b p with
    | nil=>exact absurd ec (Pr.jj gb wG)
    | cons x0 r0=>rw[ec] at er;exact congrArg some er
  have wH:=al.length
  rw[aac] at wH
  have tD:=Pr.xF (b:=b) (n:=b.length)
  refine⟨as,Ct,by omega,λx=>((Pr.kb b (o6 H3 x)).length:Int),ys,s3 _ _ JO,s3 _ _ (s1 _ _ lE),λx hx=>?_,λp cs H4 s4 np hp pm pw=>?_⟩
  ·symm
   obtain⟨p,mp,h1,h2,h3,wG⟩:=each x hx
   obtain⟨i,rfl⟩:=aav wG.1
   have i1:=wG.2
   obtain⟨d,kvs,ed,dr,hd,ek,ka,kl⟩:=G4 i (by omega)
   nofun
   show ∃j xs,H3 x=some (HO.lst (V.int j::xs))/\0<=j/\j<1000000/\∃x_1,ys[j.toNat]?=some (V.ref x_1)/\∃x_2,H3 x_1=some (HO.dK x_2)/\((Pr.kb b (o6 H3 x)).length:Int)=((x_2.length:Nat):Int)
   rw[h3]
   have er:=(Pr.iJ.mp mp).2
   unfold Pr.rep at er
   cases ec:Pr.c9 b (i:Int) with
   | nil=>exact absurd ec (Pr.jj gb wG)
   | cons x0 r0=>
    rw[ec] at er h1
    have er:x0=(i:Int):=er
    subst er
    exact⟨(i:Int),_,h1,by omega,by omega,d,by rw[aak];exact ed,kvs,s3 _ _ hd,by rw[kl]⟩
  ·have NQ:(cs.map (o6 H3)).Perm (Pr.me b b.length):=by rw[<-emap];exact pm.map _
   refine kk p (cs.map (o6 H3)) cs H4 ⟨NQ,?_⟩ ((s1.trans s3).trans s4) (none_of (s1.trans s3) np) hp ?_
   ·rw[List.pairwise_map]
    exact pw.imp λ{x y} (h:((Pr.kb b (o6 H3 x)).length:Int)<=((Pr.kb b (o6 H3 y)).length:Int))=>by omega
   ·refine Al.of (by rw[aac,aac]) λi v q e1 e2=>?_
    rw[aaf] at e1 e2
    symm
    obtain⟨x,ex,rfl⟩:=Option.map_eq_some_iff.mp e1
    nofun
    rw[ex] at e2
    cases e2
    symm
    obtain⟨q,mq,h1,h2,h3,wG⟩:=each x (pm.mem_iff.mp (aag ex))
    nofun
    rw[h3]
    exact⟨x,rfl,s4 _ _ h1,none_of s1 h2⟩
theorem fR:aQ ["rows","start","spot"] ["rows","start"] (af (top 16)):=⟨rfl,rfl,rfl,by ac_rfl,rfl,by ac_rfl,by ac_rfl⟩
theorem JR (T:Txt K mg aA tc):bU P w K mg base (bN P w) 1 "row_with_head" ["rows","start"] Gn:=by
 refine T.mr.d3 (λ_ _ _ _ _ _=>d6 λ_ _=>rfl) λf fd F=>F.d5 fR (λvs H Q E h=>?_) (λcG A outer s H vs Q E hr h=>?_)
 ·obtain⟨_,_,_,rfl,_⟩:=h;rfl
 ·symm
  obtain⟨a,L,k,rfl,⟨xs,ha,al⟩,kn,NR,ne,kS,kN⟩:=h
  nofun
  have nd:=fR.nd
  refine⟨_,(ae (cu PassesOwn.never rfl (yt rfl T.z_range (aa (pv 1) (aa (aP bB (by rfl) T.z_len aat (aa (pv 0) ag (se rfl)) (he:=se rfl) (hpl:=na rfl)) ag (se rfl)) (se rfl))) (aG (i:=2) nd rfl (Or.inl rfl)) (au (bF (aO iU (aD aE (aD aE (pv 0) (pv 2) (λ_ _=>rfl)) ao (λ_ _=>rfl)) ao (aS _)) (au (aN (pv 2)))
   ba)))
  (au (aN eL))),?_⟩
  have lx:=al.length
  simp_all only[]
  refine⟨_,ha,by omega,by omega,by omega,by omega,bP (src_range (Ok:=λ_=>True)) (λi σ H'=>H=H'/\(∀j:Nat,k<=j->j<k+i->(L.getD j []).headD 0=0)/\∃z,σ=[some (.ref a),some (.int (k:Int)),z]) ⟨rfl,λj h1 h2=>by omega,_,rfl⟩ (λ_ _ _ _ _=>trivial) ?_ ?_⟩
  ·intro i x σ H' H'' hi dI dJ
   symm
   obtain⟨rfl,hz,z,rfl⟩:=dI
   obtain⟨rfl,rfl⟩:=dJ
   have DS:k+i<L.length:=by omega
   have er:L[k+i]?=some L[k+i]:=aad DS
   obtain⟨q,eq,hq⟩:=oZ al er
   nofun
   have eh:=jQ (ne L[k+i] (aan DS))
   have eg:L.getD (k+i) []=L[k+i]:=by rw[aae,er];rfl
   have ei:((k:Int)+ (i:Int))=((k+i:Nat):Int):=by omega
   rw[ei]
   simp_all only[ha,eq,hq,eh]
   refine hZ (λc=>?_) (λc=>?_)
   ·exact kS (k+i) (by omega) DS (by rw[eg];exact c)
   ·refine⟨λj h1 h2=>?_,_,rfl⟩
    by_cases e:j=k+i
    ·rw[e,eg]
     exact Decidable.not_not.mp c
    ·exact hz j h1 (by omega)
  ·intro σ H' bH
   symm
   obtain⟨rfl,hz,z,rfl⟩:=bH
   nofun
   simp_all only[]
   exact kN λi h1 h2=>hz i h1 (by omega)
theorem o8:aQ ["rows","one","other","turned"] ["rows","one","other"] (af (top 17)):=⟨rfl,rfl,rfl,by ac_rfl,rfl,by ac_rfl,by ac_rfl⟩
theorem G5 (T:Txt K mg aA tc):bU P w K mg base (bN P w) 1 "swapped" ["rows","one","other"] Bw:=by
 refine T.yT.d3 (λ_ _ _ _ _ _=>pS λ_ _ _=>rfl) λf fd F=>F.d5 o8 (λvs H Q E h=>?_) (λcG A outer s H vs Q E hr h=>?_)
 ·obtain⟨_,_,_,_,rfl,_⟩:=h;rfl
 ·symm
  obtain⟨a,L,i,j,rfl,⟨xs,ha,al⟩,hi,hj,NR,kk⟩:=h
  nofun
  clear G_
  have nd:=o8.nd
  refine⟨_,(ae (aF (i:=3) nd rfl (Or.inl rfl) (eG (cS (K:=K)) (by rfl) T.z_list rfl (aa (pv 0) ag (se rfl)) (he:=se rfl) (hpl:=na rfl)))
  (ae (eM (aD aE (pv 0) (pv 2) (λ_ _=>rfl)) (fu (pv 3) (pv 1) set_list))
  (ae (eM (aD aE (pv 0) (pv 1) (λ_ _=>rfl)) (fu (pv 3) (pv 2) set_list))
  (au (aN (pv 3)))))),?_⟩
  refine(?_:let cy:TS:=_;let cz:TS:=_;let cA:TS:=_;let du:TS:=_;tSeq cy (tSeq cz (tSeq cA du)) _ _ _)
  intro cy cz cA du
  have lx:=al.length
  have ei:L[i]?=some (L.getD i []):=by rw[aae,aad hi];rfl
  have ej:L[j]?=some (L.getD j []):=by rw[aae,aad hj];rfl
  symm
  obtain⟨qi,ai,Zg⟩:=oZ al ei
  obtain⟨qj,aj,Zh⟩:=oZ al ej
  nofun
  clear G_
  simp_all only[ha]
  refine⟨_,.inl (bo.of ha),λm nm=>?_⟩
  have sm:=ax (o:=.lst xs) nm
  have hm:upd H m (.lst xs) m=some (.lst xs):=ar
  generalize upd H m (.lst xs)=H1 at *
  simp_all only[sm _ _ ha,aj]
  have am:a≠m:=λe=>by rw[e,nm] at ha;cases ha
  refine⟨_,hm,i,gJ (by omega),_,by rw[aJ am];exact sm _ _ ha,_,ai,_,ar,j,gJ (by rw[aaK];omega),?_⟩
  have s2:=aZ (o:=.lst ((xs.set i (V.ref qj)).set j (V.ref qi))) (aZ (o:=.lst (xs.set i (V.ref qj))) sm nm) nm
  exact kk _ _ s2 ⟨_,ar,((al.imp λ_ _ h=>h.mono s2).set ⟨qj,rfl,s2 _ _ Zh⟩).set ⟨qi,rfl,s2 _ _ Zg⟩⟩
theorem dz:aQ ["rows","spot","last","head","tail","left","number","row","first"] ["rows","spot","last"] (af (top 18)):=⟨rfl,rfl,rfl,by ac_rfl,rfl,by ac_rfl,by ac_rfl⟩
theorem JS (T:Txt K mg aA tc):bU P w K mg base (bN P w) 1 "without_first_column" ["rows","spot","last"] Gp:=by
 refine T.gH.d3 (λ_ _ _ _ _ _=>pS λ_ _ _=>rfl) λf fd F=>F.d5 dz (λvs H Q E h=>?_) (λcG A outer s H vs Q E hr h=>?_)
 ·obtain⟨_,_,_,_,_,rfl,_⟩:=h;rfl
 ·symm
  obtain⟨a,L,s',l,m,rfl,⟨xs,ha,al⟩,hs,NR,NJ,Wr,l0,bl,bx,kk⟩:=h
  nofun
  clear G_
  have nd:=dz.nd
  refine⟨_,(ae (aF (i:=3) nd rfl (Or.inr rfl) (aD aE (aD aE (pv 0) (pv 1) (λ_ _=>rfl)) ao (λ_ _=>rfl)))
  (ae (aF (i:=4) nd rfl (Or.inl rfl) (tR (tZ (K:=K)) (aD aE (pv 0) (pv 1) (λ_ _=>rfl)) (wU ao) wR))
  (ae (aF (i:=5) nd rfl (Or.inl rfl) (cV ag))
  (ae (cu PassesOwn.never rfl (cR (K:=K) rfl T.z_enumerate (aa (pv 0) ag (se rfl))) (bX (K:=K) (n:=2) rfl (aU (aG (i:=6) nd rfl (Or.inl rfl)) (aU (aG (i:=7) nd rfl (Or.inl rfl)) bV))) (au (bF (aO cL (pv 6) (pv 1) (aS _)) (au (c5 (fi aaO aa7 aa8 cM.r (pv 5) (aa (pv 4) ag (se rfl)))))
   (ae (aF (i:=8) nd rfl (Or.inr rfl) (aD aE (pv 7) ao (λ_ _=>rfl)))
  (au (c5 (fi aaO aa7 aa8 cM.r (pv 5) (aa (bO rfl (N:=["rows","spot","last","head","tail","left","number","row","first"]) (so:=af (top 18)) (N':=["one","other","last","head","first"]) (k:=2) (fr:=[2,3,8]) rfl rfl ⟨rfl,by ac_rfl,by ac_rfl,by ac_rfl,rfl,by ac_rfl,by ac_rfl⟩ (jK (K:=K) rfl T.z_zip (aa (tR (tZ (K:=K)) (pv 7) (wU ao) wR) (aa (pv 4) ag (se rfl)) (se rfl))) (λ_ _ _ _ _=>(bX (K:=K) (n:=2) rfl (aU (aG (i:=0) (show(["one","other","last","head","first"]:List Str).Nodup by ac_rfl) rfl (Or.inl rfl)) (aU (aG (i:=1) (show(["one","other","last","head","first"]:List Str).Nodup by ac_rfl) rfl (Or.inl rfl)) bV)))) (λ_ _ _ _ _=>bJ)
   (λ_ _ _ _ _=>(aI zX (aI nO (aI aY (pv 3) (pv 0)) (aI aY (pv 4) (pv 1))) (pv 2)))) ag (se rfl)))))))))
  (au (aN (pv 5))))))),?_⟩
  refine(?_:let cy:TS:=_;let cz:TS:=_;let cA:TS:=_;let du:TS:=_;let iy:TS:=_;tSeq cy (tSeq cz (tSeq cA (tSeq du iy))) _ _ _)
  intro cy cz cA du iy
  have sl:=sizeLine_eq
  have lx:=al.length
  have es:L[s']?=some (L.getD s' []):=by rw[aae,aad hs];rfl
  symm
  obtain⟨qs,Wt,Ma⟩:=oZ al es
  nofun
  clear G_
  have ls:=Wr _ (aag es)
  have bs:=bx _ (aag es)
  have hh:=jQ (r:=L.getD s' []) (by omega)
  have bh:Bt 4000 ((L.getD s' []).headD 0):=bs _ (by
   cases e:L.getD s' [] with
   | nil=>rw[e] at ls;cases ls
   | cons x r=>exact aai ..)
  have hw:∀i:Nat,aW.pU L s' l i=if i=s' then (L.getD i []).tail else List.zipWith (λone other=>((L.getD s' []).headD 0*one - (L.getD i []).headD 0*other).fdiv l) (L.getD i []).tail (L.getD s' []).tail:=λi=>rfl
  generalize (L.getD s' []).headD 0=hd at *
  generalize L.getD s' []=R at *
  change tSeq _ _ _ _ _
  refine aR (λσ' H1=>H=H1/\σ'=[some (.ref a),some (.int (s':Int)),some (.int l),some (.int hd),none,none,none,none,none]) ?_ (λN hN=>?_)
  case refine_2=>
   simp_all only[ha,Wt,Ma,hh]
   exact hN _ _ ⟨rfl,rfl⟩
  rintro _ _ ⟨rfl,rfl⟩
  change tSeq _ _ _ _ _
  refine aR (λσ' H1=>az H H1/\∃tl,H1 tl=some (.lst (List.map V.int R.tail))/\σ'=[some (.ref a),some (.int (s':Int)),some (.int l),some (.int hd),some (.ref tl),none,none,none,none]) ?_ (λN hN=>?_)
  case refine_2=>
   simp_all only[ha,Wt]
   exact⟨_,bo.of Ma,λtl Zi=>hN _ _ ⟨ax Zi,tl,by rw[ar,uI],rfl⟩⟩
  intro _ H1 bH
  symm
  obtain⟨wI,tl,NS,rfl⟩:=bH
  nofun
  clear G_
  change tSeq _ _ _ _ _
  refine aR (λσ' H2=>az H1 H2/\∃lf,H1 lf=none/\H2 lf=some (.lst [])/\σ'=[some (.ref a),some (.int (s':Int)),some (.int l),some (.int hd),some (.ref tl),some (.ref lf),none,none,none]) ?_ (λN hN=>?_)
  case refine_2=>
   simp_all only[]
   exact⟨aas _,λlf nl=>hN _ _ ⟨ax nl,lf,nl,ar,rfl⟩⟩
  intro _ H2 bH
  symm
  obtain⟨Wu,lf,JL,Zj,rfl⟩:=bH
  nofun
  clear G_
  have Zk:tl≠lf:=λe=>by rw[e,JL] at NS;cases NS
  change tSeq _ _ _ _ _
  refine aR (λσ' H3=>az H1 H3/\sJ H3 lf (aW.L4 L s' l)/\∃z1 z2 z3,σ'=[some (.ref a),some (.int (s':Int)),some (.int l),some (.int hd),some (.ref tl),some (.ref lf),z1,z2,z3]) ?_ (λN hN=>?_)
  case refine_2=>
   simp_all only[]
   refine⟨⟨_,bo.of (Wu _ _ (wI _ _ ha))⟩,bP (fK (Ok:=az H1) (λH' s=>bo.of (s _ _ (wI _ _ ha)))) (λi σ H3=>az H1 H3/\∃ys,H3 lf=some (.lst ys)/\Al (Rw (cI H3 lf)) ((List.range i).map (aW.pU L s' l)) ys/\∃z1 z2 z3,σ=[some (.ref a),some (.int (s':Int)),some (.int l),some (.int hd),some (.ref tl),some (.ref lf),z1,z2,z3]) ⟨Wu,[],Zj,trivial,_,_,_,rfl⟩ (λ_ _ _ _ h=>h.1) ?_ ?_⟩
   ·intro i x σ H3 H4 hi dI dJ
    symm
    obtain⟨G6,ys,NT,ay,z1,z2,z3,rfl⟩:=dI
    obtain⟨p,y,np,rfl,ey,rfl⟩:=dJ
    obtain⟨r,er,q,rfl,hq⟩:=al.get ey
    nofun
    clear G_
    have ly:=ay.length
    rw[aac,aay] at ly
    have Zl:=Wr _ (aag er)
    have Wv:=bx _ (aag er)
    have gr:L.getD i []=r:=by rw[aae,er];rfl
    refine⟨p,_,rfl,dZ.of ar,rfl,?_⟩
    have s4:=ax (o:=.tup [.int i,.ref q]) np
    generalize upd H3 p (.tup [.int i,.ref q])=H4 at *
    have Mb:=G6.trans s4
    have yb:=s4 _ _ NT
    have Ww:=Mb _ _ (wI _ _ hq)
    have Wx:=Mb _ _ NS
    have Wz:=ay.imp λ_ _ h=>h.mono (bQ (p:=lf) s4)
    have eR:(List.range (i+1)).map (aW.pU L s' l)=(List.range i).map (aW.pU L s' l)++ [aW.pU L s' l i]:=by rw[List.range_succ,aaB];rfl
    simp_all only[dB]
    by_cases c:i=s'
    ·rw[if_pos (by omega)]
     refine⟨.inl ⟨rfl,_,bo.of yb⟩,_,yb,by omega,aZ Mb JL,_,ar,?_,_,rfl⟩
     rw[sM,eR]
     refine Wz.append (.one ⟨tl,rfl,?_⟩)
     have Zm:r=R:=by
      subst c
      rw[er] at es
      cases es
      rfl
     rw[bK Zk,Wx,hw,if_pos c,gr,Zm]
    ·rw[if_neg (by omega)]
     have Zn:=jQ (r:=r) (by omega)
     simp_all only[Ww,Zn,dB]
     refine⟨.inl ⟨rfl,_,bo.of yb⟩,_,bo.of Ww,λp2 Zo=>?_⟩
     have s5:=ax (o:=.lst (pK (List.map V.int r) (some 1) none)) Zo
     have tw:upd H4 p2 (.lst (pK (List.map V.int r) (some 1) none)) p2=some (.lst (List.map V.int r.tail)):=by rw[ar,uI]
     generalize upd H4 p2 (.lst (pK (List.map V.int r) (some 1) none))=H5 at *
     have Zp:=Mb.trans s5
     have WA:=s5 _ _ Wx
     have Zq:Bt 4000 (r.headD 0):=Wv _ (by
      cases r with
      | nil=>cases Zl
      | cons x r=>exact aai ..)
     refine⟨⟨_,bo.of tw⟩,⟨_,bo.of WA⟩,?_⟩
     refine eJ (K:=K) (jJ (λH' s'=>bo.of (s' _ _ tw)) (λH' s'=>bo.of (s' _ _ WA))) (λj u v _=>∃o1 o2,r.tail[j]?=some o1/\R.tail[j]?=some o2/\u=.int o1/\v=.int o2) ?_ (by rw[aac,aac,List.length_tail,List.length_tail];omega) (λj y _=>∀o1 o2,r.tail[j]?=some o1->R.tail[j]?=some o2->y=.int ((hd*o1 - r.headD 0*o2).fdiv l)) (λ_ _ _ _ _ h=>h) ?_ ?_
     ·intro j v H6 H7 hj s6 dI
      symm
      obtain⟨t,x,y,nt,rfl,ex,Ja,rfl⟩:=dI
      rw[aaf] at ex Ja
      obtain⟨o1,e1,rfl⟩:=Option.map_eq_some_iff.mp ex
      obtain⟨o2,e2,rfl⟩:=Option.map_eq_some_iff.mp Ja
      nofun
      exact⟨ax nt,t,_,_,rfl,dZ.of ar,o1,o2,e1,e2,rfl,rfl⟩
     ·intro j u v H6 Q2 hj s6 dJ kq
      symm
      obtain⟨o1,o2,e1,e2,rfl,rfl⟩:=dJ
      nofun
      have b1:=Wv o1 (List.mem_of_mem_tail (aag e1))
      have b2:=bs o2 (List.mem_of_mem_tail (aag e2))
      simp_all only[]
      refine⟨bh.dM b1,Zq.dM b2,wZ.of l0 bl,kq _ _ (az.refl _) λ_ _ f1 f2=>?_⟩
      rw[e1] at f1
      rw[e2] at f2
      cases f1
      cases f2
      rfl
     ·intro zs H6 s6 lz hz D n1 n2
      have ez:=Bv (f:=λo1 o2=>(hd*o1 - r.headD 0*o2).fdiv l) lz hz
      have D3:=s6 _ _ (s5 _ _ yb)
      refine⟨_,ax n2 _ _ D3,by omega,aZ ((Zp.trans s6).trans (ax n2)) JL,_,ar,?_,_,rfl⟩
      rw[sM,eR]
      refine(Wz.imp λ_ _ h=>h.mono (bQ ((s5.trans s6).trans (ax n2)))).append (.one ⟨D,rfl,?_⟩)
      rw[bK (λe=>by rw[e,D3] at n2;cases n2),ar,hw,if_neg c,gr,ez]
   ·intro σ H3 bH
    symm
    obtain⟨G6,ys,NT,ay,z1,z2,z3,rfl⟩:=bH
    nofun
    rw[lx] at ay
    exact hN _ _ ⟨G6,⟨ys,NT,ay.imp λ_ _ h=>h.mono cf⟩,_,_,_,rfl⟩
  intro _ H3 bH
  symm
  obtain⟨G6,hm,z1,z2,z3,rfl⟩:=bH
  nofun
  simp_all only[]
  exact kk _ _ (wI.trans G6) hm
theorem uV:aQ ["rows","columns","last","column","spot","head"] ["rows","columns"] (af (top 19)):=⟨rfl,rfl,rfl,by ac_rfl,rfl,by ac_rfl,by ac_rfl⟩
theorem JT (T:Txt K mg aA tc):bU P w K mg base (bN P w) 2 "swept" ["rows","columns"] Gq:=by
 have mF:bU P w K mg base (bN P w) 1 "row_with_head" ["rows","start"] Gn:=JR T
 have za:bU P w K mg base (bN P w) 1 "swapped" ["rows","one","other"] Bw:=G5 T
 have gK:bU P w K mg base (bN P w) 1 "without_first_column" ["rows","spot","last"] Gp:=JS T
 refine T.Du.d3 (λ_ _ _ _ _ _=>d6 λ_ _=>rfl) λf fd F=>F.d5 uV (λvs H Q E h=>?_) (λcG A outer s H vs Q E hr h=>?_)
 ·obtain⟨_,_,_,_,rfl,_⟩:=h;rfl
 ·symm
  obtain⟨a,L,n,m,rfl,hM,B,kk⟩:=h
  nofun
  have nd:=uV.nd
  refine⟨_,(ae (aF (i:=2) nd rfl (Or.inl rfl) ao)
  (ae (cu PassesOwn.never rfl (c6 rfl T.z_range (aa (pv 1) ag (se rfl))) (aG (i:=3) nd rfl (Or.inl rfl)) (ae (aF (i:=4) nd rfl (Or.inl rfl) (aK mF (hr.mono (by decide)) rfl aB.pass (aa (pv 0) (aa (pv 3) ag (se rfl)) (se rfl)) (he:=se rfl) (hpl:=na rfl)))
  (ae (bF (aO vA (pv 4) eL (aS _)) (au (aN (bL (aa (pv 0) (aa (pv 3) (aa (pv 2) ag (se rfl)) (se rfl)) (se rfl)))))
   ba)
  (ae (aF (i:=0) nd rfl (Or.inl rfl) (aK za (hr.mono (by decide)) rfl aB.pass (aa (pv 0) (aa (pv 3) (aa (pv 4) ag (se rfl)) (se rfl)) (se rfl)) (he:=se rfl) (hpl:=na rfl)))
  (ae (aF (i:=5) nd rfl (Or.inl rfl) (aD aE (aD aE (pv 0) (pv 3) (λ_ _=>rfl)) ao (λ_ _=>rfl)))
  (ae (aF (i:=0) nd rfl (Or.inl rfl) (aK gK (hr.mono (by decide)) rfl aB.pass (aa (pv 0) (aa (pv 3) (aa (pv 2) ag (se rfl)) (se rfl)) (se rfl)) (he:=se rfl) (hpl:=na rfl)))
  (au (aF (i:=2) nd rfl (Or.inl rfl) (pv 5)))))))))
  (au (aN (bL (aa (pv 0) (aa (pv 1) (aa (pv 2) ag (se rfl)) (se rfl)) (se rfl))))))),?_⟩
  refine(?_:let cy:TS:=_;let cz:TS:=_;let cA:TS:=_;tSeq cy (tSeq cz cA) _ _ _)
  intro cy cz cA
  have sl:=sizeLine_eq
  have Bn:=B.nm
  have Bm:=B.NJ
  have hlen:(L.map aW.fo).length=n:=by rw[aac,B.len]
  change tSeq _ _ _ _ _
  refine aR (λσ' H1=>H=H1/\σ'=[some (.ref a),some (.int (n:Int)),some (.int 1),none,none,none]) ?_ (λN hN=>?_)
  case refine_2=>
   simp_all only[]
   exact hN _ _ ⟨rfl,rfl⟩
  rintro _ _ ⟨rfl,rfl⟩
  change tSeq _ _ _ _ _
  refine aR (λσ' H1=>az H H1/\∃p rs W,aW.jn (L.map aW.fo) n n rs W/\sJ H1 p (W.map λv=>aW.bS v rs n m)/\∃z1 z2 z3,σ'=[some (.ref p),some (.int (n:Int)),some (.int (aW.D rs (aW.dn n))),z1,z2,z3]) ?_ (λN hN=>?_)
  case refine_2=>
   simp_all only[]
   refine⟨by omega,by omega,bP (src_range (Ok:=λ_=>True)) (λi σ H1=>az H H1/\∃p rs W,aW.jn (L.map aW.fo) n i rs W/\sJ H1 p (W.map λv=>aW.bS v rs i m)/\∃z1 z2 z3,σ=[some (.ref p),some (.int (n:Int)),some (.int (aW.D rs (aW.dn i))),z1,z2,z3]) ?_ (λ_ _ _ _ _=>trivial) ?_ ?_⟩
   ·refine⟨az.refl _,a,[],L.map aW.fo,?_,?_,_,_,_,rfl⟩
    ·have:=aW.jn.start (U:=L.map aW.fo)
     rw[hlen] at this
     exact this
    ·rw[aW.we B.row]
     exact hM
   ·intro k x σ H1 H2 hi dI dJ
    symm
    obtain⟨wI,p,rs,W,S,hW,z1,z2,z3,rfl⟩:=dI
    obtain⟨rfl,rfl⟩:=dJ
    nofun
    have lW:=S.len
    have hk:k<n:=by omega
    have NU:k<m:=by omega
    have rb:∀r∈W.map (λv=>aW.bS v rs k m),∀x∈r,Bt 4000 x:=λr hr x hx=>by
     symm
     obtain⟨v,hv,rfl⟩:=List.mem_map.mp hr
     nofun
     unfold aW.bS at hx
     symm
     obtain⟨t,_,rfl⟩:=List.mem_map.mp hx
     nofun
     exact(B.CT _ _ _ S).2 v hv _
    have db:=(B.CT _ _ _ S).1
    have Zr:(W.map λv=>aW.bS v rs k m).length=n:=by rw[aac,lW]
    have G7:∀r∈W.map (λv=>aW.bS v rs k m),r.length=(m - (k+1))+1:=λr hr=>by
     symm
     obtain⟨v,_,rfl⟩:=List.mem_map.mp hr
     nofun
     rw[aW.dE]
     omega
    have zj:∀(i:Nat) (v:aW.Fm),W[i]?=some v->((W.map λv=>aW.bS v rs k m).getD i []).headD 0=aW.D (v::rs) (k::aW.dn k):=λi v e=>by
     rw[aW.getD_map e,aW.dj NU]
     rfl
    change tSeq _ _ _ _ _
    rw[Int.zero_add]
    refine aR (λσ' H3=>H2=H3/\((aW.qK k rs W/\σ'=[some (.ref p),some (.int (n:Int)),some (.int (aW.D rs (aW.dn k))),some (.int (k:Int)),some .b9,z3])\/∃i u,k<=i/\i<n/\W[i]?=some u/\aW.D (u::rs) (k::aW.dn k)≠0/\σ'=[some (.ref p),some (.int (n:Int)),some (.int (aW.D rs (aW.dn k))),some (.int (k:Int)),some (.int (Nat.cast i)),z3])) ?_ (λN EU=>?_)
    case refine_2=>
     simp_all only[Gn]
     refine⟨_,k,rfl,hW,by omega,by omega,λr hr=>by rw[G7 r hr];omega,λi h1 h2 h3=>?_,λh=>?_⟩
     ·rw[Zr] at h2
      have ei:W[i]?=some W[i]:=aad (by omega)
      rw[zj i _ ei] at h3
      exact EU _ _ ⟨rfl,.inr ⟨i,_,h1,h2,ei,h3,rfl⟩⟩
     ·refine EU _ _ ⟨rfl,.inl ⟨λu hu=>?_,rfl⟩⟩
      symm
      obtain⟨i,sN,rfl⟩:=aaX hu
      nofun
      rw[List.length_drop] at sN
      have ei:W[k+i]?=some W[k+i]:=aad (by omega)
      have:=h (k+i) (by omega) (by omega)
      rw[zj _ _ ei] at this
      rw[List.getElem_drop]
      exact this
    rintro _ _ ⟨rfl,⟨zq,rfl⟩ | ⟨i,u,h1,h2,ei,Ng,rfl⟩⟩
    ·simp_all only[]
     exact⟨by decide,λt H3 s3 nt e3=>kk t p k rs W _ S (λ_=>zq) (wI.trans s3) e3 (hW.mono s3)⟩
    ·have ek:W[k]?=some W[k]:=aad (by omega)
     change tSeq _ _ _ _ _
     refine aR (λσ' H3=>H2=H3/\σ'=[some (.ref p),some (.int (n:Int)),some (.int (aW.D rs (aW.dn k))),some (.int (k:Int)),some (.int (Nat.cast i)),z3]) ?_ (λN EU=>?_)
     case refine_2=>
      simp_all only[]
      rw[if_neg (by simp)]
      exact EU _ _ ⟨rfl,rfl⟩
     rintro _ _ ⟨rfl,rfl⟩
     change tSeq _ _ _ _ _
     refine aR (λσ' H3=>az H2 H3/\∃p2,sJ H3 p2 ((aW.lG W k i u W[k]).map λv=>aW.bS v rs k m)/\σ'=[some (.ref p2),some (.int (n:Int)),some (.int (aW.D rs (aW.dn k))),some (.int (k:Int)),some (.int (Nat.cast i)),z3]) ?_ (λN EU=>?_)
     case refine_2=>
      simp_all only[Bw]
      refine⟨_,k,rfl,i,rfl,hW,by omega,by omega,by omega,λp2 H3 s3 h3=>EU _ _ ⟨s3,p2,?_,rfl⟩⟩
      rw[aW.DI ei ek] at h3
      exact h3
     intro _ H3 bH
     symm
     obtain⟨G6,p2,WB,rfl⟩:=bH
     have M8:=aW.Bo ei ek
     have lsw:(aW.lG W k i u W[k]).length=n:=by unfold aW.lG;rw[aaK,aaK,lW]
     have Zs:∀v∈aW.lG W k i u W[k],v∈W:=λv hv=>by
      unfold aW.lG at hv
      rcases List.mem_or_eq_of_mem_set hv with h | h
      ·rcases List.mem_or_eq_of_mem_set h with h | h
       ·exact h
       ·rw[h];exact aag ei
      ·rw[h];exact aan _
     have JU:∀r∈(aW.lG W k i u W[k]).map (λv=>aW.bS v rs k m),r.length=(m - (k+1))+1:=λr hr=>by
      obtain⟨v,_,rfl⟩:=List.mem_map.mp hr
      rw[aW.dE]
      omega
     have Mc:∀r∈(aW.lG W k i u W[k]).map (λv=>aW.bS v rs k m),∀x∈r,Bt 4000 x:=λr hr x hx=>by
      obtain⟨v,hv,rfl⟩:=List.mem_map.mp hr
      exact rb _ (List.mem_map.mpr ⟨v,Zs v hv,rfl⟩) x hx
     have S2:=S.step hk h1 ei ek Ng
     have ew:=aW.Bp (n:=n) S.good NU ei ek
     have e1:((aW.lG W k i u W[k]).map λv=>aW.bS v rs k m)[k]?=some (aW.bS u rs k m):=by rw[aaf,M8];rfl
     obtain⟨xs,Zt,al⟩:=id WB
     obtain⟨q,aq,hq⟩:=oZ al e1
     nofun
     have ah:=jQ (r:=aW.bS u rs k m) (by rw[aW.dE];omega)
     have eh:(aW.bS u rs k m).headD 0=aW.D (u::rs) (k::aW.dn k):=by rw[aW.dj NU];rfl
     rw[eh] at ah
     change tSeq _ _ _ _ _
     refine aR (λσ' H4=>H3=H4/\σ'=[some (.ref p2),some (.int (n:Int)),some (.int (aW.D rs (aW.dn k))),some (.int (k:Int)),some (.int (Nat.cast i)),some (.int (aW.D (u::rs) (k::aW.dn k)))]) ?_ (λN EU=>?_)
     case refine_2=>
      simp_all only[Zt,aq,hq,ah]
      exact EU _ _ ⟨rfl,rfl⟩
     rintro _ _ ⟨rfl,rfl⟩
     simp_all only[Gp]
     refine⟨_,k,rfl,WB,by rw[aac];omega,by rw[aac];omega,m - (k+1),by omega,JU,S.good.ne,db,Mc,λp3 H4 s4 h4=>?_⟩
     rw[ew] at h4
     exact⟨wI.trans (G6.trans s4),_,_,_,S2,h4,rfl,rfl,_,rfl⟩
   ·intro σ H1 bH
    symm
    obtain⟨wI,p,rs,W,S,hW,z1,z2,z3,rfl⟩:=bH
    nofun
    exact hN _ _ ⟨wI,p,rs,W,S,hW,_,_,_,rfl⟩
  intro _ H1 bH
  symm
  obtain⟨wI,p,rs,W,S,hW,z1,z2,z3,rfl⟩:=bH
  nofun
  simp_all only[]
  exact⟨by decide,λt H2 s2 nt e2=>kk t p n rs W _ S (λh=>absurd h (aaG _)) (wI.trans s2) e2 (hW.mono s2)⟩
theorem fS:aQ ["rows","right","done","sign"] ["rows","right"] (af (top 20)):=⟨rfl,rfl,rfl,by ac_rfl,rfl,by ac_rfl,by ac_rfl⟩
theorem JV (T:Txt K mg aA tc):bU P w K mg base (bN P w) 3 "whole_answers" ["rows","right"] Gs:=by
 have D4:bU P w K mg base (bN P w) 2 "swept" ["rows","columns"] Gq:=JT T
 refine T.mv.d3 (λ_ _ _ _ _ _=>d6 λ_ _=>rfl) λf fd F=>F.d5 fS (λvs H Q E h=>?_) (λcG A outer s H vs Q E hr h=>?_)
 ·obtain⟨_,_,_,_,_,rfl,_⟩:=h;rfl
 ·symm
  obtain⟨a,c,L,S,n,rfl,hM,hc,lS,sq,B,kN,kS⟩:=h
  nofun
  have nd:=fS.nd
  refine⟨_,(ae (aF (i:=2) nd rfl (Or.inl rfl) (aK D4 (hr.mono (by decide)) rfl aB.pass (aa (bO rfl (N:=["rows","right","done","sign"]) (so:=af (top 20)) (N':=["row","side"]) (k:=2) (fr:=[]) rfl rfl ⟨rfl,by ac_rfl,by ac_rfl,by ac_rfl,rfl,by ac_rfl,by ac_rfl⟩ (jK (K:=K) rfl T.z_zip (aa (pv 0) (aa (pv 1) ag (se rfl)) (se rfl))) (λ_ _ _ _ _=>(bX (K:=K) (n:=2) rfl (aU (aG (i:=0) (show(["row","side"]:List Str).Nodup by ac_rfl) rfl (Or.inl rfl)) (aU (aG (i:=1) (show(["row","side"]:List Str).Nodup by ac_rfl) rfl (Or.inl rfl)) bV)))) (λ_ _ _ _ _=>bJ)
   (λ_ _ _ _ _=>(aI FA (pv 0) (cV (aa (pv 1) ag (se rfl)))))) (aa (aP bB (by rfl) T.z_len aat (aa (pv 0) ag (se rfl)) (he:=se rfl) (hpl:=na rfl)) ag (se rfl)) (se rfl)) (he:=se rfl) (hpl:=na rfl)))
  (ae (bF (aO nP (aD aH (pv 2) ao (λ_ _=>rfl)) (aP bB (by rfl) T.z_len aat (aa (pv 0) ag (se rfl)) (he:=se rfl) (hpl:=na rfl)) (aS _)) (au (aN eL))
   ba)
  (ae (aF (i:=3) nd rfl (Or.inr rfl) (hG (aO jD (aD aH (pv 2) ao (λ_ _=>rfl)) ao (aS _)) ao (zD vx ao)))
  (au (aN (bL (aa (bO rfl (N:=["rows","right","done","sign"]) (so:=af (top 20)) (N':=["row","sign"]) (k:=1) (fr:=[3]) rfl rfl ⟨rfl,by ac_rfl,by ac_rfl,by ac_rfl,rfl,by ac_rfl,by ac_rfl⟩ (bj (K:=K) (aD aH (pv 2) ao (λ_ _=>rfl))) (λ_ _ _ _ _=>(aG (i:=0) (show(["row","sign"]:List Str).Nodup by ac_rfl) rfl (Or.inl rfl))) (λ_ _ _ _ _=>bJ)
   (λ_ _ _ _ _=>(aI aY (aD aE (pv 0) ao (λ_ _=>rfl)) (pv 1)))) (aa (aI aY (aD aH (pv 2) ao (λ_ _=>rfl)) (pv 3)) ag (se rfl)) (se rfl)))))))),?_⟩
  refine(?_:let cy:TS:=_;let cz:TS:=_;let cA:TS:=_;let du:TS:=_;tSeq cy (tSeq cz (tSeq cA du)) _ _ _)
  intro cy cz cA du
  have sl:=sizeLine_eq
  symm
  obtain⟨xs,ha,al⟩:=id hM
  nofun
  have lx:=al.length
  have hl:=sq.len
  have NR:n+1<=64:=B.NJ
  change tSeq _ _ _ _ _
  refine aR (λσ' H1=>az H H1/\∃t p k rs W,aW.jn ((aW.aug L S).map aW.fo) n k rs W/\(k<n->aW.qK k rs W)/\H1 t=some (.tup [.ref p,.int (Nat.cast k),.int (aW.D rs (aW.dn k))])/\sJ H1 p (W.map λv=>aW.bS v rs k (n+1))/\σ'=[some (.ref a),some (.ref c),some (.ref t),none]) ?_ (λN hN=>?_)
  case refine_2=>
   simp_all only[Gq]
   refine⟨⟨_,bo.of ha⟩,⟨_,bo.of hc⟩,?_⟩
   refine eJ (K:=K) (jJ (λH' s'=>bo.of (s' _ _ ha)) (λH' s'=>bo.of (s' _ _ hc))) (λi u v _=>∃r x,L[i]?=some r/\S[i]?=some x/\Rw H r u/\v=.int x) ?_ (by rw[aac];omega) (λi y H'=>∀r x,L[i]?=some r->S[i]?=some x->Rw H' (r++ [x]) y) (λ_ _ _ _ s h r x e1 e2=>(h r x e1 e2).mono s) ?_ ?_
   ·intro i v H2 H3 hi s2 dI
    symm
    obtain⟨t,x,y,nt,rfl,ex,ey,rfl⟩:=dI
    rw[aaf] at ey
    obtain⟨z,ez,rfl⟩:=Option.map_eq_some_iff.mp ey
    obtain⟨r,er,hr⟩:=al.get ex
    nofun
    exact⟨ax nt,t,_,_,rfl,dZ.of ar,r,z,er,ez,hr,rfl⟩
   ·intro i u v H2 Q2 hi s2 dJ kq
    symm
    obtain⟨r,x,er,ex,⟨q,rfl,hq⟩,rfl⟩:=dJ
    nofun
    have lr:=sq.row r (aag er)
    simp_all only[IJ]
    refine⟨by decide,λm nm=>⟨_,ax nm _ _ (s2 _ _ hq),_,ar,by simp only[aac,aaq,abb];omega,λp np=>kq _ _ ((ax nm).trans (ax np)) λr' x' e1 e2=>?_⟩⟩
    rw[er] at e1
    rw[ex] at e2
    cases e1
    cases e2
    exact⟨p,rfl,by rw[ar,aaB];rfl⟩
   ·intro ys H2 s2 ly hy D n1 n2
    have s3:=s2.trans (ax (o:=.lst ys) n2)
    have hm:sJ (upd H2 D (.lst ys)) D (aW.aug L S):=by
     rw[aac] at ly
     refine⟨ys,ar,Al.of (by rw[aW.jP hl lS];omega) λi y r e1 e2=>?_⟩
     have hi:=(List.getElem?_eq_some_iff.mp e1).1
     have er:L[i]?=some L[i]:=aad (by omega)
     have ex:S[i]?=some (S.getD i 0):=by rw[aae,aad (by omega)];rfl
     rw[aW.jO lS (by omega) er] at e2
     cases e2
     exact(hy i y e1 _ _ er ex).mono (ax n2)
    refine⟨_,s3 _ _ ha,aW.aug L S,n,by omega,hm,n+1,B,λt p k rs W H3 St zq s4 h4 h5=>hN _ _ ⟨s3.trans s4,t,p,k,rs,W,St,zq,h4,h5,rfl⟩⟩
  intro _ H1 bH
  symm
  obtain⟨wI,t,p,k,rs,W,St,zq,ht,hW,rfl⟩:=bH
  nofun
  have Zu:=wI _ _ ha
  have kn:=St.le
  change tSeq _ _ _ _ _
  refine aR (λσ' H2=>H1=H2/\k=n/\σ'=[some (.ref a),some (.ref c),some (.ref t),none]) ?_ (λN hN=>?_)
  case refine_2=>
   simp_all only[ht,Zu]
   exact hZ (λh=>kN k rs W _ St (by omega) (zq (by omega)) wI) (λh=>hN _ _ ⟨rfl,by omega,rfl⟩)
  intro _ _ bH
  symm
  obtain⟨rfl,rfl,rfl⟩:=bH
  nofun
  have d0:=St.good.ne
  change tSeq _ _ _ _ _
  refine aR (λσ' H2=>H1=H2/\σ'=[some (.ref a),some (.ref c),some (.ref t),some (.int (tE (aW.D rs (aW.dn k))))]) ?_ (λN hN=>?_)
  case refine_2=>
   simp_all only[ht]
   exact hZ (λh=>hN _ _ ⟨rfl,by rw[tE,if_pos h]⟩) (λh=>hN _ _ ⟨rfl,by rw[tE,if_neg h]⟩)
  rintro _ _ ⟨rfl,rfl⟩
  symm
  obtain⟨ws,hp,aw⟩:=id hW
  nofun
  have lw:=aw.length
  have lW:=St.len
  rw[aac] at lw
  simp_all only[ht,hp]
  refine⟨⟨_,bo.of hp⟩,?_⟩
  have S':Src (vj K p) (az H1) W.length (λi x H H3=>H3=H/\ws[i]?=some x):=by
   have:=src_list (K:=K) (a:=p) (xs:=ws) (Ok:=az H1) (λH2 s2=>bo.of (s2 _ _ hp))
   rwa [lw] at this
  refine dm W (λv=>some (aW.D (v::rs) (k::aW.dn k)*tE (aW.D rs (aW.dn k)))) S' (λ_ _ _ _ h=>h.1) (by omega) ?_ ?_
  ·rintro i v x ev ⟨_,ex⟩ Y N y1 _
   symm
   obtain⟨r',WC,q,rfl,hq⟩:=aw.get ex
   nofun
   rw[aaf,ev] at WC
   cases WC
   have hh:=jQ (r:=aW.bS v rs k (k+1)) (by rw[aW.dE];omega)
   rw[show(aW.bS v rs k (k+1)).headD 0=aW.D (v::rs) (k::aW.dn k) from by rw[aW.dj (aaM k)];rfl] at hh
   simp_all only[gA,hq,hh]
   exact⟨By,y1 _ rfl⟩
  ·intro D n1 n2
   refine⟨_,ax n2 _ _ ht,_,at2,_,rfl,By,by decide,λq H2 s2 nq e2=>kS rs W q D _ St (wI.trans ((ax n2).trans s2)) e2 ?_⟩
   rw[s2 _ _ ar,Gr St]
theorem cJ {H:Hp} {ws:List (Int×Int)} {xs:List V} {i:Nat} {a:Int×Int} (r:bu H (ws.map bC) xs) (e:ws[i]?=some a):∃p,xs[i]?=some (.ref p)/\H p=some (.tup [.int a.1,.int a.2]):=by
 obtain⟨x,ex,rx⟩:=r.at (d:=bC a) (i:=i) (by rw[aaf,e];rfl)
 obtain⟨p,rfl,hp⟩:=cn.mp rx
 exact⟨p,ex,hp⟩
theorem gS:aQ ["ways"] ["ways"] (af (top 31)):=⟨rfl,rfl,rfl,by ac_rfl,rfl,by ac_rfl,by ac_rfl⟩
theorem EV (T:Txt K mg aA tc):bU P w K mg base (bN P w) 1 "total_weight" ["ways"] uL:=by
 refine T.oN.d3 (λ_ _ _ _ _ _=>iR λ_=>rfl) λf fd F=>F.d5 gS (λvs H Q E h=>?_) (λcG A outer s H vs Q E hr h=>?_)
 ·obtain⟨_,_,rfl,_⟩:=h;rfl
 ·symm
  obtain⟨a,ws,rfl,rf,l5,kk⟩:=h
  nofun
  have nd:=gS.nd
  refine⟨_,(au (aN (hG (aO jD (aP bB (by rfl) T.z_len aat (aa (pv 0) ag (se rfl)) (he:=se rfl) (hpl:=na rfl)) ao (aS _)) (aP (ic (K:=K)) (by rfl) T.z_sum rfl (aa (bO rfl (N:=["ways"]) (so:=af (top 31)) (N':=["weight","to"]) (k:=2) (fr:=[]) rfl rfl ⟨rfl,by ac_rfl,by ac_rfl,by ac_rfl,rfl,by ac_rfl,by ac_rfl⟩ (bj (K:=K) (pv 0)) (λ_ _ _ _ _=>(bX (K:=K) (n:=2) rfl (aU (aG (i:=0) (show(["weight","to"]:List Str).Nodup by ac_rfl) rfl (Or.inl rfl)) (aU (aG (i:=1) (show(["weight","to"]:List Str).Nodup by ac_rfl) rfl (Or.inl rfl)) bV)))) (λ_ _ _ _ _=>bJ)
   (λ_ _ _ _ _=>(pv 0))) ag (se rfl)) (he:=se rfl) (hpl:=na rfl)) ao))),?_⟩
  symm
  obtain⟨_,xs,e,ha,rl⟩:=aT.mp rf
  nofun
  cases e
  have lx:=rl.length
  rw[aac] at lx
  simp_all only[]
  refine⟨xs,ha,?_⟩
  by_cases c:ws=[]
  ·subst c
   have l0:xs.length=0:=lx.symm
   rw[if_neg (by omega)]
   exact kk _ (az.refl _)
  ·have l0:=List.length_pos_iff.mpr c
   rw[if_pos (by omega)]
   refine⟨⟨_,bo.of ha⟩,?_⟩
   have S:Src (vj K a) (az H) ws.length (λi x H H3=>H3=H/\xs[i]?=some x):=by rw[lx];exact src_list (λH' s'=>bo.of (s' _ _ ha))
   refine gD ws (λp=>some p.1) S (λ_ _ _ _ h=>h.1) (by rw[sizeLine_eq];omega) ?_ ?_
   ·rintro i p x ep ⟨_,ex⟩
    symm
    obtain⟨t,et,ht⟩:=cJ rl ep
    nofun
    rw[ex] at et
    cases et
    refine⟨t,_,_,rfl,dZ.of ht,λY N y1 _=>?_⟩
    simp_all only[gA]
    exact y1 _ rfl
   ·intro D n1 n2
    rw[dR]
    have:=kk _ (ax (o:=.lst (List.map V.int (ws.map λp=>p.1))) n2)
    unfold Dg.tt at this
    rw[if_neg c] at this
    exact⟨_,bo.of ar,this⟩
theorem qS (q:Int) (ws:Dg.Wy) (x:Int×Int):Dg.jm q (ws++ [x])=Dg.jm q ws+if x.2=q then x.1 else 0:=by
 unfold Dg.jm
 rw[aaB,List.sum_append]
 simp
theorem jW:aQ ["part","ways","spots","spot","place","rows","row","weight","to"] ["part","ways"] (af (top 32)):=⟨rfl,rfl,rfl,by ac_rfl,rfl,by ac_rfl,by ac_rfl⟩
theorem G8 (T:Txt K mg aA tc):bU P w K mg base (bN P w) 2 "part_rows" ["part","ways"] BA:=by
 have eY:bU P w K mg base (bN P w) 1 "total_weight" ["ways"] uL:=EV T
 refine T.ur.d3 (λ_ _ _ _ _ _=>d6 λ_ _=>rfl) λf fd F=>F.d5 jW (λvs H Q E h=>?_) (λcG A outer s H vs Q E hr h=>?_)
 ·obtain⟨_,_,_,_,_,rfl,_⟩:=h;rfl
 ·symm
  obtain⟨x,wl,ps,xs,gf,rfl,hx,hw,rl,HZ,l40,lP,w5,kk⟩:=h
  nofun
  clear G_
  have nd:=jW.nd
  refine⟨_,(ae (aF (i:=2) nd rfl (Or.inl rfl) zW)
  (ae (cu PassesOwn.never rfl (cR (K:=K) rfl T.z_enumerate (aa (pv 0) ag (se rfl))) (bX (K:=K) (n:=2) rfl (aU (aG (i:=3) nd rfl (Or.inl rfl)) (aU (aG (i:=4) nd rfl (Or.inl rfl)) bV))) (au (wY (qq hr) (pv 2) (pv 4) (pv 3) rfl)))
  (ae (aF (i:=5) nd rfl (Or.inl rfl) (cV ag))
  (ae (cu PassesOwn.never rfl (cR (K:=K) rfl T.z_enumerate (aa (pv 0) ag (se rfl))) (bX (K:=K) (n:=2) rfl (aU (aG (i:=3) nd rfl (Or.inl rfl)) (aU (aG (i:=4) nd rfl (Or.inl rfl)) bV))) (ae (aF (i:=6) nd rfl (Or.inl rfl) (aI vM (cV (aa ao ag (se rfl))) (aP bB (by rfl) T.z_len aat (aa (pv 0) ag (se rfl)) (he:=se rfl) (hpl:=na rfl))))
  (ae (eM (aK eY (hr.mono (by decide)) rfl aB.pass (aa (aD aE (pv 1) (pv 4) (λ_ _=>rfl)) ag (se rfl)) (he:=se rfl) (hpl:=na rfl)) (fu (pv 6) (pv 3) set_list))
  (ae (cu PassesOwn.never rfl (bj (K:=K) (aD aE (pv 1) (pv 4) (λ_ _=>rfl))) (bX (K:=K) (n:=2) rfl (aU (aG (i:=7) nd rfl (Or.inl rfl)) (aU (aG (i:=8) nd rfl (Or.inl rfl)) bV))) (au (bF (vg (zV (qq hr) (pv 8) (pv 2))) (au (CF (pv 6) (CY (qq hr) (pv 2) (pv 8) (λ_ _=>rfl)) AS (pv 7) Fj set_list))
   ba)))
  (au (c5 (fi aaO aa7 aa8 cM.r (pv 5) (aa (pv 6) ag (se rfl)))))))))
  (au (aN (pv 5))))))),?_⟩
  refine(?_:let cy:TS:=_;let cz:TS:=_;let cA:TS:=_;let du:TS:=_;let iy:TS:=_;tSeq cy (tSeq cz (tSeq cA (tSeq du iy))) _ _ _)
  intro cy cz cA du iy
  have sl:=sizeLine_eq
  have lx:=rl.length
  rw[aac] at lx
  change tSeq _ _ _ _ _
  refine aR (λσ' H1=>∃d,az H H1/\H d=none/\H1 d=some (.dK [])/\σ'=[some (.ref x),some (.ref wl),some (.ref d),none,none,none,none,none,none]) ?_ (λN hN=>?_)
  case refine_2=>
   simp_all only[]
   exact λd n1=>hN _ _ ⟨d,ax n1,n1,ar,rfl⟩
  intro _ H1 bH
  symm
  obtain⟨d,s1,n1,hd,rfl⟩:=bH
  nofun
  clear G_
  change tSeq _ _ _ _ _
  refine aR (λσ' H2=>az H H2/\H2 d=some (.dK (ik ps))/\∃z3 z4,σ'=[some (.ref x),some (.ref wl),some (.ref d),z3,z4,none,none,none,none]) ?_ (λN hN=>?_)
  case refine_2=>
   simp_all only[]
   refine⟨⟨_,bo.of (s1 _ _ hx)⟩,bP (fK (K:=K) (a:=x) (xs:=ps.map V.int) (Ok:=az H) (λH' s=>bo.of (s _ _ hx))) (λi σ H3=>az H H3/\H3 d=some (.dK (ik (ps.take i)))/\∃z3 z4,σ=[some (.ref x),some (.ref wl),some (.ref d),z3,z4,none,none,none,none]) ⟨s1,hd,_,_,rfl⟩ (λ_ _ _ _ h=>h.1) ?_ ?_⟩
   ·intro i y σ H3 H4 hi dI dJ
    symm
    obtain⟨s3,Md,z3,z4,rfl⟩:=dI
    obtain⟨q,y,nq,rfl,ey,rfl⟩:=dJ
    nofun
    clear G_
    rw[aac] at hi
    have ep:ps[i]?=some (ps.getD i 0):=by rw[aae,aad hi];rfl
    rw[aaf,ep] at ey
    cases ey
    refine⟨q,_,rfl,dZ.of ar,rfl,?_⟩
    have s4:=ax (o:=.tup [.int (i:Int),.int (ps.getD i 0)]) nq
    generalize upd H3 q (.tup [.int (i:Int),.int (ps.getD i 0)])=H4 at *
    have NI:ps.getD i 0∉ps.take i:=by
     intro z
     symm
     obtain⟨j,hj,ej⟩:=aaX z
     nofun
     rw[aaZ] at hj
     rw[List.getElem_take] at ej
     have eg:ps.getD i 0=ps[i]:=by rw[aae,aad hi];rfl
     have:=(abh HZ).mp (ej.trans eg)
     omega
    have pt:=vN.k (k:=Sum.inl (ps.getD i 0)) (v:=.int (i:Int)) (s4 _ _ Md) (by unfold ik;rw[aac,aay,aaZ];omega)
    rw[tT _ (uM NI),<-y2 hi] at pt
    simp_all only[]
    exact⟨_,pt,aZ (s3.trans s4) n1,ar,_,rfl⟩
   ·intro σ H3 bH
    symm
    obtain⟨s3,Md,z3,z4,rfl⟩:=bH
    nofun
    rw[aac,aaH (aah _)] at Md
    exact hN _ _ ⟨s3,Md,_,_,rfl⟩
  intro _ H2 bH
  symm
  obtain⟨s2,hd2,z3,z4,rfl⟩:=bH
  nofun
  clear G_
  change tSeq _ _ _ _ _
  refine aR (λσ' H3=>∃r,az H2 H3/\H2 r=none/\H3 r=some (.lst [])/\σ'=[some (.ref x),some (.ref wl),some (.ref d),z3,z4,some (.ref r),none,none,none]) ?_ (λN hN=>?_)
  case refine_2=>
   simp_all only[]
   exact⟨aas _,λr n3=>hN _ _ ⟨r,ax n3,n3,ar,rfl⟩⟩
  intro _ H3 bH
  symm
  obtain⟨r,s3,nr,Zv,rfl⟩:=bH
  nofun
  clear G_
  change tSeq _ _ _ _ _
  refine aR (λσ' H4=>az H2 H4/\(∃L,sJ H4 r L/\Dg.pV ps (cC gf) L)/\∃z3 z4 z6 z7 z8,σ'=[some (.ref x),some (.ref wl),some (.ref d),z3,z4,some (.ref r),z6,z7,z8]) ?_ (λN hN=>?_)
  case refine_2=>
   simp_all only[]
   refine⟨⟨_,bo.of (s3 _ _ (s2 _ _ hx))⟩,bP (fK (K:=K) (a:=x) (xs:=ps.map V.int) (Ok:=az H2) (λH' s=>bo.of (s _ _ (s2 _ _ hx)))) (λi σ H4=>az H2 H4/\(∃(Ls:List (List Int)) (ys:List V),H4 r=some (.lst ys)/\Al (Rw (cI H4 r)) Ls ys/\Ls.length=i/\(∀row∈Ls,row.length=ps.length)/\∀a j,a<i->j<ps.length->(Ls.getD a []).getD j 0=(if a=j then Dg.tt (cC gf (ps.getD a 0)) else 0) - Dg.jm (ps.getD j 0) (cC gf (ps.getD a 0)))/\∃z3 z4 z6 z7 z8,σ=[some (.ref x),some (.ref wl),some (.ref d),z3,z4,some (.ref r),z6,z7,z8]) ⟨s3,⟨[],[],Zv,trivial,rfl,by simp,λa j h=>absurd h (abc _)⟩,_,_,_,_,_,rfl⟩ (λ_ _ _ _ h=>h.1) ?_ ?_⟩
   ·intro i y σ H4 H5 hi dI dJ
    symm
    obtain⟨s4,⟨Ls,ys,Me,Mf,ll,G9,D5⟩,z3,z4,z6,z7,z8,rfl⟩:=dI
    obtain⟨q,y,nq,rfl,ey,rfl⟩:=dJ
    nofun
    clear G_
    rw[aac] at hi
    have ep:ps[i]?=some (ps.getD i 0):=by rw[aae,aad hi];rfl
    rw[aaf,ep] at ey
    cases ey
    have mp:ps.getD i 0∈ps:=aag ep
    obtain⟨p0,p1⟩:=lP _ mp
    have ew:gf[(ps.getD i 0).toNat]?=some (cC gf (ps.getD i 0)):=by unfold cC;rw[aae (l:=gf),aad (show(ps.getD i 0).toNat<gf.length by omega)];rfl
    have Zw:=w5 _ (aag ew)
    generalize hp:ps.getD i 0=p at *
    generalize JW:cC gf p=ws at *
    refine⟨q,_,rfl,dZ.of ar,rfl,?_⟩
    have s5:=ax (o:=.tup [.int (i:Int),.int p]) nq
    generalize upd H4 q (.tup [.int (i:Int),.int p])=H5 at *
    obtain⟨v,ev,rv⟩:=rl.at (d:=qL ws) (i:=p.toNat) (by rw[aaf,ew];rfl)
    symm
    obtain⟨wv,us,rfl,D6,ru⟩:=aT.mp rv
    nofun
    clear G_
    have Ha:eE xs p=some (.ref wv):=by have:=bE ev;rwa [abj p0] at this
    have lu:=ru.length
    rw[aac] at lu
    simp_all only[CS,uL]
    have WD:=s4.trans s5
    refine⟨by decide,λm1 k1=>?_⟩
    have s6:=ax (o:=.lst [.int 0]) k1
    have h6:upd H5 m1 (.lst [.int 0]) m1=some (.lst [.int 0]):=ar
    generalize upd H5 m1 (.lst [.int 0])=H6 at *
    have WG:(ps.map V.int).length=ps.length:=aac ..
    refine⟨_,s6 _ _ (WD _ _ (s2 _ _ hx)),_,h6,by omega,by omega,by rw[WG,aak];show 1*ps.length<=_;omega,λro k2=>?_⟩
    rw[WG,aak,List.flatten_replicate_singleton]
    have s7:=ax (o:=.lst (List.replicate ps.length (V.int 0))) k2
    have h7:upd H6 ro (.lst (List.replicate ps.length (V.int 0))) ro=some (.lst ((List.replicate ps.length 0).map V.int)):=by rw[ar,List.map_replicate]
    generalize upd H6 ro (.lst (List.replicate ps.length (V.int 0)))=H7 at *
    have Ia:=WD.trans s6
    have WH:=Ia.trans s7
    refine⟨_,WH _ _ (s2 _ _ hw),_,Ha,wv,rfl,ws,rv.mono (s2.trans WH),Zw,λH8 s8=>⟨_,s8 _ _ h7,i,gJ (by rw[aac,aba];exact hi),?_⟩⟩
    rw[<-List.map_set]
    have s9:az H6 (upd H8 ro (.lst (((List.replicate ps.length 0).set i (Dg.tt ws)).map V.int))):=aZ (s7.trans s8) k2
    have h9:upd H8 ro (.lst (((List.replicate ps.length 0).set i (Dg.tt ws)).map V.int)) ro=some (.lst (((List.replicate ps.length 0).set i (Dg.tt ws)).map V.int)):=ar
    generalize upd H8 ro (.lst (((List.replicate ps.length 0).set i (Dg.tt ws)).map V.int))=H9 at *
    have Zx:=Ia.trans s9
    have WI:=s2.trans Zx
    refine⟨_,WI _ _ hw,_,Ha,wv,rfl,⟨_,bo.of (WI _ _ D6)⟩,bP (src_list (K:=K) (a:=wv) (xs:=us) (Ok:=az H6) (λH' s'=>bo.of ((s2.trans (Ia.trans s')) _ _ D6))) (λt σ HA=>az H6 HA/\(∃jo:List Int,HA ro=some (.lst (jo.map V.int))/\jo.length=ps.length/\∀j,j<ps.length->jo.getD j 0=(if i=j then Dg.tt ws else 0) - Dg.jm (ps.getD j 0) (ws.take t))/\∃z7 z8,σ=[some (.ref x),some (.ref wl),some (.ref d),some (.int (i:Int)),some (.int p),some (.ref r),some (.ref ro),z7,z8]) ⟨s9,⟨_,h9,by rw[aaK,aba],λj hj=>?_⟩,_,_,rfl⟩ (λ_ _ _ _ h=>h.1) ?_ ?_⟩
    ·show _=_ - 0
     by_cases c:i=j
     ·subst c
      rw[Dg.ij (by rw[aba];exact hj),if_pos rfl]
      omega
     ·rw[Dg.fm c,if_neg c,aae,List.getElem?_replicate,if_pos hj]
      rfl
    ·intro t y σ HA HB ht dI dJ
     symm
     obtain⟨sA,⟨jo,JX,Mg,ent⟩,z7,z8,rfl⟩:=dI
     obtain⟨rfl,ey⟩:=dJ
     have et:ws[t]?=some ws[t]:=aad (by omega)
     obtain⟨ta,eta,Zy⟩:=cJ (ru.mono (s2.trans (Ia.trans sA))) et
     nofun
     clear G_
     rw[ey] at eta
     cases eta
     refine⟨ta,_,rfl,dZ.of Zy,rfl,?_⟩
     have tk:ws.take (t+1)=ws.take t++ [ws[t]]:=by rw[aaF,et];rfl
     generalize ws[t]=xw at *
     have WJ:=(Ia.trans sA) _ _ hd2
     simp_all only[Em,VC]
     by_cases c:xw.2∈ps
     ·have lt:=aaS c
      have NV:ps.getD (ps.idxOf xw.2) 0=xw.2:=by rw[aae,aad lt,aaW lt];rfl
      have sv:=BB HZ lt
      rw[NV] at sv
      have gt:kA HB d (.int xw.2) (some (.int (ps.idxOf xw.2:Nat))):=.inl ⟨_,Sum.inl xw.2,.inl WJ,rfl,sv.symm⟩
      refine⟨some (.int (ps.idxOf xw.2:Nat)),gt,?_⟩
      rw[if_pos (by rfl)]
      generalize hk:ps.idxOf xw.2=k at *
      have Zz:eE (jo.map V.int) (k:Int)=some (.int (jo.getD k 0)):=by have:=dC (ns:=jo) (i:=(k:Int)) (by omega) (by omega);rwa [aak] at this
      refine⟨_,gt,_,_,rfl,JX,_,Zz,_,rfl,_,_,rfl,JX,k,gJ (by rw[aac];omega),aZ sA k2,⟨jo.set k (jo.getD k 0 - xw.1),by rw[ar,List.map_set],by rw[aaK];exact Mg,λj hj=>?_⟩,_,rfl⟩
      rw[tk,qS]
      by_cases cj:k=j
      ·subst cj
       rw[Dg.ij (by omega),ent k hj,if_pos NV.symm]
       omega
      ·rw[Dg.fm cj,ent j hj,if_neg (show ¬xw.2=ps.getD j 0 from λz=>cj ?_)]
       ·omega
       ·have ej:ps.getD j 0=ps[j]:=by rw[aae,aad hj];rfl
        have ek:ps.getD k 0=ps[k]:=by rw[aae,aad lt];rfl
        exact(abh HZ).mp (by rw[<-ek,<-ej,NV,z])
     ·refine⟨none,.inl ⟨_,Sum.inl xw.2,.inl WJ,rfl,(uM c).symm⟩,?_⟩
      rw[if_neg (by simp)]
      refine⟨sA,⟨jo,JX,Mg,λj hj=>?_⟩,_,rfl⟩
      have mj:ps.getD j 0∈ps:=by rw[aae,aad hj];exact aan hj
      rw[ent j hj,tk,qS,if_neg (show ¬xw.2=ps.getD j 0 from λz=>c (by rw[z];exact mj))]
      omega
    ·intro σ HA bH
     symm
     obtain⟨sA,⟨jo,JX,Mg,ent⟩,z7,z8,rfl⟩:=bH
     nofun
     rw[aaH (by omega)] at ent
     simp_all only[dB]
     have WK:=s5.trans (s6.trans sA)
     have WL:=WK _ _ Me
     have ZA:ro≠r:=λz=>by rw[z,(s5.trans s6) _ _ Me] at k2;cases k2
     have ly:=Mf.length
     refine⟨.inl ⟨rfl,_,bo.of WL⟩,ys,WL,by omega,aZ (Ia.trans sA) nr,⟨Ls++ [jo],ys++ [.ref ro],ar,Rw.push (Mf.imp λ_ _ k=>k.mono (bQ WK)) JX ZA,by rw[aaJ,ll];rfl,λrow G7=>?_,λa j ha hj=>?_⟩,_,rfl⟩
     ·rcases List.mem_append.mp G7 with h | h
      ·exact G9 row h
      ·rw[List.mem_singleton.mp h];exact Mg
     ·by_cases c:a=i
      ·subst c
       rw[show(Ls++ [jo]).getD a []=jo from by rw[aae,aa0 (by omega),ll,Nat.sub_self];rfl,hp,JW]
       exact ent j hj
      ·rw[show(Ls++ [jo]).getD a []=Ls.getD a [] from by rw[aae,aa1 (by omega),<-aae]]
       exact D5 a j (by omega) hj
   ·intro σ H4 bH
    symm
    obtain⟨s4,⟨Ls,ys,Me,Mf,ll,G9,D5⟩,z3,z4,z6,z7,z8,rfl⟩:=bH
    nofun
    rw[aac] at ll D5
    exact hN _ _ ⟨s4,⟨Ls,⟨ys,Me,Mf.imp λ_ _ k=>k.mono cf⟩,ll,G9,D5⟩,_,_,_,_,_,rfl⟩
  intro _ H4 bH
  symm
  obtain⟨s4,⟨L,h1,h2⟩,z3,z4,z6,z7,z8,rfl⟩:=bH
  nofun
  simp_all only[]
  exact kk _ _ _ (s2.trans s4) h1 h2
theorem fq:aQ ["one","other","rest"] ["one","other"] (af (top 12)):=⟨rfl,rfl,rfl,by ac_rfl,rfl,by ac_rfl,by ac_rfl⟩
theorem EW (T:Txt K mg aA tc):bU P w K mg base (bN P w) 1 "common_divisor" ["one","other"] y3:=by
 refine T.kJ.d3 (λ_ _ _ _ _ _=>d6 λ_ _=>rfl) λf fd F=>F.d5 fq (λvs H Q E h=>?_) (λcG A outer s H vs Q E hr h=>?_)
 ·obtain⟨_,_,rfl,_⟩:=h;rfl
 ·symm
  obtain⟨a,b,rfl,k⟩:=h
  nofun
  have nd:=fq.nd
  refine⟨_,(ae (aF (i:=0) nd rfl (Or.inl rfl) (aP nR (by rfl) T.z_abs rfl (aa (pv 0) ag (se rfl)) (he:=se rfl) (hpl:=na rfl)))
  (ae (aF (i:=1) nd rfl (Or.inl rfl) (aP nR (by rfl) T.z_abs rfl (aa (pv 1) ag (se rfl)) (he:=se rfl) (hpl:=na rfl)))
  (ae (hJ PassesOwn.never (aO iU (pv 1) ao (aS _)) (ae (aF (i:=2) nd rfl (Or.inl rfl) (aI c7 (pv 0) (pv 1)))
  (ae (aF (i:=0) nd rfl (Or.inl rfl) (pv 1))
  (au (aF (i:=1) nd rfl (Or.inl rfl) (pv 2))))))
  (au (aN (pv 0)))))),?_⟩
  refine(?_:let cy:TS:=_;let cz:TS:=_;let cA:TS:=_;let du:TS:=_;tSeq cy (tSeq cz (tSeq cA du)) _ _ _)
  intro cy cz cA du
  simp_all only[]
  refine tM (λσ H1=>H1=H/\∃(x y:Int) (z:Option V),σ=[some (.int x),some (.int y),z]/\0<=x/\0<=y/\Nm.g x y=Nm.g a b) (λσ _=>match σ with | [_,some (.int y),_]=>y.toNat | _=>0) ?_ ?_ ?_
  ·refine⟨rfl,_,_,_,rfl,?_,?_,?_⟩
   ·split <;>omega
   ·split <;>omega
   ·rw[show(if a<0 then -a else a)=(a.natAbs:Int) by split <;>omega,show(if b<0 then -b else b)=(b.natAbs:Int) by split <;>omega,Nm.Af,Nm.xa]
  ·intro σ H1 bH
   symm
   obtain⟨rfl,x,y,z,rfl,x0,y0,e⟩:=bH
   nofun
   simp_all only[]
   refine hZ (λc=>?_) (λc=>?_)
   ·refine⟨by omega,y0,aa9 _ (by omega),by rw[Nm.Ag x0 (by omega),e],?_⟩
    have:=abk x (show 0<y by omega)
    have:=aa9 x (show y≠0 by omega)
    omega
   ·have z:y=0:=by omega
    subst z
    rw[Nm.Ah x0] at e
    rw[e]
    exact k
  ·intro σ H1 Q1 Q2 hq hc
   simp only[L2.start,Pr,tRev,tD1,tDPop1,tSl,tNoPart,tPart,rSlL,tDIn,tDNotIn,gSub,rSetL,tLst,tDNewK,tComp,L2.stC,tFor_eq,iList,iTup,iRng1,iRng2,iZip,iEnum,iDict,iStr,tChain,tSumV,tBM,tRaise,tDGet,tDGet2,tDGet1,sDPut,Option.join_some,List.getElem?_nil,tSeq,tRet,tRetN,tIfS,tTest,tB,tOp,tUn,tVar,tC,tCB,tCons,tNil,tCall,tTupS,tAsg,gName,gNil,gCons,tPar,tNext,tDrop,tAnd,tOr,tNot,tAndV,tOrV,tNotV,tIf,rI,rI0,rU,rIxTH,rIxLH,rEqT,rNeT,rInT,rEq,rNe,scal_ss,scal_ii,scal_bb,scal_si,scal_is,CPow,at0,at1,at2,aaz,aa2,aaq,abb,Nat.reduceSub,Nat.reduceAdd,aaV,abw,List.reduceReplicate,aaY,List.nil_append,abo,abp,abi,abf,abg,abq,exists_eq_left',exists_eq_left,V.ref.injEq,V.int.injEq,V.bl.injEq,V.str.injEq,V.ty.injEq,HO.tup.injEq,HO.lst.injEq,List.cons.injEq,and_true,true_and,and_assoc,exists_and_left,decide_eq_true_eq,Bool.not_eq_true',decide_eq_false_iff_not,ite_true,ite_false,if_true,if_false,Int.reduceToNat,eq_self_iff_true] at hc ⊢
   symm
   obtain⟨v,e1,e2,q⟩:=hc
   nofun
   exact⟨v,e1,e2,hq _ _ q⟩
theorem fU:aQ ["several","common","one"] ["several"] (af (top 14)):=⟨rfl,rfl,rfl,by ac_rfl,rfl,by ac_rfl,by ac_rfl⟩
theorem JY (T:Txt K mg aA tc):bU P w K mg base (bN P w) 2 "common_bottom" ["several"] Gx:=by
 have dQ:bU P w K mg base (bN P w) 1 "common_divisor" ["one","other"] y3:=EW T
 refine T.mh.d3 (λ_ _ _ _ _ _=>iR λ_=>rfl) λf fd F=>F.d5 fU (λvs H Q E h=>?_) (λcG A outer s H vs Q E hr h=>?_)
 ·obtain⟨_,_,_,rfl,_⟩:=h;rfl
 ·symm
  obtain⟨a,ws,Z,rfl,rf,lw,dv,Z0,bZ,kk⟩:=h
  nofun
  have nd:=fU.nd
  refine⟨_,(ae (aF (i:=1) nd rfl (Or.inl rfl) ao)
  (ae (cu PassesOwn.never rfl (bj (K:=K) (pv 0)) (aG (i:=2) nd rfl (Or.inl rfl)) (au (aF (i:=1) nd rfl (Or.inl rfl) (aI aY (aI dS (pv 1) (aK dQ (hr.mono (by decide)) rfl aB.pass (aa (pv 1) (aa (aD aH (pv 2) ao (λ_ _=>rfl)) ag (se rfl)) (se rfl)) (he:=se rfl) (hpl:=na rfl))) (aD aH (pv 2) ao (λ_ _=>rfl))))))
  (au (aN (pv 1))))),?_⟩
  refine(?_:let cy:TS:=_;let cz:TS:=_;let cA:TS:=_;tSeq cy (tSeq cz cA) _ _ _)
  intro cy cz cA
  symm
  obtain⟨_,xs,e,ha,rl⟩:=aT.mp rf
  nofun
  cases e
  have lx:=rl.length
  rw[aac] at lx
  simp_all only[y3]
  refine⟨⟨_,bo.of ha⟩,bP (src_list (Ok:=λH'=>H'=H) (λH2 s2=>by rw[s2];exact bo.of ha)) (λi σ H'=>H'=H/\∃z,σ=[some (V.ref a),some (V.int (Wq.fB 1 (ws.take i))),z]) ⟨rfl,_,rfl⟩ (λ_ _ _ _ h=>h.1) ?_ ?_⟩
  ·intro i v σ H1 H2 hi dI dJ
   symm
   obtain⟨rfl,z,rfl⟩:=dI
   obtain⟨rfl,ex⟩:=dJ
   have sN:i<ws.length:=by omega
   have ew:ws[i]?=some ws[i]:=aad sN
   obtain⟨p,ep,hp⟩:=cJ rl ew
   nofun
   rw[ex] at ep
   cases ep
   have tk:ws.take (i+1)=ws.take i++ [ws[i]]:=by rw[aaF,ew];rfl
   symm
   obtain⟨l1,l2,l3,l4⟩:=Wq.m8 (xs:=ws.take i) (c:=1) (by decide) λx hx=>(dv x (List.mem_of_mem_take hx)).1
   nofun
   have lz:=l4 (Z:=Z) ⟨Z,by omega⟩ λx hx=>(dv x (List.mem_of_mem_take hx)).2
   have dw:=dv _ (aan sN)
   have b1:Bt 2000 (Wq.fB 1 (ws.take i)):=bZ.le (by have:=abe Z0 lz;omega)
   have b2:Bt 2000 (ws[i]).2:=bZ.le (by have:=abe Z0 dw.2;omega)
   have g0:0<Nm.g (Wq.fB 1 (ws.take i)) (ws[i]).2:=Nm.lA (by omega)
   have bg:Bt 2000 (Nm.g (Wq.fB 1 (ws.take i)) (ws[i]).2):=b2.le (by have:=Nm.FI (a:=Wq.fB 1 (ws.take i)) dw.1;omega)
   simp_all only[y3,hp]
   exact⟨fJ.of g0 bg,Bt.dM (b1.le (Nm.dU g0 (Nm.jF _ _))) b2,by rw[tk,Wq.qF];rfl,_,rfl⟩
  ·intro σ H1 bH
   symm
   obtain⟨rfl,z,rfl⟩:=bH
   nofun
   simp_all only[]
   rw[aaH (by omega)]
   exact kk
theorem uW:aQ ["top","bottom","divisor"] ["top","bottom"] (af (top 13)):=⟨rfl,rfl,rfl,by ac_rfl,rfl,by ac_rfl,by ac_rfl⟩
theorem JZ (T:Txt K mg aA tc):bU P w K mg base (bN P w) 2 "share" ["top","bottom"] Gw:=by
 have dQ:bU P w K mg base (bN P w) 1 "common_divisor" ["one","other"] y3:=EW T
 refine T.Dt.d3 (λ_ _ _ _ _ _=>d6 λ_ _=>rfl) λf fd F=>F.d5 uW (λvs H Q E h=>?_) (λcG A outer s H vs Q E hr h=>?_)
 ·obtain⟨_,_,rfl,_⟩:=h;rfl
 ·symm
  obtain⟨a,b,rfl,bt,b0,kq⟩:=h
  nofun
  have nd:=uW.nd
  refine⟨_,(ae (bF (aO cL (pv 1) ao (aS _)) (au nK)
   ba)
  (ae (aF (i:=2) nd rfl (Or.inl rfl) (aK dQ (hr.mono (by decide)) rfl aB.pass (aa (pv 0) (aa (pv 1) ag (se rfl)) (se rfl)) (he:=se rfl) (hpl:=na rfl)))
  (ae (bF (aO nP (pv 1) ao (aS _)) (au (aF (i:=2) nd rfl (Or.inl rfl) (zD vx (pv 2))))
   ba)
  (au (aN (bL (aa (aI dS (pv 0) (pv 2)) (aa (aI dS (pv 1) (pv 2)) ag (se rfl)) (se rfl)))))))),?_⟩
  refine(?_:let cy:TS:=_;let cz:TS:=_;let cA:TS:=_;let du:TS:=_;tSeq cy (tSeq cz (tSeq cA du)) _ _ _)
  intro cy cz cA du
  have g0:0<Nm.g a b:=Nm.lA (by omega)
  have gb:Bt 5000 (Nm.g a b):=bt.le (by have:=Nm.Ai (a:=a) (show b≠0 by omega);omega)
  unfold Nm.st Nm.sb at kq
  rw[if_neg (show ¬b<0 by omega),if_neg (show ¬b<0 by omega)] at kq
  simp_all only[y3]
  rw[if_neg (by omega),if_neg (by omega)]
  exact⟨fJ.of g0 gb,fJ.of g0 gb,by decide,λp H2 s1 n1 e=>kq p H2 s1 n1 e⟩
theorem o9:aQ ["place"] ["place"] (af (top 34)):=⟨rfl,rfl,rfl,by ac_rfl,rfl,by ac_rfl,by ac_rfl⟩
theorem J0 (T:Txt K mg aA tc):bU P w K mg base (bN P w) 1 "gain_of" ["place"] Gy:=by
 refine T.yU.d3 (λ_ _ _ _ _ _=>iR λ_=>rfl) λf fd F=>F.d5 o9 (λvs H Q E h=>?_) (λcG A outer s H vs Q E hr h=>?_)
 ·obtain⟨_,_,rfl,_⟩:=h;rfl
 ·symm
  obtain⟨a,q,rfl,rq,kk⟩:=h
  nofun
  have nd:=o9.nd
  refine⟨_,(au (aN (hG (aO cL (aD aH (pv 0) ao (λ_ _=>rfl)) cK (aS _)) (bL (aa ao (aa ao ag (se rfl)) (se rfl))) (aD aH (pv 0) ao (λ_ _=>rfl))))),?_⟩
  cases q with
  | fin g=>
   symm
   obtain⟨t',r,e,lJ,y9⟩:=cX.mp rq
   nofun
   cases e
   simp_all only[lJ]
   rw[if_neg (by ac_rfl)]
   exact kk _ _ (az.refl _) y9
  | dA g ws=>
   symm
   obtain⟨t',r,l,zs,e,lJ,y9,tD,rz⟩:=cN.mp rq
   nofun
   cases e
   simp_all only[lJ]
   rw[if_neg (by ac_rfl)]
   exact kk _ _ (az.refl _) y9
  | cD w to=>
   symm
   obtain⟨t',l,e,lJ,tD⟩:=cH.mp rq
   nofun
   cases e
   simp_all only[lJ]
   exact⟨by decide,λp H2 s2 _ e2=>kk _ _ s2 e2⟩
theorem fV:aQ ["self","tops","bottom"] ["self","tops","bottom"] (af (inClass (top 33) 0)):=⟨rfl,rfl,rfl,by ac_rfl,rfl,by ac_rfl,by ac_rfl⟩
theorem B3 (T:Txt K mg aA tc):qB P w K mg base (bN P w) 1 "Book" aA ["self","tops","bottom"] (DN aA):=by
 refine T.Dw.d3 (λ_ _ _ _ _ _=>pS λ_ _ _=>rfl) λf fd F=>F.d5 fV (λvs H Q E h=>?_) (λcG A outer s H vs Q E hr h=>?_)
 ·obtain⟨_,_,_,_,_,rfl,_⟩:=h;rfl
 ·symm
  obtain⟨x,dx,l,ts,b,rfl,hx,hl,kk⟩:=h
  nofun
  have nd:=fV.nd
  refine⟨_,(ae (zI (pv 0) (eG (cS (K:=K)) (by rfl) T.z_list rfl (aa (pv 1) ag (se rfl)) (he:=se rfl) (hpl:=na rfl)) rfl)
  (au (zI (pv 0) (pv 2) rfl))),?_⟩
  simp_all only[IE]
  refine⟨_,.inl (bo.of hl),λm nm=>?_⟩
  have mx:m≠x:=λz=>by rw[z,hx] at nm;cases nm
  have ZC:upd H m (.lst (ts.map V.int)) x=some (.ins aA dx []):=by rw[aJ (Ne.symm mx)];exact hx
  refine⟨_,_,_,ZC,T.cF,T.na_Book_tops,by decide,_,_,_,ar,T.cF,T.na_Book_bottom,by show(1:Nat)<1000;decide,?_⟩
  refine kk m _ nm ?_ ?_ ?_
  ·rw[aJ mx,aJ mx,ar]
  ·rw[ar]
   show some (HO.ins aA dx (if Str.ofString "tops"=Str.ofString "bottom" then _ else _))=_
   rw[if_neg (by ac_rfl)]
   rfl
  ·intro y o ny hy
   have ym:y≠m:=λz=>by rw[z,nm] at hy;cases hy
   rw[aJ ny,aJ ny,aJ ym]
   exact hy
theorem pb:aQ ["several","bottom"] ["several"] (af (top 35)):=⟨rfl,rfl,rfl,by ac_rfl,rfl,by ac_rfl,by ac_rfl⟩
theorem J1 (T:Txt K mg aA tc):bU P w K mg base (bN P w) 3 "book_of" ["several"] (Gz aA):=by
 have mG:bU P w K mg base (bN P w) 2 "common_bottom" ["several"] Gx:=JY T
 have pd:qB P w K mg base (bN P w) 1 "Book" aA ["self","tops","bottom"] (DN aA):=B3 T
 refine T.yV.d3 (λ_ _ _ _ _ _=>iR λ_=>rfl) λf fd F=>F.d5 pb (λvs H Q E h=>?_) (λcG A outer s H vs Q E hr h=>?_)
 ·obtain⟨_,_,_,rfl,_⟩:=h;rfl
 ·symm
  obtain⟨a,ws,Z,rfl,rf,lw,dv,Z0,bZ,kk⟩:=h
  nofun
  clear G_
  have nd:=pb.nd
  refine⟨_,(ae (aF (i:=1) nd rfl (Or.inr rfl) (aK mG (hr.mono (by decide)) rfl aB.pass (aa (pv 0) ag (se rfl)) (he:=se rfl) (hpl:=na rfl)))
  (au (aN (AI pd (hr.mono (by decide)) rfl aB.pass (aa (bO rfl (N:=["several","bottom"]) (so:=af (top 35)) (N':=["one","bottom"]) (k:=1) (fr:=[1]) rfl rfl ⟨rfl,by ac_rfl,by ac_rfl,by ac_rfl,rfl,by ac_rfl,by ac_rfl⟩ (bj (K:=K) (pv 0)) (λ_ _ _ _ _=>(aG (i:=0) (show(["one","bottom"]:List Str).Nodup by ac_rfl) rfl (Or.inl rfl))) (λ_ _ _ _ _=>bJ)
   (λ_ _ _ _ _=>(aI aY (aD aH (pv 0) ao (λ_ _=>rfl)) (aI dS (pv 1) (aD aH (pv 0) ao (λ_ _=>rfl)))))) (aa (pv 1) ag (se rfl)) (se rfl)) (he:=se rfl) (hpl:=na rfl))))),?_⟩
  simp_all only[Gx,tN]
  refine⟨ws,rf,lw,Z,λx hx=>⟨(dv x hx).1,(dv x hx).2.1⟩,Z0,bZ,?_⟩
  symm
  obtain⟨_,xs,e,ha,rl⟩:=aT.mp rf
  nofun
  clear G_
  cases e
  have lx:=rl.length
  rw[aac] at lx
  refine⟨⟨_,bo.of ha⟩,?_⟩
  symm
  obtain⟨l1,l2,l3,l4⟩:=Wq.m8 (xs:=ws) (c:=1) (by decide) λx hx=>(dv x hx).1
  nofun
  clear G_
  have lz:=l4 (Z:=Z) ⟨Z,by omega⟩ λx hx=>(dv x hx).2.1
  have b1:Bt 2000 (Wq.fB 1 ws):=bZ.le (by have:=abe Z0 lz;omega)
  have S:Src (vj K a) (az H) ws.length (λi x H H3=>H3=H/\xs[i]?=some x):=by rw[lx];exact src_list (λH' s'=>bo.of (s' _ _ ha))
  refine dm ws (λx=>some (Wq.sc (Wq.fB 1 ws) x)) S (λ_ _ _ _ h=>h.1) (by rw[sizeLine_eq];omega) ?_ ?_
  ·rintro i x v ep ⟨_,ex⟩ Y N y1 _
   symm
   obtain⟨t,et,ht⟩:=cJ rl ep
   nofun
   rw[ex] at et
   cases et
   have dx:=dv x (aag ep)
   have b2:Bt 2000 x.2:=bZ.le (by have:=abe Z0 dx.2.1;omega)
   simp_all only[gA,ht]
   exact⟨fJ.of dx.1 b2,Bt.dM dx.2.2 (b1.le (Nm.dU dx.1 (l3 x (aag ep)))),y1 _ rfl⟩
  ·intro D n1 n2 x dx nx NW ne
   rw[dR] at nx NW ⊢
   have s1:=ax (H:=H) (o:=.lst (List.map V.int (ws.map (Wq.sc (Wq.fB 1 ws))))) n2
   have hD:upd H D (.lst (List.map V.int (ws.map (Wq.sc (Wq.fB 1 ws))))) D=some _:=ar
   have s2:=s1.trans (ax (o:=.own x) NW)
   have J2:=ax (o:=.own x) NW _ _ hD
   generalize upd H D (.lst (List.map V.int (ws.map (Wq.sc (Wq.fB 1 ws)))))=H1 at *
   have xD:D≠x:=λz=>by rw[z,nx] at hD;cases hD
   refine⟨x,dx,D,_,_,rfl,ar,by rw[aJ xD];exact J2,λm H' nm hm qc ky=>⟨rfl,kk x H' (λy o hy=>?_) ⟨dx,m,qc,hm⟩⟩⟩
   have yx:y≠x:=λz=>by have:=s1 _ _ hy;rw[z,nx] at this;cases this
   exact ky y o yx (by rw[aJ yx];exact s2 _ _ hy)
theorem J3 {a b:V}:List.lookup (Str.ofString "scaled") [(("tops":Str),a),(("bottom":Str),b)]=none:=rfl
theorem lK {a b:V}:List.lookup (Str.ofString "tops") [(("tops":Str),a),(("bottom":Str),b)]=some a:=rfl
theorem uX {a b:V}:List.lookup (Str.ofString "bottom") [(("tops":Str),a),(("bottom":Str),b)]=some b:=rfl
theorem iz:aQ ["self","factor"] ["self","factor"] (af (inClass (top 33) 1)):=⟨rfl,rfl,rfl,by ac_rfl,rfl,by ac_rfl,by ac_rfl⟩
theorem Hb (T:Txt K mg aA tc):oI P w K mg base (bN P w) 3 aA "scaled" ["self","factor"] (EK aA):=by
 have pd:qB P w K mg base (bN P w) 1 "Book" aA ["self","tops","bottom"] (DN aA):=B3 T
 refine T.oP.d3 (λ_ _ _ _ _ _=>d6 λ_ _=>rfl) λf fd F=>F.d5 iz (λvs H Q E h=>?_) (λcG A outer s H vs Q E hr h=>?_)
 ·obtain⟨_,_,_,rfl,_⟩:=h;rfl
 ·symm
  obtain⟨x,S,d,rfl,⟨dx,m,hx,hm⟩,bd,bb,bt,ln,kk⟩:=h
  nofun
  clear G_
  have nd:=iz.nd
  refine⟨_,(au (aN (AI pd (hr.mono (by decide)) rfl aB.pass (aa (bO rfl (N:=["self","factor"]) (so:=af (inClass (top 33) 1)) (N':=["top","factor"]) (k:=1) (fr:=[1]) rfl rfl ⟨rfl,by ac_rfl,by ac_rfl,by ac_rfl,rfl,by ac_rfl,by ac_rfl⟩ (bj (K:=K) (d4 (pv 0) rfl)) (λ_ _ _ _ _=>(aG (i:=0) (show(["top","factor"]:List Str).Nodup by ac_rfl) rfl (Or.inl rfl))) (λ_ _ _ _ _=>bJ)
   (λ_ _ _ _ _=>(aI aY (pv 0) (pv 1)))) (aa (aI aY (d4 (pv 0) rfl) (pv 1)) ag (se rfl)) (se rfl)) (he:=se rfl) (hpl:=na rfl)))),?_⟩
  simp_all only[lX,tN]
  refine⟨_,_,_,hx,T.cF,T.na_Book_tops,_,lK,m,rfl,⟨_,bo.of hm⟩,?_⟩
  have S':Src (vj K m) (az H) S.1.length (λi x H H3=>H3=H/\(S.1.map V.int)[i]?=some x):=by
   have:=src_list (K:=K) (a:=m) (xs:=S.1.map V.int) (Ok:=az H) (λH' s'=>bo.of (s' _ _ hm))
   rwa [aac] at this
  refine dm S.1 (λt=>some (t*d)) S' (λ_ _ _ _ h=>h.1) (by rw[sizeLine_eq];omega) ?_ ?_
  ·rintro i t v et ⟨_,ex⟩ Y N y1 _
   rw[aaf,et] at ex
   cases ex
   simp_all only[gA]
   exact⟨(bt t (aag et)).dM bd,y1 _ rfl⟩
  ·intro D n1 n2
   rw[dR]
   have s1:=ax (H:=H) (o:=.lst (List.map V.int (S.1.map (·*d)))) n2
   have hD:upd H D (.lst (List.map V.int (S.1.map (·*d)))) D=some (.lst (List.map V.int (S.1.map (·*d)))):=ar
   generalize upd H D (.lst (List.map V.int (S.1.map (·*d))))=H1 at *
   refine⟨_,_,_,s1 _ _ hx,T.cF,T.na_Book_bottom,_,uX,_,rfl,bb.dM bd,λy dy ny J4 ne=>?_⟩
   have s2:=s1.trans (ax (o:=.own y) J4)
   have J2:=ax (o:=.own y) J4 _ _ hD
   have xD:D≠y:=λz=>by rw[z,ny] at hD;cases hD
   refine⟨y,dy,D,_,_,rfl,ar,by rw[aJ xD];exact J2,λm' H' nm J5 qc ky=>⟨rfl,kk y dy m' H' (λz o hz=>?_) (none_of s1 ny) ?_ qc J5⟩⟩
   ·have yx:z≠y:=λe=>by have:=s1 _ _ hz;rw[e,ny] at this;cases this
    exact ky z o yx (by rw[aJ yx];exact s2 _ _ hz)
   ·have my:m'≠y:=λe=>by rw[e,ar] at nm;cases nm
    rw[aJ my] at nm
    exact none_of s2 nm
theorem ft:aQ ["self"] ["self"] (af (inClass (top 33) 2)):=⟨rfl,rfl,rfl,by ac_rfl,rfl,by ac_rfl,by ac_rfl⟩
theorem J6 (T:Txt K mg aA tc):oI P w K mg base (bN P w) 3 aA "as_shares" ["self"] (Jx aA):=by
 have D7:bU P w K mg base (bN P w) 2 "share" ["top","bottom"] Gw:=JZ T
 refine T.jM.d3 (λ_ _ _ _ _ _=>iR λ_=>rfl) λf fd F=>F.d5 ft (λvs H Q E h=>?_) (λcG A outer s H vs Q E hr h=>?_)
 ·obtain⟨_,_,rfl,_⟩:=h;rfl
 ·symm
  obtain⟨x,S,rfl,⟨dx,m,hx,hm⟩,b0,bb,ln,kk⟩:=h
  nofun
  have nd:=ft.nd
  refine⟨_,(au (aN (bO rfl (N:=["self"]) (so:=af (inClass (top 33) 2)) (N':=["top","self"]) (k:=1) (fr:=[0]) rfl rfl ⟨rfl,by ac_rfl,by ac_rfl,by ac_rfl,rfl,by ac_rfl,by ac_rfl⟩ (bj (K:=K) (d4 (pv 0) rfl)) (λ_ _ _ _ _=>(aG (i:=0) (show(["top","self"]:List Str).Nodup by ac_rfl) rfl (Or.inl rfl))) (λ_ _ _ _ _=>bJ)
   (λ_ _ _ _ _=>(aK D7 (hr.mono (by decide)) rfl aB.pass (aa (pv 0) (aa (xx (K:=K) (pv 1) rfl) ag (se rfl)) (se rfl)) (he:=se rfl) (hpl:=na rfl)))))),?_⟩
  simp_all only[lX]
  refine⟨_,_,_,hx,T.cF,T.na_Book_tops,_,lK,m,rfl,⟨_,bo.of hm⟩,?_⟩
  refine comp_map (src_list (K:=K) (a:=m) (xs:=S.1.map V.int) (Ok:=az H) (λH' s'=>bo.of (s' _ _ hm))) (λ_ _ _ _ h=>by rw[h.1];exact az.refl _) (by rw[aac,sizeLine_eq];omega) (λi y H4=>∀t,S.1[i]?=some t->∃p,y=.ref p/\H4 p=some (.tup (Pr (Wq.low t S.2).1 (Wq.low t S.2).2))) (λi y H4 H5 s5 h t e=>by obtain⟨p,e1,h1⟩:=h t e;exact⟨p,e1,s5 _ _ h1⟩) ?_ ?_
  ·rintro i v w0 H4 H5 Q2 hi s4 ⟨rfl,ex⟩ kq
   rw[aaf] at ex
   symm
   obtain⟨t,et,rfl⟩:=Option.map_eq_some_iff.mp ex
   nofun
   simp_all only[Gw,lX]
   refine⟨_,_,_,s4 _ _ hx,T.cF,T.na_Book_bottom,_,uX,_,rfl,bb,b0,λp H6 s6 n6 h6=>kq _ _ s6 λt' e'=>?_⟩
   rw[et] at e'
   cases e'
   exact⟨p,rfl,h6⟩
  ·intro ys H5 s5 ly hy D n1 n2
   rw[aac] at ly
   refine kk D _ (s5.trans (ax n2)) (none_of s5 n2) (aT.mpr ⟨D,ys,rfl,ar,dD (by rw[aac];exact ly) λi y ey q eq=>?_⟩)
   rw[aaf] at eq
   symm
   obtain⟨t,et,rfl⟩:=Option.map_eq_some_iff.mp eq
   obtain⟨p,e1,h1⟩:=hy i y ey t et
   nofun
   exact cn.mpr ⟨p,e1,ax n2 _ _ h1⟩
theorem fW:aQ ["board","part","product","place"] ["board","part"] (af (top 27)):=⟨rfl,rfl,rfl,by ac_rfl,rfl,by ac_rfl,by ac_rfl⟩
theorem Hc (T:Txt K mg aA tc):bU P w K mg base (bN P w) 1 "ways_of_picks" ["board","part"] wu:=by
 refine T.mw.d3 (λ_ _ _ _ _ _=>d6 λ_ _=>rfl) λf fd F=>F.d5 fW (λvs H Q E h=>?_) (λcG A outer s H vs Q E hr h=>?_)
 ·obtain⟨_,_,_,_,rfl,_⟩:=h;rfl
 ·symm
  obtain⟨a,x,b,ps,rfl,rb,hx,wG,ok,zh,kk⟩:=h
  nofun
  clear G_
  have nd:=fW.nd
  refine⟨_,(ae (aF (i:=2) nd rfl (Or.inl rfl) ao)
  (ae (cu PassesOwn.never rfl (bj (K:=K) (pv 1)) (aG (i:=3) nd rfl (Or.inl rfl)) (au (bF (aO cL (aD aH (aD aE (pv 0) (pv 3) (λ_ _=>rfl)) ao (λ_ _=>rfl)) cK (aS _)) (au (aF (i:=2) nd rfl (Or.inl rfl) (aI aY (pv 2) (aP bB (by rfl) T.z_len aat (aa (aD aH (aD aE (pv 0) (pv 3) (λ_ _=>rfl)) ao (λ_ _=>rfl)) ag (se rfl)) (he:=se rfl) (hpl:=na rfl)))))
   ba)))
  (au (aN (pv 2))))),?_⟩
  refine(?_:let cy:TS:=_;let cz:TS:=_;let cA:TS:=_;tSeq cy (tSeq cz cA) _ _ _)
  intro cy cz cA
  symm
  obtain⟨_,xs,e,ha,rl⟩:=aT.mp rb
  nofun
  clear G_
  cases e
  simp_all only[]
  refine⟨⟨_,bo.of hx⟩,bP (src_list (Ok:=λH'=>H'=H) (λH2 s2=>by rw[s2];exact bo.of hx)) (λi σ H'=>H'=H/\∃(k:Nat) (z:Option V),kQ b k (ps.drop i)=kQ b 1 ps/\σ=[some (V.ref a),some (V.ref x),some (V.int (k:Int)),z]) ⟨rfl,1,_,rfl,rfl⟩ (λ_ _ _ _ h=>h.1) ?_ ?_⟩
  ·intro i y σ H1 H2 hi dI dJ
   symm
   obtain⟨rfl,k,z,ki,rfl⟩:=dI
   obtain⟨rfl,ex⟩:=dJ
   nofun
   clear G_
   rw[aac] at hi
   rw[aaf,aad hi] at ex
   cases ex
   rw[List.drop_eq_getElem_cons hi] at ki
   have ip:=wG _ (aan hi)
   generalize ps[i]=p at *
   obtain⟨p,rfl⟩:=aav ip.1
   have hp:p<b.length:=by have:=ip.2;omega
   have eb:b[p]?=some b[p]:=aad hp
   symm
   obtain⟨v,ev,rv⟩:=dq rl eb
   nofun
   clear G_
   have ki:kQ b (k*xV b (p:Int)) (ps.drop (i+1))=kQ b 1 ps:=ki
   have ek:xV b (p:Int)=match b[p] with | .cD _ to=>to.length | _=>1:=by
    unfold xV
    rw[aak,eb]
    cases b[p] <;>rfl
   have k1:k<=4096:=by
    have:=xX ok (ps.drop (i+1)) (k*xV b (p:Int))
    have:=Nat.le_mul_of_pos_right k (wo ok (p:Int)).1
    omega
   have pq:=ok _ (aan hp)
   rw[ek] at ki
   generalize b[p]=q at *
   cases q with
   | fin g=>
    symm
    obtain⟨t,r,rfl,ht,_⟩:=cX.mp rv
    nofun
    simp_all only[ha,show eE xs (p:Int)=some (.ref t) from bE ev,ht]
    rw[if_neg (by ac_rfl)]
    exact⟨k,by rw[<-ki,Nat.mul_one],rfl,_,rfl⟩
   | dA g ws=>
    symm
    obtain⟨t,r,l,zs,rfl,ht,_⟩:=cN.mp rv
    nofun
    simp_all only[ha,show eE xs (p:Int)=some (.ref t) from bE ev,ht]
    rw[if_neg (by ac_rfl)]
    exact⟨k,by rw[<-ki,Nat.mul_one],rfl,_,rfl⟩
   | cD br to=>
    symm
    obtain⟨t,l,rfl,ht,hl⟩:=cH.mp rv
    nofun
    simp_all only[ha,show eE xs (p:Int)=some (.ref t) from bE ev,ht,hl]
    have lt:(List.map V.int to).length=to.length:=aac ..
    have l4:=pq.2.2.1
    rw[lt]
    exact⟨(Bt.of (n:=13) 4096 (by omega) (by omega)).dM (Bt.of (n:=3) 4 (by omega) (by omega)),k*to.length,ki,by rw[Int.natCast_mul],_,rfl⟩
  ·intro σ H1 bH
   symm
   obtain⟨rfl,k,z,ki,rfl⟩:=bH
   nofun
   rw[aac,List.drop_length] at ki
   have ki:k=kQ b 1 ps:=ki
   simp_all only[]
   rw[ki]
   exact kk
theorem fX:aQ ["board","left","found","part"] ["board"] (af (top 28)):=⟨rfl,rfl,rfl,by ac_rfl,rfl,by ac_rfl,by ac_rfl⟩
theorem He (T:Txt K mg aA tc) (LB:pO base mg tc tp):bU P w K mg base (bN P w) 6 "checked_parts" ["board"] (wt tp):=by
 have Hf:bU P w K mg base (bN P w) 5 "ring" ["board"] v9:=DZ T
 have D8:bU P w K mg base (bN P w) 3 "parts" ["board"] (B2 tp):=G3 T LB
 have mH:bU P w K mg base (bN P w) 1 "ways_of_picks" ["board","part"] wu:=Hc T
 refine T.mz.d3 (λ_ _ _ _ _ _=>iR λ_=>rfl) λf fd F=>F.d5 fX (λvs H Q E h=>?_) (λcG A outer s H vs Q E hr h=>?_)
 ·obtain⟨_,_,_,rfl,_⟩:=h;rfl
 ·symm
  obtain⟨a,b,rk,rfl,rb,B,lE,kk⟩:=h
  nofun
  have nd:=fX.nd
  refine⟨_,(ae (aF (i:=1) nd rfl (Or.inl rfl) (aK Hf (hr.mono (by decide)) rfl aB.pass (aa (pv 0) ag (se rfl)) (he:=se rfl) (hpl:=na rfl)))
  (ae (bF (aO jD (aP bB (by rfl) T.z_len aat (aa (pv 1) ag (se rfl)) (he:=se rfl) (hpl:=na rfl)) ao (aS _)) (au nK)
   ba)
  (ae (aF (i:=2) nd rfl (Or.inl rfl) (aK D8 (hr.mono (by decide)) rfl aB.pass (aa (pv 0) ag (se rfl)) (he:=se rfl) (hpl:=na rfl)))
  (ae (cu PassesOwn.never rfl (bj (K:=K) (pv 2)) (aG (i:=3) nd rfl (Or.inl rfl)) (au (bF (PW.pt (pw_or (aO jD (aP bB (by rfl) T.z_len aat (aa (pv 3) ag (se rfl)) (he:=se rfl) (hpl:=na rfl)) (ug rfl T.c_MOST_PLACES) (aS _)) (pw_or1 (aO jD (aK mH (hr.mono (by decide)) rfl aB.pass (aa (pv 0) (aa (pv 3) ag (se rfl)) (se rfl)) (he:=se rfl) (hpl:=na rfl)) (ug rfl T.c_MOST_PICKS) (aS _))))) (au nK)
   ba)))
  (au (aN (pv 2))))))),?_⟩
  refine(?_:let cy:TS:=_;let cz:TS:=_;let cA:TS:=_;let du:TS:=_;let iy:TS:=_;tSeq cy (tSeq cz (tSeq cA (tSeq du iy))) _ _ _)
  intro cy cz cA du iy
  have bl:=B.len
  simp_all only[v9,B2]
  refine⟨b,rb,B.bd,λl H1 s1 n1 hl=>⟨_,hl,?_⟩⟩
  rw[B.gP.ring]
  rw[if_neg (by simp)]
  refine⟨b,rb.mono s1,by omega,B.tX,B.gP.good,s1 _ _ lE,λl2 ps as H2 td s2 n2 CQ al=>?_⟩
  have WM:Al (λp v=>∃x,v=.ref x/\H2 x=some (.lst ((Pr.c9 b p).map V.int))) ps (as.map V.ref):=by
   refine Al.of al.length λi v p ev ep=>?_
   symm
   obtain⟨p',CA,x,rfl,hx,_⟩:=al.get ev
   nofun
   rw[ep] at CA
   cases CA
   exact⟨x,rfl,hx⟩
  have J7:=s1.trans s2
  refine⟨⟨_,bo.of CQ⟩,bP (src_list (Ok:=λH'=>H'=H2) (λH3 s3=>by rw[s3];exact bo.of CQ)) (λi σ H'=>H'=H2/\∃z,σ=[some (V.ref a),some (V.ref l),some (V.ref l2),z]) ⟨rfl,_,rfl⟩ (λ_ _ _ _ h=>h.1) ?_ ?_⟩
  ·intro i y σ H3 H4 hi dI dJ
   symm
   obtain⟨rfl,z,rfl⟩:=dI
   obtain⟨rfl,ex⟩:=dJ
   obtain⟨p,ep,x,rfl,hx⟩:=WM.get ex
   nofun
   have ip:=td.Jr (aag ep)
   have lp:(Pr.c9 b p).length<=b.length:=by
    have:=Pr.sub_len (l:=Pr.c9 b p) (m:=Pr.kb b p) ((Pr.kK B.gP.good ip).imp λh z=>by omega) λx hx=>(Pr.dh.mp hx).1
    have:=Pr.A5 B.gP.good ip
    omega
   simp_all only[wu,hx]
   rw[if_neg (by rw[aac];omega)]
   have cp:=B.zh p ip
   refine⟨b,rb.mono J7,Pr.c9 b p,rfl,λq hq=>Pr.eX B.gP.good ip hq,B.ok,cp,?_⟩
   rw[if_neg (by omega)]
   exact⟨_,rfl⟩
  ·intro σ H3 bH
   symm
   obtain⟨rfl,z,rfl⟩:=bH
   nofun
   simp_all only[]
   exact kk l2 ps as _ td J7 (none_of s1 n2) CQ WM
theorem fY:aQ ["place","way"] ["place","way"] (af (top 29)):=⟨rfl,rfl,rfl,by ac_rfl,rfl,by ac_rfl,by ac_rfl⟩
theorem B4 (T:Txt K mg aA tc):bU P w K mg base (bN P w) 1 "weighted_ways" ["place","way"] uO:=by
 refine T.mB.d3 (λ_ _ _ _ _ _=>d6 λ_ _=>rfl) λf fd F=>F.d5 fY (λvs H Q E h=>?_) (λcG A outer s H vs Q E hr h=>?_)
 ·obtain⟨_,_,_,rfl,_⟩:=h;rfl
 ·symm
  obtain⟨v,q,k,rfl,rv,pk,kk⟩:=h
  nofun
  have nd:=fY.nd
  refine⟨_,(ae (bF (aO cL (aD aH (pv 0) ao (λ_ _=>rfl)) cK (aS _)) (au (aN (aD aH (pv 0) ao (λ_ _=>rfl))))
   ba)
  (ae (bF (aO cL (aD aH (pv 0) ao (λ_ _=>rfl)) cK (aS _)) (au (aN (cV (aa (bL (aa ao (aa (aD aE (aD aH (pv 0) ao (λ_ _=>rfl)) (pv 1) (λ_ _=>rfl)) ag (se rfl)) (se rfl))) ag (se rfl)))))
   ba)
  (au (aN (cV ag))))),?_⟩
  refine(?_:let cy:TS:=_;let cz:TS:=_;let cA:TS:=_;tSeq cy (tSeq cz cA) _ _ _)
  intro cy cz cA
  cases q with
  | fin g=>
   symm
   obtain⟨t,r,rfl,ht,_⟩:=cX.mp rv
   nofun
   simp_all only[ht]
   rw[if_neg (by ac_rfl),if_neg (by ac_rfl)]
   exact⟨aas _,λl nl=>kk l _ (ax nl) (aT.mpr ⟨l,[],rfl,ar,rfl⟩)⟩
  | dA g ws=>
   symm
   obtain⟨t,r,l,zs,rfl,ht,_,hl,rz⟩:=cN.mp rv
   nofun
   simp_all only[ht]
   exact kk l _ (az.refl _) (aT.mpr ⟨l,zs,rfl,hl,rz⟩)
  | cD br to=>
   symm
   obtain⟨t,l,rfl,ht,hl⟩:=cH.mp rv
   nofun
   cases k with
   | none=>exact pk.elim
   | some k=>
    obtain⟨k0,k1⟩:=pk
    have at1:eE (to.map V.int) k=some (.int (to.getD k.toNat 0)):=dC k0 k1
    simp_all only[fC,ht,hl,at1]
    rw[if_neg (by ac_rfl)]
    exact⟨by decide,λp H2 s2 np hp=>⟨by decide,λl2 nl=>kk l2 _ (s2.trans (ax nl)) (aT.mpr ⟨l2,[.ref p],rfl,ar,⟨_,_,rfl,cn.mpr ⟨p,rfl,ax nl _ _ hp⟩,rfl⟩⟩)⟩⟩
theorem dX:aQ ["board","picks"] ["board","picks"] (af (top 30)):=⟨rfl,rfl,rfl,by ac_rfl,rfl,by ac_rfl,by ac_rfl⟩
theorem J8 (T:Txt K mg aA tc):bU P w K mg base (bN P w) 2 "all_weighted_ways" ["board","picks"] JA:=by
 have el:bU P w K mg base (bN P w) 1 "weighted_ways" ["place","way"] uO:=B4 T
 refine T.iQ.d3 (λ_ _ _ _ _ _=>d6 λ_ _=>rfl) λf fd F=>F.d5 dX (λvs H Q E h=>?_) (λcG A outer s H vs Q E hr h=>?_)
 ·obtain⟨_,_,_,_,rfl,_⟩:=h;rfl
 ·symm
  obtain⟨a,c,b,ks,rfl,rb,lb,hc,⟨lk,pk⟩,kk⟩:=h
  nofun
  have nd:=dX.nd
  refine⟨_,(au (aN (bO rfl (N:=["board","picks"]) (so:=af (top 30)) (N':=["place","way"]) (k:=2) (fr:=[]) rfl rfl ⟨rfl,by ac_rfl,by ac_rfl,by ac_rfl,rfl,by ac_rfl,by ac_rfl⟩ (jK (K:=K) rfl T.z_zip (aa (pv 0) (aa (pv 1) ag (se rfl)) (se rfl))) (λ_ _ _ _ _=>(bX (K:=K) (n:=2) rfl (aU (aG (i:=0) (show(["place","way"]:List Str).Nodup by ac_rfl) rfl (Or.inl rfl)) (aU (aG (i:=1) (show(["place","way"]:List Str).Nodup by ac_rfl) rfl (Or.inl rfl)) bV)))) (λ_ _ _ _ _=>bJ)
   (λ_ _ _ _ _=>(aK el (hr.mono (by decide)) rfl aB.pass (aa (pv 0) (aa (pv 1) ag (se rfl)) (se rfl)) (he:=se rfl) (hpl:=na rfl)))))),?_⟩
  have sl:=sizeLine_eq
  symm
  obtain⟨_,xs,e,ha,rl⟩:=aT.mp rb
  nofun
  cases e
  have lx:=rl.length
  rw[aac] at lx
  simp_all only[uO]
  refine⟨⟨_,bo.of ha⟩,⟨_,bo.of hc⟩,?_⟩
  refine eJ (K:=K) (jJ (λH' s'=>bo.of (s' _ _ ha)) (λH' s'=>bo.of (s' _ _ hc))) (λi u v H'=>∃q k,b[i]?=some q/\ks[i]?=some k/\Rep H (jf q) u/\v=fC k) ?_ (by rw[aac];omega) (λi y H'=>∃l,y=.ref l/\∀q k,b[i]?=some q->ks[i]?=some k->Rep H' (qL (vc q k)) (.ref l)) (λ_ _ _ _ s ⟨l,e,h⟩=>⟨l,e,λq k e1 e2=>(h q k e1 e2).mono s⟩) ?_ ?_
  ·intro i v H2 H3 hi s2 dI
   symm
   obtain⟨t,x,y,nt,rfl,ex,ey,rfl⟩:=dI
   rw[aaf] at ey
   obtain⟨k,ek,rfl⟩:=Option.map_eq_some_iff.mp ey
   obtain⟨q,eq,rq⟩:=dN rl ex
   nofun
   exact⟨ax nt,t,_,_,rfl,dZ.of ar,q,k,eq,ek,rq,rfl⟩
  ·intro i u v H2 Q2 hi s2 dJ kq
   symm
   obtain⟨q,k,eq,ek,rq,rfl⟩:=dJ
   nofun
   simp_all only[uO]
   refine⟨q,k,rfl,rq.mono s2,pk i q k eq ek,λl H3 s3 r3=>kq _ _ s3 ⟨l,rfl,λq' k' e1 e2=>?_⟩⟩
   rw[eq] at e1
   rw[ek] at e2
   cases e1
   cases e2
   exact r3
  ·intro ys H2 s2 ly hy D n1 n2
   rw[aac] at ly
   have lz:(cE b ks).length=b.length:=by unfold cE;rw[abr];omega
   refine kk D ys _ (s2.trans (ax n2)) (none_of s2 n2) ar (dD (by rw[lz];omega) λi y ey ws ew=>?_)
   have hi:i<b.length:=by have:=(List.getElem?_eq_some_iff.mp ew).1;omega
   symm
   obtain⟨l,rfl,hl⟩:=hy i y ey
   nofun
   have e1:b[i]?=some b[i]:=aad hi
   have e2:ks[i]?=some ks[i]:=aad (by omega)
   have e3:ws=vc b[i] ks[i]:=by
    unfold cE at ew
    rw[aby,e1,e2] at ew
    exact(aaC ew).symm
   rw[e3]
   exact(hl _ _ e1 e2).mono (λa o h=>by
    have:a≠D:=λz=>by rw[z,n2] at h;cases h
    rw[bK this,aJ this]
    exact h)
theorem lL:aQ ["board"] ["board"] (af (top 36)):=⟨rfl,rfl,rfl,by ac_rfl,rfl,by ac_rfl,by ac_rfl⟩
theorem Hg (T:Txt K mg aA tc):bU P w K mg base (bN P w) 4 "gains_of" ["board"] (BH aA):=by
 have zb:bU P w K mg base (bN P w) 1 "gain_of" ["place"] Gy:=J0 T
 have zc:bU P w K mg base (bN P w) 3 "book_of" ["several"] (Gz aA):=J1 T
 refine T.v5.d3 (λ_ _ _ _ _ _=>iR λ_=>rfl) λf fd F=>F.d5 lL (λvs H Q E h=>?_) (λcG A outer s H vs Q E hr h=>?_)
 ·obtain⟨_,_,_,rfl,_⟩:=h;rfl
 ·symm
  obtain⟨a,b,rk,rfl,rb,B,kk⟩:=h
  nofun
  have nd:=lL.nd
  refine⟨_,(au (aN (aK zc (hr.mono (by decide)) rfl aB.pass (aa (bO rfl (N:=["board"]) (so:=af (top 36)) (N':=["place"]) (k:=1) (fr:=[]) rfl rfl ⟨rfl,by ac_rfl,by ac_rfl,by ac_rfl,rfl,by ac_rfl,by ac_rfl⟩ (bj (K:=K) (pv 0)) (λ_ _ _ _ _=>(aG (i:=0) (show(["place"]:List Str).Nodup by ac_rfl) rfl (Or.inl rfl))) (λ_ _ _ _ _=>bJ)
   (λ_ _ _ _ _=>(aK zb (hr.mono (by decide)) rfl aB.pass (aa (pv 0) ag (se rfl)) (he:=se rfl) (hpl:=na rfl)))) ag (se rfl)) (he:=se rfl) (hpl:=na rfl)))),?_⟩
  simp_all only[Gz]
  symm
  obtain⟨_,xs,e,ha,rl⟩:=aT.mp rb
  nofun
  cases e
  have lx:=rl.length
  rw[aac] at lx
  have bl:=B.len
  refine⟨⟨_,bo.of ha⟩,?_⟩
  refine comp_map (src_list (K:=K) (a:=a) (xs:=xs) (Ok:=az H) (λH' s'=>bo.of (s' _ _ ha))) (λ_ _ _ _ h=>by rw[h.1];exact az.refl _) (by rw[sizeLine_eq];omega) (λi y H4=>∀q,b[i]?=some q->∃p,y=.ref p/\H4 p=some (.tup (Pr (Wq.dt q).1 (Wq.dt q).2))) (λi y H4 H5 s5 h t e=>by obtain⟨p,e1,h1⟩:=h t e;exact⟨p,e1,s5 _ _ h1⟩) ?_ ?_
  ·rintro i v w0 H4 H5 Q2 hi s4 ⟨rfl,ex⟩ kq
   symm
   obtain⟨q,eq,rq⟩:=dN rl ex
   nofun
   simp_all only[Gy]
   refine⟨q,rq.mono s4,λr H6 s6 ZD=>kq _ _ s6 λq' e'=>?_⟩
   rw[eq] at e'
   cases e'
   exact⟨r,rfl,ZD⟩
  ·intro ys H5 s5 ly hy D n1 n2
   symm
   obtain⟨p1,p2,p3⟩:=BF B.xY
   nofun
   rw[aac] at p2
   refine⟨b.map Wq.dt,aT.mpr ⟨D,ys,rfl,ar,dD (by rw[aac];omega) λi y ey q eq=>?_⟩,by rw[aac];omega,pB (b.map Wq.dt),λx hx=>?_,p1,p2.mono (by omega),λx H6 s6 ZE=>kk x H6 (s5.trans ((ax n2).trans s6)) ZE⟩
   ·rw[aaf] at eq
    symm
    obtain⟨t,et,rfl⟩:=Option.map_eq_some_iff.mp eq
    obtain⟨p,e1,h1⟩:=hy i y ey t et
    nofun
    exact cn.mpr ⟨p,e1,ax n2 _ _ h1⟩
   ·have g:=B.xY x hx
    exact⟨g.2.2.1,p3 x hx,g.1.mono (by decide)⟩
theorem gU:aQ ["gains"] ["gains"] (af (top 37)):=⟨rfl,rfl,rfl,by ac_rfl,rfl,by ac_rfl,by ac_rfl⟩
theorem J9 (T:Txt K mg aA tc):bU P w K mg base (bN P w) 3 "blank_worths" ["gains"] (GA aA):=by
 have pd:qB P w K mg base (bN P w) 1 "Book" aA ["self","tops","bottom"] (DN aA):=B3 T
 refine T.oO.d3 (λ_ _ _ _ _ _=>iR λ_=>rfl) λf fd F=>F.d5 gU (λvs H Q E h=>?_) (λcG A outer s H vs Q E hr h=>?_)
 ·obtain⟨_,_,rfl,_⟩:=h;rfl
 ·symm
  obtain⟨x,S,rfl,⟨dx,m,hx,hm⟩,ln,kk⟩:=h
  nofun
  clear G_
  have nd:=gU.nd
  refine⟨_,(au (aN (AI pd (hr.mono (by decide)) rfl aB.pass (aa (aI vM (cV (aa ao ag (se rfl))) (aP bB (by rfl) T.z_len aat (aa (d4 (pv 0) rfl) ag (se rfl)) (he:=se rfl) (hpl:=na rfl))) (aa (d4 (pv 0) rfl) ag (se rfl)) (se rfl)) (he:=se rfl) (hpl:=na rfl)))),?_⟩
  simp_all only[lX,tN,CS]
  refine⟨by decide,λz nz=>?_⟩
  have s1:=ax (o:=.lst [V.int 0]) nz
  have hz:upd H z (.lst [V.int 0]) z=some (.lst [V.int 0]):=ar
  generalize upd H z (.lst [V.int 0])=H1 at *
  have ls:(S.1.map V.int).length=S.1.length:=aac ..
  have sl:=sizeLine_eq
  refine⟨_,_,_,s1 _ _ hx,T.cF,T.na_Book_tops,_,lK,_,rfl,_,s1 _ _ hm,_,hz,by omega,by omega,by rw[ls,aak];show 1*S.1.length<=_;omega,λD nD=>?_⟩
  rw[ls,aak,List.flatten_replicate_singleton] at *
  have s2:=s1.trans (ax (o:=.lst (List.replicate S.1.length (V.int 0))) nD)
  have hD:upd H1 D (.lst (List.replicate S.1.length (V.int 0))) D=some (.lst ((List.replicate S.1.length 0).map V.int)):=by rw[ar,List.map_replicate]
  generalize upd H1 D (.lst (List.replicate S.1.length (V.int 0)))=H2 at *
  refine⟨_,_,_,s2 _ _ hx,T.cF,T.na_Book_bottom,_,uX,λy dy ny J4 ne=>?_⟩
  have s3:=s2.trans (ax (o:=.own y) J4)
  have J2:=ax (o:=.own y) J4 _ _ hD
  have xD:D≠y:=λz=>by rw[z,ny] at hD;cases hD
  refine⟨y,dy,D,_,_,rfl,ar,by rw[aJ xD];exact J2,λm' H' nm J5 qc ky=>⟨rfl,kk y H' (λz o hz=>?_) ⟨dy,m',qc,J5⟩⟩⟩
  have yx:z≠y:=λe=>by have:=s2 _ _ hz;rw[e,ny] at this;cases this
  exact ky z o yx (by rw[aJ yx];exact s3 _ _ hz)
theorem iA:aQ ["book","gains","part","ways","scale","right","place","gain","answers","told","top"] ["book","gains","part","ways"] (af (top 38)):=⟨rfl,rfl,rfl,by ac_rfl,rfl,by ac_rfl,by ac_rfl⟩
theorem Ka (T:Txt K mg aA tc):bU P w K mg base (bN P w) 4 "with_worths" ["book","gains","part","ways"] (EN aA):=by
 have eY:bU P w K mg base (bN P w) 1 "total_weight" ["ways"] uL:=EV T
 have mI:bU P w K mg base (bN P w) 3 "whole_answers" ["rows","right"] Gs:=JV T
 have uY:bU P w K mg base (bN P w) 2 "part_rows" ["part","ways"] BA:=G8 T
 have pX:oI P w K mg base (bN P w) 3 aA "scaled" ["self","factor"] (EK aA):=Hb T
 refine T.pP.d3 (λ_ _ _ _ _ _=>Gd λ_ _ _ _=>rfl) λf fd F=>F.d5 iA (λvs H Q E h=>?_) (λcG A outer s H vs Q E hr h=>?_)
 ·obtain⟨_,_,_,_,_,_,_,_,_,_,_,_,_,rfl,_⟩:=h;rfl
 ·symm
  obtain⟨bk,gn,pt,wl,S,gt,G,ps,n,M,xs,gf,lv,rfl,hb,hg,hp,hw,rl,lw,n16,Hh,p0,Kb,EX,wk,dn,Z,M0,lg,G0,bG,dv,gb,zr,kk⟩:=h
  nofun
  clear G_
  have nd:=iA.nd
  refine⟨_,(ae (aF (i:=4) nd rfl (Or.inl rfl) (aI dS (d4 (pv 0) rfl) (d4 (pv 1) rfl)))
  (ae (aF (i:=5) nd rfl (Or.inl rfl) (cV ag))
  (ae (cu PassesOwn.never rfl (bj (K:=K) (pv 2)) (aG (i:=6) nd rfl (Or.inl rfl)) (ae (aF (i:=7) nd rfl (Or.inl rfl) (aI aY (aI aY (aK eY (hr.mono (by decide)) rfl aB.pass (aa (aD aE (pv 3) (pv 6) (λ_ _=>rfl)) ag (se rfl)) (he:=se rfl) (hpl:=na rfl)) (aD aE (d4 (pv 1) rfl) (pv 6) (λ_ _=>rfl))) (pv 4)))
  (au (c5 (fi aaO aa7 aa8 cM.r (pv 5) (aa (aI bA (pv 7) (aP (ic (K:=K)) (by rfl) T.z_sum rfl (aa (bO rfl (N:=["book","gains","part","ways","scale","right","place","gain","answers","told","top"]) (so:=af (top 38)) (N':=["weight","to","book"]) (k:=2) (fr:=[0]) rfl rfl ⟨rfl,by ac_rfl,by ac_rfl,by ac_rfl,rfl,by ac_rfl,by ac_rfl⟩ (bj (K:=K) (aD aE (pv 3) (pv 6) (λ_ _=>rfl))) (λ_ _ _ _ _=>(bX (K:=K) (n:=2) rfl (aU (aG (i:=0) (show(["weight","to","book"]:List Str).Nodup by ac_rfl) rfl (Or.inl rfl)) (aU (aG (i:=1) (show(["weight","to","book"]:List Str).Nodup by ac_rfl) rfl (Or.inl rfl)) bV)))) (λ_ _ _ _ _=>bJ)
   (λ_ _ _ _ _=>(aI aY (pv 0) (aD aE (xx (K:=K) (pv 2) rfl) (pv 1) (λ_ _=>rfl))))) ag (se rfl)) (he:=se rfl) (hpl:=na rfl))) ag (se rfl)))))))
  (ae (aF (i:=8) nd rfl (Or.inl rfl) (aK mI (hr.mono (by decide)) rfl aB.pass (aa (aK uY (hr.mono (by decide)) rfl aB.pass (aa (pv 2) (aa (pv 3) ag (se rfl)) (se rfl)) (he:=se rfl) (hpl:=na rfl)) (aa (pv 5) ag (se rfl)) (se rfl)) (he:=se rfl) (hpl:=na rfl)))
  (ae (aF (i:=9) nd rfl (Or.inl rfl) (Jm pX T.cF (pv 0) (hr.mono (by decide)) aB.pass (aa (aD aH (pv 8) ao (λ_ _=>rfl)) ag (se rfl)) (hst:=se rfl) (hpl:=na rfl)))
  (ae (cu PassesOwn.never rfl (jK (K:=K) rfl T.z_zip (aa (pv 2) (aa (aD aH (pv 8) ao (λ_ _=>rfl)) ag (se rfl)) (se rfl))) (bX (K:=K) (n:=2) rfl (aU (aG (i:=6) nd rfl (Or.inl rfl)) (aU (aG (i:=10) nd rfl (Or.inl rfl)) bV))) (au (eM (pv 10) (fu (d4 (pv 9) rfl) (pv 6) set_list))))
  (au (aN (pv 9))))))))),?_⟩
  refine(?_:let cy:TS:=_;let cz:TS:=_;let cA:TS:=_;let du:TS:=_;let iy:TS:=_;let yd:TS:=_;let EY:TS:=_;tSeq cy (tSeq cz (tSeq cA (tSeq du (tSeq iy (tSeq yd EY))))) _ _ _)
  intro cy cz cA du iy yd EY
  have sl:=sizeLine_eq
  symm
  obtain⟨dx,m,Mh,HV⟩:=hb
  obtain⟨dg,mg',WN,ZF⟩:=hg
  nofun
  clear G_
  have B0:=Z.pos
  have lS:=Z.len
  have ZG:Bt M (S.2 / G):=Z.bb.le (Nm.dU G0 dv)
  have NX:∀t∈S.1,Bt 4000 t:=λt ht=>by
   symm
   obtain⟨j,hj,rfl⟩:=aaX ht
   nofun
   have:=Z.bt j
   rw[aae,aad hj] at this
   exact Bt.mono this (by omega)
  have WO:∀p:Nat,(p:Int)∈ps->∃wv us,eE xs (p:Int)=some (.ref wv)/\Rep H (qL (cC gf (p:Int))) (.ref wv)/\H wv=some (.lst us)/\bu H ((cC gf (p:Int)).map bC) us/\us.length=(cC gf (p:Int)).length/\Dg.xP n (cC gf (p:Int)):=λp hp=>by
   have hl:p<gf.length:=by have:=(EX _ hp).2;omega
   have ew:gf[p]?=some (cC gf (p:Int)):=by
    unfold cC
    rw[aak,aae,aad hl]
    rfl
   obtain⟨v,ev,rv⟩:=rl.at (d:=qL (cC gf (p:Int))) (i:=p) (by rw[aaf,ew];rfl)
   symm
   obtain⟨wv,us,rfl,D6,ru⟩:=aT.mp rv
   nofun
   have lu:=ru.length
   rw[aac] at lu
   exact⟨wv,us,bE ev,rv,D6,ru,lu.symm,wk _ (aag ew)⟩
  have Mi:∀p∈ps,Dg.xP n (cC gf p):=λp hp=>by
   obtain⟨p,rfl⟩:=aav (EX p hp).1
   symm
   obtain⟨_,_,_,_,_,_,_,h⟩:=WO p hp
   nofun
   exact h
  have rs:∀p∈ps,_:=λp hp=>Dg.BD (g:=gt.getD p.toNat 0) Z (Mi p hp) G0 dv (gb _)
  generalize hR:(λp:Int=>Dg.tt (cC gf p)*gt.getD p.toNat 0* (S.2 / G)+Dg.gZ S.1 (cC gf p))=R at *
  have Re:∀p,R p=Dg.tt (cC gf p)*gt.getD p.toNat 0* (S.2 / G)+Dg.gZ S.1 (cC gf p):=λp=>by rw[<-hR]
  change tSeq _ _ _ _ _
  refine aR (λσ' H1=>H=H1/\σ'=[some (.ref bk),some (.ref gn),some (.ref pt),some (.ref wl),some (.int (S.2 / G)),none,none,none,none,none,none]) ?_ (λN hN=>?_)
  case refine_2=>
   simp_all only[lX]
   exact⟨_,_,_,Mh,T.cF,T.na_Book_bottom,_,uX,_,_,_,WN,T.cF,T.na_Book_bottom,_,uX,_,rfl,_,rfl,fJ.of G0 bG,hN _ _ ⟨rfl,rfl⟩⟩
  rintro _ _ ⟨rfl,rfl⟩
  change tSeq _ _ _ _ _
  refine aR (λσ' H1=>∃r,az H H1/\H r=none/\H1 r=some (.lst [])/\σ'=[some (.ref bk),some (.ref gn),some (.ref pt),some (.ref wl),some (.int (S.2 / G)),some (.ref r),none,none,none,none,none]) ?_ (λN hN=>?_)
  case refine_2=>
   simp_all only[]
   exact⟨aas _,λr n3=>hN _ _ ⟨r,ax n3,n3,ar,rfl⟩⟩
  intro _ H1 bH
  symm
  obtain⟨r,s1,nr,JO,rfl⟩:=bH
  nofun
  clear G_
  change tSeq _ _ _ _ _
  refine aR (λσ' H2=>az H H2/\H2 r=some (.lst ((ps.map R).map V.int))/\∃z6 z7,σ'=[some (.ref bk),some (.ref gn),some (.ref pt),some (.ref wl),some (.int (S.2 / G)),some (.ref r),z6,z7,none,none,none]) ?_ (λN hN=>?_)
  case refine_2=>
   simp_all only[]
   refine⟨⟨_,bo.of (s1 _ _ hp)⟩,bP (src_list (K:=K) (a:=pt) (xs:=ps.map V.int) (Ok:=az H) (λH' s=>bo.of (s _ _ hp))) (λj σ H2=>az H H2/\H2 r=some (.lst (((ps.take j).map R).map V.int))/\∃z6 z7,σ=[some (.ref bk),some (.ref gn),some (.ref pt),some (.ref wl),some (.int (S.2 / G)),some (.ref r),z6,z7,none,none,none]) ⟨s1,JO,_,_,rfl⟩ (λ_ _ _ _ h=>h.1) ?_ ?_⟩
   ·intro j y σ H2 H3 hj dI dJ
    symm
    obtain⟨s2,uZ,z6,z7,rfl⟩:=dI
    obtain⟨rfl,ey⟩:=dJ
    nofun
    clear G_
    rw[aac] at hj
    rw[aaf,aad hj] at ey
    cases ey
    have mp:=aan hj
    have tk:ps.take (j+1)=ps.take j++ [ps[j]]:=by rw[aaF,aad hj];rfl
    rw[tk]
    generalize ps[j]=p at *
    obtain⟨p,rfl⟩:=aav (EX p mp).1
    symm
    obtain⟨wv,us,Ha,rv,D6,ru,lu,B5⟩:=WO p mp
    obtain⟨bR,_⟩:=rs _ mp
    nofun
    clear G_
    have Hi:eE (gt.map V.int) (p:Int)=some (.int (gt.getD p 0)):=by have:=dC (ns:=gt) (i:=(p:Int)) (by omega) (by have:=(EX _ mp).2;omega);rwa [aak] at this
    have eR:=Re (p:Int)
    rw[aak] at bR eR
    generalize cC gf (p:Int)=ws at *
    obtain⟨d0,d1⟩:=B5.tt
    have bd:Bt 20 (Dg.tt ws):=Bt.of 1000000 (by omega) (by omega)
    have w5:=B5.1
    have bg:Bt 440 (gt.getD p 0):=by
     have h1:=gb p
     have h2:Bt 440 (2^40*G):=by
      have k:Bt 400 G:=bG
      unfold Bt at k ⊢
      rw[aa3,show((2:Int)^40).natAbs=2^40 by decide,show 440=40+400 by decide,Nat.pow_add]
      exact Nat.mul_lt_mul_of_pos_left k (by decide)
     refine h2.le ?_
     rw[aa3,show((2:Int)^40).natAbs=2^40 by decide,show G.natAbs=G.toNat by omega]
     exact h1
    simp_all only[uL,lX,dB]
    refine⟨_,s2 _ _ hw,_,Ha,wv,rfl,ws,rv.mono s2,w5,λH4 s4=>?_⟩
    have mJ:=s2.trans s4
    refine⟨_,_,_,mJ _ _ WN,T.cF,T.na_Book_tops,_,lK,_,rfl,_,mJ _ _ ZF,_,Hi,_,rfl,bd.dM bg,(bd.mul bg).dM ZG (by omega),?_⟩
    refine⟨.inl ⟨rfl,_,bo.of (s4 _ _ uZ)⟩,_,mJ _ _ hw,_,Ha,wv,rfl,⟨_,bo.of (mJ _ _ D6)⟩,?_⟩
    have S':Src (vj K wv) (az H4) ws.length (λi x H H3=>H3=H/\us[i]?=some x):=by rw[<-lu];exact src_list (λH' s'=>bo.of (s' _ _ (mJ _ _ D6)))
    refine gD ws (λx=>some (x.1*S.1.getD x.2.toNat 0)) S' (λ_ _ _ _ h=>h.1) (by omega) ?_ ?_
    ·rintro j x v0 ex ⟨_,ey⟩
     symm
     obtain⟨t,et,ht⟩:=cJ (ru.mono mJ) ex
     nofun
     rw[ey] at et
     cases et
     symm
     obtain⟨x1,x2,x3,x4⟩:=B5.2 x (aag ex)
     nofun
     have ZH:eE (S.1.map V.int) x.2=some (.int (S.1.getD x.2.toNat 0)):=dC x3 (by omega)
     refine⟨t,_,_,rfl,dZ.of ht,λY N y1 _=>?_⟩
     simp_all only[gA,lX]
     exact⟨_,_,_,mJ _ _ Mh,T.cF,T.na_Book_tops,_,lK,_,rfl,_,mJ _ _ HV,_,ZH,_,rfl,(Bt.of (n:=18) 200000 (by omega) (by omega)).dM (Z.bt _) (by omega),y1 _ rfl⟩
    ·intro D n1 n2
     rw[dR]
     have eR:R (p:Int)=Dg.tt ws*gt.getD p 0* (S.2 / G)+ (ws.map λx=>x.1*S.1.getD x.2.toNat 0).sum:=eR
     refine⟨_,bo.of ar,_,ax n2 _ _ (s4 _ _ uZ),by rw[aac,aac,aaZ];omega,aZ (mJ.trans (ax n2)) nr,?_,_,rfl⟩
     rw[ar,<-eR,aaB,aaB]
     rfl
   ·intro σ H2 bH
    symm
    obtain⟨s2,uZ,z6,z7,rfl⟩:=bH
    nofun
    rw[aac,List.take_length] at uZ
    exact hN _ _ ⟨s2,uZ,_,_,rfl⟩
  intro _ H2 bH
  symm
  obtain⟨s2,uZ,z6,z7,rfl⟩:=bH
  nofun
  clear G_
  have lR:(ps.map R).length=ps.length:=aac ..
  have bR:∀x∈ps.map R,x.natAbs<=2^ (M+61):=λx hx=>by
   symm
   obtain⟨p,hp,rfl⟩:=List.mem_map.mp hx
   nofun
   rw[Re]
   exact(rs p hp).2
  have b1:(1:Nat)<=2^20:=by decide
  have bc:(2:Nat)^20<=2^ (M+61):=abl (by decide) (by omega)
  have top:=Dg.BC ps.length M (by omega) p0
  have ZI:(ps.length+1)^ (ps.length+1)* (2^ (M+61)* (2^20)^ps.length)<2^4000:=aau top (abl (by decide) (by omega))
  change tSeq _ _ _ _ _
  refine aR (λσ' H3=>∃u q d x L,az H2 H3/\H3 u=some (.tup [.ref q,.int d])/\H3 q=some (.lst (x.map V.int))/\Dg.pV ps (cC gf) L/\Wg L (ps.map R) ps.length x d/\d.natAbs<=(ps.length+1)^ (ps.length+1)* (2^20)^ps.length/\(∀v∈x,v.natAbs<=(ps.length+1)^ (ps.length+1)* (2^ (M+61)* (2^20)^ps.length))/\σ'=[some (.ref bk),some (.ref gn),some (.ref pt),some (.ref wl),some (.int (S.2 / G)),some (.ref r),z6,z7,some (.ref u),none,none]) ?_ (λN hN=>?_)
  case refine_2=>
   simp_all only[BA,Gs]
   refine⟨ps,s2 _ _ hp,_,s2 _ _ hw,_,rl.mono s2,Hh,by omega,λp hp=>by have:=EX p hp;omega,λws JW=>(wk ws JW).1,λr2 L H3 s3 mt rp=>?_⟩
   have sq:aW.Sq L ps.length:=⟨rp.1,rp.2.1⟩
   have hL:=rp.ent Mi
   have sw:=DL sq lR (by omega) b1 bc hL bR ZI
   refine⟨L,mt,_,s3 _ _ uZ,?_⟩
   rw[lR]
   refine⟨sq,sw,λk rs W H4 St hk st s4=>?_,λrs W t p H4 St s4 ht ZJ=>?_⟩
   ·exact absurd (aW.yZ sq lR St hk st) (rp.Bs Hh (λp hp x hx=>((Mi p hp).2 x hx).1) dn)
   ·obtain⟨z1,z2⟩:=Gv sq lR b1 bc hL bR St
    exact hN _ _ ⟨t,p,_,_,L,s3.trans s4,ht,ZJ,rp,Gu sq lR sw St,z1,z2,rfl⟩
  intro _ H3 bH
  symm
  obtain⟨u,q,d,x,L,s3,hu,hq,rp,so,zd,zx,rfl⟩:=bH
  nofun
  clear G_
  have Ib:=s2.trans s3
  have d0:=so.pos
  have lx:=so.len
  have Mc:Bt (92*ps.length) d:=abd zd (Dg.DP _ (by omega) p0)
  change tSeq _ _ _ _ _
  refine aR (λσ' H4=>∃y dy m',az H3 H4/\H3 y=none/\H3 m'=none/\H4 y=some (.ins aA dy [("tops",.ref m'),("bottom",.int (S.2*d))])/\H4 m'=some (.lst ((S.1.map (·*d)).map V.int))/\σ'=[some (.ref bk),some (.ref gn),some (.ref pt),some (.ref wl),some (.int (S.2 / G)),some (.ref r),z6,z7,some (.ref u),some (.ref y),none]) ?_ (λN hN=>?_)
  case refine_2=>
   simp_all only[qd,hu]
   refine⟨_,_,Ib _ _ Mh,J3,bk,S,_,rfl,⟨_,_,Ib _ _ Mh,Ib _ _ HV⟩,so.bd,Z.bb.mono (by omega),NX,by omega,λy dy m' H4 s4 ny nm hy hm=>hN _ _ ⟨y,dy,m',s4,ny,nm,hy,hm,rfl⟩⟩
  intro _ H4 bH
  symm
  obtain⟨y,dy,m',s4,ny,ZK,hy,J5,rfl⟩:=bH
  nofun
  clear G_
  change tSeq _ _ _ _ _
  refine aR (λσ' H5=>az H3 H5/\H5 y=some (.ins aA dy [("tops",.ref m'),("bottom",.int (S.2*d))])/\H5 m'=some (.lst ((Dg.putK ps x (S.1.map (·*d)) ps.length).map V.int))/\∃z6 u3,σ'=[some (.ref bk),some (.ref gn),some (.ref pt),some (.ref wl),some (.int (S.2 / G)),some (.ref r),z6,z7,some (.ref u),some (.ref y),u3]) ?_ (λN hN=>?_)
  case refine_2=>
   simp_all only[s4 _ _ hu]
   refine⟨⟨_,bo.of (s4 _ _ (Ib _ _ hp))⟩,⟨_,bo.of (s4 _ _ hq)⟩,bP (jJ (K:=K) (Ok:=az H3) (λH' s=>bo.of (s _ _ (Ib _ _ hp))) (λH' s=>bo.of (s _ _ hq))) (λj σ H5=>az H3 H5/\H5 y=some (.ins aA dy [("tops",.ref m'),("bottom",.int (S.2*d))])/\H5 m'=some (.lst ((Dg.putK ps x (S.1.map (·*d)) j).map V.int))/\∃z6 u3,σ=[some (.ref bk),some (.ref gn),some (.ref pt),some (.ref wl),some (.int (S.2 / G)),some (.ref r),z6,z7,some (.ref u),some (.ref y),u3]) ⟨s4,hy,J5,_,_,rfl⟩ (λ_ _ _ _ h=>h.1) ?_ ?_⟩
   ·intro j v0 σ H5 H6 hj dI dJ
    symm
    obtain⟨s5,EZ,Hj,z6,u3,rfl⟩:=dI
    obtain⟨t,x1,x2,nt,rfl,e1,e2,rfl⟩:=dJ
    nofun
    clear G_
    have hj:j<ps.length:=by rw[aac,aac] at hj;omega
    have g1:ps.getD j 0=ps[j]:=by rw[aae,aad hj];rfl
    have g2:x.getD j 0=x[j]:=by rw[aae,aad (by omega)];rfl
    rw[aaf,aad hj] at e1
    rw[aaf,aad (show j<x.length by omega)] at e2
    cases e1
    cases e2
    have mp:=aan hj
    have pk:Dg.putK ps x (S.1.map (·*d)) (j+1)=(Dg.putK ps x (S.1.map (·*d)) j).set (ps[j]).toNat x[j]:=by
     rw[<-g1,<-g2]
     rfl
    have lk:(Dg.putK ps x (S.1.map (·*d)) j).length=n:=by rw[Dg.jS,aac,lS]
    rw[pk]
    generalize Dg.putK ps x (S.1.map (·*d)) j=ts at *
    generalize x[j]=xj at *
    generalize ps[j]=p at *
    have ip:=EX p mp
    obtain⟨p,rfl⟩:=aav ip.1
    refine⟨t,_,rfl,dZ.of ar,rfl,?_⟩
    have s6:=ax (o:=.tup [.int (p:Int),.int xj]) nt
    generalize upd H5 t (.tup [.int (p:Int),.int xj])=H6 at *
    simp_all only[lX]
    have ym:y≠m':=λz=>by rw[z,Hj] at EZ;cases EZ
    have lm:p< (ts.map V.int).length:=by rw[aac];omega
    refine⟨_,_,_,s6 _ _ EZ,T.cF,T.na_Book_tops,_,lK,_,rfl,_,s6 _ _ Hj,p,gJ lm,aZ (s5.trans s6) ZK,by rw[aJ ym];exact s6 _ _ EZ,?_,_,rfl⟩
    rw[ar,aak,List.map_set]
   ·intro σ H5 bH
    symm
    obtain⟨s5,EZ,Hj,z6,u3,rfl⟩:=bH
    nofun
    have lm:min (List.map V.int ps).length (List.map V.int x).length=ps.length:=by rw[aac,aac];omega
    rw[lm] at Hj
    exact hN _ _ ⟨s5,EZ,Hj,_,_,rfl⟩
  intro _ H5 bH
  symm
  obtain⟨s5,EZ,Hj,z6,u3,rfl⟩:=bH
  nofun
  simp_all only[]
  have lT:(Dg.putK ps x (S.1.map (·*d)) ps.length).length=n:=by rw[Dg.jS,aac,lS]
  have out:∀q,0<=q->q∉ps->(Dg.putK ps x (S.1.map (·*d)) ps.length).getD q.toNat 0=S.1.getD q.toNat 0*d:=λq q0 hq=>by
   rw[Dg.uN q0 (λp hp=>(EX p hp).1) hq _ (aah _),Dg.sE]
  have ins:∀j,j<ps.length->(Dg.putK ps x (S.1.map (·*d)) ps.length).getD (ps.getD j 0).toNat 0=x.getD j 0:=λj hj=>Dg.xR Hh EX (by rw[aac,lS]) _ (aah _) hj
  have bM:Bt (M+92*ps.length) (S.2*d):=Z.bb.mul Mc
  refine kk y (Dg.putK ps x (S.1.map (·*d)) ps.length,S.2*d) H5 (Ib.trans s5) ⟨dy,m',EZ,Hj⟩ ⟨d,d0,rfl,lT.trans lS.symm,out,λp hp=>?_⟩ ⟨lT,aaE B0 d0,bM,λk=>?_⟩
  ·symm
   obtain⟨i,hi,rfl⟩:=aaX hp
   nofun
   have g1:ps.getD i 0=ps[i]:=by rw[aae,aad hi];rfl
   have sl:=so.eq i hi
   rw[aae (l:=ps.map R),aaf,aad hi] at sl
   have e:=Dg.DM (S:=S.1) (T:=Dg.putK ps x (S.1.map (·*d)) ps.length) (x:=x) (d:=d) (r:=R ps[i]) rp Hh hi sl zr ins (λy hy hn=>out y.2 (by have:=(Mi _ (by rw[g1];exact hp)).2 y hy;omega) hn)
   rw[g1] at e
   show Dg.tt _* (Dg.putK ps x (S.1.map (·*d)) ps.length).getD _ 0=_
   rw[e,Re,Int.add_mul]
   show _=_+Dg.gZ (Dg.putK ps x (S.1.map (·*d)) ps.length) _
   omega
  ·show Bt _ ((Dg.putK ps x (S.1.map (·*d)) ps.length).getD k 0)
   by_cases c:(k:Int)∈ps
   ·symm
    obtain⟨j,hj,ej⟩:=aaX c
    nofun
    have g1:ps.getD j 0=(k:Int):=by rw[aae,aad hj,ej];rfl
    have e:=ins j hj
    rw[g1,aak] at e
    rw[e,aae,aad (by omega)]
    exact abd (zx _ (aan _)) top
   ·have e:=out (k:Int) (by omega) c
    rw[aak] at e
    rw[e]
    exact(Z.bt k).mul Mc
theorem dO (c:Int->Bool):∀l:List Int,l.filterMap (λx=>if c x=true then some x else none)=l.filter c
 | []=>rfl
 | x::l=>by
  rw[abt,List.filter_cons,dO c l]
  cases c x <;>rfl
theorem iY:aQ ["place","tops","sign","wanted"] ["place","tops"] (af (top 40)):=⟨rfl,rfl,rfl,by ac_rfl,rfl,by ac_rfl,by ac_rfl⟩
theorem Hk (T:Txt K mg aA tc):bU P w K mg base (bN P w) 1 "wanted_way" ["place","tops"] BR:=by
 refine T.rO.d3 (λ_ _ _ _ _ _=>d6 λ_ _=>rfl) λf fd F=>F.d5 iY (λvs H Q E h=>?_) (λcG A outer s H vs Q E hr h=>?_)
 ·obtain⟨_,_,_,_,_,rfl,_⟩:=h;rfl
 ·symm
  obtain⟨v,m,br,to,ts,rfl,rv,hm,l0,l3,lP,bt,kk⟩:=h
  nofun
  clear G_
  have nd:=iY.nd
  refine⟨_,(ae (aF (i:=2) nd rfl (Or.inr rfl) (hG (aO cL (aD aH (pv 0) ao (λ_ _=>rfl)) ao (aS _)) ao (zD vx ao)))
  (ae (gC (i:=3) rfl nd rfl rfl (N:=["place","tops","sign","wanted"]) (so:=af (top 40)) (N':=["to","tops","sign"]) (k:=1) (fr:=[1,2]) rfl rfl ⟨rfl,by ac_rfl,by ac_rfl,by ac_rfl,rfl,by ac_rfl,by ac_rfl⟩ (bj (K:=K) (aD aH (pv 0) ao (λ_ _=>rfl))) (λ_ _ _ _ _=>(aG (i:=0) (show(["to","tops","sign"]:List Str).Nodup by ac_rfl) rfl (Or.inl rfl))) (λ_ _ _ _ _=>bJ)
   (λ_ _ _ _ _=>(aI aY (pv 2) (aD aE (pv 1) (pv 0) (λ_ _=>rfl)))))
  (au (aN (fi aaO PySem.F.slot_list_index PySem.F.type_list_index (vY (K:=K)) (pv 3) (aa (aP (ua (K:=K)) (by rfl) T.z_max rfl (aa (pv 3) ag (se rfl)) (he:=se rfl) (hpl:=na rfl)) ag (se rfl))))))),?_⟩
  refine(?_:let cy:TS:=_;let cz:TS:=_;let cA:TS:=_;tSeq cy (tSeq cz cA) _ _ _)
  intro cy cz cA
  have sl:=sizeLine_eq
  symm
  obtain⟨t,l,rfl,ht,hl⟩:=cH.mp rv
  nofun
  clear G_
  change tSeq _ _ _ _ _
  refine aR (λσ' H1=>H=H1/\σ'=[some (.ref t),some (.ref m),some (.int (sgn br)),none]) ?_ (λN hN=>?_)
  case refine_2=>
   simp_all only[ht]
   refine hZ (λc=>hN _ _ ⟨rfl,by unfold sgn;rw[if_pos c]⟩) (λc=>hN _ _ ⟨rfl,by unfold sgn;rw[if_neg c]⟩)
  rintro _ _ ⟨rfl,rfl⟩
  have sg:=GN br
  generalize hu:sgn br=u at *
  change tSeq _ _ _ _ _
  refine aR (λσ' H1=>∃d,az H H1/\H1 d=some (.lst (List.map V.int (to.map λg=>u*ts.getD g.toNat 0)))/\σ'=[some (.ref t),some (.ref m),some (.int u),some (.ref d)]) ?_ (λN hN=>?_)
  case refine_2=>
   simp_all only[ht]
   refine⟨⟨_,bo.of hl⟩,?_⟩
   have S':Src (vj K l) (az H) to.length (λi x H H3=>H3=H/\(to.map V.int)[i]?=some x):=by
    have:=src_list (K:=K) (a:=l) (xs:=to.map V.int) (Ok:=az H) (λH' s'=>bo.of (s' _ _ hl))
    rwa [aac] at this
   refine dm to (λg=>some (u*ts.getD g.toNat 0)) S' (λ_ _ _ _ h=>h.1) (by omega) ?_ ?_
   ·rintro i g x eg ⟨_,ex⟩ Y N y1 _
    rw[aaf,eg] at ex
    cases ex
    obtain⟨g0,g1⟩:=lP g (aag eg)
    have Hi:eE (ts.map V.int) g=some (.int (ts.getD g.toNat 0)):=dC g0 g1
    have hg:g.toNat<ts.length:=by omega
    have bg:Bt 4000 (ts.getD g.toNat 0):=bt _ (by rw[aae,aad hg];exact aan hg)
    simp_all only[gA,hm,Hi]
    exact⟨(Bt.of (n:=1) 1 (by omega) (by omega)).dM bg,y1 _ rfl⟩
   ·intro D n1 n2
    rw[dR]
    exact hN _ _ ⟨D,ax n2,ar,rfl⟩
  intro _ H1 bH
  symm
  obtain⟨d,s1,hd,rfl⟩:=bH
  nofun
  clear G_
  simp_all only[F6]
  refine⟨.inl ⟨rfl,_,bo.of hd⟩,_,bo.of hd,by rw[aac];exact l0,λM mM gM=>⟨_,bo.of hd,mM,by rw[aac];omega,?_⟩⟩
  have lt:=aaS mM
  have eg:=aaW lt
  rw[aac] at lt
  generalize List.idxOf M (to.map λg=>u*ts.getD g.toNat 0)=w' at *
  rw[List.getElem_map] at eg
  refine kk w' _ s1 lt λg hg=>?_
  have e2:to.getD w' 0=to[w']:=by rw[aae,aad lt];rfl
  rw[e2,hu,eg]
  exact gM _ (List.mem_map.mpr ⟨g,hg,rfl⟩)
theorem iB:aQ ["board","places","ways","tops","found","place","way","picked"] ["board","places","ways","tops"] (af (top 41)):=⟨rfl,rfl,rfl,by ac_rfl,rfl,by ac_rfl,by ac_rfl⟩
theorem Kc (T:Txt K mg aA tc):bU P w K mg base (bN P w) 2 "better_ways" ["board","places","ways","tops"] BU:=by
 have sU:bU P w K mg base (bN P w) 1 "wanted_way" ["place","tops"] BR:=Hk T
 refine T.pQ.d3 (λ_ _ _ _ _ _=>Gd λ_ _ _ _=>rfl) λf fd F=>F.d5 iB (λvs H Q E h=>?_) (λcG A outer s H vs Q E hr h=>?_)
 ·obtain⟨_,_,_,_,_,_,_,_,_,_,rfl,_⟩:=h;rfl
 ·symm
  obtain⟨bl,ql,wl,m,b,ks,br,ts,qs,xs,rfl,rb,WQ,hw,rl,hm,ZL,bt,ko,DV,Ma,l16,kk⟩:=h
  nofun
  clear G_
  have nd:=iB.nd
  refine⟨_,(ae (aF (i:=4) nd rfl (Or.inl rfl) (cV ag))
  (ae (cu PassesOwn.never rfl (bj (K:=K) (pv 1)) (aG (i:=5) nd rfl (Or.inl rfl)) (ae (aF (i:=6) nd rfl (Or.inl rfl) (aK sU (hr.mono (by decide)) rfl aB.pass (aa (aD aE (pv 0) (pv 5) (λ_ _=>rfl)) (aa (pv 3) ag (se rfl)) (se rfl)) (he:=se rfl) (hpl:=na rfl)))
  (ae (aF (i:=7) nd rfl (Or.inl rfl) (aD aH (aD aE (aD aE (pv 2) (pv 5) (λ_ _=>rfl)) ao (λ_ _=>rfl)) ao (λ_ _=>rfl)))
  (au (bF (aO iU (aD aE (pv 3) (aD aE (aD aH (aD aE (pv 0) (pv 5) (λ_ _=>rfl)) ao (λ_ _=>rfl)) (pv 6) (λ_ _=>rfl)) (λ_ _=>rfl)) (aD aE (pv 3) (pv 7) (λ_ _=>rfl)) (aS _)) (au (c5 (fi aaO aa7 aa8 cM.r (pv 4) (aa (bL (aa (pv 5) (aa (pv 6) ag (se rfl)) (se rfl))) ag (se rfl)))))
   ba)))))
  (au (aN (pv 4))))),?_⟩
  refine(?_:let cy:TS:=_;let cz:TS:=_;let cA:TS:=_;tSeq cy (tSeq cz cA) _ _ _)
  intro cy cz cA
  have sl:=sizeLine_eq
  symm
  obtain⟨_,xb,e,Ic,Ie⟩:=aT.mp rb
  nofun
  clear G_
  cases e
  simp_all only[]
  refine⟨aas _,λfo nf=>?_⟩
  have s1:=ax (o:=.lst []) nf
  have h1:upd H fo (.lst []) fo=some (.lst []):=ar
  generalize upd H fo (.lst [])=H1 at *
  refine⟨⟨_,bo.of (s1 _ _ WQ)⟩,bP (src_list (K:=K) (a:=ql) (xs:=qs.map V.int) (Ok:=az H) (λH2 s2=>bo.of (s2 _ _ WQ))) (λi σ H'=>az H H'/\∃(bs:List (Int×Int)) (ys:List V) (z5 z6 z7:Option V),H' fo=some (.lst ys)/\bu (cI H' fo) (bs.map bC) ys/\iS b ks br ts (qs.take i) bs/\σ=[some (.ref bl),some (.ref ql),some (.ref wl),some (.ref m),some (.ref fo),z5,z6,z7]) ⟨s1,[],[],_,_,_,h1,rfl,iS.start,rfl⟩ (λ_ _ _ _ h=>h.1) ?_ ?_⟩
  ·intro i y σ H2 H3 hi dI dJ
   symm
   obtain⟨s2,bs,ys,z5,z6,z7,JP,ry,W,rfl⟩:=dI
   obtain⟨rfl,ey⟩:=dJ
   nofun
   clear G_
   rw[aac] at hi
   rw[aaf,aad hi] at ey
   cases ey
   have tk:qs.take (i+1)=qs.take i++ [qs[i]]:=by rw[aaF,aad hi];rfl
   symm
   obtain⟨p0,to,eb⟩:=Ma _ (aan hi)
   nofun
   clear G_
   have ly:=ry.length
   have lb:=W.sub.length_le
   rw[aac,aaZ] at lb
   rw[aac] at ly
   rw[tk]
   generalize qs[i]=p at *
   obtain⟨p,rfl⟩:=aav p0
   rw[aak] at eb
   have hp:=(List.getElem?_eq_some_iff.mp eb).1
   have pq:=DV _ (aag eb)
   symm
   obtain⟨k,ek,k0,k1,ew,et,mt⟩:=o5 ko eb
   obtain⟨v,ev,rv⟩:=dq Ie eb
   have Mj:p< (cE b ks).length:=by unfold cE;rw[abr,ko.len];omega
   have ZM:(cE b ks)[p]?=some [(1,to.getD k.toNat 0)]:=by
    rw[<-ew]
    unfold cC
    rw[aak,aae,aad Mj]
    rfl
   obtain⟨ZN,tk1⟩:=pq.2.2.2 _ mt
   nofun
   clear G_
   generalize to.getD k.toNat 0=tg at *
   obtain⟨vw,ZO,ZP⟩:=rl.at (d:=qL [(1,tg)]) (i:=p) (by rw[aaf,ZM];rfl)
   symm
   obtain⟨wv,us,rfl,D6,ru⟩:=aT.mp ZP
   obtain⟨t0,ZQ,NY⟩:=cJ (i:=0) ru rfl
   obtain⟨t,l,rfl,ht,hl⟩:=cH.mp rv
   nofun
   simp_all only[BR,s2 _ _ Ic,show eE xb (p:Int)=some (.ref t) from bE ev]
   refine⟨br,to,rv.mono s2,ts,s2 _ _ hm,pq.2.1,pq.2.2.1,by rw[ZL];exact pq.2.2.2,bt,λw H4 s4 NZ best=>?_⟩
   have mJ:=s2.trans s4
   have N0:eE us 0=some (.ref t0):=bE (j:=0) ZQ
   simp only[mJ _ _ hw,show eE xs (p:Int)=some (.ref wv) from bE ZO,mJ _ _ D6,N0,mJ _ _ NY,L2.start,Pr,tRev,tD1,tDPop1,tSl,tNoPart,tPart,rSlL,tDIn,tDNotIn,gSub,rSetL,tLst,tDNewK,tComp,L2.stC,tFor_eq,iList,iTup,iRng1,iRng2,iZip,iEnum,iDict,iStr,tChain,tSumV,tBM,tRaise,tDGet,tDGet2,tDGet1,sDPut,Option.join_some,List.getElem?_nil,tSeq,tRet,tRetN,tIfS,tTest,tB,tOp,tUn,tVar,tC,tCB,tCons,tNil,tCall,tTupS,tAsg,gName,gNil,gCons,tPar,tNext,tDrop,tAnd,tOr,tNot,tAndV,tOrV,tNotV,tIf,rI,rI0,rU,rIxTH,rIxLH,rEqT,rNeT,rInT,rEq,rNe,scal_ss,scal_ii,scal_bb,scal_si,scal_is,CPow,at0,at1,at2,aaz,aa2,aaq,abb,Nat.reduceSub,Nat.reduceAdd,aaV,abw,List.reduceReplicate,aaY,List.nil_append,abo,abp,abi,abf,abg,abq,exists_eq_left',exists_eq_left,V.ref.injEq,V.int.injEq,V.bl.injEq,V.str.injEq,V.ty.injEq,HO.tup.injEq,HO.lst.injEq,List.cons.injEq,and_true,true_and,and_assoc,exists_and_left,decide_eq_true_eq,Bool.not_eq_true',decide_eq_false_iff_not,ite_true,ite_false,if_true,if_false,Int.reduceToNat,eq_self_iff_true]
   have WR:to.getD w 0=to[w]:=by rw[aae,aad NZ];rfl
   obtain⟨g0,g1⟩:=pq.2.2.2 _ (aan NZ)
   have Ha:eE (to.map V.int) (w:Int)=some (.int to[w]):=ie (f:=V.int) (aad NZ)
   have Hi:eE (ts.map V.int) to[w]=some (.int (ts.getD (to[w]).toNat 0)):=dC g0 (by omega)
   have ZR:eE (ts.map V.int) tg=some (.int (ts.getD tg.toNat 0)):=dC ZN (by omega)
   refine⟨_,mJ _ _ Ic,_,bE ev,t,rfl,_,mJ _ _ ht,_,at2,l,rfl,_,mJ _ _ hl,_,Ha,_,_,rfl,mJ _ _ hm,_,Hi,_,mJ _ _ hm,_,ZR,rfl,?_⟩
   have D1:=s4 _ _ JP
   by_cases ce:ts.getD (to[w]).toNat 0=ts.getD tg.toNat 0
   ·rw[if_neg (by rw[ce];simp)]
    refine⟨mJ,bs,ys,D1,ry.mono (bQ s4),⟨λx hx=>⟨abu _ (W.mem x hx).1,(W.mem x hx).2⟩,λp' ia nb N2 Kd=>?_,List.Sublist.trans W.sub (List.sublist_append_left _ _)⟩,_,rfl⟩
    rcases List.mem_append.mp ia with ia | ia
    ·exact W.b9 p' ia nb N2 Kd
    ·rw[List.mem_singleton.mp ia,aak,eb] at Kd
     cases Kd
     rw[List.mem_singleton.mp ia,et,<-ce,<-WR]
     exact best
   ·rw[if_pos (λz=>ce (by injection z))]
    refine⟨.inl ⟨rfl,_,bo.of D1⟩,by decide,λt5 H5 s5 n5 h5=>?_⟩
    simp only[dB,L2.start,Pr,tRev,tD1,tDPop1,tSl,tNoPart,tPart,rSlL,tDIn,tDNotIn,gSub,rSetL,tLst,tDNewK,tComp,L2.stC,tFor_eq,iList,iTup,iRng1,iRng2,iZip,iEnum,iDict,iStr,tChain,tSumV,tBM,tRaise,tDGet,tDGet2,tDGet1,sDPut,Option.join_some,List.getElem?_nil,tSeq,tRet,tRetN,tIfS,tTest,tB,tOp,tUn,tVar,tC,tCB,tCons,tNil,tCall,tTupS,tAsg,gName,gNil,gCons,tPar,tNext,tDrop,tAnd,tOr,tNot,tAndV,tOrV,tNotV,tIf,rI,rI0,rU,rIxTH,rIxLH,rEqT,rNeT,rInT,rEq,rNe,scal_ss,scal_ii,scal_bb,scal_si,scal_is,CPow,at0,at1,at2,aaz,aa2,aaq,abb,Nat.reduceSub,Nat.reduceAdd,aaV,abw,List.reduceReplicate,aaY,List.nil_append,abo,abp,abi,abf,abg,abq,exists_eq_left',exists_eq_left,V.ref.injEq,V.int.injEq,V.bl.injEq,V.str.injEq,V.ty.injEq,HO.tup.injEq,HO.lst.injEq,List.cons.injEq,and_true,true_and,and_assoc,exists_and_left,decide_eq_true_eq,Bool.not_eq_true',decide_eq_false_iff_not,ite_true,ite_false,if_true,if_false,Int.reduceToNat,eq_self_iff_true]
    have ZS:t5≠fo:=λz=>by rw[z,D1] at n5;cases n5
    refine⟨_,s5 _ _ D1,by omega,aZ (mJ.trans s5) nf,bs++ [((p:Int),(w:Int))],_,ar,?_,⟨λx hx=>?_,λp' ia nb N2 Kd=>?_,?_⟩,_,rfl⟩
    ·rw[aaB]
     exact t7 (ry.mono (bQ (s4.trans s5))) (cn.mpr ⟨t5,rfl,by rw[bK ZS];exact h5⟩)
    ·rcases List.mem_append.mp hx with hx | hx
     ·exact⟨abu _ (W.mem x hx).1,(W.mem x hx).2⟩
     ·rw[List.mem_singleton.mp hx]
      refine⟨aaI _ (List.mem_singleton.mpr rfl),to,by rw[aak];exact eb,by show(0:Int)<=(w:Int);omega,by show(w:Int)<_;omega,by show BP br to ts (w:Int).toNat;rw[aak];exact best,?_⟩
      show ts.getD (to.getD (w:Int).toNat 0).toNat 0≠ts.getD (y7 b ks (p:Int)).toNat 0
      rw[aak,et,WR]
      exact ce
    ·rw[aaB,List.mem_append] at nb
     rcases List.mem_append.mp ia with ia | ia
     ·exact W.b9 p' ia (λz=>nb (.inl z)) N2 Kd
     ·exact absurd (.inr (by rw[List.mem_singleton.mp ia];exact List.mem_singleton.mpr rfl)) nb
    ·rw[aaB]
     exact W.sub.append (List.Sublist.refl _)
  ·intro σ H2 bH
   symm
   obtain⟨s2,bs,ys,z5,z6,z7,JP,ry,W,rfl⟩:=bH
   nofun
   rw[aac,List.take_length] at W
   simp_all only[]
   exact kk fo bs _ s2 nf (aT.mpr ⟨fo,ys,rfl,JP,ry.mono cf⟩) W
theorem lM:aQ ["board","part","who"] ["board","part","who"] (af (top 42)):=⟨rfl,rfl,rfl,by ac_rfl,rfl,by ac_rfl,by ac_rfl⟩
theorem Kf (T:Txt K mg aA tc):bU P w K mg base (bN P w) 1 "picks_of" ["board","part","who"] x9:=by
 refine T.v7.d3 (λ_ _ _ _ _ _=>pS λ_ _ _=>rfl) λf fd F=>F.d5 lM (λvs H Q E h=>?_) (λcG A outer s H vs Q E hr h=>?_)
 ·obtain⟨_,_,_,_,_,rfl,_⟩:=h;rfl
 ·symm
  obtain⟨bl,pt,br,b,ps,rfl,rb,Co,fG,l16,kk⟩:=h
  nofun
  clear G_
  have nd:=lM.nd
  refine⟨_,(au (aN (bO rfl (N:=["board","part","who"]) (so:=af (top 42)) (N':=["place","board","who"]) (k:=1) (fr:=[0,2]) rfl rfl ⟨rfl,by ac_rfl,by ac_rfl,by ac_rfl,rfl,by ac_rfl,by ac_rfl⟩ (bj (K:=K) (pv 1)) (λ_ _ _ _ _=>(aG (i:=0) (show(["place","board","who"]:List Str).Nodup by ac_rfl) rfl (Or.inl rfl))) (λ_ _ _ _ _=>(jI (PW.pt (pw_and (aO cL (aD aH (aD aE (pv 1) (pv 0) (λ_ _=>rfl)) ao (λ_ _=>rfl)) cK (aS _)) (pw_and1 (aO cL (aD aH (aD aE (pv 1) (pv 0) (λ_ _=>rfl)) ao (λ_ _=>rfl)) (pv 2) (aS _)))))))
   (λ_ _ _ _ _=>(pv 0))))),?_⟩
  have sl:=sizeLine_eq
  symm
  obtain⟨_,xb,e,Ic,Ie⟩:=aT.mp rb
  nofun
  clear G_
  cases e
  simp_all only[]
  refine⟨⟨_,bo.of Co⟩,?_⟩
  have S':Src (vj K pt) (az H) ps.length (λi x H H3=>H3=H/\(ps.map V.int)[i]?=some x):=by
   have:=src_list (K:=K) (a:=pt) (xs:=ps.map V.int) (Ok:=az H) (λH2 s2=>bo.of (s2 _ _ Co))
   rwa [aac] at this
  refine dm ps (λx=>if (match b[x.toNat]? with | some q=>L6 q br | none=>false)=true then some x else none) S' (λ_ _ _ _ h=>h.1) (by omega) ?_ ?_
  ·rintro i x v0 ex ⟨_,ey⟩ Y N y1 n1
   rw[aaf,ex] at ey
   cases ey
   have ip:=fG x (aag ex)
   obtain⟨p,rfl⟩:=aav ip.1
   have hp:p<b.length:=by have:=ip.2;omega
   have eb:b[p]?=some b[p]:=aad hp
   symm
   obtain⟨v,ev,rv⟩:=dq Ie eb
   nofun
   clear G_
   have N4:eE xb (p:Int)=some v:=bE ev
   rw[aak,eb] at y1 n1
   generalize b[p]=q at *
   cases q with
   | fin g=>
    symm
    obtain⟨t,r,rfl,ht,_⟩:=cX.mp rv
    nofun
    simp_all only[Ic,N4,ht]
    rw[if_neg (by ac_rfl),if_neg (by decide)]
    exact n1 rfl
   | dA g ws=>
    symm
    obtain⟨t,r,l',zs,rfl,ht,_⟩:=cN.mp rv
    nofun
    simp_all only[Ic,N4,ht]
    rw[if_neg (by ac_rfl),if_neg (by decide)]
    exact n1 rfl
   | cD w' to=>
    symm
    obtain⟨t,l',rfl,ht,tD⟩:=cH.mp rv
    nofun
    simp_all only[Ic,N4,ht]
    have ei:L6 (.cD w' to) br=decide (w'=br):=rfl
    exact hZ (λc=>y1 _ (if_pos (by dsimp only;rw[ei];exact decide_eq_true c))) (λc=>n1 (if_neg (by dsimp only;rw[ei,decide_eq_false c];decide)))
  ·intro D n1 n2
   refine kk D _ (ax n2) n2 ?_
   rw[ar]
   rw[dO]
   rfl
theorem pe {H:Hp} {d:Dat} {v:V}:∀{ds:List Dat} {xs:List V} {i:Nat},bu H ds xs->Rep H d v->bu H (ds.set i d) (xs.set i v)
 | [],xs,i,r,_=>by
  have:xs=[]:=r
  subst this
  exact r
 | e::ds,xs,i,r,h=>by
  obtain⟨w,ws,rfl,r1,r2⟩:=r
  cases i with
  | zero=>exact⟨_,_,rfl,h,r2⟩
  | succ i=>exact⟨_,_,rfl,r1,pe r2 h⟩
theorem Ea {c:TT} {tb:TS} {D:Ends} {σ:L2.St} {H:Hp} (Pv:Nat->L2.St->Hp->Prop) {m:Nat} (h0:Pv m σ H)
  (hs:∀m σ H,Pv m σ H->∃b:Bool,(∀Q:Bool->Hp->Prop,Q b H->c σ H Q)/\if b=true then tb {D with nx:=λσ' H'=>∃m',m'<m/\Pv m' σ' H',ct:=λσ' H'=>∃m',m'<m/\Pv m' σ' H',bk:=D.nx} σ H else D.nx σ H):qW c tb D σ H:=by
 refine⟨Pv,⟨m,h0⟩,?_⟩
 intro m σ H p
 obtain⟨b,k,q⟩:=hs m σ H p
 refine k _ ?_
 cases b with
 | true=>exact⟨_,λσ' H' h=>h,q⟩
 | false=>exact q
theorem Eb {b:List Pl} {ks:List (Option Int)} {p:Nat} {q:Pl} {k:Option Int} (e:b[p]?=some q) (lk:ks.length=b.length):cE b (ks.set p k)=(cE b ks).set p (vc q k):=by
 have hp:=(List.getElem?_eq_some_iff.mp e).1
 apply aaQ
 intro i
 unfold cE
 by_cases c:p=i
 ·subst c
  rw[aby,e,aaU (by omega),aaU (by rw[abr];omega)]
 ·rw[aby,aaL c,aaL c,aby]
theorem u4 {H:Hp} {p:Addr} {o:HO}:cI (upd H p o) p=cI H p:=by
 funext a
 unfold cI
 by_cases h:a=p
 ·rw[if_pos h,if_pos h]
 ·rw[if_neg h,if_neg h,aJ h]
theorem eC:aQ ["book","gains","part","board","ways","first","second","told","better","place","way"] ["book","gains","part","board","ways"] (af (top 43)):=⟨rfl,rfl,rfl,by ac_rfl,rfl,by ac_rfl,by ac_rfl⟩
theorem Kg (T:Txt K mg aA tc):bU P w K mg base (bN P w) 5 "with_best_worths" ["book","gains","part","board","ways"] (ER aA):=by
 have pf:bU P w K mg base (bN P w) 1 "picks_of" ["board","part","who"] x9:=Kf T
 have pY:bU P w K mg base (bN P w) 4 "with_worths" ["book","gains","part","ways"] (EN aA):=Ka T
 have iZ:bU P w K mg base (bN P w) 2 "better_ways" ["board","places","ways","tops"] BU:=Kc T
 have el:bU P w K mg base (bN P w) 1 "weighted_ways" ["place","way"] uO:=B4 T
 refine T.jh.d3 (λ_ _ _ _ _ _=>NF λ_ _ _ _ _=>rfl) λf fd F=>F.d5 eC (λvs H Q E h=>?_) (λcG A outer s H vs Q E hr h=>?_)
 ·obtain⟨_,_,_,_,_,_,_,_,_,_,_,_,rfl,_⟩:=h;rfl
 ·symm
  obtain⟨bk,gn,pt,bl,wl,S,b,rk,ks,ps,M,xs,rfl,hb,hg,Co,rb,B,hw,rl,K0,Hh,p0,Kb,fG,Z,M0,dv,zr,kk⟩:=h
  nofun
  clear G_
  have nd:=eC.nd
  refine⟨_,(ae (aF (i:=5) nd rfl (Or.inl rfl) (aK pf (hr.mono (by decide)) rfl aB.pass (aa (pv 3) (aa (pv 2) (aa ao ag (se rfl)) (se rfl)) (se rfl)) (he:=se rfl) (hpl:=na rfl)))
  (ae (aF (i:=6) nd rfl (Or.inl rfl) (aK pf (hr.mono (by decide)) rfl aB.pass (aa (pv 3) (aa (pv 2) (aa ao ag (se rfl)) (se rfl)) (se rfl)) (he:=se rfl) (hpl:=na rfl)))
  (au (hJ PassesOwn.never (di gL) (ae (aF (i:=7) nd rfl (Or.inl rfl) (aK pY (hr.mono (by decide)) rfl aB.pass (aa (pv 0) (aa (pv 1) (aa (pv 2) (aa (pv 4) ag (se rfl)) (se rfl)) (se rfl)) (se rfl)) (he:=se rfl) (hpl:=na rfl)))
  (ae (aF (i:=8) nd rfl (Or.inl rfl) (aK iZ (hr.mono (by decide)) rfl aB.pass (aa (pv 3) (aa (pv 6) (aa (pv 4) (aa (d4 (pv 7) rfl) ag (se rfl)) (se rfl)) (se rfl)) (se rfl)) (he:=se rfl) (hpl:=na rfl)))
  (ae (bF (aO cL (aP bB (by rfl) T.z_len aat (aa (pv 8) ag (se rfl)) (he:=se rfl) (hpl:=na rfl)) ao (aS _)) (au (aF (i:=8) nd rfl (Or.inl rfl) (aK iZ (hr.mono (by decide)) rfl aB.pass (aa (pv 3) (aa (pv 5) (aa (pv 4) (aa (d4 (pv 7) rfl) ag (se rfl)) (se rfl)) (se rfl)) (se rfl)) (he:=se rfl) (hpl:=na rfl))))
   ba)
  (ae (bF (aO cL (aP bB (by rfl) T.z_len aat (aa (pv 8) ag (se rfl)) (he:=se rfl) (hpl:=na rfl)) ao (aS _)) (au (aN (pv 7)))
   ba)
  (au (cu PassesOwn.never rfl (bj (K:=K) (pv 8)) (bX (K:=K) (n:=2) rfl (aU (aG (i:=9) nd rfl (Or.inl rfl)) (aU (aG (i:=10) nd rfl (Or.inl rfl)) bV))) (au (eM (aK el (hr.mono (by decide)) rfl aB.pass (aa (aD aE (pv 3) (pv 9) (λ_ _=>rfl)) (aa (pv 10) ag (se rfl)) (se rfl)) (he:=se rfl) (hpl:=na rfl)) (fu (pv 4) (pv 9) set_list))))))))))))),?_⟩
  refine(?_:let cy:TS:=_;let cz:TS:=_;let cA:TS:=_;tSeq cy (tSeq cz cA) _ _ _)
  intro cy cz cA
  have sl:=sizeLine_eq
  have WS:=B.len
  symm
  obtain⟨g0,g1,g2⟩:=B.bot
  nofun
  clear G_
  have N5:(gT b).length=b.length:=by unfold gT;rw[aac,aac]
  have N6:∀{ks:List (Option Int)},d8 b ks->(cE b ks).length=b.length:=λ{ks} h=>by unfold cE;rw[abr,h.len];omega
  have s0:az (cI H wl) H:=cf
  have WU:=rb.mono s0
  have ZT:∀{ks:List (Option Int)},d8 b ks->∀ws∈cE b ks,Dg.xP b.length ws:=λ{ks} h ws JW=>by
   symm
   obtain⟨j,hj,rfl⟩:=aaX JW
   nofun
   have DO:j<b.length:=by rw[N6 h] at hj;exact hj
   have:=(B.wk h (p:=(j:Int)) ⟨by omega,by omega⟩).1
   unfold cC at this
   rw[aak,aae,aad hj] at this
   exact this
  change tSeq _ _ _ _ _
  refine aR (λσ' H1=>∃l1,az H H1/\H l1=none/\H1 l1=some (.lst ((g5 b 1 ps).map V.int))/\σ'=[some (.ref bk),some (.ref gn),some (.ref pt),some (.ref bl),some (.ref wl),some (.ref l1),none,none,none,none,none]) ?_ (λN hN=>?_)
  case refine_2=>
   simp_all only[x9]
   exact⟨b,WU,ps,s0 _ _ Co,fG,Kb,λl1 H1 s1 n1 h1=>hN _ _ ⟨l1,s1,n1,h1,rfl⟩⟩
  intro _ H1 bH
  symm
  obtain⟨l1,s1,n1,h1,rfl⟩:=bH
  nofun
  clear G_
  change tSeq _ _ _ _ _
  refine aR (λσ' H2=>∃l2,az H1 H2/\H1 l2=none/\H2 l2=some (.lst ((g5 b 2 ps).map V.int))/\σ'=[some (.ref bk),some (.ref gn),some (.ref pt),some (.ref bl),some (.ref wl),some (.ref l1),some (.ref l2),none,none,none,none]) ?_ (λN hN=>?_)
  case refine_2=>
   simp_all only[x9]
   exact⟨b,WU.mono s1,ps,s1 _ _ (s0 _ _ Co),fG,Kb,λl2 H2 s2 n2 h2=>hN _ _ ⟨l2,s2,n2,h2,rfl⟩⟩
  intro _ H2 bH
  symm
  obtain⟨l2,s2,n2,h2,rfl⟩:=bH
  nofun
  clear G_
  have J7:=s1.trans s2
  have w1:l1≠wl:=λz=>by rw[z,hw] at n1;cases n1
  have w2:l2≠wl:=λz=>by rw[z,s1 _ _ hw] at n2;cases n2
  have Kh:az (cI H wl) (cI H2 wl):=bQ J7
  simp_all only[]
  refine Ea (λmm σ HX=>∃(dG:List (Option Int)) (iW:List V) (dP:List (List (Option Int))) (fl:Option (Int->Rat)) (z7 z8 z9 u3:Option V),mm+dP.length=(y4 b).length/\uQ b ps (λp=>((gT b).getD p.toNat 0:Rat) / (gB b:Rat)) (Dg.val S) dG dP fl/\az (cI H wl) (cI HX wl)/\cI HX wl l1=some (.lst ((g5 b 1 ps).map V.int))/\cI HX wl l2=some (.lst ((g5 b 2 ps).map V.int))/\HX wl=some (.lst iW)/\bu (cI HX wl) ((cE b dG).map qL) iW/\σ=[some (.ref bk),some (.ref gn),some (.ref pt),some (.ref bl),some (.ref wl),some (.ref l1),some (.ref l2),z7,z8,z9,u3]) (m:=(y4 b).length) ⟨ks,xs,[],none,_,_,_,_,rfl,uQ.start K0,Kh,by rw[bK w1];exact s2 _ _ h1,by rw[bK w2];exact h2,J7 _ _ hw,rl.mono Kh,rfl⟩ ?_
  intro mm σ HX JK
  symm
  obtain⟨dG,iW,dP,fl,z7,z8,z9,u3,em,hi,sX,Ml,CQ,Hl,Ki,rfl⟩:=JK
  nofun
  clear G_
  refine⟨true,λQQ ZU=>by simp_all only[];exact ZU,?_⟩
  rw[if_pos rfl]
  have sh:az (cI HX wl) HX:=cf
  have K':=hi.ok
  have ZV:=Ki.length
  rw[aac,N6 K'.pk] at ZV
  have N7:=B.pos
  have N8:∀y∈iW,∃a us,y=V.ref a/\cI HX wl a=some (.lst us):=λy hy=>by
   obtain⟨j,ej⟩:=aax hy
   symm
   obtain⟨d,ed,rr⟩:=Ki.get ej
   rw[aaf] at ed
   obtain⟨ws,_,rfl⟩:=Option.map_eq_some_iff.mp ed
   obtain⟨a,us,e,h,_⟩:=aT.mp rr
   nofun
   exact⟨a,us,e,h⟩
  change tSeq _ _ _ _ _
  refine aR (λσ' H3=>∃x T,az HX H3/\nk aA (cI H3 wl) x T/\Dg.DQ ps (cC (cE b dG)) (gT b) (gB b) S T/\Dg.Sz b.length (M+92*ps.length) T/\σ'=[some (.ref bk),some (.ref gn),some (.ref pt),some (.ref bl),some (.ref wl),some (.ref l1),some (.ref l2),some (.ref x),z8,z9,u3]) ?_ (λN hN=>?_)
  case refine_2=>
   simp_all only[]
   refine⟨bk,gn,pt,wl,S,gT b,gB b,ps,b.length,M,iW,cE b dG,rk,rfl,(hb.mono sX).mono sh,(hg.mono sX).mono sh,sh _ _ (sX _ _ Co),Hl,Ki.mono sh,N6 K'.pk,WS,Hh,p0,Kb,fG,ZT K'.pk,λp hp=>B.dn K'.pk (fG p hp),Z,M0,N5,g0,g1.mono (by decide),dv,B.top,zr,λx T2 H3 s3 h3 st sz=>hN _ _ ⟨x,T2,s3,?_,st,sz,rfl⟩⟩
   symm
   obtain⟨dx,ZW,Ig,Kj⟩:=h3
   nofun
   refine⟨dx,ZW,by rw[bK (λz=>by rw[z,s3 _ _ Hl] at Ig;cases Ig)];exact Ig,?_⟩
   rw[bK]
   ·exact Kj
   ·intro z
    rw[z,s3 _ _ Hl] at Kj
    have e:iW=T2.1.map V.int:=by injection Kj with h;injection h
    have fE:0<iW.length:=by omega
    symm
    obtain⟨a,_,ea,_⟩:=N8 iW[0] (aan fE)
    have:iW[0]?=some iW[0]:=aad fE
    rw[ea,e,aaf] at this
    obtain⟨_,_,e2⟩:=Option.map_eq_some_iff.mp this
    nofun
    cases e2
  intro _ H3 bH
  symm
  obtain⟨x,T2,s3,Ig,st,sz,rfl⟩:=bH
  obtain⟨dx,mt,WV,ZX⟩:=id Ig
  nofun
  clear G_
  have Mm:az (cI H3 wl) H3:=cf
  have Kk:=bQ (p:=wl) s3
  have NX:∀t∈T2.1,Bt 4000 t:=λt ht=>by
   symm
   obtain⟨j,hj,rfl⟩:=aaX ht
   nofun
   have:=sz.bt j
   rw[aae,aad hj] at this
   exact Bt.mono this (by omega)
  have hv:=GO B K'.pk fG Z.pos dv st
  have pin:∀br,∀p∈g5 b br ps,0<=p/\∃to,b[p.toNat]?=some (.cD br to):=λbr p hp=>⟨(fG p (dW.mp hp).1).1,(dW.mp hp).2⟩
  have N9:∀br,(g5 b br ps).length<=16:=λbr=>aap (List.length_filter_le _ _) Kb
  have E1:∀(lp:Addr) (br:Int) (HH:Hp),az H3 HH->cI HX wl lp=some (.lst ((g5 b br ps).map V.int))->∀QQ:VK,(∀l bs H',az HH H'->Rep (cI H' wl) (.lst (bs.map bC)) (.ref l)->iS b dG br T2.1 (g5 b br ps) bs->QQ (.ref l) H')->BU [.ref bl,.ref lp,.ref wl,.ref mt] HH QQ E0:=λlp br HH Kl ZY QQ kq=>by
   have Oa:=Kk.trans (Mm.trans Kl)
   refine⟨bl,lp,wl,mt,b,dG,br,T2.1,g5 b br ps,iW,rfl,(rb.mono sX).mono Oa,Oa _ _ ZY,Kl _ _ (s3 _ _ Hl),Ki.mono Oa,(Mm.trans Kl) _ _ ZX,sz.len,NX,K'.pk,B.ok,pin br,N9 br,λl bs H' s' nl r' W=>kq l bs H' s' ?_ W⟩
   have ZZ:l≠wl:=λz=>by rw[z,Kl _ _ (s3 _ _ Hl)] at nl;cases nl
   have Ob:=s' _ _ (Kl _ _ (s3 _ _ Hl))
   exact iL r' (λxs hx=>by rw[bK ZZ];exact hx) (λy vs hy=>by rw[bK (λz=>by rw[z,Ob] at hy;cases hy)];exact hy)
  change tSeq _ _ _ _ _
  refine aR (λσ' H4=>∃lb bs,az H3 H4/\Rep (cI H4 wl) (.lst (bs.map bC)) (.ref lb)/\iS b dG 2 T2.1 (g5 b 2 ps) bs/\σ'=[some (.ref bk),some (.ref gn),some (.ref pt),some (.ref bl),some (.ref wl),some (.ref l1),some (.ref l2),some (.ref x),some (.ref lb),z9,u3]) ?_ (λN hN=>?_)
  case refine_2=>
   simp_all only[lX]
   exact⟨_,_,_,Mm _ _ WV,T.cF,T.na_Book_tops,_,lK,E1 l2 2 H3 (az.refl _) CQ _ λl bs H' s' r' W=>hN _ _ ⟨l,bs,s',r',W,rfl⟩⟩
  intro _ H4 bH
  symm
  obtain⟨lb,bs,s4,WW,W2,rfl⟩:=bH
  nofun
  clear G_
  change tSeq _ _ _ _ _
  refine aR (λσ' H5=>∃(lb:Addr) (bs:List (Int×Int)) (br:Int),az H3 H5/\Rep (cI H5 wl) (.lst (bs.map bC)) (.ref lb)/\((br=2/\bs≠[]/\iS b dG 2 T2.1 (g5 b 2 ps) bs)\/(br=1/\iS b dG 2 T2.1 (g5 b 2 ps) []/\iS b dG 1 T2.1 (g5 b 1 ps) bs))/\σ'=[some (.ref bk),some (.ref gn),some (.ref pt),some (.ref bl),some (.ref wl),some (.ref l1),some (.ref l2),some (.ref x),some (.ref lb),z9,u3]) ?_ (λN hN=>?_)
  case refine_2=>
   simp_all only[lX]
   symm
   obtain⟨_,ys,ey,Km,Mn⟩:=aT.mp WW
   nofun
   cases ey
   have ly:=Mn.length
   rw[aac] at ly
   refine⟨ys,cf _ _ Km,?_⟩
   by_cases c:bs=[]
   ·subst c
    rw[if_pos (by rw[<-ly];rfl)]
    exact⟨_,_,_,s4 _ _ (Mm _ _ WV),T.cF,T.na_Book_tops,_,lK,E1 l1 1 H4 s4 Ml _ λl Z1 H' s' r' W1=>hN _ _ ⟨l,Z1,1,s4.trans s',r',.inr ⟨rfl,W2,W1⟩,rfl⟩⟩
   ·rw[if_neg (by have:=List.length_pos_iff.mpr c;omega)]
    exact hN _ _ ⟨lb,bs,2,s4,WW,.inl ⟨rfl,c,W2⟩,rfl⟩
  intro _ H5 bH
  symm
  obtain⟨lb,bs,br,s5,Oc,cs,rfl⟩:=bH
  obtain⟨_,ys,ey,Km,Mn⟩:=aT.mp Oc
  nofun
  clear G_
  cases ey
  have ly:=Mn.length
  rw[aac] at ly
  have Od:az (cI H wl) (cI H5 wl):=sX.trans (Kk.trans (bQ s5))
  have WX:=s5 _ _ (s3 _ _ Hl)
  have Kn:=Ki.mono (Kk.trans (bQ (p:=wl) s5))
  change tSeq _ _ _ _ _
  refine aR (λσ' H6=>H5=H6/\bs≠[]/\σ'=[some (.ref bk),some (.ref gn),some (.ref pt),some (.ref bl),some (.ref wl),some (.ref l1),some (.ref l2),some (.ref x),some (.ref lb),z9,u3]) ?_ (λN hN=>?_)
  case refine_2=>
   simp_all only[]
   refine⟨ys,cf _ _ Km,?_⟩
   by_cases c:bs=[]
   ·subst c
    rw[if_pos (by rw[<-ly];rfl)]
    rcases cs with ⟨_,ne,_⟩ | ⟨_,V2,V1⟩
    ·exact absurd rfl ne
    refine kk x T2 dG iW H5 Od WX Kn K' st sz (Ig.mono (bQ s5)) λp hp Z2 to eb t ht=>?_
    rcases(B.ok _ (aag eb)).1 with e1 | e1
    ·subst e1
     exact V1.b9 _ (dW.mpr ⟨hp,to,by rw[aak];exact eb⟩) (by simp) to (by rw[aak];exact eb) t ht
    ·subst e1
     exact V2.b9 _ (dW.mpr ⟨hp,to,by rw[aak];exact eb⟩) (by simp) to (by rw[aak];exact eb) t ht
   ·rw[if_neg (by have:=List.length_pos_iff.mpr c;omega)]
    exact hN _ _ ⟨rfl,c,rfl⟩
  intro _ _ bH
  symm
  obtain⟨rfl,WY,rfl⟩:=bH
  have HZ:∀br,(g5 b br ps).Nodup:=λbr=>Hh.filter _
  have Wa:iS b dG br T2.1 (g5 b br ps) bs:=by
   rcases cs with ⟨rfl,_,V⟩ | ⟨rfl,_,V⟩
   ·exact V
   ·exact V
  have DS:∃HY,uQ b ps (λp=>((gT b).getD p.toNat 0:Rat) / (gB b:Rat)) (Dg.val S) (eF bs dG bs.length) (dG::dP) HY:=by
   rcases cs with ⟨_,_,V⟩ | ⟨_,V2,V1⟩
   ·exact⟨_,uR B fG sz.pos hi hv (λp hp=>(dW.mp hp).1) (HZ 2) V WY⟩
   ·exact⟨_,wC B fG sz.pos hi hv (λp hp=>(dW.mp hp).1) (HZ 1) V1 WY V2 λp hp to eb=>dW.mpr ⟨hp,to,by rw[aak];exact eb⟩⟩
  obtain⟨HY,DS⟩:=DS
  have left:=hi.left
  have Z3:=rb.mono Od
  obtain⟨_,xb,Z4,Oe,Of⟩:=aT.mp Z3
  nofun
  clear G_
  cases Z4
  simp_all only[]
  refine⟨⟨_,bo.of (cf _ _ Km)⟩,bP (src_list (K:=K) (a:=lb) (xs:=ys) (Ok:=λH'=>az (cI H5 wl) (cI H' wl)) (λH' s=>bo.of (cf _ _ (s _ _ Km)))) (λj σ H6=>az (cI H5 wl) (cI H6 wl)/\∃(Ec:List V) (z9 u3:Option V),H6 wl=some (.lst Ec)/\bu (cI H6 wl) ((cE b (eF bs dG j)).map qL) Ec/\σ=[some (.ref bk),some (.ref gn),some (.ref pt),some (.ref bl),some (.ref wl),some (.ref l1),some (.ref l2),some (.ref x),some (.ref lb),z9,u3]) ⟨az.refl _,iW,_,_,WX,Kn,rfl⟩ (λ_ _ _ _ h=>h.1) ?_ ?_⟩
  ·intro j y σ H6 H7 hj dI dJ
   symm
   obtain⟨s6,Ec,z9,u3,Og,Ih,rfl⟩:=dI
   obtain⟨rfl,ey⟩:=dJ
   have DO:j<bs.length:=by omega
   have ej:bs[j]?=some bs[j]:=aad DO
   obtain⟨t,et,ht⟩:=cJ Mn ej
   nofun
   clear G_
   rw[ey] at et
   cases et
   have gj:bs.getD j (0,0)=bs[j]:=by rw[aae,ej];rfl
   have pj:eF bs dG (j+1)=(eF bs dG j).set (bs[j]).1.toNat (some (bs[j]).2):=by rw[<-gj];rfl
   symm
   obtain⟨mq,to,eb,w0,w1,_,_⟩:=Wa.mem _ (aan DO)
   nofun
   clear G_
   have Z5:=(fG _ (dW.mp mq).1).1
   have WZ:(eF bs dG j).length=b.length:=by rw[jU];exact K'.pk.len
   have Z6:=Ih.length
   have Z7:(cE b (eF bs dG j)).length=b.length:=by unfold cE;rw[abr,WZ];omega
   rw[aac,Z7] at Z6
   refine⟨t,_,rfl,dZ.of (cf _ _ (s6 _ _ ht)),rfl,?_⟩
   generalize bs[j]=bw at *
   obtain⟨p,Hm⟩:=aav Z5
   rw[Hm,aak] at eb pj
   rw[Hm] at ht ⊢
   have hp:=(List.getElem?_eq_some_iff.mp eb).1
   symm
   obtain⟨v,ev,rv⟩:=dq Of eb
   nofun
   have Z8:eE xb (p:Int)=some v:=bE ev
   have W3:az (cI H7 wl) H7:=cf
   simp_all only[W3 _ _ (s6 _ _ Oe),Z8]
   refine⟨v,.cD br to,some bw.2,rfl,(rv.mono s6).mono W3,⟨w0,w1⟩,λl' H8 s8 r8=>?_⟩
   have Oh:=s8 _ _ Og
   have nl:l'≠wl:=λz=>by
    subst z
    symm
    obtain⟨_,us,e,LO,Z9⟩:=aT.mp r8
    nofun
    cases e
    rw[Oh] at LO
    have exu:Ec=us:=by injection LO with h;injection h
    symm
    obtain⟨t1,et1,W4⟩:=cJ (i:=0) Z9 rfl
    nofun
    have h0:0<Ec.length:=by omega
    symm
    obtain⟨d,ed,rr⟩:=Ih.get (aad h0)
    rw[aaf] at ed
    obtain⟨ws,_,rfl⟩:=Option.map_eq_some_iff.mp ed
    obtain⟨a',us',e',h',_⟩:=aT.mp rr
    nofun
    have:Ec[0]?=some (V.ref a'):=by rw[aad h0,e']
    rw[exu,et1] at this
    cases this
    rw[s8 _ _ (cf _ _ h')] at W4
    cases W4
   have r8':Rep (cI H8 wl) (qL (vc (.cD br to) (some bw.2))) (.ref l'):=iL r8 (λxs hx=>by rw[bK nl];exact hx) (λy vs hy=>by rw[bK (λz=>by rw[z,Oh] at hy;cases hy)];exact hy)
   refine⟨Ec,Oh,p,gJ (by omega),?_,_,ar,?_,_,rfl⟩
   ·rw[u4]
    exact s6.trans (bQ s8)
   ·rw[u4,pj,Eb eb WZ,List.map_set]
    exact pe (Ih.mono (bQ s8)) r8'
  ·intro σ H6 bH
   symm
   obtain⟨s6,Ec,z9,u3,Og,Ih,rfl⟩:=bH
   nofun
   rw[<-ly] at Ih
   exact⟨mm - 1,by omega,_,Ec,dG::dP,by rw[aaq];omega,HY,DS,Od.trans s6,s6 _ _ (bQ s5 _ _ (Kk _ _ Ml)),s6 _ _ (bQ s5 _ _ (Kk _ _ CQ)),Og,Ih,_,_,_,_,rfl⟩
theorem Ko {a b:V}:List.lookup (Str.ofString "as_shares") [(("tops":Str),a),(("bottom":Str),b)]=none:=rfl
theorem B6 (x:Int×Int):Ke (bC x):=⟨rfl,by show(toP (bC x)).depth<=8;simp [bC,toP,toPL,PyData.depth,PyData.depthAll]⟩
theorem jX:aQ ["place","worth","worths"] ["place","worth","worths"] (af (top 44)):=⟨rfl,rfl,rfl,by ac_rfl,rfl,by ac_rfl,by ac_rfl⟩
theorem Kp (T:Txt K mg aA tc):bU P w K mg base (bN P w) 1 "best_pick" ["place","worth","worths"] JH:=by
 refine T.uu.d3 (λ_ _ _ _ _ _=>pS λ_ _ _=>rfl) λf fd F=>F.d5 jX (λvs H Q E h=>?_) (λcG A outer s H vs Q E hr h=>?_)
 ·obtain⟨_,_,_,_,_,_,_,rfl,_⟩:=h;rfl
 ·symm
  obtain⟨v,x,wl,q,n,p,ss,rfl,rv,pq,ls,hp,hx,qV,mem,kk⟩:=h
  nofun
  clear G_
  have nd:=jX.nd
  refine⟨_,(ae (bF (aO iU (aD aH (pv 0) ao (λ_ _=>rfl)) cK (aS _)) (au (aN eL))
   ba)
  (au (aN (fi aaO PySem.F.slot_list_index PySem.F.type_list_index (yS hr.units) (bO rfl (N:=["place","worth","worths"]) (so:=af (top 44)) (N':=["to","worths"]) (k:=1) (fr:=[2]) rfl rfl ⟨rfl,by ac_rfl,by ac_rfl,by ac_rfl,rfl,by ac_rfl,by ac_rfl⟩ (bj (K:=K) (aD aH (pv 0) ao (λ_ _=>rfl))) (λ_ _ _ _ _=>(aG (i:=0) (show(["to","worths"]:List Str).Nodup by ac_rfl) rfl (Or.inl rfl))) (λ_ _ _ _ _=>bJ)
   (λ_ _ _ _ _=>(aD aE (pv 1) (pv 0) (λ_ _=>rfl)))) (aa (pv 1) ag (se rfl)))))),?_⟩
  have sl:=sizeLine_eq
  cases q with
  | fin g=>
   symm
   obtain⟨t,r,rfl,ht,_⟩:=cX.mp rv
   nofun
   simp_all only[ht]
   rw[if_pos (by ac_rfl)]
   exact kk _ (az.refl _)
  | dA g ws=>
   symm
   obtain⟨t,r,l',zs,rfl,ht,_⟩:=cN.mp rv
   nofun
   simp_all only[ht]
   rw[if_pos (by ac_rfl)]
   exact kk _ (az.refl _)
  | cD br to=>
   symm
   obtain⟨t,l',rfl,ht,tD⟩:=cH.mp rv
   nofun
   clear G_
   simp_all only[ht]
   rw[if_neg (by simp)]
   symm
   obtain⟨_,us,e,C0,ru⟩:=aT.mp qV
   nofun
   clear G_
   cases e
   have lu:=ru.length
   rw[aac] at lu
   have l3:=pq.2.2.1
   refine⟨⟨_,bo.of tD⟩,?_⟩
   refine comp_map (src_list (K:=K) (a:=l') (xs:=to.map V.int) (Ok:=az H) (λH' s'=>bo.of (s' _ _ tD))) (λ_ _ _ _ h=>by rw[h.1];exact az.refl _) (by rw[aac];omega) (λi y H4=>∀g,to[i]?=some g->Rep H4 (bC (Wq.b8 ss g)) y) (λi y H4 H5 s5 h g e=>(h g e).mono s5) ?_ ?_
   ·rintro i v0 w0 H4 H5 Q2 hi s4 ⟨rfl,ex⟩ kq
    rw[aaf] at ex
    symm
    obtain⟨g,eg,rfl⟩:=Option.map_eq_some_iff.mp ex
    obtain⟨g0,g1⟩:=pq.2.2.2 g (aag eg)
    have Kq:ss[g.toNat]?=some (Wq.b8 ss g):=by
     unfold Wq.b8
     rw[aae,aad (show g.toNat<ss.length by omega)]
     rfl
    obtain⟨pr,epr,hpr⟩:=cJ ru Kq
    nofun
    have Hi:eE us g=some (.ref pr):=by have:=bE epr;rwa [abj g0] at this
    simp_all only[s4 _ _ C0,Hi]
    refine kq _ _ (az.refl _) λg' e'=>?_
    rw[eg] at e'
    cases e'
    exact cn.mpr ⟨pr,rfl,s4 _ _ hpr⟩
   ·intro ys H5 s5 ly hy D n1 n2
    rw[aac] at ly
    have sD:=ax (o:=.lst ys) n2
    have hD:upd H5 D (.lst ys) D=some (.lst ys):=ar
    generalize upd H5 D (.lst ys)=H6 at *
    have rD:bu H6 ((to.map (Wq.b8 ss)).map bC) ys:=dD (by rw[aac];exact ly) λi y ey x' Cw=>by
     rw[aaf] at Cw
     symm
     obtain⟨g,eg,rfl⟩:=Option.map_eq_some_iff.mp Cw
     nofun
     exact(hy i y ey g eg).mono sD
    symm
    obtain⟨tm,mt,et⟩:=mem br to rfl
    nofun
    have mm:Wq.b8 ss (p:Int)∈to.map (Wq.b8 ss):=List.mem_map.mpr ⟨tm,mt,et.symm⟩
    have lt:=aaS mm
    have eg:=aaW lt
    have inj:∀u v:Wq.Sh,toP (bC u)=toP (bC v)->u=v:=λu v h=>by
     simp [bC,toP,toPL] at h
     exact Prod.ext h.1 h.2
    refine⟨.inl ⟨rfl,_,bo.of hD⟩,D,ys,(to.map (Wq.b8 ss)).map bC,.ref x,bC (Wq.b8 ss (p:Int)),(to.map (Wq.b8 ss)).idxOf (Wq.b8 ss (p:Int)),rfl,rfl,hD,rD,λe he=>?_,cn.mpr ⟨x,rfl,(s5.trans sD) _ _ hx⟩,B6 _,?_,λj hj z=>?_,?_,kk _ (s5.trans sD)⟩
    ·symm
     obtain⟨u,_,rfl⟩:=List.mem_map.mp he
     nofun
     exact B6 u
    ·rw[aaf,aaf,aad lt,eg]
     rfl
    ·have:=List.not_of_lt_findIdx (xs:=to.map (Wq.b8 ss)) (p:=λy=>y==Wq.b8 ss (p:Int)) hj
     rw[aaf,aaf,aad (Nat.lt_trans hj lt)] at z
     have:=inj _ _ (aaC z)
     simp_all
    ·rw[aac] at lt
     omega
theorem B7 {C:Addr} {H:Hp} {x wl:Addr} {S:Dg.Bk} {xs:List V} (h:nk C H x S) (hw:H wl=some (.lst xs)) (xr:∀y∈xs,∃a,y=V.ref a) (l0:0<xs.length):nk C (cI H wl) x S:=by
 obtain⟨dx,m,hx,hm⟩:=h
 refine⟨dx,m,by rw[bK (λz=>by rw[z,hw] at hx;cases hx)];exact hx,?_⟩
 rw[bK]
 ·exact hm
 ·intro z
  rw[z,hw] at hm
  have e:xs=S.1.map V.int:=by injection hm with h;injection h
  obtain⟨a,ea⟩:=xr xs[0] (aan l0)
  have:xs[0]?=some xs[0]:=aad l0
  rw[ea,e,aaf] at this
  obtain⟨_,_,e2⟩:=Option.map_eq_some_iff.mp this
  cases e2
theorem ye {H:Hp} {gf:List Dg.Wy} {xs:List V} (r:bu H (gf.map qL) xs):∀y∈xs,∃a,y=V.ref a:=λy hy=>by
 obtain⟨j,ej⟩:=aax hy
 obtain⟨ws',_,rr⟩:=A3 r ej
 obtain⟨a,_,e,_⟩:=aT.mp rr
 exact⟨a,e⟩
theorem B8 {H:Hp} {b:List Pl} {xs:List V} (r:bu H ((cE b (List.replicate b.length (some (0:Int)))).map qL) xs) (h:0<b.length):0<xs.length:=by
 have:=r.length
 unfold cE at this
 rw[aac,abr,aba] at this
 omega
theorem yf:aQ ["board","found","ways","gains","book","part","worths"] ["board"] (af (top 45)):=⟨rfl,rfl,rfl,by ac_rfl,rfl,by ac_rfl,by ac_rfl⟩
theorem Kr (T:Txt K mg aA tc) (LB:pO base mg tc tp):bU P w K mg base (bN P w) 7 "best" ["board"] (qQ tp):=by
 have mK:bU P w K mg base (bN P w) 6 "checked_parts" ["board"] (wt tp):=He T LB
 have iT:bU P w K mg base (bN P w) 2 "all_weighted_ways" ["board","picks"] JA:=J8 T
 have wJ:bU P w K mg base (bN P w) 4 "gains_of" ["board"] (BH aA):=Hg T
 have ph:bU P w K mg base (bN P w) 3 "blank_worths" ["gains"] (GA aA):=J9 T
 have jr:bU P w K mg base (bN P w) 5 "with_best_worths" ["book","gains","part","board","ways"] (ER aA):=Kg T
 have kU:oI P w K mg base (bN P w) 3 aA "as_shares" ["self"] (Jx aA):=J6 T
 have u5:bU P w K mg base (bN P w) 1 "best_pick" ["place","worth","worths"] JH:=Kp T
 refine T.Gc.d3 (λ_ _ _ _ _ _=>iR λ_=>rfl) λf fd F=>F.d5 yf (λvs H Q E h=>?_) (λcG A outer s H vs Q E hr h=>?_)
 ·obtain⟨_,_,_,rfl,_⟩:=h;rfl
 ·symm
  obtain⟨a,b,rk,rfl,rb,B,lE,kk⟩:=h
  nofun
  clear G_
  have nd:=yf.nd
  refine⟨_,(ae (aF (i:=1) nd rfl (Or.inl rfl) (aK mK (hr.mono (by decide)) rfl aB.pass (aa (pv 0) ag (se rfl)) (he:=se rfl) (hpl:=na rfl)))
  (ae (aF (i:=2) nd rfl (Or.inl rfl) (aK iT (hr.mono (by decide)) rfl aB.pass (aa (pv 0) (aa (aI vM (cV (aa ao ag (se rfl))) (aP bB (by rfl) T.z_len aat (aa (pv 0) ag (se rfl)) (he:=se rfl) (hpl:=na rfl))) ag (se rfl)) (se rfl)) (he:=se rfl) (hpl:=na rfl)))
  (ae (aF (i:=3) nd rfl (Or.inl rfl) (aK wJ (hr.mono (by decide)) rfl aB.pass (aa (pv 0) ag (se rfl)) (he:=se rfl) (hpl:=na rfl)))
  (ae (aF (i:=4) nd rfl (Or.inl rfl) (aK ph (hr.mono (by decide)) rfl aB.pass (aa (pv 3) ag (se rfl)) (he:=se rfl) (hpl:=na rfl)))
  (ae (cu PassesOwn.never rfl (bj (K:=K) (pv 1)) (aG (i:=5) nd rfl (Or.inl rfl)) (au (aF (i:=4) nd rfl (Or.inl rfl) (aK jr (hr.mono (by decide)) rfl aB.pass (aa (pv 4) (aa (pv 3) (aa (pv 5) (aa (pv 0) (aa (pv 2) ag (se rfl)) (se rfl)) (se rfl)) (se rfl)) (se rfl)) (he:=se rfl) (hpl:=na rfl)))))
  (ae (aF (i:=6) nd rfl (Or.inr rfl) (F8 kU T.cF (pv 4) (hr.mono (by decide)) aB.pass))
  (au (aN (bL (aa (pv 6) (aa (bO rfl (N:=["board","found","ways","gains","book","part","worths"]) (so:=af (top 45)) (N':=["place","worth","worths"]) (k:=2) (fr:=[6]) rfl rfl ⟨rfl,by ac_rfl,by ac_rfl,by ac_rfl,rfl,by ac_rfl,by ac_rfl⟩ (jK (K:=K) rfl T.z_zip (aa (pv 0) (aa (pv 6) ag (se rfl)) (se rfl))) (λ_ _ _ _ _=>(bX (K:=K) (n:=2) rfl (aU (aG (i:=0) (show(["place","worth","worths"]:List Str).Nodup by ac_rfl) rfl (Or.inl rfl)) (aU (aG (i:=1) (show(["place","worth","worths"]:List Str).Nodup by ac_rfl) rfl (Or.inl rfl)) bV)))) (λ_ _ _ _ _=>bJ)
   (λ_ _ _ _ _=>(aK u5 (hr.mono (by decide)) rfl aB.pass (aa (pv 0) (aa (pv 1) (aa (pv 2) ag (se rfl)) (se rfl)) (se rfl)) (he:=se rfl) (hpl:=na rfl)))) ag (se rfl)) (se rfl))))))))))),?_⟩
  refine(?_:let cy:TS:=_;let cz:TS:=_;let cA:TS:=_;let du:TS:=_;let iy:TS:=_;let yd:TS:=_;let EY:TS:=_;tSeq cy (tSeq cz (tSeq cA (tSeq du (tSeq iy (tSeq yd EY))))) _ _ _)
  intro cy cz cA du iy yd EY
  have sl:=sizeLine_eq
  have bl:=B.len
  symm
  obtain⟨g0,g1,g2⟩:=B.bot
  have N5:(gT b).length=b.length:=by unfold gT;rw[aac,aac]
  obtain⟨_,xb,e,ha,Ie⟩:=aT.mp rb
  nofun
  clear G_
  cases e
  have lx:=Ie.length
  rw[aac] at lx
  change tSeq _ _ _ _ _
  refine aR (λσ' H1=>∃l ps as,Pr.Told b ps/\az H H1/\H1 l=some (.lst (List.map V.ref as))/\Al (λp v=>∃x,v=.ref x/\H1 x=some (.lst ((Pr.c9 b p).map V.int))) ps (as.map V.ref)/\σ'=[some (.ref a),some (.ref l),none,none,none,none,none]) ?_ (λN hN=>?_)
  case refine_2=>
   simp_all only[wt]
   exact⟨b,rb,rk,B,lE,λl ps as H1 td s1 nl hl al=>hN _ _ ⟨l,ps,as,td,s1,hl,al,rfl⟩⟩
  intro _ H1 bH
  symm
  obtain⟨l,ps,as,td,s1,hl,al,rfl⟩:=bH
  nofun
  clear G_
  have W5:∀(i:Nat) q k,b[i]?=some q->(List.replicate b.length (some (0:Int)))[i]?=some k->HW q k:=λi q k e ek=>by
   rw[List.eq_of_mem_replicate (aag ek)]
   have:=B.ok q (aag e)
   cases q with
   | fin g=>trivial
   | dA g ws=>trivial
   | cD br to=>exact⟨Int.le_refl _,by have:=this.2.1;omega⟩
  change tSeq _ _ _ _ _
  refine aR (λσ' H2=>∃wl xs,az H1 H2/\H1 wl=none/\H2 wl=some (.lst xs)/\bu (cI H2 wl) ((cE b (List.replicate b.length (some (0:Int)))).map qL) xs/\σ'=[some (.ref a),some (.ref l),some (.ref wl),none,none,none,none]) ?_ (λN hN=>?_)
  case refine_2=>
   simp_all only[CS]
   refine⟨by decide,λz nz=>?_⟩
   have s3:=ax (o:=.lst [V.int 0]) nz
   have hz:upd H1 z (.lst [V.int 0]) z=some (.lst [V.int 0]):=ar
   generalize upd H1 z (.lst [V.int 0])=H3 at *
   refine⟨_,(s1.trans s3) _ _ ha,_,hz,by omega,by omega,by rw[aak];show 1*xb.length<=_;omega,λD nD=>?_⟩
   rw[aak,List.flatten_replicate_singleton,<-lx] at *
   have s4:=s3.trans (ax (o:=.lst (List.replicate b.length (V.int 0))) nD)
   have hD:upd H3 D (.lst (List.replicate b.length (V.int 0))) D=some (.lst ((List.replicate b.length (some (0:Int))).map fC)):=by rw[ar,List.map_replicate];rfl
   generalize upd H3 D (.lst (List.replicate b.length (V.int 0)))=H4 at *
   exact⟨a,D,b,_,rfl,rb.mono (s1.trans s4),by omega,hD,⟨aba,W5⟩,λwl xs H5 s5 nw hw qV=>hN _ _ ⟨wl,xs,s4.trans s5,none_of s4 nw,hw,qV,rfl⟩⟩
  intro _ H2 bH
  symm
  obtain⟨wl,xs,s2,W6,C0,Ed,rfl⟩:=bH
  nofun
  clear G_
  have sh1:az H1 (cI H2 wl):=eQ s2 W6
  change tSeq _ _ _ _ _
  refine aR (λσ' H3=>∃gn,az H2 H3/\nk aA (cI H3 wl) gn (gT b,gB b)/\σ'=[some (.ref a),some (.ref l),some (.ref wl),some (.ref gn),none,none,none]) ?_ (λN hN=>?_)
  case refine_2=>
   simp_all only[BH]
   exact⟨b,(rb.mono (s1.trans sh1)).mono cf,rk,B,λgn H3 s3 hg=>hN _ _ ⟨gn,s3,B7 hg (s3 _ _ C0) (ye Ed) (B8 Ed B.pos),rfl⟩⟩
  intro _ H3 bH
  symm
  obtain⟨gn,s3,hg,rfl⟩:=bH
  nofun
  clear G_
  change tSeq _ _ _ _ _
  refine aR (λσ' H4=>∃bk,az H3 H4/\nk aA (cI H4 wl) bk (List.replicate b.length 0,gB b)/\σ'=[some (.ref a),some (.ref l),some (.ref wl),some (.ref gn),some (.ref bk),none,none]) ?_ (λN hN=>?_)
  case refine_2=>
   simp_all only[GA]
   refine⟨_,hg.mono cf,by show(gT b).length<=60;omega,λbk H4 s4 hb=>hN _ _ ⟨bk,s4,?_,rfl⟩⟩
   have:nk aA H4 bk (List.replicate b.length 0,gB b):=by rw[<-N5];exact hb
   exact B7 this (s4 _ _ (s3 _ _ C0)) (ye Ed) (B8 Ed B.pos)
  intro _ H4 bH
  symm
  obtain⟨bk,s4,hb,rfl⟩:=bH
  nofun
  clear G_
  have mJ:=s3.trans s4
  have la:=al.length
  rw[aac] at la
  have K0:wz b (List.replicate b.length (some (0:Int))):=⟨⟨aba,W5⟩,λi q k e ek _=>List.eq_of_mem_replicate (aag ek)⟩
  have Oi:az H1 (cI H4 wl):=eQ (s2.trans mJ) W6
  change tSeq _ _ _ _ _
  refine aR (λσ' H5=>az H1 H5/\∃(bk:Addr) (S:Dg.Bk) (z:Option V),nk aA H5 bk S/\uS b ps ps.length S/\σ'=[some (.ref a),some (.ref l),some (.ref wl),some (.ref gn),some (.ref bk),z,none]) ?_ (λN hN=>?_)
  case refine_2=>
   simp_all only[]
   refine⟨⟨_,bo.of (mJ _ _ (s2 _ _ hl))⟩,bP (src_list (K:=K) (a:=l) (xs:=as.map V.ref) (Ok:=λH'=>az H1 (cI H' wl)) (λH' s=>bo.of (cf _ _ (s _ _ hl)))) (λi σ H5=>az H1 (cI H5 wl)/\∃(bk:Addr) (S:Dg.Bk) (ks:List (Option Int)) (xs:List V) (z:Option V),nk aA (cI H5 wl) gn (gT b,gB b)/\nk aA (cI H5 wl) bk S/\H5 wl=some (.lst xs)/\bu (cI H5 wl) ((cE b ks).map qL) xs/\wz b ks/\uS b ps i S/\σ=[some (.ref a),some (.ref l),some (.ref wl),some (.ref gn),some (.ref bk),z,none]) ⟨Oi,bk,_,_,xs,_,hg.mono (bQ s4),hb,mJ _ _ C0,Ed.mono (bQ mJ),K0,uS.start B,rfl⟩ (λ_ _ _ _ h=>h.1) ?_ ?_⟩
   ·intro i y σ H5 H6 hi dI dJ
    symm
    obtain⟨s5,bk,S,ks,xs,z,Oj,Ii,Ks,Kn,K5,I,rfl⟩:=dI
    obtain⟨rfl,ex⟩:=dJ
    rw[aac] at hi
    obtain⟨p,ep,x,rfl,hx⟩:=al.get ex
    nofun
    have ip:=td.Jr (aag ep)
    have fG:∀q∈Pr.c9 b p,Pr.In b q:=λq hq=>Pr.eX B.gP.good ip hq
    have lp:0< (Pr.c9 b p).length:=List.length_pos_iff.mpr (Pr.jj B.gP.good ip)
    have o1:=BG B td (i:=i+1) (by omega)
    rw[Pr.oX ep] at o1
    simp_all only[]
    refine⟨bk,gn,x,a,wl,S,b,rk,ks,Pr.c9 b p,330+92*Pr.off b ps i,xs,rfl,Ii,Oj,s5 _ _ hx,rb.mono (s1.trans s5),B,Ks,Kn,K5,(Pr.kK B.gP.good ip).imp (λh z=>by omega),lp,by omega,fG,I.sz,by omega,I.dv,λq hq=>I.zr q (fG q hq) (by rw[wq B td ep hq];exact aah _),λx2 T2 Kt xs2 H7 s7 h7 r7 K7 st sz hb7 bst=>?_⟩
    exact⟨s5.trans s7,Oj.mono s7,x2,T2,hb7,Kt,xs2,h7,r7,K7,I.step B td K7.pk ep st sz bst,rfl,_,rfl⟩
   ·intro σ H5 bH
    symm
    obtain⟨s5,bk,S,ks,xs,z,Oj,Ii,Ks,Kn,K5,I,rfl⟩:=bH
    nofun
    rw[aac,la] at I
    exact hN _ _ ⟨s5.trans cf,bk,S,z,Ii.mono cf,I,rfl⟩
  intro _ H5 bH
  symm
  obtain⟨s5,bk,S,z,Ii,I,rfl⟩:=bH
  nofun
  clear G_
  have W0:=I.sz.pos
  have o1:=BG B td (i:=ps.length) (aah _)
  have sz:=I.sz.up (M':=330+92*b.length) (by omega)
  have wl':=sz.len
  have lv:∀q:Int,0<=q->q< (b.length:Int)->Dg.vl (Wq.b8 (bY S) q)=Dg.val S q:=λq q0 q1=>x6 W0 q (by omega)
  have bq:∀p:Nat,p<b.length->pW b p (Dg.val S):=λp hp=>I.eq p hp (Jz B td ⟨by omega,by omega⟩)
  change tSeq _ _ _ _ _
  refine aR (λσ' H6=>∃l6,az H5 H6/\H5 l6=none/\Rep H6 (.lst ((bY S).map bC)) (.ref l6)/\σ'=[some (.ref a),some (.ref l),some (.ref wl),some (.ref gn),some (.ref bk),z,some (.ref l6)]) ?_ (λN hN=>?_)
  case refine_2=>
   simp_all only[qd]
   symm
   obtain⟨dx,m,hx,hm⟩:=id Ii
   nofun
   exact⟨_,_,hx,Ko,bk,S,rfl,Ii,W0,sz.bb.mono (by omega),by omega,λl6 H6 s6 n6 r6=>hN _ _ ⟨l6,s6,n6,r6,rfl⟩⟩
  intro _ H6 bH
  symm
  obtain⟨l6,s6,n6,r6,rfl⟩:=bH
  have lss:(bY S).length=b.length:=by unfold bY;rw[aac];exact wl'
  have Mj:=nA sz
  obtain⟨_,us,e,D3,ru⟩:=aT.mp r6
  nofun
  clear G_
  cases e
  have lu:=ru.length
  rw[aac] at lu
  have Ku:=s1.trans (s5.trans s6)
  simp_all only[]
  refine⟨⟨_,bo.of (Ku _ _ ha)⟩,⟨_,bo.of D3⟩,?_⟩
  have Kq:∀{i:Nat},i<b.length->(bY S)[i]?=some (Wq.b8 (bY S) (i:Int)):=λ{i} hi=>by
   unfold Wq.b8
   rw[aak,aae,aad (by omega)]
   rfl
  refine eJ (K:=K) (jJ (λH' s'=>bo.of (s' _ _ (Ku _ _ ha))) (λH' s'=>bo.of (s' _ _ D3))) (λi u v _=>∃q x,b[i]?=some q/\Rep H (jf q) u/\v=.ref x/\H6 x=some (.tup (Pr (Wq.b8 (bY S) (i:Int)).1 (Wq.b8 (bY S) (i:Int)).2))) ?_ (by omega) (λi y H'=>∀q,b[i]?=some q->y=fC (GP (bY S) i q)) (λ_ _ _ _ _ h=>h) ?_ ?_
  ·intro i v H7 H8 hi s7 dI
   symm
   obtain⟨t,x,y,nt,rfl,ex,ey,rfl⟩:=dI
   obtain⟨q,eq,rq⟩:=dN Ie ex
   have sN:=(List.getElem?_eq_some_iff.mp eq).1
   obtain⟨px,Kv,hpx⟩:=cJ ru (Kq sN)
   nofun
   rw[ey] at Kv
   cases Kv
   exact⟨ax nt,t,_,_,rfl,dZ.of ar,q,px,eq,rq,rfl,hpx⟩
  ·intro i u v H7 Q2 hi s7 dJ kq
   symm
   obtain⟨q,x,eq,rq,rfl,hx⟩:=dJ
   nofun
   have sN:=(List.getElem?_eq_some_iff.mp eq).1
   simp_all only[]
   refine⟨u,x,l6,q,b.length,i,bY S,rfl,rq.mono (Ku.trans s7),B.ok _ (aag eq),lss,sN,s7 _ _ hx,r6.mono s7,λbr to e=>?_,λH8 s8=>kq _ _ s8 λq' e'=>?_⟩
   ·subst e
    symm
    obtain⟨⟨t,mt,et⟩,_⟩:=bq i sN _ eq
    nofun
    have rg:=B.gP.good.lP _ (aag eq) t mt
    refine⟨t,mt,Dg.kL (Mj _ (aag (Kq sN))).1 (Mj _ ?_).1 (by rw[lv _ (by omega) (by omega),lv t rg.1 rg.2];exact et)⟩
    have:=Kq (i:=t.toNat) (by omega)
    rw[abj rg.1] at this
    exact aag this
   ·rw[eq] at e'
    cases e'
    rfl
  ·intro ys H7 s7 ly hy D n1 n2
   have eys:ys=((List.range b.length).map λi=>GP (bY S) i (b.getD i (.fin (0,1)))).map fC:=by
    apply aaQ
    intro i
    by_cases hi:i<b.length
    ·have ey:ys[i]?=some ys[i]:=aad (by omega)
     rw[ey,hy i _ ey _ (aad hi),aaf,aaf,aaR hi]
     simp [aae,aad hi]
    ·rw[aar (by omega),aar (by rw[aac,aac,aay];omega)]
   have sD:=ax (o:=.lst ys) n2
   have hD:upd H7 D (.lst ys) D=some (.lst ys):=ar
   generalize upd H7 D (.lst ys)=H8 at *
   refine⟨by decide,λt H9 s9 n9 h9=>kk t l6 D S _ H9 (Ku.trans (s7.trans (sD.trans s9))) h9 (none_of (s1.trans s5) n6) (none_of (Ku.trans s7) n2) (r6.mono (s7.trans (sD.trans s9))) (by rw[s9 _ _ hD,eys]) sz I.dv bq (λp q e=>?_) (by rw[aac,aay])⟩
   have hp:=(List.getElem?_eq_some_iff.mp e).1
   rw[aaf,aaR hp]
   simp [aae,e]
theorem jY:aQ ["_law_script","_law_k","_law_number"] ["_law_script","_law_k"] (af (top 47)):=⟨rfl,rfl,rfl,by ac_rfl,rfl,by ac_rfl,by ac_rfl⟩
theorem yg (T:Txt K mg aA tc):bU P w K mg base (bN P w) 1 "_law_cell" ["_law_script","_law_k"] (GF K):=by
 refine T.uv.d3 (λ_ _ _ _ _ _=>d6 λ_ _=>rfl) λf fd F=>F.d5 jY (λvs H Q E h=>?_) (λcG A outer s H vs Q E hr h=>?_)
 ·obtain⟨_,_,_,rfl,_⟩:=h;rfl
 ·symm
  obtain⟨a,ns,k,rfl,hS,k0,k1,kk⟩:=h
  nofun
  have nd:=jY.nd
  refine⟨_,(ae (bF (aO nP (pv 1) (aP (je (K:=K)) (by rfl) T.z_len aat (aa (pv 0) ag (se rfl)) (he:=se rfl) (hpl:=na rfl)) (aS _)) (au (aN (aD (qv (K:=K)) (pv 0) (pv 1) (λ_ _=>rfl))))
   ba)
  (ae (aF (i:=2) nd rfl (Or.inl rfl) (aI bA (aI aY (pv 1) ao) ao))
  (ae (bF (aO jD (aP (je (K:=K)) (by rfl) T.z_len aat (aa (pv 0) ag (se rfl)) (he:=se rfl) (hpl:=na rfl)) ao (aS _)) (au (aF (i:=2) nd rfl (Or.inl rfl) (aI bA (aI aY (aI c7 (aD (qv (K:=K)) (pv 0) (aI c7 (aI aY (pv 1) ao) (aP (je (K:=K)) (by rfl) T.z_len aat (aa (pv 0) ag (se rfl)) (he:=se rfl) (hpl:=na rfl))) (λ_ _=>rfl)) ao) ao) (aI aY (aI aY (pv 1) (pv 1)) ao))))
   ba)
  (au (aN (aI c7 (aI aY (pv 2) (pv 2)) ao)))))),?_⟩
  refine(?_:let cy:TS:=_;let cz:TS:=_;let cA:TS:=_;let du:TS:=_;tSeq cy (tSeq cz (tSeq cA du)) _ _ _)
  intro cy cz cA du
  simp_all only[FG]
  have j2:k*k<=1000000:=Int.le_trans (Int.mul_le_mul (show k<=1000 by omega) (show k<=1000 by omega) k0 (by decide)) (by decide)
  have j3:0<=k*k:=Int.mul_nonneg k0 k0
  refine⟨ns,hS,hZ (λc=>⟨ns,hS,k0,c,kk _⟩) (λc=>⟨cW (by omega) (by omega),ns,hS,hZ (λz=>?_) (λz=>?_)⟩)⟩
  ·have m1:=aa9 (ns.getD (k*5 % (ns.length:Int)).toNat 0) (show(2147483647:Int)≠0 by decide)
   have m2:=abk (ns.getD (k*5 % (ns.length:Int)).toNat 0) (show(0:Int)<2147483647 by decide)
   exact⟨cW (by omega) (by omega),ns,hS,z,ns,hS,aa9 _ (by omega),abk _ z,by decide,nY,cW (by omega) (by omega),cW (by omega) (by omega),cW (by omega) (by omega),by decide,kk _⟩
  ·exact⟨cW (by omega) (by omega),by decide,kk _⟩
theorem i4:aQ ["_law_cell_here","_law_many"] ["_law_cell_here","_law_many"] (af (top 48)):=⟨rfl,rfl,rfl,by ac_rfl,rfl,by ac_rfl,by ac_rfl⟩
theorem sV (T:Txt K mg aA tc):bU P w K mg base (bN P w) 1 "_law_mixed" ["_law_cell_here","_law_many"] gQ:=by
 refine T.rP.d3 (λ_ _ _ _ _ _=>d6 λ_ _=>rfl) λf fd F=>F.d5 i4 (λvs H Q E h=>?_) (λcG A outer s H vs Q E hr h=>?_)
 ·obtain⟨_,_,rfl,_⟩:=h;rfl
 ·symm
  obtain⟨c,m,rfl,m0,kk⟩:=h
  nofun
  have nd:=i4.nd
  refine⟨_,(au (aN (aI c7 (aI dS (aI c7 (aI aY (aI c7 (pv 0) (aI jb ao ao)) ao) (aI jb ao ao)) (aI jb ao ao)) (pv 1)))),?_⟩
  simp_all only[]
  have h1:=aa9 c (show((2:Int)^64)≠0 by decide)
  have h2:=abk c (show(0:Int)<2^64 by decide)
  exact⟨by decide,by decide,by decide,by decide,cW (by omega) (by omega),by decide,by decide,by decide,by decide,by decide,by decide,by decide,fJ.lit,m0,kk _ (aa9 _ (by omega)) (abk _ m0)⟩
theorem lN:aQ ["_law_top","_law_bottom","_law_one","_law_other"] ["_law_top","_law_bottom"] (af (top 49)):=⟨rfl,rfl,rfl,by ac_rfl,rfl,by ac_rfl,by ac_rfl⟩
theorem pA (T:Txt K mg aA tc):bU P w K mg base (bN P w) 1 "_law_low" ["_law_top","_law_bottom"] il:=by
 refine T.v8.d3 (λ_ _ _ _ _ _=>d6 λ_ _=>rfl) λf fd F=>F.d5 lN (λvs H Q E h=>?_) (λcG A outer s H vs Q E hr h=>?_)
 ·obtain⟨_,_,rfl,_⟩:=h;rfl
 ·symm
  obtain⟨a,b,rfl,b0,bb,k⟩:=h
  nofun
  have nd:=lN.nd
  refine⟨_,(ae (aF (i:=2) nd rfl (Or.inl rfl) (aP nR (by rfl) T.z_abs rfl (aa (pv 0) ag (se rfl)) (he:=se rfl) (hpl:=na rfl)))
  (ae (aF (i:=3) nd rfl (Or.inl rfl) (pv 1))
  (ae (hJ PassesOwn.never (aO jD (pv 3) ao (aS _)) (au (Fi (i:=2) (j:=3) rfl nd rfl rfl (by decide) rfl rfl (aa (pv 3) (aa (aI c7 (pv 2) (pv 3)) ag (se rfl)) (se rfl)) rfl)))
  (au (aN (bL (aa (aI dS (pv 0) (pv 2)) (aa (aI dS (pv 1) (pv 2)) ag (se rfl)) (se rfl)))))))),?_⟩
  refine(?_:let cy:TS:=_;let cz:TS:=_;let cA:TS:=_;let du:TS:=_;tSeq cy (tSeq cz (tSeq cA du)) _ _ _)
  intro cy cz cA du
  simp_all only[]
  refine tM (λσ H1=>H1=H/\∃x y:Int,σ=[some (.int a),some (.int b),some (.int x),some (.int y)]/\0<=x/\0<=y/\Nm.g x y=Nm.g a b) (λσ _=>match σ with | [_,_,_,some (.int y)]=>y.toNat | _=>0) ?_ ?_ ?_
  ·refine⟨rfl,_,_,rfl,?_,by omega,?_⟩
   ·split <;>omega
   ·rw[show(if a<0 then -a else a)=(a.natAbs:Int) by split <;>omega,Nm.Af]
  ·intro σ H1 bH
   symm
   obtain⟨rfl,x,y,rfl,x0,y0,e⟩:=bH
   nofun
   simp_all only[]
   refine hZ (λc=>?_) (λc=>?_)
   ·refine⟨c,y0,aa9 _ (by omega),by rw[Nm.Ag x0 c,e],?_⟩
    have:=abk x c
    have:=aa9 x (show y≠0 by omega)
    omega
   ·have z:y=0:=by omega
    subst z
    rw[Nm.Ah x0] at e
    rw[e]
    have g0:0<Nm.g a b:=Nm.lA (by omega)
    have gb:Bt 8900 (Nm.g a b):=bb.le (by have:=Nm.FI (a:=a) b0;omega)
    obtain⟨e1,e2⟩:=Nm.og (a:=a) b0
    rw[e1,e2] at k
    exact⟨fJ.of g0 gb,fJ.of g0 gb,by decide,λp H2 s1 n1 e=>k p H2 s1 n1 e⟩
  ·intro σ H1 Q1 Q2 hq hc
   simp only[L2.start,Pr,tRev,tD1,tDPop1,tSl,tNoPart,tPart,rSlL,tDIn,tDNotIn,gSub,rSetL,tLst,tDNewK,tComp,L2.stC,tFor_eq,iList,iTup,iRng1,iRng2,iZip,iEnum,iDict,iStr,tChain,tSumV,tBM,tRaise,tDGet,tDGet2,tDGet1,sDPut,Option.join_some,List.getElem?_nil,tSeq,tRet,tRetN,tIfS,tTest,tB,tOp,tUn,tVar,tC,tCB,tCons,tNil,tCall,tTupS,tAsg,gName,gNil,gCons,tPar,tNext,tDrop,tAnd,tOr,tNot,tAndV,tOrV,tNotV,tIf,rI,rI0,rU,rIxTH,rIxLH,rEqT,rNeT,rInT,rEq,rNe,scal_ss,scal_ii,scal_bb,scal_si,scal_is,CPow,at0,at1,at2,aaz,aa2,aaq,abb,Nat.reduceSub,Nat.reduceAdd,aaV,abw,List.reduceReplicate,aaY,List.nil_append,abo,abp,abi,abf,abg,abq,exists_eq_left',exists_eq_left,V.ref.injEq,V.int.injEq,V.bl.injEq,V.str.injEq,V.ty.injEq,HO.tup.injEq,HO.lst.injEq,List.cons.injEq,and_true,true_and,and_assoc,exists_and_left,decide_eq_true_eq,Bool.not_eq_true',decide_eq_false_iff_not,ite_true,ite_false,if_true,if_false,Int.reduceToNat,eq_self_iff_true] at hc ⊢
   symm
   obtain⟨v,e1,i,e2,q⟩:=hc
   nofun
   exact⟨v,e1,i,e2,hq _ _ q⟩
theorem jZ:aQ ["_law_one","_law_other"] ["_law_one","_law_other"] (af (top 50)):=⟨rfl,rfl,rfl,by ac_rfl,rfl,by ac_rfl,by ac_rfl⟩
theorem Hn (T:Txt K mg aA tc):bU P w K mg base (bN P w) 2 "_law_plus" ["_law_one","_law_other"] BI:=by
 have cP:bU P w K mg base (bN P w) 1 "_law_low" ["_law_top","_law_bottom"] il:=pA T
 refine T.uw.d3 (λ_ _ _ _ _ _=>d6 λ_ _=>rfl) λf fd F=>F.d5 jZ (λvs H Q E h=>?_) (λcG A outer s H vs Q E hr h=>?_)
 ·obtain⟨_,_,_,_,rfl,_⟩:=h;rfl
 ·symm
  obtain⟨p,q,a,b,rfl,hp,hq,ga,gb,k⟩:=h
  nofun
  have nd:=jZ.nd
  refine⟨_,(au (aN (aK cP (hr.mono (by decide)) rfl aB.pass (aa (aI bA (aI aY (aD aH (pv 0) ao (λ_ _=>rfl)) (aD aH (pv 1) ao (λ_ _=>rfl))) (aI aY (aD aH (pv 1) ao (λ_ _=>rfl)) (aD aH (pv 0) ao (λ_ _=>rfl)))) (aa (aI aY (aD aH (pv 0) ao (λ_ _=>rfl)) (aD aH (pv 1) ao (λ_ _=>rfl))) ag (se rfl)) (se rfl)) (he:=se rfl) (hpl:=na rfl)))),?_⟩
  simp only[Pr] at hp hq
  simp_all only[il,hp,hq]
  refine⟨ga.1.dM gb.2.1,gb.1.dM ga.2.1,ga.2.1.dM gb.2.1,?_⟩
  exact⟨aaE ga.2.2 gb.2.2,(ga.2.1.mul gb.2.1).mono (by decide),λr H' s' n' e=>k r H' s' n' e⟩
theorem i5:aQ ["_law_one","_law_other"] ["_law_one","_law_other"] (af (top 51)):=⟨rfl,rfl,rfl,by ac_rfl,rfl,by ac_rfl,by ac_rfl⟩
theorem Ho (T:Txt K mg aA tc):bU P w K mg base (bN P w) 2 "_law_times" ["_law_one","_law_other"] BJ:=by
 have cP:bU P w K mg base (bN P w) 1 "_law_low" ["_law_top","_law_bottom"] il:=pA T
 refine T.rQ.d3 (λ_ _ _ _ _ _=>d6 λ_ _=>rfl) λf fd F=>F.d5 i5 (λvs H Q E h=>?_) (λcG A outer s H vs Q E hr h=>?_)
 ·obtain⟨_,_,_,_,rfl,_⟩:=h;rfl
 ·symm
  obtain⟨p,q,a,b,rfl,hp,hq,ga,gb,k⟩:=h
  nofun
  have nd:=i5.nd
  refine⟨_,(au (aN (aK cP (hr.mono (by decide)) rfl aB.pass (aa (aI aY (aD aH (pv 0) ao (λ_ _=>rfl)) (aD aH (pv 1) ao (λ_ _=>rfl))) (aa (aI aY (aD aH (pv 0) ao (λ_ _=>rfl)) (aD aH (pv 1) ao (λ_ _=>rfl))) ag (se rfl)) (se rfl)) (he:=se rfl) (hpl:=na rfl)))),?_⟩
  simp only[Pr] at hp hq
  simp_all only[il,hp,hq]
  refine⟨ga.1.dM gb.1,ga.2.1.dM gb.2.1,?_⟩
  exact⟨aaE ga.2.2 gb.2.2,(ga.2.1.mul gb.2.1).mono (by decide),λr H' s' n' e=>k r H' s' n' e⟩
theorem fZ:aQ ["_law_found","_law_number"] ["_law_found"] (af (top 60)):=⟨rfl,rfl,rfl,by ac_rfl,rfl,by ac_rfl,by ac_rfl⟩
theorem Kw (T:Txt K mg aA tc):bU P w K mg base (bN P w) 2 "_law_is_share" ["_law_found"] GG:=by
 have cP:bU P w K mg base (bN P w) 1 "_law_low" ["_law_top","_law_bottom"] il:=pA T
 refine T.mC.d3 (λ_ _ _ _ _ _=>iR λ_=>rfl) λf fd F=>F.d5 fZ (λvs H Q E h=>?_) (λcG A outer s H vs Q E hr h=>?_)
 ·obtain⟨_,_,_,rfl,_⟩:=h;rfl
 ·symm
  obtain⟨p,x,y,rfl,hp,y0,Mo,g1,k⟩:=h
  nofun
  have nd:=fZ.nd
  refine⟨_,(ae (bF (PW.pt (pw_or (gh (di (aP (dk (K:=K)) (by rfl) T.z_isinstance rfl (aa (pv 0) (aa (fh (v:=V.ty "tuple") rfl T.z_tuple rfl rfl) ag (se rfl)) (se rfl)) (he:=se rfl) (hpl:=na rfl)))) (pw_or1 (aO iU (aP qr (by rfl) T.z_len aat (aa (pv 0) ag (se rfl)) (he:=se rfl) (hpl:=na rfl)) ao (aS _))))) (au (aN gL))
   ba)
  (ae (cu PassesOwn.never rfl (De (K:=K) (pv 0)) (aG (i:=1) nd rfl (Or.inl rfl)) (au (bF (PW.pt (pw_or (gh (di (aP (dk (K:=K)) (by rfl) T.z_isinstance rfl (aa (pv 1) (aa (fh (v:=V.ty "int") rfl T.z_int rfl rfl) ag (se rfl)) (se rfl)) (he:=se rfl) (hpl:=na rfl)))) (pw_or1 (di (aP (dk (K:=K)) (by rfl) T.z_isinstance rfl (aa (pv 1) (aa (fh (v:=V.ty "bool") rfl T.z_bool rfl rfl) ag (se rfl)) (se rfl)) (he:=se rfl) (hpl:=na rfl)))))) (au (aN gL))
   ba)))
  (au (aN (zy (iD jD (aD aH (pv 0) ao (λ_ _=>rfl)) ao (aS _)) (zw (iD (qt hr.vG) (aK cP (hr.mono (by decide)) rfl aB.pass (aa (aD aH (pv 0) ao (λ_ _=>rfl)) (aa (aD aH (pv 0) ao (λ_ _=>rfl)) ag (se rfl)) (se rfl)) (he:=se rfl) (hpl:=na rfl)) (pv 0) (aS _)))))))),?_⟩
  refine(?_:let cy:TS:=_;let cz:TS:=_;let cA:TS:=_;tSeq cy (tSeq cz cA) _ _ _)
  intro cy cz cA
  simp only[Pr] at hp
  simp_all only[hp]
  refine⟨_,fc.tup hp,_,Ab,?_⟩
  rw[if_neg (by decide)]
  refine⟨⟨_,dZ.of hp⟩,CH (K:=K) (a:=p) (xs:=[V.int x,V.int y]) (λi σ H2=>H2=H/\∃v,σ=[some (.ref p),v]) ⟨rfl,_,rfl⟩ (λi σ H2 _ ⟨e,_⟩=>by rw[e];exact dZ.of hp) ?_ ?_⟩
  ·intro i z σ H2 hi p5_
   symm
   obtain⟨rfl,v,rfl⟩:=p5_
   obtain⟨j,rfl⟩:∃j,z=V.int j:=by
    match i,hi with
    | 0,hi=>exact⟨x,by simpa using hi.symm⟩
    | 1,hi=>exact⟨y,by simpa using hi.symm⟩
   nofun
   simp_all only[]
   refine⟨_,fc.int j,_,Aa,?_⟩
   rw[if_neg (by decide)]
   refine⟨_,fc.int j,_,Ad,?_⟩
   rw[if_neg (by decide)]
   exact⟨_,rfl⟩
  ·intro σ H2 bH
   symm
   obtain⟨rfl,v,rfl⟩:=bH
   nofun
   simp_all only[hp,il]
   have e1:Nm.st x y=x:=by rw[(Nm.og y0).1,g1,Int.ediv_one]
   have e2:Nm.sb x y=y:=by rw[(Nm.og y0).2,g1,Int.ediv_one]
   rw[e1,e2,if_pos y0]
   exact⟨y0,Mo.mono (by decide),λp1 H3 s3 n3 h3=>⟨_,h3,_,s3 _ _ hp,rfl,rfl,by rw[nZ];exact k _ s3⟩⟩
theorem eZ:aQ ["_law_found","_law_many"] ["_law_found","_law_many"] (af (top 61)):=⟨rfl,rfl,rfl,by ac_rfl,rfl,by ac_rfl,by ac_rfl⟩
theorem Hq (T:Txt K mg aA tc):bU P w K mg base (bN P w) 3 "_law_are_shares" ["_law_found","_law_many"] BL:=by
 have mL:bU P w K mg base (bN P w) 2 "_law_is_share" ["_law_found"] GG:=Kw T
 refine T.jL.d3 (λ_ _ _ _ _ _=>d6 λ_ _=>rfl) λf fd F=>F.d5 eZ (λvs H Q E h=>?_) (λcG A outer s H vs Q E hr h=>?_)
 ·obtain⟨_,_,rfl,_⟩:=h;rfl
 ·symm
  obtain⟨a,ws,rfl,ra,lw,gw,kk⟩:=h
  nofun
  have nd:=eZ.nd
  refine⟨_,(ae (bF (PW.pt (pw_or (gh (di (aP (dk (K:=K)) (by rfl) T.z_isinstance rfl (aa (pv 0) (aa (fh (v:=V.ty "list") rfl T.z_list rfl rfl) ag (se rfl)) (se rfl)) (he:=se rfl) (hpl:=na rfl)))) (pw_or1 (aO iU (aP bB (by rfl) T.z_len aat (aa (pv 0) ag (se rfl)) (he:=se rfl) (hpl:=na rfl)) (pv 1) (aS _))))) (au (aN gL))
   ba)
  (au (aN (aP (lB (K:=K)) (by rfl) T.z_all rfl (aa (bO rfl (N:=["_law_found","_law_many"]) (so:=af (top 61)) (N':=["_law_one"]) (k:=1) (fr:=[]) rfl rfl ⟨rfl,by ac_rfl,by ac_rfl,by ac_rfl,rfl,by ac_rfl,by ac_rfl⟩ (bj (K:=K) (pv 0)) (λ_ _ _ _ _=>(aG (i:=0) (show(["_law_one"]:List Str).Nodup by ac_rfl) rfl (Or.inl rfl))) (λ_ _ _ _ _=>bJ)
   (λ_ _ _ _ _=>(aK mL (hr.mono (by decide)) rfl aB.pass (aa (pv 0) ag (se rfl)) (he:=se rfl) (hpl:=na rfl)))) ag (se rfl)) (he:=se rfl) (hpl:=na rfl))))),?_⟩
  symm
  obtain⟨_,xs,e,ha,rl⟩:=aT.mp ra
  nofun
  cases e
  have lx:=rl.length
  rw[aac] at lx
  simp_all only[]
  refine⟨_,fc.lst ha,_,Ac,?_⟩
  rw[if_neg (by decide)]
  refine⟨_,ha,?_⟩
  rw[if_neg (by omega)]
  refine⟨⟨_,bo.of ha⟩,?_⟩
  refine comp_map (src_list (Ok:=az H) (λH' s'=>bo.of (s' _ _ ha))) (λ_ _ _ _ h=>by rw[h.1];exact az.refl _) (by rw[sizeLine_eq];omega) (λi y H4=>y=.bl true) (λi y H4 H5 s5 h=>h) ?_ ?_
  ·rintro i x w0 H4 H5 Q2 hi s4 ⟨rfl,ex⟩ kq
   symm
   obtain⟨d,ed,rd⟩:=rl.get ex
   rw[aaf] at ed
   obtain⟨w1,ew,rfl⟩:=Option.map_eq_some_iff.mp ed
   obtain⟨p,rfl,hp⟩:=cn.mp rd
   obtain⟨g1,g2,g3⟩:=gw w1 (aag ew)
   nofun
   simp_all only[GG]
   exact⟨_,_,s4 _ _ hp,g1,g2,g3,λH6 s6=>kq _ _ s6 rfl⟩
  ·intro ys H4 s4 ly hy D n1 n2
   have ey:ys=List.map V.bl (List.replicate ys.length true):=by
    rw[List.map_replicate]
    exact List.eq_replicate_iff.mpr ⟨rfl,λb hb=>by
     obtain⟨i,ei⟩:=aax hb
     exact hy i b ei⟩
   refine⟨List.replicate ys.length true,bo.of (by rw[<-ey];exact ar),?_⟩
   rw[show(List.replicate ys.length true).all id=true by simp]
   exact kk _ (s4.trans (ax n2))
theorem i7:aQ ["_law_cell_here","_law_k","_law_way","_law_top","_law_bottom"] ["_law_cell_here","_law_k"] (af (top 52)):=⟨rfl,rfl,rfl,by ac_rfl,rfl,by ac_rfl,by ac_rfl⟩
theorem Hr (T:Txt K mg aA tc):bU P w K mg base (bN P w) 2 "_law_share" ["_law_cell_here","_law_k"] BN:=by
 have cP:bU P w K mg base (bN P w) 1 "_law_low" ["_law_top","_law_bottom"] il:=pA T
 have bf:bU P w K mg base (bN P w) 1 "_law_mixed" ["_law_cell_here","_law_many"] gQ:=sV T
 refine T.rR.d3 (λ_ _ _ _ _ _=>d6 λ_ _=>rfl) λf fd F=>F.d5 i7 (λvs H Q E h=>?_) (λcG A outer s H vs Q E hr h=>?_)
 ·obtain⟨_,_,rfl,_⟩:=h;rfl
 ·symm
  obtain⟨c,k,rfl,k0,k1,kk⟩:=h
  nofun
  have nd:=i7.nd
  refine⟨_,(ae (aF (i:=2) nd rfl (Or.inl rfl) (aK bf (hr.mono (by decide)) rfl aB.pass (aa (aI bA (pv 0) (aI aY ao (pv 1))) (aa ao ag (se rfl)) (se rfl)) (he:=se rfl) (hpl:=na rfl)))
  (ae (aF (i:=3) nd rfl (Or.inl rfl) (aI nO (aK bf (hr.mono (by decide)) rfl aB.pass (aa (aI bA (aI bA (pv 0) (aI aY ao (pv 1))) ao) (aa ao ag (se rfl)) (se rfl)) (he:=se rfl) (hpl:=na rfl)) ao))
  (ae (aF (i:=4) nd rfl (Or.inl rfl) ao)
  (ae (bF (aO nP (pv 2) ao (aS _)) (au (aF (i:=4) nd rfl (Or.inl rfl) (aI bA ao (aK bf (hr.mono (by decide)) rfl aB.pass (aa (aI bA (aI bA (pv 0) (aI aY ao (pv 1))) ao) (aa ao ag (se rfl)) (se rfl)) (he:=se rfl) (hpl:=na rfl)))))
   ba)
  (ae (bF (aO cL (pv 2) ao (aS _)) (ae (aF (i:=3) nd rfl (Or.inl rfl) (aI nO (aI c7 (aI aY (aI bA (pv 0) ao) (aI bA (aI aY (pv 1) (pv 1)) ao)) (aI nO (aI aY ao (aI jb ao ao)) ao)) (aI nO (aI jb ao ao) ao)))
  (au (aF (i:=4) nd rfl (Or.inl rfl) (aI bA ao (aI c7 (aI aY (aI bA (pv 0) ao) (aI bA (aI aY (pv 1) (pv 1)) ao)) (aI jb ao ao))))))
   ba)
  (au (aN (aK cP (hr.mono (by decide)) rfl aB.pass (aa (pv 3) (aa (pv 4) ag (se rfl)) (se rfl)) (he:=se rfl) (hpl:=na rfl))))))))),?_⟩
  refine(?_:let cy:TS:=_;let cz:TS:=_;let cA:TS:=_;let du:TS:=_;let iy:TS:=_;let yd:TS:=_;tSeq cy (tSeq cz (tSeq cA (tSeq du (tSeq iy yd)))) _ _ _)
  intro cy cz cA du iy yd
  have j2:k*k<=1000000:=Int.le_trans (Int.mul_le_mul (show k<=1000 by omega) (show k<=1000 by omega) k0 (by decide)) (by decide)
  have j3:0<=k*k:=Int.mul_nonneg k0 k0
  have fin:∀x y:Int,Bt 40 x->Bt 20 y->0<y->0<y/\Bt 8900 y/\∀p H',az H H'->H p=none->H' p=some (.tup [V.int (Nm.st x y),V.int (Nm.sb x y)])->Q (.ref p) H':=λx y bx Mo y0=>
   ⟨y0,Mo.mono (by decide),λp H' s' n' e=>kk p H' (Nm.st x y,Nm.sb x y) s' n' e ⟨bx.le (Nm.FJ (by omega)),Mo.le (Nm.FK (by omega)),Nm.Aj (by omega),Nm.Ak (by omega)⟩⟩
  have CT:∀c1 c2:Int,Bt 40 (c1 % (2*10^12 - 1) - (10^12 - 1))/\Bt 20 (1+c2 % 10^6)/\0<1+c2 % 10^6:=λc1 c2=>by
   have h1:=aa9 c1 (show(2*10^12 - 1:Int)≠0 by decide)
   have h2:=abk c1 (show(0:Int)<2*10^12 - 1 by decide)
   have h3:=aa9 c2 (show(10^6:Int)≠0 by decide)
   have h4:=abk c2 (show(0:Int)<10^6 by decide)
   exact⟨Bt.of (10^12) (by omega) (by omega),Bt.of (10^6) (by omega) (by omega),by omega⟩
  simp_all only[il,gQ]
  have bs:∀{t r:Int},0<=t->t<19->0<=r->r<12->Bt 40 (t - 9)/\Bt 20 (1+r):=λa b c d=>⟨Bt.of 60 (by omega) (by omega),Bt.of 60 (by omega) (by omega)⟩
  refine⟨cW,by decide,λwy w0 w1=>⟨cW,by decide,λt t0 t1=>hZ (λc1=>⟨cW,by decide,λr r0 r1=>hZ (λc2=>?_) (λc2=>?_)⟩) (λc1=>hZ (λc2=>?_) (λc2=>?_))⟩⟩
  ·exfalso
   omega
  ·exact fin (t - 9) (1+r) (bs t0 t1 r0 r1).1 (bs t0 t1 r0 r1).2 (by omega)
  ·have bg:=CT ((c+1)* (k*k+71)) ((c+3)* (k*k+5))
   exact⟨cW (by omega) (by omega),nY (by omega) (by omega),by decide,by decide,by decide,cW,by decide,by decide,by decide,by decide,cW (by omega) (by omega),nY (by omega) (by omega),by decide,by decide,by decide,by decide,fin _ _ bg.1 bg.2.1 bg.2.2⟩
  ·exact fin (t - 9) 1 (bs t0 t1 (Int.le_refl 0) (by decide)).1 (Bt.of 60 (by omega) (by omega)) (by decide)
theorem iC:aQ ["_law_cell_here","_law_n","_law_first","_law_keyed"] ["_law_cell_here","_law_n"] (af (top 53)):=⟨rfl,rfl,rfl,by ac_rfl,rfl,by ac_rfl,by ac_rfl⟩
theorem Hs (T:Txt K mg aA tc):bU P w K mg base (bN P w) 2 "_law_turned" ["_law_cell_here","_law_n"] BK:=by
 have bf:bU P w K mg base (bN P w) 1 "_law_mixed" ["_law_cell_here","_law_many"] gQ:=sV T
 refine T.pR.d3 (λ_ _ _ _ _ _=>d6 λ_ _=>rfl) λf fd F=>F.d5 iC (λvs H Q E h=>?_) (λcG A outer s H vs Q E hr h=>?_)
 ·obtain⟨_,_,rfl,_⟩:=h;rfl
 ·symm
  obtain⟨c,n,rfl,n0,n1,kk⟩:=h
  nofun
  clear G_
  have nd:=iC.nd
  refine⟨_,(ae (aF (i:=2) nd rfl (Or.inr rfl) (aI c7 (pv 0) ao))
  (ae (aF (i:=3) nd rfl (Or.inl rfl) (aP (oE (K:=K)) (by rfl) T.z_sorted rfl (aa (bO rfl (N:=["_law_cell_here","_law_n","_law_first","_law_keyed"]) (so:=af (top 53)) (N':=["_law_k","_law_first"]) (k:=1) (fr:=[2]) rfl rfl ⟨rfl,by ac_rfl,by ac_rfl,by ac_rfl,rfl,by ac_rfl,by ac_rfl⟩ (c6 rfl T.z_range (aa (pv 1) ag (se rfl))) (λ_ _ _ _ _=>(aG (i:=0) (show(["_law_k","_law_first"]:List Str).Nodup by ac_rfl) rfl (Or.inl rfl))) (λ_ _ _ _ _=>bJ)
   (λ_ _ _ _ _=>(bL (aa (aK bf (hr.mono (by decide)) rfl aB.pass (aa (aI bA (aI aY (pv 1) (aI bA (aI aY (pv 0) (pv 0)) ao)) (pv 0)) (aa (aI jb ao ao) ag (se rfl)) (se rfl)) (he:=se rfl) (hpl:=na rfl)) (aa (pv 0) ag (se rfl)) (se rfl))))) ag (se rfl)) (he:=se rfl) (hpl:=na rfl)))
  (au (aN (bO rfl (N:=["_law_cell_here","_law_n","_law_first","_law_keyed"]) (so:=af (top 53)) (N':=["_law_pair"]) (k:=1) (fr:=[]) rfl rfl ⟨rfl,by ac_rfl,by ac_rfl,by ac_rfl,rfl,by ac_rfl,by ac_rfl⟩ (bj (K:=K) (pv 3)) (λ_ _ _ _ _=>(aG (i:=0) (show(["_law_pair"]:List Str).Nodup by ac_rfl) rfl (Or.inl rfl))) (λ_ _ _ _ _=>bJ)
   (λ_ _ _ _ _=>(aD aH (pv 0) ao (λ_ _=>rfl)))))))),?_⟩
  refine(?_:let cy:TS:=_;let cz:TS:=_;let cA:TS:=_;tSeq cy (tSeq cz cA) _ _ _)
  intro cy cz cA
  simp_all only[]
  obtain⟨N,rfl⟩:=aav (Int.le_of_lt n0)
  rw[aak] at kk
  refine⟨by decide,by omega,by omega,?_⟩
  refine comp_map src_range (λ_ _ _ _ h=>by rw[h.1];exact az.refl _) (by rw[sizeLine_eq];omega) (λi y H4=>∃tt a,y=.ref tt/\H4 tt=some (.tup [.int a,.int ((i:Nat):Int)])) (λi y H4 H5 s5 ⟨tt,a,e,h⟩=>⟨tt,a,e,s5 _ _ h⟩) ?_ ?_
  ·rintro i x w0 H9 Cu Q2 hi s9 ⟨rfl,rfl⟩ kq
   simp_all only[gQ]
   have ii:(0:Int)+ (i:Int)=(i:Int):=Int.zero_add _
   rw[ii]
   have j0:(0:Int)<=(i:Int):=by omega
   have jq:IntMulOk (i:Int) (i:Int):=cW (by omega) (by omega)
   have j2:(i:Int)* (i:Int)<=40000:=Int.le_trans (Int.mul_le_mul (show(i:Int)<=200 by omega) (show(i:Int)<=200 by omega) j0 (by decide)) (by decide)
   have j3:0<=(i:Int)* (i:Int):=Int.mul_nonneg j0 j0
   exact⟨jq,nY (by omega) (by omega),by decide,by decide,by decide,by decide,λr r0 r1=>⟨by decide,λq5 W7 Ij Ik e11=>kq _ _ Ij ⟨q5,r,rfl,e11⟩⟩⟩
  intro ys H9 s9 ly hy D9 Kx Ik
  have s9':=s9.trans (ax (o:=.lst ys) Ik)
  have hD9:(upd H9 D9 (.lst ys)) D9=some (.lst ys):=ar
  have Ol:∀(i:Nat) y,ys[i]?=some y->∃tt a,y=.ref tt/\(upd H9 D9 (.lst ys)) tt=some (.tup [.int a,.int ((i:Nat):Int)]):=λi y e=>by
   symm
   obtain⟨tt,a,e1,e2⟩:=hy i y e
   nofun
   exact⟨tt,a,e1,ax Ik _ _ e2⟩
  generalize upd H9 D9 (.lst ys)=Cu at *
  have each:∀y∈ys,∃tt a b',y=.ref tt/\Cu tt=some (.tup [.int a,.int b']):=λy hy2=>by
   obtain⟨i,ei⟩:=aax hy2
   symm
   obtain⟨tt,a,e1,e2⟩:=Ol i y ei
   nofun
   exact⟨tt,a,_,e1,e2⟩
  have ly:ys.length=N:=by simpa using ly
  refine⟨ys,bo.of hD9,by omega,each,λl11 zs Mp pz=>?_⟩
  have hg:∃g:V->Nat,g=λv=>match v with | .ref tt=>(match Cu tt with | some (.tup [_,.int i])=>i.toNat | _=>0) | _=>0:=⟨_,rfl⟩
  obtain⟨g,hg⟩:=hg
  have gy:∀(i:Nat) y,ys[i]?=some y->g y=i:=λi y e=>by
   symm
   obtain⟨tt,a,rfl,e2⟩:=Ol i y e
   nofun
   rw[hg]
   simp only[e2,aak]
  have mg:ys.map g=List.range N:=by
   apply aaQ
   intro i
   rw[aaf]
   by_cases hi:i<N
   ·rw[aaR hi,aad (show i<ys.length by omega)]
    show some (g _)=_
    rw[gy i _ (aad (by omega))]
   ·rw[aar (show(List.range N).length<=i by rw[aay];omega),aar (show ys.length<=i by omega)]
    rfl
  have pm:(zs.map g).Perm (List.range N):=by rw[<-mg];exact pz.map g
  have zl:zs.length=N:=by rw[pz.length_eq];omega
  have ez:∀z∈zs,∃tt a,z=.ref tt/\Cu tt=some (.tup [.int a,.int ((g z:Nat):Int)]):=λz hz=>by
   obtain⟨i,ei⟩:=aax (pz.mem_iff.mp hz)
   symm
   obtain⟨tt,a,e1,e2⟩:=Ol i z ei
   nofun
   exact⟨tt,a,e1,by rw[gy i z ei];exact e2⟩
  have Ij:=ax (o:=.lst zs) Mp
  have Mq:(upd Cu l11 (.lst zs)) l11=some (.lst zs):=ar
  generalize upd Cu l11 (.lst zs)=W7 at *
  refine⟨⟨_,bo.of Mq⟩,?_⟩
  refine dm zs (λz=>some ((g z:Nat):Int)) (src_list (K:=K) (λH' s'=>bo.of (s' _ _ Mq))) (λ_ _ _ _ h=>h.1) (by rw[sizeLine_eq];omega) ?_ ?_
  ·rintro i1 z x eg ⟨_,ex⟩ Y N1 y1 n1
   rw[eg] at ex
   cases ex
   symm
   obtain⟨tt,a,rfl,e2⟩:=ez z (aag eg)
   nofun
   simp_all only[gA,Ij _ _ e2]
   exact y1 _ rfl
  intro D12 n13 W8
  rw[dR]
  have e12:List.map V.int (zs.map λz=>((g z:Nat):Int))=List.map fg (zs.map g):=by rw[aaT,aaT];rfl
  rw[e12]
  have W9:=s9'.trans Ij
  exact kk _ _ _ (W9.trans (ax W8)) (none_of W9 W8) ar pm
theorem i8:aQ ["_law_cell_here","_law_k","_law_n","_law_ways_here","_law_j","_law_weight","_law_sure"] ["_law_cell_here","_law_k","_law_n"] (af (top 54)):=⟨rfl,rfl,rfl,by ac_rfl,rfl,by ac_rfl,by ac_rfl⟩
theorem Ht (T:Txt K mg aA tc):bU P w K mg base (bN P w) 2 "_law_throw" ["_law_cell_here","_law_k","_law_n"] BO:=by
 have bf:bU P w K mg base (bN P w) 1 "_law_mixed" ["_law_cell_here","_law_many"] gQ:=sV T
 refine T.rS.d3 (λ_ _ _ _ _ _=>pS λ_ _ _=>rfl) λf fd F=>F.d5 i8 (λvs H Q E h=>?_) (λcG A outer s H vs Q E hr h=>?_)
 ·obtain⟨_,_,_,rfl,_⟩:=h;rfl
 ·symm
  obtain⟨c,k,n,rfl,k0,kn,kk⟩:=h
  nofun
  have nd:=i8.nd
  refine⟨_,(ae (aF (i:=3) nd rfl (Or.inl rfl) (cV ag))
  (ae (cu PassesOwn.never rfl (c6 rfl T.z_range (aa (aK bf (hr.mono (by decide)) rfl aB.pass (aa (aI bA (pv 0) ao) (aa ao ag (se rfl)) (se rfl)) (he:=se rfl) (hpl:=na rfl)) ag (se rfl))) (aG (i:=4) nd rfl (Or.inl rfl)) (ae (aF (i:=5) nd rfl (Or.inl rfl) (aI bA ao (aK bf (hr.mono (by decide)) rfl aB.pass (aa (aI bA (pv 0) (aI aY ao (pv 4))) (aa ao ag (se rfl)) (se rfl)) (he:=se rfl) (hpl:=na rfl))))
  (ae (bF (aO cL (aK bf (hr.mono (by decide)) rfl aB.pass (aa (aI bA (pv 0) ao) (aa ao ag (se rfl)) (se rfl)) (he:=se rfl) (hpl:=na rfl)) ao (aS _)) (au (aF (i:=5) nd rfl (Or.inl rfl) (aI bA ao (aK bf (hr.mono (by decide)) rfl aB.pass (aa (aI bA (pv 0) (aI aY ao (pv 4))) (aa ao ag (se rfl)) (se rfl)) (he:=se rfl) (hpl:=na rfl)))))
   ba)
  (au (c5 (fi aaO aa7 aa8 cM.r (pv 3) (aa (bL (aa (pv 5) (aa (aK bf (hr.mono (by decide)) rfl aB.pass (aa (aI bA (aI bA (pv 0) (aI aY ao (pv 4))) ao) (aa (pv 2) ag (se rfl)) (se rfl)) (he:=se rfl) (hpl:=na rfl)) ag (se rfl)) (se rfl))) ag (se rfl))))))))
  (ae (aF (i:=6) nd rfl (Or.inl rfl) (bL (aa (aI bA ao (aK bf (hr.mono (by decide)) rfl aB.pass (aa (aI bA (pv 0) ao) (aa ao ag (se rfl)) (se rfl)) (he:=se rfl) (hpl:=na rfl))) (aa (aK bf (hr.mono (by decide)) rfl aB.pass (aa (aI bA (pv 0) ao) (aa (pv 1) ag (se rfl)) (se rfl)) (he:=se rfl) (hpl:=na rfl)) ag (se rfl)) (se rfl))))
  (ae (c5 (fi aaO PySem.F.slot_list_insert PySem.F.type_list_insert yO.r (pv 3) (aa (aK bf (hr.mono (by decide)) rfl aB.pass (aa (aI bA (pv 0) ao) (aa (aI bA (aP bB (by rfl) T.z_len aat (aa (pv 3) ag (se rfl)) (he:=se rfl) (hpl:=na rfl)) ao) ag (se rfl)) (se rfl)) (he:=se rfl) (hpl:=na rfl)) (aa (pv 6) ag (se rfl)) (se rfl))))
  (au (aN (pv 3))))))),?_⟩
  refine(?_:let cy:TS:=_;let cz:TS:=_;let cA:TS:=_;let du:TS:=_;let iy:TS:=_;tSeq cy (tSeq cz (tSeq cA (tSeq du iy))) _ _ _)
  intro cy cz cA du iy
  simp_all only[gQ]
  refine⟨aas _,λp np=>⟨by decide,λr r0 r1=>⟨by omega,by omega,?_⟩⟩⟩
  refine bP (src_range (Ok:=λ_=>True)) (λi σ H'=>az H H'/\∃xs z4 z5,H' p=some (.lst xs)/\xs.length=i/\(∀x∈xs,WT H' n x)/\σ=[some (.int c),some (.int k),some (.int n),some (V.ref p),z4,z5,none])
   ⟨ax np,[],_,_,ar,rfl,by simp,rfl⟩ (λ_ _ _ _ _=>trivial) ?_ ?_
  ·intro i x σ H1 H2 hi dI dJ
   symm
   obtain⟨sm,xs,z4,z5,hp,lx,wx,rfl⟩:=dI
   obtain⟨rfl,rfl⟩:=dJ
   nofun
   simp_all only[gQ]
   have sz:xs.length<sizeLine:=by rw[sizeLine_eq];omega
   have fin:∀w t p1 H3,az H2 H3->H2 p1=none->H3 p1=some (.tup [.int w,.int t])->(1<=w/\w<=200000)->0<=t->t<n->az H (upd H3 p (.lst (xs++ [V.ref p1])))/\∃iW,upd H3 p (.lst (xs++ [V.ref p1])) p=some (.lst iW)/\iW.length=i+1/\(∀x∈iW,WT (upd H3 p (.lst (xs++ [V.ref p1]))) n x):=λw t p1 H3 s3 n3 e3 w0 t0 t1=>by
    refine⟨aZ (sm.trans s3) np,_,ar,by simp [lx],λx hx=>?_⟩
    have Xa:=s3 _ _ hp
    rcases List.mem_append.mp hx with hx | hx
    ·exact((wx x hx).mono s3).put Xa
    ·rw[List.mem_singleton.mp hx]
     exact WT.put Xa ⟨p1,w,t,rfl,e3,w0,t0,t1⟩
   have go:∀w:Int,(1<=w/\w<=200000)->LN K "list" (V.ref p) H2/\IntMulOk 29 (0+ (i:Int))/\0<n/\∀t,0<=t->t<n->2<=sizeLine/\∀p1 H3,az H2 H3->H2 p1=none->H3 p1=some (.tup [.int w,.int t])->dB (V.ref p) [V.ref p1] H3 λ_ H'=>az H H'/\∃iW,H' p=some (.lst iW)/\iW.length=i+1/\(∀x∈iW,WT H' n x)/\∃x,some (V.int w)=x:=λw w0=>
    ⟨.inl ⟨rfl,_,bo.of hp⟩,cW,by omega,λt t0 t1=>⟨by decide,λp1 H3 s3 n3 e3=>⟨p,xs,_,rfl,rfl,s3 _ _ hp,sz,let ⟨a,iW,b,c,d⟩:=fin w t p1 H3 s3 n3 e3 w0 t0 t1;⟨a,iW,b,c,d,_,rfl⟩⟩⟩⟩
   refine⟨cW,by decide,λr r0 r1=>⟨by decide,λr2 _ _=>hZ (λ_=>⟨cW,by decide,λr3 r30 r31=>?_⟩) (λ_=>?_)⟩⟩
   ·exact go _ ⟨by omega,by omega⟩
   ·exact go _ ⟨by omega,by omega⟩
  ·intro σ H1 bH
   symm
   obtain⟨sm,xs,z4,z5,hp,lx,wx,rfl⟩:=bH
   nofun
   simp_all only[gQ,Jj,tBM]
   have sz:xs.length<sizeLine:=by rw[sizeLine_eq];omega
   refine⟨by decide,λw w0 w1=>⟨k0,λt t0 t1=>⟨by decide,λp1 H2 s2 n2 e2=>?_⟩⟩⟩
   have tw:=s2 _ _ hp
   refine⟨.inl ⟨rfl,_,bo.of tw⟩,xs,tw,by omega,λr r0 r1=>⟨xs,tw,r0,by omega,sz,kk p _ _ (aZ (sm.trans s2) np) ar (λx hx=>?_) ⟨_,aaI _ aai,WT.put tw ⟨p1,_,t,rfl,e2,⟨by omega,by omega⟩,t0,t1⟩⟩ (by rw[aaJ,aaq];omega) (by simp;omega)⟩⟩
   rcases List.mem_append.mp hx with hx | hx
   ·exact((wx x (List.mem_of_mem_take hx)).mono s2).put tw
   ·rcases List.mem_cons.mp hx with rfl | hx
    ·exact WT.put tw ⟨p1,_,t,rfl,e2,⟨by omega,by omega⟩,t0,by omega⟩
    ·exact((wx x (List.mem_of_mem_drop hx)).mono s2).put tw
theorem j1:aQ ["_law_board_here","_law_found","_law_what"] ["_law_board_here"] (af (top 57)):=⟨rfl,rfl,rfl,by ac_rfl,rfl,by ac_rfl,by ac_rfl⟩
theorem Hu (T:Txt K mg aA tc):bU P w K mg base (bN P w) 1 "_law_copy" ["_law_board_here"] wD:=by
 refine T.ux.d3 (λ_ _ _ _ _ _=>iR λ_=>rfl) λf fd F=>F.d5 j1 (λvs H Q E h=>?_) (λcG A outer s H vs Q E hr h=>?_)
 ·obtain⟨_,_,rfl,_⟩:=h;rfl
 ·symm
  obtain⟨a,b,rfl,rb,bl,kk⟩:=h
  nofun
  have nd:=j1.nd
  refine⟨_,(ae (aF (i:=1) nd rfl (Or.inl rfl) (cV ag))
  (ae (cu PassesOwn.never rfl (bj (K:=K) (pv 0)) (aG (i:=2) nd rfl (Or.inl rfl)) (au (bF (aO cL (aD aH (pv 2) ao (λ_ _=>rfl)) cK (aS _)) (au (c5 (fi aaO aa7 aa8 cM.r (pv 1) (aa (pv 2) ag (se rfl)))))
   (au (c5 (fi aaO aa7 aa8 cM.r (pv 1) (aa (bL (aa (aD aH (pv 2) ao (λ_ _=>rfl)) (aa (aD aH (pv 2) ao (λ_ _=>rfl)) (aa (eG (cS (K:=K)) (by rfl) T.z_list rfl (aa (aD aH (pv 2) ao (λ_ _=>rfl)) ag (se rfl)) (he:=se rfl) (hpl:=na rfl)) ag (se rfl)) (se rfl)) (se rfl))) ag (se rfl))))))))
  (au (aN (pv 1))))),?_⟩
  refine(?_:let cy:TS:=_;let cz:TS:=_;let cA:TS:=_;tSeq cy (tSeq cz cA) _ _ _)
  intro cy cz cA
  symm
  obtain⟨_,xs,e,ha,rl⟩:=aT.mp rb
  nofun
  cases e
  have lx:=rl.length
  rw[aac] at lx
  simp_all only[]
  refine⟨aas _,λp np=>?_⟩
  have s0:=ax (o:=.lst []) np
  refine⟨⟨_,bo.of (s0 _ _ ha)⟩,bP (src_list (Ok:=az H) (λH2 s2=>bo.of (s2 _ _ ha)))
   (λi σ H'=>az H H'/\∃ys z2,H' p=some (.lst ys)/\bu (cI H' p) ((b.take i).map jf) ys/\σ=[some (V.ref a),some (V.ref p),z2])
   ⟨s0,[],_,ar,by simp [bu],rfl⟩ (λ_ _ _ _ h=>h.1) ?_ ?_⟩
  ·intro i v σ H1 H2 hi dI dJ
   symm
   obtain⟨sm,ys,z2,hp,ry,rfl⟩:=dI
   obtain⟨rfl,ex⟩:=dJ
   obtain⟨q,eq,rq⟩:=dN rl ex
   nofun
   have ly:=ry.length
   rw[aac,aaZ] at ly
   have tk:b.take (i+1)=b.take i++ [q]:=by rw[aaF,eq];rfl
   have sz:ys.length<sizeLine:=by rw[sizeLine_eq];omega
   have fin:∀H3 v',az H2 H3->Rep (cI H3 p) (jf q) v'->az H (upd H3 p (.lst (ys++ [v'])))/\∃Nc,upd H3 p (.lst (ys++ [v'])) p=some (.lst Nc)/\bu (cI (upd H3 p (.lst (ys++ [v']))) p) ((b.take (i+1)).map jf) Nc/\∃x,some v=x:=λH3 v' s3 r3=>by
    refine⟨aZ (sm.trans s3) np,_,ar,?_,_,rfl⟩
    rw[tk,aaB,aaz,aa2]
    exact t7 (ry.mono (bQ s3)) r3
   have rx:=rq.mono sm
   cases q with
   | fin w=>
    symm
    obtain⟨t',r,rfl,lJ,_⟩:=cX.mp rx
    nofun
    simp_all only[lJ,dB,tBM]
    exact⟨.inl ⟨rfl,_,bo.of hp⟩,_,hp,sz,fin H2 _ (az.refl _) (rq.mono (eQ sm np))⟩
   | dA w ws=>
    symm
    obtain⟨t',r,l,zs,rfl,NY,y9,IW,rz⟩:=cN.mp rq
    nofun
    have lJ:=sm _ _ NY
    have tD:=sm _ _ IW
    simp_all only[lJ]
    rw[if_neg (by ac_rfl)]
    simp_all only[dB,tBM,lJ]
    refine⟨.inl ⟨rfl,_,bo.of hp⟩,_,.inl (bo.of tD),λm nm=>⟨by decide,λu H4 s4 nu eu=>?_⟩⟩
    have s3:=(ax (o:=.lst zs) nm).trans s4
    have Om:m≠p:=λz=>by rw[z,hp] at nm;cases nm
    have Oo:u≠p:=λz=>by rw[z,ax (o:=.lst zs) nm _ _ hp] at nu;cases nu
    have sh:=eQ (sm.trans s3) np
    exact⟨_,s3 _ _ hp,sz,fin H4 _ s3 (cN.mpr ⟨u,r,m,zs,rfl,by rw[bK Oo];exact eu,sh _ _ y9,by rw[bK Om];exact s4 _ _ ar,rz.mono sh⟩)⟩
   | cD w to=>
    symm
    obtain⟨t',l,rfl,lJ,tD⟩:=cH.mp rx
    nofun
    simp_all only[lJ]
    rw[if_neg (by ac_rfl)]
    simp_all only[dB,tBM,lJ]
    refine⟨.inl ⟨rfl,_,bo.of hp⟩,_,.inl (bo.of tD),λm nm=>⟨by decide,λu H4 s4 nu eu=>?_⟩⟩
    have s3:=(ax (o:=.lst (List.map V.int to)) nm).trans s4
    have Om:m≠p:=λz=>by rw[z,hp] at nm;cases nm
    have Oo:u≠p:=λz=>by rw[z,ax (o:=.lst (List.map V.int to)) nm _ _ hp] at nu;cases nu
    exact⟨_,s3 _ _ hp,sz,fin H4 _ s3 (cH.mpr ⟨u,m,rfl,by rw[bK Oo];exact eu,by rw[bK Om];exact s4 _ _ ar⟩)⟩
  ·intro σ H1 bH
   symm
   obtain⟨sm,ys,z2,hp,ry,rfl⟩:=bH
   nofun
   simp_all only[]
   rw[aaH (by omega)] at ry
   exact kk p ys H1 sm np hp ry
theorem i9:aQ ["_law_script","_law_at","_law_n","_law_turned_here","_law_board_here","_law_k","_law_cell_here","_law_kind","_law_ways_here"] ["_law_script","_law_at","_law_n"] (af (top 55)):=⟨rfl,rfl,rfl,by ac_rfl,rfl,by ac_rfl,by ac_rfl⟩
theorem Hv (T:Txt K mg aA tc):bU P w K mg base (bN P w) 3 "_law_board" ["_law_script","_law_at","_law_n"] (EO K):=by
 have dY:bU P w K mg base (bN P w) 1 "_law_cell" ["_law_script","_law_k"] (GF K):=yg T
 have bf:bU P w K mg base (bN P w) 1 "_law_mixed" ["_law_cell_here","_law_many"] gQ:=sV T
 have j4:bU P w K mg base (bN P w) 2 "_law_share" ["_law_cell_here","_law_k"] BN:=Hr T
 have pZ:bU P w K mg base (bN P w) 2 "_law_turned" ["_law_cell_here","_law_n"] BK:=Hs T
 have sW:bU P w K mg base (bN P w) 2 "_law_throw" ["_law_cell_here","_law_k","_law_n"] BO:=Ht T
 refine T.rT.d3 (λ_ _ _ _ _ _=>pS λ_ _ _=>rfl) λf fd F=>F.d5 i9 (λvs H Q E h=>?_) (λcG A outer s H vs Q E hr h=>?_)
 ·obtain⟨_,_,_,rfl,_⟩:=h;rfl
 ·symm
  obtain⟨a,ns,n,rfl,hS,n0,n8,kk⟩:=h
  nofun
  clear G_
  have nd:=i9.nd
  refine⟨_,(ae (aF (i:=3) nd rfl (Or.inr rfl) (aK pZ (hr.mono (by decide)) rfl aB.pass (aa (aK dY (hr.mono (by decide)) rfl aB.pass (aa (pv 0) (aa (pv 1) ag (se rfl)) (se rfl)) (he:=se rfl) (hpl:=na rfl)) (aa (pv 2) ag (se rfl)) (se rfl)) (he:=se rfl) (hpl:=na rfl)))
  (ae (gC (i:=4) rfl nd rfl rfl (N:=["_law_script","_law_at","_law_n","_law_turned_here","_law_board_here","_law_k","_law_cell_here","_law_kind","_law_ways_here"]) (so:=af (top 55)) (N':=["_law_place"]) (k:=1) (fr:=[]) rfl rfl ⟨rfl,by ac_rfl,by ac_rfl,by ac_rfl,rfl,by ac_rfl,by ac_rfl⟩ (bj (K:=K) (pv 3)) (λ_ _ _ _ _=>(aG (i:=0) (show(["_law_place"]:List Str).Nodup by ac_rfl) rfl (Or.inl rfl))) (λ_ _ _ _ _=>bJ)
   (λ_ _ _ _ _=>eL))
  (ae (cu PassesOwn.never rfl (c6 rfl T.z_range (aa (pv 2) ag (se rfl))) (aG (i:=5) nd rfl (Or.inr rfl)) (ae (aF (i:=6) nd rfl (Or.inr rfl) (aK dY (hr.mono (by decide)) rfl aB.pass (aa (pv 0) (aa (aI bA (aI bA (pv 1) ao) (pv 5)) ag (se rfl)) (se rfl)) (he:=se rfl) (hpl:=na rfl)))
  (ae (aF (i:=7) nd rfl (Or.inl rfl) (aK bf (hr.mono (by decide)) rfl aB.pass (aa (aI bA (pv 6) ao) (aa ao ag (se rfl)) (se rfl)) (he:=se rfl) (hpl:=na rfl)))
  (au (bF (PW.pt (pw_or (aO cL (pv 5) ao (aS _)) (pw_or1 (aO cL (pv 7) ao (aS _))))) (au (eM (bL (aa cK (aa (aK j4 (hr.mono (by decide)) rfl aB.pass (aa (pv 6) (aa (pv 5) ag (se rfl)) (se rfl)) (he:=se rfl) (hpl:=na rfl)) ag (se rfl)) (se rfl))) (fu (pv 4) (aD aE (pv 3) (pv 5) (λ_ _=>rfl)) set_list)))
   (au (bF (aO nP (pv 7) ao (aS _)) (ae (gC (i:=8) rfl nd rfl rfl (N:=["_law_script","_law_at","_law_n","_law_turned_here","_law_board_here","_law_k","_law_cell_here","_law_kind","_law_ways_here"]) (so:=af (top 55)) (N':=["_law_weight","_law_to","_law_turned_here"]) (k:=2) (fr:=[3]) rfl rfl ⟨rfl,by ac_rfl,by ac_rfl,by ac_rfl,rfl,by ac_rfl,by ac_rfl⟩ (bj (K:=K) (aK sW (hr.mono (by decide)) rfl aB.pass (aa (pv 6) (aa (pv 5) (aa (pv 2) ag (se rfl)) (se rfl)) (se rfl)) (he:=se rfl) (hpl:=na rfl))) (λ_ _ _ _ _=>(bX (K:=K) (n:=2) rfl (aU (aG (i:=0) (show(["_law_weight","_law_to","_law_turned_here"]:List Str).Nodup by ac_rfl) rfl (Or.inl rfl)) (aU (aG (i:=1) (show(["_law_weight","_law_to","_law_turned_here"]:List Str).Nodup by ac_rfl) rfl (Or.inl rfl)) bV)))) (λ_ _ _ _ _=>bJ)
   (λ_ _ _ _ _=>(bL (aa (pv 0) (aa (aD aE (pv 2) (pv 1) (λ_ _=>rfl)) ag (se rfl)) (se rfl)))))
  (au (eM (bL (aa cK (aa (aK j4 (hr.mono (by decide)) rfl aB.pass (aa (pv 6) (aa (pv 5) ag (se rfl)) (se rfl)) (he:=se rfl) (hpl:=na rfl)) (aa (pv 8) ag (se rfl)) (se rfl)) (se rfl))) (fu (pv 4) (aD aE (pv 3) (pv 5) (λ_ _=>rfl)) set_list))))
   (ae (gC (i:=8) rfl nd rfl rfl (N:=["_law_script","_law_at","_law_n","_law_turned_here","_law_board_here","_law_k","_law_cell_here","_law_kind","_law_ways_here"]) (so:=af (top 55)) (N':=["_law_j","_law_turned_here","_law_k","_law_cell_here"]) (k:=1) (fr:=[3,5,6]) rfl rfl ⟨rfl,by ac_rfl,by ac_rfl,by ac_rfl,rfl,by ac_rfl,by ac_rfl⟩ (c6 rfl T.z_range (aa (aI bA ao (aK bf (hr.mono (by decide)) rfl aB.pass (aa (aI bA (pv 6) ao) (aa ao ag (se rfl)) (se rfl)) (he:=se rfl) (hpl:=na rfl))) ag (se rfl))) (λ_ _ _ _ _=>(aG (i:=0) (show(["_law_j","_law_turned_here","_law_k","_law_cell_here"]:List Str).Nodup by ac_rfl) rfl (Or.inl rfl))) (λ_ _ _ _ _=>bJ)
   (λ_ _ _ _ _=>(aD aE (pv 1) (aK bf (hr.mono (by decide)) rfl aB.pass (aa (aI bA (pv 3) (aI aY ao (pv 0))) (aa (pv 2) ag (se rfl)) (se rfl)) (he:=se rfl) (hpl:=na rfl)) (λ_ _=>rfl))))
  (au (eM (bL (aa cK (aa (aI bA ao (aK bf (hr.mono (by decide)) rfl aB.pass (aa (aI bA (pv 6) ao) (aa ao ag (se rfl)) (se rfl)) (he:=se rfl) (hpl:=na rfl))) (aa (pv 8) ag (se rfl)) (se rfl)) (se rfl))) (fu (pv 4) (aD aE (pv 3) (pv 5) (λ_ _=>rfl)) set_list)))))))))))
  (au (aN (pv 4)))))),?_⟩
  refine(?_:let cy:TS:=_;let cz:TS:=_;let cA:TS:=_;let du:TS:=_;tSeq cy (tSeq cz (tSeq cA du)) _ _ _)
  intro cy cz cA du
  simp_all only[GF,BK]
  refine⟨ns,hS,by decide,by decide,λc=>⟨by omega,by omega,λl H1 sg s1 nl hl pm=>⟨⟨_,bo.of hl⟩,?_⟩⟩⟩
  rw[aak] at pm
  have sl:sg.length=n:=by rw[pm.length_eq,aay]
  subst sl
  refine comp_map (src_list (Ok:=az H1) (λH' s'=>bo.of (s' _ _ hl))) (λ_ _ _ _ h=>by rw[h.1];exact az.refl _) (by rw[sizeLine_eq,aac];omega) (λi y H4=>y=.b9) (λi y H4 H5 s5 h=>h) ?_ ?_
  ·rintro i x w0 H4 H5 Q2 hi s4 ⟨rfl,ex⟩ kq
   simp_all only[]
   exact kq _ _ (az.refl _) rfl
  intro ys H2 s2 ly hy m n1 n2
  rw[aac] at ly
  have s3:az H1 (upd H2 m (.lst ys)):=s2.trans (ax n2)
  have nm:H m=none:=none_of (s1.trans s2) n2
  have Kj:(upd H2 m (.lst ys)) m=some (.lst ys):=ar
  generalize upd H2 m (.lst ys)=H3 at *
  refine⟨by omega,by omega,bP (src_range (Ok:=λ_=>True)) (λi σ H'=>az H1 H'/\∃xs z5 z6 z7 z8,H' m=some (.lst xs)/\xs.length=sg.length/\(∃qs:Nat->Pl,∀j k,j<i->sg[j]?=some k->BM sg j (qs k)/\∃v,xs[k]?=some v/\Rep (cI H' m) (jf (qs k)) v)/\σ=[some (V.ref a),some (V.int 2),some (V.int (sg.length:Int)),some (V.ref l),some (V.ref m),z5,z6,z7,z8])
   ⟨s3,ys,_,_,_,_,Kj,by omega,⟨λ_=>.fin (0,1),λj k hj=>absurd hj (abc _)⟩,rfl⟩ (λ_ _ _ _ _=>trivial) ?_ ?_⟩
  ·intro i x σ H4 H5 hi dI dJ
   symm
   obtain⟨s4,xs,z5,z6,z7,z8,hm,lx,⟨qs,gx⟩,rfl⟩:=dI
   obtain⟨rfl,rfl⟩:=dJ
   nofun
   have hi:i<sg.length:=by have:i< ((sg.length:Nat):Int).toNat:=hi;omega
   obtain⟨k,hk⟩:∃k,sg[i]?=some k:=⟨_,aad hi⟩
   have kn:k<sg.length:=List.mem_range.mp (pm.mem_iff.mp (aag hk))
   have at_:∀t:Int,0<=t->t< (sg.length:Int)->∃k':Nat,k'<sg.length/\sg[t.toNat]?=some k'/\eE (List.map fg sg) t=some (V.int (k':Int)):=λt t0 t1=>by
    obtain⟨j,rfl⟩:=aav t0
    obtain⟨k',E2⟩:∃k',sg[j]?=some k':=⟨_,aad (by omega)⟩
    exact⟨k',List.mem_range.mp (pm.mem_iff.mp (aag E2)),by rw[aak];exact E2,ie (f:=fg) E2⟩
   have ak:eE (List.map fg sg) ((0:Int)+ (i:Int))=some (V.int (k:Int)):=by rw[Int.zero_add];exact ie (f:=fg) hk
   have kx:wV xs.length (k:Int)=some k:=by
    unfold wV
    rw[if_pos (by omega),if_pos (by omega)]
    simp
   have yb:=s4 _ _ hl
   have fin:∀H6 v q,az H5 H6->Rep (cI H6 m) (jf q) v->BM sg i q->az H1 (upd H6 m (.lst (xs.set k v)))/\∃iW,upd H6 m (.lst (xs.set k v)) m=some (.lst iW)/\iW.length=sg.length/\(∃qs:Nat->Pl,∀j k',j<i+1->sg[j]?=some k'->BM sg j (qs k')/\∃v',iW[k']?=some v'/\Rep (cI (upd H6 m (.lst (xs.set k v))) m) (jf (qs k')) v'):=λH6 v q s6 r6 g6=>by
    have sh:az (cI H6 m) (cI (upd H6 m (.lst (xs.set k v))) m):=eQ rG (if_pos rfl)
    refine⟨aZ (s4.trans s6) (none_of s2 n2),_,ar,by rw[aaK];exact lx,λk'=>if k'=k then q else qs k',λj k' hj E2=>?_⟩
    by_cases ck:k'=k
    ·subst ck
     have ji:j=i:=Lv.AH pm E2 hk
     subst ji
     dsimp only
     rw[if_pos rfl]
     exact⟨g6,v,by rw[aaU (by omega)],r6.mono sh⟩
    ·have:j<i:=by
      by_cases cj:j=i
      ·subst cj
       rw[hk] at E2
       cases E2
       exact absurd rfl ck
      ·omega
     dsimp only
     rw[if_neg ck]
     symm
     obtain⟨g',v',e',r'⟩:=gx j k' this E2
     nofun
     exact⟨g',v',by rw[aaL (Ne.symm ck)];exact e',(r'.mono (bQ s6)).mono sh⟩
   have Hw:∀{H6:Hp} {p:Addr},az H5 H6->H6 p=none->p≠m:=λs6 np z=>by rw[z,s6 _ _ hm] at np;cases np
   simp_all only[GF,gQ,BN,BO]
   refine⟨ns,(s1.trans s4).seq hS,by omega,by omega,λcc=>⟨by decide,λkd kd0 kd1=>?_⟩⟩
   have sN:(0:Int)+ (i:Int)< (sg.length:Int):=by omega
   have fe:∀(p:Addr) (H':Hp) (a:Int×Int),az H5 H'->H5 p=none->H' p=some (HO.tup [V.int a.fst,V.int a.snd])->GS a->∀(p1:Addr) (H6:Hp),az H' H6->H' p1=none->H6 p1=some (HO.tup [V.str (Str.ofString "end"),V.ref p])->Rep (cI H6 m) (jf (.fin a)) (.ref p1):=λp H' a s' n' e' _ p1 H6 s6 n6 e6=>by
    refine cX.mpr ⟨p1,p,rfl,?_,?_⟩
    ·rw[bK (Hw s' n6)];exact e6
    ·rw[bK (Hw (az.refl _) n')];exact s6 _ _ e'
   refine hZ (λ_=>?_) (λc0=>hZ (λ_=>?_) (λ_=>hZ (λ_=>?_) (λ_=>?_)))
   ·refine⟨by omega,by omega,λp H6 w s6 n6 e6 g6=>⟨by decide,λp1 H7 s7 n7 e7=>?_⟩⟩
    symm
    obtain⟨x1,x2,x3,x4,x5⟩:=fin H7 (.ref p1) (.fin w) (s6.trans s7) (fe p H6 w s6 n6 e6 g6 p1 H7 s7 n7 e7) ⟨g6,trivial⟩
    nofun
    exact⟨_,(s6.trans s7) _ _ yb,_,ak,_,_,rfl,(s6.trans s7) _ _ hm,k,kx,x1,x2,x3,x4,x5,_,rfl⟩
   ·refine⟨by omega,by omega,λp H6 w s6 n6 e6 g6=>⟨by decide,λp1 H7 s7 n7 e7=>?_⟩⟩
    symm
    obtain⟨x1,x2,x3,x4,x5⟩:=fin H7 (.ref p1) (.fin w) (s6.trans s7) (fe p H6 w s6 n6 e6 g6 p1 H7 s7 n7 e7) ⟨g6,trivial⟩
    nofun
    exact⟨_,(s6.trans s7) _ _ yb,_,ak,_,_,rfl,(s6.trans s7) _ _ hm,k,kx,x1,x2,x3,x4,x5,_,rfl⟩
   ·refine⟨by omega,sN,λt H6 ts s6 e6 w6 sure l0 l6=>⟨⟨_,bo.of e6⟩,?_⟩⟩
    have D3:=s6 _ _ yb
    symm
    obtain⟨x0,hx0,wt0⟩:=sure
    nofun
    obtain⟨i0,Xb⟩:=aax hx0
    refine eJ (K:=K) (src_list (Ok:=az H6) (λH' s'=>bo.of (s' _ _ e6))) (λj a b H3=>∃w t,a=.int w/\b=.int t/\(1<=w/\w<=200000)/\0<=t/\t< (sg.length:Int)/\(j=i0->t< (i:Int))) (λj x H7 H8 hj s7 ⟨e,ex⟩=>?_) (by rw[sizeLine_eq];omega) (λj y H7=>∃q:Int×Int,Rep H7 (bC q) y/\(1<=q.1/\q.1<=200000/\0<=q.2/\q.2< (sg.length:Int))/\(j=i0->∃j',j'<i/\sg[j']?=some q.2.toNat)) (λj y H7 H8 s8 ⟨q,r,z⟩=>⟨q,r.mono s8,z⟩) ?_ ?_
    ·subst e
     symm
     obtain⟨q,w,t',rfl,hq,w0,t0,t1⟩:=w6 x (aag ex)
     nofun
     refine⟨az.refl _,q,_,_,rfl,dZ.of (s7 _ _ hq),w,t',rfl,rfl,w0,t0,t1,λz=>?_⟩
     subst z
     rw[Xb] at ex
     cases ex
     symm
     obtain⟨q2,w2,t2,e2,Ao,_,_,t12⟩:=wt0
     nofun
     cases e2
     rw[hq] at Ao
     cases Ao
     omega
    ·intro j a b H7 Q7 hj s7 dJ kq
     symm
     obtain⟨w,t',rfl,rfl,w0,t0,t1,t2⟩:=dJ
     obtain⟨k',k1',AF,Oq⟩:=at_ t' t0 t1
     nofun
     simp_all only[s7 _ _ D3,Oq]
     exact⟨by decide,λq H8 s8 n8 e8=>kq _ _ s8 ⟨(w,(k':Int)),cn.mpr ⟨q,rfl,e8⟩,⟨w0.1,w0.2,by show(0:Int)<=(k':Int);omega,by show(k':Int)< (sg.length:Int);omega⟩,λz=>⟨t'.toNat,by have:=t2 z;omega,AF⟩⟩⟩
    ·intro us H7 s7 lu hu D n8 n9
     symm
     obtain⟨ws,qV,lw,Xc⟩:=DU (f:=bC) (P:=λj (q:Int×Int)=>(1<=q.1/\q.1<=200000/\0<=q.2/\q.2< (sg.length:Int))/\(j=i0->∃j',j'<i/\sg[j']?=some q.2.toNat)) (H:=H7) (xs:=us) λj x ex=>hu j x ex
     nofun
     refine⟨by omega,by omega,λp H9 w s9 Kx e9 g9=>⟨by decide,λp1 Cu Hx Ik e10=>?_⟩⟩
     have Xd:=s6.trans (s7.trans ((ax (o:=.lst us) n9).trans s9))
     have Hy:=Xd.trans Hx
     have mD:D≠m:=Hw (s6.trans s7) n9
     have mp:p≠m:=Hw (s6.trans (s7.trans (ax (o:=.lst us) n9))) Kx
     have Ot:p1≠m:=Hw Xd Ik
     have rm:bu (cI Cu m) (ws.map bC) us:=by
      refine dD lw.symm λj y ey q eq=>?_
      symm
      obtain⟨d,ed,rd⟩:=qV.get ey
      nofun
      rw[aaf,eq] at ed
      cases ed
      symm
      obtain⟨tt,rfl,Hz⟩:=cn.mp rd
      nofun
      refine cn.mpr ⟨tt,rfl,?_⟩
      have h1:=(s6.trans s7) _ _ hm
      rw[bK (λz=>by rw[z,h1] at Hz;cases Hz)]
      exact Hx _ _ (s9 _ _ (ax n9 _ _ Hz))
     have li:i0<ws.length:=by have:=(List.getElem?_eq_some_iff.mp Xb).1;omega
     have ld:BM sg i (.dA w ws):=by
      refine⟨⟨g9,by omega,by omega,λx hx=>?_⟩,ws[i0],aan li,(Xc i0 _ (aad li)).2 rfl⟩
      obtain⟨j,ej⟩:=aax hx
      exact(Xc j x ej).1
     obtain⟨x1,x2,x3,x4,x5⟩:=fin Cu (.ref p1) (.dA w ws) Hy (cN.mpr ⟨p1,p,D,us,rfl,by rw[bK Ot];exact e10,by rw[bK mp];exact Hx _ _ e9,by rw[bK mD];exact Hx _ _ (s9 _ _ ar),rm⟩) ld
     exact⟨_,Hy _ _ yb,_,ak,_,_,rfl,Hy _ _ hm,k,kx,x1,x2,x3,x4,x5,_,rfl⟩
   ·refine⟨by decide,λr r0 r1=>⟨by omega,by omega,?_⟩⟩
    refine comp_map src_range (λ_ _ _ _ h=>by rw[h.1];exact az.refl _) (by rw[sizeLine_eq];omega) (λj y H4=>∃t,y=.int t/\0<=t/\t< (sg.length:Int)/\∃j',j'<i/\sg[j']?=some t.toNat) (λi y H4 H5 s5 h=>h) ?_ ?_
    ·rintro j x w0 H6 H7 Q7 hj s6 ⟨rfl,rfl⟩ kq
     simp_all only[gQ,s6 _ _ yb]
     refine⟨cW,by omega,λt t0 t1=>?_⟩
     symm
     obtain⟨k',k1,AF,Oq⟩:=at_ t t0 (by omega)
     nofun
     exact⟨_,Oq,kq _ _ (az.refl _) ⟨_,rfl,by omega,by omega,t.toNat,by omega,by rw[aak];exact AF⟩⟩
    ·intro us H6 s6 lu hu D n8 n9
     obtain⟨to,rfl⟩:∃to:List Int,us=to.map V.int:=by
      refine⟨us.map λv=>match v with | .int t=>t | _=>0,?_⟩
      rw[aaT]
      apply aaQ
      intro j
      rw[aaf]
      cases ej:us[j]? with
      | none=>rfl
      | some y=>
       symm
       obtain⟨t,rfl,_⟩:=hu j y ej
       nofun
       rfl
     refine⟨by decide,λr' r0' HD=>⟨by decide,λp1 H7 s7 Kx e7=>?_⟩⟩
     have Ou:=s6.trans ((ax (o:=.lst (List.map V.int to)) n9).trans s7)
     have mD:D≠m:=Hw s6 n9
     have Ot:p1≠m:=Hw (s6.trans (ax (o:=.lst (List.map V.int to)) n9)) Kx
     rw[aac] at lu
     have gt:∀g∈to,0<=g/\g< (sg.length:Int)/\∃j',j'<i/\sg[j']?=some g.toNat:=λg hg=>by
      obtain⟨j,ej⟩:=aax hg
      obtain⟨t,e,t0,t1,t2⟩:=hu j (.int g) (by rw[aaf,ej];rfl)
      cases e
      exact⟨t0,t1,t2⟩
     obtain⟨x1,x2,x3,x4,x5⟩:=fin H7 (.ref p1) (.cD (1+r') to) Ou (cH.mpr ⟨p1,D,rfl,by rw[bK Ot];exact e7,by rw[bK mD];exact s7 _ _ ar⟩) ⟨⟨by omega,by omega,by omega,λg hg=>⟨(gt g hg).1,(gt g hg).2.1⟩⟩,λg hg=>(gt g hg).2.2⟩
     exact⟨_,Ou _ _ yb,_,ak,_,_,rfl,Ou _ _ hm,k,kx,x1,x2,x3,x4,x5,_,rfl⟩
  ·intro σ H4 bH
   symm
   obtain⟨s4,xs,z5,z6,z7,z8,hm,lx,⟨qs,gx⟩,rfl⟩:=bH
   nofun
   simp_all only[]
   have lP:∀x∈sg,x<sg.length:=λx hx=>List.mem_range.mp (pm.mem_iff.mp hx)
   have lq:((List.range sg.length).map qs).length=sg.length:=by rw[aac,aay]
   refine kk m H4 ((List.range sg.length).map qs) _ (s1.trans s4) nm (aT.mpr ⟨m,xs,rfl,hm,dD (by rw[lq];exact lx) λp y ey q eq=>?_⟩) lq (JC pm n0 n8 lq λk p q ek eq=>?_)
   ·have hp:p<sg.length:=by have:=(List.getElem?_eq_some_iff.mp ey).1;omega
    rw[aaf,aaR hp] at eq
    cases eq
    obtain⟨j,ej⟩:=aax (pm.mem_iff.mpr (List.mem_range.mpr hp))
    obtain⟨_,v,ev,rv⟩:=gx j p (by have:=(List.getElem?_eq_some_iff.mp ej).1;simpa using this) ej
    rw[ey] at ev
    cases ev
    exact rv.mono cf
   ·have hp:=lP p (aag ek)
    rw[aaf,aaR hp] at eq
    cases eq
    exact(gx k p (by have:=(List.getElem?_eq_some_iff.mp ek).1;simpa using this) ek).1
theorem j5:aQ ["_law_one","_law_other"] ["_law_one","_law_other"] (af (top 62)):=⟨rfl,rfl,rfl,by ac_rfl,rfl,by ac_rfl,by ac_rfl⟩
theorem HE (T:Txt K mg aA tc):bU P w K mg base (bN P w) 1 "_law_less" ["_law_one","_law_other"] BX:=by
 refine T.uz.d3 (λ_ _ _ _ _ _=>d6 λ_ _=>rfl) λf fd F=>F.d5 j5 (λvs H Q E h=>?_) (λcG A outer s H vs Q E hr h=>?_)
 ·obtain⟨_,_,_,_,rfl,_⟩:=h;rfl
 ·symm
  obtain⟨p,q,a,b,rfl,hp,hq,ga,gb,k⟩:=h
  nofun
  have nd:=j5.nd
  refine⟨_,(au (aN (iD nP (aI aY (aD aH (pv 0) ao (λ_ _=>rfl)) (aD aH (pv 1) ao (λ_ _=>rfl))) (aI aY (aD aH (pv 1) ao (λ_ _=>rfl)) (aD aH (pv 0) ao (λ_ _=>rfl))) (aS _)))),?_⟩
  simp only[Pr] at hp hq
  simp_all only[hp,hq]
  exact⟨ga.1.dM gb.2.1,gb.1.dM ga.2.1,k⟩
theorem j6:aQ ["_law_board_here","_law_picks_here","_law_place","_law_what","_law_total"] ["_law_board_here","_law_picks_here","_law_place"] (af (top 58)):=⟨rfl,rfl,rfl,by ac_rfl,rfl,by ac_rfl,by ac_rfl⟩
theorem Ky (T:Txt K mg aA tc):bU P w K mg base (bN P w) 2 "_law_ways" ["_law_board_here","_law_picks_here","_law_place"] ET:=by
 have cP:bU P w K mg base (bN P w) 1 "_law_low" ["_law_top","_law_bottom"] il:=pA T
 refine T.uy.d3 (λ_ _ _ _ _ _=>pS λ_ _ _=>rfl) λf fd F=>F.d5 j6 (λvs H Q E h=>?_) (λcG A outer s H vs Q E hr h=>?_)
 ·obtain⟨_,_,_,_,_,_,_,rfl,_⟩:=h;rfl
 ·symm
  obtain⟨a,c,i,b,n,g,ws,rfl,rb,eb,pq,kk⟩:=h
  nofun
  clear G_
  have nd:=j6.nd
  refine⟨_,(ae (aF (i:=3) nd rfl (Or.inl rfl) (aD aE (pv 0) (pv 2) (λ_ _=>rfl)))
  (ae (bF (aO cL (aD aH (pv 3) ao (λ_ _=>rfl)) cK (aS _)) (ae (aF (i:=4) nd rfl (Or.inr rfl) (aP (ic (K:=K)) (by rfl) T.z_sum rfl (aa (bO rfl (N:=["_law_board_here","_law_picks_here","_law_place","_law_what","_law_total"]) (so:=af (top 58)) (N':=["_law_weight","_law_to"]) (k:=2) (fr:=[]) rfl rfl ⟨rfl,by ac_rfl,by ac_rfl,by ac_rfl,rfl,by ac_rfl,by ac_rfl⟩ (bj (K:=K) (aD aH (pv 3) ao (λ_ _=>rfl))) (λ_ _ _ _ _=>(bX (K:=K) (n:=2) rfl (aU (aG (i:=0) (show(["_law_weight","_law_to"]:List Str).Nodup by ac_rfl) rfl (Or.inl rfl)) (aU (aG (i:=1) (show(["_law_weight","_law_to"]:List Str).Nodup by ac_rfl) rfl (Or.inl rfl)) bV)))) (λ_ _ _ _ _=>bJ)
   (λ_ _ _ _ _=>(pv 0))) ag (se rfl)) (he:=se rfl) (hpl:=na rfl)))
  (au (aN (bO rfl (N:=["_law_board_here","_law_picks_here","_law_place","_law_what","_law_total"]) (so:=af (top 58)) (N':=["_law_weight","_law_to","_law_total"]) (k:=2) (fr:=[4]) rfl rfl ⟨rfl,by ac_rfl,by ac_rfl,by ac_rfl,rfl,by ac_rfl,by ac_rfl⟩ (bj (K:=K) (aD aH (pv 3) ao (λ_ _=>rfl))) (λ_ _ _ _ _=>(bX (K:=K) (n:=2) rfl (aU (aG (i:=0) (show(["_law_weight","_law_to","_law_total"]:List Str).Nodup by ac_rfl) rfl (Or.inl rfl)) (aU (aG (i:=1) (show(["_law_weight","_law_to","_law_total"]:List Str).Nodup by ac_rfl) rfl (Or.inl rfl)) bV)))) (λ_ _ _ _ _=>bJ)
   (λ_ _ _ _ _=>(bL (aa (aK cP (hr.mono (by decide)) rfl aB.pass (aa (pv 0) (aa (pv 2) ag (se rfl)) (se rfl)) (he:=se rfl) (hpl:=na rfl)) (aa (pv 1) ag (se rfl)) (se rfl))))))))
   ba)
  (ae (bF (aO cL (aD aH (pv 3) ao (λ_ _=>rfl)) cK (aS _)) (au (aN (cV (aa (bL (aa (bL (aa ao (aa ao ag (se rfl)) (se rfl))) (aa (aD aE (aD aH (pv 3) ao (λ_ _=>rfl)) (aD aE (pv 1) (pv 2) (λ_ _=>rfl)) (λ_ _=>rfl)) ag (se rfl)) (se rfl))) ag (se rfl)))))
   ba)
  (au (aN (cV ag)))))),?_⟩
  refine(?_:let cy:TS:=_;let cz:TS:=_;let cA:TS:=_;let du:TS:=_;tSeq cy (tSeq cz (tSeq cA du)) _ _ _)
  intro cy cz cA du
  symm
  obtain⟨_,xs,e,ha,rl⟩:=aT.mp rb
  nofun
  clear G_
  cases e
  symm
  obtain⟨v,ev,rq⟩:=dq rl eb
  have av:eE xs (i:Int)=some v:=bE ev
  obtain⟨t,r,l,zs,rfl,ht,_,hl,rz⟩:=cN.mp rq
  nofun
  clear G_
  simp_all only[ha,av,ht]
  symm
  obtain⟨gw,l0,B5⟩:=pq
  have w3:=B5.1
  obtain⟨t1,t9⟩:=B5.tt
  nofun
  clear G_
  have JJ:Dg.tt ws=Wq.cm ws:=by unfold Dg.tt;rw[if_neg (λz=>by rw[z] at l0;cases l0)]
  have lx:=rz.length
  rw[aac] at lx
  refine⟨⟨_,bo.of hl⟩,?_⟩
  have S:Src (vj K l) (az H) ws.length (λi x H H3=>H3=H/\zs[i]?=some x):=by rw[lx];exact src_list (λH' s'=>bo.of (s' _ _ hl))
  refine gD ws (λp=>some p.1) S (λ_ _ _ _ h=>h.1) (by rw[sizeLine_eq];omega) ?_ ?_
  ·rintro i p x ep ⟨_,ex⟩
   symm
   obtain⟨tt,et,Hz⟩:=cJ rz ep
   nofun
   rw[ex] at et
   cases et
   refine⟨tt,_,_,rfl,dZ.of Hz,λY N y1 _=>?_⟩
   simp_all only[gA]
   exact y1 _ rfl
  intro D n1 n2
  rw[dR]
  refine⟨_,bo.of ar,_,ax n2 _ _ ht,_,rfl,_,rfl,⟨_,bo.of (ax n2 _ _ hl)⟩,?_⟩
  have s1:=ax (o:=.lst (List.map V.int (ws.map (·.1)))) n2
  have Ov:=s1 _ _ hl
  generalize upd H D (.lst (List.map V.int (ws.map (·.1))))=H1 at *
  refine eJ (K:=K) (src_list (Ok:=az H1) (λH' s'=>bo.of (s' _ _ Ov))) (λi u v H3=>∃p:Int×Int,ws[i]?=some p/\u=.int p.1/\v=.int p.2) (λi x H7 H8 hi s7 ⟨e,ex⟩=>?_) (by rw[sizeLine_eq];omega) (λi y H7=>∃p,ws[i]?=some p/\JB H7 (Wq.cm ws) p y) (λi y H7 H8 s8 ⟨p,e,r⟩=>⟨p,e,r.mono s8⟩) ?_ ?_
  ·subst e
   have sN:i<ws.length:=by have:=(List.getElem?_eq_some_iff.mp ex).1;omega
   symm
   obtain⟨tt,et,Hz⟩:=cJ rz (aad sN)
   nofun
   rw[ex] at et
   cases et
   exact⟨az.refl _,tt,_,_,rfl,dZ.of (s7 _ _ (s1 _ _ Hz)),_,aad sN,rfl,rfl⟩
  ·intro j u v H7 Q7 hj s7 dJ kq
   symm
   obtain⟨p,ep,rfl,rfl⟩:=dJ
   nofun
   simp_all only[tTupS,il]
   have W0:0< (List.map Prod.fst ws).sum:=by show 0<Wq.cm ws;omega
   have W1:(List.map Prod.fst ws).sum<=1000000:=by show Wq.cm ws<=1000000;omega
   exact⟨W0,Bt.mono (m:=20) (Bt.of 1000000 (by omega) (by omega)) (by decide),λp1 H8 s8 n8 e8=>⟨by decide,λp2 H9 s9 n9 e9=>kq _ _ (s8.trans s9) ⟨p,ep,p2,p1,rfl,e9,s9 _ _ e8⟩⟩⟩
  ·intro us H7 s7 lu hu D2 n3 n4
   refine kk D2 us _ (s1.trans (s7.trans (ax n4))) (none_of (s1.trans s7) n4) ar (by show us.length=ws.length;omega) λj p x ep ex=>?_
   symm
   obtain⟨p',e',r'⟩:=hu j x ex
   nofun
   have ep:ws[j]?=some p:=ep
   rw[ep] at e'
   cases e'
   exact r'.mono (ax n4)
theorem pC:aQ ["_law_board_here","_law_worths","_law_place","_law_what","_law_best_one","_law_to","_law_total","_law_part"] ["_law_board_here","_law_worths","_law_place"] (af (top 63)):=⟨rfl,rfl,rfl,by ac_rfl,rfl,by ac_rfl,by ac_rfl⟩
theorem Kz (T:Txt K mg aA tc):bU P w K mg base (bN P w) 3 "_law_by" ["_law_board_here","_law_worths","_law_place"] GW:=by
 have lO:bU P w K mg base (bN P w) 1 "_law_less" ["_law_one","_law_other"] BX:=HE T
 have u6:bU P w K mg base (bN P w) 2 "_law_ways" ["_law_board_here","_law_picks_here","_law_place"] ET:=Ky T
 have u7:bU P w K mg base (bN P w) 2 "_law_plus" ["_law_one","_law_other"] BI:=Hn T
 have sY:bU P w K mg base (bN P w) 2 "_law_times" ["_law_one","_law_other"] BJ:=Ho T
 refine T.yW.d3 (λ_ _ _ _ _ _=>pS λ_ _ _=>rfl) λf fd F=>F.d5 pC (λvs H Q E h=>?_) (λcG A outer s H vs Q E hr h=>?_)
 ·obtain⟨_,_,_,_,_,_,rfl,_⟩:=h;rfl
 ·symm
  obtain⟨a,c,i,b,S,q,rfl,rb,rw_,eb,gq,dg,z,kk⟩:=h
  nofun
  clear G_
  have nd:=pC.nd
  refine⟨_,(ae (aF (i:=3) nd rfl (Or.inl rfl) (aD aE (pv 0) (pv 2) (λ_ _=>rfl)))
  (ae (bF (aO cL (aD aH (pv 3) ao (λ_ _=>rfl)) cK (aS _)) (au (aN (aD aH (pv 3) ao (λ_ _=>rfl))))
   ba)
  (ae (bF (aO cL (aD aH (pv 3) ao (λ_ _=>rfl)) cK (aS _)) (ae (aF (i:=4) nd rfl (Or.inl rfl) (aD aE (pv 1) (aD aE (aD aH (pv 3) ao (λ_ _=>rfl)) ao (λ_ _=>rfl)) (λ_ _=>rfl)))
  (ae (cu PassesOwn.never rfl (bj (K:=K) (aD aH (pv 3) ao (λ_ _=>rfl))) (aG (i:=5) nd rfl (Or.inl rfl)) (au (bF (PW.pt (pw_or (PW.pt (pw_and (aO cL (aD aH (pv 3) ao (λ_ _=>rfl)) ao (aS _)) (pw_and1 (di (aK lO (hr.mono (by decide)) rfl aB.pass (aa (pv 4) (aa (aD aE (pv 1) (pv 5) (λ_ _=>rfl)) ag (se rfl)) (se rfl)) (he:=se rfl) (hpl:=na rfl)))))) (pw_or1 (PW.pt (pw_and (aO cL (aD aH (pv 3) ao (λ_ _=>rfl)) ao (aS _)) (pw_and1 (di (aK lO (hr.mono (by decide)) rfl aB.pass (aa (aD aE (pv 1) (pv 5) (λ_ _=>rfl)) (aa (pv 4) ag (se rfl)) (se rfl)) (he:=se rfl) (hpl:=na rfl))))))))) (au (aF (i:=4) nd rfl (Or.inl rfl) (aD aE (pv 1) (pv 5) (λ_ _=>rfl))))
   ba)))
  (au (aN (pv 4)))))
   ba)
  (ae (aF (i:=6) nd rfl (Or.inl rfl) (aD aH (pv 3) ao (λ_ _=>rfl)))
  (ae (cu PassesOwn.never rfl (bj (K:=K) (aK u6 (hr.mono (by decide)) rfl aB.pass (aa (pv 0) (aa (cV ag) (aa (pv 2) ag (se rfl)) (se rfl)) (se rfl)) (he:=se rfl) (hpl:=na rfl))) (bX (K:=K) (n:=2) rfl (aU (aG (i:=7) nd rfl (Or.inl rfl)) (aU (aG (i:=5) nd rfl (Or.inl rfl)) bV))) (au (aF (i:=6) nd rfl (Or.inl rfl) (aK u7 (hr.mono (by decide)) rfl aB.pass (aa (pv 6) (aa (aK sY (hr.mono (by decide)) rfl aB.pass (aa (pv 7) (aa (aD aE (pv 1) (pv 5) (λ_ _=>rfl)) ag (se rfl)) (se rfl)) (he:=se rfl) (hpl:=na rfl)) ag (se rfl)) (se rfl)) (he:=se rfl) (hpl:=na rfl)))))
  (au (aN (pv 6)))))))),?_⟩
  refine(?_:let cy:TS:=_;let cz:TS:=_;let cA:TS:=_;let du:TS:=_;let iy:TS:=_;let yd:TS:=_;tSeq cy (tSeq cz (tSeq cA (tSeq du (tSeq iy yd)))) _ _ _)
  intro cy cz cA du iy yd
  have rb':=rb
  symm
  obtain⟨_,xs,e,ha,rl⟩:=aT.mp rb
  nofun
  clear G_
  cases e
  symm
  obtain⟨_,ys,e,hc,rc⟩:=aT.mp rw_
  nofun
  clear G_
  cases e
  have ly:=rc.length
  rw[aac] at ly
  symm
  obtain⟨v,ev,rv⟩:=dq rl eb
  have av:eE xs (i:Int)=some v:=bE ev
  have Xe:(bY S).length=b.length:=by unfold bY;rw[aac,z.len]
  obtain⟨W,hW⟩:∃W:Int,W=2^1900:=⟨_,rfl⟩
  nofun
  clear G_
  have W0:0<=W:=by rw[hW];exact Int.pow_nonneg (by decide)
  have bW:Bt 1901 W:=by
   unfold Bt
   rw[hW,Int.natAbs_pow]
   exact Nat.pow_lt_pow_right (by decide) (by decide)
  have S0:=z.pos
  have at_:∀x:Int,0<=x->x< (b.length:Nat)->∃p,eE ys x=some (V.ref p)/\H p=some (.tup (Pr (Wq.b8 (bY S) x).1 (Wq.b8 (bY S) x).2))/\zi S.2 W (Wq.b8 (bY S) x):=λx x0 x1=>by
   symm
   obtain⟨e,sh,_⟩:=d9 z x0 x1
   obtain⟨p,ep,hp⟩:=cJ rc e
   nofun
   have:=bE ep
   rw[abj x0] at this
   exact⟨p,this,hp,by rw[hW];exact sh⟩
  have KA:∀x:Int,0<=x->x< (b.length:Nat)->Rm (Wq.b8 (bY S) x):=λx x0 x1=>by
   symm
   obtain⟨_,_,_,sh⟩:=at_ x x0 x1
   nofun
   exact sh.rm S0 (z.bb.mono (by decide)) W0 (bW.mono (by decide))
  cases q with
  | fin g=>
   symm
   obtain⟨t',r,e,lJ,y9⟩:=cX.mp rv
   nofun
   cases e
   simp_all only[ha,av,lJ]
   exact kk _ _ (az.refl _) y9
  | dA g eW=>
   symm
   obtain⟨t',r,m,zs,e,lJ,y9,hm,rz⟩:=cN.mp rv
   nofun
   clear G_
   cases e
   simp_all only[ha,av,lJ,hc]
   rw[if_neg (by ac_rfl),if_neg (by ac_rfl)]
   have gq0:=gq
   symm
   obtain⟨gg,l0,B5⟩:=gq
   have JJ:Dg.tt eW=Wq.cm eW:=by unfold Dg.tt;rw[if_neg (λz=>by rw[z] at l0;cases l0)]
   obtain⟨t1,t9⟩:=B5.tt
   nofun
   clear G_
   rw[JJ] at t1 t9
   have dgZ:g.2∣S.2:=dg
   have w5:=B5.1
   refine⟨aas _,λp np=>⟨a,.ref p,i,b,b.length,g,eW,rfl,rb'.mono (ax np),eb,gq0,λwl us H1 s1 nl hw lu hu=>⟨wl,rfl,⟨_,bo.of hw⟩,?_⟩⟩⟩
   have Mr:=(ax (o:=.lst []) np).trans s1
   have wge:∀x∈eW,x.1<=Wq.cm eW:=λx hx=>by rw[<-JJ];exact JE (λy hy=>(B5.2 y hy).1) hx
   have Ow:=B5.2
   have kk':∀r H',az H H'->H' r=some (.tup (Pr (Wq.jg (Wq.cm eW) (Wq.b8 (bY S)) g eW).1 (Wq.jg (Wq.cm eW) (Wq.b8 (bY S)) g eW).2))->Q (.ref r) H':=kk
   generalize hd:Wq.cm eW=d at *
   have bd:Bt 20 d:=Bt.of 1000000 (by omega) (by omega)
   have Xf:Bt 1950 (S.2*d):=(z.bb.mul bd).mono (by decide)
   have Xg:0<S.2*d:=aaE S0 (by omega)
   have bM:∀j:Nat,j<=5->Bt 1950 ((2:Int)^40+ (j:Int)*W)/\0<=(2:Int)^40+ (j:Int)*W:=λj hj=>by
    have b1:Bt 1904 ((2:Int)^40):=Bt.mono (m:=41) (Bt.of (2^40) (by decide) (by decide)) (by decide)
    have b2:Bt 1904 ((j:Int)*W):=(Bt.of (n:=3) 5 (by omega) (by omega)).mul bW
    have:0<=(j:Int)*W:=Int.mul_nonneg (by omega) W0
    exact⟨(b1.add b2).mono (by decide),by omega⟩
   refine bP (src_list (K:=K) (a:=wl) (xs:=us) (Ok:=az H1) (λH' s=>bo.of (s _ _ hw))) (λj σ H8=>az H1 H8/\∃(r:Addr) (x:Wq.Sh) (z5 z7:Option V),H8 r=some (.tup (Pr x.1 x.2))/\Wq.jg d (Wq.b8 (bY S)) x (eW.drop j)=Wq.jg d (Wq.b8 (bY S)) g eW/\zi (S.2*d) ((2:Int)^40+ (j:Int)*W) x/\σ=[some (V.ref a),some (V.ref c),some (V.int (i:Int)),some (V.ref t'),none,z5,some (V.ref r),z7]) ⟨az.refl _,r,g,_,_,Mr _ _ y9,rfl,⟨gg.2.2,Int.dvd_trans dgZ (Int.dvd_mul_right _ _),by have:=JF gg;rw[show((0:Nat):Int)*W=0 by omega,Int.add_zero];exact this⟩,rfl⟩ (λ_ _ _ _ h=>h.1) ?_ ?_
   ·intro j y σ H8 H9 hj dI dJ
    symm
    obtain⟨s8,r,x,z5,z7,Ox,ts,sx,rfl⟩:=dI
    obtain⟨rfl,ey⟩:=dJ
    have DO:j<eW.length:=by omega
    have ej:eW[j]?=some eW[j]:=aad DO
    obtain⟨t,r',rfl,ht,uZ⟩:=hu j _ _ ej ey
    rw[List.drop_eq_getElem_cons DO] at ts
    have mj:=aan DO
    have wj:=Ow _ mj
    have gej:=wge _ mj
    obtain⟨pw,Ms,Hm,sy⟩:=at_ (eW[j]).2 wj.2.2.1 wj.2.2.2
    nofun
    clear G_
    generalize eW[j]=y at *
    obtain⟨a1,a2⟩:=zi.acc (w:=y.1) (N:=(2:Int)^40+ (j:Int)*W) sx sy S0 (by omega) (by omega) gej W0
    obtain⟨m1,m2⟩:=bM j (by omega)
    refine⟨t,_,rfl,dZ.of (s8 _ _ ht),rfl,?_⟩
    simp_all only[BI,BJ]
    refine⟨_,(Mr.trans s8) _ _ hc,_,Ms,pw,rfl,_,s8 _ _ uZ,_,(Mr.trans s8) _ _ Hm,GH (by omega) (by omega) (by omega) (by omega),sy.rm S0 (z.bb.mono (by decide)) W0 (bW.mono (by decide)),λr1 Cu Hx Kx h10=>⟨_,Hx _ _ Ox,_,h10,sx.rm Xg Xf m2 m1,a1.rm Xg Xf W0 (bW.mono (by decide)),λr2 W7 Ij Ik Mq=>⟨s8.trans (Hx.trans Ij),r2,_,Mq,ts,?_,rfl,_,rfl⟩⟩⟩
    rw[show((j+1:Nat):Int)*W=(j:Int)*W+W by rw[Int.natCast_add,Int.add_mul];omega,<-Int.add_assoc]
    exact a2
   ·intro σ H8 bH
    symm
    obtain⟨s8,r,x,z5,z7,Ox,ts,sx,rfl⟩:=bH
    rw[lu,List.drop_length] at ts
    have ts:x=Wq.jg d (Wq.b8 (bY S)) g eW:=ts
    subst ts
    nofun
    simp_all only[]
    exact kk' _ _ (Mr.trans s8) Ox
  | cD br to=>
   symm
   obtain⟨t',m,e,lJ,hm⟩:=cH.mp rv
   nofun
   cases e
   simp_all only[ha,av,lJ,hc,hm]
   rw[if_neg (by ac_rfl)]
   symm
   obtain⟨hw,l0,l5,gs⟩:=gq
   have m0:to.getD 0 0∈to:=by
    cases to with
    | nil=>simp at l0
    | cons x y=>simp
   have a0:eE (to.map V.int) 0=some (V.int (to.getD 0 0)):=dC (ns:=to) (i:=0) (by decide) (by omega)
   obtain⟨p0,ap0,EI,_⟩:=at_ (to.getD 0 0) (gs _ m0).1 (gs _ m0).2
   nofun
   refine⟨_,a0,_,_,rfl,rfl,_,ap0,⟨_,bo.of hm⟩,?_⟩
   refine bP (src_list (Ok:=λH'=>H'=H) (λH2 s2=>by rw[s2];exact bo.of hm)) (λj σ H'=>H'=H/\∃r' z,H r'=some (.tup (Pr (Wq.c4 br (bY S) (Wq.b8 (bY S) (to.getD 0 0)) (to.take j)).1 (Wq.c4 br (bY S) (Wq.b8 (bY S) (to.getD 0 0)) (to.take j)).2))/\σ=[some (V.ref a),some (V.ref c),some (V.int (i:Int)),some (V.ref t'),some (V.ref r'),z,none,none]) ⟨rfl,p0,_,EI,rfl⟩ (λ_ _ _ _ h=>h.1) ?_ ?_
   ·intro j v σ H1 H2 hj dI dJ
    symm
    obtain⟨rfl,r',z,uZ,rfl⟩:=dI
    obtain⟨rfl,ex⟩:=dJ
    rw[aaf] at ex
    obtain⟨x,Oy,rfl⟩:=Option.map_eq_some_iff.mp ex
    have gx:=gs x (aag Oy)
    obtain⟨p',ap,ia,_⟩:=at_ x gx.1 gx.2
    nofun
    simp_all only[BX,lJ,hc,ap]
    have tk:to.take (j+1)=to.take j++ [x]:=by rw[aaF,Oy];rfl
    have KA:∀t∈to,Rm (Wq.b8 (bY S) t):=λt ht=>KA t (gs t ht).1 (gs t ht).2
    have rB:Rm (Wq.c4 br (bY S) (Wq.b8 (bY S) (to.getD 0 0)) (to.take j)):=Wq.uq (KA _ m0) λt ht=>KA t (List.mem_of_mem_take ht)
    have rX:=KA x (aag Oy)
    rw[tk,Wq.qG]
    rcases hw with rfl | rfl
    ·rw[if_pos rfl]
     refine⟨_,uZ,_,ia,rB,rX,?_⟩
     by_cases cc:Wq.eV (Wq.c4 1 (bY S) (Wq.b8 (bY S) (to.getD 0 0)) (to.take j)) (Wq.b8 (bY S) x)=true
     ·rw[if_pos cc,if_pos (.inl ⟨rfl,cc⟩)]
      exact⟨p',ia,rfl,_,rfl⟩
     ·have Mp:¬((1:Int)=2):=by decide
      have nb:¬(((1:Int)=1/\Wq.eV (Wq.c4 1 (bY S) (Wq.b8 (bY S) (to.getD 0 0)) (to.take j)) (Wq.b8 (bY S) x)=true)\/((1:Int)=2/\Wq.eV (Wq.b8 (bY S) x) (Wq.c4 1 (bY S) (Wq.b8 (bY S) (to.getD 0 0)) (to.take j))=true)):=λh=>h.elim (λz=>cc z.2) λz=>Mp z.1
      rw[if_neg cc,if_neg Mp,if_neg nb]
      exact⟨r',uZ,rfl,_,rfl⟩
    ·rw[if_neg (by decide),if_pos rfl]
     refine⟨_,ia,_,uZ,rX,rB,?_⟩
     by_cases cc:Wq.eV (Wq.b8 (bY S) x) (Wq.c4 2 (bY S) (Wq.b8 (bY S) (to.getD 0 0)) (to.take j))=true
     ·rw[if_pos cc,if_pos (.inr ⟨rfl,cc⟩)]
      exact⟨p',ia,rfl,_,rfl⟩
     ·rw[if_neg cc,if_neg (by rintro(⟨z,_⟩ | ⟨_,z⟩);exact absurd z (by decide);exact cc z)]
      exact⟨r',uZ,rfl,_,rfl⟩
   ·intro σ H2 bH
    symm
    obtain⟨rfl,r',z,uZ,rfl⟩:=bH
    nofun
    simp_all only[]
    rw[aaH (by rw[aac];omega)] at uZ
    exact kk _ _ (az.refl _) uZ
theorem ja:aQ ["_law_board_here","_law_found","_law_worths","_law_picks_here","_law_place","_law_tos","_law_first"] ["_law_board_here","_law_found"] (af (top 64)):=⟨rfl,rfl,rfl,by ac_rfl,rfl,by ac_rfl,by ac_rfl⟩
theorem HF (T:Txt K mg aA tc):bU P w K mg base (bN P w) 4 "_law_holds" ["_law_board_here","_law_found"] sR:=by
 have ze:bU P w K mg base (bN P w) 3 "_law_by" ["_law_board_here","_law_worths","_law_place"] GW:=Kz T
 have j7:bU P w K mg base (bN P w) 3 "_law_are_shares" ["_law_found","_law_many"] BL:=Hq T
 refine T.rV.d3 (λ_ _ _ _ _ _=>d6 λ_ _=>rfl) λf fd F=>F.d5 ja (λvs H Q E h=>?_) (λcG A outer s H vs Q E hr h=>?_)
 ·obtain⟨_,_,_,_,_,_,_,_,rfl,_⟩:=h;rfl
 ·symm
  obtain⟨a,t,l1,l2,b,rk,S,ks,rfl,rb,B,ht,r1,h2,z,L8,bq,bp,lk,kk⟩:=h
  nofun
  clear G_
  have nd:=ja.nd
  refine⟨_,(ae (bF (PW.pt (pw_or (gh (di (aP (dk (K:=K)) (by rfl) T.z_isinstance rfl (aa (pv 1) (aa (fh (v:=V.ty "tuple") rfl T.z_tuple rfl rfl) ag (se rfl)) (se rfl)) (he:=se rfl) (hpl:=na rfl)))) (pw_or (aO iU (aP qr (by rfl) T.z_len aat (aa (pv 1) ag (se rfl)) (he:=se rfl) (hpl:=na rfl)) ao (aS _)) (pw_or1 (gh (di (aK j7 (hr.mono (by decide)) rfl aB.pass (aa (aD aH (pv 1) ao (λ_ _=>rfl)) (aa (aP bB (by rfl) T.z_len aat (aa (pv 0) ag (se rfl)) (he:=se rfl) (hpl:=na rfl)) ag (se rfl)) (se rfl)) (he:=se rfl) (hpl:=na rfl)))))))) (au (aN gL))
   ba)
  (ae (eM (pv 1) (bX (K:=K) (n:=2) rfl (aU (aG (i:=2) nd rfl (Or.inr rfl)) (aU (aG (i:=3) nd rfl (Or.inl rfl)) bV))))
  (ae (bF (PW.pt (pw_or (gh (di (aP (dk (K:=K)) (by rfl) T.z_isinstance rfl (aa (pv 3) (aa (fh (v:=V.ty "list") rfl T.z_list rfl rfl) ag (se rfl)) (se rfl)) (he:=se rfl) (hpl:=na rfl)))) (pw_or1 (aO iU (aP bB (by rfl) T.z_len aat (aa (pv 3) ag (se rfl)) (he:=se rfl) (hpl:=na rfl)) (aP bB (by rfl) T.z_len aat (aa (pv 0) ag (se rfl)) (he:=se rfl) (hpl:=na rfl)) (aS _))))) (au (aN gL))
   ba)
  (ae (cu PassesOwn.never rfl (c6 rfl T.z_range (aa (aP bB (by rfl) T.z_len aat (aa (pv 0) ag (se rfl)) (he:=se rfl) (hpl:=na rfl)) ag (se rfl))) (aG (i:=4) nd rfl (Or.inr rfl)) (ae (bF (aO (yL hr.vG) (aD aE (pv 2) (pv 4) (λ_ _=>rfl)) (aK ze (hr.mono (by decide)) rfl aB.pass (aa (pv 0) (aa (pv 2) (aa (pv 4) ag (se rfl)) (se rfl)) (se rfl)) (he:=se rfl) (hpl:=na rfl)) (aS _)) (au (aN gL))
   ba)
  (au (bF (aO iU (aD aH (aD aE (pv 0) (pv 4) (λ_ _=>rfl)) ao (λ_ _=>rfl)) cK (aS _)) (au (bF (aO wQ (aD aE (pv 3) (pv 4) (λ_ _=>rfl)) eL (aS _)) (au (aN gL))
   ba))
   (ae (aF (i:=5) nd rfl (Or.inr rfl) (aD aH (aD aE (pv 0) (pv 4) (λ_ _=>rfl)) ao (λ_ _=>rfl)))
  (ae (aF (i:=6) nd rfl (Or.inl rfl) (aD aE (bO rfl (N:=["_law_board_here","_law_found","_law_worths","_law_picks_here","_law_place","_law_tos","_law_first"]) (so:=af (top 64)) (N':=["_law_k","_law_worths","_law_place","_law_tos"]) (k:=1) (fr:=[2,4,5]) rfl rfl ⟨rfl,by ac_rfl,by ac_rfl,by ac_rfl,rfl,by ac_rfl,by ac_rfl⟩ (c6 rfl T.z_range (aa (aP bB (by rfl) T.z_len aat (aa (pv 5) ag (se rfl)) (he:=se rfl) (hpl:=na rfl)) ag (se rfl))) (λ_ _ _ _ _=>(aG (i:=0) (show(["_law_k","_law_worths","_law_place","_law_tos"]:List Str).Nodup by ac_rfl) rfl (Or.inl rfl))) (λ_ _ _ _ _=>(jI (aO (qt hr.vG) (aD aE (pv 1) (aD aE (pv 3) (pv 0) (λ_ _=>rfl)) (λ_ _=>rfl)) (aD aE (pv 1) (pv 2) (λ_ _=>rfl)) (aS _))))
   (λ_ _ _ _ _=>(pv 0))) ao (λ_ _=>rfl)))
  (au (bF (PW.pt (pw_or (gh (di (aP (dk (K:=K)) (by rfl) T.z_isinstance rfl (aa (aD aE (pv 3) (pv 4) (λ_ _=>rfl)) (aa (fh (v:=V.ty "int") rfl T.z_int rfl rfl) ag (se rfl)) (se rfl)) (he:=se rfl) (hpl:=na rfl)))) (pw_or (di (aP (dk (K:=K)) (by rfl) T.z_isinstance rfl (aa (aD aE (pv 3) (pv 4) (λ_ _=>rfl)) (aa (fh (v:=V.ty "bool") rfl T.z_bool rfl rfl) ag (se rfl)) (se rfl)) (he:=se rfl) (hpl:=na rfl))) (pw_or1 (aO iU (aD aE (pv 3) (pv 4) (λ_ _=>rfl)) (pv 6) (aS _)))))) (au (aN gL))
   ba))))))))
  (au (aN gL)))))),?_⟩
  refine(?_:let cy:TS:=_;let cz:TS:=_;let cA:TS:=_;let du:TS:=_;let iy:TS:=_;tSeq cy (tSeq cz (tSeq cA (tSeq du iy))) _ _ _)
  intro cy cz cA du iy
  have sl:=sizeLine_eq
  have WS:=B.len
  symm
  obtain⟨_,xb,e,ha,rl⟩:=aT.mp rb
  nofun
  clear G_
  cases e
  have lx:=rl.length
  rw[aac] at lx
  symm
  obtain⟨_,xw,e,hl,Ed⟩:=aT.mp r1
  nofun
  clear G_
  cases e
  have Xe:(bY S).length=b.length:=by unfold bY;rw[aac,z.len]
  have lxw:=Ed.length
  rw[aac,Xe] at lxw
  have are:∀p∈bY S,0<p.2/\Bt 5000 p.2/\Nm.g p.1 p.2=1:=λp hp=>by
   have h:=nA z p hp
   exact⟨h.1.1,Bt.mono (z.bb.le (by have:=abe z.pos h.2.1;have:=h.1.1;omega)) (by decide),h.1.2⟩
  change tSeq _ _ _ _ _
  refine aR (λσ' H1=>az H H1/\σ'=[some (.ref a),some (.ref t),none,none,none,none,none]) ?_ (λN hN=>?_)
  case refine_2=>
   simp_all only[ht,BL]
   refine⟨_,fc.tup ht,_,Ab,?_⟩
   rw[if_neg (by decide),if_neg (λh=>h rfl)]
   refine⟨_,ha,bY S,by omega,r1,by omega,are,λH1 s1=>?_⟩
   rw[if_neg (by decide)]
   exact hN _ _ ⟨s1,rfl⟩
  rintro _ H1 ⟨s1,rfl⟩
  change tSeq _ _ _ _ _
  refine aR (λσ' H2=>H1=H2/\σ'=[some (.ref a),some (.ref t),some (.ref l1),some (.ref l2),none,none,none]) ?_ (λN hN=>?_)
  case refine_2=>
   simp_all only[]
   refine⟨t,_,rfl,dZ.of (s1 _ _ ht),rfl,?_⟩
   simp_all only[]
   exact hN _ _ ⟨rfl,rfl⟩
  rintro _ _ ⟨rfl,rfl⟩
  change tSeq _ _ _ _ _
  refine aR (λσ' H2=>H1=H2/\σ'=[some (.ref a),some (.ref t),some (.ref l1),some (.ref l2),none,none,none]) ?_ (λN hN=>?_)
  case refine_2=>
   simp_all only[s1 _ _ h2,s1 _ _ ha]
   refine⟨_,fc.lst (s1 _ _ h2),_,Ac,?_⟩
   rw[if_neg (by decide),if_neg (λh=>h (by rw[aac];omega))]
   exact hN _ _ ⟨rfl,rfl⟩
  rintro _ _ ⟨rfl,rfl⟩
  change tSeq _ _ _ _ _
  refine aR (λσ' H2=>az H H2/\∃z4 z5 z6,σ'=[some (.ref a),some (.ref t),some (.ref l1),some (.ref l2),z4,z5,z6]) ?_ (λN hN=>?_)
  case refine_2=>
   simp_all only[]
   refine⟨_,s1 _ _ ha,by omega,by omega,bP (src_range (Ok:=λ_=>True)) (λi σ H'=>az H H'/\∃z4 z5 z6,σ=[some (.ref a),some (.ref t),some (.ref l1),some (.ref l2),z4,z5,z6]) ⟨s1,_,_,_,rfl⟩ (λ_ _ _ _ _=>trivial) ?_ ?_⟩
   ·intro p x σ H4 H5 hi dI dJ
    symm
    obtain⟨s4,z4,z5,z6,rfl⟩:=dI
    obtain⟨rfl,rfl⟩:=dJ
    have hp:p<b.length:=by have:p< ((xb.length:Nat):Int).toNat:=hi;omega
    have eb:b[p]?=some b[p]:=aad hp
    have pq:=B.ok _ (aan hp)
    have rg:=B.gP.good.lP _ (aan hp)
    have dg:(Wq.dt b[p]).2∣S.2:=Int.dvd_trans (B.bot.2.2 _ (aan hp)) L8
    have fit:=GU B z L8 eb (bq p hp)
    have ekp:=bp p _ eb
    obtain⟨Xh,lG,_⟩:=d9 z (q:=(p:Int)) (by omega) (by omega)
    rw[aak] at Xh
    obtain⟨pw,epw,Hm⟩:=cJ Ed Xh
    have Ms:eE xw (p:Int)=some (.ref pw):=bE epw
    have Il:eE (List.map fC ks) (p:Int)=some (fC (GP (bY S) p b[p])):=ie (f:=fC) ekp
    obtain⟨v,ev,rv⟩:=dq rl eb
    nofun
    clear G_
    have av:eE xb (p:Int)=some v:=bE ev
    generalize b[p]=q at *
    simp only[Int.zero_add]
    change tSeq _ _ _ _ _
    refine aR (λσ' H6=>az H H6/\σ'=[some (.ref a),some (.ref t),some (.ref l1),some (.ref l2),some (.int (p:Int)),z5,z6]) ?_ (λN hN=>?_)
    case refine_2=>
     simp_all only[GW]
     refine⟨_,s4 _ _ hl,_,Ms,p,rfl,b,rb.mono s4,S,r1.mono s4,q,eb,pq,dg,z,λr H6 s6 hr=>?_⟩
     rw[fit] at hr
     refine⟨pw,rfl,_,(s4.trans s6) _ _ Hm,_,hr,rfl,rfl,?_⟩
     rw[if_neg (λzz=>by rw[show HP _ [V.int (Wq.b8 (bY S) (p:Int)).1,V.int (Wq.b8 (bY S) (p:Int)).2]=true from nZ _ _] at zz;cases zz)]
     exact hN _ _ ⟨s4.trans s6,rfl⟩
    rintro _ H6 ⟨s6,rfl⟩
    cases q with
    | fin g=>
     symm
     obtain⟨t',r,rfl,lJ,_⟩:=cX.mp rv
     nofun
     simp_all only[s6 _ _ ha,av,s6 _ _ lJ,s6 _ _ h2,Il]
     rw[if_pos (by ac_rfl),if_neg (λh=>h rfl)]
     exact⟨s6,_,rfl⟩
    | dA g ws=>
     symm
     obtain⟨t',r,l',zs,rfl,lJ,_⟩:=cN.mp rv
     nofun
     simp_all only[s6 _ _ ha,av,s6 _ _ lJ,s6 _ _ h2,Il]
     rw[if_pos (by ac_rfl),if_neg (λh=>h rfl)]
     exact⟨s6,_,rfl⟩
    | cD br to=>
     symm
     obtain⟨t',l',rfl,lJ,tD⟩:=cH.mp rv
     nofun
     clear G_
     simp_all only[s6 _ _ ha,av,s6 _ _ lJ,s6 _ _ h2,Il,s6 _ _ tD]
     rw[if_neg (λh=>h trivial)]
     have lto:(List.map V.int to).length=to.length:=aac ..
     have l4:=pq.2.2.1
     symm
     obtain⟨⟨tm,Oz,etm⟩,_⟩:=bq p hp _ eb
     nofun
     clear G_
     have mem:Wq.b8 (bY S) (p:Int)∈to.map (Wq.b8 (bY S)):=by
      symm
      obtain⟨_,sm,vm⟩:=d9 z (q:=tm) (rg tm Oz).1 (rg tm Oz).2
      obtain⟨_,_,vp⟩:=d9 z (q:=(p:Int)) (by omega) (by omega)
      nofun
      exact List.mem_map.mpr ⟨tm,Oz,Dg.kL sm.1 lG.1 (by rw[vm,vp];exact etm.symm)⟩
     have ff:=BW mem
     rw[aac] at ff
     refine⟨by omega,by omega,?_⟩
     have S':Src (HM 0 (((List.map V.int to).length:Nat):Int).toNat) (az H6) (List.range to.length).length (λi x H H3=>H3=H/\x=.int (0+ (i:Int))):=by
      rw[lto,aak,aay]
      exact src_range
     refine dm (List.range to.length) (λk=>if (to.map (Wq.b8 (bY S))).getD k (0,1)=Wq.b8 (bY S) (p:Int) then some (k:Int) else none) S' (λ_ _ _ _ h=>h.1) (by rw[aay];omega) ?_ ?_
     ·rintro i k x ek ⟨_,ex⟩ Y N y1 n1
      have hk:i<to.length:=by have:=(List.getElem?_eq_some_iff.mp ek).1;rwa [aay] at this
      rw[aaR hk] at ek
      cases ek
      have Xi:to[i]?=some to[i]:=aad hk
      have mi:=aan hk
      symm
      obtain⟨gi,si,_⟩:=d9 z (q:=to[i]) (rg _ mi).1 (rg _ mi).2
      obtain⟨pi,epi,hpi⟩:=cJ Ed gi
      nofun
      clear G_
      have api:eE xw to[i]=some (.ref pi):=by
       have:=bE epi
       rwa [abj (rg _ mi).1] at this
      have ati:eE (to.map V.int) (i:Int)=some (.int to[i]):=ie (f:=V.int) Xi
      rw[Int.zero_add] at ex
      have gd:(to.map (Wq.b8 (bY S))).getD i (0,1)=Wq.b8 (bY S) to[i]:=by rw[aae,aaf,Xi];rfl
      rw[gd] at y1 n1
      generalize to[i]=ti at *
      cases ex
      simp_all only[gA]
      refine⟨_,s6 _ _ tD,_,ati,xw,ti,rfl,s6 _ _ hl,_,api,_,s6 _ _ hl,_,Ms,pi,rfl,pw,rfl,_,s6 _ _ hpi,_,s6 _ _ Hm,rfl,rfl,?_⟩
      by_cases ce:Wq.b8 (bY S) ti=Wq.b8 (bY S) (p:Int)
      ·rw[ce,if_pos (nZ _ _)]
       exact y1 _ (if_pos ce)
      ·rw[if_neg (λzz=>ce (by
        have e:=Ae (Wq.b8 (bY S) ti).1 (Wq.b8 (bY S) ti).2 (Wq.b8 (bY S) (p:Int)).1 (Wq.b8 (bY S) (p:Int)).2
        rw[show HP _ _=true from zz] at e
        simp at e
        exact Prod.ext e.1 e.2))]
       exact n1 (if_neg ce)
     ·intro D n1 n2
      have sD:=ax (H:=H6) (o:=.lst (List.map V.int ((List.range to.length).filterMap λk=>if (to.map (Wq.b8 (bY S))).getD k (0,1)=Wq.b8 (bY S) (p:Int) then some (k:Int) else none))) n2
      have hD:upd H6 D (.lst (List.map V.int ((List.range to.length).filterMap λk=>if (to.map (Wq.b8 (bY S))).getD k (0,1)=Wq.b8 (bY S) (p:Int) then some (k:Int) else none))) D=some _:=ar
      generalize upd H6 D (.lst (List.map V.int ((List.range to.length).filterMap λk=>if (to.map (Wq.b8 (bY S))).getD k (0,1)=Wq.b8 (bY S) (p:Int) then some (k:Int) else none)))=H7 at *
      have at0:=ie (f:=V.int) (i:=0) ff
      have OA:=(s6.trans sD) _ _ h2
      refine⟨_,hD,_,at0,_,OA,_,Il,_,fc.int _,_,Aa,?_⟩
      rw[if_neg (by decide)]
      refine⟨_,OA,_,Il,_,fc.int _,_,Ad,?_⟩
      rw[if_neg (by decide)]
      refine⟨_,OA,_,Il,rfl,?_⟩
      rw[if_neg (λh=>h rfl)]
      exact⟨s6.trans sD,_,rfl⟩
   ·intro σ H4 bH
    symm
    obtain⟨s4,z4,z5,z6,rfl⟩:=bH
    nofun
    exact hN _ _ ⟨s4,z4,z5,z6,rfl⟩
  intro _ H2 bH
  symm
  obtain⟨s2,z4,z5,z6,rfl⟩:=bH
  nofun
  simp_all only[]
  exact kk _ s2
theorem kW {H:Hp} {t l1 l2:Addr} {d1 d2:Dat} (h:H t=some (.tup [.ref l1,.ref l2])) (r1:Rep H d1 (.ref l1)) (r2:Rep H d2 (.ref l2)):Rep H (.tup [d1,d2]) (.ref t):=by
 rw[Rep]
 exact⟨t,_,rfl,h,_,_,rfl,r1,_,_,rfl,r2,rfl⟩
theorem pE (ws:List Wq.Sh) (ks:List (Option Int)):depth (.tup [.lst (ws.map bC),.lst (ks.map Ge)])<=40:=by
 have h1:=eP (ds:=ws.map bC) (n:=1) λd hd=>by obtain⟨p,_,rfl⟩:=List.mem_map.mp hd;rw[gE];exact aah _
 have h2:=eP (ds:=ks.map Ge) (n:=0) λd hd=>by
  obtain⟨p,_,rfl⟩:=List.mem_map.mp hd
  cases p <;>exact aah _
 show 1+max (1+depth.dL (ws.map bC)) (max (1+depth.dL (ks.map Ge)) 0)<=40
 omega
theorem Ca:aQ ["_law_script","_law_n","_law_board_here","_law_handed","_law_found","_law_kept","_law_other"] ["_law_script"] (af (top 65)):=⟨rfl,rfl,rfl,by ac_rfl,rfl,by ac_rfl,by ac_rfl⟩
theorem HG (T:Txt K mg aA tc) (LB:pO base mg tc tp) {f:Addr} {fd:FuncData} (F:vO K "law" "law" (top 65) f fd):eD P w K mg base (bN P w) 8 f fd ["_law_script"] (x8 K tp):=by
 have dY:bU P w K mg base (bN P w) 1 "_law_cell" ["_law_script","_law_k"] (GF K):=yg T
 have sZ:bU P w K mg base (bN P w) 3 "_law_board" ["_law_script","_law_at","_law_n"] (EO K):=Hv T
 have u9:bU P w K mg base (bN P w) 1 "_law_copy" ["_law_board_here"] wD:=Hu T
 have j8:bU P w K mg base (bN P w) 4 "_law_holds" ["_law_board_here","_law_found"] sR:=HF T
 have tj:bU P w K mg base (bN P w) 7 "best" ["board"] (qQ tp):=Kr T LB
 refine F.d5 Ca (λvs H Q E h=>?_) (λcG A outer s H vs Q E hr h=>?_)
 ·obtain⟨_,_,rfl,_⟩:=h;rfl
 ·symm
  obtain⟨sa,ns,rfl,lE,hS,hlen,kk⟩:=h
  nofun
  clear G_
  have nd:=Ca.nd
  refine⟨_,(ae (aF (i:=1) nd rfl (Or.inl rfl) (aI bA ao (aI c7 (aK dY (hr.mono (by decide)) rfl aB.pass (aa (pv 0) (aa ao ag (se rfl)) (se rfl)) (he:=se rfl) (hpl:=na rfl)) ao)))
  (ae (aF (i:=2) nd rfl (Or.inl rfl) (aK sZ (hr.mono (by decide)) rfl aB.pass (aa (pv 0) (aa ao (aa (pv 1) ag (se rfl)) (se rfl)) (se rfl)) (he:=se rfl) (hpl:=na rfl)))
  (ae (aF (i:=3) nd rfl (Or.inl rfl) (aK u9 (hr.mono (by decide)) rfl aB.pass (aa (pv 2) ag (se rfl)) (he:=se rfl) (hpl:=na rfl)))
  (ae (aF (i:=4) nd rfl (Or.inl rfl) (aK tj (hr.mono (by decide)) rfl aB.pass (aa (pv 3) ag (se rfl)) (he:=se rfl) (hpl:=na rfl)))
  (ae (bF (PW.pt (pw_or (gh (di (aK j8 (hr.mono (by decide)) rfl aB.pass (aa (pv 2) (aa (pv 4) ag (se rfl)) (se rfl)) (he:=se rfl) (hpl:=na rfl)))) (pw_or1 (aO (FV hr.units) (pv 3) (pv 2) (aS _))))) (au (aN gL))
   ba)
  (ae (aF (i:=5) nd rfl (Or.inl rfl) (bL (aa (eG (cS (K:=K)) (by rfl) T.z_list rfl (aa (aD aH (pv 4) ao (λ_ _=>rfl)) ag (se rfl)) (he:=se rfl) (hpl:=na rfl)) (aa (eG (cS (K:=K)) (by rfl) T.z_list rfl (aa (aD aH (pv 4) ao (λ_ _=>rfl)) ag (se rfl)) (he:=se rfl) (hpl:=na rfl)) ag (se rfl)) (se rfl))))
  (ae (aF (i:=6) nd rfl (Or.inl rfl) (aK tj (hr.mono (by decide)) rfl aB.pass (aa (pv 3) ag (se rfl)) (he:=se rfl) (hpl:=na rfl)))
  (ae (c5 (Fx aaO PySem.F.slot_list_clear PySem.F.type_list_clear zT.r (aD aH (pv 6) ao (λ_ _=>rfl))))
  (ae (c5 (fi aaO aa7 aa8 cM.r (aD aH (pv 6) ao (λ_ _=>rfl)) (aa ao ag (se rfl))))
  (ae (eM (bL (aa cK (aa (bL (aa ao (aa ao ag (se rfl)) (se rfl))) ag (se rfl)) (se rfl))) (fu (pv 3) (aI c7 (aK dY (hr.mono (by decide)) rfl aB.pass (aa (pv 0) (aa ao ag (se rfl)) (se rfl)) (he:=se rfl) (hpl:=na rfl)) (pv 1)) set_list))
  (ae (bF (gh (di (aK j8 (hr.mono (by decide)) rfl aB.pass (aa (pv 3) (aa (aK tj (hr.mono (by decide)) rfl aB.pass (aa (pv 3) ag (se rfl)) (he:=se rfl) (hpl:=na rfl)) ag (se rfl)) (se rfl)) (he:=se rfl) (hpl:=na rfl)))) (au (aN gL))
   ba)
  (au (aN (zy (iD (Au hr.units) (pv 4) (pv 5) (aS _)) (zw (iD (Au hr.units) (aK tj (hr.mono (by decide)) rfl aB.pass (aa (pv 2) ag (se rfl)) (he:=se rfl) (hpl:=na rfl)) (pv 5) (aS _))))))))))))))))),?_⟩
  refine(?_:let cy:TS:=_;let cz:TS:=_;let cA:TS:=_;let du:TS:=_;let iy:TS:=_;let yd:TS:=_;let EY:TS:=_;let Xj:TS:=_;let Xk:TS:=_;let Xl:TS:=_;let KC:TS:=_;let KD:TS:=_;tSeq cy (tSeq cz (tSeq cA (tSeq du (tSeq iy (tSeq yd (tSeq EY (tSeq Xj (tSeq Xk (tSeq Xl (tSeq KC KD)))))))))) _ _ _)
  intro cy cz cA du iy yd EY Xj Xk Xl KC KD
  have sl:=sizeLine_eq
  change tSeq _ _ _ _ _
  refine aR (λσ' H1=>H=H1/\∃n:Nat,0<n/\n<=8/\σ'=[some (.ref sa),some (.int (n:Int)),none,none,none,none,none]) ?_ (λN hN=>?_)
  case refine_2=>
   simp_all only[GF]
   exact⟨ns,hS,by decide,by decide,λc=>⟨by decide,hN _ _ ⟨rfl,(1+c % 8).toNat,by omega,by omega,by rw[abj (by omega)]⟩⟩⟩
  intro _ _ bH
  symm
  obtain⟨rfl,n,n0,n8,rfl⟩:=bH
  nofun
  clear G_
  change tSeq _ _ _ _ _
  refine aR (λσ' H1=>∃bl b rk,az H H1/\H bl=none/\Rep H1 (ou b) (.ref bl)/\b.length=n/\j9 b rk/\σ'=[some (.ref sa),some (.int (n:Int)),some (.ref bl),none,none,none,none]) ?_ (λN hN=>?_)
  case refine_2=>
   simp_all only[]
   exact⟨sa,ns,n,rfl,hS,n0,n8,λl H1 b rk s1 nl rb lb B=>hN _ _ ⟨l,b,rk,s1,nl,rb,lb,B,rfl⟩⟩
  intro _ H1 bH
  symm
  obtain⟨bl,b,rk,s1,nbl,rb,lb,B,rfl⟩:=bH
  nofun
  clear G_
  change tSeq _ _ _ _ _
  refine aR (λσ' H2=>∃hd xh,az H1 H2/\H1 hd=none/\H2 hd=some (.lst xh)/\bu (cI H2 hd) (b.map jf) xh/\σ'=[some (.ref sa),some (.int (n:Int)),some (.ref bl),some (.ref hd),none,none,none]) ?_ (λN hN=>?_)
  case refine_2=>
   simp_all only[wD]
   exact⟨b,rb,by omega,λl xh H2 s2 n2 h2 r2=>hN _ _ ⟨l,xh,s2,n2,h2,r2,rfl⟩⟩
  intro _ H2 bH
  symm
  obtain⟨hd,xh,s2,nhd,zj,OB,rfl⟩:=bH
  nofun
  clear G_
  have OC:Rep H2 (ou b) (.ref hd):=aT.mpr ⟨hd,xh,rfl,zj,OB.mono cf⟩
  have lxh:=OB.length
  rw[aac] at lxh
  have Xm:=s1.trans s2
  change tSeq _ _ _ _ _
  refine aR (λσ' H3=>∃(fo l1 l2:Addr) (S:Dg.Bk) (ks:List (Option Int)),az H2 H3/\H3 fo=some (.tup [.ref l1,.ref l2])/\H2 l1=none/\H2 l2=none/\Rep H3 (.lst ((bY S).map bC)) (.ref l1)/\H3 l2=some (.lst (ks.map fC))/\Dg.Sz b.length 1900 S/\gB b∣S.2/\(∀p:Nat,p<b.length->pW b p (Dg.val S))/\(∀p q,b[p]?=some q->ks[p]?=some (GP (bY S) p q))/\ks.length=b.length/\σ'=[some (.ref sa),some (.int (n:Int)),some (.ref bl),some (.ref hd),some (.ref fo),none,none]) ?_ (λN hN=>?_)
  case refine_2=>
   simp_all only[qQ]
   exact⟨b,OC,rk,B,Xm _ _ lE,λt l1 l2 S ks H3 s3 ht n1 n2 r1 h2 z dv bq bp lk=>hN _ _ ⟨t,l1,l2,S,ks,s3,ht,n1,n2,r1,h2,z.up (by omega),dv,bq,bp,lk,rfl⟩⟩
  intro _ H3 bH
  symm
  obtain⟨fo,l1,l2,S,ks,s3,Mt,Xn,Xo,r1,h2,z,dv,bq,bp,lk,rfl⟩:=bH
  nofun
  clear G_
  have Xp:=s2.trans s3
  change tSeq _ _ _ _ _
  refine aR (λσ' H4=>az H3 H4/\σ'=[some (.ref sa),some (.int (n:Int)),some (.ref bl),some (.ref hd),some (.ref fo),none,none]) ?_ (λN hN=>?_)
  case refine_2=>
   simp_all only[sR]
   refine⟨l1,l2,b,rb.mono Xp,rk,B,Mt,S,r1,ks,h2,z,dv,bq,bp,lk,λH4 s4=>?_⟩
   rw[if_neg (by decide)]
   refine⟨_,OC.mono (s3.trans s4),rb.mono (Xp.trans s4),⟨_,rfl⟩,Aw _,_,rfl,?_⟩
   rw[if_neg (by decide)]
   exact hN _ _ ⟨s4,rfl⟩
  rintro _ H4 ⟨s4,rfl⟩
  change tSeq _ _ _ _ _
  refine aR (λσ' H5=>∃(kp m1 m2:Addr),az H4 H5/\H5 kp=some (.tup [.ref m1,.ref m2])/\H4 m1=none/\H4 m2=none/\Rep H5 (.lst ((bY S).map bC)) (.ref m1)/\H5 m2=some (.lst (ks.map fC))/\σ'=[some (.ref sa),some (.int (n:Int)),some (.ref bl),some (.ref hd),some (.ref fo),some (.ref kp),none]) ?_ (λN hN=>?_)
  case refine_2=>
   simp_all only[tTupS,s4 _ _ Mt]
   symm
   obtain⟨_,xf,e,Ml,rlf⟩:=aT.mp (r1.mono s4)
   nofun
   clear G_
   cases e
   refine⟨xf,.inl (bo.of Ml),λm1 KE=>?_⟩
   have KG:=ax (o:=.lst xf) KE
   have Ov:upd H4 m1 (.lst xf) m1=some (.lst xf):=ar
   generalize upd H4 m1 (.lst xf)=H5 at *
   refine⟨_,KG _ _ (s4 _ _ Mt),_,rfl,l2,rfl,_,.inl (bo.of (KG _ _ (s4 _ _ h2))),λm2 KH=>⟨by decide,λkp H6 s6 nkp zo=>?_⟩⟩
   have OD:=(ax (o:=.lst (ks.map fC)) KH).trans s6
   exact hN _ _ ⟨kp,m1,m2,KG.trans OD,zo,KE,none_of KG KH,aT.mpr ⟨m1,xf,rfl,OD _ _ Ov,rlf.mono (KG.trans OD)⟩,s6 _ _ ar,rfl⟩
  intro _ H5 bH
  symm
  obtain⟨kp,m1,m2,s5,zo,KE,KH,rm1,hm2,rfl⟩:=bH
  nofun
  have OE:=s4.trans s5
  change tSeq _ _ _ _ _
  refine aR (λσ' H6=>∃(ot o1 o2:Addr) (xo ko:List V),az H5 H6/\H6 ot=some (.tup [.ref o1,.ref o2])/\H5 o1=none/\H5 o2=none/\o1≠o2/\H6 o1=some (.lst xo)/\H6 o2=some (.lst ko)/\ko.length<=8/\σ'=[some (.ref sa),some (.int (n:Int)),some (.ref bl),some (.ref hd),some (.ref fo),some (.ref kp),some (.ref ot)]) ?_ (λN hN=>?_)
  case refine_2=>
   simp_all only[qQ]
   refine⟨b,OC.mono (s3.trans OE),rk,B,(Xm.trans (s3.trans OE)) _ _ lE,λt o1 o2 S' dG H6 s6 ht n1 n2 HD tz z' dv' bq' bp' lk'=>?_⟩
   symm
   obtain⟨_,xo,e,Cq,ro⟩:=aT.mp HD
   nofun
   cases e
   have lo:=ro.length
   rw[aac] at lo
   have lS':(bY S').length=b.length:=by unfold bY;rw[aac,z'.len]
   have N7:=B.pos
   refine hN _ _ ⟨t,o1,o2,xo,_,s6,ht,n1,n2,λzz=>?_,Cq,tz,by rw[aac];omega,rfl⟩
   rw[zz,tz] at Cq
   have ex:List.map fC dG=xo:=by injection Cq with h;injection h
   symm
   obtain⟨px,Kv,_⟩:=cJ (i:=0) ro (aad (show 0< (bY S').length by omega))
   rw[<-ex,aaf] at Kv
   obtain⟨k0,_,e0⟩:=Option.map_eq_some_iff.mp Kv
   nofun
   cases k0 <;>cases e0
  intro _ H6 bH
  symm
  obtain⟨ot,o1,o2,xo,ko,s6,Mu,no1,no2,OF,Cq,ho2,lko,rfl⟩:=bH
  nofun
  change tSeq _ _ _ _ _
  refine aR (λσ' H7=>az H5 H7/\H7 ot=some (.tup [.ref o1,.ref o2])/\H7 o2=some (.lst ko)/\σ'=[some (.ref sa),some (.int (n:Int)),some (.ref bl),some (.ref hd),some (.ref fo),some (.ref kp),some (.ref ot)]) ?_ (λN hN=>?_)
  case refine_2=>
   simp_all only[II,zS,Mu]
   refine⟨.inl ⟨rfl,_,bo.of Cq⟩,_,Cq,hN _ _ ⟨aZ s6 no1,?_,?_,rfl⟩⟩
   ·rw[aJ (λzz=>by rw[zz,Cq] at Mu;cases Mu)];exact Mu
   ·rw[aJ (Ne.symm OF)];exact ho2
  intro _ H7 bH
  symm
  obtain⟨s7,OG,KI,rfl⟩:=bH
  nofun
  change tSeq _ _ _ _ _
  refine aR (λσ' H8=>az H5 H8/\σ'=[some (.ref sa),some (.int (n:Int)),some (.ref bl),some (.ref hd),some (.ref fo),some (.ref kp),some (.ref ot)]) ?_ (λN hN=>?_)
  case refine_2=>
   simp_all only[dB,OG]
   exact⟨.inl ⟨rfl,_,bo.of KI⟩,_,KI,by omega,hN _ _ ⟨aZ s7 no2,rfl⟩⟩
  rintro _ H8 ⟨s8,rfl⟩
  have Ee:=OE.trans s8
  change tSeq _ _ _ _ _
  refine aR (λσ' H9=>∃k:Nat,az H1 H9/\(∀x o,x≠hd->H8 x=some o->H9 x=some o)/\Rep H9 (ou (b.set k (.fin (12345,7)))) (.ref hd)/\σ'=[some (.ref sa),some (.int (n:Int)),some (.ref bl),some (.ref hd),some (.ref fo),some (.ref kp),some (.ref ot)]) ?_ (λN hN=>?_)
  case refine_2=>
   simp_all only[GF]
   have KJ:=s2.trans (s3.trans Ee)
   refine⟨by decide,λp HB sB nB hB=>⟨by decide,λp1 HC sC nC hC=>?_⟩⟩
   have KL:=sB.trans sC
   refine⟨ns,(s1.trans (KJ.trans KL)).seq hS,by decide,by decide,λc=>?_⟩
   have c0:=aa9 c (show(n:Int)≠0 by omega)
   have c1:=abk c (show(0:Int)<n by omega)
   have ixc:wV xh.length (c % (n:Int))=some (c % (n:Int)).toNat:=by
    have h:=gJ (n:=xh.length) (i:=(c % (n:Int)).toNat) (by omega)
    rwa [abj c0] at h
   have hhC:=(s3.trans (Ee.trans KL)) _ _ zj
   have nhp:p≠hd:=λzz=>by rw[zz,(s3.trans Ee) _ _ zj] at nB;cases nB
   have OH:p1≠hd:=λzz=>by rw[zz,sB _ _ ((s3.trans Ee) _ _ zj)] at nC;cases nC
   refine⟨by omega,_,hhC,_,ixc,hN _ _ ⟨(c % (n:Int)).toNat,aZ (KJ.trans KL) nhd,λx o hx ho=>by rw[aJ hx];exact KL _ _ ho,aT.mpr ⟨hd,_,rfl,ar,?_⟩,rfl⟩⟩
   rw[List.map_set]
   refine(pe (OB.mono (bQ (s3.trans (Ee.trans KL)))) (cX.mpr ⟨p1,p,rfl,by rw[bK OH];exact hC,by rw[bK nhp];exact sC _ _ hB⟩)).mono λx o hx=>?_
   by_cases e:x=hd
   ·subst e
    unfold cI at hx
    rw[if_pos rfl] at hx
    cases hx
   ·rw[bK e] at hx
    rw[aJ e]
    exact hx
  intro _ H9 bH
  symm
  obtain⟨k,s9,k9,Xq,rfl⟩:=bH
  nofun
  have B9:j9 (b.set k (.fin (12345,7))) rk:=GV B (by omega) ⟨Bt.of 12345 (by decide) (by decide),Bt.of 7 (by decide) (by decide),by decide,by decide⟩
  change tSeq _ _ _ _ _
  refine aR (λσ' HA=>az H9 HA/\σ'=[some (.ref sa),some (.int (n:Int)),some (.ref bl),some (.ref hd),some (.ref fo),some (.ref kp),some (.ref ot)]) ?_ (λN hN=>?_)
  case refine_2=>
   simp_all only[qQ,sR]
   have l9:(b.set k (.fin (12345,7))).length=b.length:=aaK ..
   refine⟨_,Xq,rk,B9,(s1.trans s9) _ _ lE,λt q1 q2 S2 Kt HA sA ht n1 n2 HD tz z2 Xr OI OJ Xs=>⟨q1,q2,_,Xq.mono sA,rk,B9,ht,S2,HD,Kt,tz,z2.up (by omega),Xr,OI,OJ,Xs,λHB sB=>?_⟩⟩
   rw[if_neg (by decide)]
   exact hN _ _ ⟨sA.trans sB,rfl⟩
  rintro _ HA ⟨sA,rfl⟩
  have OK:=(s3.trans Ee) _ _ zj
  have Mv:∀x vs,H8 x=some (.tup vs)->H9 x=some (.tup vs):=λx vs hx=>k9 _ _ (λzz=>by rw[zz,OK] at hx;cases hx) hx
  have n1h:l1≠hd:=λzz=>by rw[zz,zj] at Xn;cases Xn
  have n2h:l2≠hd:=λzz=>by rw[zz,zj] at Xo;cases Xo
  have m1h:m1≠hd:=λzz=>by rw[zz,(s3.trans s4) _ _ zj] at KE;cases KE
  have m2h:m2≠hd:=λzz=>by rw[zz,(s3.trans s4) _ _ zj] at KH;cases KH
  have OL:Rep HA (.tup [.lst ((bY S).map bC),.lst (ks.map Ge)]) (.ref fo):=kW (sA _ _ (Mv _ _ (Ee _ _ Mt))) ((iL (r1.mono Ee) (λxs hx=>k9 _ _ n1h hx) Mv).mono sA) (rW (sA _ _ (k9 _ _ n2h (Ee _ _ h2))))
  have KN:Rep HA (.tup [.lst ((bY S).map bC),.lst (ks.map Ge)]) (.ref kp):=kW (sA _ _ (Mv _ _ (s8 _ _ zo))) ((iL (rm1.mono s8) (λxs hx=>k9 _ _ m1h hx) Mv).mono sA) (rW (sA _ _ (k9 _ _ m2h (s8 _ _ hm2))))
  simp_all only[qQ]
  refine⟨_,OL,KN,⟨_,rfl⟩,pE _ _,_,rfl,?_⟩
  rw[if_pos rfl]
  refine⟨b,rb.mono (s9.trans sA),rk,B,(s1.trans (s9.trans sA)) _ _ lE,λt q1 q2 S2 Kt HB sB ht n1 n2 HD tz z2 Xr OI OJ Xs=>?_⟩
  have eS:=DX B z (z2.up (M':=1900) (by omega)) bq OI
  have eK:Kt=ks:=by
   apply aaQ
   intro i
   by_cases hi:i<b.length
   ·have eb:b[i]?=some b[i]:=aad hi
    rw[OJ i _ eb,bp i _ eb,eS]
   ·rw[aar (by omega),aar (by omega)]
  subst eK
  rw[<-eS] at HD
  exact⟨_,kW ht HD (rW tz),KN.mono sB,⟨_,rfl⟩,pE _ _,kk _⟩
end
theorem all_mk {l:PySem.W.OpenLaw} {w:World} {K:PySem.W.Frag} {h:Heap} {mg:Str->Option Value} {fa:Addr} (X:K.In h) (G:h.Ns mainGlobals mg) (hfa:mg "law"=some (.ref fa))
  {f0:Addr} {od0 an0:Option Addr} {sl0:Array (Option Value)} {oc0 kV0 dc0 pm0 Xu ct0:Value} {f1:Addr} {od1 an1:Option Addr} {sl1:Array (Option Value)} {oc1 kV1 dc1 pm1 Xv ct1:Value} {f2:Addr} {od2 an2:Option Addr} {sl2:Array (Option Value)} {oc2 kV2 dc2 NQ Xw ct2:Value} {f3:Addr} {od3 an3:Option Addr} {sl3:Array (Option Value)} {oc3 kV3 dc3 pm3 Xx ct3:Value} {f4:Addr} {od4 an4:Option Addr} {sl4:Array (Option Value)} {oc4 kV4 dc4 pm4 Xy ct4:Value} {f5:Addr} {od5 an5:Option Addr} {sl5:Array (Option Value)} {oc5 kV5 dc5 pm5 Xz ct5:Value} {f6:Addr} {od6 an6:Option Addr} {sl6:Array (Option Value)} {oc6 kV6 dc6 pm6 XA ct6:Value} {f7:Addr} {od7 an7:Option Addr} {sl7:Array (Option Value)} {oc7 kV7 dc7 pm7 XB ct7:Value} {f8:Addr} {od8 an8:Option Addr} {sl8:Array (Option Value)} {oc8 kV8 dc8 pm8 XC ct8:Value} {f9:Addr} {od9 an9:Option Addr} {sl9:Array (Option Value)} {oc9 kV9 dc9 pm9 XD ct9:Value} {OM:Addr} {ON OO:Option Addr} {OP:Array (Option Value)} {OQ OR OS OT KO OU:Value} {OV:Addr} {OW OX:Option Addr} {OY:Array (Option Value)} {OZ O0 O1 O2 KP O3:Value} {O4:Addr} {O5 O6:Option Addr} {O7:Array (Option Value)} {O8 O9 Pa Pb KQ Pc:Value} {Pd:Addr} {Pe Pf:Option Addr} {Pg:Array (Option Value)} {Ph Pj Pk Pn KR Po:Value} {Pp:Addr} {Pq Pt:Option Addr} {Pu:Array (Option Value)} {Pw Px Py Pz PB:Value} {PD:Addr} {PF PJ:Option Addr} {PK:Array (Option Value)} {PL PM PN PQ KU PR:Value} {PU:Addr} {PV PX:Option Addr} {PY:Array (Option Value)} {PZ P0 P1 P2 KW P4:Value} {P5:Addr} {P6 P7:Option Addr} {P8:Array (Option Value)} {P9 Qa Qb Qc KY Qd:Value} {Qe:Addr} {Qf Qg:Option Addr} {Qh:Array (Option Value)} {Qi Qj Qk Ql KZ Qm:Value} {Qn:Addr} {Qo Qp:Option Addr} {Qq:Array (Option Value)} {Qr Qs Qt Qu K1 Qv:Value} {Qw:Addr} {Qx Qy:Option Addr} {Qz:Array (Option Value)} {QA QB QC QD K2 QE:Value} {QF:Addr} {QG QH:Option Addr} {QI:Array (Option Value)} {QJ QK QL QM K3 QN:Value} {QO:Addr} {QP QR:Option Addr} {QS:Array (Option Value)} {QT QU QV QW K4 QX:Value} {QY:Addr} {QZ Q0:Option Addr} {Q4:Array (Option Value)} {Q5 Q6 Q8 Ra K6 Rb:Value} {Rc:Addr} {Rf Rg:Option Addr} {Rh:Array (Option Value)} {Ri Rj Rk Rl K8 Rn:Value} {Ro:Addr} {Rp Rq:Option Addr} {Rr:Array (Option Value)} {Rt Ru Rv Rx K9 Ry:Value} {Rz:Addr} {RA RB:Option Addr} {RC:Array (Option Value)} {RD RE RF RG La RH:Value} {RI:Addr} {RJ RK:Option Addr} {RL:Array (Option Value)} {RM RN RO RP Lb RQ:Value} {RS:Addr} {RT RU:Option Addr} {RV:Array (Option Value)} {RW RX RY RZ Lc R1:Value} {R3:Addr} {R4 R5:Option Addr} {R6:Array (Option Value)} {R7 R8 R9 Sa Ld Sb:Value} {Sd:Addr} {Se Sf:Option Addr} {Sg:Array (Option Value)} {Si Sj Sk Sl Le Sm:Value} {Sn:Addr} {So Sr:Option Addr} {Ss:Array (Option Value)} {Su Sv Sw Sx Lf Sy:Value} {SA:Addr} {SD SE:Option Addr} {SF:Array (Option Value)} {SG SH SI SJ Lg SK:Value} {SM:Addr} {SN SO:Option Addr} {SQ:Array (Option Value)} {SR SS SU SV Lh SW:Value} {SX:Addr} {SY S1:Option Addr} {S3:Array (Option Value)} {S4 S5 S6 S7 Li S8:Value} {S9:Addr} {Ta Tb:Option Addr} {Tc:Array (Option Value)} {Td Te Tf Tg Lj Th:Value} {Ti:Addr} {Tj Tn:Option Addr} {To:Array (Option Value)} {Tp Tq Tr Ts Lk Tt:Value} {Tu:Addr} {Tv Tw:Option Addr} {Tx:Array (Option Value)} {Tz TB TC TF Ll TH:Value} {TJ:Addr} {TK TL:Option Addr} {TM:Array (Option Value)} {TN TQ TR TU Lm TV:Value} {TX:Addr} {TY TZ:Option Addr} {T1:Array (Option Value)} {T3 T4 T5 T6 Ln T7:Value} {T8:Addr} {T9 Ua:Option Addr} {Ub:Array (Option Value)} {Uc Ud Ue Ug Lo Uh:Value} {Ui:Addr} {Uj Uk:Option Addr} {Ul:Array (Option Value)} {Um Uo Up Uq Lp Ur:Value} {Us:Addr} {Ut Uu:Option Addr} {Uv:Array (Option Value)} {Uw Ux Uy Uz Lq UA:Value} {UB:Addr} {UC UD:Option Addr} {UE:Array (Option Value)} {UG UH UI UJ Lr UK:Value} {UL:Addr} {UM UN:Option Addr} {UO:Array (Option Value)} {UP UQ UR US Lu UT:Value} {UU:Addr} {UW UX:Option Addr} {UY:Array (Option Value)} {UZ U0 U1 U2 Lx U3:Value} {U4:Addr} {U5 U6:Option Addr} {U7:Array (Option Value)} {U8 U9 Va Vc Ly Vd:Value} {Ve:Addr} {Vf Vg:Option Addr} {Vh:Array (Option Value)} {Vi Vj Vk Vl Lz Vm:Value} {Vn:Addr} {Vo Vp:Option Addr} {Vq:Array (Option Value)} {Vr Vs Vt Vu LC Vv:Value} {pF:Tok} {p9:Tok} {aA tc tp:Addr} {nE:Addr} {Cb Cc:Option Addr} {Cd:Array (Option Value)} {Ce Cf Cg Ci va Cj:Value} {cY:Addr} {js jt:Option Addr} {ju:Array (Option Value)} {jv jw jx jy fb jz:Value} {dF:Addr} {mN mO:Option Addr} {mP:Array (Option Value)} {mQ mR mS mT gW mU:Value}
  (a0:PySem.W.nsIn K mainGlobals "goals"=some (some (.ref f0))) (l0:K.lookup f0=some ⟨oc0,od0,.func (PySem.W.fnOf "goals" "goals" (aM (top 1)) (aL (top 1)) (af (top 1)) .none kV0 dc0 pm0 an0 Xu ct0),sl0⟩) (e0:PySem.W.codeIn K Xu "goals"=true) (k0:PySem.W.keepIn K (.ref f0)=true)
  (a1:PySem.W.nsIn K mainGlobals "is_ready"=some (some (.ref f1))) (l1:K.lookup f1=some ⟨oc1,od1,.func (PySem.W.fnOf "is_ready" "is_ready" (aM (top 2)) (aL (top 2)) (af (top 2)) .none kV1 dc1 pm1 an1 Xv ct1),sl1⟩) (e1:PySem.W.codeIn K Xv "is_ready"=true) (k1:PySem.W.keepIn K (.ref f1)=true)
  (a2:PySem.W.nsIn K mainGlobals "ready_places"=some (some (.ref f2))) (l2:K.lookup f2=some ⟨oc2,od2,.func (PySem.W.fnOf "ready_places" "ready_places" (aM (top 3)) (aL (top 3)) (af (top 3)) .none kV2 dc2 NQ an2 Xw ct2),sl2⟩) (e2:PySem.W.codeIn K Xw "ready_places"=true) (k2:PySem.W.keepIn K (.ref f2)=true)
  (a3:PySem.W.nsIn K mainGlobals "levels"=some (some (.ref f3))) (l3:K.lookup f3=some ⟨oc3,od3,.func (PySem.W.fnOf "levels" "levels" (aM (top 4)) (aL (top 4)) (af (top 4)) .none kV3 dc3 pm3 an3 Xx ct3),sl3⟩) (e3:PySem.W.codeIn K Xx "levels"=true) (k3:PySem.W.keepIn K (.ref f3)=true)
  (a4:PySem.W.nsIn K mainGlobals "ring"=some (some (.ref f4))) (l4:K.lookup f4=some ⟨oc4,od4,.func (PySem.W.fnOf "ring" "ring" (aM (top 5)) (aL (top 5)) (af (top 5)) .none kV4 dc4 pm4 an4 Xy ct4),sl4⟩) (e4:PySem.W.codeIn K Xy "ring"=true) (k4:PySem.W.keepIn K (.ref f4)=true)
  (a5:PySem.W.nsIn K mainGlobals "common_divisor"=some (some (.ref f5))) (l5:K.lookup f5=some ⟨oc5,od5,.func (PySem.W.fnOf "common_divisor" "common_divisor" (aM (top 12)) (aL (top 12)) (af (top 12)) .none kV5 dc5 pm5 an5 Xz ct5),sl5⟩) (e5:PySem.W.codeIn K Xz "common_divisor"=true) (k5:PySem.W.keepIn K (.ref f5)=true)
  (a6:PySem.W.nsIn K mainGlobals "share"=some (some (.ref f6))) (l6:K.lookup f6=some ⟨oc6,od6,.func (PySem.W.fnOf "share" "share" (aM (top 13)) (aL (top 13)) (af (top 13)) .none kV6 dc6 pm6 an6 XA ct6),sl6⟩) (e6:PySem.W.codeIn K XA "share"=true) (k6:PySem.W.keepIn K (.ref f6)=true)
  (a7:PySem.W.nsIn K mainGlobals "common_bottom"=some (some (.ref f7))) (l7:K.lookup f7=some ⟨oc7,od7,.func (PySem.W.fnOf "common_bottom" "common_bottom" (aM (top 14)) (aL (top 14)) (af (top 14)) .none kV7 dc7 pm7 an7 XB ct7),sl7⟩) (e7:PySem.W.codeIn K XB "common_bottom"=true) (k7:PySem.W.keepIn K (.ref f7)=true)
  (a8:PySem.W.nsIn K mainGlobals "row_with_head"=some (some (.ref f8))) (l8:K.lookup f8=some ⟨oc8,od8,.func (PySem.W.fnOf "row_with_head" "row_with_head" (aM (top 16)) (aL (top 16)) (af (top 16)) .none kV8 dc8 pm8 an8 XC ct8),sl8⟩) (e8:PySem.W.codeIn K XC "row_with_head"=true) (k8:PySem.W.keepIn K (.ref f8)=true)
  (a9:PySem.W.nsIn K mainGlobals "swapped"=some (some (.ref f9))) (l9:K.lookup f9=some ⟨oc9,od9,.func (PySem.W.fnOf "swapped" "swapped" (aM (top 17)) (aL (top 17)) (af (top 17)) .none kV9 dc9 pm9 an9 XD ct9),sl9⟩) (e9:PySem.W.codeIn K XD "swapped"=true) (k9:PySem.W.keepIn K (.ref f9)=true)
  (a10:PySem.W.nsIn K mainGlobals "without_first_column"=some (some (.ref OM))) (l10:K.lookup OM=some ⟨OQ,ON,.func (PySem.W.fnOf "without_first_column" "without_first_column" (aM (top 18)) (aL (top 18)) (af (top 18)) .none OR OS OT OO KO OU),OP⟩) (e10:PySem.W.codeIn K KO "without_first_column"=true) (k10:PySem.W.keepIn K (.ref OM)=true)
  (a11:PySem.W.nsIn K mainGlobals "swept"=some (some (.ref OV))) (l11:K.lookup OV=some ⟨OZ,OW,.func (PySem.W.fnOf "swept" "swept" (aM (top 19)) (aL (top 19)) (af (top 19)) .none O0 O1 O2 OX KP O3),OY⟩) (e11:PySem.W.codeIn K KP "swept"=true) (k11:PySem.W.keepIn K (.ref OV)=true)
  (a12:PySem.W.nsIn K mainGlobals "whole_answers"=some (some (.ref O4))) (l12:K.lookup O4=some ⟨O8,O5,.func (PySem.W.fnOf "whole_answers" "whole_answers" (aM (top 20)) (aL (top 20)) (af (top 20)) .none O9 Pa Pb O6 KQ Pc),O7⟩) (e12:PySem.W.codeIn K KQ "whole_answers"=true) (k12:PySem.W.keepIn K (.ref O4)=true)
  (a13:PySem.W.nsIn K mainGlobals "steps_from"=some (some (.ref Pd))) (l13:K.lookup Pd=some ⟨Ph,Pe,.func (PySem.W.fnOf "steps_from" "steps_from" (aM (top 22)) (aL (top 22)) (af (top 22)) .none Pj Pk Pn Pf KR Po),Pg⟩) (e13:PySem.W.codeIn K KR "steps_from"=true) (k13:PySem.W.keepIn K (.ref Pd)=true)
  (a14:PySem.W.nsIn K mainGlobals "parts"=some (some (.ref Pp))) (l14:K.lookup Pp=some ⟨Pw,Pq,.func (PySem.W.fnOf "parts" "parts" (aM (top 23)) (aL (top 23)) (af (top 23)) .none Px Py Pz Pt (Value.ref tc) PB),Pu⟩) (e14:PySem.W.codeIn K (Value.ref tc) "parts"=true) (k14:PySem.W.keepIn K (.ref Pp)=true)
  (a15:PySem.W.nsIn K mainGlobals "ways_of_picks"=some (some (.ref PD))) (l15:K.lookup PD=some ⟨PL,PF,.func (PySem.W.fnOf "ways_of_picks" "ways_of_picks" (aM (top 27)) (aL (top 27)) (af (top 27)) .none PM PN PQ PJ KU PR),PK⟩) (e15:PySem.W.codeIn K KU "ways_of_picks"=true) (k15:PySem.W.keepIn K (.ref PD)=true)
  (a16:PySem.W.nsIn K mainGlobals "checked_parts"=some (some (.ref PU))) (l16:K.lookup PU=some ⟨PZ,PV,.func (PySem.W.fnOf "checked_parts" "checked_parts" (aM (top 28)) (aL (top 28)) (af (top 28)) .none P0 P1 P2 PX KW P4),PY⟩) (e16:PySem.W.codeIn K KW "checked_parts"=true) (k16:PySem.W.keepIn K (.ref PU)=true)
  (a17:PySem.W.nsIn K mainGlobals "weighted_ways"=some (some (.ref P5))) (l17:K.lookup P5=some ⟨P9,P6,.func (PySem.W.fnOf "weighted_ways" "weighted_ways" (aM (top 29)) (aL (top 29)) (af (top 29)) .none Qa Qb Qc P7 KY Qd),P8⟩) (e17:PySem.W.codeIn K KY "weighted_ways"=true) (k17:PySem.W.keepIn K (.ref P5)=true)
  (a18:PySem.W.nsIn K mainGlobals "all_weighted_ways"=some (some (.ref Qe))) (l18:K.lookup Qe=some ⟨Qi,Qf,.func (PySem.W.fnOf "all_weighted_ways" "all_weighted_ways" (aM (top 30)) (aL (top 30)) (af (top 30)) .none Qj Qk Ql Qg KZ Qm),Qh⟩) (e18:PySem.W.codeIn K KZ "all_weighted_ways"=true) (k18:PySem.W.keepIn K (.ref Qe)=true)
  (a19:PySem.W.nsIn K mainGlobals "total_weight"=some (some (.ref Qn))) (l19:K.lookup Qn=some ⟨Qr,Qo,.func (PySem.W.fnOf "total_weight" "total_weight" (aM (top 31)) (aL (top 31)) (af (top 31)) .none Qs Qt Qu Qp K1 Qv),Qq⟩) (e19:PySem.W.codeIn K K1 "total_weight"=true) (k19:PySem.W.keepIn K (.ref Qn)=true)
  (a20:PySem.W.nsIn K mainGlobals "part_rows"=some (some (.ref Qw))) (l20:K.lookup Qw=some ⟨QA,Qx,.func (PySem.W.fnOf "part_rows" "part_rows" (aM (top 32)) (aL (top 32)) (af (top 32)) .none QB QC QD Qy K2 QE),Qz⟩) (e20:PySem.W.codeIn K K2 "part_rows"=true) (k20:PySem.W.keepIn K (.ref Qw)=true)
  (a21:PySem.W.nsIn K mainGlobals "gain_of"=some (some (.ref QF))) (l21:K.lookup QF=some ⟨QJ,QG,.func (PySem.W.fnOf "gain_of" "gain_of" (aM (top 34)) (aL (top 34)) (af (top 34)) .none QK QL QM QH K3 QN),QI⟩) (e21:PySem.W.codeIn K K3 "gain_of"=true) (k21:PySem.W.keepIn K (.ref QF)=true)
  (a22:PySem.W.nsIn K mainGlobals "book_of"=some (some (.ref QO))) (l22:K.lookup QO=some ⟨QT,QP,.func (PySem.W.fnOf "book_of" "book_of" (aM (top 35)) (aL (top 35)) (af (top 35)) .none QU QV QW QR K4 QX),QS⟩) (e22:PySem.W.codeIn K K4 "book_of"=true) (k22:PySem.W.keepIn K (.ref QO)=true)
  (a23:PySem.W.nsIn K mainGlobals "gains_of"=some (some (.ref QY))) (l23:K.lookup QY=some ⟨Q5,QZ,.func (PySem.W.fnOf "gains_of" "gains_of" (aM (top 36)) (aL (top 36)) (af (top 36)) .none Q6 Q8 Ra Q0 K6 Rb),Q4⟩) (e23:PySem.W.codeIn K K6 "gains_of"=true) (k23:PySem.W.keepIn K (.ref QY)=true)
  (a24:PySem.W.nsIn K mainGlobals "blank_worths"=some (some (.ref Rc))) (l24:K.lookup Rc=some ⟨Ri,Rf,.func (PySem.W.fnOf "blank_worths" "blank_worths" (aM (top 37)) (aL (top 37)) (af (top 37)) .none Rj Rk Rl Rg K8 Rn),Rh⟩) (e24:PySem.W.codeIn K K8 "blank_worths"=true) (k24:PySem.W.keepIn K (.ref Rc)=true)
  (a25:PySem.W.nsIn K mainGlobals "with_worths"=some (some (.ref Ro))) (l25:K.lookup Ro=some ⟨Rt,Rp,.func (PySem.W.fnOf "with_worths" "with_worths" (aM (top 38)) (aL (top 38)) (af (top 38)) .none Ru Rv Rx Rq K9 Ry),Rr⟩) (e25:PySem.W.codeIn K K9 "with_worths"=true) (k25:PySem.W.keepIn K (.ref Ro)=true)
  (a26:PySem.W.nsIn K mainGlobals "wanted_way"=some (some (.ref Rz))) (l26:K.lookup Rz=some ⟨RD,RA,.func (PySem.W.fnOf "wanted_way" "wanted_way" (aM (top 40)) (aL (top 40)) (af (top 40)) .none RE RF RG RB La RH),RC⟩) (e26:PySem.W.codeIn K La "wanted_way"=true) (k26:PySem.W.keepIn K (.ref Rz)=true)
  (a27:PySem.W.nsIn K mainGlobals "better_ways"=some (some (.ref RI))) (l27:K.lookup RI=some ⟨RM,RJ,.func (PySem.W.fnOf "better_ways" "better_ways" (aM (top 41)) (aL (top 41)) (af (top 41)) .none RN RO RP RK Lb RQ),RL⟩) (e27:PySem.W.codeIn K Lb "better_ways"=true) (k27:PySem.W.keepIn K (.ref RI)=true)
  (a28:PySem.W.nsIn K mainGlobals "picks_of"=some (some (.ref RS))) (l28:K.lookup RS=some ⟨RW,RT,.func (PySem.W.fnOf "picks_of" "picks_of" (aM (top 42)) (aL (top 42)) (af (top 42)) .none RX RY RZ RU Lc R1),RV⟩) (e28:PySem.W.codeIn K Lc "picks_of"=true) (k28:PySem.W.keepIn K (.ref RS)=true)
  (a29:PySem.W.nsIn K mainGlobals "with_best_worths"=some (some (.ref R3))) (l29:K.lookup R3=some ⟨R7,R4,.func (PySem.W.fnOf "with_best_worths" "with_best_worths" (aM (top 43)) (aL (top 43)) (af (top 43)) .none R8 R9 Sa R5 Ld Sb),R6⟩) (e29:PySem.W.codeIn K Ld "with_best_worths"=true) (k29:PySem.W.keepIn K (.ref R3)=true)
  (a30:PySem.W.nsIn K mainGlobals "best_pick"=some (some (.ref Sd))) (l30:K.lookup Sd=some ⟨Si,Se,.func (PySem.W.fnOf "best_pick" "best_pick" (aM (top 44)) (aL (top 44)) (af (top 44)) .none Sj Sk Sl Sf Le Sm),Sg⟩) (e30:PySem.W.codeIn K Le "best_pick"=true) (k30:PySem.W.keepIn K (.ref Sd)=true)
  (a31:PySem.W.nsIn K mainGlobals "best"=some (some (.ref Sn))) (l31:K.lookup Sn=some ⟨Su,So,.func (PySem.W.fnOf "best" "best" (aM (top 45)) (aL (top 45)) (af (top 45)) .none Sv Sw Sx Sr Lf Sy),Ss⟩) (e31:PySem.W.codeIn K Lf "best"=true) (k31:PySem.W.keepIn K (.ref Sn)=true)
  (a32:PySem.W.nsIn K mainGlobals "_law_cell"=some (some (.ref SA))) (l32:K.lookup SA=some ⟨SG,SD,.func (PySem.W.fnOf "_law_cell" "_law_cell" (aM (top 47)) (aL (top 47)) (af (top 47)) .none SH SI SJ SE Lg SK),SF⟩) (e32:PySem.W.codeIn K Lg "_law_cell"=true) (k32:PySem.W.keepIn K (.ref SA)=true)
  (a33:PySem.W.nsIn K mainGlobals "_law_mixed"=some (some (.ref SM))) (l33:K.lookup SM=some ⟨SR,SN,.func (PySem.W.fnOf "_law_mixed" "_law_mixed" (aM (top 48)) (aL (top 48)) (af (top 48)) .none SS SU SV SO Lh SW),SQ⟩) (e33:PySem.W.codeIn K Lh "_law_mixed"=true) (k33:PySem.W.keepIn K (.ref SM)=true)
  (a34:PySem.W.nsIn K mainGlobals "_law_low"=some (some (.ref SX))) (l34:K.lookup SX=some ⟨S4,SY,.func (PySem.W.fnOf "_law_low" "_law_low" (aM (top 49)) (aL (top 49)) (af (top 49)) .none S5 S6 S7 S1 Li S8),S3⟩) (e34:PySem.W.codeIn K Li "_law_low"=true) (k34:PySem.W.keepIn K (.ref SX)=true)
  (a35:PySem.W.nsIn K mainGlobals "_law_plus"=some (some (.ref S9))) (l35:K.lookup S9=some ⟨Td,Ta,.func (PySem.W.fnOf "_law_plus" "_law_plus" (aM (top 50)) (aL (top 50)) (af (top 50)) .none Te Tf Tg Tb Lj Th),Tc⟩) (e35:PySem.W.codeIn K Lj "_law_plus"=true) (k35:PySem.W.keepIn K (.ref S9)=true)
  (a36:PySem.W.nsIn K mainGlobals "_law_times"=some (some (.ref Ti))) (l36:K.lookup Ti=some ⟨Tp,Tj,.func (PySem.W.fnOf "_law_times" "_law_times" (aM (top 51)) (aL (top 51)) (af (top 51)) .none Tq Tr Ts Tn Lk Tt),To⟩) (e36:PySem.W.codeIn K Lk "_law_times"=true) (k36:PySem.W.keepIn K (.ref Ti)=true)
  (a37:PySem.W.nsIn K mainGlobals "_law_share"=some (some (.ref Tu))) (l37:K.lookup Tu=some ⟨Tz,Tv,.func (PySem.W.fnOf "_law_share" "_law_share" (aM (top 52)) (aL (top 52)) (af (top 52)) .none TB TC TF Tw Ll TH),Tx⟩) (e37:PySem.W.codeIn K Ll "_law_share"=true) (k37:PySem.W.keepIn K (.ref Tu)=true)
  (a38:PySem.W.nsIn K mainGlobals "_law_turned"=some (some (.ref TJ))) (l38:K.lookup TJ=some ⟨TN,TK,.func (PySem.W.fnOf "_law_turned" "_law_turned" (aM (top 53)) (aL (top 53)) (af (top 53)) .none TQ TR TU TL Lm TV),TM⟩) (e38:PySem.W.codeIn K Lm "_law_turned"=true) (k38:PySem.W.keepIn K (.ref TJ)=true)
  (a39:PySem.W.nsIn K mainGlobals "_law_throw"=some (some (.ref TX))) (l39:K.lookup TX=some ⟨T3,TY,.func (PySem.W.fnOf "_law_throw" "_law_throw" (aM (top 54)) (aL (top 54)) (af (top 54)) .none T4 T5 T6 TZ Ln T7),T1⟩) (e39:PySem.W.codeIn K Ln "_law_throw"=true) (k39:PySem.W.keepIn K (.ref TX)=true)
  (a40:PySem.W.nsIn K mainGlobals "_law_board"=some (some (.ref T8))) (l40:K.lookup T8=some ⟨Uc,T9,.func (PySem.W.fnOf "_law_board" "_law_board" (aM (top 55)) (aL (top 55)) (af (top 55)) .none Ud Ue Ug Ua Lo Uh),Ub⟩) (e40:PySem.W.codeIn K Lo "_law_board"=true) (k40:PySem.W.keepIn K (.ref T8)=true)
  (a41:PySem.W.nsIn K mainGlobals "_law_copy"=some (some (.ref Ui))) (l41:K.lookup Ui=some ⟨Um,Uj,.func (PySem.W.fnOf "_law_copy" "_law_copy" (aM (top 57)) (aL (top 57)) (af (top 57)) .none Uo Up Uq Uk Lp Ur),Ul⟩) (e41:PySem.W.codeIn K Lp "_law_copy"=true) (k41:PySem.W.keepIn K (.ref Ui)=true)
  (a42:PySem.W.nsIn K mainGlobals "_law_ways"=some (some (.ref Us))) (l42:K.lookup Us=some ⟨Uw,Ut,.func (PySem.W.fnOf "_law_ways" "_law_ways" (aM (top 58)) (aL (top 58)) (af (top 58)) .none Ux Uy Uz Uu Lq UA),Uv⟩) (e42:PySem.W.codeIn K Lq "_law_ways"=true) (k42:PySem.W.keepIn K (.ref Us)=true)
  (a43:PySem.W.nsIn K mainGlobals "_law_is_share"=some (some (.ref UB))) (l43:K.lookup UB=some ⟨UG,UC,.func (PySem.W.fnOf "_law_is_share" "_law_is_share" (aM (top 60)) (aL (top 60)) (af (top 60)) .none UH UI UJ UD Lr UK),UE⟩) (e43:PySem.W.codeIn K Lr "_law_is_share"=true) (k43:PySem.W.keepIn K (.ref UB)=true)
  (a44:PySem.W.nsIn K mainGlobals "_law_are_shares"=some (some (.ref UL))) (l44:K.lookup UL=some ⟨UP,UM,.func (PySem.W.fnOf "_law_are_shares" "_law_are_shares" (aM (top 61)) (aL (top 61)) (af (top 61)) .none UQ UR US UN Lu UT),UO⟩) (e44:PySem.W.codeIn K Lu "_law_are_shares"=true) (k44:PySem.W.keepIn K (.ref UL)=true)
  (a45:PySem.W.nsIn K mainGlobals "_law_less"=some (some (.ref UU))) (l45:K.lookup UU=some ⟨UZ,UW,.func (PySem.W.fnOf "_law_less" "_law_less" (aM (top 62)) (aL (top 62)) (af (top 62)) .none U0 U1 U2 UX Lx U3),UY⟩) (e45:PySem.W.codeIn K Lx "_law_less"=true) (k45:PySem.W.keepIn K (.ref UU)=true)
  (a46:PySem.W.nsIn K mainGlobals "_law_by"=some (some (.ref U4))) (l46:K.lookup U4=some ⟨U8,U5,.func (PySem.W.fnOf "_law_by" "_law_by" (aM (top 63)) (aL (top 63)) (af (top 63)) .none U9 Va Vc U6 Ly Vd),U7⟩) (e46:PySem.W.codeIn K Ly "_law_by"=true) (k46:PySem.W.keepIn K (.ref U4)=true)
  (a47:PySem.W.nsIn K mainGlobals "_law_holds"=some (some (.ref Ve))) (l47:K.lookup Ve=some ⟨Vi,Vf,.func (PySem.W.fnOf "_law_holds" "_law_holds" (aM (top 64)) (aL (top 64)) (af (top 64)) .none Vj Vk Vl Vg Lz Vm),Vh⟩) (e47:PySem.W.codeIn K Lz "_law_holds"=true) (k47:PySem.W.keepIn K (.ref Ve)=true)
  (a48:PySem.W.nsIn K mainGlobals "law"=some (some (.ref Vn))) (l48:K.lookup Vn=some ⟨Vr,Vo,.func (PySem.W.fnOf "law" "law" (aM (top 65)) (aL (top 65)) (af (top 65)) .none Vs Vt Vu Vp LC Vv),Vq⟩) (e48:PySem.W.codeIn K LC "law"=true) (k48:PySem.W.keepIn K (.ref Vn)=true)
  (z_abs:PySem.W.nsIn K mainGlobals "abs"=some none)
  (z_all:PySem.W.nsIn K mainGlobals "all"=some none)
  (z_any:PySem.W.nsIn K mainGlobals "any"=some none)
  (z_bool:PySem.W.nsIn K mainGlobals "bool"=some none)
  (z_enumerate:PySem.W.nsIn K mainGlobals "enumerate"=some none)
  (z_int:PySem.W.nsIn K mainGlobals "int"=some none)
  (z_isinstance:PySem.W.nsIn K mainGlobals "isinstance"=some none)
  (z_len:PySem.W.nsIn K mainGlobals "len"=some none)
  (z_list:PySem.W.nsIn K mainGlobals "list"=some none)
  (z_max:PySem.W.nsIn K mainGlobals "max"=some none)
  (z_range:PySem.W.nsIn K mainGlobals "range"=some none)
  (z_sorted:PySem.W.nsIn K mainGlobals "sorted"=some none)
  (z_sum:PySem.W.nsIn K mainGlobals "sum"=some none)
  (z_tuple:PySem.W.nsIn K mainGlobals "tuple"=some none)
  (z_zip:PySem.W.nsIn K mainGlobals "zip"=some none)
  (c_MOST_PLACES:PySem.W.nsIn K mainGlobals "MOST_PLACES"=some (some (.int 40 pF)))
  (c_MOST_PICKS:PySem.W.nsIn K mainGlobals "MOST_PICKS"=some (some (.int 4096 p9)))
  (k_Book:PySem.W.nsIn K mainGlobals "Book"=some (some (.ref aA)))
  (cl_Bookpg:PySem.W.plainGet K aA Str.empty=true)
  (cl_Bookhd:PySem.W.hasDictIn K aA=true)
  (cl_Bookpo:PySem.W.plainOver K aA=true)
  (cl_Booksa:PySem.W.findIn K (.ref aA) "__setattr__"=some (some (.builtin "object.__setattr__")))
  (na_Book_bottom:PySem.W.findIn K (.ref aA) "bottom"=some none)
  (na_Book_tops:PySem.W.findIn K (.ref aA) "tops"=some none)
  (dia_Book:PySem.W.findIn K (.ref aA) "__init__"=some (some (.ref nE)))
  (dii_Book:PySem.W.isFn K (.ref nE)=true)
  (dil_Book:K.lookup nE=some ⟨Ce,Cb,.func (PySem.W.fnOf "__init__" "Book.__init__" (aM (inClass (top 33) 0)) (aL (inClass (top 33) 0)) (af (inClass (top 33) 0)) .none Cf Cg Ci Cc va Cj),Cd⟩)
  (dic_Book:PySem.W.codeIn K va "Book.__init__"=true)
  (dik_Book:PySem.W.keepIn K (.ref nE)=true)
  (dim_Book:PySem.W.makesIn K aA=true)
  (diq_Book:PySem.W.keepIn K (.ref aA)=true)
  (dma_Book_as_shares:PySem.W.findIn K (.ref aA) "as_shares"=some (some (.ref cY)))
  (dmi_Book_as_shares:PySem.W.isFn K (.ref cY)=true)
  (dml_Book_as_shares:K.lookup cY=some ⟨jv,js,.func (PySem.W.fnOf "as_shares" "Book.as_shares" (aM (inClass (top 33) 2)) (aL (inClass (top 33) 2)) (af (inClass (top 33) 2)) .none jw jx jy jt fb jz),ju⟩)
  (dmc_Book_as_shares:PySem.W.codeIn K fb "Book.as_shares"=true)
  (dmk_Book_as_shares:PySem.W.keepIn K (.ref cY)=true)
  (dma_Book_scaled:PySem.W.findIn K (.ref aA) "scaled"=some (some (.ref dF)))
  (dmi_Book_scaled:PySem.W.isFn K (.ref dF)=true)
  (dml_Book_scaled:K.lookup dF=some ⟨mQ,mN,.func (PySem.W.fnOf "scaled" "Book.scaled" (aM (inClass (top 33) 1)) (aL (inClass (top 33) 1)) (af (inClass (top 33) 1)) .none mR mS mT mO gW mU),mP⟩)
  (dmc_Book_scaled:PySem.W.codeIn K gW "Book.scaled"=true)
  (dmk_Book_scaled:PySem.W.keepIn K (.ref dF)=true)
  :∃fd:FuncData,(∀(s:Shared) (v:Value),BindsTo s fd ⟨[v],[]⟩ [("_law_script",v)])/\∀base:Heap,K.In base->base.Ns mainGlobals mg->pO base mg tc tp->eD l.prog w K mg base (bN l.prog w) 30 fa fd ["_law_script"] (x8 K tp):=by
 have e:=hfa.symm.trans (aam X G a48)
 cases e
 have T:Txt K mg aA tc:=⟨aaP X G z_abs,aaP X G z_all,aaP X G z_any,aaP X G z_bool,aaP X G z_enumerate,aaP X G z_int,aaP X G z_isinstance,aaP X G z_len,aaP X G z_list,aaP X G z_max,aaP X G z_range,aaP X G z_sorted,aaP X G z_sum,aaP X G z_tuple,aaP X G z_zip,⟨_,_,aX l0 e0 k0,aam X G a0⟩,⟨_,_,aX l1 e1 k1,aam X G a1⟩,⟨_,_,aX l2 e2 k2,aam X G a2⟩,⟨_,_,aX l3 e3 k3,aam X G a3⟩,⟨_,_,aX l4 e4 k4,aam X G a4⟩,⟨_,_,aX l5 e5 k5,aam X G a5⟩,⟨_,_,aX l6 e6 k6,aam X G a6⟩,⟨_,_,aX l7 e7 k7,aam X G a7⟩,⟨_,_,aX l8 e8 k8,aam X G a8⟩,⟨_,_,aX l9 e9 k9,aam X G a9⟩,⟨_,_,aX l10 e10 k10,aam X G a10⟩,⟨_,_,aX l11 e11 k11,aam X G a11⟩,⟨_,_,aX l12 e12 k12,aam X G a12⟩,⟨_,_,aX l13 e13 k13,aam X G a13⟩,⟨_,_,aX l14 e14 k14,aam X G a14⟩,⟨_,_,aX l15 e15 k15,aam X G a15⟩,⟨_,_,aX l16 e16 k16,aam X G a16⟩,⟨_,_,aX l17 e17 k17,aam X G a17⟩,⟨_,_,aX l18 e18 k18,aam X G a18⟩,⟨_,_,aX l19 e19 k19,aam X G a19⟩,⟨_,_,aX l20 e20 k20,aam X G a20⟩,⟨_,_,aX l21 e21 k21,aam X G a21⟩,⟨_,_,aX l22 e22 k22,aam X G a22⟩,⟨_,_,aX l23 e23 k23,aam X G a23⟩,⟨_,_,aX l24 e24 k24,aam X G a24⟩,⟨_,_,aX l25 e25 k25,aam X G a25⟩,⟨_,_,aX l26 e26 k26,aam X G a26⟩,⟨_,_,aX l27 e27 k27,aam X G a27⟩,⟨_,_,aX l28 e28 k28,aam X G a28⟩,⟨_,_,aX l29 e29 k29,aam X G a29⟩,⟨_,_,aX l30 e30 k30,aam X G a30⟩,⟨_,_,aX l31 e31 k31,aam X G a31⟩,⟨_,_,aX l32 e32 k32,aam X G a32⟩,⟨_,_,aX l33 e33 k33,aam X G a33⟩,⟨_,_,aX l34 e34 k34,aam X G a34⟩,⟨_,_,aX l35 e35 k35,aam X G a35⟩,⟨_,_,aX l36 e36 k36,aam X G a36⟩,⟨_,_,aX l37 e37 k37,aam X G a37⟩,⟨_,_,aX l38 e38 k38,aam X G a38⟩,⟨_,_,aX l39 e39 k39,aam X G a39⟩,⟨_,_,aX l40 e40 k40,aam X G a40⟩,⟨_,_,aX l41 e41 k41,aam X G a41⟩,⟨_,_,aX l42 e42 k42,aam X G a42⟩,⟨_,_,aX l43 e43 k43,aam X G a43⟩,⟨_,_,aX l44 e44 k44,aam X G a44⟩,⟨_,_,aX l45 e45 k45,aam X G a45⟩,⟨_,_,aX l46 e46 k46,aam X G a46⟩,⟨_,_,aX l47 e47 k47,aam X G a47⟩,⟨_,aam X G c_MOST_PLACES⟩,⟨_,aam X G c_MOST_PICKS⟩,aam X G k_Book,⟨cl_Bookpg,cl_Bookhd,cl_Bookpo,cl_Booksa⟩,na_Book_bottom,na_Book_tops,⟨_,_,aX dil_Book dic_Book dik_Book,⟨dim_Book,dia_Book,dii_Book,diq_Book⟩,aam X G k_Book⟩,⟨_,_,aX dml_Book_as_shares dmc_Book_as_shares dmk_Book_as_shares,⟨dma_Book_as_shares,dmi_Book_as_shares,dmk_Book_as_shares⟩⟩,⟨_,_,aX dml_Book_scaled dmc_Book_scaled dmk_Book_scaled,⟨dma_Book_scaled,dmi_Book_scaled,dmk_Book_scaled⟩⟩,⟨_,_,_,_,_,aam X G a14,l14,rfl⟩⟩
 exact⟨_,λs v=>.of_eq rfl,λbase _ _ LB=>(HG T LB (aX l48 e48 k48)).mono (by decide)⟩
theorem walk {tc tp:Addr} {l:PySem.W.OpenLaw} {q:Program} {loose:List Str} {XP:(Str->Option Value)->Heap->Prop} {YP:World->Heap->Prop} {d:DefRec} {K:Params->PySem.W.Frag} (hn:l.most=some 63) (IQ:d.params.defaults=[])
  (hY:∀(w:World) (h:Heap),YP w h->(K w.params).In h) (Nq:∀(w:World) (h:Heap),YP w h->h.get? tp=some (PySem.W.tabObj #[])/\PySem.W.CodeHd h tc tp/\(K w.params).lookup tp=none)
  (F:∀(w:World) (mg:Str->Option Value) (fa:Addr) (h:Heap),(K w.params).In h->h.Ns mainGlobals mg->mg d.name=some (.ref fa)->
   ∃fd:FuncData,(∀(s:Shared) (u:Value),BindsTo s fd ⟨[u],[]⟩ [("_law_script",u)])/\∀base:Heap,(K w.params).In base->base.Ns mainGlobals mg->pO base mg tc tp->eD l.prog w (K w.params) mg base (bN l.prog w) 30 fa fd ["_law_script"] (x8 (K w.params) tp)):
  PySem.W.WalkO q loose XP YP l.row.toRowW d [] (λf vs=>PySem.call f vs):=
 L2.AM (tc:=tc) (tp:=tp) (dsc:=dsc) (n:=63) (k:=30) (x:="_law_script") (CX:=λw=>bN l.prog w) (sp:=λw=>x8 (K w.params) tp) hn (by decide) IQ ⟨rfl,by decide,by decide⟩ hY Nq F (λ_ _ a ns hl hT hS=>⟨a,ns,rfl,hT,hS,hl,λ_=>rfl⟩) λ_ _ _ _ _ z=>(xc _ _) _ _ _ _ _ z
end K41
open PySem PySem.W PyProof.Rows
set_option maxRecDepth 100000 in
set_option maxHeartbeats 0 in
theorem PySem.Challenge.cw_pressluck_k41_worths_that_fit_holds : PySem.Challenge.rw_pressluck_k41_worths_that_fit.Holds := by
  w_on; refine holds_law (by decide +kernel) fun aaa => ?_
  refine holds_open (q := K41.vw) (loose := []) (Xt := (fun s => xlAt K41.vw [] s && recOk (RowW.records (OpenRow.toRowW (PySem.W.OpenLaw.row PySem.Challenge.rw_pressluck_k41_worths_that_fit))) s)) (XP := XL K41.vw []) (Yf := Hook.obs (PySem.W.kmHook K41.pre.heap_1 K41.Ef K41.zo [156])) (Ya := Hook.val (PySem.W.kmHook K41.pre.heap_1 K41.Ef K41.zo [156])) (YP := Hook.says (PySem.W.kmHook K41.pre.heap_1 K41.Ef K41.zo [156])) (N := 5594) (Hd.yi (by kernel_rfl) (by decide) (fun s => by kernel_rfl) K41.run) (Hook.of (PySem.W.kmHook K41.pre.heap_1 K41.Ef K41.zo [156])) (Hook.keeps (PySem.W.kmHook K41.pre.heap_1 K41.Ef K41.zo [156])) (fun s e => xl_of s (Bool.and_eq_true_iff.mp e).1) XL.keeps (by rfl) (by rfl) (by rfl) (fun s e => recFacts_of (Bool.and_eq_true_iff.mp e).2) (by rfl) (by first | assumption | decide +kernel) (by decide +kernel) ⟨rfl, rfl, rfl, rfl, rfl, by decide +kernel⟩ ?hw ?hc
  (case hw => w_witness2)
  k_fill
  refine K41.walk (tc := 158) (tp := 156) (l := PySem.Challenge.rw_pressluck_k41_worths_that_fit) rfl rfl (fun w h Y => PySem.W.km_in_of Y) (fun w h Y => ⟨PySem.W.km_tabs_of Y _ (.head _), PySem.W.codeHd_of_K (PySem.W.km_in_of Y) (by kernel_rfl), by kernel_rfl⟩) ?F
  case F =>
    intro w mg fa h KX G IS
    refine' K41.all_mk (tc := 158) (tp := 156) KX G IS ?a0 ?l0 ?e0 ?k0 ?a1 ?l1 ?e1 ?k1 ?a2 ?l2 ?e2 ?k2 ?a3 ?l3 ?e3 ?k3 ?a4 ?l4 ?e4 ?k4 ?a5 ?l5 ?e5 ?k5 ?a6 ?l6 ?e6 ?k6 ?a7 ?l7 ?e7 ?k7 ?a8 ?l8 ?e8 ?k8 ?a9 ?l9 ?e9 ?k9 ?a10 ?l10 ?e10 ?k10 ?a11 ?l11 ?e11 ?k11 ?a12 ?l12 ?e12 ?k12 ?a13 ?l13 ?e13 ?k13 ?a14 ?l14 ?e14 ?k14 ?a15 ?l15 ?e15 ?k15 ?a16 ?l16 ?e16 ?k16 ?a17 ?l17 ?e17 ?k17 ?a18 ?l18 ?e18 ?k18 ?a19 ?l19 ?e19 ?k19 ?a20 ?l20 ?e20 ?k20 ?a21 ?l21 ?e21 ?k21 ?a22 ?l22 ?e22 ?k22 ?a23 ?l23 ?e23 ?k23 ?a24 ?l24 ?e24 ?k24 ?a25 ?l25 ?e25 ?k25 ?a26 ?l26 ?e26 ?k26 ?a27 ?l27 ?e27 ?k27 ?a28 ?l28 ?e28 ?k28 ?a29 ?l29 ?e29 ?k29 ?a30 ?l30 ?e30 ?k30 ?a31 ?l31 ?e31 ?k31 ?a32 ?l32 ?e32 ?k32 ?a33 ?l33 ?e33 ?k33 ?a34 ?l34 ?e34 ?k34 ?a35 ?l35 ?e35 ?k35 ?a36 ?l36 ?e36 ?k36 ?a37 ?l37 ?e37 ?k37 ?a38 ?l38 ?e38 ?k38 ?a39 ?l39 ?e39 ?k39 ?a40 ?l40 ?e40 ?k40 ?a41 ?l41 ?e41 ?k41 ?a42 ?l42 ?e42 ?k42 ?a43 ?l43 ?e43 ?k43 ?a44 ?l44 ?e44 ?k44 ?a45 ?l45 ?e45 ?k45 ?a46 ?l46 ?e46 ?k46 ?a47 ?l47 ?e47 ?k47 ?a48 ?l48 ?e48 ?k48 ?z_abs ?z_all ?z_any ?z_bool ?z_enumerate ?z_int ?z_isinstance ?z_len ?z_list ?z_max ?z_range ?z_sorted ?z_sum ?z_tuple ?z_zip ?c_MOST_PLACES ?c_MOST_PICKS ?k_Book ?cl_Bookpg ?cl_Bookhd ?cl_Bookpo ?cl_Booksa ?na_Book_bottom ?na_Book_tops ?dia_Book ?dii_Book ?dil_Book ?dic_Book ?dik_Book ?dim_Book ?diq_Book ?dma_Book_as_shares ?dmi_Book_as_shares ?dml_Book_as_shares ?dmc_Book_as_shares ?dmk_Book_as_shares ?dma_Book_scaled ?dmi_Book_scaled ?dml_Book_scaled ?dmc_Book_scaled ?dmk_Book_scaled
    (case a0 => k_is)
    (case l0 => k_is)
    (case e0 => k_is)
    (case k0 => k_is)
    (case a1 => k_is)
    (case l1 => k_is)
    (case e1 => k_is)
    (case k1 => k_is)
    (case a2 => k_is)
    (case l2 => k_is)
    (case e2 => k_is)
    (case k2 => k_is)
    (case a3 => k_is)
    (case l3 => k_is)
    (case e3 => k_is)
    (case k3 => k_is)
    (case a4 => k_is)
    (case l4 => k_is)
    (case e4 => k_is)
    (case k4 => k_is)
    (case a5 => k_is)
    (case l5 => k_is)
    (case e5 => k_is)
    (case k5 => k_is)
    (case a6 => k_is)
    (case l6 => k_is)
    (case e6 => k_is)
    (case k6 => k_is)
    (case a7 => k_is)
    (case l7 => k_is)
    (case e7 => k_is)
    (case k7 => k_is)
    (case a8 => k_is)
    (case l8 => k_is)
    (case e8 => k_is)
    (case k8 => k_is)
    (case a9 => k_is)
    (case l9 => k_is)
    (case e9 => k_is)
    (case k9 => k_is)
    (case a10 => k_is)
    (case l10 => k_is)
    (case e10 => k_is)
    (case k10 => k_is)
    (case a11 => k_is)
    (case l11 => k_is)
    (case e11 => k_is)
    (case k11 => k_is)
    (case a12 => k_is)
    (case l12 => k_is)
    (case e12 => k_is)
    (case k12 => k_is)
    (case a13 => k_is)
    (case l13 => k_is)
    (case e13 => k_is)
    (case k13 => k_is)
    (case a14 => k_is)
    (case l14 => k_is)
    (case e14 => k_is)
    (case k14 => k_is)
    (case a15 => k_is)
    (case l15 => k_is)
    (case e15 => k_is)
    (case k15 => k_is)
    (case a16 => k_is)
    (case l16 => k_is)
    (case e16 => k_is)
    (case k16 => k_is)
    (case a17 => k_is)
    (case l17 => k_is)
    (case e17 => k_is)
    (case k17 => k_is)
    (case a18 => k_is)
    (case l18 => k_is)
    (case e18 => k_is)
    (case k18 => k_is)
    (case a19 => k_is)
    (case l19 => k_is)
    (case e19 => k_is)
    (case k19 => k_is)
    (case a20 => k_is)
    (case l20 => k_is)
    (case e20 => k_is)
    (case k20 => k_is)
    (case a21 => k_is)
    (case l21 => k_is)
    (case e21 => k_is)
    (case k21 => k_is)
    (case a22 => k_is)
    (case l22 => k_is)
    (case e22 => k_is)
    (case k22 => k_is)
    (case a23 => k_is)
    (case l23 => k_is)
    (case e23 => k_is)
    (case k23 => k_is)
    (case a24 => k_is)
    (case l24 => k_is)
    (case e24 => k_is)
    (case k24 => k_is)
    (case a25 => k_is)
    (case l25 => k_is)
    (case e25 => k_is)
    (case k25 => k_is)
    (case a26 => k_is)
    (case l26 => k_is)
    (case e26 => k_is)
    (case k26 => k_is)
    (case a27 => k_is)
    (case l27 => k_is)
    (case e27 => k_is)
    (case k27 => k_is)
    (case a28 => k_is)
    (case l28 => k_is)
    (case e28 => k_is)
    (case k28 => k_is)
    (case a29 => k_is)
    (case l29 => k_is)
    (case e29 => k_is)
    (case k29 => k_is)
    (case a30 => k_is)
    (case l30 => k_is)
    (case e30 => k_is)
    (case k30 => k_is)
    (case a31 => k_is)
    (case l31 => k_is)
    (case e31 => k_is)
    (case k31 => k_is)
    (case a32 => k_is)
    (case l32 => k_is)
    (case e32 => k_is)
    (case k32 => k_is)
    (case a33 => k_is)
    (case l33 => k_is)
    (case e33 => k_is)
    (case k33 => k_is)
    (case a34 => k_is)
    (case l34 => k_is)
    (case e34 => k_is)
    (case k34 => k_is)
    (case a35 => k_is)
    (case l35 => k_is)
    (case e35 => k_is)
    (case k35 => k_is)
    (case a36 => k_is)
    (case l36 => k_is)
    (case e36 => k_is)
    (case k36 => k_is)
    (case a37 => k_is)
    (case l37 => k_is)
    (case e37 => k_is)
    (case k37 => k_is)
    (case a38 => k_is)
    (case l38 => k_is)
    (case e38 => k_is)
    (case k38 => k_is)
    (case a39 => k_is)
    (case l39 => k_is)
    (case e39 => k_is)
    (case k39 => k_is)
    (case a40 => k_is)
    (case l40 => k_is)
    (case e40 => k_is)
    (case k40 => k_is)
    (case a41 => k_is)
    (case l41 => k_is)
    (case e41 => k_is)
    (case k41 => k_is)
    (case a42 => k_is)
    (case l42 => k_is)
    (case e42 => k_is)
    (case k42 => k_is)
    (case a43 => k_is)
    (case l43 => k_is)
    (case e43 => k_is)
    (case k43 => k_is)
    (case a44 => k_is)
    (case l44 => k_is)
    (case e44 => k_is)
    (case k44 => k_is)
    (case a45 => k_is)
    (case l45 => k_is)
    (case e45 => k_is)
    (case k45 => k_is)
    (case a46 => k_is)
    (case l46 => k_is)
    (case e46 => k_is)
    (case k46 => k_is)
    (case a47 => k_is)
    (case l47 => k_is)
    (case e47 => k_is)
    (case k47 => k_is)
    (case a48 => k_is)
    (case l48 => k_is)
    (case e48 => k_is)
    (case k48 => k_is)
    (case z_abs => k_is)
    (case z_all => k_is)
    (case z_any => k_is)
    (case z_bool => k_is)
    (case z_enumerate => k_is)
    (case z_int => k_is)
    (case z_isinstance => k_is)
    (case z_len => k_is)
    (case z_list => k_is)
    (case z_max => k_is)
    (case z_range => k_is)
    (case z_sorted => k_is)
    (case z_sum => k_is)
    (case z_tuple => k_is)
    (case z_zip => k_is)
    (case c_MOST_PLACES => k_is)
    (case c_MOST_PICKS => k_is)
    (case k_Book => k_is)
    (case cl_Bookpg => k_is)
    (case cl_Bookhd => k_is)
    (case cl_Bookpo => k_is)
    (case cl_Booksa => k_is)
    (case na_Book_bottom => k_is)
    (case na_Book_tops => k_is)
    (case dia_Book => k_is)
    (case dii_Book => k_is)
    (case dil_Book => k_is)
    (case dic_Book => k_is)
    (case dik_Book => k_is)
    (case dim_Book => k_is)
    (case diq_Book => k_is)
    (case dma_Book_as_shares => k_is)
    (case dmi_Book_as_shares => k_is)
    (case dml_Book_as_shares => k_is)
    (case dmc_Book_as_shares => k_is)
    (case dmk_Book_as_shares => k_is)
    (case dma_Book_scaled => k_is)
    (case dmi_Book_scaled => k_is)
    (case dml_Book_scaled => k_is)
    (case dmc_Book_scaled => k_is)
    (case dmk_Book_scaled => k_is)
