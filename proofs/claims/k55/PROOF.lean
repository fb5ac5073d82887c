import PyProof.Rows.All
import Wide.All
import OpenK.AllK
import Wide.FinOn
import Lean
import PyProof.EqAt
import PyProof.EqKinds
import PyProof.TupleCall
import PyProof.NeKinds
import PySem.Challenge.RW_pressluck_k55_throws_spread
set_option Elab.async false
set_option linter.all false
set_option maxRecDepth 100000
theorem aat : type_of% @List.length_map := @List.length_map
theorem aau : type_of% @List.getElem?_map := @List.getElem?_map
theorem aav : type_of% @Nat.le_refl := @Nat.le_refl
theorem aaw : type_of% @List.map_cons := @List.map_cons
theorem aax : type_of% @PySem.W.mg_of := @PySem.W.mg_of
theorem aay : type_of% @List.length_append := @List.length_append
theorem aaz : type_of% @Nat.zero_le := @Nat.zero_le
theorem aaA : type_of% @Nat.ne_of_lt := @Nat.ne_of_lt
theorem aaB : type_of% @List.mem_cons_of_mem := @List.mem_cons_of_mem
theorem aaC : type_of% @List.mem_of_getElem? := @List.mem_of_getElem?
theorem aaD : type_of% @List.size_toArray := @List.size_toArray
theorem aaE : type_of% @List.mem_cons_self := @List.mem_cons_self
theorem aaF : type_of% @List.length_cons := @List.length_cons
theorem aaG : type_of% @List.getElem?_eq_getElem := @List.getElem?_eq_getElem
theorem aaH : type_of% @PySem.boot_len := @PySem.boot_len
theorem aaI : type_of% @Nat.le_trans := @Nat.le_trans
theorem aaJ : type_of% @List.take_of_length_le := @List.take_of_length_le
theorem aaK : type_of% @List.map_append := @List.map_append
theorem aaL : type_of% @Nat.lt_of_lt_of_le := @Nat.lt_of_lt_of_le
theorem aaM : type_of% @Bool.false_ne_true := @Bool.false_ne_true
theorem aaN : type_of% @Nat.lt_irrefl := @Nat.lt_irrefl
theorem aaO : type_of% @List.mem_append_right := @List.mem_append_right
theorem aaP : type_of% @List.append_nil := @List.append_nil
theorem aaQ : type_of% @List.take_add_one := @List.take_add_one
theorem aaR : type_of% @Nat.lt_succ_self := @Nat.lt_succ_self
theorem aaS : type_of% @Option.some.inj := @Option.some.inj
theorem aaT : type_of% @List.map_nil := @List.map_nil
theorem aaU : type_of% @PySem.F.plainAttrs_list := @PySem.F.plainAttrs_list
theorem aaV : type_of% @PySem.mem_of_lookup := @PySem.mem_of_lookup
theorem aaW : type_of% @List.lookup_cons := @List.lookup_cons
theorem aaX : type_of% @List.map_map := @List.map_map
theorem aaY : type_of% @Int.toNat_natCast := @Int.toNat_natCast
theorem aaZ : type_of% @Bool.and_eq_true := @Bool.and_eq_true
theorem aa0 : type_of% @List.length_singleton := @List.length_singleton
theorem aa1 : type_of% @Nat.lt_succ_of_lt := @Nat.lt_succ_of_lt
theorem aa2 : type_of% @List.set_cons_zero := @List.set_cons_zero
theorem aa3 : type_of% @List.set_cons_succ := @List.set_cons_succ
theorem aa4 : type_of% @Nat.ne_of_gt := @Nat.ne_of_gt
theorem aa5 : type_of% @PySem.F.slot_list_append := @PySem.F.slot_list_append
theorem aa6 : type_of% @PySem.F.type_list_append := @PySem.F.type_list_append
theorem aa7 : type_of% @PySem.W.mg_none_of := @PySem.W.mg_none_of
theorem aa8 : type_of% @Nat.lt_trans := @Nat.lt_trans
theorem aa9 : type_of% @List.getElem_mem := @List.getElem_mem
theorem aba : type_of% @List.mem_append_left := @List.mem_append_left
theorem abb : type_of% @PySem.W.kia_one := @PySem.W.kia_one
theorem abc : type_of% @List.getElem?_append_left := @List.getElem?_append_left
theorem abd : type_of% @List.find?_cons := @List.find?_cons
theorem abe : type_of% @List.length_nil := @List.length_nil
theorem abf : type_of% @List.foldl_append := @List.foldl_append
theorem abg : type_of% @List.length_take := @List.length_take
theorem abh : type_of% @List.mem_cons := @List.mem_cons
theorem abi : type_of% @List.sum_cons := @List.sum_cons
theorem abj : type_of% @List.lookup_cons_self := @List.lookup_cons_self
theorem abk : type_of% @List.getElem?_append_right := @List.getElem?_append_right
theorem abl : type_of% @List.getD_eq_getElem?_getD := @List.getD_eq_getElem?_getD
theorem abm : type_of% @List.flatMap_cons := @List.flatMap_cons
theorem abn : type_of% @List.filterMap_cons := @List.filterMap_cons
theorem abo : type_of% @List.replicate_succ := @List.replicate_succ
theorem abp : type_of% @List.length_reverse := @List.length_reverse
namespace Hd
open PySem PySem.W PyProof.Rows
noncomputable def tK (ok:Thread->Bool) (st:SharedT->Thread->Option (SharedT×Thread)) (n:Nat):SharedT->Thread->Option SharedT:=
 @Nat.rec (λ_=>SharedT->Thread->Option SharedT) (λ_ _=>none)
  (λ_ ih s t=>@Bool.rec (λ_=>Option SharedT) (@Bool.rec (λ_=>Option SharedT) none (@Option.rec (SharedT×Thread) (λ_=>Option SharedT) none (λr=>@Prod.rec _ _ (λ_=>Option SharedT) (λa b=>ih a b) r) (st s t)) (ok t)) (some s) (through t)) n
theorem nR {tb:String->Option Builtin} {p:Program} {w:World} {n₀:Nat} {ann:Option Value}:∀(n:Nat) (s:SharedT) (t:Thread) (s':SharedT),tK (stepOk n₀ ann) (stepT (denote tb) p w) n s t=some s'->topRun tb p w n₀ ann n s.abs t=some s'.abs
 | 0,_,_,_,h=>by cases h
 | n+1,s,t,s',h=>by
  unfold topRun
  replace h:@Bool.rec (λ_=>Option SharedT) (@Bool.rec (λ_=>Option SharedT) none (@Option.rec (SharedT×Thread) (λ_=>Option SharedT) none (λr=>@Prod.rec _ _ (λ_=>Option SharedT) (λa b=>tK (stepOk n₀ ann) (stepT (denote tb) p w) n a b) r) (stepT (denote tb) p w s t)) (stepOk n₀ ann t)) (some s) (through t)=some s':=h
  cases ht:through t with
  | true=>rw[ht] at h;cases h;rfl
  | false=>
   rw[ht] at h;cases hk:stepOk n₀ ann t with
   | false=>rw[hk] at h;cases h
   | true=>
    rw[hk] at h;cases hs:stepT (denote tb) p w s t with
    | none=>rw[hs] at h;cases h
    | some r=>obtain⟨s₂,t₂⟩:=r;rw[hs] at h;rw[stepT_spec hs];exact nR n s₂ t₂ s' h
noncomputable def bt (P:Params):BT:=((boot_heap P).objs.toList.foldl (fun(x:BT×Nat) o=>(x.1.ins x.2 o,x.2+1)) (.nil,0)).1
noncomputable def xm (w:World) (os:OsState):SharedT:=⟨bt w.params,11,{},Array.mk [],boot_drawn,boot_toks,os⟩
theorem yJ (w:World) (os:OsState):(xm w os).abs=⟨boot_heap w.params,Array.mk [],boot_drawn,boot_toks,os⟩:=by kernel_rfl
theorem vA (w:World):((boot_heap w.params).isNs mainGlobals && (Array.mk []:Array GenState).size==0,(boot_heap w.params).objs.size,(boot_heap w.params).nsMap mainGlobals "__annotations__")=(true,11,some (.ref 6)):=by kernel_rfl
theorem Ao {p q:Program} {loose:List Str} {Xt:Shared->Bool} {α:Type} {Yf:Shared->α} {Ya:World->α} {N:Nat} {g0:Bool}
  (Jt:∀w:World,(fencedOpening treeTable p w N).map (λs=>(s.heap,s.gens,s.drawn,s.toks))=some (boot_heap w.params,Array.mk [],boot_drawn,boot_toks))
  (run:∀(w:World) (os:OsState),(tK (stepOk 11 (some (.ref 6))) (stepT (denote treeTable) p w) N (xm w os) (topStub p)).map (λs=>((staticsOk (importedModules p.main.body) (boot_heap w.params) s.abs.heap && namesBound p s.abs.heap && gensDone s.abs && laidKept (boot_heap w.params) s.abs.heap),openSeen q loose (importedModules p.main.body) Xt g0 s.abs,Yf s.abs))=some (true,openGood q loose,Ya w)):
  LeftO p q loose Xt Yf Ya N g0:=λw=>by
 obtain⟨⟨h,gs,d,k,os⟩,e,e'⟩:=Option.map_eq_some_iff.mp (Jt w);obtain⟨rfl,rfl,rfl,rfl⟩:h=boot_heap w.params/\gs=Array.mk []/\d=boot_drawn/\k=boot_toks:=by simpa using e'
 obtain⟨z1,z2,z3⟩:_/\_/\_:=by simpa only[Prod.mk.injEq] using vA w
 obtain⟨s,r,l⟩:=Option.map_eq_some_iff.mp (run w os);obtain⟨l1,l2,l3⟩:_/\_/\_:=by simpa only[Prod.mk.injEq] using l
 have r:=nR _ _ _ _ r;rw[yJ] at r;have t:topFrom treeTable p w N ⟨boot_heap w.params,Array.mk [],boot_drawn,boot_toks,os⟩=some s.abs:=by
  unfold topFrom;dsimp only;rw[z1,z2,z3,r];show(match staticsOk (importedModules p.main.body) (boot_heap w.params) s.abs.heap && namesBound p s.abs.heap && gensDone s.abs && laidKept (boot_heap w.params) s.abs.heap with | true=>_ | false=>_)=_;rw[l1]
 unfold openEnds;rw[e];show((topFrom treeTable p w N ⟨boot_heap w.params,Array.mk [],boot_drawn,boot_toks,os⟩)).map _=_;rw[t];show some (_,_)=_;rw[l2,l3]
noncomputable def Runs (p q:Program) (loose:List Str) (Xt:Shared->Bool) {α:Type} (Yf:Shared->α) (Ya:World->α) (N:Nat) (g0:Bool) (w:World):Prop:=
 ∀os:OsState,(tK (PySem.W.Fast.tw6613529449190102663 11 (some (.ref 6))) (PySem.W.Fast.tw10156331382660048174 (PySem.W.Fast.tw11892475500146522536 PySem.W.Fast.tw14364793385576792824) p w) N (xm w os) (topStub p)).map (λs=>((staticsOk (importedModules p.main.body) (boot_heap w.params) s.abs.heap && namesBound p s.abs.heap && gensDone s.abs && laidKept (boot_heap w.params) s.abs.heap),PySem.W.Fast.tw4187177175401517315 q loose (importedModules p.main.body) Xt g0 s.abs,Yf s.abs))=some (true,openGood q loose,Ya w)
theorem yK {p q:Program} {loose:List Str} {Xt:Shared->Bool} {α:Type} {Yf:Shared->α} {Ya:World->α} {N:Nat} {g0:Bool}
  (e:opening p=plainProg p.main.scope.names) (hN:Nat.ble 600 N=true) (f:∀s,fenceModules? p s=some s)
  (run:∀w:World,Runs p q loose Xt Yf Ya N g0 w):
  LeftO p q loose Xt Yf Ya N g0:=by
 refine Ao (boot_open e hN f) ?_;unfold Runs at run;rw[PySem.W.Fast.te6613529449190102663,PySem.W.Fast.te10156331382660048174,PySem.W.Fast.te11892475500146522536,PySem.W.Fast.te14364793385576792824,PySem.W.Fast.te4187177175401517315];exact run
noncomputable def rb (p:Program) (N:Nat) (w:World) (os:OsState):Option SharedT:=tK (PySem.W.Fast.tw6613529449190102663 11 (some (.ref 6))) (PySem.W.Fast.tw10156331382660048174 (PySem.W.Fast.tw11892475500146522536 PySem.W.Fast.tw14364793385576792824) p w) N (xm w os) (topStub p)
noncomputable def Ju (p:Program) (N:Nat) (w:World):Prop:=∀os:OsState,(rb p N w os).map (λs=>(staticsOk (importedModules p.main.body) (boot_heap w.params) s.abs.heap && namesBound p s.abs.heap && gensDone s.abs && laidKept (boot_heap w.params) s.abs.heap))=some true
noncomputable def Jv (p q:Program) (loose:List Str) (Xt:Shared->Bool) (N:Nat) (g0:Bool) (w:World):Prop:=∀os:OsState,(rb p N w os).map (λs=>PySem.W.Fast.tw4187177175401517315 q loose (importedModules p.main.body) Xt g0 s.abs)=some (openGood q loose)
noncomputable def Jw (p:Program) {α:Type} (Yf:Shared->α) (Ya:World->α) (N:Nat) (w:World):Prop:=∀os:OsState,(rb p N w os).map (λs=>Yf s.abs)=some (Ya w)
theorem Jx {p q:Program} {loose:List Str} {Xt:Shared->Bool} {α:Type} {Yf:Shared->α} {Ya:World->α} {N:Nat} {g0:Bool} {w:World} (a:Ju p N w) (b:Jv p q loose Xt N g0 w) (c:Jw p Yf Ya N w):Runs p q loose Xt Yf Ya N g0 w:=λos=>by
 obtain⟨s,r,l⟩:=Option.map_eq_some_iff.mp (a os);have b:=b os;have c:=c os;rw[r] at b c;have l2:PySem.W.Fast.tw4187177175401517315 q loose (importedModules p.main.body) Xt g0 s.abs=openGood q loose:=aaS b;have l3:Yf s.abs=Ya w:=aaS c;show(rb p N w os).map _=_;rw[r];show some (_,_,_)=_;rw[l,l2,l3]
noncomputable def sn (p q:Program) (loose:List Str) (Xt:Shared->Bool) (g0:Bool) (s:Shared):=PySem.W.Fast.tw4187177175401517315 q loose (importedModules p.main.body) Xt g0 s
end Hd
namespace K55
open PySem PySem.Spec PyProof.Rows
noncomputable def top (i:Nat):Stmt:=PySem.Challenge.pw_pressluck_k55_throws_spread.main.body.getD i (.Pass ⟨0,0,0,0⟩)
end K55
section Pj
open PySem PySem.W PyProof.Rows
local macro_rules | `(tactic| o_head $H) => `(tactic| (refine (fun (_ : PySem.W.Hook) => ?_) $H; assumption))
theorem K55.pre (h:PySem.W.OpenRow.Holds (PySem.W.OpenLaw.row PySem.Challenge.rw_pressluck_k55_throws_spread)):PySem.W.OpenRow.Holds (PySem.W.OpenLaw.row PySem.Challenge.rw_pressluck_k55_throws_spread):=by
 k_head
noncomputable def K55.CC:List Addr:=[2,3,15,22,23,24,25,28,35,36,37,40,47,48,49,52,59,60,61,64,71,72,73,76,78,79,81,82,83,85,86,88,89,90,92,93,95,96,97,100,101,102,104,105,107,108,109,112,113,114,117,118,119,121,122,124,125,126,128,129,131,132,133,135,136,138,139,140,142,143,145,146,147,149,150,152,153,154,157,158,159,162,163,164,167,168,169,171,172,174,175,176,179,180,181,183,184,186,187,188,191,192,193,196,197,198,201,202,203,206,207,208,210,211,213,214,222,224,225,227,228,229,231,232,234,235,236,238,239,241,242,243,245,246,248,249,250,252,253,255,256,257,259,260,262,263,264,266,267,269,270,271,274,275,276,278,279,281,282,283,285,286,288,289,290,293,294,295,298,299,300,302,303,305,306,307,308,309,310,311,321,323,324,326,327,328,330,331,333,334,335,336,337,338,339,342,344,345,347,348,349,352,353,354,356,357,359,360,361,364,365,366,368,369,371,372,373,375,376,378,379,380,382,383,385,386,387,389,390,392,393,394,396,397,399,400,401,403,404,406,407,408,411,412,413,416,417,418,421,422,423,425,426,428,429]
theorem K55.C4 (P:PySem.Params):K55.CC=(K55.pre.heap_1 P).map (·.1):=by kernel_rfl
noncomputable def K55.vw:PySem.Program:={PySem.Challenge.pw_pressluck_k55_throws_spread with main:={PySem.Challenge.pw_pressluck_k55_throws_spread.main with body:=[K55.top 1,K55.top 2,K55.top 3,K55.top 4,K55.top 5,K55.top 7,K55.top 8,K55.top 9,K55.top 11,K55.top 12,K55.top 13,K55.top 14,K55.top 16,K55.top 17,K55.top 18,K55.top 19,K55.top 20,K55.top 21,K55.top 22,K55.top 23,K55.top 24,K55.top 25,K55.top 26,K55.top 27,K55.top 28,K55.top 29,K55.top 30,K55.top 31,K55.top 33,K55.top 34,K55.top 35,K55.top 36,K55.top 37,K55.top 38,K55.top 39,K55.top 40,K55.top 41,K55.top 43,K55.top 44,K55.top 45,K55.top 46,K55.top 47,K55.top 48,K55.top 49,K55.top 50,K55.top 51,K55.top 52]}}
set_option maxHeartbeats 0 in
theorem K55.Jy:PySem.Challenge.rw_pressluck_k55_throws_spread.wellSaid=true:=by
 unfold OpenLaw.wellSaid OpenRow.wellSaid OpenRow.partSaid looksOpen
 with_reducible repeat' refine look_both ?_ ?_
 all_goals decide (config:={kernel:=true})
theorem K55.Pk (w:World):Hd.Ju (RowW.prog (OpenRow.toRowW (PySem.W.OpenLaw.row PySem.Challenge.rw_pressluck_k55_throws_spread))) 6290 w:=λos=>by kernel_rfl
theorem K55.Pm (w:World):Hd.Jv (RowW.prog (OpenRow.toRowW (PySem.W.OpenLaw.row PySem.Challenge.rw_pressluck_k55_throws_spread))) K55.vw [] (λs=>xlAt K55.vw [] s && recOk (RowW.records (OpenRow.toRowW (PySem.W.OpenLaw.row PySem.Challenge.rw_pressluck_k55_throws_spread))) s) 6290 true w:=λos=>by kernel_rfl
theorem K55.runC (w:World):Hd.Jw (RowW.prog (OpenRow.toRowW (PySem.W.OpenLaw.row PySem.Challenge.rw_pressluck_k55_throws_spread))) (Hook.obs (kHook K55.pre.heap_1 K55.CC K55.C4)) (Hook.val (kHook K55.pre.heap_1 K55.CC K55.C4)) 6290 w:=λos=>by kernel_rfl
theorem K55.run (w:World):Hd.Runs (RowW.prog (OpenRow.toRowW (PySem.W.OpenLaw.row PySem.Challenge.rw_pressluck_k55_throws_spread))) K55.vw [] (λs=>xlAt K55.vw [] s && recOk (RowW.records (OpenRow.toRowW (PySem.W.OpenLaw.row PySem.Challenge.rw_pressluck_k55_throws_spread))) s) (Hook.obs (kHook K55.pre.heap_1 K55.CC K55.C4)) (Hook.val (kHook K55.pre.heap_1 K55.CC K55.C4)) 6290 true w:=Hd.Jx (K55.Pk w) (K55.Pm w) (K55.runC w)
end Pj
set_option tactic.hygienic false
set_option compiler.extract_closed false
set_option hygiene false in
local macro_rules | `(tactic| symm) => `(tactic| (refine (?_ : let G_ : Prop := _; G_); intro G_))
set_option hygiene false in
local macro_rules | `(tactic| nofun) => `(tactic| dsimp only [G_])
local macro_rules | `(tactic| ac_rfl) => `(tactic| decide +kernel)
local macro_rules | `(tactic| omega) => `(tactic| lia)
namespace L2
open PySem PySem.Spec PyProof.Rows
abbrev Key:=Sum Int Str
noncomputable def nS:Key->Value->Bool
 | .inl k,v=>Value.isInt k v
 | .inr x,v=>Value.isStrOf x v
noncomputable def Gf (w:World):Key->Int
 | .inl k=>hashInt k
 | .inr x=>hashStr w x
theorem cO:∀{k:Key} {v:Value},nS k v=true->(∃i t,k=Sum.inl i/\v=Value.int i t)\/(∃x t,k=Sum.inr x/\v=Value.str x t)
 | .inl i,v,h=>by
  obtain⟨t,e⟩:=Value.isInt_shape (k:=i) (v:=v) h;exact .inl ⟨i,t,rfl,e⟩
 | .inr x,v,h=>by
  obtain⟨t,e⟩:=Value.isStrOf_shape (x:=x) (v:=v) h;exact .inr ⟨x,t,rfl,e⟩
theorem yL (i:Int) (t:Tok):nS (.inl i) (.int i t)=true:=by simp [nS,Value.isInt]
theorem yM (x:Str) (t:Tok):nS (.inr x) (.str x t)=true:=by simp [nS,Value.isStrOf]
theorem Gg (a b:Int):decide ((Sum.inl a:Key)=Sum.inl b)=(a==b):=by
 by_cases e:a=b
 ·subst e;simp
 ·have h:¬(Sum.inl a:Key)=Sum.inl b:=λq=>e (Sum.inl.inj q);rw[decide_eq_false h];exact(beq_eq_false_iff_ne.mpr e).symm
theorem Gh (a b:Str):decide ((Sum.inr a:Key)=Sum.inr b)=decide (a=b):=by
 by_cases e:a=b
 ·subst e;simp
 ·have h:¬(Sum.inr a:Key)=Sum.inr b:=λq=>e (Sum.inr.inj q);rw[decide_eq_false h,decide_eq_false e]
theorem Gi (a:Int) (b:Str):decide ((Sum.inl a:Key)=Sum.inr b)=false:=decide_eq_false (λq=>nomatch q)
theorem Gj (a:Str) (b:Int):decide ((Sum.inr a:Key)=Sum.inl b)=false:=decide_eq_false (λq=>nomatch q)
noncomputable def cM (prog:Program) (w:World):PySem.KeyKind prog w Key where
 is:=nS
 hash:=Gf w
 inj:=λv a b ha hb=>by
  rcases cO ha with ⟨i,t,rfl,rfl⟩ | ⟨x,t,rfl,rfl⟩
  ·rcases cO hb with ⟨j,u,rfl,e⟩ | ⟨y,u,rfl,e⟩
   ·injection e with e1 _;rw[e1]
   ·exact nomatch e
  ·rcases cO hb with ⟨j,u,rfl,e⟩ | ⟨y,u,rfl,e⟩
   ·exact nomatch e
   ·injection e with e1 _;rw[e1]
 byValue:=λk v h=>by
  rcases cO h with ⟨i,t,rfl,rfl⟩ | ⟨x,t,rfl,rfl⟩ <;>rfl
 pyHash:=λhv h=>by
  rcases cO hv with ⟨i,t,rfl,rfl⟩ | ⟨x,t,rfl,rfl⟩
  ·exact wpAny_pyHash_int h
  ·exact wpAny_pyHash_str h
 eqBool:=λhu hv h=>by
  rcases cO hu with ⟨i,t,rfl,rfl⟩ | ⟨x,t,rfl,rfl⟩
  ·rcases cO hv with ⟨j,u,rfl,rfl⟩ | ⟨y,u,rfl,rfl⟩
   ·rw[Gg] at h;exact wpAny_eqBool_int h
   ·rw[Gi] at h;exact SeqAt.EqAt.int_str i t y u _ _ _ _ h
  ·rcases cO hv with ⟨j,u,rfl,rfl⟩ | ⟨y,u,rfl,rfl⟩
   ·rw[Gj] at h;exact SeqAt.EqAt.str_int x t j u _ _ _ _ h
   ·rw[Gh] at h;exact wpAny_eqBool_str h
 «strs»:=λk x t v h=>by
  rcases cO h with ⟨i,u,rfl,e⟩ | ⟨y,u,rfl,e⟩
  ·exact nomatch e
  ·injection e with e1 _
   subst e1;cases v <;>rfl
theorem tL (prog:Program) (w:World) (i:Int) (t:Tok):(cM prog w).is (.inl i) (.int i t)=true:=yL i t
theorem tM (prog:Program) (w:World) (x:Str) (t:Tok):(cM prog w).is (.inr x) (.str x t)=true:=yM x t
inductive V where
 | dP | bl (b:Bool) | int (i:Int) | str (x:Str) | zY (b:Array UInt8) | Gk (b:UInt64) | ref (a:Addr) | ty (n:String)
 deriving DecidableEq
noncomputable def RelV:V->Value->Prop
 | .dP,u=>u=Value.none
 | .bl b,u=>u=Value.bool b
 | .int i,u=>∃t,u=Value.int i t
 | .str x,u=>∃t,u=Value.str x t
 | .zY b,u=>∃t,u=Value.bytes b t
 | .Gk b,u=>∃t,u=Value.float b t
 | .ref a,u=>u=Value.ref a
 | .ty n,u=>u=Value.type n
abbrev bQ:List V->List Value->Prop:=Paired RelV
theorem bQ.length {xs:List V} {us:List Value} (r:bQ xs us):xs.length=us.length:=Paired.length r
theorem bQ.get:∀{xs:List V} {us:List Value} {i:Nat} {x:V},bQ xs us->xs[i]?=some x->∃u,us[i]?=some u/\RelV x u
 | _,_,_,_,.nil,e=>by simp at e
 | _,_,0,_,.cons r _,e=>by simp at e;subst e;exact⟨_,rfl,r⟩
 | _,_,i+1,x,.cons _ t,e=>by
  obtain⟨u,h1,h2⟩:=bQ.get (i:=i) (x:=x) t (by simpa using e);exact⟨u,by simpa using h1,h2⟩
theorem bQ.set {x:V} {u:Value} (r:RelV x u):∀{xs:List V} {us:List Value} (i:Nat),bQ xs us->bQ (xs.set i x) (us.set i u)
 | _,_,_,.nil=>.nil
 | _,_,0,.cons _ t=>.cons r t
 | _,_,i+1,.cons q t=>.cons q (bQ.set r i t)
theorem bQ.append:∀{xs ys:List V} {us ws:List Value},bQ xs us->bQ ys ws->bQ (xs++ys) (us++ws)
 | _,_,_,_,.nil,s=>s
 | _,_,_,_,.cons r t,s=>.cons r (bQ.append t s)
theorem bQ.take:∀{xs:List V} {us:List Value} (n:Nat),bQ xs us->bQ (xs.take n) (us.take n)
 | _,_,0,_=>.nil
 | _,_,_+1,.nil=>.nil
 | _,_,n+1,.cons r t=>.cons r (bQ.take n t)
theorem bQ.drop:∀{xs:List V} {us:List Value} (n:Nat),bQ xs us->bQ (xs.drop n) (us.drop n)
 | _,_,0,r=>r
 | _,_,_+1,.nil=>.nil
 | _,_,n+1,.cons _ t=>bQ.drop n t
noncomputable def iU:Option V->Option Value->Prop
 | some v,some u=>RelV v u
 | none,none=>True
 | _,_=>False
noncomputable def KV {κ:Type}:List (κ×V)->List (κ×Value)->Prop:=Paired fun(p:κ×V) (q:κ×Value)=>p.1=q.1/\RelV p.2 q.2
noncomputable def kV:Key->V
 | .inl i=>.int i
 | .inr x=>.str x
inductive HO where
 | lst (xs:List V)
 | tup (xs:List V)
 | dK (kvs:List (Key×V)) | dT (kvs:List (List Key×V))
 | set (S:Int->Bool) (n:Nat)
 | ins (C dx:Addr) (fs:List (Str×V))
 | own (x:Addr)
 | xd (fs:List (Str×V))
 | met (f x:Addr)
 | Ob (lo hi:Int)
 | tj (o:Obj) (u:HO)
 | xo (ps:Array Value)
 | ext (φ:Heap->Prop)
abbrev Hp:=Addr->Option HO
noncomputable def upd (H:Hp) (a:Addr) (o:HO):Hp:=λb=>if b=a then some o else H b
theorem ai {H:Hp} {a:Addr} {o:HO}:upd H a o a=some o:=by unfold upd;rw[if_pos rfl]
theorem aE {H:Hp} {a b:Addr} {o:HO} (h:b≠a):upd H a o b=H b:=by unfold upd;rw[if_neg h]
theorem xp {H:Hp} {a:Addr} {o u:HO}:upd (upd H a o) a u=upd H a u:=by
 funext b;unfold upd;split <;>rfl
theorem Jz {H:Hp} {a b:Addr} {o u:HO} (h:H a=some o) (h':H b=some u) (d:o≠u):a≠b:=by
 intro e;subst e;rw[h] at h';exact d (aaS h')
theorem eV {H:Hp} {a b:Addr} {o:HO} (h:H a=some o) (h':H b=none):a≠b:=by
 intro e;subst e;rw[h] at h';cases h'
noncomputable def TabAt (H:Hp) (h:Heap) (a:Addr) (ps:Array Value):Prop:=∃mo:Array Value,h.get? a=some {cls:=.none,data:=.fields mo}/\
 (mo=#[]\/∃(l c:Value) (c1:Addr) (q:Str) (t:Tok),ps=#[l,c,.str q t]/\mo=#[l,c,.ref c1]/\H c1=some (.own a)/\h.CodeRec (.ref c1) q)
section
variable (P : Program) (w : World)
noncomputable def cF (H:Hp) (h:Heap) (a:Addr):HO->Prop
 | .lst xs=>xs.length<=sizeLine/\∃(bE:List Value) (n:Nat),bQ xs bE/\h.get? a=some {cls:=.type "list",data:=.seq bE.toArray n}
 | .tup xs=>xs.length<=sizeLine/\∃bE:List Value,bQ xs bE/\IsTup h a bE.toArray
 | .dK kvs=>kvs.length<=sizeLine/\(a==sysModules)=false/\∃vs,KV kvs vs/\h.DictOf (cM P w) a vs
 | .dT kvs=>kvs.length<=sizeLine/\(a==sysModules)=false/\∃xs:List (List Key×Addr×Value),
   Paired (fun(p:List Key×V) (q:List Key×Addr×Value)=>p.1=q.1/\H q.2.1=some (.tup (p.1.map kV))/\RelV p.2 q.2.2) kvs xs/\
   ∃o es ep,h.get? a=some o/\o.ExactDict/\o.data=.dict es ep/\es.toList=xs.map (entryOfKey (tupleKind (cM P w)))/\(xs.map (·.1)).Nodup
 | .set S n=>h.SetOf (intKind P w) a S n
 | .ins C dx fs=>H dx=some (.own a)/\fs.length<=1000/\dx≠a/\h.get? a=some (PySem.W.instObj C dx)/\
   ∃mA,h.Ns1 dx mA/\(∀f,iU (fs.lookup f) (mA f))/\PySem.Within mA (fs.map (·.1))
 | .own _=>∃o,h.get? a=some o
 | .xd fs=>∃mA,h.Ns1 a mA/\∀f,iU (fs.lookup f) (mA f)
 | .Ob lo hi=>∃t u v,h.get? a=some {cls:=.type "range",data:=.fields #[.int lo t,.int hi u,.int 1 v]}
 | .tj o u=>h.get? a=some o/\cF H h a u
 | .xo ps=>TabAt H h a ps
 | .met f x=>h.get? a=some (PySem.W.methodObj (.ref f) (.ref x))
 | .ext φ=>φ h/\(∃o,h.get? a=some o)/\∀h1 h2:Heap,φ h1->(∀o,h1.get? a=some o->h2.get? a=some o)->φ h2
noncomputable def gy (H:Hp) (h:Heap):Prop:=∀a o,H a=some o->cF P w H h a o
end
section
variable {P : Program} {w : World} {H H' : Hp} {h h' : Heap} {a : Addr} {o : HO}
theorem cF.lt (x:cF P w H h a o):a<h.objs.size:=by
 cases o with
 | lst xs=>obtain⟨_,_,_,_,e⟩:=x;exact Heap.lt_size e
 | tup xs=>obtain⟨_,_,_,p⟩:=x;exact p.lt
 | dK kvs=>obtain⟨_,_,_,_,o,_,_,e,_⟩:=x;exact Heap.lt_size e
 | dT kvs=>obtain⟨_,_,_,_,o,_,_,e,_⟩:=x;exact Heap.lt_size e
 | set S n=>obtain⟨o,_,_,_,e,_⟩:=x;exact Heap.lt_size e
 | ins C dx fs=>obtain⟨_,_,_,e,_⟩:=x;exact Heap.lt_size e
 | own y=>obtain⟨_,e⟩:=x;exact Heap.lt_size e
 | xd fs=>obtain⟨_,⟨_,_,_,e,_⟩,_⟩:=x;exact Heap.lt_size e
 | Ob lo hi=>obtain⟨_,_,_,e⟩:=x;exact Heap.lt_size e
 | tj ob u=>obtain⟨e,_⟩:=x;exact Heap.lt_size e
 | xo ps=>obtain⟨_,e,_⟩:=x;exact Heap.lt_size e
 | met f y=>exact Heap.lt_size (show h.get? a=some _ from x)
 | ext φ=>obtain⟨_,⟨_,e⟩,_⟩:=x;exact Heap.lt_size e
theorem Paired.Gn {α β:Type} {F G:α->β->Prop}:∀{l₁:List α} {l₂:List β},Paired F l₁ l₂->(∀a b,F a b->G a b)->Paired G l₁ l₂
 | _,_,.nil,_=>.nil
 | _,_,.cons r t,f=>.cons (f _ _ r) (Paired.Gn t f)
theorem cF.qY (x:cF P w H h a o) (k:∀b u,(b=a\/H b=some (.own a))->h.get? b=some u->h'.get? b=some u)
  (ho:∀b,H b=some (.own a)->H' b=some (.own a)) (ht:∀b xs,H b=some (.tup xs)->H' b=some (.tup xs)):cF P w H' h' a o:=by
 induction o with
 | lst xs=>obtain⟨z,bE,n,r,e⟩:=x;exact⟨z,bE,n,r,k _ _ (.inl rfl) e⟩
 | tup xs=>obtain⟨z,bE,r,ob,e,c⟩:=x;exact⟨z,bE,r,ob,k _ _ (.inl rfl) e,c⟩
 | dK kvs=>obtain⟨z,y,vs,r,ob,es,ep,e,c⟩:=x;exact⟨z,y,vs,r,ob,es,ep,k _ _ (.inl rfl) e,c⟩
 | dT kvs=>
  obtain⟨z,y,xs,r,ob,es,ep,e,c⟩:=x;exact⟨z,y,xs,Paired.Gn r λp q z=>⟨z.1,ht _ _ z.2.1,z.2.2⟩,ob,es,ep,k _ _ (.inl rfl) e,c⟩
 | set S n=>obtain⟨ob,es,ep,t,e,c⟩:=x;exact⟨ob,es,ep,t,k _ _ (.inl rfl) e,c⟩
 | ins C dx fs=>
  obtain⟨d,z,ne,e,mA,⟨od,es,ep,e2,c⟩,r⟩:=x;exact⟨ho _ d,z,ne,k _ _ (.inl rfl) e,mA,⟨od,es,ep,k _ _ (.inr d) e2,c⟩,r⟩
 | own y=>obtain⟨ob,e⟩:=x;exact⟨ob,k _ _ (.inl rfl) e⟩
 | xd fs=>obtain⟨mA,⟨od,es,ep,e,c⟩,r⟩:=x;exact⟨mA,⟨od,es,ep,k _ _ (.inl rfl) e,c⟩,r⟩
 | Ob lo hi=>obtain⟨t,u,v,e⟩:=x;exact⟨t,u,v,k _ _ (.inl rfl) e⟩
 | tj ob u ih=>obtain⟨e,q⟩:=x;exact⟨k _ _ (.inl rfl) e,ih q⟩
 | xo ps=>
  obtain⟨mo,e,q⟩:=x;refine⟨mo,k _ _ (.inl rfl) e,?_⟩;rcases q with q | ⟨l,c,c1,qn,t,e1,e2,e3,c2,o2,Ap,t2,f1,f2,f3,f4⟩
  ·exact .inl q
  ·cases f1;exact .inr ⟨l,c,c1,qn,t,e1,e2,ho _ e3,c1,o2,Ap,t2,rfl,k _ _ (.inr e3) f2,f3,f4⟩
 | met f y=>
  have e:h.get? a=some (PySem.W.methodObj (.ref f) (.ref y)):=x;show h'.get? a=some (PySem.W.methodObj (.ref f) (.ref y));exact k a _ (.inl rfl) e
 | ext φ=>obtain⟨p,⟨o,e⟩,st⟩:=x;exact⟨st _ _ p λo q=>k _ _ (.inl rfl) q,⟨o,k _ _ (.inl rfl) e⟩,st⟩
theorem gy.lt (x:gy P w H h) (e:H a=some o):a<h.objs.size:=(x a o e).lt
theorem gy.fresh (x:gy P w H h) (e:h.objs.size<=a):H a=none:=by
 cases q:H a with
 | none=>rfl
 | some u=>exact absurd (aaL (x.lt q) e) (aaN _)
theorem gy.kept (x:gy P w H h) (k:∀b u,h.get? b=some u->h'.get? b=some u):gy P w H h':=λa o e=>
 (x a o e).qY (λb u _ q=>k b u q) (λ_ q=>q) λ_ _ q=>q
theorem gy.laid (x:gy P w H h) (k:∀b u,h.get? b=some u->h'.get? b=some u) (hp:h.objs.size<=a) (new:cF P w (upd H a o) h' a o):gy P w (upd H a o) h':=λb u e=>by
 have hn:=x.fresh hp
 by_cases hb:b=a
 ·subst hb;rw[ai] at e;cases e;exact new
 ·rw[aE hb] at e;exact(x b u e).qY (λc v _ q=>k c v q) (λc q=>by rw[aE (eV q hn)];exact q) λc xs q=>by rw[aE (eV q hn)];exact q
end
noncomputable def Rd (H:Hp) (a:Addr) (u:HO):Prop:=H a=some u\/∃o,H a=some (.tj o u)
theorem Rd.ok {P:Program} {w:World} {H:Hp} {h:Heap} {a:Addr} {u:HO} (r:Rd H a u) (x:gy P w H h):cF P w H h a u:=by
 rcases r with r | ⟨o,r⟩
 ·exact x a u r
 ·obtain⟨_,q⟩:=x a _ r;exact q
noncomputable def JA:Option HO->Prop
 | some (.lst _)=>True
 | some (.dK _)=>True
 | some (.dT _)=>True
 | some (.set _ _)=>True
 | some (.ins _ _ _)=>True
 | some (.ext _)=>True
 | _=>False
section
variable {P : Program} {w : World} {H : Hp} {h h' : Heap} {x e : Addr} {o' : HO}
theorem gy.write (ok:gy P w H h) (mu:JA (H x)) (he:e=x\/H e=some (.own x)) (k:∀b u,b≠e->h.get? b=some u->h'.get? b=some u) (IL:∃u,h'.get? e=some u)
  (new:cF P w (upd H x o') h' x o'):gy P w (upd H x o') h':=λb u q=>by
 have JB:∀c y,H c=some (.own y)->c≠x:=λc y r z=>by subst z;rw[r] at mu;exact mu
 have Pn:∀c xs,H c=some (.tup xs)->c≠x:=λc xs r z=>by subst z;rw[r] at mu;exact mu
 by_cases hb:b=x
 ·subst hb;rw[ai] at q;cases q;exact new
 ·rw[aE hb] at q
  by_cases Gp:b=e
  ·have q':H b=some (.own x):=by
    rcases he with z | z
    ·exact absurd (Gp.trans z) hb
    ·rw[Gp];exact z
   rw[q] at q';cases q';obtain⟨v,hv⟩:=IL;exact⟨v,by rw[Gp];exact hv⟩
  ·refine(ok b u q).qY (λc v hc r=>k c v ?_ r) (λc r=>by rw[aE (JB c b r)];exact r) λc xs r=>by rw[aE (Pn c xs r)];exact r
   rcases hc with rfl | hc
   ·exact Gp
   ·rintro rfl;rcases he with z | z
    ·exact JB c b hc z
    ·rw[hc] at z;cases z;exact hb rfl
end
structure Un (fs ex:List Addr) (H H':Hp) (h h':Heap):Prop where
 keep:∀b o,h.get? b=some o->H b=none->b∉fs->b∉ex->h'.get? b=some o
 slot:∀b o,h.get? b=some o->H b=none->b∈fs->b∉ex->∃sl,h'.get? b=some {o with slots:=sl}
 free:∀b o,h.get? b=some o->H b=none->b∉ex->H' b=none
 there:∀b o,h.get? b=some o->b∉ex->∃o',h'.get? b=some o'
 i4:∀b xs,H b=some (.tup xs)->H' b=some (.tup xs)
 iV:∀b o u,H b=some (.tj o u)->H' b=some (.tj o u)
 i5:∀b ps,H b=some (.xo ps)->∃more,H' b=some (.xo (ps++more))
section
variable {fs fs' ex Po : List Addr} {H H1 H2 : Hp} {h h1 h2 h' : Heap} {a x e : Addr} {o : HO}
theorem Un.any (u:Un fs ex H H1 h h1) {b:Addr} {ob:Obj} (q:h.get? b=some ob) (n:H b=none) (hx:b∉ex):∃sl,h1.get? b=some {ob with slots:=sl}:=by
 by_cases hb:b∈fs
 ·exact u.slot b ob q n hb hx
 ·exact⟨ob.slots,u.keep b ob q n hb hx⟩
theorem Un.kept (k:∀b u,h.get? b=some u->h'.get? b=some u):Un fs ex H H h h':=
 ⟨λb ob q _ _ _=>k b ob q,λb ob q _ _ _=>⟨ob.slots,k b ob q⟩,λ_ _ _ n _=>n,λb ob q _=>⟨ob,k b ob q⟩,λ_ _ q=>q,λ_ _ _ q=>q,λ_ ps q=>⟨#[],by rw[q];simp⟩⟩
theorem Un.refl:Un fs ex H H h h:=Un.kept λ_ _ q=>q
theorem Un.laid (k:∀b u,h.get? b=some u->h'.get? b=some u) (hp:h.objs.size<=a) (hn:H a=none):Un fs ex H (upd H a o) h h' where
 keep:=λb u q _ _ _=>k b u q
 slot:=λb u q _ _ _=>⟨u.slots,k b u q⟩
 free:=λb u q n _=>by rw[aE (aaA (aaL (Heap.lt_size q) hp))];exact n
 there:=λb u q _=>⟨u,k b u q⟩
 i4:=λb xs q=>by rw[aE (eV q hn)];exact q
 iV:=λb u xs q=>by rw[aE (eV q hn)];exact q
 i5:=λb ps q=>⟨#[],by rw[aE (eV q hn),q];simp⟩
theorem Un.write (mu:JA (H x)) (he:e=x\/H e=some (.own x)) (k:∀b u,b≠e->h.get? b=some u->h'.get? b=some u) (IL:∃u,h'.get? e=some u):Un fs ex H (upd H x o) h h':=by
 have hx:∀b,H b=none->b≠x:=λb n z=>by subst z;rw[n] at mu;exact mu
 have hb:∀b,H b=none->b≠e:=λb n z=>by
  subst z;rcases he with r | r
  ·exact hx b n r
  ·rw[n] at r;cases r
 have hm:∀b u,H b=some u->¬JA (some u)->b≠x:=λb u q nm z=>by subst z;rw[q] at mu;exact nm mu
 refine⟨λb u q n _ _=>k b u (hb b n) q,λb u q n _ _=>⟨u.slots,k b u (hb b n) q⟩,λb u q n _=>by rw[aE (hx b n)];exact n,λb u q _=>?_,
  λb xs q=>by rw[aE (hm b _ q λz=>z)];exact q,λb u xs q=>by rw[aE (hm b _ q λz=>z)];exact q,λb ps q=>⟨#[],by rw[aE (hm b _ q λz=>z),q];simp⟩⟩
 by_cases Gp:b=e
 ·subst Gp;exact IL
 ·exact⟨u,k b u Gp q⟩
end
noncomputable def Oc (h:Heap) (H:Hp):List Addr:=(List.range h.objs.size).filter λa=>(H a).isSome
noncomputable def qZ (h:Heap) (H:Hp):Heap:=PySem.W.hideAll h (Oc h H)
theorem yN (h:Heap) (H:Hp):(qZ h H).objs.size=h.objs.size:=PySem.W.hideAll_size _ _
theorem Aq {h:Heap} {H:Hp} {b:Addr} {o:Obj} (e:h.get? b=some o) (n:H b=none):(qZ h H).get? b=some o:=
 PySem.W.hideAll_get _ e λhm=>by
  have q:(H b).isSome=true:=(List.mem_filter.mp hm).2;rw[n] at q;simp at q
theorem C5 {h:Heap} {H:Hp} {b:Addr} {o:Obj} (e:(qZ h H).get? b=some o):h.get? b=some o/\H b=none:=by
 have e':h.get? b=some o:=PySem.W.of_hideAll (Oc h H) e;refine⟨e',?_⟩;cases q:H b with
 | none=>rfl
 | some x=>
  have hm:b∈Oc h H:=List.mem_filter.mpr ⟨List.mem_range.mpr (Heap.lt_size e'),by simp [q]⟩;have z:(qZ h H).get? b=none:=PySem.W.hideAll_none (Oc h H) hm;rw[z] at e;cases e
noncomputable def C6 (g h:Heap) (L:Addr):List (Addr×Obj):=(List.range h.objs.size).filterMap λa=>if a=L\/(g.get? a).isSome=true then none else (h.get? a).map λo=>(a,o)
noncomputable def rest (g h:Heap) (L d:Addr):List (Addr×Obj):=(C6 g h L).filter λp=>decide (p.1≠d)
structure Mod (K:PySem.W.Frag) (mg:Str->Option Value) (base:Heap):Prop where
 CD:K.In base
 glob:base.Ns mainGlobals mg
 blt:∃mb,base.Ns builtinsNs mb/\∀x:Str,x≠"__name__"->mb x=bootBuiltins x
 nolimit:base.NoLimit
structure Cx where
 prog:Program
 w:World
 K:PySem.W.Frag
 mg:Str->Option Value
 base:Heap
 A:Around
 N:List Str
 s₀:Shared
 H₀:Hp
 env:Env
 outer:List Env
 stack:List Env
 ex:List Addr
 fn:Str->Bool
 calm:Bool
 pn:List (Addr×Obj)
 xe:Value->Shared->Prop
def dN (l:List Env):List Addr:=l.filterMap (·.frame)
abbrev Cx.fs (X:Cx):List Addr:=dN X.outer
noncomputable def Pp (sc:Scope) (x:Str):Prop:=sc.names.lookup x=some .local\/sc.names.lookup x=some .cell\/sc.names.lookup x=some .free
noncomputable def Loc (sc:Scope) (x:Str):Prop:=sc.names.lookup x=some .local\/sc.names.lookup x=some .cell
noncomputable def Look (env:Env) (h:Heap) (m:Str->Option Value) (x:Str) (u:Value):Prop:=
 (env.kindOf x=some .local/\m x=some u)\/((env.kindOf x=some .cell\/env.kindOf x=some .free)/\∃c,env.cells.lookup x=some c/\h.IsCell c (some u))
structure Cx.Ok (X:Cx):Prop where
 mod:Mod X.K X.mg X.base
 kind:X.env.scope.kind=.function
 glob:X.env.globals=mainGlobals
 blt:X.env.builtins=builtinsNs
 above:X.s₀.heap.objs.size<=X.env.locals
 inj:∀x y c,X.env.cells.lookup x=some c->X.env.cells.lookup y=some c->x=y
 has:∀x,(X.env.kindOf x=some .cell\/X.env.kindOf x=some .free)->∃c,X.env.cells.lookup x=some c
 ET:∀x c,X.fn x=true->X.env.cells.lookup x=some c->X.s₀.heap.objs.size<=c
 hd:X.calm=true->X.A.handled=none
 frames:X.A.frames=some X.stack
 Gq:X.stack=X.outer\/(X.stack=X.env::X.outer/\X.env.frame=some X.env.locals)
 JC:∀b∈X.ex,b≠X.env.locals/\∀x c,X.env.cells.lookup x=some c->c≠b
 bs:∀b o,X.base.get? b=some o->X.s₀.heap.get? b=some o/\X.H₀ b=none
 xq:X.base.objs.size<=X.s₀.heap.objs.size
 tN:∀b o,X.base.get? b=some o->b∉X.ex
 tO:∀b∈X.ex,b∉X.fs
 iW:X.s₀.heap.FunFrames X.base X.outer
 zZ:∀b∈X.fs,X.H₀ b=none
structure Inv (X:Cx) (pins:List (Addr×Obj)) (σ:List (Option V)) (H:Hp) (s:Shared):Prop where
 ok:X.Ok
 os:s.os=X.s₀.os
 bare:AllBare s.gens
 base:Un X.fs X.ex X.H₀ H X.s₀.heap s.heap
 loc:∃m,s.heap.Ns X.env.locals m/\∀(i:Nat) (x:Str) (v:V),X.N[i]?=some x->σ[i]?=some (some v)->Pp X.env.scope x->∃u,RelV v u/\Look X.env s.heap m x u
 cell:∀x c,X.env.cells.lookup x=some c->∃v,s.heap.IsCell c v
 free:H X.env.locals=none
 gB:∀x c,X.env.cells.lookup x=some c->H c=none
 pin:∀p∈X.pn++pins,s.heap.get? p.1=some p.2/\H p.1=none/\p.1≠X.env.locals/\p.1∉X.fs/\∀v,p.2.data≠.cell v
 bV:gy X.prog X.w H s.heap
 len:σ.length=X.N.length
section
variable {X : Cx} {pins : List (Addr × Obj)} {σ : List (Option V)} {H H' : Hp} {s : Shared} {h' : Heap}
theorem Cx.Ok.Pq (ok:X.Ok) {b:Addr} {o:Obj} (e:X.base.get? b=some o):b∉X.fs:=λhb=>by
 have:=(ok.iW.mem hb).1;rw[e] at this;cases this
theorem Inv.bs (I:Inv X pins σ H s):∀b o,X.base.get? b=some o->s.heap.get? b=some o/\H b=none:=λb o e=>
 ⟨I.base.keep b o (I.ok.bs b o e).1 (I.ok.bs b o e).2 (I.ok.Pq e) (I.ok.tN b o e),I.base.free b o (I.ok.bs b o e).1 (I.ok.bs b o e).2 (I.ok.tN b o e)⟩
theorem Inv.bk (I:Inv X pins σ H s):∀b o,X.base.get? b=some o->s.heap.get? b=some o:=λb o e=>(I.bs b o e).1
theorem Inv.mod (I:Inv X pins σ H s):Mod X.K X.mg X.base:=I.ok.mod
theorem Inv.jE (I:Inv X pins σ H s):X.K.In s.heap:=I.ok.mod.CD.keeps I.bk
theorem Inv.lt (I:Inv X pins σ H s):X.env.locals<s.heap.objs.size:=let ⟨_,hn,_⟩:=I.loc;hn.lt
theorem Inv.sz (I:Inv X pins σ H s):X.s₀.heap.objs.size<=s.heap.objs.size:=aaI I.ok.above (Nat.le_of_lt I.lt)
theorem Inv.Pu (I:Inv X pins σ H s) {a:Addr} (h:s.heap.objs.size<=a):a∉X.fs:=λhb=>by
 obtain⟨_,o,ho,_⟩:=I.ok.iW.mem hb;exact absurd (aaL (Heap.lt_size ho) (aaI I.sz h)) (aaN _)
theorem Inv.Gr (I:Inv X pins σ H s):∀x c,X.env.cells.lookup x=some c->c≠X.env.locals:=λx c e z=>by
 obtain⟨v,o,ho,hd⟩:=I.cell x c e;obtain⟨m,⟨o',es,ep,Aa,Pw,_⟩,_⟩:=I.loc;rw[z,Aa] at ho;cases ho;rw[Pw] at hd;cases hd
theorem Inv.iW (I:Inv X pins σ H s):s.heap.FunFrames X.base X.outer:=by
 have all:∀(l:List Env),(∀b∈dN l,b∈X.fs)->X.s₀.heap.FunFrames X.base l->s.heap.FunFrames X.base l:=by
  intro l
  induction l with
  | nil=>intro _ _;trivial
  | cons env r ih=>
   intro hs hl;obtain⟨hk,⟨L,o,hf,hn,ho,hd⟩,hr⟩:=hl;have hL:L∈X.fs:=hs L (by unfold dN;rw[abn,hf];exact aaE);obtain⟨sl,e⟩:=I.base.slot L o ho (I.ok.zZ L hL) hL λz=>I.ok.tO L z hL;exact⟨hk,⟨L,_,hf,hn,e,hd⟩,ih (λb hb=>hs b (by unfold dN;rw[abn,hf];exact aaB _ hb)) hr⟩
 exact all X.outer (λ_ hb=>hb) I.ok.iW
theorem Inv.stack (I:Inv X pins σ H s):s.heap.FunFrames X.base X.stack:=by
 rcases I.ok.Gq with e | ⟨e,hf⟩
 ·rw[e];exact I.iW
 ·rw[e];obtain⟨m,hn,_⟩:=I.loc;refine .cons (by rw[I.ok.kind];decide) hf hn ?_ I.iW;exact Heap.get?_none_of_le (aaI I.ok.xq I.ok.above)
theorem Inv.i7 (I:Inv X pins σ H s):∀b∈dN X.stack,b∈X.env.locals::X.fs:=λb hb=>by
 rcases I.ok.Gq with e | ⟨e,hf⟩
 ·rw[e] at hb;exact aaB _ hb
 ·rw[e] at hb;unfold dN at hb;rw[abn,hf] at hb;exact hb
theorem Inv.nA (I:Inv X pins σ H s):∀b∈dN X.stack,H b=none:=λb hb=>by
 rcases List.mem_cons.mp (I.i7 b hb) with e | hb
 ·rw[e];exact I.free
 ·obtain⟨_,o,ho,_⟩:=I.ok.iW.mem hb;exact I.base.free b o ho (I.ok.zZ b hb) λz=>I.ok.tO b z hb
theorem Inv.step {g':Array GenState} {t':Nat} {d':Drawn} {ch:List Addr} (I:Inv X pins σ H s)
  (CF:∀b∈ch,(b∈X.ex\/X.s₀.heap.objs.size<=b)/\b≠X.env.locals/\(∀x c,X.env.cells.lookup x=some c->c≠b)/\∀p∈X.pn++pins,p.1≠b)
  (keep:∀b o,b≠X.env.locals->b∉X.fs->b∉ch->s.heap.get? b=some o->H b=none->h'.get? b=some o)
  (slot:∀b o,b≠X.env.locals->b∈X.fs->b∉ch->s.heap.get? b=some o->H b=none->∃sl,h'.get? b=some {o with slots:=sl}) (free:∀b o,b∉ch->s.heap.get? b=some o->H b=none->H' b=none)
  (there:∀b o,b∉ch->s.heap.get? b=some o->∃o',h'.get? b=some o')
  (i4:∀b xs,H b=some (.tup xs)->H' b=some (.tup xs)) (iV:∀b o u,H b=some (.tj o u)->H' b=some (.tj o u)) (i5:∀b ps,H b=some (.xo ps)->∃more,H' b=some (.xo (ps++more)))
  (ns:∀m,s.heap.Ns X.env.locals m->h'.Ns X.env.locals m) (bV:gy X.prog X.w H' h') (hg:AllBare g'):
  Inv X pins σ H' {s with heap:=h',gens:=g',drawn:=d',toks:=t'}:=by
 have Yz:∀b o,X.s₀.heap.get? b=some o->b≠X.env.locals:=λb o e=>aaA (aaL (Heap.lt_size e) I.ok.above);have Od:∀b o,X.s₀.heap.get? b=some o->b∉X.ex->b∉ch:=λb o e hx hb=>by
  rcases(CF b hb).1 with z | z
  ·exact hx z
  ·exact absurd (aaL (Heap.lt_size e) z) (aaN _)
 have cellK:∀x c,X.env.cells.lookup x=some c->∀v,s.heap.IsCell c v->h'.IsCell c v:=λx c e v ⟨o,ho,hd⟩=>by
  have EU:c∉ch:=λz=>(CF c z).2.2.1 x c e rfl
  by_cases hc:c∈X.fs
  ·obtain⟨sl,q⟩:=slot c o (I.Gr x c e) hc EU ho (I.gB x c e);exact⟨_,q,hd⟩
  ·exact⟨o,keep c o (I.Gr x c e) hc EU ho (I.gB x c e),hd⟩
 refine⟨I.ok,I.os,hg,⟨λb o e n hb hx=>?_,λb o e n hb hx=>?_,λb o e n hx=>?_,λb o e hx=>?_,λb xs e=>i4 b xs (I.base.i4 b xs e),λb o xs e=>iV b o xs (I.base.iV b o xs e),λb ps e=>?_⟩,?_,λx c e=>?_,?_,λx c e=>?_,λp hp=>?_,bV,I.len⟩
 ·exact keep b o (Yz b o e) hb (Od b o e hx) (I.base.keep b o e n hb hx) (I.base.free b o e n hx)
 ·obtain⟨sl,e1⟩:=I.base.slot b o e n hb hx;obtain⟨JD,e2⟩:=slot b _ (Yz b o e) hb (Od b o e hx) e1 (I.base.free b o e n hx);exact⟨JD,e2⟩
 ·obtain⟨o',e1⟩:=I.base.there b o e hx;exact free b o' (Od b o e hx) e1 (I.base.free b o e n hx)
 ·obtain⟨o',e1⟩:=I.base.there b o e hx;exact there b o' (Od b o e hx) e1
 ·obtain⟨m1,e1⟩:=I.base.i5 b ps e;obtain⟨m2,e2⟩:=i5 b _ e1;exact⟨m1++m2,by rw[e2,Array.append_assoc]⟩
 ·obtain⟨m,hn,hl⟩:=I.loc;refine⟨m,ns m hn,λi x v e1 e2 e3=>?_⟩;obtain⟨u,r,l⟩:=hl i x v e1 e2 e3;refine⟨u,r,?_⟩;rcases l with l | ⟨k,c,e,z⟩
  ·exact .inl l
  ·exact .inr ⟨k,c,e,cellK x c e _ z⟩
 ·obtain⟨v,z⟩:=I.cell x c e;exact⟨v,cellK x c e v z⟩
 ·obtain⟨m,⟨o,_,_,ho,_⟩,_⟩:=I.loc;exact free _ o (λz=>(CF _ z).2.1 rfl) ho I.free
 ·obtain⟨v,o,ho,hd⟩:=I.cell x c e;exact free c o (λz=>(CF c z).2.2.1 x c e rfl) ho (I.gB x c e)
 ·obtain⟨e,n,ne,nf,d⟩:=I.pin p hp;have EU:p.1∉ch:=λz=>(CF p.1 z).2.2.2 p hp rfl;exact⟨keep p.1 p.2 ne nf EU e n,free p.1 p.2 EU e n,ne,nf,d⟩
theorem Inv.un {t':Nat} (I:Inv X pins σ H s) (u:Un X.fs [] H H' s.heap h') (bV:gy X.prog X.w H' h'):Inv X pins σ H' {s with heap:=h',toks:=t'}:=by
 obtain⟨m,⟨o,es,ep,ho,r⟩,_⟩:=id I.loc;obtain⟨sl,hL⟩:=u.any ho I.free (by simp);exact I.step (g':=s.gens) (d':=s.drawn) (ch:=[]) (λ_ z=>nomatch z) (λb o _ hb _ e n=>u.keep b o e n hb (by simp)) (λb o _ hb _ e n=>u.slot b o e n hb (by simp)) (λb o _ e n=>u.free b o e n (by simp)) (λb o _ e=>u.there b o e (by simp)) u.i4 u.iV u.i5 (λm' hm=>by
  obtain⟨o',tu,yO,Aa,r'⟩:=hm;rw[ho] at Aa;cases Aa;exact⟨_,tu,yO,hL,r'⟩) bV I.bare
theorem Inv.call {g':Array GenState} {t':Nat} {d':Drawn} {ch:List Addr} (I:Inv X pins σ H s) (u:Un (dN X.stack) ch H H' s.heap h') (bV:gy X.prog X.w H' h') (hg:AllBare g')
  (CF:∀b∈ch,(b∈X.ex\/X.s₀.heap.objs.size<=b)/\b≠X.env.locals/\(∀x c,X.env.cells.lookup x=some c->c≠b)/\∀p∈X.pn++pins,p.1≠b):
  Inv X pins σ H' {s with heap:=h',gens:=g',drawn:=d',toks:=t'}:=by
 obtain⟨m,⟨o,es,ep,ho,r⟩,_⟩:=id I.loc;obtain⟨sl,hL⟩:=u.any ho I.free λz=>(CF _ z).2.1 rfl;exact I.step (ch:=ch) CF (λb o hL hb hc e n=>u.keep b o e n (λz=>(List.mem_cons.mp (I.i7 b z)).elim hL hb) hc) (λb o _ _ hc e n=>u.any e n hc) (λb o hc e n=>u.free b o e n hc) (λb o hc e=>u.there b o e hc) u.i4 u.iV u.i5 (λm' hm=>by
  obtain⟨o',tu,yO,Aa,r'⟩:=hm;rw[ho] at Aa;cases Aa;exact⟨_,tu,yO,hL,r'⟩) bV hg
theorem Inv.turned {t':Nat} {it:Addr} (I:Inv X pins σ H s) (k:∀b o,b≠it->s.heap.get? b=some o->h'.get? b=some o) (hn:H it=none) (hL:it≠X.env.locals)
  (h1:it∈X.ex\/X.s₀.heap.objs.size<=it) (h2:∀x c,X.env.cells.lookup x=some c->c≠it) (h3:∀p∈X.pn++pins,p.1≠it):Inv X pins σ H {s with heap:=h',toks:=t'}:=by
 have YA:∀b u,H b=some u->b≠it:=λb u e z=>by rw[z,hn] at e;cases e
 refine I.step (g':=s.gens) (d':=s.drawn) (ch:=[it]) (λb hb=>?_) (λb o _ _ hc e _=>k b o (λz=>hc (by simp [z])) e) (λb o _ _ hc e _=>⟨o.slots,k b o (λz=>hc (by simp [z])) e⟩) (λ_ _ _ _ n=>n)
  (λb o hc e=>⟨o,k b o (λz=>hc (by simp [z])) e⟩) (λ_ _ e=>e) (λ_ _ _ e=>e) (λb ps e=>⟨#[],by rw[e];simp⟩) (λm hm=>?_) (λb u e=>?_) I.bare
 ·have e:b=it:=by simpa using hb
  subst e;exact⟨h1,hL,h2,h3⟩
 ·obtain⟨o,es,ep,ho,r⟩:=hm;exact⟨o,es,ep,k _ o (Ne.symm hL) ho,r⟩
 ·refine(I.bV b u e).qY (λc v hc q=>k c v ?_ q) (λ_ q=>q) λ_ _ q=>q;rcases hc with z | z
  ·rw[z];exact YA b u e
  ·exact YA c _ z
theorem Inv.tok (I:Inv X pins σ H s) (t:Nat):Inv X pins σ H {s with toks:=t}:=I.un (h':=s.heap) (t':=t) Un.refl I.bV
theorem Inv.kept {t':Nat} (I:Inv X pins σ H s) (k:∀b u,s.heap.get? b=some u->h'.get? b=some u):Inv X pins σ H {s with heap:=h',toks:=t'}:=I.un (Un.kept k) (I.bV.kept k)
theorem Inv.laid {a:Addr} {o:HO} {t':Nat} (I:Inv X pins σ H s) (k:∀b u,s.heap.get? b=some u->h'.get? b=some u) (hp:s.heap.objs.size<=a) (new:cF X.prog X.w (upd H a o) h' a o):
  Inv X pins σ (upd H a o) {s with heap:=h',toks:=t'}:=I.un (Un.laid k hp (I.bV.fresh hp)) (I.bV.laid k hp new)
theorem Inv.write {x e:Addr} {o:HO} {t':Nat} (I:Inv X pins σ H s) (mu:JA (H x)) (he:e=x\/H e=some (.own x)) (k:∀b u,b≠e->s.heap.get? b=some u->h'.get? b=some u) (IL:∃u,h'.get? e=some u)
  (new:cF X.prog X.w (upd H x o) h' x o):Inv X pins σ (upd H x o) {s with heap:=h',toks:=t'}:=I.un (Un.write mu he k IL) (I.bV.write mu he k IL new)
theorem Inv.gC {EV:List (Addr×Obj)} (I:Inv X pins σ H s) (h:∀p∈EV,s.heap.get? p.1=some p.2/\H p.1=none/\p.1≠X.env.locals/\p.1∉X.fs/\∀v,p.2.data≠.cell v):Inv X EV σ H s:=
 ⟨I.ok,I.os,I.bare,I.base,I.loc,I.cell,I.free,I.gB,λp hp=>(List.mem_append.mp hp).elim (λz=>I.pin p (aba _ z)) (h p),I.bV,I.len⟩
theorem tP {N:List Str} (hN:N.Nodup) {i j:Nat} {x:Str} (a:N[i]?=some x) (b:N[j]?=some x):i=j:=by
 obtain⟨h1,e1⟩:=List.getElem?_eq_some_iff.mp a;obtain⟨h2,e2⟩:=List.getElem?_eq_some_iff.mp b;exact(List.getElem_inj hN).mp (e1.trans e2.symm)
theorem qh {M:Model} {A:Around} {E:Value->Shared->Prop} {i:Nat} {x:Str} {v:V} {u:Value} {Q:Unit->Shared->Prop} (I:Inv X pins σ H s) (hN:X.N.Nodup) (hi:X.N[i]?=some x) (hx:Loc X.env.scope x) (r:RelV v u)
  (h:∀s',Inv X pins (σ.set i (some v)) H s'->(∃a,Heap.SameBut a s.heap s'.heap/\(a=X.env.locals\/X.env.cells.lookup x=some a))->Q () s') (hf:X.fn x=true\/X.env.scope.names.lookup x=some .local:=by first | exact .inl rfl | exact .inr rfl | assumption):wpAny M A (storeName X.env x u) Q E s:=by
 obtain⟨m,hn,hl⟩:=id I.loc;have Px:(X.env.scope.kind==.class || (X.env.scope.kind==.module && X.env.locals !=X.env.globals))=false:=by rw[I.ok.kind];rfl
 have YB:i<σ.length:=by rw[I.len];exact(List.getElem?_eq_some_iff.mp hi).1
 have Gr:=I.Gr;have tracked:∀{a:Addr} {h':Heap},(∃o,s.heap.get? a=some o/\H a=none)->Heap.SameBut a s.heap h'->gy X.prog X.w H h':=λ{a h'} ha hs b ob e=>by
  obtain⟨_,_,EW⟩:=ha;refine(I.bV b ob e).qY (λc w' hc q=>(hs.2 c ?_).trans q) (λ_ q=>q) λ_ _ q=>q;rintro rfl;rcases hc with rfl | hc
  ·rw[EW] at e;cases e
  ·rw[EW] at hc;cases hc
 rcases hx with hk | hk
 ·refine wpAny_storeName_local hk hn (λh' hn' hs=>?_) Px;obtain⟨oL,_,_,JE,_⟩:=id hn;refine h _ ⟨I.ok,I.os,I.bare,⟨λb o e n hb hx=>?_,λb o e n hb hx=>?_,I.base.free,λb o e hx=>?_,I.base.i4,I.base.iV,I.base.i5⟩,⟨_,hn',λj y v' e1 e2 e3=>?_⟩,λy c e=>?_,I.free,I.gB,λp hp=>?_,tracked ⟨oL,JE,I.free⟩ hs,by simpa using I.len⟩ ⟨_,hs,.inl rfl⟩
  ·exact(hs.2 b (aaA (aaL (Heap.lt_size e) I.ok.above))).trans (I.base.keep b o e n hb hx)
  ·obtain⟨sl,e1⟩:=I.base.slot b o e n hb hx;exact⟨sl,(hs.2 b (aaA (aaL (Heap.lt_size e) I.ok.above))).trans e1⟩
  ·obtain⟨o',e1⟩:=I.base.there b o e hx;exact⟨o',(hs.2 b (aaA (aaL (Heap.lt_size e) I.ok.above))).trans e1⟩
  ·by_cases hj:j=i
   ·subst hj;rw[hi] at e1;cases e1;rw[List.getElem?_set_self YB] at e2;cases e2;exact⟨u,r,.inl ⟨hk,by simp⟩⟩
   ·rw[List.getElem?_set_ne (Ne.symm hj)] at e2;obtain⟨u',r',q⟩:=hl j y v' e1 e2 e3;refine⟨u',r',?_⟩;rcases q with ⟨k,e⟩ | ⟨k,c,e,z⟩
    ·refine .inl ⟨k,?_⟩;have:y≠x:=λe=>hj (tP hN e1 (e▸hi));simp [this,e]
    ·exact .inr ⟨k,c,e,z.sameBut hs (Gr y c e)⟩
  ·obtain⟨w',z⟩:=I.cell y c e;exact⟨w',z.sameBut hs (Gr y c e)⟩
  ·obtain⟨e,n,ne,nf,d⟩:=I.pin p hp;exact⟨(hs.2 p.1 ne).trans e,n,ne,nf,d⟩
 ·have Py:X.fn x=true:=by
   rcases hf with z | z
   ·exact z
   ·rw[z] at hk;cases hk
  obtain⟨c,hc⟩:=I.ok.has x (.inl hk);obtain⟨w',z⟩:=I.cell x c hc;refine wpAny_storeName_cell I.ok.kind hk hc z (λh' YC hs=>?_);obtain⟨oc,YD,Pz⟩:=id z;refine h {s with heap:=h'} ⟨I.ok,I.os,I.bare,⟨λb o e n hb hx=>?_,λb o e n hb hx=>?_,I.base.free,λb o e hx=>?_,I.base.i4,I.base.iV,I.base.i5⟩,⟨m,hn.sameBut hs (Ne.symm (Gr x c hc)),λj y v' e1 e2 e3=>?_⟩,λy c' e=>?_,I.free,I.gB,λp hp=>?_,tracked ⟨oc,YD,I.gB x c hc⟩ hs,by simpa using I.len⟩ ⟨c,hs,.inr hc⟩
  ·exact(hs.2 b (aaA (aaL (Heap.lt_size e) (I.ok.ET x c Py hc)))).trans (I.base.keep b o e n hb hx)
  ·obtain⟨sl,e1⟩:=I.base.slot b o e n hb hx;exact⟨sl,(hs.2 b (aaA (aaL (Heap.lt_size e) (I.ok.ET x c Py hc)))).trans e1⟩
  ·obtain⟨o',e1⟩:=I.base.there b o e hx;exact⟨o',(hs.2 b (aaA (aaL (Heap.lt_size e) (I.ok.ET x c Py hc)))).trans e1⟩
  ·by_cases hj:j=i
   ·subst hj;rw[hi] at e1;cases e1;rw[List.getElem?_set_self YB] at e2;cases e2;exact⟨u,r,.inr ⟨.inl hk,c,hc,YC⟩⟩
   ·rw[List.getElem?_set_ne (Ne.symm hj)] at e2;obtain⟨u',r',q⟩:=hl j y v' e1 e2 e3;refine⟨u',r',?_⟩;rcases q with q | ⟨k,c',e,z'⟩
    ·exact .inl q
    ·refine .inr ⟨k,c',e,z'.sameBut hs ?_⟩;rintro rfl;exact hj (tP hN e1 (I.ok.inj _ _ _ e hc▸hi))
  ·by_cases JF:c'=c
   ·subst JF;exact⟨_,YC⟩
   ·obtain⟨w2,z2⟩:=I.cell y c' e;exact⟨w2,z2.sameBut hs JF⟩
  ·obtain⟨e,n,ne,nf,d⟩:=I.pin p hp;refine⟨(hs.2 p.1 ?_).trans e,n,ne,nf,d⟩;intro q;rw[q,YD] at e;have q':oc=p.2:=aaS e;exact d w' (by rw[<-q'];exact Pz)
theorem i8 {M:Model} {A:Around} {E:Value->Shared->Prop} {i:Nat} {x:Str} {v:V} {u:Value} {Q:Unit->Shared->Prop} (I:Inv X pins σ H s) (hN:X.N.Nodup) (hi:X.N[i]?=some x) (hx:Loc X.env.scope x) (r:RelV v u)
  (h:∀s',Inv X pins (σ.set i (some v)) H s'->Q () s') (hf:X.fn x=true\/X.env.scope.names.lookup x=some .local:=by first | exact .inl rfl | exact .inr rfl | assumption):wpAny M A (storeName X.env x u) Q E s:=
 qh I hN hi hx r (λs' I' _=>h s' I') hf
theorem Inv.EX {s':Shared} {ch:List Addr} (I:Inv X pins σ H s) (ho:s'.os=s.os) (u:Un (dN X.stack) ch H H' s.heap s'.heap) (bV:gy X.prog X.w H' s'.heap) (hg:AllBare s'.gens)
  (CF:∀b∈ch,(b∈X.ex\/X.s₀.heap.objs.size<=b)/\b≠X.env.locals/\(∀x c,X.env.cells.lookup x=some c->c≠b)/\∀p∈X.pn++pins,p.1≠b):Inv X pins σ H' s':=by
 obtain⟨h',g',d',t',o'⟩:=s';have e:o'=s.os:=ho;subst e;exact I.call (g':=g') (t':=t') (d':=d') u bV hg CF
end
abbrev XK:=Value->Option Addr->Hp->Prop
abbrev St:=List (Option V)
abbrev VK:=V->Hp->Prop
abbrev TE:=St->Hp->VK->Prop
abbrev TT:=St->Hp->(Bool->Hp->Prop)->Prop
abbrev TA:=St->Hp->(List V->Hp->Prop)->Prop
structure Ends where
 nx:St->Hp->Prop
 rt:VK
 bk:St->Hp->Prop:=λ_ _=>False
 ct:St->Hp->Prop:=λ_ _=>False
abbrev TS:=Ends->St->Hp->Prop
noncomputable def EP (X:Cx) (pins:List (Addr×Obj)) (σ:St) (Q:VK) (u:Value) (s':Shared):Prop:=∃v H',Inv X pins σ H' s'/\RelV v u/\Q v H'
noncomputable def TP (X:Cx) (pins:List (Addr×Obj)) (σ:St) (Q:Bool->Hp->Prop) (b:Bool) (s':Shared):Prop:=∃H',Inv X pins σ H' s'/\Q b H'
noncomputable def AP (X:Cx) (pins:List (Addr×Obj)) (σ:St) (Q:List V->Hp->Prop) (us:List Value) (s':Shared):Prop:=∃vs H',Inv X pins σ H' s'/\bQ vs us/\Q vs H'
noncomputable def SP (X:Cx) (pins:List (Addr×Obj)) (D:Ends) (f:Flow) (s':Shared):Prop:=
 match f with
 | .next=>∃σ' H',Inv X pins σ' H' s'/\D.nx σ' H'
 | .brk=>∃σ' H',Inv X pins σ' H' s'/\D.bk σ' H'
 | .cont=>∃σ' H',Inv X pins σ' H' s'/\D.ct σ' H'
 | .ret u=>∃v σ' H',Inv X pins σ' H' s'/\RelV v u/\D.rt v H'
noncomputable def PE (X:Cx) (e:Expr) (t:TE):Prop:=
 ∀(pins:List (Addr×Obj)) (s:Shared) (σ:St) (H:Hp) (Q:VK),Inv X pins σ H s->t σ H Q->wpAny (model X.prog X.w) X.A (eval e X.env) (EP X pins σ Q) X.xe s
noncomputable def PT (X:Cx) (e:Expr) (t:TT):Prop:=
 ∀(pins:List (Addr×Obj)) (s:Shared) (σ:St) (H:Hp) (Q:Bool->Hp->Prop),Inv X pins σ H s->t σ H Q->wpAny (model X.prog X.w) X.A (isTrue e X.env (eval e X.env)) (TP X pins σ Q) X.xe s
noncomputable def PW (X:Cx) (e:Expr) (t:TT):Prop:=
 ∀(whole:Sem Value) (pins:List (Addr×Obj)) (s:Shared) (σ:St) (H:Hp) (Q:Bool->Hp->Prop),Inv X pins σ H s->t σ H Q->wpAny (model X.prog X.w) X.A (isTrue e X.env whole) (TP X pins σ Q) X.xe s
theorem PW.pt {X:Cx} {e:Expr} {t:TT} (h:PW X e t):PT X e t:=h _
noncomputable def PA (X:Cx) (es:List Expr) (t:TA):Prop:=
 ∀(pos:Pos) (pins:List (Addr×Obj)) (s:Shared) (σ:St) (H:Hp) (Q:List V->Hp->Prop),Inv X pins σ H s->t σ H Q->wpAny (model X.prog X.w) X.A (spliced (backTo pos (starEach es X.env))) (AP X pins σ Q) X.xe s
noncomputable def PS (X:Cx) (st:Stmt) (t:TS):Prop:=
 ∀(pins:List (Addr×Obj)) (s:Shared) (σ:St) (H:Hp) (D:Ends),Inv X pins σ H s->t D σ H->wpAny (model X.prog X.w) X.A (exec st X.env) (SP X pins D) X.xe s
noncomputable def qi (X:Cx) (st:List Stmt) (t:TS):Prop:=
 ∀(pins:List (Addr×Obj)) (s:Shared) (σ:St) (H:Hp) (D:Ends),Inv X pins σ H s->t D σ H->wpAny (model X.prog X.w) X.A (execs st X.env) (SP X pins D) X.xe s
theorem cu {α:Type} {t:Sem α} {Q Q':α->Shared->Prop} {M:Model} {A:Around} {E:Value->Shared->Prop} {s:Shared} (h:wpAny M A t Q E s) (hQ:∀a s,Q a s->Q' a s):wpAny M A t Q' E s:=wpAny_mono h hQ λ_ _ x=>x
section
variable {X : Cx}
noncomputable def PB (o:Option (Option V)) (k:V->Prop):Prop:=match o with | some (some v)=>k v | _=>False
noncomputable def fR (x:V) (k:Addr->Prop):Prop:=match x with | .ref a=>k a | _=>False
noncomputable def lP (x:V) (k:Int->Prop):Prop:=match x with | .int a=>k a | _=>False
noncomputable def Oe (x:V) (k:Bool->Prop):Prop:=match x with | .bl a=>k a | _=>False
noncomputable def Of (x:V) (k:Str->Prop):Prop:=match x with | .str a=>k a | _=>False
noncomputable def gY (vs:List V) (k:V->Prop):Prop:=match vs with | [a]=>k a | _=>False
noncomputable def gZ (vs:List V) (k:V->V->Prop):Prop:=match vs with | [a,b]=>k a b | _=>False
noncomputable def tQ (vs:List V) (k:V->V->V->Prop):Prop:=match vs with | [a,b,c]=>k a b c | _=>False
noncomputable def yP (vs:List V) (k:V->V->V->V->Prop):Prop:=match vs with | [a,b,c,d]=>k a b c d | _=>False
theorem rdV_c {v:V} {k:V->Prop}:PB (some (some v)) k=k v:=rfl
theorem rdR_c {a:Addr} {k:Addr->Prop}:fR (.ref a) k=k a:=rfl
theorem rdI_c {a:Int} {k:Int->Prop}:lP (.int a) k=k a:=rfl
theorem rdB_c {a:Bool} {k:Bool->Prop}:Oe (.bl a) k=k a:=rfl
theorem rdS_c {a:Str} {k:Str->Prop}:Of (.str a) k=k a:=rfl
theorem rdL1_c {a:V} {k:V->Prop}:gY [a] k=k a:=rfl
theorem rdL2_c {a b:V} {k:V->V->Prop}:gZ [a,b] k=k a b:=rfl
theorem rdL3_c {a b c:V} {k:V->V->V->Prop}:tQ [a,b,c] k=k a b c:=rfl
theorem rdL4_c {a b c d:V} {k:V->V->V->V->Prop}:yP [a,b,c,d] k=k a b c d:=rfl
theorem rdV_eq {o:Option (Option V)} {k:V->Prop}:PB o k=∃v,o=some (some v)/\k v:=propext ⟨λh=>by rcases o with _ | _ | v;exact h.elim;exact h.elim;exact⟨v,rfl,h⟩,fun⟨v,e,h⟩=>by subst e;exact h⟩
theorem rdR_eq {x:V} {k:Addr->Prop}:fR x k=∃a,x=.ref a/\k a:=propext ⟨λh=>by cases x <;>first | exact⟨_,rfl,h⟩ | exact h.elim,fun⟨v,e,h⟩=>by subst e;exact h⟩
theorem rdI_eq {x:V} {k:Int->Prop}:lP x k=∃a,x=.int a/\k a:=propext ⟨λh=>by cases x <;>first | exact⟨_,rfl,h⟩ | exact h.elim,fun⟨v,e,h⟩=>by subst e;exact h⟩
theorem rdB_eq {x:V} {k:Bool->Prop}:Oe x k=∃a,x=.bl a/\k a:=propext ⟨λh=>by cases x <;>first | exact⟨_,rfl,h⟩ | exact h.elim,fun⟨v,e,h⟩=>by subst e;exact h⟩
theorem rdS_eq {x:V} {k:Str->Prop}:Of x k=∃a,x=.str a/\k a:=propext ⟨λh=>by cases x <;>first | exact⟨_,rfl,h⟩ | exact h.elim,fun⟨v,e,h⟩=>by subst e;exact h⟩
theorem rdL1_eq {vs:List V} {k:V->Prop}:gY vs k=∃a,vs=[a]/\k a:=propext ⟨λh=>by rcases vs with _ | ⟨a,_ | ⟨b,l⟩⟩ <;>first | exact⟨_,rfl,h⟩ | exact h.elim,fun⟨_,e,h⟩=>by subst e;exact h⟩
theorem rdL2_eq {vs:List V} {k:V->V->Prop}:gZ vs k=∃a b,vs=[a,b]/\k a b:=propext ⟨λh=>by rcases vs with _ | ⟨a,_ | ⟨b,_ | ⟨c,l⟩⟩⟩ <;>first | exact⟨_,_,rfl,h⟩ | exact h.elim,fun⟨_,_,e,h⟩=>by subst e;exact h⟩
theorem rdL3_eq {vs:List V} {k:V->V->V->Prop}:tQ vs k=∃a b c,vs=[a,b,c]/\k a b c:=propext ⟨λh=>by rcases vs with _ | ⟨a,_ | ⟨b,_ | ⟨c,_ | ⟨d,l⟩⟩⟩⟩ <;>first | exact⟨_,_,_,rfl,h⟩ | exact h.elim,fun⟨_,_,_,e,h⟩=>by subst e;exact h⟩
theorem rdL4_eq {vs:List V} {k:V->V->V->V->Prop}:yP vs k=∃a b c d,vs=[a,b,c,d]/\k a b c d:=propext ⟨λh=>by rcases vs with _ | ⟨a,_ | ⟨b,_ | ⟨c,_ | ⟨d,_ | ⟨e,l⟩⟩⟩⟩⟩ <;>first | exact⟨_,_,_,_,rfl,h⟩ | exact h.elim,fun⟨_,_,_,_,e,h⟩=>by subst e;exact h⟩
noncomputable def tVar (i:Nat):TE:=λσ H Q=>PB σ[i]? λv=>Q v H
noncomputable def tC (v:V):TE:=λ_ H Q=>Q v H
theorem Gs {i:Nat} {x:Str} {pos:Pos} (hN:X.N[i]?=some x) (hv:Pp X.env.scope x) (hd:(x==("__debug__":Str))=false:=by decide) (tR:(x==("__classdict__":Str))=false:=by decide):PE X (.Name x pos) (tVar i):=by
 intro pins s σ H Q I h;obtain⟨v,e,h⟩:=rdV_eq.mp h;obtain⟨m,hn,hl⟩:=I.loc;obtain⟨u,r,l⟩:=hl i x v hN e hv;have fin:EP X pins σ Q u s:=⟨v,H,I,r,h⟩
 rcases l with ⟨hk,hm⟩ | ⟨hk,c,hc,EY⟩
 ·exact wpAny_Name (wpAny_loadName_local I.ok.kind hk hn hm fin) hd
 ·rcases hk with hk | hk
  ·exact wpAny_Name (wpAny_loadName_cell I.ok.kind hk hc EY fin) hd
  ·exact wpAny_Name (wpAny_loadName_free I.ok.kind hk hc EY fin tR) hd
theorem ae {i j pos}:PE X (.Constant (.int i) j pos) (tC (.int i)):=λ_ _ _ H _ I h=>wpAny_Constant_int ⟨.int i,H,I.tok _,⟨_,rfl⟩,h⟩
theorem i9 {b j pos}:PE X (.Constant (.bool b) j pos) (tC (.bl b)):=λ_ _ _ H _ I h=>Constant_bool ⟨.bl b,H,I,rfl,h⟩
theorem Ar {j pos}:PE X (.Constant .none j pos) (tC .dP):=λ_ _ _ H _ I h=>Constant_none ⟨.dP,H,I,rfl,h⟩
theorem aL {x j pos}:PE X (.Constant (.str x) j pos) (tC (.str x)):=λ_ _ _ H _ I h=>Calls.Constant_str ⟨.str x,H,I.tok _,⟨_,rfl⟩,h⟩
noncomputable def Gl (X:Cx) (x:Str):Prop:=X.env.kindOf x=some .globalImplicit
theorem fS {E:Value->Shared->Prop} {pins:List (Addr×Obj)} {s:Shared} {σ:St} {H:Hp} {x:Str} {u:Value} {pos:Pos} {Q:Value->Shared->Prop} (I:Inv X pins σ H s) (hg:Gl X x) (hm:X.mg x=some u) (h:Q u s)
  (hd:(x==("__debug__":Str))=false:=by decide):wpAny (model X.prog X.w) X.A (eval (.Name x pos) X.env) Q E s:=
 Calls.Name_function_global I.ok.kind hg (Calls.loadGlobal_global (by rw[I.ok.glob];exact I.mod.glob.keeps I.bk) hm h) hd
theorem ja {E:Value->Shared->Prop} {pins:List (Addr×Obj)} {s:Shared} {σ:St} {H:Hp} {x:Str} {u:Value} {pos:Pos} {Q:Value->Shared->Prop} (I:Inv X pins σ H s) (hg:Gl X x) (hm:X.mg x=none) (hv:bootBuiltins x=some u) (h:Q u s)
  (hn:x≠"__name__":=by decide) (hd:(x==("__debug__":Str))=false:=by decide):wpAny (model X.prog X.w) X.A (eval (.Name x pos) X.env) Q E s:=by
 obtain⟨mb,h1,h2⟩:=I.mod.blt;exact Calls.Name_function_global I.ok.kind hg (Calls.loadGlobal_builtin (by rw[I.ok.glob];exact I.mod.glob.keeps I.bk) hm (by rw[I.ok.blt];exact h1.keeps I.bk) ((h2 x hn).trans hv) h) hd
theorem C7 {x:Str} {v:V} {u:Value} {pos:Pos} (hg:Gl X x) (hm:X.mg x=some u) (r:RelV v u) (hd:(x==("__debug__":Str))=false:=by decide):PE X (.Name x pos) (tC v):=
 λ_ _ _ H _ I h=>fS I hg hm ⟨v,H,I,r,h⟩ hd
theorem rh {x:Str} {v:V} {u:Value} {pos:Pos} (hg:Gl X x) (hm:X.mg x=none) (hv:bootBuiltins x=some u) (r:RelV v u) (hn:x≠"__name__":=by decide) (hd:(x==("__debug__":Str))=false:=by decide):PE X (.Name x pos) (tC v):=
 λ_ _ _ H _ I h=>ja I hg hm hv ⟨v,H,I,r,h⟩ hn hd
noncomputable def t2I (ta tb:TE) (k:Int->Int->Hp->Prop):St->Hp->Prop:=λσ H=>ta σ H λx H1=>tb σ H1 λy H2=>∃i j,x=.int i/\y=.int j/\k i j H2
variable {a b : Expr} {ta tb : TE} {pos : Pos}
noncomputable def PC (X:Cx) (op:CmpOp) (a b:Expr) (t:TE):Prop:=
 ∀(pins:List (Addr×Obj)) (s:Shared) (σ:St) (H:Hp) (Q:VK),Inv X pins σ H s->t σ H Q->
  wpAny (model X.prog X.w) X.A (eval a X.env) (λv s₁=>wpAny (model X.prog X.w) X.A (eval b X.env) (λu s₂=>wpAny (model X.prog X.w) X.A (compareOp op v u) (EP X pins σ Q) X.xe s₂) X.xe s₁) X.xe s
theorem As (b:Expr) {op:CmpOp} (h:op≠.In) (h2:op≠.NotIn):behindInMarks op b=false:=by
 have e1:(op==CmpOp.In)=false:=by cases op <;>first | rfl | exact absurd rfl h
 have e2:(op==CmpOp.NotIn)=false:=by cases op <;>first | rfl | exact absurd rfl h2
 cases b <;>simp [behindInMarks,e1,e2]
noncomputable def yQ (p:Int->Int->Bool) (ta tb:TE):TE:=λσ H Q=>t2I ta tb (λi j H2=>Q (.bl (p i j)) H2) σ H
abbrev tLt:TE->TE->TE:=yQ λi j=>decide (i<j)
abbrev tLe:TE->TE->TE:=yQ λi j=>decide (i<=j)
abbrev tGt:TE->TE->TE:=yQ λi j=>decide (j<i)
abbrev tGe:TE->TE->TE:=yQ λi j=>decide (j<=i)
abbrev aaa:TE->TE->TE:=yQ λi j=>decide (i=j)
abbrev aab:TE->TE->TE:=yQ λi j=>!decide (i=j)
noncomputable def tB (t:TE):TT:=λσ H Q=>t σ H λx H1=>Oe x λc=>Q c H1
theorem vB {op:CmpOp} {t:TE} (h:PC X op a b t) (h1:behindInMarks op b=false:=by first | exact As _ (by decide) (by decide) | rfl):PT X (.Compare a [op] [b] pos) (tB t):=by
 intro pins s σ H Q I hw;refine wpAny_isTrue_Compare1 (cu (h pins s σ H _ I hw) λv s1 h1=>cu h1 λu s2 h2=>cu h2 λc s3 dD=>?_) h1;obtain⟨x,H1,I1,r1,q1⟩:=dD;obtain⟨d,rfl,q⟩:=rdB_eq.mp q1;cases r1;exact wpAny_truthy_bool ⟨H1,I1,q⟩
theorem rj {e:Expr} {t:TE} (h:PE X e t) (he:∀whole,isTrue e X.env whole=(do let v <-whole;standAt e.pos;holding [v] (truthy v)):=by intro _;rfl):PT X e (tB t):=by
 intro pins s σ H Q I hw;refine isTrue_plain (cu (h pins s σ H _ I hw) λv s1 dD=>?_) (he _);obtain⟨x,H1,I1,r1,q1⟩:=dD;obtain⟨d,rfl,q⟩:=rdB_eq.mp q1;cases r1;exact wpAny_truthy_bool ⟨H1,I1,q⟩
variable {tA Og : TT} {rest : List Expr}
noncomputable def tAnd (t u:TT):TT:=λσ H Q=>t σ H λc H1=>if c=true then u σ H1 Q else Q false H1
noncomputable def tOr (t u:TT):TT:=λσ H Q=>t σ H λc H1=>if c=true then Q true H1 else u σ H1 Q
noncomputable def tNot (t:TT):TT:=λσ H Q=>t σ H λc H1=>Q (!c) H1
theorem pw_and1 (ha:PT X a tA):PW X (.BoolOp .And [a] pos) tA:=by
 intro wh pins s σ H Q I h;refine isTrue_and (cu (ha pins s σ H Q I h) λc s1 e=>?_);cases c with
 | true=>exact isTrue_and_nil e
 | false=>exact e
theorem pw_or1 (ha:PT X a tA):PW X (.BoolOp .Or [a] pos) tA:=by
 intro wh pins s σ H Q I h;refine isTrue_or (cu (ha pins s σ H Q I h) λc s1 e=>?_);cases c with
 | false=>exact isTrue_or_nil e
 | true=>exact e
theorem pw_and (ha:PT X a tA) (hb:PW X (.BoolOp .And (b::rest) pos) Og):PW X (.BoolOp .And (a::b::rest) pos) (tAnd tA Og):=by
 intro wh pins s σ H Q I h;refine isTrue_and (cu (ha pins s σ H _ I h) λc s1 ⟨H1,I1,q1⟩=>?_);cases c with
 | true=>exact hb wh pins s1 σ H1 Q I1 q1
 | false=>exact⟨H1,I1,q1⟩
theorem pw_or (ha:PT X a tA) (hb:PW X (.BoolOp .Or (b::rest) pos) Og):PW X (.BoolOp .Or (a::b::rest) pos) (tOr tA Og):=by
 intro wh pins s σ H Q I h;refine isTrue_or (cu (ha pins s σ H _ I h) λc s1 ⟨H1,I1,q1⟩=>?_);cases c with
 | true=>exact⟨H1,I1,q1⟩
 | false=>exact hb wh pins s1 σ H1 Q I1 q1
theorem Au (ha:PT X a tA):PT X (.UnaryOp .Not a pos) (tNot tA):=by
 intro pins s σ H Q I h;exact isTrue_not (ha pins s σ H (λc H1=>Q (!c) H1) I h)
noncomputable def tAndV (ta tb:TE):TE:=λσ H Q=>ta σ H λx H1=>∃c,x=.bl c/\if c=true then tb σ H1 Q else Q (.bl false) H1
theorem Av {op} {t:TE} (h:PE X a t):PE X (.BoolOp op [a] pos) t:=λpins s σ H Q I hw=>BoolOp_one (h pins s σ H Q I hw)
theorem vC (ha:PE X a ta) (hb:PE X (.BoolOp .And (b::rest) pos) tb):PE X (.BoolOp .And (a::b::rest) pos) (tAndV ta tb):=by
 intro pins s σ H Q I h;refine BoolOp_and (cu (ha pins s σ H _ I h) λv s1 dD=>?_);obtain⟨x,H1,I1,r1,q1⟩:=dD;obtain⟨c,rfl,q1⟩:=q1;cases r1;refine wpAny_truthy_bool ?_;cases c with
 | true=>exact hb pins s1 σ H1 Q I1 q1
 | false=>exact⟨.bl false,H1,I1,rfl,q1⟩
noncomputable def tIf (t:TT) (ta tb:TE):TE:=λσ H Q=>t σ H λc H1=>if c=true then ta σ H1 Q else tb σ H1 Q
theorem kz {c:Expr} (hc:PT X c tA) (ha:PE X a ta) (hb:PE X b tb):PE X (.IfExp c a b pos) (tIf tA ta tb):=by
 intro pins s σ H Q I h;refine wpAny_IfExp (cu (hc pins s σ H _ I h) λd s1 ⟨H1,I1,q1⟩=>?_);cases d with
 | true=>exact ha pins s1 σ H1 Q I1 q1
 | false=>exact hb pins s1 σ H1 Q I1 q1
end
noncomputable def bT (K:PySem.W.Frag) (H:Hp) (a:Addr) (xs:List V):Prop:=
 Rd H a (.lst xs)\/
  ∃(o:Obj) (bE:Array Value) (n:Nat),K.lookup a=some o/\o.cls=.type "list"/\o.dict=none/\o.data=.seq bE n/\bE.size<=sizeLine/\bQ xs bE.toList
noncomputable def iX (K:PySem.W.Frag) (H:Hp) (a:Addr) (xs:List V):Prop:=
 Rd H a (.tup xs)\/
  ∃(o:Obj) (bE:Array Value) (n:Nat),K.lookup a=some o/\o.cls=.type "tuple"/\o.data=.seq bE n/\bE.size<=sizeLine/\bQ xs bE.toList
noncomputable def PD:Value->Option V
 | .none=>some .dP
 | .bool b=>some (.bl b)
 | .int i _=>some (.int i)
 | .str x _=>some (.str x)
 | .bytes b _=>some (.zY b)
 | .float b _=>some (.Gk b)
 | .ref a=>some (.ref a)
 | .type n=>some (.ty n)
 | _=>none
theorem RelV.abs {x:V} {u:Value} (r:RelV x u):PD u=some x:=by
 cases x with
 | dP=>cases r;rfl
 | bl _=>cases r;rfl
 | int _=>obtain⟨t,rfl⟩:=r;rfl
 | str _=>obtain⟨t,rfl⟩:=r;rfl
 | zY _=>obtain⟨t,rfl⟩:=r;rfl
 | Gk _=>obtain⟨t,rfl⟩:=r;rfl
 | ref _=>cases r;rfl
 | ty _=>cases r;rfl
theorem RelV.inj {x y:V} {u:Value} (r:RelV x u) (q:RelV y u):x=y:=aaS (r.abs.symm.trans q.abs)
theorem bQ.inj:∀{xs ys:List V} {us:List Value},bQ xs us->bQ ys us->xs=ys
 | _,_,_,.nil,.nil=>rfl
 | _,_,_,.cons r t,.cons r' t'=>by rw[r.inj r',bQ.inj t t']
section
variable {X : Cx} {pins : List (Addr × Obj)} {σ : St} {H : Hp} {s : Shared} {a : Addr} {xs ys : List V}
theorem bT.of {K:PySem.W.Frag} (h:H a=some (.lst xs)):bT K H a xs:=.inl (.inl h)
theorem iX.of {K:PySem.W.Frag} (h:H a=some (.tup xs)):iX K H a xs:=.inl (.inl h)
theorem Inv.list (I:Inv X pins σ H s) (h:bT X.K H a xs):∃bE:List Value,bQ xs bE/\PlainL s.heap a bE.toArray/\xs.length<=sizeLine:=by
 rcases h with h | ⟨o,bE,n,hk,hc,hd,hs,hz,r⟩
 ·obtain⟨z,bE,n,r,e⟩:=h.ok I.bV;exact⟨bE,r,⟨_,n,e,rfl,rfl,rfl⟩,z⟩
 ·refine⟨bE.toList,r,⟨o,n,I.jE a o hk,hc,hd,by simpa using hs⟩,?_⟩;have e:=r.length;simp only[Array.length_toList] at e;omega
theorem Inv.tuple (I:Inv X pins σ H s) (h:iX X.K H a xs):∃bE:List Value,bQ xs bE/\IsTup s.heap a bE.toArray/\xs.length<=sizeLine:=by
 rcases h with h | ⟨o,bE,n,hk,hc,hs,hz,r⟩
 ·obtain⟨z,bE,r,p⟩:=h.ok I.bV;exact⟨bE,r,p,z⟩
 ·refine⟨bE.toList,r,⟨o,I.jE a o hk,hc,n,by simpa using hs⟩,?_⟩;have e:=r.length;simp only[Array.length_toList] at e;omega
theorem Inv.nU (I:Inv X pins σ H s) (h:bT X.K H a xs) (h':bT X.K H a ys):xs=ys:=by
 obtain⟨bE,r,⟨o,n,e,_,_,d⟩,_⟩:=I.list h;obtain⟨its',r',⟨o',n',e',_,_,d'⟩,_⟩:=I.list h';rw[e] at e';cases e';rw[d] at d'
 injection d' with d1 _
 have:bE=its':=by simpa using congrArg Array.toList d1
 subst this;exact r.inj r'
end
abbrev Cx.iw (X:Cx) (E:Value->Shared->Prop):Cx:={X with xe:=E}
abbrev Cx.IM (X:Cx):Cx:=X.iw λ_ _=>False
theorem Cx.Ok.iw {X:Cx} (ok:X.Ok) (E:Value->Shared->Prop):(X.iw E).Ok:=
 ⟨ok.mod,ok.kind,ok.glob,ok.blt,ok.above,ok.inj,ok.has,ok.ET,ok.hd,ok.frames,ok.Gq,ok.JC,ok.bs,ok.xq,ok.tN,ok.tO,ok.iW,ok.zZ⟩
theorem Cx.Ok.eX {X:Cx} {E:Value->Shared->Prop} (ok:(X.iw E).Ok):X.Ok:=
 ⟨ok.mod,ok.kind,ok.glob,ok.blt,ok.above,ok.inj,ok.has,ok.ET,ok.hd,ok.frames,ok.Gq,ok.JC,ok.bs,ok.xq,ok.tN,ok.tO,ok.iW,ok.zZ⟩
section
variable {X : Cx} {pins : List (Addr × Obj)} {σ : St} {H : Hp} {s : Shared} {E : Value -> Shared -> Prop}
theorem Inv.iw (I:Inv X pins σ H s) (E:Value->Shared->Prop):Inv (X.iw E) pins σ H s:=⟨I.ok.iw E,I.os,I.bare,I.base,I.loc,I.cell,I.free,I.gB,I.pin,I.bV,I.len⟩
theorem Inv.eX (I:Inv (X.iw E) pins σ H s):Inv X pins σ H s:=⟨I.ok.eX,I.os,I.bare,I.base,I.loc,I.cell,I.free,I.gB,I.pin,I.bV,I.len⟩
theorem SP.eX {D:Ends} {f:Flow} {s':Shared} (h:SP (X.iw E) pins D f s'):SP X pins D f s':=by
 cases f with
 | next=>obtain⟨σ',H',I,q⟩:=h;exact⟨σ',H',I.eX,q⟩
 | brk=>obtain⟨σ',H',I,q⟩:=h;exact⟨σ',H',I.eX,q⟩
 | cont=>obtain⟨σ',H',I,q⟩:=h;exact⟨σ',H',I.eX,q⟩
 | ret u=>obtain⟨v,σ',H',I,r,q⟩:=h;exact⟨v,σ',H',I.eX,r,q⟩
theorem qi.IM {st:List Stmt} {t:TS} (h:qi X.IM st t):qi X st t:=λpins s σ H D I hw=>
 wpAny_mono (h pins s σ H D (I.iw _) hw) (λ_ _ q=>q.eX) λ_ _ z=>False.elim z
end
section
variable {X : Cx} {st : Stmt} {rest : List Stmt} {t u : TS} {e : Expr} {te : TE} {pos : Pos}
noncomputable def tNext:TS:=λD σ H=>D.nx σ H
noncomputable def tSeq (t u:TS):TS:=λD σ H=>t {D with nx:=u D} σ H
theorem bw:qi X [] tNext:=λ_ _ σ H _ I h=>wpAny_execs_nil ⟨σ,H,I,h⟩
theorem ao (h1:PS X st t) (h2:qi X rest u):qi X (st::rest) (tSeq t u):=by
 intro pins s σ H D I h;refine wpAny_execs_cons (cu (h1 pins s σ H {D with nx:=u D} I h) λf s1 q=>?_);cases f with
 | next=>
  obtain⟨σ',H',I',q⟩:=q;exact h2 pins s1 σ' H' D I' q
 | ret v=>exact q
 | brk=>exact q
 | cont=>exact q
theorem aw (h1:PS X st t):qi X [st] t:=by
 intro pins s σ H D I h;refine wpAny_execs_cons (cu (h1 pins s σ H D I h) λf s1 q=>?_);cases f with
 | next=>exact wpAny_execs_nil q
 | ret v=>exact q
 | brk=>exact q
 | cont=>exact q
noncomputable def Gu:TS:=λD σ H=>D.bk σ H
theorem Aw:PS X (.Break pos) Gu:=λ_ _ σ H _ I h=>wpAny_Break ⟨σ,H,I,h⟩
theorem Inv.quiet {pins:List (Addr×Obj)} {σ:St} {H:Hp} {s:Shared} (I:Inv X pins σ H s):interactive X.env=false:=by simp [interactive,I.ok.kind]
noncomputable def tDrop (te:TE):TS:=λD σ H=>te σ H λ_ H1=>D.nx σ H1
theorem cg (he:PE X e te) (hs:swapsWith e none pos.line X.env=pure false:=by rfl):PS X (.Expr e pos) (tDrop te):=by
 intro pins s σ H D I h;exact wpAny_Expr_any (cu (he pins s σ H _ I h) λv s1 ⟨x,H1,I1,r1,q1⟩=>⟨σ,H1,I1,q1⟩) I.quiet hs
noncomputable def tRet (te:TE):TS:=λD σ H=>te σ H D.rt
theorem aW (he:PE X e te):PS X (.Return (some e) pos) (tRet te):=by
 intro pins s σ H D I h;exact wpAny_Return_some (cu (he pins s σ H _ I h) λv s1 ⟨x,H1,I1,r1,q1⟩=>⟨x,σ,H1,I1,r1,q1⟩)
noncomputable def tIfS (c:TT) (t u:TS):TS:=λD σ H=>c σ H λb H1=>if b=true then t D σ H1 else u D σ H1
theorem bP {c:Expr} {a b:List Stmt} {tc:TT} (hc:PT X c tc) (ha:qi X a t) (hb:qi X b u):PS X (.If c a b pos) (tIfS tc t u):=by
 intro pins s σ H D I h;refine wpAny_If (cu (hc pins s σ H _ I h) λd s1 ⟨H1,I1,q1⟩=>?_);cases d with
 | true=>exact ha pins s1 σ H1 D I1 q1
 | false=>exact hb pins s1 σ H1 D I1 q1
end
abbrev TG:=V->St->Hp->(St->Hp->Prop)->Prop
abbrev CG:=List V->St->Hp->(St->Hp->Prop)->Prop
noncomputable def PG (X:Cx) (target:Expr) (t:TG):Prop:=
 ∀(pins:List (Addr×Obj)) (s:Shared) (σ:St) (H:Hp) (v:V) (u:Value) (Q:St->Hp->Prop),Inv X pins σ H s->RelV v u->t v σ H Q->
  wpAny (model X.prog X.w) X.A (assign target X.env u) (λ_ s'=>∃σ' H',Inv X pins σ' H' s'/\Q σ' H') X.xe s
noncomputable def EZ (X:Cx) (ts:List Expr) (t:CG):Prop:=
 ∀(pins:List (Addr×Obj)) (s:Shared) (σ:St) (H:Hp) (vs:List V) (us:List Value) (Q:St->Hp->Prop),Inv X pins σ H s->bQ vs us->t vs σ H Q->
  wpAny (model X.prog X.w) X.A (assignInOrder ((assignEach ts X.env).map (·.2)) us) (λ_ s'=>∃σ' H',Inv X pins σ' H' s'/\Q σ' H') X.xe s
abbrev Gv:=V->V->V->Hp->(Hp->Prop)->Prop
noncomputable def JG (X:Cx) (t:Gv):Prop:=
 ∀(pins:List (Addr×Obj)) (s:Shared) (σ:St) (H:Hp) (o i v:V) (ov iv u:Value) (Q:Hp->Prop),Inv X pins σ H s->RelV o ov->RelV i iv->RelV v u->t o i v H Q->
  wpAny (model X.prog X.w) X.A (setItem ov iv u) (λ_ s'=>∃H',Inv X pins σ H' s'/\Q H') X.xe s
abbrev TIp:=V->V->Hp->VK->Prop
section
variable {X : Cx} {pos : Pos}
noncomputable def gName (i:Nat):TG:=λv σ H Q=>Q (σ.set i (some v)) H
theorem aO {i:Nat} {x:Str} (hN:X.N.Nodup) (hi:X.N[i]?=some x) (hx:Loc X.env.scope x) (hf:X.fn x=true\/X.env.scope.names.lookup x=some .local:=by first | exact .inl rfl | exact .inr rfl | assumption):PG X (.Name x pos) (gName i):=by
 intro pins s σ H v u Q I r h;exact wpAny_assign_Name (i8 I hN hi hx r (λs' I'=>⟨_,H,I',h⟩) hf)
noncomputable def gNil:CG:=λvs σ H Q=>vs=[]/\Q σ H
noncomputable def gCons (t:TG) (u:CG):CG:=λvs σ H Q=>∃v r,vs=v::r/\t v σ H λσ' H'=>u r σ' H' Q
theorem c9:EZ X [] gNil:=by
 intro pins s σ H vs us Q I r h;obtain⟨e,h⟩:=h;subst e;cases r;exact assignInOrder_nil ⟨σ,H,I,h⟩
theorem bD {e:Expr} {es:List Expr} {t:TG} {u:CG} (h1:PG X e t) (h2:EZ X es u)
  (hs:(assignEach (e::es) X.env).map (·.2)=assign e X.env::(assignEach es X.env).map (·.2):=by rfl):EZ X (e::es) (gCons t u):=by
 intro pins s σ H vs us Q I r h;obtain⟨v,vr,e1,h⟩:=h;subst e1;cases r with
 | cons r rr=>
  rw[hs];refine assignInOrder_cons (cu (h1 pins s σ H _ _ _ I r h) λ_ s1 ⟨σ1,H1,I1,q1⟩=>?_);exact h2 pins s1 σ1 H1 _ _ Q I1 rr q1
noncomputable def vD (K:PySem.W.Frag) (n:Nat) (t:CG):TG:=λv σ H Q=>∃a xs,v=.ref a/\iX K H a xs/\xs.length=n/\t xs σ H Q
theorem Ax {es:List Expr} {k:Nat} {t:CG} {n:Nat} (hc:X.calm=true) (h:EZ X es t)
  (hn:(assignEach es X.env).length=n:=by rfl) (j1:(assignEach es X.env).findIdx? (·.1)=none:=by rfl):PG X (.Tuple es k pos) (vD X.K n t):=by
 intro pins s σ H v u Q I r hw;obtain⟨a,xs,e1,hq,hl,hw⟩:=hw;subst e1;cases r;obtain⟨bE,rv,ht,hz⟩:=I.tuple hq;refine assign_Tuple_tuple (I.ok.hd hc) ht (by simp [hn,<-hl,rv.length]) j1 λh' hx=>?_;have I1:Inv X pins σ H {s with heap:=h'}:=I.kept (t':=s.toks) λb o e=>hx b o (aaA (Heap.lt_size e)) e;exact h pins _ σ H xs _ Q I1 (by simpa using rv) hw
noncomputable def gSub (to ti:TE) (t:Gv):TG:=λv σ H Q=>to σ H λo H1=>ti σ H1 λi H2=>t o i v H2 λH3=>Q σ H3
theorem gO {o i:Expr} {to ti:TE} {t:Gv} (ho:PE X o to) (hi:PE X i ti) (hs:JG X t)
  (ha:∀v,assign (.Subscript o i pos) X.env v=(do
   let ov <-holding [v] (eval o X.env);let iv <-holding [v,ov] (eval i X.env)
   standAt pos
   holding [v,ov,iv] (setItem ov iv v)
   release [v,ov,iv] []):=by intro _;rfl):PG X (.Subscript o i pos) (gSub to ti t):=by
 intro pins s σ H v u Q I r h;rw[ha];refine wpAny_bind (wpAny_holding (cu (ho pins s σ H _ I h) λov s1 dD=>?_));obtain⟨x,H1,I1,r1,q1⟩:=dD;refine wpAny_bind (wpAny_holding (cu (hi pins s1 σ H1 _ I1 q1) λiv s2 dD=>?_));obtain⟨y,H2,I2,r2,q2⟩:=dD;refine wpAny_bind (wpAny_standAt (wpAny_bind (wpAny_holding (cu (hs pins s2 σ H2 x y v ov iv u _ I2 r1 r2 r q2) λ_ s3 ⟨H3,I3,q3⟩=>?_))));exact wpAny_release ⟨σ,H3,I3,q3⟩
noncomputable def tAsg (te:TE) (g:TG):TS:=λD σ H=>te σ H λx H1=>g x σ H1 D.nx
theorem fE {tg e:Expr} {te:TE} {g:TG} (he:PE X e te) (hg:PG X tg g) (hs:swapsWithSole [tg] e pos.line X.env=pure false:=by rfl) (hw:swappedStores [tg] e X.env=pure none:=by rfl)
  (h1:(assignEach [tg] X.env).map (·.2)=[assign tg X.env]:=by rfl):PS X (.Assign [tg] e pos) (tAsg te g):=by
 intro pins s σ H D I h;refine wpAny_Assign_stores (cu (he pins s σ H _ I h) λv s1 dD=>?_) hs hw;obtain⟨x,H1,I1,r1,q1⟩:=dD;rw[h1];exact cu (hg pins s1 σ H1 x v _ I1 r1 q1) λ_ s2 q=>q
theorem aT {i:Nat} {x:Str} {e:Expr} {te:TE} {pos':Pos} (he:PE X e te) (hN:X.N.Nodup:=by exact nd) (hi:X.N[i]?=some x:=by rfl) (hx:Loc X.env.scope x:=by first | exact Or.inl rfl | exact Or.inr rfl) (hs:swapsWith e (some (.Name x pos')) pos.line X.env=pure false:=by rfl) (hf:X.fn x=true\/X.env.scope.names.lookup x=some .local:=by first | exact .inl rfl | exact .inr rfl | assumption):
  PS X (.Assign [.Name x pos'] e pos) (tAsg te (gName i)):=by
 intro pins s σ H D I h;refine wpAny_Assign_Name (cu (he pins s σ H _ I h) λv s1 dD=>?_) hs;obtain⟨y,H1,I1,r1,q1⟩:=dD;exact i8 I1 hN hi hx r1 (λs2 I2=>⟨_,H1,I2,q1⟩) hf
noncomputable def tPar (i j:Nat) (ta:TA):TS:=λD σ H=>ta σ H λvs H1=>∃v w,vs=[v,w]/\D.nx ((σ.set i (some v)).set j (some w)) H1
theorem Gw {i j:Nat} {x y:Str} {a b:Expr} {ta:TA} {px py pt:Pos} {kt k2 PF} (hc:X.calm=true) (hN:X.N.Nodup) (hi:X.N[i]?=some x) (hj:X.N[j]?=some y) (hij:i≠j)
  (hx:X.env.scope.names.lookup x=some .local) (hy:X.env.scope.names.lookup y=some .local) (ha:PA X [a,b] ta)
  (hw:swappedStores [.Tuple [.Name x px,.Name y py] kt pt] (.Tuple [a,b] k2 PF) X.env=pure (some [x,y]))
  (hs:swapsWithSole [.Tuple [.Name x px,.Name y py] kt pt] (.Tuple [a,b] k2 PF) pos.line X.env=pure false:=by rfl):
  PS X (.Assign [.Tuple [.Name x px,.Name y py] kt pt] (.Tuple [a,b] k2 PF) pos) (tPar i j ta):=by
 intro pins s σ H D I h;rw[exec_Assign_arm];refine wpAny_bind (wpAny_standAt ?_);rw[hs];refine wpAny_bind (wpAny_pure ?_);rw[if_neg (by decide)];refine wpAny_bind (Tuple_ (cu (ha _ pins s σ H _ I h) λus s1 dD=>?_));obtain⟨vs,H1,I1,r1,q1⟩:=dD;obtain⟨v,w,e1,q1⟩:=q1;subst e1;obtain⟨u1,u2,rfl,rv,tw⟩:∃u1 u2,us=[u1,u2]/\RelV v u1/\RelV w u2:=by
  cases r1 with
  | cons p q=>
   cases q with
   | cons p' q'=>
    cases q';exact⟨_,_,rfl,p,p'⟩
 refine wpAny_newObj_type ?_ (by show 2<=sizeLine;decide);have I2:Inv X pins σ H1 {s1 with heap:=s1.heap.push {cls:=.type "tuple",data:=.seq [u1,u2].toArray}}:=I1.kept (t':=s1.toks) λb o e=>Heap.get?_push_of_some _ e;rw[hw];refine wpAny_bind (wpAny_pure ?_);show wpAny (model X.prog X.w) X.A (do rule "assign.swapped-stores";let items <-unpackItems (.ref s1.heap.objs.size) 2 none;assignInOrder [λv=>bindName X.env y v,λv=>bindName X.env x v] items.reverse;pure Flow.next) _ _ _;refine wpAny_bind (wpAny_rule (wpAny_bind (unpackItems_tuple (items:=#[u1,u2]) (I.ok.hd hc) (IsTup.new s1.heap _) λh' hx'=>?_)));have I3:=I2.kept (h':=h') (t':=s1.toks) λb o e=>hx' b o (aaA (Heap.lt_size e)) e;show wpAny _ _ (assignInOrder [λv=>bindName X.env y v,λv=>bindName X.env x v] [u2,u1] >>=λ_=>pure Flow.next) _ _ _;refine wpAny_bind (assignInOrder_cons (wpAny_bindName (i8 I3 hN hj (.inl hy) tw (λs2 I4=>?_) (.inr hy))));refine assignInOrder_cons (wpAny_bindName (i8 I4 hN hi (.inl hx) rv (λs3 I5=>assignInOrder_nil (wpAny_pure ?_)) (.inr hx)));rw[List.set_comm _ _ (Ne.symm hij)] at I5;exact⟨_,H1,I5,q1⟩
end
section
variable {X : Cx} {pos : Pos}
noncomputable def rA (c:TT) (tb:TS):TS:=λD σ H=>∃W:Nat->St->Hp->Prop,(∃m,W m σ H)/\∀m σ H,W m σ H->
 c σ H λb H1=>if b=true then ∃N:St->Hp->Prop,(∀σ' H',N σ' H'->∃m',m'<m/\W m' σ' H')/\tb {D with nx:=N,ct:=N,bk:=D.nx} σ H1 else D.nx σ H1
theorem jb {c:Expr} {body:List Stmt} {tc:TT} {tb:TS} (hp:PassesOwn (model X.prog X.w) X.A X.env X.xe) (hc:PT X c tc) (hb:qi X body tb):PS X (.While c body [] pos) (rA tc tb):=by
 intro pins s σ H D I h;obtain⟨W,⟨m0,w0⟩,turn⟩:=h;refine wpAny_While (codeAny_whileLoop (λn s'=>∃σ' H',Inv X pins σ' H' s'/\W n σ' H') ?_ m0 ⟨σ,H,I,w0⟩);rintro n s1 ⟨σ1,H1,I1,w1⟩;refine wpAny_passesOwn hp (cu (hc pins s1 σ1 H1 _ I1 (turn n σ1 H1 w1)) λb s2 ⟨H2,I2,q2⟩=>?_);cases b with
 | true=>
  obtain⟨N,hN,q2⟩:=q2;rw[if_pos rfl];refine wpAny_passesOwn hp (cu (hb pins s2 σ1 H2 _ I2 q2) λf s3 q3=>?_);cases f with
  | next=>
   obtain⟨σ3,H3,I3,n3⟩:=q3;obtain⟨m',hm,w3⟩:=hN σ3 H3 n3;exact⟨m',hm,σ3,H3,I3,w3⟩
  | cont=>
   obtain⟨σ3,H3,I3,n3⟩:=q3;obtain⟨m',hm,w3⟩:=hN σ3 H3 n3;exact⟨m',hm,σ3,H3,I3,w3⟩
  | brk=>exact q3
  | ret v=>exact q3
 | false=>
  rw[if_neg aaM];exact wpAny_execs_nil ⟨σ1,H2,I2,q2⟩
end
structure It where
 go:Nat->Hp->Prop
 vv:Nat->Hp->V->Hp->Prop
 stop:Nat->Hp->Prop
noncomputable def fF (X:Cx) (pins:List (Addr×Obj)) (H:Hp) (b:Addr):Prop:=
 H b=none/\b≠X.env.locals/\b∉X.fs/\(b∈X.ex\/X.s₀.heap.objs.size<=b)/\(∀x c,X.env.cells.lookup x=some c->c≠b)/\∀p∈X.pn++pins,p.1≠b
theorem Inv.Ay {X:Cx} {pins:List (Addr×Obj)} {σ:St} {H H':Hp} {s:Shared} {b:Addr} (I:Inv X pins σ H s) (hb:s.heap.objs.size<=b) (hn:H' b=none):fF X pins H' b:=by
 refine⟨hn,aa4 (aaL I.lt hb),I.Pu hb,.inr (aaI I.sz hb),λx c e z=>?_,λp hp z=>?_⟩
 ·obtain⟨v,q⟩:=I.cell x c e;exact absurd (aaL q.lt (by rw[z];exact hb)) (aaN _)
 ·exact absurd (aaL (Heap.lt_size (I.pin p hp).1) (by rw[z];exact hb)) (aaN _)
structure Turn (P:Program) (w:World) (K:PySem.W.Frag) (tg:Expr) (J:It) (fp:List Addr) (it:Addr) (tn:Nat->Heap->Prop):Prop where
 mem:it∈fp
 obj:∀i h,tn i h->∀b∈fp,∃o,h.get? b=some o/\∀v,o.data≠.cell v
 keep:∀i h h',tn i h->(∀b∈fp,∀o,h.get? b=some o->h'.get? b=some o)->tn i h'
 item:∀(X:Cx),X.prog=P->X.w=w->X.K=K->X.calm=true->∀(i:Nat) (pins:List (Addr×Obj)) (s:Shared) (σ:St) (H:Hp) (E:Value->Shared->Prop),Inv X pins σ H s->(∀b∈fp,fF X pins H b)->tn i s.heap->J.go i H->
  wpAny (model P w) X.A (pyNext (.ref it)) (λr s1=>∃u,r=some u/\
   wpAny (model P w) X.A (letOwnedTupleGo tg (.ref it) u) (λ_ s2=>∃x H',Inv X pins σ H' s2/\RelV x u/\J.vv i H x H'/\tn (i+1) s2.heap/\∀b∈fp,H' b=none) E s1) E s
 done:∀(X:Cx),X.prog=P->X.w=w->X.K=K->X.calm=true->∀(i:Nat) (pins:List (Addr×Obj)) (s:Shared) (σ:St) (H:Hp) (E:Value->Shared->Prop),Inv X pins σ H s->(∀b∈fp,fF X pins H b)->tn i s.heap->J.stop i H->
  wpAny (model P w) X.A (pyNext (.ref it)) (λr s1=>r=none/\Inv X pins σ H s1) E s
 self:∀(A:Around) (i:Nat) (s:Shared) (Q:Value->Shared->Prop) (E:Value->Shared->Prop),tn i s.heap->Q (.ref it) s->wpAny (model P w) A (pyIter (.ref it)) Q E s
abbrev TI:=St->Hp->(It->Hp->Prop)->Prop
noncomputable def YE (X:Cx) (pins:List (Addr×Obj)) (σ:St) (tg:Expr) (R:It->Hp->Prop) (tS:Value) (s2:Shared):Prop:=
 ∃(it:Addr) (fp:List Addr) (tn:Nat->Heap->Prop) (J:It) (H':Hp),tS=.ref it/\Inv X pins σ H' s2/\Turn X.prog X.w X.K tg J fp it tn/\tn 0 s2.heap/\(∀b∈fp,fF X pins H' b)/\R J H'
noncomputable def PI (X:Cx) (tg iter:Expr) (wi:TI):Prop:=
 ∀(pins:List (Addr×Obj)) (s:Shared) (σ:St) (H:Hp) (R:It->Hp->Prop),Inv X pins σ H s->wi σ H R->
  wpAny (model X.prog X.w) X.A (eval iter X.env) (λv s1=>wpAny (model X.prog X.w) X.A (pyIter v) (YE X pins σ tg R) X.xe s1) X.xe s
theorem Az {M:Model} {A:Around} {E:Value->Shared->Prop} {s:Shared} {tg:Expr} {it:Addr} {u:Value} {o:Obj} {n:String} {vs:Array Value} {Q:Unit->Shared->Prop} (ho:s.heap.get? it=some o) (hc:o.cls=.type n) (hd:o.data=.fields vs)
  (hn:["enumerate","zip","dict_itemiterator","dict_reverseitemiterator","odict_iterator","itertools.zip_longest","itertools.pairwise"].contains n=false) (hQ:Q () s):wpAny M A (letOwnedTupleGo tg (.ref it) u) Q E s:=by
 unfold letOwnedTupleGo;cases tg <;>first
  | exact wpAny_pure hQ
  | (cases u <;>first
    | exact wpAny_pure hQ
    | (refine wpAny_bind (wpAny_load ho ?_)
       rw[hc,hd];show wpAny M A (if (["enumerate","zip","dict_itemiterator","dict_reverseitemiterator","odict_iterator","itertools.zip_longest","itertools.pairwise"].contains n && vs[0]?==some (rawInt _))=true then _ else _) Q E s;rw[if_neg (by intro h;rw[hn,Bool.false_and] at h;cases h)];exact wpAny_pure hQ))
noncomputable def C8 (K:PySem.W.Frag) (a:Addr):It:=
 ⟨λi H=>∃xs x,bT K H a xs/\xs[i]?=some x,λi H x H'=>H'=H/\∀xs,bT K H a xs->xs[i]?=some x,λi H=>∃xs,bT K H a xs/\xs.length<=i⟩
noncomputable def Itt (K:PySem.W.Frag) (a:Addr):It:=
 ⟨λi H=>∃xs x,iX K H a xs/\xs[i]?=some x,λi H x H'=>H'=H/\∀xs,iX K H a xs->xs[i]?=some x,λi H=>∃xs,iX K H a xs/\xs.length<=i⟩
noncomputable def JH (lo:Int) (n:Nat):It:=⟨λi _=>i<n,λi H x H'=>H'=H/\x=.int (lo+i),λi _=>n<=i⟩
theorem yR {P:Program} {w:World} {K:PySem.W.Frag} {tg:Expr} (a it:Addr):Turn P w K tg (C8 K a) [it] it (λi h=>h.IsListIter it a i) where
 mem:=by simp
 obj:=λi h st b hb=>by
  have e:b=it:=by simpa using hb
  subst e;obtain⟨o,e,c,d⟩:=st;exact⟨o,e,λv z=>by rw[d] at z;cases z⟩
 keep:=λi h h' st k=>st.at λo e=>k it (by simp) o e
 item:=by
  intro X hP hw hK hc i pins s σ H E I hf st hg;subst hP hw hK;obtain⟨xs,x,hq,hx⟩:=hg;obtain⟨bE,rv,p,hz⟩:=I.list hq;obtain⟨u,hu,ru⟩:=rv.get hx;obtain⟨f0,f1,f2,f3,f4,f5⟩:=hf it (by simp);refine wpAny_pyNext_list_item st p.isList (x:=u) (by simpa using hu) λh' vE sb=>?_;have I1:Inv X pins σ H {s with heap:=h'}:=I.turned (t':=s.toks) (λb o hb e=>(sb.2 b hb).trans e) f0 f1 f3 f4 f5;obtain⟨o,e,c,d⟩:=id vE;exact⟨u,rfl,Az (s:={s with heap:=h'}) e c d (by decide) ⟨x,H,I1,ru,⟨rfl,λys hy=>by rw[I.nU hy hq];exact hx⟩,vE,λb hb=>(hf b hb).1⟩⟩
 done:=by
  intro X hP hw hK hc i pins s σ H E I hf st hg;subst hP hw hK;obtain⟨xs,hq,hx⟩:=hg;obtain⟨bE,rv,p,hz⟩:=I.list hq;obtain⟨f0,f1,f2,f3,f4,f5⟩:=hf it (by simp);have hl:=rv.length;exact wpAny_pyNext_list_end (I.ok.hd hc) st p.isList (by simp;omega) λh' eb=>⟨rfl,I.turned (t':=s.toks) (λb o hb e=>eb b o hb e) f0 f1 f3 f4 f5⟩
 self:=λ_ _ _ _ _ st h=>wpAny_pyIter_listiter st h
theorem vF {P:Program} {w:World} {K:PySem.W.Frag} {tg:Expr} (it:Addr) (lo:Int) (n:Nat):Turn P w K tg (JH lo n) [it] it (λi h=>IsRangeIter h it (lo+ (i:Nat)*1) ((n:Int) - (i:Nat)) 1) where
 mem:=by simp
 obj:=λi h st b hb=>by
  have e:b=it:=by simpa using hb
  subst e;exact⟨_,st,λv z=>by
   have z':Data.fields _=Data.cell v:=z;cases z'⟩
 keep:=λi h h' st k=>k it (by simp) _ st
 item:=by
  intro X hP hw hK hc i pins s σ H E I hf st hg;subst hP hw hK;obtain⟨f0,f1,f2,f3,f4,f5⟩:=hf it (by simp);have W:=Walks.range (prog:=X.prog) (w:=X.w) (I.ok.hd hc) it lo 1 n;refine W.item i s _ _ hg st λv h' tk hv vE kk=>?_;obtain⟨t,rfl⟩:=hv;have I1:Inv X pins σ H {s with heap:=h',toks:=tk}:=I.turned (λb o hb e=>kk b o (by simpa using hb) e) f0 f1 f3 f4 f5;refine⟨_,rfl,Az (s:={s with heap:=h',toks:=tk}) (n:="range_iterator") vE rfl rfl (by decide) ⟨.int (lo+i),H,I1,⟨t,?_⟩,⟨rfl,rfl⟩,vE,λb hb=>(hf b hb).1⟩⟩;rw[Int.mul_one]
 done:=by
  intro X hP hw hK hc i pins s σ H E I hf st hg;subst hP hw hK;obtain⟨f0,f1,f2,f3,f4,f5⟩:=hf it (by simp);exact wpAny_pyNext_range_end (I.ok.hd hc) st (by have:n<=i:=hg;omega) λh' eb=>⟨rfl,I.turned (t':=s.toks) (λb o hb e=>eb b o hb e) f0 f1 f3 f4 f5⟩
 self:=λ_ _ _ _ _ st h=>wpAny_pyIter_rangeiter st h
section
variable {X : Cx} {tg : Expr}
noncomputable def iList (K:PySem.W.Frag) (tl:TE):TI:=λσ H R=>tl σ H λx H1=>fR x λa=>(∃xs,bT K H1 a xs)/\R (C8 K a) H1
theorem C9 {l:Expr} {tl:TE} (hl:PE X l tl):PI X tg l (iList X.K tl):=by
 intro pins s σ H R I h;refine cu (hl pins s σ H _ I h) λv s1 dD=>?_;obtain⟨x,H1,I1,r1,q1⟩:=dD;obtain⟨a,e,⟨xs,hq⟩,q⟩:=rdR_eq.mp q1;subst e;cases r1;obtain⟨bE,rv,p,hz⟩:=I1.list hq;refine wpAny_pyIter_list p.isList ?_;refine⟨s1.heap.objs.size,[s1.heap.objs.size],_,_,H1,rfl,I1.kept (t':=s1.toks) λb o e=>Heap.get?_push_of_some _ e,yR a _,⟨_,Heap.get?_push_size _ rfl,rfl,rfl⟩,λb hb=>?_,q⟩;have e:b=s1.heap.objs.size:=by simpa using hb
 subst e;exact I1.Ay (aav _) (I1.bV.fresh (aav _))
theorem tT {pins:List (Addr×Obj)} {σ:St} {H:Hp} {s:Shared} {R:It->Hp->Prop} {E:Value->Shared->Prop} {lo hi:Int} {t u v:Tok} {tk:Nat} (I:Inv X pins σ H s) (h1:-(2^62)<=lo) (h2:lo<2^62) (h3:-(2^62)<=hi) (h4:hi<2^62)
  (q:R (JH lo (hi - lo).toNat) H):wpAny (model X.prog X.w) X.A (pyIter (.ref s.heap.objs.size)) (YE X pins σ tg R) E {s with heap:=s.heap.push {cls:=.type "range",data:=.fields #[.int lo t,.int hi u,.int 1 v]},toks:=tk}:=by
 refine wpAny_pyIter_range (IsRange.new ..) (small_one h1 h2 h3 h4) ?_;have I1:Inv X pins σ H {s with heap:=s.heap.push {cls:=.type "range",data:=.fields #[.int lo t,.int hi u,.int 1 v]},toks:=tk}:=I.kept λb o e=>Heap.get?_push_of_some _ e;refine⟨(s.heap.push {cls:=.type "range",data:=.fields #[.int lo t,.int hi u,.int 1 v]}).objs.size,[(s.heap.push {cls:=.type "range",data:=.fields #[.int lo t,.int hi u,.int 1 v]}).objs.size],_,_,H,rfl,
  I1.kept (t':=tk) λb o e=>Heap.get?_push_of_some _ e,vF _ lo (hi - lo).toNat,?_,λb hb=>?_,q⟩
 ·have e1:lo+ ((0:Nat):Int)*1=lo:=by simp
  have e2:(((hi - lo).toNat:Nat):Int) - ((0:Nat):Int)=Builtin.Range.rangeSize lo hi 1:=by rw[rangeSize_one];split <;>omega
  show IsRangeIter _ _ (lo+ ((0:Nat):Int)*1) ((((hi - lo).toNat:Nat):Int) - ((0:Nat):Int)) 1;rw[e1,e2];exact Heap.get?_push_size _ rfl
 ·have e:b=(s.heap.push {cls:=.type "range",data:=.fields #[.int lo t,.int hi u,.int 1 v]}).objs.size:=by simpa using hb
  subst e;exact I1.Ay (aav _) (I1.bV.fresh (aav _))
noncomputable def iRng1 (ta:TA):TI:=λσ H R=>ta σ H λvs H1=>gY vs λx=>lP x λj=> -(2^62)<=j/\j<2^62/\R (JH 0 j.toNat) H1
noncomputable def iRng2 (ta:TA):TI:=λσ H R=>ta σ H λvs H1=>gZ vs λx y=>lP x λi=>lP y λj=>(-(2^62)<=i/\i<2^62/\-(2^62)<=j/\j<2^62)/\R (JH i (j - i).toNat) H1
theorem eY {a:Expr} {ta:TA} {p pos:Pos} (hg:Gl X "range") (hm:X.mg "range"=none) (ha:PA X [a] ta) (hs:starEach [a] X.env=[(false,eval a X.env)]:=by rfl):PI X tg (.Call (.Name "range" p) [a] [] pos) (iRng1 ta):=by
 intro pins s σ H R I h;refine Call_ (ja I hg hm boot_range (PyProof.Rows.callWith_type1 (cu (ha pos pins s σ H _ I h) λus s1 dD=>?_) hs rfl));obtain⟨vs,H1,I1,r1,q1⟩:=dD;obtain⟨x,e,p1⟩:=rdL1_eq.mp q1;clear q1;obtain⟨j,rfl,q1,q2,q⟩:=rdI_eq.mp p1;subst e;cases r1 with
 | cons r rr=>
  cases rr;obtain⟨t,rfl⟩:=r;exact call_range_1 (tT I1 (by omega) (by omega) q1 q2 (by simpa using q))
theorem ju {a b:Expr} {ta:TA} {p pos:Pos} (hg:Gl X "range") (hm:X.mg "range"=none) (ha:PA X [a,b] ta) (hs:starEach [a,b] X.env=[(false,eval a X.env),(false,eval b X.env)]:=by rfl) (JI:starEach [b] X.env=[(false,eval b X.env)]:=by rfl):
  PI X tg (.Call (.Name "range" p) [a,b] [] pos) (iRng2 ta):=by
 intro pins s σ H R I h;refine Call_ (ja I hg hm boot_range (PyProof.Rows.callWith_type1 (cu (ha pos pins s σ H _ I h) λus s1 dD=>?_) (by rw[hs,JI]) (by rw[JI];rfl)));obtain⟨vs,H1,I1,r1,q1⟩:=dD;obtain⟨x,y,e,p1⟩:=rdL2_eq.mp q1;clear q1;obtain⟨i,rfl,p2⟩:=rdI_eq.mp p1;obtain⟨j,rfl,⟨q1,q2,q3,q4⟩,q⟩:=rdI_eq.mp p2;subst e;cases r1 with
 | cons r rr=>
  cases rr with
  | cons r' rr=>
   cases rr;obtain⟨t,rfl⟩:=r;obtain⟨t',rfl⟩:=r';exact call_range_2 (tT I1 q1 q2 q3 q4 q)
noncomputable def Gx (wi:TI) (g:TG) (tb:TS):TS:=λD σ H=>wi σ H λJ H1=>∃W:Nat->Nat->St->Hp->Prop,(∃m,W 0 m σ H1)/\∀i m σ H,W i m σ H->
 (J.stop i H/\D.nx σ H)\/(J.go i H/\∃N:St->Hp->Prop,(∀σ' H',N σ' H'->∃m',m'<m/\W (i+1) m' σ' H')/\∀x H',J.vv i H x H'->g x σ H' λσ2 H2=>tb {D with nx:=N,ct:=N,bk:=D.nx} σ2 H2)
noncomputable def j2 (fp:List Addr) (h:Heap):List (Addr×Obj):=fp.filterMap λb=>(h.get? b).map λo=>(b,o)
theorem dH {fp:List Addr} {h:Heap} {b:Addr} {o:Obj} (hb:b∈fp) (e:h.get? b=some o):(b,o)∈j2 fp h:=List.mem_filterMap.mpr ⟨b,hb,by rw[e];rfl⟩
theorem yS {fp:List Addr} {h:Heap} {p:Addr×Obj} (hp:p∈j2 fp h):p.1∈fp/\h.get? p.1=some p.2:=by
 obtain⟨b,hb,e⟩:=List.mem_filterMap.mp hp;cases q:h.get? b with
 | none=>rw[q] at e;cases e
 | some o=>
  rw[q] at e;have e':(b,o)=p:=aaS e;subst e';exact⟨hb,q⟩
theorem Inv.pinned {pins:List (Addr×Obj)} {σ:St} {H:Hp} {s:Shared} {fp:List Addr} (I:Inv X pins σ H s) (hf:∀b∈fp,fF X pins H b) (ho:∀b∈fp,∃o,s.heap.get? b=some o/\∀v,o.data≠.cell v):Inv X (pins++j2 fp s.heap) σ H s:=
 I.gC λp hp=>(List.mem_append.mp hp).elim (λz=>I.pin p (aaO _ z)) λz=>by
  obtain⟨hb,e⟩:=yS z;obtain⟨f0,f1,f2,_⟩:=hf p.1 hb;obtain⟨o,e',d⟩:=ho p.1 hb;rw[e] at e';cases e';exact⟨e,f0,f1,f2,d⟩
theorem Inv.hG {pins pl:List (Addr×Obj)} {σ:St} {H:Hp} {s:Shared} (I:Inv X (pins++pl) σ H s):Inv X pins σ H s:=I.gC λp hp=>I.pin p (aaO _ (aba _ hp))
theorem cK {iter:Expr} {body:List Stmt} {wi:TI} {g:TG} {tb:TS} {pos:Pos} (hp:PassesOwn (model X.prog X.w) X.A X.env X.xe) (hc:X.calm=true) (hi:PI X tg iter wi) (hg:PG X tg g) (hb:qi X body tb)
  (hs:∀x,foldedSetIterable iter X.env x=pure x:=by intro _;rfl):PS X (.For tg iter body [] pos) (Gx wi g tb):=by
 intro pins s σ H D I h;refine wpAny_For (cu (hi pins s σ H _ I h) λv s1 h1=>cu h1 λtS s2 h2=>?_) hs;obtain⟨it,fp,tn,J,H2,e,I2,T,mX,f2,W,⟨m0,w0⟩,turn⟩:=h2;subst e;have j3:∀{H':Hp},(∀b∈fp,H' b=none)->∀b∈fp,fF X pins H' b:=λhn b hb=>⟨hn b hb,(f2 b hb).2⟩
 refine codeAny_forLoop_any (λn s'=>∃i σ' H',Inv X pins σ' H' s'/\tn i s'.heap/\(∀b∈fp,H' b=none)/\W i n σ' H') ?_ m0 ⟨0,σ,H2,I2,mX,λb hb=>(f2 b hb).1,w0⟩;rintro n s3 ⟨i,σ3,H3,I3,JJ,JK,w3⟩;rcases turn i n σ3 H3 w3 with ⟨stop,qn⟩ | ⟨go,N,hN,step⟩
 ·refine wpAny_passesOwn hp (cu (T.done X rfl rfl rfl hc i pins s3 σ3 H3 X.xe I3 (j3 JK) JJ stop) λr s4 ⟨hr,I4⟩=>?_);subst hr;exact wpAny_execs_nil ⟨σ3,H3,I4,qn⟩
 ·refine wpAny_passesOwn hp (cu (T.item X rfl rfl rfl hc i pins s3 σ3 H3 X.xe I3 (j3 JK) JJ go) λr s4 ⟨u,hr,h4⟩=>?_);subst hr;refine wpAny_passesOwn hp (cu h4 λ_ s5 dD=>?_);obtain⟨x,H5,I5,r5,y5,gz,PJ⟩:=dD;have PK:=I5.pinned (j3 PJ) (T.obj _ _ gz);refine wpAny_passesOwn hp (cu (hg _ s5 σ3 H5 x u _ PK r5 (step x H5 y5)) λ_ s6 ⟨σ6,H6,I6,q6⟩=>?_);refine wpAny_passesOwn hp (cu (hb _ s6 σ6 H6 _ I6 q6) λf s7 q7=>?_);have again:∀{σ7:St} {H7:Hp},Inv X (pins++j2 fp s5.heap) σ7 H7 s7->N σ7 H7->∃m,m<n/\∃i σ' H',Inv X pins σ' H' s7/\tn i s7.heap/\(∀b∈fp,H' b=none)/\W i m σ' H':=λ{σ7 H7} I7 n7=>by
   obtain⟨m',hm,w7⟩:=hN σ7 H7 n7;refine⟨m',hm,i+1,σ7,H7,I7.hG,T.keep _ _ _ gz λb hb o e=>(I7.pin (b,o) (aaO _ (aaO _ (dH hb e)))).1,λb hb=>?_,w7⟩;obtain⟨o,e,d⟩:=T.obj _ _ gz b hb;exact(I7.pin (b,o) (aaO _ (aaO _ (dH hb e)))).2.1
  cases f with
  | next=>obtain⟨σ7,H7,I7,n7⟩:=q7;exact again I7 n7
  | cont=>obtain⟨σ7,H7,I7,n7⟩:=q7;exact again I7 n7
  | brk=>obtain⟨σ7,H7,I7,q7⟩:=q7;exact⟨σ7,H7,I7.hG,q7⟩
  | ret v=>obtain⟨x7,σ7,H7,I7,r7,q7⟩:=q7;exact⟨x7,σ7,H7,I7.hG,r7,q7⟩
end
theorem AA {c:TT} {tb:TS} {D:Ends} {σ:St} {H:Hp} (Pv:St->Hp->Prop) (μ:St->Hp->Nat) (h0:Pv σ H)
  (hs:∀σ H,Pv σ H->c σ H λb H1=>if b=true then tb {D with nx:=λσ' H'=>Pv σ' H'/\μ σ' H'<μ σ H,ct:=λσ' H'=>Pv σ' H'/\μ σ' H'<μ σ H,bk:=D.nx} σ H1 else D.nx σ H1)
  (mono:∀σ H Q Q',(∀b H1,Q b H1->Q' b H1)->c σ H Q->c σ H Q'):rA c tb D σ H:=by
 refine⟨λm σ H=>m=μ σ H/\Pv σ H,⟨_,rfl,h0⟩,?_⟩;rintro m σ H ⟨rfl,p⟩;refine mono σ H _ _ (λb H1 q=>?_) (hs σ H p);cases b with
 | true=>exact⟨_,λσ' H' ⟨p',l⟩=>⟨_,l,rfl,p'⟩,q⟩
 | false=>exact q
abbrev R2:=V->V->Hp->VK->Prop
noncomputable def lQ (X:Cx) (f:Value->Value->Sem Value) (r:R2):Prop:=
 ∀(pins:List (Addr×Obj)) (s:Shared) (σ:St) (H:Hp) (x y:V) (v u:Value) (Q:VK),Inv X pins σ H s->RelV x v->RelV y u->r x y H Q->
  wpAny (model X.prog X.w) X.A (f v u) (EP X pins σ Q) X.xe s
noncomputable def Oh (X:Cx) (f:Value->Sem Value) (r:V->Hp->VK->Prop):Prop:=
 ∀(pins:List (Addr×Obj)) (s:Shared) (σ:St) (H:Hp) (x:V) (v:Value) (Q:VK),Inv X pins σ H s->RelV x v->r x H Q->
  wpAny (model X.prog X.w) X.A (f v) (EP X pins σ Q) X.xe s
noncomputable def dz (X:Cx) (f:Value) (r:List V->Hp->VK->Prop):Prop:=
 ∀(pins:List (Addr×Obj)) (s:Shared) (σ:St) (H:Hp) (xs:List V) (us:List Value) (Q:VK),Inv X pins σ H s->bQ xs us->r xs H Q->
  wpAny (model X.prog X.w) X.A (call f us) (EP X pins σ Q) X.xe s
noncomputable def tOp (r:R2) (ta tb:TE):TE:=λσ H Q=>ta σ H λx H1=>tb σ H1 λy H2=>r x y H2 Q
noncomputable def tUn (r:V->Hp->VK->Prop) (ta:TE):TE:=λσ H Q=>ta σ H λx H1=>r x H1 Q
noncomputable def rI (C:Int->Int->Prop) (g:Int->Int->V):R2:=λx y H Q=>lP x λi=>lP y λj=>C i j/\Q (g i j) H
noncomputable def rI0 (g:Int->Int->V):R2:=λx y H Q=>lP x λi=>lP y λj=>Q (g i j) H
noncomputable def rU (g:Int->V):V->Hp->VK->Prop:=λx H Q=>∃i,x=.int i/\Q (g i) H
section
variable {X : Cx} {a b c : Expr} {ta tb tc : TE} {pos : Pos}
theorem Gy (ha:PE X a ta) (hb:PE X b tb) {pins:List (Addr×Obj)} {s:Shared} {σ:St} {H:Hp} {R:V->V->Hp->Prop} (I:Inv X pins σ H s)
  (h:ta σ H λx H1=>tb σ H1 λy H2=>R x y H2) {Q:Value->Shared->Prop} {f:Value->Value->Sem Value}
  (hf:∀v u s2 x y H2,Inv X pins σ H2 s2->RelV x v->RelV y u->R x y H2->wpAny (model X.prog X.w) X.A (f v u) Q X.xe s2):
  wpAny (model X.prog X.w) X.A (eval a X.env) (λv s₁=>wpAny (model X.prog X.w) X.A (eval b X.env) (λu s₂=>wpAny (model X.prog X.w) X.A (f v u) Q X.xe s₂) X.xe s₁) X.xe s:=by
 refine cu (ha pins s σ H _ I h) λv s1 dD=>?_;obtain⟨x,H1,I1,r1,q1⟩:=dD;refine cu (hb pins s1 σ H1 _ I1 q1) λu s2 dD=>?_;obtain⟨y,H2,I2,r2,q2⟩:=dD;exact hf v u s2 x y H2 I2 r1 r2 q2
theorem br {op:Operator} {r:R2} (ho:lQ X (binaryOp op) r) (ha:PE X a ta) (hb:PE X b tb):PE X (.BinOp a op b pos) (tOp r ta tb):=by
 intro pins s σ H Q I h;exact wpAny_BinOp (Gy ha hb I h λv u s2 x y H2 I2 rx ry q=>ho pins s2 σ H2 x y v u Q I2 rx ry q)
theorem jM {op:UnaryOp} {r:V->Hp->VK->Prop} (ho:Oh X (unaryOp op) r) (ha:PE X a ta):PE X (.UnaryOp op a pos) (tUn r ta):=by
 intro pins s σ H Q I h;exact UnaryOp_ (cu (ha pins s σ H _ I h) λv s1 ⟨x,H1,I1,r1,q1⟩=>ho pins s1 σ H1 x v Q I1 r1 q1)
theorem Oi {f:Value->Value->Sem Value} {C:Int->Int->Prop} {g:Int->Int->Int}
  (rule:∀(i j:Int) (t u:Tok) (s:Shared) (Q:Value->Shared->Prop) (E:Value->Shared->Prop),C i j->Q (.int (g i j) s.toks) {s with toks:=s.toks+1}->wpAny (model X.prog X.w) X.A (f (.int i t) (.int j u)) Q E s):
  lQ X f (rI C λi j=>.int (g i j)):=by
 intro pins s σ H x y v u Q I rx ry h;obtain⟨i,rfl,h1⟩:=rdI_eq.mp h;obtain⟨j,rfl,hc,q⟩:=rdI_eq.mp h1;obtain⟨t,rfl⟩:=rx;obtain⟨t',rfl⟩:=ry;exact rule i j t t' s _ _ hc ⟨.int (g i j),H,I.tok _,⟨_,rfl⟩,q⟩
theorem JL {f:Value->Value->Sem Value} {g:Int->Int->Int}
  (rule:∀(i j:Int) (t u:Tok) (s:Shared) (Q:Value->Shared->Prop) (E:Value->Shared->Prop),Q (.int (g i j) s.toks) {s with toks:=s.toks+1}->wpAny (model X.prog X.w) X.A (f (.int i t) (.int j u)) Q E s):
  lQ X f (rI0 λi j=>.int (g i j)):=by
 intro pins s σ H x y v u Q I rx ry h;obtain⟨i,rfl,h1⟩:=rdI_eq.mp h;obtain⟨j,rfl,q⟩:=rdI_eq.mp h1;obtain⟨t,rfl⟩:=rx;obtain⟨t',rfl⟩:=ry;exact rule i j t t' s _ _ ⟨.int (g i j),H,I.tok _,⟨_,rfl⟩,q⟩
theorem Dc {f:Value->Value->Sem Value} {g:Int->Int->Bool}
  (rule:∀(i j:Int) (t u:Tok) (s:Shared) (Q:Value->Shared->Prop) (E:Value->Shared->Prop),Q (.bool (g i j)) s->wpAny (model X.prog X.w) X.A (f (.int i t) (.int j u)) Q E s):
  lQ X f (rI0 λi j=>.bl (g i j)):=by
 intro pins s σ H x y v u Q I rx ry h;obtain⟨i,rfl,h1⟩:=rdI_eq.mp h;obtain⟨j,rfl,q⟩:=rdI_eq.mp h1;obtain⟨t,rfl⟩:=rx;obtain⟨t',rfl⟩:=ry;exact rule i j t t' s _ _ ⟨.bl (g i j),H,I,rfl,q⟩
theorem cC:lQ X (binaryOp .Add) (rI0 λi j=>.int (i+j)):=JL λ_ _ _ _ _ _ _ q=>add_int q
theorem rB:lQ X (binaryOp .Sub) (rI0 λi j=>.int (i - j)):=JL λ_ _ _ _ _ _ _ q=>sub_int q
theorem Gz:lQ X (binaryOp .Mod) (rI (λ_ j=>0<j) λi j=>.int (i % j)):=Oi λi j _ _ _ _ _ hc q=>by
 have h1:(0:Int)<j:=hc;exact mod_int' (by omega) (by rw[Int.fmod_eq_emod_of_nonneg i (by omega)];exact q)
theorem unI {f:Value->Sem Value} {g:Int->Int}
  (rule:∀(i:Int) (t:Tok) (s:Shared) (Q:Value->Shared->Prop) (E:Value->Shared->Prop),Q (.int (g i) s.toks) {s with toks:=s.toks+1}->wpAny (model X.prog X.w) X.A (f (.int i t)) Q E s):
  Oh X f (rU λi=>.int (g i)):=by
 intro pins s σ H x v Q I rx h;obtain⟨i,rfl,q⟩:=h;obtain⟨t,rfl⟩:=rx;exact rule i t s _ _ ⟨.int (g i),H,I.tok _,⟨_,rfl⟩,q⟩
theorem gP:Oh X (unaryOp .USub) (rU λi=>.int (-i)):=unI λ_ _ _ _ _ q=>neg_int q
end
noncomputable def vG:V->V->Bool
 | .dP,.dP=>true | .dP,.int _=>true | .int _,.dP=>true | .dP,.bl _=>true | .bl _,.dP=>true | .dP,.str _=>true | .str _,.dP=>true
 | .int _,.int _=>true | .bl _,.bl _=>true | .str _,.str _=>true | .zY _,.zY _=>true
 | .int _,.str _=>true | .str _,.int _=>true | .bl _,.str _=>true | .str _,.bl _=>true
 | _,_=>false
noncomputable def rEq:R2:=λx y H Q=>vG x y=true/\Q (.bl (decide (x=y))) H
noncomputable def rNe:R2:=λx y H Q=>vG x y=true/\Q (.bl (!decide (x=y))) H
theorem xr {i j:Int}:decide (V.int i=V.int j)=(i==j):=by
 rw[Bool.eq_iff_iff];simp
theorem AB {i j:Bool}:decide (V.bl i=V.bl j)=(i==j):=by
 rw[Bool.eq_iff_iff];simp
theorem xt {i j:Str}:decide (V.str i=V.str j)=(i==j):=by
 rw[Bool.eq_iff_iff];simp
theorem xu {i j:Array UInt8}:decide (V.zY i=V.zY j)=(i.toList==j.toList):=by
 rw[Bool.eq_iff_iff];cases i;cases j;simp
section
variable {X : Cx} {a b c : Expr} {ta tb tc : TE} {pos : Pos}
theorem ck {pins:List (Addr×Obj)} {σ:St} {H:Hp} {s:Shared} {Q:VK} {k k':Bool} (I:Inv X pins σ H s) (q:Q (.bl k) H) (e:k=k'):EP X pins σ Q (.bool k') s:=by
 subst e;exact⟨.bl k,H,I,rfl,q⟩
theorem cw:lQ X (compareOp .Eq) rEq:=by
 intro pins s σ H x y v u Q I rx ry h;obtain⟨hs,q⟩:=h;cases x with
 | dP=>
  cases rx;cases y with
  | dP=>cases ry;exact PySem.EqNone.eq_none_none (ck I q (by simp))
  | bl j=>cases ry;exact PySem.EqNone.eq_none_bool (ck I q (by simp))
  | int j=>obtain⟨t',rfl⟩:=ry;exact PySem.EqNone.eq_none_int (ck I q (by simp))
  | str j=>obtain⟨t',rfl⟩:=ry;exact PySem.EqNone.eq_none_str (ck I q (by simp))
  | _=>exact absurd (show false=true from hs) aaM
 | bl i=>
  cases rx;cases y with
  | dP=>cases ry;exact PySem.EqNone.eq_bool_none (ck I q (by simp))
  | bl j=>cases ry;exact eq_bool (ck I q AB)
  | str j=>obtain⟨t',rfl⟩:=ry;exact PySem.EqMixed.eq_bool_str (ck I q (by simp))
  | _=>exact absurd (show false=true from hs) aaM
 | int i=>
  obtain⟨t,rfl⟩:=rx;cases y with
  | dP=>cases ry;exact PySem.EqNone.eq_int_none (ck I q (by simp))
  | int j=>obtain⟨t',rfl⟩:=ry;exact eq_int (ck I q xr)
  | str j=>obtain⟨t',rfl⟩:=ry;exact PySem.EqMixed.eq_int_str (ck I q (by simp))
  | _=>exact absurd (show false=true from hs) aaM
 | str i=>
  obtain⟨t,rfl⟩:=rx;cases y with
  | dP=>cases ry;exact PySem.EqNone.eq_str_none (ck I q (by simp))
  | bl j=>cases ry;exact PySem.EqMixed.eq_str_bool (ck I q (by simp))
  | int j=>obtain⟨t',rfl⟩:=ry;exact PySem.EqMixed.eq_str_int (ck I q (by simp))
  | str j=>obtain⟨t',rfl⟩:=ry;exact eq_str (ck I q xt)
  | _=>exact absurd (show false=true from hs) aaM
 | zY i=>
  obtain⟨t,rfl⟩:=rx;cases y with
  | zY j=>obtain⟨t',rfl⟩:=ry;exact PySem.W.eq_bytes (ck I q xu)
  | _=>exact absurd (show false=true from hs) aaM
 | _=>cases y <;>exact absurd (show false=true from hs) aaM
theorem nV:lQ X (compareOp .NotEq) rNe:=by
 intro pins s σ H x y v u Q I rx ry h;obtain⟨hs,q⟩:=h;cases x with
 | dP=>
  cases rx;cases y with
  | dP=>cases ry;exact PySem.EqNone.ne_none_none (ck I q (by simp))
  | bl j=>cases ry;exact PySem.EqNone.ne_none_bool (ck I q (by simp))
  | int j=>obtain⟨t',rfl⟩:=ry;exact PySem.EqNone.ne_none_int (ck I q (by simp))
  | str j=>obtain⟨t',rfl⟩:=ry;exact PySem.EqNone.ne_none_str (ck I q (by simp))
  | _=>exact absurd (show false=true from hs) aaM
 | bl i=>
  cases rx;cases y with
  | dP=>cases ry;exact PySem.EqNone.ne_bool_none (ck I q (by simp))
  | bl j=>cases ry;exact ne_bool (ck I q (congrArg not AB))
  | str j=>obtain⟨t',rfl⟩:=ry;exact PySem.EqMixed.ne_bool_str (ck I q (by simp))
  | _=>exact absurd (show false=true from hs) aaM
 | int i=>
  obtain⟨t,rfl⟩:=rx;cases y with
  | dP=>cases ry;exact PySem.EqNone.ne_int_none (ck I q (by simp))
  | int j=>obtain⟨t',rfl⟩:=ry;exact ne_int (ck I q (congrArg not xr))
  | str j=>obtain⟨t',rfl⟩:=ry;exact PySem.EqMixed.ne_int_str (ck I q (by simp))
  | _=>exact absurd (show false=true from hs) aaM
 | str i=>
  obtain⟨t,rfl⟩:=rx;cases y with
  | dP=>cases ry;exact PySem.EqNone.ne_str_none (ck I q (by simp))
  | bl j=>cases ry;exact PySem.EqMixed.ne_str_bool (ck I q (by simp))
  | int j=>obtain⟨t',rfl⟩:=ry;exact PySem.EqMixed.ne_str_int (ck I q (by simp))
  | str j=>obtain⟨t',rfl⟩:=ry;exact ne_str (ck I q (congrArg not xt))
  | _=>exact absurd (show false=true from hs) aaM
 | zY i=>
  obtain⟨t,rfl⟩:=rx;cases y with
  | zY j=>obtain⟨t',rfl⟩:=ry;exact PySem.W.ne_bytes (ck I q (congrArg not xu))
  | _=>exact absurd (show false=true from hs) aaM
 | _=>cases y <;>exact absurd (show false=true from hs) aaM
theorem mC:lQ X (compareOp .Lt) (rI0 λi j=>.bl (decide (i<j))):=Dc λ_ _ _ _ _ _ _ q=>lt_int q
theorem mD:lQ X (compareOp .LtE) (rI0 λi j=>.bl (decide (i<=j))):=Dc λ_ _ _ _ _ _ _ q=>le_int q
theorem jc:lQ X (compareOp .Gt) (rI0 λi j=>.bl (decide (j<i))):=Dc λ_ _ _ _ _ _ _ q=>gt_int q
theorem xw:lQ X (compareOp .GtE) (rI0 λi j=>.bl (decide (j<=i))):=Dc λ_ _ _ _ _ _ _ q=>ge_int q
theorem GA:lQ X (compareOp .Is) (λx y H Q=>y=.dP/\Q (.bl (decide (x=.dP))) H):=by
 intro pins s σ H x y v u Q I rx ry h;obtain⟨rfl,q⟩:=h;cases ry;refine is_none_gen (ck I q ?_);cases x <;>first
  | (cases rx;rfl)
  | (obtain⟨t,rfl⟩:=rx;rfl)
theorem aX (b:Expr) {op:CmpOp} (h:op≠.In:=by decide) (h2:op≠.NotIn:=by decide):behindInMarks op b=false:=by
 have e1:(op==CmpOp.In)=false:=by cases op <;>first | rfl | exact absurd rfl h
 have e2:(op==CmpOp.NotIn)=false:=by cases op <;>first | rfl | exact absurd rfl h2
 cases b <;>simp [behindInMarks,e1,e2]
theorem iy {op:CmpOp} {r:R2} (ho:lQ X (compareOp op) r) (ha:PE X a ta) (hb:PE X b tb) (hm:behindInMarks op b=false):PE X (.Compare a [op] [b] pos) (tOp r ta tb):=by
 intro pins s σ H Q I h;exact wpAny_Compare1 (Gy ha hb I h λv u s2 x y H2 I2 rx ry q=>ho pins s2 σ H2 x y v u Q I2 rx ry q) hm
noncomputable def tTest (t:TE):TT:=λσ H Q=>t σ H λx H'=>Oe x λk=>Q k H'
theorem aP {op:CmpOp} {r:R2} (ho:lQ X (compareOp op) r) (ha:PE X a ta) (hb:PE X b tb) (hm:behindInMarks op b=false):PT X (.Compare a [op] [b] pos) (tTest (tOp r ta tb)):=by
 intro pins s σ H Q I h;refine wpAny_isTrue_Compare1 (cu (ha pins s σ H _ I h) λv s1 ⟨x,H1,I1,r1,q1⟩=>cu (hb pins s1 σ H1 _ I1 q1) λu s2 ⟨y,H2,I2,r2,q2⟩=>
  cu (ho pins s2 σ H2 x y v u _ I2 r1 r2 q2) λc s3 ⟨z,H3,I3,r3,q3⟩=>?_) hm
 obtain⟨k,e,q3⟩:=rdB_eq.mp q3;subst e;cases r3;exact wpAny_truthy_bool ⟨H3,I3,q3⟩
noncomputable def tChain (r r':R2) (ta tb tc:TE):TE:=λσ H Q=>ta σ H λx H1=>tb σ H1 λy H2=>r x y H2 λz H3=>∃k,z=.bl k/\
 (if k=true then tc σ H3 λw' H4=>r' y w' H4 Q else Q (.bl false) H3)
theorem AD {op PL:CmpOp} {r r':R2} (ho:lQ X (compareOp op) r) (Aa:lQ X (compareOp PL) r') (ha:PE X a ta) (hb:PE X b tb) (hc:PE X c tc)
  (hm:lastMarks [op,PL] [b,c]=false:=by with_unfolding_all rfl):PT X (.Compare a [op,PL] [b,c] pos) (tTest (tChain r r' ta tb tc)):=by
 intro pins s σ H Q I h;refine isTrue_chain (cu (ha pins s σ H _ I h) λv s1 ⟨x,H1,I1,r1,q1⟩=>test_link (cu (hb pins s1 σ H1 _ I1 q1) λu s2 ⟨y,H2,I2,r2,q2⟩=>
  cu (ho pins s2 σ H2 x y v u _ I2 r1 r2 q2) λd s3 ⟨z,H3,I3,r3,k,e,q3⟩=>?_)) hm
 subst e;cases r3;refine wpAny_truthy_bool ?_;cases k with
 | false=>
  exact ite_ff ⟨H3,I3,q3⟩
 | true=>
  refine ite_tt (test_last (cu (hc pins s3 σ H3 _ I3 q3) λw' s4 ⟨z',H4,I4,r4,q4⟩=>cu (Aa pins s4 σ H4 y z' u w' _ I4 r2 r4 q4) λd' s5 dD=>?_));obtain⟨z2,H5,I5,r5,q5⟩:=dD;obtain⟨k2,e2,q5⟩:=rdB_eq.mp q5;subst e2;cases r5;exact wpAny_truthy_bool ⟨H5,I5,q5⟩
theorem rD:(sizeLine:Nat)<2^63:=by rw[sizeLine_eq];decide
theorem vals1 {x:V} {us:List Value} (r:bQ [x] us):∃u,us=[u]/\RelV x u:=by
 cases r with
 | cons r1 r2=>cases r2;exact⟨_,rfl,r1⟩
theorem vals2 {x y:V} {us:List Value} (r:bQ [x,y] us):∃u w',us=[u,w']/\RelV x u/\RelV y w':=by
 cases r with
 | cons r1 r2=>
  cases r2 with
  | cons r3 r4=>cases r4;exact⟨_,_,rfl,r1,r3⟩
theorem tU:dz X (.builtin "abs") (λxs H Q=>∃i,xs=[.int i]/\Q (.int (if i<0 then -i else i)) H):=by
 intro pins s σ H xs us Q I r h;obtain⟨i,rfl,q⟩:=h;obtain⟨u,rfl,t,rfl⟩:=vals1 r;exact call_abs_int λu tk=>⟨.int (if i<0 then -i else i),H,I.tok _,⟨_,rfl⟩,q⟩
theorem qj (hc:X.calm=true):dz X (.builtin "max") (λxs H Q=>∃i j,xs=[.int i,.int j]/\Q (.int (if j >i then j else i)) H):=by
 intro pins s σ H xs us Q I r h;obtain⟨i,j,rfl,q⟩:=h;obtain⟨u,w',rfl,⟨t,rfl⟩,⟨t',rfl⟩⟩:=vals2 r;refine max_two_ints (I.ok.hd hc) λh' tk k=>⟨_,H,I.kept k,?_,q⟩
 by_cases hj:j >i
 ·rw[if_pos hj,if_pos hj];exact⟨_,rfl⟩
 ·rw[if_neg hj,if_neg hj];exact⟨_,rfl⟩
theorem jv (hc:X.calm=true):dz X (.builtin "min") (λxs H Q=>∃i j,xs=[.int i,.int j]/\Q (.int (if j<i then j else i)) H):=by
 intro pins s σ H xs us Q I r h;obtain⟨i,j,rfl,q⟩:=h;obtain⟨u,w',rfl,⟨t,rfl⟩,⟨t',rfl⟩⟩:=vals2 r;refine min_two_ints (I.ok.hd hc) λh' tk k=>⟨_,H,I.kept k,?_,q⟩
 by_cases hj:j<i
 ·rw[if_pos hj,if_pos hj];exact⟨_,rfl⟩
 ·rw[if_neg hj,if_neg hj];exact⟨_,rfl⟩
end
structure vH (h:Heap) (x dx C:Addr) (mA:Str->Option Value):Prop where
 obj:h.get? x=some (PySem.W.instObj C dx)
 ns:h.Ns1 dx mA
 ne:dx≠x
set_option tactic.hygienic true in
theorem yT {h:Heap} {dx:Addr} {mA:Str->Option Value} (n:h.Ns1 dx mA):∃od,h.get? dx=some od/\∀name,PySem.W.lookIn name od=some (mA name):=by
 obtain⟨o,es,ep,ho,hd,hk,_,hm⟩:=n;refine⟨o,ho,λname=>?_⟩;have e:=hm name;unfold nsFind findBy at e;rw[<-Array.find?_toList] at e;unfold PySem.W.lookIn;rw[hd];dsimp only
 split
 ·rename_i y q
  rw[q] at e;exact congrArg some e
 ·rename_i q
  rw[q] at e;have a:es.toList.any (·.refKey)=false:=by
   rw[List.any_eq_false];intro y hy;obtain⟨z,t,PM⟩:=hk y (Array.mem_toList_iff.mp hy);simp [DictEntry.refKey,PM]
  have a':¬es.toList.any (·.refKey)=true:=by rw[a];exact aaM
  rw[if_neg a'];exact congrArg some e
theorem vH.look {h:Heap} {x dx C:Addr} {mA:Str->Option Value} (I:vH h x dx C mA):∃od,PySem.W.InstAt h x (PySem.W.instObj C dx) C (some od)/\∀name,PySem.W.lookIn name od=some (mA name):=
 let ⟨od,ho,hl⟩:=yT I.ns
 ⟨od,⟨I.obj,rfl,rfl,ho⟩,hl⟩
section
variable {prog : Program} {w : World} {A : Around} {E : Value -> Shared -> Prop} {s : Shared} {K : PySem.W.Frag} {x dx C f : Addr} {mA : Str -> Option Value} {name : Str} {v : Value}
theorem get_map {expr:Bool} {Q:Value->Shared->Prop} (X:K.In s.heap) (I:vH s.heap x dx C mA) (hg:PySem.W.plainGet K C name=true) (hh:PySem.W.hasDictIn K C=true)
  (ha:PySem.W.findIn K (.ref C) name=some none) (hv:mA name=some v) (hv':PySem.W.handedIn v=true) (h:Q v {s with toks:=s.toks+1}):
  wpAny (model prog w) A (getAttr (.ref x) name expr) Q E s:=by
 obtain⟨od,J,hl⟩:=I.look;exact PySem.W.get_value X J (PySem.W.plainGet_of hg).1 (PySem.W.findObj_own hh ha rfl (by rw[hl,hv])) hv' h
theorem AE {pl:Sem Bool} {Q:Value×List Value->Shared->Prop} (X:K.In s.heap) (I:vH s.heap x dx C mA) (hg:PySem.W.plainGet K C name=true)
  (hf:PySem.W.findIn K (.ref C) name=some (some (.ref f))) (ht:PySem.W.isFn K (.ref f)=true) (hv:mA name=none) (h:Q (.ref f,[.ref x]) s):
  wpAny (model prog w) A (getMethod (.ref x) name pl) Q E s:=by
 obtain⟨od,J,hl⟩:=I.look;exact PySem.W.method_fn X J (PySem.W.plainGet_of hg).1 (PySem.W.plainGet_of hg).2 hf (beq_iff_eq.mp ht) (by show(PySem.W.lookIn name od).map (·.isSome)=some false;rw[hl,hv];rfl) h
theorem De {ns:List Str} {Q:Unit->Shared->Prop} (X:K.In s.heap) (I:vH s.heap x dx C mA)
  (hs:PySem.W.findIn K (.ref C) "__setattr__"=some (some (.builtin "object.__setattr__"))) (hp:PySem.W.plainOver K C=true) (ht:PySem.W.takerIn K C name=some none) (hh:PySem.W.hasDictIn K C=true)
  (hw:PySem.Within mA ns) (hsz:ns.length<=sizeLine)
  (h:∀h',vH h' x dx C (λy=>if y=name then some v else mA y)->Heap.SameBut dx s.heap h'->Q () {s with heap:=h',toks:=s.toks+2}):
  wpAny (model prog w) A (setAttr (.ref x) name v) Q E s:=by
 obtain⟨od,J,hl⟩:=I.look;refine PySem.W.set_plain X J hs (PySem.W.osa_open (s:={s with toks:=s.toks+1}) (r:=none) X J hp ht λb=>?_);obtain⟨cd,hc,Pw⟩:=PySem.W.any_some hh;have hx:s.heap.get? x=some ⟨.ref C,some dx,.plain,#[]⟩:=I.obj;refine wpAny_bind (wpAny_pure (wpAny_bind (wpAny_bind (wpAny_loadPart hx (wpAny_bind (PySem.W.Looks.here (s:={s with toks:=s.toks+1}) (PySem.W.looks_clsIn X hc) ?_))))));rw[Pw];refine wpAny_pure (a:=some dx) (wpAny_bind (wpAny_pure (wpAny_bind ?_)));refine wpAny_nsSet1 (s:={s with toks:=s.toks+1}) I.ns λh' Oj JI=>?_;obtain⟨oD,esD,epD,hoD,hdD,hcD⟩:=Oj.count (PySem.Within.cons name v hw);refine wpAny_bind (wpAny_lookBehind hoD (by rw[hdD];exact pastItsLine_dict (aaI hcD (by rw[aaF];omega))) ?_);exact wpAny_pure (h _ ⟨(JI.2 _ (Ne.symm I.ne)).trans I.obj,Oj,I.ne⟩ JI)
theorem AF {R:Result->Shared->Prop} {vs:List Value} {kw:List (Str×Value)} (X:K.In s.heap) (hm:PySem.W.makesIn K C=true)
  (hi:PySem.W.findIn K (.ref C) "__init__"=some (some (.ref f))) (hf:PySem.W.typeIn K (.ref f)=some (.type "function"))
  (h:codeAny (model prog w) (A.under (.builtin "type.__call__" ⟨.ref C::vs,kw⟩)) (.call (.ref f) ⟨.ref (s.heap.objs.size+1)::vs,kw⟩) (PySem.W.InitBack (s.heap.objs.size+1) R)
   {s with heap:=(s.heap.push PySem.W.emptyDict).push (PySem.W.instObj C s.heap.objs.size)}):
  codeAny (model prog w) A (.call (.ref C) ⟨vs,kw⟩) R s:=by
 obtain⟨hh,g,d,t,os⟩:=s;exact PySem.W.make_core (PySem.W.makes_of X hm) (PySem.W.looks_findIn X hi) (λself=>PySem.W.bind_fn X self hf) (.inl rfl) h
end
noncomputable def iY (f:Str) (v:V):List (Str×V)->List (Str×V)
 | []=>[(f,v)]
 | (g,x)::r=>if g=f then (g,v)::r else (g,x)::iY f v r
theorem mE (f g:Str) (v:V):∀fs:List (Str×V),(iY f v fs).lookup g=if g=f then some v else fs.lookup g
 | []=>by
  show List.lookup g [(f,v)]=_
  by_cases h:g=f
  ·have hb:(g==f)=true:=beq_iff_eq.mpr h;simp only[List.lookup,hb,if_pos h]
  ·have hb:(g==f)=false:=beq_eq_false_iff_ne.mpr h;simp only[List.lookup,hb,if_neg h]
 | (k,x)::r=>by
  have ih:=mE f g v r;rw[show iY f v ((k,x)::r)=(if k=f then (k,v)::r else (k,x)::iY f v r) from rfl]
  by_cases hk:k=f
  ·rw[if_pos hk]
   by_cases h:g=k
   ·have hb:(g==k)=true:=beq_iff_eq.mpr h;simp only[List.lookup,hb,if_pos (h.trans hk)]
   ·have hb:(g==k)=false:=beq_eq_false_iff_ne.mpr h;simp only[List.lookup,hb,if_neg (λe:g=f=>h (e.trans hk.symm))]
  ·rw[if_neg hk]
   by_cases h:g=k
   ·have hb:(g==k)=true:=beq_iff_eq.mpr h;simp only[List.lookup,hb,if_neg (λe:g=f=>hk (h.symm.trans e))]
   ·have hb:(g==k)=false:=beq_eq_false_iff_ne.mpr h;simp only[List.lookup,hb];exact ih
theorem lR (f:Str) (v:V):∀fs:List (Str×V),f∈(iY f v fs).map (·.1)/\∀g,g∈fs.map (·.1)->g∈(iY f v fs).map (·.1)
 | []=>⟨by simp [iY],λg h=>by simp at h⟩
 | (k,x)::r=>by
  obtain⟨i1,i2⟩:=lR f v r;rw[show iY f v ((k,x)::r)=(if k=f then (k,v)::r else (k,x)::iY f v r) from rfl]
  by_cases hk:k=f
  ·rw[if_pos hk];subst hk;exact⟨by simp,λg h=>by simpa using h⟩
  ·rw[if_neg hk];refine⟨?_,λg h=>?_⟩
   ·rw[aaw];exact aaB _ i1
   ·rw[aaw] at h ⊢;rcases List.mem_cons.mp h with e | e
    ·exact List.mem_cons.mpr (.inl e)
    ·exact aaB _ (i2 g e)
theorem mF (f:Str) (v:V):∀fs:List (Str×V),(iY f v fs).length<=fs.length+1
 | []=>by simp [iY]
 | (k,x)::r=>by
  have ih:=mF f v r;rw[show iY f v ((k,x)::r)=(if k=f then (k,v)::r else (k,x)::iY f v r) from rfl]
  by_cases hk:k=f
  ·rw[if_pos hk,aaF,aaF];omega
  ·rw[if_neg hk,aaF,aaF];omega
theorem iU.some_of {v:V} {o:Option Value} (r:iU (some v) o):∃u,o=some u/\RelV v u:=by
 cases o with
 | none=>exact(show False from r).elim
 | some u=>exact⟨u,rfl,r⟩
theorem iU.none_of {o:Option Value} (r:iU none o):o=none:=by
 cases o with
 | none=>rfl
 | some u=>exact(show False from r).elim
theorem yU {v:V} {u:Value} (r:RelV v u):PySem.W.handedIn u=true:=by
 cases v with
 | dP=>cases (show u=Value.none from r);rfl
 | bl b=>cases (show u=Value.bool b from r);rfl
 | int i=>obtain⟨t,e⟩:=(show ∃t,u=Value.int i t from r);cases e;rfl
 | str x=>obtain⟨t,e⟩:=(show ∃t,u=Value.str x t from r);cases e;rfl
 | zY b=>obtain⟨t,e⟩:=(show ∃t,u=Value.bytes b t from r);cases e;rfl
 | Gk b=>obtain⟨t,e⟩:=(show ∃t,u=Value.float b t from r);cases e;rfl
 | ref a=>cases (show u=Value.ref a from r);rfl
 | ty n=>cases (show u=Value.type n from r);rfl
section
variable {P : Program} {w : World} {H H' : Hp} {h h' : Heap} {a C dx : Addr} {fs fs' : List (Str × V)}
theorem nB (bV:gy P w H h) (e:H a=some (.ins C dx fs)):∃mA,vH h a dx C mA/\(∀f,iU (fs.lookup f) (mA f))/\PySem.Within mA (fs.map (·.1))/\fs.length<=1000/\H dx=some (.own a):=by
 obtain⟨d,z,ne,ob,mA,n,r,q⟩:=(show cF P w H h a (.ins C dx fs) from bV a _ e)
 exact⟨mA,⟨ob,n,ne⟩,r,q,z,d⟩
end
structure xx (K:PySem.W.Frag) (C:Addr):Prop where
 pg:PySem.W.plainGet K C Str.empty=true
 hd:PySem.W.hasDictIn K C=true
 po:PySem.W.plainOver K C=true
 sa:PySem.W.findIn K (.ref C) "__setattr__"=some (some (.builtin "object.__setattr__"))
theorem xx.get {K:PySem.W.Frag} {C:Addr} (c:xx K C) (f:Str):PySem.W.plainGet K C f=true:=c.pg
noncomputable def lS (K:PySem.W.Frag) (C:Addr) (f:Str):Prop:=PySem.W.findIn K (.ref C) f=some none
theorem lS.JM {K:PySem.W.Frag} {C:Addr} {f:Str} (n:lS K C f):PySem.W.takerIn K C f=some none:=by
 unfold PySem.W.takerIn;rw[show PySem.W.findIn K (.ref C) f=some none from n];rfl
structure Con (K:PySem.W.Frag) (C:Addr) (f:Str) (v:V) (u:Value):Prop where
 at_:PySem.W.findIn K (.ref C) f=some (some u)
 rel:RelV v u
 get:PySem.W.specialIn K u "__get__"=some none
 cp:PySem.W.copiedNames.contains f=false
structure AG (K:PySem.W.Frag) (C:Addr) (m:Str) (f:Addr):Prop where
 at_:PySem.W.findIn K (.ref C) m=some (some (.ref f))
 fn:PySem.W.isFn K (.ref f)=true
 kp:PySem.W.keepIn K (.ref f)=true
section
variable {X : Cx} {pins : List (Addr × Obj)} {σ : St} {H : Hp} {s : Shared} {a C dx : Addr} {fs : List (Str × V)} {f : Str} {v : V} {A : Around} {E : Value -> Shared -> Prop}
theorem vI {b:Bool} {Q:Value->Shared->Prop} (I:Inv X pins σ H s) (e:H a=some (.ins C dx fs)) (c:xx X.K C) (n:lS X.K C f) (l:fs.lookup f=some v)
  (h:∀u s',Inv X pins σ H s'->RelV v u->Q u s'):wpAny (model X.prog X.w) A (getAttr (.ref a) f b) Q E s:=by
 obtain⟨mA,O,r,_,_,_⟩:=nB I.bV e;obtain⟨u,hu,ru⟩:=iU.some_of (v:=v) (o:=mA f) (by rw[<-l];exact r f);exact get_map I.jE O (c.get f) c.hd n hu (yU ru) (h u _ (I.tok _) ru)
theorem nW {m:Str} {g:Addr} {pl:Sem Bool} {Q:Value×List Value->Shared->Prop} (I:Inv X pins σ H s) (e:H a=some (.ins C dx fs)) (c:xx X.K C) (k:AG X.K C m g) (l:fs.lookup m=none)
  (h:Q (.ref g,[.ref a]) s):wpAny (model X.prog X.w) A (getMethod (.ref a) m pl) Q E s:=by
 obtain⟨mA,O,r,_,_,_⟩:=nB I.bV e;have hn:mA m=none:=iU.none_of (by rw[<-l];exact r m);exact AE I.jE O (c.get m) k.at_ k.fn hn h
theorem vJ {y:V} {u:Value} {Q:Unit->Shared->Prop} (I:Inv X pins σ H s) (e:H a=some (.ins C dx fs)) (c:xx X.K C) (n:lS X.K C f) (hl:fs.length<1000) (ry:RelV y u)
  (h:∀s',Inv X pins σ (upd H a (.ins C dx (iY f y fs))) s'->Q () s'):wpAny (model X.prog X.w) A (setAttr (.ref a) f u) Q E s:=by
 obtain⟨mA,O,r,wi,_,ho⟩:=nB I.bV e;have hz:(fs.map (·.1)).length<=sizeLine:=by rw[aat,sizeLine_eq];omega
 refine De I.jE O c.sa c.po n.JM c.hd wi hz λh' O' sb=>h _ ?_;have hd:∃o,h'.get? dx=some o:=let ⟨o,_,_,e',_⟩:=O'.ns;⟨o,e'⟩;refine I.write (x:=a) (e:=dx) (by rw[e];exact True.intro) (.inr ho) (λb q hb z=>(sb.2 b hb).trans z) hd ?_;refine⟨by rw[aE O.ne];exact ho,?_,O.ne,O'.obj,_,O'.ns,λg=>?_,λg hg=>?_⟩
 ·have:=mF f y fs;omega
 ·show iU ((iY f y fs).lookup g) (if g=f then some u else mA g);rw[mE]
  by_cases q:g=f
  ·rw[if_pos q,if_pos q];exact ry
  ·rw[if_neg q,if_neg q];exact r g
 ·by_cases q:g=f
  ·rw[q];exact(lR f y fs).1
  ·refine(lR f y fs).2 g (wi g λz=>hg ?_);show(if g=f then some u else mA g)=none;rw[if_neg q];exact z
theorem Inv.made (I:Inv X pins σ H s):Inv X pins σ (upd (upd H s.heap.objs.size (.own (s.heap.objs.size+1))) (s.heap.objs.size+1) (.ins C s.heap.objs.size []))
  {s with heap:=(s.heap.push PySem.W.emptyDict).push (PySem.W.instObj C s.heap.objs.size)}:=by
 have e1:(s.heap.push PySem.W.emptyDict).get? s.heap.objs.size=some PySem.W.emptyDict:=Heap.get?_push_size s.heap rfl;have e2:((s.heap.push PySem.W.emptyDict).push (PySem.W.instObj C s.heap.objs.size)).get? (s.heap.objs.size+1)=some (PySem.W.instObj C s.heap.objs.size):=by
  have:=Heap.get?_push_size (s.heap.push PySem.W.emptyDict) (o:=PySem.W.instObj C s.heap.objs.size) rfl
  rwa [Heap.size_push] at this
 have e3:(s.heap.push PySem.W.emptyDict).Ns s.heap.objs.size (λ_=>none):=⟨PySem.W.emptyDict,#[],_,e1,rfl,(λe he=>absurd he (by simp)),λ_=>rfl⟩
 have I1:=I.laid (a:=s.heap.objs.size) (o:=.own (s.heap.objs.size+1)) (h':=s.heap.push PySem.W.emptyDict) (t':=s.toks) (λb u q=>Heap.get?_push_of_some _ q) (aav _) ⟨_,e1⟩;refine I1.laid (a:=s.heap.objs.size+1) (o:=.ins C s.heap.objs.size []) (t':=s.toks) (λb u q=>Heap.get?_push_of_some _ q) (Nat.le_of_eq (Heap.size_push _ _)) ?_;have ne:s.heap.objs.size≠s.heap.objs.size+1:=aaA (aaR _);refine⟨by rw[aE ne,ai],aaz _,ne,e2,λ_=>none,(Heap.Ns1.of_empty e3).at λo q=>Heap.get?_push_of_some _ q,λ_=>True.intro,λy hy=>absurd rfl hy⟩
theorem Df {prog:Program} {w:World} {env:Env} {e:Expr} {f:Str} {pos:Pos} {s:Shared} {Q:Value->Shared->Prop} (hb:attributeBase e f env (eval e env)=eval e env)
  (h:wpAny (model prog w) A (eval e env) (λo s₁=>wpAny (model prog w) A (getAttr o f true) Q E s₁) E s):wpAny (model prog w) A (eval (.Attribute e f pos) env) Q E s:=
 Attribute_any_ h (by rw[arm_eval_Attribute,hb])
end
noncomputable def eG (K:PySem.W.Frag) (ta:TE) (f:Str):TE:=λσ H Q=>ta σ H λx H1=>∃a C dx fs v,x=.ref a/\H1 a=some (.ins C dx fs)/\xx K C/\lS K C f/\fs.lookup f=some v/\Q v H1
noncomputable def vK (K:PySem.W.Frag) (ta tv:TE) (f:Str):TS:=λD σ H=>tv σ H λy H1=>ta σ H1 λx H2=>∃a C dx fs,x=.ref a/\H2 a=some (.ins C dx fs)/\xx K C/\lS K C f/\fs.length<1000/\
 D.nx σ (upd H2 a (.ins C dx (iY f y fs)))
section
variable {X : Cx} {o e value : Expr} {f : Str} {pos pos' kA : Pos} {ta tv : TE}
theorem cA (he:PE X e ta) (hb:attributeBase e f X.env (eval e X.env)=eval e X.env):PE X (.Attribute e f pos) (eG X.K ta f):=by
 intro pins s σ H Q I h;refine Df hb (cu (he pins s σ H _ I h) λu s1 dD=>?_);obtain⟨x,H1,I1,rx,a,C,dx,fs,v,ex,ea,c,n,l,q⟩:=dD;subst ex;obtain rfl:u=Value.ref a:=rx;exact vI I1 ea c n l λu' s2 I2 ru=>⟨v,H1,I2,ru,q⟩
theorem j4 (ha:PE X o ta) (hv:PE X value tv) (hs:swapsWith value (some (.Attribute o f pos')) pos.line X.env=pure false):PS X (.Assign [.Attribute o f pos'] value pos) (vK X.K ta tv f):=by
 intro pins s σ H D I h;refine plainObj_wpAny_Assign_Attribute (cu (hv pins s σ H _ I h) λu s1 ⟨y,H1,I1,ry,q⟩=>cu (ha pins s1 σ H1 _ I1 q) λov s2 dD=>?_) hs;obtain⟨x,H2,I2,rx,a,C,dx,fs,ex,ea,c,n,l,q2⟩:=dD;subst ex;obtain rfl:ov=Value.ref a:=rx;exact vJ I2 ea c n l ry λs3 I3=>⟨σ,_,I3,q2⟩
end
section
variable {X : Cx} {pins : List (Addr × Obj)} {σ : St} {H : Hp} {s : Shared} {A : Around} {E : Value -> Shared -> Prop} {Q : Value -> Shared -> Prop} {c : Value} {b : Bool}
inductive jd (K:PySem.W.Frag) (H:Hp):V->Value->Prop where
 | dP:jd K H .dP (.type "NoneType")
 | bl (x:Bool):jd K H (.bl x) (.type "bool")
 | int (i:Int):jd K H (.int i) (.type "int")
 | str (x:Str):jd K H (.str x) (.type "str")
 | Gk (x:UInt64):jd K H (.Gk x) (.type "float")
 | lst {a:Addr} {xs:List V} (e:H a=some (.lst xs)):jd K H (.ref a) (.type "list")
 | tj {a:Addr} {o:Obj} {xs:List V} (e:H a=some (.tj o (.lst xs))):jd K H (.ref a) (.type "list")
 | tup {a:Addr} {xs:List V} (e:H a=some (.tup xs)):jd K H (.ref a) (.type "tuple")
 | dK {a:Addr} {kvs:List (Key×V)} (e:H a=some (.dK kvs)):jd K H (.ref a) (.type "dict")
 | dT {a:Addr} {kvs:List (List Key×V)} (e:H a=some (.dT kvs)):jd K H (.ref a) (.type "dict")
 | ins {a C dx:Addr} {fs:List (Str×V)} (e:H a=some (.ins C dx fs)) (cl:xx K C) (ha:PySem.W.findIn K (.ref C) "__class__"=some (some (.builtin "object.__class__")))
   (hn:PySem.W.specialIn K (.builtin "object.__class__") "__get__"=some (some (.builtin "getset_descriptor.__get__"))) (YF:PySem.W.takesIn K (.builtin "object.__class__")=some true)
   (hm:PySem.W.mroIn K C (.type "object")=some true):jd K H (.ref a) (.ref C)
theorem yV {x:V} {u t:Value} (I:Inv X pins σ H s) (rx:RelV x u) (ty:jd X.K H x t) (e:PySem.W.kitOne X.K t c=some b) (h:∀tk,Q (.bool b) {s with toks:=tk}):
  wpAny (model X.prog X.w) A (call (.builtin "isinstance") [u,c]) Q E s:=by
 cases ty with
 | dP=>cases (show u=Value.none from rx);exact abb PySem.W.kitx_none I.jE True.intro e (λz=>nomatch z) h
 | bl y=>cases (show u=Value.bool y from rx);exact abb PySem.W.kitx_bool I.jE True.intro e (λz=>nomatch z) h
 | int i=>obtain⟨t,q⟩:=(show ∃t,u=Value.int i t from rx);cases q;exact abb PySem.W.kitx_int I.jE True.intro e (λz=>nomatch z) h
 | str y=>obtain⟨t,q⟩:=(show ∃t,u=Value.str y t from rx);cases q;exact abb PySem.W.kitx_str I.jE True.intro e (λz=>nomatch z) h
 | Gk y=>obtain⟨t,q⟩:=(show ∃t,u=Value.float y t from rx);cases q;exact abb PySem.W.kitx_float I.jE True.intro e (λz=>nomatch z) h
 | @lst a xs ea=>
  cases (show u=Value.ref a from rx);obtain⟨_,_,n,_,h1⟩:=(show cF X.prog X.w H s.heap a (.lst xs) from I.bV a _ ea)
  exact abb PySem.W.kitx_list I.jE ⟨_,h1,rfl⟩ e (λz=>nomatch z) h
 | @tj a ob xs ea=>
  cases (show u=Value.ref a from rx);obtain⟨_,_,_,n,_,h1⟩:=(show cF X.prog X.w H s.heap a (.tj ob (.lst xs)) from I.bV a _ ea)
  exact abb PySem.W.kitx_list I.jE ⟨_,h1,rfl⟩ e (λz=>nomatch z) h
 | @tup a xs ea=>
  cases (show u=Value.ref a from rx);obtain⟨_,_,_,p⟩:=(show cF X.prog X.w H s.heap a (.tup xs) from I.bV a _ ea)
  obtain⟨o,h1,h2,_⟩:=p;exact abb PySem.W.kitx_tuple I.jE ⟨o,h1,h2⟩ e (λz=>nomatch z) h
 | @dK a kvs ea=>
  cases (show u=Value.ref a from rx);obtain⟨_,_,vs,_,p⟩:=(show cF X.prog X.w H s.heap a (.dK kvs) from I.bV a _ ea)
  obtain⟨o,es,ep,h1,h2,_⟩:=p;exact abb PySem.W.kitx_dict I.jE ⟨o,h1,h2.1⟩ e (λz=>nomatch z) h
 | @dT a kvs ea=>
  cases (show u=Value.ref a from rx);obtain⟨_,_,xs,_,o,es,ep,h1,h2,_⟩:=(show cF X.prog X.w H s.heap a (.dT kvs) from I.bV a _ ea)
  exact abb PySem.W.kitx_dict I.jE ⟨o,h1,h2.1⟩ e (λz=>nomatch z) h
 | @ins a C dx fs ea cl ha hn YF hm=>
  cases (show u=Value.ref a from rx);obtain⟨mA,O,_⟩:=nB I.bV ea;obtain⟨od,J,_⟩:=O.look;exact abb (PySem.W.kitx_own (cl.get _) cl.hd ha hn YF hm) I.jE J e (λz=>nomatch z) h
end
structure dm (k:Nat) (A:Around):Prop where
 hd:A.handled=none
 dp:A.depth+3*k+5<recursionLimit
 un:A.units+16*k+200<cLine
theorem dm.mono {j k:Nat} {A:Around} (r:dm k A) (h:j<=k):dm j A:=⟨r.hd,by have:=r.dp;omega,by have:=r.un;omega⟩
theorem dm.deeper {k:Nat} {A:Around} (r:dm (k+1) A) (env:Env):dm k (A.deeper env):=
 ⟨r.hd,by have:=r.dp;show A.depth+1+3*k+5<_;omega,by have:=r.un;show A.units+3+16*k+200<_;omega⟩
theorem vL {A:Around} {C:Addr} {us:List Value} {kw:List (Str×Value)}:(A.under (.builtin "type.__call__" ⟨.ref C::us,kw⟩)).depth=A.depth+1:=by
 first | rfl | simp [Around.under,Code.weight,Code.isCreation,Code.isGuard,Code.isCaller,Code.frames,Code.isFrame,guardIds]
theorem vM {A:Around} {C:Addr} {us:List Value} {kw:List (Str×Value)}:(A.under (.builtin "type.__call__" ⟨.ref C::us,kw⟩)).units=A.units+1:=by
 first | rfl | simp [Around.under,Code.cUnits,Code.frames,Code.isFrame]
theorem dm.make {k:Nat} {A:Around} (r:dm (k+1) A) (C:Addr) (us:List Value) (kw:List (Str×Value)):dm k (A.under (.builtin "type.__call__" ⟨.ref C::us,kw⟩)):=
 ⟨r.hd,by have:=r.dp;rw[vL];omega,by have:=r.un;rw[vM];omega⟩
theorem dm.depth {k:Nat} {A:Around} (r:dm k A):A.depth<recursionLimit:=by have:=r.dp;omega
theorem dm.units {k:Nat} {A:Around} (r:dm k A):A.units+64<cLine:=by have:=r.un;omega
noncomputable def tNil:TA:=λ_ H Q=>Q [] H
noncomputable def tCons (ta:TE) (tr:TA):TA:=λσ H Q=>ta σ H λx H1=>tr σ H1 λxs H2=>Q (x::xs) H2
section
variable {X : Cx} {e : Expr} {es : List Expr} {te : TE} {t : TA} {pos : Pos}
theorem af:PA X [] tNil:=λ_ _ _ _ H Q I h=>Calls.spliced_nil ⟨[],H,I,.nil,h⟩
theorem aa (ha:PE X e te) (hr:PA X es t) (hs:starEach (e::es) X.env=(false,eval e X.env)::starEach es X.env:=by first | exact se rfl | rfl):PA X (e::es) (tCons te t):=by
 intro pos pins s σ H Q I h;rw[hs];show wpAny _ _ (spliced ((false,eval e X.env)::backTo pos (starEach es X.env))) _ _ s;refine Calls.spliced_cons (cu (ha pins s σ H _ I h) λu s1 dD=>?_);obtain⟨x,H1,I1,r1,q1⟩:=dD;exact cu (hr pos pins s1 σ H1 _ I1 q1) λus s2 ⟨xs,H2,I2,r2,q2⟩=>⟨x::xs,H2,I2,.cons r1 r2,q2⟩
noncomputable def tLst (t:TA):TE:=λσ H Q=>t σ H λxs H1=>xs.length<=sizeLine/\∀p,H1 p=none->Q (.ref p) (upd H1 p (.lst xs))
theorem bu (h:PA X es t):PE X (.List es pos) (tLst t):=by
 intro pins s σ H Q I hq;refine wpAny_List_spliced (cu (h pos pins s σ H _ I hq) λus s1 ⟨xs,H1,I1,r,z,q⟩=>⟨by rw[<-r.length];exact z,?_⟩);have hf:H1 s1.heap.objs.size=none:=I1.bV.fresh (aav _);refine⟨.ref s1.heap.objs.size,upd H1 s1.heap.objs.size (.lst xs),I1.laid (t':=s1.toks) (λb u e=>Heap.get?_push_of_some _ e) (aav _) ?_,rfl,q _ hf⟩;exact⟨z,us,0,r,Heap.get?_push_size _ rfl⟩
end
abbrev Sp:=List V->Hp->VK->XK->Prop
abbrev jw:=List Env->Hp->Shared->XK->Value->Shared->Prop
structure pK (P:Program) (w:World) (K:PySem.W.Frag) (mg:Str->Option Value) (base:Heap) (A:Around) (outer:List Env) (s:Shared) (H:Hp):Prop where
 frames:A.frames=some outer
 mod:Mod K mg base
 bs:∀b o,base.get? b=some o->s.heap.get? b=some o/\H b=none
 xq:base.objs.size<=s.heap.objs.size
 iW:s.heap.FunFrames base outer
 zZ:∀b∈dN outer,H b=none
 bV:gy P w H s.heap
 bare:AllBare s.gens
noncomputable def CE (outer:List Env) (P:Program) (w:World) (H:Hp) (s:Shared) (Q:VK) (u:Value) (s':Shared):Prop:=
 ∃v H',s'.os=s.os/\AllBare s'.gens/\Un (dN outer) [] H H' s.heap s'.heap/\gy P w H' s'.heap/\RelV v u/\Q v H'
noncomputable def CR (CX:jw) (outer:List Env) (P:Program) (w:World) (H:Hp) (s:Shared) (Q:VK) (E:XK) (r:Result) (s':Shared):Prop:=
 match r with
 | .ok (.ret u)=>CE outer P w H s Q u s'
 | .ok _=>False
 | .error e=>CX outer H s E e s'
structure fU (P:Program) (w:World) (K:PySem.W.Frag) (mg:Str->Option Value) (base:Heap) (CX:jw) (k:Nat) (f:Addr) (fd:FuncData) (ps:List Str) (sp:Sp):Prop where
 len:∀vs H Q E,sp vs H Q E->vs.length=ps.length
 run:∀(A:Around) (outer:List Env) (s:Shared) (H:Hp) (args:Args) (us:List Value) (vs:List V) (Q:VK) (E:XK),dm k A->pK P w K mg base A outer s H->BindsTo s fd args (ps.zip us)->bQ vs us->sp vs H Q E->
  codeAny (model P w) A (.call (.ref f) args) (CR CX outer P w H s Q E) s
theorem fU.mono {P:Program} {w:World} {K:PySem.W.Frag} {mg:Str->Option Value} {base:Heap} {CX:jw} {j k:Nat} {f:Addr} {fd:FuncData} {ps:List Str} {sp:Sp} (F:fU P w K mg base CX j f fd ps sp) (h:j<=k):
  fU P w K mg base CX k f fd ps sp:=⟨F.len,λA outer s H args us vs Q E hr=>F.run A outer s H args us vs Q E (hr.mono h)⟩
theorem pK.make {P:Program} {w:World} {K:PySem.W.Frag} {mg:Str->Option Value} {base:Heap} {A:Around} {outer:List Env} {s:Shared} {H:Hp} (e:pK P w K mg base A outer s H) (C:Addr) (us:List Value) (kw:List (Str×Value)):
  pK P w K mg base (A.under (.builtin "type.__call__" ⟨.ref C::us,kw⟩)) outer s H:=⟨by first | exact e.frames | (simpa [Around.under,Code.envs,Code.isFrame,pushEnvs] using e.frames),e.mod,e.bs,e.xq,e.iW,e.zZ,e.bV,e.bare⟩
section
variable {X : Cx} {pins : List (Addr × Obj)} {σ : St} {H : Hp} {s s' : Shared}
theorem Inv.iz (I:Inv X pins σ H s):pK X.prog X.w X.K X.mg X.base X.A X.stack s H:=
 ⟨I.ok.frames,I.ok.mod,I.bs,aaI I.ok.xq I.sz,I.stack,I.nA,I.bV,I.bare⟩
theorem Inv.after {Q:VK} {u:Value} (I:Inv X pins σ H s) (h:CE X.stack X.prog X.w H s Q u s'):EP X pins σ Q u s':=by
 obtain⟨v,H',os,bare,un,bV,r,q⟩:=h;obtain⟨hh,g,d,t,os'⟩:=s';obtain rfl:os'=s.os:=os;exact⟨v,H',I.call (h':=hh) (g':=g) (d':=d) (t':=t) (ch:=[]) un bV bare (λb z=>absurd z (by simp)),r,q⟩
end
noncomputable def tCall (sp:Sp) (lO:List V) (E:XK) (t:TA):TE:=λσ H Q=>t σ H λvs H1=>sp (vs++lO) H1 Q E
noncomputable def c7 (C:Addr) (m:Str) (sp:Sp) (lO:List V) (E:XK) (ta:TE) (t:TA):TE:=λσ H Q=>ta σ H λx H1=>fR x λa=>∃dx fs,H1 a=some (.ins C dx fs)/\fs.lookup m=none/\
 t σ H1 λvs H2=>sp (.ref a::(vs++lO)) H2 Q E
noncomputable def qk (C:Addr) (sp:Sp) (lO:List V) (E:XK) (t:TA):TE:=λσ H Q=>t σ H λvs H1=>∀x dx,H1 x=none->H1 dx=none->dx≠x->
 sp (.ref x::(vs++lO)) (upd (upd H1 dx (.own x)) x (.ins C dx [])) (λv H2=>v=.dP/\Q (.ref x) H2) E
noncomputable def Binds (K:PySem.W.Frag) (fd:FuncData) (ps:List Str) (ds:List Value):Prop:=
 ∀(s:Shared) (us:List Value),K.In s.heap->(us++ds).length=ps.length->BindsTo s fd ⟨us,[]⟩ (ps.zip (us++ds))
theorem Binds.all {K:PySem.W.Frag} {fd:FuncData} {ps:List Str} (h:∀us:List Value,us.length=ps.length->bindArgs fd ⟨us,[]⟩=pure (ps.zip us)):Binds K fd ps []:=λs us _ hl=>by
 rw[aaP] at hl ⊢;exact .of_eq (h us hl)
noncomputable def d8 (CX:jw) (X:Cx) (E:XK):Prop:=∀(pins:List (Addr×Obj)) (σ:St) (H:Hp) (s:Shared) (e:Value) (s':Shared),Inv X pins σ H s->CX X.stack H s E e s'->X.xe e s'
section
variable {X : Cx} {CX : jw} {k : Nat} {f C : Addr} {fd : FuncData} {ps : List Str} {sp : Sp} {lO : List V} {ds : List Value} {E : XK} {x m : Str} {p pos apos : Pos} {e o : Expr} {es : List Expr} {ta : TE} {t : TA}
theorem vN {pins:List (Addr×Obj)} {σ:St} {H:Hp} {s:Shared} {Q:VK} {us:List Value} {vs:List V} (F:fU X.prog X.w X.K X.mg X.base CX k f fd ps sp) (hr:dm k X.A) (hb:Binds X.K fd ps ds) (hd:bQ lO ds) (hx:d8 CX X E)
  (I:Inv X pins σ H s) (r:bQ vs us) (h:sp (vs++lO) H Q E):wpAny (model X.prog X.w) X.A (call (.ref f) us) (EP X pins σ Q) X.xe s:=by
 have r2:bQ (vs++lO) (us++ds):=r.append hd;have hl:(us++ds).length=ps.length:=by rw[<-r2.length];exact F.len _ _ _ _ h
 refine wpAny_call (codeAny_mono (F.run X.A X.stack s H ⟨us,[]⟩ (us++ds) (vs++lO) Q E hr I.iz (hb s us I.jE hl) r2 h) λr s' hq=>?_);cases r with
 | error e=>exact hx pins σ H s e s' I hq
 | ok fl=>
  cases fl with
  | ret u=>exact I.after hq
  | next=>exact False.elim hq
  | brk=>exact False.elim hq
  | cont=>exact False.elim hq
theorem Dg (F:fU X.prog X.w X.K X.mg X.base CX k f fd ps sp) (hr:dm k X.A) (hg:Gl X x) (hm:X.mg x=some (.ref f)) (hk:PySem.W.keepIn X.K (.ref f)=true) (hb:Binds X.K fd ps ds) (hd:bQ lO ds) (hx:d8 CX X E)
  (ha:PA X (e::es) t) (lU:(x==("__debug__":Str))=false:=by decide) (he:starEach (e::es) X.env=(false,eval e X.env)::starEach es X.env:=by rfl) (hpl:(backTo pos (starEach es X.env)).any (·.1)=false:=by rfl):
  PE X (.Call (.Name x p) (e::es) [] pos) (tCall sp lO E t):=by
 intro pins s σ H Q I h;refine wpAny_Call_Name_kw (fS I hg hm ?_ lU);refine PySem.W.callWith_K (h₀:=X.base) I.ok.mod.CD hk (cu (ha pos pins s σ H _ I h) λus s1 ⟨vs,H1,I1,r,q⟩=>⟨I1.jE,?_⟩) he hpl;exact vN F hr hb hd hx I1 r q
theorem Dh {pl:Sem Bool} (he:PE X o ta) (c:xx X.K C) (hm:AG X.K C m f) (F:fU X.prog X.w X.K X.mg X.base CX k f fd ps sp) (hr:dm k X.A) (hb:Binds X.K fd ps ds) (hd:bQ lO ds) (hx:d8 CX X E) (ha:PA X (e::es) t)
  (j1:starEach (e::es) X.env=(false,eval e X.env)::starEach es X.env:=by rfl) (hpl:(backTo pos (starEach es X.env)).any (·.1)=false:=by rfl)
  (ht:eval (.Call (.Attribute o m apos) (e::es) [] pos) X.env=(do
   let ov <-eval o X.env
   standAt apos.atName
   let (f,first) <-holding [ov] (getMethod ov m pl)
   callWith pos f first (backTo pos (starEach (e::es) X.env)) (backToKw pos (keywordEach [] X.env))):=by rfl):
  PE X (.Call (.Attribute o m apos) (e::es) [] pos) (c7 C m sp lO E ta t):=by
 intro pins s σ H Q I h;refine PySem.W.methodCall_KW (pl:=pl) (cu (he pins s σ H _ I h) λu s1 dD=>?_) ht;obtain⟨x,H1,I1,rx,q0⟩:=dD;obtain⟨a,ex,dx,fs,ea,l,q⟩:=rdR_eq.mp q0;subst ex;obtain rfl:u=Value.ref a:=rx;refine nW I1 ea c hm l ?_;refine PySem.W.callWith_K (first:=[.ref a]) (h₀:=X.base) I.ok.mod.CD hm.kp (cu (ha pos pins s1 σ H1 _ I1 q) λus s2 ⟨vs,H2,I2,r,q2⟩=>⟨I2.jE,?_⟩) j1 hpl;exact vN (us:=.ref a::us) (vs:=.ref a::vs) F hr hb hd hx I2 (.cons rfl r) q2
theorem AH {pl:Sem Bool} (he:PE X o ta) (c:xx X.K C) (hm:AG X.K C m f) (F:fU X.prog X.w X.K X.mg X.base CX k f fd ps sp) (hr:dm k X.A) (hb:Binds X.K fd ps ds) (hd:bQ lO ds) (hx:d8 CX X E)
  (ht:eval (.Call (.Attribute o m apos) [] [] pos) X.env=(do
   let ov <-eval o X.env
   standAt apos.atName
   let (f,first) <-holding [ov] (getMethod ov m pl)
   callWith pos f first (backTo pos (starEach [] X.env)) (backToKw pos (keywordEach [] X.env))):=by rfl):
  PE X (.Call (.Attribute o m apos) [] [] pos) (c7 C m sp lO E ta tNil):=by
 intro pins s σ H Q I h;refine PySem.W.methodCall_KW (pl:=pl) (cu (he pins s σ H _ I h) λu s1 dD=>?_) ht;obtain⟨x,H1,I1,rx,q0⟩:=dD;obtain⟨a,ex,dx,fs,ea,l,q⟩:=rdR_eq.mp q0;subst ex;obtain rfl:u=Value.ref a:=rx;refine nW I1 ea c hm l ?_;exact PySem.W.callWith_K0 (first:=[.ref a]) I1.jE hm.kp (vN (us:=[.ref a]) (vs:=[.ref a]) F hr hb hd hx I1 (.cons rfl .nil) q)
structure Mk (K:PySem.W.Frag) (C f:Addr):Prop where
 makes:PySem.W.makesIn K C=true
 init:PySem.W.findIn K (.ref C) "__init__"=some (some (.ref f))
 fn:PySem.W.isFn K (.ref f)=true
 kp:PySem.W.keepIn K (.ref C)=true
theorem tV {pins:List (Addr×Obj)} {σ:St} {H:Hp} {s:Shared} {Q:VK} {us:List Value} {vs:List V} (M:Mk X.K C f) (F:fU X.prog X.w X.K X.mg X.base CX k f fd ps sp) (hr:dm (k+1) X.A) (hb:Binds X.K fd ps ds) (hd:bQ lO ds)
  (hx:d8 CX X E) (I:Inv X pins σ H s) (r:bQ vs us)
  (h:∀x dx,H x=none->H dx=none->dx≠x->sp (.ref x::(vs++lO)) (upd (upd H dx (.own x)) x (.ins C dx [])) (λv H2=>v=.dP/\Q (.ref x) H2) E):
  wpAny (model X.prog X.w) X.A (call (.ref C) us) (EP X pins σ Q) X.xe s:=by
 have hq:=h (s.heap.objs.size+1) s.heap.objs.size (I.bV.fresh (Nat.le_succ _)) (I.bV.fresh (aav _)) (aaA (aaR _));have I2:=Inv.made (C:=C) I;have r2:bQ (V.ref (s.heap.objs.size+1)::(vs++lO)) (Value.ref (s.heap.objs.size+1)::(us++ds)):=.cons rfl (r.append hd);have hl:(Value.ref (s.heap.objs.size+1)::us++ds).length=ps.length:=by
  have e:=r2.length;rw[F.len _ _ _ _ hq] at e;exact e.symm
 refine wpAny_call (AF (f:=f) I.jE M.makes M.init (beq_iff_eq.mp M.fn) (codeAny_mono (F.run _ X.stack _ _ ⟨Value.ref (s.heap.objs.size+1)::us,[]⟩ (Value.ref (s.heap.objs.size+1)::(us++ds)) _ _ E (hr.make C us [])
  (I2.iz.make C us []) (hb _ (Value.ref (s.heap.objs.size+1)::us) I2.jE hl) r2 hq) λr s' AI=>?_))
 cases r with
 | error e=>exact hx pins σ _ _ e s' I2 AI
 | ok fl=>
  cases fl with
  | ret u=>
   obtain⟨v,H',I3,rv,ev,q3⟩:=I2.after AI;subst ev;exact⟨rv,⟨V.ref (s.heap.objs.size+1),H',I3,rfl,q3⟩⟩
  | next=>exact False.elim AI
  | brk=>exact False.elim AI
  | cont=>exact False.elim AI
theorem Di (M:Mk X.K C f) (F:fU X.prog X.w X.K X.mg X.base CX k f fd ps sp) (hr:dm (k+1) X.A) (hg:Gl X x) (hm:X.mg x=some (.ref C)) (hb:Binds X.K fd ps ds) (hd:bQ lO ds) (hx:d8 CX X E)
  (ha:PA X (e::es) t) (lU:(x==("__debug__":Str))=false:=by decide) (he:starEach (e::es) X.env=(false,eval e X.env)::starEach es X.env:=by rfl) (hpl:(backTo pos (starEach es X.env)).any (·.1)=false:=by rfl):
  PE X (.Call (.Name x p) (e::es) [] pos) (qk C sp lO E t):=by
 intro pins s σ H Q I h;refine wpAny_Call_Name_kw (fS I hg hm ?_ lU);refine PySem.W.callWith_K (h₀:=X.base) I.ok.mod.CD M.kp (cu (ha pos pins s σ H _ I h) λus s1 ⟨vs,H1,I1,r,q⟩=>⟨I1.jE,?_⟩) he hpl;exact tV M F hr hb hd hx I1 r q
theorem AJ (M:Mk X.K C f) (F:fU X.prog X.w X.K X.mg X.base CX k f fd ps sp) (hr:dm (k+1) X.A) (hg:Gl X x) (hm:X.mg x=some (.ref C)) (hb:Binds X.K fd ps ds) (hd:bQ lO ds) (hx:d8 CX X E)
  (lU:(x==("__debug__":Str))=false:=by decide):PE X (.Call (.Name x p) [] [] pos) (qk C sp lO E tNil):=by
 intro pins s σ H Q I h;refine wpAny_Call_Name_kw (fS I hg hm ?_ lU);exact PySem.W.callWith_K0 I.jE M.kp (tV (us:=[]) M F hr hb hd hx I .nil h)
end
section
variable {X : Cx} {CX : jw} {k : Nat} {f C : Addr} {fd : FuncData} {ps ks : List Str} {sp : Sp} {E : XK} {x m : Str} {p pos apos aac : Pos} {e o : Expr} {es : List Expr} {kws : List Keyword} {te ta : TE} {t tk : TA} {nm : Option Str}
structure PN (K:PySem.W.Frag) (fd:FuncData) (ps ks:List Str) (g:List Value->List Value->List Value) (gV:List V->List V->List V):Prop where
 to:∀(s:Shared) (us ws:List Value),K.In s.heap->(g us ws).length=ps.length->BindsTo s fd ⟨us,ks.zip ws⟩ (ps.zip (g us ws))
 rel:∀{vs:List V} {us:List Value} {zs:List V} {ws:List Value},bQ vs us->bQ zs ws->bQ (gV vs zs) (g us ws)
variable {g : List Value -> List Value -> List Value} {gV : List V -> List V -> List V}
end
structure bf (N P:List Str) (sc:Scope):Prop where
 kind:sc.kind=.function:=by rfl
 co:sc.isCoroutine=false:=by rfl
 gen:sc.isGenerator=false:=by rfl
 nd:N.Nodup:=by first | decide +kernel | rfl
 pre:N.take P.length=P:=by rfl
 par:∀x∈P,sc.names.lookup x=some .local\/sc.names.lookup x=some .cell:=by first | decide +kernel | rfl
 GB:∀y∈sc.names,y.2≠.free:=by first | decide +kernel | rfl
theorem ql {kindOf:Str->Option NameKind} {x:Str}:∀{binds:List (Str×Value)} {m:Str->Option Value},(∀v,(x,v)∉binds)->bindL kindOf binds m x=m x
 | [],_,_=>rfl
 | (n,v)::r,m,h=>by
  unfold bindL;rw[ql λw hw=>h w (aaB _ hw)]
  split
  ·have:x≠n:=by rintro rfl;exact h v aaE
   simp [this]
  ·rfl
theorem qo {kindOf:Str->Option NameKind} {x:Str}:∀{binds:List (Str×Value)} {m:Str->Option Value},(∀v,(x,v)∉binds)->bindC kindOf binds m x=m x
 | [],_,_=>rfl
 | (n,v)::r,m,h=>by
  unfold bindC;rw[qo λw hw=>h w (aaB _ hw)]
  split
  ·rfl
  ·have:x≠n:=by rintro rfl;exact h v aaE
   simp [this]
theorem qp {kindOf:Str->Option NameKind} {x:Str} {v:Value}:∀{P:List Str} {vs:List Value} {i:Nat} {m:Str->Option Value},P.Nodup->P[i]?=some x->vs[i]?=some v->kindOf x=some .local->
  bindL kindOf (P.zip vs) m x=some v
 | [],_,_,_,_,h,_,_=>by simp at h
 | _::_,[],_,_,_,_,h,_=>by simp at h
 | p::P,w::vs,0,m,nd,h1,h2,hk=>by
  simp at h1 h2;subst h1;subst h2;show bindL kindOf ((p,w)::P.zip vs) m p=_;unfold bindL;rw[ql λv hv=>(List.nodup_cons.mp nd).1 (List.of_mem_zip hv).1,if_pos hk];simp
 | p::P,w::vs,i+1,m,nd,h1,h2,hk=>by
  show bindL kindOf ((p,w)::P.zip vs) m x=_;unfold bindL;exact qp (i:=i) (List.nodup_cons.mp nd).2 (by simpa using h1) (by simpa using h2) hk
theorem qq {kindOf:Str->Option NameKind} {x:Str} {v:Value}:∀{P:List Str} {vs:List Value} {i:Nat} {m:Str->Option Value},P.Nodup->P[i]?=some x->vs[i]?=some v->kindOf x≠some .local->
  bindC kindOf (P.zip vs) m x=some v
 | [],_,_,_,_,h,_,_=>by simp at h
 | _::_,[],_,_,_,_,h,_=>by simp at h
 | p::P,w::vs,0,m,nd,h1,h2,hk=>by
  simp at h1 h2;subst h1;subst h2;show bindC kindOf ((p,w)::P.zip vs) m p=_;unfold bindC;rw[qo λv hv=>(List.nodup_cons.mp nd).1 (List.of_mem_zip hv).1,if_neg hk];simp
 | p::P,w::vs,i+1,m,nd,h1,h2,hk=>by
  show bindC kindOf ((p,w)::P.zip vs) m x=_;unfold bindC;exact qq (i:=i) (List.nodup_cons.mp nd).2 (by simpa using h1) (by simpa using h2) hk
noncomputable def start (N:List Str) (vs:List V):St:=vs.map some++List.replicate (N.length - vs.length) none
noncomputable def df (CX:jw) (P:Program) (w:World) (K:PySem.W.Frag) (mg:Str->Option Value) (base:Heap) (N:List Str) (qual:Str) (scope:Scope) (f:Addr) (cd:Value) (A:Around) (outer:List Env) (s:Shared) (H:Hp) (E:XK):Cx where
 prog:=P
 w:=w
 K:=K
 mg:=mg
 base:=base
 A:=A.deeper (envOfC qual scope s.heap.objs.size f cd)
 N:=N
 s₀:=s
 H₀:=H
 env:=envOfC qual scope s.heap.objs.size f cd
 outer:=outer
 stack:=envOfC qual scope s.heap.objs.size f cd::outer
 ex:=[]
 calm:=true
 fn:=λ_=>true
 pn:=[]
 xe:=λe s'=>wpAny (model P w) (A.deeper (envOfC qual scope s.heap.objs.size f cd)) (leaving (envOfC qual scope s.heap.objs.size f cd) e) (λ_ nX=>CX outer H s E e nX) (λe' nX=>CX outer H s E e' nX) s'
theorem tW {sc:Scope} {n:Nat} {x:Str} (h:sc.names.lookup x=some .cell):∃c,(cellsFrom n sc.names []).lookup x=some c:=by
 have q:=PySem.W.cellsFrom_some sc.names n [] (.inl h);exact Option.isSome_iff_exists.mp q
theorem qu {CX:jw} {P:Program} {w:World} {K:PySem.W.Frag} {mg:Str->Option Value} {base:Heap} {N ps:List Str} {qual:Str} {scope:Scope} {f:Addr} {cd:Value} {A:Around} {outer:List Env} {s s1:Shared} {H:Hp} {E:XK} {us:List Value} {vs:List V}
  (S:bf N ps scope) (hd:A.handled=none) (e0:pK P w K mg base A outer s H) (hl:vs.length=ps.length) (r:bQ vs us)
  (x:InCallC s s.heap.objs.size (bindL (envOfC qual scope s.heap.objs.size f cd).kindOf (ps.zip us) λ_=>none) (cellsFrom (s.heap.objs.size+1) scope.names []) (bindC (envOfC qual scope s.heap.objs.size f cd).kindOf (ps.zip us) λ_=>none) s1):
  Inv (df CX P w K mg base N qual scope f cd A outer s H E) [] (start N vs) H s1:=by
 have hpl:ps.length<=N.length:=by have:=congrArg List.length S.pre;rw[abg] at this;omega
 obtain⟨h1,tk,rfl,hk⟩:=x.done;have JN:∀b:Addr,b∉(df CX P w K mg base N qual scope f cd A outer s H E).ex:=λb z=>absurd (show b∈([]:List Addr) from z) (by simp);refine⟨⟨e0.mod,S.kind,rfl,rfl,aav _,λy z c h1 h2=>?_,λy hy=>?_,λy c _ h=>?_,λ_=>hd,Around.frames_deeper e0.frames,.inr ⟨rfl,rfl⟩,λb z=>absurd z (JN b),e0.bs,e0.xq,λb _ _=>JN b,λb z=>absurd z (JN b),e0.iW,e0.zZ⟩,
  rfl,e0.bare,Un.kept hk,⟨_,x.toInCall.ns,λi y v h1 h2 h3=>?_⟩,λy c h=>⟨_,x.cell y c h⟩,e0.bV.fresh (aav _),λy c h=>?_,λp hp=>absurd (show p∈([]:List (Addr×Obj)) from hp) (by simp),e0.bV.kept hk,?_⟩
 ·exact name_of_addr x.apart (aaV h1) (aaV h2)
 ·have hy:scope.names.lookup y=some .cell\/scope.names.lookup y=some .free:=hy;rcases hy with hy | hy
  ·exact tW hy
  ·exact absurd rfl (S.GB _ (aaV hy))
 ·exact Nat.le_of_lt (x.above y c (aaV h))
 ·have hi:i<vs.length:=by
   unfold start at h2
   by_cases hi:i<vs.length
   ·exact hi
   ·rw[abk (by simpa using hi)] at h2;rw[List.getElem?_replicate] at h2
    split at h2 <;>cases h2
  have ha:vs[i]?=some v:=by
   unfold start at h2;rw[abc (by simpa using hi),aau] at h2;cases e:vs[i]? with
   | none=>rw[e] at h2;cases h2
   | some a=>rw[e] at h2;cases h2;rfl
  obtain⟨u,hu,rv⟩:=r.get ha;have hp:ps[i]?=some y:=by
   rw[<-S.pre,List.getElem?_take_of_lt (by omega)];exact h1
  have YG:ps.Nodup:=by rw[<-S.pre];exact S.nd.sublist (List.take_sublist _ _)
  refine⟨u,rv,?_⟩;rcases S.par y (aaC hp) with k | k
  ·exact .inl ⟨k,qp YG hp hu k⟩
  ·obtain⟨c,e⟩:=tW (n:=s.heap.objs.size+1) k;refine .inr ⟨.inl k,c,e,?_⟩;have q:=x.cell y c e;rw[qq YG hp hu (by show scope.names.lookup y≠_;rw[k];decide)] at q;exact q
 ·exact e0.bV.fresh (Nat.le_of_lt (x.above y c (aaV h)))
 ·unfold start;show _=N.length;rw[aay,aat,List.length_replicate];omega
theorem E1 {CX:jw} {P:Program} {w:World} {K:PySem.W.Frag} {mg:Str->Option Value} {base:Heap} {k:Nat} {f:Addr} {name qual:Str} {params:Arguments} {body:List Stmt} {scope:Scope} {dV kV doc pm bZ ct oc:Value} {an od:Option Addr}
  {Ab:Array (Option Value)} {N ps:List Str} {sp:Sp} (lk:K.lookup f=some ⟨oc,od,.func (PySem.W.fnOf name qual params body scope dV kV doc pm an bZ ct),Ab⟩) (tR:PySem.W.codeIn K bZ qual=true) (S:bf N ps scope)
  (len:∀vs H Q E,sp vs H Q E->vs.length=ps.length)
  (kB:∀(A:Around) (outer:List Env) (s:Shared) (H:Hp) (vs:List V) (Q:VK) (E:XK),dm k (A.deeper (envOfC qual scope s.heap.objs.size f bZ))->sp vs H Q E->
   ∃t,qi (df CX P w K mg base N qual scope f bZ A outer s H E) body t/\t {nx:=λ_ H'=>Q .dP H',rt:=Q} (start N vs) H):
  fU P w K mg base CX (k+1) f (PySem.W.fnOf name qual params body scope dV kV doc pm an bZ ct) ps sp:=by
 refine⟨len,λA outer s H args us vs Q E hr e0 hb r vO=>?_⟩;have hl:=len _ _ _ _ vO;have KX:K.In s.heap:=e0.mod.CD.keeps λb o e=>(e0.bs b o e).1;have lim:s.heap.NoLimit:=e0.mod.nolimit.keeps λb o e=>(e0.bs b o e).1;have AK:∀y∈ps.zip us,scope.names.lookup y.1=some .local\/(scope.names.lookup y.1=some .cell/\((cellsFrom (s.heap.objs.size+1) scope.names []).lookup y.1).isSome=true):=fun⟨n,v⟩ hy=>by
  rcases S.par n (List.of_mem_zip hy).1 with q | q
  ·exact .inl q
  ·exact .inr ⟨q,PySem.W.cellsFrom_some _ _ _ (.inl q)⟩
 refine codeAny_call_function hr.depth (KX _ _ lk) rfl S.co S.gen rfl (PySem.W.codeRec_of KX tR) (hb _ _ _ _ ?_);refine wpAny_newFunctionEnv_cells S.kind AK λenv he s1 x=>?_;subst he;refine⟨lim.keeps x.toInCall.keep,codeAny_func ?_⟩;obtain⟨t,ht,hq⟩:=kB A outer s H vs Q E (hr.deeper _) vO;have I:Inv (df CX P w K mg base N qual scope f bZ A outer s H E) [] (start N vs) H s1:=qu S hr.hd e0 hl r x;refine wpAny_mono (ht [] s1 (start N vs) H _ I hq) (λfl s' hs=>?_) λe s' hs=>hs;have fin:∀{σ':St} {H':Hp} {v:V} {u:Value},Inv (df CX P w K mg base N qual scope f bZ A outer s H E) [] σ' H' s'->RelV v u->Q v H'->CE outer P w H s Q u s':=
  λ{σ' H' v u} J rv q=>⟨v,H',J.os,J.bare,J.base,J.bV,rv,q⟩
 cases fl with
 | ret u=>
  obtain⟨v,σ',H',J,rv,q⟩:=hs;exact fin J rv q
 | next=>
  obtain⟨σ',H',J,q⟩:=hs;exact fin (v:=V.dP) (u:=Value.none) J rfl q
 | brk=>
  obtain⟨_,_,_,q⟩:=hs;exact False.elim q
 | cont=>
  obtain⟨_,_,_,q⟩:=hs;exact False.elim q
section
variable {X : Cx} {x : Str} {p pos : Pos} {e : Expr} {es : List Expr} {t : TA} {id T : String} {r : List V -> Hp -> VK -> Prop}
noncomputable def tCB (r:List V->Hp->VK->Prop) (t:TA):TE:=λσ H Q=>t σ H λvs H1=>r vs H1 Q
theorem bg (hc:dz X (.builtin id) r) (hg:Gl X x) (hm:X.mg x=none) (hv:bootBuiltins x=some (.builtin id)) (ha:PA X (e::es) t) (hn:x≠"__name__":=by decide) (lU:(x==("__debug__":Str))=false:=by decide)
  (he:starEach (e::es) X.env=(false,eval e X.env)::starEach es X.env:=by first | exact se rfl | rfl) (hpl:(backTo pos (starEach es X.env)).any (·.1)=false:=by first | exact na rfl | rfl):PE X (.Call (.Name x p) (e::es) [] pos) (tCB r t):=by
 intro pins s σ H Q I h;refine wpAny_Call_Name_kw (ja I hg hm hv ?_ hn lU);exact PyProof.Rows.callWith_builtin1 (cu (ha pos pins s σ H _ I h) λus s1 ⟨vs,H1,I1,r1,q1⟩=>hc pins s1 σ H1 vs us Q I1 r1 q1) he hpl
theorem fX (hc:dz X (.type T) r) (hg:Gl X x) (hm:X.mg x=none) (hv:bootBuiltins x=some (.type T)) (ha:PA X (e::es) t) (hn:x≠"__name__":=by decide) (lU:(x==("__debug__":Str))=false:=by decide)
  (he:starEach (e::es) X.env=(false,eval e X.env)::starEach es X.env:=by rfl) (hpl:(backTo pos (starEach es X.env)).any (·.1)=false:=by rfl):PE X (.Call (.Name x p) (e::es) [] pos) (tCB r t):=by
 intro pins s σ H Q I h;refine wpAny_Call_Name_kw (ja I hg hm hv ?_ hn lU);exact PyProof.Rows.callWith_type1 (cu (ha pos pins s σ H _ I h) λus s1 ⟨vs,H1,I1,r1,q1⟩=>hc pins s1 σ H1 vs us Q I1 r1 q1) he hpl
end
end L2
namespace HT
open PySem PyProof.Rows
section
open PySem.SeqAt
open PySem.AutoSeq1 (wpAny_loadPart')
open PySem.MeetsSeq PySem.MeetsSeq2 PySem.MeetsSeq3
end
section
variable {prog : Program} {w : World} {A : Around} {E : Value -> Shared -> Prop} {s : Shared}
noncomputable def eR (n d:Nat):Option Int->Nat
 | none=>d
 | some v=>if v<0 then (v+ (n:Int)).toNat else min v.toNat n
theorem AL (n d:Nat):eR n d none=d:=rfl
theorem Dj (n d k:Nat):eR n d (some (k:Int))=min k n:=by
 show(if (k:Int)<0 then ((k:Int)+ (n:Int)).toNat else min (k:Int).toNat n)=min k n;rw[if_neg (by omega),aaY]
theorem GC (n d:Nat) (hd:d<=n) (o:Option Int):eR n d o<=n:=by
 cases o with
 | none=>exact hd
 | some v=>
  show(if v<0 then (v+ (n:Int)).toNat else min v.toNat n)<=n
  by_cases hv:v<0
  ·rw[if_pos hv];omega
  ·rw[if_neg hv];exact Nat.min_le_right _ _
theorem xy (v:Int) (n d:Nat):(if v<0 then max (v+ (n:Int)) 0 else min v (n:Int))=((eR n d (some v):Nat):Int):=by
 show(if v<0 then max (v+ (n:Int)) 0 else min v (n:Int))=(((if v<0 then (v+ (n:Int)).toNat else min v.toNat n):Nat):Int)
 by_cases hv:v<0
 ·simp only[if_pos hv];omega
 ·simp only[if_neg hv];omega
theorem vP (lo hi:Option Int) (n:Nat):Builtin.Slice.sliceAdjust lo hi 1 (n:Int)=(((eR n 0 lo:Nat):Int),((eR n n hi:Nat):Int)):=by
 have h1:¬((1:Int)<0):=by omega
 unfold Builtin.Slice.sliceAdjust;simp only[h1,if_false];refine Prod.ext ?_ ?_
 ·cases lo with
  | none=>rfl
  | some v=>exact xy v n 0
 ·cases hi with
  | none=>rfl
  | some v=>exact xy v n n
theorem vQ (i j:Nat):Builtin.Slice.slicePlaces (i:Int) (j:Int) 1=j - i:=by
 unfold Builtin.Slice.slicePlaces;have h1:(1:Int) >0:=by omega
 simp only[h1,if_true,Int.ediv_one]
 split <;>omega
theorem nY {v:Value} {o:Option Int} {Q:Option Int->Shared->Prop} (p:IsPart v o) (h:Q o s):wpAny (model prog w) A (Builtin.Slice.slicePartIndex v) Q E s:=by
 cases p with
 | none=>exact slicePart_none h
 | int i t=>exact slicePart_int h
theorem lV {sl:Addr} {vl vu:Value} {lo hi:Option Int} {n:Nat} {Q:Int×Int×Nat->Shared->Prop} (hs:s.heap.IsSliceOf sl vl vu .none) (pl:IsPart vl lo) (pu:IsPart vu hi)
  (h:Q (((eR n 0 lo:Nat):Int),1,eR n n hi - eR n 0 lo) s):wpAny (model prog w) A (Builtin.Slice.sliceApplied (.ref sl) (pure (n:Int))) Q E s:=by
 obtain⟨os,JO,YH,nE⟩:=id hs;unfold Builtin.Slice.sliceApplied Builtin.Slice.sliceFields;refine wpAny_bind (wpAny_bind (wpAny_field JO nE (x:=vl) rfl (wpAny_bind (wpAny_field JO nE (x:=vu) rfl (wpAny_bind (wpAny_field JO nE (x:=.none) rfl (wpAny_pure ?_)))))));refine wpAny_bind (slicePart_none ?_);show wpAny _ _ (if ((1:Int)==0)=true then _ else _) _ _ s;rw[if_neg (by decide)];refine wpAny_bind (nY pl (wpAny_bind (nY pu (wpAny_bind (wpAny_pure ?_)))));show wpAny _ _ (match Builtin.Slice.sliceAdjust lo hi 1 (n:Int) with | (lo,hi)=>pure (lo,(1:Int),Builtin.Slice.slicePlaces lo hi 1)) _ _ s;rw[vP lo hi n];show wpAny _ _ (pure (((eR n 0 lo:Nat):Int),(1:Int),Builtin.Slice.slicePlaces ((eR n 0 lo:Nat):Int) ((eR n n hi:Nat):Int) 1)) _ _ s;rw[vQ];exact wpAny_pure h
theorem AM (xs:Array Value) (i k:Nat):((List.range k).filterMap fun(m:Nat)=>xs[((i:Int)+ (m:Int)*1).toNat]?).toArray=((xs.toList.drop i).take k).toArray:=by
 have e:(fun(m:Nat)=>xs[((i:Int)+ (m:Int)*1).toNat]?)=λm=>xs[i+m]?:=by
  funext m;have:((i:Int)+ (m:Int)*1).toNat=i+m:=by omega
  rw[this]
 rw[e];have:=pick_run xs i k;rw[List.filterMap_map] at this;have e2:((λx=>xs[x]?) ∘λx=>i+x)=λm=>xs[i+m]?:=rfl;rw[e2] at this;rw[this]
theorem kC {t sl:Addr} {items:Array Value} {vl vu:Value} {lo hi:Option Int} {Q:Value->Shared->Prop} (ht:IsTup s.heap t items) (hs:s.heap.IsSliceOf sl vl vu .none) (pl:IsPart vl lo) (pu:IsPart vu hi)
  (hw:¬(eR items.size 0 lo=0/\eR items.size items.size hi=items.size))
  (h:Q (.ref s.heap.objs.size) {s with heap:=s.heap.push {cls:=.type "tuple",data:=.seq ((items.toList.drop (eR items.size 0 lo)).take (eR items.size items.size hi - eR items.size 0 lo)).toArray}})
  (hsz:items.size<=sizeLine):wpAny (model prog w) A (getItem (.ref t) (.ref sl)) Q E s:=by
 have xA:sizeOk (.seq ((items.toList.drop (eR items.size 0 lo)).take (eR items.size items.size hi - eR items.size 0 lo)).toArray):=by
  show((items.toList.drop (eR items.size 0 lo)).take (eR items.size items.size hi - eR items.size 0 lo)).toArray.size<=sizeLine;rw[aaD,abg,List.length_drop,Array.length_toList];omega
 have hj:eR items.size items.size hi<=items.size:=GC _ _ (aav _) hi;obtain⟨os,JO,YH,nE⟩:=id hs;have hTs:s.TypeIs (.ref sl) "slice":=⟨os,JO,YH⟩
 unfold getItem
 try with_reducible refine wpAny_holding ?_
 first | refine wpAny_bind (wpAny_pure ?_) | skip
 refine wpAny_bind (wpAny_sequenceKey ht.typeIs (by decide) ?_);refine wpAny_bind (wpAny_callSpecial?_slot (name:=Str.ofString "__getitem__") ht.typeIs PyProof.Rows.slot_tuple_getitem
  (wpAny_call_entry PyProof.Rows.slot_tuple_getitem ht.typeIs entry_tuple_getitem ?_ (args_tuple_getitem _ _)))
 show wpAny _ _ (Builtin.Tuple.tupleItemsOf (.ref t) >>=_) _ _ s;refine wpAny_bind (tupleItemsOf_ ht ?_);refine wpAny_bind (wpAny_typeOf hTs ?_);rw[if_pos (by decide)];refine wpAny_bind (lV hs pl pu ?_);have JP:¬((((eR items.size 0 lo:Nat):Int)==0 && (1:Int)==1 && (eR items.size items.size hi - eR items.size 0 lo)==items.size)=true):=by
  intro q;rw[aaZ,aaZ] at q;have q1:((eR items.size 0 lo:Nat):Int)=0:=eq_of_beq q.1.1;have q2:eR items.size items.size hi - eR items.size 0 lo=items.size:=eq_of_beq q.2;exact hw ⟨by omega,by omega⟩
 show wpAny _ _ (if (((eR items.size 0 lo:Nat):Int)==0 && (1:Int)==1 && (eR items.size items.size hi - eR items.size 0 lo)==items.size)=true then _ else _) _ _ s;rw[if_neg JP,AM]
 first
  | exact wpAny_bind (m:=Builtin.Tuple.tupleExact _) (wpAny_newObj_type (wpAny_pure ⟨_,rfl,wpAny_pure h⟩) xA)
  | exact wpAny_bind (m:=Builtin.Tuple.tupleExact _) (wpAny_newObj_type (wpAny_bind (wpAny_pure (wpAny_pure ⟨_,rfl,wpAny_pure h⟩))) xA)
  | exact wpAny_bind (wpAny_bind (m:=Builtin.Tuple.tupleExact _) (wpAny_newObj_type (wpAny_pure (wpAny_pure ⟨_,rfl,wpAny_pure h⟩)) xA))
  | exact wpAny_bind (wpAny_bind (m:=Builtin.Tuple.tupleExact _) (wpAny_newObj_type (wpAny_pure ⟨_,rfl,wpAny_pure h⟩) xA))
end
end HT
namespace L2
open PySem PySem.Spec PyProof.Rows
abbrev TO:=St->Hp->(Option Int->Hp->Prop)->Prop
noncomputable def PO (X:Cx) (e:Option Expr) (t:TO):Prop:=
 ∀(pins:List (Addr×Obj)) (s:Shared) (σ:St) (H:Hp) (Q:Option Int->Hp->Prop),Inv X pins σ H s->t σ H Q->
  wpAny (model X.prog X.w) X.A (evalPart e X.env) (λu s'=>∃o H',Inv X pins σ H' s'/\IsPart u o/\Q o H') X.xe s
noncomputable def tNoPart:TO:=λ_ H Q=>Q none H
noncomputable def tPart (t:TE):TO:=λσ H Q=>t σ H λx H1=>∃i,x=.int i/\Q (some i) H1
theorem intsAre_of {ns:List Int}:∀{us:List Value},bQ (ns.map V.int) us->IntsAre us ns:=by
 induction ns with
 | nil=>intro us r;rw[aaT] at r;cases r;exact .nil
 | cons n ns ih=>
  intro us r;rw[aaw] at r;cases r with
  | cons r1 r2=>
   obtain⟨t,e⟩:=r1;subst e;exact .cons n t (ih r2)
section
variable {X : Cx} {e : Expr} {te : TE} {lo hi : Option Expr} {tl th : TO} {pos p2 : Pos}
theorem kD:PO X none tNoPart:=by
 intro pins s σ H Q I h;rw[evalPart_none];exact wpAny_pure ⟨none,H,I,.none,h⟩
theorem kG (h:PE X e te):PO X (some e) (tPart te):=by
 intro pins s σ H Q I hw;rw[evalPart_some];refine cu (h pins s σ H _ I hw) λu s1 dD=>?_;obtain⟨x,H1,I1,r1,q1⟩:=dD;obtain⟨i,rfl,q⟩:=q1;obtain⟨t,rfl⟩:=r1;exact⟨some i,H1,I1,.int i t,q⟩
noncomputable def JQ (X:Cx) (r:V->Option Int->Option Int->Hp->VK->Prop):Prop:=
 ∀(pins:List (Addr×Obj)) (s:Shared) (σ:St) (H:Hp) (x:V) (v vl vu:Value) (lo hi:Option Int) (sl:Addr) (Q:VK),Inv X pins σ H s->RelV x v->s.heap.IsSliceOf sl vl vu .none->IsPart vl lo->IsPart vu hi->r x lo hi H Q->
  ∃T id,typeLookup (.type T) "__getitem__"=pure (some (.builtin id))/\s.TypeIs v T/\wpAny (model X.prog X.w) X.A (getItem v (.ref sl)) (EP X pins σ Q) X.xe s
noncomputable def tSl (r:V->Option Int->Option Int->Hp->VK->Prop) (te:TE) (tl th:TO):TE:=λσ H Q=>te σ H λx H1=>tl σ H1 λl H2=>th σ H2 λu H3=>r x l u H3 Q
theorem je {r:V->Option Int->Option Int->Hp->VK->Prop} (hr:JQ X r) (he:PE X e te) (hl:PO X lo tl) (hu:PO X hi th):PE X (.Subscript e (.Slice lo hi none p2) pos) (tSl r te tl th):=by
 intro pins s σ H Q I h;refine Subscript_ (cu (he pins s σ H _ I h) λv s1 dD=>?_);obtain⟨x,H1,I1,r1,q1⟩:=dD;refine wpAny_Slice (cu (hl pins s1 σ H1 _ I1 q1) λvl s2 ⟨l,H2,I2,pl,q2⟩=>cu (hu pins s2 σ H2 _ I2 q2) λvu s3 dD=>?_);obtain⟨u,H3,I3,pu,q3⟩:=dD;rw[evalPart_none];refine wpAny_pure ?_;have I4:Inv X pins σ H3 {s3 with heap:=s3.heap.push {cls:=.type "slice",data:=.fields #[vl,vu,.none]}}:=I3.kept (t':=s3.toks) λb ob q=>Heap.get?_push_of_some _ q;obtain⟨T,id,hT,ht,hg⟩:=hr pins {s3 with heap:=s3.heap.push {cls:=.type "slice",data:=.fields #[vl,vu,.none]}} σ H3 x v vl vu l u s3.heap.objs.size Q I4 r1 (Heap.IsSliceOf.new ..) pl pu q3;show wpAny (model X.prog X.w) X.A (subscriptTail e (.Slice lo hi none p2) v (.ref s3.heap.objs.size)) (EP X pins σ Q) X.xe {s3 with heap:=s3.heap.push {cls:=.type "slice",data:=.fields #[vl,vu,.none]}};exact tail_any (ops:=[.ref s3.heap.objs.size,v]) ht hT hg (by with_unfolding_all rfl)
noncomputable def pL (xs:List V) (lo hi:Option Int):List V:=(xs.drop (HT.eR xs.length 0 lo)).take (HT.eR xs.length xs.length hi - HT.eR xs.length 0 lo)
theorem mG (xs:List V) (lo hi:Option Int):(pL xs lo hi).length<=xs.length:=by
 unfold pL;rw[abg,List.length_drop];omega
noncomputable def JR (K:PySem.W.Frag):V->Option Int->Option Int->Hp->VK->Prop:=λx lo hi H Q=>∃a xs,x=.ref a/\iX K H a xs/\
 ¬(HT.eR xs.length 0 lo=0/\HT.eR xs.length xs.length hi=xs.length)/\∀p,H p=none->Q (.ref p) (upd H p (.tup (pL xs lo hi)))
theorem GD:JQ X (JR X.K):=by
 intro pins s σ H x v vl vu lo hi sl Q I rx hs pl pu h;obtain⟨a,xs,rfl,hx,hw,q⟩:=h;cases rx;obtain⟨bE,r,ht,hz⟩:=I.tuple hx;have hlen:bE.toArray.size=xs.length:=by rw[aaD];exact r.length.symm
 refine⟨"tuple",_,PyProof.Rows.slot_tuple_getitem.lookup,ht.typeIs,?_⟩;refine HT.kC ht hs pl pu (by rw[hlen];exact hw) ?_ (by rw[hlen];exact hz);rw[hlen];refine⟨.ref s.heap.objs.size,_,I.laid (t':=s.toks) (o:=.tup (pL xs lo hi)) (λb ob q=>Heap.get?_push_of_some _ q) (aav _) ?_,rfl,q _ (I.bV.fresh (aav _))⟩;exact⟨aaI (mG xs lo hi) hz,_,(r.drop (HT.eR xs.length 0 lo)).take (HT.eR xs.length xs.length hi - HT.eR xs.length 0 lo),IsTup.new _ _⟩
end
noncomputable def Dk (n:Nat) (i:Int):Option Nat:=if 0<=i then (if i<n then some i.toNat else none) else if -(n:Int)<=i then some (i+n).toNat else none
noncomputable def pM {α:Type} (xs:List α) (i:Int):Option α:=(Dk xs.length i).bind λj=>xs[j]?
theorem xB {n:Nat} {i:Int} {j:Nat} (h:Dk n i=some j):seqIndex? i n=some j/\j<n/\-(n:Int)<=i/\i<n:=by
 unfold Dk at h
 by_cases h0:0<=i
 ·rw[if_pos h0] at h
  by_cases h1:i<n
  ·rw[if_pos h1] at h;have e:i.toNat=j:=aaS h;exact⟨by rw[seqIndex_of h0 h1,e],by omega,by omega,h1⟩
  ·rw[if_neg h1] at h;cases h
 ·rw[if_neg h0] at h
  by_cases h1:-(n:Int)<=i
  ·rw[if_pos h1] at h;have e:(i+n).toNat=j:=aaS h;exact⟨by rw[seqIndex_neg (by omega) h1,e],by omega,h1,by omega⟩
  ·rw[if_neg h1] at h;cases h
theorem xC {α:Type} {xs:List α} {i:Int} {v:α} (h:pM xs i=some v):∃j,seqIndex? i xs.length=some j/\xs[j]?=some v/\j<xs.length/\-(xs.length:Int)<=i/\i<xs.length:=by
 unfold pM at h;cases e:Dk xs.length i with
 | none=>rw[e] at h;cases h
 | some j=>
  rw[e] at h;obtain⟨h1,h2,h3,h4⟩:=xB e;exact⟨j,h1,h,h2,h3,h4⟩
theorem b5 {α:Type} {xs:List α} {j:Nat} {v:α} (h:xs[j]?=some v):pM xs (j:Int)=some v:=by
 have hj:j<xs.length:=(List.getElem?_eq_some_iff.mp h).1;have e:Dk xs.length (j:Int)=some j:=by
  unfold Dk;rw[if_pos (by omega),if_pos (by omega)];simp
 unfold pM;rw[e];exact h
noncomputable def Dm (b:Expr):Prop:=∀o i,subscripted b false o i=operate [o,i] (getItem o i)
noncomputable def E2 (X:Cx) (r:R2):Prop:=
 ∀(value slice:Expr) (pins:List (Addr×Obj)) (s:Shared) (σ:St) (H:Hp) (x y:V) (v u:Value) (Q:VK),Inv X pins σ H s->RelV x v->RelV y u->r x y H Q->
  subscripted slice false v u=operate [v,u] (getItem v u)->wpAny (model X.prog X.w) X.A (subscriptTail value slice v u) (EP X pins σ Q) X.xe s
noncomputable def IP (X:Cx) (id:String) (r:V->List V->Hp->VK->Prop):Prop:=
 ∀(pins:List (Addr×Obj)) (s:Shared) (σ:St) (H:Hp) (x:V) (xs:List V) (v:Value) (us:List Value) (Q:VK),Inv X pins σ H s->RelV x v->bQ xs us->r x xs H Q->
  wpAny (model X.prog X.w) X.A (call (.builtin id) (v::us)) (EP X pins σ Q) X.xe s
section
variable {X : Cx} {a b : Expr} {ta tb : TE} {pos : Pos}
theorem aG {r:R2} (hr:E2 X r) (ha:PE X a ta) (hb:PE X b tb) (hs:Dm b:=by exact λ_ _=>rfl):PE X (.Subscript a b pos) (tOp r ta tb):=by
 intro pins s σ H Q I h;exact Subscript_ (Gy ha hb I h λv u s2 x y H2 I2 rx ry q=>hr a b pins s2 σ H2 x y v u Q I2 rx ry q (hs _ _))
noncomputable def PQ (K:PySem.W.Frag):R2:=λx y H Q=>∃p xs i v,x=.ref p/\y=.int i/\bT K H p xs/\pM xs i=some v/\Q v H
noncomputable def PR (K:PySem.W.Frag):R2:=λx y H Q=>∃p xs i v,x=.ref p/\y=.int i/\iX K H p xs/\pM xs i=some v/\Q v H
theorem xD:E2 X (PQ X.K):=by
 intro value slice pins s σ H x y v u Q I rx ry h hs;obtain⟨p,xs,i,z,rfl,rfl,hq,he,q⟩:=h;cases rx;obtain⟨t,rfl⟩:=ry;obtain⟨bE,r,pl,hz⟩:=I.list hq;obtain⟨j,h1,h2,h3,h4,h5⟩:=xC he;obtain⟨w,ew,tw⟩:=r.get h2;have hl:=r.length;have hn:=rD;have fin:EP X pins σ Q w s:=⟨z,H,I,tw,q⟩
 by_cases h0:0<=i
 ·have hj:i.toNat=j:=by
   rw[seqIndex_of h0 h5] at h1;exact aaS h1
  exact item_listR pl.isList h0 (by omega) (by rw[hj];simpa using ew) fin hs
 ·have hj:(i+ (bE.toArray.size:Int)).toNat=j:=by
   rw[seqIndex_neg (by omega) h4] at h1;rw[aaD,<-hl];exact aaS h1
  exact subscriptTail_builtinR (x:=w) pl.isList.typeIs slot_list_getitem.lookup
   (wpAny_getItem_list_neg (Q:=λr s'=>r=w/\EP X pins σ Q r s') pl.isList (by omega) (by rw[aaD] <;>omega) (by omega) (by rw[hj];simpa using ew) ⟨rfl,fin⟩) hs
theorem GF:E2 X (PR X.K):=by
 intro value slice pins s σ H x y v u Q I rx ry h hs;obtain⟨p,xs,i,z,rfl,rfl,hq,he,q⟩:=h;cases rx;obtain⟨t,rfl⟩:=ry;obtain⟨bE,r,pl,hz⟩:=I.tuple hq;obtain⟨j,h1,h2,h3,h4,h5⟩:=xC he;obtain⟨w,ew,tw⟩:=r.get h2;have hl:=r.length;have hn:=rD;have fin:EP X pins σ Q w s:=⟨z,H,I,tw,q⟩
 exact subscriptTail_builtinR (x:=w) pl.typeIs slot_tuple_getitem.lookup
  (getItem_tuple (j:=j) (Q:=λr s'=>r=w/\EP X pins σ Q r s') pl (by omega) (by omega) (by rw[aaD,<-hl];exact h1) (by simpa using ew) ⟨rfl,fin⟩) hs
theorem vR (bE:List Value) (n j:Nat) (u:Value):Obj.mapSeq (·.setIfInBounds j u) {cls:=.type "list",data:=.seq bE.toArray n}={cls:=.type "list",data:=.seq (bE.set j u).toArray n}:=by
 simp [Obj.mapSeq]
theorem Inv.lst {pins:List (Addr×Obj)} {σ:St} {H:Hp} {s:Shared} {p:Addr} {xs:List V} (I:Inv X pins σ H s) (h:H p=some (.lst xs)):
  ∃(bE:List Value) (n:Nat),bQ xs bE/\s.heap.get? p=some {cls:=.type "list",data:=.seq bE.toArray n}/\xs.length<=sizeLine:=by
 obtain⟨z,bE,n,r,e⟩:=I.bV p _ h;exact⟨bE,n,r,e,z⟩
theorem Inv.GG {pins:List (Addr×Obj)} {σ:St} {H:Hp} {s:Shared} {p:Addr} {xs ys:List V} {bE its':List Value} {n n':Nat} {f:Obj->Obj} (I:Inv X pins σ H s) (h:H p=some (.lst xs))
  (ho:s.heap.get? p=some {cls:=.type "list",data:=.seq bE.toArray n}) (hf:f {cls:=.type "list",data:=.seq bE.toArray n}={cls:=.type "list",data:=.seq its'.toArray n'}) (r:bQ ys its') (hz:ys.length<=sizeLine) (t:Nat):
  Inv X pins σ (upd H p (.lst ys)) {s with heap:=s.heap.update p f,toks:=t}:=by
 have e:(s.heap.update p f).get? p=some {cls:=.type "list",data:=.seq its'.toArray n'}:=by
  rw[Heap.get?_update_self f ho (by rw[hf] <;>rfl),hf]
 refine I.write (x:=p) (e:=p) (by rw[h];trivial) (.inl rfl) (λb u hb q=>(Heap.get?_update_other _ _ (Ne.symm hb)).trans q) ⟨_,e⟩ ?_;exact⟨hz,its',n',r,e⟩
noncomputable def rSetL:V->V->V->Hp->(Hp->Prop)->Prop:=λo i v H Q=>∃p xs k j,o=.ref p/\i=.int k/\H p=some (.lst xs)/\Dk xs.length k=some j/\Q (upd H p (.lst (xs.set j v)))
theorem set_list:JG X rSetL:=by
 intro pins s σ H o i v ov iv u Q I ro ri rv h;obtain⟨p,xs,k,j,rfl,rfl,hp,hj,q⟩:=h;cases ro;obtain⟨t,rfl⟩:=ri;obtain⟨bE,n,r,ho,hz⟩:=I.lst hp;obtain⟨h1,h2,h3,h4⟩:=xB hj;have hl:=r.length;have hn:=rD;have I':Inv X pins σ (upd H p (.lst (xs.set j v))) {s with heap:=s.heap.update p (Obj.mapSeq (·.setIfInBounds j u))}:=
  I.GG hp ho (vR bE n j u) (r.set rv j) (by rw[List.length_set];exact hz) s.toks
 by_cases h0:0<=k
 ·have hk:k.toNat=j:=by
   rw[seqIndex_of h0 h4] at h1;exact aaS h1
  exact PySem.W.ki_setAt ho h0 (by omega) (by rw[aaD,<-hl];exact h4) (by rw[hk];exact⟨_,I',q⟩)
 ·have hk:(k+ (bE.toArray.size:Int)).toNat=j:=by
   rw[seqIndex_neg (by omega) h3] at h1;rw[aaD,<-hl];exact aaS h1
  exact PySem.W.ki_setBack ho (by omega) (by rw[aaD,<-hl];exact h3) (by omega) (by rw[hk];exact⟨_,I',q⟩)
theorem rE (lo hi:Option Int) (n:Nat):(sliceBounds lo hi none n).1=((HT.eR n 0 lo:Nat):Int)/\(sliceBounds lo hi none n).2.1=((HT.eR n n hi:Nat):Int)/\(sliceBounds lo hi none n).2.2=1:=by
 refine⟨?_,?_,rfl⟩
 ·cases lo with
  | none=>simp [sliceBounds,HT.eR]
  | some i=>
   simp only[sliceBounds,HT.eR,Option.getD_none,show(1:Int) >0 by decide,if_true]
   by_cases h:i<0
   ·simp only[h,if_true] <;>omega
   ·simp only[h,if_false] <;>omega
 ·cases hi with
  | none=>simp [sliceBounds,HT.eR]
  | some i=>
   simp only[sliceBounds,HT.eR,Option.getD_none,show(1:Int) >0 by decide,if_true]
   by_cases h:i<0
   ·simp only[h,if_true] <;>omega
   ·simp only[h,if_false] <;>omega
theorem pN (bE:List Value) (lo hi:Option Int):slicePick bE.toArray lo hi none=((bE.drop (HT.eR bE.length 0 lo)).take (HT.eR bE.length bE.length hi - HT.eR bE.length 0 lo)).toArray:=by
 obtain⟨h1,h2,h3⟩:=rE lo hi bE.toArray.size;unfold slicePick;rw[h1,h2,h3];simp only[sliceRange_one,pick_run,aaD] <;>rfl
noncomputable def rSlL (K:PySem.W.Frag):V->Option Int->Option Int->Hp->VK->Prop:=λx lo hi H Q=>∃a xs,x=.ref a/\bT K H a xs/\∀p,H p=none->Q (.ref p) (upd H p (.lst (pL xs lo hi)))
theorem Dp:JQ X (rSlL X.K):=by
 intro pins s σ H x v vl vu lo hi sl Q I rx hs pl pu h;obtain⟨a,xs,rfl,hx,q⟩:=h;cases rx;obtain⟨bE,r,ht,hz⟩:=I.list hx;have hlen:=r.length;refine⟨"list",_,slot_list_getitem.lookup,ht.isList.typeIs,?_⟩;refine wpAny_getItem_list_slice ht.isList hs pl pu .none (by simp) ?_ (by rw[aaD] <;>omega);rw[pN,<-hlen];refine⟨.ref s.heap.objs.size,_,I.laid (t':=s.toks) (o:=.lst (pL xs lo hi)) (λb ob q=>Heap.get?_push_of_some _ q) (aav _) ?_,rfl,q _ (I.bV.fresh (aav _))⟩;exact⟨aaI (mG xs lo hi) hz,_,0,(r.drop (HT.eR xs.length 0 lo)).take (HT.eR xs.length xs.length hi - HT.eR xs.length 0 lo),Heap.get?_push_size _ rfl⟩
noncomputable def qv:V->Bool
 | .dP=>true
 | .bl _=>true
 | .int _=>true
 | .str _=>true
 | _=>false
noncomputable def YI:V->V->Bool
 | .dP,.dP=>true
 | .bl a,.bl b=>a==b
 | .bl a,.int b=>(if a then 1 else 0)==b
 | .int a,.bl b=>a==(if b then 1 else 0)
 | .int a,.int b=>a==b
 | .str a,.str b=>a==b
 | _,_=>false
noncomputable def inV (x:V) (xs:List V):Bool:=xs.any λy=>YI y x
theorem iA:dz X (.builtin "len") (λxs H Q=>∃p ys,xs=[.ref p]/\(bT X.K H p ys\/iX X.K H p ys)/\Q (.int ys.length) H):=by
 intro pins s σ H xs us Q I r h;obtain⟨p,ys,rfl,hq,q⟩:=h;obtain⟨u,rfl,rx⟩:=vals1 r;cases rx;have hn:=rD;rcases hq with hq | hq
 ·obtain⟨bE,r',pl,hz⟩:=I.list hq;have hlen:=r'.length;exact Calls.call_len_list pl.isList (by simp only[aaD] <;>omega) ⟨.int ys.length,H,I.tok _,⟨s.toks+1,by rw[aaD,hlen]⟩,q⟩
 ·obtain⟨bE,r',pl,hz⟩:=I.tuple hq;have hlen:=r'.length;exact len_tuple pl (by simp only[aaD] <;>omega) ⟨.int ys.length,H,I.tok _,⟨s.toks+1,by rw[aaD,hlen]⟩,q⟩
theorem rF:dz X (.type "list") (λxs H Q=>∃p ys,xs=[.ref p]/\(bT X.K H p ys\/iX X.K H p ys)/\∀l,H l=none->Q (.ref l) (upd H l (.lst ys))):=by
 intro pins s σ H xs us Q I r h;obtain⟨p,ys,rfl,hq,q⟩:=h;obtain⟨u,rfl,rx⟩:=vals1 r;cases rx;have fin:∀(bE:List Value),bQ ys bE->ys.length<=sizeLine->∀(h':Heap) (c':Nat),(∀b o',s.heap.get? b=some o'->h'.get? b=some o')->
   h'.get? s.heap.objs.size=some {cls:=.type "list",dict:=none,data:=.seq bE.toArray c',slots:=#[]}->EP X pins σ Q (.ref s.heap.objs.size) {s with heap:=h'}:=λbE r' hz h' c' kp e=>
  ⟨.ref s.heap.objs.size,_,I.laid (t':=s.toks) kp (aav _) (show cF X.prog X.w _ h' _ (.lst ys) from⟨hz,bE,c',r',e⟩),rfl,q _ (I.bV.fresh (aav _))⟩
 rcases hq with hq | hq
 ·obtain⟨bE,r',pl,hz⟩:=I.list hq;have hlen:=r'.length;obtain⟨o,ho,hc,n,hd⟩:=pl.isList;exact call_list_seq p (.inl rfl) ho hc hd (λh' c' kp e=>fin bE r' hz h' c' kp e) (by simp only[aaD] <;>omega)
 ·obtain⟨bE,r',pl,hz⟩:=I.tuple hq;have hlen:=r'.length;obtain⟨o,ho,hc,n,hd⟩:=pl;exact call_list_seq p (.inr rfl) ho hc hd (λh' c' kp e=>fin bE r' hz h' c' kp e) (by simp only[aaD] <;>omega)
theorem pO:dz X (.type "tuple") (λxs H Q=>∃p ys,xs=[.ref p]/\((bT X.K H p ys/\∀l,H l=none->Q (.ref l) (upd H l (.tup ys)))\/(iX X.K H p ys/\Q (.ref p) H))):=by
 intro pins s σ H xs us Q I r h;obtain⟨p,ys,rfl,h⟩:=h;obtain⟨u,rfl,rx⟩:=vals1 r;cases rx;rcases h with ⟨hq,q⟩ | ⟨hq,q⟩
 ·obtain⟨bE,r',pl,hz⟩:=I.list hq;have hlen:=r'.length;refine call_tuple_list pl.isList (λh' kp=>?_) (by simp only[aaD] <;>omega);have I1:Inv X pins σ H {s with heap:=h'}:=I.kept (t':=s.toks) kp;have I2:Inv X pins σ (upd H h'.objs.size (.tup ys)) {s with heap:=h'.push {cls:=.type "tuple",data:=.seq bE.toArray}}:=
   I1.laid (t':=s.toks) (λb o e=>Heap.get?_push_of_some _ e) (aav _) (show cF X.prog X.w _ _ _ (.tup ys) from⟨hz,bE,r',IsTup.new _ _⟩)
  exact⟨.ref h'.objs.size,_,I2,rfl,q _ (I1.bV.fresh (aav _))⟩
 ·obtain⟨bE,r',pl,hz⟩:=I.tuple hq;exact call_tuple_same pl ⟨.ref p,H,I,rfl,q⟩
noncomputable def E3 (K:PySem.W.Frag) (T:String) (x:V) (H:Hp):Prop:=match x with
 | .str _=>T="str"
 | .int _=>T="int"
 | .ref p=>(T="list"/\∃xs,bT K H p xs)\/(T="tuple"/\∃o,K.lookup p=some o/\o.cls=.type "tuple"/\o.dict=none)\/
   (T="dict"/\((∃kvs,H p=some (.dK kvs))\/∃kvs,H p=some (.dT kvs)))\/(T="set"/\∃S n,H p=some (.set S n))
 | _=>False
theorem vS {pins:List (Addr×Obj)} {σ:St} {H:Hp} {s:Shared} {T:String} {x:V} {v:Value} (I:Inv X pins σ H s) (r:RelV x v) (ty:E3 X.K T x H):
  s.TypeIs v T/\∀a,v=.ref a->∃ob,s.heap.get? a=some ob/\ob.dict=none:=by
 cases x with
 | str z=>
  obtain⟨t,rfl⟩:=r;cases (show T="str" from ty);exact⟨typeIs_str s z t,λ_ e=>nomatch e⟩
 | int i=>
  obtain⟨t,rfl⟩:=r;cases (show T="int" from ty);exact⟨typeIs_int s i t,λ_ e=>nomatch e⟩
 | ref p=>
  cases r;rcases ty with ⟨rfl,xs,hq⟩ | ⟨rfl,o,hk,hc,hd⟩ | ⟨rfl,hk⟩ | ⟨rfl,S,n,hk⟩
  ·obtain⟨bE,_,pl,_⟩:=I.list hq;refine⟨pl.isList.typeIs,λa e=>?_⟩;cases e;obtain⟨o,n,e,c,hd,_⟩:=pl;exact⟨o,e,hd⟩
  ·refine⟨⟨o,I.jE p o hk,hc⟩,λa e=>?_⟩;cases e;exact⟨o,I.jE _ o hk,hd⟩
  ·have z:∃o,s.heap.get? p=some o/\o.ExactDict:=by
    rcases hk with ⟨kvs,hk⟩ | ⟨kvs,hk⟩
    ·obtain⟨_,_,_,_,o,_,_,e,ex,_⟩:=I.bV p _ hk;exact⟨o,e,ex⟩
    ·obtain⟨_,_,_,_,o,_,_,e,ex,_⟩:=I.bV p _ hk;exact⟨o,e,ex⟩
   obtain⟨o,e,ex⟩:=z;refine⟨⟨o,e,ex.1⟩,λa e2=>?_⟩;cases e2;exact⟨o,e,ex.2.1⟩
  ·obtain⟨o,_,_,_,e,ex,_⟩:=I.bV p _ hk;refine⟨⟨o,e,ex.1⟩,λa e2=>?_⟩;cases e2;exact⟨o,e,ex.2.1⟩
 | _=>exact False.elim ty
noncomputable def JS (K:PySem.W.Frag) (T:String) (r:V->List V->Hp->VK->Prop) (to:TE):TE:=λσ H Q=>to σ H λx H1=>E3 K T x H1/\r x [] H1 Q
noncomputable def tBM (K:PySem.W.Frag) (T:String) (r:V->List V->Hp->VK->Prop) (to:TE) (t:TA):TE:=λσ H Q=>to σ H λx H1=>E3 K T x H1/\t σ H1 λxs H2=>r x xs H2 Q
variable {o e : Expr} {es : List Expr} {to : TE} {t : TA} {name : Str} {apos dO : Pos} {T id : String} {r : V -> List V -> Hp -> VK -> Prop}
theorem GH (pa:PlainAttrs T) (slot:Slot T name id) (PU:typeOf (.builtin id)=pure (.type "method_descriptor")) (hm:IP X id r) (ho:PE X o to)
  (tX:attributeBase o name X.env (eval o X.env)=eval o X.env:=by rfl) (tY:(apos.endLine==dO.line)=true:=by rfl):PE X (.Call (.Attribute o name apos) [] [] dO) (JS X.K T r to):=by
 intro pins s σ H Q I h;refine wpAny_Call_method0_late tX tY (cu (ho pins s σ H _ I h) λv s1 dD=>?_);obtain⟨x,H1,I1,r1,ty,q1⟩:=dD;obtain⟨h1,h2⟩:=vS I1 r1 ty;exact⟨T,id,pa,slot,PU,h1,h2,Calls.callWith_builtin rfl (PySem.evalArgs_none (hm pins s1 σ H1 x [] v [] Q I1 r1 .nil q1))⟩
theorem eI (pa:PlainAttrs T) (slot:Slot T name id) (PU:typeOf (.builtin id)=pure (.type "method_descriptor")) (hm:IP X id r) (ho:PE X o to) (ha:PA X (e::es) t)
  (tX:attributeBase o name X.env (eval o X.env)=eval o X.env:=by rfl)
  (PV:((backTo dO (starEach (e::es) X.env)).all (λx=>!x.1) && (backToKw dO (keywordEach [] X.env)).all (λx=>x.1.isSome)
   && decide ((e::es).length+ ([]:List Keyword).length+ (if ([]:List Keyword).isEmpty then 0 else 1)<30))=true:=by rfl)
  (tY:(apos.endLine==dO.line)=true:=by rfl) (hs:starEach (e::es) X.env=(false,eval e X.env)::starEach es X.env:=by rfl) (GI:(backTo dO (starEach es X.env)).any (·.1)=false:=by rfl):
  PE X (.Call (.Attribute o name apos) (e::es) [] dO) (tBM X.K T r to t):=by
 intro pins s σ H Q I h;refine wpAny_Call_method_late tX PV tY rfl (cu (ho pins s σ H _ I h) λv s1 dD=>?_);obtain⟨x,H1,I1,r1,ty,q1⟩:=dD;obtain⟨h1,h2⟩:=vS I1 r1 ty;refine⟨T,id,pa,slot,PU,h1,h2,?_⟩;have hA:=ha dO pins s1 σ H1 _ I1 q1;rw[hs] at hA ⊢;refine Calls.callWith_builtin (by show(false || (backTo dO (starEach es X.env)).any (·.1))=false;rw[GI] <;>rfl) (Calls.evalArgs_plain ?_);exact cu hA λus s2 ⟨vs,H2,I2,r2,q2⟩=>hm pins s2 σ H2 x vs v us Q I2 r1 r2 q2
end
noncomputable def IQ (X:Cx) (id:String) (r:V->List V->Hp->VK->Prop):Prop:=
 ∀(pins:List (Addr×Obj)) (s:Shared) (σ:St) (H:Hp) (x:V) (xs:List V) (v:Value) (us:List Value) (Q:VK),Inv X pins σ H s->RelV x v->bQ xs us->r x xs H Q->
  wpAny (model X.prog X.w) X.A (call (.builtin id) (v::us)) (EP X pins σ Q) X.xe s
theorem bQ.one:∀{x:V} {us:List Value},bQ [x] us->∃u,us=[u]/\RelV x u
 | _,_,.cons r .nil=>⟨_,rfl,r⟩
theorem bQ.zero:∀{us:List Value},bQ [] us->us=[]
 | _,.nil=>rfl
theorem bQ.reverse {xs:List V} {us:List Value} (h:bQ xs us):bQ xs.reverse us.reverse:=by
 induction h with
 | nil=>exact .nil
 | cons r t ih=>rw[List.reverse_cons,List.reverse_cons];exact bQ.append ih (.cons r .nil)
theorem bQ.rep {xs:List V} {us:List Value} (h:bQ xs us):∀k:Nat,bQ (List.replicate k xs).flatten (List.replicate k us).flatten
 | 0=>.nil
 | k+1=>by
  rw[abo,abo,List.flatten_cons,List.flatten_cons];exact bQ.append h (bQ.rep h k)
theorem foldl_rep (bE:List Value):∀(k:Nat) (acc:List Value),
  List.foldl (λx1 x2=>x1++x2) acc.toArray (List.replicate k bE.toArray)=(acc++ (List.replicate k bE).flatten).toArray
 | 0,acc=>by simp
 | k+1,acc=>by
  have e:acc.toArray++bE.toArray=(acc++bE).toArray:=by simp
  have e2:(acc++bE)++ (List.replicate k bE).flatten=acc++ (List.replicate (k+1) bE).flatten:=by
   rw[abo,List.flatten_cons,List.append_assoc]
  rw[<-e2,<-foldl_rep bE k (acc++bE),<-e,abo,List.foldl_cons]
section
variable {X : Cx} {pins : List (Addr × Obj)} {σ : St} {H : Hp} {s : Shared} {l b : Addr} {xs ys zs : List V}
theorem Inv.GJ {bE its':List Value} {n:Nat} {f:Array Value->Array Value} {t':Nat} (I:Inv X pins σ H s) (hH:H l=some (.lst xs))
  (e:s.heap.get? l=some {cls:=.type "list",data:=.seq bE.toArray n}) (hf:f bE.toArray=its'.toArray) (hv:bQ ys its') (hz:ys.length<=sizeLine):
  Inv X pins σ (upd H l (.lst ys)) {s with heap:=s.heap.update l (Obj.mapSeq f),toks:=t'}:=by
 have q:=PySem.IsL.update e f;rw[hf] at q;refine I.write (x:=l) (e:=l) (by rw[hH];exact trivial) (.inl rfl) (λb' u hb hu=>(Heap.get?_update_other s.heap (Obj.mapSeq f) (Ne.symm hb)).trans hu) ⟨_,q⟩ ?_;exact⟨hz,its',_,hv,q⟩
theorem Inv.JT {bE:List Value} {t':Nat} (I:Inv X pins σ H s) (hv:bQ ys bE) (hz:ys.length<=sizeLine):
  Inv X pins σ (upd H s.heap.objs.size (.lst ys)) {s with heap:=s.heap.push {cls:=.type "list",data:=.seq bE.toArray},toks:=t'}:=
 I.laid (λ_ _ q=>Heap.get?_push_of_some _ q) (aav _) ⟨hz,bE,0,hv,Heap.get?_push_size _ rfl⟩
theorem Inv.fresh (I:Inv X pins σ H s):H s.heap.objs.size=none:=I.bV.fresh (aav _)
theorem Inv.vT (I:Inv X pins σ H s) (hH:H l=some (.lst xs)):xs.length<=sizeLine/\∃(bE:List Value) (n:Nat),bQ xs bE/\xs.length=bE.length/\s.heap.get? l=some {cls:=.type "list",data:=.seq bE.toArray n}:=by
 obtain⟨z,bE,n,r,e⟩:=I.bV l _ hH;exact⟨z,bE,n,r,r.length,e⟩
theorem tZ {n:Nat} (h:n<=sizeLine):Builtin.List.listTooLong n=false:=by
 unfold Builtin.List.listTooLong;exact decide_eq_false (by omega)
end
section
variable {X : Cx}
noncomputable def dt:V->List V->Hp->VK->Prop:=λx vs H Q=>∃l xs y,x=.ref l/\vs=[y]/\H l=some (.lst xs)/\xs.length<sizeLine/\Q .dP (upd H l (.lst (xs++ [y])))
theorem cQ:IQ X "list.append" dt:=by
 intro pins s σ H x vs v us Q I rx rv h;obtain⟨l,xs,y,rfl,rfl,hH,hz,q⟩:=h;cases rx;obtain⟨u,rfl,ru⟩:=rv.one;obtain⟨z,bE,n,r,hl,e⟩:=I.vT hH;refine call_meets F.slot_list_append ⟨_,e,rfl⟩ F.entry_list_append (F.args_list_append_2 _ _) (PySem.list_append l bE.toArray n u (by rw[aaD];omega)) ⟨e,?_⟩;refine⟨.dP,_,I.GJ (its':=bE++ [u]) hH e (by simp) (r.append (.cons ru .nil)) ?_,rfl,q⟩;rw[aay,aa0];omega
noncomputable def kH:V->List V->Hp->VK->Prop:=λx vs H Q=>∃l b xs zs,x=.ref l/\vs=[.ref b]/\H l=some (.lst xs)/\H b=some (.lst zs)/\xs.length+zs.length<=sizeLine/\Q .dP (upd H l (.lst (xs++zs)))
theorem jx:IQ X "list.extend" kH:=by
 intro pins s σ H x vs v us Q I rx rv h;obtain⟨l,b,xs,zs,rfl,rfl,hH,hB,hz,q⟩:=h;cases rx;obtain⟨u,rfl,ru⟩:=rv.one;cases ru;obtain⟨z,bE,n,r,hl,e⟩:=I.vT hH;obtain⟨z2,vU,n2,r2,Ac,e2⟩:=I.vT hB;have hsz:bE.toArray.size+vU.toArray.size<=sizeLine:=by rw[aaD,aaD];omega
 have AN:¬(!bE.toArray.isEmpty && Builtin.List.listTooLong (bE.toArray.size+vU.toArray.size))=true:=by
  rw[tZ hsz,Bool.and_false];exact aaM
 refine call_meets F.slot_list_extend ⟨_,e,rfl⟩ F.entry_list_extend (F.args_list_extend_2 _ _)
  (AutoSeq1.list_extend_list_list_0 l bE.toArray n b vU.toArray n2 AN (by rw[aaD];omega) (by omega)) ⟨e,e2,?_⟩
 refine⟨.dP,_,I.GJ (its':=bE++vU) hH e (by simp) (r.append r2) ?_,rfl,q⟩;rw[aay];omega
noncomputable def ua:V->List V->Hp->VK->Prop:=λx vs H Q=>∃l xs,x=.ref l/\vs=[]/\H l=some (.lst xs)/\Q .dP (upd H l (.lst xs.reverse))
theorem vV:IQ X "list.reverse" ua:=by
 intro pins s σ H x vs v us Q I rx rv h;obtain⟨l,xs,rfl,rfl,hH,q⟩:=h;cases rx;have hus:=rv.zero;subst hus;obtain⟨z,bE,n,r,hl,e⟩:=I.vT hH;refine call_meets F.slot_list_reverse ⟨_,e,rfl⟩ F.entry_list_reverse (F.args_list_reverse_1 _) (AutoSeq1.list_reverse_list_0 l bE.toArray n (by rw[aaD];omega)) ⟨e,?_⟩;refine⟨.dP,_,I.GJ (its':=bE.reverse) hH e (by simp) r.reverse ?_,rfl,q⟩;rw[abp];omega
noncomputable def nZ:R2:=λx y H Q=>∃l b xs zs,x=.ref l/\y=.ref b/\H l=some (.lst xs)/\H b=some (.lst zs)/\xs.length+zs.length<=sizeLine/\∀p,H p=none->Q (.ref p) (upd H p (.lst (xs++zs)))
theorem gQ:lQ X (binaryOp .Add) nZ:=by
 intro pins s σ H x y v u Q I rx ry h;obtain⟨l,b,xs,zs,rfl,rfl,hH,hB,hz,q⟩:=h;cases rx;cases ry;obtain⟨z,bE,n,r,hl,e⟩:=I.vT hH;obtain⟨z2,vU,n2,r2,Ac,e2⟩:=I.vT hB;refine PySem.P.add_list e e2 ?_ (by rw[aaD,aaD];omega);have ea:bE.toArray++vU.toArray=(bE++vU).toArray:=by simp
 rw[ea];exact⟨.ref _,_,I.JT (t':=s.toks) (r.append r2) (by rw[aay];omega),rfl,q _ I.fresh⟩
noncomputable def Dq:R2:=λx y H Q=>∃l k xs,x=.ref l/\y=.int k/\H l=some (.lst xs)/\-(2^63)<=k/\k<2^63/\xs.length*k.toNat<=sizeLine/\
 ∀p,H p=none->Q (.ref p) (upd H p (.lst (List.replicate k.toNat xs).flatten))
theorem len_rep {α:Type} (xs:List α) (k:Nat):(List.replicate k xs).flatten.length=k*xs.length:=by
 induction k with
 | zero=>simp
 | succ k ih=>rw[abo,List.flatten_cons,aay,ih,Nat.succ_mul,Nat.add_comm]
theorem vW:lQ X (binaryOp .Mult) Dq:=by
 intro pins s σ H x y v u Q I rx ry h;obtain⟨l,k,xs,rfl,rfl,hH,h1,h2,hz,q⟩:=h;cases rx;obtain⟨t,rfl⟩:=ry;obtain⟨z,bE,n,r,hl,e⟩:=I.vT hH;have hlen:bE.toArray.size*k.toNat<=sizeLine:=by rw[aaD,<-hl];exact hz
 have PX:¬bE.toArray.size*k.toNat >(2^63 - 1) / 8:=by
  have:(sizeLine:Nat)<=(2^63 - 1) / 8:=by decide
  omega
 have PY:¬(!Builtin.List.listFitsIndex k)=true:=by
  rw[fitsIndex_both h1 h2];exact aaM
 have AN:¬Builtin.List.listTooLong (bE.toArray.size*k.toNat)=true:=by
  rw[tZ hlen];exact aaM
 have PZ:List.foldl (λx1 x2=>x1++x2) #[] (List.replicate (if bE.toArray.isEmpty=true then 0 else k.toNat) bE.toArray)=(List.replicate k.toNat bE).flatten.toArray:=by
  have f0:∀m:Nat,List.foldl (λx1 x2=>x1++x2) #[] (List.replicate m bE.toArray)=(List.replicate m bE).flatten.toArray:=λm=>by
   have:=foldl_rep bE m [];rw[List.nil_append] at this;exact this
  rw[f0];cases bE with
  | nil=>simp
  | cons a r'=>rw[if_neg (by simp)]
 refine wpAny_binaryOp_repeat_ref (T:="list") (U:="int") (by decide) ⟨_,e,rfl⟩ (λs'=>typeIs_int s' k t) noFill_list_mul F.fills_int_mul F.slot_int_rmul repeat_list F.slot_int_index.lookup
  (call_meets F.slot_int_rmul (typeIs_int s k t) F.entry_int_rmul (F.args_int_rmul_2 _ _) (int___rmul___int_list k t l bE.toArray n)
   ⟨e,rfl,⟨_,e,rfl⟩,call_meets F.slot_list_mul ⟨_,e,rfl⟩ F.entry_list_mul (F.args_list_mul_2 _ _) (AutoListH.list___mul___list_int_3 l bE.toArray n k t PY PX AN) ⟨e,?_⟩⟩)
 rw[PZ];exact⟨.ref _,_,I.JT (t':=s.toks) (r.rep k.toNat) (by rw[len_rep,Nat.mul_comm];exact hz),rfl,q _ I.fresh⟩
end
section
variable {prog : Program} {w : World} {A : Around} {E : Value -> Shared -> Prop} {s : Shared}
end
section
variable {X : Cx}
end
section
variable {κ : Type} [DecidableEq κ]
noncomputable def eE (kvs:List (κ×V)) (k:κ):Option V:=(kvs.find? λkv=>decide (kv.1=k)).map (·.2)
noncomputable def putK (kvs:List (κ×V)) (k:κ) (v:V):List (κ×V):=
 if (kvs.any λkv=>decide (kv.1=k))=true then kvs.map (λkv=>if kv.1=k then (kv.1,v) else kv) else kvs++ [(k,v)]
noncomputable def JU (kvs:List (κ×V)) (k:κ):List (κ×V):=kvs.filter λkv=>decide (kv.1≠k)
theorem jf {p:κ×V} {r:List (κ×V)} {k:κ} (e:p.1=k):eE (p::r) k=some p.2:=by simp [eE,abd,e]
theorem fZ {p:κ×V} {r:List (κ×V)} {k:κ} (e:¬p.1=k):eE (p::r) k=eE r k:=by simp [eE,abd,e]
theorem ub (k:κ):∀kvs:List (κ×V),(kvs.any λkv=>decide (kv.1=k))=(eE kvs k).isSome
 | []=>rfl
 | p::r=>by
  rw[List.any_cons]
  by_cases e:p.1=k
  ·simp only[jf e,decide_eq_true e,Bool.true_or,Option.isSome_some]
  ·rw[fZ e,decide_eq_false e,Bool.false_or];exact ub k r
theorem mH (kvs:List (κ×V)) (k:κ) (v:V):(putK kvs k v).length<=kvs.length+1:=by
 unfold putK
 split
 ·rw[aat];omega
 ·rw[aay,aaF,abe];omega
theorem iU.lX {o:Option V} {u:Option Value} (r:iU o u):o.isSome=u.isSome:=by
 cases o with
 | none=>cases u with
  | none=>rfl
  | some _=>exact(show False from r).elim
 | some _=>cases u with
  | none=>exact(show False from r).elim
  | some _=>rfl
theorem iU.getD {o:Option V} {u:Option Value} {d:V} {d':Value} (r:iU o u) (rd:RelV d d'):RelV (o.getD d) (u.getD d'):=by
 cases o with
 | none=>cases u with
  | none=>exact rd
  | some _=>exact(show False from r).elim
 | some _=>cases u with
  | none=>exact(show False from r).elim
  | some _=>exact r
theorem KV.val {kvs:List (κ×V)} {vs:List (κ×Value)} (r:KV kvs vs) (k:κ):iU (eE kvs k) (valueAt vs k):=by
 unfold KV at r
 induction r with
 | nil=>exact True.intro
 | @cons p q ps qs h t ih=>
  obtain⟨h1,h2⟩:=h
  by_cases e:p.1=k
  ·have e':q.1=k:=h1.symm.trans e;have b:valueAt (q::qs) k=some q.2:=by simp [valueAt,abd,e']
   rw[jf e,b];exact h2
  ·have e':¬q.1=k:=λz=>e (h1.trans z);have b:valueAt (q::qs) k=valueAt qs k:=by simp [valueAt,abd,e']
   rw[fZ e,b];exact ih
theorem KV.any {kvs:List (κ×V)} {vs:List (κ×Value)} (r:KV kvs vs) (k:κ):(kvs.any λkv=>decide (kv.1=k))=vs.any λkv=>decide (kv.1=k):=by
 unfold KV at r
 induction r with
 | nil=>rfl
 | cons h t ih=>rw[List.any_cons,List.any_cons,ih,h.1]
theorem KV.GK {kvs:List (κ×V)} {vs:List (κ×Value)} (r:KV kvs vs) (k:κ) {y:V} {u:Value} (ry:RelV y u):
  KV (kvs.map λkv=>if kv.1=k then (kv.1,y) else kv) (vs.map λkv=>if kv.1=k then (kv.1,u) else kv):=by
 unfold KV at r ⊢
 induction r with
 | nil=>exact .nil
 | @cons p q ps qs h t ih=>
  rw[aaw,aaw];refine .cons ?_ ih;obtain⟨h1,h2⟩:=h
  by_cases e:p.1=k
  ·rw[if_pos e,if_pos (h1.symm.trans e)];exact⟨h1,ry⟩
  ·rw[if_neg e,if_neg (λz=>e (h1.trans z))];exact⟨h1,h2⟩
theorem KV.put {kvs:List (κ×V)} {vs:List (κ×Value)} (r:KV kvs vs) (k:κ) {y:V} {u:Value} (ry:RelV y u):KV (putK kvs k y) (stored vs k u):=by
 unfold putK stored;rw[r.any k]
 by_cases e:(vs.any λkv=>decide (kv.1=k))=true
 ·rw[if_pos e,if_pos e];exact r.GK k ry
 ·rw[if_neg e,if_neg e];exact Paired.snoc r ⟨rfl,ry⟩
theorem KV.length {kvs:List (κ×V)} {vs:List (κ×Value)} (r:KV kvs vs):kvs.length=vs.length:=Paired.length r
end
theorem oa {P:Program} {w:World} {k:Key} {u:Value} (r:RelV (kV k) u):(cM P w).is k u=true:=by
 cases k with
 | inl i=>obtain⟨t,e⟩:=(show ∃t,u=Value.int i t from r);subst e;exact tL P w i t
 | inr x=>obtain⟨t,e⟩:=(show ∃t,u=Value.str x t from r);subst e;exact tM P w x t
theorem qw {P:Program} {w:World}:∀{ks:List Key} {us:List Value},bQ (ks.map kV) us->ItemsAre (cM P w) ks us
 | [],_,r=>by rw[aaT] at r;cases r;exact .nil
 | k::ks,_,r=>by
  rw[aaw] at r;cases r with
  | cons h t=>exact .cons (oa h) (qw t)
abbrev KT (H:Hp):List (List Key×V)->List (List Key×Addr×Value)->Prop:=Paired λp q=>p.1=q.1/\H q.2.1=some (.tup (p.1.map kV))/\RelV p.2 q.2.2
theorem KT.val {H:Hp} {kvs:List (List Key×V)} {xs:List (List Key×Addr×Value)} (r:KT H kvs xs) (k:List Key):iU (eE kvs k) ((atKey xs k).map (·.2)):=by
 induction r with
 | nil=>exact True.intro
 | @cons p q ps qs h t ih=>
  obtain⟨h1,_,h2⟩:=h
  by_cases e:p.1=k
  ·have e':q.1=k:=h1.symm.trans e;have b:atKey (q::qs) k=some q.2:=by simp [atKey,abd,e']
   rw[jf e,b];exact h2
  ·have e':¬q.1=k:=λz=>e (h1.trans z);have b:atKey (q::qs) k=atKey qs k:=by simp [atKey,abd,e']
   rw[fZ e,b];exact ih
theorem KT.GK {H:Hp} {kvs:List (List Key×V)} {xs:List (List Key×Addr×Value)} (r:KT H kvs xs) (k:List Key) {y:V} {u:Value} (ry:RelV y u):
  KT H (kvs.map λkv=>if kv.1=k then (kv.1,y) else kv) (xs.map (putAt k u)):=by
 induction r with
 | nil=>exact .nil
 | @cons p q ps qs h t ih=>
  rw[aaw,aaw];refine .cons ?_ ih;obtain⟨h1,h2,h3⟩:=h;unfold putAt
  by_cases e:p.1=k
  ·rw[if_pos e,if_pos (h1.symm.trans e)];exact⟨h1,h2,ry⟩
  ·rw[if_neg e,if_neg (λz=>e (h1.trans z))];exact⟨h1,h2,h3⟩
theorem KT.put {H:Hp} {kvs:List (List Key×V)} {xs:List (List Key×Addr×Value)} (r:KT H kvs xs) (k:List Key) {b:Addr} {y:V} {u:Value} (hb:H b=some (.tup (k.map kV))) (ry:RelV y u):
  KT H (putK kvs k y) (storedH xs k b u):=by
 have e:(kvs.any λkv=>decide (kv.1=k))=(atKey xs k).isSome:=by
  rw[ub,(r.val k).lX,Option.isSome_map]
 unfold putK storedH;rw[e]
 by_cases q:(atKey xs k).isSome=true
 ·rw[if_pos q,if_pos q];exact r.GK k ry
 ·rw[if_neg q,if_neg q];exact Paired.snoc r ⟨rfl,hb,ry⟩
theorem KT.keeps {H H':Hp} {kvs:List (List Key×V)} {xs:List (List Key×Addr×Value)} (r:KT H kvs xs) (ht:∀b ys,H b=some (.tup ys)->H' b=some (.tup ys)):KT H' kvs xs:=
 Paired.Gn r λ_ _ z=>⟨z.1,ht _ _ z.2.1,z.2.2⟩
section
variable {P : Program} {w : World} {H : Hp} {h : Heap} {a : Addr}
theorem E4 {u:HO} (ok:gy P w H h) (e:Rd H a u):cF P w H h a u:=e.ok ok
theorem mI {kvs:List (Key×V)} (ok:gy P w H h) (e:Rd H a (.dK kvs)):kvs.length<=sizeLine/\(a==sysModules)=false/\∃vs,KV kvs vs/\h.DictOf (cM P w) a vs:=
 show cF P w H h a (.dK kvs) from E4 ok e
theorem AO {kvs:List (Key×V)} (ok:gy P w H h) (e:H a=some (.dK kvs)):kvs.length<=sizeLine/\(a==sysModules)=false/\∃vs,KV kvs vs/\h.DictOf (cM P w) a vs:=mI ok (.inl e)
theorem og {ks:List Key} (ok:gy P w H h) (e:H a=some (.tup (ks.map kV))):(tupleKind (cM P w)).is h ks a:=by
 obtain⟨_,bE,r,o,h1,h2,n,h3⟩:=(show cF P w H h a (.tup (ks.map kV)) from ok a _ e)
 exact⟨o,bE.toArray,n,h1,h2,h3,by simpa using qw r⟩
theorem qx {kvs:List (List Key×V)} (ok:gy P w H h) (e:Rd H a (.dT kvs)):kvs.length<=sizeLine/\(a==sysModules)=false/\
  ∃xs,KT H kvs xs/\h.DictOfH (tupleKind (cM P w)) a xs:=by
 obtain⟨z,y,xs,r,o,es,ep,h1,h2,h3,h4,h5⟩:=(show cF P w H h a (.dT kvs) from E4 ok e)
 refine⟨z,y,xs,r,o,es,ep,h1,h2,h3,h4,λx hx=>?_,h5⟩;have all:∀{l:List (List Key×V)} {m:List (List Key×Addr×Value)},KT H l m->∀x∈m,(tupleKind (cM P w)).is h x.1 x.2.1:=by
  intro l m q
  induction q with
  | nil=>intro x hx;exact nomatch hx
  | @cons p q ps qs hq t ih=>
   intro x hx;rcases List.mem_cons.mp hx with e | hx
   ·subst e;exact og ok (by rw[<-hq.1];exact hq.2.1)
   ·exact ih x hx
 exact all r x hx
theorem JV {kvs:List (List Key×V)} (ok:gy P w H h) (e:H a=some (.dT kvs)):kvs.length<=sizeLine/\(a==sysModules)=false/\
  ∃xs,KT H kvs xs/\h.DictOfH (tupleKind (cM P w)) a xs:=qx ok (.inl e)
end
noncomputable def kI (H:Hp) (a:Addr) (y:V) (r:Option V):Prop:=
 (∃kvs k,Rd H a (.dK kvs)/\y=kV k/\r=eE kvs k)\/∃kvs k b,Rd H a (.dT kvs)/\y=.ref b/\H b=some (.tup (k.map kV))/\r=eE kvs k
noncomputable def yW (H:Hp) (a:Addr) (y v:V) (H':Hp):Prop:=
 (∃kvs k,H a=some (.dK kvs)/\y=kV k/\kvs.length<sizeLine/\H'=upd H a (.dK (putK kvs k v)))\/
 ∃kvs k b,H a=some (.dT kvs)/\y=.ref b/\H b=some (.tup (k.map kV))/\kvs.length<sizeLine/\H'=upd H a (.dT (putK kvs k v))
theorem yW.k {H:Hp} {a:Addr} {kvs:List (Key×V)} {k:Key} {v:V} (e:H a=some (.dK kvs)) (hl:kvs.length<sizeLine):yW H a (kV k) v (upd H a (.dK (putK kvs k v))):=.inl ⟨kvs,k,e,rfl,hl,rfl⟩
section
variable {X : Cx} {pins : List (Addr × Obj)} {σ : St} {H : Hp} {s : Shared} {a : Addr} {y v : V} {u r : Value} {o : Option V} {A : Around} {E : Value -> Shared -> Prop}
theorem Inv.P0 (I:Inv X pins σ H s):sysModules<s.heap.objs.size:=by
 have h:mainGlobals<s.heap.objs.size:=(I.mod.glob.keeps I.bk).lt;exact aa8 (by decide) h
theorem yX {Q:Value->Shared->Prop} (hu:A.units+1<cLine) (I:Inv X pins σ H s) (g:kI H a y (some v)) (ry:RelV y u) (h:∀w' s',Inv X pins σ H s'->RelV v w'->Q w' s'):
  wpAny (model X.prog X.w) A (getItem (.ref a) u) Q E s:=by
 rcases g with ⟨kvs,k,e,ey,l⟩ | ⟨kvs,k,b,e,ey,eb,l⟩
 ·subst ey;obtain⟨z,hd,vs,rel,dd⟩:=mI I.bV e;obtain⟨w',hw,tw⟩:=iU.some_of (v:=v) (o:=valueAt vs k) (by rw[l];exact rel.val k);exact wpAny_getItem_of (oa ry) dd.mapOf hw (h w' _ (I.tok _) tw)
 ·subst ey;cases (show u=Value.ref b from ry);obtain⟨z,hd,xs,rel,dd⟩:=qx I.bV e;obtain⟨w',hw,tw⟩:=iU.some_of (v:=v) (o:=(atKey xs k).map (·.2)) (by rw[l];exact rel.val k);obtain⟨p,hp,E5⟩:=Option.map_eq_some_iff.mp hw;refine wpAny_getItem_heap (tupleKind_room_in1 hu) (og I.bV eb) dd hp ?_;rw[E5];exact h w' _ (I.tok _) tw
theorem Dr {Q:Value->Shared->Prop} (hu:A.units+1<cLine) (I:Inv X pins σ H s) (g:kI H a y o) (ry:RelV y u) (h:∀s',Inv X pins σ H s'->Q (.bool (!o.isSome)) s'):
  wpAny (model X.prog X.w) A (compareOp .NotIn u (.ref a)) Q E s:=by
 rcases g with ⟨kvs,k,e,ey,l⟩ | ⟨kvs,k,b,e,ey,eb,l⟩
 ·subst ey;obtain⟨z,hd,vs,rel,dd⟩:=mI I.bV e;refine wpAny_notIn_of (oa ry) hd dd.mapOf ?_;rw[<-(rel.val k).lX,<-l];exact h _ (I.tok _)
 ·subst ey;cases (show u=Value.ref b from ry);obtain⟨z,hd,xs,rel,dd⟩:=qx I.bV e;refine wpAny_notIn_heap (tupleKind_room_in1 hu) (og I.bV eb) hd dd ?_;have q:=(rel.val k).lX;rw[Option.isSome_map] at q;rw[<-q,<-l];exact h _ (I.tok _)
theorem rG {h':Heap} {t':Nat} {ob:HO} (I:Inv X pins σ H s) (mu:JA (H a)) (hs:Heap.SameBut a s.heap h') (he:∃q,h'.get? a=some q) (new:cF X.prog X.w (upd H a ob) h' a ob):
  Inv X pins σ (upd H a ob) {s with heap:=h',toks:=t'}:=
 I.write (x:=a) (e:=a) mu (.inl rfl) (λb q hb z=>(hs.2 b hb).trans z) he new
theorem GL {P:Program} {w:World} {H':Hp} {h':Heap} {kvs:List (Key×V)} {vs:List (Key×Value)} (z:kvs.length<=sizeLine) (hd:(a==sysModules)=false) (rel:KV kvs vs) (dd:h'.DictOf (cM P w) a vs):
  cF P w H' h' a (.dK kvs):=⟨z,hd,vs,rel,dd⟩
theorem yY {H':Hp} {Q:Unit->Shared->Prop} (hu:A.units+1<cLine) (I:Inv X pins σ H s) (g:yW H a y v H') (ry:RelV y u) (rv:RelV v r) (h:∀s',Inv X pins σ H' s'->Q () s'):
  wpAny (model X.prog X.w) A (setItem (.ref a) u r) Q E s:=by
 rcases g with ⟨kvs,k,e,ey,l,eH⟩ | ⟨kvs,k,b,e,ey,eb,l,eH⟩
 ·subst ey eH;obtain⟨z,hd,vs,rel,dd⟩:=AO I.bV e;have hz:vs.length<=sizeLine:=by rw[<-rel.length];exact z
  have hl:(putK kvs k v).length<=sizeLine:=by have:=mH kvs k v;omega
  refine wpAny_setItem_pairs (hsz:=hz) (oa ry) dd λh' GN hs=>h _ ?_;have he:∃q,h'.get? a=some q:=let ⟨q,_,_,hq,_⟩:=GN;⟨q,hq⟩;exact rG I (by rw[e];exact True.intro) hs he (GL hl hd (rel.put k rv) GN)
 ·subst ey eH;cases (show u=Value.ref b from ry);obtain⟨z,hd,xs,rel,dd⟩:=JV I.bV e;have hz:xs.length<=sizeLine:=by rw[<-Paired.length rel];exact z
  have hl:(putK kvs k v).length<=sizeLine:=by have:=mH kvs k v;omega
  refine wpAny_setItem_heap (hsz:=hz) (tupleKind_room_in1 hu) (og I.bV eb) dd λh' GN hs=>h _ ?_;obtain⟨q,es,ep,hq,h2,h3,h4,_,h5⟩:=GN;refine rG I (by rw[e];exact True.intro) hs ⟨q,hq⟩ ⟨hl,hd,_,(rel.put k eb rv).keeps λc ys ec=>?_,q,es,ep,hq,h2,h3,h4,h5⟩;rw[aE (Jz ec e (λz=>nomatch z))];exact ec
end
section
variable {X : Cx} {pins : List (Addr × Obj)} {σ : St} {H : Hp} {s : Shared} {a : Addr} {kvs : List (Key × V)} {k : Key} {u : Value} {A : Around} {E : Value -> Shared -> Prop}
theorem JW {Q:Value->Shared->Prop} (I:Inv X pins σ H s) (e:Rd H a (.dK kvs)) (h:∀t s',Inv X pins σ H s'->Q (.int kvs.length t) s'):wpAny (model X.prog X.w) A (call (.builtin "len") [.ref a]) Q E s:=by
 obtain⟨z,hd,vs,rel,dd⟩:=mI I.bV e;refine call_len_dict hd dd (by rw[<-rel.length];rw[sizeLine_eq] at z;omega) ?_;rw[<-rel.length];exact h _ _ (I.tok _)
end
noncomputable def GO (i:Expr):Prop:=∀ov iv,subscripted i false ov iv=operate [ov,iv] (getItem ov iv)
theorem xE {prog:Program} {w:World} {A:Around} {E:Value->Shared->Prop} {s:Shared} {env:Env} {value slice:Expr} {pos:Pos} {T id:String} {Q:Value->Shared->Prop}
  (hl:typeLookup (.type T) "__getitem__"=pure (some (.builtin id))) (hs:GO slice)
  (h:wpAny (model prog w) A (eval value env) (λo s₁=>wpAny (model prog w) A (eval slice env) (λi s₂=>s₂.TypeIs o T/\wpAny (model prog w) A (getItem o i) Q E s₂) E s₁) E s):
  wpAny (model prog w) A (eval (.Subscript value slice pos) env) Q E s:=by
 refine Subscript_ (wpAny_mono h (λo s₁ h₁=>wpAny_mono h₁ (λi s₂ h₂=>?_) λ_ _ x=>x) λ_ _ x=>x);obtain⟨hT,h₂⟩:=h₂;unfold subscriptTail;refine wpAny_bind ?_;rw[getitemInPython_of_ne hT.not_modules];refine wpAny_bind (wpAny_specialOf hT hl ?_);have fin:wpAny (model prog w) A (subscripted slice false o i) (λr s₃=>wpAny (model prog w) A (letTemporaryGo value o r >>=λ_=>pure r) Q E s₃) E s₂:=by
  rw[hs o i];exact wpAny_operating (wpAny_mono h₂ (λr s₃ h₃=>wpAny_bind (wpAny_letTemporaryGo (wpAny_pure h₃))) λ_ _ x=>x)
 first
  | exact wpAny_pure (wpAny_bind fin)
  | exact wpAny_bind (wpAny_pure (wpAny_bind fin))
  | exact wpAny_bind fin
theorem uc {X:Cx} {pins:List (Addr×Obj)} {σ:St} {H:Hp} {s:Shared} {a:Addr} {y:V} {o:Option V} (I:Inv X pins σ H s) (g:kI H a y o):s.TypeIs (.ref a) "dict":=by
 rcases g with ⟨kvs,k,e,_,_⟩ | ⟨kvs,k,b,e,_,_,_⟩
 ·obtain⟨_,_,vs,_,dd⟩:=mI I.bV e;exact dd.typeIs
 ·obtain⟨_,_,xs,_,dd⟩:=qx I.bV e;exact dd.typeIs
noncomputable def tDGet (td ty:TE):TE:=λσ H Q=>td σ H λx H1=>ty σ H1 λy H2=>∃a v,x=.ref a/\kI H2 a y (some v)/\Q v H2
noncomputable def tDNotIn (ty td:TE):TE:=λσ H Q=>ty σ H λy H1=>td σ H1 λx H2=>∃a o,x=.ref a/\kI H2 a y o/\Q (.bl (!o.isSome)) H2
noncomputable def sDPut (td ty tv:TE):TS:=λD σ H=>tv σ H λv H1=>td σ H1 λx H2=>ty σ H2 λy H3=>∃a H4,x=.ref a/\yW H3 a y v H4/\D.nx σ H4
section
variable {X : Cx} {o i e value : Expr} {pos pos' kA : Pos} {td ty tv : TE}
theorem fg (hu:X.A.units+1<cLine) (ho:PE X o td) (hi:PE X i ty) (hs:GO i):PE X (.Subscript o i pos) (tDGet td ty):=by
 intro pins s σ H Q I h;refine xE PySem.F.slot_dict_getitem.lookup hs (cu (ho pins s σ H _ I h) λu s1 ⟨x,H1,I1,rx,q1⟩=>cu (hi pins s1 σ H1 _ I1 q1) λiv s2 dD=>?_);obtain⟨y,H2,I2,ry,a,v,ex,g,q2⟩:=dD;subst ex;obtain rfl:u=Value.ref a:=rx;exact⟨uc I2 g,yX hu I2 g ry λw' s3 I3 tw=>⟨v,H2,I3,tw,q2⟩⟩
theorem qy (hu:X.A.units+1<cLine) (hi:PE X i ty) (ho:PE X o td):PC X .NotIn i o (tDNotIn ty td):=by
 intro pins s σ H Q I h;refine cu (hi pins s σ H _ I h) λiv s1 ⟨y,H1,I1,ry,q1⟩=>cu (ho pins s1 σ H1 _ I1 q1) λu s2 dD=>?_;obtain⟨x,H2,I2,rx,a,ov,ex,g,q2⟩:=dD;subst ex;obtain rfl:u=Value.ref a:=rx;exact Dr hu I2 g ry λs3 I3=>⟨.bl (!ov.isSome),H2,I3,rfl,q2⟩
theorem nF (hu:X.A.units+1<cLine) (ho:PE X o td) (hi:PE X i ty) (hv:PE X value tv) (hs:swapsWith value (some (.Subscript o i pos')) pos.line X.env=pure false):
  PS X (.Assign [.Subscript o i pos'] value pos) (sDPut td ty tv):=by
 intro pins s σ H D I h;refine wpAny_Assign_Subscript (cu (hv pins s σ H _ I h) λr s1 ⟨v,H1,I1,rv,q1⟩=>cu (ho pins s1 σ H1 _ I1 q1) λu s2 ⟨x,H2,I2,rx,q2⟩=>cu (hi pins s2 σ H2 _ I2 q2) λiv s3 dD=>?_) hs;obtain⟨y,H3,I3,ry,a,H4,ex,g,q3⟩:=dD;subst ex;obtain rfl:u=Value.ref a:=rx;exact yY hu I3 g ry rv λs4 I4=>⟨σ,H4,I4,q3⟩
end
theorem AQ {P:Program} {w:World} {H:Hp} (h:Heap) (hb:sysModules<h.objs.size):cF P w H (h.push {cls:=.type "dict",data:=.dict #[]}) h.objs.size (.dK []):=
 ⟨aaz _,beq_eq_false_iff_ne.mpr (Ne.symm (aaA hb)),[],.nil,Heap.DictOf.new h⟩
noncomputable def tDNewK:TE:=λ_ H Q=>∀p,H p=none->Q (.ref p) (upd H p (.dK []))
section
variable {X : Cx} {pos : Pos}
theorem kJ:PE X (.Dict [] [] pos) tDNewK:=λpins s σ H Q I h=>
 wpAny_Dict_empty ⟨.ref s.heap.objs.size,_,I.laid (a:=s.heap.objs.size) (o:=.dK []) (t':=s.toks) (λ_ _ q=>Heap.get?_push_of_some _ q) (aav _) (AQ s.heap I.P0),rfl,h _ (I.bV.fresh (aav _))⟩
end
abbrev VV:List (V×V)->List (Value×Value)->Prop:=Paired λp q=>RelV p.1 q.1/\RelV p.2 q.2
structure M1 (X:Cx) (o:Expr) (m:Str) (apos:Pos) (e:Expr) (dO:Pos):Prop where
 base:attributeBase o m X.env (eval o X.env)=eval o X.env
 Ol:((backTo dO (starEach [e] X.env)).all (λx=>!x.1) && (backToKw dO (keywordEach [] X.env)).all (λx=>x.1.isSome)
  && decide (([e]:List Expr).length+ ([]:List Keyword).length+ (if ([]:List Keyword).isEmpty then 0 else 1)<30))=true
 line:(apos.endLine==dO.line)=true
 trees:backTo dO (starEach [e] X.env)=[(false,eval e X.env)]
structure M2 (X:Cx) (o:Expr) (m:Str) (apos:Pos) (e f:Expr) (dO:Pos):Prop where
 base:attributeBase o m X.env (eval o X.env)=eval o X.env
 Ol:((backTo dO (starEach [e,f] X.env)).all (λx=>!x.1) && (backToKw dO (keywordEach [] X.env)).all (λx=>x.1.isSome)
  && decide (([e,f]:List Expr).length+ ([]:List Keyword).length+ (if ([]:List Keyword).isEmpty then 0 else 1)<30))=true
 line:(apos.endLine==dO.line)=true
 trees:backTo dO (starEach [e,f] X.env)=[(false,eval e X.env),(false,eval f X.env)]
noncomputable def Om (H:Hp) (a:Addr):Prop:=(∃kvs,Rd H a (.dK kvs))\/∃kvs,Rd H a (.dT kvs)
theorem GP {X:Cx} {pins:List (Addr×Obj)} {σ:St} {H:Hp} {s:Shared} {a:Addr} (I:Inv X pins σ H s) (d:Om H a):
  s.TypeIs (.ref a) "dict"/\(∀b,Value.ref a=.ref b->∃ob,s.heap.get? b=some ob/\ob.dict=none)/\(a==sysModules)=false:=by
 rcases d with ⟨kvs,e⟩ | ⟨kvs,e⟩
 ·obtain⟨_,hd,vs,_,dd⟩:=mI I.bV e;refine⟨dd.typeIs,λb q=>?_,hd⟩;cases q;obtain⟨ob,_,_,h1,h2,_⟩:=dd;exact⟨ob,h1,h2.2.1⟩
 ·obtain⟨_,hd,xs,_,dd⟩:=qx I.bV e;refine⟨dd.typeIs,λb q=>?_,hd⟩;cases q;obtain⟨ob,_,_,h1,h2,_⟩:=dd;exact⟨ob,h1,h2.2.1⟩
section
variable {X : Cx} {pins : List (Addr × Obj)} {σ : St} {H : Hp} {s : Shared} {a : Addr} {y d : V} {u r : Value} {o : Option V} {A : Around} {E : Value -> Shared -> Prop}
theorem GQ {Q:Value->Shared->Prop} (hu:A.units+1<cLine) (I:Inv X pins σ H s) (g:kI H a y o) (ry:RelV y u) (rd:RelV d r) (h:∀w' s',Inv X pins σ H s'->RelV (o.getD d) w'->Q w' s'):
  wpAny (model X.prog X.w) A (call (.builtin "dict.get") [.ref a,u,r]) Q E s:=by
 rcases g with ⟨kvs,k,e,ey,l⟩ | ⟨kvs,k,b,e,ey,eb,l⟩
 ·subst ey;obtain⟨z,hd,vs,rel,dd⟩:=mI I.bV e;refine call_meetsIn PySem.F.slot_dict_get dd.typeIs PySem.F.entry_dict_get (PySem.F.args_dict_get_3 _ _ _) (meets_dict_get_default (cM X.prog X.w) a (oa ry) hd r) ⟨_,dd.mapOf,h _ _ (I.tok _) ?_⟩;rw[l];exact(rel.val k).getD rd
 ·subst ey;cases (show u=Value.ref b from ry);obtain⟨z,hd,xs,rel,dd⟩:=qx I.bV e;refine call_meetsIn PySem.F.slot_dict_get dd.typeIs PySem.F.entry_dict_get (PySem.F.args_dict_get_3 _ _ _) (meetsH_dict_get_default (tupleKind (cM X.prog X.w)) a b hd r) ⟨tupleKind_room_in1 hu,k,xs,og I.bV eb,dd,h _ _ (I.tok _) ?_⟩;rw[l];exact(rel.val k).getD rd
end
noncomputable def tDGet2 (td ty tx:TE):TE:=λσ H Q=>td σ H λx H1=>∃a,x=.ref a/\Om H1 a/\ty σ H1 λy H2=>tx σ H2 λz H3=>∃o,kI H3 a y o/\Q (o.getD z) H3
section
variable {X : Cx} {o e f : Expr} {apos dO : Pos} {td ty tx : TE}
theorem AR (hu:X.A.units+1<cLine) (ho:PE X o td) (he:PE X e ty) (hf:PE X f tx) (m:M2 X o "get" apos e f dO):PE X (.Call (.Attribute o "get" apos) [e,f] [] dO) (tDGet2 td ty tx):=by
 intro pins s σ H Q I h;refine wpAny_Call_method m.base m.Ol m.line PySem.F.plainAttrs_dict PySem.F.slot_dict_get PySem.F.type_dict_get (cu (ho pins s σ H _ I h) λu s1 dD=>?_);obtain⟨x,H1,I1,rx,a,ex,d,q1⟩:=dD;subst ex;obtain rfl:u=Value.ref a:=rx;obtain⟨t1,t2,_⟩:=GP I1 d;refine⟨t1,t2,?_⟩;rw[m.trees];refine Calls.callWith_builtin rfl (Calls.evalArgs_plain (Calls.spliced_cons (cu (he pins s1 σ H1 _ I1 q1) λiv s2 ⟨y,H2,I2,ry,q2⟩=>
  Calls.spliced_cons (cu (hf pins s2 σ H2 _ I2 q2) λfv s3 ⟨z,H3,I3,rz,ov,g,q3⟩=>Calls.spliced_nil ?_))))
 exact GQ hu I3 g ry rz λw' s4 I4 tw=>⟨_,H3,I4,tw,q3⟩
end
section
variable {X : Cx} {pins : List (Addr × Obj)} {σ : St} {H : Hp} {s : Shared} {a : Addr} {kvs : List (Key × V)} {A : Around} {E : Value -> Shared -> Prop}
end
section
variable {X : Cx} {pins : List (Addr × Obj)} {σ : St} {H : Hp} {s : Shared} {a : Addr} {y : V} {u : Value} {A : Around} {E : Value -> Shared -> Prop}
end
end L2
namespace YJ
open PySem PySem.W PySem.Calls PyProof.Rows
theorem mY {P:Params} {h:Heap}:∀(ns:List Int) (vs:List Value),WellAll P h vs (ns.map WData.int)->IntsAre vs ns:=by
 intro ns
 induction ns with
 | nil=>
  intro vs w;rw[aaT] at w;cases w;exact .nil
 | cons n ns ih=>
  intro vs w;rw[aaw] at w;cases w with
  | cons a b=>
   cases a;exact .cons _ _ (ih _ b)
theorem yZ {l:OpenLaw} {n:Nat} (hn:l.most=some n) {P:Params} {h:Heap} {args:List WData} {vals:List Value}
  (Ds:l.row.toRowW.claim.pre args=true) (vX:WellAll P h vals args):
  ∃a vs ns,vals=[Value.ref a]/\args=[WData.list (ns.map WData.int)]/\h.get? a=some {cls:=.type "list",data:=.seq vs.toArray}/\IntsAre vs ns/\ns.length<=n:=by
 have eP:WShape.hasAll [] args [.list .int]=true:=(pre_splitW Ds).1;have hc:l.pre.holds [] {args:=args}=true:=(pre_splitW Ds).2;obtain⟨d,r,rfl,h1,h2⟩:=hasAllW_cons eP;obtain rfl:=hasAllW_nil h2;obtain⟨xs,rfl,h3⟩:=hasW_list h1;obtain⟨ns,rfl⟩:=items_int h3;have hlen:ns.length<=n:=by
  unfold OpenLaw.pre at hc;have h4:(WTm.not (.lt (.lit (.int (n:Int))) (.len (.arg 0)))).holds [] {args:=[.list (ns.map .int)]}=true:=by
   have h4:=(holds_andW hc).1;rw[hn] at h4;exact h4
  have h5:=condW_of h4 (w_not (w_lt w_lit (w_len_list (w_arg rfl))));rw[aat] at h5;refine Nat.le_of_not_lt λq=>?_;have q':(n:Int)< ((ns.length:Nat):Int):=by omega
  first
   | (rw[decide_eq_true q'] at h5;exact absurd h5 (by decide))
   | (simp at h5;omega)
 cases vX with
 | cons w1 w2=>
  cases w2;cases w1 with
  | list ho y4=>exact⟨_,_,ns,rfl,rfl,ho,mY ns _ y4,hlen⟩
theorem y7 (l:OpenLaw) (args:List WData):l.row.toRowW.claim.post args (.bool true) args=true:=
 postW_of (r:=l.row.toRowW) (X:=(true==true))
  (show WShape.has [] (.bool true) .bool=true by first | rfl | decide | simp [WShape.has,WShape.arms,WShape.armsAll])
  (show(WTm.eq .res (.lit (.bool true))).value [] {args:=args,res:=some (.bool true),after:=args}=some (.bool (true==true)) from w_eq_bool (w_res rfl) w_lit) rfl
theorem ud {l:OpenLaw} {n:Nat} {q:Program} {loose:List Str} {XP:(Str->Option Value)->Heap->Prop} {YP:World->Heap->Prop} {d:DefRec}
  (hn:l.most=some n) (JX:d.params.defaults=[])
  (call:∀(w:World) (s₀ s₁:Shared) (mg mb:Str->Option Value) (fa:Addr) (o:Obj) (pm cd doc:Value) (a:Addr) (vs:List Value) (ns:List Int),
   Ground q loose [] XP w s₀ mg mb s₁.heap->YP w s₁.heap->
   s₁.heap.get? fa=some o->o.data=.func (docDef d.name d.params d.body d.scope pm cd doc)->s₁.heap.CodeRec cd d.name->mg d.name=some (.ref fa)->
   s₁.heap.get? a=some {cls:=.type "list",data:=.seq vs.toArray}->IntsAre vs ns->ns.length<=n->s₁.gens=#[]->
   codeAny (model l.prog w) callerA (.call (.ref fa) ⟨[.ref a],[]⟩) (λr s'=>r=.ok (.ret (.bool true))/\OldK s₁.heap s'.heap/\s'.os=s₁.os/\AllBare s'.gens) s₁):
  WalkO q loose XP YP l.row.toRowW d [] (λf vs=>PySem.call f vs):=by
 intro w s₀ s₁ mg mb G Y fa o pm cd doc dV kV ho hd tR hD JY hg args vals as Ds aad hrd vX hlo;obtain rfl:dV=.none:=Dflts.none hD JX;obtain rfl:kV=.none:=Dflts.noKw hD;obtain⟨a,vs,ns,rfl,rfl,GR,hints,hlen⟩:=yZ hn Ds vX;refine enter_call (codeAny_mono (call w s₀ s₁ mg mb fa o pm cd doc a vs ns G Y ho (fd_plain hd) tR JY GR hints hlen hg) λr s' hq=>?_);obtain⟨rfl,h2,h3,h4⟩:=hq;exact⟨.inl ⟨.bool true,.bool true,[],rfl,λ_=>rfl,.bool true,y7 l _,λ_=>⟨List.Pairwise.nil,λ_ hm=>(nomatch hm)⟩⟩,h2,h3,h4⟩
section
variable {prog : Program} {w : World} {A : Around} {E : Value -> Shared -> Prop} {s : Shared} {K : Frag}
end
end YJ
namespace L2
open PySem PySem.Spec PyProof.Rows
theorem qz:∀{vs:List Value} {ns:List Int},IntsAre vs ns->bQ (ns.map V.int) vs
 | _,_,.nil=>.nil
 | _,_,.cons n t h=>.cons ⟨t,rfl⟩ (qz h)
noncomputable def GS (H:Hp):Prop:=∀b,H b=none\/∃o xs,H b=some (.tj o (.lst xs))
theorem law_call {P:Program} {w:World} {K:PySem.W.Frag} {mg mb:Str->Option Value} {CX:jw} {k:Nat} {fa a:Addr} {fd:FuncData} {x:Str} {sp:Sp} {s₁:Shared} {vs:List Value} {ns:List Int}
  (KX:K.In s₁.heap) (YK:s₁.heap.Ns mainGlobals mg) (hb:s₁.heap.Ns builtinsNs mb) (hbb:∀x:Str,x≠"__name__"->mb x=bootBuiltins x) (P1:s₁.heap.NoLimit) (hg:s₁.gens=#[])
  (ha:s₁.heap.get? a=some {cls:=.type "list",data:=.seq vs.toArray}) (hi:IntsAre vs ns) (hl:ns.length<=sizeLine) (hr:dm k callerA)
  (F:∀base:Heap,K.In base->base.Ns mainGlobals mg->fU P w K mg base CX k fa fd [x] sp) (JZ:∀(s:Shared) (u:Value),BindsTo s fd ⟨[u],[]⟩ [(x,u)])
  (vO:∀H:Hp,GS H->bT K H a (ns.map V.int)->sp [.ref a] H (λv _=>v=.bl true) λ_ _ _=>False)
  (P2:∀H e s',CX [] H s₁ (λ_ _ _=>False) e s'->False):
  codeAny (model P w) callerA (.call (.ref fa) ⟨[.ref a],[]⟩) (λr s'=>r=.ok (.ret (.bool true))/\OldK s₁.heap s'.heap/\s'.os=s₁.os/\AllBare s'.gens) s₁:=by
 have rv:=qz hi;have P4:=hi.length;have core:∀H:Hp,GS H->bT K H a (ns.map V.int)->gy P w H s₁.heap->(∀b,H b≠none->b=a)->(H a≠none->K.lookup a=none)->
   codeAny (model P w) callerA (.call (.ref fa) ⟨[.ref a],[]⟩) (λr s'=>r=.ok (.ret (.bool true))/\OldK s₁.heap s'.heap/\s'.os=s₁.os/\AllBare s'.gens) s₁:=by
  intro H hO hS bV hA hK;have xF:∀{b:Addr} {o:Obj},s₁.heap.get? b=some o->H b=none->(qZ s₁.heap H).get? b=some o:=λe n=>Aq e n;have JN:∀{b:Addr} {o:Obj} {es:Array DictEntry} {ep:Nat},s₁.heap.get? b=some o->o.data=.dict es ep->H b=none:=λ{b o es ep} e d=>by
   cases q:H b with
   | none=>rfl
   | some u=>
    have e':b=a:=hA b (by rw[q];simp);subst e';rw[ha] at e;cases e;have d':Data.seq vs.toArray _=Data.dict es ep:=d;cases d'
  have Oo:∀{b:Addr} {m:Str->Option Value},s₁.heap.Ns b m->(qZ s₁.heap H).Ns b m:=λ{b m} ⟨o,es,ep,e,d,r⟩=>⟨o,es,ep,xF e (JN e d),d,r⟩
  have YL:K.In (qZ s₁.heap H):=λb o e=>xF (KX b o e) (by
   cases q:H b with
   | none=>rfl
   | some u=>
    have e':b=a:=hA b (by rw[q];simp);subst e';rw[hK (by rw[q];simp)] at e;cases e)
  have hM:Mod K mg (qZ s₁.heap H):=⟨YL,Oo YK,⟨mb,Oo hb,hbb⟩,let ⟨mc,h1,h2⟩:=P1;⟨mc,Oo h1,h2⟩⟩
  have e0:pK P w K mg (qZ s₁.heap H) callerA [] s₁ H:=⟨rfl,hM,λb o e=>C5 e,Nat.le_of_eq (yN _ _),trivial,λb hb=>absurd (show b∈([]:List Addr) from hb) (by simp),bV,.of_eq hg⟩
  refine codeAny_mono ((F _ YL (Oo YK)).run callerA [] s₁ H ⟨[.ref a],[]⟩ [.ref a] [.ref a] _ _ hr e0 (JZ s₁ (.ref a)) (.cons rfl .nil) (vO H hO hS)) λr s' h=>?_;cases r with
  | error e=>exact(P2 H e s' h).elim
  | ok fl=>
   cases fl with
   | next=>exact False.elim h
   | brk=>exact False.elim h
   | cont=>exact False.elim h
   | ret u=>
    obtain⟨v,H',os,bare,un,P5,r',q⟩:=h;have q':v=.bl true:=q;subst q';obtain rfl:u=Value.bool true:=r';refine⟨rfl,OldK.of_keep λb o e=>?_,os,bare⟩;cases q:H b with
    | none=>exact un.keep b o e q (by intro z;exact absurd (show b∈([]:List Addr) from z) (by simp)) (by simp)
    | some u=>
     rcases hO b with z | ⟨ob,xs,z⟩
     ·rw[q] at z;cases z
     ·have z2:=un.iV b ob _ z;obtain⟨e1,_⟩:=bV b _ z;obtain⟨e2,_⟩:=P5 b _ z2;rw[e] at e1;cases e1;exact e2
 cases hk:K.lookup a with
 | some o=>
  have e:=KX a o hk;rw[ha] at e;cases e;refine core (λ_=>none) (λ_=>.inl rfl) (.inr ⟨_,vs.toArray,_,hk,rfl,rfl,rfl,by rw[aaD,P4];exact hl,by simpa using rv⟩) (λb u z=>by have z':(none:Option HO)=some u:=z;cases z') (λb z=>absurd rfl z) λz=>absurd rfl z
 | none=>
  refine core (λb=>if b=a then some (.tj {cls:=.type "list",data:=.seq vs.toArray} (.lst (ns.map V.int))) else none) (λb=>?_) (.inl (.inr ⟨{cls:=.type "list",data:=.seq vs.toArray},if_pos rfl⟩)) (λb u z=>?_) (λb z=>?_) λ_=>hk
  ·by_cases hb:b=a
   ·exact .inr ⟨_,_,if_pos hb⟩
   ·exact .inl (if_neg hb)
  ·by_cases hb:b=a
   ·have z':=(if_pos hb).symm.trans z;cases z';subst hb;exact⟨ha,by rw[aat];exact hl,vs,_,rv,ha⟩
   ·have z':=(if_neg hb).symm.trans z;cases z'
  ·by_cases hb:b=a
   ·exact hb
   ·exact absurd (if_neg hb) z
abbrev KOf {K:PySem.W.Frag} {h:Heap} (_:K.In h):PySem.W.Frag:=K
theorem Dt {l:PySem.W.OpenLaw} {n k:Nat} {q:Program} {loose:List Str} {XP:(Str->Option Value)->Heap->Prop} {YP:World->Heap->Prop} {d:DefRec} {K:Params->PySem.W.Frag} {CX:World->jw} {sp:World->Sp} {x:Str}
  (hn:l.most=some n) (Oj:n<=sizeLine) (JX:d.params.defaults=[]) (hr:dm k callerA)
  (hY:∀(w:World) (h:Heap),YP w h->(K w.params).In h)
  (F:∀(w:World) (mg:Str->Option Value) (fa:Addr) (h:Heap),(K w.params).In h->h.Ns mainGlobals mg->mg d.name=some (.ref fa)->
   ∃fd:FuncData,(∀(s:Shared) (u:Value),BindsTo s fd ⟨[u],[]⟩ [(x,u)])/\
    ∀base:Heap,(K w.params).In base->base.Ns mainGlobals mg->fU l.prog w (K w.params) mg base (CX w) k fa fd [x] (sp w))
  (vO:∀(w:World) (H:Hp) (a:Addr) (ns:List Int),ns.length<=n->GS H->bT (K w.params) H a (ns.map V.int)->sp w [.ref a] H (λv _=>v=.bl true) λ_ _ _=>False)
  (P2:∀(w:World) (H:Hp) (s:Shared) (e:Value) (s':Shared),CX w [] H s (λ_ _ _=>False) e s'->False):
  PySem.W.WalkO q loose XP YP l.row.toRowW d [] (λf vs=>PySem.call f vs):=by
 refine YJ.ud hn JX λw s₀ s₁ mg mb fa o pm cd doc a vs ns G Y ho hd tR JY GR hints hlen hg=>?_;have KX:=hY w _ Y;obtain⟨fd,hb,hF⟩:=F w mg fa _ KX G.T.g JY;exact law_call KX G.T.g G.T.b G.T.builtins G.T.nolimit hg GR hints (aaI hlen Oj) hr hF hb (λH hO hS=>vO w H a ns hlen hO hS) λH e s'=>P2 w H s₁ e s'
noncomputable def inClass (s:Stmt) (j:Nat):Stmt:=match s with
 | .ClassDef _ _ _ body _ _ _ _ _ _ _=>body.getD j (.Pass ⟨0,0,0,0⟩)
 | _=>.Pass ⟨0,0,0,0⟩
noncomputable def bb (s:Stmt):Arguments:=match s with
 | .FunctionDef _ a _ _ _ _ _ _ _ _=>a
 | _=>{posonlyargs:=[],args:=[],vararg:=none,kwonlyargs:=[],kw_defaults:=[],kwarg:=none,defaults:=[]}
noncomputable def aY (s:Stmt):List Stmt:=match s with
 | .FunctionDef _ _ b _ _ _ _ _ _ _=>b
 | _=>[]
noncomputable def au (s:Stmt):Scope:=match s with
 | .FunctionDef _ _ _ _ _ _ sc _ _ _=>sc
 | _=>{kind:=.function,names:=[],isGenerator:=false,isCoroutine:=false}
abbrev CX0:jw:=λ_ _ _ _ _ _=>False
abbrev E0:XK:=λ_ _ _=>False
structure ue (K:PySem.W.Frag) (x qual:Str) (st:Stmt) (f:Addr) (fd:FuncData):Prop where
 ex:∃(oc:Value) (od:Option Addr) (kV doc pm:Value) (an:Option Addr) (bZ ct:Value) (Ab:Array (Option Value)),
  fd=PySem.W.fnOf x qual (bb st) (aY st) (au st) .none kV doc pm an bZ ct/\K.lookup f=some ⟨oc,od,.func fd,Ab⟩/\PySem.W.codeIn K bZ qual=true
 kp:PySem.W.keepIn K (.ref f)=true
section
variable {P : Program} {w : World} {K : PySem.W.Frag} {mg : Str -> Option Value} {base : Heap}
theorem ue.binds {x qual:Str} {st:Stmt} {f:Addr} {fd:FuncData} {ps:List Str} (F:ue K x qual st f fd)
  (h:∀(kV doc pm:Value) (an:Option Addr) (bZ ct:Value) (us:List Value),us.length=ps.length->bindArgs (PySem.W.fnOf x qual (bb st) (aY st) (au st) .none kV doc pm an bZ ct) ⟨us,[]⟩=pure (ps.zip us)):Binds K fd ps []:=by
 obtain⟨oc,od,kV,doc,pm,an,bZ,ct,Ab,rfl,lk,tR⟩:=F.ex;exact .all (h kV doc pm an bZ ct)
theorem bF {x qual:Str} {st:Stmt} {f:Addr} {oc:Value} {od an:Option Addr} {Ab:Array (Option Value)} {kV doc pm bZ ct:Value} (l:K.lookup f=some ⟨oc,od,.func (PySem.W.fnOf x qual (bb st) (aY st) (au st) .none kV doc pm an bZ ct),Ab⟩)
  (c:PySem.W.codeIn K bZ qual=true) (k:PySem.W.keepIn K (.ref f)=true):ue K x qual st f (PySem.W.fnOf x qual (bb st) (aY st) (au st) .none kV doc pm an bZ ct):=⟨⟨oc,od,kV,doc,pm,an,bZ,ct,Ab,rfl,l,c⟩,k⟩
end
theorem fk {A:Around} {k:Nat} (hr:dm k A):A.units+1<cLine:=Nat.lt_of_le_of_lt (Nat.add_le_add_left (by decide:1<=64) _) hr.units
section
variable {X : Cx}
theorem pv (i:Nat) {x:Str} {pos:Pos} (hN:X.N[i]?=some x:=by rfl) (hv:Pp X.env.scope x:=by first | exact Or.inl rfl | exact Or.inr (Or.inl rfl) | exact Or.inr (Or.inr rfl)) (hd:(x==("__debug__":Str))=false:=by decide)
  (tR:(x==("__classdict__":Str))=false:=by decide):PE X (.Name x pos) (tVar i):=Gs hN hv hd tR
end
theorem GU {A B:Prop} (h:A):if true=true then A else B:=by
 rw[if_pos rfl];exact h
theorem jF {c A B:Prop} [Decidable c] (h1:c->A) (h2:¬c->B):if c then A else B:=by
 by_cases h:c
 ·rw[if_pos h];exact h1 h
 ·rw[if_neg h];exact h2 h
noncomputable def aA (H H':Hp):Prop:=∀b o,H b=some o->H' b=some o
theorem aA.refl (H:Hp):aA H H:=λ_ _ h=>h
theorem aA.trans {H H1 H2:Hp} (a:aA H H1) (b:aA H1 H2):aA H H2:=λc o h=>b c o (a c o h)
theorem aA.seq {K:PySem.W.Frag} {H H':Hp} {a:Addr} {xs:List V} (e:aA H H') (h:bT K H a xs):bT K H' a xs:=by
 rcases h with (h | ⟨o,h⟩) | h
 ·exact .inl (.inl (e _ _ h))
 ·exact .inl (.inr ⟨o,e _ _ h⟩)
 ·exact .inr h
section
variable {X : Cx}
theorem y8:dz X (.builtin "len") (λxs H Q=>∃a kvs,xs=[V.ref a]/\H a=some (.dK kvs)/\Q (.int kvs.length) H):=by
 intro pins s σ H xs us Q I r h;obtain⟨a,kvs,rfl,ha,q⟩:=h;obtain⟨u,rfl,ru⟩:=vals1 r;cases ru;exact JW I (.inl ha) λt s' I'=>⟨.int kvs.length,H,I',⟨t,rfl⟩,q⟩
end
section
variable {κ : Type} [DecidableEq κ]
end
noncomputable def Bt (n:Nat) (i:Int):Prop:=i.natAbs<2^n
theorem Bt.neg {n:Nat} {i:Int} (h1:Bt n i):Bt n (-i):=by
 unfold Bt at *;omega
theorem Bt.le {n:Nat} {i j:Int} (h:Bt n j) (q:i.natAbs<=j.natAbs):Bt n i:=Nat.lt_of_le_of_lt q h
theorem Bt.of {n:Nat} {i:Int} (b:Nat) (h1:-(b:Int)<=i) (h2:i<=(b:Int)) (h:b<2^n:=by ac_rfl):Bt n i:=by
 unfold Bt;exact Nat.lt_of_le_of_lt (by omega) h
theorem Bt.log {n:Nat} {i:Int} (h:Bt n i) (q:n<=9000:=by decide):i.natAbs.log2<9000:=by
 by_cases z:i.natAbs=0
 ·rw[z];decide
 ·exact aaL ((Nat.log2_lt z).mpr h) q
theorem gc {i j:Int} (h1:-(2^64)<i:=by decide) (h2:i<2^64:=by decide):IntMulOk i j:=.of_left (intBits_le_64 h1 h2)
theorem lY {i j:Int} (h1:-(2^64)<j:=by decide) (h2:j<2^64:=by decide):IntMulOk i j:=.of_right (intBits_le_64 h1 h2)
section
variable {X : Cx}
theorem cW:lQ X (binaryOp .Mult) (rI IntMulOk λi j=>.int (i*j)):=Oi λ_ _ _ _ _ _ _ hc q=>mul_int q hc
noncomputable def gD (_ j:Int):Prop:=0<j/\j.natAbs.log2<9000
theorem gD.of {i j:Int} {n:Nat} (h:0<j) (b:Bt n j) (q:n<=9000:=by decide):gD i j:=⟨h,b.log q⟩
theorem gD.lit {i j:Int} (h:0<j:=by decide) (q:j.natAbs.log2<9000:=by decide):gD i j:=⟨h,q⟩
theorem eJ:lQ X (binaryOp .FloorDiv) (rI gD λi j=>.int (i / j)):=Oi λi j _ _ _ _ _ hc q=>by
 have h1:(0:Int)<j:=hc.1;exact floordiv_int (by omega) (by rw[Int.fdiv_eq_ediv_of_nonneg i (by omega)];exact q) (.inl (PyProof.noPylong_of_log2 hc.2))
noncomputable def oi (_ j:Int):Prop:=j≠0/\j.natAbs.log2<9000
theorem oi.of {i j:Int} {n:Nat} (h:j≠0) (b:Bt n j) (q:n<=9000:=by decide):oi i j:=⟨h,b.log q⟩
theorem uf:lQ X (binaryOp .FloorDiv) (rI oi λi j=>.int (i.fdiv j)):=Oi λ_ _ _ _ _ _ _ hc q=>floordiv_int hc.1 q (.inl (PyProof.noPylong_of_log2 hc.2))
theorem cG:lQ X (binaryOp .Mod) (rI (λ_ j=>0<j) λi j=>.int (i % j)):=Gz
noncomputable def rIxTH:R2:=λx y H Q=>fR x λp=>lP y λi=>∃xs,H p=some (.tup xs)/\∃v,pM xs i=some v/\Q v H
theorem aB:E2 X rIxTH:=λvalue slice pins s σ H x y v u Q I rx ry h hs=>by
 obtain⟨p,e1,h⟩:=rdR_eq.mp h;obtain⟨i,e2,xs,e3,z,e4,q⟩:=rdI_eq.mp h;exact GF value slice pins s σ H x y v u Q I rx ry ⟨p,xs,i,z,e1,e2,iX.of e3,e4,q⟩ hs
noncomputable def rIxLH:R2:=λx y H Q=>fR x λp=>lP y λi=>∃xs,H p=some (.lst xs)/\∃v,pM xs i=some v/\Q v H
theorem bx:E2 X rIxLH:=λvalue slice pins s σ H x y v u Q I rx ry h hs=>by
 obtain⟨p,e1,h⟩:=rdR_eq.mp h;obtain⟨i,e2,xs,e3,z,e4,q⟩:=rdI_eq.mp h;exact xD value slice pins s σ H x y v u Q I rx ry ⟨p,xs,i,z,e1,e2,bT.of e3,e4,q⟩ hs
noncomputable def tTupS (t:TA):TE:=λσ H Q=>t σ H λxs H1=>xs.length<=sizeLine/\∀p H2,aA H1 H2->H1 p=none->H2 p=some (.tup xs)->Q (.ref p) H2
theorem ag {H:Hp} {p:Addr} {o:HO} (h:H p=none):aA H (upd H p o):=λb u e=>by
 rw[aE (eV e h)];exact e
theorem aM {es:List Expr} {t:TA} {x1} {pos:Pos} (h:PA X es t):PE X (.Tuple es x1 pos) (tTupS t):=λpins s σ H Q I hq=>
 cu (h:=wpAny_Tuple_spliced (cu (h pos pins s σ H _ I hq) λus s1 ⟨xs,H1,I1,r,z,q⟩=>⟨by rw[<-r.length];exact z,by
  have hf:H1 s1.heap.objs.size=none:=I1.bV.fresh (aav _);refine⟨.ref s1.heap.objs.size,upd H1 s1.heap.objs.size (.tup xs),I1.laid (t':=s1.toks) (λb u e=>Heap.get?_push_of_some _ e) (aav _) ?_,rfl,q _ _ (ag hf) hf ai⟩;exact⟨z,us,r,⟨_,Heap.get?_push_size _ rfl,rfl,_,rfl⟩⟩⟩)) λ_ _ z=>z
theorem za:dz X (.builtin "len") (λxs H Q=>∃p ys,xs=[.ref p]/\H p=some (.tup ys)/\Q (.int ys.length) H):=λpins s σ H xs us Q I r ⟨p,ys,e,h,q⟩=>
 iA pins s σ H xs us Q I r ⟨p,ys,e,.inr (iX.of h),q⟩
theorem bM:dz X (.builtin "len") (λxs H Q=>∃p ys,xs=[.ref p]/\H p=some (.lst ys)/\Q (.int ys.length) H):=λpins s σ H xs us Q I r ⟨p,ys,e,h,q⟩=>
 iA pins s σ H xs us Q I r ⟨p,ys,e,.inl (bT.of h),q⟩
theorem zb:dz X (.builtin "len") (λxs H Q=>∃p ns,xs=[.ref p]/\bT X.K H p (List.map V.int ns)/\Q (.int (List.length ns:Nat)) H):=λpins s σ H xs us Q I r ⟨p,ns,e,h,q⟩=>
 iA pins s σ H xs us Q I r ⟨p,_,e,.inl h,by rw[aat];exact q⟩
noncomputable def Du (K:PySem.W.Frag):R2:=λx y H Q=>∃p ns i,x=.ref p/\y=.int i/\bT K H p (List.map V.int ns)/\0<=i/\i< (List.length ns:Nat)/\Q (.int (ns.getD i.toNat 0)) H
theorem ug {ns:List Int} {i:Int} (h0:0<=i) (h1:i< (ns.length:Nat)):pM (ns.map V.int) i=some (.int (ns.getD i.toNat 0)):=by
 obtain⟨j,rfl⟩:=Int.eq_ofNat_of_zero_le h0;refine b5 ?_;have hj:j<ns.length:=by omega
 rw[aau,aaG hj];simp [abl,aaG hj]
theorem AS:E2 X (Du X.K):=λvalue slice pins s σ H x y v u Q I rx ry ⟨p,ns,i,e1,e2,e3,h0,h1,q⟩ hs=>
 xD value slice pins s σ H x y v u Q I rx ry ⟨p,_,i,_,e1,e2,e3,ug h0 h1,q⟩ hs
structure iB (P:Program) (w:World) (K:PySem.W.Frag) (mg:Str->Option Value) (base:Heap) (CX:jw) (k:Nat) (x:Str) (ps:List Str) (sp:Sp):Prop where
 ex:∃f fd,fU P w K mg base CX k f fd ps sp/\mg x=some (.ref f)/\PySem.W.keepIn K (.ref f)=true/\Binds K fd ps []
theorem bI {CX:jw} {k:Nat} {x:Str} {ps:List Str} {sp:Sp} {E:XK} {e:Expr} {es:List Expr} {t:TA} {p pos:Pos} (C:iB X.prog X.w X.K X.mg X.base CX k x ps sp) (ha:PA X (e::es) t) (hr:dm k X.A:=by exact hr.mono (by decide)) (hg:Gl X x:=by rfl) (hx:d8 CX X E:=by exact gE.pass)
  (lU:(x==("__debug__":Str))=false:=by decide) (he:starEach (e::es) X.env=(false,eval e X.env)::starEach es X.env:=by first | exact se rfl | rfl) (hpl:(backTo pos (starEach es X.env)).any (·.1)=false:=by first | exact na rfl | rfl):
  PE X (.Call (.Name x p) (e::es) [] pos) (tCall sp [] E t):=by
 obtain⟨f,fd,F,hm,hk,hb⟩:=C.ex;exact Dg F hr hg hm hk hb .nil hx ha lU he hpl
end
noncomputable def lZ (CX:jw):Prop:=∀outer H s e s',¬CX outer H s (λ_ _ _=>False) e s'
theorem lZ.pass {CX:jw} (h:lZ CX) {X:Cx}:d8 CX X E0:=λ_ _ H s e s' _ z=>(h _ H s e s' z).elim
section
variable {P : Program} {w : World} {K : PySem.W.Frag} {mg : Str -> Option Value} {base : Heap} {CX : jw}
theorem ue.gR {x qual:Str} {st:Stmt} {f:Addr} {fd:FuncData} {N ps:List Str} {k:Nat} {sp:Sp} (F:ue K x qual st f fd) (S:bf N ps (au st)) (len:∀vs H Q E,sp vs H Q E->vs.length=ps.length)
  (kB:∀(bZ:Value) (A:Around) (outer:List Env) (s:Shared) (H:Hp) (vs:List V) (Q:VK) (E:XK),dm k (A.deeper (envOfC qual (au st) s.heap.objs.size f bZ))->sp vs H Q E->
   ∃t,qi (df CX P w K mg base N qual (au st) f bZ A outer s H E).IM (aY st) t/\t {nx:=λ_ H'=>Q .dP H',rt:=Q} (start N vs) H):fU P w K mg base CX (k+1) f fd ps sp:=by
 obtain⟨oc,od,kV,doc,pm,an,bZ,ct,Ab,rfl,lk,tR⟩:=F.ex;refine E1 lk tR S len λA outer s H vs Q E hr vO=>?_;obtain⟨t,h,q⟩:=kB bZ A outer s H vs Q E hr vO;exact⟨t,h.IM,q⟩
structure Dn (K:PySem.W.Frag) (mg:Str->Option Value) (x:Str) (st:Stmt):Prop where
 ex:∃f fd,ue K x x st f fd/\mg x=some (.ref f)
theorem Dn.fB {x:Str} {st:Stmt} {ps:List Str} {k:Nat} {sp:Sp} (D:Dn K mg x st)
  (hb:∀(kV doc pm:Value) (an:Option Addr) (bZ ct:Value) (us:List Value),us.length=ps.length->bindArgs (PySem.W.fnOf x x (bb st) (aY st) (au st) .none kV doc pm an bZ ct) ⟨us,[]⟩=pure (ps.zip us))
  (h:∀f fd,ue K x x st f fd->fU P w K mg base CX k f fd ps sp):iB P w K mg base CX k x ps sp:=by
 obtain⟨f,fd,F,hm⟩:=D.ex;exact⟨f,fd,h f fd F,hm,F.kp,F.binds hb⟩
end
section
variable {X : Cx}
noncomputable def YM (xs ys:List V):Bool:=(List.range (min xs.length ys.length)).all (λj=>YI (xs.getD j .dP) (ys.getD j .dP)) && xs.length==ys.length
theorem AU:dz X (.builtin "isinstance") (λxs H Q=>∃x c t b,xs=[x,.ty c]/\jd X.K H x t/\PySem.W.kitOne X.K t (.type c)=some b/\Q (.bl b) H):=by
 intro pins s σ H xs us Q I r h;obtain⟨x,c,t,b,rfl,ty,e,q⟩:=h;obtain⟨u,u',rfl,rx,rc⟩:=vals2 r;cases rc;exact yV I rx ty e λtk=>⟨.bl b,H,I.tok tk,rfl,q⟩
end
theorem at0 {α:Type} {x:α} {l:List α}:pM (x::l) 0=some x:=b5 (j:=0) rfl
theorem at1 {α:Type} {x y:α} {l:List α}:pM (x::y::l) 1=some y:=b5 (j:=1) rfl
theorem at2 {α:Type} {x y z:α} {l:List α}:pM (x::y::z::l) 2=some z:=b5 (j:=2) rfl
noncomputable def Pr (a b:Int):List V:=[.int a,.int b]
theorem GV {K:PySem.W.Frag}:PySem.W.kitOne K (.type "int") (.type "int")=some true:=by unfold PySem.W.kitOne;rw[if_pos (by ac_rfl)]
theorem GW {K:PySem.W.Frag}:PySem.W.kitOne K (.type "tuple") (.type "tuple")=some true:=by unfold PySem.W.kitOne;rw[if_pos (by ac_rfl)]
theorem Dv {K:PySem.W.Frag} {t c:String} {b:Bool} (h1:(Value.type t==Value.type c)=false:=by ac_rfl) (h2:PySem.W.kitMeta c=true:=by ac_rfl) (h3:(PySem.fastBuiltinMro t).map (·.contains (Value.type c))=some b:=by ac_rfl):
  PySem.W.kitOne K (.type t) (.type c)=some b:=by
 unfold PySem.W.kitOne PySem.W.kitCls PySem.W.subIn;rw[if_neg (by rw[h1];decide)];dsimp only;rw[if_pos h2];exact h3
theorem GX {K:PySem.W.Frag}:PySem.W.kitOne K (.type "int") (.type "bool")=some false:=Dv
end L2
namespace Nm
noncomputable def g (a b:Int):Int:=(Int.gcd a b:Nat)
theorem P6 (a b:Int):0<=g a b:=Int.natCast_nonneg _
theorem E6 {a b:Int} (h:b≠0):0<g a b:=by
 have:=Int.gcd_pos_of_ne_zero_right a h;unfold g;omega
theorem rH (a b:Int):g a b∣a:=Int.gcd_dvd_left ..
theorem nG (a b:Int):g a b∣b:=Int.gcd_dvd_right ..
theorem AV (a b:Int):g a b=g b a:=by unfold g;rw[Int.gcd_comm]
theorem J0 {a b:Int} (h:0<b):g a b<=b:=Int.le_of_dvd h (nG a b)
theorem E7 (a b:Int):g (a.natAbs:Int) b=g a b:=by
 unfold g Int.gcd;rw[Int.natAbs_natCast]
theorem xG (a b:Int):g a (b.natAbs:Int)=g a b:=by
 rw[AV,E7,AV]
theorem GY {a b:Int} (ha:0<=a) (_hb:0<b):g b (a % b)=g a b:=by
 unfold g Int.gcd;rw[Int.natAbs_emod_of_nonneg ha,Nat.gcd_comm b.natAbs,<-Nat.gcd_rec,Nat.gcd_comm]
theorem GZ {a:Int} (ha:0<=a):g a 0=a:=by
 unfold g;rw[Int.gcd_zero_right];omega
theorem AW {a b:Int} (h:b≠0):g a b<=(b.natAbs:Int):=by
 rw[<-xG];exact J0 (by omega)
theorem qA (a b:Int):(a / g a b)*b=a* (b / g a b):=by
 rw[<-Int.mul_ediv_assoc _ (nG a b),Int.mul_comm a b,Int.mul_ediv_assoc _ (rH a b),Int.mul_comm]
theorem back {a b c d p q x y:Int} (hq:0<q) (hd:0<d) (e:p* (b*d)=(a*d - c*b)*q) (f:x* (q*d)=(p*d+c*q)*y):x*b=a*y:=by
 have h:(x*b)* (q*d)=(a*y)* (q*d):=by grind
 exact Int.eq_of_mul_eq_mul_right (by have:=Int.mul_pos hq hd;omega) h
end Nm
namespace L2
open PySem PySem.Spec PyProof.Rows PySem.W
noncomputable def jg (h:Heap) (e:Addr):Prop:=∃o vs,h.get? e=some o/\o.data=.fields vs/\vs[2]?=some .none
section
variable {M : Model} {A : Around} {E : Value -> Shared -> Prop} {s : Shared} {base : Heap} {env : Env} {outer : List Env} {L e : Addr} {a0 : Value} {Q : Unit -> Shared -> Prop} {p : Prop}
theorem uh {oe:Obj} {vs:Array Value} {head:Value} {hn:Bool} (xH:A.frames=some (env::outer)) (hl:s.heap.FunFrames base (env::outer)) (hf:env.frame=some L) (he:s.heap.get? e=some oe)
  (kb:base.StaysIn s.heap) (en:base.get? e=none) (hd:oe.data=.fields vs) (z:1<vs.size) (h0:vs[0]?=some a0) (h2:p->vs[2]?=some .none)
  (h:∀h',Heap.HeldW base (env::outer) e oe.cls a0 L h'->s.heap.UpToSlots h'->(p->jg h' e)->Q () {s with heap:=h'}):
  wpAny M A (do
   let a <-frameOf env;let pl <-entryPlaceOf L hn;let b <-EntryCells.newEntry head a .none (rawInt L) .none pl
   setField (.ref e) 1 b) Q E s:=by
 have ef:e∉(env::outer).filterMap (·.frame):=λm=>by
  obtain⟨_,o,ho,nf⟩:=hl.mem m;rw[he] at ho;cases ho;exact nf vs hd
 refine wpAny_bind (wpAny_frameOf_fun xH hl hf λh1 Hg=>wpAny_bind (wpAny_entryPlaceOf λpl hpl=>?_));unfold EntryCells.newEntry newFields;refine wpAny_bind (wpAny_newObj_type ?_ (hpl.sizeOk5 _ _ _ _ _));have e1:h1.get? e=some oe:=(Hg.2.1 e ef).trans he;generalize hT:([head,.ref L,.none,rawInt L,.none]++ (if pl.isEmpty then List.replicate 6 Value.none else pl)).toArray=ts;have t3:ts[3]?=some (rawInt L):=by rw[<-hT];first | (simp;done) | (rcases hpl with rfl | ⟨_,_,_,_,_,_,_,rfl⟩ <;>simp)
 have e2:=Heap.get?_push_of_some (h:=h1) {cls:=.type "traceback",dict:=none,data:=.fields ts} e1;have ne:h1.objs.size≠e:=aa4 (Heap.lt_size e1);have d3:=Obj.data_mapFields hd (·.setIfInBounds 1 (Value.ref h1.objs.size));have e3:=Heap.get?_update_self (Obj.mapFields (·.setIfInBounds 1 (Value.ref h1.objs.size))) e2 (Obj.isFreed_of_fields d3);have kp:∀b o,b≠e->h1.get? b=some o->((h1.push {cls:=.type "traceback",dict:=none,data:=.fields ts}).update e (Obj.mapFields (·.setIfInBounds 1 (Value.ref h1.objs.size)))).get? b=some o:=λb o be hb=>by
  rw[Heap.get?_update_other _ _ (Ne.symm be)];exact Heap.get?_push_of_some _ hb
 have nr:∀b o,s.heap.get? b=some o->(∀vs,o.data≠.fields vs)->b≠e:=λb o hb nf q=>by
  rw[q,he] at hb;cases hb;exact nf vs hd
 refine wpAny_setField e2 hd z (h _ ?_ ?_ ?_)
 ·have k1:base.StaysIn h1:=λb o hb=>(Hg.2.1 b λm=>by rw[(hl.mem m).1] at hb;cases hb).trans (kb b o hb);refine⟨λb o hb=>kp b o (λq=>by rw[q,en] at hb;cases hb) (k1 b o hb),en,hl.of_keeps λb o hb nf=>?_,_,_,h1.objs.size,{cls:=.type "traceback",dict:=none,data:=.fields ts},ts,e3,⟨Obj.cls_mapFields _ _,?_⟩,d3,by simp [z],k1.fresh,ne,?_,rfl,t3⟩
  ·obtain⟨sl,hs⟩:=Hg.2.2 b o hb;exact⟨_,kp b _ (nr b o hb nf) hs,rfl⟩
  ·rw[Array.getElem?_setIfInBounds_ne (by decide)];exact h0
  ·rw[Heap.get?_update_other _ _ (Ne.symm ne)];exact Heap.get?_push_size h1 rfl
 ·intro b o hb nf;obtain⟨sl,hs⟩:=Hg.2.2 b o hb;exact⟨sl,kp b _ (nr b o hb nf) hs⟩
 ·intro hp;refine⟨_,_,e3,d3,?_⟩;rw[Array.getElem?_setIfInBounds_ne (by decide)];exact h2 hp
theorem vY {oe:Obj} {vs:Array Value} (xH:A.frames=some (env::outer)) (hl:s.heap.FunFrames base (env::outer)) (hf:env.frame=some L) (he:s.heap.get? e=some oe)
  (kb:base.StaysIn s.heap) (en:base.get? e=none) (hd:oe.data=.fields vs) (h1:vs[1]?=some .none) (h0:vs[0]?=some a0) (h2:p->vs[2]?=some .none)
  (h:∀h',Heap.HeldW base (env::outer) e oe.cls a0 L h'->s.heap.UpToSlots h'->(p->jg h' e)->Q () {s with heap:=h'}):wpAny M A (noteFrame (.ref e) env) Q E s:=by
 unfold noteFrame;simp only[hf];refine wpAny_bind (wpAny_field he hd h1 ?_);rw[if_neg (by decide)];exact uh xH hl hf he kb en hd (Array.getElem?_eq_some_iff.mp h1).1 h0 h2 h
theorem rJ {cls:Value} (xH:A.frames=some (env::outer)) (hf:env.frame=some L) (fl:Heap.FlyingW base (env::outer) e cls a0 s.heap) (nc:p->jg s.heap e)
  (h:∀h',Heap.HeldW base (env::outer) e cls a0 L h'->s.heap.UpToSlots h'->(p->jg h' e)->Q () {s with heap:=h'}):wpAny M A (noteFrame (.ref e) env) Q E s:=by
 obtain⟨kb,en,hl,oe,vs,T,oT,ts,he,⟨rfl,h0⟩,hd,h1,nT,Te,gT,dT,h3⟩:=fl;have h2:p->vs[2]?=some .none:=λhp=>by
  obtain⟨o,ws,q,d,r⟩:=nc hp;rw[he] at q;cases q;rw[hd] at d;cases d;exact r
 unfold noteFrame;simp only[hf];refine wpAny_bind (wpAny_field he hd h1 ?_);rw[if_pos (by simp)];refine wpAny_bind (wpAny_field gT dT h3 ?_);rw[if_neg (by simp [rawInt])];refine wpAny_bind (wpAny_setField gT dT (Array.getElem?_eq_some_iff.mp h3).1 ?_);have ot:∀b,b≠T->(s.heap.update T (Obj.mapFields (·.setIfInBounds 3 Value.none))).get? b=s.heap.get? b:=λb hb=>Heap.get?_update_other _ _ (Ne.symm hb);have nr:∀b o,s.heap.get? b=some o->(∀vs,o.data≠.fields vs)->b≠T:=λb o hb nf q=>by
  rw[q,gT] at hb;cases hb;exact nf ts dT
 exact uh xH (hl.of_keeps λb o hb nf=>⟨o,(ot b (nr b o hb nf)).trans hb,rfl⟩) hf ((ot e (Ne.symm Te)).trans he) (λb o hb=>(ot b λq=>by rw[q,nT] at hb;cases hb).trans (kb b o hb)) en hd (Array.getElem?_eq_some_iff.mp h1).1 h0 h2
  λh' x1 x2 x3=>h h' x1 (λb o hb nf=>x2 b o ((ot b (nr b o hb nf)).trans hb) nf) x3
theorem kK {cls fl:Value} {l:List Env} (kb:base.StaysIn s.heap) (en:base.get? e=none) (hl:s.heap.FunFrames base l) (ht:s.heap.TracedAtW base e cls a0 fl) (nc:p->jg s.heap e)
  (h:∀h',Heap.FlyingW base l e cls a0 h'->s.heap.UpToSlots h'->(p->jg h' e)->Q () {s with heap:=h'}):wpAny M A (setFlight (.ref e) none) Q E s:=by
 obtain⟨oe,vs,T,oT,ts,he,hc,hd,h1,nT,Te,gT,dT,h3⟩:=ht;have z3:3<ts.size:=(Array.getElem?_eq_some_iff.mp h3).1;have ot:∀b,b≠T->(s.heap.update T (Obj.mapFields (·.setIfInBounds 3 ((none:Option Addr).elim Value.none λf=>rawInt f)))).get? b=s.heap.get? b:=λb hb=>Heap.get?_update_other _ _ (Ne.symm hb);have nr:∀b o,s.heap.get? b=some o->(∀vs,o.data≠.fields vs)->b≠T:=λb o hb nf q=>by
  rw[q,gT] at hb;cases hb;exact nf ts dT
 unfold setFlight;refine wpAny_bind (wpAny_field he hd h1 ?_);rw[if_pos (by simp)];refine wpAny_setField gT dT z3 (h _ ⟨λb o hb=>(ot b λq=>by rw[q,nT] at hb;cases hb).trans (kb b o hb),en,hl.of_keeps λb o hb nf=>⟨o,(ot b (nr b o hb nf)).trans hb,rfl⟩,
  oe,vs,T,_,_,(ot e (Ne.symm Te)).trans he,hc,hd,h1,nT,Te,Heap.get?_update_self _ gT (Obj.isFreed_of_fields (Obj.data_mapFields dT _)),Obj.data_mapFields dT _,by simp [z3]⟩ (λb o hb nf=>⟨o.slots,(ot b (nr b o hb nf)).trans hb⟩) λhp=>?_)
 obtain⟨o,ws,q,d,r⟩:=nc hp;exact⟨o,ws,(ot e (Ne.symm Te)).trans q,d,r⟩
theorem AX {cls:Value} (xH:A.frames=some (env::outer)) (hf:env.frame=some L) (fl:Heap.FlyingW base (env::outer) e cls a0 s.heap) (nc:p->jg s.heap e)
  (h:∀h',Heap.FlyingW base outer e cls a0 h'->s.heap.UpToSlots h'->(p->jg h' e)->Q () {s with heap:=h'}):wpAny M A (leaving env (.ref e)) Q E s:=by
 unfold leaving;refine wpAny_bind (rJ xH hf fl nc λh' x1 x2 x3=>?_);exact kK x1.1 x1.2.1 x1.2.2.1 x1.2.2.2 x3 λh2 y1 y2 y3=>by
  obtain⟨k1,k2,⟨_,_,k3⟩,k4⟩:=y1;exact h h2 ⟨k1,k2,k3,k4⟩ (x2.trans y2) y3
theorem ui {h0:Heap} {oe:Obj} {vs:Array Value} (xH:A.frames=some (env::outer)) (hf:env.frame=some L) (kb:base.StaysIn h0) (hl:h0.FunFrames base (env::outer)) (kp:∀b o,h0.get? b=some o->s.heap.get? b=some o) (nw:h0.get? e=none)
  (he:s.heap.get? e=some oe) (hd:oe.data=.fields vs) (h1:vs[1]?=some .none) (z0:vs[0]?=some a0) (h2:p->vs[2]?=some .none)
  (h:∀h',Heap.FlyingW base outer e oe.cls a0 h'->s.heap.UpToSlots h'->(p->jg h' e)->Q () {s with heap:=h'}):wpAny M A (leaving env (.ref e)) Q E s:=by
 have en:base.get? e=none:=by
  cases q:base.get? e with
  | none=>rfl
  | some o=>
   have:=kb e o q;rw[nw] at this;cases this
 unfold leaving;refine wpAny_bind (vY xH (hl.of_keeps λb o hb _=>⟨o,kp b o hb,rfl⟩) hf he (λb o hb=>kp b o (kb b o hb)) en hd h1 z0 h2 λh' x1 x2 x3=>?_);exact kK x1.1 x1.2.1 x1.2.2.1 x1.2.2.2 x3 λh2 y1 y2 y3=>by
  obtain⟨k1,k2,⟨_,_,k3⟩,k4⟩:=y1;exact h h2 ⟨k1,k2,k3,k4⟩ (x2.trans y2) y3
end
open PySem PySem.Spec PyProof.Rows PySem.W
theorem cF.get {P:Program} {w:World} {H:Hp} {h:Heap} {a:Addr}:∀{o:HO},cF P w H h a o->∃ob,h.get? a=some ob
 | .lst _,x=>let ⟨_,_,_,_,e⟩:=x;⟨_,e⟩
 | .tup _,x=>let ⟨_,_,_,o,e,_⟩:=x;⟨o,e⟩
 | .dK _,x=>let ⟨_,_,_,_,o,_,_,e,_⟩:=x;⟨o,e⟩
 | .dT _,x=>let ⟨_,_,_,_,o,_,_,e,_⟩:=x;⟨o,e⟩
 | .set _ _,x=>by
  obtain⟨o,es,ep,t,e,_⟩:=x;exact⟨o,e⟩
 | .ins _ _ _,x=>let ⟨_,_,_,e,_⟩:=x;⟨_,e⟩
 | .own _,x=>x
 | .xd _,x=>by
  obtain⟨mA,⟨o,es,ep,e,_⟩,_⟩:=x;exact⟨o,e⟩
 | .Ob _ _,x=>let ⟨_,_,_,e⟩:=x;⟨_,e⟩
 | .tj _ _,x=>⟨_,x.1⟩
 | .xo _,⟨_,x,_⟩=>⟨_,x⟩
 | .met _ _,x=>⟨_,x⟩
 | .ext _,x=>x.2.1
theorem gy.Hh {P:Program} {w:World} {H:Hp} {h h' B:Heap} (ok:gy P w H h) (hB:∀b u o,H b=some u->h.get? b=some o->B.get? b=some o) (st:B.StaysIn h'):gy P w H h':=λa o e=>
 (ok a o e).qY (λb u hb q=>st b u (by
  rcases hb with rfl | hb
  ·exact hB _ _ _ e q
  ·exact hB _ _ _ hb q)) (λ_ r=>r) λ_ _ r=>r
structure Dw (P:Program) (w:World) (l:List Env) (H:Hp) (s:Shared) (H':Hp) (ad:Addr) (cls:Value) (s':Shared):Prop where
 os:s'.os=s.os
 bare:AllBare s'.gens
 un:Un (dN l) [] H H' s.heap s'.heap
 bV:gy P w H' s'.heap
 fl:∃B a0,Heap.FlyingW B l ad cls a0 s'.heap/\(∀b o,s.heap.get? b=some o->H b=none->b∉dN l->B.get? b=some o)/\(∀b o,s.heap.get? b=some o->b∉dN l->∃o',B.get? b=some o')/\
  (∀b u o,H' b=some u->s'.heap.get? b=some o->B.get? b=some o)
noncomputable def cN (P:Program) (w:World):jw:=λl H s E e s'=>∃ad cls c H',e=.ref ad/\(Dw P w l H s H' ad cls s'/\(c=none->jg s'.heap ad))/\E cls c H'
theorem xI (P:Program) (w:World):lZ (cN P w):=λ_ _ _ _ _ ⟨_,_,_,_,_,_,h⟩=>h
section
variable {P : Program} {w : World} {K : PySem.W.Frag} {mg : Str -> Option Value} {base : Heap} {N : List Str} {qual : Str} {scope : Scope} {f : Addr} {bZ : Value} {A : Around} {outer : List Env} {s0 : Shared} {H0 : Hp} {E : XK}
theorem AY {pins:List (Addr×Obj)} {σ:St} {H:Hp} {s:Shared} {h':Heap} {ad:Addr} {cls:Value} {vs:List Value}
  (I:Inv (df (cN P w) P w K mg base N qual scope f bZ A outer s0 H0 E) pins σ H s) (mx:Heap.MadeExcOf s.heap h' ad cls vs) (e:E cls none H):
  (df (cN P w) P w K mg base N qual scope f bZ A outer s0 H0 E).xe (.ref ad) {s with heap:=h'}:=by
 let env:Env:=envOfC qual scope s0.heap.objs.size f bZ;have vZ:∀b o,s0.heap.get? b=some o->b∉dN outer->b∉dN (env::outer):=λb o q hb z=>by
  rcases List.mem_cons.mp (show b∈s0.heap.objs.size::dN outer from z) with z | z
  ·rw[z] at q;exact absurd (Heap.lt_size q) (aaN _)
  ·exact hb z
 have Oq:∀b,b∈dN outer->b∈dN (env::outer):=λb hb=>List.mem_cons.mpr (.inr hb);have ST:s.heap.FunFrames base (env::outer):=I.stack;have SF:∀b∈dN (env::outer),H b=none:=I.nA;have BS:Un (dN outer) [] H0 H s0.heap s.heap:=I.base;show wpAny (model P w) (A.deeper env) (leaving env (.ref ad)) (λ_ nX=>cN P w outer H0 s0 E (.ref ad) nX) (λe' nX=>cN P w outer H0 s0 E e' nX) {s with heap:=h'};obtain⟨tt,he0,_,_⟩:=mx.there;refine ui (p:=(none:Option Addr)=none) (base:=hideAll s.heap (dN (env::outer))) (h0:=s.heap) (L:=s0.heap.objs.size) I.ok.frames rfl (λb o q=>of_hideAll _ q)
  (funFrames_hide ST λen he a ha=>List.mem_filterMap.mpr ⟨en,he,ha⟩) mx.keeps mx.new he0 rfl rfl rfl (λ_=>rfl) λh2 x1 x4 xc=>?_
 have x4:Heap.UpToSlots h' h2:=x4;have fr:∀b∈dN (env::outer),∀o,s.heap.get? b=some o->∃sl,h2.get? b=some {o with slots:=sl}:=λb hb o q=>by
  obtain⟨_,o1,q1,nf⟩:=ST.mem hb;rw[q] at q1;cases q1;exact x4 b o (mx.keeps b o q) nf
 refine⟨ad,cls,none,H,rfl,⟨⟨I.os,I.bare,⟨λb o q n hb hx=>?_,λb o q n hb hx=>?_,BS.free,λb o q hx=>?_,BS.i4,BS.iV,BS.i5⟩,?_,⟨_,_,x1,λb o q n hb=>?_,λb o q hb=>?_,λb u o e1 q=>?_⟩⟩,xc⟩,e⟩
 ·exact x1.1 b o (hideAll_get _ (BS.keep b o q n hb hx) (vZ b o q hb))
 ·obtain⟨sl,q1⟩:=BS.slot b o q n hb hx;obtain⟨Ad,q2⟩:=fr b (Oq b hb) _ q1;exact⟨Ad,q2⟩
 ·obtain⟨o1,q1⟩:=BS.there b o q hx
  by_cases hb:b∈dN (env::outer)
  ·obtain⟨Ad,q2⟩:=fr b hb _ q1;exact⟨_,q2⟩
  ·exact⟨o1,x1.1 b o1 (hideAll_get _ q1 hb)⟩
 ·exact gy.Hh I.bV (λb u o e1 q=>hideAll_get _ q λz=>by
   have:=SF b z;rw[e1] at this;cases this) x1.1
 ·exact hideAll_get _ (BS.keep b o q n hb (by simp)) (vZ b o q hb)
 ·obtain⟨o1,q1⟩:=BS.there b o q (by simp);exact⟨o1,hideAll_get _ q1 (vZ b o q hb)⟩
 ·obtain⟨o1,q1⟩:=(I.bV b u e1).get;have q2:=hideAll_get (dN (env::outer)) q1 λz=>by
   have:=SF b z;rw[e1] at this;cases this
  have q3:=x1.1 b o1 q2;rw[q] at q3;cases q3;exact q2
theorem kL:d8 (cN P w) (df (cN P w) P w K mg base N qual scope f bZ A outer s0 H0 E) E:=by
 intro pins σ H s e s' I c;let env:Env:=envOfC qual scope s0.heap.objs.size f bZ;obtain⟨ad,cls,cc,H',rfl,⟨F,nc⟩,he⟩:=c;have vZ:∀b o,s0.heap.get? b=some o->b∉dN outer->b∉dN (env::outer):=λb o q hb z=>by
  rcases List.mem_cons.mp (show b∈s0.heap.objs.size::dN outer from z) with z | z
  ·rw[z] at q;exact absurd (Heap.lt_size q) (aaN _)
  ·exact hb z
 have Oq:∀b,b∈dN outer->b∈dN (env::outer):=λb hb=>List.mem_cons.mpr (.inr hb);have ST:s.heap.FunFrames base (env::outer):=I.stack;have BS:Un (dN outer) [] H0 H s0.heap s.heap:=I.base;have FU:Un (dN (env::outer)) [] H H' s.heap s'.heap:=F.un;obtain⟨B,a0,fl,c0,c2,c1⟩:=F.fl;have fl:Heap.FlyingW B (env::outer) ad cls a0 s'.heap:=fl;have c0:∀b o,s.heap.get? b=some o->H b=none->b∉dN (env::outer)->B.get? b=some o:=c0;have c2:∀b o,s.heap.get? b=some o->b∉dN (env::outer)->∃o',B.get? b=some o':=c2;show wpAny (model P w) (A.deeper env) (leaving env (.ref ad)) (λ_ nX=>cN P w outer H0 s0 E (.ref ad) nX) (λe' nX=>cN P w outer H0 s0 E e' nX) s';refine AX (L:=s0.heap.objs.size) I.ok.frames rfl fl nc λh2 x1 x2 xc=>?_;have fr:∀b∈dN (env::outer),∀o,s'.heap.get? b=some o->∃sl,h2.get? b=some {o with slots:=sl}:=λb hb o q=>by
  obtain⟨_,o1,q1,nf⟩:=fl.2.2.1.mem hb;rw[q] at q1;cases q1;exact x2 b o q nf
 refine⟨ad,cls,cc,H',rfl,⟨⟨F.os.trans I.os,F.bare,⟨λb o q n hb hx=>?_,λb o q n hb hx=>?_,λb o q n hx=>?_,λb o q hx=>?_,λb xs q=>FU.i4 b xs (BS.i4 b xs q),λb o u q=>FU.iV b o u (BS.iV b o u q),λb ps q=>?_⟩,F.bV.Hh c1 x1.1,
  ⟨B,a0,x1,λb o q n hb=>?_,λb o q hb=>?_,λb u o e1 q=>?_⟩⟩,xc⟩,he⟩
 ·exact x1.1 b o (c0 b o (BS.keep b o q n hb hx) (BS.free b o q n hx) (vZ b o q hb))
 ·obtain⟨sl,q1⟩:=BS.slot b o q n hb hx;obtain⟨Hg,q2⟩:=FU.slot b _ q1 (BS.free b o q n hx) (Oq b hb) hx;obtain⟨Ad,q3⟩:=fr b (Oq b hb) _ q2;exact⟨Ad,q3⟩
 ·obtain⟨o1,q1⟩:=BS.there b o q hx;exact FU.free b o1 q1 (BS.free b o q n hx) hx
 ·obtain⟨o1,q1⟩:=BS.there b o q hx
  by_cases hb:b∈dN (env::outer)
  ·obtain⟨o2,q2⟩:=FU.there b o1 q1 hx;obtain⟨Ad,q3⟩:=fr b hb _ q2;exact⟨_,q3⟩
  ·obtain⟨o2,q2⟩:=c2 b o1 q1 hb;exact⟨o2,x1.1 b o2 q2⟩
 ·obtain⟨m1,e1⟩:=BS.i5 b ps q;obtain⟨m2,e2⟩:=FU.i5 b _ e1;exact⟨m1++m2,by rw[e2,Array.append_assoc]⟩
 ·exact c0 b o (BS.keep b o q n hb (by simp)) (BS.free b o q n (by simp)) (vZ b o q hb)
 ·obtain⟨o1,q1⟩:=BS.there b o q (by simp);exact c2 b o1 q1 (vZ b o q hb)
 ·obtain⟨o1,q1⟩:=(F.bV b u e1).get;have q2:=c1 b u o1 e1 q1;have q3:=x1.1 b o1 q2;rw[q] at q3;cases q3;exact q2
end
open PySem PySem.Spec PyProof.Rows PySem.W
set_option tactic.hygienic true in
theorem Dx {K:Frag} {h:Heap} {C:Addr} {YN:List Value} {newId:String} (X:K.In h) (q:excIn K C YN newId=true):
  ∃tl N nm qn bs hdct sn sub ab col dd k0 k1 k2 k3 k5 mN,h.get? C=some (excClassObj nm qn C N bs tl hdct sn sub ab col dd k0 k1 k2 k3 k5 newId)/\h.Ns N mN/\mN "__init__"=none/\OwnTail h YN tl:=by
 unfold excIn at q
 split at q
 ·rename_i dd cd sl ho
  split at q
  ·rename_i C' bm k0 k1 k2 k3 n k5 hm hs
   simp only[aaZ,beq_iff_eq,Bool.not_eq_true'] at q;obtain⟨⟨⟨⟨⟨rfl,rfl⟩,J1⟩,ht⟩,bV⟩,Ot⟩:=q;obtain⟨nm,bs,mro,ns,qn,hd,sn,sub,ab,col,del⟩:=cd;dsimp only at hm J1 bV Ot;subst hm J1;have Dy:sl=#[k0,k1,k2,k3,some (.builtin n),k5]:=by
    obtain⟨l⟩:=sl;simp only at hs;rw[hs]
   subst Dy;exact⟨bm,ns,nm,qn,bs,hd,sn,sub,ab,col,dd,k0,k1,k2,k3,k5,_,X _ _ ho,.of_isNs (isNs_of_in X bV),nsMap_none_of_in X bV Ot,tail_of_in X ht⟩
  ·cases q
 ·cases q
abbrev rK:List Value:=[.type "ValueError",.type "Exception",.type "BaseException",.type "object"]
abbrev kO:String:="ValueError.__new__"
noncomputable def tRaise (C:Addr) (E:XK) (t:TA):TS:=λ_ σ H=>t σ H λvs H1=>vs.length<=sizeLine/\E (.ref C) none H1
section
variable {P : Program} {w : World} {K : PySem.W.Frag} {mg : Str -> Option Value} {base : Heap} {N : List Str} {qual : Str} {scope : Scope} {f : Addr} {bZ : Value} {A : Around} {outer : List Env} {s0 : Shared} {H0 : Hp} {E : XK}
theorem hJ {x:Str} {C:Addr} {np dO pos:Pos} {e:Expr} {es:List Expr} {t:TA} (hg:Gl (df (cN P w) P w K mg base N qual scope f bZ A outer s0 H0 E) x) (hm:mg x=some (.ref C)) (q:excIn K C rK kO=true)
  (hh:A.handled=none) (ha:PA (df (cN P w) P w K mg base N qual scope f bZ A outer s0 H0 E) (e::es) t) (lU:(x==("__debug__":Str))=false:=by decide)
  (he:starEach (e::es) (df (cN P w) P w K mg base N qual scope f bZ A outer s0 H0 E).env=(false,eval e (df (cN P w) P w K mg base N qual scope f bZ A outer s0 H0 E).env)::starEach es (df (cN P w) P w K mg base N qual scope f bZ A outer s0 H0 E).env:=by rfl)
  (hpl:(backTo dO (starEach es (df (cN P w) P w K mg base N qual scope f bZ A outer s0 H0 E).env)).any (·.1)=false:=by rfl):
  PS (df (cN P w) P w K mg base N qual scope f bZ A outer s0 H0 E) (.Raise (some (.Call (.Name x np) (e::es) [] dO)) none pos) (tRaise C E t):=by
 intro pins s σ H D I h;have FB:=PySem.F.excBase_ValueError;obtain⟨tl,Nn,nm,qn,bs,hdct,sn,sub,ab,col,dd,k0,k1,k2,k3,k5,mN,hC,hN,Ot,T⟩:=Dx I.ok.mod.CD q;refine wpAny_Raise_call_subT (C:=C) (nm:=nm) (q:=qn) (N:=Nn) (bs:=bs) (bm:=tl) (hdct:=hdct) (sn:=sn) (sub:=sub) (ab:=ab) (col:=col) (dd:=dd) (k0:=k0) (k1:=k1) (k2:=k2) (k3:=k3) (k5:=k5)
  FB (mN:=mN) (T.hasType FB.hasBase) hh (by rw[he];show(false || (backTo dO (starEach es _)).any (·.1))=false;rw[hpl];rfl) Ot (fS I hg hm ⟨rfl,?_⟩ lU)
 rw[he];have YO:=ha dO pins s σ H _ I h;rw[he] at YO;refine Calls.evalArgs_plain (cu YO λus s1 ⟨vs,H1,I1,r,z,k⟩=>⟨rfl,by rw[<-r.length];exact z,I1.bk _ _ hC,hN.keeps I1.bk,T.keeps I1.bk,λh' ad mx=>?_⟩);exact AY I1 mx k
end
section
variable {X : Cx} {pins : List (Addr × Obj)} {σ : St} {H H' : Hp} {s s' : Shared}
abbrev Cx.mark (X:Cx) (ad:Addr):Cx:={X with A:=X.A.mark (some (.ref ad)),calm:=false,xe:=λ_ _=>False}
theorem Inv.mark (I:Inv X pins σ H s) (ad:Addr):Inv (X.mark ad) pins σ H s:=
 ⟨⟨I.ok.mod,I.ok.kind,I.ok.glob,I.ok.blt,I.ok.above,I.ok.inj,I.ok.has,I.ok.ET,λz=>(aaM z).elim,I.ok.frames,I.ok.Gq,I.ok.JC,I.ok.bs,I.ok.xq,I.ok.tN,I.ok.tO,I.ok.iW,I.ok.zZ⟩,
  I.os,I.bare,I.base,I.loc,I.cell,I.free,I.gB,I.pin,I.bV,I.len⟩
theorem Dw.new {P:Program} {w:World} {l:List Env} {ad:Addr} {cls:Value} (F:Dw P w l H s H' ad cls s'):s.heap.get? ad=none:=by
 obtain⟨B,a0,fl,c0,c2,c1⟩:=F.fl;cases q:s.heap.get? ad with
 | none=>rfl
 | some o=>
  by_cases hb:ad∈dN l
  ·obtain⟨_,o1,q1,nf⟩:=fl.2.2.1.mem hb;obtain⟨oe,vs,he,_,hd,_⟩:=fl.first;rw[q1] at he;cases he;exact absurd hd (nf _)
  ·obtain⟨o',q'⟩:=c2 ad o q hb;rw[fl.2.1] at q';cases q'
theorem Dw.tracked {P:Program} {w:World} {l:List Env} {ad:Addr} {cls:Value} (F:Dw P w l H s H' ad cls s'):H' ad=none:=by
 obtain⟨B,a0,fl,c0,c2,c1⟩:=F.fl;cases q:H' ad with
 | none=>rfl
 | some u=>
  obtain⟨o,e⟩:=(F.bV ad u q).get;have:=c1 ad u o q e;rw[fl.2.1] at this;cases this
theorem Dw.inv {ad:Addr} {cls:Value} (F:Dw X.prog X.w X.stack H s H' ad cls s') (I:Inv X pins σ H s) {B h6:Heap} {a0:Value} (fl:Heap.FlyingW B X.stack ad cls a0 s'.heap)
  (c0:∀b o,s.heap.get? b=some o->H b=none->b∉dN X.stack->B.get? b=some o) (c2:∀b o,s.heap.get? b=some o->b∉dN X.stack->∃o',B.get? b=some o')
  (c1:∀b u o,H' b=some u->s'.heap.get? b=some o->B.get? b=some o) (st:B.StaysIn h6) (up:s'.heap.UpToSlots h6):Inv X pins σ H' {s' with heap:=h6}:=by
 have fr:∀b∈dN X.stack,∀o,s'.heap.get? b=some o->∃sl,h6.get? b=some {o with slots:=sl}:=λb hb o q=>by
  obtain⟨_,o1,q1,nf⟩:=fl.2.2.1.mem hb;rw[q] at q1;cases q1;exact up b o q nf
 refine I.EX (s':={s' with heap:=h6}) (ch:=[]) F.os ⟨λb o q n hb _=>st b o (c0 b o q n hb),λb o q n hb hx=>?_,F.un.free,λb o q hx=>?_,F.un.i4,F.un.iV,F.un.i5⟩ (F.bV.Hh c1 st) F.bare (λb hb=>absurd hb (by simp))
 ·obtain⟨sl,q1⟩:=F.un.slot b o q n hb hx;obtain⟨Ad,q2⟩:=fr b hb _ q1;exact⟨Ad,q2⟩
 ·by_cases hb:b∈dN X.stack
  ·obtain⟨o2,q2⟩:=F.un.there b o q hx;obtain⟨Ad,q3⟩:=fr b hb _ q2;exact⟨_,q3⟩
  ·obtain⟨o2,q2⟩:=c2 b o q hb;exact⟨o2,st b o2 q2⟩
end
section
variable {X : Cx} {CX : jw} {k : Nat} {x : Str} {ps : List Str} {sp : Sp} {E : XK} {e : Expr} {es : List Expr} {t : TA} {p pos : Pos}
theorem Dz {pins:List (Addr×Obj)} {σ:St} {H:Hp} {s:Shared} {Q:VK} {Ex:Value->Shared->Prop} (C:iB X.prog X.w X.K X.mg X.base CX k x ps sp) (hr:dm k X.A) (hg:Gl X x) (ha:PA X.IM (e::es) t) (I:Inv X pins σ H s)
  (h:t σ H λvs H1=>sp vs H1 Q E) (hx:∀H1 s1 e s',Inv X pins σ H1 s1->CX X.stack H1 s1 E e s'->Ex e s')
  (lU:(x==("__debug__":Str))=false:=by decide) (he:starEach (e::es) X.env=(false,eval e X.env)::starEach es X.env:=by rfl) (hpl:(backTo pos (starEach es X.env)).any (·.1)=false:=by rfl):
  wpAny (model X.prog X.w) X.A (eval (.Call (.Name x p) (e::es) [] pos) X.env) (EP X pins σ Q) Ex s:=by
 obtain⟨f,fd,F,hm,hk,hb⟩:=C.ex;refine wpAny_Call_Name_kw (fS I hg hm ?_ lU);refine PySem.W.callWith_K (h₀:=X.base) I.ok.mod.CD hk (wpAny_mono (ha pos pins s σ H _ (I.iw _) h) (λus s1 ⟨vs,H1,I1,r,q⟩=>⟨I1.eX.jE,?_⟩) λ_ _ z=>z.elim) he hpl;have I1:=I1.eX;have hl:us.length=ps.length:=by rw[<-r.length];exact F.len _ _ _ _ q
 have E8:=hb s1 us I1.jE (by rw[aaP];exact hl);rw[aaP] at E8;refine wpAny_call (codeAny_mono (F.run X.A X.stack s1 H1 ⟨us,[]⟩ us vs Q E hr I1.iz E8 r q) λr s' hq=>?_);cases r with
 | error e=>exact hx H1 s1 e s' I1 hq
 | ok fl=>
  cases fl with
  | ret u=>exact I1.after hq
  | next=>exact False.elim hq
  | brk=>exact False.elim hq
  | cont=>exact False.elim hq
variable {cx n : Str} {np uj zc kA : Pos} {b₀ : Stmt} {mJ : List Stmt} {i : Nat} {ts : TS} {C2 : Addr}
end
end L2
namespace Nm
noncomputable def st (a b:Int):Int:=if b<0 then -(a / g a b) else a / g a b
noncomputable def sb (a b:Int):Int:=if b<0 then -(b / g a b) else b / g a b
theorem AZ {a d:Int} (h:0<d):a.fdiv d=a / d:=Int.fdiv_eq_ediv_of_nonneg a (by omega)
theorem A0 {a d:Int} (h:0<d) (dv:d∣a):a.fdiv (-d)= -(a / d):=by
 obtain⟨k,rfl⟩:=dv;rw[Int.mul_ediv_cancel_left _ (by omega),show d*k=(-d)* (-k) by rw[Int.neg_mul_neg]];exact Int.mul_fdiv_cancel_left _ (by omega)
end Nm
namespace L2
open PySem PySem.Spec PyProof.Rows
section
variable {P : Program} {w : World} {K : PySem.W.Frag} {mg : Str -> Option Value} {base : Heap} {CX : jw}
theorem ue.E9 {x qual:Str} {st:Stmt} {f:Addr} {fd:FuncData} {N ps:List Str} {k:Nat} {sp:Sp} (F:ue K x qual st f fd) (S:bf N ps (au st)) (len:∀vs H Q E,sp vs H Q E->vs.length=ps.length)
  (kB:∀(bZ:Value) (A:Around) (outer:List Env) (s:Shared) (H:Hp) (vs:List V) (Q:VK) (E:XK),dm k (A.deeper (envOfC qual (au st) s.heap.objs.size f bZ))->sp vs H Q E->
   ∃t,qi (df CX P w K mg base N qual (au st) f bZ A outer s H E) (aY st) t/\t {nx:=λ_ H'=>Q .dP H',rt:=Q} (start N vs) H):fU P w K mg base CX (k+1) f fd ps sp:=by
 obtain⟨oc,od,kV,doc,pm,an,bZ,ct,Ab,rfl,lk,tR⟩:=F.ex;exact E1 lk tR S len λA outer s H vs Q E hr vO=>kB bZ A outer s H vs Q E hr vO
end
noncomputable def noStar:Expr->Bool
 | .Starred _ _=>false
 | _=>true
theorem se {e:Expr} {es:List Expr} {env:Env} (h:noStar e=true):starEach (e::es) env=(false,eval e env)::starEach es env:=by
 cases e <;>first | rfl | exact absurd h aaM
theorem na {env:Env} {pos:Pos}:∀{es:List Expr},es.all noStar=true->(backTo pos (starEach es env)).any (·.1)=false
 | [],_=>rfl
 | e::es,h=>by
  rw[List.all_cons,aaZ] at h;rw[se h.1];show(false || (backTo pos (starEach es env)).any (·.1))=false;rw[na h.2];rfl
open PySem PySem.Spec PyProof.Rows PySem.W
structure P7 (K:PySem.W.Frag) (C:Addr):Prop where
 cls:(clsIn K C).isSome=true
 ga:findIn K (.ref C) "__getattribute__"=some (some (.builtin "BaseException.__getattribute__"))
 gt:findIn K (.ref C) "__getattr__"=some none
 cl:findIn K (.ref C) "__class__"=some (some (.builtin "object.__class__"))
 be:mroIn K C (.type "BaseException")=some true
 ob:mroIn K C (.type "object")=some true
section
variable {prog : Program} {w : World} {A : Around} {E : Value -> Shared -> Prop} {K : PySem.W.Frag} {h : Heap} {g : Array GenState} {d : Drawn} {t : Nat} {os : OsState} {a C : Addr} {o : Obj}
end
section
variable {X : Cx}
end
theorem j5 {env:Env}:∀(names:List (Str×NameKind)) (cs:List (Str×Addr)),(∀n,(n,NameKind.free)∈names->∃c,env.cells.lookup n=some c)->(∀x c,cs.lookup x=some c->env.cells.lookup x=some c)->
  ∃cl,(forIn names cs fun(x:Str×NameKind) (r:List (Str×Addr))=>(if (x.2==NameKind.free)=true then do let c <-cellOf env x.1;pure (ForInStep.yield ((x.1,c)::r)) else pure (ForInStep.yield r):Sem (ForInStep (List (Str×Addr)))))=pure cl/\
   (∀x c,cl.lookup x=some c->env.cells.lookup x=some c)/\(∀n,((n,NameKind.free)∈names\/(cs.lookup n).isSome=true)->∃c,cl.lookup n=some c)/\(∀x c,(x,c)∈cl->(env.cells.lookup x=some c/\(x,NameKind.free)∈names)\/(x,c)∈cs)
 | [],cs,_,h=>⟨cs,rfl,h,(λn hn=>by
   rcases hn with hn | hn
   ·exact absurd hn (by simp)
   ·exact Option.isSome_iff_exists.mp hn),λx c m=>.inr m⟩
 | (n,k)::r,cs,hf,h=>by
  by_cases hk:k=.free
  ·subst hk;obtain⟨c,hc⟩:=hf n aaE;obtain⟨cl,e,h1,h2,h3⟩:=j5 r ((n,c)::cs) (λm hm=>hf m (aaB _ hm)) (λx c' hx=>by
    rw[aaW] at hx;cases q:x==n with
    | true=>
     rw[q] at hx;have e1:x=n:=by simpa using q
     cases hx;rw[e1];exact hc
    | false=>rw[q] at hx;exact h x c' hx)
   refine⟨cl,?_,h1,λm hm=>h2 m ?_,λx c' m=>?_⟩
   rotate_left 2
   ·rcases h3 x c' m with ⟨q1,q2⟩ | m
    ·exact .inl ⟨q1,aaB _ q2⟩
    ·rcases List.mem_cons.mp m with e | m
     ·cases e;exact .inl ⟨hc,aaE⟩
     ·exact .inr m
   ·rw[List.forIn_cons];have hco:cellOf env n=pure c:=by unfold cellOf;rw[hc]
    simp only[beq_self_eq_true,if_true,hco,pure_bind];exact e
   ·rcases hm with hm | hm
    ·rcases List.mem_cons.mp hm with z | z
     ·cases z
      right
      rw[aaW];simp
     ·exact .inl z
    ·right
     rw[aaW];cases q:m==n with
     | true=>rfl
     | false=>exact hm
  ·obtain⟨cl,e,h1,h2,h3⟩:=j5 r cs (λm hm=>hf m (aaB _ hm)) h;refine⟨cl,?_,h1,λm hm=>h2 m ?_,λx c' m=>(h3 x c' m).imp (λq=>⟨q.1,aaB _ q.2⟩) id⟩
   ·rw[List.forIn_cons];have:(k==NameKind.free)=false:=by simpa using hk
    simp only[this,Bool.false_eq_true,if_false,pure_bind];exact e
   ·rcases hm with hm | hm
    ·rcases List.mem_cons.mp hm with z | z
     ·cases z;exact absurd rfl hk
     ·exact .inl z
    ·exact .inr hm
theorem fh {env:Env} {scope:Scope} (hf:∀n,(n,NameKind.free)∈scope.names->∃c,env.cells.lookup n=some c):
  ∃cl,closureFor scope env=pure cl/\(∀x c,cl.lookup x=some c->env.cells.lookup x=some c)/\(∀n,(n,NameKind.free)∈scope.names->∃c,cl.lookup n=some c)/\(∀x c,(x,c)∈cl->env.cells.lookup x=some c/\(x,NameKind.free)∈scope.names):=by
 obtain⟨cl,e,h1,h2,h3⟩:=j5 (env:=env) scope.names [] hf (λx c h=>by simp at h);refine⟨cl,?_,h1,λn hn=>h2 n (.inl hn),λx c m=>(h3 x c m).elim id λz=>absurd z (by simp)⟩;unfold closureFor;simp only[bind_pure];exact e
structure dA (N:List Str) (so:Scope) (N':List Str) (scope:Scope) (k:Nat) (fr:List Nat):Prop where
 kind:scope.kind=.function
 zd:∀y∈scope.names,y.2=.cell->scope.names.lookup y.1=some .cell/\(y.1,NameKind.free)∉scope.names
 locs:∀y∈scope.names,y.2=.local->scope.names.lookup y.1=some .local
 outer:∀y∈scope.names,y.2=.free->(so.names.lookup y.1=some .cell\/so.names.lookup y.1=some .free)
 len:N'.length=k+fr.length
 at_:∀t,t<fr.length->(fr[t]?).bind (λj=>N[j]?)=N'[k+t]?
 Fb:∀x∈N'.drop k,scope.names.lookup x=some .free
noncomputable def stC (k:Nat) (fr:List Nat) (σ:St):St:=List.replicate k none++fr.map λj=>(σ[j]?).join
noncomputable def fC (X:Cx) (N:List Str) (scope:Scope) (cl:List (Str×Addr)) (C:Addr) (s:Shared) (H:Hp) (ex:List Addr):Cx where
 prog:=X.prog
 w:=X.w
 K:=X.K
 mg:=X.mg
 base:=X.base
 A:=X.A
 N:=N
 s₀:=s
 H₀:=H
 env:=compEnvC scope cl C X.env
 outer:=X.stack
 stack:=X.stack
 ex:=ex
 calm:=X.calm
 fn:=λx=>scope.names.lookup x==some .cell
 pn:=[]
 xe:=λ_ _=>False
theorem fK {env:Env}:∀{names:List (Str×NameKind)} {x:Str},names.lookup x=some .free->
  (names.map fun(n,k)=>if (k==NameKind.free && env.scope.kind==.function && env.kindOf n==some .cell) then (n,NameKind.cell) else (n,k)).lookup x=some .cell\/
  (names.map fun(n,k)=>if (k==NameKind.free && env.scope.kind==.function && env.kindOf n==some .cell) then (n,NameKind.cell) else (n,k)).lookup x=some .free
 | [],_,h=>by simp at h
 | (n,k)::r,x,h=>by
  have ih:=@fK env r x;show List.lookup x ((if (k==NameKind.free && env.scope.kind==.function && env.kindOf n==some .cell)=true then (n,NameKind.cell) else (n,k))::_)=_\/List.lookup x ((if (k==NameKind.free && env.scope.kind==.function && env.kindOf n==some .cell)=true then (n,NameKind.cell) else (n,k))::_)=_;cases hx:x==n with
  | true=>
   simp only[aaW,hx] at h;cases h
   by_cases hc:(NameKind.free==NameKind.free && env.scope.kind==.function && env.kindOf n==some .cell)=true
   ·rw[if_pos hc];left;simp [aaW,hx]
   ·rw[if_neg hc];right;simp [aaW,hx]
  | false=>
   simp only[aaW,hx] at h
   by_cases hc:(k==NameKind.free && env.scope.kind==.function && env.kindOf n==some .cell)=true
   ·rw[if_pos hc];simp only[aaW,hx];exact ih h
   ·rw[if_neg hc];simp only[aaW,hx];exact ih h
theorem kP {env:Env}:∀{names:List (Str×NameKind)} {x:Str},
  ((names.map fun(n,k)=>if (k==NameKind.free && env.scope.kind==.function && env.kindOf n==some .cell) then (n,NameKind.cell) else (n,k)).lookup x=some .cell\/
  (names.map fun(n,k)=>if (k==NameKind.free && env.scope.kind==.function && env.kindOf n==some .cell) then (n,NameKind.cell) else (n,k)).lookup x=some .free)->(x,NameKind.free)∈names\/(x,NameKind.cell)∈names
 | [],_,h=>by simp at h
 | (n,k)::r,x,h=>by
  have ih:=@kP env r x;have up:((x,NameKind.free)∈r\/(x,NameKind.cell)∈r)->((x,NameKind.free)∈(n,k)::r\/(x,NameKind.cell)∈(n,k)::r):=λz=>z.imp (aaB _) (aaB _);have h:List.lookup x ((if (k==NameKind.free && env.scope.kind==.function && env.kindOf n==some .cell)=true then (n,NameKind.cell) else (n,k))::_)=_\/List.lookup x ((if (k==NameKind.free && env.scope.kind==.function && env.kindOf n==some .cell)=true then (n,NameKind.cell) else (n,k))::_)=_:=h;cases hx:x==n with
  | true=>
   have e1:x=n:=by simpa using hx
   subst e1
   by_cases hc:(k==NameKind.free && env.scope.kind==.function && env.kindOf x==some .cell)=true
   ·have:k=.free:=by
     simp only[aaZ] at hc
     simpa using hc.1.1
    subst this;exact .inl aaE
   ·rw[if_neg hc] at h;simp only[aaW,hx] at h;rcases h with h | h
    ·cases h;exact .inr aaE
    ·cases h;exact .inl aaE
  | false=>
   by_cases hc:(k==NameKind.free && env.scope.kind==.function && env.kindOf n==some .cell)=true
   ·rw[if_pos hc] at h;simp only[aaW,hx] at h;exact up (ih h)
   ·rw[if_neg hc] at h;simp only[aaW,hx] at h;exact up (ih h)
theorem jy:∀(names:List (Str×NameKind)) (h:Heap) (acc:List (Str×Addr)) (x:Str) (c:Addr),(x,c)∈cellsFrom h.objs.size names acc->
  (x,c)∈acc\/(h.objs.size<=c/\(pushCells h names).IsCell c none/\(x,NameKind.cell)∈names)
 | [],h,acc,x,c,m=>.inl m
 | (n,k)::r,h,acc,x,c,m=>by
  unfold cellsFrom at m;unfold pushCells
  by_cases hk:(k==NameKind.cell)=true
  ·rw[if_pos hk] at m ⊢;have ih:=jy r (h.push {cls:=.type "cell",data:=.cell none}) ((n,h.objs.size)::acc) x c;rw[Heap.size_push] at ih;rcases ih m with m | ⟨q1,q2,q3⟩
   ·rcases List.mem_cons.mp m with e | m
    ·cases e;have hk:k=.cell:=by simpa using hk
     subst hk;refine .inr ⟨aav _,?_,aaE⟩;have q:(h.push {cls:=.type "cell",data:=.cell none}).IsCell h.objs.size none:=⟨_,Heap.get?_push_size _ rfl,rfl⟩
     exact q.keeps λb o e=>pushCells_keeps r _ b o e
    ·exact .inl m
   ·exact .inr ⟨by omega,q2,aaB _ q3⟩
  ·rw[if_neg hk] at m ⊢;rcases jy r h acc x c m with m | ⟨q1,q2,q3⟩
   ·exact .inl m
   ·exact .inr ⟨q1,q2,aaB _ q3⟩
theorem jz:∀(names:List (Str×NameKind)) (n lo:Nat) (acc:List (Str×Addr)),(∀x c,(x,c)∈acc->c<n)->(∀x y c,lo<=c->(x,c)∈acc->(y,c)∈acc->x=y)->
  ∀x y c,lo<=c->(x,c)∈cellsFrom n names acc->(y,c)∈cellsFrom n names acc->x=y
 | [],n,lo,acc,h1,h2,x,y,c,hl,m1,m2=>h2 x y c hl m1 m2
 | (z,k)::r,n,lo,acc,h1,h2,x,y,c,hl,m1,m2=>by
  unfold cellsFrom at m1 m2
  by_cases hk:(k==NameKind.cell)=true
  ·rw[if_pos hk] at m1 m2;refine jz r (n+1) lo _ (λx c m=>?_) (λx y c hl m1 m2=>?_) x y c hl m1 m2
   ·rcases List.mem_cons.mp m with e | m
    ·cases e;exact aaR _
    ·exact aa1 (h1 x c m)
   ·rcases List.mem_cons.mp m1 with e1 | m1 <;>rcases List.mem_cons.mp m2 with e2 | m2
    ·cases e1;cases e2;rfl
    ·cases e1;exact absurd (h1 _ _ m2) (aaN _)
    ·cases e2;exact absurd (h1 _ _ m1) (aaN _)
    ·exact h2 x y c hl m1 m2
  ·rw[if_neg hk] at m1 m2;exact jz r n lo acc h1 h2 x y c hl m1 m2
theorem eZ:∀(names:List (Str×NameKind)) (n:Nat) (acc:List (Str×Addr)) (x:Str),(x,NameKind.cell)∉names->(cellsFrom n names acc).lookup x=acc.lookup x
 | [],n,acc,x,_=>rfl
 | (z,k)::r,n,acc,x,h=>by
  have hr:(x,NameKind.cell)∉r:=λm=>h (aaB _ m);unfold cellsFrom
  by_cases hk:(k==NameKind.cell)=true
  ·rw[if_pos hk,eZ r _ _ x hr,aaW];have hk:k=.cell:=by simpa using hk
   subst hk;have:(x==z)=false:=by
    cases q:x==z with
    | false=>rfl
    | true=>
     have e:x=z:=by simpa using q
     subst e;exact absurd aaE h
   rw[this]
  ·rw[if_neg hk];exact eZ r n acc x hr
theorem jA:∀(names:List (Str×NameKind)) (n:Nat) (acc:List (Str×Addr)) (x:Str),((x,NameKind.cell)∈names\/(acc.lookup x).isSome=true)->((cellsFrom n names acc).lookup x).isSome=true
 | [],n,acc,x,h=>by
  rcases h with h | h
  ·simp at h
  ·exact h
 | (z,k)::r,n,acc,x,h=>by
  unfold cellsFrom
  by_cases hk:(k==NameKind.cell)=true
  ·rw[if_pos hk];refine jA r _ _ x ?_;rcases h with h | h
   ·rcases List.mem_cons.mp h with e | h
    ·cases e
     right
     rw[aaW];simp
    ·exact .inl h
   ·right
    rw[aaW];cases q:x==z with
    | true=>rfl
    | false=>exact h
  ·rw[if_neg hk];refine jA r _ _ x ?_;rcases h with h | h
   ·rcases List.mem_cons.mp h with e | h
    ·cases e;exact absurd rfl hk
    ·exact .inl h
   ·exact .inr h
section
variable {M : Model} {A : Around} {E : Value -> Shared -> Prop} {s : Shared}
theorem eK {scope:Scope} {globals:Addr} {closure:List (Str×Addr)} {qual:Str} {func:Option Addr} {code:Value} {outer:Env} {Q:Env->Shared->Prop}
  (hQ:Q (newEnv scope s.heap.objs.size globals (cellsFrom (s.heap.objs.size+1) scope.names closure) qual func code (some outer) builtinsNs)
   {s with heap:=pushCells (s.heap.push {cls:=.type "dict",data:=.dict #[]}) scope.names}):
  wpAny M A (newFunctionEnv scope globals closure [] qual func code (some outer)) Q E s:=by
 simp only[newFunctionEnv,Option.isSome_some,if_true];refine wpAny_bind (wpAny_alloc ?_);refine wpAny_bind (wpAny_layCells _ (λname kind cells=>by cases hkc:kind==NameKind.cell <;>simp [hkc]) _ _ _ _ ?_);rw[show({s with heap:=s.heap.push {cls:=.type "dict",data:=.dict #[]}}:Shared).heap.objs.size=s.heap.objs.size+1 from Heap.size_push ..];refine wpAny_bind ?_;rw[List.forIn_nil];exact wpAny_pure (wpAny_pure hQ)
end
structure DA (X:Cx) (scope:Scope) (cl:List (Str×Addr)) (lo:Nat) (C:Addr) (h1:Heap):Prop where
 old:∀x c,cl.lookup x=some c->X.env.cells.lookup x=some c\/(lo<=c/\C<c/\h1.IsCell c none)
 inj:∀x y c,C<c->cl.lookup x=some c->cl.lookup y=some c->x=y
 has:∀n,(n,NameKind.free)∈scope.names\/(n,NameKind.cell)∈scope.names->∃c,cl.lookup n=some c
 Fb:∀n,scope.names.lookup n=some .free->∀c,cl.lookup n=some c->X.env.cells.lookup n=some c
 own:∀x c,scope.names.lookup x=some .cell->cl.lookup x=some c->lo<=c
section
variable {X : Cx} {pins : List (Addr × Obj)} {σ : St} {H : Hp} {s : Shared} {N' : List Str} {scope : Scope} {k : Nat} {fr : List Nat} {cl : List (Str × Addr)}
theorem Hi {C:Addr} {fp:List Addr} {h1:Heap} (I:Inv X pins σ H s) (S:dA X.N X.env.scope N' scope k fr) (B:DA X scope cl s.heap.objs.size C h1)
  (hC:s.heap.objs.size<=C) (f2:∀b∈fp,fF X pins H b) (lt:∀b∈fp,b<s.heap.objs.size):(fC X N' scope cl C s H fp).Ok where
 mod:=I.ok.mod
 kind:=S.kind
 glob:=I.ok.glob
 blt:=I.ok.blt
 above:=hC
 inj:=λx y c h1 h2=>by
  rcases B.old _ _ h1 with o1 | o1 <;>rcases B.old _ _ h2 with o2 | o2
  ·exact I.ok.inj x y c o1 o2
  ·exact B.inj x y c o2.2.1 h1 h2
  ·exact B.inj x y c o1.2.1 h1 h2
  ·exact B.inj x y c o1.2.1 h1 h2
 has:=λx hx=>B.has x (kP hx)
 ET:=λx c z e=>B.own x c (by
  have z:(scope.names.lookup x==some NameKind.cell)=true:=z
  simpa using z) e
 hd:=I.ok.hd
 frames:=I.ok.frames
 Gq:=.inl rfl
 JC:=λb hb=>⟨aaA (aaL (lt b hb) hC),λx c e=>(B.old _ _ e).elim (λo=>(f2 b hb).2.2.2.2.1 x c o) λo=>aa4 (aaL (lt b hb) o.1)⟩
 bs:=I.bs
 xq:=aaI I.ok.xq I.sz
 tN:=λb o e hb=>by
  rcases(f2 b hb).2.2.2.1 with z | z
  ·exact I.ok.tN b o e z
  ·exact absurd (aaL (Heap.lt_size e) (aaI I.ok.xq z)) (aaN _)
 tO:=λb hb z=>by
  rcases List.mem_cons.mp (I.i7 b z) with q | q
  ·exact(f2 b hb).2.1 q
  ·exact(f2 b hb).2.2.1 q
 iW:=I.stack
 zZ:=I.nA
theorem xJ {C:Addr} {fp:List Addr} {h1:Heap} {tk:Nat} {m:Str->Option Value} (I:Inv X pins σ H s) (S:dA X.N X.env.scope N' scope k fr) (B:DA X scope cl s.heap.objs.size C h1)
  (hC:s.heap.objs.size<=C) (f2:∀b∈fp,fF X pins H b) (lt:∀b∈fp,b<s.heap.objs.size) (old:∀b o,s.heap.get? b=some o->h1.get? b=some o) (hn:h1.Ns C m):
  Inv (fC X N' scope cl C s H fp) [] (stC k fr σ) H {s with heap:=h1,toks:=tk}:=by
 refine⟨Hi I S B hC f2 lt,rfl,I.bare,Un.kept old,⟨m,hn,λi x v e1 e2 e3=>?_⟩,λx c e=>?_,I.bV.fresh hC,λx c e=>(B.old _ _ e).elim (λo=>I.gB x c o) λo=>I.bV.fresh o.1,λp hp=>absurd (show p∈([]:List (Addr×Obj)) from hp) (by simp),I.bV.kept old,?_⟩
 ·have e1:N'[i]?=some x:=e1;unfold stC at e2
  by_cases hi:i<k
  ·rw[abc (by simpa using hi),List.getElem?_replicate,if_pos hi] at e2;cases e2
  ·rw[abk (by simpa using hi),List.length_replicate,aau] at e2;cases q:fr[i - k]? with
   | none=>rw[q] at e2;cases e2
   | some j=>
    rw[q] at e2;have e2:(σ[j]?).join=some v:=aaS e2;have ej:σ[j]?=some (some v):=by
     cases z:σ[j]? with
     | none=>rw[z] at e2;cases e2
     | some o=>rw[z] at e2;exact congrArg some e2
    have gF:i - k<fr.length:=(List.getElem?_eq_some_iff.mp q).1;have CH:=S.at_ (i - k) gF;rw[q,show k+ (i - k)=i by omega,e1] at CH;have CH:X.N[j]?=some x:=CH;have hxm:x∈N'.drop k:=List.mem_iff_getElem?.mpr ⟨i - k,by rw[List.getElem?_drop,show k+ (i - k)=i by omega];exact e1⟩;have xH:=S.Fb x hxm;have J2:(x,NameKind.free)∈scope.names:=aaV xH;have J3:=S.outer _ J2 rfl;obtain⟨m0,hn0,P8⟩:=I.loc;obtain⟨u,r,l⟩:=P8 j x v CH ej (.inr J3);refine⟨u,r,.inr ⟨fK xH,?_⟩⟩;rcases l with ⟨kk,_⟩ | ⟨_,c,e,z⟩
    ·have kk:X.env.scope.names.lookup x=some .local:=kk;rcases J3 with q1 | q1
     ·rw[kk] at q1;cases q1
     ·rw[kk] at q1;cases q1
    ·obtain⟨c',e'⟩:=B.has x (.inl J2);have ec:=B.Fb x xH _ e';rw[e] at ec;cases ec;obtain⟨ob,ho,hd⟩:=z;exact⟨c,e',ob,old _ _ ho,hd⟩
 ·rcases B.old _ _ e with o | o
  ·obtain⟨v,ob,ho,hd⟩:=I.cell x c o;exact⟨v,ob,old _ _ ho,hd⟩
  ·exact⟨none,o.2.2⟩
 ·unfold stC;rw[aay,List.length_replicate,aat];exact S.len.symm
end
section
variable {prog : Program} {w : World} {A : Around} {E : Value -> Shared -> Prop} {R : Result -> Shared -> Prop} {s : Shared}
theorem fm {elt target iter:Expr} {ifs:List Expr} {scope:Scope} {pos:Pos} {it acc:Value} {env:Env} (I:Nat->Shared->Prop)
  (turn:∀n s,I n s->wpAny (model prog w) A (pyNext it) (λr s₁=>match r with
   | none=>R (.ok .next) s₁
   | some v=>wpAny (model prog w) A (letOwnedTupleGo target it v) (λ_ YQ=>wpAny (model prog w) A (assign target env v) (λ_ s₂=>
     wpAny (model prog w) A (forIn ifs true λc r=>if r=true then do let ok <-isTrue c env (eval c env);pure (ForInStep.yield ok) else pure (ForInStep.yield r)) (λok s₃=>
      if ok=true then wpAny (model prog w) A (eval elt env) (λx s₄=>
       wpAny (model prog w) A (call (.builtin "list.append") [acc,x]) (λ_ s₅=>∃m,m<n/\I m s₅) (λ_ _=>False) s₄) (notedBy (model prog w) A env λx s'=>R (.error x) s') s₃
      else ∃m,m<n/\I m s₃) (λ_ _=>False) s₂) (λ_ _=>False) YQ) (λ_ _=>False) s₁) (λ_ _=>False) s)
  (n:Nat) (h:I n s):
  codeAny (model prog w) A (.compLoop (.ListComp elt [⟨target,iter,ifs,0⟩] scope pos) 0 it acc env) R s:=by
 refine codeAny_loop rfl I (λn s hI=>?_) n h;show wpAny _ A ((compTurn (.ListComp elt [⟨target,iter,ifs,0⟩] scope pos) 0 it acc env).onRaise (λx=>do noteFrame x env;theTreesLotGoes x)) _ _ s;refine wpAny_noted ?_;rw[compTurn_list];refine wpAny_bind (wpAny_standAt (wpAny_bind (wpAny_mono (turn n s hI) (λr s₁ h₁=>?_) λ_ _ h'=>h'.elim)));cases r with
 | none=>exact wpAny_pure h₁
 | some v=>
  refine wpAny_bind (wpAny_mono h₁ (λ_ YQ h₁'=>?_) λ_ _ h'=>h'.elim);refine wpAny_bind (wpAny_mono h₁' (λ_ s₂ h₂=>wpAny_bind (wpAny_mono h₂ (λok s₃ h₃=>?_) λ_ _ h'=>h'.elim)) λ_ _ h'=>h'.elim);cases ok with
  | false=>exact wpAny_pure ⟨rfl,h₃⟩
  | true=>
   exact wpAny_bind (wpAny_bind (wpAny_mono h₃ (λx s₄ h₄=>wpAny_bind (wpAny_mono h₄ (λ_ s₅ h₅=>wpAny_pure (wpAny_pure ⟨rfl,h₅⟩)) λ_ _ h'=>h'.elim)) λ_ _ h'=>h'))
end
noncomputable def A1 (X:Cx) (ifs:List Expr) (t:TT):Prop:=
 ∀(pins:List (Addr×Obj)) (s:Shared) (σ:St) (H:Hp) (Q:Bool->Hp->Prop),Inv X pins σ H s->t σ H Q->
  wpAny (model X.prog X.w) X.A (forIn ifs true λc r=>if r=true then do let ok <-isTrue c X.env (eval c X.env);pure (ForInStep.yield ok) else pure (ForInStep.yield r)) (TP X pins σ Q) X.xe s
noncomputable def pP:TT:=λ_ H Q=>Q true H
theorem cX {X:Cx}:A1 X [] pP:=λ_ _ _ H _ I h=>wpAny_tests_nil ⟨H,I,h⟩
theorem rL {X:Cx} {c:Expr} {t:TT} (h:PT X c t):A1 X [c] t:=λpins s σ H Q I hq=>wpAny_tests_one (h pins s σ H Q I hq)
section
variable {X : Cx}
noncomputable def fc (J:It) (g:TG) (tc:TT) (te:TE) (σ0:St) (H1:Hp) (fin:List V->Hp->Prop):Prop:=
 ∃W:Nat->Nat->List V->St->Hp->Prop,(∃m,W 0 m [] σ0 H1)/\∀i m ys σ2 H2,W i m ys σ2 H2->
  (J.stop i H2/\fin ys H2)\/
  (J.go i H2/\∀x H3,J.vv i H2 x H3->g x σ2 H3 λσ3 H4=>tc σ3 H4 λb H5=>if b=true then te σ3 H5 λy H6=>ys.length<sizeLine/\∃m',m'<m/\W (i+1) m' (ys++ [y]) σ3 H6 else ∃m',m'<m/\W (i+1) m' ys σ3 H5)
noncomputable def c6 (bE:List Value) (n:Nat):Obj:={cls:=.type "list",data:=.seq bE.toArray n}
theorem uk {elt target iter:Expr} {ifs:List Expr} {scope:Scope} {pos:Pos} {g:TG} {tc:TT} {te:TE} {k:Nat} {fr:List Nat} {N':List Str} {cl:List (Str×Addr)} {pins:List (Addr×Obj)} {σ:St} {H2:Hp} {s2:Shared}
  {it:Addr} {fp:List Addr} {tn:Nat->Heap->Prop} {J:It} {fin:List V->Hp->Prop} {R0:Result->Shared->Prop} {XE:List (Str×Addr)->Addr->Shared->Hp->List Addr->Value->Shared->Prop}
  (hc:X.calm=true) (S:dA X.N X.env.scope N' scope k fr) (c1:∀x c,cl.lookup x=some c->X.env.cells.lookup x=some c) (c2:∀n,(n,NameKind.free)∈scope.names->∃c,cl.lookup n=some c) (cin:∀x c,(x,c)∈cl->∃y,X.env.cells.lookup y=some c) (DB:∀x,(x,NameKind.cell)∈scope.names->∀c,(x,c)∉cl)
  (hg:∀cl C s H ex,PG (fC X N' scope cl C s H ex) target g) (ht:∀cl C s H ex,A1 (fC X N' scope cl C s H ex) ifs tc) (he:∀cl C s H ex,PE ((fC X N' scope cl C s H ex).iw (XE cl C s H ex)) elt te)
  (I2:Inv X pins σ H2 s2) (T:Turn X.prog X.w X.K target J fp it tn) (mX:tn 0 s2.heap) (f2:∀b∈fp,fF X pins H2 b) (hb:fc J g tc te (stC k fr σ) H2 fin)
  (hR:∀(C:Addr),C=(s2.heap.push {cls:=.type "list",dict:=none,data:=.seq ([]:List Value).toArray}).objs.size->∀(s':Shared) (m:Str->Option Value) (ys:List V) (bE:List Value) (n:Nat) (H':Hp),s2.heap.objs.size<C->s'.heap.Ns C m->bQ ys bE->ys.length<=sizeLine->s'.heap.get? s2.heap.objs.size=some (c6 bE n)->H' s2.heap.objs.size=none->H' C=none->fin ys H'->
   s'.os=s2.os->AllBare s'.gens->Un (dN X.stack) fp H2 H' s2.heap s'.heap->gy X.prog X.w H' s'.heap->R0 (.ok .next) s')
  (hE:∀cl C x s',C=(s2.heap.push {cls:=.type "list",dict:=none,data:=.seq ([]:List Value).toArray}).objs.size->s2.heap.objs.size<C->XE cl C s2 H2 fp x s'->notedBy (model X.prog X.w) X.A (compEnvC scope cl C X.env) (λy nX=>R0 (.error y) nX) x s'):
  codeAny (model X.prog X.w) X.A (.compStart (.ListComp elt [⟨target,iter,ifs,0⟩] scope pos) 0 (.ref it) (.ref s2.heap.objs.size) (compEnvC scope (cellsFrom ((s2.heap.push {cls:=.type "list",dict:=none,data:=.seq ([]:List Value).toArray}).objs.size+1) scope.names cl) (s2.heap.push {cls:=.type "list",dict:=none,data:=.seq ([]:List Value).toArray}).objs.size X.env)) R0 {s2 with heap:=pushCells ((s2.heap.push {cls:=.type "list",dict:=none,data:=.seq ([]:List Value).toArray}).push {cls:=.type "dict",data:=.dict #[]}) scope.names}:=by
 obtain⟨W,⟨m0,w0⟩,turn⟩:=hb;have lt:∀b∈fp,b<s2.heap.objs.size:=λb hb=>by
  obtain⟨o,e,_⟩:=T.obj _ _ mX b hb;exact Heap.lt_size e
 generalize Hj:s2.heap.push {cls:=.type "list",dict:=none,data:=.seq ([]:List Value).toArray}=G2 at hR hE ⊢;have ze:G2.objs.size=s2.heap.objs.size+1:=by rw[<-Hj,Heap.size_push]
 have J4:s2.heap.objs.size≠G2.objs.size:=by rw[ze];exact aaA (aaR _)
 have hC:s2.heap.objs.size<=G2.objs.size:=by rw[ze];exact Nat.le_succ _
 have old:∀b o,s2.heap.get? b=some o->(pushCells (G2.push {cls:=.type "dict",data:=.dict #[]}) scope.names).get? b=some o:=λb o e=>by
  refine pushCells_keeps _ _ b o (Heap.get?_push_of_some _ ?_);rw[<-Hj];exact Heap.get?_push_of_some _ e
 have zf:(pushCells (G2.push {cls:=.type "dict",data:=.dict #[]}) scope.names).get? s2.heap.objs.size=some (c6 [] 0):=by
  refine pushCells_keeps _ _ _ _ (Heap.get?_push_of_some _ ?_);rw[<-Hj];exact Heap.get?_push_size _ rfl
 have Hk:(pushCells (G2.push {cls:=.type "dict",data:=.dict #[]}) scope.names).Ns G2.objs.size λ_=>none:=(Heap.Ns.new G2 (.type "dict")).keeps (pushCells_keeps _ _);have J5:∀x c,(x,c)∈cl->c<G2.objs.size+1:=λx c m=>by
  obtain⟨y,hy⟩:=cin x c m;obtain⟨v,q⟩:=I2.cell y c hy;rw[ze];exact aa1 (aa1 q.lt)
 have B:DA X scope (cellsFrom (G2.objs.size+1) scope.names cl) s2.heap.objs.size G2.objs.size (pushCells (G2.push {cls:=.type "dict",data:=.dict #[]}) scope.names):=by
  have own:=jy scope.names (G2.push {cls:=.type "dict",data:=.dict #[]}) cl;rw[Heap.size_push] at own;refine⟨λx c e=>?_,λx y c hc h1 h2=>?_,λn hn=>?_,λn hn c e=>?_,λx c hx e=>?_⟩
  ·by_cases hx:(x,NameKind.cell)∈scope.names
   ·rcases own x c (aaV e) with m | ⟨q1,q2,_⟩
    ·
     exfalso;exact DB x hx c m
    ·exact .inr ⟨aaI hC (Nat.le_of_succ_le q1),q1,q2⟩
   ·rw[eZ _ _ _ _ hx] at e;exact .inl (c1 x c e)
  ·exact jz scope.names (G2.objs.size+1) (G2.objs.size+1) cl J5 (λx y c hl m1 _=>absurd (J5 x c m1) (Nat.not_lt.mpr hl)) x y c hc (aaV h1) (aaV h2)
  ·refine Option.isSome_iff_exists.mp (jA _ _ _ n ?_);rcases hn with hn | hn
   ·obtain⟨c,e⟩:=c2 n hn;exact .inr (by rw[e];rfl)
   ·exact .inl hn
  ·have hx:(n,NameKind.cell)∉scope.names:=λm=>by
    have:=(S.zd _ m rfl).1;rw[hn] at this;cases this
   rw[eZ _ _ _ _ hx] at e;exact c1 n c e
  ·have hx:=aaV hx;rcases own x c (aaV e) with m | ⟨q1,q2,_⟩
   ·exact absurd m (DB x hx c)
   ·exact aaI hC (Nat.le_of_succ_le q1)
 generalize pushCells (G2.push {cls:=.type "dict",data:=.dict #[]}) scope.names=h₁ at *;generalize cellsFrom (G2.objs.size+1) scope.names cl=j6 at *;generalize wa:s2.heap.objs.size=D at *;generalize hCc:G2.objs.size=C at *;have fD:H2 D=none:=by rw[<-wa];exact I2.bV.fresh (aav _)
 have cells:∀x c,j6.lookup x=some c->c≠D:=λx c e=>by
  rcases B.old _ _ e with o | o
  ·obtain⟨v,q⟩:=I2.cell x c o;rw[<-wa];exact aaA q.lt
  ·exact aa4 (aa8 (by rw[ze];exact aaR _) o.2.1)
 have loop:∀(tS:Addr) (s3:Shared),tS=it->(∃tk,s3={s2 with heap:=h₁,toks:=tk})->
   codeAny (model X.prog X.w) X.A (.compLoop (.ListComp elt [⟨target,iter,ifs,0⟩] scope pos) 0 (.ref tS) (.ref D) (compEnvC scope j6 C X.env)) R0 s3:=by
  rintro tS s3 rfl ⟨tk,rfl⟩;have I3:Inv (fC X N' scope j6 C s2 H2 fp) [] (stC k fr σ) H2 {s2 with heap:=h₁,toks:=tk}:=xJ I2 S (by rw[wa];exact B) (by rw[wa];exact hC) f2 (by rw[wa];exact lt) old Hk;have j3:∀{H':Hp} {o:Obj},(∀b∈fp,H' b=none)->∀b∈fp,fF (fC X N' scope j6 C s2 H2 fp) [(D,o)] H' b:=λ{H' o} hn b hb=>
   ⟨hn b hb,aaA (aaL (lt b hb) hC),λz=>by
    rcases List.mem_cons.mp (I2.i7 b z) with q | q
    ·exact(f2 b hb).2.1 q
    ·exact(f2 b hb).2.2.1 q,.inl hb,λx c e=>(B.old _ _ e).elim (λo=>(f2 b hb).2.2.2.2.1 x c o) (λo=>aa4 (aaL (lt b hb) o.1)),λp hp=>by
    have e:p=(D,o):=by simpa [fC] using hp
    rw[e];exact aa4 (lt b hb)⟩
  have Hl:∀{σ':St} {H':Hp} {s':Shared} {o:Obj},Inv (fC X N' scope j6 C s2 H2 fp) [] σ' H' s'->s'.heap.get? D=some o->H' D=none->(∀v,o.data≠.cell v)->Inv (fC X N' scope j6 C s2 H2 fp) [(D,o)] σ' H' s':=λ{σ' H' s' o} I' e n hd=>
   I'.gC λp hp=>by
    have q:p=(D,o):=by simpa using hp
    subst q;refine⟨e,n,J4,λz=>?_,hd⟩;obtain⟨_,ob,ho,_⟩:=I2.stack.mem z;exact absurd (Heap.lt_size ho) (by rw[wa];exact aaN _)
  have P9:∀{bE:List Value} {n:Nat} (v:Option Value),(c6 bE n).data≠.cell v:=λv z=>by
   have z:Data.seq _ _=Data.cell v:=z;cases z
  refine fm (λn s'=>∃i ys σ' H' bE rM,Inv (fC X N' scope j6 C s2 H2 fp) [] σ' H' s'/\tn i s'.heap/\(∀b∈fp,H' b=none)/\s'.heap.get? D=some (c6 bE rM)/\H' D=none/\bQ ys bE/\ys.length<=sizeLine/\W i n ys σ' H') ?_ m0
   ⟨0,[],_,H2,[],0,I3,T.keep _ _ _ mX (λb _ o e=>old b o e),λb hb=>(f2 b hb).1,zf,fD,.nil,aaz _,w0⟩
  rintro n s4 ⟨i,ys,σ4,H4,bE,rM,I4,J6,Fc,Qa,J7,DC,J8,w4⟩;have J9:=Hl I4 Qa J7 P9;rcases turn i n ys σ4 H4 w4 with ⟨stop,qf⟩ | ⟨go,step⟩
  ·refine cu (T.done (fC X N' scope j6 C s2 H2 fp) rfl rfl rfl hc i _ s4 σ4 H4 _ J9 (j3 Fc) J6 stop) λr s5 ⟨hr,I5⟩=>?_;subst hr;obtain⟨m5,Qb,_⟩:=I5.loc;exact hR C rfl s5 m5 ys bE rM H4 (by rw[ze];exact aaR _) Qb DC J8 (I5.pin (D,c6 bE rM) (aaO _ aaE)).1 J7 I5.free qf I5.os I5.bare I5.base I5.bV
  ·refine cu (T.item (fC X N' scope j6 C s2 H2 fp) rfl rfl rfl hc i _ s4 σ4 H4 _ J9 (j3 Fc) J6 go) λr s5 ⟨u,hr,h5⟩=>?_;subst hr;refine cu h5 λ_ s6 dD=>?_;obtain⟨x,H6,I6,r6,y6,Hm,Qc⟩:=dD;have Qd:=I6.pinned (j3 Qc) (T.obj _ _ Hm);refine cu (hg j6 C s2 H2 fp _ s6 σ4 H6 x u _ Qd r6 (step x H6 y6)) λ_ s7 ⟨σ7,H7,I7,q7⟩=>?_;refine cu (ht j6 C s2 H2 fp _ s7 σ7 H7 _ I7 q7) λok s8 ⟨H8,I8,q8⟩=>?_;have back:∀{σ':St} {H':Hp} {s':Shared},Inv (fC X N' scope j6 C s2 H2 fp) ([(D,c6 bE rM)]++j2 fp s6.heap) σ' H' s'->tn (i+1) s'.heap/\(∀b∈fp,H' b=none)/\s'.heap.get? D=some (c6 bE rM)/\H' D=none:=λ{σ' H' s'} I'=>by
    have pD:=I'.pin (D,c6 bE rM) (aaO _ (aba _ (by simp)));refine⟨T.keep _ _ _ Hm λb hb o e=>(I'.pin (b,o) (aaO _ (aaO _ (dH hb e)))).1,λb hb=>?_,pD.1,pD.2.1⟩;obtain⟨o,e,d⟩:=T.obj _ _ Hm b hb;exact(I'.pin (b,o) (aaO _ (aaO _ (dH hb e)))).2.1
   cases ok with
   | false=>
    rw[if_neg aaM];rw[if_neg aaM] at q8;obtain⟨m',hm,w8⟩:=q8;obtain⟨b1,b2,b3,b4⟩:=back I8;exact⟨m',hm,i+1,ys,σ7,H8,bE,rM,I8.gC (λp hp=>absurd hp (by simp)),b1,b2,b3,b4,DC,J8,w8⟩
   | true=>
    rw[if_pos rfl];rw[if_pos rfl] at q8;refine wpAny_mono (he j6 C s2 H2 fp _ s8 σ7 H8 _ (I8.iw _) q8) (λy s9 ⟨z,H9,I9,r9,gF,m',hm,w9⟩=>?_) λx s' hx=>hE j6 C x s' rfl (by rw[ze];exact aaR _) hx;have I9:=I9.eX;obtain⟨b1,b2,b3,b4⟩:=back I9;have hl:=DC.length;refine call_meets F.slot_list_append ⟨_,b3,rfl⟩ F.entry_list_append (F.args_list_append_2 _ _) (PySem.list_append D bE.toArray rM y (by rw[aaD];omega)) ⟨b3,?_⟩;obtain⟨c',q⟩:∃c',(s9.heap.update D (Obj.mapSeq λx=>x.push y)).get? D=some (c6 (bE++ [y]) c'):=by
     have q:=PySem.IsL.update b3 (λx=>x.push y);rw[show bE.toArray.push y=(bE++ [y]).toArray by simp] at q;exact⟨_,q⟩
    have Qe:Inv (fC X N' scope j6 C s2 H2 fp) [] σ7 H9 s9:=I9.gC (λp hp=>absurd hp (by simp));have kp:∀b o,b≠D->s9.heap.get? b=some o->(s9.heap.update D (Obj.mapSeq λx=>x.push y)).get? b=some o:=λb o hb e=>(Heap.get?_update_other s9.heap (Obj.mapSeq λx=>x.push y) (Ne.symm hb)).trans e;have Qf:=Qe.turned (t':=s9.toks) (it:=D) (h':=s9.heap.update D (Obj.mapSeq λx=>x.push y)) kp b4 J4 (.inr (by show s2.heap.objs.size<=D;rw[wa];exact aav _)) (λx c e=>cells x c e) (λp hp=>absurd hp (by simp [fC]));refine⟨m',hm,i+1,ys++ [z],σ7,H9,bE++ [y],c',Qf,T.keep _ _ _ b1 (λb hb o e=>kp b o (aaA (lt b hb)) e),b2,q,b4,DC.append (.cons r9 .nil),?_,w9⟩
    ·rw[aay,aa0];omega
 exact codeAny_compStart_list (loop it _ rfl ⟨_,rfl⟩) (T.self _ 0 _ _ _ (T.keep _ _ _ mX (λb _ o e=>old b o e)) (loop it _ rfl ⟨_,rfl⟩))
theorem qB {elt target iter:Expr} {ifs:List Expr} {scope:Scope} {pos:Pos} {g:TG} {tc:TT} {te:TE} {k:Nat} {fr:List Nat} {N':List Str} {cl:List (Str×Addr)} {pins:List (Addr×Obj)} {σ:St} {H2:Hp} {s2:Shared}
  {it:Addr} {fp:List Addr} {tn:Nat->Heap->Prop} {J:It} {E:Value->Shared->Prop} {fin:List V->Hp->Prop} {RR:Value->Addr->Result->Shared->Prop} {XE:List (Str×Addr)->Addr->Shared->Hp->List Addr->Value->Shared->Prop}
  (hc:X.calm=true) (S:dA X.N X.env.scope N' scope k fr) (c1:∀x c,cl.lookup x=some c->X.env.cells.lookup x=some c) (c2:∀n,(n,NameKind.free)∈scope.names->∃c,cl.lookup n=some c) (cin:∀x c,(x,c)∈cl->∃y,X.env.cells.lookup y=some c) (DB:∀x,(x,NameKind.cell)∈scope.names->∀c,(x,c)∉cl)
  (hg:∀cl C s H ex,PG (fC X N' scope cl C s H ex) target g) (ht:∀cl C s H ex,A1 (fC X N' scope cl C s H ex) ifs tc) (he:∀cl C s H ex,PE ((fC X N' scope cl C s H ex).iw (XE cl C s H ex)) elt te)
  (I2:Inv X pins σ H2 s2) (T:Turn X.prog X.w X.K target J fp it tn) (mX:tn 0 s2.heap) (f2:∀b∈fp,fF X pins H2 b) (hb:fc J g tc te (stC k fr σ) H2 fin)
  (hR:∀(C:Addr) (s':Shared) (m:Str->Option Value) (ys:List V) (bE:List Value) (n:Nat) (H':Hp),s2.heap.objs.size<C->s'.heap.Ns C m->bQ ys bE->ys.length<=sizeLine->s'.heap.get? s2.heap.objs.size=some (c6 bE n)->H' s2.heap.objs.size=none->H' C=none->fin ys H'->
   s'.os=s2.os->AllBare s'.gens->Un (dN X.stack) fp H2 H' s2.heap s'.heap->gy X.prog X.w H' s'.heap->RR (.ref s2.heap.objs.size) C (.ok .next) s')
  (hE:∀cl C x s',s2.heap.objs.size<C->XE cl C s2 H2 fp x s'->notedBy (model X.prog X.w) X.A (compEnvC scope cl C X.env) (λy nX=>RR (.ref s2.heap.objs.size) C (.error y) nX) x s'):
  wpAny (model X.prog X.w) X.A (newList []) (λacc s₃=>wpAny (model X.prog X.w) X.A (newFunctionEnv scope X.env.globals cl [] X.env.qual none .none (some X.env)) (λcenv s₄=>
   codeAny (model X.prog X.w) X.A (.compStart (.ListComp elt [⟨target,iter,ifs,0⟩] scope pos) 0 (.ref it) acc {cenv with scope:=relabel scope X.env}) (RR acc cenv.locals) s₄) E s₃) E s2:=by
 refine wpAny_newObj_type (eK ?_);exact uk (R0:=RR _ _) hc S c1 c2 cin DB hg ht he I2 T mX f2 hb (λC e=>by subst e;exact hR _) (λcl C x s' e=>by subst e;exact hE cl _ x s')
theorem comp_back {fp:List Addr} {pins:List (Addr×Obj)} {σ:St} {H2 H':Hp} {s2 s':Shared} {C:Addr} {ys:List V} {bE:List Value} {n:Nat} {h':Heap} (I2:Inv X pins σ H2 s2) (f2:∀b∈fp,fF X pins H2 b) (hC:s2.heap.objs.size<C)
  (vl:bQ ys bE) (sz:ys.length<=sizeLine) (hD:s'.heap.get? s2.heap.objs.size=some (c6 bE n)) (nD:H' s2.heap.objs.size=none) (nC:H' C=none)
  (os:s'.os=s2.os) (bare:AllBare s'.gens) (un:Un (dN X.stack) fp H2 H' s2.heap s'.heap) (bV:gy X.prog X.w H' s'.heap) (hs:Heap.SameBut C s'.heap h'):
  Inv X pins σ (upd H' s2.heap.objs.size (.lst ys)) {s' with heap:=h'}:=by
 have Qg:∀b o,s2.heap.get? b=some o->b≠C:=λb o e=>aaA (aa8 (Heap.lt_size e) hC);have ltD:∀b o,s2.heap.get? b=some o->b≠s2.heap.objs.size:=λb o e=>aaA (Heap.lt_size e);have tk:∀b u,H' b=some u->b≠s2.heap.objs.size:=λb u e z=>by rw[z,nD] at e;cases e
 have tC:∀b u,H' b=some u->b≠C:=λb u e z=>by rw[z,nC] at e;cases e
 have fD:H2 s2.heap.objs.size=none:=I2.bV.fresh (aav _);have t2:∀b u,H2 b=some u->b≠s2.heap.objs.size:=λb u e z=>by rw[z,fD] at e;cases e
 refine I2.EX (s':={s' with heap:=h'}) (ch:=fp) os ⟨λb o e m hb hx=>?_,λb o e m hb hx=>?_,λb o e m hx=>?_,λb o e hx=>?_,λb xs e=>?_,λb o u e=>?_,λb ps e=>?_⟩ (λb u e=>?_) bare λb hb=>?_
 ·exact(hs.2 b (Qg b o e)).trans (un.keep b o e m hb hx)
 ·obtain⟨sl,q⟩:=un.slot b o e m hb hx;exact⟨sl,(hs.2 b (Qg b o e)).trans q⟩
 ·rw[aE (ltD b o e)];exact un.free b o e m hx
 ·obtain⟨o',q⟩:=un.there b o e hx;exact⟨o',(hs.2 b (Qg b o e)).trans q⟩
 ·rw[aE (t2 b _ e)];exact un.i4 b xs e
 ·rw[aE (t2 b _ e)];exact un.iV b o u e
 ·obtain⟨mo,q⟩:=un.i5 b ps e;exact⟨mo,by rw[aE (t2 b _ e)];exact q⟩
 ·by_cases hb:b=s2.heap.objs.size
  ·subst hb;rw[ai] at e;cases e;exact⟨sz,bE,n,vl,(hs.2 _ (aaA hC)).trans hD⟩
  ·rw[aE hb] at e;exact(bV b u e).qY (λc v hc q=>(hs.2 c (by
    rcases hc with rfl | hc
    ·exact tC _ _ e
    ·exact tC _ _ hc)).trans q) (λc r=>by rw[aE (tk _ _ r)];exact r) λc xs r=>by rw[aE (tk _ _ r)];exact r
 ·exact⟨(f2 b hb).2.2.2.1,(f2 b hb).2.1,(f2 b hb).2.2.2.2.1,(f2 b hb).2.2.2.2.2⟩
noncomputable def tComp (wi:TI) (g:TG) (tc:TT) (te:TE) (k:Nat) (fr:List Nat):TE:=λσ H Q=>wi σ H λJ H1=>fc J g tc te (stC k fr σ) H1 λys H2=>∀D,H1 D=none->H2 D=none->Q (.ref D) (upd H2 D (.lst ys))
theorem cY {elt target iter:Expr} {ifs:List Expr} {scope so:Scope} {pos:Pos} {wi:TI} {g:TG} {tc:TT} {te:TE} {k:Nat} {fr:List Nat} {N N':List Str} (hc:X.calm=true) (hN:X.N=N) (Hn:X.env.scope=so) (S:dA N so N' scope k fr)
  (hi:PI X target iter wi) (hg:∀cl C s H ex,PG (fC X N' scope cl C s H ex) target g) (ht:∀cl C s H ex,A1 (fC X N' scope cl C s H ex) ifs tc) (he:∀cl C s H ex,PE (fC X N' scope cl C s H ex) elt te)
  (hs:∀x,foldedSetIterable iter X.env x=pure x:=by intro _;rfl):PE X (.ListComp elt [⟨target,iter,ifs,0⟩] scope pos) (tComp wi g tc te k fr):=by
 subst hN Hn;intro pins s σ H Q I h;rw[eval_ListComp];obtain⟨cl,jG,c1,c2,c3⟩:=fh (env:=X.env) (scope:=scope) λn hn=>I.ok.has n (S.outer _ hn rfl);refine wpAny_comprehension_free (use:=none) (cl:=cl) rfl hs jG S.kind S.locs ?_;refine cu (hi pins s σ H _ I h) λv s1 h1=>cu h1 λtS s2 h2=>?_;obtain⟨it,fp,tn,J,H2,rfl,I2,T,mX,f2,hb⟩:=h2;refine qB (RR:=λacc C=>compPost (model X.prog X.w) X.A X.xe none (EP X pins σ Q) acc C) hc S c1 c2 (λx c m=>⟨x,(c3 x c m).1⟩) (λx hx c m=>(S.zd _ hx rfl).2 (c3 x c m).2) (XE:=λ_ _ _ _ _ _ _=>False) hg ht he I2 T mX f2 hb ?_ (λ_ _ _ _ _ z=>False.elim z);intro C s' m ys bE n H' hC hn vl sz hD nD nC fin os bare un bV;exact⟨m,hn,λh' A2=>⟨.ref _,_,comp_back I2 f2 hC vl sz hD nD nC os bare un bV A2,rfl,fin _ (I2.bV.fresh (aav _)) nD⟩⟩
theorem DE {elt target iter:Expr} {ifs:List Expr} {scope so:Scope} {pos Ka py:Pos} {wi:TI} {g:TG} {tc:TT} {te:TE} {k:Nat} {fr:List Nat} {N N':List Str} {y:Str} {i:Nat} (hc:X.calm=true) (hN:X.N.Nodup) (hy:X.N[i]?=some y) (hl:X.env.scope.names.lookup y=some .local)
  (hNN:X.N=N) (Hn:X.env.scope=so) (S:dA N so N' scope k fr)
  (hi:PI X target iter wi) (hg:∀cl C s H ex,PG (fC X N' scope cl C s H ex) target g) (ht:∀cl C s H ex,A1 (fC X N' scope cl C s H ex) ifs tc) (he:∀cl C s H ex,PE (fC X N' scope cl C s H ex) elt te)
  (Qh:swapsWith (.ListComp elt [⟨target,iter,ifs,0⟩] scope pos) (some (.Name y py)) Ka.line X.env=pure true:=by rfl)
  (hs:∀x,foldedSetIterable iter X.env x=pure x:=by intro _;rfl):PS X (.Assign [.Name y py] (.ListComp elt [⟨target,iter,ifs,0⟩] scope pos) Ka) (tAsg (tComp wi g tc te k fr) (gName i)):=by
 subst hNN Hn;intro pins s σ H D I h;rw[exec_Assign_Name_used _ _ _ _ Qh];obtain⟨cl,jG,c1,c2,c3⟩:=fh (env:=X.env) (scope:=scope) λn hn=>I.ok.has n (S.outer _ hn rfl);refine wpAny_bind (wpAny_standAt (wpAny_bind ?_));show wpAny _ X.A (do let _ <-comprehension (.ListComp elt [⟨target,iter,ifs,0⟩] scope pos) scope X.env _ (newList []) false (eval iter X.env) (some (assign (.Name y py) X.env))) _ _ s;refine wpAny_bind (wpAny_mono (wpAny_comprehension_free (use:=some (assign (.Name y py) X.env)) (Q:=λ_ s'=>SP X pins D .next s') (cl:=cl) rfl hs jG S.kind S.locs ?_) (λ_ s' hq=>wpAny_pure (wpAny_pure hq)) λ_ _ e=>e);refine cu (hi pins s σ H _ I h) λv s1 h1=>cu h1 λtS s2 h2=>?_;obtain⟨it,fp,tn,J,H2,rfl,I2,T,mX,f2,hb⟩:=h2;refine qB (RR:=λacc C=>compPost (model X.prog X.w) X.A X.xe (some (assign (.Name y py) X.env)) (λ_ s'=>SP X pins D .next s') acc C) hc S c1 c2 (λx c m=>⟨x,(c3 x c m).1⟩) (λx hx c m=>(S.zd _ hx rfl).2 (c3 x c m).2) (XE:=λ_ _ _ _ _ _ _=>False) hg ht he I2 T mX f2 hb ?_ (λ_ _ _ _ _ z=>False.elim z);intro C s' m ys bE n H' hC hn vl sz hD nD nC fin os bare un bV;have I3:Inv X pins σ (upd H' s2.heap.objs.size (.lst ys)) s':=comp_back (h':=s'.heap) I2 f2 hC vl sz hD nD nC os bare un bV (.refl ..);refine wpAny_assign_Name (qh (v:=.ref s2.heap.objs.size) I3 hN hy (.inl hl) rfl (λs4 I4 ch=>?_) (.inr hl));have YR:X.env.locals<s2.heap.objs.size:=I2.lt;obtain⟨a,qC,ha⟩:=ch;have aC:a≠C:=by
  rcases ha with rfl | ha
  ·exact aaA (aa8 YR hC)
  ·obtain⟨v,q⟩:=I2.cell _ _ ha;exact aaA (aa8 q.lt hC)
 refine⟨m,hn.sameBut qC (Ne.symm aC),λh' A2=>⟨_,_,?_,fin _ (I2.bV.fresh (aav _)) nD⟩⟩;have Ou:(upd H' s2.heap.objs.size (.lst ys)) C=none:=by rw[aE (aa4 hC)];exact nC
 exact I4.turned (t':=s4.toks) (it:=C) (h':=h') (λb o hb e=>(A2.2 b hb).trans e) Ou (aa4 (aa8 YR hC)) (.inr (aaI I2.sz (Nat.le_of_lt hC))) (λx c e z=>by
  obtain⟨v,q⟩:=I2.cell x c e;exact absurd (aa8 q.lt hC) (by rw[z];exact aaN _)) (λp hp z=>by
  have:=Heap.lt_size (I2.pin p hp).1;rw[z] at this;exact absurd (aa8 this hC) (aaN _))
end
structure Src (J:It) (Ok:Hp->Prop) (n:Nat) (Item:Nat->V->Hp->Hp->Prop):Prop where
 go:∀i H,i<n->Ok H->J.go i H
 vv:∀i H x H3,i<n->Ok H->J.vv i H x H3->Item i x H H3
 stop:∀H,Ok H->J.stop n H
theorem src_list {K:PySem.W.Frag} {a:Addr} {xs:List V} {Ok:Hp->Prop} (h:∀H,Ok H->bT K H a xs):Src (C8 K a) Ok xs.length (λi x H H3=>H3=H/\xs[i]?=some x) where
 go:=λi H hi ok=>⟨xs,xs[i],h H ok,by simp [hi]⟩
 vv:=λi H x H3 hi ok ⟨e,y⟩=>⟨e,y xs (h H ok)⟩
 stop:=λH ok=>⟨xs,h H ok,aav _⟩
theorem src_range {lo:Int} {n:Nat} {Ok:Hp->Prop}:Src (JH lo n) Ok n (λi x H H3=>H3=H/\x=.int (lo+i)) where
 go:=λ_ _ hi _=>hi
 vv:=λ_ _ _ _ _ _ y=>y
 stop:=λ_ _=>aav _
theorem ma {J:It} {g:TG} {tc:TT} {te:TE} {σ0:St} {H1:Hp} {fin:List V->Hp->Prop} {n:Nat} {Item:Nat->V->Hp->Hp->Prop} (S:Src J (aA H1) n Item) (Ho:St->Prop) (h0:Ho σ0) (P:Nat->List V->Hp->Prop) (p0:P 0 [] H1) (hz:n<=sizeLine)
  (hs:∀i x σ H ys H3 (Q:St->V->Hp->Prop) (N:St->Hp->Prop),i<n->aA H1 H->P i ys H->ys.length<=i->Ho σ->Item i x H H3->
   (∀σ3 y H6,Ho σ3->aA H1 H6->P (i+1) (ys++ [y]) H6->Q σ3 y H6)->(∀σ3 H5,Ho σ3->aA H1 H5->P (i+1) ys H5->N σ3 H5)->
   g x σ H3 λσ3 H4=>tc σ3 H4 λb H5=>if b=true then te σ3 H5 λy H6=>Q σ3 y H6 else N σ3 H5)
  (j7:∀ys H,aA H1 H->P n ys H->ys.length<=n->fin ys H):fc J g tc te σ0 H1 fin:=by
 refine⟨λi m ys σ H=>m=n - i/\i<=n/\ys.length<=i/\Ho σ/\aA H1 H/\P i ys H,⟨n,by simp,aaz _,aav _,h0,aA.refl _,p0⟩,?_⟩;rintro i m ys σ H ⟨rfl,hi,hl,ow,sm,p⟩
 by_cases gF:i<n
 ·refine .inr ⟨S.go i H gF sm,λx H3 y=>hs i x σ H ys H3 (λσ3 y H6=>ys.length<sizeLine/\∃m',m'<n - i/\m'=n - (i+1)/\i+1<=n/\(ys++ [y]).length<=i+1/\Ho σ3/\aA H1 H6/\P (i+1) (ys++ [y]) H6)
   (λσ3 H5=>∃m',m'<n - i/\m'=n - (i+1)/\i+1<=n/\ys.length<=i+1/\Ho σ3/\aA H1 H5/\P (i+1) ys H5) gF sm p hl ow (S.vv i H x H3 gF sm y) (λσ3 y H6 o s6 q=>?_) (λσ3 H5 o s5 q=>?_)⟩
  ·exact⟨by omega,n - (i+1),by omega,rfl,gF,by rw[aay,aa0];omega,o,s6,q⟩
  ·exact⟨n - (i+1),by omega,rfl,gF,by omega,o,s5,q⟩
 ·have e:i=n:=by omega
  subst e;exact .inl ⟨S.stop H sm,j7 ys H sm p hl⟩
theorem comp_map {J:It} {te:TE} {tl:St} {H1:Hp} {fin:List V->Hp->Prop} {n:Nat} {Item:Nat->V->Hp->Hp->Prop} (S:Src J (aA H1) n Item) (sub:∀i x H H3,Item i x H H3->aA H H3) (hz:n<=sizeLine)
  (R:Nat->V->Hp->Prop) (mono:∀i y H H',aA H H'->R i y H->R i y H')
  (hs:∀i x w H H3 (Q:VK),i<n->aA H1 H->Item i x H H3->(∀y H6,aA H3 H6->R i y H6->Q y H6)->te ((w::tl).set 0 (some x)) H3 Q)
  (j7:∀ys H,aA H1 H->ys.length=n->(∀i y,ys[i]?=some y->R i y H)->fin ys H):fc J (gName 0) pP te (none::tl) H1 fin:=by
 refine⟨λi m ys σ H=>m=n - i/\i<=n/\ys.length=i/\(∃w,σ=w::tl)/\aA H1 H/\∀j y,ys[j]?=some y->R j y H,⟨n,by simp,aaz _,rfl,⟨_,rfl⟩,aA.refl _,λj y e=>by simp at e⟩,?_⟩;rintro i m ys σ H ⟨rfl,hi,hl,⟨w,rfl⟩,sm,p⟩
 by_cases gF:i<n
 ·refine .inr ⟨S.go i H gF sm,λx H3 y=>?_⟩;have it:=S.vv i H x H3 gF sm y;have s3:=sub i x H H3 it;unfold gName pP;refine GU ?_;refine hs i x w H H3 _ gF sm it λy H6 s6 r=>⟨by omega,n - (i+1),by omega,rfl,gF,by rw[aay,aa0];omega,⟨_,rfl⟩,sm.trans (s3.trans s6),λj z e=>?_⟩
  by_cases hj:j<i
  ·rw[abc (by omega)] at e;exact mono j z _ _ (s3.trans s6) (p j z e)
  ·rw[abk (by omega)] at e;have e2:j - ys.length=0:=by
    by_cases q:j - ys.length=0
    ·exact q
    ·rw[List.getElem?_eq_none (by simp;omega)] at e;cases e
   rw[e2] at e;simp at e;subst e;have:j=i:=by omega
   subst this;exact r
 ·have e:i=n:=by omega
  subst e;exact .inl ⟨S.stop H sm,j7 ys H sm hl p⟩
noncomputable def Fd (J:It) (g:TG) (tb:TS) (D:Ends) (σ:St) (H:Hp):Prop:=
 ∃W:Nat->Nat->St->Hp->Prop,(∃m,W 0 m σ H)/\∀i m σ H,W i m σ H->
  (J.stop i H/\D.nx σ H)\/(J.go i H/\∃N:St->Hp->Prop,(∀σ' H',N σ' H'->∃m',m'<m/\W (i+1) m' σ' H')/\∀x H',J.vv i H x H'->g x σ H' λσ2 H2=>tb {D with nx:=N,ct:=N,bk:=D.nx} σ2 H2)
theorem tFor_eq {wi:TI} {g:TG} {tb:TS} {D:Ends} {σ:St} {H:Hp}:Gx wi g tb D σ H=wi σ H λJ H1=>Fd J g tb D σ H1:=rfl
theorem bY {J:It} {g:TG} {tb:TS} {D:Ends} {σ:St} {H:Hp} {n:Nat} {Item:Nat->V->Hp->Hp->Prop} {Ok:Hp->Prop} (S:Src J Ok n Item) (Pv:Nat->St->Hp->Prop) (h0:Pv 0 σ H) (bV:∀i σ H,i<=n->Pv i σ H->Ok H)
  (hs:∀i x σ H H3,i<n->Pv i σ H->Item i x H H3->g x σ H3 λσ2 H2=>tb {D with nx:=Pv (i+1),ct:=Pv (i+1),bk:=D.nx} σ2 H2) (hd:∀σ H,Pv n σ H->D.nx σ H):Fd J g tb D σ H:=by
 refine⟨λi m σ H=>m=n - i/\i<=n/\Pv i σ H,⟨n,by simp,aaz _,h0⟩,?_⟩;rintro i m σ H ⟨rfl,hi,p⟩
 by_cases gF:i<n
 ·exact .inr ⟨S.go i H gF (bV i σ H hi p),Pv (i+1),λσ' H' p'=>⟨n - (i+1),by omega,rfl,gF,p'⟩,λx H' y=>hs i x σ H H' gF p (S.vv i H x H' gF (bV i σ H hi p) y)⟩
 ·have e:i=n:=by omega
  subst e;exact .inl ⟨S.stop H (bV i σ H hi p),hd σ H p⟩
theorem qD {K:PySem.W.Frag} {J:It} {te:TE} {tl:St} {H1:Hp} {fin:List V->Hp->Prop} {n:Nat} {Item:Nat->V->Hp->Hp->Prop} (S:Src J (aA H1) n Item) (Kb:Nat->V->V->Hp->Prop)
  (tp:∀i x H H3,i<n->aA H1 H->Item i x H H3->aA H H3/\∃p a b,x=.ref p/\iX K H3 p [a,b]/\Kb i a b H3) (hz:n<=sizeLine)
  (R:Nat->V->Hp->Prop) (mono:∀i y H H',aA H H'->R i y H->R i y H')
  (hs:∀i a b H3 (Q:VK),i<n->aA H1 H3->Kb i a b H3->(∀y H6,aA H3 H6->R i y H6->Q y H6)->te (some a::some b::tl) H3 Q)
  (j7:∀ys H,aA H1 H->ys.length=n->(∀(i:Nat) y,ys[i]?=some y->R i y H)->fin ys H):fc J (vD K 2 (gCons (gName 0) (gCons (gName 1) gNil))) pP te (none::none::tl) H1 fin:=by
 refine⟨λi m ys σ H=>m=n - i/\i<=n/\ys.length=i/\(∃w w',σ=w::w'::tl)/\aA H1 H/\∀(j:Nat) y,ys[j]?=some y->R j y H,⟨n,by simp,aaz _,rfl,⟨_,_,rfl⟩,aA.refl _,λj y e=>by simp at e⟩,?_⟩;rintro i m ys σ H ⟨rfl,hi,hl,⟨w,w',rfl⟩,sm,p⟩
 by_cases gF:i<n
 ·refine .inr ⟨S.go i H gF sm,λx H3 y=>?_⟩;obtain⟨s3,q,a,b,rfl,sq,it⟩:=tp i x H H3 gF sm (S.vv i H x H3 gF sm y);refine⟨q,_,rfl,sq,rfl,_,_,rfl,_,_,rfl,rfl,?_⟩;unfold pP;refine GU ?_;refine hs i a b H3 _ gF (sm.trans s3) it λy H6 s6 r=>⟨by omega,n - (i+1),by omega,rfl,gF,by rw[aay,aa0];omega,⟨_,_,rfl⟩,sm.trans (s3.trans s6),λj z e=>?_⟩
  by_cases hj:j<i
  ·rw[abc (by omega)] at e;exact mono j z _ _ (s3.trans s6) (p j z e)
  ·rw[abk (by omega)] at e;have e2:j - ys.length=0:=by
    by_cases q:j - ys.length=0
    ·exact q
    ·rw[List.getElem?_eq_none (by simp;omega)] at e;cases e
   rw[e2] at e;simp at e;subst e;have:j=i:=by omega
   subst this;exact r
 ·have e:i=n:=by omega
  subst e;exact .inl ⟨S.stop H sm,j7 ys H sm hl p⟩
section
variable {X : Cx} {pins : List (Addr × Obj)} {σ : St} {H : Hp} {s : Shared}
theorem Inv.moved {h':Heap} {t':Nat} {ch:List Addr} (I:Inv X pins σ H s) (f:∀b∈ch,fF X pins H b) (k:∀b o,b∉ch->s.heap.get? b=some o->h'.get? b=some o):Inv X pins σ H {s with heap:=h',toks:=t'}:=by
 have EU:∀b u,H b=some u->b∉ch:=λb u e z=>by rw[(f b z).1] at e;cases e
 refine I.step (g':=s.gens) (d':=s.drawn) (ch:=ch) (λb hb=>⟨(f b hb).2.2.2.1,(f b hb).2.1,(f b hb).2.2.2.2.1,(f b hb).2.2.2.2.2⟩) (λb o _ _ hc e _=>k b o hc e) (λb o _ _ hc e _=>⟨o.slots,k b o hc e⟩) (λ_ _ _ _ n=>n)
  (λb o hc e=>⟨o,k b o hc e⟩) (λ_ _ e=>e) (λ_ _ _ e=>e) (λb ps e=>⟨#[],by rw[e];simp⟩) (λm hm=>?_) (λb u e=>?_) I.bare
 ·obtain⟨o,es,ep,ho,r⟩:=hm;exact⟨o,es,ep,k _ o (λz=>(f _ z).2.1 rfl) ho,r⟩
 ·refine(I.bV b u e).qY (λc v hc q=>k c v ?_ q) (λ_ q=>q) λ_ _ q=>q;rcases hc with z | z
  ·rw[z];exact EU b u e
  ·exact EU c _ z
theorem Inv.take {ad:Addr} {o:HO} (I:Inv X pins σ H s) (f:fF X pins H ad) (new:X.s₀.heap.objs.size<=ad) (ok:cF X.prog X.w (upd H ad o) s.heap ad o):Inv X pins σ (upd H ad o) s:=by
 obtain⟨hn,nL,nf,_,nc,np⟩:=f;have tk:∀b u,H b=some u->b≠ad:=λb u e z=>by rw[z,hn] at e;cases e
 refine⟨I.ok,I.os,I.bare,⟨I.base.keep,I.base.slot,λb ob e m hx=>?_,I.base.there,λb xs e=>?_,λb ob u e=>?_,λb ps e=>?_⟩,I.loc,I.cell,?_,λx c e=>?_,λp hp=>?_,λb u e=>?_,I.len⟩
 ·rw[aE (aaA (aaL (Heap.lt_size e) new))];exact I.base.free b ob e m hx
 ·have q:=I.base.i4 b xs e;rw[aE (tk b _ q)];exact q
 ·have q:=I.base.iV b ob u e;rw[aE (tk b _ q)];exact q
 ·obtain⟨mo,q⟩:=I.base.i5 b ps e;exact⟨mo,by rw[aE (tk b _ q)];exact q⟩
 ·rw[aE (Ne.symm nL)];exact I.free
 ·rw[aE (nc x c e)];exact I.gB x c e
 ·obtain⟨a,b,c⟩:=I.pin p hp;exact⟨a,by rw[aE (np p hp)];exact b,c⟩
 ·by_cases hb:b=ad
  ·subst hb;rw[ai] at e;cases e;exact ok
  ·rw[aE hb] at e;exact(I.bV b u e).qY (λ_ _ _ q=>q) (λc r=>by rw[aE (tk _ _ r)];exact r) λc xs r=>by rw[aE (tk _ _ r)];exact r
end
noncomputable def Itz (K:PySem.W.Frag) (a b:Addr):It:=
 ⟨λi H=>∃xs ys x y,bT K H a xs/\bT K H b ys/\xs[i]?=some x/\ys[i]?=some y,
  λi H v H'=>∃p,H p=none/\v=.ref p/\∃x y,(∀xs,bT K H a xs->xs[i]?=some x)/\(∀ys,bT K H b ys->ys[i]?=some y)/\H'=upd H p (.tup [x,y]),
  λi H=>∃xs ys,bT K H a xs/\bT K H b ys/\(i=min xs.length ys.length)⟩
noncomputable def Qi (K:PySem.W.Frag) (a:Addr):It:=
 ⟨λi H=>∃xs x,bT K H a xs/\xs[i]?=some x,
  λi H v H'=>∃p,H p=none/\v=.ref p/\∃x,(∀xs,bT K H a xs->xs[i]?=some x)/\H'=upd H p (.tup [.int i,x]),
  λi H=>∃xs,bT K H a xs/\xs.length=i⟩
theorem zg {P:Program} {w:World} {K:PySem.W.Frag} {elts:List Expr} {k:Nat} {pos:Pos} (e it a:Addr) (YS:e≠it) (hle:a≠e) (YT:a≠it):
  Turn P w K (.Tuple elts k pos) (Qi K a) [e,it] e (λi h=>(∃old,IsEnum h e it i old)/\h.IsListIter it a i) where
 mem:=by simp
 obj:=λi h st c hc=>by
  obtain⟨⟨old,he⟩,⟨o1,e1,_,d1⟩⟩:=st;simp only[abh,List.not_mem_nil,or_false] at hc;rcases hc with rfl | rfl
  ·exact⟨_,he,λv q=>by cases q⟩
  ·exact⟨_,e1,λv q=>by rw[d1] at q;cases q⟩
 keep:=λi h h' st kp=>by
  obtain⟨⟨old,he⟩,h1⟩:=st;exact⟨⟨old,kp e (by simp) _ he⟩,h1.at λo q=>kp it (by simp) o q⟩
 item:=by
  intro X hP hw hK hc i pins s σ H E I hf st hg;subst hP hw hK;obtain⟨xs,x,Ov,hx⟩:=hg;obtain⟨wb,r1,p1,z1⟩:=I.list Ov;obtain⟨u,eu,ru⟩:=r1.get hx;obtain⟨he,h1⟩:=st;have W:=WalksT.enumerate (prog:=X.prog) (w:=X.w) (I.ok.hd hc) e it a YS hle YT wb.toArray;have li:i<wb.toArray.size:=by
   have a1:=(List.getElem?_eq_some_iff.mp eu).1;simp only[aaD];omega
  refine W.item i s _ _ li ⟨he,h1,p1.isList⟩ λT vals h' tk hpt hT hI hm kk=>?_;have I1:Inv X pins σ H {s with heap:=h',toks:=tk}:=I.moved (ch:=[e,it]) hf kk;have fT:fF X pins H T:=I.Ay hT (I.bV.fresh hT);refine⟨_,rfl,W.go elts k pos i T _ _ _ hm λQj mX YU=>?_⟩;have I2:Inv X pins σ H {s with heap:=Qj,toks:=tk}:=I1.moved (s:={s with heap:=h',toks:=tk}) (t':=tk) (ch:=[e,it]) hf YU;obtain⟨t,x',ex,rfl⟩:=hpt;have Po:wb[i]?=some x':=by simpa using ex
  rw[eu] at Po;cases Po;have apT:=W.apart _ _ _ hm;obtain⟨oT,eT,cT,nT,dT⟩:=hI;have hI2:IsTup Qj T #[.int i t,u]:=⟨oT,YU _ _ apT eT,cT,nT,dT⟩
  have I3:Inv X pins σ (upd H T (.tup [.int i,x])) {s with heap:=Qj,toks:=tk}:=
   I2.take fT (aaI I.sz hT) ⟨by show 2<=sizeLine;decide,[.int i t,u],.cons ⟨t,rfl⟩ (.cons ru .nil),hI2⟩
  obtain⟨b1,b2,_⟩:=mX;refine⟨.ref T,_,I3,rfl,⟨T,fT.1,rfl,x,λKc q=>?_,rfl⟩,⟨b1,b2⟩,λc hc=>?_⟩
  ·rw[I.nU q Ov];exact hx
  ·rw[aE (λq=>?_)]
   ·exact(hf c hc).1
   ·subst q;obtain⟨o,e,_⟩:∃o,s.heap.get? c=some o/\True:=by
     simp only[abh,List.not_mem_nil,or_false] at hc;obtain⟨old,he⟩:=he;obtain⟨o1,e1,_⟩:=h1;rcases hc with rfl | rfl
     ·exact⟨_,he,trivial⟩
     ·exact⟨_,e1,trivial⟩
    exact absurd (Heap.lt_size e) (Nat.not_lt.mpr hT)
 done:=by
  intro X hP hw hK hc i pins s σ H E I hf st hg;subst hP hw hK;obtain⟨xs,Ov,hi⟩:=hg;obtain⟨wb,r1,p1,z1⟩:=I.list Ov;obtain⟨he,h1⟩:=st;have W:=WalksT.enumerate (prog:=X.prog) (w:=X.w) (I.ok.hd hc) e it a YS hle YT wb.toArray;have l1:=r1.length;have e:i=wb.toArray.size:=by simp only[aaD];omega
  subst e;exact W.done s _ _ ⟨he,h1,p1.isList⟩ λh' tk kk=>⟨rfl,I.moved (ch:=[_,it]) hf kk⟩
 self:=λ_ _ _ _ _ st h=>by
  obtain⟨⟨old,he⟩,_⟩:=st;exact wpAny_pyIter_enum he h
section
variable {X : Cx} {elts : List Expr} {kk : Nat} {kA : Pos}
noncomputable def iEnum (K:PySem.W.Frag) (ta:TA):TI:=λσ H R=>ta σ H λvs H1=>∃a,vs=[.ref a]/\(∃xs,bT K H1 a xs)/\R (Qi K a) H1
theorem rO {a:Expr} {ta:TA} {p pos:Pos} (hg:Gl X "enumerate") (hm:X.mg "enumerate"=none) (ha:PA X [a] ta) (hs:starEach [a] X.env=[(false,eval a X.env)]:=by rfl):
  PI X (.Tuple elts kk kA) (.Call (.Name "enumerate" p) [a] [] pos) (iEnum X.K ta):=by
 intro pins s σ H R I h;refine Call_ (ja I hg hm rfl (PyProof.Rows.callWith_type1 (cu (ha pos pins s σ H _ I h) λus s1 dD=>?_) hs rfl));obtain⟨vs,H1,I1,r1,q1⟩:=dD;obtain⟨a,e,⟨xs,q1⟩,q⟩:=q1;subst e;obtain⟨u,rfl,ra⟩:=vals1 r1;cases ra;obtain⟨wb,v1,p1,z1⟩:=I1.list q1;refine call_enumerate_list p1.isList λh' b1 b2 b3 kp=>?_;refine wpAny_pyIter_enum b1 ?_;have I2:Inv X pins σ H1 {s1 with heap:=h'}:=I1.kept (t':=s1.toks) kp;have la:a<s1.heap.objs.size:=by obtain⟨o,e,_⟩:=p1.isList;exact Heap.lt_size e
 refine⟨s1.heap.objs.size+1,[s1.heap.objs.size+1,s1.heap.objs.size],_,_,H1,rfl,I2,
  zg (s1.heap.objs.size+1) s1.heap.objs.size a (aa4 (aaR _)) (aaA (aa1 la)) (aaA la),⟨⟨_,b1⟩,b2⟩,λc hc=>?_,q⟩
 have YV:s1.heap.objs.size<=c:=by
  simp only[abh,List.not_mem_nil,or_false] at hc;rcases hc with rfl | rfl <;>omega
 exact I1.Ay YV (I1.bV.fresh YV)
end
theorem A3 {K:PySem.W.Frag} {a:Addr} {xs:List V} {Ok:Hp->Prop} (h1:∀H,Ok H->bT K H a xs):
  Src (Qi K a) Ok xs.length (λi v H H3=>∃p x,H p=none/\v=.ref p/\xs[i]?=some x/\H3=upd H p (.tup [.int i,x])) where
 go:=λi H hi ok=>⟨xs,xs[i],h1 H ok,by simp [hi]⟩
 vv:=λi H x H3 hi ok ⟨p,n,e,u,e1,e3⟩=>⟨p,u,n,e,e1 xs (h1 H ok),e3⟩
 stop:=λH ok=>⟨xs,h1 H ok,rfl⟩
inductive Dat where
 | dP | bl (b:Bool) | int (i:Int) | str (x:Str) | tup (l:List Dat) | lst (l:List Dat)
mutual
noncomputable def Rep (H:Hp):Dat->V->Prop
 | .dP,v=>v=.dP
 | .bl b,v=>v=.bl b
 | .int i,v=>v=.int i
 | .str x,v=>v=.str x
 | .tup ds,v=>∃p vs,v=.ref p/\H p=some (.tup vs)/\bh H ds vs
 | .lst ds,v=>∃p vs,v=.ref p/\H p=some (.lst vs)/\bh H ds vs
noncomputable def bh (H:Hp):List Dat->List V->Prop
 | [],vs=>vs=[]
 | d::ds,vs=>∃v r,vs=v::r/\Rep H d v/\bh H ds r
end
mutual
theorem Rep.mono {H H':Hp} (s:aA H H'):∀{d:Dat} {v:V},Rep H d v->Rep H' d v
 | .dP,_,h=>by rw[Rep] at *;exact h
 | .bl _,_,h=>by rw[Rep] at *;exact h
 | .int _,_,h=>by rw[Rep] at *;exact h
 | .str _,_,h=>by rw[Rep] at *;exact h
 | .tup _,_,h=>by
  rw[Rep] at *;obtain⟨p,vs,e,hp,r⟩:=h;exact⟨p,vs,e,s _ _ hp,bh.mono s r⟩
 | .lst _,_,h=>by
  rw[Rep] at *;obtain⟨p,vs,e,hp,r⟩:=h;exact⟨p,vs,e,s _ _ hp,bh.mono s r⟩
theorem bh.mono {H H':Hp} (s:aA H H'):∀{ds:List Dat} {vs:List V},bh H ds vs->bh H' ds vs
 | [],_,h=>by rw[bh] at *;exact h
 | _::_,_,h=>by
  rw[bh] at *;obtain⟨v,r,e,h1,h2⟩:=h;exact⟨v,r,e,Rep.mono s h1,bh.mono s h2⟩
end
theorem bh.length {H:Hp}:∀{ds:List Dat} {vs:List V},bh H ds vs->ds.length=vs.length
 | [],_,h=>by rw[bh] at h;subst h;rfl
 | _::_,_,h=>by
  rw[bh] at h;obtain⟨v,r,rfl,_,h2⟩:=h;simp [h2.length]
theorem bh.get {H:Hp}:∀{ds:List Dat} {vs:List V} {i:Nat} {v:V},bh H ds vs->vs[i]?=some v->∃d,ds[i]?=some d/\Rep H d v
 | [],_,i,v,h,e=>by rw[bh] at h;subst h;simp at e
 | d::ds,_,i,v,h,e=>by
  rw[bh] at h;obtain⟨v',r,rfl,h1,h2⟩:=h;cases i with
  | zero=>simp at e;subst e;exact⟨d,rfl,h1⟩
  | succ i=>simp at e;obtain⟨d',e',r'⟩:=h2.get e;exact⟨d',by simpa using e',r'⟩
theorem bh.at {H:Hp}:∀{ds:List Dat} {vs:List V} {i:Nat} {d:Dat},bh H ds vs->ds[i]?=some d->∃v,vs[i]?=some v/\Rep H d v
 | [],_,i,v,h,e=>by simp at e
 | d::ds,_,i,d',h,e=>by
  rw[bh] at h;obtain⟨v',r,rfl,h1,h2⟩:=h;cases i with
  | zero=>simp at e;subst e;exact⟨v',rfl,h1⟩
  | succ i=>simp at e;obtain⟨v,e',r'⟩:=h2.at e;exact⟨v,by simpa using e',r'⟩
theorem bh.of {H:Hp}:∀{ds:List Dat} {vs:List V},ds.length=vs.length->(∀(i:Nat) d v,ds[i]?=some d->vs[i]?=some v->Rep H d v)->bh H ds vs
 | [],[],_,_=>by rw[bh]
 | [],_::_,h,_=>by simp at h
 | _::_,[],h,_=>by simp at h
 | d::ds,v::vs,h,k=>by
  rw[bh];exact⟨v,vs,rfl,k 0 d v rfl rfl,bh.of (by simpa using h) λi d' v' e1 e2=>k (i+1) d' v' (by simpa using e1) (by simpa using e2)⟩
theorem bh.append {H:Hp}:∀{as bs:List Dat} {us vs:List V},bh H as us->bh H bs vs->bh H (as++bs) (us++vs)
 | [],_,_,_,h,k=>by rw[bh] at h;subst h;exact k
 | _::_,_,_,_,h,k=>by
  rw[bh] at h;obtain⟨v,r,rfl,h1,h2⟩:=h;show bh H (_::(_++_)) (_::(_++_));rw[bh];exact⟨_,_,rfl,h1,h2.append k⟩
theorem bh.ints {H:Hp}:∀(ns:List Int),bh H (ns.map Dat.int) (ns.map V.int)
 | []=>by simp only[aaT];rw[bh]
 | n::ns=>by
  simp only[aaw];rw[bh];exact⟨_,_,rfl,by rw[Rep],bh.ints ns⟩
noncomputable def depth:Dat->Nat
 | .tup l=>1+dL l
 | .lst l=>1+dL l
 | _=>0
where dL:List Dat->Nat
 | []=>0
 | d::ds=>max (depth d) (dL ds)
section
variable {X : Cx} {pins : List (Addr × Obj)} {σ : St} {H : Hp} {s : Shared}
end
section
variable {X : Cx}
end
end L2
namespace Nm
noncomputable def ins (x:Int):List Int->List Int
 | []=>[x]
 | y::r=>if x<=y then x::y::r else y::ins x r
noncomputable def oj:List Int->List Int
 | []=>[]
 | x::r=>ins x (oj r)
theorem om (x:Int):∀l,(ins x l).Perm (x::l)
 | []=>.refl _
 | y::r=>by
  unfold ins
  split
  ·exact .refl _
  ·exact((om x r).cons y).trans (.swap ..)
theorem kR:∀l,(oj l).Perm l
 | []=>.refl _
 | x::r=>(om x _).trans ((kR r).cons x)
set_option tactic.hygienic true in
theorem xK (x:Int):∀l:List Int,l.Pairwise (·<=·)->(ins x l).Pairwise (·<=·)
 | [],_=>by unfold ins;simp
 | y::r,h=>by
  unfold ins;rw[List.pairwise_cons] at h
  split
  ·rename_i c
   rw[List.pairwise_cons,List.pairwise_cons];refine⟨λz hz=>?_,h.1,h.2⟩;rcases List.mem_cons.mp hz with rfl | hz
   ·exact c
   ·have:=h.1 z hz;omega
  ·rename_i c
   rw[List.pairwise_cons];refine⟨λz hz=>?_,xK x r h.2⟩;rcases List.mem_cons.mp ((om x r).mem_iff.mp hz) with rfl | hz
   ·omega
   ·exact h.1 z hz
theorem xM:∀l:List Int,(oj l).Pairwise (·<=·)
 | []=>by unfold oj;simp
 | x::r=>xK x _ (xM r)
theorem iC (l:List Int):(oj l).length=l.length:=(kR l).length_eq
theorem xN:∀{a b:List Int},a.Perm b->a.Pairwise (·<=·)->b.Pairwise (·<=·)->a=b
 | [],b,p,_,_=>by simpa using p.symm.eq_nil
 | x::a,[],p,_,_=>by simpa using p.eq_nil
 | x::a,y::b,p,ha,hb=>by
  rw[List.pairwise_cons] at ha hb;have e:x=y:=by
   have h1:y∈x::a:=p.mem_iff.mpr aaE;have h2:x∈y::b:=p.mem_iff.mp aaE;rcases List.mem_cons.mp h1 with h1 | h1
   ·exact h1.symm
   ·rcases List.mem_cons.mp h2 with h2 | h2
    ·exact h2
    ·have:=ha.1 y h1;have:=hb.1 x h2;omega
  subst e;rw[xN ((List.perm_cons x).mp p) ha.2 hb.2]
theorem rP {a b:List Int} (p:a.Perm b) (o:a.Pairwise (·<=·)):a=oj b:=xN (p.trans (kR b).symm) o (xM b)
theorem DF {a:Int} {l:List Int}:a∈oj l↔a∈l:=(kR l).mem_iff
end Nm
namespace L2
open PySem PySem.Spec PyProof.Rows PySem.W
section
variable {X : Cx}
theorem wc {us:List Value} {ns:List Int} (h:IntsAre us ns):∃xs,us.toArray=intItems xs/\preSum (numAt xs) xs.size=ns.sum:=by
 obtain⟨xs,hx⟩:=h.allInts.items;refine⟨xs,hx,?_⟩;have e1:ns=xs.toList.map (·.1):=by
  rw[<-nums_intItems,<-hx];exact h.numsOf.symm
 rw[preSum_eq,aaJ (by simp),e1]
theorem wd (hc:X.calm=true):dz X (.builtin "sum") (λxs H Q=>∃p ns,xs=[.ref p]/\bT X.K H p (List.map V.int ns)/\Q (.int ns.sum) H):=by
 intro pins s σ H xs us Q I r h;obtain⟨p,ns,rfl,hq,q⟩:=h;obtain⟨u,rfl,rx⟩:=vals1 r;cases rx;obtain⟨bE,rv,pl,hz⟩:=I.list hq;obtain⟨ys,e1,e2⟩:=wc (intsAre_of rv);have hl:=pl.isList;rw[e1] at hl;refine sum_intListG (I.ok.hd hc) hl λh' tk t' hk=>⟨.int ns.sum,H,I.kept (t':=tk) hk,⟨t',?_⟩,q⟩
 rw[e2]
theorem iD {us:List Value} {ns:List Int} (h:IntsAre us ns):bQ (ns.map V.int) us:=by
 induction h with
 | nil=>exact .nil
 | cons n t _ ih=>exact .cons ⟨t,rfl⟩ ih
theorem pQ:dz X (.builtin "sorted") (λxs H Q=>∃p ns,xs=[.ref p]/\bT X.K H p (List.map V.int ns)/\ns.length<64/\∀l,H l=none->Q (.ref l) (upd H l (.lst (List.map V.int (Nm.oj ns))))):=by
 intro pins s σ H xs us Q I r h;obtain⟨p,ns,rfl,hq,hn,q⟩:=h;obtain⟨u,rfl,rx⟩:=vals1 r;cases rx;obtain⟨bE,rv,pl,hz⟩:=I.list hq;have hl:=rv.length;rw[aat] at hl;refine sorted_ints pl.isList (intsAre_of rv) (by omega) λout Kf a1 a2 a3=>?_;obtain rfl:=Nm.rP a2 a3;obtain⟨e,he⟩:=sortedAll_at s.heap bE out;have fr:=I.bV.fresh (a:=s.heap.objs.size+1) (Nat.le_succ _);refine⟨.ref (s.heap.objs.size+1),_,I.laid (t':=s.toks) (λ_ _=>sortedAll_old) (Nat.le_succ _) (o:=.lst (List.map V.int (Nm.oj ns))) ⟨?_,out.toList,e,iD a1,?_⟩,rfl,q _ fr⟩
 ·rw[aat,Nm.iC,sizeLine_eq];omega
 ·exact he
noncomputable def jN (kvs:List (Key×V)):List Int:=kvs.map λp=>match p.1 with | .inl i=>i | .inr _=>0
noncomputable def allI (kvs:List (Key×V)):Prop:=∀p∈kvs,∃i,p.1=Sum.inl i
theorem pR (hc:X.calm=true):dz X (.builtin "sorted") (λxs H Q=>∃d kvs,xs=[.ref d]/\Rd H d (.dK kvs)/\allI kvs/\kvs.length<64/\∀l,H l=none->Q (.ref l) (upd H l (.lst (List.map V.int (Nm.oj (jN kvs)))))):=by
 intro pins s σ H xs us Q I r h;obtain⟨d,kvs,rfl,hd,y4,hn,q⟩:=h;obtain⟨u,rfl,rx⟩:=vals1 r;cases rx;obtain⟨hz,lo,vs,kv,dd⟩:=mI I.bV hd;have hlen:kvs.length=vs.length:=Paired.length kv;obtain⟨ep,CH⟩:=dd.dictAt;refine Calls.call_function_entry kind_sorted plain_sorted entry_sorted (args_sorted1 _) ?_;unfold Builtin.«sorted»;refine wpAny_bind (m:=checkCount "sorted" 1 1 _) (wpAny_pure ?_);refine wpAny_bind (kdu_collect (A:=X.A.in1) (kdl_dict (kvs:=vs) (ep:=ep) lo) (I.ok.hd hc) CH (by rw[<-hlen,sizeLine_eq];omega) λh' tk acc hk zf=>?_);have hl:acc.toList.length=vs.length:=by rw[Array.length_toList];exact zf.1
 have hI:IntsAre acc.toList (jN kvs):=by
  have all:∀(j:Nat) v,acc.toList[j]?=some v->∃i t,v=Value.int i t/\(jN kvs)[j]?=some i:=λj v e=>by
   obtain⟨k,x,hx,hk⟩:=zf.2 j v (by rw[<-Array.getElem?_toList];exact e);obtain⟨p,e1,e2⟩:∃p,kvs[j]?=some p/\p.1=k:=by
    have:∀{as:List (Key×V)} {bs:List (Key×Value)} (j:Nat) {b},KV as bs->bs[j]?=some b->∃a,as[j]?=some a/\a.1=b.1:=by
     intro as bs j b r
     induction r generalizing j with
     | nil=>intro e;simp at e
     | cons r1 r2 ih=>
      intro e;cases j with
      | zero=>simp at e;subst e;exact⟨_,rfl,r1.1⟩
      | succ j=>simp at e;obtain⟨a,e1,e2⟩:=ih j e;exact⟨a,by simpa using e1,e2⟩
    obtain⟨a,e1,e2⟩:=this j kv hx;exact⟨a,e1,e2⟩
   obtain⟨i,hi⟩:=y4 p (aaC e1);rw[<-e2,hi] at hk;have hk:nS (.inl i) v=true:=hk;rcases cO hk with ⟨i',t,e3,e4⟩ | ⟨x',t,e3,_⟩
   ·cases e3;refine⟨i,t,e4,?_⟩;unfold jN;rw[aau,e1];simp [hi]
   ·cases e3
  have go:∀(us:List Value) (ns:List Int),us.length=ns.length->(∀(j:Nat) v,us[j]?=some v->∃i t,v=Value.int i t/\ns[j]?=some i)->IntsAre us ns:=by
   intro us
   induction us with
   | nil=>intro ns hl _;cases ns with | nil=>exact .nil | cons _ _=>simp at hl
   | cons u us ih=>
    intro ns hl k;cases ns with
    | nil=>simp at hl
    | cons n ns=>
     obtain⟨i,t,rfl,e⟩:=k 0 u rfl;simp at e;subst e;exact .cons n t (ih ns (by simpa using hl) λj v e=>by
      obtain⟨i,t,e1,e2⟩:=k (j+1) v (by simpa using e);exact⟨i,t,e1,by simpa using e2⟩)
  refine go _ _ ?_ all;unfold jN;rw[aat,hl,hlen]
 refine wpAny_bind (wpAny_newList ?_ (by rw[hl,<-hlen,sizeLine_eq];omega));have JE:(h'.push (seqObj "list" acc.toList.toArray 0)).get? h'.objs.size=some (seqObj "list" acc.toList.toArray 0):=Heap.get?_push_size _ rfl;have I1:Inv X pins σ H {s with heap:=h',toks:=tk}:=I.kept (t':=tk) hk;refine wpAny_bind (wpAny_holding (wpAny_call_entry slot_list_sort ⟨_,JE,rfl⟩ entry_list_sort (list_sort_tree JE hI (by omega) λout Kf a1 a2 a3=>⟨_,rfl,?_⟩) (args_list_sort _)));obtain rfl:=Nm.rP a2 a3;obtain⟨e,he⟩:=sortedHeap_at (out:=out) JE;have fr:=I1.bV.fresh (a:=h'.objs.size) (aav _);refine wpAny_pure ⟨_,rfl,.ref h'.objs.size,_,I1.laid (t':=tk) (λb o eb=>?_) (aav _) (o:=.lst (List.map V.int (Nm.oj (jN kvs)))) ⟨?_,out.toList,e,iD a1,?_⟩,rfl,q _ fr⟩
 ·rw[sortedHeap_old (aaA (Heap.lt_size eb)) (by rw[Heap.size_push];exact aa1 (Heap.lt_size eb))];exact Heap.get?_push_of_some _ eb
 ·rw[aat,Nm.iC,sizeLine_eq];unfold jN;rw[aat];omega
 ·exact he
end
section
variable {X : Cx} {pins : List (Addr × Obj)} {σ : St} {H : Hp} {s : Shared}
end
noncomputable def Itd (d:Addr) (o:Obj) (kvs:List (Key×V)):It:=
 ⟨λi H=>H d=some (.tj o (.dK kvs))/\i<kvs.length,λi H x H'=>H'=H/\∃p,kvs[i]?=some p/\x=kV p.1,λi H=>H d=some (.tj o (.dK kvs))/\i=kvs.length⟩
section
variable {X : Cx} {x : Str} {aae : Pos}
end
open PySem PySem.Spec PyProof.Rows PySem.W
section
variable {X : Cx} {K : PySem.W.Frag}
theorem bJ {tg l:Expr} {tl:TE} (hl:PE X l tl) (hK:X.K=K:=by rfl):PI X tg l (iList K tl):=by subst hK;exact C9 hl
theorem pS {elts:List Expr} {kk:Nat} {kA:Pos} {a:Expr} {ta:TA} {p pos:Pos} (hg:Gl X "enumerate") (hm:X.mg "enumerate"=none) (ha:PA X [a] ta) (n1:noStar a=true:=by rfl) (hK:X.K=K:=by rfl):
  PI X (.Tuple elts kk kA) (.Call (.Name "enumerate" p) [a] [] pos) (iEnum K ta):=by subst hK;exact rO hg hm ha (by rw[se n1];rfl)
theorem dE {es:List Expr} {k:Nat} {t:CG} {n:Nat} {pos:Pos} (hc:X.calm=true) (h:EZ X es t) (hn:(assignEach es X.env).length=n:=by rfl) (j1:(assignEach es X.env).findIdx? (·.1)=none:=by rfl) (hK:X.K=K:=by rfl):PG X (.Tuple es k pos) (vD K n t):=by
 subst hK;exact Ax hc h hn j1
theorem qE (hK:X.K=K:=by rfl):E2 X (Du K):=by subst hK;exact AS
theorem j8 (hK:X.K=K:=by rfl):dz X (.builtin "len") (λxs H Q=>∃p ns,xs=[.ref p]/\bT K H p (List.map V.int ns)/\Q (.int (List.length ns:Nat)) H):=by subst hK;exact zb
theorem dU (hK:X.K=K:=by rfl):dz X (.type "list") (λxs H Q=>∃p ys,xs=[.ref p]/\(bT K H p ys\/iX K H p ys)/\∀l,H l=none->Q (.ref l) (upd H l (.lst ys))):=by subst hK;exact rF
theorem oq (hK:X.K=K:=by rfl):dz X (.type "tuple") (λxs H Q=>∃p ys,xs=[.ref p]/\((bT K H p ys/\∀l,H l=none->Q (.ref l) (upd H l (.tup ys)))\/(iX K H p ys/\Q (.ref p) H))):=by subst hK;exact pO
theorem md (hK:X.K=K:=by rfl):dz X (.builtin "isinstance") (λxs H Q=>∃x c t b,xs=[x,.ty c]/\jd K H x t/\PySem.W.kitOne K t (.type c)=some b/\Q (.bl b) H):=by subst hK;exact AU
theorem jh (hc:X.calm=true:=by rfl) (hK:X.K=K:=by rfl):dz X (.builtin "sum") (λxs H Q=>∃p ns,xs=[.ref p]/\bT K H p (List.map V.int ns)/\Q (.int ns.sum) H):=by subst hK;exact wd hc
theorem ou (hK:X.K=K:=by rfl):dz X (.builtin "sorted") (λxs H Q=>∃p ns,xs=[.ref p]/\bT K H p (List.map V.int ns)/\ns.length<64/\∀l,H l=none->Q (.ref l) (upd H l (.lst (List.map V.int (Nm.oj ns))))):=by subst hK;exact pQ
theorem ox (hc:X.calm=true:=by rfl):dz X (.builtin "sorted") (λxs H Q=>∃d kvs,xs=[.ref d]/\Rd H d (.dK kvs)/\allI kvs/\kvs.length<64/\∀l,H l=none->Q (.ref l) (upd H l (.lst (List.map V.int (Nm.oj (jN kvs)))))):=pR hc
theorem kS (hK:X.K=K:=by rfl):JQ X (rSlL K):=by subst hK;exact Dp
theorem IQ.r {id:String} {r:V->List V->Hp->VK->Prop} (h:IQ X id r):IP X id r:=h
end
end L2
namespace Nm
abbrev Ws:=List (Int×Int)
noncomputable def keys (ws:Ws):List Int:=ws.map (·.1)
noncomputable def look:Ws->Int->Int
 | [],_=>0
 | p::r,k=>if p.1=k then p.2 else look r k
noncomputable def put:Ws->Int->Int->Ws
 | [],k,v=>[(k,v)]
 | p::r,k,v=>if p.1=k then (k,v)::r else p::put r k v
noncomputable def oy (ws:Ws):Int:=(ws.map (·.2)).sum
noncomputable def jH (ws:Ws) (k x:Int):Ws:=put ws k (look ws k+x)
noncomputable def aJ (ws ps:Ws):Ws:=ps.foldl (λacc p=>jH acc p.1 p.2) ws
noncomputable def cnt (ps:Ws) (s:Int):Int:=(ps.map λp=>if p.1=s then p.2 else 0).sum
set_option tactic.hygienic true in
theorem um:∀(ws:Ws) (k v j:Int),look (put ws k v) j=if k=j then v else look ws j
 | [],k,v,j=>by simp [put,look]
 | p::r,k,v,j=>by
  unfold put
  split
  ·rename_i c
   simp only[look]
   by_cases e:k=j
   ·simp [e]
   ·rw[if_neg e,if_neg e,if_neg (by omega)]
  ·rename_i c
   simp only[look]
   by_cases e:p.1=j
   ·rw[if_pos e,if_neg (by omega),if_pos e]
   ·rw[if_neg e,if_neg e];exact um r k v j
set_option tactic.hygienic true in
theorem xO {ws:Ws} {k v j:Int}:j∈keys (put ws k v)↔j=k\/j∈keys ws:=by
 induction ws with
 | nil=>simp [put,keys]
 | cons p r ih=>
  unfold put
  split
  ·rename_i c
   simp only[keys,aaw,abh];rw[c];constructor
   ·intro h;exact .inr h
   ·rintro(h | h)
    ·exact .inl h
    ·exact h
  ·simp only[keys,aaw,abh] at ih ⊢;rw[ih];constructor
   ·rintro(h | h | h)
    ·exact .inr (.inl h)
    ·exact .inl h
    ·exact .inr (.inr h)
   ·rintro(h | h | h)
    ·exact .inr (.inl h)
    ·exact .inl h
    ·exact .inr (.inr h)
set_option tactic.hygienic true in
theorem zh {ws:Ws} (k v:Int) (h:(keys ws).Nodup):(keys (put ws k v)).Nodup:=by
 induction ws with
 | nil=>simp [put,keys]
 | cons p r ih=>
  have h':p.1∉keys r/\(keys r).Nodup:=by simpa [keys] using h
  unfold put
  split
  ·rename_i c
   have:k∉keys r/\(keys r).Nodup:=by rw[<-c];exact h'
   simpa [keys] using this
  ·rename_i c
   have i:=ih h'.2;have n:p.1∉keys (put r k v):=λz=>by
    rcases xO.mp z with z | z
    ·exact c z
    ·exact h'.1 z
   have:p.1∉keys (put r k v)/\(keys (put r k v)).Nodup:=⟨n,i⟩
   simpa [keys] using this
theorem uo:∀(ws:Ws) (k x:Int),oy (jH ws k x)=oy ws+x
 | [],k,x=>by simp [jH,put,look,oy]
 | p::r,k,x=>by
  have ih:=uo r k x;unfold jH oy at *;unfold put look
  by_cases c:p.1=k
  ·rw[if_pos c,if_pos c];simp only[aaw,abi];omega
  ·rw[if_neg c,if_neg c];simp only[aaw,abi];omega
theorem DG (ws:Ws) (k v:Int):(put ws k v).length<=ws.length+1:=by
 induction ws with
 | nil=>simp [put]
 | cons p r ih=>
  unfold put
  split
  ·simp
  ·simp only[aaF];omega
theorem mK:∀(ps ws:Ws) (s:Int),look (aJ ws ps) s=look ws s+cnt ps s
 | [],ws,s=>by simp [aJ,cnt]
 | p::r,ws,s=>by
  have ih:=mK r (jH ws p.1 p.2) s;show look (aJ (jH ws p.1 p.2) r) s=_;rw[ih];unfold jH cnt;rw[um];simp only[aaw,abi]
  by_cases c:p.1=s
  ·rw[if_pos c,if_pos c,c];omega
  ·rw[if_neg c,if_neg c];omega
theorem j9 {s:Int}:∀{ps ws:Ws},s∈keys (aJ ws ps)↔s∈keys ws\/s∈keys ps
 | [],ws=>by simp [aJ,keys]
 | p::r,ws=>by
  show s∈keys (aJ (jH ws p.1 p.2) r)↔_;rw[j9];unfold jH;rw[xO];simp only[keys,aaw,abh];constructor
  ·rintro((h | h) | h)
   ·exact .inr (.inl h)
   ·exact .inl h
   ·exact .inr (.inr h)
  ·rintro(h | h | h)
   ·exact .inl (.inr h)
   ·exact .inl (.inl h)
   ·exact .inr h
theorem kT:∀{ps ws:Ws},(keys ws).Nodup->(keys (aJ ws ps)).Nodup
 | [],_,h=>h
 | p::r,ws,h=>by
  show(keys (aJ (jH ws p.1 p.2) r)).Nodup;exact kT (zh _ _ h)
theorem oz:∀(ps ws:Ws),oy (aJ ws ps)=oy ws+oy ps
 | [],ws=>by simp [aJ,oy]
 | p::r,ws=>by
  show oy (aJ (jH ws p.1 p.2) r)=_;rw[oz,uo];unfold oy;simp only[aaw,abi];omega
theorem oA:∀(ps ws:Ws),(aJ ws ps).length<=ws.length+ps.length
 | [],ws=>by simp [aJ]
 | p::r,ws=>by
  have h:=oA r (jH ws p.1 p.2);have h2:=DG ws p.1 (look ws p.1+p.2);show(aJ (jH ws p.1 p.2) r).length<=_;unfold jH at *;simp only[aaF];omega
structure Over (as ws:Ws) (B T:Int):Prop where
 nd:(keys ws).Nodup
 perm:(keys as).Perm (keys ws)
 val:∀k∈keys ws,look as k*T=look ws k*B
theorem fo {ws:Ws} {p:Int×Int} (h:(keys ws).Nodup) (hp:p∈ws):look ws p.1=p.2:=by
 induction ws with
 | nil=>cases hp
 | cons q r ih=>
  have h':q.1∉keys r/\(keys r).Nodup:=by simpa [keys] using h
  unfold look;rcases List.mem_cons.mp hp with rfl | hp
  ·rw[if_pos rfl]
  ·rw[if_neg (λz=>h'.1 (by rw[z];exact List.mem_map.mpr ⟨p,hp,rfl⟩))];exact ih h'.2 hp
noncomputable def rowsOf (ws:Ws) (B:Int):List (Int×Int×Int):=(oj (keys ws)).map λv=>(v,st (look ws v) B,sb (look ws v) B)
noncomputable def weigh (rows:List (Int×Int×Int)) (B:Int):Ws:=rows.map λr=>(r.1,r.2.1* (B / r.2.2))
theorem pT (ws p q:Ws):aJ ws (p++q)=aJ (aJ ws p) q:=by
 unfold aJ;rw[abf]
theorem gG (ws p:Ws) (k x:Int):aJ ws (p++ [(k,x)])=jH (aJ ws p) k x:=by
 rw[pT];rfl
theorem xP:∀{l:List Int},0<l.length->(∀x∈l,0<x)->0<l.sum
 | [],h,_=>by simp at h
 | x::r,_,h=>by
  have hx:=h x aaE;rw[abi]
  by_cases c:0<r.length
  ·have:=xP c λy hy=>h y (aaB _ hy);omega
  ·have:r=[]:=List.eq_nil_of_length_eq_zero (by omega);subst this
   simpa using hx
theorem Hq {ws:Ws} (nd:(keys ws).Nodup) {P:Int->Prop} (h:∀k∈keys ws,P (look ws k)):∀x∈ws.map (·.2),P x:=λx hx=>by
 obtain⟨p,hp,rfl⟩:=List.mem_map.mp hx;have:=h p.1 (List.mem_map.mpr ⟨p,hp,rfl⟩)
 rwa [fo nd hp] at this
theorem DH {ws:Ws} (h:0<ws.length) (nd:(keys ws).Nodup) (w:∀k∈keys ws,0<look ws k):0<oy ws:=
 xP (by rw[aat];exact h) (Hq nd w)
theorem Hr {ps:Ws} (h:∀p∈ps,0<p.2) (s:Int):0<=cnt ps s:=by
 induction ps with
 | nil=>simp [cnt]
 | cons p r ih=>
  have i:=ih λq hq=>h q (aaB _ hq);have hp:=h p aaE;unfold cnt at *;rw[aaw,abi]
  split <;>omega
theorem nH {ps:Ws} (h:∀p∈ps,0<p.2) {s:Int} (hs:s∈keys ps):0<cnt ps s:=by
 induction ps with
 | nil=>simp [keys] at hs
 | cons p r ih=>
  have h':∀q∈r,0<q.2:=λq hq=>h q (aaB _ hq);have hp:=h p aaE;have n:=Hr h' s;have e:cnt (p::r) s=(if p.1=s then p.2 else 0)+cnt r s:=by unfold cnt;rw[aaw,abi]
  rw[e]
  by_cases c:p.1=s
  ·rw[if_pos c];omega
  ·rw[if_neg c];have A2:s∈keys r:=by
    unfold keys at hs ⊢;rw[aaw] at hs;rcases List.mem_cons.mp hs with z | z
    ·exact absurd z.symm c
    ·exact z
   have:=ih h' A2;omega
end Nm
namespace L2
open PySem PySem.Spec PyProof.Rows
noncomputable def enc (ws:Nm.Ws):List (Key×V):=ws.map λp=>(Sum.inl p.1,V.int p.2)
theorem rQ (ws:Nm.Ws):(enc ws).length=ws.length:=by unfold enc;rw[aat]
theorem zi (ws:Nm.Ws):jN (enc ws)=Nm.keys ws:=by
 unfold jN enc Nm.keys;rw[aaX];rfl
theorem A4 (ws:Nm.Ws):allI (enc ws):=λp hp=>by
 unfold enc at hp;obtain⟨q,_,rfl⟩:=List.mem_map.mp hp;exact⟨q.1,rfl⟩
theorem xQ (ws:Nm.Ws) (k:Int):eE (enc ws) (Sum.inl k)=if k∈Nm.keys ws then some (.int (Nm.look ws k)) else none:=by
 induction ws with
 | nil=>simp [enc,eE,Nm.keys]
 | cons p r ih=>
  unfold eE at *;unfold enc at *;rw[aaw,abd];unfold Nm.look
  by_cases c:p.1=k
  ·rw[show decide ((Sum.inl p.1:Key)=Sum.inl k)=true by rw[c];simp];simp [Nm.keys,c]
  ·rw[show decide ((Sum.inl p.1:Key)=Sum.inl k)=false by simpa using c];simp only[ih];have e:(k∈Nm.keys (p::r))=(k∈Nm.keys r):=by
    unfold Nm.keys;rw[aaw,abh];apply propext;constructor
    ·rintro(h | h)
     ·exact absurd h.symm c
     ·exact h
    ·exact .inr
   simp only[e,if_neg c]
theorem DI {ws:Nm.Ws} (nd:(Nm.keys ws).Nodup) (k v:Int):putK (enc ws) (Sum.inl k) (.int v)=enc (Nm.put ws k v):=by
 have key:∀{ws:Nm.Ws},k∉Nm.keys ws->(enc ws).map (λkv=>if kv.1=(Sum.inl k:Key) then (kv.1,V.int v) else kv)=enc ws:=by
  intro ws h;unfold enc;rw[aaX];apply List.map_congr_left;intro p hp;have:p.1≠k:=λz=>h (by rw[<-z];exact List.mem_map.mpr ⟨p,hp,rfl⟩);simp [this]
 have any:∀ws:Nm.Ws,((enc ws).any λkv=>decide (kv.1=(Sum.inl k:Key)))=decide (k∈Nm.keys ws):=by
  intro ws
  induction ws with
  | nil=>simp [enc,Nm.keys]
  | cons p r ih=>
   unfold enc at *;rw[aaw,List.any_cons,ih];unfold Nm.keys;rw[aaw]
   by_cases c:p.1=k
   ·simp [c]
   ·have c2:¬k=p.1:=λz=>c z.symm;simp [c,c2]
 unfold putK;rw[any];clear any
 by_cases c:k∈Nm.keys ws
 ·rw[if_pos (by simpa using c)]
  induction ws with
  | nil=>simp [Nm.keys] at c
  | cons p r ih=>
   have h':p.1∉Nm.keys r/\(Nm.keys r).Nodup:=by simpa [Nm.keys] using nd
   unfold Nm.put
   by_cases e:p.1=k
   ·rw[if_pos e];have:=key (ws:=r) (by rw[<-e];exact h'.1);unfold enc at *;rw[aaw,aaw,this,aaw];simp [e]
   ·rw[if_neg e];have c':k∈Nm.keys r:=by
     unfold Nm.keys at c ⊢;rw[aaw] at c;rcases List.mem_cons.mp c with z | z
     ·exact absurd z.symm e
     ·exact z
    have:=ih h'.2 c';unfold enc at *;rw[aaw,aaw,this,aaw];simp [e]
 ·rw[if_neg (by simpa using c)]
  induction ws with
  | nil=>simp [enc,Nm.put]
  | cons p r ih=>
   have h':p.1∉Nm.keys r/\(Nm.keys r).Nodup:=by simpa [Nm.keys] using nd
   have e:¬p.1=k:=λz=>c (by unfold Nm.keys;rw[aaw,z];exact aaE);have c':k∉Nm.keys r:=λz=>c (by unfold Nm.keys at *;rw[aaw];exact aaB _ z);unfold Nm.put;rw[if_neg e];have:=ih h'.2 c';unfold enc at *;rw[aaw,List.cons_append,this,aaw]
theorem DJ {H:Hp} {d:Addr} {ws:Nm.Ws} {v:Int} (h:Rd H d (.dK (enc ws))) (hv:v∈Nm.keys ws):kI H d (.int v) (some (.int (Nm.look ws v))):=
 .inl ⟨_,Sum.inl v,h,rfl,by rw[xQ,if_pos hv]⟩
theorem A5 {H:Hp} {d:Addr} {ws:Nm.Ws} {v:Int} (h:H d=some (.dK (enc ws))) (hv:v∈Nm.keys ws):kI H d (.int v) (some (.int (Nm.look ws v))):=DJ (.inl h) hv
theorem A6 {ws:Nm.Ws} {v:Int} (h:v∉Nm.keys ws):Nm.look ws v=0:=by
 induction ws with
 | nil=>rfl
 | cons p r ih=>
  unfold Nm.keys at h;rw[aaw] at h;unfold Nm.look;rw[if_neg (λz=>h (by rw[z];exact aaE))];exact ih λz=>h (aaB _ z)
theorem zj {H:Hp} {d:Addr} {ws:Nm.Ws} (v:Int) (h:Rd H d (.dK (enc ws))):∃o,kI H d (.int v) o/\o.getD (.int 0)=.int (Nm.look ws v):=by
 refine⟨_,.inl ⟨_,Sum.inl v,h,rfl,rfl⟩,?_⟩;rw[xQ]
 by_cases c:v∈Nm.keys ws
 ·rw[if_pos c];rfl
 ·rw[if_neg c,A6 c];rfl
theorem A7 {H:Hp} {d:Addr} {ws:Nm.Ws} (v x:Int) (h:H d=some (.dK (enc ws))) (nd:(Nm.keys ws).Nodup) (hl:ws.length<sizeLine):yW H d (.int v) (.int x) (upd H d (.dK (enc (Nm.put ws v x)))):=by
 have:=yW.k (k:=Sum.inl v) (v:=.int x) h (by rw[rQ];exact hl);rw[DI nd] at this;exact this
noncomputable def A8 (r:Int×Int×Int):Dat:=.tup [.int r.1,.tup [.int r.2.1,.int r.2.2]]
noncomputable def gf (rows:List (Int×Int×Int)):Dat:=.lst (rows.map A8)
noncomputable def mL (p:Int×Int):Dat:=.tup [.int p.1,.int p.2]
noncomputable def ji (ws:Nm.Ws):Dat:=.lst (ws.map mL)
theorem kU {H:Hp} {r:Int×Int×Int} {v:V}:Rep H (A8 r) v↔∃p q,v=.ref p/\H p=some (.tup [.int r.1,.ref q])/\H q=some (.tup [.int r.2.1,.int r.2.2]):=by
 unfold A8;simp only[Rep,bh];constructor
 ·rintro⟨p,vs,rfl,hp,a,b,rfl,rfl,c,d,rfl,⟨q,us,rfl,hq,e,f,rfl,rfl,g,h,rfl,rfl,rfl⟩,rfl⟩;exact⟨p,q,rfl,hp,hq⟩
 ·rintro⟨p,q,rfl,hp,hq⟩;exact⟨p,_,rfl,hp,_,_,rfl,rfl,_,_,rfl,⟨q,_,rfl,hq,_,_,rfl,rfl,_,_,rfl,rfl,rfl⟩,rfl⟩
theorem dW {H:Hp} {r:Int×Int} {v:V}:Rep H (mL r) v↔∃p,v=.ref p/\H p=some (.tup [.int r.1,.int r.2]):=by
 unfold mL;simp only[Rep,bh];constructor
 ·rintro⟨p,vs,rfl,hp,a,b,rfl,rfl,c,d,rfl,rfl,rfl⟩;exact⟨p,rfl,hp⟩
 ·rintro⟨p,rfl,hp⟩;exact⟨p,_,rfl,hp,_,_,rfl,rfl,_,_,rfl,rfl,rfl⟩
theorem aZ {H:Hp} {ds:List Dat} {v:V}:Rep H (.lst ds) v↔∃p vs,v=.ref p/\H p=some (.lst vs)/\bh H ds vs:=by rw[Rep]
noncomputable def YW (H H':Hp):Prop:=∀p xs,(H p=some (.tup xs)->H' p=some (.tup xs))/\(H p=some (.lst xs)->H' p=some (.lst xs))
mutual
theorem Rep.Kg {H H':Hp} (s:YW H H'):∀{d:Dat} {v:V},Rep H d v->Rep H' d v
 | .dP,_,h=>by rw[Rep] at *;exact h
 | .bl _,_,h=>by rw[Rep] at *;exact h
 | .int _,_,h=>by rw[Rep] at *;exact h
 | .str _,_,h=>by rw[Rep] at *;exact h
 | .tup _,_,h=>by
  rw[Rep] at *;obtain⟨p,vs,e,hp,r⟩:=h;exact⟨p,vs,e,(s _ _).1 hp,bh.Kg s r⟩
 | .lst _,_,h=>by
  rw[Rep] at *;obtain⟨p,vs,e,hp,r⟩:=h;exact⟨p,vs,e,(s _ _).2 hp,bh.Kg s r⟩
theorem bh.Kg {H H':Hp} (s:YW H H'):∀{ds:List Dat} {vs:List V},bh H ds vs->bh H' ds vs
 | [],_,h=>by rw[bh] at *;exact h
 | _::_,_,h=>by
  rw[bh] at *;obtain⟨v,r,e,h1,h2⟩:=h;exact⟨v,r,e,Rep.Kg s h1,bh.Kg s h2⟩
end
theorem none_of {H H':Hp} (s:aA H H') {p:Addr} (h:H' p=none):H p=none:=by
 cases e:H p with
 | none=>rfl
 | some o=>rw[s p o e] at h;cases h
end L2
namespace Nm
end Nm
namespace L2
open PySem PySem.Spec PyProof.Rows
theorem zk {α:Type} {J:It} {tc:TT} {te:TE} {tl:St} {H1:Hp} {fin:List V->Hp->Prop} {Item:Nat->V->Hp->Hp->Prop} (as:List α) (f:α->Option Int) (S:Src J (aA H1) as.length Item) (sub:∀i x H H3,Item i x H H3->H3=H) (hz:as.length<=sizeLine)
  (hs:∀i a x,as[i]?=some a->Item i x H1 H1->∀(Y:VK) (N:Hp->Prop),(∀z,f a=some z->Y (.int z) H1)->(f a=none->N H1)->tc (some x::tl) H1 λb H5=>if b=true then te (some x::tl) H5 Y else N H5)
  (j7:fin (List.map V.int (as.filterMap f)) H1):fc J (gName 0) tc te (none::tl) H1 fin:=by
 refine ma S (λσ=>∃w0,σ=w0::tl) ⟨_,rfl⟩ (λi ys H=>H=H1/\ys=List.map V.int ((as.take i).filterMap f)) ⟨rfl,by simp⟩ hz ?_ ?_
 ·rintro i x σ H ys H3 Q N hi sm ⟨rfl,rfl⟩ hl ⟨w0,rfl⟩ it kq kn;obtain rfl:=sub _ _ _ _ it;have ea:as[i]?=some as[i]:=aaG hi;refine hs i _ x ea it _ _ (λz e=>kq _ _ _ ⟨_,rfl⟩ sm ⟨rfl,?_⟩) (λe=>kn _ _ ⟨_,rfl⟩ sm ⟨rfl,?_⟩)
  ·rw[aaQ,ea,List.filterMap_append,aaK];simp [e]
  ·rw[aaQ,ea,List.filterMap_append,aaK];simp [e]
 ·rintro ys H sm ⟨rfl,rfl⟩ hl;rw[aaJ (aav _)];exact j7
theorem we {K:PySem.W.Frag} {α:Type} {J:It} {tc:TT} {te:TE} {tl:St} {H1:Hp} {fin:List V->Hp->Prop} {Item:Nat->V->Hp->Hp->Prop} (as:List α) (f:α->Option Int) (S:Src J (aA H1) as.length Item) (sub:∀i x H H3,Item i x H H3->H3=H) (hz:as.length<=sizeLine)
  (hs:∀i a x,as[i]?=some a->Item i x H1 H1->∃p u v,x=.ref p/\iX K H1 p [u,v]/\∀(Y:VK) (N:Hp->Prop),(∀z,f a=some z->Y (.int z) H1)->(f a=none->N H1)->tc (some u::some v::tl) H1 λb H5=>if b=true then te (some u::some v::tl) H5 Y else N H5)
  (j7:fin (List.map V.int (as.filterMap f)) H1):fc J (vD K 2 (gCons (gName 0) (gCons (gName 1) gNil))) tc te (none::none::tl) H1 fin:=by
 refine ma S (λσ=>∃w0 w1,σ=w0::w1::tl) ⟨_,_,rfl⟩ (λi ys H=>H=H1/\ys=List.map V.int ((as.take i).filterMap f)) ⟨rfl,by simp⟩ hz ?_ ?_
 ·rintro i x σ H ys H3 Q N hi sm ⟨rfl,rfl⟩ hl ⟨w0,w1,rfl⟩ it kq kn;obtain rfl:=sub _ _ _ _ it;have ea:as[i]?=some as[i]:=aaG hi;obtain⟨p,u,v,rfl,sq,k⟩:=hs i _ x ea it;refine⟨p,_,rfl,sq,rfl,_,_,rfl,_,_,rfl,rfl,?_⟩;refine k _ _ (λz e=>kq _ _ _ ⟨_,_,rfl⟩ sm ⟨rfl,?_⟩) (λe=>kn _ _ ⟨_,_,rfl⟩ sm ⟨rfl,?_⟩)
  ·rw[aaQ,ea,List.filterMap_append,aaK];simp [e]
  ·rw[aaQ,ea,List.filterMap_append,aaK];simp [e]
 ·rintro ys H sm ⟨rfl,rfl⟩ hl;rw[aaJ (aav _)];exact j7
theorem xR {α β:Type} (f:α->β) (l:List α):l.filterMap (λa=>some (f a))=l.map f:=by
 rw[<-List.filterMap_eq_map];rfl
open PySem PySem.Spec PyProof.Rows PySem.W
section
variable {X : Cx} {K : PySem.W.Frag}
theorem Hs {as:List (Key×V)} {bs:List (Key×Value)} (r:KV as bs):∀(j:Nat) {b},bs[j]?=some b->∃a,as[j]?=some a/\RelV a.2 b.2:=by
 induction r with
 | nil=>intro j b e;simp at e
 | cons r1 r2 ih=>
  intro j b e;cases j with
  | zero=>simp at e;subst e;exact⟨_,rfl,r1.2⟩
  | succ j=>simp at e;obtain⟨a,e1,e2⟩:=ih j e;exact⟨a,by simpa using e1,e2⟩
theorem uq (ns:List Int):preSum (λi=>ns.getD i 0) ns.length=ns.sum:=by
 have e:=preSum_eq (ns.map λn=>(n,(0:Nat))).toArray ns.length;have f:(λi=>ns.getD i 0)=numAt (ns.map λn=>(n,(0:Nat))).toArray:=by
  funext i;unfold numAt;simp only[List.getElem?_toArray,aau,abl];cases ns[i]? <;>rfl
 rw[f];refine e.trans ?_;rw[aaJ (by simp)];congr 1;simp [Function.comp_def]
noncomputable def tSumV (to:TE):TE:=λσ H Q=>to σ H λv H1=>∃d kvs ns,v=.ref d/\H1 d=some (.dK kvs)/\kvs.map (·.2)=List.map V.int ns/\Q (.int ns.sum) H1
theorem wg {o:Expr} {to:TE} {p apos dO pos:Pos} (hc:X.calm=true) (hg:Gl X "sum") (hm:X.mg "sum"=none) (ho:PE X o to)
  (tX:attributeBase o "values" X.env (eval o X.env)=eval o X.env:=by rfl) (tY:(apos.endLine==dO.line)=true:=by rfl)
  (he:starEach [Expr.Call (.Attribute o "values" apos) [] [] dO] X.env=[(false,eval (.Call (.Attribute o "values" apos) [] [] dO) X.env)]:=by rfl):
  PE X (.Call (.Name "sum" p) [.Call (.Attribute o "values" apos) [] [] dO] [] pos) (tSumV to):=by
 intro pins s σ H Q I h;refine wpAny_Call_Name_kw (ja I hg hm (u:=.builtin "sum") rfl ?_ (by decide) (by decide));rw[he];refine PySem.callWith_builtin1 ?_;refine wpAny_Call_method0_late tX tY (cu (ho pins s σ H _ I h) λv s1 dD=>?_);obtain⟨x,H1,I1,r1,q1⟩:=dD;obtain⟨d,kvs,ns,rfl,hd,hv,q⟩:=q1;obtain⟨h1,h2⟩:=vS (T:="dict") I1 r1 (.inr (.inr (.inl ⟨rfl,.inl ⟨_,hd⟩⟩)));cases r1;obtain⟨hz,lo,vs,kv,dd⟩:=AO I1.bV hd;have hlen:kvs.length=vs.length:=Paired.length kv;refine⟨"dict","dict.values",PySem.F.plainAttrs_dict,PySem.F.slot_dict_values,PySem.F.type_dict_values,h1,h2,Calls.callWith_builtin rfl (PySem.evalArgs_none ?_)⟩;refine call_meetsIn PySem.F.slot_dict_values dd.typeIs PySem.F.entry_dict_values (PySem.F.args_dict_values_1 _) (meets_dict_values _ d lo) ⟨⟨vs,dd⟩,?_⟩;have I2:Inv X pins σ H1 {s1 with heap:=s1.heap.push {cls:=.type "dict_values",data:=.fields #[.ref d]}}:=I1.kept (t':=s1.toks) λb o e=>Heap.get?_push_of_some _ e;obtain⟨hz,lo,vs,kv,dd⟩:=AO I2.bV hd;have hlen:kvs.length=vs.length:=Paired.length kv;obtain⟨ep,CH⟩:=dd.dictAt;have hn:ns.length=vs.length:=by
  have:=congrArg List.length hv;rw[aat,aat] at this;omega
 have Ks:=kdl_values (prog:=X.prog) (w:=X.w) (r:=s1.heap.objs.size) (d:=d) (knd:=cM X.prog X.w) (kvs:=vs) (ep:=ep);have bV:({s1 with heap:=s1.heap.push {cls:=.type "dict_values",data:=.fields #[.ref d]}}:Shared).heap.IsValuesView s1.heap.objs.size d/\({s1 with heap:=s1.heap.push {cls:=.type "dict_values",data:=.fields #[.ref d]}}:Shared).heap.DictAt (cM X.prog X.w) d vs ep:=⟨⟨_,Heap.get?_push_size _ rfl,rfl,rfl⟩,CH⟩
 refine call_sum_walkAnyS ?_;obtain⟨oI,St,hit,W,st⟩:=Ks.iter X.A.in1 _ (I.ok.hd hc) bV;refine hit _ _ ⟨_,_,_,_,vs.length,_,_,λi=>ns.getD i 0,rfl,W.toS,st,λb hb=>?_,λi v hP=>?_,λs' t' YX=>?_⟩
 ·show b< (Heap.push _ oI).objs.size;rw[size_push'];rcases List.mem_cons.mp hb with e | hb
  ·rw[e];exact aaR _
  ·rw[List.mem_singleton.mp hb];exact aa1 (Ks.there _ bV).2
 ·obtain⟨k,e⟩:=hP;obtain⟨a,e1,e2⟩:=Hs kv i e;have e3:(kvs.map (·.2))[i]?=some a.2:=by rw[aau,e1];rfl
  rw[hv,aau] at e3;obtain⟨n,en,ea⟩:=Option.map_eq_some_iff.mp e3;rw[<-ea] at e2;obtain⟨t,e2⟩:=e2;refine⟨t,?_⟩;show v=Value.int (ns.getD i 0) t;rw[abl,en];exact e2
 ·have hk:∀b o,(s1.heap.push {cls:=.type "dict_values",data:=.fields #[.ref d]}).get? b=some o->s'.heap.get? b=some o:=λb o e=>
   YX.heap b o (λhI=>absurd (Heap.lt_size e) (by rw[List.mem_singleton.mp hI];exact aaN _)) (Heap.get?_push_of_some _ e)
  rw[Moved.eq_with YX,<-hn,uq];exact⟨.int ns.sum,H1,I2.kept (t':=s'.toks) hk,⟨t',rfl⟩,q⟩
theorem me {α:Type} {J:It} {tc:TT} {te:TE} {tl:St} {H1:Hp} {fin:List V->Hp->Prop} {Item:Nat->V->Hp->Hp->Prop} (as:List α) (f:α->Option V) (S:Src J (aA H1) as.length Item) (sub:∀i x H H3,Item i x H H3->H3=H) (hz:as.length<=sizeLine)
  (hs:∀i a x,as[i]?=some a->Item i x H1 H1->∀(Y:VK) (N:Hp->Prop),(∀z,f a=some z->Y z H1)->(f a=none->N H1)->tc (some x::tl) H1 λb H5=>if b=true then te (some x::tl) H5 Y else N H5)
  (j7:fin (as.filterMap f) H1):fc J (gName 0) tc te (none::tl) H1 fin:=by
 refine ma S (λσ=>∃w0,σ=w0::tl) ⟨_,rfl⟩ (λi ys H=>H=H1/\ys=(as.take i).filterMap f) ⟨rfl,by simp⟩ hz ?_ ?_
 ·rintro i x σ H ys H3 Q N hi sm ⟨rfl,rfl⟩ hl ⟨w0,rfl⟩ it kq kn;obtain rfl:=sub _ _ _ _ it;have ea:as[i]?=some as[i]:=aaG hi;refine hs i _ x ea it _ _ (λz e=>kq _ _ _ ⟨_,rfl⟩ sm ⟨rfl,?_⟩) (λe=>kn _ _ ⟨_,rfl⟩ sm ⟨rfl,?_⟩)
  ·rw[aaQ,ea,List.filterMap_append];simp [e]
  ·rw[aaQ,ea,List.filterMap_append];simp [e]
 ·rintro ys H sm ⟨rfl,rfl⟩ hl;rw[aaJ (aav _)];exact j7
theorem cS {a b:TS} {D:Ends} {σ:St} {H:Hp} (C:St->Hp->Prop) (ha:∀N:St->Hp->Prop,(∀σ' H',C σ' H'->N σ' H')->a {D with nx:=N} σ H) (hb:∀σ' H',C σ' H'->b D σ' H'):tSeq a b D σ H:=ha _ hb
theorem iE {tc:TT} {a b:TS} {D:Ends} {σ:St} {H:Hp} (C1 C2:Hp->Prop) (h1:∀H',C1 H'->a D σ H') (h2:∀H',C2 H'->b D σ H')
  (ht:∀Y N:Hp->Prop,(∀H',C1 H'->Y H')->(∀H',C2 H'->N H')->tc σ H λv H'=>if v=true then Y H' else N H'):tIfS tc a b D σ H:=ht _ _ h1 h2
end
end L2
namespace Nm
noncomputable def pos (ps:Ws):Ws:=ps.filter λp=>decide (0<p.2)
noncomputable def ka (ps:Ws):Ws:=aJ [] (pos ps)
noncomputable def bad (ps:Ws):Prop:=(∃p∈ps,p.2<0)\/pos ps=[]
theorem A9 (ps:Ws) (p:Int×Int):pos (ps++ [p])=if 0<p.2 then pos ps++ [p] else pos ps:=by
 unfold pos;rw[List.filter_append]
 by_cases c:0<p.2
 ·rw[if_pos c];simp [c]
 ·rw[if_neg c];simp [c]
theorem Ba (ps:Ws) (p:Int×Int):ka (ps++ [p])=if 0<p.2 then jH (ka ps) p.1 p.2 else ka ps:=by
 unfold ka;rw[A9]
 split
 ·rw[gG]
 ·rfl
theorem mf (ps:Ws):(keys (ka ps)).Nodup:=kT (by simp [keys])
theorem xS (ps:Ws):(ka ps).length<=ps.length:=by
 have:=oA (pos ps) [];have h2:(pos ps).length<=ps.length:=List.length_filter_le _ _;unfold ka;simp only[abe] at this;omega
theorem xT {ps:Ws}:ka ps=[]↔pos ps=[]:=by
 constructor
 ·intro h;cases e:pos ps with
  | nil=>rfl
  | cons p r=>
   have m:p.1∈keys (ka ps):=by
    unfold ka;rw[e];exact j9.mpr (.inr (by simp [keys]))
   rw[h] at m;simp [keys] at m
 ·intro h;unfold ka;rw[h];rfl
theorem DK (ps:Ws):∀p∈pos ps,0<p.2:=λp hp=>by
 unfold pos at hp
 simpa using (List.mem_filter.mp hp).2
theorem DL (ps:Ws):∀k∈keys (ka ps),0<look (ka ps) k:=λk hk=>by
 unfold ka at *;rw[mK];have h:k∈keys (pos ps):=by
  rcases j9.mp hk with z | z
  ·simp [keys] at z
  ·exact z
 have:=nH (DK ps) h;simp only[look];omega
theorem DM (ps:Ws):oy (ka ps)=oy (pos ps):=by
 unfold ka;rw[oz];simp [oy]
theorem oB {c:Int} (c0:0<=c):∀{ps:Ws},(∀p∈ps,p.2<=c)->oy (pos ps)<=ps.length*c
 | [],_=>by simp [pos,oy]
 | p::r,h=>by
  have ih:=oB c0 λq hq=>h q (aaB _ hq);have hp:=h p aaE;rw[aaF,Int.natCast_succ,Int.add_mul];unfold pos at *;rw[List.filter_cons]
  split
  ·rw[show oy (p::List.filter (λp=>decide (0<p.2)) r)=p.2+oy (List.filter (λp=>decide (0<p.2)) r) from by unfold oy;rw[aaw,abi]];omega
  ·omega
end Nm
namespace L2
open PySem PySem.Spec PyProof.Rows PySem.W
section
variable {X : Cx} {K : PySem.W.Frag}
abbrev TJ:=Str->TE
end
open PySem PySem.Spec PyProof.Rows PySem.W
inductive Pl where
 | fin (w:Int×Int) | gX (w:Int×Int) (ws:List (Int×Int)) | pck (who:Int) (to:List Int)
noncomputable def dg (H:Hp) (p:Addr):Hp:=λa=>if a=p then none else H a
theorem bX {H:Hp} {p a:Addr} (h:a≠p):dg H p a=H a:=if_neg h
theorem xU {H:Hp} {p:Addr} {o:HO}:aA (dg H p) (upd H p o):=λa u e=>by
 unfold dg at e
 by_cases h:a=p
 ·rw[if_pos h] at e;cases e
 ·rw[if_neg h] at e;rw[aE h];exact e
theorem bU {H:Hp} {p:Addr}:aA (dg H p) H:=λa u e=>by
 unfold dg at e
 by_cases h:a=p
 ·rw[if_pos h] at e;cases e
 ·rw[if_neg h] at e;exact e
theorem Bb {H0 H:Hp} {p:Addr} (s:aA H0 H) (n:H0 p=none):aA H0 (dg H p):=λa u e=>by
 rw[bX (λz=>by rw[z,n] at e;cases e)];exact s _ _ e
theorem bO {H H':Hp} {p:Addr} (s:aA H H'):aA (dg H p) (dg H' p):=λa u e=>by
 unfold dg at *
 by_cases h:a=p
 ·rw[if_pos h] at e;cases e
 ·rw[if_neg h] at e ⊢;exact s _ _ e
theorem bS {H0 H:Hp} {p:Addr} {o:HO} (s:aA H0 H) (n:H0 p=none):aA H0 (upd H p o):=(Bb s n).trans xU
theorem jj {xs:List V} {k:Int} (h:0<=k):pL xs none (some k)=xs.take k.toNat:=by
 unfold pL;obtain⟨n,rfl⟩:=Int.eq_ofNat_of_zero_le h;rw[HT.AL,show((n:Nat):Int)=Int.ofNat n from rfl];rw[show HT.eR xs.length xs.length (some (Int.ofNat n))=min n xs.length from HT.Dj _ _ n];rw[List.drop_zero,Nat.sub_zero];show xs.take (min n xs.length)=xs.take n
 by_cases h:n<=xs.length
 ·rw[Nat.min_eq_left h]
 ·rw[Nat.min_eq_right (by omega),aaJ (aav _),aaJ (by omega)]
section
variable {X : Cx} {K : PySem.W.Frag}
end
end L2
namespace PySem
section
variable {prog : Program} {w : World} {A : Around} {E : Value -> Shared -> Prop} {s : Shared}
end
end PySem
namespace L2
open PySem PySem.Spec PyProof.Rows PySem.W
section
variable {X : Cx} {K : PySem.W.Frag}
end
end L2
namespace PySem
open Builtin Builtin.Str
section
variable {prog : Program} {w : World} {A : Around} {E : Value -> Shared -> Prop} {s : Shared} {x y : Str} {t u : Tok} {Q : Value -> Shared -> Prop}
end
end PySem
namespace L2
open PySem PySem.Spec PyProof.Rows PySem.W
section
variable {X : Cx} {K : PySem.W.Frag}
noncomputable def Its (z:Str):It:=⟨λi _=>i<z.cps.size,λi H x H'=>H'=H/\∃c,z.cps[i]?=some c/\x=.str ⟨#[c]⟩,λi _=>z.cps.size<=i⟩
theorem zm {K:PySem.W.Frag} {J:It} {te:TE} {tl:St} {H1:Hp} {fin:List V->Hp->Prop} {n:Nat} {Item:Nat->V->Hp->Hp->Prop} (S:Src J (aA H1) n Item) (Kb:Nat->V->V->V->Hp->Prop)
  (tp:∀i x H H3,i<n->aA H1 H->Item i x H H3->aA H H3/\∃p a b c,x=.ref p/\iX K H3 p [a,b,c]/\Kb i a b c H3) (hz:n<=sizeLine)
  (R:Nat->V->Hp->Prop) (mono:∀i y H H',aA H H'->R i y H->R i y H')
  (hs:∀i a b c H3 (Q:VK),i<n->aA H1 H3->Kb i a b c H3->(∀y H6,aA H3 H6->R i y H6->Q y H6)->te (some a::some b::some c::tl) H3 Q)
  (j7:∀ys H,aA H1 H->ys.length=n->(∀(i:Nat) y,ys[i]?=some y->R i y H)->fin ys H):fc J (vD K 3 (gCons (gName 0) (gCons (gName 1) (gCons (gName 2) gNil)))) pP te (none::none::none::tl) H1 fin:=by
 refine⟨λi m ys σ H=>m=n - i/\i<=n/\ys.length=i/\(∃w w' YY,σ=w::w'::YY::tl)/\aA H1 H/\∀(j:Nat) y,ys[j]?=some y->R j y H,⟨n,by simp,aaz _,rfl,⟨_,_,_,rfl⟩,aA.refl _,λj y e=>by simp at e⟩,?_⟩;rintro i m ys σ H ⟨rfl,hi,hl,⟨w,w',YY,rfl⟩,sm,p⟩
 by_cases gF:i<n
 ·refine .inr ⟨S.go i H gF sm,λx H3 y=>?_⟩;obtain⟨s3,q,a,b,c,rfl,sq,it⟩:=tp i x H H3 gF sm (S.vv i H x H3 gF sm y);refine⟨q,_,rfl,sq,rfl,_,_,rfl,_,_,rfl,_,_,rfl,rfl,?_⟩;unfold pP;refine GU ?_;refine hs i a b c H3 _ gF (sm.trans s3) it λy H6 s6 r=>⟨by omega,n - (i+1),by omega,rfl,gF,by rw[aay,aa0];omega,⟨_,_,_,rfl⟩,sm.trans (s3.trans s6),λj z e=>?_⟩
  by_cases hj:j<i
  ·rw[abc (by omega)] at e;exact mono j z _ _ (s3.trans s6) (p j z e)
  ·rw[abk (by omega)] at e;have e2:j - ys.length=0:=by
    by_cases q:j - ys.length=0
    ·exact q
    ·rw[List.getElem?_eq_none (by simp;omega)] at e;cases e
   rw[e2] at e;simp at e;subst e;have:j=i:=by omega
   subst this;exact r
 ·have e:i=n:=by omega
  subst e;exact .inl ⟨S.stop H sm,j7 ys H sm hl p⟩
theorem kX {x:Str} {i:Int} {pos:Pos} (hg:Gl X x) (h:∃t,X.mg x=some (.int i t)) (hd:(x==("__debug__":Str))=false:=by decide):PE X (.Name x pos) (tC (.int i)):=by
 obtain⟨t,h⟩:=h;exact C7 hg h ⟨t,rfl⟩ hd
end
end L2
namespace PySem
end PySem
namespace PySem
section
variable {M : Model} {A : Around} {E : Value -> Shared -> Prop} {s : Shared} {env : Env}
theorem zo {e:Expr} {scope:Scope} {pos:Pos} {Bc first:Sem Value} {g:Comprehension} {gs:List Comprehension} {cl:List (Str×Addr)} {Q:Value->Shared->Prop}
  (h1:clausesOf e=g::gs) (h2:∀x,foldedSetIterable g.iter env x=pure x) (h3:closureFor scope env=pure cl) (h4:scope.kind=.function) (h5:∀x∈scope.names,x.2=.local->scope.names.lookup x.1=some .local)
  (h:wpAny M A first (λx t1=>wpAny M A (pyIter x) (λit t2=>wpAny M A Bc (λacc t3=>wpAny M A (newFunctionEnv scope env.globals cl [] env.qual none .none (some env)) (λce t4=>
    codeAny M A (.compStart e 0 it acc {ce with scope:=relabel scope env}) (λr t=>∃m,t.heap.Ns ce.locals m/\∀h',Heap.SameBut ce.locals t.heap h'->match r with
     | .ok _=>Q acc {t with heap:=h'}
     | .error x=>wpAny M A (passOn "comprehension.variables-let-go" x {ce with scope:=relabel scope env}:Sem Value) (λ_ _=>False) E {t with heap:=h'}) t4) E t3) E t2) E t1) E s):
  wpAny M A (comprehension e scope env pos Bc false first none) Q E s:=by
 unfold comprehension;rw[h3,h1];refine wpAny_bind (wpAny_mono h (λx t1 a1=>?_) λ_ _ y=>y);refine wpAny_bind (wpAny_standAt ?_);refine wpAny_bind (wpAny_of_eq (h2 x) ?_);refine wpAny_bind (wpAny_holding (wpAny_mono a1 (λit t2 a2=>?_) λ_ _ y=>y));refine wpAny_standIf (wpAny_bind (wpAny_mono a2 (λacc t3 a3=>?_) λ_ _ y=>y));refine wpAny_bind (wpAny_pure (wpAny_bind (wpAny_mono a3 (λce t4 a4=>?_) λ_ _ y=>y)));dsimp only;have own:∀x∈(scope.names.filter λy=>(y.2==.local || y.2==.cell) && y.1 !=(".0":Str)).reverse,x.2=.local->Env.kindOf {ce with scope:=relabel scope env} x.1=some .local:=by
  intro x hx hl;have hm:=(List.mem_filter.mp (List.mem_reverse.mp hx)).1;exact lookup_relabel_local (h5 x hm hl)
 refine wpAny_holding (wpAny_bind (wpAny_attempt (wpAny_holding (wpAny_run (codeAny_mono a4 λr t hr=>?_)))));obtain⟨m,hn,hq⟩:=hr;cases r with
 | ok fl=>
  refine wpAny_bind (wpAny_holding (wpAny_comp_letGo (cenv:={ce with scope:=relabel scope env}) h4 _ t m own hn λh' m' _ sb=>?_));exact wpAny_pure (hq h' sb)
 | error x=>
  refine wpAny_bind (wpAny_holding (wpAny_comp_letGo (cenv:={ce with scope:=relabel scope env}) h4 _ t m own hn λh' m' _ sb=>?_));exact wpAny_mono (hq h' sb) (λ_ _ z=>False.elim z) λ_ _ y=>y
end
end PySem
namespace L2
open PySem PySem.Spec PyProof.Rows PySem.W
theorem zp {x:Value} {e1 e2:Env} (h:e1.frame=e2.frame):noteFrame x e1=noteFrame x e2:=by
 unfold noteFrame PySem.frameOf;simp only[h]
theorem oE {C:Addr} {h h' base:Heap} (sb:Heap.SameBut C h h'):∀{l:List Env},h.FunFrames base l->C∉dN l->h'.FunFrames base l
 | [],_,_=>trivial
 | en::r,⟨a1,⟨L,o,b1,b2,b3,b4⟩,a3⟩,n=>by
  have e:dN (en::r)=L::dN r:=by unfold dN;rw[abn,b1]
  rw[e] at n;refine⟨a1,⟨L,o,b1,b2,(sb.2 L λz=>n (by rw[z];exact aaE)).trans b3,b4⟩,?_⟩;exact oE sb a3 λz=>n (aaB _ z)
section
variable {M : Model} {A : Around} {E : Value -> Shared -> Prop} {s : Shared} {B : Heap} {l : List Env} {ad L : Addr} {cls a0 : Value} {p : Prop}
theorem zq {α:Type} {Qk:String} {ce:Env} {Q:α->Shared->Prop} (hh:Heap.HeldW B l ad cls a0 L s.heap) (hf:ce.frame=some L) (nc:p->jg s.heap ad)
  (k:∀h',Heap.HeldW B l ad cls a0 L h'->s.heap.UpToSlots h'->(p->jg h' ad)->E (.ref ad) {s with heap:=h'}):wpAny M A (PySem.passOn Qk (.ref ad) ce:Sem α) Q E s:=by
 obtain⟨st,na,ff,oe,vs,T,oT,ts,g1,g2,g3,g4,g5,g6,g7,g8,g9⟩:=id hh;have sz:3<ts.size:=(Array.getElem?_eq_some_iff.mp g9).1;unfold PySem.passOn;refine wpAny_bind (wpAny_field g1 g3 g4 ?_);have nz:¬(Value.ref T==Value.none)=true:=by simp
 rw[if_neg nz,hf];have ot:∀{f:Obj->Obj} b,b≠T->(s.heap.update T f).get? b=s.heap.get? b:=λb hb=>Heap.get?_update_other _ _ (Ne.symm hb);have nr:∀b o,s.heap.get? b=some o->(∀us,o.data≠.fields us)->b≠T:=λb o e nf z=>by
  rw[z,g7] at e;cases e;exact nf ts g8
 have fin:wpAny M A (setFlight (.ref ad) (some L)) (λ_ s1=>wpAny M A (throw (.ref ad):Sem α) Q E s1) E s:=by
  unfold setFlight;refine wpAny_bind (wpAny_field g1 g3 g4 ?_);have yz:(Value.ref T !=Value.none)=true:=by simp
  rw[if_pos yz];refine wpAny_setField g7 g8 sz (wpAny_throw (k _ ⟨λb o e=>?_,na,?_,?_⟩ (λb o e nf=>?_) λhp=>?_))
  ·refine(ot b λz=>?_).trans (st b o e);rw[z,g5] at e;cases e
  ·exact Heap.FunFrames.of_keeps (λb o e nf=>⟨o,(ot b (nr b o e nf)).trans e,rfl⟩) ff
  ·exact⟨oe,vs,T,_,_,(ot ad (Ne.symm g6)).trans g1,g2,g3,g4,g5,g6,Heap.get?_update_self _ g7 (Obj.isFreed_of_fields (Obj.data_mapFields g8 _)),Obj.data_mapFields g8 _,by simp [sz]⟩
  ·exact⟨o.slots,(ot b (nr b o e nf)).trans e⟩
  ·obtain⟨o,ws,q,d,r⟩:=nc hp;exact⟨o,ws,(ot ad (Ne.symm g6)).trans q,d,r⟩
 first
  | exact wpAny_bind (wpAny_pure (wpAny_bind fin))
  | exact wpAny_bind fin
theorem leave_held {en:Env} {r:List Env} {Q:Unit->Shared->Prop} (hf:en.frame=some L) (hh:Heap.HeldW B (en::r) ad cls a0 L s.heap) (nc:p->jg s.heap ad)
  (k:∀h',Heap.FlyingW B r ad cls a0 h'->s.heap.UpToSlots h'->(p->jg h' ad)->Q () {s with heap:=h'}):wpAny M A (leaving en (.ref ad)) Q E s:=by
 have lands:wpAny M A (setFlight (.ref ad) none) Q E s:=kK hh.1 hh.2.1 hh.2.2.1 hh.2.2.2 nc λh' fl up n2=>by
  obtain⟨p1,p2,p3,p4⟩:=fl;exact k h' ⟨p1,p2,p3.2.2,p4⟩ up n2
 unfold leaving;exact wpAny_bind (wpAny_noteFrame_againW hf hh.2.2.2 lands)
end
section
variable {P : Program} {w : World} {K : PySem.W.Frag} {mg : Str -> Option Value} {base : Heap} {N : List Str} {qual : Str} {scope : Scope} {f : Addr} {bZ : Value} {A : Around} {outer : List Env} {s0 : Shared} {H0 : Hp} {E : XK}
theorem Bd {N':List Str} {ur:Scope} {cl:List (Str×Addr)} {C:Addr} {fp:List Addr} {Fe Ff:List (Addr×Obj)} {σD σ4:St} {H2 H4 H':Hp} {s2 s4 s':Shared} {ad:Addr} {cls:Value} {QE:Value->Shared->Prop} {ce:Env}
  (I2:Inv (df (cN P w) P w K mg base N qual scope f bZ A outer s0 H0 E) Fe σD H2 s2) (hC:s2.heap.objs.size<C) (f2:∀b∈fp,fF (df (cN P w) P w K mg base N qual scope f bZ A outer s0 H0 E) Fe H2 b)
  (I4:Inv (fC (df (cN P w) P w K mg base N qual scope f bZ A outer s0 H0 E) N' ur cl C s2 H2 fp) Ff σ4 H4 s4) (F:Dw P w (envOfC qual scope s0.heap.objs.size f bZ::outer) H4 s4 H' ad cls s') {cc:Option Addr} (nc:cc=none->jg s'.heap ad) (he:E cls cc H')
  (hce:ce.frame=some s0.heap.objs.size):
  wpAny (model P w) (A.deeper (envOfC qual scope s0.heap.objs.size f bZ)) (noteFrame (.ref ad) (compEnvC ur cl C (envOfC qual scope s0.heap.objs.size f bZ)))
   (λ_ s5=>∃m,s5.heap.Ns C m/\∀h',Heap.SameBut C s5.heap h'->wpAny (model P w) (A.deeper (envOfC qual scope s0.heap.objs.size f bZ)) (PySem.passOn "comprehension.variables-let-go" (.ref ad) ce:Sem Value) (λ_ _=>False)
    (df (cN P w) P w K mg base N qual scope f bZ A outer s0 H0 E).xe {s5 with heap:=h'}) QE s':=by
 generalize IS:envOfC qual scope s0.heap.objs.size f bZ=en at *;have Ql:en.frame=some s0.heap.objs.size:=by rw[<-IS];rfl
 have Fb:dN (en::outer)=s0.heap.objs.size::dN outer:=by unfold dN;rw[abn,Ql]
 have D0:Un (dN outer) [] H0 H2 s0.heap s2.heap:=I2.base;have D2:Un (dN (en::outer)) fp H2 H4 s2.heap s4.heap:=by rw[<-IS];exact I4.base
 have D4:Un (dN (en::outer)) [] H4 H' s4.heap s'.heap:=F.un;have ST:s2.heap.FunFrames base (en::outer):=by rw[<-IS];exact I2.stack
 have vZ:∀b o,s0.heap.get? b=some o->b∉dN outer->b∉dN (en::outer):=λb o q hb z=>by
  rw[Fb] at z;rcases List.mem_cons.mp z with z | z
  ·rw[z] at q;exact absurd (Heap.lt_size q) (aaN _)
  ·exact hb z
 have Kh:∀b o,s0.heap.get? b=some o->b∉fp:=λb o q z=>by
  rcases(f2 b z).2.2.2.1 with m | m
  ·exact absurd (show b∈([]:List Addr) from m) (by simp)
  ·exact absurd (Heap.lt_size q) (Nat.not_lt.mpr m)
 have YZ:∀b∈dN (en::outer),b∉fp:=λb hb z=>by
  have q:=(f2 b z)
  rw[Fb] at hb;rcases List.mem_cons.mp hb with e | e
  ·exact q.2.1 (by rw[e];rfl)
  ·exact q.2.2.1 e
 have Y0:∀b∈dN (en::outer),∃o,s2.heap.get? b=some o/\(∀us,o.data≠.fields us):=λb hb=>by
  obtain⟨_,o,q,nf⟩:=ST.mem hb;exact⟨o,q,nf⟩
 have Qm:C∉dN (en::outer):=λz=>by
  obtain⟨o,q,_⟩:=Y0 C z;exact absurd (aa8 (Heap.lt_size q) hC) (aaN _)
 have Fc:∀b∈dN (en::outer),H2 b=none:=λb hb=>I2.nA b (by show b∈dN (envOfC qual scope s0.heap.objs.size f bZ::outer);rw[IS];exact hb);obtain⟨B,a0,fl,c0,c2,c1⟩:=F.fl;obtain⟨m4,hn4,_⟩:=I4.loc;obtain⟨oC,es,ep,Ow,dC,rC⟩:=hn4;have Ow:s4.heap.get? C=some oC:=Ow;have Ou:H4 C=none:=I4.free;have hC':s'.heap.get? C=some oC:=D4.keep C oC Ow Ou Qm (by simp);have nC':H' C=none:=D4.free C oC Ow Ou (by simp);have Hh:∀b o,(hideAll B [C]).get? b=some o->B.get? b=some o/\b≠C:=λb o q=>⟨of_hideAll _ q,λz=>by
  rw[z,hideAll_none [C] aaE] at q;cases q⟩
 have toB:∀b o,B.get? b=some o->b≠C->(hideAll B [C]).get? b=some o:=λb o q n=>hideAll_get _ q (by simpa using n);have fl:Heap.FlyingW (hideAll B [C]) (en::outer) ad cls a0 s'.heap:=flyingW_base (λb o q=>(Hh b o q).1) fl;rw[zp (e2:=en) (show(compEnvC ur cl C en).frame=en.frame from rfl)];refine rJ (L:=s0.heap.objs.size) (by rw[<-IS];exact I2.ok.frames) Ql fl nc λh5 Ki Ox Qn=>?_;have Qo:h5.Ns C m4:=Ox.ns ⟨oC,es,ep,hC',dC,rC⟩;refine⟨m4,Qo,λh6 IT=>?_⟩;have Kj:Heap.HeldW (hideAll B [C]) (en::outer) ad cls a0 s0.heap.objs.size h6:=by
  obtain⟨q1,q2,q3,oe,vs,T,oT,ts,g1,g2,g3,g4,g5,g6,g7,g8,g9⟩:=Ki;obtain⟨o5,es5,ep5,e5,d5,_⟩:=Qo;have nad:ad≠C:=λz=>by
   rw[z,e5] at g1;cases g1;rw[d5] at g3;cases g3
  have nT:T≠C:=λz=>by
   rw[z,e5] at g7;cases g7;rw[d5] at g8;cases g8
  exact⟨λb o q=>(IT.2 b (Hh b o q).2).trans (q1 b o q),q2,oE IT q3 Qm,oe,vs,T,oT,ts,(IT.2 ad nad).trans g1,g2,g3,g4,g5,g6,(IT.2 T nT).trans g7,g8,g9⟩
 have Qp:cc=none->jg h6 ad:=λhp=>by
  obtain⟨o,ws,q,d,r⟩:=Qn hp;obtain⟨o5,es5,ep5,e5,d5,_⟩:=id Qo;exact⟨o,ws,(IT.2 ad λz=>by rw[z,e5] at q;cases q;rw[d5] at d;cases d).trans q,d,r⟩
 refine zq Kj hce Qp λh7 Kk up7 nc7=>?_;show wpAny (model P w) (A.deeper (envOfC qual scope s0.heap.objs.size f bZ)) (leaving (envOfC qual scope s0.heap.objs.size f bZ) (.ref ad)) (λ_ nX=>cN P w outer H0 s0 E (.ref ad) nX) (λe' nX=>cN P w outer H0 s0 E e' nX) _;rw[IS];refine leave_held Ql Kk nc7 λh8 Kl up8 nc8=>?_;have fr8:∀b∈dN (en::outer),∀o,s'.heap.get? b=some o->(∀us,o.data≠.fields us)->∃sl,h8.get? b=some {o with slots:=sl}:=λb hb o q nf=>by
  have nb:b≠C:=λz=>Qm (by rw[<-z];exact hb);obtain⟨x1,q1⟩:=Ox b o q nf;have q2:=(IT.2 b nb).trans q1;obtain⟨x3,q3⟩:=up7 b _ q2 nf;obtain⟨x4,q4⟩:=up8 b _ q3 nf;exact⟨x4,q4⟩
 have slot:∀b o,s2.heap.get? b=some o->b∈dN (en::outer)->∃sl,h8.get? b=some {o with slots:=sl}:=λb o q hb=>by
  obtain⟨o',q',nf⟩:=Y0 b hb;rw[q] at q';cases q';obtain⟨x1,q1⟩:=D2.slot b o q (Fc b hb) hb (YZ b hb);obtain⟨x2,q2⟩:=D4.slot b _ q1 (D2.free b o q (Fc b hb) (YZ b hb)) hb (by simp);obtain⟨x3,q3⟩:=fr8 b hb _ q2 nf;exact⟨x3,q3⟩
 have low:∀b o,s2.heap.get? b=some o->b≠C:=λb o q=>aaA (aa8 (Heap.lt_size q) hC);have Fg:∀b o,s0.heap.get? b=some o->H0 b=none->b∉dN outer->(hideAll B [C]).get? b=some o:=λb o q n hb=>by
  have q1:=D0.keep b o q n hb (by simp);have n1:=D0.free b o q n (by simp);have q2:=D2.keep b o q1 n1 (vZ b o q hb) (Kh b o q);exact toB b o (c0 b o q2 (D2.free b o q1 n1 (Kh b o q)) (vZ b o q hb)) (low b o q1)
 have Be:∀b o,s0.heap.get? b=some o->b∉dN outer->∃o',(hideAll B [C]).get? b=some o':=λb o q hb=>by
  obtain⟨o1,q1⟩:=D0.there b o q (by simp);obtain⟨o2,q2⟩:=D2.there b o1 q1 (Kh b o q);obtain⟨o3,q3⟩:=c2 b o2 q2 (vZ b o q hb);exact⟨o3,toB b o3 q3 (low b o1 q1)⟩
 have Y1:∀b u o,H' b=some u->s'.heap.get? b=some o->(hideAll B [C]).get? b=some o:=λb u o e q=>toB b o (c1 b u o e q) λz=>by
  rw[z,nC'] at e;cases e
 refine⟨ad,cls,cc,H',rfl,⟨⟨(F.os.trans I4.os).trans I2.os,F.bare,⟨λb o q n hb hx=>Kl.1 b o (Fg b o q n hb),λb o q n hb hx=>?_,λb o q n hx=>?_,λb o q hx=>?_,λb xs q=>D4.i4 b xs (D2.i4 b xs (D0.i4 b xs q)),λb o u q=>D4.iV b o u (D2.iV b o u (D0.iV b o u q)),λb ps q=>?_⟩,F.bV.Hh Y1 Kl.1,
  ⟨hideAll B [C],a0,Kl,Fg,Be,λb u o e q=>?_⟩⟩,nc8⟩,he⟩
 ·obtain⟨x1,q1⟩:=D0.slot b o q n hb hx;obtain⟨x2,q2⟩:=slot b _ q1 (by rw[Fb];exact aaB _ hb);exact⟨x2,q2⟩
 ·have q1:=(D0.there b o q hx).choose_spec;have n1:=D0.free b o q n hx;obtain⟨o2,q2⟩:=D2.there b _ q1 (Kh b o q);exact D4.free b o2 q2 (D2.free b _ q1 n1 (Kh b o q)) hx
 ·by_cases hb:b∈dN outer
  ·obtain⟨o1,q1⟩:=D0.there b o q hx;obtain⟨x2,q2⟩:=slot b o1 q1 (by rw[Fb];exact aaB _ hb);exact⟨_,q2⟩
  ·obtain⟨o1,q1⟩:=Be b o q hb;exact⟨o1,Kl.1 b o1 q1⟩
 ·obtain⟨m1,e1⟩:=D0.i5 b ps q;obtain⟨m2,e2⟩:=D2.i5 b _ e1;obtain⟨m3,e3⟩:=D4.i5 b _ e2;exact⟨m1++m2++m3,by rw[e3,Array.append_assoc,Array.append_assoc,Array.append_assoc]⟩
 ·obtain⟨o1,q1⟩:=(F.bV b u e).get;have q2:=Y1 b u o1 e q1;have q3:=Kl.1 b o1 q2;rw[q] at q3;cases q3;exact q2
noncomputable def Qq (X:Cx) (N':List Str) (ur:Scope) (E:XK):List (Str×Addr)->Addr->Shared->Hp->List Addr->Value->Shared->Prop:=λcl C s H ex e s'=>
 ∃pins σ H4 s4,Inv (fC X N' ur cl C s H ex) pins σ H4 s4/\cN X.prog X.w X.stack H4 s4 E e s'
theorem Bf {N':List Str} {ur:Scope} {cl:List (Str×Addr)} {C:Addr} {s:Shared} {H:Hp} {ex:List Addr}:
  d8 (cN P w) ((fC (df (cN P w) P w K mg base N qual scope f bZ A outer s0 H0 E) N' ur cl C s H ex).iw (Qq (df (cN P w) P w K mg base N qual scope f bZ A outer s0 H0 E) N' ur E cl C s H ex)) E:=
 λpins σ H4 s4 _ _ I c=>⟨pins,σ,H4,s4,I.eX,c⟩
theorem Bg {elt target iter:Expr} {ifs:List Expr} {ur so:Scope} {pos:Pos} {wi:TI} {g:TG} {tc:TT} {te:TE} {k:Nat} {fr:List Nat} {N1 N':List Str} (hc:(df (cN P w) P w K mg base N qual scope f bZ A outer s0 H0 E).calm=true) (hN:N=N1)
  (Hn:(df (cN P w) P w K mg base N qual scope f bZ A outer s0 H0 E).env.scope=so) (S:dA N1 so N' ur k fr) (hi:PI (df (cN P w) P w K mg base N qual scope f bZ A outer s0 H0 E) target iter wi)
  (hg:∀cl C s H ex,PG (fC (df (cN P w) P w K mg base N qual scope f bZ A outer s0 H0 E) N' ur cl C s H ex) target g) (ht:∀cl C s H ex,A1 (fC (df (cN P w) P w K mg base N qual scope f bZ A outer s0 H0 E) N' ur cl C s H ex) ifs tc)
  (he:∀cl C s H ex,PE ((fC (df (cN P w) P w K mg base N qual scope f bZ A outer s0 H0 E) N' ur cl C s H ex).iw (Qq (df (cN P w) P w K mg base N qual scope f bZ A outer s0 H0 E) N' ur E cl C s H ex)) elt te)
  (hs:∀x,foldedSetIterable iter (df (cN P w) P w K mg base N qual scope f bZ A outer s0 H0 E).env x=pure x:=by intro _;rfl):
  PE (df (cN P w) P w K mg base N qual scope f bZ A outer s0 H0 E) (.ListComp elt [⟨target,iter,ifs,0⟩] ur pos) (tComp wi g tc te k fr):=by
 subst hN Hn;intro pins s σ H Q I h;rw[eval_ListComp];obtain⟨cl,jG,c1,c2,c3⟩:=fh (env:=(df (cN P w) P w K mg base N qual scope f bZ A outer s0 H0 E).env) (scope:=ur) λn hn=>I.ok.has n (S.outer _ hn rfl);refine zo (cl:=cl) rfl hs jG S.kind S.locs ?_;refine cu (hi pins s σ H _ I h) λv s1 h1=>cu h1 λtS s2 h2=>?_;obtain⟨it,fp,tn,J,H2,rfl,I2,T,mX,f2,hb⟩:=h2;refine wpAny_newObj_type (eK ?_);refine uk (XE:=Qq (df (cN P w) P w K mg base N qual scope f bZ A outer s0 H0 E) N' ur E) hc S c1 c2 (λx c m=>⟨x,(c3 x c m).1⟩) (λx hx c m=>(S.zd _ hx rfl).2 (c3 x c m).2) hg ht he I2 T mX f2 hb ?_ ?_
 ·intro C e s' m ys bE n H' hC hn vl sz hD nD nC fin os bare un bV;subst e;exact⟨m,hn,λh' A2=>⟨.ref _,_,comp_back I2 f2 hC vl sz hD nD nC os bare un bV A2,rfl,fin _ (I2.bV.fresh (aav _)) nD⟩⟩
 ·rintro cl' C x s' e hC ⟨Ff,σ4,H4,s4,I4,ad,cls,cc,H',rfl,⟨F,nc⟩,he'⟩;subst e;exact Bd I2 hC f2 I4 F nc he' rfl
end
open PySem PySem.Spec PyProof.Rows PySem.W
section
variable {X : Cx}
end
open PySem PySem.Spec PyProof.Rows PySem.W
abbrev Y2 (h:Heap) (T:Addr) (a b c:Value):Prop:=h.get? T=some {cls:=.type "tuple",data:=.seq #[a,b,c]}
structure Ap3 (z TI TO i1 i2 i3 a b c:Addr):Prop where
 TIz:TI≠z
 TOz:TO≠z
 i1z:i1≠z
 i2z:i2≠z
 i3z:i3≠z
 TITO:TI≠TO
 TI1:TI≠i1
 TI2:TI≠i2
 TI3:TI≠i3
 TO1:TO≠i1
 TO2:TO≠i2
 TO3:TO≠i3
 i12:i1≠i2
 i13:i1≠i3
 i23:i2≠i3
 az:a≠z
 bz:b≠z
 cz:c≠z
 bTO:b≠TO
 cTO:c≠TO
 b1:b≠i1
 c1:c≠i1
 c2:c≠i2
section
variable {prog : Program} {w : World} {A : Around} {E : Value -> Shared -> Prop} {s : Shared}
end
abbrev Y3 (h:Heap) (la:Addr):Heap:=h.push {cls:=.type "list_iterator",data:=.fields #[.ref la,.int 0 0]}
abbrev Y4 (h:Heap) (la lb:Addr):Heap:=(Y3 h la).push {cls:=.type "list_iterator",data:=.fields #[.ref lb,.int 0 0]}
abbrev Y5 (h:Heap) (la lb lc:Addr):Heap:=(Y4 h la lb).push {cls:=.type "list_iterator",data:=.fields #[.ref lc,.int 0 0]}
abbrev Y6 (h:Heap) (la lb lc:Addr):Heap:=(Y5 h la lb lc).push {cls:=.type "tuple",data:=.seq #[.ref h.objs.size,.ref (Y3 h la).objs.size,.ref (Y4 h la lb).objs.size]}
abbrev z3e (h:Heap) (la lb lc:Addr):Heap:=(Y6 h la lb lc).push {cls:=.type "tuple",data:=.seq #[.none,.none,.none]}
abbrev z3f (h:Heap) (la lb lc:Addr):Heap:=(z3e h la lb lc).push {cls:=.type "zip",data:=.fields #[.none,.bool false,.bool false,.ref (Y5 h la lb lc).objs.size,.ref (Y6 h la lb lc).objs.size]}
section
variable {prog : Program} {w : World} {A : Around} {E : Value -> Shared -> Prop} {s : Shared}
end
section
variable {X : Cx} {elts : List Expr} {kk : Nat} {kA : Pos} {K : PySem.W.Frag}
end
open PySem PySem.Spec PyProof.Rows PySem.W
section
variable {X : Cx} {K : PySem.W.Frag}
noncomputable def tSortR (K:PySem.W.Frag) (te:TE):TE:=λσ H Q=>te σ H λv H1=>∃p ns,v=.ref p/\bT K H1 p (List.map V.int ns)/\ns.length<64/\∀l,H1 l=none->Q (.ref l) (upd H1 l (.lst (List.map V.int (Nm.oj ns).reverse)))
theorem Bh {e d:Expr} {te:TE} {p1 pos kp:Pos} (hg:Gl X "sorted") (hm:X.mg "sorted"=none) (he:PE X e te) (hd:PE X d (tC (.bl true))) (n1:noStar e=true:=by rfl):
  PE X (.Call (.Name "sorted" p1) [e] [⟨some "reverse",d,kp⟩] pos) (tSortR X.K te):=by
 intro pins s σ H Q I h;refine wpAny_Call_Name_kw (ja I hg hm (u:=.builtin "sorted") rfl ?_ (by decide) (by decide));refine PyProof.Rows.callWith_kw (e:=e) (rest:=[]) ?_ (by rw[se n1];rfl) (by rw[se n1];rfl) rfl rfl;rw[se n1];show wpAny _ _ (spliced [(false,eval e X.env)]) _ _ s;refine Calls.spliced_cons (cu (he pins s σ H _ I h) λu s1 ⟨x,H1,I1,r1,q1⟩=>Calls.spliced_nil ?_);refine PyProof.Rows.kws_cons (cu (hd pins s1 σ H1 (λv H2=>v=.bl true/\H2=H1) I1 ⟨rfl,rfl⟩) λdv s2 ⟨y,H2,I2,r2,ey,eh⟩=>PyProof.Rows.kws_nil ?_);subst ey;subst eh;have r2:dv=.bool true:=r2;subst r2;obtain⟨p,ns,rfl,hq,hn,q⟩:=q1;cases r1;obtain⟨bE,rv,pl,hz⟩:=I2.list hq;have hl:=rv.length;rw[aat] at hl;show wpAny _ _ (call (.builtin "sorted") [.ref p] [(Str.ofString "reverse",.bool true)]) _ _ _;refine sorted_ints_rev pl.isList (intsAre_of rv) (by omega) λout Kf a1 a2 a3=>?_;have a3:Kf.Pairwise (·≥·):=a3;have e3:Kf=(Nm.oj ns).reverse:=by
  have:=Nm.rP ((List.reverse_perm Kf).trans a2) (List.pairwise_reverse.mpr a3);rw[<-this,List.reverse_reverse]
 subst e3;obtain⟨e,he⟩:=sortedAll_at s2.heap bE out;have fr:=I2.bV.fresh (a:=s2.heap.objs.size+1) (Nat.le_succ _);refine⟨.ref (s2.heap.objs.size+1),_,I2.laid (t':=s2.toks) (λ_ _=>sortedAll_old) (Nat.le_succ _) (o:=.lst (List.map V.int (Nm.oj ns).reverse)) ⟨?_,out.toList,e,iD a1,?_⟩,rfl,q _ fr⟩
 ·rw[aat,abp,Nm.iC,sizeLine_eq];omega
 ·exact he
theorem zr {e d:Expr} {te:TE} {p1 pos kp:Pos} (hg:Gl X "sorted") (hm:X.mg "sorted"=none) (he:PE X e te) (hd:PE X d (tC (.bl true))) (n1:noStar e=true:=by rfl) (hK:X.K=K:=by rfl):
  PE X (.Call (.Name "sorted" p1) [e] [⟨some "reverse",d,kp⟩] pos) (tSortR K te):=by subst hK;exact Bh hg hm he hd n1
end
end L2
namespace PySem.SeqAt
open AutoSeq1 (wpAny_loadPart')
open MeetsSeq MeetsSeq2 MeetsSeq3
end PySem.SeqAt
namespace L2
open PySem PySem.Spec PyProof.Rows PySem.W
noncomputable def Fh:List Int->List Int->Bool
 | [],[]=>true
 | [],_::_=>false
 | _::_,[]=>true
 | a::r,b::q=>if a=b then Fh r q else decide (b<=a)
section
variable {X : Cx} {K : PySem.W.Frag}
end
end L2
namespace PySem.UL
section
variable {prog : Program} {w : World} {A : Around} {E : Value -> Shared -> Prop} {s : Shared}
end
end PySem.UL
namespace L2
open PySem PySem.Spec PyProof.Rows PySem.W
section
variable {X : Cx} {K : PySem.W.Frag}
end
structure uu (P:Program) (w:World) (K:PySem.W.Frag) (mg:Str->Option Value) (base:Heap) (CX:jw) (k:Nat) (x:Str) (C:Addr) (ps:List Str) (sp:Sp):Prop where
 ex:∃f fd,Mk K C f/\fU P w K mg base CX k f fd ps sp/\mg x=some (.ref C)/\Binds K fd ps []
section
variable {X : Cx}
theorem Km {CX:jw} {k:Nat} {x:Str} {C:Addr} {ps:List Str} {sp:Sp} {E:XK} {e:Expr} {es:List Expr} {t:TA} {p pos:Pos} (M:uu X.prog X.w X.K X.mg X.base CX k x C ps sp) (hr:dm (k+1) X.A) (hg:Gl X x) (hx:d8 CX X E) (ha:PA X (e::es) t)
  (lU:(x==("__debug__":Str))=false:=by decide) (he:starEach (e::es) X.env=(false,eval e X.env)::starEach es X.env:=by first | exact se rfl | rfl) (hpl:(backTo pos (starEach es X.env)).any (·.1)=false:=by first | exact na rfl | rfl):
  PE X (.Call (.Name x p) (e::es) [] pos) (qk C sp [] E t):=by
 obtain⟨f,fd,m,F,hm,hb⟩:=M.ex;exact Di m F hr hg hm hb .nil hx ha lU he hpl
end
structure Oy (K:PySem.W.Frag) (mg:Str->Option Value) (x qual:Str) (st:Stmt) (C:Addr):Prop where
 ex:∃f fd,ue K "__init__" qual st f fd/\Mk K C f/\mg x=some (.ref C)
theorem Oy.fB {P:Program} {w:World} {K:PySem.W.Frag} {mg:Str->Option Value} {base:Heap} {CX:jw} {x qual:Str} {st:Stmt} {C:Addr} {ps:List Str} {k:Nat} {sp:Sp} (D:Oy K mg x qual st C)
  (hb:∀(kV doc pm:Value) (an:Option Addr) (bZ ct:Value) (us:List Value),us.length=ps.length->bindArgs (PySem.W.fnOf "__init__" qual (bb st) (aY st) (au st) .none kV doc pm an bZ ct) ⟨us,[]⟩=pure (ps.zip us))
  (h:∀f fd,ue K "__init__" qual st f fd->fU P w K mg base CX k f fd ps sp):uu P w K mg base CX k x C ps sp:=by
 obtain⟨f,fd,F,m,hm⟩:=D.ex;exact⟨f,fd,m,h f fd F,hm,F.binds hb⟩
noncomputable instance IU:DecidableEq PyData:=λ_ _=>Classical.propDecidable _
mutual
noncomputable def eP:PyData->Bool
 | .int _=>true
 | .str x=>PyData.canLay0 (.str x)
 | .tuple xs=>jk xs
 | _=>false
noncomputable def jk:List PyData->Bool
 | []=>true
 | x::xs=>eP x && jk xs
end
mutual
theorem iF:∀(d:PyData),eP d=true->d.canLay0=true
 | .none,h=>by simp [eP] at h
 | .bool _,h=>by simp [eP] at h
 | .int _,_=>by simp [PyData.canLay0]
 | .str x,h=>by rw[eP] at h;exact h
 | .list _,h=>by simp [eP] at h
 | .tuple xs,h=>by rw[eP] at h;rw[PyData.canLay0];exact uv xs h
 | .dict _,h=>by simp [eP] at h
theorem uv:∀(xs:List PyData),jk xs=true->PyData.canLayAll0 xs=true
 | [],_=>by simp [PyData.canLayAll0]
 | x::xs,h=>by
  rw[jk,aaZ] at h;rw[PyData.canLayAll0,aaZ];exact⟨iF x h.1,uv xs h.2⟩
end
mutual
theorem wj:∀(x y:PyData),eP x=true->eP y=true->PyData.eqv x y=decide (x=y)
 | .int i,y,_,hy=>by
  cases y with
  | int j=>
   rw[PyData.eqv]
   by_cases c:i=j
   ·subst c;simp
   ·rw[decide_eq_false (λe=>c (by injection e))];simp [c]
  | str _=>simp [PyData.eqv]
  | tuple _=>simp [PyData.eqv]
  | _=>simp [eP] at hy
 | .str a,y,_,hy=>by
  cases y with
  | str b=>
   rw[PyData.eqv]
   by_cases c:a=b
   ·subst c;simp
   ·rw[decide_eq_false (λe=>c (by injection e))];simp [c]
  | int _=>simp [PyData.eqv]
  | tuple _=>simp [PyData.eqv]
  | _=>simp [eP] at hy
 | .tuple xs,y,hx,hy=>by
  cases y with
  | tuple ys=>
   rw[eP] at hx hy;rw[PyData.eqv,xV xs ys hx hy]
   by_cases c:xs=ys
   ·subst c;simp
   ·rw[decide_eq_false c,decide_eq_false (λe=>c (by injection e))]
  | int _=>simp [PyData.eqv]
  | str _=>simp [PyData.eqv]
  | _=>simp [eP] at hy
 | .none,_,h,_=>by simp [eP] at h
 | .bool _,_,h,_=>by simp [eP] at h
 | .list _,_,h,_=>by simp [eP] at h
 | .dict _,_,h,_=>by simp [eP] at h
theorem xV:∀(xs ys:List PyData),jk xs=true->jk ys=true->PyData.eqvAll xs ys=decide (xs=ys)
 | [],[],_,_=>by simp [PyData.eqvAll]
 | [],_::_,_,_=>by simp [PyData.eqvAll]
 | _::_,[],_,_=>by simp [PyData.eqvAll]
 | x::xs,y::ys,hx,hy=>by
  rw[jk,aaZ] at hx hy;rw[PyData.eqvAll,wj x y hx.1 hy.1,xV xs ys hx.2 hy.2]
  by_cases c:x=y
  ·subst c
   by_cases d:xs=ys
   ·subst d;simp
   ·rw[decide_eq_false d,decide_eq_false (λe=>d (List.cons.inj e).2)];simp
  ·rw[decide_eq_false c,decide_eq_false (λe=>c (List.cons.inj e).1)];simp
end
mutual
theorem oF {h h':Heap} {d:Addr} {o:Obj} {es ep} (ho:h.get? d=some o) (hd:o.data=.dict es ep) (hs:Heap.SameBut d h h'):∀(x:PyData) (v:Value) (as:List Addr),eP x=true->Reads h v x as->Reads h' v x as
 | .int _,_,_,_,r=>by cases r;exact .int _ _
 | .str _,_,_,_,r=>by cases r;exact .str _ _
 | .tuple xs,_,_,hx,r=>by
  rw[eP] at hx;cases r with
  | @tuple a o' vs n _ _ e c q t=>
   have ne:a≠d:=λz=>by
    subst z;rw[ho] at e;cases e;rw[hd] at q;cases q
   exact .tuple ((hs.2 a ne).trans e) c q (mM ho hd hs xs _ _ hx t)
 | .none,_,_,h,_=>by simp [eP] at h
 | .bool _,_,_,h,_=>by simp [eP] at h
 | .list _,_,_,h,_=>by simp [eP] at h
 | .dict _,_,_,h,_=>by simp [eP] at h
theorem mM {h h':Heap} {d:Addr} {o:Obj} {es ep} (ho:h.get? d=some o) (hd:o.data=.dict es ep) (hs:Heap.SameBut d h h'):∀(xs:List PyData) (vs:List Value) (as:List Addr),jk xs=true->ReadsAll h vs xs as->ReadsAll h' vs xs as
 | [],_,_,_,r=>by cases r;exact .nil
 | x::xs,_,_,hx,r=>by
  rw[jk,aaZ] at hx;cases r with
  | cons r1 r2=>exact .cons (oF ho hd hs x _ _ hx.1 r1) (mM ho hd hs xs _ _ hx.2 r2)
end
mutual
noncomputable def uw (w:World):PyData->Int
 | .int i=>Gf w (.inl i)
 | .str x=>Gf w (.inr x)
 | .tuple xs=>reduceHash (Builtin.Tuple.tupleHashOf (gH w xs))
 | _=>0
noncomputable def gH (w:World):List PyData->List Int
 | []=>[]
 | x::xs=>uw w x::gH w xs
end
mutual
noncomputable def Kn:PyData->Nat
 | .tuple xs=>oG xs+1
 | _=>1
noncomputable def oG:List PyData->Nat
 | []=>0
 | x::xs=>Kn x+oG xs
end
section
variable {prog : Program} {w : World}
noncomputable def PH (prog:Program) (w:World) (m:Nat) (h:Heap) (d:PyData) (v:Value):Prop:=∀(A:Around) (E:Value->Shared->Prop) (s:Shared) (Q:Int->Shared->Prop),s.heap=h->A.units+m<cLine->
 Q (uw w d) {s with toks:=s.toks+Kn d}->wpAny (model prog w) A (pyHash v) Q E s
inductive Fi (prog:Program) (w:World) (m:Nat) (h:Heap):List PyData->List Value->Prop
 | nil:Fi prog w m h [] []
 | cons {d v ds vs}:PH prog w m h d v->Fi prog w m h ds vs->Fi prog w m h (d::ds) (v::vs)
theorem zt (xs ys:List PyData):gH w (xs++ys)=gH w xs++gH w ys:=by
 induction xs with
 | nil=>simp [gH]
 | cons x xs ih=>simp [gH,ih]
theorem Bi (xs ys:List PyData):oG (xs++ys)=oG xs+oG ys:=by
 induction xs with
 | nil=>simp [oG]
 | cons x xs ih=>simp [oG,ih,Nat.add_assoc]
theorem Bj {m:Nat} {h:Heap} {ds:List PyData} {a:Addr} {o:Obj} {items n} (ho:h.get? a=some o) (hc:o.cls=.type "tuple") (hd:o.data=.seq items n) (hi:Fi prog w m h ds items.toList):PH prog w (m+1) h (.tuple ds) (.ref a):=by
 intro A E s Q hh hu hq;subst hh;have hT:s.TypeIs (.ref a) "tuple":=⟨o,ho,hc⟩
 have hu0:A.units<cLine:=by omega
 unfold pyHash
 first | unfold pyHashByItsType | skip
 first | refine wpAny_bind (wpAny_cRoomFor_or (.inr hu0) ?_) | skip
 refine wpAny_bind (wpAny_specialOf hT F.slot_tuple_hash.lookup ?_);show wpAny _ _ (if (some (Value.builtin "tuple.__hash__")==some Value.none)=true then _ else _) Q E s;rw[if_neg (by rw[beq_builtin_none];exact aaM)];refine wpAny_bind (wpAny_specialOf hT F.slot_tuple_hash.lookup ?_);show wpAny _ _ (callSpecialIfBoundUnlessNone? (.ref a) "__hash__" _ >>=_) Q E s;refine wpAny_bind (wpAny_callSpecialIfBoundUnlessNone?_slot hT F.slot_tuple_hash (wpAny_call_entry F.slot_tuple_hash hT F.entry_tuple_hash ?_ (F.args_tuple_hash_1 _)));show wpAny _ _ (Builtin.Tuple.tupleItemsOf (.ref a) >>=_) _ _ s;refine wpAny_bind (wpAny_tupleItemsOf ho hd ?_);refine wpAny_bind ?_;rw[<-Array.forIn_toList];refine wpAny_forIn_list _
  (λrest (b:Array Int) s'=>∃done left,ds=done++left/\Fi prog w m s.heap left rest/\b.toList=gH w done/\s'={s with toks:=s.toks+oG done})
  _ ?_ ?_ _ _ ⟨[],ds,rfl,hi,rfl,rfl⟩
 ·rintro x rest b s' ⟨done,left,rfl,hl,hb,rfl⟩;cases hl with
  | @cons k _ Y7 _ h1 Y8=>
   refine wpAny_bind (h1 _ _ _ _ rfl (by show A.units+1+m<cLine;omega) ?_);have e1:(b.push (uw w k)).toList=gH w (done++ [k]):=by rw[zt];simp [hb,gH]
   have e2:s.toks+oG done+Kn k=s.toks+oG (done++ [k]):=by rw[Bi];simp [oG,Nat.add_assoc]
   first
    | exact wpAny_pure ⟨done++ [k],Y7,by simp,Y8,e1,by rw[<-e2]⟩
    | exact wpAny_bind (wpAny_pure (wpAny_pure ⟨done++ [k],Y7,by simp,Y8,e1,by rw[<-e2]⟩))
 ·rintro b s' ⟨done,left,rfl,hl,hb,rfl⟩;cases hl;rw[aaP] at hq;show wpAny _ _ (retInt (Builtin.Tuple.tupleHashOf b.toList)) _ _ _;rw[hb];refine wpAny_ret_mkInt ?_;show wpAny _ _ (if (decide (-(2:Int)^63<=Builtin.Tuple.tupleHashOf (gH w done)) && decide (Builtin.Tuple.tupleHashOf (gH w done)<2^63))=true then _ else _) Q E _;rw[uw,Kn] at hq;unfold reduceHash at hq
  by_cases hr:(decide (-(2:Int)^63<=Builtin.Tuple.tupleHashOf (gH w done)) && decide (Builtin.Tuple.tupleHashOf (gH w done)<2^63))=true
  ·rw[if_pos hr];rw[if_pos hr] at hq;exact wpAny_pure (by simpa [Nat.add_assoc] using hq)
  ·rw[if_neg hr];rw[if_neg hr] at hq;exact wpAny_bind (wpAny_rule (wpAny_pure (by simpa [Nat.add_assoc] using hq)))
mutual
theorem Bk {h:Heap}:∀(d:PyData) (v:Value) (as:List Addr),eP d=true->Reads h v d as->PH prog w d.depth h d v
 | .int i,_,_,_,r=>by
  cases r with
  | int _ t=>
   intro A E s Q _ _ hq;exact(cM prog w).pyHash (k:=.inl i) (oa (k:=.inl i) ⟨t,rfl⟩) hq
 | .str x,_,_,_,r=>by
  cases r with
  | str _ t=>
   intro A E s Q _ _ hq;exact(cM prog w).pyHash (k:=.inr x) (oa (k:=.inr x) ⟨t,rfl⟩) hq
 | .tuple xs,_,_,hx,r=>by
  rw[eP] at hx;cases r with
  | tuple e c q t=>exact Bj e c q (xW xs _ _ hx t)
 | .none,_,_,h,_=>by simp [eP] at h
 | .bool _,_,_,h,_=>by simp [eP] at h
 | .list _,_,_,h,_=>by simp [eP] at h
 | .dict _,_,_,h,_=>by simp [eP] at h
theorem xW {h:Heap}:∀(ds:List PyData) (vs:List Value) (as:List Addr),jk ds=true->ReadsAll h vs ds as->Fi prog w (PyData.depthAll ds) h ds vs
 | [],_,_,_,r=>by cases r;exact .nil
 | x::xs,_,_,hx,r=>by
  rw[jk,aaZ] at hx;cases r with
  | cons r1 r2=>
   have p1:=Bk x _ _ hx.1 r1;have p2:=xW xs _ _ hx.2 r2;have up:∀{m m':Nat} {ds:List PyData} {vs:List Value},m<=m'->Fi prog w m h ds vs->Fi prog w m' h ds vs:=λl q=>by
    induction q with
    | nil=>exact .nil
    | cons p _ ih=>exact .cons (λA E s Q e u=>p A E s Q e (by omega)) ih
   refine .cons (λA E s Q e u=>p1 A E s Q e ?_) (up ?_ p2)
   ·rw[PyData.depthAll] at u;omega
   ·rw[PyData.depthAll];omega
end
theorem ux {h:Heap} {k:Nat} {a:Addr} {o:Obj} {items n} (ho:h.get? a=some o) (hc:o.cls=.type "tuple") (hd:o.data=.seq items n) (hi:∀v∈items.toList,∀(A:Around) (E:Value->Shared->Prop) (s:Shared) (Q:Bool->Shared->Prop),s.heap=h->Q true s->wpAny (model prog w) A (eqIsQuiet k v) Q E s)
  (A:Around) (E:Value->Shared->Prop) (s:Shared) (Q:Bool->Shared->Prop) (hh:s.heap=h) (hq:Q true s):wpAny (model prog w) A (eqIsQuiet (k+1) (.ref a)) Q E s:=by
 subst hh;have hT:s.TypeIs (.ref a) "tuple":=⟨o,ho,hc⟩
 unfold eqIsQuiet;refine wpAny_bind (wpAny_specialOf hT F.slot_tuple_eq.lookup ?_);show wpAny _ _ (isInstance (.ref a) (.type "tuple") >>=_) _ _ s;refine wpAny_bind (wpAny_isInstance hT isSubtype_tuple_tuple ?_);simp only[Bool.not_true,Bool.false_eq_true,if_false];refine wpAny_bind (wpAny_seqItems ho hd ?_);refine wpAny_bind ?_;show wpAny _ _ (forIn items _ _) _ _ s;rw[<-Array.forIn_toList];refine wpAny_forIn_list _ (λrest r s'=>r.1=none/\s'=s/\∀v∈rest,v∈items.toList) _ ?_ ?_ _ _ ⟨rfl,rfl,λ_ h=>h⟩
 ·rintro v rest r s' ⟨hr,rfl,y4⟩;refine wpAny_bind (hi v (y4 v aaE) _ _ _ _ rfl ?_);simp only[Bool.not_true,Bool.false_eq_true,if_false];exact wpAny_pure ⟨rfl,rfl,λu Ko=>y4 u (aaB _ Ko)⟩
 ·rintro⟨r1,r2⟩ s' ⟨hr,rfl,_⟩;simp only at hr;subst hr;exact wpAny_pure hq
mutual
theorem qF {h:Heap}:∀(d:PyData) (v:Value) (as:List Addr) (k:Nat),eP d=true->d.depth<=k->Reads h v d as->∀(A:Around) (E:Value->Shared->Prop) (s:Shared) (Q:Bool->Shared->Prop),s.heap=h->Q true s->wpAny (model prog w) A (eqIsQuiet k v) Q E s
 | .int _,_,_,_,_,_,r=>by
  cases r;intro A E s Q _ hq;rw[eqIsQuiet_byValue _ rfl];exact wpAny_pure hq
 | .str _,_,_,_,_,_,r=>by
  cases r;intro A E s Q _ hq;rw[eqIsQuiet_byValue _ rfl];exact wpAny_pure hq
 | .tuple xs,_,_,k,hx,hk,r=>by
  rw[eP] at hx;rw[PyData.depth] at hk;cases k with
  | zero=>omega
  | succ k=>
   cases r with
   | tuple e c q t=>exact ux e c q (oH xs _ _ k hx (by omega) t)
 | .none,_,_,_,h,_,_=>by simp [eP] at h
 | .bool _,_,_,_,h,_,_=>by simp [eP] at h
 | .list _,_,_,_,h,_,_=>by simp [eP] at h
 | .dict _,_,_,_,h,_,_=>by simp [eP] at h
theorem oH {h:Heap}:∀(ds:List PyData) (vs:List Value) (as:List Addr) (k:Nat),jk ds=true->PyData.depthAll ds<=k->ReadsAll h vs ds as->∀v∈vs,∀(A:Around) (E:Value->Shared->Prop) (s:Shared) (Q:Bool->Shared->Prop),s.heap=h->Q true s->wpAny (model prog w) A (eqIsQuiet k v) Q E s
 | [],_,_,_,_,_,r=>by
  cases r;intro v hv;simp at hv
 | x::xs,_,_,k,hx,hk,r=>by
  rw[jk,aaZ] at hx;rw[PyData.depthAll] at hk;cases r with
  | cons r1 r2=>
   intro v hv;rcases List.mem_cons.mp hv with rfl | hv
   ·exact qF x _ _ k hx.1 (by omega) r1
   ·exact oH xs _ _ k hx.2 (by omega) r2 v hv
end
noncomputable def IsN (h:Heap) (k:PyData) (a:Addr):Prop:=eP k=true/\k.depth<=8/\∃as,Reads h (.ref a) k as
noncomputable def hU (prog:Program) (w:World):HeapKind prog w PyData where
 is:=IsN
 hash:=uw w
 draws:=Kn
 room:=λA=>A.units+8<cLine
 inj:=fun⟨hx,_,_,rx⟩ ⟨_,_,_,ry⟩=>SeqAt.Reads.unique _ _ _ _ _ (iF _ hx) rx ry
 keeps:=fun⟨hx,hd,as,r⟩ ho hdd hs=>⟨hx,hd,as,oF ho hdd hs _ _ _ hx r⟩
 pyHash:=λhu ⟨hx,hd,_,r⟩ h=>Bk _ _ _ hx r _ _ _ _ rfl (by omega) h
 eqBool:=λ{A E s x y a b Q} hu ⟨hx,dx,_,rx⟩ ⟨hy,dy,_,ry⟩ h=>SeqAt.eqBoolOverData _ _ _ _ _ _ _ _ _ _ _ _ rx ry (iF _ hx) (iF _ hy) (by omega) (by rw[wj _ _ hx hy];exact h)
 quiet:=fun⟨hx,hd,_,r⟩ h=>qF _ _ _ 8 hx hd r _ _ _ _ rfl h
end
mutual
noncomputable def toP:Dat->PyData
 | .dP=>.none
 | .bl b=>.bool b
 | .int i=>.int i
 | .str x=>.str x
 | .tup l=>.tuple (toPL l)
 | .lst l=>.list (toPL l)
noncomputable def toPL:List Dat->List PyData
 | []=>[]
 | d::ds=>toP d::toPL ds
end
section
variable {P : Program} {w : World} {H : Hp} {h : Heap}
mutual
theorem fx (ok:gy P w H h):∀(d:Dat) (v:V) (u:Value),Rep H d v->RelV v u->∃as,Reads h u (toP d) as
 | .dP,v,u,r,q=>by
  rw[Rep] at r;subst r;cases (show u=Value.none from q);exact⟨_,.none⟩
 | .bl b,v,u,r,q=>by
  rw[Rep] at r;subst r;cases (show u=Value.bool b from q);exact⟨_,.bool b⟩
 | .int i,v,u,r,q=>by
  rw[Rep] at r;subst r;obtain⟨t,rfl⟩:=(show ∃t,u=Value.int i t from q)
  exact⟨_,.int i t⟩
 | .str x,v,u,r,q=>by
  rw[Rep] at r;subst r;obtain⟨t,rfl⟩:=(show ∃t,u=Value.str x t from q)
  exact⟨_,.str x t⟩
 | .tup l,v,u,r,q=>by
  rw[Rep] at r;obtain⟨p,vs,rfl,hp,rl⟩:=r;cases (show u=Value.ref p from q);obtain⟨_,bE,rv,o,h1,h2,n,h3⟩:=(show cF P w H h p (.tup vs) from ok p _ hp)
  obtain⟨as,ra⟩:=mh ok l vs bE rl rv;exact⟨as,.tuple h1 h2 h3 (by simpa using ra)⟩
 | .lst l,v,u,r,q=>by
  rw[Rep] at r;obtain⟨p,vs,rfl,hp,rl⟩:=r;cases (show u=Value.ref p from q);obtain⟨_,bE,n,rv,h1⟩:=(show cF P w H h p (.lst vs) from ok p _ hp)
  obtain⟨as,ra⟩:=mh ok l vs bE rl rv;exact⟨p::as,.list h1 rfl rfl (by simpa using ra)⟩
theorem mh (ok:gy P w H h):∀(ds:List Dat) (vs:List V) (us:List Value),bh H ds vs->bQ vs us->∃as,ReadsAll h us (toPL ds) as
 | [],vs,us,r,q=>by
  rw[bh] at r;subst r;cases q;exact⟨_,.nil⟩
 | d::ds,vs,us,r,q=>by
  rw[bh] at r;obtain⟨v,rest,rfl,r1,r2⟩:=r;cases q with
  | cons q1 q2=>
   obtain⟨a1,h1⟩:=fx ok d v _ r1 q1;obtain⟨a2,h2⟩:=mh ok ds rest _ r2 q2;exact⟨_,.cons h1 h2⟩
end
end
noncomputable def jI (H:Hp) (d:Dat) (b:Addr):Prop:=eP (toP d)=true/\(toP d).depth<=8/\Rep H d (.ref b)
theorem jI.mono {H H':Hp} {d:Dat} {b:Addr} (s:aA H H') (k:jI H d b):jI H' d b:=⟨k.1,k.2.1,k.2.2.mono s⟩
theorem jI.is {P:Program} {w:World} {H:Hp} {h:Heap} {d:Dat} {b:Addr} (ok:gy P w H h) (k:jI H d b):(hU P w).is h (toP d) b:=⟨k.1,k.2.1,fx ok d _ _ k.2.2 rfl⟩
abbrev Rows:=List (Dat×Addr×Int)
noncomputable def uy (H:Hp) (ks:Rows):Prop:=∀p∈ks,jI H p.1 p.2.1
theorem uy.mono {H H':Hp} {ks:Rows} (s:aA H H') (k:uy H ks):uy H' ks:=λp hp=>(k p hp).mono s
noncomputable def iM (ks:Rows) (k:PyData):Option Int:=(ks.find? λp=>decide (toP p.1=k)).map (·.2.2)
abbrev IV:Rows->List (PyData×Addr×Value)->Prop:=Paired λp q=>toP p.1=q.1/\p.2.1=q.2.1/\∃t,q.2.2=Value.int p.2.2 t
noncomputable def CI (P:Program) (w:World) (a:Addr) (ks:Rows):HO:=.ext λh=>∃o es ep xs,h.get? a=some o/\o.ExactDict/\o.data=.dict es ep/\es.toList=xs.map (entryOfKey (hU P w))/\(xs.map (·.1)).Nodup/\IV ks xs/\ks.length<=sizeLine/\(a==sysModules)=false
section
variable {P : Program} {w : World} {H : Hp} {h : Heap} {a : Addr}
theorem Bl {ks:Rows} {xs:List (PyData×Addr×Value)} {o es ep} (h1:h.get? a=some o) (h2:o.ExactDict) (h3:o.data=.dict es ep) (h4:es.toList=xs.map (entryOfKey (hU P w))) (h5:(xs.map (·.1)).Nodup) (h6:IV ks xs) (h7:ks.length<=sizeLine) (h8:(a==sysModules)=false):cF P w H h a (CI P w a ks):=
 ⟨⟨o,es,ep,xs,h1,h2,h3,h4,h5,h6,h7,h8⟩,⟨o,h1⟩,λ_ _ ⟨o,es,ep,xs,g1,g⟩ k=>⟨o,es,ep,xs,k _ g1,g⟩⟩
theorem Bm {ks:Rows} (ok:gy P w H h) (e:H a=some (CI P w a ks)) (al:uy H ks):ks.length<=sizeLine/\(a==sysModules)=false/\∃xs,IV ks xs/\h.DictOfH (hU P w) a xs:=by
 obtain⟨⟨o,es,ep,xs,g1,g2,g3,g4,g5,g6,g7,g8⟩,_⟩:=(show cF P w H h a (CI P w a ks) from ok a _ e)
 refine⟨g7,g8,xs,g6,o,es,ep,g1,g2,g3,g4,λx hx=>?_,g5⟩;have all:∀{l:Rows} {m:List (PyData×Addr×Value)},IV l m->uy H l->∀x∈m,(hU P w).is h x.1 x.2.1:=by
  intro l m q
  induction q with
  | nil=>intro _ x hx;exact nomatch hx
  | @cons p q ps qs hq t ih=>
   intro al x hx;rcases List.mem_cons.mp hx with e | hx
   ·subst e;rw[<-hq.1,<-hq.2.1];exact(al p aaE).is ok
   ·exact ih (λp hp=>al p (aaB _ hp)) x hx
 exact all g6 al x hx
theorem IV.val {ks:Rows} {xs:List (PyData×Addr×Value)} (r:IV ks xs) (k:PyData):(iM ks k=none/\atKey xs k=none)\/∃i t b,iM ks k=some i/\atKey xs k=some (b,Value.int i t):=by
 induction r with
 | nil=>exact .inl ⟨rfl,rfl⟩
 | @cons p q ps qs h t ih=>
  obtain⟨h1,h2,tk,h3⟩:=h
  by_cases e:toP p.1=k
  ·have e':q.1=k:=h1.symm.trans e;refine .inr ⟨p.2.2,tk,q.2.1,?_,?_⟩
   ·unfold iM;rw[abd,decide_eq_true e];rfl
   ·unfold atKey;rw[abd,decide_eq_true e',<-h3];rfl
  ·have e':¬q.1=k:=λz=>e (h1.trans z);have a1:iM (p::ps) k=iM ps k:=by
    unfold iM;rw[abd,decide_eq_false e]
   have a2:atKey (q::qs) k=atKey qs k:=by
    unfold atKey;rw[abd,decide_eq_false e']
   rw[a1,a2];exact ih
end
noncomputable def Bn (P:Program) (w:World):TE:=λ_ H Q=>∀p,H p=none->Q (.ref p) (upd H p (CI P w p []))
noncomputable def Kq (P:Program) (w:World) (H:Hp) (x y:V) (o:Option Int):Prop:=∃a b d ks,x=.ref a/\y=.ref b/\H a=some (CI P w a ks)/\uy H ks/\jI H d b/\o=iM ks (toP d)
noncomputable def Fj (P:Program) (w:World) (td ty:TE):TE:=λσ H Q=>td σ H λx H1=>ty σ H1 λy H2=>∃i,Kq P w H2 x y (some i)/\Q (.int i) H2
noncomputable def xX (P:Program) (w:World) (ty td:TE):TE:=λσ H Q=>ty σ H λy H1=>td σ H1 λx H2=>∃o,Kq P w H2 x y o/\Q (.bl (!o.isSome)) H2
noncomputable def Fk (P:Program) (w:World) (td ty tv:TE):TS:=λD σ H=>tv σ H λv H1=>td σ H1 λx H2=>ty σ H2 λy H3=>∃a b d ks i,x=.ref a/\y=.ref b/\v=.int i/\H3 a=some (CI P w a ks)/\uy H3 ks/\jI H3 d b/\iM ks (toP d)=none/\ks.length<sizeLine/\D.nx σ (upd H3 a (CI P w a (ks++ [(d,b,i)])))
section
variable {X : Cx} {P : Program} {w : World} {o i e value : Expr} {pos pos' kA : Pos} {td ty tv : TE}
theorem Bo (hP:X.prog=P:=by rfl) (hw:X.w=w:=by rfl):PE X (.Dict [] [] pos) (Bn P w):=λpins s σ H Q I h=>by
 subst hP hw;exact wpAny_Dict_empty ⟨.ref s.heap.objs.size,_,I.laid (a:=s.heap.objs.size) (o:=CI X.prog X.w s.heap.objs.size []) (t':=s.toks) (λ_ _ q=>Heap.get?_push_of_some _ q) (aav _) (Bl (xs:=[]) (Heap.get?_push_size _ rfl) ⟨rfl,rfl,rfl⟩ rfl rfl List.nodup_nil .nil (aaz _) (beq_eq_false_iff_ne.mpr (Ne.symm (aaA I.P0)))),rfl,h _ (I.bV.fresh (aav _))⟩
theorem Bp {A:Around} (hu:A.units+64<cLine):(hU P w).room A.in1:=(by show A.units+1+8<cLine;omega)
theorem DN (hu:X.A.units+64<cLine) (ho:PE X o td) (hi:PE X i ty) (hs:GO i) (hP:X.prog=P:=by rfl) (hw:X.w=w:=by rfl):PE X (.Subscript o i pos) (Fj P w td ty):=by
 subst hP hw;intro pins s σ H Q I h;refine xE PySem.F.slot_dict_getitem.lookup hs (cu (ho pins s σ H _ I h) λu s1 ⟨x,H1,I1,rx,q1⟩=>cu (hi pins s1 σ H1 _ I1 q1) λiv s2 dD=>?_);obtain⟨y,H2,I2,ry,j,⟨a,b,d,ks,ex,ey,ea,al,kn,lo⟩,q2⟩:=dD;subst ex ey;obtain rfl:u=Value.ref a:=rx;obtain rfl:iv=Value.ref b:=ry;obtain⟨z,hd,xs,rel,dd⟩:=Bm I2.bV ea al;refine⟨dd.typeIs,?_⟩;rcases rel.val (toP d) with ⟨l1,_⟩ | ⟨j',t,b',l1,l2⟩
 ·rw[l1] at lo;cases lo
 ·rw[l1] at lo;cases lo;exact wpAny_getItem_heap (Bp hu) (kn.is I2.bV) dd l2 ⟨.int j,H2,I2.tok _,⟨t,rfl⟩,q2⟩
theorem zu (hu:X.A.units+64<cLine) (hi:PE X i ty) (ho:PE X o td) (hP:X.prog=P:=by rfl) (hw:X.w=w:=by rfl):PC X .NotIn i o (xX P w ty td):=by
 subst hP hw;intro pins s σ H Q I h;refine cu (hi pins s σ H _ I h) λiv s1 ⟨y,H1,I1,ry,q1⟩=>cu (ho pins s1 σ H1 _ I1 q1) λu s2 dD=>?_;obtain⟨x,H2,I2,rx,ov,⟨a,b,d,ks,ex,ey,ea,al,kn,lo⟩,q2⟩:=dD;subst ex ey;obtain rfl:u=Value.ref a:=rx;obtain rfl:iv=Value.ref b:=ry;obtain⟨z,hd,xs,rel,dd⟩:=Bm I2.bV ea al;refine wpAny_notIn_heap (Bp hu) (kn.is I2.bV) hd dd ?_;have:(atKey xs (toP d)).isSome=ov.isSome:=by
  rcases rel.val (toP d) with ⟨l1,l2⟩ | ⟨j',t,b',l1,l2⟩
  ·rw[lo,l1,l2];rfl
  ·rw[lo,l1,l2];rfl
 rw[this];exact⟨.bl (!ov.isSome),H2,I2.tok _,rfl,q2⟩
theorem DO (hu:X.A.units+64<cLine) (ho:PE X o td) (hi:PE X i ty) (hv:PE X value tv) (hs:swapsWith value (some (.Subscript o i pos')) pos.line X.env=pure false) (hP:X.prog=P:=by rfl) (hw:X.w=w:=by rfl):
  PS X (.Assign [.Subscript o i pos'] value pos) (Fk P w td ty tv):=by
 subst hP hw;intro pins s σ H D I h;refine wpAny_Assign_Subscript (cu (hv pins s σ H _ I h) λr s1 ⟨v,H1,I1,rv,q1⟩=>cu (ho pins s1 σ H1 _ I1 q1) λu s2 ⟨x,H2,I2,rx,q2⟩=>cu (hi pins s2 σ H2 _ I2 q2) λiv s3 dD=>?_) hs;obtain⟨y,H3,I3,ry,a,b,d,ks,j,ex,ey,ev,ea,al,kn,lo,ln,q3⟩:=dD;subst ex ey ev;obtain rfl:u=Value.ref a:=rx;obtain rfl:iv=Value.ref b:=ry;obtain⟨t,rfl⟩:=(show ∃t,r=Value.int j t from rv)
 obtain⟨z,hd,xs,rel,dd⟩:=Bm I3.bV ea al;have hz:xs.length<=sizeLine:=by rw[<-Paired.length rel];exact z
 have la:atKey xs (toP d)=none:=by
  rcases rel.val (toP d) with ⟨l1,l2⟩ | ⟨j',t,b',l1,l2⟩
  ·exact l2
  ·rw[l1] at lo;cases lo
 refine wpAny_setItem_heap (hsz:=hz) (Bp hu) (kn.is I3.bV) dd λh' GN hs=>⟨σ,_,?_,q3⟩
 rw[storedH_new la] at GN;obtain⟨q,es,ep,hq,h2,h3,h4,_,h5⟩:=GN;exact rG I3 (by rw[ea];exact True.intro) hs ⟨q,hq⟩ (Bl hq h2 h3 h4 h5 (Paired.snoc rel ⟨rfl,rfl,t,rfl⟩) (by rw[aay];exact ln) hd)
end
open PySem PySem.Spec PyProof.Rows PySem.W
section
variable {X : Cx} {K : PySem.W.Frag}
noncomputable def Kd (d:Dat):Prop:=eP (toP d)=true/\(toP d).depth<=8
theorem fY {P:Program} {w:World} {H:Hp} {h:Heap} (ok:gy P w H h) {ds:List Dat} {xs:List V} {us:List Value} (r:bh H ds xs) (v:bQ xs us) {i:Nat} {u:Value} (e:us[i]?=some u):∃d as,ds[i]?=some d/\Reads h u (toP d) as:=by
 have l1:=r.length;have l2:=v.length;have hi:=(List.getElem?_eq_some_iff.mp e).1;have ex:xs[i]?=some (xs[i]'(by omega)):=aaG (by omega);obtain⟨u',e1,rv⟩:=v.get ex;rw[e] at e1;cases e1;obtain⟨d,ed,rd⟩:=r.get ex;obtain⟨as,ra⟩:=fx ok d _ _ rd rv;exact⟨d,as,ed,ra⟩
theorem Ht {A:Around} {s:Shared} {a b:PyData} {u v:Value} {as bs:List Addr} (ra:Reads s.heap u a as) (rb:Reads s.heap v b bs) (ha:eP a=true) (hb:eP b=true) (da:a.depth<=8) (db:b.depth<=8) (hu:A.units+8<cLine):SeqAt.EqAt A s u v (decide (a=b)):=λprog w E Q h=>
 SeqAt.eqBoolOverData _ _ _ _ _ _ _ _ _ _ _ _ ra rb (iF _ ha) (iF _ hb) (by omega) (by rw[wj _ _ ha hb];exact h)
noncomputable def Kr:V->List V->Hp->VK->Prop:=λx vs H Q=>∃l xs ds v d i,x=.ref l/\vs=[v]/\H l=some (.lst xs)/\bh H ds xs/\(∀e∈ds,Kd e)/\Rep H d v/\Kd d/\(ds.map toP)[i]?=some (toP d)/\(∀j,j<i->(ds.map toP)[j]?≠some (toP d))/\i<100000/\Q (.int (i:Nat)) H
theorem zv (hu:X.A.units+64<cLine):IP X "list.index" Kr:=by
 classical
 intro pins s σ H x vs v us Q I rx rv h;obtain⟨l,xs,ds,y,d,i,rfl,rfl,hp,rd,nE,Hu,hd,hi,JP,i6,q⟩:=h;cases rx;obtain⟨u,rfl,ru⟩:=vals1 rv;obtain⟨bE,r,pl,hz⟩:=I.list (bT.of hp);obtain⟨as,ra⟩:=fx I.bV d y u Hu ru;have l1:=rd.length;have l2:=r.length;have dec:∀{u e bs},e∈ds->Reads s.heap u (toP e) bs->decide (∃cs,Reads s.heap u (toP d) cs)=decide (toP e=toP d):=λ{u e bs} he re=>by
  by_cases c:toP e=toP d
  ·rw[decide_eq_true c,decide_eq_true ⟨bs,by rw[<-c];exact re⟩]
  ·rw[decide_eq_false c,decide_eq_false];rintro⟨cs,rc⟩;exact c (SeqAt.Reads.unique _ _ _ _ _ (iF _ (nE e he).1) re rc)
 have at_:∀(j:Nat) (hj:j<bE.length),∃e bs,ds[j]?=some e/\e∈ds/\Reads s.heap bE[j] (toP e) bs:=λj hj=>by
  obtain⟨e,bs,ed,re⟩:=fY I.bV rd r (aaG hj);exact⟨e,bs,ed,aaC ed,re⟩
 have Qr:i<bE.length:=by
  have:=(List.getElem?_eq_some_iff.mp hi).1;rw[aat] at this;omega
 obtain⟨⟨c1,d1,d2,sl⟩,ho,e1,m,e2⟩:=pl.isList;cases e1;cases e2;have hit:decide (∃cs,Reads s.heap bE[i] (toP d) cs)=true:=by
  obtain⟨e,bs,ed,he,re⟩:=at_ i Qr;rw[dec he re];rw[aau,ed] at hi;exact decide_eq_true (aaS hi)
 refine call_meets PySem.F.slot_list_index ⟨_,ho,rfl⟩ PySem.F.entry_list_index (PySem.F.args_list_index_2 _ _) (PySem.SeqAt.list_indexAt l bE.toArray m d1 sl u (λu=>decide (∃cs,Reads s.heap u (toP d) cs)) i (by rw[aaD];omega) (by omega) hit (λj hj hl=>?_)) ⟨ho,λy hy=>?_,⟨.int _,H,I.tok _,⟨_,rfl⟩,q⟩⟩
 ·rw[aaD] at hj;obtain⟨e,bs,ed,he,re⟩:=at_ j hj;show decide (∃cs,Reads s.heap bE[j] (toP d) cs)=false;rw[dec he re];refine decide_eq_false λz=>JP j hl ?_;rw[aau,ed];exact congrArg some z
 ·obtain⟨j,ej⟩:=List.getElem?_of_mem (List.mem_toArray.mp hy);obtain⟨e,bs,ed,re⟩:=fY I.bV rd r ej;have he:=aaC ed;show SeqAt.EqAt _ _ _ _ (decide _);rw[dec he re];exact Ht re ra (nE e he).1 hd.1 (nE e he).2 hd.2 (by show X.A.units+1+8<cLine;omega)
end
structure fL (P:Program) (w:World) (K:PySem.W.Frag) (mg:Str->Option Value) (base:Heap) (CX:jw) (k:Nat) (C:Addr) (m:Str) (ps:List Str) (sp:Sp):Prop where
 ex:∃f fd,AG K C m f/\fU P w K mg base CX k f fd ps sp/\Binds K fd ps []
section
variable {X : Cx} {CX : jw} {k : Nat} {C : Addr} {m : Str} {ps : List Str} {sp : Sp} {E : XK} {e o : Expr} {es : List Expr} {ta : TE} {t : TA} {pos apos : Pos} {pl : Sem Bool}
theorem dF (M:fL X.prog X.w X.K X.mg X.base CX k C m ps sp) (c:xx X.K C) (he:PE X o ta) (ha:PA X (e::es) t) (hr:dm k X.A:=by exact hr.mono (by decide)) (hx:d8 CX X E:=by exact gE.pass)
  (j1:starEach (e::es) X.env=(false,eval e X.env)::starEach es X.env:=by first | exact se rfl | rfl) (hpl:(backTo pos (starEach es X.env)).any (·.1)=false:=by first | exact na rfl | rfl)
  (ht:eval (.Call (.Attribute o m apos) (e::es) [] pos) X.env=(do
   let ov <-eval o X.env
   standAt apos.atName
   let (f,first) <-holding [ov] (getMethod ov m pl)
   callWith pos f first (backTo pos (starEach (e::es) X.env)) (backToKw pos (keywordEach [] X.env))):=by rfl):
  PE X (.Call (.Attribute o m apos) (e::es) [] pos) (c7 C m sp [] E ta t):=by
 obtain⟨f,fd,hm,F,hb⟩:=M.ex;exact Dh he c hm F hr hb .nil hx ha j1 hpl ht
theorem Hv (M:fL X.prog X.w X.K X.mg X.base CX k C m ps sp) (c:xx X.K C) (he:PE X o ta) (hr:dm k X.A:=by exact hr.mono (by decide)) (hx:d8 CX X E:=by exact gE.pass)
  (ht:eval (.Call (.Attribute o m apos) [] [] pos) X.env=(do
   let ov <-eval o X.env
   standAt apos.atName
   let (f,first) <-holding [ov] (getMethod ov m pl)
   callWith pos f first (backTo pos (starEach [] X.env)) (backToKw pos (keywordEach [] X.env))):=by rfl):
  PE X (.Call (.Attribute o m apos) [] [] pos) (c7 C m sp [] E ta tNil):=by
 obtain⟨f,fd,hm,F,hb⟩:=M.ex;exact AH he c hm F hr hb .nil hx ht
theorem Hw {x:Str} {p:Pos} (M:uu X.prog X.w X.K X.mg X.base CX k x C ps sp) (hr:dm (k+1) X.A) (hg:Gl X x) (hx:d8 CX X E) (lU:(x==("__debug__":Str))=false:=by decide):
  PE X (.Call (.Name x p) [] [] pos) (qk C sp [] E tNil):=by
 obtain⟨f,fd,m,F,hm,hb⟩:=M.ex;exact AJ m F hr hg hm hb .nil hx lU
end
structure wu (K:PySem.W.Frag) (C:Addr) (m qual:Str) (st:Stmt):Prop where
 ex:∃f fd,ue K m qual st f fd/\AG K C m f
theorem wu.fB {P:Program} {w:World} {K:PySem.W.Frag} {mg:Str->Option Value} {base:Heap} {CX:jw} {m qual:Str} {st:Stmt} {C:Addr} {ps:List Str} {k:Nat} {sp:Sp} (D:wu K C m qual st)
  (hb:∀(kV doc pm:Value) (an:Option Addr) (bZ ct:Value) (us:List Value),us.length=ps.length->bindArgs (PySem.W.fnOf m qual (bb st) (aY st) (au st) .none kV doc pm an bZ ct) ⟨us,[]⟩=pure (ps.zip us))
  (h:∀f fd,ue K m qual st f fd->fU P w K mg base CX k f fd ps sp):fL P w K mg base CX k C m ps sp:=by
 obtain⟨f,fd,F,hm⟩:=D.ex;exact⟨f,fd,hm,h f fd F,F.binds hb⟩
end L2
namespace L2
open PySem PySem.Spec PyProof.Rows PySem.W
mutual
noncomputable def pJ:PyData->Bool
 | .none=>true
 | .int _=>true
 | .str x=>PyData.canLay0 (.str x)
 | .tuple xs=>oJ xs
 | .list xs=>oJ xs
 | _=>false
noncomputable def oJ:List PyData->Bool
 | []=>true
 | x::xs=>pJ x && oJ xs
end
mutual
theorem jB:∀(d:PyData),pJ d=true->d.canLay0=true
 | .none,_=>by simp [PyData.canLay0]
 | .bool _,h=>by simp [pJ] at h
 | .int _,_=>by simp [PyData.canLay0]
 | .str x,h=>by rw[pJ] at h;exact h
 | .list xs,h=>by rw[pJ] at h;rw[PyData.canLay0];exact oK xs h
 | .tuple xs,h=>by rw[pJ] at h;rw[PyData.canLay0];exact oK xs h
 | .dict _,h=>by simp [pJ] at h
theorem oK:∀(xs:List PyData),oJ xs=true->PyData.canLayAll0 xs=true
 | [],_=>by simp [PyData.canLayAll0]
 | x::xs,h=>by
  rw[oJ,aaZ] at h;rw[PyData.canLayAll0,aaZ];exact⟨jB x h.1,oK xs h.2⟩
end
mutual
theorem rR:∀(x y:PyData),pJ x=true->pJ y=true->PyData.eqv x y=decide (x=y)
 | .none,y,_,hy=>by cases y <;>simp [PyData.eqv]
 | .int i,y,_,hy=>by
  cases y with
  | int j=>
   rw[PyData.eqv]
   by_cases c:i=j
   ·subst c;simp
   ·rw[decide_eq_false (λe=>c (by injection e))];simp [c]
  | bool _=>simp [pJ] at hy
  | _=>simp [PyData.eqv]
 | .str a,y,_,hy=>by
  cases y with
  | str b=>
   rw[PyData.eqv]
   by_cases c:a=b
   ·subst c;simp
   ·rw[decide_eq_false (λe=>c (by injection e))];simp [c]
  | _=>simp [PyData.eqv]
 | .tuple xs,y,hx,hy=>by
  cases y with
  | tuple ys=>
   rw[pJ] at hx hy;rw[PyData.eqv,oM xs ys hx hy]
   by_cases c:xs=ys
   ·subst c;simp
   ·rw[decide_eq_false c,decide_eq_false (λe=>c (by injection e))]
  | _=>simp [PyData.eqv]
 | .list xs,y,hx,hy=>by
  cases y with
  | list ys=>
   rw[pJ] at hx hy;rw[PyData.eqv,oM xs ys hx hy]
   by_cases c:xs=ys
   ·subst c;simp
   ·rw[decide_eq_false c,decide_eq_false (λe=>c (by injection e))]
  | _=>simp [PyData.eqv]
 | .bool _,_,h,_=>by simp [pJ] at h
 | .dict _,_,h,_=>by simp [pJ] at h
theorem oM:∀(xs ys:List PyData),oJ xs=true->oJ ys=true->PyData.eqvAll xs ys=decide (xs=ys)
 | [],[],_,_=>by simp [PyData.eqvAll]
 | [],_::_,_,_=>by simp [PyData.eqvAll]
 | _::_,[],_,_=>by simp [PyData.eqvAll]
 | x::xs,y::ys,hx,hy=>by
  rw[oJ,aaZ] at hx hy;rw[PyData.eqvAll,rR x y hx.1 hy.1,oM xs ys hx.2 hy.2]
  by_cases c:x=y
  ·subst c
   by_cases d:xs=ys
   ·subst d;simp
   ·rw[decide_eq_false d,decide_eq_false (λe=>d (List.cons.inj e).2)];simp
  ·rw[decide_eq_false c,decide_eq_false (λe=>c (List.cons.inj e).1)];simp
end
section
variable {X : Cx} {K : PySem.W.Frag}
noncomputable def Ke (d:Dat):Prop:=pJ (toP d)=true/\(toP d).depth<=8
theorem Bq {A:Around} {s:Shared} {a b:PyData} {u v:Value} {as bs:List Addr} (ra:Reads s.heap u a as) (rb:Reads s.heap v b bs) (ha:pJ a=true) (hb:pJ b=true) (da:a.depth<=8) (db:b.depth<=8) (hu:A.units+8<cLine):SeqAt.EqAt A s u v (decide (a=b)):=λprog w E Q h=>
 SeqAt.eqBoolOverData _ _ _ _ _ _ _ _ _ _ _ _ ra rb (jB _ ha) (jB _ hb) (by omega) (by rw[rR _ _ ha hb];exact h)
theorem qG {s:Shared} {ds:List Dat} {d:Dat} (nE:∀e∈ds,Ke e) {u:Value} {e:Dat} {bs:List Addr} [Decidable (∃cs,Reads s.heap u (toP d) cs)] (he:e∈ds) (re:Reads s.heap u (toP e) bs):decide (∃cs,Reads s.heap u (toP d) cs)=decide (toP e=toP d):=by
 by_cases c:toP e=toP d
 ·rw[decide_eq_true c,decide_eq_true ⟨bs,by rw[<-c];exact re⟩]
 ·rw[decide_eq_false c,decide_eq_false];rintro⟨cs,rc⟩;exact c (SeqAt.Reads.unique _ _ _ _ _ (jB _ (nE e he).1) re rc)
noncomputable def Hx (neg:Bool):R2:=λx y H Q=>∃p xs ds d,y=.ref p/\H p=some (.lst xs)/\bh H ds xs/\(∀e∈ds,Ke e)/\Rep H d x/\Ke d/\Q (.bl (if neg=true then !decide (toP d∈ds.map toP) else decide (toP d∈ds.map toP))) H
theorem Qs (hu:X.A.units+64<cLine) {pins:List (Addr×Obj)} {s:Shared} {σ:St} {H:Hp} {x:V} {v:Value} {p:Addr} {xs:List V} {ds:List Dat} {d:Dat} (I:Inv X pins σ H s) (rx:RelV x v) (hp:H p=some (.lst xs)) (rd:bh H ds xs) (nE:∀e∈ds,Ke e) (Hu:Rep H d x) (hd:Ke d):
  ∃(bE:List Value) (f:Value->Bool),s.heap.IsList p bE.toArray/\(∀u∈bE.toArray,SeqAt.EqAt X.A.in1 s u v (f u))/\bE.toArray.any f=decide (toP d∈ds.map toP):=by
 classical
 obtain⟨bE,r,pl,hz⟩:=I.list (bT.of hp);obtain⟨as,ra⟩:=fx I.bV d x v Hu rx;have each:∀u∈bE,∃e bs,e∈ds/\Reads s.heap u (toP e) bs:=λu hu=>by
  obtain⟨i,ei⟩:=List.getElem?_of_mem hu;obtain⟨e,bs,ed,re⟩:=fY I.bV rd r ei;exact⟨e,bs,aaC ed,re⟩
 refine⟨bE,λu=>decide (∃cs,Reads s.heap u (toP d) cs),pl.isList,λu Ko=>?_,?_⟩
 ·obtain⟨e,bs,he,re⟩:=each u (List.mem_toArray.mp Ko);show SeqAt.EqAt _ _ _ _ (decide _);rw[qG nE he re];exact Bq re ra (nE e he).1 hd.1 (nE e he).2 hd.2 (by show X.A.units+1+8<cLine;omega)
 ·rw[List.any_toArray]
  by_cases c:toP d∈ds.map toP
  ·rw[decide_eq_true c,List.any_eq_true];obtain⟨e,he,ee⟩:=List.mem_map.mp c;obtain⟨i,ei⟩:=List.getElem?_of_mem he;have hi:=(List.getElem?_eq_some_iff.mp ei).1;have l1:=rd.length;have l2:=r.length;have eu:bE[i]?=some (bE[i]'(by omega)):=aaG (by omega);obtain⟨e',bs,ed,re⟩:=fY I.bV rd r eu;rw[ei] at ed;cases ed;exact⟨_,aaC eu,by rw[qG nE he re,decide_eq_true ee]⟩
  ·rw[decide_eq_false c,List.any_eq_false];intro u Ko;obtain⟨e,bs,he,re⟩:=each u Ko;rw[qG nE he re,decide_eq_false λz=>c (List.mem_map.mpr ⟨e,he,z⟩)]
   decide
theorem qH (hu:X.A.units+64<cLine):lQ X (compareOp .NotIn) (Hx true):=by
 intro pins s σ H x y v u Q I rx ry h;obtain⟨p,xs,ds,d,rfl,hp,rd,nE,Hu,hd,q⟩:=h;cases ry;obtain⟨bE,f,a,b,c⟩:=Qs hu I rx hp rd nE Hu hd;refine SeqAt.notIn_listAt f a b ⟨.bl _,H,I,rfl,?_⟩;rw[c];exact q
noncomputable def Kt:V->List V->Hp->VK->Prop:=λx vs H Q=>∃l xs ds v d i,x=.ref l/\vs=[v]/\H l=some (.lst xs)/\bh H ds xs/\(∀e∈ds,Ke e)/\Rep H d v/\Ke d/\(ds.map toP)[i]?=some (toP d)/\(∀j,j<i->(ds.map toP)[j]?≠some (toP d))/\i<100000/\Q (.int (i:Nat)) H
theorem zw (hu:X.A.units+64<cLine):IP X "list.index" Kt:=by
 classical
 intro pins s σ H x vs v us Q I rx rv h;obtain⟨l,xs,ds,y,d,i,rfl,rfl,hp,rd,nE,Hu,hd,hi,JP,i6,q⟩:=h;cases rx;obtain⟨u,rfl,ru⟩:=vals1 rv;obtain⟨bE,r,pl,hz⟩:=I.list (bT.of hp);obtain⟨as,ra⟩:=fx I.bV d y u Hu ru;have l1:=rd.length;have l2:=r.length;have at_:∀(j:Nat) (hj:j<bE.length),∃e bs,ds[j]?=some e/\e∈ds/\Reads s.heap bE[j] (toP e) bs:=λj hj=>by
  obtain⟨e,bs,ed,re⟩:=fY I.bV rd r (aaG hj);exact⟨e,bs,ed,aaC ed,re⟩
 have Qr:i<bE.length:=by
  have:=(List.getElem?_eq_some_iff.mp hi).1;rw[aat] at this;omega
 obtain⟨⟨c1,d1,d2,sl⟩,ho,e1,m,e2⟩:=pl.isList;cases e1;cases e2;have hit:decide (∃cs,Reads s.heap bE[i] (toP d) cs)=true:=by
  obtain⟨e,bs,ed,he,re⟩:=at_ i Qr;rw[qG nE he re];rw[aau,ed] at hi;exact decide_eq_true (aaS hi)
 refine call_meets PySem.F.slot_list_index ⟨_,ho,rfl⟩ PySem.F.entry_list_index (PySem.F.args_list_index_2 _ _) (PySem.SeqAt.list_indexAt l bE.toArray m d1 sl u (λu=>decide (∃cs,Reads s.heap u (toP d) cs)) i (by rw[aaD];omega) (by omega) hit (λj hj hl=>?_)) ⟨ho,λy hy=>?_,⟨.int _,H,I.tok _,⟨_,rfl⟩,q⟩⟩
 ·rw[aaD] at hj;obtain⟨e,bs,ed,he,re⟩:=at_ j hj;show decide (∃cs,Reads s.heap bE[j] (toP d) cs)=false;rw[qG nE he re];refine decide_eq_false λz=>JP j hl ?_;rw[aau,ed];exact congrArg some z
 ·obtain⟨j,ej⟩:=List.getElem?_of_mem (List.mem_toArray.mp hy);obtain⟨e,bs,ed,re⟩:=fY I.bV rd r ej;have he:=aaC ed;show SeqAt.EqAt _ _ _ _ (decide _);rw[qG nE he re];exact Bq re ra (nE e he).1 hd.1 (nE e he).2 hd.2 (by show X.A.units+1+8<cLine;omega)
noncomputable def Br (b:Bool):R2:=λx y H Q=>∃d e,Rep H d x/\Rep H e y/\Ke d/\Ke e/\Q (.bl (if b=true then decide (toP d=toP e) else !decide (toP d=toP e))) H
theorem rS (hu:X.A.units+64<cLine):lQ X (compareOp .NotEq) (Br false):=by
 intro pins s σ H x y v u Q I rx ry h;obtain⟨d,e,h1,h2,k1,k2,q⟩:=h;obtain⟨as,ra⟩:=fx I.bV d x v h1 rx;obtain⟨bs,rb⟩:=fx I.bV e y u h2 ry;have:=k1.2;have:=k2.2;refine SeqAt.compareNe_reads ra rb (jB _ k1.1) (jB _ k2.1) (by omega) ⟨.bl _,H,I,rfl,?_⟩;rw[rR _ _ k1.1 k2.1];exact q
end
open PySem PySem.Spec PyProof.Rows PySem.W
section
variable {X : Cx} {pins : List (Addr × Obj)} {σ : St} {H H' : Hp} {s s' : Shared}
end
section
variable {X : Cx} {k : Nat} {x : Str} {ps : List Str} {sp : Sp} {e : Expr} {es : List Expr} {t : TA} {p pos : Pos}
variable {cx : Str} {np uj zc kA : Pos} {b₀ : Stmt} {mJ : List Stmt} {ts : TS} {C2 : Addr}
end
end L2
namespace PySem.Dfl
open PySem PyProof.Rows
section
variable {prog : Program} {w : World} {A : Around} {E : Value -> Shared -> Prop} {s : Shared}
end
section
variable {prog : Program} {w : World} {K : Type} [DecidableEq K] {knd : KeyKind prog w K} {A : Around} {R : Result -> Shared -> Prop} {I : Addr} {fp wr : List Addr} {G : Array GenState -> Array GenState -> Prop} {n : Nat} {P : Nat -> Value -> Prop} {St : Nat -> Shared -> Prop}
end
end PySem.Dfl
namespace PySem.Dfl
open PySem PyProof.Rows
section
variable {prog : Program} {w : World} {K : Type} [DecidableEq K] {knd : KeyKind prog w K} {A : Around} {E : Value -> Shared -> Prop} {s : Shared}
end
end PySem.Dfl
namespace L2
open PySem PyProof.Rows
section
variable {X : Cx} {P : Program} {w : World} {K : PySem.W.Frag}
end
open PySem PyProof.Rows
theorem exV {b:V} {Q:V->Prop}:(∃v,(some (some b):Option (Option V))=some (some v)/\Q v)=Q b:=propext ⟨fun⟨_,e,h⟩=>by cases e;exact h,λh=>⟨b,rfl,h⟩⟩
theorem exI {a:Int} {Q:Int->Prop}:(∃i,V.int a=V.int i/\Q i)=Q a:=propext ⟨fun⟨_,e,h⟩=>by cases e;exact h,λh=>⟨a,rfl,h⟩⟩
theorem exB {a:Bool} {Q:Bool->Prop}:(∃i,V.bl a=V.bl i/\Q i)=Q a:=propext ⟨fun⟨_,e,h⟩=>by cases e;exact h,λh=>⟨a,rfl,h⟩⟩
theorem exR {a:Addr} {Q:Addr->Prop}:(∃i,V.ref a=V.ref i/\Q i)=Q a:=propext ⟨fun⟨_,e,h⟩=>by cases e;exact h,λh=>⟨a,rfl,h⟩⟩
theorem exS {a:Str} {Q:Str->Prop}:(∃i,V.str a=V.str i/\Q i)=Q a:=propext ⟨fun⟨_,e,h⟩=>by cases e;exact h,λh=>⟨a,rfl,h⟩⟩
theorem exII {a b:Int} {Q:Int->Int->Prop}:(∃i j,V.int a=V.int i/\V.int b=V.int j/\Q i j)=Q a b:=propext ⟨fun⟨_,_,e,f,h⟩=>by cases e;cases f;exact h,λh=>⟨a,b,rfl,rfl,h⟩⟩
theorem exRI {a:Addr} {k:Int} {Q:Addr->List V->Int->V->Prop}:(∃p xs i v,V.ref a=V.ref p/\V.int k=V.int i/\Q p xs i v)=∃xs v,Q a xs k v:=propext ⟨fun⟨_,xs,_,v,e,f,h⟩=>by cases e;cases f;exact⟨xs,v,h⟩,fun⟨xs,v,h⟩=>⟨a,xs,k,v,rfl,rfl,h⟩⟩
theorem exRa {α:Type} {a:Addr} {Q:Addr->α->Prop}:(∃p v,V.ref a=V.ref p/\Q p v)=∃v,Q a v:=propext ⟨fun⟨_,v,e,h⟩=>by cases e;exact⟨v,h⟩,fun⟨v,h⟩=>⟨a,v,rfl,h⟩⟩
theorem exRb {α β:Type} {a:Addr} {Q:Addr->α->β->Prop}:(∃p v u,V.ref a=V.ref p/\Q p v u)=∃v u,Q a v u:=propext ⟨fun⟨_,v,u,e,h⟩=>by cases e;exact⟨v,u,h⟩,fun⟨v,u,h⟩=>⟨a,v,u,rfl,h⟩⟩
theorem scal_ss {a b:Str}:vG (.str a) (.str b)=true:=rfl
theorem scal_ii {a b:Int}:vG (.int a) (.int b)=true:=rfl
theorem scal_bb {a b:Bool}:vG (.bl a) (.bl b)=true:=rfl
theorem scal_si {a:Str} {b:Int}:vG (.str a) (.int b)=true:=rfl
theorem scal_is {a:Int} {b:Str}:vG (.int a) (.str b)=true:=rfl
section
variable {X : Cx}
end
section
variable {X : Cx}
end
open PySem PySem.Spec PyProof.Rows PySem.W
section
variable {X : Cx} {CX : jw} {k : Nat} {C : Addr} {m : Str} {ps : List Str} {sp : Sp} {E : XK} {o : Expr} {ta : TE} {pos apos : Pos} {pl : Sem Bool}
end
section
variable {X : Cx} {k0 k k2 : Nat} {C0 C C' : Addr} {m0 m m2 : Str} {ps0 ps ps2 : List Str} {sp0 sp Fl : Sp} {o0 e e2 o o2 : Expr} {es es2 : List Expr} {ta0 ta ta2 : TE} {t t2 : TA} {aaf Y9 pos apos Qt Ku : Pos} {pl0 pl pl2 : Sem Bool} {cx n : Str} {np uj Za zc Kv kA Qu Zb : Pos} {b₀ : Stmt} {mJ : List Stmt} {i : Nat} {ts : TS} {C2 : Addr} {c0 c : Expr} {tc0 tc : TT}
end
open PySem PySem.Spec PyProof.Rows PySem.W
theorem pU:entryFor table "proto.unchain"=some Builtin.«proto.unchain»:=entryFor_of_tree (by kernel_rfl)
theorem wx {P:Program} {w:World} {A:Around} {R:Result->Shared->Prop} {s:Shared} {id:String} {args:Args} {b:Builtin} (hb:entryFor table id=some b)
  (h:wpAny (model P w) (A.under (.builtin id args)) (b args) (λfin s'=>match fin with | .done f=>R (.ok f) s' | .again c'=>c'.quiet=true/\codeAny (model P w) A c' R s') (λe s'=>R (.error e) s') s):
  codeAny (model P w) A (.builtin id args) R s:=by
 refine codeAny_of_tree ?_;show wpAny _ _ (match entryFor table id with | some b=>b args | none=>unsupported ((withoutEnding? id "#data").getD id)) _ _ s;rw[hb];exact h
section
variable {P : Program} {w : World} {A : Around} {E : Value -> Shared -> Prop} {s : Shared} {e h : Addr} {oe oh : Obj} {vs ws : Array Value}
theorem pV {α:Type} {Q:α->Shared->Prop} (hh:A.handled=some (.ref h)) (ne:h≠e)
  (ho:s.heap.get? h=some oh) (hd:oh.data=.fields vs) (h2:vs[2]?=some .none) (he:s.heap.get? e=some oe) (hde:oe.data=.fields ws) (hz:2<ws.size)
  (hE:E (.ref e) {s with heap:=s.heap.update e (Obj.mapFields (·.setIfInBounds 2 (.ref h)))}):wpAny (model P w) A (raiseNew (.ref e):Sem α) Q E s:=by
 unfold raiseNew;refine wpAny_bind (wpAny_handled ?_);rw[hh];dsimp only;rw[if_pos (by simp [ne])];refine wpAny_bind (wpAny_holding (wpAny_runValue (wx pU ?_)));unfold Builtin.«proto.unchain»;dsimp only;refine wpAny_bind (wpAny_field ho hd h2 ?_);rw[if_pos (by decide)];refine wpAny_pure ?_;dsimp only;refine wpAny_bind ?_;show wpAny _ _ (setField (.ref e) 2 (.ref h)) _ _ s;exact wpAny_setField he hde hz (wpAny_throw hE)
end
section
variable {M : Model} {A : Around} {E : Value -> Shared -> Prop}
variable {nm q : Str} {C N : Addr} {bs bm : List Value} {hdct : Bool} {sn : List Str} {sub : List Value} {ab : Bool} {col : Option Bool} {dd : Option Addr} {k0 k1 k2 k3 k5 : Option Value} {newId : String}
end
section
variable {P : Program} {w : World} {A : Around} {E : Value -> Shared -> Prop} {env : Env}
section
variable {M : Model} {s : Shared} {e : Addr} {ws : Array Value}
end
end
section
variable {X : Cx} {pins : List (Addr × Obj)} {σ : St} {H : Hp} {s : Shared}
end
section
variable {M : Model} {A : Around} {E : Value -> Shared -> Prop} {s : Shared} {B : Heap} {l : List Env} {ad L : Addr} {cls a0 : Value}
end
section
variable {P : Program} {w : World} {K : PySem.W.Frag} {mg : Str -> Option Value} {base : Heap} {N : List Str} {qual : Str} {scope : Scope} {f : Addr} {bZ : Value} {A : Around} {outer : List Env} {s0 : Shared} {H0 : Hp} {E : XK}
end
section
variable {X : Cx} {pins : List (Addr × Obj)} {σ : St} {H H' : Hp} {s s' : Shared} {E : XK} {ad Cc C3 : Addr} {cls C1 C2 : Value} {cx cy n x : Str} {p1 p2 kA np nrp dO Qv uj : Pos} {kk i : Nat} {e : Expr} {es : List Expr} {ta : TA}
end
section
variable {X : Cx} {E : XK} {k k2 : Nat} {C C' C3 : Addr} {m m2 : Str} {ps ps2 : List Str} {sp Fl : Sp} {e e2 e3 o o2 : Expr} {es es2 es3 : List Expr} {ta ta2 : TE} {t t2 t3 : TA} {pos apos Qt Ku : Pos} {pl pl2 : Sem Bool} {cx cy n x : Str} {p1 p2 Zc np nrp dO Qv uj zc Kv kA Qu : Pos} {i kk : Nat} {C1 C2 : Value} {c : Expr} {tc : TT}
end
open PySem PySem.Spec PyProof.Rows PySem.W
open PySem PyProof.Rows
theorem DP {vs:List V} {k:Int->Int->Prop} (h:gZ vs λa b=>lP a λa=>lP b λb=>k a b):∃a b,vs=[.int a,.int b]/\k a b:=by
 obtain⟨_,_,rfl,h0⟩:=rdL2_eq.mp h;obtain⟨_,rfl,h1⟩:=rdI_eq.mp h0;obtain⟨_,rfl,h2⟩:=rdI_eq.mp h1;exact⟨_,_,rfl,h2⟩
theorem qI {vs:List V} {k:Addr->Prop} (h:gY vs λa=>fR a λa=>k a):∃a,vs=[.ref a]/\k a:=by
 obtain⟨_,rfl,h0⟩:=rdL1_eq.mp h;obtain⟨_,rfl,h1⟩:=rdR_eq.mp h0;exact⟨_,rfl,h1⟩
theorem Kw {vs:List V} {k:Addr->Int->Prop} (h:gZ vs λa b=>fR a λa=>lP b λb=>k a b):∃a b,vs=[.ref a,.int b]/\k a b:=by
 obtain⟨_,_,rfl,h0⟩:=rdL2_eq.mp h;obtain⟨_,rfl,h1⟩:=rdR_eq.mp h0;obtain⟨_,rfl,h2⟩:=rdI_eq.mp h1;exact⟨_,_,rfl,h2⟩
theorem DQ {vs:List V} {k:Addr->Addr->Prop} (h:gZ vs λa b=>fR a λa=>fR b λb=>k a b):∃a b,vs=[.ref a,.ref b]/\k a b:=by
 obtain⟨_,_,rfl,h0⟩:=rdL2_eq.mp h;obtain⟨_,rfl,h1⟩:=rdR_eq.mp h0;obtain⟨_,rfl,h2⟩:=rdR_eq.mp h1;exact⟨_,_,rfl,h2⟩
theorem Bs {vs:List V} {k:Addr->Addr->V->Int->Prop} (h:yP vs λa b c d=>fR a λa=>fR b λb=>lP d λd=>k a b c d):∃a b c d,vs=[.ref a,.ref b,c,.int d]/\k a b c d:=by
 obtain⟨_,_,_,_,rfl,h0⟩:=rdL4_eq.mp h;obtain⟨_,rfl,h1⟩:=rdR_eq.mp h0;obtain⟨_,rfl,h2⟩:=rdR_eq.mp h1;obtain⟨_,rfl,h3⟩:=rdI_eq.mp h2;exact⟨_,_,_,_,rfl,h3⟩
theorem Fm {vs:List V} {k:Addr->Str->Addr->Prop} (h:tQ vs λa b c=>fR a λa=>Of b λb=>fR c λc=>k a b c):∃a b c,vs=[.ref a,.str b,.ref c]/\k a b c:=by
 obtain⟨_,_,_,rfl,h0⟩:=rdL3_eq.mp h;obtain⟨_,rfl,h1⟩:=rdR_eq.mp h0;obtain⟨_,rfl,h2⟩:=rdS_eq.mp h1;obtain⟨_,rfl,h3⟩:=rdR_eq.mp h2;exact⟨_,_,_,rfl,h3⟩
theorem mZ {vs:List V} {k:Addr->V->Prop} (h:gZ vs λa b=>fR a λa=>k a b):∃a b,vs=[.ref a,b]/\k a b:=by
 obtain⟨_,_,rfl,h0⟩:=rdL2_eq.mp h;obtain⟨_,rfl,h1⟩:=rdR_eq.mp h0;exact⟨_,_,rfl,h1⟩
theorem Fn {vs:List V} {k:Addr->V->Int->Prop} (h:tQ vs λa b c=>fR a λa=>lP c λc=>k a b c):∃a b c,vs=[.ref a,b,.int c]/\k a b c:=by
 obtain⟨_,_,_,rfl,h0⟩:=rdL3_eq.mp h;obtain⟨_,rfl,h1⟩:=rdR_eq.mp h0;obtain⟨_,rfl,h2⟩:=rdI_eq.mp h1;exact⟨_,_,_,rfl,h2⟩
theorem Fo {vs:List V} {k:Addr->V->Addr->Prop} (h:tQ vs λa b c=>fR a λa=>fR c λc=>k a b c):∃a b c,vs=[.ref a,b,.ref c]/\k a b c:=by
 obtain⟨_,_,_,rfl,h0⟩:=rdL3_eq.mp h;obtain⟨_,rfl,h1⟩:=rdR_eq.mp h0;obtain⟨_,rfl,h2⟩:=rdR_eq.mp h1;exact⟨_,_,_,rfl,h2⟩
theorem Bu {vs:List V} {k:Addr->V->V->Int->Prop} (h:yP vs λa b c d=>fR a λa=>lP d λd=>k a b c d):∃a b c d,vs=[.ref a,b,c,.int d]/\k a b c d:=by
 obtain⟨_,_,_,_,rfl,h0⟩:=rdL4_eq.mp h;obtain⟨_,rfl,h1⟩:=rdR_eq.mp h0;obtain⟨_,rfl,h2⟩:=rdI_eq.mp h1;exact⟨_,_,_,_,rfl,h2⟩
theorem CJ {vs:List V} {k:V->Prop} (h:gY vs λa=>k a):∃a,vs=[a]/\k a:=by
 obtain⟨_,rfl,h0⟩:=rdL1_eq.mp h;exact⟨_,rfl,h0⟩
theorem Ky {vs:List V} {k:V->Int->Prop} (h:gZ vs λa b=>lP b λb=>k a b):∃a b,vs=[a,.int b]/\k a b:=by
 obtain⟨_,_,rfl,h0⟩:=rdL2_eq.mp h;obtain⟨_,rfl,h1⟩:=rdI_eq.mp h0;exact⟨_,_,rfl,h1⟩
open PySem PySem.Spec PySem.W PyProof.Rows
section
variable {X : Cx} {pins : List (Addr × Obj)} {σ : St} {H : Hp} {s : Shared} {A : Around} {E : Value -> Shared -> Prop} {Q : Value -> Shared -> Prop} {b : Bool}
end
section
variable {X : Cx} {K : PySem.W.Frag}
end
end L2
namespace PySem.Stt
open PySem PyProof.Rows
noncomputable def Ae (l:List Str) (v:Str):List Str:=if v∈l then l else l++ [v]
noncomputable def met (ts:List Str):List Str:=ts.foldl Ae []
theorem xY (l:List Str) (v:Str):(Ae l v).length=if (decide (v∈l))=true then l.length else l.length+1:=by
 unfold Ae;by_cases h:v∈l <;>simp [h]
section
variable {prog : Program} {w : World} {A : Around} {R : Result -> Shared -> Prop} {I : Addr} {fp wr : List Addr} {G : Array GenState -> Array GenState -> Prop} {n : Nat} {P : Nat -> Value -> Prop} {St : Nat -> Shared -> Prop}
end
section
variable {prog : Program} {w : World} {A : Around} {E : Value -> Shared -> Prop} {s : Shared}
end
end PySem.Stt
namespace L2
open PySem PySem.Spec PyProof.Rows PySem.Stt
section
variable {X : Cx} {P : Program} {w : World} {K : PySem.W.Frag}
end
open PySem PySem.Spec PyProof.Rows PySem.W
section
variable {X : Cx} {K : PySem.W.Frag}
end
open PySem PySem.Spec PyProof.Rows PySem.W
section
variable {prog : Program} {w : World} {A : Around} {E : Value -> Shared -> Prop} {s : Shared}
noncomputable def iN (A:Around) (hp:Heap):Prop:=∃h oh vs,A.handled=some (.ref h)/\hp.get? h=some oh/\oh.data=.fields vs/\vs[2]?=some .none
theorem iN.keep {hp hq:Heap} (x:iN A hp) (k:∀h o,A.handled=some (.ref h)->hp.get? h=some o->hq.get? h=some o):iN A hq:=
 let ⟨h,oh,vs,a,b,c,d⟩:=x;⟨h,oh,vs,a,k h oh a b,c,d⟩
theorem Kz {α:Type} {Q:α->Shared->Prop} (mO:iN A s.heap)
  (hE:∀e hq,(∀b o,s.heap.get? b=some o->hq.get? b=some o)->(∃o,hq.get? e=some o/\o.cls=.type "StopIteration")->E (.ref e) {s with heap:=hq}):
  wpAny (model prog w) A (Builtin.SmallTypes.stopIteration:Sem α) Q E s:=by
 obtain⟨h,oh,vs,hh,ho,hd,h2⟩:=mO;have below:=Heap.lt_size ho;unfold Builtin.SmallTypes.stopIteration
 repeat wp_step
 generalize Oz:s.heap.push {cls:=.type "tuple",data:=.seq #[]}=s1;have k1:∀b o,s.heap.get? b=some o->s1.get? b=some o:=λb o e=>Oz▸Heap.get?_push_of_some _ e;have z1:s1.objs.size=s.heap.objs.size+1:=Oz▸Heap.size_push ..;refine pV hh (aaA (z1▸aa1 below)) (Heap.get?_push_of_some _ (k1 _ _ ho)) hd h2 (Heap.get?_push_size _ rfl) rfl (by simp;omega) (hE _ _ (λb o e=>?_) ?_)
 ·have lb:=Heap.lt_size e;exact(Heap.get?_update_other _ _ (aa4 (z1▸aa1 lb))).trans (Heap.get?_push_of_some _ (k1 _ _ e))
 ·exact⟨_,Heap.get?_update_self _ (Heap.get?_push_size _ rfl) (Obj.isFreed_of_fields (Obj.data_mapFields rfl _)),Obj.cls_mapFields ..⟩
theorem uz {b:Builtin} {it l:Addr} {i:Nat} {o ol:Obj} {items:Array Value} {n:Nat} {Q:PySem.Fin->Shared->Prop} (hb:b=Builtin.«list_iterator.__next__»\/b=Builtin.«tuple_iterator.__next__»)
  (mO:iN A s.heap) (off:A.handled≠some (.ref it)) (ho:s.heap.get? it=some o) (hd:o.data=.fields #[.ref l,.int i 0]) (hl:s.heap.get? l=some ol) (xZ:ol.data=.seq items n) (hx:items[i]?=none)
  (hE:∀e hq,Heap.ExtBut it s.heap hq->(∃o,hq.get? e=some o/\o.cls=.type "StopIteration")->E (.ref e) {s with heap:=hq}):
  wpAny (model prog w) A (b ⟨[.ref it],[]⟩) Q E s:=by
 have Qw:∀(rq:Fin->Shared->Prop),wpAny (model prog w) A (Builtin.SmallTypes.stopIteration:Sem Fin) rq E {s with heap:=s.heap.update it (Obj.mapFields (·.setIfInBounds 0 .none))}:=λrq=>
  Kz (mO.keep λh o e g=>(Heap.get?_update_other _ _ λz=>off (by rw[e,z])).trans g) λe hq k c=>hE e hq (λb o nb g=>k b o ((Heap.get?_update_other _ _ (Ne.symm nb)).trans g)) c
 have read0:∀{α:Type} {rq:α->Shared->Prop} {f:Value->Sem α},wpAny (model prog w) A (f (.ref l)) rq E s->wpAny (model prog w) A (field (.ref it) 0 >>=f) rq E s:=λg=>wpAny_bind (wpAny_field ho hd rfl g);have KA:∀{α:Type} {rq:α->Shared->Prop} {f:Value->Sem α},wpAny (model prog w) A (f (.int i 0)) rq E s->wpAny (model prog w) A (field (.ref it) 1 >>=f) rq E s:=λg=>wpAny_bind (wpAny_field ho hd rfl g);rcases hb with rfl | rfl
 all_goals
  refine read0 (wpAny_ite_false rfl (KA (wpAny_bind (wpAny_seqItems hl xZ ?_))));dsimp only;rw[aaY,hx];exact wpAny_bind (wpAny_rule (wpAny_bind (wpAny_setField ho hd (Nat.zero_lt_succ _) (Qw _))))
theorem qJ {T id:String} {b:Builtin} {it:Addr} {Q:Option Value->Shared->Prop} (hT:s.TypeIs (.ref it) T) (sl:Slot T (Str.ofString "__next__") id) (en:entryFor table id=some b) (ar:argsOk id ⟨[.ref it],[]⟩)
  (h:wpAny (model prog w) A.in1 (b ⟨[.ref it],[]⟩) (λ_ _=>False) (λe s'=>∃a,e=.ref a/\(∃o,s'.heap.get? a=some o/\o.cls=.type "StopIteration")/\Q none s') s):wpAny (model prog w) A (pyNext (.ref it)) Q E s:=by
 have go:=wpAny_call_entry (A:=A) (Q:=λ_ _=>False) (rest:=[]) sl hT en (wpAny_mono h (λ_ _ z=>z.elim) λ_ _ z=>z) ar;unfold pyNext;refine wpAny_bind (wpAny_attempt (wpAny_callSpecial?_slot hT sl (wpAny_mono go (λ_ _ z=>z.elim) λe s' z=>?_)));obtain⟨a,rfl,c,q⟩:=z;exact wpAny_bind (wpAny_isInstance c isSubtype_stop (wpAny_pure q))
theorem zx {it l:Addr} {i:Nat} {items:Array Value} {Q:Option Value->Shared->Prop} (mO:iN A s.heap) (off:A.handled≠some (.ref it)) (hit:s.heap.IsListIter it l i) (hl:s.heap.IsList l items) (hx:items[i]?=none)
  (hQ:∀hq,Heap.ExtBut it s.heap hq->Q none {s with heap:=hq}):wpAny (model prog w) A (pyNext (.ref it)) Q E s:=by
 obtain⟨ol,e1,_,n,e2⟩:=hl;have Hy:=hit;obtain⟨o,d0,_,d1⟩:=Hy;exact qJ hit.typeIs slot_listiter_next entry_listiter_next (args_listiter_next _) (uz (.inl rfl) mO off d0 d1 e1 e2 hx λe hq k c=>⟨e,rfl,c,hQ hq k⟩)
theorem uA {it t:Addr} {i:Nat} {items:Array Value} {Q:Option Value->Shared->Prop} (mO:iN A s.heap) (off:A.handled≠some (.ref it)) (hit:s.heap.IsTupleIter it t i) (ht:s.heap.IsTuple t items) (hx:items[i]?=none)
  (hQ:∀hq,Heap.ExtBut it s.heap hq->Q none {s with heap:=hq}):wpAny (model prog w) A (pyNext (.ref it)) Q E s:=by
 obtain⟨ol,e1,_,n,e2⟩:=ht;have Hy:=hit;obtain⟨o,d0,_,d1⟩:=Hy;exact qJ hit.typeIs F.slot_tuple_iterator_next F.entry_tuple_iterator_next (F.args_tuple_iterator_next_1 _) (uz (.inr rfl) mO off d0 d1 e1 e2 hx λe hq k c=>⟨e,rfl,c,hQ hq k⟩)
theorem apart {t:Addr} {items:Array Value} {ts:List (Bool×(Value->Sem Unit))} {Q:Unit->Shared->Prop} (mO:iN A s.heap) (ht:IsTup s.heap t items) (hn:ts.length=items.size) (hs:ts.findIdx? (·.1)=none)
  (h:∀hq,Heap.ExtBut s.heap.objs.size s.heap hq->wpAny (model prog w) A (assignInOrder (ts.map (·.2)) items.toList) Q E {s with heap:=hq}):wpAny (model prog w) A (unpack (.ref t) ts) Q E s:=by
 have ne:t≠s.heap.objs.size:=aaA (Heap.lt_size ht.choose_spec.1);have whole:(items.toList.drop 0).take items.size=items.toList:=aaJ (aav _);unfold unpack unpackItems notIterableAtAll;rw[hn,hs];refine wpAny_bind (wpAny_holding (wpAny_bind (wpAny_bind (wpAny_specialOf ht.typeIs F.slot_tuple_iter.lookup (wpAny_pure ?_)))));refine wpAny_ite_false rfl (wpAny_bind (wpAny_holding (wpAny_pyIter_tuple ht ?_)));refine wpAny_bind (wpAny_holding (wpAny_draw_tuple ne items.size 0 _ _ ⟨_,Heap.get?_push_size _ rfl,rfl,rfl⟩ (ht.push _) (Nat.le_of_eq (Nat.zero_add _)) λh1 i1 s1=>?_));rw[whole];have old:∀b o,b≠s.heap.objs.size->s.heap.get? b=some o->h1.get? b=some o:=λb o nb e=>s1.extBut b o nb (Heap.get?_push_of_some _ e);have Qx:iN A h1:=mO.keep λb o _ e=>old b o (aaA (Heap.lt_size e)) e;have off:A.handled≠some (.ref s.heap.objs.size):=λz=>by
  obtain⟨b,o,_,e,g,_⟩:=mO;rw[z] at e;cases e;exact absurd (Heap.lt_size g) (aaN _)
 refine wpAny_ite_false (decide_eq_false (aaN _)) (wpAny_bind (wpAny_holding (uA Qx off i1 (IsTup.extBut (ht.push _) s1.extBut ne) ?_ λh2 x2=>?_)))
 ·simp
 ·exact wpAny_ite_false rfl (wpAny_pure (h h2 λb o nb e=>x2 b o nb (old b o nb e)))
theorem zy {env:Env} {es:List Expr} {x1} {pos:Pos} {t:Addr} {items:Array Value} {Q:Unit->Shared->Prop} (mO:iN A s.heap) (ht:IsTup s.heap t items) (hn:(assignEach es env).length=items.size) (hs:(assignEach es env).findIdx? (·.1)=none)
  (h:∀hq,Heap.ExtBut s.heap.objs.size s.heap hq->wpAny (model prog w) A (assignInOrder ((assignEach es env).map (·.2)) items.toList) Q E {s with heap:=hq}):wpAny (model prog w) A (assign (.Tuple es x1 pos) env (.ref t)) Q E s:=
 (assign_Tuple (env:=env) es x1 pos (.ref t)).symm▸wpAny_bind (wpAny_standAt (apart mO ht hn hs h))
theorem Bv {h:Addr} {oh:Obj} {vs:Array Value} (hh:A.handled=some (.ref h)) (hd:oh.data=.fields vs) (h2:vs[2]?=some .none) {I t:Addr} (hI:h≠I) (tI:t≠I) (items:Array Value):
  Walks prog w A I [I,t,h] [I] items.size (λi v=>items[i]?=some v) (λi hp=>hp.IsTupleIter I t i/\hp.IsTuple t items/\hp.get? h=some oh):=by
 have off:∀{b c:Addr},b≠c->b∉[c]:=λn m=>n (List.mem_singleton.mp m);refine⟨λb m=>List.mem_singleton.mp m▸aaE,λi p q ⟨a,b,c⟩ k=>⟨a.at (k I aaE),b.at (k t (by simp)),k h (by simp) _ c⟩,λi s Q E hi ⟨a,b,c⟩ hQ=>?_,λs Q E ⟨a,b,c⟩ hQ=>?_,λi s Q E ⟨a,_,_⟩ hQ=>wpAny_pyIter_tupleiter a hQ⟩
 ·have hx:items[i]?=some items[i]:=Array.getElem?_eq_getElem hi;exact wpAny_pyNext_tuple_item a b hx λhq a' k=>hQ _ hq s.toks hx ⟨a',b.extBut k.extBut tI,k.extBut h oh hI c⟩ λb o m e=>k.extBut b o (λz=>m (z▸List.mem_singleton_self _)) e
 ·exact uA ⟨h,oh,vs,hh,c,hd,h2⟩ (λz=>hI (by rw[hh] at z;cases z;rfl)) a b (Array.getElem?_eq_none (aav _)) λhq k=>hQ hq s.toks λb o m e=>k b o (λz=>m (z▸List.mem_singleton_self _)) e
theorem DR {a b:Int} {t u:Tok} {Q:Value->Shared->Prop} (mO:iN A s.heap)
  (hQ:∀hq tk,(∀c o,s.heap.get? c=some o->hq.get? c=some o)->Q (if b<a then .int b u else .int a t) {s with heap:=hq,toks:=tk}):wpAny (model prog w) A (call (.builtin "min") [.int a t,.int b u]) Q E s:=by
 obtain⟨h,oh,vs,hh,ho,hd,h2⟩:=mO;have lh:=Heap.lt_size ho;refine call_min_two ?_;generalize e1:s.heap.push {cls:=.type "tuple",data:=.seq #[.int a t,.int b u]}=p1;have z1:p1.objs.size=s.heap.objs.size+1:=e1▸Heap.size_push ..;have k1:∀c o,s.heap.get? c=some o->p1.get? c=some o:=λc o g=>e1▸Heap.get?_push_of_some _ g;have T:p1.IsTuple s.heap.objs.size #[.int a t,.int b u]:=e1▸⟨_,Heap.get?_push_size _ rfl,rfl,0,rfl⟩;refine wpAny_pyIter_tuple T ?_;have nI:s.heap.objs.size≠p1.objs.size:=aaA (z1▸aaR _);have num:∀i v,(#[Value.int a t,Value.int b u]:Array Value)[i]?=some v->∃k,v=Value.int (if i=0 then a else b) k:=λi v g=>by
  match i with
  | 0=>exact⟨t,(aaS g).symm⟩
  | 1=>exact⟨u,(aaS g).symm⟩
  | j+2=>simp at g
 refine⟨_,_,_,_,_,_,_,rfl,Bv (A:=A.in1) hh hd h2 (aaA (z1▸aa1 lh)) nI _,⟨⟨_,Heap.get?_push_size _ rfl,rfl,rfl⟩,T.push _,Heap.get?_push_of_some _ (k1 _ _ ho)⟩,λc m=>?_,Nat.zero_lt_succ _,CmpOf.ints_lt _ num,λv hq tk g k=>?_⟩
 ·rw[show({s with heap:=p1.push {cls:=.type "tuple_iterator",data:=.fields #[.ref s.heap.objs.size,.int 0 0]}}:Shared).heap.objs.size=p1.objs.size+1 from Heap.size_push ..,z1];rcases List.mem_cons.mp m with rfl | m
  ·exact z1▸aaR _
  ·rcases List.mem_cons.mp m with rfl | m
   ·exact aa1 (aaR _)
   ·rw[List.mem_singleton.mp m];exact aa1 (aa1 lh)
 ·have Qy:v=if b<a then Value.int b u else Value.int a t:=by
   by_cases ba:b<a
   ·simp [argBest,ba] at g ⊢;exact g.symm
   ·simp [argBest,ba] at g ⊢;exact g.symm
  refine Qy▸hQ hq tk λc o g=>k c o (λm=>?_) (Heap.get?_push_of_some _ (k1 c o g));have lc:=Heap.lt_size g;rw[List.mem_singleton.mp m,z1] at lc;exact aaN _ (Nat.lt_of_succ_lt lc)
end
open PySem PySem.Spec PyProof.Rows PySem.W
noncomputable def zz (X:Cx):Prop:=∃h oh vs,X.A.handled=some (.ref h)/\X.s₀.heap.get? h=some oh/\X.H₀ h=none/\h∉X.fs/\h∉X.ex/\oh.data=.fields vs/\vs[2]?=some .none
noncomputable def fy (X:Cx):Prop:=X.calm=true\/zz X
theorem Inv.mO {X:Cx} {pins:List (Addr×Obj)} {σ:St} {H:Hp} {s:Shared} (I:Inv X pins σ H s) (hx:zz X):iN X.A s.heap:=by
 obtain⟨h,oh,vs,h1,h2,h3,h4,h5,h6,h7⟩:=hx;exact⟨h,oh,vs,h1,I.base.keep h oh h2 h3 h4 h5,h6,h7⟩
theorem zz.off {X:Cx} {pins:List (Addr×Obj)} {H:Hp} {b:Addr} (hx:zz X) (f:fF X pins H b):∀h,X.A.handled=some (.ref h)->h≠b:=λh e z=>by
 obtain⟨h',oh,vs,h1,h2,_,_,h5,_⟩:=hx;rw[h1] at e;cases e;subst z;obtain⟨_,_,_,f4,_⟩:=f;rcases f4 with f4 | f4
 ·exact h5 f4
 ·exact absurd (aaL (Heap.lt_size h2) f4) (aaN _)
structure x6 (P:Program) (w:World) (K:PySem.W.Frag) (tg:Expr) (J:It) (fp:List Addr) (it:Addr) (tn:Nat->Heap->Prop):Prop where
 mem:it∈fp
 obj:∀i h,tn i h->∀b∈fp,∃o,h.get? b=some o/\∀v,o.data≠.cell v
 keep:∀i h h',tn i h->(∀b∈fp,∀o,h.get? b=some o->h'.get? b=some o)->tn i h'
 item:∀(X:Cx),X.prog=P->X.w=w->X.K=K->fy X->∀(i:Nat) (pins:List (Addr×Obj)) (s:Shared) (σ:St) (H:Hp) (E:Value->Shared->Prop),Inv X pins σ H s->(∀b∈fp,fF X pins H b)->tn i s.heap->J.go i H->
  wpAny (model P w) X.A (pyNext (.ref it)) (λr s1=>∃u,r=some u/\
   wpAny (model P w) X.A (letOwnedTupleGo tg (.ref it) u) (λ_ s2=>∃x H',Inv X pins σ H' s2/\RelV x u/\J.vv i H x H'/\tn (i+1) s2.heap/\∀b∈fp,H' b=none) E s1) E s
 done:∀(X:Cx),X.prog=P->X.w=w->X.K=K->fy X->∀(i:Nat) (pins:List (Addr×Obj)) (s:Shared) (σ:St) (H:Hp) (E:Value->Shared->Prop),Inv X pins σ H s->(∀b∈fp,fF X pins H b)->tn i s.heap->J.stop i H->
  wpAny (model P w) X.A (pyNext (.ref it)) (λr s1=>r=none/\Inv X pins σ H s1) E s
 self:∀(A:Around) (i:Nat) (s:Shared) (Q:Value->Shared->Prop) (E:Value->Shared->Prop),tn i s.heap->Q (.ref it) s->wpAny (model P w) A (pyIter (.ref it)) Q E s
noncomputable def Qz (X:Cx) (pins:List (Addr×Obj)) (σ:St) (tg:Expr) (R:It->Hp->Prop) (tS:Value) (s2:Shared):Prop:=
 ∃(it:Addr) (fp:List Addr) (tn:Nat->Heap->Prop) (J:It) (H':Hp),tS=.ref it/\Inv X pins σ H' s2/\x6 X.prog X.w X.K tg J fp it tn/\tn 0 s2.heap/\(∀b∈fp,fF X pins H' b)/\R J H'
noncomputable def OA (X:Cx) (tg iter:Expr) (wi:TI):Prop:=
 ∀(pins:List (Addr×Obj)) (s:Shared) (σ:St) (H:Hp) (R:It->Hp->Prop),Inv X pins σ H s->wi σ H R->
  wpAny (model X.prog X.w) X.A (eval iter X.env) (λv s1=>wpAny (model X.prog X.w) X.A (pyIter v) (Qz X pins σ tg R) X.xe s1) X.xe s
theorem wy {P:Program} {w:World} {K:PySem.W.Frag} {tg:Expr} (a it:Addr):x6 P w K tg (C8 K a) [it] it (λi h=>h.IsListIter it a i) where
 mem:=by simp
 obj:=λi h st b hb=>by
  have e:b=it:=by simpa using hb
  subst e;obtain⟨o,e,c,d⟩:=st;exact⟨o,e,λv z=>by rw[d] at z;cases z⟩
 keep:=λi h h' st k=>st.at λo e=>k it (by simp) o e
 item:=by
  intro X hP hw hK hc i pins s σ H E I hf st hg;subst hP hw hK;obtain⟨xs,x,hq,hx⟩:=hg;obtain⟨bE,rv,p,hz⟩:=I.list hq;obtain⟨u,hu,ru⟩:=rv.get hx;obtain⟨f0,f1,f2,f3,f4,f5⟩:=hf it (by simp);refine wpAny_pyNext_list_item st p.isList (x:=u) (by simpa using hu) λh' vE sb=>?_;have I1:Inv X pins σ H {s with heap:=h'}:=I.turned (t':=s.toks) (λb o hb e=>(sb.2 b hb).trans e) f0 f1 f3 f4 f5;obtain⟨o,e,c,d⟩:=id vE;exact⟨u,rfl,Az (s:={s with heap:=h'}) e c d (by decide) ⟨x,H,I1,ru,⟨rfl,λys hy=>by rw[I.nU hy hq];exact hx⟩,vE,λb hb=>(hf b hb).1⟩⟩
 done:=by
  intro X hP hw hK hc i pins s σ H E I hf st hg;subst hP hw hK;obtain⟨xs,hq,hx⟩:=hg;obtain⟨bE,rv,p,hz⟩:=I.list hq;obtain⟨f0,f1,f2,f3,f4,f5⟩:=hf it (by simp);have hl:=rv.length;have q:∀h',Heap.ExtBut it s.heap h'->(none:Option Value)=none/\Inv X pins σ H {s with heap:=h'}:=λh' eb=>⟨rfl,I.turned (t':=s.toks) (λb o hb e=>eb b o hb e) f0 f1 f3 f4 f5⟩
  rcases hc with hc | hx
  ·exact wpAny_pyNext_list_end (I.ok.hd hc) st p.isList (by simp;omega) q
  ·exact zx (I.mO hx) (λz=>hx.off (hf it (by simp)) it z rfl) st p.isList (by simp;omega) q
 self:=λ_ _ _ _ _ st h=>wpAny_pyIter_listiter st h
section
variable {X : Cx} {tg : Expr}
theorem Bw {l:Expr} {tl:TE} (hl:PE X l tl):OA X tg l (iList X.K tl):=by
 intro pins s σ H R I h;refine cu (hl pins s σ H _ I h) λv s1 dD=>?_;obtain⟨x,H1,I1,r1,q1⟩:=dD;obtain⟨a,e,⟨xs,hq⟩,q⟩:=rdR_eq.mp q1;subst e;cases r1;obtain⟨bE,rv,p,hz⟩:=I1.list hq;refine wpAny_pyIter_list p.isList ?_;refine⟨s1.heap.objs.size,[s1.heap.objs.size],_,_,H1,rfl,I1.kept (t':=s1.toks) λb o e=>Heap.get?_push_of_some _ e,wy a _,⟨_,Heap.get?_push_size _ rfl,rfl,rfl⟩,λb hb=>?_,q⟩;have e:b=s1.heap.objs.size:=by simpa using hb
 subst e;exact I1.Ay (aav _) (I1.bV.fresh (aav _))
theorem nJ {iter:Expr} {body:List Stmt} {wi:TI} {g:TG} {tb:TS} {pos:Pos} (hp:PassesOwn (model X.prog X.w) X.A X.env X.xe) (hc:fy X) (hi:OA X tg iter wi) (hg:PG X tg g) (hb:qi X body tb)
  (hs:∀x,foldedSetIterable iter X.env x=pure x:=by intro _;rfl):PS X (.For tg iter body [] pos) (Gx wi g tb):=by
 intro pins s σ H D I h;refine wpAny_For (cu (hi pins s σ H _ I h) λv s1 h1=>cu h1 λtS s2 h2=>?_) hs;obtain⟨it,fp,tn,J,H2,e,I2,T,mX,f2,W,⟨m0,w0⟩,turn⟩:=h2;subst e;have j3:∀{H':Hp},(∀b∈fp,H' b=none)->∀b∈fp,fF X pins H' b:=λhn b hb=>⟨hn b hb,(f2 b hb).2⟩
 refine codeAny_forLoop_any (λn s'=>∃i σ' H',Inv X pins σ' H' s'/\tn i s'.heap/\(∀b∈fp,H' b=none)/\W i n σ' H') ?_ m0 ⟨0,σ,H2,I2,mX,λb hb=>(f2 b hb).1,w0⟩;rintro n s3 ⟨i,σ3,H3,I3,JJ,JK,w3⟩;rcases turn i n σ3 H3 w3 with ⟨stop,qn⟩ | ⟨go,N,hN,step⟩
 ·refine wpAny_passesOwn hp (cu (T.done X rfl rfl rfl hc i pins s3 σ3 H3 X.xe I3 (j3 JK) JJ stop) λr s4 ⟨hr,I4⟩=>?_);subst hr;exact wpAny_execs_nil ⟨σ3,H3,I4,qn⟩
 ·refine wpAny_passesOwn hp (cu (T.item X rfl rfl rfl hc i pins s3 σ3 H3 X.xe I3 (j3 JK) JJ go) λr s4 ⟨u,hr,h4⟩=>?_);subst hr;refine wpAny_passesOwn hp (cu h4 λ_ s5 dD=>?_);obtain⟨x,H5,I5,r5,y5,gz,PJ⟩:=dD;have PK:=I5.pinned (j3 PJ) (T.obj _ _ gz);refine wpAny_passesOwn hp (cu (hg _ s5 σ3 H5 x u _ PK r5 (step x H5 y5)) λ_ s6 ⟨σ6,H6,I6,q6⟩=>?_);refine wpAny_passesOwn hp (cu (hb _ s6 σ6 H6 _ I6 q6) λf s7 q7=>?_);have again:∀{σ7:St} {H7:Hp},Inv X (pins++j2 fp s5.heap) σ7 H7 s7->N σ7 H7->∃m,m<n/\∃i σ' H',Inv X pins σ' H' s7/\tn i s7.heap/\(∀b∈fp,H' b=none)/\W i m σ' H':=λ{σ7 H7} I7 n7=>by
   obtain⟨m',hm,w7⟩:=hN σ7 H7 n7;refine⟨m',hm,i+1,σ7,H7,I7.hG,T.keep _ _ _ gz λb hb o e=>(I7.pin (b,o) (aaO _ (aaO _ (dH hb e)))).1,λb hb=>?_,w7⟩;obtain⟨o,e,d⟩:=T.obj _ _ gz b hb;exact(I7.pin (b,o) (aaO _ (aaO _ (dH hb e)))).2.1
  cases f with
  | next=>obtain⟨σ7,H7,I7,n7⟩:=q7;exact again I7 n7
  | cont=>obtain⟨σ7,H7,I7,n7⟩:=q7;exact again I7 n7
  | brk=>obtain⟨σ7,H7,I7,q7⟩:=q7;exact⟨σ7,H7,I7.hG,q7⟩
  | ret v=>obtain⟨x7,σ7,H7,I7,r7,q7⟩:=q7;exact⟨x7,σ7,H7,I7.hG,r7,q7⟩
variable {pos : Pos}
theorem DS {es:List Expr} {k:Nat} {t:CG} {n:Nat} (hc:fy X) (h:EZ X es t)
  (hn:(assignEach es X.env).length=n:=by rfl) (j1:(assignEach es X.env).findIdx? (·.1)=none:=by rfl):PG X (.Tuple es k pos) (vD X.K n t):=by
 rcases hc with hc | mO
 ·exact Ax hc h hn j1
 intro pins s σ H v u Q I r hw;obtain⟨a,xs,e1,hq,hl,hw⟩:=hw;subst e1;cases r;obtain⟨bE,rv,ht,hz⟩:=I.tuple hq;refine zy (I.mO mO) ht (by simp [hn,<-hl,rv.length]) j1 λh' hx=>?_;have I1:Inv X pins σ H {s with heap:=h'}:=I.kept (t':=s.toks) λb o e=>hx b o (aaA (Heap.lt_size e)) e;exact h pins _ σ H xs _ Q I1 (by simpa using rv) hw
theorem wz (hc:fy X):dz X (.builtin "min") (λxs H Q=>∃i j,xs=[.int i,.int j]/\Q (.int (if j<i then j else i)) H):=by
 rcases hc with hc | mO
 ·exact jv hc
 intro pins s σ H xs us Q I r h;obtain⟨i,j,rfl,q⟩:=h;obtain⟨u,w',rfl,⟨t,rfl⟩,⟨t',rfl⟩⟩:=vals2 r;refine DR (I.mO mO) λh' tk k=>⟨_,H,I.kept k,?_,q⟩
 by_cases hj:j<i
 ·rw[if_pos hj,if_pos hj];exact⟨_,rfl⟩
 ·rw[if_neg hj,if_neg hj];exact⟨_,rfl⟩
end
section
variable {X : Cx}
theorem fy.block {X:Cx} {pins:List (Addr×Obj)} {σ:St} {H2:Hp} {s2:Shared} {N':List Str} {scope:Scope} {cl:List (Str×Addr)} {C:Addr} {fp:List Addr} (I:Inv X pins σ H2 s2) (f2:∀b∈fp,fF X pins H2 b) (wm:fy X):fy (fC X N' scope cl C s2 H2 fp):=by
 rcases wm with h | hx
 ·exact .inl h
 ·have hx0:=hx;obtain⟨h,oh,vs,h1,h2,h3,h4,h5,h6,h7⟩:=hx;have g:=I.base.keep h oh h2 h3 h4 h5;refine .inr ⟨h,oh,vs,h1,g,I.base.free h oh h2 h3 h5,λz=>?_,λz=>hx0.off (f2 h z) h h1 rfl,h6,h7⟩;rcases List.mem_cons.mp (I.i7 h z) with e | e
  ·have:=I.ok.above;rw[<-e] at this;exact absurd (aaL (Heap.lt_size h2) this) (aaN _)
  ·exact h4 e
theorem zA {elt target iter:Expr} {ifs:List Expr} {scope:Scope} {pos:Pos} {g:TG} {tc:TT} {te:TE} {k:Nat} {fr:List Nat} {N':List Str} {cl:List (Str×Addr)} {pins:List (Addr×Obj)} {σ:St} {H2:Hp} {s2:Shared}
  {it:Addr} {fp:List Addr} {tn:Nat->Heap->Prop} {J:It} {fin:List V->Hp->Prop} {R0:Result->Shared->Prop} {XE:List (Str×Addr)->Addr->Shared->Hp->List Addr->Value->Shared->Prop}
  (hc:fy X) (S:dA X.N X.env.scope N' scope k fr) (c1:∀x c,cl.lookup x=some c->X.env.cells.lookup x=some c) (c2:∀n,(n,NameKind.free)∈scope.names->∃c,cl.lookup n=some c) (cin:∀x c,(x,c)∈cl->∃y,X.env.cells.lookup y=some c) (DB:∀x,(x,NameKind.cell)∈scope.names->∀c,(x,c)∉cl)
  (hg:∀cl C s H ex,PG (fC X N' scope cl C s H ex) target g) (ht:∀cl C s H ex,A1 (fC X N' scope cl C s H ex) ifs tc) (he:∀cl C s H ex,PE ((fC X N' scope cl C s H ex).iw (XE cl C s H ex)) elt te)
  (I2:Inv X pins σ H2 s2) (T:x6 X.prog X.w X.K target J fp it tn) (mX:tn 0 s2.heap) (f2:∀b∈fp,fF X pins H2 b) (hb:fc J g tc te (stC k fr σ) H2 fin)
  (hR:∀(C:Addr),C=(s2.heap.push {cls:=.type "list",dict:=none,data:=.seq ([]:List Value).toArray}).objs.size->∀(s':Shared) (m:Str->Option Value) (ys:List V) (bE:List Value) (n:Nat) (H':Hp),s2.heap.objs.size<C->s'.heap.Ns C m->bQ ys bE->ys.length<=sizeLine->s'.heap.get? s2.heap.objs.size=some (c6 bE n)->H' s2.heap.objs.size=none->H' C=none->fin ys H'->
   s'.os=s2.os->AllBare s'.gens->Un (dN X.stack) fp H2 H' s2.heap s'.heap->gy X.prog X.w H' s'.heap->R0 (.ok .next) s')
  (hE:∀cl C x s',C=(s2.heap.push {cls:=.type "list",dict:=none,data:=.seq ([]:List Value).toArray}).objs.size->s2.heap.objs.size<C->XE cl C s2 H2 fp x s'->notedBy (model X.prog X.w) X.A (compEnvC scope cl C X.env) (λy nX=>R0 (.error y) nX) x s'):
  codeAny (model X.prog X.w) X.A (.compStart (.ListComp elt [⟨target,iter,ifs,0⟩] scope pos) 0 (.ref it) (.ref s2.heap.objs.size) (compEnvC scope (cellsFrom ((s2.heap.push {cls:=.type "list",dict:=none,data:=.seq ([]:List Value).toArray}).objs.size+1) scope.names cl) (s2.heap.push {cls:=.type "list",dict:=none,data:=.seq ([]:List Value).toArray}).objs.size X.env)) R0 {s2 with heap:=pushCells ((s2.heap.push {cls:=.type "list",dict:=none,data:=.seq ([]:List Value).toArray}).push {cls:=.type "dict",data:=.dict #[]}) scope.names}:=by
 obtain⟨W,⟨m0,w0⟩,turn⟩:=hb;have lt:∀b∈fp,b<s2.heap.objs.size:=λb hb=>by
  obtain⟨o,e,_⟩:=T.obj _ _ mX b hb;exact Heap.lt_size e
 generalize Hj:s2.heap.push {cls:=.type "list",dict:=none,data:=.seq ([]:List Value).toArray}=G2 at hR hE ⊢;have ze:G2.objs.size=s2.heap.objs.size+1:=by rw[<-Hj,Heap.size_push]
 have J4:s2.heap.objs.size≠G2.objs.size:=by rw[ze];exact aaA (aaR _)
 have hC:s2.heap.objs.size<=G2.objs.size:=by rw[ze];exact Nat.le_succ _
 have old:∀b o,s2.heap.get? b=some o->(pushCells (G2.push {cls:=.type "dict",data:=.dict #[]}) scope.names).get? b=some o:=λb o e=>by
  refine pushCells_keeps _ _ b o (Heap.get?_push_of_some _ ?_);rw[<-Hj];exact Heap.get?_push_of_some _ e
 have zf:(pushCells (G2.push {cls:=.type "dict",data:=.dict #[]}) scope.names).get? s2.heap.objs.size=some (c6 [] 0):=by
  refine pushCells_keeps _ _ _ _ (Heap.get?_push_of_some _ ?_);rw[<-Hj];exact Heap.get?_push_size _ rfl
 have Hk:(pushCells (G2.push {cls:=.type "dict",data:=.dict #[]}) scope.names).Ns G2.objs.size λ_=>none:=(Heap.Ns.new G2 (.type "dict")).keeps (pushCells_keeps _ _);have J5:∀x c,(x,c)∈cl->c<G2.objs.size+1:=λx c m=>by
  obtain⟨y,hy⟩:=cin x c m;obtain⟨v,q⟩:=I2.cell y c hy;rw[ze];exact aa1 (aa1 q.lt)
 have B:DA X scope (cellsFrom (G2.objs.size+1) scope.names cl) s2.heap.objs.size G2.objs.size (pushCells (G2.push {cls:=.type "dict",data:=.dict #[]}) scope.names):=by
  have own:=jy scope.names (G2.push {cls:=.type "dict",data:=.dict #[]}) cl;rw[Heap.size_push] at own;refine⟨λx c e=>?_,λx y c hc h1 h2=>?_,λn hn=>?_,λn hn c e=>?_,λx c hx e=>?_⟩
  ·by_cases hx:(x,NameKind.cell)∈scope.names
   ·rcases own x c (aaV e) with m | ⟨q1,q2,_⟩
    ·
     exfalso;exact DB x hx c m
    ·exact .inr ⟨aaI hC (Nat.le_of_succ_le q1),q1,q2⟩
   ·rw[eZ _ _ _ _ hx] at e;exact .inl (c1 x c e)
  ·exact jz scope.names (G2.objs.size+1) (G2.objs.size+1) cl J5 (λx y c hl m1 _=>absurd (J5 x c m1) (Nat.not_lt.mpr hl)) x y c hc (aaV h1) (aaV h2)
  ·refine Option.isSome_iff_exists.mp (jA _ _ _ n ?_);rcases hn with hn | hn
   ·obtain⟨c,e⟩:=c2 n hn;exact .inr (by rw[e];rfl)
   ·exact .inl hn
  ·have hx:(n,NameKind.cell)∉scope.names:=λm=>by
    have:=(S.zd _ m rfl).1;rw[hn] at this;cases this
   rw[eZ _ _ _ _ hx] at e;exact c1 n c e
  ·have hx:=aaV hx;rcases own x c (aaV e) with m | ⟨q1,q2,_⟩
   ·exact absurd m (DB x hx c)
   ·exact aaI hC (Nat.le_of_succ_le q1)
 generalize pushCells (G2.push {cls:=.type "dict",data:=.dict #[]}) scope.names=h₁ at *;generalize cellsFrom (G2.objs.size+1) scope.names cl=j6 at *;generalize wa:s2.heap.objs.size=D at *;generalize hCc:G2.objs.size=C at *;have fD:H2 D=none:=by rw[<-wa];exact I2.bV.fresh (aav _)
 have cells:∀x c,j6.lookup x=some c->c≠D:=λx c e=>by
  rcases B.old _ _ e with o | o
  ·obtain⟨v,q⟩:=I2.cell x c o;rw[<-wa];exact aaA q.lt
  ·exact aa4 (aa8 (by rw[ze];exact aaR _) o.2.1)
 have loop:∀(tS:Addr) (s3:Shared),tS=it->(∃tk,s3={s2 with heap:=h₁,toks:=tk})->
   codeAny (model X.prog X.w) X.A (.compLoop (.ListComp elt [⟨target,iter,ifs,0⟩] scope pos) 0 (.ref tS) (.ref D) (compEnvC scope j6 C X.env)) R0 s3:=by
  rintro tS s3 rfl ⟨tk,rfl⟩;have I3:Inv (fC X N' scope j6 C s2 H2 fp) [] (stC k fr σ) H2 {s2 with heap:=h₁,toks:=tk}:=xJ I2 S (by rw[wa];exact B) (by rw[wa];exact hC) f2 (by rw[wa];exact lt) old Hk;have j3:∀{H':Hp} {o:Obj},(∀b∈fp,H' b=none)->∀b∈fp,fF (fC X N' scope j6 C s2 H2 fp) [(D,o)] H' b:=λ{H' o} hn b hb=>
   ⟨hn b hb,aaA (aaL (lt b hb) hC),λz=>by
    rcases List.mem_cons.mp (I2.i7 b z) with q | q
    ·exact(f2 b hb).2.1 q
    ·exact(f2 b hb).2.2.1 q,.inl hb,λx c e=>(B.old _ _ e).elim (λo=>(f2 b hb).2.2.2.2.1 x c o) (λo=>aa4 (aaL (lt b hb) o.1)),λp hp=>by
    have e:p=(D,o):=by simpa [fC] using hp
    rw[e];exact aa4 (lt b hb)⟩
  have Hl:∀{σ':St} {H':Hp} {s':Shared} {o:Obj},Inv (fC X N' scope j6 C s2 H2 fp) [] σ' H' s'->s'.heap.get? D=some o->H' D=none->(∀v,o.data≠.cell v)->Inv (fC X N' scope j6 C s2 H2 fp) [(D,o)] σ' H' s':=λ{σ' H' s' o} I' e n hd=>
   I'.gC λp hp=>by
    have q:p=(D,o):=by simpa using hp
    subst q;refine⟨e,n,J4,λz=>?_,hd⟩;obtain⟨_,ob,ho,_⟩:=I2.stack.mem z;exact absurd (Heap.lt_size ho) (by rw[wa];exact aaN _)
  have P9:∀{bE:List Value} {n:Nat} (v:Option Value),(c6 bE n).data≠.cell v:=λv z=>by
   have z:Data.seq _ _=Data.cell v:=z;cases z
  refine fm (λn s'=>∃i ys σ' H' bE rM,Inv (fC X N' scope j6 C s2 H2 fp) [] σ' H' s'/\tn i s'.heap/\(∀b∈fp,H' b=none)/\s'.heap.get? D=some (c6 bE rM)/\H' D=none/\bQ ys bE/\ys.length<=sizeLine/\W i n ys σ' H') ?_ m0
   ⟨0,[],_,H2,[],0,I3,T.keep _ _ _ mX (λb _ o e=>old b o e),λb hb=>(f2 b hb).1,zf,fD,.nil,aaz _,w0⟩
  rintro n s4 ⟨i,ys,σ4,H4,bE,rM,I4,J6,Fc,Qa,J7,DC,J8,w4⟩;have J9:=Hl I4 Qa J7 P9;rcases turn i n ys σ4 H4 w4 with ⟨stop,qf⟩ | ⟨go,step⟩
  ·refine cu (T.done (fC X N' scope j6 C s2 H2 fp) rfl rfl rfl (fy.block I2 f2 hc) i _ s4 σ4 H4 _ J9 (j3 Fc) J6 stop) λr s5 ⟨hr,I5⟩=>?_;subst hr;obtain⟨m5,Qb,_⟩:=I5.loc;exact hR C rfl s5 m5 ys bE rM H4 (by rw[ze];exact aaR _) Qb DC J8 (I5.pin (D,c6 bE rM) (aaO _ aaE)).1 J7 I5.free qf I5.os I5.bare I5.base I5.bV
  ·refine cu (T.item (fC X N' scope j6 C s2 H2 fp) rfl rfl rfl (fy.block I2 f2 hc) i _ s4 σ4 H4 _ J9 (j3 Fc) J6 go) λr s5 ⟨u,hr,h5⟩=>?_;subst hr;refine cu h5 λ_ s6 dD=>?_;obtain⟨x,H6,I6,r6,y6,Hm,Qc⟩:=dD;have Qd:=I6.pinned (j3 Qc) (T.obj _ _ Hm);refine cu (hg j6 C s2 H2 fp _ s6 σ4 H6 x u _ Qd r6 (step x H6 y6)) λ_ s7 ⟨σ7,H7,I7,q7⟩=>?_;refine cu (ht j6 C s2 H2 fp _ s7 σ7 H7 _ I7 q7) λok s8 ⟨H8,I8,q8⟩=>?_;have back:∀{σ':St} {H':Hp} {s':Shared},Inv (fC X N' scope j6 C s2 H2 fp) ([(D,c6 bE rM)]++j2 fp s6.heap) σ' H' s'->tn (i+1) s'.heap/\(∀b∈fp,H' b=none)/\s'.heap.get? D=some (c6 bE rM)/\H' D=none:=λ{σ' H' s'} I'=>by
    have pD:=I'.pin (D,c6 bE rM) (aaO _ (aba _ (by simp)));refine⟨T.keep _ _ _ Hm λb hb o e=>(I'.pin (b,o) (aaO _ (aaO _ (dH hb e)))).1,λb hb=>?_,pD.1,pD.2.1⟩;obtain⟨o,e,d⟩:=T.obj _ _ Hm b hb;exact(I'.pin (b,o) (aaO _ (aaO _ (dH hb e)))).2.1
   cases ok with
   | false=>
    rw[if_neg aaM];rw[if_neg aaM] at q8;obtain⟨m',hm,w8⟩:=q8;obtain⟨b1,b2,b3,b4⟩:=back I8;exact⟨m',hm,i+1,ys,σ7,H8,bE,rM,I8.gC (λp hp=>absurd hp (by simp)),b1,b2,b3,b4,DC,J8,w8⟩
   | true=>
    rw[if_pos rfl];rw[if_pos rfl] at q8;refine wpAny_mono (he j6 C s2 H2 fp _ s8 σ7 H8 _ (I8.iw _) q8) (λy s9 ⟨z,H9,I9,r9,gF,m',hm,w9⟩=>?_) λx s' hx=>hE j6 C x s' rfl (by rw[ze];exact aaR _) hx;have I9:=I9.eX;obtain⟨b1,b2,b3,b4⟩:=back I9;have hl:=DC.length;refine call_meets F.slot_list_append ⟨_,b3,rfl⟩ F.entry_list_append (F.args_list_append_2 _ _) (PySem.list_append D bE.toArray rM y (by rw[aaD];omega)) ⟨b3,?_⟩;obtain⟨c',q⟩:∃c',(s9.heap.update D (Obj.mapSeq λx=>x.push y)).get? D=some (c6 (bE++ [y]) c'):=by
     have q:=PySem.IsL.update b3 (λx=>x.push y);rw[show bE.toArray.push y=(bE++ [y]).toArray by simp] at q;exact⟨_,q⟩
    have Qe:Inv (fC X N' scope j6 C s2 H2 fp) [] σ7 H9 s9:=I9.gC (λp hp=>absurd hp (by simp));have kp:∀b o,b≠D->s9.heap.get? b=some o->(s9.heap.update D (Obj.mapSeq λx=>x.push y)).get? b=some o:=λb o hb e=>(Heap.get?_update_other s9.heap (Obj.mapSeq λx=>x.push y) (Ne.symm hb)).trans e;have Qf:=Qe.turned (t':=s9.toks) (it:=D) (h':=s9.heap.update D (Obj.mapSeq λx=>x.push y)) kp b4 J4 (.inr (by show s2.heap.objs.size<=D;rw[wa];exact aav _)) (λx c e=>cells x c e) (λp hp=>absurd hp (by simp [fC]));refine⟨m',hm,i+1,ys++ [z],σ7,H9,bE++ [y],c',Qf,T.keep _ _ _ b1 (λb hb o e=>kp b o (aaA (lt b hb)) e),b2,q,b4,DC.append (.cons r9 .nil),?_,w9⟩
    ·rw[aay,aa0];omega
 exact codeAny_compStart_list (loop it _ rfl ⟨_,rfl⟩) (T.self _ 0 _ _ _ (T.keep _ _ _ mX (λb _ o e=>old b o e)) (loop it _ rfl ⟨_,rfl⟩))
theorem wA {elt target iter:Expr} {ifs:List Expr} {scope:Scope} {pos:Pos} {g:TG} {tc:TT} {te:TE} {k:Nat} {fr:List Nat} {N':List Str} {cl:List (Str×Addr)} {pins:List (Addr×Obj)} {σ:St} {H2:Hp} {s2:Shared}
  {it:Addr} {fp:List Addr} {tn:Nat->Heap->Prop} {J:It} {E:Value->Shared->Prop} {fin:List V->Hp->Prop} {RR:Value->Addr->Result->Shared->Prop} {XE:List (Str×Addr)->Addr->Shared->Hp->List Addr->Value->Shared->Prop}
  (hc:fy X) (S:dA X.N X.env.scope N' scope k fr) (c1:∀x c,cl.lookup x=some c->X.env.cells.lookup x=some c) (c2:∀n,(n,NameKind.free)∈scope.names->∃c,cl.lookup n=some c) (cin:∀x c,(x,c)∈cl->∃y,X.env.cells.lookup y=some c) (DB:∀x,(x,NameKind.cell)∈scope.names->∀c,(x,c)∉cl)
  (hg:∀cl C s H ex,PG (fC X N' scope cl C s H ex) target g) (ht:∀cl C s H ex,A1 (fC X N' scope cl C s H ex) ifs tc) (he:∀cl C s H ex,PE ((fC X N' scope cl C s H ex).iw (XE cl C s H ex)) elt te)
  (I2:Inv X pins σ H2 s2) (T:x6 X.prog X.w X.K target J fp it tn) (mX:tn 0 s2.heap) (f2:∀b∈fp,fF X pins H2 b) (hb:fc J g tc te (stC k fr σ) H2 fin)
  (hR:∀(C:Addr) (s':Shared) (m:Str->Option Value) (ys:List V) (bE:List Value) (n:Nat) (H':Hp),s2.heap.objs.size<C->s'.heap.Ns C m->bQ ys bE->ys.length<=sizeLine->s'.heap.get? s2.heap.objs.size=some (c6 bE n)->H' s2.heap.objs.size=none->H' C=none->fin ys H'->
   s'.os=s2.os->AllBare s'.gens->Un (dN X.stack) fp H2 H' s2.heap s'.heap->gy X.prog X.w H' s'.heap->RR (.ref s2.heap.objs.size) C (.ok .next) s')
  (hE:∀cl C x s',s2.heap.objs.size<C->XE cl C s2 H2 fp x s'->notedBy (model X.prog X.w) X.A (compEnvC scope cl C X.env) (λy nX=>RR (.ref s2.heap.objs.size) C (.error y) nX) x s'):
  wpAny (model X.prog X.w) X.A (newList []) (λacc s₃=>wpAny (model X.prog X.w) X.A (newFunctionEnv scope X.env.globals cl [] X.env.qual none .none (some X.env)) (λcenv s₄=>
   codeAny (model X.prog X.w) X.A (.compStart (.ListComp elt [⟨target,iter,ifs,0⟩] scope pos) 0 (.ref it) acc {cenv with scope:=relabel scope X.env}) (RR acc cenv.locals) s₄) E s₃) E s2:=by
 refine wpAny_newObj_type (eK ?_);exact zA (R0:=RR _ _) hc S c1 c2 cin DB hg ht he I2 T mX f2 hb (λC e=>by subst e;exact hR _) (λcl C x s' e=>by subst e;exact hE cl _ x s')
theorem Bx {elt target iter:Expr} {ifs:List Expr} {scope so:Scope} {pos:Pos} {wi:TI} {g:TG} {tc:TT} {te:TE} {k:Nat} {fr:List Nat} {N N':List Str} (hc:fy X) (hN:X.N=N) (Hn:X.env.scope=so) (S:dA N so N' scope k fr)
  (hi:OA X target iter wi) (hg:∀cl C s H ex,PG (fC X N' scope cl C s H ex) target g) (ht:∀cl C s H ex,A1 (fC X N' scope cl C s H ex) ifs tc) (he:∀cl C s H ex,PE (fC X N' scope cl C s H ex) elt te)
  (hs:∀x,foldedSetIterable iter X.env x=pure x:=by intro _;rfl):PE X (.ListComp elt [⟨target,iter,ifs,0⟩] scope pos) (tComp wi g tc te k fr):=by
 subst hN Hn;intro pins s σ H Q I h;rw[eval_ListComp];obtain⟨cl,jG,c1,c2,c3⟩:=fh (env:=X.env) (scope:=scope) λn hn=>I.ok.has n (S.outer _ hn rfl);refine wpAny_comprehension_free (use:=none) (cl:=cl) rfl hs jG S.kind S.locs ?_;refine cu (hi pins s σ H _ I h) λv s1 h1=>cu h1 λtS s2 h2=>?_;obtain⟨it,fp,tn,J,H2,rfl,I2,T,mX,f2,hb⟩:=h2;refine wA (RR:=λacc C=>compPost (model X.prog X.w) X.A X.xe none (EP X pins σ Q) acc C) hc S c1 c2 (λx c m=>⟨x,(c3 x c m).1⟩) (λx hx c m=>(S.zd _ hx rfl).2 (c3 x c m).2) (XE:=λ_ _ _ _ _ _ _=>False) hg ht he I2 T mX f2 hb ?_ (λ_ _ _ _ _ z=>False.elim z);intro C s' m ys bE n H' hC hn vl sz hD nD nC fin os bare un bV;exact⟨m,hn,λh' A2=>⟨.ref _,_,comp_back I2 f2 hC vl sz hD nD nC os bare un bV A2,rfl,fin _ (I2.bV.fresh (aav _)) nD⟩⟩
end
open PySem PySem.Spec PyProof.Rows PySem.W
noncomputable def By (s:Shared) (H:Hp) (outer:List Env) (ad:Addr):Prop:=∃oh vs,s.heap.get? ad=some oh/\H ad=none/\ad∉dN outer/\oh.data=.fields vs/\vs[2]?=some .none
theorem By.warm {CX:jw} {P:Program} {w:World} {K:PySem.W.Frag} {mg:Str->Option Value} {base:Heap} {N:List Str} {qual:Str} {scope:Scope} {f:Addr} {cd:Value} {A:Around} {outer:List Env} {s:Shared} {H:Hp} {E:XK} {ad:Addr} (mO:By s H outer ad):fy ((df CX P w K mg base N qual scope f cd A outer s H E).mark ad):=by
 obtain⟨oh,vs,g,n,nf,d,h2⟩:=mO;exact .inr ⟨ad,oh,vs,rfl,g,n,nf,(λz=>by cases z),d,h2⟩
theorem Inv.QA {X:Cx} {ad:Addr} {pins:List (Addr×Obj)} {σ:St} {H:Hp} {s:Shared} (I:Inv (X.mark ad) pins σ H s) (hx:zz (X.mark ad)):By s H X.stack ad:=by
 obtain⟨h,oh,vs,h1,h2,h3,h4,h5,h6,h7⟩:=hx;cases h1;refine⟨oh,vs,I.base.keep ad oh h2 h3 h4 h5,I.base.free ad oh h2 h3 h5,λz=>?_,h6,h7⟩;rcases List.mem_cons.mp (I.i7 ad z) with e | e
 ·have:=I.ok.above;rw[<-e] at this;exact absurd (aaL (Heap.lt_size h2) this) (aaN _)
 ·exact h4 e
structure x8 (P:Program) (w:World) (K:PySem.W.Frag) (mg:Str->Option Value) (base:Heap) (CX:jw) (k:Nat) (f:Addr) (fd:FuncData) (ps:List Str) (sp:Sp):Prop where
 len:∀vs H Q E,sp vs H Q E->vs.length=ps.length
 run:∀(A:Around) (ad:Addr) (outer:List Env) (s:Shared) (H:Hp) (args:Args) (us:List Value) (vs:List V) (Q:VK) (E:XK),dm k A->pK P w K mg base A outer s H->By s H outer ad->BindsTo s fd args (ps.zip us)->bQ vs us->sp vs H Q E->
  codeAny (model P w) (A.mark (some (.ref ad))) (.call (.ref f) args) (CR CX outer P w H s Q E) s
theorem Hz {CX:jw} {P:Program} {w:World} {K:PySem.W.Frag} {mg:Str->Option Value} {base:Heap} {k:Nat} {f:Addr} {name qual:Str} {params:Arguments} {body:List Stmt} {scope:Scope} {dV kV doc pm bZ ct oc:Value} {an od:Option Addr}
  {Ab:Array (Option Value)} {N ps:List Str} {sp:Sp} (lk:K.lookup f=some ⟨oc,od,.func (PySem.W.fnOf name qual params body scope dV kV doc pm an bZ ct),Ab⟩) (tR:PySem.W.codeIn K bZ qual=true) (S:bf N ps scope)
  (len:∀vs H Q E,sp vs H Q E->vs.length=ps.length)
  (kB:∀(A:Around) (ad:Addr) (outer:List Env) (s:Shared) (H:Hp) (vs:List V) (Q:VK) (E:XK),dm k (A.deeper (envOfC qual scope s.heap.objs.size f bZ))->fy ((df CX P w K mg base N qual scope f bZ A outer s H E).mark ad)->sp vs H Q E->
   ∃t,qi ((df CX P w K mg base N qual scope f bZ A outer s H E).mark ad) body t/\t {nx:=λ_ H'=>Q .dP H',rt:=Q} (start N vs) H):
  x8 P w K mg base CX (k+1) f (PySem.W.fnOf name qual params body scope dV kV doc pm an bZ ct) ps sp:=by
 refine⟨len,λA ad outer s H args us vs Q E hr e0 mO hb r vO=>?_⟩;have hl:=len _ _ _ _ vO;have KX:K.In s.heap:=e0.mod.CD.keeps λb o e=>(e0.bs b o e).1;have lim:s.heap.NoLimit:=e0.mod.nolimit.keeps λb o e=>(e0.bs b o e).1;have AK:∀y∈ps.zip us,scope.names.lookup y.1=some .local\/(scope.names.lookup y.1=some .cell/\((cellsFrom (s.heap.objs.size+1) scope.names []).lookup y.1).isSome=true):=fun⟨n,v⟩ hy=>by
  rcases S.par n (List.of_mem_zip hy).1 with q | q
  ·exact .inl q
  ·exact .inr ⟨q,PySem.W.cellsFrom_some _ _ _ (.inl q)⟩
 refine codeAny_call_function (show(A.mark (some (.ref ad))).depth<recursionLimit from hr.depth) (KX _ _ lk) rfl S.co S.gen rfl (PySem.W.codeRec_of KX tR) (hb _ _ _ _ ?_);refine wpAny_newFunctionEnv_cells S.kind AK λenv he s1 x=>?_;subst he;refine⟨lim.keeps x.toInCall.keep,codeAny_func ?_⟩;obtain⟨t,ht,hq⟩:=kB A ad outer s H vs Q E (hr.deeper _) mO.warm vO;have I:Inv (df CX P w K mg base N qual scope f bZ A outer s H E) [] (start N vs) H s1:=qu S hr.hd e0 hl r x;refine wpAny_mono (ht [] s1 (start N vs) H _ (I.mark ad) hq) (λfl s' hs=>?_) λe s' hs=>False.elim hs;have fin:∀{σ':St} {H':Hp} {v:V} {u:Value},Inv ((df CX P w K mg base N qual scope f bZ A outer s H E).mark ad) [] σ' H' s'->RelV v u->Q v H'->CE outer P w H s Q u s':=
  λ{σ' H' v u} J rv q=>⟨v,H',J.os,J.bare,J.base,J.bV,rv,q⟩
 cases fl with
 | ret u=>
  obtain⟨v,σ',H',J,rv,q⟩:=hs;exact fin J rv q
 | next=>
  obtain⟨σ',H',J,q⟩:=hs;exact fin (v:=V.dP) (u:=Value.none) J rfl q
 | brk=>
  obtain⟨_,_,_,q⟩:=hs;exact False.elim q
 | cont=>
  obtain⟨_,_,_,q⟩:=hs;exact False.elim q
structure rT (P:Program) (w:World) (K:PySem.W.Frag) (mg:Str->Option Value) (base:Heap) (CX:jw) (k:Nat) (x:Str) (ps:List Str) (sp:Sp):Prop where
 ex:∃f fd,x8 P w K mg base CX k f fd ps sp/\mg x=some (.ref f)/\PySem.W.keepIn K (.ref f)=true/\Binds K fd ps []
section
variable {P : Program} {w : World} {K : PySem.W.Frag} {mg : Str -> Option Value} {base : Heap} {CX : jw}
theorem ue.QB {x qual:Str} {st:Stmt} {f:Addr} {fd:FuncData} {N ps:List Str} {k:Nat} {sp:Sp} (F:ue K x qual st f fd) (S:bf N ps (au st)) (len:∀vs H Q E,sp vs H Q E->vs.length=ps.length)
  (kB:∀(bZ:Value) (A:Around) (ad:Addr) (outer:List Env) (s:Shared) (H:Hp) (vs:List V) (Q:VK) (E:XK),dm k (A.deeper (envOfC qual (au st) s.heap.objs.size f bZ))->fy ((df CX P w K mg base N qual (au st) f bZ A outer s H E).mark ad)->sp vs H Q E->
   ∃t,qi ((df CX P w K mg base N qual (au st) f bZ A outer s H E).mark ad) (aY st) t/\t {nx:=λ_ H'=>Q .dP H',rt:=Q} (start N vs) H):x8 P w K mg base CX (k+1) f fd ps sp:=by
 obtain⟨oc,od,kV,doc,pm,an,bZ,ct,Ab,rfl,lk,tR⟩:=F.ex;exact Hz lk tR S len λA ad outer s H vs Q E hr wm vO=>kB bZ A ad outer s H vs Q E hr wm vO
theorem Dn.HA {x:Str} {st:Stmt} {ps:List Str} {k:Nat} {sp:Sp} (D:Dn K mg x st)
  (hb:∀(kV doc pm:Value) (an:Option Addr) (bZ ct:Value) (us:List Value),us.length=ps.length->bindArgs (PySem.W.fnOf x x (bb st) (aY st) (au st) .none kV doc pm an bZ ct) ⟨us,[]⟩=pure (ps.zip us))
  (h:∀f fd,ue K x x st f fd->x8 P w K mg base CX k f fd ps sp):rT P w K mg base CX k x ps sp:=by
 obtain⟨f,fd,F,hm⟩:=D.ex;exact⟨f,fd,h f fd F,hm,F.kp,F.binds hb⟩
end
section
variable {X : Cx} {K : PySem.W.Frag}
theorem x9 {CX:jw} {k:Nat} {x:Str} {ps:List Str} {sp:Sp} {e:Expr} {es:List Expr} {t:TA} {p pos:Pos} {ad:Addr} (C:rT X.prog X.w X.K X.mg X.base CX k x ps sp) (hx:zz (X.mark ad)) (hr:dm k X.A) (hg:Gl X x) (j1:lZ CX) (ha:PA (X.mark ad) (e::es) t)
  (lU:(x==("__debug__":Str))=false:=by decide) (he:starEach (e::es) X.env=(false,eval e X.env)::starEach es X.env:=by rfl) (hpl:(backTo pos (starEach es X.env)).any (·.1)=false:=by rfl):
  PE (X.mark ad) (.Call (.Name x p) (e::es) [] pos) (tCall sp [] E0 t):=by
 intro pins s σ H Q I h;obtain⟨f,fd,F,hm,hk,hb⟩:=C.ex;refine wpAny_Call_Name_kw (fS I hg hm ?_ lU);refine PySem.W.callWith_K (h₀:=X.base) I.ok.mod.CD hk (cu (ha pos pins s σ H _ I h) λus s1 ⟨vs,H1,I1,r,q⟩=>⟨I1.jE,?_⟩) he hpl;have q:sp (vs++ []) H1 Q E0:=q;rw[aaP] at q;have hl:us.length=ps.length:=by rw[<-r.length];exact F.len _ _ _ _ q
 have E8:=hb s1 us I1.jE (by rw[aaP];exact hl);rw[aaP] at E8;have e0:pK X.prog X.w X.K X.mg X.base X.A X.stack s1 H1:=⟨I1.iz.frames,I1.iz.mod,I1.iz.bs,I1.iz.xq,I1.iz.iW,I1.iz.zZ,I1.iz.bV,I1.iz.bare⟩
 refine wpAny_call (codeAny_mono (F.run X.A ad X.stack s1 H1 ⟨us,[]⟩ us vs Q E0 hr e0 (I1.QA hx) E8 r q) λr s' hq=>?_);cases r with
 | error e=>exact(j1 _ _ _ _ _ hq).elim
 | ok fl=>
  cases fl with
  | ret u=>exact I1.after hq
  | next=>exact False.elim hq
  | brk=>exact False.elim hq
  | cont=>exact False.elim hq
end
open PySem PySem.Spec PyProof.Rows PySem.W
section
variable {X : Cx} {pins : List (Addr × Obj)} {σ : St} {H H' : Hp} {s s' : Shared} {ad : Addr} {oe : Obj}
abbrev Cx.kY (X:Cx) (ad:Addr) (oe:Obj):Cx:={X.mark ad with pn:=X.pn++ [(ad,oe)]}
theorem Inv.kY (I:Inv X pins σ H s) (he:s.heap.get? ad=some oe) (hn:H ad=none) (hl:ad≠X.env.locals) (hf:ad∉X.fs) (hd:∀v,oe.data≠.cell v):Inv (X.kY ad oe) pins σ H s:=
 ⟨⟨I.ok.mod,I.ok.kind,I.ok.glob,I.ok.blt,I.ok.above,I.ok.inj,I.ok.has,I.ok.ET,λz=>(aaM z).elim,I.ok.frames,I.ok.Gq,I.ok.JC,I.ok.bs,I.ok.xq,I.ok.tN,I.ok.tO,I.ok.iW,I.ok.zZ⟩,
  I.os,I.bare,I.base,I.loc,I.cell,I.free,I.gB,λp hp=>by
   rcases List.mem_append.mp hp with hp | hp
   ·rcases List.mem_append.mp hp with hp | hp
    ·exact I.pin p (aba _ hp)
    ·rw[List.mem_singleton.mp hp];exact⟨he,hn,hl,hf,hd⟩
   ·exact I.pin p (aaO _ hp),I.bV,I.len⟩
theorem Inv.nK (ok:X.Ok) (I:Inv (X.kY ad oe) pins σ H s):Inv X pins σ H s:=
 ⟨ok,I.os,I.bare,I.base,I.loc,I.cell,I.free,I.gB,λp hp=>I.pin p (by
  rcases List.mem_append.mp hp with hp | hp
  ·exact aba _ (aba _ hp)
  ·exact aaO _ hp),I.bV,I.len⟩
theorem Inv.QC (I:Inv (X.kY ad oe) pins σ H s) {vs:Array Value} (hd:oe.data=.fields vs) (h2:vs[2]?=some .none):By s H X.stack ad:=by
 obtain⟨p1,p2,p3,p4,_⟩:=I.pin (ad,oe) (aba _ (aaO _ (List.mem_singleton.mpr rfl)));refine⟨oe,vs,p1,p2,λz=>?_,hd,h2⟩;rcases List.mem_cons.mp (I.i7 ad z) with e | e
 ·exact p3 e
 ·exact p4 e
theorem Bz {cls:Value} {cx:Str} {np uj:Pos} {b₀:Stmt} {mJ:List Stmt} {ts:TS} {C2:Addr} {D:Ends} (I:Inv X pins σ H s) (F:Dw X.prog X.w X.stack H s H' ad cls s') (nc:jg s'.heap ad)
  (j1:X.stack=X.env::X.outer) (hf:X.env.frame=some X.env.locals) (hg:Gl X cx) (hm:X.mg cx=some (.ref C2)) (hx:exmOne X.K cls (.ref C2)=some true)
  (hs:∀oe vs,oe.data=.fields vs->vs[2]?=some .none->qi (X.kY ad oe) (b₀::mJ) ts)
  (h:ts D σ H') (lU:(cx==("__debug__":Str))=false:=by decide):
  wpAny (model X.prog X.w) X.A (noteFrame (.ref ad) X.env) (λ_ s₂=>wpAny (model X.prog X.w) X.A (setFlight (.ref ad) none)
   (λ_ s₃=>wpAny (model X.prog X.w) X.A (handleBy (.ref ad) X.env [.ExceptHandler (some (.Name cx np)) none (b₀::mJ) uj]) (SP X pins D) X.xe s₃) X.xe s₂) X.xe s':=by
 obtain⟨B,a0,fl,c0,c2,c1⟩:=F.fl;have Zd:=fl;rw[j1] at Zd;refine rJ (p:=True) (L:=X.env.locals) (I.ok.frames.trans (by rw[j1])) hf Zd (λ_=>nc) λh4 ya up4 nc4=>?_;refine kK (p:=True) ya.1 ya.2.1 ya.2.2.1 ya.2.2.2 nc4 λh5 IW Ox Qn=>?_;have U5:s'.heap.UpToSlots h5:=up4.trans Ox;have I5:Inv X pins σ H' {s' with heap:=h5}:=F.inv I fl c0 c2 c1 IW.1 U5;obtain⟨ob,hob,QD⟩:=IW.there;refine wpAny_handleBy_cons (codeAny_handlers_test (fS (X:=X.mark ad) (I5.mark ad) hg hm ?_ lU)) (by intro q;cases q);have LT:Looks (model X.prog X.w) h5 (typeOf (.ref ad)) cls:=by
  subst QD;exact(Looks.ld hob).andThen .now
 refine(exm_one I5.jE LT hx).here ?_;refine codeAny_handlers_suite ?_;refine kK (p:=True) IW.1 IW.2.1 IW.2.2.1 IW.2.2.2.at Qn λh6 fl6 up6 Qp=>?_;have I6:Inv X pins σ H' {s' with heap:=h6}:=F.inv I fl c0 c2 c1 fl6.1 (U5.trans up6);obtain⟨oe,vs,hoe,Ze,h2⟩:=Qp trivial;have new:=F.new;have I7:=I6.kY hoe F.tracked (λz=>by
  obtain⟨m,⟨o',es,ep,Aa,_⟩,_⟩:=I.loc;rw[<-z,new] at Aa;cases Aa) (λz=>by
  obtain⟨_,o,ho,_⟩:=I.ok.iW.mem z;obtain⟨o',e'⟩:=I.base.there ad o ho λq=>I.ok.tO ad q z;rw[new] at e';cases e') (λv q=>by rw[Ze] at q;cases q)
 refine wpAny_mono (hs oe vs Ze h2 pins _ _ _ _ I7 h) (λfw s8 hq=>?_) λ_ _ z=>z.elim;cases fw with
 | next=>
  obtain⟨σ8,H8,I9,q8⟩:=hq;exact⟨σ8,H8,I9.nK I.ok,q8⟩
 | brk=>
  obtain⟨σ8,H8,I9,q8⟩:=hq;exact⟨σ8,H8,I9.nK I.ok,q8⟩
 | cont=>
  obtain⟨σ8,H8,I9,q8⟩:=hq;exact⟨σ8,H8,I9.nK I.ok,q8⟩
 | ret u=>
  obtain⟨v8,σ8,H8,I9,r8,q8⟩:=hq;exact⟨v8,σ8,H8,I9.nK I.ok,r8,q8⟩
end
section
variable {X : Cx} {k : Nat} {x : Str} {ps : List Str} {sp : Sp} {e : Expr} {es : List Expr} {t : TA} {p pos : Pos}
noncomputable def Fp (K:PySem.W.Frag) (C2:Addr) (ts:TS) (D:Ends) (σ:St):XK:=λcls c H2=>exmOne K cls (.ref C2)=some true/\c=none/\ts D σ H2
noncomputable def BA (K:PySem.W.Frag) (sp:Sp) (t:TA) (j:Nat) (C2:Addr) (ts:TS):TS:=λD σ H=>t σ H λvs H1=>sp vs H1 (λv H2=>D.nx (σ.set j (some v)) H2) (Fp K C2 ts D σ)
variable {cx : Str} {np uj zc kA : Pos} {b₀ : Stmt} {mJ : List Stmt} {ts : TS} {C2 : Addr}
theorem BB {y:Str} {j:Nat} {KC:Pos} (C:iB X.prog X.w X.K X.mg X.base (cN X.prog X.w) k x ps sp) (hr:dm k X.A) (hg:Gl X x) (ha:PA X.IM (e::es) t) (j1:X.stack=X.env::X.outer) (hf:X.env.frame=some X.env.locals)
  (hgc:Gl X cx) (hm:X.mg cx=some (.ref C2)) (hN:X.N.Nodup) (hj:X.N[j]?=some y) (hy:X.env.scope.names.lookup y=some .local) (hs:∀ad oe vs,oe.data=.fields vs->vs[2]?=some .none->qi (X.kY ad oe) (b₀::mJ) ts)
  (Qh:swapsWith (.Call (.Name x p) (e::es) [] pos) (some (.Name y KC)) zc.line X.env=pure false:=by rfl) (lU:(x==("__debug__":Str))=false:=by decide) (hdc:(cx==("__debug__":Str))=false:=by decide)
  (he:starEach (e::es) X.env=(false,eval e X.env)::starEach es X.env:=by rfl) (hpl:(backTo pos (starEach es X.env)).any (·.1)=false:=by rfl):
  PS X (.Try [.Assign [.Name y KC] (.Call (.Name x p) (e::es) [] pos) zc] [.ExceptHandler (some (.Name cx np)) none (b₀::mJ) uj] [] [] kA) (BA X.K sp t j C2 ts):=by
 intro pins s σ H D I h;refine wpAny_Try_except (wpAny_execs_cons (wpAny_Assign_Name (cu (Dz C hr hg ha I h (λH1 s1 e1 s' I1 ⟨ad,cls,_,H',ee,⟨F,nc⟩,hx,ec,q⟩=>?_) lU he hpl) λv s1 ⟨z,H1,I1,r1,q1⟩=>?_) Qh))
 ·subst ee;exact Bz I1 F (nc ec) j1 hf hgc hm hx (hs ad) q hdc
 ·exact i8 I1 hN hj (.inl hy) r1 (λs2 I2=>wpAny_execs_nil (wpAny_execs_nil ⟨_,H1,I2,q1⟩)) (.inr hy)
end
section
variable {X : Cx} {K : PySem.W.Frag}
theorem DT {CX:jw} {k:Nat} {x:Str} {ps:List Str} {sp:Sp} {e:Expr} {es:List Expr} {t:TA} {p pos:Pos} {ad:Addr} {oe:Obj} {vx:Array Value} (C:rT X.prog X.w X.K X.mg X.base CX k x ps sp) (hd:oe.data=.fields vx) (h2:vx[2]?=some .none) (hr:dm k X.A) (hg:Gl X x) (j1:lZ CX) (ha:PA (X.kY ad oe) (e::es) t)
  (lU:(x==("__debug__":Str))=false:=by decide) (he:starEach (e::es) X.env=(false,eval e X.env)::starEach es X.env:=by rfl) (hpl:(backTo pos (starEach es X.env)).any (·.1)=false:=by rfl):
  PE (X.kY ad oe) (.Call (.Name x p) (e::es) [] pos) (tCall sp [] E0 t):=by
 intro pins s σ H Q I h;obtain⟨f,fd,F,hm,hk,hb⟩:=C.ex;refine wpAny_Call_Name_kw (fS I hg hm ?_ lU);refine PySem.W.callWith_K (h₀:=X.base) I.ok.mod.CD hk (cu (ha pos pins s σ H _ I h) λus s1 ⟨vs,H1,I1,r,q⟩=>⟨I1.jE,?_⟩) he hpl;have q:sp (vs++ []) H1 Q E0:=q;rw[aaP] at q;have hl:us.length=ps.length:=by rw[<-r.length];exact F.len _ _ _ _ q
 have E8:=hb s1 us I1.jE (by rw[aaP];exact hl);rw[aaP] at E8;have e0:pK X.prog X.w X.K X.mg X.base X.A X.stack s1 H1:=⟨I1.iz.frames,I1.iz.mod,I1.iz.bs,I1.iz.xq,I1.iz.iW,I1.iz.zZ,I1.iz.bV,I1.iz.bare⟩
 refine wpAny_call (codeAny_mono (F.run X.A ad X.stack s1 H1 ⟨us,[]⟩ us vs Q E0 hr e0 (I1.QC hd h2) E8 r q) λr s' hq=>?_);cases r with
 | error e=>exact(j1 _ _ _ _ _ hq).elim
 | ok fl=>
  cases fl with
  | ret u=>exact I1.after hq
  | next=>exact False.elim hq
  | brk=>exact False.elim hq
  | cont=>exact False.elim hq
end
section
variable {X : Cx} {K : PySem.W.Frag}
theorem hV {tg l:Expr} {tl:TE} (hl:PE X l tl) (hK:X.K=K:=by rfl):OA X tg l (iList K tl):=by subst hK;exact Bw hl
theorem uB {es:List Expr} {k:Nat} {t:CG} {n:Nat} {pos:Pos} (hc:fy X) (h:EZ X es t) (hn:(assignEach es X.env).length=n:=by rfl) (j1:(assignEach es X.env).findIdx? (·.1)=none:=by rfl) (hK:X.K=K:=by rfl):PG X (.Tuple es k pos) (vD K n t):=by
 subst hK;exact DS hc h hn j1
end
end L2
namespace K55
open PySem PySem.Spec PyProof.Rows L2
set_option maxHeartbeats 4000000
local macro_rules | `(tactic| simp! only [$ls,*]) => `(tactic| simp only [↓exV, ↓exI, ↓exB, ↓exR, ↓exS, ↓exII, ↓exRI, ↓exRa, ↓exRb, ↓rdV_c, ↓rdR_c, ↓rdI_c, ↓rdB_c, ↓rdS_c, L2.start, rdV_c, rdR_c, rdI_c, rdB_c, rdS_c, rdL1_c, rdL2_c, rdL3_c, rdL4_c, rdV_eq, rdR_eq, rdI_eq, rdB_eq, rdS_eq, rdL1_eq, rdL2_eq, rdL3_eq, rdL4_eq, Pr, tSortR, tSl, tNoPart, tPart, rSlL, tDNotIn, gSub, rSetL, tLst, tDNewK, tComp, L2.stC, tFor_eq, iList, iRng1, iRng2, iEnum, tChain, tSumV, tBM, tRaise, tDGet, tDGet2, sDPut, Option.join_some, List.getElem?_nil, tSeq, tRet, tIfS, tTest, tB, tOp, tUn, tVar, tC, tCB, tCons, tNil, tCall, tTupS, tAsg, gName, gNil, gCons, tPar, tNext, tDrop, tAnd, tOr, tNot, tAndV, tIf, rI, rI0, rU, rIxTH, rIxLH, rEq, rNe, scal_ss, scal_ii, scal_bb, scal_si, scal_is, at0, at1, at2, List.map_cons, List.map_nil, List.length_cons, List.length_nil, Nat.reduceSub, Nat.reduceAdd, Nat.zero_add, List.replicate_zero, List.reduceReplicate, List.append_nil, List.nil_append, List.cons_append, List.getElem?_cons_zero, List.getElem?_cons_succ, List.set_cons_zero, List.set_cons_succ, Option.some.injEq, exists_eq_left', exists_eq_left, V.ref.injEq, V.int.injEq, V.bl.injEq, V.str.injEq, V.ty.injEq, HO.tup.injEq, HO.lst.injEq, List.cons.injEq, and_true, true_and, and_assoc, exists_and_left, decide_eq_true_eq, Bool.not_eq_true', decide_eq_false_iff_not, ite_true, ite_false, if_true, if_false, Int.reduceToNat, eq_self_iff_true, $ls,*])
local macro_rules | `(tactic| simp_all only [$ls,*]) => `(tactic| (first | ((dsimp (config := { zetaDelta := true }) only [L2.start, rdV_c, rdR_c, rdI_c, rdB_c, rdS_c, rdL1_c, rdL2_c, rdL3_c, rdL4_c, Pr, tSortR, tSl, tNoPart, tPart, rSlL, tDNotIn, gSub, rSetL, tLst, tDNewK, tComp, L2.stC, tFor_eq, iList, iRng1, iRng2, iEnum, tChain, tSumV, tBM, tRaise, tDGet, tDGet2, sDPut, tSeq, tRet, tIfS, tTest, tB, tOp, tUn, tVar, tC, tCB, tCons, tNil, tCall, tTupS, tAsg, gName, gNil, gCons, tPar, tNext, tDrop, tAnd, tOr, tNot, tAndV, tIf, rI, rI0, rU, rIxTH, rIxLH, rEq, rNe, scal_ss, scal_ii, scal_bb, scal_si, scal_is, List.map_cons, List.map_nil, List.length_cons, List.length_nil, Nat.reduceSub, Nat.reduceAdd, List.replicate_zero, List.reduceReplicate, List.nil_append, List.cons_append, List.getElem?_cons_zero, List.getElem?_cons_succ, List.set_cons_zero, List.set_cons_succ, $ls,*]); try simp! only [$ls,*]) | simp! only [$ls,*]))
seal L2.PE L2.PT L2.PW L2.PA L2.PS L2.qi L2.PG L2.EZ L2.PI L2.A1 L2.PO L2.lQ L2.Oh L2.dz L2.E2 L2.JQ L2.IP L2.IQ
theorem gE {P:Program} {w:World}:lZ (cN P w):=xI P w
set_option genInjectivity false in
set_option genSizeOf false in
structure Txt (K:PySem.W.Frag) (mg:Str->Option Value) (aH aI aF aV aq aD:Addr):Prop where
 z_abs:mg "abs"=none
 z_bool:mg "bool"=none
 z_enumerate:mg "enumerate"=none
 z_int:mg "int"=none
 z_isinstance:mg "isinstance"=none
 z_len:mg "len"=none
 z_list:mg "list"=none
 z_max:mg "max"=none
 z_min:mg "min"=none
 z_range:mg "range"=none
 z_sorted:mg "sorted"=none
 z_sum:mg "sum"=none
 z_tuple:mg "tuple"=none
 mi:Dn K mg "common_divisor" (top 7)
 DU:Dn K mg "share" (top 8)
 m6:Dn K mg "common_bottom" (top 9)
 kc:Dn K mg "table_by_weights" (top 11)
 wB:Dn K mg "table_of" (top 12)
 uC:Dn K mg "bottom_of" (top 13)
 zB:Dn K mg "weighed" (top 14)
 DV:Dn K mg "power" (top 18)
 rV:Dn K mg "most_faces" (top 19)
 pW:Dn K mg "part_bottom" (top 20)
 rW:Dn K mg "part_count" (top 21)
 rX:Dn K mg "check_size" (top 22)
 rY:Dn K mg "dice_faces" (top 23)
 pX:Dn K mg "again_faces" (top 24)
 pY:Dn K mg "burst_faces" (top 25)
 rZ:Dn K mg "part_faces" (top 26)
 wC:Dn K mg "value_of" (top 27)
 m7:Dn K mg "sides_product" (top 28)
 pZ:Dn K mg "part_throws" (top 29)
 kd:Dn K mg "throws_by_bottom" (top 30)
 sh:Dn K mg "pool_table" (top 31)
 wD:Dn K mg "own_rows" (top 34)
 wF:Dn K mg "own_what" (top 35)
 si:Dn K mg "throw_ways" (top 38)
 uD:Dn K mg "pick_ways" (top 39)
 wG:Dn K mg "taken_up" (top 40)
 BC:Dn K mg "spread" (top 41)
 zC:Dn K mg "_law_at" (top 43)
 uE:Dn K mg "_law_pool" (top 44)
 uF:Dn K mg "_law_rows" (top 45)
 oN:Dn K mg "_law_sum" (top 46)
 oO:Dn K mg "_law_divisor" (top 47)
 mP:Dn K mg "_law_ways" (top 48)
 oP:Dn K mg "_law_weights" (top 49)
 sj:Dn K mg "_law_right" (top 50)
 uG:Dn K mg "_law_many" (top 51)
 c_MOST_THROWS:∃t,mg "MOST_THROWS"=some (.int 1296 t)
 c_MOST_BOTTOM:∃t,mg "MOST_BOTTOM"=some (.int 1000000 t)
 c_MOST_STATES:∃t,mg "MOST_STATES"=some (.int 120 t)
 k_NoShare:mg "NoShare"=some (.ref aH)
 k_NoTable:mg "NoTable"=some (.ref aI)
 k_TooMany:mg "TooMany"=some (.ref aF)
 k_NoWay:mg "NoWay"=some (.ref aV)
 k_Course:mg "Course"=some (.ref aq)
 k_Finder:mg "Finder"=some (.ref aD)
 x_NoShare:PySem.W.excIn K aH rK kO=true
 x_NoTable:PySem.W.excIn K aI rK kO=true
 x_TooMany:PySem.W.excIn K aF rK kO=true
 x_NoWay:PySem.W.excIn K aV rK kO=true
 e_TooMany_TooMany:PySem.W.exmOne K (.ref aF) (.ref aF)=some true
 aQ:xx K aq
 cf:xx K aD
 na_Course_first:PySem.W.findIn K (.ref aq) "first"=some none
 na_Course_mosts:PySem.W.findIn K (.ref aq) "mosts"=some none
 na_Course_spots:PySem.W.findIn K (.ref aq) "spots"=some none
 na_Course_tables:PySem.W.findIn K (.ref aq) "tables"=some none
 na_Course_whats:PySem.W.findIn K (.ref aq) "whats"=some none
 na_Finder_numbers:PySem.W.findIn K (.ref aD) "numbers"=some none
 na_Finder_states:PySem.W.findIn K (.ref aD) "states"=some none
 zD:Oy K mg "Course" "Course.__init__" (inClass (top 36) 0) aq
 zE:Oy K mg "Finder" "Finder.__init__" (inClass (top 37) 0) aD
 m8:wu K aq "asked" "Course.asked" (inClass (top 36) 3)
 mn:wu K aq "by_row" "Course.by_row" (inClass (top 36) 6)
 kf:wu K aq "by_value" "Course.by_value" (inClass (top 36) 7)
 su:wu K aq "do" "Course.do" (inClass (top 36) 2)
 jJ:wu K aq "end_worth" "Course.end_worth" (inClass (top 36) 12)
 m9:wu K aq "holds" "Course.holds" (inClass (top 36) 9)
 jK:wu K aq "open_rows" "Course.open_rows" (inClass (top 36) 10)
 qa:wu K aq "put" "Course.put" (inClass (top 36) 1)
 ng:wu K aq "start" "Course.start" (inClass (top 36) 4)
 kg:wu K aq "table_at" "Course.table_at" (inClass (top 36) 8)
 kZ:wu K aq "what_at" "Course.what_at" (inClass (top 36) 5)
 kh:wu K aq "words_at" "Course.words_at" (inClass (top 36) 11)
 jL:wu K aD "number_of" "Finder.number_of" (inClass (top 37) 1)
theorem QF {C:List Value->Prop} (k:C []):∀us:List Value,us.length=0->C us:=λus h=>by
 cases us with
 | nil=>exact k
 | cons a us=>cases h
theorem DW {C:List Value->Prop} {n:Nat} (k:∀a (us:List Value),us.length=n->C (a::us)):∀us:List Value,us.length=n+1->C us:=λus h=>by
 cases us with
 | nil=>cases h
 | cons a us=>exact k a us (Nat.succ.inj h)
theorem iG {C:List Value->Prop} (k:∀a,C [a]):∀us:List Value,us.length=1->C us:=DW λa=>QF (C:=λus=>C (a::us)) (k a)
theorem gS {C:List Value->Prop} (k:∀a b,C [a,b]):∀us:List Value,us.length=2->C us:=DW λa=>iG (C:=λus=>C (a::us)) (k a)
theorem uH {C:List Value->Prop} (k:∀a b c,C [a,b,c]):∀us:List Value,us.length=3->C us:=DW λa=>gS (C:=λus=>C (a::us)) (k a)
theorem uI {C:List Value->Prop} (k:∀a b c d,C [a,b,c,d]):∀us:List Value,us.length=4->C us:=DW λa=>uH (C:=λus=>C (a::us)) (k a)
noncomputable def Al {α:Type} (R:α->V->Prop):List α->List V->Prop
 | [],[]=>True
 | a::as,v::vs=>R a v/\Al R as vs
 | _,_=>False
theorem Al.length {α:Type} {R:α->V->Prop}:∀{as:List α} {vs:List V},Al R as vs->vs.length=as.length
 | [],[],_=>rfl
 | a::as,v::vs,h=>by simp [Al.length h.2]
theorem Al.imp {α:Type} {R S:α->V->Prop} (f:∀a v,R a v->S a v):∀{as:List α} {vs:List V},Al R as vs->Al S as vs
 | [],[],_=>trivial
 | a::as,v::vs,h=>⟨f _ _ h.1,Al.imp f h.2⟩
theorem Al.append {α:Type} {R:α->V->Prop}:∀{as bs:List α} {us vs:List V},Al R as us->Al R bs vs->Al R (as++bs) (us++vs)
 | [],_,[],_,_,k=>k
 | a::as,_,v::vs,_,h,k=>⟨h.1,Al.append h.2 k⟩
theorem Al.one {α:Type} {R:α->V->Prop} {a:α} {v:V} (h:R a v):Al R [a] [v]:=⟨h,trivial⟩
theorem Al.zF {α:Type} {H:Hp} {f:α->Dat}:∀{as:List α} {vs:List V},Al (λa v=>Rep H (f a) v) as vs->bh H (as.map f) vs
 | [],[],_=>by simp [bh]
 | a::as,v::vs,h=>by
  rw[aaw,bh];exact⟨v,vs,rfl,h.1,Al.zF h.2⟩
theorem Al.get {α:Type} {R:α->V->Prop}:∀{as:List α} {vs:List V} {i:Nat} {v:V},Al R as vs->vs[i]?=some v->∃a,as[i]?=some a/\R a v:=by
 intro as
 induction as with
 | nil=>
  intro vs i v h e;cases vs with
  | nil=>simp at e
  | cons u vs=>exact h.elim
 | cons a as ih=>
  intro vs i v h e;cases vs with
  | nil=>exact h.elim
  | cons u vs=>
   cases i with
   | zero=>cases e;exact⟨a,rfl,h.1⟩
   | succ i=>exact ih (vs:=vs) (i:=i) h.2 e
theorem Al.at {α:Type} {R:α->V->Prop}:∀{as:List α} {vs:List V} {i:Nat} {a:α},Al R as vs->as[i]?=some a->∃v,vs[i]?=some v/\R a v:=by
 intro as
 induction as with
 | nil=>
  intro vs i v h e;simp at e
 | cons a as ih=>
  intro vs i v h e;cases vs with
  | nil=>exact h.elim
  | cons u vs=>
   cases i with
   | zero=>cases e;exact⟨u,rfl,h.1⟩
   | succ i=>exact ih (vs:=vs) (i:=i) h.2 e
theorem Al.of {α:Type} {R:α->V->Prop}:∀{as:List α} {vs:List V},vs.length=as.length->(∀(i:Nat) v a,vs[i]?=some v->as[i]?=some a->R a v)->Al R as vs
 | [],[],_,_=>trivial
 | [],_::_,l,_=>by simp at l
 | _::_,[],l,_=>by simp at l
 | a::as,u::vs,l,h=>⟨h 0 u a rfl rfl,Al.of (by simpa using l) λi v b e1 e2=>h (i+1) v b (by simpa using e1) (by simpa using e2)⟩
noncomputable def HB:Sp:=λvs H Q _=>gZ vs λa b=>lP a λa=>lP b λb=>Q (.int (Nm.g a b)) H
noncomputable def KD (qn:Addr):Sp:=λvs H Q E=>gZ vs λa b=>lP a λa=>lP b λb=>Bt 5000 b/\(b=0->E (.ref qn) none H)/\(b≠0->∀p H',aA H H'->H p=none->H' p=some (.tup (Pr (Nm.st a b) (Nm.sb a b)))->Q (.ref p) H')
noncomputable def HC:Sp:=λvs H Q _=>gZ vs λd B=>fR d λd=>lP B λB=>∃ws,H d=some (.dK (enc ws))/\(Nm.keys ws).Nodup/\ws.length<64/\B≠0/\Bt 5000 B/\∀p H',aA H H'->H p=none->Rep H' (gf (Nm.rowsOf ws B)) (.ref p)->Q (.ref p) H'
noncomputable def KE (qt:Addr):Sp:=λvs H Q E=>gY vs λv=>∃ps,Rep H (ji ps) v/\ps.length<=1296/\(∀p∈ps,p.2<=10^12)/\(Nm.ka ps).length<64/\(Nm.bad ps->∀H',aA H H'->E (.ref qt) none H')/\(¬Nm.bad ps->∀p H',aA H H'->H p=none->Rep H' (gf (Nm.rowsOf (Nm.ka ps) (Nm.oy (Nm.ka ps)))) (.ref p)->Q (.ref p) H')
noncomputable def Af (s:Nat):Nat->List (List Int)
 | 0=>[[]]
 | d+1=>(Af s d).flatMap λf=>(List.range s).map λi:Nat=>f++ [((i:Nat):Int)+1]
theorem iH (s:Nat):∀d,(Af s d).length=s^d
 | 0=>rfl
 | d+1=>by
  have h:∀l:List (List Int),(l.flatMap λf=>(List.range s).map λi:Nat=>f++ [((i:Nat):Int)+1]).length=l.length*s:=by
   intro l
   induction l with
   | nil=>simp
   | cons a r ih=>rw[abm,aay,ih,aat,List.length_range,aaF,Nat.succ_mul,Nat.add_comm]
  rw[Af,h,iH s d,Nat.pow_succ]
theorem jC (s:Nat):∀d,∀f∈Af s d,f.length=d/\∀x∈f,1<=x/\x<=(s:Int)
 | 0,f,h=>by
  rw[List.mem_singleton.mp h];exact⟨rfl,by simp⟩
 | d+1,f,h=>by
  obtain⟨g,hg,hf⟩:=List.mem_flatMap.mp h;obtain⟨i,hi,rfl⟩:=List.mem_map.mp hf;obtain⟨l,k⟩:=jC s d g hg;have:=List.mem_range.mp hi;refine⟨by rw[aay,l];rfl,λx hx=>?_⟩;rcases List.mem_append.mp hx with h | h
  ·exact k x h
  ·rw[List.mem_singleton.mp h];omega
noncomputable def Lt (f g:List Int):Prop:=Fh f g=false
noncomputable def IX (low s:Nat):List (List Int):=(List.range s).flatMap λi:Nat=>if i<low then (List.range s).map λj:Nat=>[((i:Nat):Int)+1,((j:Nat):Int)+1] else [[((i:Nat):Int)+1]]
noncomputable def IY (s a:Nat):List (List Int):=(List.range (s - 1)).map λi:Nat=>List.replicate a (s:Int)++ [((i:Nat):Int)+1]
noncomputable def IZ (s:Nat) (most:Nat):List (List Int):=((List.range most).flatMap λa=>IY s a)++ [List.replicate most (s:Int)]
theorem yb {low s:Nat}:∀f∈IX low s,(∀x∈f,1<=x/\x<=(s:Int))/\((∃a b:Int,f=[a,b]/\a<=(low:Int))\/∃a:Int,f=[a]/\(low:Int)<a):=by
 intro f hf;obtain⟨i,hi,hf⟩:=List.mem_flatMap.mp hf;have hi:=List.mem_range.mp hi
 by_cases c:i<low
 ·rw[if_pos c] at hf;obtain⟨j,hj,rfl⟩:=List.mem_map.mp hf;have hj:=List.mem_range.mp hj;refine⟨λx hx=>?_,.inl ⟨_,_,rfl,by omega⟩⟩;simp only[abh,List.not_mem_nil,or_false] at hx;rcases hx with rfl | rfl <;>omega
 ·rw[if_neg c] at hf;rw[List.mem_singleton.mp hf];refine⟨λx hx=>?_,.inr ⟨_,rfl,by omega⟩⟩;rw[List.mem_singleton.mp hx];omega
theorem DX {s most:Nat} (h:0<s):∀f∈IZ s most,(∀x∈f,1<=x/\x<=(s:Int))/\((∃(a:Nat) (x:Int),a<most/\x<s/\f=List.replicate a (s:Int)++ [x])\/f=List.replicate most (s:Int)):=by
 intro f hf;unfold IZ at hf;rcases List.mem_append.mp hf with hf | hf
 ·obtain⟨a,ha,hf⟩:=List.mem_flatMap.mp hf;have ha:=List.mem_range.mp ha;obtain⟨i,hi,rfl⟩:=List.mem_map.mp hf;have hi:=List.mem_range.mp hi;refine⟨λx hx=>?_,.inl ⟨a,_,ha,by omega,rfl⟩⟩;rcases List.mem_append.mp hx with hx | hx
  ·rw[List.eq_of_mem_replicate hx];omega
  ·rw[List.mem_singleton.mp hx];omega
 ·rw[List.mem_singleton.mp hf];refine⟨λx hx=>?_,.inr rfl⟩;rw[List.eq_of_mem_replicate hx];omega
theorem DY (low s:Nat):(IX low s).length=((List.range s).map λi=>if i<low then s else 1).sum:=by
 unfold IX;have:∀l:List Nat,(l.flatMap λi:Nat=>if i<low then (List.range s).map λj:Nat=>[((i:Nat):Int)+1,((j:Nat):Int)+1] else [[((i:Nat):Int)+1]]).length=(l.map λi=>if i<low then s else 1).sum:=by
  intro l
  induction l with
  | nil=>rfl
  | cons a r ih=>
   rw[abm,aay,ih,aaw,abi];congr 1
   split <;>simp
 exact this _
inductive Pt
 | num (n:Nat)
 | di (m s:Nat)
 | best (n m s:Nat)
 | dX (n m s:Nat)
 | hits (n m s:Nat)
 | again (n s:Nat)
 | c8 (n s:Nat)
noncomputable def iI:Pt->List V
 | .num n=>[.str (Str.ofString "number"),.int (n:Int)]
 | .di m s=>[.str (Str.ofString "dice"),.int (m:Int),.int (s:Int)]
 | .best n m s=>[.str (Str.ofString "best"),.int (n:Int),.int (m:Int),.int (s:Int)]
 | .dX n m s=>[.str (Str.ofString "worst"),.int (n:Int),.int (m:Int),.int (s:Int)]
 | .hits n m s=>[.str (Str.ofString "hits"),.int (n:Int),.int (m:Int),.int (s:Int)]
 | .again n s=>[.str (Str.ofString "again"),.int (n:Int),.int (s:Int)]
 | .c8 n s=>[.str (Str.ofString "burst"),.int (n:Int),.int (s:Int)]
noncomputable def dI:Pt->Dat
 | .num n=>.tup [.str (Str.ofString "number"),.int (n:Int)]
 | .di m s=>.tup [.str (Str.ofString "dice"),.int (m:Int),.int (s:Int)]
 | .best n m s=>.tup [.str (Str.ofString "best"),.int (n:Int),.int (m:Int),.int (s:Int)]
 | .dX n m s=>.tup [.str (Str.ofString "worst"),.int (n:Int),.int (m:Int),.int (s:Int)]
 | .hits n m s=>.tup [.str (Str.ofString "hits"),.int (n:Int),.int (m:Int),.int (s:Int)]
 | .again n s=>.tup [.str (Str.ofString "again"),.int (n:Int),.int (s:Int)]
 | .c8 n s=>.tup [.str (Str.ofString "burst"),.int (n:Int),.int (s:Int)]
noncomputable def lst:Pt->Nat
 | .num n=>n
 | .di _ s=>s
 | .best _ _ s=>s
 | .dX _ _ s=>s
 | .hits _ _ s=>s
 | .again _ s=>s
 | .c8 _ s=>s
noncomputable def sd:Pt->Nat
 | .num _=>1
 | p=>lst p
noncomputable def BD:Pt->Nat
 | .num _=>0
 | .di m _=>m
 | .best _ m _=>m
 | .dX _ m _=>m
 | .hits _ m _=>m
 | .again n _=>if 0<n then 2 else 1
 | .c8 n _=>n+1
noncomputable def bot (p:Pt):Nat:=sd p^BD p
noncomputable def cnt:Pt->Nat
 | .num _=>1
 | .again n s=>min n s*s+ (s - min n s)
 | .c8 n s=>(n+1)* (s - 1)+1
 | p=>bot p
noncomputable def DZ:Pt->List (List Int)
 | .num _=>[[]]
 | .di m s=>Af s m
 | .best _ m s=>Af s m
 | .dX _ m s=>Af s m
 | .hits _ m s=>Af s m
 | .again n s=>IX n s
 | .c8 n s=>IZ s (n+1)
noncomputable def QG:Pt->List Int->Int
 | .num n,_=>n
 | .best n _ _,f=>((Nm.oj f).reverse.take n).sum
 | .dX n _ _,f=>((Nm.oj f).take n).sum
 | .hits n _ _,f=>((f.filter λx=>decide ((n:Int)<=x)).length:Nat)
 | .again _ _,f=>f.getLastD 0
 | .di _ _,f=>f.sum
 | .c8 _ _,f=>f.sum
noncomputable def dY:Pt->Prop
 | .num n=>n<=99
 | .di m s=>1<=s/\s<=20/\m<=6
 | .best n m s=>1<=s/\s<=20/\m<=6/\n<=m
 | .dX n m s=>1<=s/\s<=20/\m<=6/\n<=m
 | .hits n m s=>1<=s/\s<=20/\m<=6/\n<=20
 | .again n s=>1<=s/\s<=20/\n<=20
 | .c8 n s=>1<=s/\s<=20/\n<=6
theorem sx {p:Pt} (g:dY p):1<=sd p/\sd p<=20:=by
 cases p <;>simp only[sd,lst,dY] at *<;>omega
theorem HD {p:Pt} (g:dY p):lst p<=99:=by
 cases p <;>simp only[lst,dY] at *<;>omega
theorem oQ {p:Pt} (g:dY p):BD p<=7:=by
 cases p <;>simp only[BD,dY] at *<;>(try split) <;>omega
theorem zG {s e:Nat} (hs:s<=20) (he:e<=10):s^e<=10240000000000:=
 aaI (Nat.pow_le_pow_left hs e) (aaI (Nat.pow_le_pow_right (by decide) he) (by decide))
theorem yc (low c:Nat):∀k,((List.range k).map λi=>if i<low then c else 1).sum=min low k*c+ (k - min low k)
 | 0=>by simp
 | k+1=>by
  rw[List.range_succ,aaK,List.sum_append_nat,yc low c k,aaw,aaT,abi,List.sum_nil]
  by_cases h:k<low
  ·rw[if_pos h,Nat.min_eq_right (by omega),Nat.min_eq_right (by omega),Nat.succ_mul];omega
  ·rw[if_neg h,Nat.min_eq_left (by omega),Nat.min_eq_left (by omega)];omega
theorem D1 (s:Nat) (most:Nat):(IZ s most).length=most* (s - 1)+1:=by
 unfold IZ;rw[aay];have:∀l:List Nat,(l.flatMap λa=>IY s a).length=l.length* (s - 1):=by
  intro l
  induction l with
  | nil=>simp
  | cons a r ih=>rw[abm,aay,ih,aaF,Nat.succ_mul];unfold IY;rw[aat,List.length_range];omega
 rw[this,List.length_range];rfl
theorem lg (p:Pt):(DZ p).length=cnt p:=by
 cases p with
 | num n=>rfl
 | di m s=>exact iH s m
 | best n m s=>exact iH s m
 | dX n m s=>exact iH s m
 | hits n m s=>exact iH s m
 | again n s=>show(IX n s).length=min n s*s+ (s - min n s);rw[DY,yc]
 | c8 n s=>exact D1 s _
theorem lj {p:Pt} (g:dY p):∀f∈DZ p,(∀x∈f,1<=x/\x<=(lst p:Int))/\f.length<=BD p:=by
 intro f hf;cases p with
 | num n=>rw[List.mem_singleton.mp hf];simp
 | di m s=>obtain⟨a,b⟩:=jC s m f hf;exact⟨b,Nat.le_of_eq a⟩
 | best n m s=>obtain⟨a,b⟩:=jC s m f hf;exact⟨b,Nat.le_of_eq a⟩
 | dX n m s=>obtain⟨a,b⟩:=jC s m f hf;exact⟨b,Nat.le_of_eq a⟩
 | hits n m s=>obtain⟨a,b⟩:=jC s m f hf;exact⟨b,Nat.le_of_eq a⟩
 | again n s=>
  obtain⟨a,b⟩:=yb f hf;refine⟨a,?_⟩;show f.length<=if 0<n then 2 else 1
  rcases b with ⟨x,y,rfl,h⟩ | ⟨x,rfl,h⟩
  ·have:=(a x (by simp)).1;rw[if_pos (by omega)];simp
  ·simp
   split <;>omega
 | c8 n s=>
  obtain⟨a,b⟩:=DX g.1 f hf;refine⟨a,?_⟩;show f.length<=n+1;rcases b with ⟨k,x,hk,h,rfl⟩ | rfl
  ·simp;omega
  ·simp
theorem D3 {p:Pt} (g:dY p) {f:List Int} (hf:f∈DZ p):1<=sd p^f.length/\sd p^f.length<=bot p:=
 ⟨Nat.pow_pos (sx g).1,Nat.pow_le_pow_right (sx g).1 (lj g f hf).2⟩
abbrev Row:=List Int×Int×Nat
noncomputable def CK (p:Pt):List Row:=(DZ p).map λf=>(f,QG p f,sd p^f.length)
noncomputable def Ae (rs:List Row) (p:Pt):List Row:=rs.flatMap λr=>(CK p).map λq=>(r.1++q.1,r.2.1+q.2.1,r.2.2*q.2.2)
noncomputable def gX (ps:List Pt):List Row:=ps.foldl Ae [([],0,1)]
theorem oR (ps:List Pt) (p:Pt):gX (ps++ [p])=Ae (gX ps) p:=by unfold gX;rw[abf];rfl
noncomputable def ki:List Nat->Nat
 | []=>1
 | a::r=>a*ki r
theorem hX (l:List Nat) (a:Nat):ki (l++ [a])=ki l*a:=by
 induction l with
 | nil=>simp [ki]
 | cons b r ih=>simp only[List.cons_append,ki,ih,Nat.mul_assoc]
theorem yd {l:List Nat} (h:∀a∈l,1<=a):1<=ki l:=by
 induction l with
 | nil=>simp [ki]
 | cons b r ih=>
  have h1:=h b (by simp);have h2:=ih λa ha=>h a (aaB _ ha);exact Nat.mul_le_mul h1 h2
theorem uJ {l:List Nat} (h:∀a∈l,1<=a):∀i,ki (l.take i)<=ki l:=by
 induction l with
 | nil=>intro i;simp
 | cons b r ih=>
  intro i;have h1:=h b (by simp);have h0:∀a∈r,1<=a:=λa ha=>h a (aaB _ ha);cases i with
  | zero=>exact Nat.mul_le_mul h1 (yd h0)
  | succ i=>exact Nat.mul_le_mul (aav _) (ih h0 i)
theorem xY (rs:List Row) (p:Pt):(Ae rs p).length=rs.length*cnt p:=by
 unfold Ae
 induction rs with
 | nil=>simp
 | cons r t ih=>
  rw[abm,aay,ih,aat,aaF,Nat.succ_mul];unfold CK;rw[aat,lg];omega
theorem take_snoc {α:Type} {l:List α} {i:Nat} (h:i<l.length):l.take (i+1)=l.take i++ [l[i]]:=by
 rw[aaQ,aaG h];rfl
theorem nM (ps:List Pt):(gX ps).length=ki (ps.map cnt):=by
 have:∀i,i<=ps.length->(gX (ps.take i)).length=ki ((ps.take i).map cnt):=by
  intro i
  induction i with
  | zero=>intro _;rfl
  | succ i ih=>
   intro h;rw[take_snoc (by omega),oR,xY,ih (by omega),aaK,aaw,aaT,hX]
 have:=this ps.length (aav _)
 rwa [aaJ (aav _)] at this
theorem nH {p:Pt} (g:dY p):1<=cnt p:=by
 cases p with
 | num n=>simp [cnt]
 | di m s=>exact Nat.pow_pos g.1
 | best n m s=>exact Nat.pow_pos g.1
 | dX n m s=>exact Nat.pow_pos g.1
 | hits n m s=>exact Nat.pow_pos g.1
 | again n s=>
  simp only[cnt,dY] at *
  by_cases h:s - min n s=0
  ·have:min n s=s:=by omega
   rw[this];have:1*1<=s*s:=Nat.mul_le_mul g.1 g.1;omega
  ·omega
 | c8 n s=>simp [cnt]
theorem ye {p:Pt} (g:dY p):1<=bot p:=Nat.pow_pos (sx g).1
noncomputable def qK (ps:List Pt):Prop:=(∀p∈ps,dY p)/\ki (ps.map cnt)<=1296/\ki (ps.map bot)<=1000000
theorem mq {ps:List Pt} (g:qK ps) (i:Nat):ki ((ps.take i).map cnt)<=1296:=by
 rw[List.map_take];exact aaI (uJ (λa ha=>by obtain⟨p,hp,rfl⟩:=List.mem_map.mp ha;exact nH (g.1 p hp)) i) g.2.1
theorem mr {ps:List Pt} (g:qK ps) (i:Nat):ki ((ps.take i).map bot)<=1000000:=by
 rw[List.map_take];exact aaI (uJ (λa ha=>by obtain⟨p,hp,rfl⟩:=List.mem_map.mp ha;exact ye (g.1 p hp)) i) g.2.2
theorem yf {l:List Nat} (h:∀a∈l,1<=a):∀a∈l,a<=ki l:=by
 induction l with
 | nil=>intro a ha;cases ha
 | cons b r ih=>
  intro a ha;have h1:=h b (by simp);have h0:∀a∈r,1<=a:=λa ha=>h a (aaB _ ha);rw[ki];rcases List.mem_cons.mp ha with rfl | ha
  ·have:=Nat.mul_le_mul (aav a) (yd h0);omega
  ·have:=Nat.mul_le_mul h1 (ih h0 a ha);omega
theorem mv {ps:List Pt} (g:qK ps) {p:Pt} (hp:p∈ps):dY p/\cnt p<=1296/\bot p<=1000000:=
 ⟨g.1 p hp,aaI (yf (λa ha=>by obtain⟨p,hp,rfl⟩:=List.mem_map.mp ha;exact nH (g.1 p hp)) _ (List.mem_map_of_mem hp)) g.2.1,
  aaI (yf (λa ha=>by obtain⟨p,hp,rfl⟩:=List.mem_map.mp ha;exact ye (g.1 p hp)) _ (List.mem_map_of_mem hp)) g.2.2⟩
theorem yg {ps:List Pt} (g:∀p∈ps,dY p):∀i,i<=ps.length->∀r∈gX (ps.take i),r.1.length<=7*i/\1<=r.2.2/\r.2.2<=ki ((ps.take i).map bot):=by
 intro i
 induction i with
 | zero=>intro _ r hr;rw[List.mem_singleton.mp hr];simp [ki]
 | succ i ih=>
  intro h r hr;rw[take_snoc (by omega),oR] at hr;obtain⟨r0,h0,hr⟩:=List.mem_flatMap.mp hr;obtain⟨q,hq,rfl⟩:=List.mem_map.mp hr;obtain⟨f,hf,rfl⟩:=List.mem_map.mp hq;obtain⟨a,b,c⟩:=ih (by omega) r0 h0;have gp:=g _ (aa9 (show i<ps.length by omega));obtain⟨d,e⟩:=D3 gp hf;have l:=(lj gp f hf).2;have m:=oQ gp;rw[take_snoc (by omega),aaK,aaw,aaT,hX];refine⟨by rw[aay];show r0.1.length+f.length<=_;omega,Nat.mul_le_mul b d,Nat.mul_le_mul c e⟩
noncomputable def Fa (H:Hp) (f:List Int) (v:V):Prop:=∃q,v=.ref q/\H q=some (.lst (List.map V.int f))
theorem Fa.mono {H H':Hp} {f:List Int} {v:V} (s:aA H H'):Fa H f v->Fa H' f v:=fun⟨q,e,h⟩=>⟨q,e,s _ _ h⟩
noncomputable def TR (G H:Hp) (r:Row) (v:V):Prop:=∃a q,v=.ref a/\H a=some (.tup [.ref q,.int r.2.1,.int (r.2.2:Int)])/\H q=some (.lst (List.map V.int r.1))/\G q=none
theorem TR.mono {G H H':Hp} {r:Row} {v:V} (s:aA H H'):TR G H r v->TR G H' r v:=fun⟨a,q,e,h,k,n⟩=>⟨a,q,e,s _ _ h,s _ _ k,n⟩
noncomputable def HE (H:Hp) (l:Addr) (ps:List Pt):Prop:=∃xs,H l=some (.lst xs)/\Al (λp v=>∃q,v=.ref q/\H q=some (.tup (iI p))) ps xs
theorem HE.mono {H H':Hp} {l:Addr} {ps:List Pt} (s:aA H H'):HE H l ps->HE H' l ps:=fun⟨xs,h,a⟩=>⟨xs,s _ _ h,a.imp λ_ _ ⟨q,e,k⟩=>⟨q,e,s _ _ k⟩⟩
theorem lq {H:Hp} {p:Addr} {o:HO}:dg (upd H p o) p=dg H p:=by
 funext a;unfold dg
 by_cases c:a=p
 ·rw[if_pos c,if_pos c]
 ·rw[if_neg c,if_neg c,aE c]
theorem BE (p:Pt):pM (iI p) (-1)=some (.int (lst p:Int)):=by cases p <;>rfl
noncomputable def KG:Sp:=λvs H Q _=>∃(b e:Nat),vs=[.int (b:Int),.int (e:Int)]/\(1<=b\/e=0)/\e<=10/\b^e<=1000000/\Q (.int ((b^e:Nat):Int)) H
noncomputable def D5:Sp:=λvs H Q _=>gY vs λq=>fR q λq=>∃p,H q=some (.tup (iI p))/\Q (.int (BD p:Int)) H
noncomputable def uK:Sp:=λvs H Q _=>gY vs λq=>fR q λq=>∃p,H q=some (.tup (iI p))/\dY p/\bot p<=1000000/\Q (.int (bot p:Int)) H
noncomputable def KH:Sp:=λvs H Q _=>gY vs λq=>fR q λq=>∃p,H q=some (.tup (iI p))/\dY p/\bot p<=1000000/\Q (.int (cnt p:Int)) H
noncomputable def KI:Sp:=λvs H Q _=>gY vs λl=>fR l λl=>∃ps,HE H l ps/\qK ps/\Q .dP H
noncomputable def BF:Sp:=λvs H Q _=>∃(d s:Nat),vs=[.int (d:Int),.int (s:Int)]/\1<=s/\s<=20/\d<=6/\s^d<=1296/\∀l H' xs,aA H H'->H' l=some (.lst xs)->Al (Fa H') (Af s d) xs->Q (.ref l) H'
noncomputable def KJ:Sp:=λvs H Q _=>∃(n s:Nat),vs=[.int (n:Int),.int (s:Int)]/\s<=20/\∀l H' xs,aA H H'->H' l=some (.lst xs)->Al (Fa H') (IX n s) xs->Q (.ref l) H'
noncomputable def KL:Sp:=λvs H Q _=>∃(n s:Nat),vs=[.int (n:Int),.int (s:Int)]/\1<=s/\s<=20/\n<=7/\∀l H' xs,aA H H'->H' l=some (.lst xs)->Al (Fa H') (IZ s n) xs->Q (.ref l) H'
noncomputable def KN:Sp:=λvs H Q _=>gY vs λq=>fR q λq=>∃p,H q=some (.tup (iI p))/\dY p/\cnt p<=1296/\∀l H' xs,aA H H'->H' l=some (.lst xs)->Al (Fa H') (DZ p) xs->Q (.ref l) H'
noncomputable def KO:Sp:=λvs H Q _=>gZ vs λq l=>fR q λq=>fR l λl=>∃p,H q=some (.tup (iI p))/\∃f,H l=some (.lst (List.map V.int f))/\dY p/\f∈DZ p/\∀H',aA H H'->Q (.int (QG p f)) H'
noncomputable def KP:Sp:=λvs H Q _=>gZ vs λq l=>fR q λq=>fR l λl=>∃p,H q=some (.tup (iI p))/\∃f,H l=some (.lst (List.map V.int f))/\dY p/\f∈DZ p/\Q (.int ((sd p^f.length:Nat):Int)) H
noncomputable def KQ:Sp:=λvs H Q _=>gY vs λq=>fR q λq=>∃p,H q=some (.tup (iI p))/\dY p/\cnt p<=1296/\∀l H' xs,aA H H'->H' l=some (.lst xs)->Al (TR (λ_=>none) H') (CK p) xs->Q (.ref l) H'
noncomputable def KR:Sp:=λvs H Q _=>gY vs λa=>fR a λa=>∃ps,HE H a ps/\qK ps/\ps.length<=4/\∀l H' xs,aA H H'->H' l=some (.lst xs)->Al (TR H H') (gX ps) xs->Q (.ref l) H'
noncomputable def jO:List (List Pt):=[[.di 1 6],[.di 2 6],[.di 3 4],[.best 2 3 4],[.dX 1 2 6],[.hits 5 3 6],[.hits 9 2 6],[.again 2 6],[.again 6 6],[.c8 2 3],[.c8 1 6],[.num 7],[.di 1 20],[.di 1 6,.num 9],[.di 1 4,.again 1 3],[.hits 1 1 2,.hits 2 1 2],[.num 0],[.di 1 2,.di 1 3,.di 1 5],[.c8 0 4,.best 1 2 3],[.dX 1 2 2,.again 3 6],[.hits 2 1 3,.again 4 6]]
theorem BG {ps:List Pt} (g:ps∈jO):qK ps:=by
 simp only[jO,abh,List.not_mem_nil,or_false] at g;rcases g with rfl | rfl | rfl | rfl | rfl | rfl | rfl | rfl | rfl | rfl | rfl | rfl | rfl | rfl | rfl | rfl | rfl | rfl | rfl | rfl | rfl <;>exact⟨by simp [dY],by ac_rfl,by ac_rfl⟩
noncomputable def D6 (C:Nat) (rs:List Row):Nm.Ws:=rs.map λr=>(r.2.1,((C / r.2.2:Nat):Int))
noncomputable def CL (ps:List Pt):Nm.Ws:=D6 (ki (ps.map bot)) (gX ps)
noncomputable def bK (ps:List Pt):List (Int×Int×Int):=Nm.rowsOf (Nm.ka (CL ps)) (Nm.oy (Nm.ka (CL ps)))
noncomputable def eA (ps:List Pt):Prop:=ps∈jO
noncomputable def KS (ps:List Pt):Int:=(ki (ps.map bot):Int)
noncomputable def GoodR (W:Int) (rows:List (Int×Int×Int)):Prop:=0<W/\W<=1000000/\rows.length<=1296/\∀r∈rows,0<r.2.2/\r.2.2∣W/\0<=r.2.1/\r.2.1<=W
theorem mw {ps:List Pt} (g:eA ps):GoodR (KS ps) (bK ps):=by
 have h:∀ps∈jO,0<KS ps/\KS ps<=1000000/\(bK ps).length<=1296/\∀r∈bK ps,0<r.2.2/\r.2.2∣KS ps/\0<=r.2.1/\r.2.1<=KS ps:=by ac_rfl
 exact h ps g
theorem yh:∀ps∈jO,(∀x∈CL ps,0<x.2/\x.2<=10^12)/\(CL ps).length<=1296/\(Nm.ka (CL ps)).length<64/\Nm.pos (CL ps)≠[]:=by ac_rfl
theorem HF {ps:List Pt} (g:eA ps):¬Nm.bad (CL ps):=λb=>by
 obtain⟨h1,_,_,h4⟩:=yh ps g;rcases b with ⟨x,hx,c⟩ | c
 ·have:=h1 x hx;omega
 ·exact h4 c
theorem D7 {p q:Pt} (h:dI p=dI q):p=q:=by
 cases p <;>cases q <;>simp only[dI,Dat.tup.injEq,List.cons.injEq,Dat.str.injEq,Dat.int.injEq,and_true,Int.natCast_inj] at h <;>first | exact absurd h.1 (by ac_rfl) | (obtain⟨_,rfl⟩:=h;rfl) | (obtain⟨_,rfl,rfl⟩:=h;rfl) | (obtain⟨_,rfl,rfl,rfl⟩:=h;rfl)
noncomputable def HG:Sp:=λvs H Q _=>gY vs λa=>fR a λa=>∃ps,HE H a ps/\eA ps/\ps.length<=4/\∀p H',aA H H'->H p=none->Rep H' (gf (bK ps)) (.ref p)->Q (.ref p) H'
inductive Dd
 | set (n:Str) (k:Int)
 | plus (n:Str) (k:Int)
 | face (n:Str)
 | move (n m:Str)
noncomputable def Ag:Dd->Dat
 | .set n k=>.tup [.str (Str.ofString "set"),.str n,.int k]
 | .plus n k=>.tup [.str (Str.ofString "plus"),.str n,.int k]
 | .face n=>.tup [.str (Str.ofString "face"),.str n]
 | .move n m=>.tup [.str (Str.ofString "move"),.str n,.str m]
structure Rw where
 word:Str
 wh:Option (Str×Str×Int)
 ds:List Dd
 to:Str
noncomputable def OB:Option (Str×Str×Int)->Dat
 | none=>.dP
 | some (a,b,k)=>.tup [.str a,.str b,.int k]
abbrev R4:=Dat×Dat×List Dat×Dat
noncomputable def nh (r:R4):Dat:=.tup [r.1,r.2.1,.lst r.2.2.1,r.2.2.2]
noncomputable def HH (r:Rw):R4:=(.str r.word,OB r.wh,r.ds.map Ag,.str r.to)
abbrev Tw:=Int×Int×List Dd×Str
noncomputable def yi (r:Tw):R4:=(.int r.1,.int r.2.1,r.2.2.1.map Ag,.str r.2.2.2)
inductive Wt
 | ask (c:Str) (k:Int) (one other:Str)
 | fin (t b:Int)
 | score (c:Str)
 | pick (who:Int) (rs:List Rw)
 | gX (jl:List Dat) (t b:Int) (rs:List Tw)
noncomputable def yj:Wt->Dat
 | .ask c k a b=>.tup [.str (Str.ofString "ask"),.str c,.int k,.str a,.str b]
 | .fin t b=>.tup [.str (Str.ofString "end"),.tup [.int t,.int b]]
 | .score c=>.tup [.str (Str.ofString "score"),.str c]
 | .pick w rs=>.tup [.str (Str.ofString "pick"),.int w,.lst ((rs.map HH).map nh)]
 | .gX jl t b rs=>.tup [.str (Str.ofString "throw"),.lst jl,.tup [.int t,.int b],.lst ((rs.map yi).map nh)]
structure Gm where
 cs:List (Str×Int)
 ps:List (Str×Wt)
noncomputable def I0 (cs:List (Str×Int)):Dat:=.lst (cs.map λc=>.tup [.str c.1,.int c.2])
noncomputable def psD (ps:List (Str×Wt)):Dat:=.lst (ps.map λp=>.tup [.str p.1,yj p.2])
noncomputable def KU (g:Gm):Dat:=.tup [I0 g.cs,psD g.ps]
noncomputable def du (cs:List (Str×Int)) (n:Str):Nat:=(cs.map (·.1)).idxOf n
noncomputable def most (cs:List (Str×Int)) (i:Nat):Int:=(cs.map (·.2)).getD i 0
noncomputable def ni (cs:List (Str×Int)) (ns:List Int) (i:Nat) (k:Int):List Int:=ns.set i (min k (most cs i))
noncomputable def eU (cs:List (Str×Int)) (v:Int) (ns:List Int):Dd->List Int
 | .set n k=>ni cs ns (du cs n) k
 | .plus n k=>ni cs ns (du cs n) (ns.getD (du cs n) 0+k)
 | .face n=>ni cs ns (du cs n) (ns.getD (du cs n) 0+v)
 | .move n m=>(ni cs ns (du cs m) (ns.getD (du cs m) 0+ns.getD (du cs n) 0)).set (du cs n) 0
noncomputable def qL (cs:List (Str×Int)):Dd->Prop
 | .set n _=>n∈cs.map (·.1)
 | .plus n _=>n∈cs.map (·.1)
 | .face n=>n∈cs.map (·.1)
 | .move n m=>n∈cs.map (·.1)/\m∈cs.map (·.1)
theorem cZ {cs:List (Str×Int)} {n:Str} (h:n∈cs.map (·.1)):du cs n<cs.length:=by
 have:=List.idxOf_lt_length_of_mem h
 rwa [aat] at this
theorem hZ {cs:List (Str×Int)} {ns:List Int} {i:Nat} {k:Int}:(ni cs ns i k).length=ns.length:=by unfold ni;rw[List.length_set]
theorem D8 {cs:List (Str×Int)} {v:Int} {ns:List Int}:∀d:Dd,(eU cs v ns d).length=ns.length
 | .set _ _=>hZ
 | .plus _ _=>hZ
 | .face _=>hZ
 | .move _ _=>by unfold eU;rw[List.length_set,hZ]
noncomputable def look (ps:List (Str×Wt)) (n:Str):Option Wt:=(ps.find? λp=>decide (p.1=n)).map (·.2)
noncomputable def gU (g:Gm) (ns:List Int):Nat->Str->Option Str
 | 0,_=>none
 | f+1,nm=>match look g.ps nm with
  | some (.ask c k a b)=>if k<=ns.getD (du g.cs c) 0 then gU g ns f a else gU g ns f b
  | some _=>some nm
  | none=>none
noncomputable def wH (cs:List (Str×Int)) (ns:List Int):Option (Str×Str×Int)->Bool
 | none=>true
 | some (n,x,k)=>if n∈cs.map (·.1) then (if x=Str.ofString "from" then decide (k<=ns.getD (du cs n) 0) else decide (ns.getD (du cs n) 0<k)) else false
noncomputable def Fq (cs:List (Str×Int)):Wt->Prop
 | .ask c _ _ _=>c∈cs.map (·.1)
 | .fin _ _=>True
 | .score c=>c∈cs.map (·.1)
 | .pick _ rs=>rs.length<=100/\∀r∈rs,r.ds.length<=100/\∀d∈r.ds,qL cs d
 | .gX jl _ _ rs=>jl.length<=100/\rs.length<=100/\∀r∈rs,r.2.2.1.length<=100/\∀d∈r.2.2.1,qL cs d
structure GoodG (g:Gm):Prop where
 nc:(g.cs.map (·.1)).Nodup
 np:(g.ps.map (·.1)).Nodup
 lc:g.cs.length<=100
 lp:g.ps.length<=100
 p0:0<g.ps.length
 wt:∀p∈g.ps,Fq g.cs p.2
theorem fo {ps:List (Str×Wt)} {n:Str} {x:Wt} (h:look ps n=some x):(n,x)∈ps:=by
 unfold look at h;obtain⟨p,hp,rfl⟩:=Option.map_eq_some_iff.mp h;have e:=List.find?_some hp;have e:p.1=n:=by simpa using e
 subst e;exact List.mem_of_find?_eq_some hp
noncomputable def oS:List (Str×Int)->Nat->List (Key×V)
 | [],_=>[]
 | c::cs,i=>(Sum.inr c.1,V.int (i:Int))::oS cs (i+1)
theorem yk:∀(cs:List (Str×Int)) (i:Nat),(oS cs i).length=cs.length
 | [],_=>rfl
 | _::cs,i=>by rw[oS,aaF,yk cs,aaF]
theorem uL (c:Str×Int):∀(cs:List (Str×Int)) (i:Nat),oS (cs++ [c]) i=oS cs i++ [(Sum.inr c.1,V.int ((i+cs.length:Nat):Int))]
 | [],i=>rfl
 | d::cs,i=>by
  rw[List.cons_append,oS,uL c cs (i+1),oS,aaF,show i+1+cs.length=i+ (cs.length+1) by omega];rfl
theorem yl {n:Str}:∀{cs:List (Str×Int)} {i:Nat},n∈cs.map (·.1)->eE (oS cs i) (Sum.inr n)=some (.int ((i+du cs n:Nat):Int))
 | [],_,h=>by simp at h
 | c::cs,i,h=>by
  rw[oS]
  by_cases e:c.1=n
  ·rw[jf (by rw[e])];have:du (c::cs) n=0:=by unfold du;rw[aaw,e,List.idxOf_cons_self]
   rw[this];rfl
  ·rw[fZ (λz=>e (by injection z)),yl (cs:=cs) (i:=i+1) (by simpa [Ne.symm e] using h)];have:du (c::cs) n=du cs n+1:=by unfold du;rw[aaw,List.idxOf_cons,beq_false_of_ne e];rfl
   rw[this,show i+1+du cs n=i+ (du cs n+1) by omega]
theorem oU {n:Str}:∀{cs:List (Str×Int)} {i:Nat},n∉cs.map (·.1)->eE (oS cs i) (Sum.inr n)=none
 | [],_,_=>rfl
 | c::cs,i,h=>by
  rw[oS,fZ (λz=>h (by injection z with z;simp [z])),oU (cs:=cs) (i:=i+1) (λz=>h (by rw[aaw];exact aaB _ z))]
theorem nN {κ:Type} [DecidableEq κ] {kvs:List (κ×V)} {k:κ} {v:V} (h:eE kvs k=none):putK kvs k v=kvs++ [(k,v)]:=by
 unfold putK;rw[if_neg];intro c;obtain⟨x,hx,e⟩:=List.any_eq_true.mp c;unfold eE at h;have:kvs.find? (λkv=>decide (kv.1=k))=none:=by simpa using h
 exact absurd e (by simpa using List.find?_eq_none.mp this x hx)
noncomputable def oV (H:Hp):List (Str×Wt)->List (Key×V)->Prop
 | [],us=>us=[]
 | p::ps,us=>∃v r,us=(Sum.inr p.1,v)::r/\Rep H (yj p.2) v/\oV H ps r
theorem oV.mono {H H':Hp} (s:aA H H'):∀{ps:List (Str×Wt)} {us:List (Key×V)},oV H ps us->oV H' ps us
 | [],_,h=>h
 | _::_,_,⟨v,r,e,h1,h2⟩=>⟨v,r,e,h1.mono s,h2.mono s⟩
theorem oV.len {H:Hp}:∀{ps:List (Str×Wt)} {us:List (Key×V)},oV H ps us->us.length=ps.length
 | [],_,h=>by rw[oV] at h;subst h;rfl
 | _::_,_,⟨v,r,e,h1,h2⟩=>by rw[e,aaF,h2.len,aaF]
theorem oV.snoc {H:Hp} {p:Str×Wt} {v:V} (k:Rep H (yj p.2) v):∀{ps:List (Str×Wt)} {us:List (Key×V)},oV H ps us->oV H (ps++ [p]) (us++ [(Sum.inr p.1,v)])
 | [],_,h=>by rw[oV] at h;subst h;exact⟨v,[],rfl,k,rfl⟩
 | _::_,_,⟨u,r,e,h1,h2⟩=>by rw[e];exact⟨u,_,rfl,h1,h2.snoc k⟩
theorem oV.val {H:Hp} {n:Str}:∀{ps:List (Str×Wt)} {us:List (Key×V)},oV H ps us->(∃x v,look ps n=some x/\eE us (Sum.inr n)=some v/\Rep H (yj x) v)\/(look ps n=none/\eE us (Sum.inr n)=none)
 | [],_,h=>by rw[oV] at h;subst h;exact .inr ⟨rfl,rfl⟩
 | p::ps,_,⟨u,r,e,h1,h2⟩=>by
  subst e
  by_cases c:p.1=n
  ·exact .inl ⟨p.2,u,by unfold look;rw[List.find?_cons_of_pos (by simpa using c)];rfl,jf (by rw[c]),h1⟩
  ·rcases h2.val (n:=n) with ⟨x,v,a,b,d⟩ | ⟨a,b⟩
   ·exact .inl ⟨x,v,by unfold look at *;rw[List.find?_cons_of_neg (by simpa using c)];exact a,by rw[fZ (λz=>c (by injection z))];exact b,d⟩
   ·exact .inr ⟨by unfold look at *;rw[List.find?_cons_of_neg (by simpa using c)];exact a,by rw[fZ (λz=>c (by injection z))];exact b⟩
theorem zH {ps:List (Str×Wt)} {n:Str} (h:n∉ps.map (·.1)):look ps n=none:=by
 unfold look;rw[Option.map_eq_none_iff,List.find?_eq_none];intro p hp c;exact h (List.mem_map.mpr ⟨p,hp,by simpa using c⟩)
theorem ia {cs:List (Str×Int)} {v:Int}:∀(ds:List Dd) (ns:List Int),(ds.foldl (eU cs v) ns).length=ns.length
 | [],_=>rfl
 | d::ds,ns=>by rw[List.foldl_cons,ia ds,D8]
noncomputable def fz (cs:List (Str×Int)) (ns:List Int):Wt->List Rw
 | .pick _ rs=>rs.filter λr=>wH cs ns r.wh
 | _=>[]
noncomputable def D9 (cs:List (Str×Int)) (ns:List Int):Wt->Option (Int×Int)
 | .fin t b=>some (t,b)
 | .score c=>some (ns.getD (du cs c) 0,1)
 | _=>none
theorem bo {a b:TS} {D:Ends} {σ:L2.St} {H:Hp} (C:(L2.St->Hp->Prop)->Prop) (ha:∀N:L2.St->Hp->Prop,C N->a {D with nx:=N} σ H) (hb:C (b D)):tSeq a b D σ H:=ha _ hb
noncomputable def tD (q:Addr) (H:Hp) (c:Addr) (g:Gm):Prop:=∃dx sp mo wh tb us ft,H c=some (.ins q dx [(Str.ofString "spots",.ref sp),(Str.ofString "mosts",.ref mo),(Str.ofString "first",.str ft),(Str.ofString "whats",.ref wh),(Str.ofString "tables",.ref tb)])/\
 H sp=some (.dK (oS g.cs 0))/\H mo=some (.lst ((g.cs.map (·.2)).map V.int))/\H wh=some (.dK us)/\oV H g.ps us/\(g.ps.map (·.1)).head?=some ft
theorem tD.mono {q:Addr} {H H':Hp} {c:Addr} {g:Gm} (s:aA H H'):tD q H c g->tD q H' c g:=λhh=>by
 obtain⟨dx,sp,mo,wh,tb,us,ft,h1,h2,h3,h4,h5,h6⟩:=hh;exact⟨dx,sp,mo,wh,tb,us,ft,s _ _ h1,s _ _ h2,s _ _ h3,s _ _ h4,h5.mono s,h6⟩
noncomputable def vy (H:Hp) (v:V) (nm:Str) (ns:List Int):Prop:=∃a l,v=.ref a/\H a=some (.tup [.str nm,.ref l])/\H l=some (.lst (ns.map V.int))
theorem vy.mono {H H':Hp} {v:V} {nm:Str} {ns:List Int} (s:aA H H'):vy H v nm ns->vy H' v nm ns:=fun⟨a,l,e,h1,h2⟩=>⟨a,l,e,s _ _ h1,s _ _ h2⟩
noncomputable def zI:Sp:=λvs H Q _=>gY vs λv=>∃(rs:List R4),Rep H (.lst (rs.map nh)) v/\rs.length<=100/\(∀r∈rs,r.2.2.1.length<=100)/\∀p H',aA H H'->Rep H' (.lst (rs.map nh)) (.ref p)->Q (.ref p) H'
noncomputable def KW:Sp:=λvs H Q _=>gY vs λv=>∃x,Rep H (yj x) v/\∃cs,Fq cs x/\∀u H',aA H H'->Rep H' (yj x) u->Q u H'
noncomputable def uM (q:Addr):Sp:=λvs H Q _=>∃c l i k,vs=[.ref c,.ref l,.int ((i:Nat):Int),.int k]/\∃g,tD q (dg H l) c g/\∃ns,H l=some (.lst (List.map V.int ns))/\i<g.cs.length/\ns.length=g.cs.length/\Q .dP (upd H l (.lst ((ni g.cs ns i k).map V.int)))
noncomputable def KY (q:Addr):Sp:=λvs H Q _=>yP vs λc l dv v=>fR c λc=>fR l λl=>lP v λv=>∃g,tD q (dg H l) c g/\∃ns,H l=some (.lst (List.map V.int ns))/\∃d,Rep (dg H l) (Ag d) dv/\qL g.cs d/\ns.length=g.cs.length/\Q .dP (upd H l (.lst ((eU g.cs v ns d).map V.int)))
noncomputable def BH (q:Addr):Sp:=λvs H Q _=>tQ vs λc nm l=>fR c λc=>Of nm λnm=>fR l λl=>∃g,tD q H c g/\GoodG g/\∃ns,H l=some (.lst (List.map V.int ns))/\ns.length=g.cs.length/\∃f gW,gU g ns f nm=some gW/\∀a H',aA H H'->H a=none->H' a=some (.tup [.str gW,.ref l])->Q (.ref a) H'
noncomputable def Fs (q:Addr):Sp:=λvs H Q _=>gY vs λc=>fR c λc=>∃g,tD q H c g/\GoodG g/\∃f ft,(g.ps.map (·.1)).head?=some ft/\∃gW,gU g (List.replicate g.cs.length 0) f ft=some gW/\∀a l H',aA H H'->H a=none->H l=none->H' a=some (.tup [.str gW,.ref l])->H' l=some (.lst ((List.replicate g.cs.length (0:Int)).map V.int))->Q (.ref a) H'
noncomputable def oW (q:Addr):Sp:=λvs H Q _=>gZ vs λc v=>fR c λc=>∃H0,aA H0 H/\∃g,tD q H0 c g/\∃nm ns,vy H v nm ns/\∃x,look g.ps nm=some x/\∀u,Rep H0 (yj x) u->Q u H
noncomputable def Ft (q:Addr):Sp:=λvs H Q _=>tQ vs λc v l=>fR c λc=>fR l λl=>∃g,tD q H c g/\∃ns wh,Rep H (OB wh) v/\H l=some (.lst (List.map V.int ns))/\ns.length=g.cs.length/\Q (.bl (wH g.cs ns wh)) H
noncomputable def BI (q:Addr):Sp:=λvs H Q _=>yP vs λc sv rv v=>fR c λc=>lP v λv=>∃g,tD q H c g/\GoodG g/\∃nm ns,vy H sv nm ns/\∃a b ds to,Rep H (nh (a,b,List.map Ag ds,.str to)) rv/\(∀d∈ds,qL g.cs d)/\ds.length<=100/\ns.length=g.cs.length/\∃f gW,gU g (ds.foldl (eU g.cs v) ns) f to=some gW/\∀p l H',aA H H'->H p=none->H l=none->H' p=some (.tup [.str gW,.ref l])->H' l=some (.lst ((ds.foldl (eU g.cs v) ns).map V.int))->Q (.ref p) H'
theorem gI {H:Hp} {ds:List Dat} {v:V}:Rep H (.tup ds) v↔∃p vs,v=.ref p/\H p=some (.tup vs)/\bh H ds vs:=by rw[Rep]
theorem aS {H:Hp} {d:Dat} {ds:List Dat} {vs:List V}:bh H (d::ds) vs↔∃v r,vs=v::r/\Rep H d v/\bh H ds r:=by rw[bh]
theorem bL {H:Hp} {vs:List V}:bh H [] vs↔vs=[]:=by rw[bh]
theorem aK {H:Hp} {x:Str} {v:V}:Rep H (.str x) v↔v=.str x:=by rw[Rep]
theorem aN {H:Hp} {x:Int} {v:V}:Rep H (.int x) v↔v=.int x:=by rw[Rep]
theorem bA {H:Hp} {a b:Dat} {v:V}:Rep H (.tup [a,b]) v↔∃p x y,v=.ref p/\H p=some (.tup [x,y])/\Rep H a x/\Rep H b y:=by
 rw[gI];constructor
 ·rintro⟨p,vs,e,h,r⟩;obtain⟨x,r1,rfl,hx,r⟩:=aS.mp r;obtain⟨y,r2,rfl,hy,r⟩:=aS.mp r;rw[bL.mp r] at h;exact⟨p,x,y,e,h,hx,hy⟩
 ·rintro⟨p,x,y,e,h,hx,hy⟩;exact⟨p,_,e,h,aS.mpr ⟨x,_,rfl,hx,aS.mpr ⟨y,_,rfl,hy,bL.mpr rfl⟩⟩⟩
theorem cV {H:Hp} {a b c:Dat} {v:V}:Rep H (.tup [a,b,c]) v↔∃p x y z,v=.ref p/\H p=some (.tup [x,y,z])/\Rep H a x/\Rep H b y/\Rep H c z:=by
 rw[gI];constructor
 ·rintro⟨p,vs,e,h,r⟩;obtain⟨x,r1,rfl,hx,r⟩:=aS.mp r;obtain⟨y,r2,rfl,hy,r⟩:=aS.mp r;obtain⟨z,r3,rfl,hz,r⟩:=aS.mp r;rw[bL.mp r] at h;exact⟨p,x,y,z,e,h,hx,hy,hz⟩
 ·rintro⟨p,x,y,z,e,h,hx,hy,hz⟩;exact⟨p,_,e,h,aS.mpr ⟨x,_,rfl,hx,aS.mpr ⟨y,_,rfl,hy,aS.mpr ⟨z,_,rfl,hz,bL.mpr rfl⟩⟩⟩⟩
theorem dw {H:Hp} {a b c d:Dat} {v:V}:Rep H (.tup [a,b,c,d]) v↔∃p x y z u,v=.ref p/\H p=some (.tup [x,y,z,u])/\Rep H a x/\Rep H b y/\Rep H c z/\Rep H d u:=by
 rw[gI];constructor
 ·rintro⟨p,vs,e,h,r⟩;obtain⟨x,r1,rfl,hx,r⟩:=aS.mp r;obtain⟨y,r2,rfl,hy,r⟩:=aS.mp r;obtain⟨z,r3,rfl,hz,r⟩:=aS.mp r;obtain⟨u,r4,rfl,hu,r⟩:=aS.mp r;rw[bL.mp r] at h;exact⟨p,x,y,z,u,e,h,hx,hy,hz,hu⟩
 ·rintro⟨p,x,y,z,u,e,h,hx,hy,hz,hu⟩;exact⟨p,_,e,h,aS.mpr ⟨x,_,rfl,hx,aS.mpr ⟨y,_,rfl,hy,aS.mpr ⟨z,_,rfl,hz,aS.mpr ⟨u,_,rfl,hu,bL.mpr rfl⟩⟩⟩⟩⟩
theorem wI {H:Hp} {a b c d f:Dat} {v:V}:Rep H (.tup [a,b,c,d,f]) v↔∃p x y z u t,v=.ref p/\H p=some (.tup [x,y,z,u,t])/\Rep H a x/\Rep H b y/\Rep H c z/\Rep H d u/\Rep H f t:=by
 rw[gI];constructor
 ·rintro⟨p,vs,e,h,r⟩;obtain⟨x,r1,rfl,hx,r⟩:=aS.mp r;obtain⟨y,r2,rfl,hy,r⟩:=aS.mp r;obtain⟨z,r3,rfl,hz,r⟩:=aS.mp r;obtain⟨u,r4,rfl,hu,r⟩:=aS.mp r;obtain⟨t,r5,rfl,ht,r⟩:=aS.mp r;rw[bL.mp r] at h;exact⟨p,x,y,z,u,t,e,h,hx,hy,hz,hu,ht⟩
 ·rintro⟨p,x,y,z,u,t,e,h,hx,hy,hz,hu,ht⟩;exact⟨p,_,e,h,aS.mpr ⟨x,_,rfl,hx,aS.mpr ⟨y,_,rfl,hy,aS.mpr ⟨z,_,rfl,hz,aS.mpr ⟨u,_,rfl,hu,aS.mpr ⟨t,_,rfl,ht,bL.mpr rfl⟩⟩⟩⟩⟩⟩
theorem dQ {k k':Str} {v:V} {l:List (Str×V)} (h:(k==k')=false):List.lookup k ((k',v)::l)=List.lookup k l:=by rw[aaW,h]
theorem jP {a b c d e:V}:List.lookup (Str.ofString "spots") [(Str.ofString "spots",a),(Str.ofString "mosts",b),(Str.ofString "first",c),(Str.ofString "whats",d),(Str.ofString "tables",e)]=some a:=abj
theorem Fu {a b c d e:V}:List.lookup (Str.ofString "mosts") [(Str.ofString "spots",a),(Str.ofString "mosts",b),(Str.ofString "first",c),(Str.ofString "whats",d),(Str.ofString "tables",e)]=some b:=by
 rw[dQ (by ac_rfl)];exact abj
theorem KZ {a b c d e:V}:List.lookup (Str.ofString "first") [(Str.ofString "spots",a),(Str.ofString "mosts",b),(Str.ofString "first",c),(Str.ofString "whats",d),(Str.ofString "tables",e)]=some c:=by
 rw[dQ (by ac_rfl),dQ (by ac_rfl)];exact abj
theorem ym {a b c d e:V}:List.lookup (Str.ofString "whats") [(Str.ofString "spots",a),(Str.ofString "mosts",b),(Str.ofString "first",c),(Str.ofString "whats",d),(Str.ofString "tables",e)]=some d:=by
 rw[dQ (by ac_rfl),dQ (by ac_rfl),dQ (by ac_rfl)];exact abj
theorem eC {a b c d e:V} {k:Str} (h1:(k==Str.ofString "spots")=false) (h2:(k==Str.ofString "mosts")=false) (h3:(k==Str.ofString "first")=false) (h4:(k==Str.ofString "whats")=false) (h5:(k==Str.ofString "tables")=false):
  List.lookup k [(Str.ofString "spots",a),(Str.ofString "mosts",b),(Str.ofString "first",c),(Str.ofString "whats",d),(Str.ofString "tables",e)]=none:=by
 rw[dQ h1,dQ h2,dQ h3,dQ h4,dQ h5];rfl
theorem yn {n i:Nat} (h:i<n):Dk n (i:Int)=some i:=by
 unfold Dk;rw[if_pos (by omega),if_pos (by omega),aaY]
theorem gJ {ns:List Int} {i:Nat} (h:i<ns.length):pM (List.map V.int ns) (i:Int)=some (.int (ns.getD i 0)):=by
 have:=ug (ns:=ns) (i:=(i:Int)) (by omega) (by omega)
 rwa [aaY] at this
theorem Ea {cs:List (Str×Int)} {i:Nat} (h:i<cs.length):pM (List.map V.int (cs.map (·.2))) (i:Int)=some (.int (most cs i)):=gJ (by rw[aat];exact h)
theorem iJ {H:Hp} {sp:Addr} {cs:List (Str×Int)} {n:Str} (h:H sp=some (.dK (oS cs 0))) (hn:n∈cs.map (·.1)):kI H sp (.str n) (some (.int ((du cs n:Nat):Int))):=
 .inl ⟨_,Sum.inr n,.inl h,rfl,by rw[yl hn,Nat.zero_add]⟩
theorem lA {H:Hp} {p:Addr} {o:HO}:dg (upd H p o) p=dg H p:=by
 funext a;unfold dg
 by_cases c:a=p
 ·rw[if_pos c,if_pos c]
 ·rw[if_neg c,if_neg c,aE c]
theorem yo {c:TT} {tb:TS} {D:Ends} {σ:L2.St} {H:Hp} (Pv:Nat->L2.St->Hp->Prop) {m:Nat} (h0:Pv m σ H)
  (hs:∀m σ H,Pv m σ H->∃b:Bool,(∀Q:Bool->Hp->Prop,Q b H->c σ H Q)/\if b=true then tb {D with nx:=λσ' H'=>∃m',m'<m/\Pv m' σ' H',ct:=λσ' H'=>∃m',m'<m/\Pv m' σ' H',bk:=D.nx} σ H else D.nx σ H):rA c tb D σ H:=by
 refine⟨Pv,⟨m,h0⟩,?_⟩;intro m σ H p;obtain⟨b,k,q⟩:=hs m σ H p;refine k _ ?_;cases b with
 | true=>exact⟨_,λσ' H' h=>h,q⟩
 | false=>exact q
theorem BJ {H:Hp} {p:Addr} (h:H p=none):dg H p=H:=by
 funext a;unfold dg
 by_cases c:a=p
 ·rw[if_pos c,c,h]
 ·rw[if_neg c]
theorem oX {H H':Hp} {p:Addr} (h:dg H' p=H):aA H H':=by rw[<-h];exact bU
theorem BK (n:Nat):(List.replicate n [V.int 0]).flatten=List.map V.int (List.replicate n 0):=by
 induction n with
 | zero=>rfl
 | succ n ih=>rw[abo,List.flatten_cons,ih,abo];rfl
noncomputable def BL (q:Addr):Sp:=λvs H Q _=>gZ vs λc v=>fR c λc=>∃H0,aA H0 H/\∃g,tD q H0 c g/\GoodG g/\∃nm ns,vy H v nm ns/\ns.length=g.cs.length/\∃x,look g.ps nm=some x/\∀p xs H',aA H H'->H p=none->H' p=some (.lst xs)->bh H0 (((fz g.cs ns x).map HH).map nh) xs->Q (.ref p) H'
noncomputable def Fv (q:Addr):Sp:=λvs H Q _=>gZ vs λc v=>fR c λc=>∃g,tD q H c g/\GoodG g/\∃nm ns,vy H v nm ns/\ns.length=g.cs.length/\∃x,look g.ps nm=some x/\∀p H',aA H H'->H p=none->Rep H' (.lst ((fz g.cs ns x).map λr=>Dat.str r.word)) (.ref p)->Q (.ref p) H'
noncomputable def BM (q:Addr):Sp:=λvs H Q _=>gZ vs λc v=>fR c λc=>∃g,tD q H c g/\GoodG g/\∃nm ns,vy H v nm ns/\ns.length=g.cs.length/\∃x,look g.ps nm=some x/\∃t b,D9 g.cs ns x=some (t,b)/\∀u H',aA H H'->Rep H' (.tup [.int t,.int b]) u->Q u H'
theorem oY {H:Hp} {p:Rw->Bool}:∀{rs:List Rw} {xs:List V},bh H ((rs.map HH).map nh) xs->bh H (((rs.filter p).map HH).map nh) ((xs.zip rs).filterMap λx=>if p x.2=true then some x.1 else none)
 | [],xs,h=>by rw[List.zip_nil_right];exact bL.mpr rfl
 | r::rs,xs,h=>by
  obtain⟨v,ys,rfl,h1,h2⟩:=aS.mp h;have ih:=oY (p:=p) h2;rw[List.zip_cons_cons,abn]
  by_cases c:p r=true
  ·simp only[c,if_true];rw[List.filter_cons_of_pos c,aaw,aaw];exact aS.mpr ⟨v,_,rfl,h1,ih⟩
  ·simp only[c];rw[List.filter_cons_of_neg c];exact ih
theorem qM {H:Hp}:∀{rs:List Rw} {xs:List V},bh H ((rs.map HH).map nh) xs->bh H (rs.map λr=>Dat.str r.word) (rs.map λr=>V.str r.word)
 | [],xs,h=>bL.mpr rfl
 | r::rs,xs,h=>by
  obtain⟨v,ys,rfl,h1,h2⟩:=aS.mp h;exact aS.mpr ⟨_,_,rfl,aK.mpr rfl,qM h2⟩
theorem yp {H:Hp} {rs:List Rw} {xs:List V} {i:Nat} {x:V} (h:bh H ((rs.map HH).map nh) xs) (e:xs[i]?=some x):∃r p a b c d,rs[i]?=some r/\x=.ref p/\H p=some (.tup [.str r.word,b,c,d])/\Rep H (OB r.wh) b/\a=r:=by
 obtain⟨dd,ed,rd⟩:=h.get e;rw[aau,aau] at ed;obtain⟨r4,e4,rfl⟩:=Option.map_eq_some_iff.mp ed;obtain⟨r,er,rfl⟩:=Option.map_eq_some_iff.mp e4;obtain⟨p,x1,x2,x3,x4,rfl,hp,r1,r2,r3,r4⟩:=dw.mp (show Rep H (.tup _) x from rd);have r1:x1=.str r.word:=aK.mp r1;subst r1;exact⟨r,p,r,x2,x3,x4,er,rfl,hp,r2,rfl⟩
theorem fG {tc:TT} {a b:TS} {D:Ends} {σ:L2.St} {H:Hp} (h:∀Y N:Hp->Prop,Y H->tc σ H λv H'=>if v=true then Y H' else N H') (k:a D σ H):tIfS tc a b D σ H:=iE (λH'=>H'=H) (λ_=>False) (λ_ e=>e▸k) (λ_ f=>f.elim) λY N hY _=>h Y N (hY _ rfl)
theorem dZ {tc:TT} {a b:TS} {D:Ends} {σ:L2.St} {H:Hp} (h:∀Y N:Hp->Prop,N H->tc σ H λv H'=>if v=true then Y H' else N H') (k:b D σ H):tIfS tc a b D σ H:=iE (λ_=>False) (λH'=>H'=H) (λ_ f=>f.elim) (λ_ e=>e▸k) λY N _ hN=>h Y N (hN _ rfl)
abbrev cD:=Str×List Int
noncomputable def ie (s:cD):Dat:=.tup [.str s.1,.tup (s.2.map .int)]
theorem my:∀ns:List Int,toPL (ns.map Dat.int)=ns.map PyData.int
 | []=>by simp [toPL]
 | n::ns=>by rw[aaw,toPL,my ns,toP,aaw]
theorem nO (s:cD):toP (ie s)=.tuple [.str s.1,.tuple (s.2.map PyData.int)]:=by
 unfold ie;rw[toP,toPL,toPL,toPL,toP,toP,my]
theorem Eb {s t:cD}:toP (ie s)=toP (ie t)↔s=t:=by
 rw[nO,nO];constructor
 ·intro h
  injection h with h
  injection h with h1 h
  injection h with h2 _
  injection h1 with h1
  injection h2 with h2
  have:s.2=t.2:=by
   have:∀{a b:List Int},a.map PyData.int=b.map PyData.int->a=b:=by
    intro a
    induction a with
    | nil=>intro b h;cases b with | nil=>rfl | cons _ _=>cases h
    | cons x a ih=>
     intro b h;cases b with
     | nil=>cases h
     | cons y b=>
      rw[aaw,aaw] at h
      injection h with h1 h2
      injection h1 with h1
      rw[h1,ih h2]
   exact this h2
  exact Prod.ext h1 this
 ·rintro rfl;rfl
theorem qN:∀ns:List Int,jk (ns.map PyData.int)=true
 | []=>rfl
 | n::ns=>by rw[aaw,jk,qN ns];rfl
theorem qO:∀ns:List Int,PyData.depthAll (ns.map PyData.int)<=1
 | []=>by simp [PyData.depthAll]
 | n::ns=>by
  have:=qO ns;rw[aaw,PyData.depthAll,PyData.depth];omega
noncomputable def kl:List cD->Rows->Nat->Prop
 | [],ks,_=>ks=[]
 | s::ss,ks,i=>∃b r,ks=(ie s,b,(i:Int))::r/\kl ss r (i+1)
theorem kl.len:∀{ss:List cD} {ks:Rows} {i:Nat},kl ss ks i->ks.length=ss.length
 | [],_,_,h=>by rw[kl] at h;subst h;rfl
 | _::_,_,_,⟨b,r,e,h⟩=>by rw[e,aaF,h.len,aaF]
theorem kl.snoc {s:cD} {b:Addr}:∀{ss:List cD} {ks:Rows} {i:Nat},kl ss ks i->kl (ss++ [s]) (ks++ [(ie s,b,((i+ss.length:Nat):Int))]) i
 | [],_,i,h=>by rw[kl] at h;subst h;exact⟨b,[],rfl,rfl⟩
 | t::ss,_,i,⟨b',r,e,h⟩=>by
  rw[e];refine⟨b',_,rfl,?_⟩;have:=h.snoc (s:=s) (b:=b);rw[show i+1+ss.length=i+ (t::ss).length by rw[aaF];omega] at this;exact this
theorem kl.look {s:cD}:∀{ss:List cD} {ks:Rows} {i:Nat},kl ss ks i->iM ks (toP (ie s))=if s∈ss then some ((i+ss.idxOf s:Nat):Int) else none
 | [],_,_,h=>by rw[kl] at h;subst h;rfl
 | t::ss,_,i,⟨b,r,e,h⟩=>by
  subst e;unfold iM
  by_cases c:t=s
  ·subst c;rw[List.find?_cons_of_pos (by simp),if_pos aaE,List.idxOf_cons_self];rfl
  ·rw[List.find?_cons_of_neg (by simpa [Eb] using c)];have ih:=h.look (s:=s);unfold iM at ih;rw[ih];have e:(t::ss).idxOf s=ss.idxOf s+1:=by rw[List.idxOf_cons,beq_false_of_ne c];rfl
   rw[e,show i+1+ss.idxOf s=i+ (ss.idxOf s+1) by omega]
   by_cases d:s∈ss
   ·rw[if_pos d,if_pos (aaB _ d)]
   ·rw[if_neg d,if_neg (λz=>by rcases List.mem_cons.mp z with z | z;exact c z.symm;exact d z)]
noncomputable def eF (ss:List cD) (s:cD):List cD:=if s∈ss then ss else ss++ [s]
theorem HI {H:Hp} {s:cD} {b t:Addr} (h:eP (.str s.1)=true) (hb:H b=some (.tup [.str s.1,.ref t])) (ht:H t=some (.tup (s.2.map V.int))):jI H (ie s) b:=by
 refine⟨?_,?_,?_⟩
 ·rw[nO,eP,jk,h,jk,eP,qN];rfl
 ·rw[nO];have:=qO s.2;simp only[PyData.depth,PyData.depthAll];omega
 ·unfold ie;exact bA.mpr ⟨b,_,_,rfl,hb,aK.mpr rfl,gI.mpr ⟨t,_,rfl,ht,bh.ints _⟩⟩
noncomputable abbrev b9 (H:Hp) (l n:Addr):Hp:=dg (dg H l) n
theorem aR {H:Hp} {l n:Addr}:aA (b9 H l n) H:=λa o e=>bU _ _ (bU _ _ e)
noncomputable def zJ (Fr:Addr->Prop) (H:Hp) (v:V) (nm:Str) (ns:List Int):Prop:=∃a l,v=.ref a/\H a=some (.tup [.str nm,.ref l])/\H l=some (.lst (ns.map V.int))/\Fr l
theorem zJ.mono {Fr:Addr->Prop} {H H':Hp} {v:V} {nm:Str} {ns:List Int} (s:aA H H'):zJ Fr H v nm ns->zJ Fr H' v nm ns:=fun⟨a,l,e,h1,h2,h3⟩=>⟨a,l,e,s _ _ h1,s _ _ h2,h3⟩
theorem zJ.st {Fr:Addr->Prop} {H:Hp} {v:V} {nm:Str} {ns:List Int}:zJ Fr H v nm ns->vy H v nm ns:=fun⟨a,l,e,h1,h2,_⟩=>⟨a,l,e,h1,h2⟩
noncomputable def km (P:Program) (w:World) (q:Addr) (Fr:Addr->Prop) (H:Hp) (f l n:Addr) (ss:List cD):Prop:=∃dx xs ks,b9 H l n f=some (.ins q dx [(Str.ofString "states",.ref l),(Str.ofString "numbers",.ref n)])/\l≠n/\H l=some (.lst xs)/\Al (λs v=>zJ Fr (b9 H l n) v s.1 s.2) ss xs/\
 H n=some (CI P w n ks)/\uy (b9 H l n) ks/\kl ss ks 0/\ss.length<=120
theorem jQ {a b:V}:List.lookup (Str.ofString "states") [(Str.ofString "states",a),(Str.ofString "numbers",b)]=some a:=abj
theorem BN {a b:V}:List.lookup (Str.ofString "numbers") [(Str.ofString "states",a),(Str.ofString "numbers",b)]=some b:=by
 rw[dQ (by ac_rfl)];exact abj
theorem wJ {a b:V} {k:Str} (h1:(k==Str.ofString "states")=false) (h2:(k==Str.ofString "numbers")=false):List.lookup k [(Str.ofString "states",a),(Str.ofString "numbers",b)]=none:=by
 rw[dQ h1,dQ h2];rfl
noncomputable def K6 (P:Program) (w:World) (q:Addr):Sp:=λvs H Q _=>gY vs λf=>fR f λf=>∃dx,H f=some (.ins q dx [])/\∀l n H',H l=none->H n=none->(∀a o,a≠f->H a=some o->b9 H' l n a=some o)->(∀Fr,km P w q Fr H' f l n [])->Q .dP H'
theorem cB {H:Hp} {l n a:Addr} (h1:a≠l) (h2:a≠n):b9 H l n a=H a:=by
 show dg (dg H l) n a=_;rw[bX h2,bX h1]
theorem ig {H:Hp} {l n a:Addr} {o:HO} (e:b9 H l n a=some o):a≠l/\a≠n:=by
 have e:(if a=n then none else if a=l then none else H a)=some o:=e;refine⟨λz=>?_,λz=>?_⟩
 ·by_cases c:a=n
  ·rw[if_pos c] at e;cases e
  ·rw[if_neg c,if_pos z] at e;cases e
 ·rw[if_pos z] at e;cases e
theorem bN {H H':Hp} {l n:Addr} (s:aA H H'):aA (b9 H l n) (b9 H' l n):=λa o e=>by
 obtain⟨h1,h2⟩:=ig e;rw[cB h1 h2] at e ⊢;exact s _ _ e
theorem zK {H:Hp} {l n:Addr} {o:HO}:b9 (upd H l o) l n=b9 H l n:=by show dg (dg (upd H l o) l) n=_;rw[lA]
theorem zL {H:Hp} {l n:Addr} {o:HO} (h:l≠n):b9 (upd H n o) l n=b9 H l n:=by
 funext a;show(if a=n then none else if a=l then none else upd H n o a)=if a=n then none else if a=l then none else H a
 by_cases c:a=n
 ·rw[if_pos c,if_pos c]
 ·rw[if_neg c,if_neg c,aE c]
theorem oZ (ss:List cD) (s:cD):s∈eF ss s:=by
 unfold eF
 split
 ·assumption
 ·simp
set_option tactic.hygienic true in
theorem o4 (ss:List cD) (s:cD):(eF ss s).idxOf s=ss.idxOf s:=by
 unfold eF
 split
 ·rfl
 ·rename_i h
  rw[List.idxOf_append,if_neg h,List.idxOf_cons_self,List.idxOf_eq_length h];omega
theorem km.mono {P:Program} {w:World} {q:Addr} {Fr:Addr->Prop} {H H':Hp} {f l n:Addr} {ss:List cD} (s:aA H H'):km P w q Fr H f l n ss->km P w q Fr H' f l n ss:=λhh=>by
 obtain⟨dx,xs,ks,h1,h2,h3,h4,h5,h6,h7,h8⟩:=hh;exact⟨dx,xs,ks,bN s _ _ h1,h2,s _ _ h3,h4.imp λ_ _ k=>k.mono (bN s),s _ _ h5,h6.mono (bN s),h7,h8⟩
noncomputable def Kp (H H':Hp):Prop:=∀a,(∀vs,H a=some (.tup vs)->H' a=some (.tup vs))/\∀vs,H a=some (.lst vs)->H' a=some (.lst vs)
theorem Kp.of {H H':Hp} (s:aA H H'):Kp H H':=λa=>⟨λ_=>s _ _,λ_=>s _ _⟩
theorem Kp.upd {H:Hp} {p:Addr} {o:HO} (h1:∀vs,H p≠some (.tup vs)) (h2:∀vs,H p≠some (.lst vs)):Kp H (upd H p o):=λa=>by
 by_cases c:a=p
 ·subst c;exact⟨λvs e=>absurd e (h1 vs),λvs e=>absurd e (h2 vs)⟩
 ·rw[aE c];exact⟨λ_ h=>h,λ_ h=>h⟩
theorem Kp.trans {H H' H2:Hp} (a:Kp H H') (b:Kp H' H2):Kp H H2:=λx=>⟨λ_ h=>(b x).1 _ ((a x).1 _ h),λ_ h=>(b x).2 _ ((a x).2 _ h)⟩
mutual
theorem Kp.rep {H H':Hp} (s:Kp H H'):∀{d:Dat} {v:V},Rep H d v->Rep H' d v
 | .dP,_,h=>by rw[Rep] at *;exact h
 | .bl _,_,h=>by rw[Rep] at *;exact h
 | .int _,_,h=>by rw[Rep] at *;exact h
 | .str _,_,h=>by rw[Rep] at *;exact h
 | .tup ds,_,h=>by
  rw[Rep] at *;obtain⟨p,vs,e,hp,r⟩:=h;exact⟨p,vs,e,(s p).1 _ hp,s.zF r⟩
 | .lst ds,_,h=>by
  rw[Rep] at *;obtain⟨p,vs,e,hp,r⟩:=h;exact⟨p,vs,e,(s p).2 _ hp,s.zF r⟩
theorem Kp.zF {H H':Hp} (s:Kp H H'):∀{ds:List Dat} {vs:List V},bh H ds vs->bh H' ds vs
 | [],_,h=>by rw[bh] at *;exact h
 | d::ds,_,h=>by
  rw[bh] at *;obtain⟨v,r,e,h1,h2⟩:=h;exact⟨v,r,e,s.rep h1,s.zF h2⟩
end
theorem Kp.QH {H H':Hp} (s:Kp H H'):∀{ps:List (Str×Wt)} {us:List (Key×V)},oV H ps us->oV H' ps us
 | [],_,h=>h
 | _::_,_,⟨v,r,e,h1,h2⟩=>⟨v,r,e,s.rep h1,s.QH h2⟩
theorem oV.none {H:Hp} {ps:List (Str×Wt)} {us:List (Key×V)} {n:Str} (h:oV H ps us) (nn:n∉ps.map (·.1)):eE us (Sum.inr n)=none:=by
 rcases h.val (n:=n) with ⟨x,v,a,_,_⟩ | ⟨_,b⟩
 ·rw[zH nn] at a;cases a
 ·exact b
theorem uN {α:Type} {l:List α} (h:l.Nodup) {i:Nat} {x:α} (e:l[i]?=some x):x∉l.take i:=by
 intro m;obtain⟨j,hj,ej⟩:=List.getElem_of_mem m;rw[abg] at hj;rw[List.getElem_take] at ej;obtain⟨hi,ei⟩:=List.getElem?_eq_some_iff.mp e;have:=(List.getElem_inj h).mp (ej.trans ei.symm);omega
noncomputable def aJ (ss ts:List cD):List cD:=ts.foldl eF ss
noncomputable def mz (ss SS:List cD):Prop:=∃r,SS=ss++r
theorem mz.refl (ss:List cD):mz ss ss:=⟨[],(aaP _).symm⟩
theorem mz.trans {a b c:List cD}:mz a b->mz b c->mz a c:=fun⟨r,e⟩ ⟨t,f⟩=>⟨r++t,by rw[f,e,List.append_assoc]⟩
theorem BO (ss:List cD) (s:cD):mz ss (eF ss s):=by
 unfold eF
 split
 ·exact mz.refl _
 ·exact⟨_,rfl⟩
theorem dJ:∀(ts ss:List cD),mz ss (aJ ss ts)
 | [],ss=>mz.refl _
 | t::ts,ss=>(BO ss t).trans (dJ ts (eF ss t))
theorem mz.idx {ss SS:List cD} {s:cD} (h:s∈ss):mz ss SS->SS.idxOf s=ss.idxOf s:=fun⟨r,e⟩=>by rw[e,List.idxOf_append,if_pos h]
theorem mz.len {ss SS:List cD}:mz ss SS->ss.length<=SS.length:=fun⟨r,e⟩=>by rw[e,aay];omega
noncomputable def Zf (g:Gm) (ns:List Int) (r:Rw):Option cD:=(gU g (r.ds.foldl (eU g.cs 0) ns) (g.ps.length+1) r.to).map λnm=>(nm,r.ds.foldl (eU g.cs 0) ns)
noncomputable def Goes (g:Gm) (st:cD) (ts:List cD):Prop:=match look g.ps st.1 with
 | some (.pick w rs)=>fz g.cs st.2 (.pick w rs)≠[]/\ts.length=(fz g.cs st.2 (.pick w rs)).length/\∀(i:Nat) r,(fz g.cs st.2 (.pick w rs))[i]?=some r->∃t,ts[i]?=some t/\Zf g st.2 r=some t/\eP (.str t.1)=true
 | some (.fin _ _)=>ts=[]
 | some (.score _)=>ts=[]
 | _=>False
noncomputable def BP (g:Gm) (SS:List cD) (st:cD) (ts:List cD):Dat:=match look g.ps st.1 with
 | some (.pick w _)=>.tup [.str (Str.ofString "pick"),.int w,.lst (ts.map λt=>.int ((SS.idxOf t:Nat):Int))]
 | some x=>.tup [.str (Str.ofString "end"),.tup [.int ((D9 g.cs st.2 x).getD (0,1)).1,.int ((D9 g.cs st.2 x).getD (0,1)).2]]
 | none=>.dP
theorem BQ {J:It} {g:TG} {tc:TT} {te:TE} {σ0:L2.St} {H1:Hp} {fin:List V->Hp->Prop} {n:Nat} {Item:Nat->V->Hp->Hp->Prop} {Ok:Hp->Prop} (S:Src J Ok n Item) (W:Nat->List V->L2.St->Hp->Prop) (p0:W 0 [] σ0 H1) (bV:∀i ys σ H,W i ys σ H->Ok H) (hz:n<=sizeLine)
  (hs:∀i x σ H ys H3 (Q:L2.St->V->Hp->Prop) (N:L2.St->Hp->Prop),i<n->W i ys σ H->Item i x H H3->
   (∀σ3 y H6,W (i+1) (ys++ [y]) σ3 H6->Q σ3 y H6)->(∀σ3 H5,W (i+1) ys σ3 H5->N σ3 H5)->
   g x σ H3 λσ3 H4=>tc σ3 H4 λb H5=>if b=true then te σ3 H5 λy H6=>Q σ3 y H6 else N σ3 H5)
  (j7:∀ys σ H,W n ys σ H->fin ys H):fc J g tc te σ0 H1 fin:=by
 refine⟨λi m ys σ H=>m=n - i/\i<=n/\ys.length<=i/\W i ys σ H,⟨n,by simp,aaz _,aav _,p0⟩,?_⟩;rintro i m ys σ H ⟨rfl,hi,hl,p⟩
 by_cases gF:i<n
 ·refine .inr ⟨S.go i H gF (bV _ _ _ _ p),λx H3 y=>hs i x σ H ys H3 (λσ3 y H6=>ys.length<sizeLine/\∃m',m'<n - i/\m'=n - (i+1)/\i+1<=n/\(ys++ [y]).length<=i+1/\W (i+1) (ys++ [y]) σ3 H6)
   (λσ3 H5=>∃m',m'<n - i/\m'=n - (i+1)/\i+1<=n/\ys.length<=i+1/\W (i+1) ys σ3 H5) gF p (S.vv i H x H3 gF (bV _ _ _ _ p) y) (λσ3 y H6 q=>?_) (λσ3 H5 q=>?_)⟩
  ·exact⟨by omega,n - (i+1),by omega,rfl,gF,by rw[aay,aa0];omega,q⟩
  ·exact⟨n - (i+1),by omega,rfl,gF,by omega,q⟩
 ·have e:i=n:=by omega
  subst e;exact .inl ⟨S.stop H (bV _ _ _ _ p),j7 ys σ H p⟩
theorem km.fr {P:Program} {w:World} {q:Addr} {Fr HJ:Addr->Prop} {H:Hp} {f l n:Addr} {ss:List cD} (k:∀a o,H a=some o->Fr a->HJ a):km P w q Fr H f l n ss->km P w q HJ H f l n ss:=λhh=>by
 obtain⟨dx,xs,ks,h1,h2,h3,h4,h5,h6,h7,h8⟩:=hh;refine⟨dx,xs,ks,h1,h2,h3,h4.imp λ_ _ hh=>?_,h5,h6,h7,h8⟩;obtain⟨a,b,e,a1,a2,a3⟩:=hh;exact⟨a,b,e,a1,a2,k _ _ (aR _ _ a2) a3⟩
theorem jI.tup {H H':Hp} {s:cD} {b:Addr} (k:∀a vs,H a=some (.tup vs)->H' a=some (.tup vs)):jI H (ie s) b->jI H' (ie s) b:=fun⟨h1,h2,h3⟩=>by
 refine⟨h1,h2,?_⟩;unfold ie at h3 ⊢;obtain⟨p,x,y,e,hp,r1,r2⟩:=bA.mp h3;obtain⟨t,vs,e2,ht,r3⟩:=gI.mp r2;refine bA.mpr ⟨p,x,y,e,k _ _ hp,aK.mpr (aK.mp r1),gI.mpr ⟨t,vs,e2,k _ _ ht,?_⟩⟩;have:vs=s.2.map V.int:=by
  have:∀{ns:List Int} {vs:List V},bh H (ns.map Dat.int) vs->vs=ns.map V.int:=by
   intro ns
   induction ns with
   | nil=>intro vs h;exact bL.mp h
   | cons x ns ih=>
    intro vs h;obtain⟨v,r,rfl,h1,h2⟩:=aS.mp h;rw[aN.mp h1,ih h2];rfl
  exact this r3
 rw[this];exact bh.ints _
theorem kl.key:∀{ss:List cD} {ks:Rows} {i:Nat},kl ss ks i->∀p∈ks,∃s,p.1=ie s
 | [],_,_,h,p,hp=>by rw[kl] at h;subst h;cases hp
 | s::ss,_,_,⟨b,r,e,h⟩,p,hp=>by
  subst e;rcases List.mem_cons.mp hp with rfl | hp
  ·exact⟨s,rfl⟩
  ·exact h.key p hp
theorem km.K7 {P:Program} {w:World} {q:Addr} {Fr:Addr->Prop} {H:Hp} {f l n b:Addr} {ss:List cD} {ys QI:List V} (k:∀a,Fr a->a≠b) (hb:H b=some (.lst ys)) (bl:b≠l):km P w q Fr H f l n ss->km P w q Fr (upd H b (.lst QI)) f l n ss:=fun⟨dx,xs,ks,h1,h2,h3,h4,h5,h6,h7,h8⟩=>by
 have bn:b≠n:=λz=>by rw[z,h5] at hb;cases hb
 have up:∀a o,a≠b->b9 H l n a=some o->b9 (upd H b (.lst QI)) l n a=some o:=λa o ab e=>by
  obtain⟨e1,e2⟩:=ig e;rw[cB e1 e2] at e ⊢;rw[aE ab];exact e
 have tp:∀a vs,b9 H l n a=some (.tup vs)->b9 (upd H b (.lst QI)) l n a=some (.tup vs):=λa vs e=>up a _ (λz=>by have:=aR _ _ e;rw[z,hb] at this;cases this) e;refine⟨dx,xs,ks,up _ _ (λz=>by have:=aR _ _ h1;rw[z,hb] at this;cases this) h1,h2,by rw[aE (Ne.symm bl)];exact h3,h4.imp λ_ _ ⟨a,c,e,a1,a2,a3⟩=>⟨a,c,e,tp _ _ a1,up _ _ (k _ a3) a2,a3⟩,by rw[aE (Ne.symm bn)];exact h5,λp hp=>?_,h7,h8⟩;obtain⟨s,es⟩:=h7.key p hp;have:=h6 p hp;rw[es] at this ⊢;exact jI.tup tp this
noncomputable def jn (g:Gm) (st:cD):Dat:=.lst ((fz g.cs st.2 ((look g.ps st.1).getD (.fin 0 1))).map λr=>Dat.str r.word)
theorem Ec {H:Hp} {p:Pt} {v:V} (h:Rep H (dI p) v):∃q,v=.ref q/\H q=some (.tup (iI p)):=by
 cases p with
 | num n=>obtain⟨q,x,y,e,hq,a,b⟩:=bA.mp (show Rep H (.tup _) v from h);rw[aK.mp a,aN.mp b] at hq;exact⟨q,e,hq⟩
 | di n s=>obtain⟨q,x,y,z,e,hq,a,b,c⟩:=cV.mp (show Rep H (.tup _) v from h);rw[aK.mp a,aN.mp b,aN.mp c] at hq;exact⟨q,e,hq⟩
 | best n d s=>obtain⟨q,x,y,z,u,e,hq,a,b,c,f⟩:=dw.mp (show Rep H (.tup _) v from h);rw[aK.mp a,aN.mp b,aN.mp c,aN.mp f] at hq;exact⟨q,e,hq⟩
 | dX n d s=>obtain⟨q,x,y,z,u,e,hq,a,b,c,f⟩:=dw.mp (show Rep H (.tup _) v from h);rw[aK.mp a,aN.mp b,aN.mp c,aN.mp f] at hq;exact⟨q,e,hq⟩
 | hits n d s=>obtain⟨q,x,y,z,u,e,hq,a,b,c,f⟩:=dw.mp (show Rep H (.tup _) v from h);rw[aK.mp a,aN.mp b,aN.mp c,aN.mp f] at hq;exact⟨q,e,hq⟩
 | again n s=>obtain⟨q,x,y,z,e,hq,a,b,c⟩:=cV.mp (show Rep H (.tup _) v from h);rw[aK.mp a,aN.mp b,aN.mp c] at hq;exact⟨q,e,hq⟩
 | c8 n s=>obtain⟨q,x,y,z,e,hq,a,b,c⟩:=cV.mp (show Rep H (.tup _) v from h);rw[aK.mp a,aN.mp b,aN.mp c] at hq;exact⟨q,e,hq⟩
noncomputable def CM (q:Addr) (H:Hp) (c:Addr) (g:Gm) (tb:Addr):Prop:=∃dx sp mo wh us ft,H c=some (.ins q dx [(Str.ofString "spots",.ref sp),(Str.ofString "mosts",.ref mo),(Str.ofString "first",.str ft),(Str.ofString "whats",.ref wh),(Str.ofString "tables",.ref tb)])/\
 H sp=some (.dK (oS g.cs 0))/\H mo=some (.lst ((g.cs.map (·.2)).map V.int))/\H wh=some (.dK us)/\oV H g.ps us/\(g.ps.map (·.1)).head?=some ft
theorem CM.co {q:Addr} {H:Hp} {c:Addr} {g:Gm} {tb:Addr}:CM q H c g tb->tD q H c g:=λhh=>by
 obtain⟨dx,sp,mo,wh,us,ft,h1,h2,h3,h4,h5,h6⟩:=hh;exact⟨dx,sp,mo,wh,tb,us,ft,h1,h2,h3,h4,h5,h6⟩
theorem CM.mono {q:Addr} {H H':Hp} {c:Addr} {g:Gm} {tb:Addr} (s:aA H H'):CM q H c g tb->CM q H' c g tb:=λhh=>by
 obtain⟨dx,sp,mo,wh,us,ft,h1,h2,h3,h4,h5,h6⟩:=hh;exact⟨dx,sp,mo,wh,us,ft,s _ _ h1,s _ _ h2,s _ _ h3,s _ _ h4,h5.mono s,h6⟩
theorem Kp.dg {H:Hp} {tb:Addr} {kvs:List (Key×V)} (h:H tb=some (.dK kvs)):Kp H (dg H tb):=λa=>by
 by_cases c:a=tb
 ·subst c;rw[h];exact⟨(λ_ e=>by cases e),(λ_ e=>by cases e)⟩
 ·rw[bX c];exact⟨λ_ e=>e,λ_ e=>e⟩
noncomputable def K8 (q:Addr):Sp:=λvs H Q _=>gZ vs λc gv=>fR c λc=>∃dx,H c=some (.ins q dx [])/\∃g,Rep H (KU g) gv/\GoodG g/\∀tb H',(∀a o,a≠c->H a=some o->H' a=some o)->H tb=none->H' tb=some (.dK [])->CM q (dg H' tb) c g tb->Q .dP H'
noncomputable abbrev cE (H:Hp) (l n tb:Addr):Hp:=dg (b9 H l n) tb
theorem cL {H:Hp} {l n tb:Addr}:aA (cE H l n tb) H:=bU.trans aR
theorem cU {H:Hp} {l n tb a:Addr} (h1:a≠l) (h2:a≠n) (h3:a≠tb):cE H l n tb a=H a:=by
 show dg (b9 H l n) tb a=_;rw[bX h3,cB h1 h2]
theorem gh {H:Hp} {l n tb a:Addr} {o:HO} (e:cE H l n tb a=some o):a≠l/\a≠n/\a≠tb:=by
 have h3:a≠tb:=λz=>by
  have e:(if a=tb then none else b9 H l n a)=some o:=e;rw[if_pos z] at e;cases e
 have e:dg (b9 H l n) tb a=some o:=e;rw[bX h3] at e;obtain⟨h1,h2⟩:=ig e;exact⟨h1,h2,h3⟩
theorem BR {H:Hp} {l n tb:Addr}:aA (cE H l n tb) (dg H tb):=λa o e=>by
 obtain⟨h1,h2,h3⟩:=gh e;rw[cU h1 h2 h3] at e;rw[bX h3];exact e
theorem uO {rows:List (Int×Int×Int)} {B C:Int} (h:0<B/\(∀r∈rows,r.2.2∣B)/\∀M,(∀r∈rows,r.2.2∣M)->B∣M) (k:0<C/\(∀r∈rows,r.2.2∣C)/\∀M,(∀r∈rows,r.2.2∣M)->C∣M):B=C:=
 Int.le_antisymm (Int.le_of_dvd k.1 (h.2.2 C k.2.1)) (Int.le_of_dvd h.1 (k.2.2 B h.2.1))
theorem Ed {H H':Hp} {l n tb:Addr} (s:aA (dg H tb) (dg H' tb)):aA (cE H l n tb) (cE H' l n tb):=λa o e=>by
 obtain⟨h1,h2,h3⟩:=gh e;rw[cU h1 h2 h3] at e ⊢;have:=s a o (by rw[bX h3];exact e)
 rwa [bX h3] at this
theorem km.tb {P:Program} {w:World} {q:Addr} {Fr:Addr->Prop} {H H':Hp} {f l n tb:Addr} {ss:List cD} {kvs:List (Key×V)} (s:aA (dg H tb) (dg H' tb)) (ht:H tb=some (.dK kvs)):km P w q Fr H f l n ss->km P w q Fr H' f l n ss:=fun⟨dx,xs,ks,h1,h2,h3,h4,h5,h6,h7,h8⟩=>by
 have up:∀a o,H a=some o->(∀kvs,o≠.dK kvs)->H' a=some o:=λa o e no=>by
  have ne:a≠tb:=λz=>by rw[z,ht] at e;cases e;exact no _ rfl
  have:=s a o (by rw[bX ne];exact e)
  rwa [bX ne] at this
 have QJ:∀a o,b9 H l n a=some o->(∀kvs,o≠.dK kvs)->b9 H' l n a=some o:=λa o e no=>by
  obtain⟨e1,e2⟩:=ig e;rw[cB e1 e2] at e ⊢;exact up a o e no
 have tp:∀a vs,b9 H l n a=some (.tup vs)->b9 H' l n a=some (.tup vs):=λa vs e=>QJ _ _ e (λ_ z=>by cases z);refine⟨dx,xs,ks,QJ _ _ h1 (λ_ z=>by cases z),h2,up _ _ h3 (λ_ z=>by cases z),h4.imp λ_ _ ⟨a,c,e,a1,a2,a3⟩=>⟨a,c,e,tp _ _ a1,QJ _ _ a2 (λ_ z=>by cases z),a3⟩,up _ _ h5 (λ_ z=>by cases z),λp hp=>?_,h7,h8⟩;obtain⟨s,es⟩:=h7.key p hp;have:=h6 p hp;rw[es] at this ⊢;exact jI.tup tp this
noncomputable def Ja (rows:List (Int×Int×Int)) (B:Int):Prop:=0<B/\(∀r∈rows,r.2.2∣B)/\∀M,(∀r∈rows,r.2.2∣M)->B∣M
noncomputable def qP (rs:List Tw) (v:Int):Option Tw:=rs.find? λr=>decide (r.1<=v) && decide (v<=r.2.1)
noncomputable def QK (g:Gm) (ns:List Int) (r:Tw) (v:Int):Option cD:=(gU g (r.2.2.1.foldl (eU g.cs v) ns) (g.ps.length+1) r.2.2.2).map λnm=>(nm,r.2.2.1.foldl (eU g.cs v) ns)
noncomputable def dG (g:Gm) (st:cD) (ts:List (Int×cD)):Prop:=match look g.ps st.1 with
 | some (.pick _ _)=>Goes g st (ts.map (·.2))
 | some (.gX jl _ _ rs)=>∃ps B,jl=ps.map dI/\eA ps/\ps.length<=4/\Ja (bK ps) B/\ts.length=(bK ps).length/\∀(i:Nat) x,(Nm.weigh (bK ps) B)[i]?=some x->∃r s,qP rs x.1=some r/\ts[i]?=some (x.2,s)/\QK g st.2 r x.1=some s/\eP (.str s.1)=true
 | some (.fin _ _)=>ts=[]
 | some (.score _)=>ts=[]
 | _=>False
noncomputable def sy (SS:List cD) (x:Int×cD):Dat:=.tup [.int x.1,.int ((SS.idxOf x.2:Nat):Int)]
noncomputable def lB (g:Gm) (SS:List cD) (st:cD) (ts:List (Int×cD)):Dat:=match look g.ps st.1 with
 | some (.gX _ t b _)=>.tup [.str (Str.ofString "throw"),.tup [.int t,.int b],.lst (ts.map (sy SS))]
 | _=>BP g SS st (ts.map (·.2))
theorem wK {g:Gm} {st:cD} {ts:List (Int×cD)} (h:dG g st ts):∃x,look g.ps st.1=some x:=by
 unfold dG at h;cases lk:look g.ps st.1 with
 | none=>rw[lk] at h;exact h.elim
 | some x=>exact⟨x,rfl⟩
noncomputable def zM (H X:Hp) (tb:Addr) (g:Gm) (m:Nat) (Fr:Addr->Prop):Prop:=∃kvs,H tb=some (.dK kvs)/\kvs.length<=m/\∀nm v,eE kvs (Sum.inr nm)=some v->∃ps t b rs,look g.ps nm=some (.gX (ps.map dI) t b rs)/\(∃p,v=.ref p/\Fr p)/\Rep X (gf (bK ps)) v
theorem zM.mono {H X X':Hp} {tb:Addr} {g:Gm} {m m':Nat} {Fr:Addr->Prop} (s:aA X X') (hm:m<=m'):zM H X tb g m Fr->zM H X' tb g m' Fr:=fun⟨kvs,h1,h2,h3⟩=>⟨kvs,h1,by omega,λnm v e=>by obtain⟨ps,t,b,rs,a1,fp,a2⟩:=h3 nm v e;exact⟨ps,t,b,rs,a1,fp,a2.mono s⟩⟩
theorem zM.heap {H H' X:Hp} {tb:Addr} {g:Gm} {m:Nat} {Fr:Addr->Prop} (e:∀o,H tb=some o->H' tb=some o):zM H X tb g m Fr->zM H' X tb g m Fr:=fun⟨kvs,h1,h2,h3⟩=>⟨kvs,e _ h1,h2,h3⟩
theorem uP {kvs:List (Key×V)} {k:Key} {v:V} (h:eE kvs k=none) (k':Key):eE (kvs++ [(k,v)]) k'=if k=k' then some v else eE kvs k':=by
 unfold eE at *;rw[List.find?_append]
 by_cases c:k=k'
 ·subst c;rw[if_pos rfl];have:kvs.find? (λkv=>decide (kv.1=k))=none:=by simpa using h
  rw[this];simp
 ·rw[if_neg c];have:List.find? (λkv:Key×V=>decide (kv.1=k')) [(k,v)]=none:=by simp [c]
  rw[this];simp
theorem sC:∀{ps qs:List Pt},ps.map dI=qs.map dI->ps=qs
 | [],[],_=>rfl
 | [],_::_,h=>by cases h
 | _::_,[],h=>by cases h
 | p::ps,q::qs,h=>by
  rw[aaw,aaw] at h
  injection h with h1 h2
  rw[D7 h1,sC h2]
theorem yq {H:Hp} {v:V} {ps:List Pt} (h:Rep H (.lst (ps.map dI)) v):∃a,v=.ref a/\HE H a ps:=by
 obtain⟨a,xs,e,ha,r⟩:=aZ.mp h;refine⟨a,e,xs,ha,?_⟩;have:∀{ps:List Pt} {xs:List V},bh H (ps.map dI) xs->Al (λp v=>∃q,v=.ref q/\H q=some (.tup (iI p))) ps xs:=by
  intro ps
  induction ps with
  | nil=>intro xs h;rw[bL.mp h];trivial
  | cons p ps ih=>
   intro xs h;obtain⟨v,r,rfl,h1,h2⟩:=aS.mp h;exact⟨Ec h1,ih h2⟩
 exact this r
theorem yr {H X:Hp} {rows:List (Int×Int×Int)} {p:Addr} (h:Rep H (gf rows) (.ref p)) (kp:∀o,H p=some o->X p=some o) (kt:∀a vs,H a=some (.tup vs)->X a=some (.tup vs)):Rep X (gf rows) (.ref p):=by
 obtain⟨a,xs,e,ha,r⟩:=aZ.mp h;cases e;refine aZ.mpr ⟨_,xs,rfl,kp _ ha,?_⟩;refine bh.of r.length λi d v ed ev=>?_;obtain⟨d',Fw,rd⟩:=r.get ev;rw[ed] at Fw;cases Fw;rw[aau] at ed;obtain⟨x,_,rfl⟩:=Option.map_eq_some_iff.mp ed;obtain⟨p1,q1,rfl,h1,h2⟩:=kU.mp rd;exact kU.mpr ⟨p1,q1,rfl,kt _ _ h1,kt _ _ h2⟩
theorem BU {H X:Hp} {ws:Nm.Ws} {p:Addr} (h:Rep H (ji ws) (.ref p)) (kp:∀o,H p=some o->X p=some o) (kt:∀a vs,H a=some (.tup vs)->X a=some (.tup vs)):Rep X (ji ws) (.ref p):=by
 obtain⟨a,xs,e,ha,r⟩:=aZ.mp h;cases e;refine aZ.mpr ⟨_,xs,rfl,kp _ ha,?_⟩;refine bh.of r.length λi d v ed ev=>?_;obtain⟨d',Fw,rd⟩:=r.get ev;rw[ed] at Fw;cases Fw;rw[aau] at ed;obtain⟨x,_,rfl⟩:=Option.map_eq_some_iff.mp ed;obtain⟨q1,rfl,h1⟩:=dW.mp rd;exact dW.mpr ⟨q1,rfl,kt _ _ h1⟩
noncomputable def K9:Sp:=λvs H Q _=>gY vs λv=>∃ps,Rep H (ji ps) v/\∃W,0<W/\W<=1000000/\ps.length<=1296/\(∀p∈ps,0<p.2/\p.2∣W)/\∀B,0<B->(∀M,(∀p∈ps,p.2∣M)->B∣M)->(∀p∈ps,p.2∣B)->Q (.int B) H
noncomputable def Fx:Sp:=λvs H Q _=>gY vs λv=>∃rows,Rep H (gf rows) v/\∃W,GoodR W rows/\∀B H',aA H H'->Ja rows B->Q (.int B) H'
noncomputable def La:Sp:=λvs H Q _=>gZ vs λv B=>lP B λB=>∃rows,Rep H (gf rows) v/\∃W,GoodR W rows/\Ja rows B/\∀p H',aA H H'->H p=none->Rep H' (ji (Nm.weigh rows B)) (.ref p)->Q (.ref p) H'
theorem BV {a b W:Int} (h1:a∣W) (h2:b∣W):a / Nm.g a b*b∣W:=by
 rw[Nm.qA,<-Int.mul_ediv_assoc _ (Nm.nG a b)];have e:a*b / Nm.g a b=a*b / ((Int.gcd a b:Nat):Int):=rfl;rw[e];refine Int.natAbs_dvd_natAbs.mp ?_;rw[Int.natAbs_ediv_of_dvd (Int.dvd_trans (Int.gcd_dvd_left ..) (Int.dvd_mul_right ..)),Int.natAbs_mul,Int.natAbs_natCast];exact Nat.lcm_dvd (Int.natAbs_dvd_natAbs.mpr h1) (Int.natAbs_dvd_natAbs.mpr h2)
theorem HK {W B:Int} {rows:List (Int×Int×Int)} (g:GoodR W rows) (gb:Ja rows B):B<=1000000:=Int.le_trans (Int.le_of_dvd g.1 (gb.2.2 W λr hr=>(g.2.2.2 r hr).2.1)) g.2.1
noncomputable def Fy (q:Addr):Sp:=λvs H Q _=>gZ vs λc sv=>fR c λc=>∃g nm ns tb,CM q (dg H tb) c g tb/\vy H sv nm ns/\∃kvs,H tb=some (.dK kvs)/\kvs.length<=1000/\∃ps t b rs,look g.ps nm=some (.gX (ps.map dI) t b rs)/\eA ps/\ps.length<=4/\(∀v,eE kvs (Sum.inr nm)=some v->Q v H)/\(eE kvs (Sum.inr nm)=none->∀p H1,aA H H1->H p=none->Rep H1 (gf (bK ps)) (.ref p)->Q (.ref p) (upd H1 tb (.dK (kvs++ [(Sum.inr nm,.ref p)]))))
noncomputable def Lb (q:Addr):Sp:=λvs H Q _=>tQ vs λc sv v=>fR c λc=>lP v λv=>∃g,tD q H c g/\GoodG g/\∃nm ns,vy H sv nm ns/\ns.length=g.cs.length/\∃jl t b rs,look g.ps nm=some (.gX jl t b rs)/\∃r,qP rs v=some r/\∃f gW,gU g (r.2.2.1.foldl (eU g.cs v) ns) f r.2.2.2=some gW/\∀p l H',aA H H'->H p=none->H l=none->H' p=some (.tup [.str gW,.ref l])->H' l=some (.lst ((r.2.2.1.foldl (eU g.cs v) ns).map V.int))->Q (.ref p) H'
noncomputable def dj (ts:List (Int×cD)):List cD:=ts.map (·.2)
noncomputable def zN (g:Gm) (SS:List cD) (iO:List (List (Int×cD))):List Dat:=(SS.zip iO).map λx=>lB g SS x.1 x.2
theorem qQ {H:Hp} {p:Tw->Bool}:∀{rs:List Tw} {xs:List V},bh H ((rs.map yi).map nh) xs->bh H (((rs.filter p).map yi).map nh) ((xs.zip rs).filterMap λx=>if p x.2=true then some x.1 else none)
 | [],xs,h=>by rw[List.zip_nil_right];exact bL.mpr rfl
 | r::rs,xs,h=>by
  obtain⟨v,ys,rfl,h1,h2⟩:=aS.mp h;have ih:=qQ (p:=p) h2;rw[List.zip_cons_cons,abn]
  by_cases c:p r=true
  ·simp only[c,if_true];rw[List.filter_cons_of_pos c,aaw,aaw];exact aS.mpr ⟨v,_,rfl,h1,ih⟩
  ·simp only[c];rw[List.filter_cons_of_neg c];exact ih
set_option tactic.hygienic true in
theorem wL {ss:List cD} {s:cD} (h:ss.Nodup):(eF ss s).Nodup:=by
 unfold eF
 split
 ·exact h
 ·rename_i c
  rw[List.nodup_append];exact⟨h,List.pairwise_singleton _ _,λa ha b hb=>by rw[List.mem_singleton.mp hb];exact λz=>c (z▸ha)⟩
theorem lC:∀{ts ss:List cD},ss.Nodup->(aJ ss ts).Nodup
 | [],_,h=>h
 | _::ts,_,h=>lC (ts:=ts) (wL h)
set_option tactic.hygienic true in
theorem zO {ss:List cD} {s x:cD}:x∈eF ss s↔x∈ss\/x=s:=by
 unfold eF
 split
 ·rename_i c
  exact⟨.inl,λh=>h.elim id λz=>z▸c⟩
 ·rw[List.mem_append,List.mem_singleton]
theorem cP:∀{ts ss:List cD} {x:cD},x∈aJ ss ts↔x∈ss\/x∈ts
 | [],_,_=>by
  unfold aJ;simp
 | t::ts,ss,x=>by
  show x∈aJ (eF ss t) ts↔_;rw[cP (ts:=ts),zO,abh,or_assoc]
theorem o6 {g:Gm} {st:cD} {ts us:List (Int×cD)} (np:∀wo rs,look g.ps st.1≠some (.pick wo rs)) (h:dG g st ts) (k:dG g st us):ts=us:=by
 unfold dG at h k;cases lk:look g.ps st.1 with
 | none=>rw[lk] at h;exact h.elim
 | some x=>
  rw[lk] at h k;cases x with
  | pick wo rs=>exact absurd lk (np wo rs)
  | fin _ _=>rw[show ts=[] from h,show us=[] from k]
  | score _=>rw[show ts=[] from h,show us=[] from k]
  | ask _ _ _ _=>exact h.elim
  | gX jl t b rs=>
   obtain⟨ps,B,e1,_,_,ib,l1,a1⟩:=h;obtain⟨qs,C,e2,_,_,ic,l2,a2⟩:=k;have:ps=qs:=sC (e1.symm.trans e2);subst this;have:=uO ib ic;subst this;apply List.ext_getElem?;intro i
   by_cases hi:i< (bK ps).length
   ·have hw:i< (Nm.weigh (bK ps) B).length:=by unfold Nm.weigh;rw[aat];exact hi
    obtain⟨r,s,ro,et,gt,_⟩:=a1 i _ (aaG hw);obtain⟨r',s',Zg,et',Zh,_⟩:=a2 i _ (aaG hw);rw[ro] at Zg;cases Zg;rw[gt] at Zh;cases Zh;rw[et,et']
   ·rw[List.getElem?_eq_none (by omega),List.getElem?_eq_none (by omega)]
noncomputable def mQ (g:Gm) (st:cD):Prop:=∃wo rs,look g.ps st.1=some (.pick wo rs)/\fz g.cs st.2 (.pick wo rs)=[]
theorem dG.stuck {g:Gm} {st:cD} {ts:List (Int×cD)} (h:dG g st ts):¬mQ g st:=by
 rintro⟨wo,rs,lk,e⟩;unfold dG at h;rw[lk] at h;have h:Goes g st (ts.map (·.2)):=h;unfold Goes at h;rw[lk] at h;exact h.1 e
noncomputable def dM (g:Gm) (o:Nat) (SS:List cD):Nat->List cD->List (List (Int×cD))->Prop
 | i,ss,[]=>mz ss SS/\(o=0->ss=SS/\i=SS.length)/\(o=1->∃st,ss[i]?=some st/\st.2.length=g.cs.length/\mQ g st)/\(o=2->∃st ts,ss[i]?=some st/\st.2.length=g.cs.length/\dG g st ts/\120< (aJ ss (dj ts)).length)
 | i,ss,ts::r=>∃st,ss[i]?=some st/\st.2.length=g.cs.length/\dG g st ts/\dM g o SS (i+1) (aJ ss (dj ts)) r
theorem dM.tE {g:Gm} {o:Nat} {SS:List cD}:∀{r:List (List (Int×cD))} {i:Nat} {ss:List cD},dM g o SS i ss r->mz ss SS
 | [],_,_,h=>h.1
 | ts::_,_,ss,⟨_,_,_,_,h⟩=>(dJ (dj ts) ss).trans h.tE
theorem dM.all {g:Gm} {SS:List cD}:∀{r:List (List (Int×cD))} {i:Nat} {ss:List cD},dM g 0 SS i ss r->i+r.length=SS.length/\∀j,i<=j->j<SS.length->∃st ts,SS[j]?=some st/\st.2.length=g.cs.length/\dG g st ts/\∀t∈dj ts,t∈SS
 | [],i,ss,h=>⟨(h.2.1 rfl).2,λj h1 h2=>by have:=(h.2.1 rfl).2;omega⟩
 | ts::r,i,ss,⟨st,es,ls,go,h⟩=>by
  obtain⟨a,b⟩:=h.all;refine⟨by rw[aaF];omega,λj h1 h2=>?_⟩
  by_cases c:i=j
  ·subst c;obtain⟨q,e⟩:=(dJ (dj ts) ss).trans h.tE;obtain⟨q',e'⟩:=h.tE;exact⟨st,ts,by rw[e,abc (List.getElem?_eq_some_iff.mp es).1];exact es,ls,go,λt ht=>by rw[e'];exact aba _ (cP.mpr (.inr ht))⟩
  ·exact b j (by omega) h2
theorem dM.ex {g:Gm} {R:cD->Prop} (cl:∀st,R st->st.2.length=g.cs.length/\(mQ g st\/∃ts,dG g st ts/\∀t∈dj ts,R t)):∀(k i:Nat) (ss:List cD),ss.Nodup->(∀s∈ss,R s)->i<=ss.length->ss.length<=120->120<=i+k->∃o SS iO,o<=2/\dM g o SS i ss iO/\SS.length<=120/\SS.Nodup/\(∀s∈SS,R s)/\(o=1->∃st,R st/\mQ g st)/\(o=2->∃us:List cD,us.Nodup/\(∀s∈us,R s)/\120<us.length):=by
 intro k
 induction k with
 | zero=>
  intro i ss nd sub hi BW hk;exact⟨0,ss,[],by decide,⟨mz.refl _,λ_=>⟨rfl,by omega⟩,(λz=>by cases z),(λz=>by cases z)⟩,BW,nd,sub,(λz=>by cases z),(λz=>by cases z)⟩
 | succ k ih=>
  intro i ss nd sub hi BW hk
  by_cases e:i=ss.length
  ·exact⟨0,ss,[],by decide,⟨mz.refl _,λ_=>⟨rfl,e⟩,(λz=>by cases z),(λz=>by cases z)⟩,BW,nd,sub,(λz=>by cases z),(λz=>by cases z)⟩
  ·have gF:i<ss.length:=by omega
   have hm:=sub _ (aa9 gF);have es:=aaG gF;obtain⟨l,sk | ⟨ts,go,to⟩⟩:=cl _ hm
   ·exact⟨1,ss,[],by decide,⟨mz.refl _,(λz=>by cases z),λ_=>⟨_,es,l,sk⟩,(λz=>by cases z)⟩,BW,nd,sub,λ_=>⟨_,hm,sk⟩,(λz=>by cases z)⟩
   ·have Zi:(aJ ss (dj ts)).Nodup:=lC nd;have Lc:∀s∈aJ ss (dj ts),R s:=λs hs=>(cP.mp hs).elim (sub s) (to s)
    by_cases c:(aJ ss (dj ts)).length<=120
    ·have a:=(dJ (dj ts) ss).len;obtain⟨o,SS,iO,ho,h1,h2⟩:=ih (i+1) (aJ ss (dj ts)) Zi Lc (by omega) c (by omega);exact⟨o,SS,ts::iO,ho,⟨ss[i],es,l,go,h1⟩,h2⟩
    ·exact⟨2,ss,[],by decide,⟨mz.refl _,(λz=>by cases z),(λz=>by cases z),λ_=>⟨_,ts,es,l,go,by omega⟩⟩,BW,nd,sub,(λz=>by cases z),λ_=>⟨_,Zi,Lc,by omega⟩⟩
noncomputable def sE (P:Program) (w:World) (q qm:Addr):Sp:=λvs H Q E=>∃f sv Fr l n ss s,vs=[.ref f,sv]/\km P w q Fr H f l n ss/\zJ Fr (b9 H l n) sv s.1 s.2/\eP (.str s.1)=true/\s.2.length<=100/\(s∉ss->ss.length=120->∀H',aA H H'->E (.ref qm) none H')/\((s∈ss\/ss.length<120)->∀H',aA (b9 H l n) (b9 H' l n)->km P w q Fr H' f l n (eF ss s)->Q (.int ((ss.idxOf s:Nat):Int)) H')
noncomputable def BX (P:Program) (w:World) (qc qf qn qm:Addr):Sp:=λvs H Q E=>∃c f sv Fr l n g ss st wo rs,vs=[.ref c,.ref f,sv]/\tD qc (b9 H l n) c g/\GoodG g/\km P w qf Fr H f l n ss/\(∀a,H a=none->Fr a)/\vy (b9 H l n) sv st.1 st.2/\st.2.length=g.cs.length/\look g.ps st.1=some (.pick wo rs)/\
 (fz g.cs st.2 (.pick wo rs)=[]->∀H',aA H H'->E (.ref qn) none H')/\
 (fz g.cs st.2 (.pick wo rs)≠[]->∃ts SS,Goes g st ts/\((aJ ss ts).length<=120->mz (aJ ss ts) SS)/\(120< (aJ ss ts).length->∀H',aA (b9 H l n) (b9 H' l n)->E (.ref qm) none H')/\
  ((aJ ss ts).length<=120->∀p H',aA (b9 H l n) (b9 H' l n)->km P w qf Fr H' f l n (aJ ss ts)->H p=none->b9 H' l n p=some (.lst (ts.map λt=>V.int ((SS.idxOf t:Nat):Int)))->Q (.ref p) H'))
noncomputable def Fz (P:Program) (w:World) (qc qf qm:Addr):Sp:=λvs H Q E=>∃c f sv Fr l n tb g ss st ts jl t b rs SS m,vs=[.ref c,.ref f,sv]/\CM qc (cE H l n tb) c g tb/\GoodG g/\km P w qf Fr H f l n ss/\zM H (cE H l n tb) tb g m Fr/\m<=200/\(∀a,H a=none->Fr a)/\vy (cE H l n tb) sv st.1 st.2/\st.2.length=g.cs.length/\look g.ps st.1=some (.gX jl t b rs)/\
 dG g st ts/\((aJ ss (dj ts)).length<=120->mz (aJ ss (dj ts)) SS)/\(120< (aJ ss (dj ts)).length->∀H',aA (cE H l n tb) (cE H' l n tb)->E (.ref qm) none H')/\
 ((aJ ss (dj ts)).length<=120->∀p H',aA (cE H l n tb) (cE H' l n tb)->km P w qf Fr H' f l n (aJ ss (dj ts))->zM H' (cE H' l n tb) tb g (m+1) Fr->H p=none->Rep (cE H' l n tb) (.lst (ts.map (sy SS))) (.ref p)->Q (.ref p) H')
noncomputable def BY (P:Program) (w:World) (qc qf qn qm:Addr):Sp:=λvs H Q E=>∃c f sv Fr l n tb g ss st m,vs=[.ref c,.ref f,sv]/\CM qc (cE H l n tb) c g tb/\GoodG g/\km P w qf Fr H f l n ss/\zM H (cE H l n tb) tb g m Fr/\m<=200/\(∀a,H a=none->Fr a)/\vy (cE H l n tb) sv st.1 st.2/\st.2.length=g.cs.length/\
 (mQ g st->∀H',aA H H'->E (.ref qn) none H')/\
 (¬mQ g st->∃ts SS,dG g st ts/\((aJ ss (dj ts)).length<=120->mz (aJ ss (dj ts)) SS)/\(120< (aJ ss (dj ts)).length->∀H',aA (cE H l n tb) (cE H' l n tb)->E (.ref qm) none H')/\
  ((aJ ss (dj ts)).length<=120->∀u H',aA (cE H l n tb) (cE H' l n tb)->km P w qf Fr H' f l n (aJ ss (dj ts))->zM H' (cE H' l n tb) tb g (m+1) Fr->(∀b ys,H b=some (.lst ys)->Rep (dg (cE H' l n tb) b) (lB g SS st ts) u/\∃q vs,u=.ref q/\dg (cE H' l n tb) b q=some (.tup vs)/\∀x y w,vs=[x,y,.ref w]->H w=none)->Q u H'))
noncomputable def Jb (H0 X:Hp) (b l:Addr) (v:V):Prop:=∃q vs,v=.ref q/\X q=some (.tup vs)/\∀x y w,vs=[x,y,.ref w]->H0 w=none/\w≠b/\w≠l
theorem Jb.mono {H0 X X':Hp} {b l:Addr} {v:V} (s:aA X X'):Jb H0 X b l v->Jb H0 X' b l v:=fun⟨q,vs,e,h,k⟩=>⟨q,vs,e,s _ _ h,k⟩
noncomputable def BZ (qn qm:Addr):Sp:=λvs H Q E=>∃gv g ft nm F o SS iO,vs=[gv]/\Rep H (KU g) gv/\GoodG g/\(g.ps.map (·.1)).head?=some ft/\gU g (List.replicate g.cs.length 0) F ft=some nm/\eP (.str nm)=true/\o<=2/\dM g o SS 0 [(nm,List.replicate g.cs.length 0)] iO/\SS.length<=120/\
 (o=1->∀H',aA H H'->E (.ref qn) none H')/\(o=2->∀H',aA H H'->E (.ref qm) none H')/\
 (o=0->∀p b l wl bs xs ws H',aA H H'->H b=none->H wl=none->H' p=some (.tup [.ref b,.ref l,.ref wl])->H' b=some (.lst bs)->bh H' (zN g SS iO) bs->(∀v∈bs,Jb H H' b l v)->H' l=some (.lst xs)->Al (λs v=>zJ (λa=>H a=none/\a≠b/\a≠l) H' v s.1 s.2) SS xs->H' wl=some (.lst ws)->bh H' (SS.map (jn g)) ws->Q (.ref p) H')
theorem yt:∀{ps:List (Str×Wt)} {i:Nat} {x:Str×Wt},(ps.map (·.1)).Nodup->ps[i]?=some x->look ps x.1=some x.2
 | [],_,_,_,e=>by simp at e
 | p::ps,i,x,nd,e=>by
  rw[aaw,List.nodup_cons] at nd;unfold look;cases i with
  | zero=>
   have e:p=x:=by simpa using e
   subst e;rw[List.find?_cons_of_pos (by simp)];rfl
  | succ i=>
   have e:ps[i]?=some x:=by simpa using e
   rw[List.find?_cons_of_neg (by
    intro z;have z:p.1=x.1:=by simpa using z
    exact nd.1 (by rw[z];exact List.mem_map.mpr ⟨x,aaC e,rfl⟩))]
   exact yt nd.2 e
noncomputable def uQ (cs:List (Str×Int)) (ns:List Int):Prop:=ns.length=cs.length/\∀(i:Nat) c,cs[i]?=some c->0<=ns.getD i 0/\ns.getD i 0<=c.2
theorem HL {cs:List (Str×Int)} {i:Nat} {c:Str×Int} (e:cs[i]?=some c):most cs i=c.2:=by
 unfold most;rw[abl,aau,e];rfl
theorem uR {l:List Int} {i j:Nat} {v:Int} (h:i<l.length):(l.set i v).getD j 0=if j=i then v else l.getD j 0:=by
 rw[abl,List.getElem?_set,abl]
 by_cases c:i=j
 ·subst c;rw[if_pos rfl,if_pos h,if_pos rfl];rfl
 ·rw[if_neg c,if_neg (Ne.symm c)]
theorem sG {cs:List (Str×Int)} {ns:List Int} {j:Nat} {k:Int} (h0:∀(i:Nat) c,cs[i]?=some c->0<=c.2) (h:uQ cs ns) (hj:j<cs.length) (k0:0<=k):uQ cs (ni cs ns j k):=by
 refine⟨hZ.trans h.1,λi c ec=>?_⟩;unfold ni;rw[uR (by rw[h.1];exact hj)]
 by_cases e:i=j
 ·subst e;rw[if_pos rfl,HL ec];have:=h0 i c ec;omega
 ·rw[if_neg e];exact h.2 i c ec
theorem sI {cs:List (Str×Int)} {ns:List Int} {j:Nat} (h:uQ cs ns) (hj:j<cs.length):0<=ns.getD j 0:=(h.2 j _ (aaG hj)).1
noncomputable def uS (cs:List (Str×Int)):Dd->Prop
 | .set n k=>n∈cs.map (·.1)/\0<=k
 | .plus n k=>n∈cs.map (·.1)/\0<=k
 | .face n=>n∈cs.map (·.1)
 | .move n m=>n∈cs.map (·.1)/\m∈cs.map (·.1)/\n≠m
noncomputable def B1 (cs:List (Str×Int)) (ds:List Dd):Prop:=ds.length<=2/\∀d∈ds,uS cs d
theorem uS.good {cs:List (Str×Int)}:∀{d:Dd},uS cs d->qL cs d
 | .set _ _,h=>h.1
 | .plus _ _,h=>h.1
 | .face _,h=>h
 | .move _ _,h=>⟨h.1,h.2.1⟩
theorem Ee {cs:List (Str×Int)} {ns:List Int} {j:Nat} (h0:∀(i:Nat) c,cs[i]?=some c->0<=c.2) (h:uQ cs ns) (hj:j<cs.length):uQ cs (ns.set j 0):=by
 refine⟨by rw[List.length_set];exact h.1,λi c ec=>?_⟩;rw[uR (by rw[h.1];exact hj)]
 by_cases e:i=j
 ·rw[if_pos e];exact⟨Int.le_refl _,h0 i c ec⟩
 ·rw[if_neg e];exact h.2 i c ec
theorem B2 {cs:List (Str×Int)} {v:Int} (h0:∀(i:Nat) c,cs[i]?=some c->0<=c.2) (v0:0<=v):∀{d:Dd} {ns:List Int},uS cs d->uQ cs ns->uQ cs (eU cs v ns d)
 | .set n k,_,d,h=>sG h0 h (cZ d.1) d.2
 | .plus n k,ns,d,h=>sG h0 h (cZ d.1) (by have:=sI h (cZ d.1);have:=d.2;omega)
 | .face n,ns,d,h=>sG h0 h (cZ d) (by have:=sI h (cZ d);omega)
 | .move n m,ns,d,h=>Ee h0 (sG h0 h (cZ d.2.1) (by have:=sI h (cZ d.1);have:=sI h (cZ d.2.1);omega)) (cZ d.1)
theorem B3 {cs:List (Str×Int)} {v:Int} (h0:∀(i:Nat) c,cs[i]?=some c->0<=c.2) (v0:0<=v):∀{ds:List Dd} {ns:List Int},(∀d∈ds,uS cs d)->uQ cs ns->uQ cs (ds.foldl (eU cs v) ns)
 | [],_,_,h=>h
 | d::ds,ns,k,h=>B3 h0 v0 (ds:=ds) (λx hx=>k x (aaB _ hx)) (B2 h0 v0 (k d aaE) h)
theorem yu {cs:List (Str×Int)} (h0:∀(i:Nat) c,cs[i]?=some c->0<=c.2):uQ cs (List.replicate cs.length 0):=by
 refine⟨List.length_replicate,λi c e=>?_⟩;have hi:=(List.getElem?_eq_some_iff.mp e).1;rw[abl,List.getElem?_replicate,if_pos hi];exact⟨Int.le_refl _,h0 i c e⟩
noncomputable def sN:Str:=Str.ofString "sum"
noncomputable def gN:List Str:=[Str.ofString "roll",Str.ofString "end",Str.ofString "b",Str.ofString "c"]
theorem jR:gN.Nodup/\∀n:Str,n∈gN->eP (.str n)=true:=by ac_rfl
theorem Ld:eP (.str sN)=true:=by ac_rfl
noncomputable def FA (cs:List (Str×Int)):Prop:=cs=[]\/∃m,1<=m/\m<=60/\cs=[(sN,m)]
noncomputable def B4 (cs:List (Str×Int)) (rs:List Tw):Prop:=rs.length<=6/\(∀r∈rs,B1 cs r.2.2.1/\r.2.2.2∈gN)/\∀v:Int,0<=v->v<=999->∃(i:Nat) (r:Tw),rs[i]?=some r/\(r.1<=v/\v<=r.2.1)/\∀(j:Nat) r',rs[j]?=some r'->r'.1<=v/\v<=r'.2.1->j=i
noncomputable def iu (cs:List (Str×Int)) (ps:List Pt) (t:Int) (rs:List Tw):Gm:=⟨cs,[(Str.ofString "roll",.gX (ps.map dI) t 1 rs),(Str.ofString "end",.fin 1 2),(Str.ofString "b",.fin 0 1),(Str.ofString "c",.fin (-3) 1)]⟩
noncomputable def ky (rows:List (Int×Int×Int)):Int:=rows.foldr (λr b=>((Int.lcm r.2.2 b:Nat):Int)) 1
theorem yv:∀{rows:List (Int×Int×Int)},(∀r∈rows,0<r.2.2)->Ja rows (ky rows)
 | [],_=>⟨by decide,(λr hr=>by cases hr),λM _=>Int.one_dvd M⟩
 | r::rows,h=>by
  obtain⟨a,b,c⟩:=yv (rows:=rows) λx hx=>h x (aaB _ hx);have hr:=h r aaE;show 0< ((Int.lcm r.2.2 (ky rows):Nat):Int)/\(∀x∈r::rows,x.2.2∣((Int.lcm r.2.2 (ky rows):Nat):Int))/\∀M,(∀x∈r::rows,x.2.2∣M)->((Int.lcm r.2.2 (ky rows):Nat):Int)∣M;refine⟨?_,λx hx=>?_,λM hM=>?_⟩
  ·have:0<Int.lcm r.2.2 (ky rows):=Int.lcm_pos (by omega) (by omega);omega
  ·rcases List.mem_cons.mp hx with rfl | hx
   ·exact Int.dvd_lcm_left _ _
   ·exact Int.dvd_trans (b x hx) (Int.dvd_lcm_right _ _)
  ·exact Int.coe_lcm_dvd (hM r aaE) (c M λx hx=>hM x (aaB _ hx))
theorem B5 {ps:List Pt} (g:eA ps):Ja (bK ps) (ky (bK ps)):=yv λr hr=>((mw g).2.2.2 r hr).1
theorem d4 {ps:List Pt} (g:eA ps):ps.length<=4/\(bK ps).length<=40/\∀x∈Nm.weigh (bK ps) (ky (bK ps)),(0<=x.1/\x.1<=999)/\1<=x.2:=by
 have h:∀ps∈jO,ps.length<=4/\(bK ps).length<=40/\∀x∈Nm.weigh (bK ps) (ky (bK ps)),(0<=x.1/\x.1<=999)/\1<=x.2:=by ac_rfl
 exact h ps g
noncomputable def fA:List (Int×Int)->Int
 | []=>0
 | x::r=>x.2+fA r
noncomputable def yw:List (Int×Int)->Nat
 | []=>0
 | x::r=>Nat.gcd x.2.natAbs (yw r)
theorem Ef {ps:List Pt} (g:eA ps):fA (Nm.weigh (bK ps) (ky (bK ps)))<=1000000/\yw (Nm.weigh (bK ps) (ky (bK ps)))=1/\∀r∈bK ps,r.2.1* (ky (bK ps) / r.2.2)*r.2.2=fA (Nm.weigh (bK ps) (ky (bK ps)))*r.2.1:=by
 have h:∀ps∈jO,fA (Nm.weigh (bK ps) (ky (bK ps)))<=1000000/\yw (Nm.weigh (bK ps) (ky (bK ps)))=1/\∀r∈bK ps,r.2.1* (ky (bK ps) / r.2.2)*r.2.2=fA (Nm.weigh (bK ps) (ky (bK ps)))*r.2.1:=by ac_rfl
 exact h ps g
structure G5 (g:Gm) (cs:List (Str×Int)) (ps:List Pt) (t:Int) (rs:List Tw):Prop where
 eg:g=iu cs ps t rs
 hc:FA cs
 hp:ps∈jO
 hr:B4 cs rs
section g5
variable {g : Gm} {cs : List (Str × Int)} {ps : List Pt} {t : Int} {rs : List Tw}
theorem FA.nd (h:FA cs):(cs.map (·.1)).Nodup/\cs.length<=1/\(∀(i:Nat) c,cs[i]?=some c->0<=c.2)/\∀x∈cs.map (·.1),eP (.str x)=true:=by
 rcases h with rfl | ⟨m,h1,h2,rfl⟩
 ·exact⟨by decide,by decide,(λi c e=>by simp at e),(λx hx=>by cases hx)⟩
 ·refine⟨by simp,aav _,λi c e=>?_,λx hx=>?_⟩
  ·cases i with
   | zero=>cases e;show 0<=m;omega
   | succ i=>simp at e
  ·rw[List.mem_singleton.mp (show x∈[sN] from hx)];exact Ld
theorem qR {i:Nat} {x:Str×Wt} (e:(iu cs ps t rs).ps[i]?=some x):look (iu cs ps t rs).ps x.1=some x.2:=yt jR.1 e
theorem OC {i:Nat} {x:Str×Wt} (e:(iu cs ps t rs).ps[i]?=some x):x=(Str.ofString "roll",.gX (ps.map dI) t 1 rs)\/∃a b,x.2=.fin a b:=by
 match i,e with
 | 0,e=>cases e;exact .inl rfl
 | 1,e=>cases e;exact .inr ⟨_,_,rfl⟩
 | 2,e=>cases e;exact .inr ⟨_,_,rfl⟩
 | 3,e=>cases e;exact .inr ⟨_,_,rfl⟩
 | n+4,e=>cases e
theorem FC {ns:List Int} {f:Nat} {nm:Str} (h:nm∈gN):gU (iu cs ps t rs) ns (f+1) nm=some nm:=by
 obtain⟨x,hx,rfl⟩:=List.mem_map.mp (show nm∈(iu cs ps t rs).ps.map (·.1) from h);obtain⟨i,ei⟩:=List.mem_iff_getElem?.mp hx;have lk:=qR ei;unfold gU;rw[lk];rcases OC ei with rfl | ⟨p,q,e⟩
 ·rfl
 ·rw[e]
noncomputable def Ah (g:Gm) (st:cD):Prop:=st.1∈gN/\uQ g.cs st.2
theorem HM (h:B4 cs rs) {v:Int} (v0:0<=v) (v9:v<=999):∃(i:Nat) (r:Tw),rs[i]?=some r/\(r.1<=v/\v<=r.2.1)/\qP rs v=some r/\∀(j:Nat) r',rs[j]?=some r'->r'.1<=v/\v<=r'.2.1->j=i:=by
 obtain⟨i,r,e,c,u⟩:=h.2.2 v v0 v9;refine⟨i,r,e,c,?_,u⟩;unfold qP;cases f:rs.find? λr=>decide (r.1<=v) && decide (v<=r.2.1) with
 | none=>
  have:=List.find?_eq_none.mp f r (aaC e);simp at this;omega
 | some r'=>
  have h1:=List.find?_some f;obtain⟨j,ej⟩:=List.mem_iff_getElem?.mp (List.mem_of_find?_eq_some f);have:j=i:=u j r' ej (by simpa using h1);rw[this,e] at ej;exact ej.symm
noncomputable def gz (cs:List (Str×Int)) (rs:List Tw) (ns:List Int) (v:Int):cD:=match qP rs v with
 | some r=>(r.2.2.2,r.2.2.1.foldl (eU cs v) ns)
 | none=>(Str.ofString "end",ns)
theorem B6 (hc:FA cs) (hp:ps∈jO) (hr:B4 cs rs) {ns:List Int} (ir:uQ cs ns):dG (iu cs ps t rs) (Str.ofString "roll",ns) ((Nm.weigh (bK ps) (ky (bK ps))).map λx=>(x.2,gz cs rs ns x.1))/\∀v:Int,0<=v->v<=999->Ah (iu cs ps t rs) (gz cs rs ns v):=by
 have gl:eA ps:=hp;obtain⟨l4,_,pv⟩:=d4 gl;have go:∀v:Int,0<=v->v<=999->∃r,qP rs v=some r/\gz cs rs ns v=(r.2.2.2,r.2.2.1.foldl (eU cs v) ns)/\r.2.2.2∈gN/\uQ cs (r.2.2.1.foldl (eU cs v) ns):=λv v0 v9=>by
  obtain⟨i,r,e,_,er,_⟩:=HM hr v0 v9;obtain⟨dk,gk⟩:=hr.2.1 r (aaC e);exact⟨r,er,by unfold gz;rw[er],gk,B3 hc.nd.2.2.1 v0 dk.2 ir⟩
 refine⟨?_,λv v0 v9=>?_⟩
 ·unfold dG;rw[show look (iu cs ps t rs).ps (Str.ofString "roll")=some (.gX (ps.map dI) t 1 rs) from qR (i:=0) rfl];refine⟨ps,ky (bK ps),rfl,gl,l4,B5 gl,by rw[aat];unfold Nm.weigh;rw[aat],λj x ej=>?_⟩;obtain⟨⟨v0,v9⟩,_⟩:=pv x (aaC ej);obtain⟨r,er,es,gk,_⟩:=go x.1 v0 v9;refine⟨r,gz cs rs ns x.1,er,by rw[aau,ej];rfl,?_,by rw[es];exact jR.2 _ gk⟩;unfold QK;show Option.map _ (gU (iu cs ps t rs) _ (4+1) r.2.2.2)=_;rw[FC gk,es];rfl
 ·obtain⟨r,er,es,gk,ir'⟩:=go v v0 v9;rw[es];exact⟨gk,ir'⟩
theorem G5.cl (G:G5 g cs ps t rs) (st:cD) (h:Ah g st):st.2.length=g.cs.length/\(mQ g st\/∃ts,dG g st ts/\∀t∈dj ts,Ah g t):=by
 obtain⟨rfl,hc,hp,hr⟩:=G;obtain⟨hn,ir⟩:=h;refine⟨ir.1,.inr ?_⟩;obtain⟨x,hx,ex⟩:=List.mem_map.mp (show st.1∈(iu cs ps t rs).ps.map (·.1) from hn);obtain⟨i,ei⟩:=List.mem_iff_getElem?.mp hx;have lk:=qR ei;rw[ex] at lk;rcases OC ei with rfl | ⟨p,q,e⟩
 ·obtain⟨a,b⟩:=B6 (t:=t) hc hp hr ir;have es:st=(Str.ofString "roll",st.2):=Prod.ext ex.symm rfl;refine⟨_,by rw[es];exact a,λs hs=>?_⟩;unfold dj at hs;rw[aaX] at hs;obtain⟨y,hy,rfl⟩:=List.mem_map.mp hs;obtain⟨⟨v0,v9⟩,_⟩:=(d4 (show eA ps from hp)).2.2 y hy;exact b y.1 v0 v9
 ·exact⟨[],by unfold dG;rw[lk,e],λs hs=>by cases hs⟩
theorem G5.gg (G:G5 g cs ps t rs):GoodG g:=by
 obtain⟨rfl,hc,hp,hr⟩:=G;obtain⟨nd,l1,_,_⟩:=hc.nd;refine⟨nd,jR.1,by show cs.length<=100;omega,(show 4<=100 by decide),(show 0<4 by decide),λp Ai=>?_⟩;obtain⟨i,ei⟩:=List.mem_iff_getElem?.mp Ai;rcases OC ei with rfl | ⟨a,b,e⟩
 ·have:=(d4 (show eA ps from hp)).1;refine⟨by rw[aat];omega,by have:=hr.1;omega,λr h=>⟨by have:=(hr.2.1 r h).1.1;omega,λd hd=>((hr.2.1 r h).1.2 d hd).good⟩⟩
 ·rw[e];exact trivial
theorem G5.out (G:G5 g cs ps t rs):∃o SS iO,(o=0\/o=2)/\gU g (List.replicate g.cs.length 0) 1 (Str.ofString "roll")=some (Str.ofString "roll")/\dM g o SS 0 [(Str.ofString "roll",List.replicate g.cs.length 0)] iO/\SS.length<=120/\SS.Nodup/\∀s∈SS,Ah g s:=by
 obtain⟨o,SS,iO,o2,sp,l,nd,sub,h1,h2⟩:=dM.ex (g:=g) (R:=Ah g) (λst h=>G.cl st h) 120 0 [(Str.ofString "roll",List.replicate g.cs.length 0)] (by simp) (λs hs=>by rw[List.mem_singleton.mp hs];exact⟨.head _,yu (by rw[G.eg];exact G.hc.nd.2.2.1)⟩) (aaz _) (by simp) (by omega);refine⟨o,SS,iO,?_,by rw[G.eg];exact FC (.head _),sp,l,nd,sub⟩
 by_cases c:o=1
 ·obtain⟨st,hs,w,B7,lk,_⟩:=h1 c;rw[G.eg] at lk;have Oz:=hs.1;obtain⟨x,hx,ex⟩:=List.mem_map.mp (show st.1∈(iu cs ps t rs).ps.map (·.1) from Oz);obtain⟨i,ei⟩:=List.mem_iff_getElem?.mp hx;have OD:=qR ei;rw[ex,lk] at OD;rcases OC ei with rfl | ⟨p,q,e⟩
  ·cases OD
  ·rw[e] at OD;cases OD
 ·omega
end g5
theorem FD {a b:TS} {D:Ends} {σ:L2.St} {H:Hp} {i:Nat} {ph:Addr} {k:Str} {r:List V} {z:Str} (e:σ[i]?=some (some (.ref ph))) (hw:H ph=some (.tup (.str k::r))) (h:k=z) (q:a D σ H):tIfS (tTest (tOp rEq (tOp rIxTH (tVar i) (tC (V.int 0))) (tC (V.str z)))) a b D σ H:=by
 refine fG (λY N q=>?_) q;unfold tVar;simp_all only[e,hw];rw[if_pos h];exact q
theorem Le {a b:TS} {D:Ends} {σ:L2.St} {H:Hp} {i:Nat} {ph:Addr} {k:Str} {r:List V} {z:Str} (e:σ[i]?=some (some (.ref ph))) (hw:H ph=some (.tup (.str k::r))) (h:k≠z) (q:b D σ H):tIfS (tTest (tOp rEq (tOp rIxTH (tVar i) (tC (V.int 0))) (tC (V.str z)))) a b D σ H:=by
 refine dZ (λY N q=>?_) q;unfold tVar;simp_all only[e,hw];rw[if_neg h];exact q
theorem bC {a b:TS} {D:Ends} {σ:L2.St} {H:Hp} {i:Nat} {ph:Addr} {k:Str} {r:List V} {z:Str} (e:σ[i]?=some (some (.ref ph))) (hw:H ph=some (.tup (.str k::r))) (h:k≠z) (q:b D σ H):tSeq (tIfS (tTest (tOp rEq (tOp rIxTH (tVar i) (tC (V.int 0))) (tC (V.str z)))) a tNext) b D σ H:=Le e hw h q
theorem fH {te:TE} {b c:TS} {D:Ends} {σ:L2.St} {H:Hp} {i:Nat} {ph:Addr} {k:Str} {r:List V} {z:Str} (e:σ[i]?=some (some (.ref ph))) (hw:H ph=some (.tup (.str k::r))) (h:k=z) (q:te σ H D.rt):tSeq (tIfS (tTest (tOp rEq (tOp rIxTH (tVar i) (tC (V.int 0))) (tC (V.str z)))) (tRet te) c) b D σ H:=FD e hw h q
noncomputable def yx (K:PySem.W.Frag):Sp:=λvs H Q _=>∃(a:Addr) (ns:List Int),vs=[.ref a]/\bT K H a (ns.map V.int)/\ns.length<=63/\∀H',Q (.bl true) H'
noncomputable def fj (P:Program) (w:World) (base:Heap) (K:PySem.W.Frag) (mg:Str->Option Value) (aH aI aF aV aq aD:Addr):Prop:=Txt K mg aH aI aF aV aq aD
section
variable {P : Program} {w : World} {K : PySem.W.Frag} {mg : Str -> Option Value} {base : Heap}
variable {aH aI aF aV aq aD : Addr}
theorem gK:bf ["one","other","rest"] ["one","other"] (au (top 7)):=.mk
theorem FE (T:fj P w base K mg aH aI aF aV aq aD):iB P w K mg base (cN P w) 1 "common_divisor" ["one","other"] HB:=by
 refine T.mi.fB (λ_ _ _ _ _ _=>gS λ_ _=>rfl) λf fd F=>F.gR gK (λvs H Q E h=>?_) (λbZ A outer s H vs Q E hr h=>?_)
 ·obtain⟨_,_,rfl,_⟩:=DP h;rfl
 ·symm;obtain⟨a,b,rfl,k⟩:=DP h;nofun;clear G_;have nd:=gK.nd;refine⟨_,(ao (aT (i:=0) (bg tU (by rfl) T.z_abs rfl (aa (pv 0) af)))
  (ao (aT (i:=1) (bg tU (by rfl) T.z_abs rfl (aa (pv 1) af)))
  (ao (jb PassesOwn.never (aP nV (pv 1) ae (aX _)) (ao (aT (i:=2) (br cG (pv 0) (pv 1)))
  (ao (aT (i:=0) (pv 1))
  (aw (aT (i:=1) (pv 2))))))
  (aw (aW (pv 0)))))),?_⟩
  refine(?_:let cH:TS:=_;let cI:TS:=_;let cJ:TS:=_;let eD:TS:=_;tSeq cH (tSeq cI (tSeq cJ eD)) _ _ _);intro cH cI cJ eD;simp_all only[];refine AA (λσ H1=>H1=H/\∃(x y:Int) (z:Option V),σ=[some (.int x),some (.int y),z]/\0<=x/\0<=y/\Nm.g x y=Nm.g a b) (λσ _=>match σ with | [_,some (.int y),_]=>y.toNat | _=>0) ?_ ?_ ?_
  ·refine⟨rfl,_,_,_,rfl,?_,?_,?_⟩
   ·split <;>omega
   ·split <;>omega
   ·rw[show(if a<0 then -a else a)=(a.natAbs:Int) by split <;>omega,show(if b<0 then -b else b)=(b.natAbs:Int) by split <;>omega,Nm.E7,Nm.xG]
  ·intro σ H1 c5;symm;obtain⟨rfl,x,y,z,rfl,x0,y0,e⟩:=c5;nofun;simp_all only[];refine jF (λc=>?_) (λc=>?_)
   ·refine⟨by omega,y0,Int.emod_nonneg _ (by omega),by rw[Nm.GY x0 (by omega),e],?_⟩;have:=Int.emod_lt_of_pos x (show 0<y by omega);have:=Int.emod_nonneg x (show y≠0 by omega);omega
   ·have z:y=0:=by omega
    subst z;rw[Nm.GZ x0] at e;rw[e];exact k
  ·intro σ H1 Q1 Q2 hq hc
   revert hc
   simp_all only[];intro hc;symm;obtain⟨v,e1,e2,q⟩:=hc;nofun;exact⟨v,e1,e2,hq _ _ q⟩
theorem uT:bf ["top","bottom","divisor"] ["top","bottom"] (au (top 8)):=.mk
theorem Lf (T:fj P w base K mg aH aI aF aV aq aD):iB P w K mg base (cN P w) 2 "share" ["top","bottom"] (KD aH):=by
 have fe:=FE T;refine T.DU.fB (λ_ _ _ _ _ _=>gS λ_ _=>rfl) λf fd F=>F.E9 uT (λvs H Q E h=>?_) (λbZ A outer s H vs Q E hr h=>?_)
 ·obtain⟨_,_,rfl,_⟩:=DP h;rfl
 ·symm;obtain⟨a,b,rfl,bt,kE,kQ⟩:=DP h;nofun;have nd:=uT.nd;have wM:A.handled=none:=hr.hd;refine⟨_,(ao (bP (aP cw (pv 1) ae (aX _)) (aw (hJ rfl T.k_NoShare T.x_NoShare wM (aa aL af) (he:=se rfl) (hpl:=na rfl)))
   bw)
  (ao (aT (i:=2) (bI fe (aa (pv 0) (aa (pv 1) af))))
  (ao (bP (aP mC (pv 1) ae (aX _)) (aw (aT (i:=2) (jM gP (pv 2))))
   bw)
  (aw (aW (aM (aa (br uf (pv 0) (pv 2)) (aa (br uf (pv 1) (pv 2)) af)))))))),?_⟩
  refine(?_:let cH:TS:=_;let cI:TS:=_;let cJ:TS:=_;let eD:TS:=_;tSeq cH (tSeq cI (tSeq cJ eD)) _ _ _);intro cH cI cJ eD;simp_all only[HB,tRaise];refine jF (λz=>?_) (λz=>?_)
  ·exact⟨by decide,kE z⟩
  ·have g0:0<Nm.g a b:=Nm.E6 z;have gb:Bt 5000 (Nm.g a b):=bt.le (by have:=Nm.AW (a:=a) z;omega);have kq:=kQ z;unfold Nm.st Nm.sb at kq;refine jF (λc=>?_) (λc=>?_)
   ·rw[if_pos c,if_pos c] at kq;rw[Nm.A0 g0 (Nm.rH a b),Nm.A0 g0 (Nm.nG a b)];exact⟨oi.of (by omega) gb.neg,oi.of (by omega) gb.neg,by decide,λp H2 s1 n1 e=>kq p H2 s1 n1 e⟩
   ·rw[if_neg c,if_neg c] at kq;rw[Nm.AZ g0,Nm.AZ g0];exact⟨oi.of (by omega) gb,oi.of (by omega) gb,by decide,λp H2 s1 n1 e=>kq p H2 s1 n1 e⟩
theorem fM:bf ["weights","bottom"] ["weights","bottom"] (au (top 11)):=.mk
theorem Lg (T:fj P w base K mg aH aI aF aV aq aD):iB P w K mg base (cN P w) 3 "table_by_weights" ["weights","bottom"] HC:=by
 have Eg:=Lf T;refine T.kc.fB (λ_ _ _ _ _ _=>gS λ_ _=>rfl) λf fd F=>F.gR fM (λvs H Q E h=>?_) (λbZ A outer s H vs Q E hr h=>?_)
 ·obtain⟨_,_,rfl,_⟩:=Kw h;rfl
 ·symm;obtain⟨d,B,rfl,ws,hd,ndk,hz,B0,bB,k⟩:=Kw h;nofun;have nd:=fM.nd;refine⟨_,(aw (aW (cY rfl (N:=["weights","bottom"]) (so:=au (top 11)) (N':=["value","weights","bottom"]) (k:=1) (fr:=[0,1]) rfl rfl ⟨rfl,by ac_rfl,by ac_rfl,by ac_rfl,rfl,by ac_rfl,by ac_rfl⟩ (bJ (K:=K) (bg ox (by rfl) T.z_sorted rfl (aa (pv 0) af))) (λ_ _ _ _ _=>(aO (i:=0) (show(["value","weights","bottom"]:List Str).Nodup by ac_rfl) rfl (Or.inl rfl))) (λ_ _ _ _ _=>cX)
   (λ_ _ _ _ _=>(aM (aa (pv 0) (aa (bI Eg (aa (fg (fk hr) (pv 1) (pv 0) (λ_ _=>rfl)) (aa (pv 2) af))) af))))))),?_⟩
  simp_all only[];refine⟨enc ws,.inl hd,A4 ws,by rw[rQ];exact hz,λl nl=>⟨⟨_,bT.of ai⟩,?_⟩⟩;rw[zi];have sm:aA H (upd H l (.lst (List.map V.int (Nm.oj (Nm.keys ws))))):=ag nl;have ll:(List.map V.int (Nm.oj (Nm.keys ws))).length=ws.length:=by rw[aat,Nm.iC];unfold Nm.keys;rw[aat]
  refine comp_map (src_list (λH2 s2=>s2.seq (bT.of ai))) (λ_ _ _ _ h=>by rw[h.1];exact aA.refl _) (by rw[ll,sizeLine_eq];omega) (λi y H2=>∀r,(Nm.rowsOf ws B)[i]?=some r->Rep H2 (A8 r) y) (λi y H2 H3 s3 h r e=>(h r e).mono s3) ?_ ?_
  ·rintro i x w0 H2 H3 Q2 hi s2 ⟨rfl,hx⟩ kq;rw[aau] at hx;symm;obtain⟨v,ev,rfl⟩:=Option.map_eq_some_iff.mp hx;nofun;have hv:v∈Nm.keys ws:=Nm.DF.mp (aaC ev);have hd2:=s2 _ _ (sm _ _ hd);simp_all only[KD];refine⟨_,A5 hd2 hv,_,rfl,bB,λz=>absurd z B0,λ_ p H4 s4 _ e4=>⟨by decide,λp5 H5 s5 _ e5=>?_⟩⟩;refine kq _ _ (s4.trans s5) λr er=>?_;have:r=(v,Nm.st (Nm.look ws v) B,Nm.sb (Nm.look ws v) B):=by
    unfold Nm.rowsOf at er;rw[aau,ev] at er;exact(aaS er).symm
   subst this;exact kU.mpr ⟨p5,p,rfl,e5,s5 _ _ e4⟩
  ·intro ys H2 s2 ly hy D n1 n2;refine k _ _ (sm.trans (s2.trans (ag n2))) (none_of sm n1) (aZ.mpr ⟨D,ys,rfl,ai,?_⟩);refine bh.of ?_ λi dd v e1 e2=>?_
   ·rw[aat,ly];unfold Nm.rowsOf;rw[aat,aat]
   ·rw[aau] at e1;symm;obtain⟨r,er,rfl⟩:=Option.map_eq_some_iff.mp e1;nofun;exact(hy i v e2 r er).mono (ag n2)
theorem mR:bf ["rows","weights","value","weight"] ["rows"] (au (top 12)):=.mk
theorem Lh (T:fj P w base K mg aH aI aF aV aq aD):iB P w K mg base (cN P w) 4 "table_of" ["rows"] (KE aI):=by
 have ko:=Lg T;refine T.wB.fB (λ_ _ _ _ _ _=>iG λ_=>rfl) λf fd F=>F.E9 mR (λvs H Q E h=>?_) (λbZ A outer s H vs Q E hr h=>?_)
 ·obtain⟨_,rfl,_⟩:=CJ h;rfl
 ·symm;obtain⟨v,rfl,ps,rp,hz,hb,hw,kE,kQ⟩:=CJ h;nofun;have nd:=mR.nd;have wM:A.handled=none:=hr.hd;refine⟨_,(ao (aT (i:=1) kJ)
  (ao (cK PassesOwn.leaving rfl (bJ (K:=K) (pv 0)) (dE (K:=K) (n:=2) rfl (bD (aO (i:=2) nd rfl (Or.inl rfl)) (bD (aO (i:=3) nd rfl (Or.inl rfl)) c9))) (ao (bP (aP mC (pv 3) ae (aX _)) (aw (hJ rfl T.k_NoTable T.x_NoTable wM (aa aL af) (he:=se rfl) (hpl:=na rfl)))
   bw)
  (aw (bP (aP jc (pv 3) ae (aX _)) (aw (nF (fk hr) (pv 1) (pv 2) (br cC (AR (fk hr) (pv 1) (pv 2) ae (by first | exact⟨rfl,rfl,rfl⟩ | constructor <;>rfl)) (pv 3)) rfl))
   bw))))
  (ao (bP (aP cw (bg y8 (by rfl) T.z_len aaH (aa (pv 1) af)) ae (aX _)) (aw (hJ rfl T.k_NoTable T.x_NoTable wM (aa aL af) (he:=se rfl) (hpl:=na rfl)))
   bw)
  (aw (aW (bI ko (aa (pv 1) (aa (wg rfl (by rfl) T.z_sum (pv 1) (he:=se rfl)) af)))))))),?_⟩
  refine(?_:let cH:TS:=_;let cI:TS:=_;let cJ:TS:=_;let eD:TS:=_;tSeq cH (tSeq cI (tSeq cJ eD)) _ _ _);intro cH cI cJ eD;simp_all only[HC,tRaise];intro d Jc;symm;obtain⟨a,xs,rfl,ha,rl⟩:=aZ.mp rp;nofun;have n1:=rl.length;rw[aat] at n1;have q1:∀o,bT K (upd H d o) a xs:=λo=>bT.of (ag Jc _ _ ha);refine⟨_,rfl,⟨_,q1 _⟩,bY (src_list (Ok:=λH'=>∃o,H'=upd H d o) (λH' ⟨o,e⟩=>by rw[e];exact q1 o))
   (λi σ H'=>H'=upd H d (.dK (enc (Nm.ka (ps.take i))))/\(∀p∈ps.take i,0<=p.2)/\∃z1 z2,σ=[some (.ref a),some (.ref d),z1,z2])
   ⟨by rw[List.take_zero];rfl,by simp,_,_,rfl⟩ (λ_ _ _ _ h=>⟨_,h.1⟩) ?_ ?_⟩
  ·intro i x σ H' sJ hi eQ eM;symm;obtain⟨rfl,nn,z1,z2,rfl⟩:=eQ;obtain⟨rfl,hx⟩:=eM;obtain⟨dd,ed,rd⟩:=rl.get hx;rw[aau] at ed;obtain⟨p,ep,rfl⟩:=Option.map_eq_some_iff.mp ed;obtain⟨q,rfl,hq⟩:=dW.mp rd;nofun;have tk:ps.take (i+1)=ps.take i++ [p]:=by rw[aaQ,ep];rfl
   refine⟨q,_,rfl,iX.of (ag Jc _ _ hq),rfl,?_⟩;simp_all only[tRaise];rw[tk,Nm.Ba];refine jF (λc=>?_) (λc=>?_)
   ·exact⟨by decide,kE (.inl ⟨p,aaC ep,c⟩) _ (ag Jc)⟩
   ·have Zj:∀r∈ps.take i++ [p],0<=r.2:=λr hr=>by
     rcases List.mem_append.mp hr with h | h
     ·exact nn r h
     ·have:r=p:=by simpa using h
      subst this;omega
    refine jF (λc2=>?_) (λc2=>?_)
    ·symm;obtain⟨o,ho,eo⟩:=zj (H:=upd H d (.dK (enc (Nm.ka (ps.take i))))) p.1 (.inl ai);nofun;refine⟨.inl ⟨_,.inl ai⟩,o,ho,?_⟩;rw[eo];simp_all only[];refine⟨_,A7 _ _ ai (Nm.mf _) ?_,?_,Zj,?_⟩
     ·have:=Nm.xS (ps.take i);rw[abg] at this;rw[sizeLine_eq];omega
     ·rw[xp,if_pos c2];rfl
     ·exact⟨_,rfl⟩
    ·refine⟨by rw[if_neg c2],Zj,?_⟩;exact⟨_,rfl⟩
  ·intro σ H' c5;symm;obtain⟨rfl,nn,z1,z2,rfl⟩:=c5;nofun;rw[aaJ (by omega)] at nn ⊢;simp_all only[tRaise,HC];have el:(enc (Nm.ka ps)).length=(Nm.ka ps).length:=rQ _;refine⟨_,ai,jF (λz=>⟨by decide,kE (.inr ?_) _ (ag Jc)⟩) (λz=>?_)⟩
   ·exact Nm.xT.mp (List.eq_nil_of_length_eq_zero (by omega))
   ·have np:Nm.pos ps≠[]:=λe=>by
     have:=Nm.xT.mpr e;exact z (by rw[el,this];rfl)
    have nb:¬Nm.bad ps:=λb=>by
     rcases b with ⟨p,hp,c⟩ | c
     ·have:=nn p hp;omega
     ·exact np c
    have T0:=Nm.DH (show 0< (Nm.ka ps).length by omega) (Nm.mf ps) (Nm.DL ps);have T1:=Nm.oB (c:=10^12) (by decide) hb;rw[<-Nm.DM] at T1;have lw:=Nm.xS ps;have ev:List.map (λx:Key×V=>x.2) (enc (Nm.ka ps))=List.map V.int ((Nm.ka ps).map (·.2)):=by
     unfold enc;rw[aaX,aaX];rfl
    refine⟨_,ai,_,ev,_,ai,Nm.mf ps,by omega,?_,?_,λp H' s' B8 r'=>?_⟩
    ·show Nm.oy (Nm.ka ps)≠0;omega
    ·show Bt 5000 (Nm.oy (Nm.ka ps));exact Bt.of (10^16) (by omega) (by omega)
    ·exact kQ nb p H' ((ag Jc).trans s') (none_of (ag Jc) B8) r'
theorem uU:bf ["base","exponent","product","turn"] ["base","exponent"] (au (top 18)):=.mk
theorem Li (T:fj P w base K mg aH aI aF aV aq aD):iB P w K mg base (cN P w) 1 "power" ["base","exponent"] KG:=by
 refine T.DV.fB (λ_ _ _ _ _ _=>gS λ_ _=>rfl) λf fd F=>F.gR uU (λvs H Q E h=>?_) (λbZ A outer s H vs Q E hr h=>?_)
 ·obtain⟨_,_,rfl,_⟩:=h;rfl
 ·symm;obtain⟨b,e,rfl,be,e10,hb,kk⟩:=h;nofun;have nd:=uU.nd;refine⟨_,(ao (aT (i:=2) ae)
  (ao (cK PassesOwn.never rfl (eY rfl T.z_range (aa (pv 1) af)) (aO (i:=3) nd rfl (Or.inl rfl)) (ao (bP (aP jc (pv 2) (kX rfl T.c_MOST_BOTTOM) (aX _)) (aw Aw)
   bw)
  (aw (aT (i:=2) (br cW (pv 2) (pv 0))))))
  (aw (aW (pv 2))))),?_⟩
  refine(?_:let cH:TS:=_;let cI:TS:=_;let cJ:TS:=_;tSeq cH (tSeq cI cJ) _ _ _);intro cH cI cJ;have sl:=sizeLine_eq;simp_all only[];refine⟨by omega,by omega,bY (src_range (Ok:=λ_=>True)) (λi σ H'=>H=H'/\∃z,σ=[some (.int (b:Int)),some (.int (e:Int)),some (.int ((b^i:Nat):Int)),z]) ⟨rfl,_,rfl⟩ (λ_ _ _ _ _=>trivial) ?_ ?_⟩
  ·intro i x σ H' sJ hi eQ eM;symm;obtain⟨rfl,z,rfl⟩:=eQ;obtain⟨rfl,rfl⟩:=eM;nofun;have b1:1<=b:=by omega
   have le:b^i<=b^e:=Nat.pow_le_pow_right b1 (by omega);simp_all only[];rw[if_neg (by omega)];refine⟨gc (by omega) (by omega),?_,_,rfl⟩;rw[Nat.pow_succ,Int.natCast_mul]
  ·intro σ H' c5;symm;obtain⟨rfl,z,rfl⟩:=c5;nofun
   try rw[aaY]
   simp_all only[];exact kk
theorem jS:bf ["part"] ["part"] (au (top 19)):=.mk
theorem B9 (T:fj P w base K mg aH aI aF aV aq aD):iB P w K mg base (cN P w) 1 "most_faces" ["part"] D5:=by
 refine T.rV.fB (λ_ _ _ _ _ _=>iG λ_=>rfl) λf fd F=>F.gR jS (λvs H Q E h=>?_) (λbZ A outer s H vs Q E hr h=>?_)
 ·obtain⟨_,rfl,_⟩:=qI h;rfl
 ·symm;obtain⟨q,rfl,p,hq,kk⟩:=qI h;nofun;have nd:=jS.nd;refine⟨_,(ao (bP (aP cw (aG aB (pv 0) ae) aL (aX _)) (aw (aW ae))
   bw)
  (ao (bP (aP cw (aG aB (pv 0) ae) aL (aX _)) (aw (aW (kz (aP jc (aG aB (pv 0) ae) ae (aX _)) ae ae)))
   bw)
  (ao (bP (aP cw (aG aB (pv 0) ae) aL (aX _)) (aw (aW (br cC (bg (qj rfl) (by rfl) T.z_max rfl (aa (aG aB (pv 0) ae) (aa ae af))) ae)))
   bw)
  (aw (aW (aG aB (pv 0) (jM gP ae))))))),?_⟩
  refine(?_:let cH:TS:=_;let cI:TS:=_;let cJ:TS:=_;let eD:TS:=_;tSeq cH (tSeq cI (tSeq cJ eD)) _ _ _);intro cH cI cJ eD;cases p with
  | num n=>
   simp only[iI] at hq;refine fH rfl hq rfl ?_;simp_all only[hq];exact kk
  | di m s=>
   simp only[iI] at hq;refine bC rfl hq (by ac_rfl) (bC rfl hq (by ac_rfl) (bC rfl hq (by ac_rfl) ?_));simp_all only[hq];exact⟨_,rfl,kk⟩
  | best n m s=>
   simp only[iI] at hq;refine bC rfl hq (by ac_rfl) (bC rfl hq (by ac_rfl) (bC rfl hq (by ac_rfl) ?_));simp_all only[hq];exact⟨_,rfl,kk⟩
  | dX n m s=>
   simp only[iI] at hq;refine bC rfl hq (by ac_rfl) (bC rfl hq (by ac_rfl) (bC rfl hq (by ac_rfl) ?_));simp_all only[hq];exact⟨_,rfl,kk⟩
  | hits n m s=>
   simp only[iI] at hq;refine bC rfl hq (by ac_rfl) (bC rfl hq (by ac_rfl) (bC rfl hq (by ac_rfl) ?_));simp_all only[hq];exact⟨_,rfl,kk⟩
  | again n s=>
   simp only[iI] at hq;refine bC rfl hq (by ac_rfl) (fH rfl hq rfl ?_);simp_all only[hq];have e:BD (.again n s)=if 0<n then 2 else 1:=rfl
   rw[e] at kk
   by_cases c:0<n
   ·rw[if_pos (by omega)];rw[if_pos c] at kk;exact kk
   ·rw[if_neg (by omega)];rw[if_neg c] at kk;exact kk
  | c8 n s=>
   simp only[iI] at hq;refine bC rfl hq (by ac_rfl) (bC rfl hq (by ac_rfl) (fH rfl hq rfl ?_));simp_all only[hq];rw[show(if (0:Int) >(n:Int) then (0:Int) else (n:Int))=(n:Int) from if_neg (by omega)];exact kk
theorem jo:bf ["part"] ["part"] (au (top 20)):=.mk
theorem Ca (T:fj P w base K mg aH aI aF aV aq aD):iB P w K mg base (cN P w) 2 "part_bottom" ["part"] uK:=by
 have Eh:=Li T;have eN:=B9 T;refine T.pW.fB (λ_ _ _ _ _ _=>iG λ_=>rfl) λf fd F=>F.gR jo (λvs H Q E h=>?_) (λbZ A outer s H vs Q E hr h=>?_)
 ·obtain⟨_,rfl,_⟩:=qI h;rfl
 ·symm;obtain⟨q,rfl,p,hq,g,hb,kk⟩:=qI h;nofun;have nd:=jo.nd;refine⟨_,(aw (aW (bI Eh (aa (aG aB (pv 0) (jM gP ae)) (aa (bI eN (aa (pv 0) af)) af))))),?_⟩;simp_all only[KG,D5];refine⟨_,hq,_,BE p,p,hq,lst p,rfl,BD p,rfl,?_,?_,?_,?_⟩
  ·cases p with
   | num n=>exact .inr rfl
   | _=>exact .inl g.1
  ·have:=oQ g;omega
  ·have:lst p^BD p=bot p:=by cases p <;>rfl
   rw[this];exact hb
  ·have:lst p^BD p=bot p:=by cases p <;>rfl
   rw[this];exact kk
theorem jT:bf ["part","sides","low"] ["part"] (au (top 21)):=.mk
theorem Ei {a b:TS} {D:Ends} {σ:L2.St} {H:Hp} {i:Nat} {ph:Addr} {k:Str} {r:List V} {z:Str} (e:σ[i]?=some (some (.ref ph))) (hw:H ph=some (.tup (.str k::r))) (h:k=z) (q:a {D with nx:=λσ' H'=>b D σ' H'} σ H):tSeq (tIfS (tTest (tOp rEq (tOp rIxTH (tVar i) (tC (V.int 0))) (tC (V.str z)))) a tNext) b D σ H:=FD e hw h q
theorem Lj (T:fj P w base K mg aH aI aF aV aq aD):iB P w K mg base (cN P w) 3 "part_count" ["part"] KH:=by
 have eN:=B9 T;have d7:=Ca T;refine T.rW.fB (λ_ _ _ _ _ _=>iG λ_=>rfl) λf fd F=>F.gR jT (λvs H Q E h=>?_) (λbZ A outer s H vs Q E hr h=>?_)
 ·obtain⟨_,rfl,_⟩:=qI h;rfl
 ·symm;obtain⟨q,rfl,p,hq,g,hb,kk⟩:=qI h;nofun;have nd:=jT.nd;refine⟨_,(ao (aT (i:=1) (aG aB (pv 0) (jM gP ae)))
  (ao (bP (aP cw (aG aB (pv 0) ae) aL (aX _)) (ao (aT (i:=2) (bg (qj rfl) (by rfl) T.z_max rfl (aa (bg (jv rfl) (by rfl) T.z_min rfl (aa (aG aB (pv 0) ae) (aa (pv 1) af))) (aa ae af))))
  (aw (aW (br rB (br cC (br cW (pv 2) (pv 1)) (pv 1)) (pv 2)))))
   bw)
  (ao (bP (aP cw (aG aB (pv 0) ae) aL (aX _)) (aw (aW (br cC (br cW (bI eN (aa (pv 0) af)) (br rB (pv 1) ae)) ae)))
   bw)
  (aw (aW (bI d7 (aa (pv 0) af))))))),?_⟩
  refine(?_:let cH:TS:=_;let cI:TS:=_;let cJ:TS:=_;let eD:TS:=_;tSeq cH (tSeq cI (tSeq cJ eD)) _ _ _);intro cH cI cJ eD;cases p with
  | num n=>
   simp only[iI] at hq;refine bo (λN=>∀v,N [some (.ref q),some v,none] H) (λN hN=>?_) ?_
   ·simp_all only[hq];exact⟨_,rfl,hN _⟩
   intro v;refine bC rfl hq (by ac_rfl) (bC rfl hq (by ac_rfl) ?_);simp_all only[uK];exact⟨.num n,hq,g,hb,kk⟩
  | di m s=>
   simp only[iI] at hq;refine bo (λN=>∀v,N [some (.ref q),some v,none] H) (λN hN=>?_) ?_
   ·simp_all only[hq];exact⟨_,rfl,hN _⟩
   intro v;refine bC rfl hq (by ac_rfl) (bC rfl hq (by ac_rfl) ?_);simp_all only[uK];exact⟨.di m s,hq,g,hb,kk⟩
  | best n m s=>
   simp only[iI] at hq;refine bo (λN=>∀v,N [some (.ref q),some v,none] H) (λN hN=>?_) ?_
   ·simp_all only[hq];exact⟨_,rfl,hN _⟩
   intro v;refine bC rfl hq (by ac_rfl) (bC rfl hq (by ac_rfl) ?_);simp_all only[uK];exact⟨.best n m s,hq,g,hb,kk⟩
  | dX n m s=>
   simp only[iI] at hq;refine bo (λN=>∀v,N [some (.ref q),some v,none] H) (λN hN=>?_) ?_
   ·simp_all only[hq];exact⟨_,rfl,hN _⟩
   intro v;refine bC rfl hq (by ac_rfl) (bC rfl hq (by ac_rfl) ?_);simp_all only[uK];exact⟨.dX n m s,hq,g,hb,kk⟩
  | hits n m s=>
   simp only[iI] at hq;refine bo (λN=>∀v,N [some (.ref q),some v,none] H) (λN hN=>?_) ?_
   ·simp_all only[hq];exact⟨_,rfl,hN _⟩
   intro v;refine bC rfl hq (by ac_rfl) (bC rfl hq (by ac_rfl) ?_);simp_all only[uK];exact⟨.hits n m s,hq,g,hb,kk⟩
  | again n s=>
   simp only[iI] at hq;have e:(if (0:Int) >(if (s:Int)< (n:Int) then (s:Int) else (n:Int)) then (0:Int) else (if (s:Int)< (n:Int) then (s:Int) else (n:Int)))=((min n s:Nat):Int):=by
    by_cases c:(s:Int)< (n:Int)
    ·rw[if_pos c,if_neg (by omega),Nat.min_eq_right (by omega)]
    ·rw[if_neg c,if_neg (by omega),Nat.min_eq_left (by omega)]
   have Lk:=g.2.1;refine bo (λN=>N [some (.ref q),some (.int s),none] H) (λN hN=>?_) ?_
   ·simp_all only[hq];exact⟨_,rfl,hN⟩
   refine Ei rfl hq rfl ?_;refine bo (λN=>N [some (.ref q),some (.int s),some (.int ((min n s:Nat):Int))] H) (λN hN=>?_) ?_
   ·simp_all only[hq];rw[e];exact hN
   simp_all only[];refine⟨lY (by omega) (by omega),?_⟩;have e2:((min n s:Nat):Int)* (s:Int)+ (s:Int) - ((min n s:Nat):Int)=((min n s*s+ (s - min n s):Nat):Int):=by
    rw[Int.natCast_add,Int.natCast_mul,Int.natCast_sub (Nat.min_le_right n s)];omega
   rw[e2];exact kk
  | c8 n s=>
   simp only[iI] at hq;refine bo (λN=>N [some (.ref q),some (.int s),none] H) (λN hN=>?_) ?_
   ·simp_all only[hq];exact⟨_,rfl,hN⟩
   refine bC rfl hq (by ac_rfl) (fH rfl hq rfl ?_);simp_all only[D5];refine⟨.c8 n s,hq,lY (by have:=g.2.1;omega) (by have:=g.2.1;omega),?_⟩;have e2:((BD (.c8 n s):Nat):Int)* ((s:Int) - 1)+1=(((n+1)* (s - 1)+1:Nat):Int):=by
    rw[Int.natCast_add,Int.natCast_mul,Int.natCast_sub g.1];rfl
   rw[e2];exact kk
theorem jU:bf ["pool","count","bottom","part"] ["pool"] (au (top 22)):=.mk
theorem Ll (T:fj P w base K mg aH aI aF aV aq aD):iB P w K mg base (cN P w) 4 "check_size" ["pool"] KI:=by
 have sL:=Lj T;have d7:=Ca T;refine T.rX.fB (λ_ _ _ _ _ _=>iG λ_=>rfl) λf fd F=>F.E9 jU (λvs H Q E h=>?_) (λbZ A outer s H vs Q E hr h=>?_)
 ·obtain⟨_,rfl,_⟩:=qI h;rfl
 ·symm;obtain⟨l,rfl,ps,hp,g,kk⟩:=qI h;nofun;have nd:=jU.nd;have wM:A.handled=none:=hr.hd;refine⟨_,(ao (aT (i:=1) ae)
  (ao (aT (i:=2) ae)
  (ao (cK PassesOwn.leaving rfl (bJ (K:=K) (pv 0)) (aO (i:=3) nd rfl (Or.inl rfl)) (ao (aT (i:=1) (br cW (pv 1) (bI sL (aa (pv 3) af))))
  (aw (aT (i:=2) (br cW (pv 2) (bI d7 (aa (pv 3) af)))))))
  (aw (bP (PW.pt (pw_or (aP jc (pv 1) (kX rfl T.c_MOST_THROWS) (aX _)) (pw_or1 (aP jc (pv 2) (kX rfl T.c_MOST_BOTTOM) (aX _))))) (aw (hJ rfl T.k_TooMany T.x_TooMany wM (aa aL af) (he:=se rfl) (hpl:=na rfl)))
   bw))))),?_⟩
  refine(?_:let cH:TS:=_;let cI:TS:=_;let cJ:TS:=_;let eD:TS:=_;tSeq cH (tSeq cI (tSeq cJ eD)) _ _ _);intro cH cI cJ eD;symm;obtain⟨xs,hl,al⟩:=hp;nofun;have lx:=al.length;simp_all only[];refine⟨⟨_,bT.of hl⟩,bY (src_list (Ok:=λH'=>H=H') (λH' e=>by subst e;exact bT.of hl)) (λi σ H'=>H=H'/\∃z,σ=[some (.ref l),some (.int ((ki ((ps.take i).map cnt):Nat):Int)),some (.int ((ki ((ps.take i).map bot):Nat):Int)),z]) ⟨rfl,_,rfl⟩ (λ_ _ _ _ h=>h.1) ?_ ?_⟩
  ·intro i x σ H' sJ hi eQ eM;symm;obtain⟨rfl,z,rfl⟩:=eQ;obtain⟨rfl,ex⟩:=eM;obtain⟨p,ep,q,rfl,hq⟩:=al.get ex;nofun;obtain⟨Ej,yO⟩:=List.getElem?_eq_some_iff.mp ep;have hm:p∈ps:=by rw[<-yO];exact aa9 Ej
   symm;obtain⟨gp,c1,b1⟩:=mv g hm;nofun;have c0:=mq g i;have b0:=mr g i;simp_all only[KH,uK];refine⟨p,hq,gp,b1,gc (by omega) (by omega),p,hq,gp,b1,gc (by omega) (by omega),?_,?_,_,rfl⟩
   ·rw[take_snoc Ej,yO,aaK,aaw,aaT,hX,Int.natCast_mul]
   ·rw[take_snoc Ej,yO,aaK,aaw,aaT,hX,Int.natCast_mul]
  ·intro σ H' c5;symm;obtain⟨rfl,z,rfl⟩:=c5;nofun;rw[lx,aaJ (aav _)];have c0:=g.2.1;have b0:=g.2.2;simp_all only[];rw[if_neg (by omega),if_neg (by omega)];exact kk
theorem jV:bf ["dice","sides","found","turn","longer","faces"] ["dice","sides"] (au (top 23)):=.mk
theorem Lm (T:fj P w base K mg aH aI aF aV aq aD):iB P w K mg base (cN P w) 1 "dice_faces" ["dice","sides"] BF:=by
 refine T.rY.fB (λ_ _ _ _ _ _=>gS λ_ _=>rfl) λf fd F=>F.gR jV (λvs H Q E h=>?_) (λbZ A outer s H vs Q E hr h=>?_)
 ·obtain⟨_,_,rfl,_⟩:=h;rfl
 ·symm;obtain⟨d,s',rfl,s1,Lk,d6,hd,kk⟩:=h;nofun;have nd:=jV.nd;refine⟨_,(ao (aT (i:=2) (bu (aa (bu af) af)))
  (ao (cK PassesOwn.never rfl (eY rfl T.z_range (aa (pv 0) af)) (aO (i:=3) nd rfl (Or.inl rfl)) (ao (aT (i:=4) (bu af))
  (ao (cK PassesOwn.never rfl (bJ (K:=K) (pv 2)) (aO (i:=5) nd rfl (Or.inr rfl)) (aw (cg (eI aaU PySem.F.slot_list_extend PySem.F.type_list_extend jx.r (pv 4) (aa (cY rfl (N:=["dice","sides","found","turn","longer","faces"]) (so:=au (top 23)) (N':=["face","faces"]) (k:=1) (fr:=[5]) rfl rfl ⟨rfl,by ac_rfl,by ac_rfl,by ac_rfl,rfl,by ac_rfl,by ac_rfl⟩ (ju rfl T.z_range (aa ae (aa (br cC (pv 1) ae) af))) (λ_ _ _ _ _=>(aO (i:=0) (show(["face","faces"]:List Str).Nodup by ac_rfl) rfl (Or.inl rfl))) (λ_ _ _ _ _=>cX)
   (λ_ _ _ _ _=>(br gQ (pv 1) (bu (aa (pv 0) af))))) af)))))
  (aw (aT (i:=2) (pv 4))))))
  (aw (aW (pv 2))))),?_⟩
  refine(?_:let cH:TS:=_;let cI:TS:=_;let cJ:TS:=_;tSeq cH (tSeq cI cJ) _ _ _);intro cH cI cJ;have sl:=sizeLine_eq;simp_all only[];refine⟨aaz _,λe0 m0=>⟨by decide,λl0 n0=>⟨by omega,by omega,?_⟩⟩⟩;have s0:aA H (upd (upd H e0 (.lst [])) l0 (.lst [.ref e0])):=(ag m0).trans (ag n0);refine bY (src_range (Ok:=λ_=>True)) (λi σ H'=>aA H H'/\∃l xs z z' OE,H' l=some (.lst xs)/\Al (Fa H') (Af s' i) xs/\σ=[some (.int (d:Int)),some (.int (s':Int)),some (.ref l),z,z',OE]) ?_ (λ_ _ _ _ _=>trivial) ?_ ?_
  ·exact⟨s0,l0,_,_,_,_,ai,.one ⟨e0,rfl,ag n0 _ _ ai⟩,rfl⟩
  ·intro i x σ H' sJ hi eQ eM;symm;obtain⟨sm,l,xs,z,z',OE,hl,al,rfl⟩:=eQ;obtain⟨rfl,rfl⟩:=eM;nofun;have lx:=al.length;rw[iH] at lx;have hle:s'^ (i+1)<=1296:=aaI (Nat.pow_le_pow_right s1 (by omega)) hd;have aag:s'^i<=1296:=aaI (Nat.pow_le_pow_right s1 (by omega)) hd;change tSeq _ _ _ _ _;refine cS (λσ' H1=>aA sJ H1/\∃m,sJ m=none/\H1 m=some (.lst [])/\σ'=[some (.int (d:Int)),some (.int (s':Int)),some (.ref l),some (.int (0+i)),some (.ref m),OE]) (λN hN=>?_) ?_
   ·simp_all only[];exact⟨aaz _,λm nm=>hN _ _ ⟨ag nm,m,nm,ai,rfl⟩⟩
   intro _ H1 c5;symm;obtain⟨Aj,m,nm,hm,rfl⟩:=c5;nofun;change tSeq _ _ _ _ _;refine cS (λσ' H2=>aA sJ H2/\∃ys,H2 m=some (.lst ys)/\Al (Fa H2) (Af s' (i+1)) ys/\∃z,σ'=[some (.int (d:Int)),some (.int (s':Int)),some (.ref l),some (.int (0+i)),some (.ref m),z]) (λN hN=>?_) ?_
   ·simp_all only[];refine⟨⟨_,bT.of (Aj _ _ hl)⟩,bY (src_list (Ok:=aA sJ) (λH2 s2=>bT.of (s2 _ _ hl)))
     (λj σ H2=>aA sJ H2/\∃ys z,H2 m=some (.lst ys)/\ys.length=j*s'/\Al (Fa (dg H2 m)) (((Af s' i).take j).flatMap λf=>(List.range s').map λi:Nat=>f++ [((i:Nat):Int)+1]) ys/\σ=[some (.int (d:Int)),some (.int (s':Int)),some (.ref l),some (.int (0+i)),some (.ref m),z])
     ⟨Aj,[],_,hm,by simp,trivial,rfl⟩ (λ_ _ _ _ h=>h.1) ?_ ?_⟩
    ·intro j x σ H2 H3 hj eQ eM;symm;obtain⟨uV,ys,z,tF,ly,ay,rfl⟩:=eQ;obtain⟨rfl,ex⟩:=eM;obtain⟨f,ef,q,rfl,hq⟩:=al.get ex;nofun;obtain⟨hjf,ef'⟩:=List.getElem?_eq_some_iff.mp ef;have fl:=(jC s' i f (by rw[<-ef'];exact aa9 hjf)).1;have FF:=uV _ _ hq;simp_all only[kH];refine⟨.inl ⟨rfl,_,bT.of tF⟩,by omega,by omega,by omega,by omega,?_⟩;rw[show((s':Int)+1 - 1).toNat=s' by omega];refine comp_map src_range (λ_ _ _ _ h=>by rw[h.1];exact aA.refl _) (by omega) (λk y H4=>Fa (dg H4 m) (f++ [((k:Nat):Int)+1]) y) (λk y H4 H5 s5 h=>h.mono (bO s5)) ?_ ?_
     ·rintro k x w0 H4 H5 Q2 hk s4 ⟨rfl,rfl⟩ kq;simp_all only[nZ];refine⟨by decide,λa1 n1=>⟨_,ag n1 _ _ (s4 _ _ FF),_,ai,by rw[aat];simp only[aaF,abe];omega,λa2 n2=>kq _ _ ((ag n1).trans (ag n2)) ⟨a2,rfl,?_⟩⟩⟩;have ne:a2≠m:=λe=>by
       subst e;rw[ag n1 _ _ (s4 _ _ tF)] at n2;cases n2
      rw[bX ne,ai,aaK,Int.add_comm];rfl
     ·intro zs H4 s4 lz hz D n1 n2;have Ln:=s4 _ _ tF;have jm:j*s'<=s'^ (i+1):=by rw[Nat.pow_succ];exact Nat.mul_le_mul_right _ (by omega)
      have szz:∀{k:Nat},k=j*s'+s'->k<=sizeLine:=λe=>by omega
      refine⟨_,ag n2 _ _ Ln,_,ai,szz (by rw[ly,lz]),?_⟩;have s5:aA H3 (upd H4 D (.lst zs)):=s4.trans (ag n2);refine⟨bS (uV.trans s5) nm,_,ai,by rw[aay,ly,lz,Nat.succ_mul],?_,_,rfl⟩;rw[lq,aaQ,ef,List.flatMap_append];refine Al.append (ay.imp λ_ _ h=>h.mono (bO s5)) ?_;simp only[Option.toList,abm,List.flatMap_nil,aaP];refine Al.of (by rw[aat,List.length_range];exact lz) λk y g e1 e2=>?_;rw[aau] at e2;symm;obtain⟨k',ek,rfl⟩:=Option.map_eq_some_iff.mp e2;nofun;obtain⟨Zk,FG⟩:=List.getElem?_eq_some_iff.mp ek;rw[List.getElem_range] at FG;subst FG;exact(hz _ _ e1).mono (bO (ag n2))
    ·intro σ H2 c5;symm;obtain⟨uV,ys,z,tF,ly,ay,rfl⟩:=c5;nofun;refine hN _ _ ⟨uV,ys,tF,?_,_,rfl⟩;rw[lx,<-iH s' i,aaJ (aav _)] at ay;exact ay.imp λ_ _ h=>h.mono bU
   intro _ H2 c5;symm;obtain⟨uV,ys,tF,ay,z,rfl⟩:=c5;nofun;simp_all only[]
   first | exact⟨sm.trans uV,m,_,tF,ay,rfl,⟨_,rfl⟩,⟨_,rfl⟩,⟨_,rfl⟩⟩ | exact⟨sm.trans uV,m,_,tF,ay,rfl,_,_,rfl⟩ | exact⟨sm.trans uV,m,_,tF,ay,rfl,⟨_,rfl⟩,_,rfl⟩ | exact⟨sm.trans uV,m,_,tF,ay,rfl,_,rfl⟩
  ·intro σ H' c5;symm;obtain⟨sm,l,xs,z,z',OE,hl,al,rfl⟩:=c5;nofun;rw[aaY] at al;simp_all only[];exact kk _ _ _ sm hl al
theorem jq:bf ["low","sides","found","face"] ["low","sides"] (au (top 24)):=.mk
theorem Lo (T:fj P w base K mg aH aI aF aV aq aD):iB P w K mg base (cN P w) 1 "again_faces" ["low","sides"] KJ:=by
 refine T.pX.fB (λ_ _ _ _ _ _=>gS λ_ _=>rfl) λf fd F=>F.gR jq (λvs H Q E h=>?_) (λbZ A outer s H vs Q E hr h=>?_)
 ·obtain⟨_,_,rfl,_⟩:=h;rfl
 ·symm;obtain⟨n,s',rfl,Lk,kk⟩:=h;nofun;have nd:=jq.nd;refine⟨_,(ao (aT (i:=2) (bu af))
  (ao (cK PassesOwn.never rfl (ju rfl T.z_range (aa ae (aa (br cC (pv 1) ae) af))) (aO (i:=3) nd rfl (Or.inr rfl)) (aw (bP (aP mD (pv 3) (pv 0) (aX _)) (aw (cg (eI aaU PySem.F.slot_list_extend PySem.F.type_list_extend jx.r (pv 2) (aa (cY rfl (N:=["low","sides","found","face"]) (so:=au (top 24)) (N':=["second","face"]) (k:=1) (fr:=[3]) rfl rfl ⟨rfl,by ac_rfl,by ac_rfl,by ac_rfl,rfl,by ac_rfl,by ac_rfl⟩ (ju rfl T.z_range (aa ae (aa (br cC (pv 1) ae) af))) (λ_ _ _ _ _=>(aO (i:=0) (show(["second","face"]:List Str).Nodup by ac_rfl) rfl (Or.inl rfl))) (λ_ _ _ _ _=>cX)
   (λ_ _ _ _ _=>(bu (aa (pv 1) (aa (pv 0) af))))) af))))
   (aw (cg (eI aaU aa5 aa6 cQ.r (pv 2) (aa (bu (aa (pv 3) af)) af)))))))
  (aw (aW (pv 2))))),?_⟩
  refine(?_:let cH:TS:=_;let cI:TS:=_;let cJ:TS:=_;tSeq cH (tSeq cI cJ) _ _ _);intro cH cI cJ;have sl:=sizeLine_eq;simp_all only[];refine⟨aaz _,λm nm=>⟨by omega,by omega,by omega,by omega,?_⟩⟩;rw[show((s':Int)+1 - 1).toNat=s' by omega];refine bY (src_range (Ok:=λ_=>True)) (λi σ H'=>aA H H'/\∃xs z,H' m=some (.lst xs)/\xs.length<=i*20/\Al (Fa (dg H' m)) ((List.range i).flatMap λi:Nat=>if i<n then (List.range s').map λj:Nat=>[((i:Nat):Int)+1,((j:Nat):Int)+1] else [[((i:Nat):Int)+1]]) xs/\σ=[some (.int (n:Int)),some (.int (s':Int)),some (.ref m),z]) ?_ (λ_ _ _ _ _=>trivial) ?_ ?_
  ·exact⟨ag nm,_,_,ai,aaz _,trivial,rfl⟩
  ·intro i x σ H1 H2 hi eQ eM;symm;obtain⟨sm,xs,z,hm,lx,al,rfl⟩:=eQ;obtain⟨rfl,rfl⟩:=eM;nofun;change tIfS _ _ _ _ [some (.int (n:Int)),some (.int (s':Int)),some (.ref m),some (.int (1+ (i:Int)))] H2;refine iE (λH'=>H2=H'/\i<n) (λH'=>H2=H'/\¬i<n) (λH' e=>?_) (λH' e=>?_) (λY N hY hN=>?_)
   ·obtain⟨rfl,c⟩:=e;simp_all only[kH];refine⟨.inl ⟨rfl,_,bT.of hm⟩,by omega,by omega,by omega,by omega,?_⟩;rw[show((s':Int)+1 - 1).toNat=s' by omega];refine comp_map src_range (λ_ _ _ _ h=>by rw[h.1];exact aA.refl _) (by omega) (λk y H4=>Fa (dg H4 m) [((i:Nat):Int)+1,((k:Nat):Int)+1] y) (λk y H4 H5 s5 h=>h.mono (bO s5)) ?_ ?_
    ·rintro k x w0 H4 H5 Q2 hk s4 ⟨rfl,rfl⟩ kq;simp_all only[];refine⟨by decide,λa1 n1=>kq _ _ (ag n1) ⟨a1,rfl,?_⟩⟩;have ne:a1≠m:=λe=>by
      subst e;rw[s4 _ _ hm] at n1;cases n1
     rw[bX ne,ai,Int.add_comm,Int.add_comm 1 (k:Int)];rfl
    ·intro zs H4 s4 lz hz D n1 n2;have Ln:=s4 _ _ hm;refine⟨_,ag n2 _ _ Ln,_,ai,by omega,?_⟩;have s5:aA H2 (upd H4 D (.lst zs)):=s4.trans (ag n2);refine⟨bS (sm.trans s5) nm,_,ai,by rw[aay,lz];omega,?_,_,rfl⟩;rw[lq,List.range_succ,List.flatMap_append];refine Al.append (al.imp λ_ _ h=>h.mono (bO s5)) ?_;simp only[abm,List.flatMap_nil,aaP];rw[if_pos c];refine Al.of (by rw[aat,List.length_range];exact lz) λk y g e1 e2=>?_;rw[aau] at e2;symm;obtain⟨k',ek,rfl⟩:=Option.map_eq_some_iff.mp e2;nofun;obtain⟨Zk,FG⟩:=List.getElem?_eq_some_iff.mp ek;rw[List.getElem_range] at FG;subst FG;exact(hz _ _ e1).mono (bO (ag n2))
   ·obtain⟨rfl,c⟩:=e;simp_all only[dt];refine⟨.inl ⟨rfl,_,bT.of hm⟩,by decide,λa1 n1=>⟨_,ag n1 _ _ hm,by omega,?_⟩⟩;have s5:=ag (o:=.lst [V.int (1+ (i:Int))]) n1;have ne:a1≠m:=λe=>by
     subst e;rw[hm] at n1;cases n1
    refine⟨bS (sm.trans s5) nm,_,ai,by rw[aay];simp only[aaF,abe];omega,?_,_,rfl⟩;rw[lq,List.range_succ,List.flatMap_append];refine Al.append (al.imp λ_ _ h=>h.mono (bO s5)) ?_;simp only[abm,List.flatMap_nil,aaP];rw[if_neg c];refine .one ⟨a1,rfl,?_⟩;rw[bX ne,ai,Int.add_comm];rfl
   ·simp_all only[];exact jF (λc=>hY _ ⟨rfl,by omega⟩) (λc=>hN _ ⟨rfl,by omega⟩)
  ·intro σ H' c5;symm;obtain⟨sm,xs,z,hm,lx,al,rfl⟩:=c5;nofun;simp_all only[];exact kk _ _ _ sm hm (al.imp λ_ _ h=>h.mono bU)
theorem jr:bf ["most","sides","found","ahead"] ["most","sides"] (au (top 25)):=.mk
theorem Lp (T:fj P w base K mg aH aI aF aV aq aD):iB P w K mg base (cN P w) 1 "burst_faces" ["most","sides"] KL:=by
 refine T.pY.fB (λ_ _ _ _ _ _=>gS λ_ _=>rfl) λf fd F=>F.gR jr (λvs H Q E h=>?_) (λbZ A outer s H vs Q E hr h=>?_)
 ·obtain⟨_,_,rfl,_⟩:=h;rfl
 ·symm;obtain⟨n,s',rfl,s1,Lk,n7,kk⟩:=h;nofun;clear G_;have nd:=jr.nd;refine⟨_,(ao (aT (i:=2) (bu af))
  (ao (cK PassesOwn.never rfl (eY rfl T.z_range (aa (pv 0) af)) (aO (i:=3) nd rfl (Or.inr rfl)) (aw (cg (eI aaU PySem.F.slot_list_extend PySem.F.type_list_extend jx.r (pv 2) (aa (cY rfl (N:=["most","sides","found","ahead"]) (so:=au (top 25)) (N':=["face","sides","ahead"]) (k:=1) (fr:=[1,3]) rfl rfl ⟨rfl,by ac_rfl,by ac_rfl,by ac_rfl,rfl,by ac_rfl,by ac_rfl⟩ (ju rfl T.z_range (aa ae (aa (pv 1) af))) (λ_ _ _ _ _=>(aO (i:=0) (show(["face","sides","ahead"]:List Str).Nodup by ac_rfl) rfl (Or.inl rfl))) (λ_ _ _ _ _=>cX)
   (λ_ _ _ _ _=>(br gQ (br vW (bu (aa (pv 1) af)) (pv 2)) (bu (aa (pv 0) af))))) af)))))
  (ao (cg (eI aaU aa5 aa6 cQ.r (pv 2) (aa (br vW (bu (aa (pv 1) af)) (pv 0)) af)))
  (aw (aW (pv 2)))))),?_⟩
  refine(?_:let cH:TS:=_;let cI:TS:=_;let cJ:TS:=_;let eD:TS:=_;tSeq cH (tSeq cI (tSeq cJ eD)) _ _ _);intro cH cI cJ eD;have sl:=sizeLine_eq;change tSeq _ _ _ _ _;refine cS (λσ' H1=>aA H H1/\∃m,H m=none/\H1 m=some (.lst [])/\σ'=[some (.int (n:Int)),some (.int (s':Int)),some (.ref m),none]) (λN hN=>?_) ?_
  ·simp_all only[];exact⟨aaz _,λm nm=>hN _ _ ⟨ag nm,m,nm,ai,rfl⟩⟩
  intro _ H1 c5;symm;obtain⟨Aj,m,nm,hm,rfl⟩:=c5;nofun;clear G_;change tSeq _ _ _ _ _;refine cS (λσ' H1=>aA H H1/\∃xs z,H1 m=some (.lst xs)/\xs.length<=n*20/\Al (Fa (dg H1 m)) ((List.range n).flatMap λa=>IY s' a) xs/\σ'=[some (.int (n:Int)),some (.int (s':Int)),some (.ref m),z]) (λN hN=>?_) ?_
  ·simp_all only[];refine⟨by omega,by omega,?_⟩
   try rw[aaY]
   refine bY (src_range (Ok:=λ_=>True)) (λi σ H'=>aA H H'/\∃xs z,H' m=some (.lst xs)/\xs.length<=i*20/\Al (Fa (dg H' m)) ((List.range i).flatMap λa=>IY s' a) xs/\σ=[some (.int (n:Int)),some (.int (s':Int)),some (.ref m),z]) ?_ (λ_ _ _ _ _=>trivial) ?_ ?_
   ·exact⟨Aj,_,_,hm,aaz _,trivial,rfl⟩
   ·intro i x σ H2 H3 hi eQ eM;symm;obtain⟨sm,xs,z,hm,lx,al,rfl⟩:=eQ;obtain⟨rfl,rfl⟩:=eM;nofun;simp_all only[kH];refine⟨.inl ⟨rfl,_,bT.of hm⟩,by omega,by omega,by omega,by omega,?_⟩;rw[show((s':Int) - 1).toNat=s' - 1 by omega];refine comp_map src_range (λ_ _ _ _ h=>by rw[h.1];exact aA.refl _) (by omega) (λk y H4=>Fa (dg H4 m) (List.replicate i (s':Int)++ [((k:Nat):Int)+1]) y) (λk y H4 H5 s5 h=>h.mono (bO s5)) ?_ ?_
    ·rintro k x w0 H4 H5 Q2 hk s4 ⟨rfl,rfl⟩ kq;simp_all only[nZ,Dq];refine⟨by decide,λa1 n1=>⟨_,ai,by omega,by omega,by simp only[aaF,abe];omega,λa2 n2=>⟨by decide,λa3 n3=>⟨_,ag n3 _ _ ai,_,ai,?_,λa4 n4=>kq _ _ ((ag n1).trans ((ag n2).trans ((ag n3).trans (ag n4)))) ⟨a4,rfl,?_⟩⟩⟩⟩⟩
     ·rw[len_rep];simp only[aaF,abe];omega
     ·have ne:a4≠m:=λe=>by
       subst e;rw[ag n3 _ _ (ag n2 _ _ (ag n1 _ _ (s4 _ _ hm)))] at n4;cases n4
      rw[bX ne,ai,List.flatten_replicate_singleton,aaK,List.map_replicate,show((0:Int)+ (i:Int)).toNat=i by omega,Int.add_comm 1 (k:Int)];rfl
    ·intro zs H4 s4 lz hz D n1 n2;have Ln:=s4 _ _ hm;refine⟨_,ag n2 _ _ Ln,_,ai,by omega,?_⟩;have s5:aA H3 (upd H4 D (.lst zs)):=s4.trans (ag n2);refine⟨bS (sm.trans s5) nm,_,ai,by rw[aay,lz];omega,?_,_,rfl⟩;rw[lq,List.range_succ,List.flatMap_append];refine Al.append (al.imp λ_ _ h=>h.mono (bO s5)) ?_;simp only[abm,List.flatMap_nil,aaP];unfold IY;refine Al.of (by rw[aat,List.length_range];exact lz) λk y g e1 e2=>?_;rw[aau] at e2;symm;obtain⟨k',ek,rfl⟩:=Option.map_eq_some_iff.mp e2;nofun;obtain⟨Zk,FG⟩:=List.getElem?_eq_some_iff.mp ek;rw[List.getElem_range] at FG;subst FG;exact(hz _ _ e1).mono (bO (ag n2))
   ·intro σ H' c5;symm;obtain⟨sm,xs,z,hm,lx,al,rfl⟩:=c5;nofun;exact hN _ _ ⟨sm,xs,_,hm,lx,al,rfl⟩
  intro _ H2 c5;symm;obtain⟨sm,xs,z,hm,lx,al,rfl⟩:=c5;nofun;clear G_;simp_all only[dt,Dq];refine⟨.inl ⟨rfl,_,bT.of hm⟩,by decide,λa1 n1=>⟨_,ai,by omega,by omega,by simp only[aaF,abe];omega,λa2 n2=>⟨_,ag n2 _ _ (ag n1 _ _ hm),by omega,?_⟩⟩⟩;generalize eH:upd (upd H2 a1 (.lst [V.int (s':Int)])) a2 (.lst (List.replicate (n:Int).toNat [V.int (s':Int)]).flatten)=H5;have s5:aA H2 H5:=by rw[<-eH];exact(ag n1).trans (ag n2)
  have ne:a2≠m:=λe=>by
   subst e;rw[ag n1 _ _ hm] at n2;cases n2
  have e5:H5 a2=some (.lst (List.map V.int (List.replicate n (s':Int)))):=by
   rw[<-eH,ai,List.flatten_replicate_singleton,List.map_replicate,aaY]
  refine kk _ _ _ (bS (sm.trans s5) nm) ai ?_;refine Al.append (al.imp λ_ _ h=>(h.mono (bO s5)).mono xU) (.one ⟨a2,rfl,?_⟩);rw[aE ne];exact e5
theorem jW:bf ["part"] ["part"] (au (top 26)):=.mk
theorem Lq (T:fj P w base K mg aH aI aF aV aq aD):iB P w K mg base (cN P w) 2 "part_faces" ["part"] KN:=by
 have eN:=B9 T;have sM:=Lm T;have qb:=Lo T;have qd:=Lp T;refine T.rZ.fB (λ_ _ _ _ _ _=>iG λ_=>rfl) λf fd F=>F.gR jW (λvs H Q E h=>?_) (λbZ A outer s H vs Q E hr h=>?_)
 ·obtain⟨_,rfl,_⟩:=qI h;rfl
 ·symm;obtain⟨q,rfl,p,hq,g,hc,kk⟩:=qI h;nofun;have nd:=jW.nd;refine⟨_,(ao (bP (aP cw (aG aB (pv 0) ae) aL (aX _)) (aw (aW (bu (aa (bu af) af))))
   bw)
  (ao (bP (aP cw (aG aB (pv 0) ae) aL (aX _)) (aw (aW (bI qb (aa (aG aB (pv 0) ae) (aa (aG aB (pv 0) ae) af)))))
   bw)
  (ao (bP (aP cw (aG aB (pv 0) ae) aL (aX _)) (aw (aW (bI qd (aa (bI eN (aa (pv 0) af)) (aa (aG aB (pv 0) ae) af)))))
   bw)
  (aw (aW (bI sM (aa (aG aB (pv 0) (jM gP ae)) (aa (aG aB (pv 0) (jM gP ae)) af)))))))),?_⟩
  refine(?_:let cH:TS:=_;let cI:TS:=_;let cJ:TS:=_;let eD:TS:=_;tSeq cH (tSeq cI (tSeq cJ eD)) _ _ _);intro cH cI cJ eD;cases p with
  | num n=>
   simp only[iI] at hq;refine fH rfl hq rfl ?_;simp_all only[hq];refine⟨aaz _,λe0 m0=>⟨by decide,λl0 n0=>kk _ _ _ ((ag m0).trans (ag n0)) ai (.one ⟨e0,rfl,ag n0 _ _ ai⟩)⟩⟩
  | di m s=>
   simp only[iI] at hq;refine bC rfl hq (by ac_rfl) (bC rfl hq (by ac_rfl) (bC rfl hq (by ac_rfl) ?_));simp_all only[hq,BF];refine⟨_,rfl,_,rfl,m,rfl,s,rfl,g.1,g.2.1,g.2.2,hc,kk⟩
  | best n m s=>
   simp only[iI] at hq;refine bC rfl hq (by ac_rfl) (bC rfl hq (by ac_rfl) (bC rfl hq (by ac_rfl) ?_));simp_all only[hq,BF];refine⟨_,rfl,_,rfl,m,rfl,s,rfl,g.1,g.2.1,g.2.2.1,hc,kk⟩
  | dX n m s=>
   simp only[iI] at hq;refine bC rfl hq (by ac_rfl) (bC rfl hq (by ac_rfl) (bC rfl hq (by ac_rfl) ?_));simp_all only[hq,BF];refine⟨_,rfl,_,rfl,m,rfl,s,rfl,g.1,g.2.1,g.2.2.1,hc,kk⟩
  | hits n m s=>
   simp only[iI] at hq;refine bC rfl hq (by ac_rfl) (bC rfl hq (by ac_rfl) (bC rfl hq (by ac_rfl) ?_));simp_all only[hq,BF];refine⟨_,rfl,_,rfl,m,rfl,s,rfl,g.1,g.2.1,g.2.2.1,hc,kk⟩
  | again n s=>
   simp only[iI] at hq;refine bC rfl hq (by ac_rfl) (fH rfl hq rfl ?_);simp_all only[hq,KJ];refine⟨n,rfl,s,rfl,g.2.1,kk⟩
  | c8 n s=>
   simp only[iI] at hq;refine bC rfl hq (by ac_rfl) (bC rfl hq (by ac_rfl) (fH rfl hq rfl ?_));simp_all only[hq,D5,KL];refine⟨.c8 n s,rfl,n+1,rfl,s,rfl,g.1,g.2.1,by have:=g.2.2;omega,kk⟩
theorem mS:bf ["part","faces"] ["part","faces"] (au (top 27)):=.mk
theorem Lr (T:fj P w base K mg aH aI aF aV aq aD):iB P w K mg base (cN P w) 1 "value_of" ["part","faces"] KO:=by
 refine T.wC.fB (λ_ _ _ _ _ _=>gS λ_ _=>rfl) λf fd F=>F.gR mS (λvs H Q E h=>?_) (λbZ A outer s H vs Q E hr h=>?_)
 ·obtain⟨_,_,rfl,_⟩:=DQ h;rfl
 ·symm;obtain⟨q,l,rfl,p,hq,fs,hl,g,hf,kk⟩:=DQ h;nofun;clear G_;have nd:=mS.nd;refine⟨_,(ao (bP (aP cw (aG aB (pv 0) ae) aL (aX _)) (aw (aW (aG aB (pv 0) ae)))
   bw)
  (ao (bP (aP cw (aG aB (pv 0) ae) aL (aX _)) (aw (aW (bg (jh (K:=K)) (by rfl) T.z_sum rfl (aa (je (kS (K:=K)) (zr (K:=K) rfl T.z_sorted (pv 1) i9 (n1:=rfl)) kD (kG (aG aB (pv 0) ae))) af))))
   bw)
  (ao (bP (aP cw (aG aB (pv 0) ae) aL (aX _)) (aw (aW (bg (jh (K:=K)) (by rfl) T.z_sum rfl (aa (je (kS (K:=K)) (bg (ou (K:=K)) (by rfl) T.z_sorted rfl (aa (pv 1) af)) kD (kG (aG aB (pv 0) ae))) af))))
   bw)
  (ao (bP (aP cw (aG aB (pv 0) ae) aL (aX _)) (aw (aW (bg bM (by rfl) T.z_len aaH (aa (cY rfl (N:=["part","faces"]) (so:=au (top 27)) (N':=["face","part"]) (k:=1) (fr:=[0]) rfl rfl ⟨rfl,by ac_rfl,by ac_rfl,by ac_rfl,rfl,by ac_rfl,by ac_rfl⟩ (bJ (K:=K) (pv 1)) (λ_ _ _ _ _=>(aO (i:=0) (show(["face","part"]:List Str).Nodup by ac_rfl) rfl (Or.inl rfl))) (λ_ _ _ _ _=>(rL (aP xw (pv 0) (aG aB (pv 1) ae) (aX _))))
   (λ_ _ _ _ _=>(pv 0))) af))))
   bw)
  (ao (bP (aP cw (aG aB (pv 0) ae) aL (aX _)) (aw (aW (aG bx (pv 1) (jM gP ae))))
   bw)
  (aw (aW (bg (jh (K:=K)) (by rfl) T.z_sum rfl (aa (pv 1) af))))))))),?_⟩
  refine(?_:let cH:TS:=_;let cI:TS:=_;let cJ:TS:=_;let eD:TS:=_;let qS:TS:=_;let yA:TS:=_;tSeq cH (tSeq cI (tSeq cJ (tSeq eD (tSeq qS yA)))) _ _ _);intro cH cI cJ eD qS yA;have sl:=sizeLine_eq;have fl:=(lj g fs hf).2;have ml:=oQ g;cases p with
  | num n=>
   simp only[iI] at hq;refine fH rfl hq rfl ?_;simp_all only[hq];exact kk _ (aA.refl _)
  | di m s=>
   simp only[iI] at hq;refine bC rfl hq (by ac_rfl) (bC rfl hq (by ac_rfl) (bC rfl hq (by ac_rfl) (bC rfl hq (by ac_rfl) (bC rfl hq (by ac_rfl) ?_))));simp_all only[hq];exact⟨fs,bT.of hl,kk _ (aA.refl _)⟩
  | best n m s=>
   simp only[iI] at hq;refine bC rfl hq (by ac_rfl) (fH rfl hq rfl ?_);simp_all only[hq];refine⟨_,bT.of hl,by omega,λa n1=>⟨_,ag n1 _ _ hq,_,at1,_,rfl,_,bT.of ai,λb n2=>⟨((Nm.oj fs).reverse.take n),bT.of ?_,kk _ ((ag n1).trans (ag n2))⟩⟩⟩;rw[ai,jj (by omega),List.map_take,aaY]
  | dX n m s=>
   simp only[iI] at hq;refine bC rfl hq (by ac_rfl) (bC rfl hq (by ac_rfl) (fH rfl hq rfl ?_));simp_all only[hq];refine⟨_,bT.of hl,by omega,λa n1=>⟨_,ag n1 _ _ hq,_,at1,_,rfl,_,bT.of ai,λb n2=>⟨((Nm.oj fs).take n),bT.of ?_,kk _ ((ag n1).trans (ag n2))⟩⟩⟩;rw[ai,jj (by omega),List.map_take,aaY]
  | hits n m s=>
   simp only[iI] at hq;refine bC rfl hq (by ac_rfl) (bC rfl hq (by ac_rfl) (bC rfl hq (by ac_rfl) (fH rfl hq rfl ?_)));simp_all only[hq];refine⟨⟨_,bT.of hl⟩,?_⟩;have S:Src (C8 K l) (aA H) fs.length (λi x H H3=>H3=H/\(List.map V.int fs)[i]?=some x):=by
    have:=src_list (K:=K) (a:=l) (xs:=List.map V.int fs) (Ok:=aA H) (λH2 s2=>bT.of (s2 _ _ hl))
    rwa [aat] at this
   refine zk fs (λx=>if (n:Int)<=x then some x else none) S (λ_ _ _ _ h=>h.1) (by omega) ?_ ?_
   ·rintro i a x ea ⟨_,hx⟩ Y N y1 n1;rw[aau,ea] at hx;cases hx;simp_all only[hq];refine jF (λc=>y1 _ (if_pos c)) (λc=>n1 (if_neg c))
   ·intro D n1 n2;refine⟨_,ai,?_⟩;have e:(List.map V.int (fs.filterMap λx=>if (n:Int)<=x then some x else none)).length=(fs.filter λx=>decide ((n:Int)<=x)).length:=by
     rw[aat];clear hl hf fl kk S
     induction fs with
     | nil=>rfl
     | cons a r ih=>
      by_cases c:(n:Int)<=a
      ·simp [c,ih]
      ·simp [c,ih]
    rw[e];exact kk _ (ag n2)
  | again n s=>
   simp only[iI] at hq;refine bC rfl hq (by ac_rfl) (bC rfl hq (by ac_rfl) (bC rfl hq (by ac_rfl) (bC rfl hq (by ac_rfl) (fH rfl hq rfl ?_))));simp_all only[hq];obtain⟨_,h⟩:=yb fs hf;rcases h with ⟨x,y,rfl,_⟩ | ⟨x,rfl,_⟩
   ·exact⟨_,hl,_,rfl,kk _ (aA.refl _)⟩
   ·exact⟨_,hl,_,rfl,kk _ (aA.refl _)⟩
  | c8 n s=>
   simp only[iI] at hq;refine bC rfl hq (by ac_rfl) (bC rfl hq (by ac_rfl) (bC rfl hq (by ac_rfl) (bC rfl hq (by ac_rfl) (bC rfl hq (by ac_rfl) ?_))));simp_all only[hq];exact⟨fs,bT.of hl,kk _ (aA.refl _)⟩
theorem ik:bf ["part","faces","product","face"] ["part","faces"] (au (top 28)):=.mk
theorem Ls (T:fj P w base K mg aH aI aF aV aq aD):iB P w K mg base (cN P w) 1 "sides_product" ["part","faces"] KP:=by
 refine T.m7.fB (λ_ _ _ _ _ _=>gS λ_ _=>rfl) λf fd F=>F.gR ik (λvs H Q E h=>?_) (λbZ A outer s H vs Q E hr h=>?_)
 ·obtain⟨_,_,rfl,_⟩:=DQ h;rfl
 ·symm;obtain⟨q,l,rfl,p,hq,fs,hl,g,hf,kk⟩:=DQ h;nofun;have nd:=ik.nd;refine⟨_,(ao (aT (i:=2) ae)
  (ao (cK PassesOwn.never rfl (bJ (K:=K) (pv 1)) (aO (i:=3) nd rfl (Or.inl rfl)) (aw (aT (i:=2) (br cW (pv 2) (aG aB (pv 0) (jM gP ae))))))
  (aw (aW (pv 2))))),?_⟩
  refine(?_:let cH:TS:=_;let cI:TS:=_;let cJ:TS:=_;tSeq cH (tSeq cI cJ) _ _ _);intro cH cI cJ;have fl:=(lj g fs hf).2;have ml:=oQ g;have l99:=HD g;have Lk:=(sx g).2;have e0:0<fs.length->lst p=sd p:=λh=>by
   cases p with
   | num n=>rw[List.mem_singleton.mp hf] at h;cases h
   | _=>rfl
  simp_all only[];refine⟨⟨_,bT.of hl⟩,bY (src_list (Ok:=λH'=>H=H') (λH' e=>by subst e;exact bT.of hl)) (λi σ H'=>H=H'/\∃z,σ=[some (.ref q),some (.ref l),some (.int ((sd p^i:Nat):Int)),z]) ⟨rfl,_,rfl⟩ (λ_ _ _ _ h=>h.1) ?_ ?_⟩
  ·intro i x σ H' sJ hi eQ eM;symm;obtain⟨rfl,z,rfl⟩:=eQ;obtain⟨rfl,ex⟩:=eM;nofun;rw[aat] at hi;have le:=zG (e:=i) Lk (by omega);have e1:=e0 (by omega);simp_all only[];refine⟨_,hq,_,BE p,?_⟩;simp_all only[];refine⟨gc (by omega) (by omega),?_,_,rfl⟩;rw[Nat.pow_succ,Int.natCast_mul,e1]
  ·intro σ H' c5;symm;obtain⟨rfl,z,rfl⟩:=c5;nofun;rw[aat];simp_all only[];exact kk
theorem js:bf ["part"] ["part"] (au (top 29)):=.mk
theorem Lu (T:fj P w base K mg aH aI aF aV aq aD):iB P w K mg base (cN P w) 3 "part_throws" ["part"] KQ:=by
 have sO:=Lq T;have wN:=Lr T;have nj:=Ls T;refine T.pZ.fB (λ_ _ _ _ _ _=>iG λ_=>rfl) λf fd F=>F.gR js (λvs H Q E h=>?_) (λbZ A outer s H vs Q E hr h=>?_)
 ·obtain⟨_,rfl,_⟩:=qI h;rfl
 ·symm;obtain⟨q,rfl,p,hq,g,hc,kk⟩:=qI h;nofun;have nd:=js.nd;refine⟨_,(aw (aW (cY rfl (N:=["part"]) (so:=au (top 29)) (N':=["faces","part"]) (k:=1) (fr:=[0]) rfl rfl ⟨rfl,by ac_rfl,by ac_rfl,by ac_rfl,rfl,by ac_rfl,by ac_rfl⟩ (bJ (K:=K) (bI sO (aa (pv 0) af))) (λ_ _ _ _ _=>(aO (i:=0) (show(["faces","part"]:List Str).Nodup by ac_rfl) rfl (Or.inl rfl))) (λ_ _ _ _ _=>cX)
   (λ_ _ _ _ _=>(aM (aa (pv 0) (aa (bI wN (aa (pv 1) (aa (pv 0) af))) (aa (bI nj (aa (pv 1) (aa (pv 0) af))) af)))))))),?_⟩
  have sl:=sizeLine_eq;simp_all only[KN];refine⟨p,hq,g,hc,λl H1 xs s1 hl al=>⟨⟨_,bT.of hl⟩,?_⟩⟩;have lx:=al.length;rw[lg] at lx;refine comp_map (src_list (λH2 s2=>bT.of (s2 _ _ hl))) (λ_ _ _ _ h=>by rw[h.1];exact aA.refl _) (by omega) (λi y H2=>∀f,(DZ p)[i]?=some f->TR (λ_=>none) H2 (f,QG p f,sd p^f.length) y) (λi y H2 H3 s3 h f e=>(h f e).mono s3) ?_ ?_
  ·rintro i x w0 H2 H3 Q2 hi s2 ⟨rfl,ex⟩ kq;symm;obtain⟨fs,ef,b,rfl,hb⟩:=al.get ex;nofun;have hf:fs∈DZ p:=aaC ef;have FF:=s2 _ _ (s1 _ _ hq);have QL:=s2 _ _ hb;simp_all only[KO,KP];refine⟨p,FF,fs,QL,g,hf,λH4 s4=>⟨p,s4 _ _ FF,fs,s4 _ _ QL,g,hf,by decide,λa H5 s5 na e5=>kq _ _ (s4.trans s5) λf e=>?_⟩⟩;rw[ef] at e;cases e;exact⟨a,b,rfl,e5,s5 _ _ (s4 _ _ QL),rfl⟩
  ·intro ys H2 s2 ly hy D n1 n2;refine kk _ _ _ (s1.trans (s2.trans (ag n2))) ai ?_;refine Al.of (by unfold CK;rw[aat,lg];omega) λi y r e1 e2=>?_;unfold CK at e2;rw[aau] at e2;symm;obtain⟨f,ef,rfl⟩:=Option.map_eq_some_iff.mp e2;nofun;exact(hy i y e1 f ef).mono (ag n2)
theorem fN:bf ["pool","found","part","behind","longer","faces","value","bottom"] ["pool"] (au (top 30)):=.mk
theorem Lv (T:fj P w base K mg aH aI aF aV aq aD):iB P w K mg base (cN P w) 5 "throws_by_bottom" ["pool"] KR:=by
 have sP:=Ll T;have qe:=Lu T;refine T.kd.fB (λ_ _ _ _ _ _=>iG λ_=>rfl) λf fd F=>F.gR fN (λvs H Q E h=>?_) (λbZ A outer s H vs Q E hr h=>?_)
 ·obtain⟨_,rfl,_⟩:=qI h;rfl
 ·symm;obtain⟨a,rfl,ps,hp,g,l4,kk⟩:=qI h;nofun;clear G_;have nd:=fN.nd;refine⟨_,(ao (cg (bI sP (aa (pv 0) af)))
  (ao (aT (i:=1) (bu (aa (aM (aa (bu af) (aa ae (aa ae af)))) af)))
  (ao (cK PassesOwn.never rfl (bJ (K:=K) (pv 0)) (aO (i:=2) nd rfl (Or.inl rfl)) (ao (aT (i:=3) (bI qe (aa (pv 2) af)))
  (ao (aT (i:=4) (bu af))
  (ao (cK PassesOwn.never rfl (bJ (K:=K) (pv 1)) (dE (K:=K) (n:=3) rfl (bD (aO (i:=5) nd rfl (Or.inr rfl)) (bD (aO (i:=6) nd rfl (Or.inr rfl)) (bD (aO (i:=7) nd rfl (Or.inr rfl)) c9)))) (aw (cg (eI aaU PySem.F.slot_list_extend PySem.F.type_list_extend jx.r (pv 4) (aa (cY rfl (N:=["pool","found","part","behind","longer","faces","value","bottom"]) (so:=au (top 30)) (N':=["more","faces","value","bottom"]) (k:=1) (fr:=[5,6,7]) rfl rfl ⟨rfl,by ac_rfl,by ac_rfl,by ac_rfl,rfl,by ac_rfl,by ac_rfl⟩ (bJ (K:=K) (pv 3)) (λ_ _ _ _ _=>(aO (i:=0) (show(["more","faces","value","bottom"]:List Str).Nodup by ac_rfl) rfl (Or.inl rfl))) (λ_ _ _ _ _=>cX)
   (λ_ _ _ _ _=>(aM (aa (br gQ (pv 1) (aG aB (pv 0) ae)) (aa (br cC (pv 2) (aG aB (pv 0) ae)) (aa (br cW (pv 3) (aG aB (pv 0) ae)) af)))))) af)))))
  (aw (aT (i:=1) (pv 4)))))))
  (aw (aW (pv 1)))))),?_⟩
  refine(?_:let cH:TS:=_;let cI:TS:=_;let cJ:TS:=_;let eD:TS:=_;tSeq cH (tSeq cI (tSeq cJ eD)) _ _ _);intro cH cI cJ eD;have sl:=sizeLine_eq;symm;obtain⟨vs,ha,ap⟩:=hp;nofun;clear G_;have lv:=ap.length;change tSeq _ _ _ _ _;refine cS (λσ' H1=>H=H1/\σ'=[some (.ref a),none,none,none,none,none,none,none]) (λN hN=>?_) ?_
  ·simp_all only[KI];exact⟨ps,⟨vs,ha,ap⟩,g,hN _ _ ⟨rfl,rfl⟩⟩
  rintro _ _ ⟨rfl,rfl⟩;change tSeq _ _ _ _ _;refine cS (λσ' H1=>aA H H1/\∃l xs,H1 l=some (.lst xs)/\Al (TR H H1) (gX []) xs/\σ'=[some (.ref a),some (.ref l),none,none,none,none,none,none]) (λN hN=>?_) ?_
  ·simp_all only[];refine⟨aaz _,λe0 m0=>⟨by decide,λt H1 s1 nt e1=>⟨by decide,λl n1=>hN _ _ ⟨(ag m0).trans (s1.trans (ag n1)),l,_,ai,.one ⟨t,e0,rfl,ag n1 _ _ e1,ag n1 _ _ (s1 _ _ ai),m0⟩,rfl⟩⟩⟩⟩
  intro _ H1 c5;symm;obtain⟨Aj,l,xs,hl,al,rfl⟩:=c5;nofun;clear G_;change tSeq _ _ _ _ _;refine cS (λσ' H2=>aA H H2/\∃l xs,H2 l=some (.lst xs)/\Al (TR H H2) (gX ps) xs/\∃z1 z2 z3 z4 z5 z6,σ'=[some (.ref a),some (.ref l),z1,z2,z3,z4,z5,z6]) (λN hN=>?_) ?_
  ·simp_all only[];refine⟨⟨_,bT.of (Aj _ _ ha)⟩,bY (src_list (Ok:=aA H) (λH2 s2=>bT.of (s2 _ _ ha)))
    (λi σ H2=>aA H H2/\∃l xs z1 z2 z3 z4 z5 z6,H2 l=some (.lst xs)/\Al (TR H H2) (gX (ps.take i)) xs/\σ=[some (.ref a),some (.ref l),z1,z2,z3,z4,z5,z6])
    ⟨Aj,l,xs,_,_,_,_,_,_,hl,al,rfl⟩ (λ_ _ _ _ h=>h.1) ?_ ?_⟩
   ·clear hl al xs l;intro i x σ H2 H3 hi eQ eM;symm;obtain⟨uV,l,xs,z1,z2,z3,z4,z5,z6,hl,al,rfl⟩:=eQ;obtain⟨rfl,ex⟩:=eM;obtain⟨p,ep,q,rfl,hq⟩:=ap.get ex;nofun;obtain⟨Ej,yO⟩:=List.getElem?_eq_some_iff.mp ep;have hm:p∈ps:=by rw[<-yO];exact aa9 Ej
    symm;obtain⟨gp,c1,b1⟩:=mv g hm;nofun;have lx:=al.length;rw[nM] at lx;have c0:=mq g i;have c2:=mq g (i+1);have es:gX (ps.take (i+1))=Ae (gX (ps.take i)) p:=by rw[take_snoc Ej,yO,oR]
    have ec:ki ((ps.take (i+1)).map cnt)=ki ((ps.take i).map cnt)*cnt p:=by rw[take_snoc Ej,yO,aaK,aaw,aaT,hX]
    rw[ec] at c2;change tSeq _ _ _ _ _;refine cS (λσ' H4=>aA H3 H4/\∃b bs,H4 b=some (.lst bs)/\Al (TR (λ_=>none) H4) (CK p) bs/\σ'=[some (.ref a),some (.ref l),some (.ref q),some (.ref b),z3,z4,z5,z6]) (λN hN=>?_) ?_
    ·simp_all only[KQ];exact⟨p,uV _ _ hq,gp,c1,λb H4 bs s4 hb ab=>hN _ _ ⟨s4,b,bs,hb,ab,rfl⟩⟩
    intro _ H4 c5;symm;obtain⟨OF,b,bs,hb,ab,rfl⟩:=c5;nofun;have lb:=ab.length;unfold CK at lb;rw[aat,lg] at lb;have hl:=OF _ _ hl;have al:=al.imp λ_ _ h=>TR.mono OF h;change tSeq _ _ _ _ _;refine cS (λσ' H5=>aA H4 H5/\∃m,H4 m=none/\H5 m=some (.lst [])/\σ'=[some (.ref a),some (.ref l),some (.ref q),some (.ref b),some (.ref m),z4,z5,z6]) (λN hN=>?_) ?_
    ·simp_all only[];exact⟨aaz _,λm nm=>hN _ _ ⟨ag nm,m,nm,ai,rfl⟩⟩
    intro _ H5 c5;symm;obtain⟨Zl,m,nm,hm5,rfl⟩:=c5;nofun;change tSeq _ _ _ _ _;refine cS (λσ' H6=>aA H4 H6/\∃ys,H6 m=some (.lst ys)/\Al (TR H H6) (Ae (gX (ps.take i)) p) ys/\∃z4 z5 z6,σ'=[some (.ref a),some (.ref l),some (.ref q),some (.ref b),some (.ref m),z4,z5,z6]) (λN hN=>?_) ?_
    ·simp_all only[];refine⟨⟨_,bT.of (Zl _ _ hl)⟩,bY (src_list (Ok:=aA H4) (λH2 s2=>bT.of (s2 _ _ hl)))
      (λj σ H6=>aA H4 H6/\∃ys z4 z5 z6,H6 m=some (.lst ys)/\ys.length=j*cnt p/\Al (TR H (dg H6 m)) (Ae ((gX (ps.take i)).take j) p) ys/\σ=[some (.ref a),some (.ref l),some (.ref q),some (.ref b),some (.ref m),z4,z5,z6])
      ⟨Zl,[],_,_,_,hm5,by simp,trivial,rfl⟩ (λ_ _ _ _ h=>h.1) ?_ ?_⟩
     ·intro j x σ H6 H7 hj eQ eM;symm;obtain⟨Cb,ys,z4,z5,z6,FH,ly,ay,rfl⟩:=eQ;obtain⟨rfl,ex⟩:=eM;obtain⟨r,er,t,fq,rfl,ht,QM,nfq⟩:=al.get ex;nofun;have zP:=yg g.1 i (by omega) r (aaC er);have ht:=Cb _ _ ht;have QM:=Cb _ _ QM;have Jd:=Cb _ _ hb;have b0:=mr g i;refine⟨t,_,rfl,iX.of ht,rfl,_,_,rfl,_,_,rfl,_,_,rfl,rfl,?_⟩;simp_all only[kH];refine⟨.inl ⟨rfl,_,bT.of FH⟩,⟨_,bT.of Jd⟩,?_⟩;refine comp_map (src_list (λH2 s2=>bT.of (s2 _ _ Jd))) (λ_ _ _ _ h=>by rw[h.1];exact aA.refl _) (by omega) (λk y H8=>∀u,(CK p)[k]?=some u->TR H (dg H8 m) (r.1++u.1,r.2.1+u.2.1,r.2.2*u.2.2) y) (λk y H8 H9 s9 h u e=>(h u e).mono (bO s9)) ?_ ?_
      ·rintro k x w0 H8 H9 Q2 hk s8 ⟨rfl,ex⟩ kq;symm;obtain⟨u,eu,c,d,rfl,hc,hd,_⟩:=ab.get ex;nofun;have Zm:=s8 _ _ (Cb _ _ hc);have Lw:=s8 _ _ (Cb _ _ hd);have QN:=s8 _ _ QM;have lu:u.1.length<=7:=by
        have hu:=aaC eu;unfold CK at hu;symm;obtain⟨f,hf,rfl⟩:=List.mem_map.mp hu;nofun;exact aaI (lj gp f hf).2 (oQ gp)
       simp_all only[nZ,Zm,Lw,QN];refine⟨by rw[aat,aat];omega,λa1 n1=>?_⟩;have s9:=ag (o:=.lst (List.map V.int r.1++List.map V.int u.1)) n1;simp only[s9 _ _ Zm];refine⟨_,rfl,_,at1,_,rfl,_,rfl,_,at2,_,rfl,gc (by omega) (by omega),by decide,λt2 H10 zQ Zn e10=>kq _ _ (s9.trans zQ) λu' Zo=>?_⟩;rw[eu] at Zo;cases Zo;have hm9:=s9 _ _ (s8 _ _ FH);refine⟨t2,a1,rfl,?_,?_,?_⟩
       ·rw[bX (λe=>by rw[e,hm9] at Zn;cases Zn),e10,Int.natCast_mul]
       ·rw[bX (λe=>by rw[e,s8 _ _ FH] at n1;cases n1),zQ _ _ ai,aaK]
       ·exact none_of (uV.trans (OF.trans (Cb.trans s8))) n1
      ·intro zs H8 s8 lz hz D n1 n2;have hm8:=s8 _ _ FH;have jm:j*cnt p+cnt p<=ki ((ps.take i).map cnt)*cnt p:=by
        rw[<-Nat.succ_mul];exact Nat.mul_le_mul_right _ (by omega)
       refine⟨_,ag n2 _ _ hm8,_,ai,by omega,?_⟩;have s9:aA H7 (upd H8 D (.lst zs)):=s8.trans (ag n2);refine⟨bS (Cb.trans s9) nm,_,ai,by rw[aay,ly,lz,lb,Nat.succ_mul],?_,_,rfl⟩;rw[lq,aaQ,er];unfold Ae;rw[List.flatMap_append];refine Al.append (ay.imp λ_ _ h=>h.mono (bO s9)) ?_;simp only[Option.toList,abm,List.flatMap_nil,aaP];refine Al.of (by rw[aat];unfold CK;rw[aat,lg];omega) λk y v e1 e2=>?_;rw[aau] at e2;symm;obtain⟨u,eu,rfl⟩:=Option.map_eq_some_iff.mp e2;nofun;exact(hz _ _ e1 u eu).mono (bO (ag n2))
     ·intro σ H6 c5;symm;obtain⟨Cb,ys,z4,z5,z6,FH,ly,ay,rfl⟩:=c5;nofun;refine hN _ _ ⟨Cb,ys,FH,?_,_,_,_,rfl⟩;rw[lx,<-nM,aaJ (aav _)] at ay;exact ay.imp λ_ _ h=>h.mono bU
    intro _ H6 c5;symm;obtain⟨Cb,ys,FH,ay,z4,z5,z6,rfl⟩:=c5;nofun;simp_all only[];rw[es];exact⟨uV.trans (OF.trans Cb),m,_,FH,ay,rfl,_,rfl⟩
   ·intro σ H2 c5;symm;obtain⟨uV,l,xs,z1,z2,z3,z4,z5,z6,hl,al,rfl⟩:=c5;nofun;rw[lv,aaJ (aav _)] at al;exact hN _ _ ⟨uV,l,xs,hl,al,_,_,_,_,_,_,rfl⟩
  intro _ H2 c5;symm;obtain⟨uV,l,xs,hl,al,z1,z2,z3,z4,z5,z6,rfl⟩:=c5;nofun;simp_all only[];exact kk _ _ _ uV hl al
theorem jX:bf ["pool","found","common","part"] ["pool"] (au (top 31)):=.mk
theorem FI (T:fj P w base K mg aH aI aF aV aq aD):iB P w K mg base (cN P w) 6 "pool_table" ["pool"] HG:=by
 have kr:=Lv T;have d7:=Ca T;have wO:=Lh T;refine T.sh.fB (λ_ _ _ _ _ _=>iG λ_=>rfl) λf fd F=>F.gR jX (λvs H Q E h=>?_) (λbZ A outer s H vs Q E hr h=>?_)
 ·obtain⟨_,rfl,_⟩:=qI h;rfl
 ·symm;obtain⟨a,rfl,ps,hp,gl,l4,kk⟩:=qI h;nofun;clear G_;have nd:=jX.nd;refine⟨_,(ao (aT (i:=1) (bI kr (aa (pv 0) af)))
  (ao (aT (i:=2) ae)
  (ao (cK PassesOwn.never rfl (bJ (K:=K) (pv 0)) (aO (i:=3) nd rfl (Or.inl rfl)) (aw (aT (i:=2) (br cW (pv 2) (bI d7 (aa (pv 3) af))))))
  (aw (aW (bI wO (aa (cY rfl (N:=["pool","found","common","part"]) (so:=au (top 31)) (N':=["faces","value","bottom","common"]) (k:=3) (fr:=[2]) rfl rfl ⟨rfl,by ac_rfl,by ac_rfl,by ac_rfl,rfl,by ac_rfl,by ac_rfl⟩ (bJ (K:=K) (pv 1)) (λ_ _ _ _ _=>(dE (K:=K) (n:=3) rfl (bD (aO (i:=0) (show(["faces","value","bottom","common"]:List Str).Nodup by ac_rfl) rfl (Or.inl rfl)) (bD (aO (i:=1) (show(["faces","value","bottom","common"]:List Str).Nodup by ac_rfl) rfl (Or.inl rfl)) (bD (aO (i:=2) (show(["faces","value","bottom","common"]:List Str).Nodup by ac_rfl) rfl (Or.inl rfl)) c9))))) (λ_ _ _ _ _=>cX)
   (λ_ _ _ _ _=>(aM (aa (pv 1) (aa (br eJ (pv 3) (pv 2)) af))))) af))))))),?_⟩
  refine(?_:let cH:TS:=_;let cI:TS:=_;let cJ:TS:=_;let eD:TS:=_;tSeq cH (tSeq cI (tSeq cJ eD)) _ _ _);intro cH cI cJ eD;have sl:=sizeLine_eq;have gm:=BG gl;symm;obtain⟨vs,ha,ap⟩:=id hp;nofun;clear G_;have lv:=ap.length;change tSeq _ _ _ _ _;refine cS (λσ' H1=>aA H H1/\∃l xs,H1 l=some (.lst xs)/\Al (TR H H1) (gX ps) xs/\σ'=[some (.ref a),some (.ref l),none,none]) (λN hN=>?_) ?_
  ·simp_all only[KR];exact⟨ps,hp,gm,l4,λl H1 xs s1 hl al=>hN _ _ ⟨s1,l,xs,hl,al,rfl⟩⟩
  intro _ H1 c5;symm;obtain⟨Aj,l,xs,hl,al,rfl⟩:=c5;nofun;clear G_;have lx:=al.length;rw[nM] at lx;change tSeq _ _ _ _ _;refine cS (λσ' H2=>H1=H2/\σ'=[some (.ref a),some (.ref l),some (.int 1),none]) (λN hN=>?_) ?_
  ·simp_all only[];exact hN _ _ ⟨rfl,rfl⟩
  rintro _ _ ⟨rfl,rfl⟩;change tSeq _ _ _ _ _;refine cS (λσ' H2=>H1=H2/\∃z,σ'=[some (.ref a),some (.ref l),some (.int (ki (ps.map bot):Int)),z]) (λN hN=>?_) ?_
  ·simp_all only[];refine⟨⟨_,bT.of (Aj _ _ ha)⟩,bY (src_list (Ok:=λH'=>H1=H') (λH' e=>by subst e;exact bT.of (Aj _ _ ha))) (λi σ H'=>H1=H'/\∃z,σ=[some (.ref a),some (.ref l),some (.int (ki ((ps.take i).map bot):Int)),z]) ⟨rfl,_,rfl⟩ (λ_ _ _ _ h=>h.1) ?_ ?_⟩
   ·intro i x σ H' sJ hi eQ eM;symm;obtain⟨rfl,z,rfl⟩:=eQ;obtain⟨rfl,ex⟩:=eM;obtain⟨p,ep,q,rfl,hq⟩:=ap.get ex;nofun;obtain⟨Ej,yO⟩:=List.getElem?_eq_some_iff.mp ep;symm;obtain⟨gp,c1,b1⟩:=mv gm (aaC ep);nofun;have b0:=mr gm i;simp_all only[uK];refine⟨p,Aj _ _ hq,gp,b1,gc (by omega) (by omega),?_,_,rfl⟩;rw[take_snoc Ej,yO,aaK,aaw,aaT,hX,Int.natCast_mul]
   ·intro σ H' c5;symm;obtain⟨rfl,z,rfl⟩:=c5;nofun;rw[lv,aaJ (aav _)];exact hN _ _ ⟨rfl,_,rfl⟩
  intro _ _ c5;symm;obtain⟨rfl,z,rfl⟩:=c5;have c0:=gm.2.1;have bW:=gm.2.2;obtain⟨up0,pln,l64,_⟩:=yh ps gl;nofun;clear G_;have dv:∀r∈gX ps,1<=r.2.2/\r.2.2<=ki (ps.map bot):=λr zP=>by
   have:=yg gm.1 ps.length (aav _) r (by rw[aaJ (aav _)];exact zP);rw[aaJ (aav _)] at this;exact this.2
  have nb:=HF gl;have rwt:D6 (ki (ps.map bot)) (gX ps)=CL ps:=rfl;generalize hW:ki (ps.map bot)=W at *;simp_all only[KE];refine⟨⟨_,bT.of hl⟩,?_⟩;refine zm (K:=K) (src_list (λH2 s2=>bT.of (s2 _ _ hl))) (λi u v b' H2=>∃r,(gX ps)[i]?=some r/\v=.int r.2.1/\b'=.int (r.2.2:Int)) ?_ (by omega)
   (λi y H2=>∀r,(gX ps)[i]?=some r->Rep H2 (mL (r.2.1,((W / r.2.2:Nat):Int))) y) (λi y H2 H3 s3 h r e=>(h r e).mono s3) ?_ ?_
  ·rintro i x H2 H3 hi s2 ⟨rfl,ex⟩;symm;obtain⟨r,er,t,q,rfl,ht,hq,nq⟩:=al.get ex;nofun;exact⟨aA.refl _,t,_,_,_,rfl,iX.of (s2 _ _ ht),r,er,rfl,rfl⟩
  ·intro i u v b' H2 Q2 hi s2 p8_ kq;symm;obtain⟨r,er,rfl,rfl⟩:=p8_;nofun;have hb:=dv r (aaC er);simp_all only[];refine⟨gD.of (n:=64) (by omega) (Bt.of 1000000 (by omega) (by omega)),by decide,λt H3 s3 nt e3=>kq _ _ s3 λr' Cd=>?_⟩;rw[er] at Cd;cases Cd;rw[<-Int.natCast_ediv] at e3;exact dW.mpr ⟨t,rfl,e3⟩
  ·intro ys H2 s2 ly hy D n1 n2;have rp:Rep (upd H2 D (.lst ys)) (ji (CL ps)) (.ref D):=by
    rw[<-rwt];refine aZ.mpr ⟨D,ys,rfl,ai,bh.of ?_ λi dd v e1 e2=>?_⟩
    ·unfold D6;rw[aat,aat,ly,lx,<-nM]
    ·unfold D6 at e1;rw[aau,aau] at e1;symm;obtain⟨p,ep,rfl⟩:=Option.map_eq_some_iff.mp e1;obtain⟨r,er,rfl⟩:=Option.map_eq_some_iff.mp ep;nofun;exact(hy i v e2 r er).mono (ag n2)
   have sD:aA H (upd H2 D (.lst ys)):=Aj.trans (s2.trans (ag n2));exact⟨CL ps,rp,pln,λx hx=>(up0 x hx).2,l64,λb=>absurd b nb,λ_ p H' s' np r'=>kk p H' (sD.trans s') (none_of sD np) r'⟩
theorem ip:bf ["several","common","one"] ["several"] (au (top 9)):=.mk
theorem Lx (T:fj P w base K mg aH aI aF aV aq aD):iB P w K mg base (cN P w) 2 "common_bottom" ["several"] K9:=by
 have fe:=FE T;refine T.m6.fB (λ_ _ _ _ _ _=>iG λ_=>rfl) λf fd F=>F.gR ip (λvs H Q E h=>?_) (λbZ A outer s H vs Q E hr h=>?_)
 ·obtain⟨_,rfl,_⟩:=CJ h;rfl
 ·symm;obtain⟨v,rfl,ps,rp,W,W0,W1,hz,good,k⟩:=CJ h;nofun;have nd:=ip.nd;refine⟨_,(ao (aT (i:=1) ae)
  (ao (cK PassesOwn.never rfl (bJ (K:=K) (pv 0)) (aO (i:=2) nd rfl (Or.inl rfl)) (aw (aT (i:=1) (br cW (br eJ (pv 1) (bI fe (aa (pv 1) (aa (aG aB (pv 2) ae) af)))) (aG aB (pv 2) ae)))))
  (aw (aW (pv 1))))),?_⟩
  refine(?_:let cH:TS:=_;let cI:TS:=_;let cJ:TS:=_;tSeq cH (tSeq cI cJ) _ _ _);intro cH cI cJ;symm;obtain⟨l,xs,rfl,hl,rl⟩:=aZ.mp rp;nofun;have len:=rl.length;rw[aat] at len;simp_all only[];refine⟨⟨_,bT.of hl⟩,bY (src_list (Ok:=λH2=>H2=H) (λH2 e=>by rw[e];exact bT.of hl)) (λi σ H2=>H2=H/\∃B z,σ=[some (.ref l),some (.int B),z]/\0<B/\(∀M,(∀p∈ps,p.2∣M)->B∣M)/\∀p∈ps.take i,p.2∣B)
   ⟨rfl,1,none,rfl,by decide,λ_ _=>Int.one_dvd _,by simp⟩ (λ_ _ _ _ h=>h.1) ?_ ?_⟩
  ·intro i x σ H2 H3 hi eQ eM;symm;obtain⟨rfl,B,z,rfl,B0,bB,dv⟩:=eQ;obtain⟨rfl,hx⟩:=eM;obtain⟨d,ed,rd⟩:=rl.get hx;nofun;symm;obtain⟨p,ep,rfl⟩:=aau ..▸ed |>Option.map_eq_some_iff.mp
   obtain⟨a,rfl,ha⟩:=dW.mp rd;obtain⟨p0,bp⟩:=good p (aaC ep);nofun;have g0:=Nm.E6 (a:=B) (show p.2≠0 by omega);have p1:p.2<=1000000:=Int.le_trans (Int.le_of_dvd W0 bp) W1;have gb:Bt 20 (Nm.g B p.2):=Bt.of 1000000 (by omega) (by have:=Nm.J0 (a:=B) p0;omega);simp_all only[HB,ha];have e:B / Nm.g B p.2*p.2=B* (p.2 / Nm.g B p.2):=Nm.qA B p.2;refine⟨gD.of g0 gb,lY (by omega) (by omega),?_,?_,?_⟩
   ·exact Int.mul_pos (Int.ediv_pos_of_pos_of_dvd B0 (Nm.P6 _ _) (Nm.rH _ _)) p0
   ·exact λM hM=>BV (bB M hM) (hM p (aaC ep))
   ·intro q hq;rw[aaQ,ep] at hq;rcases List.mem_append.mp hq with hq | hq
    ·rw[e];exact Int.dvd_trans (dv q hq) (Int.dvd_mul_right _ _)
    ·have:q=p:=by simpa using hq
     subst this;exact Int.dvd_mul_left _ _
  ·intro σ H2 c5;symm;obtain⟨rfl,B,z,rfl,B0,bB,dv⟩:=c5;nofun;simp_all only[];exact k B B0 bB (λp hp=>dv p (by rw[aaJ (by omega)];exact hp))
theorem lD:bf ["table"] ["table"] (au (top 13)):=.mk
theorem HN (T:fj P w base K mg aH aI aF aV aq aD):iB P w K mg base (cN P w) 3 "bottom_of" ["table"] Fx:=by
 have nu:=Lx T;refine T.uC.fB (λ_ _ _ _ _ _=>iG λ_=>rfl) λf fd F=>F.gR lD (λvs H Q E h=>?_) (λbZ A outer s H vs Q E hr h=>?_)
 ·obtain⟨_,rfl,_⟩:=CJ h;rfl
 ·symm;obtain⟨v,rfl,rows,rp,W,⟨W0,W1,hz,good⟩,k⟩:=CJ h;nofun;have nd:=lD.nd;refine⟨_,(aw (aW (bI nu (aa (cY rfl (N:=["table"]) (so:=au (top 13)) (N':=["value","part"]) (k:=2) (fr:=[]) rfl rfl ⟨rfl,by ac_rfl,by ac_rfl,by ac_rfl,rfl,by ac_rfl,by ac_rfl⟩ (bJ (K:=K) (pv 0)) (λ_ _ _ _ _=>(dE (K:=K) (n:=2) rfl (bD (aO (i:=0) (show(["value","part"]:List Str).Nodup by ac_rfl) rfl (Or.inl rfl)) (bD (aO (i:=1) (show(["value","part"]:List Str).Nodup by ac_rfl) rfl (Or.inl rfl)) c9)))) (λ_ _ _ _ _=>cX)
   (λ_ _ _ _ _=>(pv 1))) af)))),?_⟩
  symm;obtain⟨l,xs,rfl,hl,rl⟩:=aZ.mp rp;nofun;have len:=rl.length;rw[aat] at len;simp_all only[];refine⟨⟨_,bT.of hl⟩,?_⟩;refine qD (src_list (λH2 s2=>s2.seq (bT.of hl))) (λi a b H3=>∀r,rows[i]?=some r->Rep H3 (mL r.2) b) ?_ (by rw[sizeLine_eq];omega) (λi y H2=>∀r,rows[i]?=some r->Rep H2 (mL r.2) y) (λi y H2 H3 s3 h r e=>(h r e).mono s3) ?_ ?_
  ·rintro i x H2 H3 hi s2 ⟨rfl,hx⟩;symm;obtain⟨d,ed,rd⟩:=rl.get hx;rw[aau] at ed;obtain⟨r,er,rfl⟩:=Option.map_eq_some_iff.mp ed;obtain⟨p,q,rfl,hp,hq⟩:=kU.mp rd;nofun;refine⟨aA.refl _,p,_,_,rfl,iX.of (s2 _ _ hp),λr' Cd=>?_⟩;rw[er] at Cd;cases Cd;exact dW.mpr ⟨q,rfl,s2 _ _ hq⟩
  ·intro i a b H3 Q2 hi s3 it kq;simp_all only[];exact kq _ _ (aA.refl _) it
  ·intro ys H2 s2 ly hy D n1 n2;simp_all only[K9];have QO:Rep (upd H2 D (.lst ys)) (ji (rows.map (·.2))) (.ref D):=by
    refine aZ.mpr ⟨D,ys,rfl,ai,bh.of ?_ λi dd v e1 e2=>?_⟩
    ·rw[aat,aat,ly,len]
    ·rw[aau,aau] at e1;symm;obtain⟨p,ep,rfl⟩:=Option.map_eq_some_iff.mp e1;obtain⟨r,er,rfl⟩:=Option.map_eq_some_iff.mp ep;nofun;exact(hy i v e2 r er).mono (ag n2)
   refine⟨_,QO,W,W0,W1,by rw[aat];exact hz,λp hp=>?_,λB B0 bB dv=>?_⟩
   ·symm;obtain⟨r,zP,rfl⟩:=List.mem_map.mp hp;nofun;exact⟨(good r zP).1,(good r zP).2.1⟩
   ·refine k B _ (s2.trans (ag n2)) ⟨B0,λr zP=>dv _ (List.mem_map.mpr ⟨r,zP,rfl⟩),λM hM=>bB M λp hp=>by obtain⟨r,zP,rfl⟩:=List.mem_map.mp hp;exact hM r zP⟩
theorem o7:bf ["table","bottom"] ["table","bottom"] (au (top 14)):=.mk
theorem Ly (T:fj P w base K mg aH aI aF aV aq aD):iB P w K mg base (cN P w) 1 "weighed" ["table","bottom"] La:=by
 refine T.zB.fB (λ_ _ _ _ _ _=>gS λ_ _=>rfl) λf fd F=>F.gR o7 (λvs H Q E h=>?_) (λbZ A outer s H vs Q E hr h=>?_)
 ·obtain⟨_,_,rfl,_⟩:=Ky h;rfl
 ·symm;obtain⟨v,B,rfl,rows,rp,W,gr,gb,k⟩:=Ky h;have b1:=HK gr gb;obtain⟨W0,W1,hz,good⟩:=id gr;obtain⟨B0,dv,bB⟩:=gb;nofun;have nd:=o7.nd;refine⟨_,(aw (aW (cY rfl (N:=["table","bottom"]) (so:=au (top 14)) (N':=["value","part","bottom"]) (k:=2) (fr:=[1]) rfl rfl ⟨rfl,by ac_rfl,by ac_rfl,by ac_rfl,rfl,by ac_rfl,by ac_rfl⟩ (bJ (K:=K) (pv 0)) (λ_ _ _ _ _=>(dE (K:=K) (n:=2) rfl (bD (aO (i:=0) (show(["value","part","bottom"]:List Str).Nodup by ac_rfl) rfl (Or.inl rfl)) (bD (aO (i:=1) (show(["value","part","bottom"]:List Str).Nodup by ac_rfl) rfl (Or.inl rfl)) c9)))) (λ_ _ _ _ _=>cX)
   (λ_ _ _ _ _=>(aM (aa (pv 0) (aa (br cW (aG aB (pv 1) ae) (br eJ (pv 2) (aG aB (pv 1) ae))) af))))))),?_⟩
  symm;obtain⟨l,xs,rfl,hl,rl⟩:=aZ.mp rp;nofun;have len:=rl.length;rw[aat] at len;simp_all only[];refine⟨⟨_,bT.of hl⟩,?_⟩;refine qD (src_list (λH2 s2=>s2.seq (bT.of hl))) (λi a b H3=>∃r,rows[i]?=some r/\a=.int r.1/\Rep H3 (mL r.2) b) ?_ (by rw[sizeLine_eq];omega) (λi y H2=>∀r,rows[i]?=some r->Rep H2 (mL (r.1,r.2.1* (B / r.2.2))) y) (λi y H2 H3 s3 h r e=>(h r e).mono s3) ?_ ?_
  ·rintro i x H2 H3 hi s2 ⟨rfl,hx⟩;symm;obtain⟨d,ed,rd⟩:=rl.get hx;rw[aau] at ed;obtain⟨r,er,rfl⟩:=Option.map_eq_some_iff.mp ed;obtain⟨p,q,rfl,hp,hq⟩:=kU.mp rd;nofun;exact⟨aA.refl _,p,_,_,rfl,iX.of (s2 _ _ hp),r,er,rfl,dW.mpr ⟨q,rfl,s2 _ _ hq⟩⟩
  ·intro i a b H3 Q2 hi s3 eM kq;symm;obtain⟨r,er,rfl,rb⟩:=eM;obtain⟨q,rfl,hq⟩:=dW.mp rb;obtain⟨g3,g2,g0,g1⟩:=good r (aaC er);nofun;have r1:r.2.2<=1000000:=Int.le_trans (Int.le_of_dvd W0 g2) W1;simp_all only[hq];refine⟨gD.of (n:=20) g3 (Bt.of 1000000 (by omega) (by omega)),gc (by omega) (by omega),by decide,λp4 H4 s4 _ e4=>kq _ _ s4 λr' Cd=>?_⟩;rw[er] at Cd;cases Cd;exact dW.mpr ⟨p4,rfl,e4⟩
  ·intro ys H2 s2 ly hy D n1 n2;refine k _ _ (s2.trans (ag n2)) n1 (aZ.mpr ⟨D,ys,rfl,ai,bh.of ?_ λi dd v e1 e2=>?_⟩)
   ·rw[aat,ly];unfold Nm.weigh;rw[aat,len]
   ·unfold Nm.weigh at e1;rw[aau,aau] at e1;symm;obtain⟨p,ep,rfl⟩:=Option.map_eq_some_iff.mp e1;obtain⟨r,er,rfl⟩:=Option.map_eq_some_iff.mp ep;nofun;exact(hy i v e2 r er).mono (ag n2)
theorem mT:bf ["rows"] ["rows"] (au (top 34)):=.mk
theorem Lz (T:fj P w base K mg aH aI aF aV aq aD):iB P w K mg base (cN P w) 1 "own_rows" ["rows"] zI:=by
 refine T.wD.fB (λ_ _ _ _ _ _=>iG λ_=>rfl) λf fd F=>F.gR mT (λvs H Q E h=>?_) (λbZ A outer s H vs Q E hr h=>?_)
 ·obtain⟨_,rfl,_⟩:=CJ h;rfl
 ·symm;obtain⟨v,rfl,rs,rp,lr,ll,kk⟩:=CJ h;nofun;have nd:=mT.nd;refine⟨_,(aw (aW (cY rfl (N:=["rows"]) (so:=au (top 34)) (N':=["row"]) (k:=1) (fr:=[]) rfl rfl ⟨rfl,by ac_rfl,by ac_rfl,by ac_rfl,rfl,by ac_rfl,by ac_rfl⟩ (bJ (K:=K) (pv 0)) (λ_ _ _ _ _=>(aO (i:=0) (show(["row"]:List Str).Nodup by ac_rfl) rfl (Or.inl rfl))) (λ_ _ _ _ _=>cX)
   (λ_ _ _ _ _=>(aM (aa (aG aB (pv 0) ae) (aa (aG aB (pv 0) ae) (aa (fX (dU (K:=K)) (by rfl) T.z_list rfl (aa (aG aB (pv 0) ae) af) (he:=se rfl) (hpl:=na rfl)) (aa (aG aB (pv 0) ae) af))))))))),?_⟩
  have sl:=sizeLine_eq;symm;obtain⟨l,xs,rfl,hl,rl⟩:=aZ.mp rp;nofun;have len:=rl.length;rw[aat] at len;simp_all only[];refine⟨⟨_,bT.of hl⟩,?_⟩;refine comp_map (src_list (K:=K) (λH' s'=>bT.of (s' _ _ hl))) (λ_ _ _ _ h=>by rw[h.1];exact aA.refl _) (by omega) (λi y H4=>∀r,rs[i]?=some r->Rep H4 (nh r) y) (λi y H4 H5 s5 h r e=>(h r e).mono s5) ?_ ?_
  ·rintro i x w0 H4 H5 Q2 hi s4 ⟨rfl,ex⟩ kq;symm;obtain⟨d,ed,rd⟩:=rl.get ex;rw[aau] at ed;obtain⟨r,er,rfl⟩:=Option.map_eq_some_iff.mp ed;obtain⟨p,a,b,c,d,rfl,hp,ra,rb,rc,QP⟩:=dw.mp (rd.mono s4);obtain⟨c',Zp,rfl,hc,yB⟩:=aZ.mp rc;nofun;simp_all only[hp];refine⟨_,.inl (bT.of hc),λm nm=>⟨_,ag nm _ _ hp,_,rfl,by decide,λt H6 s6 nt e6=>kq _ _ ((ag nm).trans s6) λr' Cd=>?_⟩⟩;rw[er] at Cd;cases Cd;have sm:=(ag (o:=.lst Zp) nm).trans s6;exact dw.mpr ⟨t,_,_,_,_,rfl,e6,ra.mono sm,rb.mono sm,aZ.mpr ⟨m,Zp,rfl,s6 _ _ ai,yB.mono sm⟩,QP.mono sm⟩
  ·intro ys H5 s5 ly hy D n1 n2;refine kk D _ (s5.trans (ag n2)) (aZ.mpr ⟨D,ys,rfl,ai,bh.of (by rw[aat];omega) λi dd u e1 e2=>?_⟩);rw[aau] at e1;symm;obtain⟨r,er,rfl⟩:=Option.map_eq_some_iff.mp e1;nofun;exact(hy i u e2 r er).mono (ag n2)
theorem mU:bf ["what"] ["what"] (au (top 35)):=.mk
theorem LA (T:fj P w base K mg aH aI aF aV aq aD):iB P w K mg base (cN P w) 2 "own_what" ["what"] KW:=by
 have o8:=Lz T;refine T.wF.fB (λ_ _ _ _ _ _=>iG λ_=>rfl) λf fd F=>F.gR mU (λvs H Q E h=>?_) (λbZ A outer s H vs Q E hr h=>?_)
 ·obtain⟨_,rfl,_⟩:=CJ h;rfl
 ·symm;obtain⟨v,rfl,x,rp,cs,gd,kk⟩:=CJ h;nofun;have nd:=mU.nd;refine⟨_,(ao (bP (aP cw (aG aB (pv 0) ae) aL (aX _)) (aw (aW (aM (aa aL (aa (fX (dU (K:=K)) (by rfl) T.z_list rfl (aa (aG aB (pv 0) ae) af) (he:=se rfl) (hpl:=na rfl)) (aa (aG aB (pv 0) ae) (aa (bI o8 (aa (aG aB (pv 0) ae) af)) af)))))))
   bw)
  (ao (bP (aP cw (aG aB (pv 0) ae) aL (aX _)) (aw (aW (aM (aa aL (aa (aG aB (pv 0) ae) (aa (bI o8 (aa (aG aB (pv 0) ae) af)) af))))))
   bw)
  (aw (aW (pv 0))))),?_⟩
  refine(?_:let cH:TS:=_;let cI:TS:=_;let cJ:TS:=_;tSeq cH (tSeq cI cJ) _ _ _);intro cH cI cJ;have sl:=sizeLine_eq;cases x with
  | ask c k a b=>
   symm;obtain⟨p,x1,x2,x3,x4,x5,rfl,hp,r1,r2,r3,r4,r5⟩:=wI.mp (show Rep H (.tup _) v from rp);rw[aK] at r1;subst r1;nofun;simp_all only[zI,hp];rw[if_neg (by ac_rfl),if_neg (by ac_rfl)];exact kk _ _ (aA.refl _) rp
  | fin t b=>
   symm;obtain⟨p,x1,x2,rfl,hp,r1,r2⟩:=bA.mp (show Rep H (.tup _) v from rp);rw[aK] at r1;subst r1;nofun;simp_all only[zI,hp];rw[if_neg (by ac_rfl),if_neg (by ac_rfl)];exact kk _ _ (aA.refl _) rp
  | score c=>
   symm;obtain⟨p,x1,x2,rfl,hp,r1,r2⟩:=bA.mp (show Rep H (.tup _) v from rp);rw[aK] at r1;subst r1;nofun;simp_all only[zI,hp];rw[if_neg (by ac_rfl),if_neg (by ac_rfl)];exact kk _ _ (aA.refl _) rp
  | pick w rs=>
   symm;obtain⟨p,x1,x2,x3,rfl,hp,r1,r2,r3⟩:=cV.mp (show Rep H (.tup _) v from rp);rw[aK] at r1;subst r1;nofun;simp_all only[zI,hp];rw[if_neg (by ac_rfl)];obtain⟨g1,g2⟩:=gd;refine⟨_,r3,by rw[aat];exact g1,λr zP=>?_,λm H1 s1 rm=>⟨by decide,λt H2 s2 nt e2=>kk _ _ (s1.trans s2) ?_⟩⟩
   ·symm;obtain⟨r0,h0,rfl⟩:=List.mem_map.mp zP;nofun;show(r0.ds.map Ag).length<=100;rw[aat];exact(g2 r0 h0).1
   ·exact cV.mpr ⟨t,_,_,_,rfl,e2,aK.mpr rfl,r2.mono (s1.trans s2),rm.mono s2⟩
  | gX jl t b rs=>
   symm;obtain⟨p,x1,x2,x3,x4,rfl,hp,r1,r2,r3,r4⟩:=dw.mp (show Rep H (.tup _) v from rp);rw[aK] at r1;subst r1;nofun;simp_all only[zI,hp];symm;obtain⟨g1,g2,g3⟩:=gd;obtain⟨l2,LB,rfl,Ac,rl2⟩:=aZ.mp r2;nofun;refine⟨_,rfl,_,.inl (bT.of Ac),λm nm=>?_⟩;have sm:=ag (o:=.lst LB) nm;refine⟨_,sm _ _ hp,_,rfl,_,sm _ _ hp,_,rfl,_,r4.mono sm,by rw[aat];exact g2,λr zP=>?_,λn H1 s1 rn=>⟨by decide,λt H2 s2 nt e2=>kk _ _ (sm.trans (s1.trans s2)) ?_⟩⟩
   ·symm;obtain⟨r0,h0,rfl⟩:=List.mem_map.mp zP;nofun;show(r0.2.2.1.map Ag).length<=100;rw[aat];exact(g3 r0 h0).1
   ·have LC:=sm.trans (s1.trans s2);exact dw.mpr ⟨t,_,_,_,_,rfl,e2,aK.mpr rfl,aZ.mpr ⟨m,LB,rfl,s2 _ _ (s1 _ _ ai),rl2.mono LC⟩,r3.mono LC,rn.mono s2⟩
theorem jY:bf ["self","counts","spot","number"] ["self","counts","spot","number"] (au (inClass (top 36) 1)):=.mk
theorem HP (T:fj P w base K mg aH aI aF aV aq aD):fL P w K mg base (cN P w) 1 aq "put" ["self","counts","spot","number"] (uM aq):=by
 refine T.qa.fB (λ_ _ _ _ _ _=>uI λ_ _ _ _=>rfl) λf fd F=>F.gR jY (λvs H Q E h=>?_) (λbZ A outer s H vs Q E hr h=>?_)
 ·obtain⟨_,_,_,_,rfl,_⟩:=h;rfl
 ·symm;obtain⟨c,l,i,k,rfl,g,⟨dx,sp,mo,wh,tb,us,ft,h1,h2,h3,h4,h5,h6⟩,ns,hl,il,ln,kk⟩:=h;nofun;have nd:=jY.nd;refine⟨_,(aw (fE (bg (jv rfl) (by rfl) T.z_min rfl (aa (pv 3) (aa (aG bx (cA (pv 0) rfl) (pv 2)) af))) (gO (pv 1) (pv 2) set_list))),?_⟩;have h1:=bU _ _ h1;have h3:=bU _ _ h3;simp_all only[eG];refine⟨_,_,_,h1,T.aQ,T.na_Course_mosts,_,Fu,_,rfl,_,h3,_,Ea il,_,rfl,_,hl,_,yn (by rw[aat];omega),?_⟩;rw[<-List.map_set];have e:(if most g.cs i<k then most g.cs i else k)=min k (most g.cs i):=by omega
  rw[e];exact kk
theorem lE:bf ["self","counts","deed","value","spot","other"] ["self","counts","deed","value"] (au (inClass (top 36) 2)):=.mk
theorem LD (T:fj P w base K mg aH aI aF aV aq aD):fL P w K mg base (cN P w) 2 aq "do" ["self","counts","deed","value"] (KY aq):=by
 have fV:=HP T;refine T.su.fB (λ_ _ _ _ _ _=>uI λ_ _ _ _=>rfl) λf fd F=>F.gR lE (λvs H Q E h=>?_) (λbZ A outer s H vs Q E hr h=>?_)
 ·obtain⟨_,_,_,_,rfl,_⟩:=Bs h;rfl
 ·symm;obtain⟨c,l,dv,v,rfl,g,co,ns,hl,d,rd,gd,ln,kk⟩:=Bs h;nofun;have nd:=lE.nd;refine⟨_,(ao (aT (i:=4) (fg (fk hr) (cA (pv 0) rfl) (aG aB (pv 2) ae) (λ_ _=>rfl)))
  (aw (bP (aP cw (aG aB (pv 2) ae) aL (aX _)) (aw (cg (dF fV T.aQ (pv 0) (aa (pv 1) (aa (pv 4) (aa (aG aB (pv 2) ae) af))))))
   (aw (bP (aP cw (aG aB (pv 2) ae) aL (aX _)) (aw (cg (dF fV T.aQ (pv 0) (aa (pv 1) (aa (pv 4) (aa (br cC (aG bx (pv 1) (pv 4)) (aG aB (pv 2) ae)) af))))))
   (aw (bP (aP cw (aG aB (pv 2) ae) aL (aX _)) (aw (cg (dF fV T.aQ (pv 0) (aa (pv 1) (aa (pv 4) (aa (br cC (aG bx (pv 1) (pv 4)) (pv 3)) af))))))
   (ao (aT (i:=5) (fg (fk hr) (cA (pv 0) rfl) (aG aB (pv 2) ae) (λ_ _=>rfl)))
  (ao (cg (dF fV T.aQ (pv 0) (aa (pv 1) (aa (pv 5) (aa (br cC (aG bx (pv 1) (pv 5)) (aG bx (pv 1) (pv 4))) af)))))
  (aw (fE ae (gO (pv 1) (pv 4) set_list)))))))))))),?_⟩
  symm;obtain⟨dx,sp,mo,wh,tb,us,ft,h1,h2,h3,h4,h5,h6⟩:=id co;nofun;have h1:=bU _ _ h1;have h2:=bU _ _ h2;have lp:∀{a b c d e:V},List.lookup (Str.ofString "put") [(Str.ofString "spots",a),(Str.ofString "mosts",b),(Str.ofString "first",c),(Str.ofString "whats",d),(Str.ofString "tables",e)]=none:=eC (by ac_rfl) (by ac_rfl) (by ac_rfl) (by ac_rfl) (by ac_rfl);cases d with
  | set n k=>
   symm;obtain⟨p,x1,x2,x3,rfl,hp,r1,r2,r3⟩:=cV.mp (show Rep (dg H l) (.tup _) dv from rd);rw[aK] at r1 r2;rw[aN] at r3;subst r1 r2 r3;nofun;have hp:=bU _ _ hp;have sl:=cZ (cs:=g.cs) gd;change tSeq _ _ _ _ _;refine cS (λσ' H'=>H=H'/\σ'=[some (.ref c),some (.ref l),some (.ref p),some (.int v),some (.int ((du g.cs n:Nat):Int)),none]) (λN hN=>by simp_all only[eG,hp];exact⟨_,_,_,h1,T.aQ,T.na_Course_spots,_,jP,_,rfl,_,iJ h2 gd,hN _ _ ⟨rfl,rfl⟩⟩) ?_;rintro _ _ ⟨rfl,rfl⟩;refine fG (λY N k=>by simp_all only[hp];first | exact k | (rw[if_pos (by ac_rfl)];exact k)) ?_;simp_all only[eG,c7,uM,hp];exact⟨_,_,h1,lp,_,rfl,_,co,_,hl,sl,ln,kk⟩
  | plus n k=>
   symm;obtain⟨p,x1,x2,x3,rfl,hp,r1,r2,r3⟩:=cV.mp (show Rep (dg H l) (.tup _) dv from rd);rw[aK] at r1 r2;rw[aN] at r3;subst r1 r2 r3;nofun;have hp:=bU _ _ hp;have sl:=cZ (cs:=g.cs) gd;change tSeq _ _ _ _ _;refine cS (λσ' H'=>H=H'/\σ'=[some (.ref c),some (.ref l),some (.ref p),some (.int v),some (.int ((du g.cs n:Nat):Int)),none]) (λN hN=>by simp_all only[eG,hp];exact⟨_,_,_,h1,T.aQ,T.na_Course_spots,_,jP,_,rfl,_,iJ h2 gd,hN _ _ ⟨rfl,rfl⟩⟩) ?_;rintro _ _ ⟨rfl,rfl⟩;refine dZ (λY N k=>by simp_all only[hp];first | exact k | (rw[if_neg (by ac_rfl)];exact k)) (fG (λY N k=>by simp_all only[hp];first | exact k | (rw[if_pos (by ac_rfl)];exact k)) ?_);simp_all only[eG,c7,uM,hp];exact⟨_,_,h1,lp,_,hl,_,gJ (by omega),_,rfl,_,rfl,_,co,_,hl,sl,ln,kk⟩
  | face n=>
   symm;obtain⟨p,x1,x2,rfl,hp,r1,r2⟩:=bA.mp (show Rep (dg H l) (.tup _) dv from rd);rw[aK] at r1 r2;subst r1 r2;nofun;have hp:=bU _ _ hp;have sl:=cZ (cs:=g.cs) gd;change tSeq _ _ _ _ _;refine cS (λσ' H'=>H=H'/\σ'=[some (.ref c),some (.ref l),some (.ref p),some (.int v),some (.int ((du g.cs n:Nat):Int)),none]) (λN hN=>by simp_all only[eG,hp];exact⟨_,_,_,h1,T.aQ,T.na_Course_spots,_,jP,_,rfl,_,iJ h2 gd,hN _ _ ⟨rfl,rfl⟩⟩) ?_;rintro _ _ ⟨rfl,rfl⟩;refine dZ (λY N k=>by simp_all only[hp];first | exact k | (rw[if_neg (by ac_rfl)];exact k)) (dZ (λY N k=>by simp_all only[hp];first | exact k | (rw[if_neg (by ac_rfl)];exact k)) (fG (λY N k=>by simp_all only[hp];first | exact k | (rw[if_pos (by ac_rfl)];exact k)) ?_));simp_all only[eG,c7,uM,hp];exact⟨_,_,h1,lp,_,hl,_,gJ (by omega),_,rfl,_,rfl,_,co,_,hl,sl,ln,kk⟩
  | move n m=>
   symm;obtain⟨p,x1,x2,x3,rfl,hp,r1,r2,r3⟩:=cV.mp (show Rep (dg H l) (.tup _) dv from rd);rw[aK] at r1 r2 r3;subst r1 r2 r3;nofun;have hp:=bU _ _ hp;have sl:=cZ (cs:=g.cs) gd.1;have Ad:=cZ (cs:=g.cs) gd.2;change tSeq _ _ _ _ _;refine cS (λσ' H'=>H=H'/\σ'=[some (.ref c),some (.ref l),some (.ref p),some (.int v),some (.int ((du g.cs n:Nat):Int)),none]) (λN hN=>by simp_all only[eG,hp];exact⟨_,_,_,h1,T.aQ,T.na_Course_spots,_,jP,_,rfl,_,iJ h2 gd.1,hN _ _ ⟨rfl,rfl⟩⟩) ?_;rintro _ _ ⟨rfl,rfl⟩;refine dZ (λY N k=>by simp_all only[hp];first | exact k | (rw[if_neg (by ac_rfl)];exact k)) (dZ (λY N k=>by simp_all only[hp];first | exact k | (rw[if_neg (by ac_rfl)];exact k)) (dZ (λY N k=>by simp_all only[hp];first | exact k | (rw[if_neg (by ac_rfl)];exact k)) ?_));simp_all only[eG,c7,uM,hp];refine⟨_,_,_,h1,T.aQ,T.na_Course_spots,_,jP,_,rfl,_,iJ h2 gd.2,_,_,h1,lp,_,rfl,_,hl,_,gJ (by omega),_,hl,_,gJ (by omega),_,rfl,_,rfl,_,rfl,_,co,_,hl,Ad,ln,_,ai,_,yn (by rw[aat,hZ];omega),?_⟩;rw[xp,<-List.map_set];exact kk
theorem iP:bf ["self","name","counts","what"] ["self","name","counts"] (au (inClass (top 36) 3)):=.mk
theorem Ce (T:fj P w base K mg aH aI aF aV aq aD):fL P w K mg base (cN P w) 1 aq "asked" ["self","name","counts"] (BH aq):=by
 refine T.m8.fB (λ_ _ _ _ _ _=>uH λ_ _ _=>rfl) λf fd F=>F.gR iP (λvs H Q E h=>?_) (λbZ A outer s H vs Q E hr h=>?_)
 ·obtain⟨_,_,_,rfl,_⟩:=Fm h;rfl
 ·symm;obtain⟨c,nm,l,rfl,g,co,gg,ns,hl,ln,fu,gW,ak,kk⟩:=Fm h;nofun;clear G_;have nd:=iP.nd;refine⟨_,(ao (aT (i:=3) (fg (fk hr) (cA (pv 0) rfl) (pv 1) (λ_ _=>rfl)))
  (ao (jb PassesOwn.never (aP cw (aG aB (pv 3) ae) aL (aX _)) (ao (aT (i:=1) (kz (aP xw (aG bx (pv 2) (fg (fk hr) (cA (pv 0) rfl) (aG aB (pv 3) ae) (λ_ _=>rfl))) (aG aB (pv 3) ae) (aX _)) (aG aB (pv 3) ae) (aG aB (pv 3) ae)))
  (aw (aT (i:=3) (fg (fk hr) (cA (pv 0) rfl) (pv 1) (λ_ _=>rfl))))))
  (aw (aW (aM (aa (pv 1) (aa (pv 2) af))))))),?_⟩
  refine(?_:let cH:TS:=_;let cI:TS:=_;let cJ:TS:=_;tSeq cH (tSeq cI cJ) _ _ _);intro cH cI cJ;symm;obtain⟨dx,sp,mo,wh,tb,us,ft,h1,h2,h3,h4,h5,h6⟩:=id co;nofun;clear G_;simp_all only[eG];cases fu with
  | zero=>cases ak
  | succ fu=>
   rcases h5.val (n:=nm) with ⟨x,u,lk,vl,rx⟩ | ⟨lk,vl⟩
   ·refine⟨_,_,_,h1,T.aQ,T.na_Course_whats,_,ym,_,rfl,_,.inl ⟨_,Sum.inr nm,.inl h4,rfl,vl.symm⟩,?_⟩;refine yo (λm σ H'=>H=H'/\∃nm x u,gU g ns (m+1) nm=some gW/\look g.ps nm=some x/\Rep H (yj x) u/\σ=[some (V.ref c),some (V.str nm),some (V.ref l),some u]) (m:=fu) ⟨rfl,nm,x,u,ak,lk,rx,rfl⟩ ?_;clear ak lk rx vl;intro m σ H' Ek;symm;obtain⟨rfl,nm,x,u,ak,lk,rx,rfl⟩:=Ek;nofun;have gx:=gg.wt _ (fo lk);rw[gU,lk] at ak;have fin:∀{p:Addr} {xs:List V} {y:Str},u=.ref p->H p=some (.tup (.str y::xs))->y≠Str.ofString "ask"->nm=gW->∃b:Bool,(∀Q:Bool->Hp->Prop,Q b H->tTest (tOp rEq (tOp rIxTH (tVar 3) (tC (V.int 0))) (tC (V.str (Str.ofString "ask")))) [some (V.ref c),some (V.str nm),some (V.ref l),some u] H Q)/\b=false:=by
     intro p xs y e hp ny _;refine⟨false,λQ q=>?_,rfl⟩;subst e;simp_all only[hp];rw[decide_eq_false ny];exact q
    cases x with
    | ask c' k a b=>
     symm;obtain⟨p,x1,x2,x3,x4,x5,rfl,hp,r1,r2,r3,r4,r5⟩:=wI.mp (show Rep H (.tup _) u from rx);rw[aK] at r1 r2 r4 r5;rw[aN] at r3;subst r1 r2 r3 r4 r5;nofun;refine⟨true,λQ q=>?_,?_⟩
     ·simp_all only[hp];rw[decide_eq_true trivial];exact q
     ·rw[if_pos rfl];have hs:=cZ (cs:=g.cs) gx;have step:∀y,gU g ns m y=some gW->∃m' x u,m'<m/\gU g ns (m'+1) y=some gW/\look g.ps y=some x/\Rep H (yj x) u/\kI H wh (.str y) (some u):=by
       intro y hy;cases m with
       | zero=>cases hy
       | succ m'=>
        rcases h5.val (n:=y) with ⟨x,u,vz,vl,rx'⟩ | ⟨vz,vl⟩
        ·exact⟨m',x,u,aaR _,hy,vz,rx',.inl ⟨_,Sum.inr y,.inl h4,rfl,vl.symm⟩⟩
        ·rw[gU,vz] at hy;cases hy
      have ak:(if k<=ns.getD (du g.cs c') 0 then gU g ns m a else gU g ns m b)=some gW:=ak;simp_all only[eG,hp];refine⟨_,_,_,h1,T.aQ,T.na_Course_spots,_,jP,_,rfl,_,iJ h2 gx,_,rfl,_,hl,_,gJ (by omega),_,rfl,jF (λc1=>?_) (λc1=>?_)⟩
      ·rw[if_pos c1] at ak;symm;obtain⟨m',x,u,l1,l2,l3,l4,l5⟩:=step a ak;nofun;refine⟨_,rfl,_,_,_,h1,T.aQ,T.na_Course_whats,_,ym,_,rfl,_,l5,?_⟩;exact⟨m',l1,a,l2,x,l3,u,l4,rfl,rfl⟩
      ·rw[if_neg c1] at ak;symm;obtain⟨m',x,u,l1,l2,l3,l4,l5⟩:=step b ak;nofun;refine⟨_,rfl,_,_,_,h1,T.aQ,T.na_Course_whats,_,ym,_,rfl,_,l5,?_⟩;exact⟨m',l1,b,l2,x,l3,u,l4,rfl,rfl⟩
    | fin t b=>
     symm;obtain⟨p,x1,x2,rfl,hp,r1,r2⟩:=bA.mp (show Rep H (.tup _) u from rx);rw[aK] at r1;subst r1;have e:nm=gW:=by injection ak
     obtain⟨b',k1,rfl⟩:=fin rfl hp (by ac_rfl) e;nofun;refine⟨false,k1,?_⟩;rw[if_neg (by decide)];simp_all only[];exact⟨by decide,λp H2 s2 np e2=>kk p H2 s2 np (by rw[<-e];exact e2)⟩
    | score c'=>
     symm;obtain⟨p,x1,x2,rfl,hp,r1,r2⟩:=bA.mp (show Rep H (.tup _) u from rx);rw[aK] at r1;subst r1;have e:nm=gW:=by injection ak
     obtain⟨b',k1,rfl⟩:=fin rfl hp (by ac_rfl) e;nofun;refine⟨false,k1,?_⟩;rw[if_neg (by decide)];simp_all only[];exact⟨by decide,λp H2 s2 np e2=>kk p H2 s2 np (by rw[<-e];exact e2)⟩
    | pick w' rs=>
     symm;obtain⟨p,x1,x2,x3,rfl,hp,r1,r2,r3⟩:=cV.mp (show Rep H (.tup _) u from rx);rw[aK] at r1;subst r1;have e:nm=gW:=by injection ak
     obtain⟨b',k1,rfl⟩:=fin rfl hp (by ac_rfl) e;nofun;refine⟨false,k1,?_⟩;rw[if_neg (by decide)];simp_all only[];exact⟨by decide,λp H2 s2 np e2=>kk p H2 s2 np (by rw[<-e];exact e2)⟩
    | gX jl t b rs=>
     symm;obtain⟨p,x1,x2,x3,x4,rfl,hp,r1,r2,r3,r4⟩:=dw.mp (show Rep H (.tup _) u from rx);rw[aK] at r1;subst r1;have e:nm=gW:=by injection ak
     obtain⟨b',k1,rfl⟩:=fin rfl hp (by ac_rfl) e;nofun;refine⟨false,k1,?_⟩;rw[if_neg (by decide)];simp_all only[];exact⟨by decide,λp H2 s2 np e2=>kk p H2 s2 np (by rw[<-e];exact e2)⟩
   ·rw[gU,lk] at ak;cases ak
theorem iQ:bf ["self","when","counts","number"] ["self","when","counts"] (au (inClass (top 36) 9)):=.mk
theorem HQ (T:fj P w base K mg aH aI aF aV aq aD):fL P w K mg base (cN P w) 1 aq "holds" ["self","when","counts"] (Ft aq):=by
 refine T.m9.fB (λ_ _ _ _ _ _=>uH λ_ _ _=>rfl) λf fd F=>F.gR iQ (λvs H Q E h=>?_) (λbZ A outer s H vs Q E hr h=>?_)
 ·obtain⟨_,_,_,rfl,_⟩:=Fo h;rfl
 ·symm;obtain⟨c,v,l,rfl,g,co,ns,wh',rv,hl,ln,kk⟩:=Fo h;nofun;have nd:=iQ.nd;refine⟨_,(ao (bP (aP GA (pv 1) Ar (aX _)) (aw (aW i9))
   bw)
  (ao (bP (vB (qy (fk hr) (aG aB (pv 1) ae) (cA (pv 0) rfl))) (aw (aW i9))
   bw)
  (ao (aT (i:=3) (aG bx (pv 2) (fg (fk hr) (cA (pv 0) rfl) (aG aB (pv 1) ae) (λ_ _=>rfl))))
  (aw (aW (kz (aP cw (aG aB (pv 1) ae) aL (aX _)) (iy xw (pv 3) (aG aB (pv 1) ae) (aX _)) (iy mC (pv 3) (aG aB (pv 1) ae) (aX _)))))))),?_⟩
  refine(?_:let cH:TS:=_;let cI:TS:=_;let cJ:TS:=_;let eD:TS:=_;tSeq cH (tSeq cI (tSeq cJ eD)) _ _ _);intro cH cI cJ eD;symm;obtain⟨dx,sp,mo,wh,tb,us,ft,h1,h2,h3,h4,h5,h6⟩:=id co;nofun;cases wh' with
  | none=>
   have e:v=.dP:=by rw[OB,Rep] at rv;exact rv
   subst e;simp_all only[];exact kk
  | some x=>
   symm;obtain⟨a,b,k⟩:=x;obtain⟨p,x1,x2,x3,rfl,hp,r1,r2,r3⟩:=cV.mp (show Rep H (.tup _) v from rv);rw[aK] at r1 r2;rw[aN] at r3;subst r1 r2 r3;nofun;simp_all only[eG,hp];rw[if_neg (by intro z;cases z)]
   by_cases hn:a∈g.cs.map (·.1)
   ·have hs:=cZ hn;refine⟨_,_,_,h1,T.aQ,T.na_Course_spots,_,jP,_,rfl,_,iJ h2 hn,?_⟩;rw[if_neg (by simp)];refine⟨_,_,_,h1,T.aQ,T.na_Course_spots,_,jP,_,rfl,_,iJ h2 hn,_,rfl,_,hl,_,gJ (by omega),?_⟩;have kk:Q (.bl (if a∈g.cs.map (·.1) then (if b=Str.ofString "from" then decide (k<=ns.getD (du g.cs a) 0) else decide (ns.getD (du g.cs a) 0<k)) else false)) H:=kk;rw[if_pos hn] at kk
    by_cases c1:b=Str.ofString "from"
    ·rw[if_pos c1] at kk ⊢;exact⟨_,rfl,kk⟩
    ·rw[if_neg c1] at kk ⊢;exact⟨_,rfl,kk⟩
   ·refine⟨_,_,_,h1,T.aQ,T.na_Course_spots,_,jP,_,rfl,_,.inl ⟨_,Sum.inr a,.inl h2,rfl,rfl⟩,?_⟩;rw[oU hn,if_pos (by rfl)];have kk:Q (.bl (if a∈g.cs.map (·.1) then (if b=Str.ofString "from" then decide (k<=ns.getD (du g.cs a) 0) else decide (ns.getD (du g.cs a) 0<k)) else false)) H:=kk;rw[if_neg hn] at kk;exact kk
theorem iR:bf ["self"] ["self"] (au (inClass (top 36) 4)):=.mk
theorem HR (T:fj P w base K mg aH aI aF aV aq aD):fL P w K mg base (cN P w) 2 aq "start" ["self"] (Fs aq):=by
 have gi:=Ce T;refine T.ng.fB (λ_ _ _ _ _ _=>iG λ_=>rfl) λf fd F=>F.gR iR (λvs H Q E h=>?_) (λbZ A outer s H vs Q E hr h=>?_)
 ·obtain⟨_,rfl,_⟩:=qI h;rfl
 ·symm;obtain⟨c,rfl,g,co,gg,fu,ft,hf,gW,ak,kk⟩:=qI h;nofun;have nd:=iR.nd;refine⟨_,(aw (aW (dF gi T.aQ (pv 0) (aa (cA (pv 0) rfl) (aa (br vW (bu (aa ae af)) (bg bM (by rfl) T.z_len aaH (aa (cA (pv 0) rfl) af))) af))))),?_⟩;have sl:=sizeLine_eq;have lc:=gg.lc;symm;obtain⟨dx,sp,mo,wh,tb,us,Cf,h1,h2,h3,h4,h5,h6⟩:=id co;nofun;rw[h6] at hf;cases hf;have lp:∀{a b c d e:V},List.lookup (Str.ofString "asked") [(Str.ofString "spots",a),(Str.ofString "mosts",b),(Str.ofString "first",c),(Str.ofString "whats",d),(Str.ofString "tables",e)]=none:=eC (by ac_rfl) (by ac_rfl) (by ac_rfl) (by ac_rfl) (by ac_rfl);simp_all only[eG,c7,BH,Dq];refine⟨_,_,h1,lp,_,_,_,h1,T.aQ,T.na_Course_first,_,KZ,by decide,λp np=>?_⟩;have OG:=ag (o:=.lst [V.int 0]) np;refine⟨_,_,_,OG _ _ h1,T.aQ,T.na_Course_mosts,_,Fu,_,rfl,_,OG _ _ h3,_,ai,by simp only[aat];omega,by simp only[aat];omega,by simp only[aat,aaF,abe];omega,λl nl=>?_⟩;have el:(List.replicate (((List.map V.int (List.map (λx=>x.snd) g.cs)).length:Nat):Int).toNat [V.int 0]).flatten=List.map V.int (List.replicate g.cs.length 0):=by rw[BK,aaY,aat,aat]
  rw[el];have JD:=OG.trans (ag (o:=.lst (List.map V.int (List.replicate g.cs.length 0))) nl);exact⟨_,rfl,g,co.mono JD,gg,_,ai,by simp,fu,gW,ak,λa H' s' na e'=>kk a l H' (JD.trans s') (none_of JD na) (none_of OG nl) e' (s' _ _ ai)⟩
theorem gL:bf ["self","state"] ["self","state"] (au (inClass (top 36) 5)):=.mk
theorem o9 (T:fj P w base K mg aH aI aF aV aq aD):fL P w K mg base (cN P w) 1 aq "what_at" ["self","state"] (oW aq):=by
 refine T.kZ.fB (λ_ _ _ _ _ _=>gS λ_ _=>rfl) λf fd F=>F.gR gL (λvs H Q E h=>?_) (λbZ A outer s H vs Q E hr h=>?_)
 ·obtain⟨_,_,rfl,_⟩:=mZ h;rfl
 ·symm;obtain⟨c,v,rfl,H0,s0,g,co,nm,ns,⟨a,l,rfl,ha,hl⟩,x,lk,kk⟩:=mZ h;nofun;have nd:=gL.nd;refine⟨_,(aw (aW (fg (fk hr) (cA (pv 0) rfl) (aG aB (pv 1) ae) (λ_ _=>rfl)))),?_⟩;symm;obtain⟨dx,sp,mo,wh,tb,us,Cf,h1,h2,h3,h4,h5,h6⟩:=id co;nofun;simp_all only[eG,ha];rcases h5.val (n:=nm) with ⟨x',u,vz,vl,rx⟩ | ⟨vz,vl⟩
  ·rw[lk] at vz;cases vz;exact⟨_,_,_,s0 _ _ h1,T.aQ,T.na_Course_whats,_,ym,_,rfl,_,.inl ⟨_,Sum.inr nm,.inl (s0 _ _ h4),rfl,vl.symm⟩,kk u rx⟩
  ·rw[lk] at vz;cases vz
theorem iq:bf ["self","state","row","value","counts","deed"] ["self","state","row","value"] (au (inClass (top 36) 6)):=.mk
theorem Cg (T:fj P w base K mg aH aI aF aV aq aD):fL P w K mg base (cN P w) 3 aq "by_row" ["self","state","row","value"] (BI aq):=by
 have uW:=LD T;have gi:=Ce T;refine T.mn.fB (λ_ _ _ _ _ _=>uI λ_ _ _ _=>rfl) λf fd F=>F.gR iq (λvs H Q E h=>?_) (λbZ A outer s H vs Q E hr h=>?_)
 ·obtain⟨_,_,_,_,rfl,_⟩:=Bu h;rfl
 ·symm;obtain⟨c,sv,rv,v,rfl,g,co,gg,nm,ns,⟨sa,l,rfl,qC,hl⟩,a,b,ds,to,rr,gd,ld,ln,fu,gW,ak,kk⟩:=Bu h;nofun;have nd:=iq.nd;refine⟨_,(ao (aT (i:=4) (fX (dU (K:=K)) (by rfl) T.z_list rfl (aa (aG aB (pv 1) ae) af) (he:=se rfl) (hpl:=na rfl)))
  (ao (cK PassesOwn.never rfl (bJ (K:=K) (aG aB (pv 2) ae)) (aO (i:=5) nd rfl (Or.inl rfl)) (aw (cg (dF uW T.aQ (pv 0) (aa (pv 4) (aa (pv 5) (aa (pv 3) af)))))))
  (aw (aW (dF gi T.aQ (pv 0) (aa (aG aB (pv 2) ae) (aa (pv 4) af))))))),?_⟩
  refine(?_:let cH:TS:=_;let cI:TS:=_;let cJ:TS:=_;tSeq cH (tSeq cI cJ) _ _ _);intro cH cI cJ;have sl:=sizeLine_eq;have lc:=gg.lc;symm;obtain⟨dx,sp,mo,wh,tb,us,Cf,h1,h2,h3,h4,h5,h6⟩:=id co;obtain⟨rp,x1,x2,x3,x4,rfl,Zq,r1,r2,r3,r4⟩:=dw.mp (show Rep H (.tup _) rv from rr);rw[aK] at r4;subst r4;obtain⟨dl,lO,rfl,xZ,FJ⟩:=aZ.mp r3;nofun;have lp:∀{a b c d e:V},List.lookup (Str.ofString "asked") [(Str.ofString "spots",a),(Str.ofString "mosts",b),(Str.ofString "first",c),(Str.ofString "whats",d),(Str.ofString "tables",e)]=none:=eC (by ac_rfl) (by ac_rfl) (by ac_rfl) (by ac_rfl) (by ac_rfl);have Ak:∀{a b c d e:V},List.lookup (Str.ofString "do") [(Str.ofString "spots",a),(Str.ofString "mosts",b),(Str.ofString "first",c),(Str.ofString "whats",d),(Str.ofString "tables",e)]=none:=eC (by ac_rfl) (by ac_rfl) (by ac_rfl) (by ac_rfl) (by ac_rfl);change tSeq _ _ _ _ _;refine bo (λN=>∀H1 m,H m=none->aA H H1->dg H1 m=H->H1 m=some (.lst (List.map V.int ns))->N [some (.ref c),some (.ref sa),some (.ref rp),some (.int v),some (.ref m),none] H1) (λN hN=>?_) ?_
  ·simp_all only[qC];exact⟨_,.inl (bT.of hl),λm nm=>hN _ m nm (ag nm) (by rw[lA,BJ nm]) ai⟩
  rintro H1 m nm0 s1 hh hm;have LF:=FJ.length;rw[aat] at LF;change tSeq _ _ _ _ _;refine bo (λN=>∀H2,dg H2 m=H->H2 m=some (.lst (List.map V.int (ds.foldl (eU g.cs v) ns)))->∀z,N [some (.ref c),some (.ref sa),some (.ref rp),some (.int v),some (.ref m),z] H2) (λN hN=>?_) ?_
  ·simp_all only[s1 _ _ Zq];refine⟨⟨_,bT.of (s1 _ _ xZ)⟩,bY (src_list (Ok:=λH'=>dg H' m=H) (λH' e=>bT.of (oX e _ _ xZ))) (λi σ H'=>dg H' m=H/\H' m=some (.lst (List.map V.int ((ds.take i).foldl (eU g.cs v) ns)))/\∃z,σ=[some (.ref c),some (.ref sa),some (.ref rp),some (.int v),some (.ref m),z]) ⟨hh,by rw[List.take_zero];exact hm,_,rfl⟩ (λ_ _ _ _ h=>h.1) ?_ ?_⟩
   ·intro i x σ H3 H2 hi eQ eM;symm;obtain⟨e2,tF,z,rfl⟩:=eQ;obtain⟨rfl,ex⟩:=eM;obtain⟨dd,ed,rd⟩:=FJ.get ex;rw[aau] at ed;obtain⟨d,e0,rfl⟩:=Option.map_eq_some_iff.mp ed;nofun;have s2:=oX e2;simp_all only[c7,KY];refine⟨_,_,s2 _ _ h1,Ak,g,by rw[e2];exact co,_,tF,d,by rw[e2];exact rd,gd d (aaC e0),by rw[ia];exact ln,by rw[lA];exact e2,?_,_,rfl⟩;rw[ai,aaQ,e0,Option.toList_some,abf];rfl
   ·intro σ H2 c5;symm;obtain⟨e2,tF,z,rfl⟩:=c5;nofun;rw[<-LF,aaJ (aav _)] at tF;exact hN _ e2 tF _
  rintro H2 e2 tF z;have s2:=oX e2;have lns:(ds.foldl (eU g.cs v) ns).length=g.cs.length:=by rw[ia];exact ln
  simp_all only[c7,BH,s2 _ _ Zq];exact⟨_,_,s2 _ _ h1,lp,_,rfl,_,rfl,g,co.mono s2,gg,_,tF,lns,fu,gW,ak,λa H' s' na e'=>kk a m H' (s2.trans s') (none_of s2 na) nm0 e' (s' _ _ tF)⟩
theorem fO:bf ["self","state","what"] ["self","state"] (au (inClass (top 36) 10)):=.mk
theorem Ci (T:fj P w base K mg aH aI aF aV aq aD):fL P w K mg base (cN P w) 2 aq "open_rows" ["self","state"] (BL aq):=by
 have b7:=o9 T;have pd:=HQ T;refine T.jK.fB (λ_ _ _ _ _ _=>gS λ_ _=>rfl) λf fd F=>F.gR fO (λvs H Q E h=>?_) (λbZ A outer s H vs Q E hr h=>?_)
 ·obtain⟨_,_,rfl,_⟩:=mZ h;rfl
 ·symm;obtain⟨c,v,rfl,H0,s0,g,Zr,gg,nm,ns,st,ln,x,lk,kk⟩:=mZ h;nofun;have co:=Zr.mono s0;have nd:=fO.nd;refine⟨_,(ao (aT (i:=2) (dF b7 T.aQ (pv 0) (aa (pv 1) af)))
  (ao (bP (aP nV (aG aB (pv 2) ae) aL (aX _)) (aw (aW (bu af)))
   bw)
  (aw (aW (cY rfl (N:=["self","state","what"]) (so:=au (inClass (top 36) 10)) (N':=["row","self","state"]) (k:=1) (fr:=[0,1]) rfl rfl ⟨rfl,by ac_rfl,by ac_rfl,by ac_rfl,rfl,by ac_rfl,by ac_rfl⟩ (bJ (K:=K) (aG aB (pv 2) ae)) (λ_ _ _ _ _=>(aO (i:=0) (show(["row","self","state"]:List Str).Nodup by ac_rfl) rfl (Or.inl rfl))) (λ_ _ _ _ _=>(rL (rj (dF pd T.aQ (pv 1) (aa (aG aB (pv 0) ae) (aa (aG aB (pv 2) ae) af))))))
   (λ_ _ _ _ _=>(pv 0))))))),?_⟩
  refine(?_:let cH:TS:=_;let cI:TS:=_;let cJ:TS:=_;tSeq cH (tSeq cI cJ) _ _ _);intro cH cI cJ;have sl:=sizeLine_eq;symm;obtain⟨dx,sp,mo,wh,tb,us,Cf,h1,h2,h3,h4,h5,h6⟩:=id co;obtain⟨sa,l,rfl,qC,hl⟩:=id st;nofun;have lp:∀{a b c d e:V},List.lookup (Str.ofString "what_at") [(Str.ofString "spots",a),(Str.ofString "mosts",b),(Str.ofString "first",c),(Str.ofString "whats",d),(Str.ofString "tables",e)]=none:=eC (by ac_rfl) (by ac_rfl) (by ac_rfl) (by ac_rfl) (by ac_rfl);have Ak:∀{a b c d e:V},List.lookup (Str.ofString "holds") [(Str.ofString "spots",a),(Str.ofString "mosts",b),(Str.ofString "first",c),(Str.ofString "whats",d),(Str.ofString "tables",e)]=none:=eC (by ac_rfl) (by ac_rfl) (by ac_rfl) (by ac_rfl) (by ac_rfl);have gx:=gg.wt _ (fo lk);change tSeq _ _ _ _ _;refine bo (λN=>∀u,Rep H0 (yj x) u->N [some (.ref c),some (.ref sa),some u] H) (λN hN=>?_) ?_
  ·simp_all only[c7,oW];exact⟨_,_,h1,lp,H0,s0,g,Zr,nm,ns,st,x,lk,λu ru=>hN u ru⟩
  rintro u ru;cases x with
  | pick w' rs=>
   symm;obtain⟨p,x1,x2,x3,rfl,hp,r1,r2,r3⟩:=cV.mp (show Rep H0 (.tup _) u from ru);rw[aK] at r1;subst r1;obtain⟨rl,xs,rfl,yC,uX⟩:=aZ.mp r3;have len:=uX.length;rw[aat,aat] at len;obtain⟨g1,g2⟩:=gx;nofun;have zl:(xs.zip rs).length=xs.length:=by rw[List.length_zip];omega
   simp_all only[s0 _ _ hp];refine⟨⟨_,bT.of (s0 _ _ yC)⟩,?_⟩;have S:Src (C8 K rl) (aA H) xs.length _:=src_list (λH' s'=>bT.of (s' _ _ (s0 _ _ yC)));rw[<-zl] at S;refine me (xs.zip rs) (λx=>if wH g.cs ns x.2.wh=true then some x.1 else none) S (λ_ _ _ _ h=>h.1) (by omega) ?_ ?_
   ·rintro i ⟨x,r⟩ y LG ⟨_,ey⟩ Y N y1 y2;obtain⟨e1,e2⟩:=List.getElem?_zip_eq_some.mp LG;rw[e1] at ey;cases ey;symm;obtain⟨r',p',a',b',c',d',er,rfl,Ai,rb,_⟩:=yp uX e1;nofun;rw[e2] at er;cases er;simp_all only[c7,Ft,s0 _ _ Ai,qC];exact⟨_,_,h1,Ak,g,co,ns,_,rb.mono s0,hl,ln,jF (λc=>y1 _ (if_pos c)) (λc=>y2 (if_neg c))⟩
   ·intro D n1 n2;exact kk D _ _ (ag n2) n2 ai (oY uX)
  | ask _ _ _ _=>
   symm;obtain⟨p,x1,x2,x3,x4,x5,rfl,hp,r1,r2,r3,r4,r5⟩:=wI.mp (show Rep H0 (.tup _) u from ru);rw[aK] at r1;subst r1;nofun;simp_all only[s0 _ _ hp];rw[if_pos (by ac_rfl)];exact⟨aaz _,λD nD=>kk D _ _ (ag nD) nD ai (bL.mpr rfl)⟩
  | fin _ _=>
   symm;obtain⟨p,x1,x2,rfl,hp,r1,r2⟩:=bA.mp (show Rep H0 (.tup _) u from ru);rw[aK] at r1;subst r1;nofun;simp_all only[s0 _ _ hp];rw[if_pos (by ac_rfl)];exact⟨aaz _,λD nD=>kk D _ _ (ag nD) nD ai (bL.mpr rfl)⟩
  | score _=>
   symm;obtain⟨p,x1,x2,rfl,hp,r1,r2⟩:=bA.mp (show Rep H0 (.tup _) u from ru);rw[aK] at r1;subst r1;nofun;simp_all only[s0 _ _ hp];rw[if_pos (by ac_rfl)];exact⟨aaz _,λD nD=>kk D _ _ (ag nD) nD ai (bL.mpr rfl)⟩
  | gX _ _ _ _=>
   symm;obtain⟨p,x1,x2,x3,x4,rfl,hp,r1,r2,r3,r4⟩:=dw.mp (show Rep H0 (.tup _) u from ru);rw[aK] at r1;subst r1;nofun;simp_all only[s0 _ _ hp];rw[if_pos (by ac_rfl)];exact⟨aaz _,λD nD=>kk D _ _ (ag nD) nD ai (bL.mpr rfl)⟩
theorem gj:bf ["self","state"] ["self","state"] (au (inClass (top 36) 11)):=.mk
theorem HS (T:fj P w base K mg aH aI aF aV aq aD):fL P w K mg base (cN P w) 3 aq "words_at" ["self","state"] (Fv aq):=by
 have d9:=Ci T;refine T.kh.fB (λ_ _ _ _ _ _=>gS λ_ _=>rfl) λf fd F=>F.gR gj (λvs H Q E h=>?_) (λbZ A outer s H vs Q E hr h=>?_)
 ·obtain⟨_,_,rfl,_⟩:=mZ h;rfl
 ·symm;obtain⟨c,v,rfl,g,co,gg,nm,ns,st,ln,x,lk,kk⟩:=mZ h;nofun;clear G_;have nd:=gj.nd;refine⟨_,(aw (aW (cY rfl (N:=["self","state"]) (so:=au (inClass (top 36) 11)) (N':=["row"]) (k:=1) (fr:=[]) rfl rfl ⟨rfl,by ac_rfl,by ac_rfl,by ac_rfl,rfl,by ac_rfl,by ac_rfl⟩ (bJ (K:=K) (dF d9 T.aQ (pv 0) (aa (pv 1) af))) (λ_ _ _ _ _=>(aO (i:=0) (show(["row"]:List Str).Nodup by ac_rfl) rfl (Or.inl rfl))) (λ_ _ _ _ _=>cX)
   (λ_ _ _ _ _=>(aG aB (pv 0) ae))))),?_⟩
  have sl:=sizeLine_eq;symm;obtain⟨dx,sp,mo,wh,tb,us,Cf,h1,h2,h3,h4,h5,h6⟩:=id co;nofun;clear G_;have lp:∀{a b c d e:V},List.lookup (Str.ofString "open_rows") [(Str.ofString "spots",a),(Str.ofString "mosts",b),(Str.ofString "first",c),(Str.ofString "whats",d),(Str.ofString "tables",e)]=none:=eC (by ac_rfl) (by ac_rfl) (by ac_rfl) (by ac_rfl) (by ac_rfl);have gx:=gg.wt _ (fo lk);have Ol:(fz g.cs ns x).length<=100:=by
   cases x with
   | pick w' rs=>exact aaI (List.length_filter_le _ _) gx.1
   | _=>exact aaz _
  simp_all only[c7,BL];refine⟨_,_,h1,lp,H,aA.refl _,g,co,gg,nm,ns,st,ln,x,lk,λrl xs H1 s1 n1 yC QQ=>?_⟩;generalize fz g.cs ns x=rs at *;have uX:=QQ.mono s1;have len:=uX.length;rw[aat,aat] at len;have zl:(xs.zip rs).length=xs.length:=by rw[List.length_zip];omega
  refine⟨⟨_,bT.of yC⟩,?_⟩;have S:Src (C8 K rl) (aA H1) xs.length _:=src_list (λH' s'=>bT.of (s' _ _ yC));rw[<-zl] at S;refine me (xs.zip rs) (λx=>some (.str x.2.word)) S (λ_ _ _ _ h=>h.1) (by omega) ?_ ?_
  ·rintro i ⟨x,r⟩ y LG ⟨_,ey⟩ Y N y1 y2;obtain⟨e1,e2⟩:=List.getElem?_zip_eq_some.mp LG;rw[e1] at ey;cases ey;symm;obtain⟨r',p',a',b',c',d',er,rfl,Ai,rb,_⟩:=yp uX e1;nofun;rw[e2] at er;cases er;simp_all only[pP,Ai];exact y1 _ rfl
  ·intro D n1' n2;have e:(xs.zip rs).filterMap (λx=>some (V.str x.2.word))=rs.map λr=>V.str r.word:=by
    rw[xR];have:(xs.zip rs).map (λx=>V.str x.2.word)=((xs.zip rs).map Prod.snd).map λr=>V.str r.word:=by rw[aaX];rfl
    rw[this,List.map_snd_zip (by omega)]
   rw[e];exact kk D _ (s1.trans (ag n2)) (none_of s1 n2) (aZ.mpr ⟨D,_,rfl,ai,(qM uX).mono (ag n2)⟩)
theorem fP:bf ["self","state","what"] ["self","state"] (au (inClass (top 36) 12)):=.mk
theorem HU (T:fj P w base K mg aH aI aF aV aq aD):fL P w K mg base (cN P w) 2 aq "end_worth" ["self","state"] (BM aq):=by
 have b7:=o9 T;refine T.jJ.fB (λ_ _ _ _ _ _=>gS λ_ _=>rfl) λf fd F=>F.gR fP (λvs H Q E h=>?_) (λbZ A outer s H vs Q E hr h=>?_)
 ·obtain⟨_,_,rfl,_⟩:=mZ h;rfl
 ·symm;obtain⟨c,v,rfl,g,co,gg,nm,ns,st,ln,x,lk,t,b,ew,kk⟩:=mZ h;nofun;have nd:=fP.nd;refine⟨_,(ao (aT (i:=2) (dF b7 T.aQ (pv 0) (aa (pv 1) af)))
  (aw (aW (kz (aP cw (aG aB (pv 2) ae) aL (aX _)) (aG aB (pv 2) ae) (aM (aa (aG bx (aG aB (pv 1) ae) (fg (fk hr) (cA (pv 0) rfl) (aG aB (pv 2) ae) (λ_ _=>rfl))) (aa ae af))))))),?_⟩
  have sl:=sizeLine_eq;symm;obtain⟨dx,sp,mo,wh,tb,us,Cf,h1,h2,h3,h4,h5,h6⟩:=id co;obtain⟨sa,l,rfl,qC,hl⟩:=id st;nofun;have lp:∀{a b c d e:V},List.lookup (Str.ofString "what_at") [(Str.ofString "spots",a),(Str.ofString "mosts",b),(Str.ofString "first",c),(Str.ofString "whats",d),(Str.ofString "tables",e)]=none:=eC (by ac_rfl) (by ac_rfl) (by ac_rfl) (by ac_rfl) (by ac_rfl);have gx:=gg.wt _ (fo lk);change tSeq _ _ _ _ _;refine bo (λN=>∀u,Rep H (yj x) u->N [some (.ref c),some (.ref sa),some u] H) (λN hN=>?_) ?_
  ·simp_all only[c7,oW];exact⟨_,_,h1,lp,H,aA.refl _,g,co,nm,ns,st,x,lk,λu ru=>hN u ru⟩
  rintro u ru;cases x with
  | fin t' b'=>
   symm;obtain⟨p,x1,x2,rfl,hp,r1,r2⟩:=bA.mp (show Rep H (.tup _) u from ru);rw[aK] at r1;subst r1;nofun;cases ew;simp_all only[eG,hp];exact kk _ _ (aA.refl _) r2
  | score c'=>
   symm;obtain⟨p,x1,x2,rfl,hp,r1,r2⟩:=bA.mp (show Rep H (.tup _) u from ru);rw[aK] at r1 r2;subst r1 r2;nofun;cases ew;have hs:=cZ (cs:=g.cs) gx;simp_all only[eG,hp,qC];rw[if_neg (by ac_rfl)];refine⟨_,_,_,h1,T.aQ,T.na_Course_spots,_,jP,_,rfl,_,iJ h2 gx,_,rfl,_,hl,_,gJ (by omega),by decide,λp' H2 s2 np e2=>kk _ _ s2 (bA.mpr ⟨p',_,_,rfl,e2,aN.mpr rfl,aN.mpr rfl⟩)⟩
  | ask _ _ _ _=>cases ew
  | pick _ _=>cases ew
  | gX _ _ _ _=>cases ew
theorem gn:bf ["self"] ["self"] (au (inClass (top 37) 0)):=.mk
theorem LH (T:fj P w base K mg aH aI aF aV aq aD):uu P w K mg base (cN P w) 1 "Finder" aD ["self"] (K6 P w aD):=by
 refine T.zE.fB (λ_ _ _ _ _ _=>iG λ_=>rfl) λf fd F=>F.gR gn (λvs H Q E h=>?_) (λbZ A outer s H vs Q E hr h=>?_)
 ·obtain⟨_,rfl,_⟩:=qI h;rfl
 ·symm;obtain⟨x,rfl,dx,hx,kk⟩:=qI h;nofun;have nd:=gn.nd;refine⟨_,(ao (j4 (pv 0) (bu af) rfl)
  (aw (j4 (pv 0) (Bo (P:=P) (w:=w)) rfl))),?_⟩
  have sl:=sizeLine_eq;simp_all only[vK,Bn];refine⟨aaz _,λl nl=>?_⟩;have lx:x≠l:=λz=>by rw[<-z,hx] at nl;cases nl
  have hx1:upd H l (.lst []) x=some (.ins aD dx []):=by rw[aE lx];exact hx
  refine⟨_,_,_,hx1,T.cf,T.na_Finder_states,by decide,λn nn=>?_⟩;have e1:iY (Str.ofString "states") (V.ref l) []=[(Str.ofString "states",V.ref l)]:=rfl;have e2:iY (Str.ofString "numbers") (V.ref n) [(Str.ofString "states",V.ref l)]=[(Str.ofString "states",V.ref l),(Str.ofString "numbers",V.ref n)]:=by
   show(if Str.ofString "states"=Str.ofString "numbers" then _ else _)=_;rw[if_neg (by ac_rfl)];rfl
  rw[e1] at nn ⊢;have xn:n≠x:=λz=>by rw[z,ai] at nn;cases nn
  rw[aE xn] at nn;have uY:n≠l:=λz=>by rw[z,ai] at nn;cases nn
  rw[aE uY] at nn;refine⟨_,_,_,by rw[aE (Ne.symm xn),ai],T.cf,T.na_Finder_numbers,by show(1:Nat)<1000;decide,?_⟩;rw[e2];refine kk l n _ nl nn (λa o ax ha=>?_) λFr=>⟨dx,[],[],?_,Ne.symm uY,?_,trivial,?_,(λp hp=>nomatch hp),rfl,aaz _⟩
  ·have al:a≠l:=λz=>by rw[z,nl] at ha;cases ha
   have an:a≠n:=λz=>by rw[z,nn] at ha;cases ha
   rw[cB al an,aE ax,aE an,aE ax,aE al];exact ha
  ·rw[cB lx (Ne.symm xn),ai]
  ·rw[aE (Ne.symm lx),aE (Ne.symm uY),aE (Ne.symm lx),ai]
  ·rw[aE xn,ai]
theorem fQ:bf ["self","state","key"] ["self","state"] (au (inClass (top 37) 1)):=.mk
theorem wQ (T:fj P w base K mg aH aI aF aV aq aD):fL P w K mg base (cN P w) 1 aD "number_of" ["self","state"] (sE P w aD aF):=by
 refine T.jL.fB (λ_ _ _ _ _ _=>gS λ_ _=>rfl) λf fd F=>F.E9 fQ (λvs H Q E h=>?_) (λbZ A outer s H vs Q E hr h=>?_)
 ·obtain⟨_,_,_,_,_,_,_,rfl,_⟩:=h;rfl
 ·symm;obtain⟨fa,sv,Fr,l,n,ss,st,rfl,⟨dx,xs,ks,hf,ln,hl,al,hn,an,nk,sQ⟩,tG,hs,aah,kE,kQ⟩:=h;nofun;have nd:=fQ.nd;have wM:A.handled=none:=hr.hd;refine⟨_,(ao (aT (i:=2) (aM (aa (aG aB (pv 1) ae) (aa (fX (oq (K:=K)) (by rfl) T.z_tuple rfl (aa (aG aB (pv 1) ae) af) (he:=se rfl) (hpl:=na rfl)) af))))
  (ao (bP (vB (zu (P:=P) (w:=w) hr.units (pv 2) (cA (pv 0) rfl))) (ao (bP (aP cw (bg bM (by rfl) T.z_len aaH (aa (cA (pv 0) rfl) af)) (kX rfl T.c_MOST_STATES) (aX _)) (aw (hJ rfl T.k_TooMany T.x_TooMany wM (aa aL af) (he:=se rfl) (hpl:=na rfl)))
   bw)
  (ao (DO (P:=P) (w:=w) hr.units (cA (pv 0) rfl) (pv 2) (bg bM (by rfl) T.z_len aaH (aa (cA (pv 0) rfl) af)) rfl)
  (aw (cg (eI aaU aa5 aa6 cQ.r (cA (pv 0) rfl) (aa (pv 1) af))))))
   bw)
  (aw (aW (DN (P:=P) (w:=w) hr.units (cA (pv 0) rfl) (pv 2) (λ_ _=>rfl)))))),?_⟩
  refine(?_:let cH:TS:=_;let cI:TS:=_;let cJ:TS:=_;tSeq cH (tSeq cI cJ) _ _ _);intro cH cI cJ;have sl:=sizeLine_eq;symm;obtain⟨sa,cl,rfl,qC,jG,xH⟩:=id tG;nofun;have LI:=aR _ _ hf;have QR:=aR _ _ qC;have QS:=aR _ _ jG;have aai:=nk.len;have wR:=al.length;change tSeq _ _ _ _ _;refine bo (λN=>∀H1,aA H H1->∀b,jI (b9 H1 l n) (ie st) b->N [some (.ref fa),some (.ref sa),some (.ref b)] H1) (λN hN=>?_) ?_
  ·simp_all only[QR];refine⟨_,.inl ⟨bT.of QS,λt nt=>⟨by decide,λp H2 s2 np e2=>hN _ ((ag nt).trans s2) p ?_⟩⟩⟩;have tl:t≠l:=λz=>by rw[z,hl] at nt;cases nt
   have tn:t≠n:=λz=>by rw[z,hn] at nt;cases nt
   have pl:p≠l:=λz=>by rw[z,ag nt _ _ hl] at np;cases np
   have pn:p≠n:=λz=>by rw[z,ag nt _ _ hn] at np;cases np
   exact HI hs (by rw[cB pl pn];exact e2) (by rw[cB tl tn];exact s2 _ _ ai)
  rintro H1 s1 b kb;have QT:=nk.look (s:=st);rw[Nat.zero_add] at QT;have al1:=al.imp λ_ _ k=>zJ.mono (bN (l:=l) (n:=n) s1) k;have LJ:=an.mono (bN (l:=l) (n:=n) s1);change tSeq _ _ _ _ _;refine cS (λσ' H2=>aA (b9 H l n) (b9 H2 l n)/\(st∈ss\/ss.length<120)/\km P w aD Fr H2 fa l n (eF ss st)/\jI (b9 H2 l n) (ie st) b/\σ'=[some (.ref fa),some (.ref sa),some (.ref b)]) (λN hN=>?_) ?_
  ·have BD:=T.c_MOST_STATES;simp_all only[eG,xX,Fk,dt,tRaise];refine⟨_,_,_,s1 _ _ LI,T.cf,T.na_Finder_numbers,_,BN,_,⟨n,b,ie st,ks,rfl,rfl,s1 _ _ hn,LJ.mono aR,kb.mono aR,rfl⟩,?_⟩;rw[QT]
   by_cases hm:st∈ss
   ·rw[if_pos hm,if_neg (by simp)];refine hN _ _ ⟨bN s1,.inl hm,?_,kb,rfl⟩;have e:eF ss st=ss:=by unfold eF;rw[if_pos hm]
    rw[e];exact km.mono s1 ⟨dx,xs,ks,hf,ln,hl,al,hn,an,nk,sQ⟩
   ·have QU:iM ks (toP (ie st))=none:=by rw[QT,if_neg hm]
    have e:eF ss st=ss++ [st]:=by unfold eF;rw[if_neg hm]
    rw[if_neg hm,if_pos (by rfl)];refine⟨_,_,_,s1 _ _ LI,T.cf,T.na_Finder_states,_,jQ,_,rfl,_,s1 _ _ hl,?_⟩
    by_cases full:ss.length=120
    ·rw[if_pos (by omega)];exact⟨by decide,kE hm full _ s1⟩
    have lt:ss.length<120:=by omega
    rw[if_neg (by omega)];refine⟨_,_,_,s1 _ _ LI,T.cf,T.na_Finder_states,_,jQ,_,rfl,_,s1 _ _ hl,?_⟩;have Ac:∀o,upd H1 n o l=some (.lst xs):=λo=>by rw[aE ln];exact s1 _ _ hl
    have ty:∀o,E3 K "list" (.ref l) (upd H1 n o):=λo=>.inl ⟨rfl,_,bT.of (Ac o)⟩;refine⟨_,_,_,s1 _ _ LI,T.cf,T.na_Finder_numbers,_,BN,_,rfl,ie st,ks,s1 _ _ hn,LJ.mono aR,kb.mono aR,QU,by omega,_,_,_,by rw[aE (ig hf).2];exact s1 _ _ LI,T.cf,T.na_Finder_states,_,jQ,ty _,_,rfl,_,Ac _,by omega,hN _ _ ?_⟩;have eh:b9 (upd (upd H1 n (CI P w n (ks++ [(ie st,b,((xs.length:Nat):Int))]))) l (.lst (xs++ [V.ref sa]))) l n=b9 H1 l n:=by rw[zK,zL ln]
    refine⟨by rw[eh];exact bN s1,.inr lt,?_,by rw[eh];exact kb,rfl⟩;rw[e];refine⟨dx,_,_,by rw[eh];exact bN s1 _ _ hf,ln,ai,by rw[eh];exact al1.append (.one (tG.mono (bN s1))),by rw[aE (Ne.symm ln),ai],?_,?_,by rw[aay];simp only[aaF,abe];omega⟩
    ·rw[eh];intro p hp;rcases List.mem_append.mp hp with h | h
     ·exact LJ p h
     ·rw[List.mem_singleton.mp h];exact kb
    ·have:=nk.snoc (s:=st) (b:=b);rw[Nat.zero_add,<-wR] at this;exact this
  intro _ H2 c5;symm;obtain⟨s2,fit,fi,kb2,rfl⟩:=c5;obtain⟨Zs,LB,QV,g1,g2,g3,g4,g5,g6,g7,g8⟩:=id fi;nofun;simp_all only[eG,Fj];refine⟨_,_,_,aR _ _ g1,T.cf,T.na_Finder_numbers,_,BN,_,⟨n,b,ie st,QV,rfl,rfl,g5,g6.mono aR,kb2.mono aR,?_⟩,kQ fit H2 s2 fi⟩;rw[g7.look,if_pos (oZ _ _),o4,Nat.zero_add]
theorem gq:bf ["self","game","spot","count","name","what"] ["self","game"] (au (inClass (top 36) 0)):=.mk
theorem LK (T:fj P w base K mg aH aI aF aV aq aD):uu P w K mg base (cN P w) 3 "Course" aq ["self","game"] (K8 aq):=by
 have wU:=LA T;refine T.zD.fB (λ_ _ _ _ _ _=>gS λ_ _=>rfl) λf fd F=>F.gR gq (λvs H Q E h=>?_) (λbZ A outer s H vs Q E hr h=>?_)
 ·obtain⟨_,_,rfl,_⟩:=mZ h;rfl
 ·symm;obtain⟨c,gv,rfl,dx,hc,g,rg,gg,kk⟩:=mZ h;nofun;clear G_;have nd:=gq.nd;refine⟨_,(ao (j4 (pv 0) kJ rfl)
  (ao (j4 (pv 0) (bu af) rfl)
  (ao (cK PassesOwn.never rfl (pS (K:=K) rfl T.z_enumerate (aa (aG aB (pv 1) ae) af)) (dE (K:=K) (n:=2) rfl (bD (aO (i:=2) nd rfl (Or.inl rfl)) (bD (aO (i:=3) nd rfl (Or.inl rfl)) c9))) (ao (nF (fk hr) (cA (pv 0) rfl) (aG aB (pv 3) ae) (pv 2) rfl)
  (aw (cg (eI aaU aa5 aa6 cQ.r (cA (pv 0) rfl) (aa (aG aB (pv 3) ae) af))))))
  (ao (j4 (pv 0) (aG aB (aG bx (aG aB (pv 1) ae) ae) ae) rfl)
  (ao (j4 (pv 0) kJ rfl)
  (ao (cK PassesOwn.never rfl (bJ (K:=K) (aG aB (pv 1) ae)) (dE (K:=K) (n:=2) rfl (bD (aO (i:=4) nd rfl (Or.inl rfl)) (bD (aO (i:=5) nd rfl (Or.inl rfl)) c9))) (aw (nF (fk hr) (cA (pv 0) rfl) (pv 4) (bI wU (aa (pv 5) af)) rfl)))
  (aw (j4 (pv 0) kJ rfl)))))))),?_⟩
  refine(?_:let cH:TS:=_;let cI:TS:=_;let cJ:TS:=_;let eD:TS:=_;let qS:TS:=_;let yA:TS:=_;let FK:TS:=_;tSeq cH (tSeq cI (tSeq cJ (tSeq eD (tSeq qS (tSeq yA FK))))) _ _ _);intro cH cI cJ eD qS yA FK;have sl:=sizeLine_eq;have np:=gg.np;have nc:=gg.nc;have lc:=gg.lc;have lpp:=gg.lp;have p0:=gg.p0;symm;obtain⟨gp,g0,g1,rfl,CN,rc,rp⟩:=bA.mp (show Rep H (.tup _) gv from rg);obtain⟨cl,FL,rfl,jG,yB⟩:=aZ.mp (show Rep H (.lst _) g0 from rc);obtain⟨pl,HV,rfl,hpl,FN⟩:=aZ.mp (show Rep H (.lst _) g1 from rp);nofun;clear G_;have LL:=yB.length;rw[aat] at LL;have LM:=FN.length;rw[aat] at LM;change tSeq _ _ _ _ _;let K1:Hp->Prop:=λH1=>∀a o,a≠c->H a=some o->H1 a=some o;have kp:∀{H1},K1 H1->Kp H H1:=λ{H1} k a=>by
   by_cases z:a=c
   ·subst z;rw[hc];exact⟨(λ_ e=>by cases e),(λ_ e=>by cases e)⟩
   ·exact⟨λ_=>k _ _ z,λ_=>k _ _ z⟩
  have wV:∀{H1 a vs},K1 H1->H a=some (.tup vs)->H1 a=some (.tup vs):=λk e=>((kp k) _).1 _ e;have Cj:∀{H1 a vs},K1 H1->H a=some (.lst vs)->H1 a=some (.lst vs):=λk e=>((kp k) _).2 _ e;refine bo (λN=>∀H1,K1 H1->(∃sp,sp≠c/\H sp=none/\H1 c=some (.ins aq dx [(Str.ofString "spots",.ref sp)])/\H1 sp=some (.dK []))->N [some (.ref c),some (.ref gp),none,none,none,none] H1) (λN hN=>?_) ?_
  ·simp_all only[vK,tDNewK];intro sp Je;have e1:sp≠c:=λz=>by rw[z,hc] at Je;cases Je
   refine⟨_,_,_,by rw[aE (Ne.symm e1)];exact hc,T.aQ,T.na_Course_spots,by decide,hN _ (λa o ac ha=>?_) ⟨sp,e1,Je,ai,by rw[aE e1,ai]⟩⟩;rw[aE ac,aE (λz=>by rw[z,Je] at ha;cases ha)];exact ha
  intro H1 k1 c5;symm;obtain⟨sp,Jf,Je,Zt,LN⟩:=c5;nofun;clear G_;change tSeq _ _ _ _ _;refine bo (λN=>∀H2,K1 H2->(∃mo,mo≠c/\mo≠sp/\H mo=none/\H2 c=some (.ins aq dx [(Str.ofString "spots",.ref sp),(Str.ofString "mosts",.ref mo)])/\H2 sp=some (.dK [])/\H2 mo=some (.lst []))->N [some (.ref c),some (.ref gp),none,none,none,none] H2) (λN hN=>?_) ?_
  ·simp_all only[vK];refine⟨aaz _,λmo FO=>?_⟩;have e1:mo≠c:=λz=>by rw[z,Zt] at FO;cases FO
   have e2:mo≠sp:=λz=>by rw[z,LN] at FO;cases FO
   have n0:H mo=none:=by
    cases h0:H mo with
    | none=>rfl
    | some o=>rw[k1 _ _ e1 h0] at FO;cases FO
   refine⟨_,_,_,by rw[aE (Ne.symm e1)];exact Zt,T.aQ,T.na_Course_mosts,by show(1:Nat)<1000;decide,hN _ (λa o ac ha=>?_) ⟨mo,e1,e2,n0,?_,by rw[aE Jf,aE (Ne.symm e2)];exact LN,by rw[aE e1,ai]⟩⟩
   ·rw[aE ac,aE (λz=>by rw[z,n0] at ha;cases ha)];exact k1 _ _ ac ha
   ·rw[ai];show some (HO.ins _ _ (if Str.ofString "spots"=Str.ofString "mosts" then _ else _))=_;rw[if_neg (by ac_rfl)];rfl
  intro H2 k2 c5;symm;obtain⟨mo,OH,LO,FO,hc2,QW,QX⟩:=c5;nofun;clear G_;change tSeq _ _ _ _ _;refine bo (λN=>∀H3,K1 H3->H3 c=some (.ins aq dx [(Str.ofString "spots",.ref sp),(Str.ofString "mosts",.ref mo)])->H3 sp=some (.dK (oS g.cs 0))->H3 mo=some (.lst ((g.cs.map (·.2)).map V.int))->∀z1 z2,N [some (.ref c),some (.ref gp),z1,z2,none,none] H3) (λN hN=>?_) ?_
  ·simp_all only[iEnum,wV k2 CN];refine⟨⟨_,bT.of (Cj k2 jG)⟩,bY (A3 (Ok:=K1) (λH' k=>bT.of (Cj k jG))) (λi σ H'=>K1 H'/\H' c=some (.ins aq dx [(Str.ofString "spots",.ref sp),(Str.ofString "mosts",.ref mo)])/\H' sp=some (.dK (oS (g.cs.take i) 0))/\H' mo=some (.lst (((g.cs.take i).map (·.2)).map V.int))/\∃z1 z2,σ=[some (.ref c),some (.ref gp),z1,z2,none,none]) ⟨k2,hc2,QW,QX,_,_,rfl⟩ (λ_ _ _ _ h=>h.1) ?_ ?_⟩
   ·intro i x σ H3 H4 hi eQ eM;symm;obtain⟨k3,Jg,wW,wX,z1,z2,rfl⟩:=eQ;obtain⟨t,y,nt,rfl,ey,rfl⟩:=eM;obtain⟨d0,ed,rd⟩:=yB.get ey;rw[aau] at ed;obtain⟨cn,ec,rfl⟩:=Option.map_eq_some_iff.mp ed;obtain⟨cp,y1,y2,rfl,OI,r1,r2⟩:=bA.mp (show Rep H (.tup _) y from rd);rw[aK] at r1;rw[aN] at r2;subst r1 r2;nofun;clear G_;have tk:g.cs.take (i+1)=g.cs.take i++ [cn]:=by rw[aaQ,ec];rfl
    have nn:cn.1∉(g.cs.take i).map (·.1):=by
     rw[List.map_take];exact uN nc (by rw[aau,ec];rfl)
    have tc:t≠c:=λz=>by rw[z,Jg] at nt;cases nt
    have ts:t≠sp:=λz=>by rw[z,wW] at nt;cases nt
    have tm:t≠mo:=λz=>by rw[z,wX] at nt;cases nt
    have k4:K1 (upd H3 t (.tup [.int (i:Int),.ref cp])):=λa o ac ha=>ag nt _ _ (k3 a o ac ha);have Jh:upd H3 t (.tup [.int (i:Int),.ref cp]) c=_:=ag nt _ _ Jg;have El:upd H3 t (.tup [.int (i:Int),.ref cp]) sp=_:=ag nt _ _ wW;have Em:upd H3 t (.tup [.int (i:Int),.ref cp]) mo=_:=ag nt _ _ wX;refine⟨t,_,rfl,iX.of ai,rfl,?_⟩;generalize upd H3 t (.tup [.int (i:Int),.ref cp])=H4 at *;have lsp:(oS (g.cs.take i) 0).length<sizeLine:=by rw[yk,abg];omega
    have k5:K1 (upd H4 sp (.dK (putK (oS (g.cs.take i) 0) (Sum.inr cn.1) (.int (i:Int))))):=λa o ac ha=>by
     rw[aE (λz=>by rw[z,Je] at ha;cases ha)];exact k4 a o ac ha
    simp_all only[sDPut,eG,dt,wV k4 OI];have OJ:eE (oS (g.cs.take i) 0) (Sum.inr cn.1)=none:=oU nn;rw[nN OJ] at k5;have lt:(g.cs.take i).length=i:=by rw[abg];omega
    have En:∀o,upd H4 sp o mo=some (.lst (((g.cs.take i).map (·.2)).map V.int)):=λo=>by rw[aE LO];exact Em
    have ty:∀o,E3 K "list" (.ref mo) (upd H4 sp o):=λo=>.inl ⟨rfl,_,bT.of (En o)⟩;refine⟨_,_,_,Jh,T.aQ,T.na_Course_spots,_,abj,_,rfl,_,.inl ⟨_,Sum.inr cn.1,El,rfl,lsp,rfl⟩,?_⟩;rw[nN OJ];refine⟨_,_,_,by rw[aE (Ne.symm Jf)];exact Jh,T.aQ,T.na_Course_mosts,_,by rw[dQ (by ac_rfl)];exact abj,ty _,_,wV k5 OI,_,rfl,_,rfl,_,En _,by rw[aat,aat];omega,?_⟩;refine⟨?_,?_,?_,?_,_,rfl⟩
    ·intro a o ac ha;rw[aE (λz=>by rw[z,FO] at ha;cases ha)];exact k5 a o ac ha
    ·rw[aE (Ne.symm OH),aE (Ne.symm Jf)];exact Jh
    ·rw[aE (Ne.symm LO),ai,tk,uL,lt,Nat.zero_add]
    ·rw[ai,tk,aaK,aaK];rfl
   ·intro σ H3 c5;symm;obtain⟨k3,Jg,wW,wX,z1,z2,rfl⟩:=c5;nofun;rw[<-LL,aaJ (aav _)] at wW wX;exact hN _ k3 Jg wW wX _ _
  rintro H3 k3 Jg wW wX z1 z2;obtain⟨⟨n0,x0⟩,Zu⟩:∃x,g.ps[0]?=some x:=⟨_,aaG p0⟩
  obtain⟨v0,ev0,OK⟩:=FN.at (by rw[aau,Zu];rfl);change tSeq _ _ _ _ _;refine bo (λN=>∀H4,K1 H4->H4 c=some (.ins aq dx [(Str.ofString "spots",.ref sp),(Str.ofString "mosts",.ref mo),(Str.ofString "first",.str n0)])->H4 sp=some (.dK (oS g.cs 0))->H4 mo=some (.lst ((g.cs.map (·.2)).map V.int))->N [some (.ref c),some (.ref gp),z1,z2,none,none] H4) (λN hN=>?_) ?_
  ·simp_all only[vK,wV k3 CN];symm;obtain⟨q0,a1,a2,rfl,OL,b1,_⟩:=bA.mp (show Rep H (.tup _) v0 from OK);rw[aK] at b1;subst b1;nofun;have at0:pM HV 0=some (.ref q0):=(b5 ev0:pM HV ((0:Nat):Int)=_)
   refine⟨_,Cj k3 hpl,_,at0,_,rfl,_,wV k3 OL,_,rfl,_,_,_,Jg,T.aQ,T.na_Course_first,by show(2:Nat)<1000;decide,hN _ (λa o ac ha=>?_) ?_ (by rw[aE Jf];exact wW) (by rw[aE OH];exact wX)⟩
   ·rw[aE ac];exact k3 _ _ ac ha
   ·rw[ai];show some (HO.ins _ _ (if Str.ofString "spots"=Str.ofString "first" then _ else _::(if Str.ofString "mosts"=Str.ofString "first" then _ else _)))=_;rw[if_neg (by ac_rfl),if_neg (by ac_rfl)];rfl
  rintro H4 k4 Jh El Em;change tSeq _ _ _ _ _;refine bo (λN=>∀H5,K1 H5->(∃wh,wh≠c/\wh≠sp/\wh≠mo/\H wh=none/\H5 c=some (.ins aq dx [(Str.ofString "spots",.ref sp),(Str.ofString "mosts",.ref mo),(Str.ofString "first",.str n0),(Str.ofString "whats",.ref wh)])/\H5 sp=some (.dK (oS g.cs 0))/\H5 mo=some (.lst ((g.cs.map (·.2)).map V.int))/\H5 wh=some (.dK []))->N [some (.ref c),some (.ref gp),z1,z2,none,none] H5) (λN hN=>?_) ?_
  ·simp_all only[vK,tDNewK];intro wh CO;have e1:wh≠c:=λz=>by rw[z,Jh] at CO;cases CO
   have e2:wh≠sp:=λz=>by rw[z,El] at CO;cases CO
   have e3:wh≠mo:=λz=>by rw[z,Em] at CO;cases CO
   have n0:H wh=none:=by
    cases h0:H wh with
    | none=>rfl
    | some o=>rw[k4 _ _ e1 h0] at CO;cases CO
   refine⟨_,_,_,by rw[aE (Ne.symm e1)];exact Jh,T.aQ,T.na_Course_whats,by show(3:Nat)<1000;decide,hN _ (λa o ac ha=>?_) ⟨wh,e1,e2,e3,n0,?_,by rw[aE Jf,aE (Ne.symm e2)];exact El,by rw[aE OH,aE (Ne.symm e3)];exact Em,by rw[aE e1,ai]⟩⟩
   ·rw[aE ac,aE (λz=>by rw[z,n0] at ha;cases ha)];exact k4 _ _ ac ha
   ·rw[ai];show some (HO.ins _ _ (if Str.ofString "spots"=Str.ofString "whats" then _ else _::(if Str.ofString "mosts"=Str.ofString "whats" then _ else _::(if Str.ofString "first"=Str.ofString "whats" then _ else _))))=_;rw[if_neg (by ac_rfl),if_neg (by ac_rfl),if_neg (by ac_rfl)];rfl
  intro H5 k5 c5;symm;obtain⟨wh,Zv,QY,QZ,CO,hc5,Q0,En,Q3⟩:=c5;nofun;change tSeq _ _ _ _ _;refine bo (λN=>∀H6,K1 H6->H6 c=some (.ins aq dx [(Str.ofString "spots",.ref sp),(Str.ofString "mosts",.ref mo),(Str.ofString "first",.str n0),(Str.ofString "whats",.ref wh)])->H6 sp=some (.dK (oS g.cs 0))->H6 mo=some (.lst ((g.cs.map (·.2)).map V.int))->(∃us,H6 wh=some (.dK us)/\oV H6 g.ps us)->∀z3 z4,N [some (.ref c),some (.ref gp),z1,z2,z3,z4] H6) (λN hN=>?_) ?_
  ·simp_all only[wV k5 CN];refine⟨⟨_,bT.of (Cj k5 hpl)⟩,bY (src_list (Ok:=K1) (λH' k=>bT.of (Cj k hpl))) (λi σ H'=>K1 H'/\H' c=some (.ins aq dx [(Str.ofString "spots",.ref sp),(Str.ofString "mosts",.ref mo),(Str.ofString "first",.str n0),(Str.ofString "whats",.ref wh)])/\H' sp=some (.dK (oS g.cs 0))/\H' mo=some (.lst ((g.cs.map (·.2)).map V.int))/\(∃us,H' wh=some (.dK us)/\oV H' (g.ps.take i) us)/\∃z3 z4,σ=[some (.ref c),some (.ref gp),z1,z2,z3,z4]) ⟨k5,hc5,Q0,En,⟨[],Q3,rfl⟩,_,_,rfl⟩ (λ_ _ _ _ h=>h.1) ?_ ?_⟩
   ·intro i x σ H7 H6 hi eQ eM;symm;obtain⟨k6,FP,zR,zS,⟨us,uZ,wk⟩,z3,z4,rfl⟩:=eQ;obtain⟨rfl,ey⟩:=eM;obtain⟨d0,ed,rd⟩:=FN.get ey;rw[aau] at ed;obtain⟨pn,ec,rfl⟩:=Option.map_eq_some_iff.mp ed;obtain⟨cp,y1,y2,rfl,OI,r1,r2⟩:=bA.mp (show Rep H (.tup _) x from rd);rw[aK] at r1;subst r1;nofun;have tk:g.ps.take (i+1)=g.ps.take i++ [pn]:=by rw[aaQ,ec];rfl
    have nn:pn.1∉(g.ps.take i).map (·.1):=by
     rw[List.map_take];exact uN np (by rw[aau,ec];rfl)
    have OJ:=wk.none nn;have lus:us.length<=100:=by rw[wk.len,abg];omega
    refine⟨cp,_,rfl,iX.of (wV k6 OI),rfl,?_⟩;simp_all only[sDPut,eG,KW];refine⟨_,(kp k6).rep r2,_,gg.wt _ (aaC ec),λu H7 s7 ru=>?_⟩;refine⟨_,_,_,s7 _ _ FP,T.aQ,T.na_Course_whats,_,by rw[dQ (by ac_rfl),dQ (by ac_rfl),dQ (by ac_rfl)];exact abj,_,rfl,_,.inl ⟨_,Sum.inr pn.1,s7 _ _ uZ,rfl,by omega,rfl⟩,?_⟩;rw[nN OJ];have kq:Kp H7 (upd H7 wh (.dK (us++ [(Sum.inr pn.1,u)]))):=Kp.upd (λvs e=>by rw[s7 _ _ uZ] at e;cases e) (λvs e=>by rw[s7 _ _ uZ] at e;cases e);refine⟨λa o ac ha=>?_,by rw[aE (Ne.symm Zv)];exact s7 _ _ FP,by rw[aE (Ne.symm QY)];exact s7 _ _ zR,by rw[aE (Ne.symm QZ)];exact s7 _ _ zS,⟨_,ai,?_⟩,_,rfl⟩
    ·rw[aE (λz=>by rw[z,CO] at ha;cases ha)];exact s7 _ _ (k6 _ _ ac ha)
    ·rw[tk];exact oV.snoc (kq.rep ru) (kq.QH (wk.mono s7))
   ·intro σ H6 c5;symm;obtain⟨k6,FP,zR,zS,⟨us,uZ,wk⟩,z3,z4,rfl⟩:=c5;nofun;rw[<-LM,aaJ (aav _)] at wk;exact hN _ k6 FP zR zS ⟨us,uZ,wk⟩ _ _
  intro H6 k6 FP zR zS p5_ z3 z4;symm;obtain⟨us,uZ,wk⟩:=p5_;nofun;simp_all only[vK,tDNewK];intro tb yD;have e1:tb≠c:=λz=>by rw[z,FP] at yD;cases yD
  have e2:tb≠sp:=λz=>by rw[z,zR] at yD;cases yD
  have e3:tb≠mo:=λz=>by rw[z,zS] at yD;cases yD
  have e4:tb≠wh:=λz=>by rw[z,uZ] at yD;cases yD
  have LP:H tb=none:=by
   cases h0:H tb with
   | none=>rfl
   | some o=>rw[k6 _ _ e1 h0] at yD;cases yD
  refine⟨_,_,_,by rw[aE (Ne.symm e1)];exact FP,T.aQ,T.na_Course_tables,by show(4:Nat)<1000;decide,kk tb _ (λa o ac ha=>?_) LP (by rw[aE e1,ai]) ⟨dx,sp,mo,wh,us,n0,?_,by rw[bX (Ne.symm e2),aE Jf,aE (Ne.symm e2)];exact zR,by rw[bX (Ne.symm e3),aE OH,aE (Ne.symm e3)];exact zS,by rw[bX (Ne.symm e4),aE Zv,aE (Ne.symm e4)];exact uZ,?_,?_⟩⟩
  ·rw[aE ac,aE (λz=>by rw[z,LP] at ha;cases ha)];exact k6 _ _ ac ha
  ·rw[bX (Ne.symm e1),ai];show some (HO.ins _ _ (if Str.ofString "spots"=Str.ofString "tables" then _ else _::(if Str.ofString "mosts"=Str.ofString "tables" then _ else _::(if Str.ofString "first"=Str.ofString "tables" then _ else _::(if Str.ofString "whats"=Str.ofString "tables" then _ else _)))))=_;rw[if_neg (by ac_rfl),if_neg (by ac_rfl),if_neg (by ac_rfl),if_neg (by ac_rfl)];rfl
  ·have JF:upd H6 tb (.dK []) c=_:=(aE (Ne.symm e1)).trans FP;refine((Kp.of (ag yD)).trans ((Kp.upd (o:=_) (λvs e=>by rw[JF] at e;cases e) (λvs e=>by rw[JF] at e;cases e)).trans (Kp.dg (tb:=tb) (kvs:=[]) ?_))).QH wk;rw[aE e1,ai]
  ·rw[List.head?_map,List.head?_eq_getElem?,Zu];rfl
theorem lF:bf ["course","finder","state","rows"] ["course","finder","state"] (au (top 39)):=.mk
theorem HW (T:fj P w base K mg aH aI aF aV aq aD):iB P w K mg base (cN P w) 4 "pick_ways" ["course","finder","state"] (BX P w aq aD aV aF):=by
 have d9:=Ci T;have fI:=Cg T;have cR:=wQ T;refine T.uD.fB (λ_ _ _ _ _ _=>uH λ_ _ _=>rfl) λf fd F=>F.E9 lF (λvs H Q E h=>?_) (λbZ A outer s H vs Q E hr h=>?_)
 ·obtain⟨_,_,_,_,_,_,_,_,_,_,_,rfl,_⟩:=h;rfl
 ·symm;obtain⟨c,fa,sv,Fr,l,n,g,ss,st,wo,rs,rfl,co,gg,fi,fr,tG,ln,lk,kE,kQ⟩:=h;nofun;clear G_;have nd:=lF.nd;have wM:A.handled=none:=hr.hd;refine⟨_,(ao (aT (i:=3) (dF d9 T.aQ (pv 0) (aa (pv 2) af)))
  (ao (bP (aP cw (bg bM (by rfl) T.z_len aaH (aa (pv 3) af)) ae (aX _)) (aw (hJ rfl T.k_NoWay T.x_NoWay wM (aa aL af) (he:=se rfl) (hpl:=na rfl)))
   bw)
  (aw (aW (Bg rfl (N:=["course","finder","state","rows"]) (so:=au (top 39)) (N':=["row","course","finder","state"]) (k:=1) (fr:=[0,1,2]) rfl rfl ⟨rfl,by ac_rfl,by ac_rfl,by ac_rfl,rfl,by ac_rfl,by ac_rfl⟩ (bJ (K:=K) (pv 3)) (λ_ _ _ _ _=>(aO (i:=0) (show(["row","course","finder","state"]:List Str).Nodup by ac_rfl) rfl (Or.inl rfl))) (λ_ _ _ _ _=>cX)
   (λ_ _ _ _ _=>(dF cR T.cf (pv 2) (aa (dF fI T.aQ (pv 1) (aa (pv 3) (aa (pv 0) (aa ae af)))) af) (hx:=Bf)))))))),?_⟩
  refine(?_:let cH:TS:=_;let cI:TS:=_;let cJ:TS:=_;tSeq cH (tSeq cI cJ) _ _ _);intro cH cI cJ;have sl:=sizeLine_eq;symm;obtain⟨dx,sp,mo,wh,tb,us,Cf,h1,h2,h3,h4,h5,h6⟩:=id co;obtain⟨Ji,Zw,Zx,f1,f2,f3,f4,f5,f6,f7,f8⟩:=id fi;obtain⟨sa,cl,rfl,qC,jG⟩:=id tG;nofun;clear G_;have gx:=gg.wt _ (fo lk);have lp:∀{a b c d e:V},List.lookup (Str.ofString "open_rows") [(Str.ofString "spots",a),(Str.ofString "mosts",b),(Str.ofString "first",c),(Str.ofString "whats",d),(Str.ofString "tables",e)]=none:=eC (by ac_rfl) (by ac_rfl) (by ac_rfl) (by ac_rfl) (by ac_rfl);have Ak:∀{a b c d e:V},List.lookup (Str.ofString "by_row") [(Str.ofString "spots",a),(Str.ofString "mosts",b),(Str.ofString "first",c),(Str.ofString "whats",d),(Str.ofString "tables",e)]=none:=eC (by ac_rfl) (by ac_rfl) (by ac_rfl) (by ac_rfl) (by ac_rfl);have Q4:∀{a b:V},List.lookup (Str.ofString "number_of") [(Str.ofString "states",a),(Str.ofString "numbers",b)]=none:=wJ (by ac_rfl) (by ac_rfl);change tSeq _ _ _ _ _;refine bo (λN=>∀H1,aA H H1->∀p xs,H p=none->H1 p=some (.lst xs)->bh (b9 H l n) (((fz g.cs st.2 (.pick wo rs)).map HH).map nh) xs->N [some (.ref c),some (.ref fa),some (.ref sa),some (.ref p)] H1) (λN hN=>?_) ?_
  ·simp_all only[c7,BL];refine⟨_,_,aR _ _ h1,lp,b9 H l n,aR,g,co,gg,st.1,st.2,tG.mono aR,ln,_,lk,λp xs H1 s1 n1 e1 r1=>hN _ s1 p xs n1 e1 r1⟩
  rintro H1 s1 p xs np hp uX;have wR:=uX.length;rw[aat,aat] at wR;have Ol:(fz g.cs st.2 (.pick wo rs)).length<=100:=aaI (List.length_filter_le _ _) gx.1
  by_cases ne:fz g.cs st.2 (.pick wo rs)=[]
  case pos=>
   rw[ne] at wR;have wR:0=xs.length:=wR;simp_all only[hp,tRaise];rw[if_pos (by omega)];exact⟨by decide,kE ne _ s1⟩
  symm;obtain⟨ts,SS,go,tE,kM,kk⟩:=kQ ne;nofun;clear G_;unfold Goes at go;rw[lk] at go;symm;obtain⟨_,tl,al⟩:=go;nofun;clear G_;have ne0:0< (fz g.cs st.2 (.pick wo rs)).length:=List.length_pos_iff.mpr ne;clear kE kQ;have row:∀r∈fz g.cs st.2 (.pick wo rs),r.ds.length<=100/\∀d∈r.ds,qL g.cs d:=λr hr=>gx.2 r (List.mem_filter.mp hr).1;generalize fz g.cs st.2 (.pick wo rs)=os at *;simp_all only[hp];rw[if_neg (by omega)];have pl:p≠l:=λz=>by rw[z,f3] at np;cases np
  have pn:p≠n:=λz=>by rw[z,f5] at np;cases np
  refine⟨⟨_,bT.of hp⟩,BQ (src_list (Ok:=λH'=>b9 H' l n p=some (.lst xs)) (λH' k=>bT.of (aR _ _ k))) (λi ys σ H'=>aA (b9 H l n) (b9 H' l n)/\km P w aD Fr H' fa l n (aJ ss (ts.take i))/\b9 H' l n p=some (.lst xs)/\(120< (aJ ss ts).length\/ys=(ts.take i).map (λt=>V.int ((SS.idxOf t:Nat):Int)))/\∃z,σ=[z,some (.ref c),some (.ref fa),some (.ref sa)]) ⟨bN s1,fi.mono s1,by rw[cB pl pn];exact hp,.inr rfl,_,rfl⟩ (λ_ _ _ _ h=>h.2.2.1) (by omega) ?_ ?_⟩
  ·intro i x σ H3 ys H2 Q' N hi p9_ Q5 y1 _;symm;obtain⟨k2,Eo,E5,OM,z,rfl⟩:=p9_;obtain⟨rfl,ex⟩:=Q5;obtain⟨dd,ed,rd⟩:=uX.get ex;rw[aau,aau] at ed;obtain⟨r4,e4,rfl⟩:=Option.map_eq_some_iff.mp ed;obtain⟨r,er,rfl⟩:=Option.map_eq_some_iff.mp e4;obtain⟨t,et,gr,ht⟩:=al i r er;obtain⟨q1,q2⟩:=row r (aaC er);nofun;unfold Zf at gr;symm;obtain⟨gW,ak,e9⟩:=Option.map_eq_some_iff.mp gr;subst e9;have tk:ts.take (i+1)=ts.take i++ [(gW,r.ds.foldl (eU g.cs 0) st.2)]:=by rw[aaQ,et];rfl
   have ea:aJ ss (ts.take (i+1))=eF (aJ ss (ts.take i)) (gW,r.ds.foldl (eU g.cs 0) st.2):=by
    rw[tk];unfold aJ;rw[abf];rfl
   have ah:mz (aJ ss (ts.take (i+1))) (aJ ss ts):=by
    have:=dJ (ts.drop (i+1)) (aJ ss (ts.take (i+1)));unfold aJ at this ⊢;rw[<-abf,List.take_append_drop] at this;exact this
   have Ck:aA (b9 H l n) H2:=k2.trans aR;obtain⟨Zs,LB,QV,u1,u2,u3,u4,u5,u6,u7,u8⟩:=id Eo;nofun;simp_all only[c7,pP,BI,sE];refine⟨_,_,aR _ _ u1,Q4,_,_,Ck _ _ h1,Ak,g,co.mono Ck,gg,st.1,st.2,tG.mono Ck,_,_,r.ds,r.to,rd.mono Ck,q2,q1,ln,_,gW,ak,λa b H5 s5 na nb e1 e2=>?_⟩;have LQ:a≠l:=λz=>by rw[z,u3] at na;cases na
   have HX:a≠n:=λz=>by rw[z,u5] at na;cases na
   have CP:b≠l:=λz=>by rw[z,u3] at nb;cases nb
   have HY:b≠n:=λz=>by rw[z,u5] at nb;cases nb
   have Q6:Fr b:=fr b (by
    cases h0:H b with
    | none=>rfl
    | some o=>rw[Ck _ _ (by rw[cB CP HY];exact h0)] at nb;cases nb)
   have Q7:zJ Fr (b9 H5 l n) (.ref a) gW (r.ds.foldl (eU g.cs 0) st.2):=⟨a,b,rfl,by rw[cB LQ HX];exact e1,by rw[cB CP HY];exact e2,Q6⟩
   have Q8:(r.ds.foldl (eU g.cs 0) st.2).length<=100:=by rw[ia,ln];exact gg.lc
   refine⟨Fr,l,n,_,Eo.mono s5,(gW,_),Q7,ht,Q8,λvZ full H6 s6=>kM ?_ _ (k2.trans (bN (s5.trans s6))),λ_ H6 s6 Q9=>y1 _ _ _ ⟨k2.trans ((bN s5).trans s6),by rw[ea];exact Q9,s6 _ _ (bN s5 _ _ E5),?_,_,rfl⟩⟩
   ·refine aaL ?_ ah.len;rw[ea];unfold eF;rw[if_neg vZ,aay,full,aa0]
    decide
   ·by_cases c:120< (aJ ss ts).length
    ·exact .inl c
    ·refine .inr ?_;have mem:(gW,r.ds.foldl (eU g.cs 0) st.2)∈aJ ss (ts.take (i+1)):=by rw[ea];exact oZ _ _
     rw[OM.resolve_left c,tk,aaK,aaw,aaT,(ah.trans (tE (by omega))).idx mem,ea,o4]
  ·intro ys σ H2 Ek D Ra CQ;symm;obtain⟨k2,Eo,E5,OM,z,rfl⟩:=Ek;rw[<-wR,<-tl,aaJ (aav _)] at Eo OM;obtain⟨Zs,LB,QV,u1,u2,u3,u4,u5,u6,u7,u8⟩:=id Eo;nofun;have le:(aJ ss ts).length<=120:=u8;rw[OM.resolve_left (by omega)];have Dl:D≠l:=λz=>by rw[z,u3] at CQ;cases CQ
   have Dn:D≠n:=λz=>by rw[z,u5] at CQ;cases CQ
   exact kk le D _ (k2.trans (bN (ag CQ))) (Eo.mono (ag CQ)) (none_of s1 Ra) (by rw[cB Dl Dn,ai])
theorem gu:bf ["self","state"] ["self","state"] (au (inClass (top 36) 8)):=.mk
theorem va {a b c d e:V}:List.lookup (Str.ofString "tables") [(Str.ofString "spots",a),(Str.ofString "mosts",b),(Str.ofString "first",c),(Str.ofString "whats",d),(Str.ofString "tables",e)]=some e:=by
 rw[dQ (by ac_rfl),dQ (by ac_rfl),dQ (by ac_rfl),dQ (by ac_rfl)];exact abj
theorem HZ (T:fj P w base K mg aH aI aF aV aq aD):fL P w K mg base (cN P w) 7 aq "table_at" ["self","state"] (Fy aq):=by
 have b7:=o9 T;have iK:=FI T;refine T.kg.fB (λ_ _ _ _ _ _=>gS λ_ _=>rfl) λf fd F=>F.gR gu (λvs H Q E h=>?_) (λbZ A outer s H vs Q E hr h=>?_)
 ·obtain⟨_,_,rfl,_⟩:=mZ h;rfl
 ·symm;obtain⟨c,sv,rfl,g,nm,ns,tb,co,st,kvs,mV,Zy,ps,t,b,rs,lk,gl,l4,kF,kN⟩:=mZ h;nofun;have nd:=gu.nd;refine⟨_,(ao (bP (vB (qy (fk hr) (aG aB (pv 1) ae) (cA (pv 0) rfl))) (aw (nF (fk hr) (cA (pv 0) rfl) (aG aB (pv 1) ae) (bI iK (aa (aG aB (dF b7 T.aQ (pv 0) (aa (pv 1) af)) ae) af)) rfl))
   bw)
  (aw (aW (fg (fk hr) (cA (pv 0) rfl) (aG aB (pv 1) ae) (λ_ _=>rfl))))),?_⟩
  have sl:=sizeLine_eq;symm;obtain⟨dx,sp,mo,wh,us,Cf,h1,h2,h3,h4,h5,h6⟩:=id co;obtain⟨sa,cl,rfl,qC,jG⟩:=id st;nofun;have Jj:=bU _ _ h1;have lp:∀{a b c d e:V},List.lookup (Str.ofString "what_at") [(Str.ofString "spots",a),(Str.ofString "mosts",b),(Str.ofString "first",c),(Str.ofString "whats",d),(Str.ofString "tables",e)]=none:=eC (by ac_rfl) (by ac_rfl) (by ac_rfl) (by ac_rfl) (by ac_rfl);cases hv:eE kvs (Sum.inr nm) with
  | some v=>
   simp_all only[eG,qC];refine⟨_,_,_,Jj,T.aQ,T.na_Course_tables,_,va,_,rfl,_,.inl ⟨kvs,Sum.inr nm,.inl mV,rfl,hv.symm⟩,?_⟩;rw[if_neg (by simp)];exact⟨_,_,_,Jj,T.aQ,T.na_Course_tables,_,va,_,rfl,_,.inl ⟨kvs,Sum.inr nm,.inl mV,rfl,hv.symm⟩,kF v hv⟩
  | none=>
   simp_all only[eG,c7,qC,oW,HG,sDPut];refine⟨_,_,_,Jj,T.aQ,T.na_Course_tables,_,va,_,rfl,_,.inl ⟨kvs,Sum.inr nm,.inl mV,rfl,hv.symm⟩,?_⟩;rw[if_pos (by rfl)];refine⟨_,_,Jj,lp,dg H tb,bU,g,co.co,nm,ns,st,_,lk,λu ru=>?_⟩;symm;obtain⟨p,x1,x2,x3,x4,rfl,hp,r1,r2,r3,r4⟩:=dw.mp (show Rep _ (.tup _) u from ru);obtain⟨a,rfl,pl⟩:=yq r2;nofun;refine⟨_,rfl,_,bU _ _ hp,_,rfl,_,rfl,ps,pl.mono bU,gl,l4,λp2 H1 s1 n1 rt=>?_⟩;have ct:c≠tb:=λz=>by rw[z] at h1;unfold dg at h1;rw[if_pos rfl] at h1;cases h1
   have sat:sa≠tb:=λz=>by rw[z,mV] at qC;cases qC
   refine⟨_,_,_,s1 _ _ Jj,T.aQ,T.na_Course_tables,_,va,_,s1 _ _ qC,_,rfl,_,rfl,_,.inl ⟨kvs,Sum.inr nm,s1 _ _ mV,rfl,by omega,rfl⟩,?_⟩;rw[nN hv];refine⟨_,_,_,by rw[aE ct];exact s1 _ _ Jj,T.aQ,T.na_Course_tables,_,va,_,by rw[aE sat];exact s1 _ _ qC,_,rfl,_,rfl,_,.inl ⟨_,Sum.inr nm,.inl ai,rfl,?_⟩,kN hv p2 H1 s1 n1 rt⟩;rw[uP hv,if_pos rfl]
theorem gw:bf ["self","state","value","rows"] ["self","state","value"] (au (inClass (top 36) 7)):=.mk
theorem LR (T:fj P w base K mg aH aI aF aV aq aD):fL P w K mg base (cN P w) 4 aq "by_value" ["self","state","value"] (Lb aq):=by
 have b7:=o9 T;have fI:=Cg T;refine T.kf.fB (λ_ _ _ _ _ _=>uH λ_ _ _=>rfl) λf fd F=>F.gR gw (λvs H Q E h=>?_) (λbZ A outer s H vs Q E hr h=>?_)
 ·obtain⟨_,_,_,rfl,_⟩:=Fn h;rfl
 ·symm;obtain⟨c,sv,v,rfl,g,co,gg,nm,ns,st,ln,jl,t,b,rs,lk,r,ro,fu,gW,ak,kk⟩:=Fn h;nofun;have nd:=gw.nd;refine⟨_,(ao (DE (i:=3) rfl nd rfl rfl (N:=["self","state","value","rows"]) (so:=au (inClass (top 36) 7)) (N':=["row","value"]) (k:=1) (fr:=[2]) rfl rfl ⟨rfl,by ac_rfl,by ac_rfl,by ac_rfl,rfl,by ac_rfl,by ac_rfl⟩ (bJ (K:=K) (aG aB (dF b7 T.aQ (pv 0) (aa (pv 1) af)) ae)) (λ_ _ _ _ _=>(aO (i:=0) (show(["row","value"]:List Str).Nodup by ac_rfl) rfl (Or.inl rfl))) (λ_ _ _ _ _=>(rL (AD mD mD (aG aB (pv 0) ae) (pv 1) (aG aB (pv 0) ae))))
   (λ_ _ _ _ _=>(pv 0)))
  (aw (aW (dF fI T.aQ (pv 0) (aa (pv 1) (aa (aG bx (pv 3) ae) (aa (pv 2) af))))))),?_⟩
  have sl:=sizeLine_eq;symm;obtain⟨dx,sp,mo,wh,tb,us,Cf,h1,h2,h3,h4,h5,h6⟩:=id co;obtain⟨sa,cl,rfl,qC,jG⟩:=id st;obtain⟨g0,g1,g2⟩:=gg.wt _ (fo lk);nofun;have lp:∀{a b c d e:V},List.lookup (Str.ofString "what_at") [(Str.ofString "spots",a),(Str.ofString "mosts",b),(Str.ofString "first",c),(Str.ofString "whats",d),(Str.ofString "tables",e)]=none:=eC (by ac_rfl) (by ac_rfl) (by ac_rfl) (by ac_rfl) (by ac_rfl);have Ak:∀{a b c d e:V},List.lookup (Str.ofString "by_row") [(Str.ofString "spots",a),(Str.ofString "mosts",b),(Str.ofString "first",c),(Str.ofString "whats",d),(Str.ofString "tables",e)]=none:=eC (by ac_rfl) (by ac_rfl) (by ac_rfl) (by ac_rfl) (by ac_rfl);change tSeq _ _ _ _ _;refine bo (λN=>∀H1,aA H H1->∀p xs,H1 p=some (.lst xs)->bh H (((rs.filter λr=>decide (r.1<=v) && decide (v<=r.2.1)).map yi).map nh) xs->N [some (.ref c),some (.ref sa),some (.int v),some (.ref p)] H1) (λN hN=>?_) ?_
  ·simp_all only[c7,oW];refine⟨_,_,h1,lp,H,aA.refl _,g,co,nm,ns,st,_,lk,λu ru=>?_⟩;symm;obtain⟨p,x1,x2,x3,x4,rfl,hp,r1,r2,r3,r4⟩:=dw.mp (show Rep H (.tup _) u from ru);obtain⟨rl,xs,rfl,yC,uX⟩:=aZ.mp r4;nofun;have len:=uX.length;rw[aat,aat] at len;have zl:(xs.zip rs).length=xs.length:=by rw[List.length_zip];omega
   refine⟨_,rfl,_,hp,_,rfl,_,rfl,⟨_,bT.of yC⟩,?_⟩;have S:Src (C8 K rl) (aA H) xs.length _:=src_list (λH' s'=>bT.of (s' _ _ yC));rw[<-zl] at S;refine me (xs.zip rs) (λx=>if (decide (x.2.1<=v) && decide (v<=x.2.2.1))=true then some x.1 else none) S (λ_ _ _ _ h=>h.1) (by omega) ?_ ?_
   ·rintro i ⟨x,r'⟩ y LG ⟨_,ey⟩ Y N3 y1 y2;obtain⟨e1,e2⟩:=List.getElem?_zip_eq_some.mp LG;rw[e1] at ey;cases ey;symm;obtain⟨dd,ed,rd⟩:=uX.get e1;nofun;rw[aau,aau,e2] at ed;cases ed;symm;obtain⟨p',a',b',c',d',rfl,Ai,q1,q2,q3,q4⟩:=dw.mp (show Rep H (.tup _) x from rd);nofun;rw[show a'=.int r'.1 from aN.mp q1,show b'=.int r'.2.1 from aN.mp q2] at Ai;simp_all only[Ai]
    by_cases c1:r'.1<=v
    ·rw[if_pos c1]
     by_cases c2:v<=r'.2.1
     ·rw[if_pos c2];exact y1 _ (if_pos (by simp [c1,c2]))
     ·rw[if_neg c2];exact y2 (if_neg (by simp [c2]))
    ·rw[if_neg c1,if_neg (by decide)];exact y2 (if_neg (by simp [c1]))
   ·intro D n1 n2;exact hN _ (ag n2) D _ ai (qQ uX)
  rintro H1 s1 p xs hp uX;have hd:(rs.filter λr=>decide (r.1<=v) && decide (v<=r.2.1)).head?=some r:=by rw[List.head?_filter];exact ro
  obtain⟨rest,er⟩:∃rest,(rs.filter λr=>decide (r.1<=v) && decide (v<=r.2.1))=r::rest:=by
   cases h:rs.filter λr=>decide (r.1<=v) && decide (v<=r.2.1) with
   | nil=>rw[h] at hd;cases hd
   | cons a l=>rw[h] at hd;cases hd;exact⟨l,rfl⟩
  rw[er] at uX;symm;obtain⟨y,ys,rfl,ry,_⟩:=aS.mp uX;have Rb:r∈rs:=List.mem_of_find?_eq_some ro;obtain⟨q1,q2⟩:=g2 r Rb;nofun;simp_all only[c7,BI];refine⟨_,_,s1 _ _ h1,Ak,_,hp,_,(b5 rfl:pM (y::ys) ((0:Nat):Int)=_),g,co.mono s1,gg,nm,ns,st.mono s1,_,_,r.2.2.1,r.2.2.2,ry.mono s1,q2,q1,ln,fu,gW,ak,λp' l' H' s' n1 n2 e1 e2=>kk p' l' H' (s1.trans s') (none_of s1 n1) (none_of s1 n2) e1 e2⟩
theorem jZ:bf ["course","finder","state","table","ways","value","weight"] ["course","finder","state"] (au (top 38)):=.mk
theorem Ia (T:fj P w base K mg aH aI aF aV aq aD):iB P w K mg base (cN P w) 8 "throw_ways" ["course","finder","state"] (Fz P w aq aD aF):=by
 have lG:=HZ T;have lH:=LR T;have cR:=wQ T;have vb:=HN T;have zT:=Ly T;refine T.si.fB (λ_ _ _ _ _ _=>uH λ_ _ _=>rfl) λf fd F=>F.E9 jZ (λvs H Q E h=>?_) (λbZ A outer s H vs Q E hr h=>?_)
 ·obtain⟨_,_,_,_,_,_,_,_,_,_,_,_,_,_,_,_,_,rfl,_⟩:=h;rfl
 ·symm;obtain⟨c,fa,sv,Fr,l,n,tb,g,ss,st,ts,jl,t,b,rs,SS,m,rfl,co,gg,fi,LS,LU,fr,tG,ln,lk,go,tE,kM,kk⟩:=h;nofun;have nd:=jZ.nd;have wM:A.handled=none:=hr.hd;refine⟨_,(ao (aT (i:=3) (dF lG T.aQ (pv 0) (aa (pv 2) af)))
  (ao (aT (i:=4) (bu af))
  (ao (cK PassesOwn.leaving rfl (bJ (K:=K) (bI zT (aa (pv 3) (aa (bI vb (aa (pv 3) af)) af)))) (dE (K:=K) (n:=2) rfl (bD (aO (i:=5) nd rfl (Or.inl rfl)) (bD (aO (i:=6) nd rfl (Or.inl rfl)) c9))) (aw (cg (eI aaU aa5 aa6 cQ.r (pv 4) (aa (aM (aa (pv 6) (aa (dF cR T.cf (pv 1) (aa (dF lH T.aQ (pv 0) (aa (pv 2) (aa (pv 5) af))) af) (hx:=kL)) af))) af)))))
  (aw (aW (pv 4)))))),?_⟩
  refine(?_:let cH:TS:=_;let cI:TS:=_;let cJ:TS:=_;let eD:TS:=_;tSeq cH (tSeq cI (tSeq cJ eD)) _ _ _);intro cH cI cJ eD;have sl:=sizeLine_eq;unfold dG at go;rw[lk] at go;symm;obtain⟨ps,B,rfl,gl,l4,isB,tl,al⟩:=go;obtain⟨dx,sp,mo,wh,us,Cf,h1,h2,h3,h4,h5,h6⟩:=id co;obtain⟨Ji,Zw,Zx,f1,f2,f3,f4,f5,f6,f7,f8⟩:=id fi;obtain⟨sa,cl,rfl,qC,jG⟩:=id tG;obtain⟨kvs,mV,lkv,tabs⟩:=id LS;nofun;have Rc:=mw gl;have tl1:(bK ps).length<=1296:=Rc.2.2.1;have lp:∀{a b c d e:V},List.lookup (Str.ofString "table_at") [(Str.ofString "spots",a),(Str.ofString "mosts",b),(Str.ofString "first",c),(Str.ofString "whats",d),(Str.ofString "tables",e)]=none:=eC (by ac_rfl) (by ac_rfl) (by ac_rfl) (by ac_rfl) (by ac_rfl);have Ak:∀{a b c d e:V},List.lookup (Str.ofString "by_value") [(Str.ofString "spots",a),(Str.ofString "mosts",b),(Str.ofString "first",c),(Str.ofString "whats",d),(Str.ofString "tables",e)]=none:=eC (by ac_rfl) (by ac_rfl) (by ac_rfl) (by ac_rfl) (by ac_rfl);have Q4:∀{a b:V},List.lookup (Str.ofString "number_of") [(Str.ofString "states",a),(Str.ofString "numbers",b)]=none:=wJ (by ac_rfl) (by ac_rfl);change tSeq _ _ _ _ _;refine bo (λN=>∀H1 u,aA (cE H l n tb) (cE H1 l n tb)->km P w aD Fr H1 fa l n ss->zM H1 (cE H1 l n tb) tb g (m+1) Fr->(∀a,H1 a=none->H a=none)->Rep (cE H1 l n tb) (gf (bK ps)) u->N [some (.ref c),some (.ref fa),some (.ref sa),some u,none,none,none] H1) (λN hN=>?_) ?_
  ·simp_all only[c7,Fy];refine⟨_,_,cL _ _ h1,lp,g,st.1,st.2,tb,co.mono BR,tG.mono cL,kvs,mV,by omega,ps,t,b,rs,lk,gl,l4,λv hv=>?_,λhv p H1 s1 np rt=>?_⟩
   ·symm;obtain⟨FQ,t',b',B7,vz,_,rep⟩:=tabs _ _ hv;nofun;rw[lk] at vz
    injection vz with vz
    injection vz with vz _ _ _
    rw[<-sC vz] at rep;exact hN _ v (aA.refl _) fi (LS.mono (aA.refl _) (by omega)) (λ_ h=>h) rep
   ·have sT:aA (dg H tb) (dg (upd H1 tb (.dK (kvs++ [(Sum.inr st.1,V.ref p)]))) tb):=by rw[lA];exact bO s1
    have s3:=Ed (l:=l) (n:=n) sT;have kt:∀a vs,H1 a=some (.tup vs)->cE (upd H1 tb (.dK (kvs++ [(Sum.inr st.1,V.ref p)]))) l n tb a=some (.tup vs):=λa vs e=>by
     have e1:a≠l:=λz=>by rw[z,s1 _ _ f3] at e;cases e
     have e2:a≠n:=λz=>by rw[z,s1 _ _ f5] at e;cases e
     have e3:a≠tb:=λz=>by rw[z,s1 _ _ mV] at e;cases e
     rw[cU e1 e2 e3,aE e3];exact e
    have kp:∀o,H1 p=some o->cE (upd H1 tb (.dK (kvs++ [(Sum.inr st.1,V.ref p)]))) l n tb p=some o:=λo e=>by
     have e1:p≠l:=λz=>by rw[z,f3] at np;cases np
     have e2:p≠n:=λz=>by rw[z,f5] at np;cases np
     have e3:p≠tb:=λz=>by rw[z,mV] at np;cases np
     rw[cU e1 e2 e3,aE e3];exact e
    have Zz:=yr rt kp kt;refine hN _ (.ref p) s3 (fi.tb sT mV) ⟨_,ai,by rw[aay,aa0];omega,λnm v e=>?_⟩ (λa ha=>?_) Zz
    ·rw[uP hv] at e
     by_cases z:(Sum.inr st.1:Key)=Sum.inr nm
     ·rw[if_pos z] at e
      injection z with z
      injection e with e
      subst e;exact⟨ps,t,b,rs,z▸lk,⟨p,rfl,fr p np⟩,Zz⟩
     ·rw[if_neg z] at e;symm;obtain⟨FQ,t',b',B7,a1,fp,a2⟩:=tabs nm v e;nofun;exact⟨FQ,t',b',B7,a1,fp,a2.mono s3⟩
    ·have z:a≠tb:=λz=>by rw[z,ai] at ha;cases ha
     rw[aE z] at ha;exact none_of s1 ha
  rintro H1 u s1 FR ON ZA ru;symm;obtain⟨Ep,iZ,Rf,LV⟩:=id ON;obtain⟨dxg,ZC,ZD,g1,g2,g3,g4,g5,g6,g7,g8⟩:=id FR;nofun;change tSeq _ _ _ _ _;refine bo (λN=>∀H2,aA H1 H2->∀w',H1 w'=none->H2 w'=some (.lst [])->N [some (.ref c),some (.ref fa),some (.ref sa),some u,some (.ref w'),none,none] H2) (λN hN=>?_) ?_
  ·simp_all only[];exact⟨aaz _,λw' nw=>hN _ (ag nw) w' nw ai⟩
  rintro H2 s2 w' nw ZE;simp_all only[Fx,La];refine⟨_,(ru.mono cL).mono s2,_,Rc,λB' H3 s3 LW=>?_⟩;have eB:=uO LW isB;subst eB;refine⟨_,(ru.mono cL).mono (s2.trans s3),_,Rc,LW,λwl H4 s4 Er r4=>?_⟩;have FT:aA H1 H4:=s2.trans (s3.trans s4);have Rg:aA H1 H3:=s2.trans s3;have Rh:w'≠l:=λz=>by rw[z,g3] at nw;cases nw
  have ZF:w'≠n:=λz=>by rw[z,g5] at nw;cases nw
  have ZG:w'≠tb:=λz=>by rw[z,iZ] at nw;cases nw
  have ZH:H4 w'=some (.lst []):=(s3.trans s4) _ _ ZE;let X:Hp->Hp:=λH'=>dg (cE H' l n tb) w';have Es:∀{H':Hp} {a:Addr},a≠l->a≠n->a≠tb->a≠w'->X H' a=H' a:=λh1 h2 h3 h4=>by
   show dg (cE _ l n tb) w' _=_;rw[bX h4,cU h1 h2 h3]
  have ZI:∀{H':Hp} {a:Addr} {o:HO},X H' a=some o->a≠l/\a≠n/\a≠tb/\a≠w':=λ{H' a o} e=>by
   have h4:a≠w':=λz=>by
    have e:(if a=w' then none else cE H' l n tb a)=some o:=e;rw[if_pos z] at e;cases e
   have e:dg (cE H' l n tb) w' a=some o:=e;rw[bX h4] at e;symm;obtain⟨h1,h2,h3⟩:=gh e;nofun;exact⟨h1,h2,h3,h4⟩
  have Cm:∀{H':Hp},aA (X H') H':=bU.trans cL;have LX:aA (cE H1 l n tb) (X H4):=λa o e=>by
   symm;obtain⟨e1,e2,e3⟩:=gh e;nofun;rw[cU e1 e2 e3] at e;rw[Es e1 e2 e3 (λz=>by rw[z,nw] at e;cases e)];exact FT _ _ e
  have r4':Rep (X H4) (ji (Nm.weigh (bK ps) B')) (.ref wl):=by
   refine BU r4 (λo e=>?_) λa vs e=>?_
   ·rw[Es (λz=>by rw[z,Rg _ _ g3] at Er;cases Er) (λz=>by rw[z,Rg _ _ g5] at Er;cases Er) (λz=>by rw[z,Rg _ _ iZ] at Er;cases Er) (λz=>by rw[z,s3 _ _ ZE] at Er;cases Er)];exact e
   ·rw[Es (λz=>by rw[z,FT _ _ g3] at e;cases e) (λz=>by rw[z,FT _ _ g5] at e;cases e) (λz=>by rw[z,FT _ _ iZ] at e;cases e) (λz=>by rw[z,ZH] at e;cases e)];exact e
  symm;obtain⟨_,zs,ez,vX,rz⟩:=aZ.mp r4';nofun;cases ez;have zl:=rz.length;rw[aat] at zl;have Ri:(Nm.weigh (bK ps) B').length=(bK ps).length:=by unfold Nm.weigh;rw[aat]
  let HJ:Addr->Prop:=λa=>Fr a/\a≠w';refine⟨⟨_,bT.of (Cm _ _ vX)⟩,bY (src_list (Ok:=λH'=>X H' wl=some (.lst zs)) (λH' k=>bT.of (Cm _ _ k))) (λi σ H'=>aA (X H4) (X H')/\km P w aD HJ H' fa l n (aJ ss (dj (ts.take i)))/\H' tb=some (.dK Ep)/\(∃xs,H' w'=some (.lst xs)/\xs.length=i/\(120< (aJ ss (dj ts)).length\/bh (X H') ((ts.take i).map (sy SS)) xs))/\∃z1 z2,σ=[some (.ref c),some (.ref fa),some (.ref sa),some u,some (.ref w'),z1,z2]) ⟨aA.refl _,(FR.fr λa o ha h0=>⟨h0,(λz=>by rw[z,nw] at ha;cases ha)⟩).mono FT,FT _ _ iZ,⟨[],ZH,rfl,.inr (bL.mpr rfl)⟩,_,_,rfl⟩ (λ_ _ _ _ h=>h.1 _ _ vX) ?_ ?_⟩
  ·intro i x σ H6 H5 hi eQ eM;symm;obtain⟨sX,zU,vc,⟨xs,LY,xl,rx⟩,z1,z2,rfl⟩:=eQ;obtain⟨rfl,ex⟩:=eM;obtain⟨dd,ed,rd⟩:=rz.get ex;rw[aau] at ed;obtain⟨x0,e0,rfl⟩:=Option.map_eq_some_iff.mp ed;obtain⟨q,rfl,hq⟩:=dW.mp rd;obtain⟨r,s',ro,et,gt,A2⟩:=al i x0 e0;nofun;unfold QK at gt;symm;obtain⟨gW,ak,e9⟩:=Option.map_eq_some_iff.mp gt;subst e9;have Ib:aA (X H4) H5:=sX.trans Cm;have CS:aA (cE H l n tb) H5:=s1.trans (LX.trans Ib);obtain⟨dx5,xs5,ks5,u1,u2,u3,u4,u5,u6,u7,u8⟩:=id zU;nofun;have tk:ts.take (i+1)=ts.take i++ [(x0.2,(gW,r.2.2.1.foldl (eU g.cs x0.1) st.2))]:=by rw[aaQ,et];rfl
   have ea:aJ ss (dj (ts.take (i+1)))=eF (aJ ss (dj (ts.take i))) (gW,r.2.2.1.foldl (eU g.cs x0.1) st.2):=by
    rw[tk];unfold aJ dj;rw[aaK,abf];rfl
   have ah:mz (aJ ss (dj (ts.take (i+1)))) (aJ ss (dj ts)):=by
    have:=dJ (dj (ts.drop (i+1))) (aJ ss (dj (ts.take (i+1))));unfold aJ dj at this ⊢;rw[<-abf,<-aaK,List.take_append_drop] at this;exact this
   have ty:E3 K "list" (.ref w') H5:=.inl ⟨rfl,_,bT.of LY⟩;refine⟨q,_,rfl,iX.of (Ib _ _ hq),rfl,?_⟩;have FV:∀{H':Hp} {o:HO},X (upd H' w' o)=X H':=λ{H' o}=>by
    funext a;show(if a=w' then none else (if a=tb then none else if a=n then none else if a=l then none else upd H' w' o a))=if a=w' then none else (if a=tb then none else if a=n then none else if a=l then none else H' a)
    by_cases z:a=w'
    ·rw[if_pos z,if_pos z]
    ·rw[if_neg z,if_neg z,aE z]
   have wY:∀{H' sJ:Hp},aA H' sJ->aA (X H') (X sJ):=λs=>bO (bO (bN s));simp_all only[c7,Lb,sE,dt];refine⟨ty,_,_,aR _ _ u1,Q4,_,_,CS _ _ h1,Ak,g,(co.mono CS).co,gg,st.1,st.2,tG.mono CS,ln,_,_,_,_,lk,r,ro,_,gW,ak,λa b' H7 s7 na nb e1 e2=>?_⟩;have LQ:a≠l:=λz=>by rw[z,u3] at na;cases na
   have HX:a≠n:=λz=>by rw[z,u5] at na;cases na
   have CP:b'≠l:=λz=>by rw[z,u3] at nb;cases nb
   have HY:b'≠n:=λz=>by rw[z,u5] at nb;cases nb
   have bt5:b'≠tb:=λz=>by rw[z,vc] at nb;cases nb
   have bw5:b'≠w':=λz=>by rw[z,LY] at nb;cases nb
   have Q6:HJ b':=⟨fr b' (ZA b' (by
    cases h0:H1 b' with
    | none=>rfl
    | some o=>rw[(LX.trans Ib) _ _ (by rw[cU CP HY bt5];exact h0)] at nb;cases nb)),bw5⟩
   have Q7:zJ HJ (b9 H7 l n) (.ref a) gW (r.2.2.1.foldl (eU g.cs x0.1) st.2):=⟨a,b',rfl,by rw[cB LQ HX];exact e1,by rw[cB CP HY];exact e2,Q6⟩
   have Q8:(r.2.2.1.foldl (eU g.cs x0.1) st.2).length<=100:=by rw[ia,ln];exact gg.lc
   refine⟨HJ,l,n,_,zU.mono s7,(gW,_),Q7,A2,Q8,λvZ full H8 s8=>kM ?_ _ (s1.trans (LX.trans (sX.trans ((wY (s7.trans s8)).trans bU)))),λ_ H8 s8 ZJ=>⟨by omega,λe H9 s9 ne ee=>?_⟩⟩
   ·refine aaL ?_ ah.len;rw[ea];unfold eF;rw[if_neg vZ,aay,full,aa0]
    decide
   have xo:tb≠l:=λz=>by rw[z,g3] at iZ;cases iZ
   have LZ:tb≠n:=λz=>by rw[z,g5] at iZ;cases iZ
   have L0:H8 tb=some (.dK Ep):=aR _ _ (s8 _ _ (by rw[cB xo LZ];exact s7 _ _ vc));have Rj:H8 w'=some (.lst xs):=aR _ _ (s8 _ _ (by rw[cB Rh ZF];exact s7 _ _ LY));symm;obtain⟨dx8,xs8,ks8,v1,v2,v3,v4,v5,v6,v7,v8⟩:=id ZJ;nofun;have ZK:aA (X H5) (X H9):=(wY s7).trans ((bO (bO s8)).trans (wY s9));have mem:(gW,r.2.2.1.foldl (eU g.cs x0.1) st.2)∈aJ ss (dj (ts.take (i+1))):=by rw[ea];exact oZ _ _
   have Rk:¬120< (aJ ss (dj ts)).length->SS.idxOf (gW,r.2.2.1.foldl (eU g.cs x0.1) st.2)=(aJ ss (dj (ts.take i))).idxOf (gW,r.2.2.1.foldl (eU g.cs x0.1) st.2):=λc=>by rw[(ah.trans (tE (by omega))).idx mem,ea,o4]
   refine⟨_,s9 _ _ Rj,by omega,by change aA (X _) (X _);rw[FV];exact sX.trans ZK,by rw[ea];exact(ZJ.mono s9).K7 (λa h=>h.2) (s9 _ _ Rj) Rh,by rw[aE (Ne.symm ZG)];exact s9 _ _ L0,⟨_,ai,by rw[aay,xl];rfl,?_⟩,_,rfl⟩
   by_cases c:120< (aJ ss (dj ts)).length
   ·exact .inl c
   refine .inr ?_;change bh (X _) _ _;rw[FV,tk,aaK];refine((rx.resolve_left c).mono ZK).append (aS.mpr ⟨_,_,rfl,bA.mpr ⟨e,_,_,rfl,?_,aN.mpr rfl,aN.mpr (by rw[Rk c])⟩,bL.mpr rfl⟩);rw[Es (λz=>by rw[z,v3] at ne;cases ne) (λz=>by rw[z,v5] at ne;cases ne) (λz=>by rw[z,L0] at ne;cases ne) (λz=>by rw[z,Rj] at ne;cases ne)];exact ee
  ·intro σ H5 c5;symm;obtain⟨sX,zU,vc,⟨xs,LY,xl,rx⟩,z1,z2,rfl⟩:=c5;nofun;rw[<-zl,Ri,<-tl,aaJ (aav _)] at zU rx;have le:(aJ ss (dj ts)).length<=120:=by obtain⟨_,_,_,_,_,_,_,_,_,_,u8⟩:=id zU;exact u8
   have rx:=rx.resolve_left (by omega);simp_all only[];refine kk le w' H5 (s1.trans (LX.trans (sX.trans bU))) (zU.fr λa o _ h=>h.1) ?_ (ZA _ nw) (aZ.mpr ⟨w',xs,rfl,by rw[cU Rh ZF ZG];exact LY,rx.mono bU⟩);exact⟨Ep,vc,Rf,λnm v e=>by obtain⟨FQ,t',b',B7,a1,fp,a2⟩:=LV nm v e;exact⟨FQ,t',b',B7,a1,fp,a2.mono (LX.trans (sX.trans bU))⟩⟩
theorem mW:bf ["course","finder","state","what"] ["course","finder","state"] (au (top 40)):=.mk
theorem L1 (T:fj P w base K mg aH aI aF aV aq aD):iB P w K mg base (cN P w) 9 "taken_up" ["course","finder","state"] (BY P w aq aD aV aF):=by
 have b7:=o9 T;have ku:=HU T;have vd:=HW T;have sR:=Ia T;refine T.wG.fB (λ_ _ _ _ _ _=>uH λ_ _ _=>rfl) λf fd F=>F.E9 mW (λvs H Q E h=>?_) (λbZ A outer s H vs Q E hr h=>?_)
 ·obtain⟨_,_,_,_,_,_,_,_,_,_,_,rfl,_⟩:=h;rfl
 ·symm;obtain⟨c,fa,sv,Fr,l,n,tb,g,ss,st,m,rfl,FW,gg,fi,LS,LU,fr,L3,ln,kE,kQ⟩:=h;nofun;have co:tD aq (b9 H l n) c g:=(FW.mono bU).co;have tG:vy (b9 H l n) sv st.1 st.2:=L3.mono bU;have nd:=mW.nd;have wM:A.handled=none:=hr.hd;refine⟨_,(ao (aT (i:=3) (dF b7 T.aQ (pv 0) (aa (pv 2) af)))
  (ao (bP (aP cw (aG aB (pv 3) ae) aL (aX _)) (aw (aW (aM (aa aL (aa (aG aB (pv 3) ae) (aa (bI sR (aa (pv 0) (aa (pv 1) (aa (pv 2) af))) (hx:=kL)) af))))))
   bw)
  (ao (bP (aP cw (aG aB (pv 3) ae) aL (aX _)) (aw (aW (aM (aa aL (aa (aG aB (pv 3) ae) (aa (bI vd (aa (pv 0) (aa (pv 1) (aa (pv 2) af))) (hx:=kL)) af))))))
   bw)
  (aw (aW (aM (aa aL (aa (dF ku T.aQ (pv 0) (aa (pv 2) af)) af)))))))),?_⟩
  refine(?_:let cH:TS:=_;let cI:TS:=_;let cJ:TS:=_;let eD:TS:=_;tSeq cH (tSeq cI (tSeq cJ eD)) _ _ _);intro cH cI cJ eD;have sl:=sizeLine_eq;symm;obtain⟨kvs,mV,lkv,tabs⟩:=id LS;obtain⟨dx,sp,mo,wh,tb0,us,Cf,h1,h2,h3,h4,h5,h6⟩:=id co;obtain⟨Ji,Zw,Zx,f1,f2,f3,f4,f5,f6,f7,f8⟩:=id fi;obtain⟨sa,cl,rfl,qC,jG⟩:=id tG;nofun;have xo:tb≠l:=λz=>by rw[z,f3] at mV;cases mV
  have LZ:tb≠n:=λz=>by rw[z,f5] at mV;cases mV
  have FX:∀{H':Hp},aA (b9 H l n) (b9 H' l n)->zM H' (cE H' l n tb) tb g (m+1) Fr:=λ{H'} s=>⟨kvs,aR _ _ (s _ _ (by rw[cB xo LZ];exact mV)),by omega,λnm v e=>by obtain⟨FQ,t',b',B7,a1,fp,a2⟩:=tabs nm v e;exact⟨FQ,t',b',B7,a1,fp,a2.mono (bO s)⟩⟩
  by_cases sk:mQ g st
  case pos=>
   have lp1:∀{a b c d e:V},List.lookup (Str.ofString "what_at") [(Str.ofString "spots",a),(Str.ofString "mosts",b),(Str.ofString "first",c),(Str.ofString "whats",d),(Str.ofString "tables",e)]=none:=eC (by ac_rfl) (by ac_rfl) (by ac_rfl) (by ac_rfl) (by ac_rfl);symm;obtain⟨wo,rs,lk,ne⟩:=id sk;nofun;change tSeq _ _ _ _ _;refine bo (λN=>∀u,Rep (b9 H l n) (yj (.pick wo rs)) u->N [some (.ref c),some (.ref fa),some (.ref sa),some u] H) (λN hN=>?_) ?_
   ·simp_all only[c7,oW];exact⟨_,_,aR _ _ h1,lp1,b9 H l n,aR,g,co,st.1,st.2,tG.mono aR,_,lk,λu ru=>hN u ru⟩
   rintro u ru;symm;obtain⟨p,x1,x2,x3,rfl,hp,r1,r2,r3⟩:=cV.mp (show Rep _ (.tup _) u from ru);rw[aK] at r1;rw[aN] at r2;subst r1 r2;nofun;simp_all only[aR _ _ hp,BX];rw[if_neg (by ac_rfl)];exact⟨Fr,l,n,g,co,gg,ss,fi,fr,st,tG,ln,wo,rs,lk,λ_=>kE sk,λz=>absurd ne z⟩
  symm;obtain⟨ts,SS,go,tE,kM,kk⟩:=kQ sk;nofun;have go0:=go;unfold dG at go;have lp:∀{a b c d e:V},List.lookup (Str.ofString "what_at") [(Str.ofString "spots",a),(Str.ofString "mosts",b),(Str.ofString "first",c),(Str.ofString "whats",d),(Str.ofString "tables",e)]=none:=eC (by ac_rfl) (by ac_rfl) (by ac_rfl) (by ac_rfl) (by ac_rfl);have Ak:∀{a b c d e:V},List.lookup (Str.ofString "end_worth") [(Str.ofString "spots",a),(Str.ofString "mosts",b),(Str.ofString "first",c),(Str.ofString "whats",d),(Str.ofString "tables",e)]=none:=eC (by ac_rfl) (by ac_rfl) (by ac_rfl) (by ac_rfl) (by ac_rfl);have L4:∀x t b,look g.ps st.1=some x->ts=[]->D9 g.cs st.2 x=some (t,b)->(∀wo rs,x≠.pick wo rs)->∀p u H1,aA H H1->H p=none->H1 p=some (.tup [.str (Str.ofString "end"),u])->Rep H1 (.tup [.int t,.int b]) u->Q (.ref p) H1:=by
   intro x t b lk e0 ew np p u H1 s1 n1 e1 r1;subst e0;refine kk f8 _ H1 (bO (bN s1)) (fi.mono s1) (FX (bN s1)) λb' ys hb=>?_;have rd:lB g SS st []=.tup [.str (Str.ofString "end"),.tup [.int t,.int b]]:=by
    unfold lB BP;rw[lk];cases x with
    | pick wo rs=>exact absurd rfl (np wo rs)
    | fin _ _=>simp only[ew];rfl
    | score _=>simp only[ew];rfl
    | ask _ _ _ _=>cases ew
    | gX _ _ _ _=>cases ew
   rw[rd];symm;obtain⟨q,y1,y2,rfl,hq,z1,z2⟩:=bA.mp r1;nofun;have tp:∀a vs,H1 a=some (.tup vs)->dg (cE H1 l n tb) b' a=some (.tup vs):=λa vs ha=>by
    have al:a≠l:=λz=>by rw[z,s1 _ _ f3] at ha;cases ha
    have an:a≠n:=λz=>by rw[z,s1 _ _ f5] at ha;cases ha
    have ab:a≠b':=λz=>by rw[z,s1 _ _ hb] at ha;cases ha
    have at':a≠tb:=λz=>by rw[z,s1 _ _ mV] at ha;cases ha
    rw[bX ab,cU al an at'];exact ha
   exact⟨bA.mpr ⟨p,_,_,rfl,tp _ _ e1,aK.mpr rfl,bA.mpr ⟨q,y1,y2,rfl,tp _ _ hq,aN.mpr (aN.mp z1),aN.mpr (aN.mp z2)⟩⟩,p,_,rfl,tp _ _ e1,λx y w e=>by simp at e⟩
  cases lk:look g.ps st.1 with
  | none=>rw[lk] at go;exact go.elim
  | some x=>
  rw[lk] at go;change tSeq _ _ _ _ _;refine bo (λN=>∀u,Rep (b9 H l n) (yj x) u->N [some (.ref c),some (.ref fa),some (.ref sa),some u] H) (λN hN=>?_) ?_
  ·simp_all only[c7,oW];exact⟨_,_,aR _ _ h1,lp,b9 H l n,aR,g,co,st.1,st.2,tG.mono aR,x,lk,λu ru=>hN u ru⟩
  rintro u ru;cases x with
  | pick wo rs=>
   symm;obtain⟨p,x1,x2,x3,rfl,hp,r1,r2,r3⟩:=cV.mp (show Rep _ (.tup _) u from ru);rw[aK] at r1;rw[aN] at r2;subst r1 r2;nofun;simp_all only[aR _ _ hp,BX];rw[if_neg (by ac_rfl)];refine⟨Fr,l,n,g,co,gg,ss,fi,fr,st,tG,ln,wo,rs,lk,(λz=>absurd ⟨wo,rs,lk,z⟩ sk),λ_=>⟨dj ts,go,SS,tE,λc H1 s1=>kM c _ (bO s1),λle p' H1 s1 FR B8 Ai=>⟨by omega,λp2 H2 s2 n2 e2=>kk le _ H2 (bO (s1.trans (bN s2))) (FR.mono s2) (FX (s1.trans (bN s2))) λb ys hb=>?_⟩⟩⟩;symm;obtain⟨dx1,ZC,ZD,u1,u2,u3,u4,u5,u6,u7,u8⟩:=id FR;nofun;have rd:lB g SS st ts=.tup [.str (Str.ofString "pick"),.int wo,.lst ((dj ts).map λt=>.int ((SS.idxOf t:Nat):Int))]:=by
    unfold lB BP;rw[lk];rfl
   rw[rd];have Ic:∃o,H1 b=some o:=by
    by_cases z:b=l
    ·exact⟨_,z▸u3⟩
    ·exact⟨_,aR _ _ (s1 _ _ (by rw[cB z (λz=>by rw[z,f5] at hb;cases hb)];exact hb))⟩
   obtain⟨o,Ic⟩:=Ic;have pb:p'≠b:=λz=>by rw[z,hb] at B8;cases B8
   have L5:p2≠b:=λz=>by rw[z,Ic] at n2;cases n2
   have L6:p2≠l:=λz=>by rw[z,u3] at n2;cases n2
   have iZ:H1 tb=some (.dK kvs):=aR _ _ (s1 _ _ (by rw[cB xo LZ];exact mV));have L7:p2≠tb:=λz=>by rw[z,iZ] at n2;cases n2
   have pt:p'≠tb:=λz=>by rw[z,mV] at B8;cases B8
   have L8:p2≠n:=λz=>by rw[z,u5] at n2;cases n2
   refine⟨?_,p2,_,rfl,by rw[bX L5,cU L6 L8 L7];exact e2,λx y w e=>by simp only[List.cons.injEq,V.ref.injEq] at e;obtain⟨_,_,e,_⟩:=e;exact e▸B8⟩;refine cV.mpr ⟨p2,_,_,_,rfl,by rw[bX L5,cU L6 L8 L7];exact e2,aK.mpr rfl,aN.mpr rfl,aZ.mpr ⟨p',_,rfl,by rw[bX pb];show dg (b9 H2 l n) tb p'=_;rw[bX pt];exact bN s2 _ _ Ai,?_⟩⟩;have e:((dj ts).map λt=>V.int ((SS.idxOf t:Nat):Int))=((dj ts).map λt=>((SS.idxOf t:Nat):Int)).map V.int:=by rw[aaX];rfl
   have e':((dj ts).map λt=>Dat.int ((SS.idxOf t:Nat):Int))=((dj ts).map λt=>((SS.idxOf t:Nat):Int)).map Dat.int:=by rw[aaX];rfl
   rw[e,e'];exact bh.ints _
  | fin t b=>
   symm;obtain⟨p,x1,x2,rfl,hp,r1,r2⟩:=bA.mp (show Rep _ (.tup _) u from ru);rw[aK] at r1;subst r1;nofun;simp_all only[aR _ _ hp,c7,BM];rw[if_neg (by ac_rfl),if_neg (by ac_rfl)];refine⟨_,_,aR _ _ h1,Ak,g,co.mono aR,gg,st.1,st.2,tG.mono aR,ln,_,lk,_,_,rfl,λu H1 s1 r1=>⟨by omega,λp2 H2 s2 n2 e2=>L4 _ _ _ lk go rfl (λ_ _ z=>by cases z) p2 u H2 (s1.trans s2) (none_of s1 n2) e2 (r1.mono s2)⟩⟩
  | score cn=>
   symm;obtain⟨p,x1,x2,rfl,hp,r1,r2⟩:=bA.mp (show Rep _ (.tup _) u from ru);rw[aK] at r1;subst r1;nofun;simp_all only[aR _ _ hp,c7,BM];rw[if_neg (by ac_rfl),if_neg (by ac_rfl)];refine⟨_,_,aR _ _ h1,Ak,g,co.mono aR,gg,st.1,st.2,tG.mono aR,ln,_,lk,_,_,rfl,λu H1 s1 r1=>⟨by omega,λp2 H2 s2 n2 e2=>L4 _ _ _ lk go rfl (λ_ _ z=>by cases z) p2 u H2 (s1.trans s2) (none_of s1 n2) e2 (r1.mono s2)⟩⟩
  | ask _ _ _ _=>exact go.elim
  | gX jl t b rs=>
   symm;obtain⟨p,x1,x2,x3,x4,rfl,hp,r1,r2,r3,r4⟩:=dw.mp (show Rep _ (.tup _) u from ru);rw[aK] at r1;subst r1;nofun;simp_all only[aR _ _ hp,Fz];refine⟨Fr,l,n,tb,g,FW,gg,ss,fi,st,ts,jl,t,b,rs,SS,m,LS,LU,fr,L3,ln,lk,go0,tE,kM,λle p' H1 s1 FR ON B8 rp'=>⟨by omega,λp2 H2 s2 n2 e2=>kk le _ H2 (s1.trans (bO (bN s2))) (FR.mono s2) ((ON.heap λ_ h=>s2 _ _ h).mono (bO (bN s2)) (aav _)) λb' ys hb=>?_⟩⟩;symm;obtain⟨dx1,ZC,ZD,u1,u2,u3,u4,u5,u6,u7,u8⟩:=id FR;obtain⟨Ep,iZ,_,_⟩:=id ON;nofun;have rd:lB g SS st ts=.tup [.str (Str.ofString "throw"),.tup [.int t,.int b],.lst (ts.map (sy SS))]:=by
    unfold lB;rw[lk]
   rw[rd];have b1:∀{a vs},cE H1 l n tb a=some (.tup vs)->dg (cE H2 l n tb) b' a=some (.tup vs):=λ{a vs} ha=>by
    symm;obtain⟨e1,e2,e3⟩:=gh ha;nofun;have ab:a≠b':=λz=>by
     subst z;have:=s1 _ _ (by rw[cU e1 e2 e3];exact hb);rw[this] at ha;cases ha
    rw[bX ab];exact bO (bN s2) _ _ ha
   have Ic:∃o,H1 b'=some o:=by
    by_cases z:b'=l
    ·exact⟨_,z▸u3⟩
    ·exact⟨_,cL _ _ (s1 _ _ (by rw[cU z (λz=>by rw[z,f5] at hb;cases hb) (λz=>by rw[z,mV] at hb;cases hb)];exact hb))⟩
   obtain⟨o,Ic⟩:=Ic;have L5:p2≠b':=λz=>by rw[z,Ic] at n2;cases n2
   have L6:p2≠l:=λz=>by rw[z,u3] at n2;cases n2
   have L8:p2≠n:=λz=>by rw[z,u5] at n2;cases n2
   have L7:p2≠tb:=λz=>by rw[z,iZ] at n2;cases n2
   have pb:p'≠b':=λz=>by rw[z,hb] at B8;cases B8
   symm;obtain⟨pa,y1,y2,rfl,OO,q1,q2⟩:=bA.mp r3;have Rl:cE H l n tb pa=some (.tup [y1,y2]):=by
    show dg (b9 H l n) tb pa=_;rw[bX (λz=>by have:=aR _ _ OO;rw[z,mV] at this;cases this)];exact OO
   obtain⟨p'',zs,ez,Ai,rz⟩:=aZ.mp rp';nofun;cases ez;refine⟨?_,p2,_,rfl,by rw[bX L5,cU L6 L8 L7];exact e2,λx y w e=>by simp only[List.cons.injEq,V.ref.injEq] at e;obtain⟨_,_,e,_⟩:=e;exact e▸B8⟩;refine cV.mpr ⟨p2,_,_,_,rfl,by rw[bX L5,cU L6 L8 L7];exact e2,aK.mpr rfl,bA.mpr ⟨pa,y1,y2,rfl,b1 (s1 _ _ Rl),aN.mpr (aN.mp q1),aN.mpr (aN.mp q2)⟩,aZ.mpr ⟨p',zs,rfl,by rw[bX pb];exact bO (bN s2) _ _ Ai,bh.of rz.length λi d v ed ev=>?_⟩⟩;symm;obtain⟨d',Fw,QP⟩:=rz.get ev;nofun;rw[ed] at Fw;cases Fw;rw[aau] at ed;symm;obtain⟨x,_,rfl⟩:=Option.map_eq_some_iff.mp ed;obtain⟨q,a1,a2,rfl,hq,c1,c2⟩:=bA.mp (show Rep _ (.tup _) v from QP);nofun;exact bA.mpr ⟨q,a1,a2,rfl,b1 hq,aN.mpr (aN.mp c1),aN.mpr (aN.mp c2)⟩
theorem qT:bf ["game","course","finder","board"] ["game"] (au (top 41)):=.mk
theorem ve {α β:Type} {x:α} {y:β}:∀{as:List α} {bs:List β},as[bs.length]?=some x->as.zip (bs++ [y])=as.zip bs++ [(x,y)]
 | [],_,e=>by simp at e
 | a::as,[],e=>by
  have e:some a=some x:=e;cases e;simp
 | a::as,b::bs,e=>by
  rw[List.cons_append,List.zip_cons_cons,List.zip_cons_cons,ve (as:=as) (bs:=bs) (by simpa using e)];rfl
theorem ZL {Fr:Addr->Prop} {H:Hp} {l n tb:Addr} {kvs:List (Key×V)} {v:V} {nm:Str} {ns:List Int} (mV:H tb=some (.dK kvs)) (rv:zJ Fr (b9 H l n) v nm ns):vy (cE H l n tb) v nm ns:=by
 obtain⟨a,cc,e,q1,q2,q3⟩:=rv;refine⟨a,cc,e,?_,?_⟩
 ·show dg (b9 H l n) tb a=_;rw[bX (λz=>by have:=aR _ _ q1;rw[z,mV] at this;cases this)];exact q1
 ·show dg (b9 H l n) tb cc=_;rw[bX (λz=>by have:=aR _ _ q2;rw[z,mV] at this;cases this)];exact q2
theorem Ie (T:fj P w base K mg aH aI aF aV aq aD):iB P w K mg base (cN P w) 10 "spread" ["game"] (BZ aV aF):=by
 have pe:=HR T;have lI:=HS T;have cR:=wQ T;have wZ:=L1 T;have Cn:=LK T;have Co:=LH T;refine T.BC.fB (λ_ _ _ _ _ _=>iG λ_=>rfl) λf fd F=>F.E9 qT (λvs H Q E h=>?_) (λbZ A outer s H vs Q E hr h=>?_)
 ·obtain⟨_,_,_,_,_,_,_,_,rfl,_⟩:=h;rfl
 ·symm;obtain⟨gv,g,ft,nm,fu,oo,SS,iO,rfl,rg,gg,hd,ak,hsn,o2,sp,sQ,kW,kM,kk⟩:=h;nofun;have nd:=qT.nd;have wM:A.handled=none:=hr.hd;refine⟨_,(ao (aT (i:=1) (Km Cn (hr.mono (by decide)) rfl gE.pass (aa (pv 0) af)))
  (ao (aT (i:=2) (Hw Co (hr.mono (by decide)) rfl gE.pass))
  (ao (cg (dF cR T.cf (pv 2) (aa (Hv pe T.aQ (pv 1)) af) (hx:=kL)))
  (ao (aT (i:=3) (bu af))
  (ao (jb PassesOwn.leaving (aP mC (bg bM (by rfl) T.z_len aaH (aa (pv 3) af)) (bg bM (by rfl) T.z_len aaH (aa (cA (pv 2) rfl) af)) (aX _)) (aw (cg (eI aaU aa5 aa6 cQ.r (pv 3) (aa (bI wZ (aa (pv 1) (aa (pv 2) (aa (aG bx (cA (pv 2) rfl) (bg bM (by rfl) T.z_len aaH (aa (pv 3) af))) af))) (hx:=kL)) af)))))
  (aw (aW (aM (aa (pv 3) (aa (cA (pv 2) rfl) (aa (cY rfl (N:=["game","course","finder","board"]) (so:=au (top 41)) (N':=["state","course"]) (k:=1) (fr:=[1]) rfl rfl ⟨rfl,by ac_rfl,by ac_rfl,by ac_rfl,rfl,by ac_rfl,by ac_rfl⟩ (bJ (K:=K) (cA (pv 2) rfl)) (λ_ _ _ _ _=>(aO (i:=0) (show(["state","course"]:List Str).Nodup by ac_rfl) rfl (Or.inl rfl))) (λ_ _ _ _ _=>cX)
   (λ_ _ _ _ _=>(dF lI T.aQ (pv 1) (aa (pv 0) af)))) af))))))))))),?_⟩
  refine(?_:let cH:TS:=_;let cI:TS:=_;let cJ:TS:=_;let eD:TS:=_;let qS:TS:=_;let yA:TS:=_;tSeq cH (tSeq cI (tSeq cJ (tSeq eD (tSeq qS yA)))) _ _ _);intro cH cI cJ eD qS yA;have sl:=sizeLine_eq;have lc:=gg.lc;change tSeq _ _ _ _ _;refine bo (λN=>∀H1 tb c,aA H (dg H1 tb)->H1 tb=some (.dK [])->CM aq (dg H1 tb) c g tb->N [some gv,some (.ref c),none,none] H1) (λN hN=>?_) ?_
  ·simp_all only[qk,K8];intro c dx nc Rm dc;have sm:aA H (upd (upd H dx (.own c)) c (.ins aq dx [])):=(ag Rm).trans (ag (by rw[aE (Ne.symm dc)];exact nc));refine⟨_,ai,g,rg.mono sm,gg,λtb H1 k1 yD mV co=>hN _ tb c (λa o ha=>?_) mV co⟩;rw[bX (λz=>by rw[z,none_of sm yD] at ha;cases ha)];exact k1 a o (λz=>by rw[z,nc] at ha;cases ha) (sm _ _ ha)
  rintro H1 tb c Et iZ FW;have s1:aA H H1:=Et.trans bU;have co:tD aq H1 c g:=(FW.mono bU).co;have yD:H tb=none:=by
   cases h0:H tb with
   | none=>rfl
   | some o=>have:=Et _ _ h0;unfold dg at this;rw[if_pos rfl] at this;cases this
  change tSeq _ _ _ _ _;refine bo (λN=>∀H2 fa l n,H1 l=none->H1 n=none->aA H1 (b9 H2 l n)->(∀Fr,km P w aD Fr H2 fa l n [])->N [some gv,some (.ref c),some (.ref fa),none] H2) (λN hN=>?_) ?_
  ·simp_all only[qk,K6];intro fa dx nf Rm dc;have nf2:upd H1 dx (.own fa) fa=none:=by rw[aE (Ne.symm dc)];exact nf
   have sm:aA H1 (upd (upd H1 dx (.own fa)) fa (.ins aD dx [])):=(ag Rm).trans (ag nf2);refine⟨_,ai,λl n H2 nl nn k2 fi=>hN _ fa l n (none_of sm nl) (none_of sm nn) (λa o ha=>k2 a o (λz=>by rw[z,nf] at ha;cases ha) (sm _ _ ha)) fi⟩
  rintro H2 fa l n nl nn s2 Eo;have lpn:∀{a b:V},List.lookup (Str.ofString "number_of") [(Str.ofString "states",a),(Str.ofString "numbers",b)]=none:=wJ (by ac_rfl) (by ac_rfl);have lps:∀{a b c d e:V},List.lookup (Str.ofString "start") [(Str.ofString "spots",a),(Str.ofString "mosts",b),(Str.ofString "first",c),(Str.ofString "whats",d),(Str.ofString "tables",e)]=none:=eC (by ac_rfl) (by ac_rfl) (by ac_rfl) (by ac_rfl) (by ac_rfl);have ZM:∀{a b c d e:V},List.lookup (Str.ofString "words_at") [(Str.ofString "spots",a),(Str.ofString "mosts",b),(Str.ofString "first",c),(Str.ofString "whats",d),(Str.ofString "tables",e)]=none:=eC (by ac_rfl) (by ac_rfl) (by ac_rfl) (by ac_rfl) (by ac_rfl);symm;obtain⟨dx,sp0,mo,wh,us,Cf,ZN,h2,h3,h4,h5,h6⟩:=id FW;nofun;have h1:=bU _ _ ZN;change tSeq _ _ _ _ _;refine bo (λN=>∀H3,aA H1 (b9 H3 l n)->km P w aD (λa=>H a=none) H3 fa l n [(nm,List.replicate g.cs.length 0)]->N [some gv,some (.ref c),some (.ref fa),none] H3) (λN hN=>?_) ?_
  ·have Rn:aA H1 H2:=s2.trans aR;symm;obtain⟨Ji,OP,Ro,u1,u2,u3,u4,u5,u6,u7,u8⟩:=Eo (λa=>H a=none);nofun;simp_all only[c7,Fs,sE];refine⟨_,_,aR _ _ u1,lpn,_,_,Rn _ _ h1,lps,g,co.mono Rn,gg,fu,ft,hd,nm,ak,λa b H3 s3 na nb e1 e2=>?_⟩;have LQ:a≠l:=λz=>by rw[z,u3] at na;cases na
   have HX:a≠n:=λz=>by rw[z,u5] at na;cases na
   have CP:b≠l:=λz=>by rw[z,u3] at nb;cases nb
   have HY:b≠n:=λz=>by rw[z,u5] at nb;cases nb
   refine⟨λa=>H a=none,l,n,[],(Eo _).mono s3,(nm,List.replicate g.cs.length 0),⟨a,b,rfl,by rw[cB LQ HX];exact e1,by rw[cB CP HY];exact e2,none_of (s1.trans Rn) nb⟩,hsn,by rw[List.length_replicate];exact lc,(λ_ z=>by cases z),λ_ H4 s4 Rp=>hN _ (s2.trans ((bN s3).trans s4)) Rp⟩
  rintro H3 s3 ZO;change tSeq _ _ _ _ _;refine bo (λN=>∀H4,aA H1 (b9 H4 l n)->∀b,H1 b=none->b≠l->H4 b=some (.lst [])->km P w aD (λa=>H a=none/\a≠b) H4 fa l n [(nm,List.replicate g.cs.length 0)]->N [some gv,some (.ref c),some (.ref fa),some (.ref b)] H4) (λN hN=>?_) ?_
  ·symm;obtain⟨Ji,OP,Ro,u1,u2,u3,u4,u5,u6,u7,u8⟩:=id ZO;nofun;simp_all only[];refine⟨aaz _,λb nb=>hN _ (s3.trans (bN (ag nb))) b (none_of (s3.trans aR) nb) (λz=>by rw[z,u3] at nb;cases nb) ai ((ZO.fr λa o ha h0=>⟨h0,(λz=>by rw[z,nb] at ha;cases ha)⟩).mono (ag nb))⟩
  rintro H4 s4 b nb bl hb Rp;change tSeq _ _ _ _ _;have xo:tb≠l:=λz=>by rw[z,nl] at iZ;cases iZ
  have LZ:tb≠n:=λz=>by rw[z,nn] at iZ;cases iZ
  refine bo (λN=>∀H5,oo=0->aA (dg H1 tb) (cE H5 l n tb)->km P w aD (λa=>H a=none/\a≠b) H5 fa l n SS->(∃bs,H5 b=some (.lst bs)/\bh H5 (zN g SS iO) bs/\∀v∈bs,Jb H H5 b l v)->N [some gv,some (.ref c),some (.ref fa),some (.ref b)] H5) (λN hN=>?_) ?_
  ·refine yo (λm σ H'=>∃dn rest ss bs,iO=dn++rest/\m=rest.length/\dn.length<=SS.length/\dM g oo SS dn.length ss rest/\aA (dg H1 tb) (cE H' l n tb)/\zM H' (cE H' l n tb) tb g dn.length (λa=>H a=none/\a≠b)/\km P w aD (λa=>H a=none/\a≠b) H' fa l n ss/\H' b=some (.lst bs)/\(∀v∈bs,Jb H (dg (cE H' l n tb) b) b l v)/\bh (dg (cE H' l n tb) b) ((SS.zip dn).map λx=>lB g SS x.1 x.2) bs/\σ=[some gv,some (.ref c),some (.ref fa),some (.ref b)]) (m:=iO.length) ⟨[],iO,_,[],rfl,rfl,aaz _,sp,bO s4,⟨[],aR _ _ (s4 _ _ iZ),aav _,λnm v e=>by cases e⟩,Rp,hb,(λv hv=>by cases hv),by rw[List.zip_nil_right];exact bL.mpr rfl,rfl⟩ ?_;intro m _ H5 Ek;symm;obtain⟨dn,rest,ss,bs,et,rfl,dS,sd,s5,Rq,zU,qU,OQ,rb,rfl⟩:=Ek;obtain⟨aaj,vc,aak,ZP⟩:=id Rq;obtain⟨Ji,OP,Ro,u1,u2,u3,u4,u5,u6,u7,u8⟩:=id zU;nofun;have tE:=sd.tE;have xl:=u4.length;have CP:bs.length=dn.length:=by
    have:=rb.length;rw[aat,List.length_zip] at this;omega
   cases rest with
   | nil=>
    symm;obtain⟨_,c0,c1,c2⟩:=sd;nofun
    by_cases o0:oo=0
    ·obtain⟨rfl,e2⟩:=c0 o0;refine⟨false,λQ hq=>?_,?_⟩
     ·simp_all only[eG];refine⟨_,qU,_,_,_,aR _ _ u1,T.cf,T.na_Finder_states,_,jQ,_,rfl,_,u3,?_⟩;rw[decide_eq_false (by omega)];exact hq
     ·rw[if_neg (by simp)];rw[aaP] at et;exact hN _ o0 s5 zU ⟨bs,qU,by rw[et];exact rb.mono (bU.trans cL),λv hv=>(OQ v hv).mono (bU.trans cL)⟩
    ·obtain⟨st,es,ls⟩:∃st,ss[dn.length]?=some st/\st.2.length=g.cs.length:=by
      by_cases o1:oo=1
      ·obtain⟨st,a,b,_⟩:=c1 o1;exact⟨st,a,b⟩
      ·obtain⟨st,_,a,b,_⟩:=c2 (by omega);exact⟨st,a,b⟩
     have ZQ:=(List.getElem?_eq_some_iff.mp es).1;refine⟨true,λQ hq=>?_,?_⟩
     ·simp_all only[eG];refine⟨_,qU,_,_,_,aR _ _ u1,T.cf,T.na_Finder_states,_,jQ,_,rfl,_,u3,?_⟩;rw[decide_eq_true (by omega)];exact hq
     ·rw[if_pos rfl];symm;obtain⟨v,ev,rv⟩:=u4.at es;nofun;have Jk:=ZL vc rv;have ty:E3 K "list" (.ref b) H5:=.inl ⟨rfl,_,bT.of qU⟩;have dl:dn.length<=120:=by omega
      simp_all only[eG,BY,dt];refine⟨ty,_,_,_,aR _ _ u1,T.cf,T.na_Finder_states,_,jQ,_,qU,_,rfl,_,u3,v,by rw[CP];exact b5 ev,_,l,n,tb,g,FW.mono s5,gg,ss,zU,st,dn.length,Rq,by omega,λa ha=>⟨none_of (Et.trans (s5.trans cL)) ha,λz=>by rw[z,qU] at ha;cases ha⟩,Jk,ls,λsk H6 s6=>?_,λnsk=>?_⟩
      ·by_cases o1:oo=1
       ·exact kW o1 _ (Et.trans (s5.trans (cL.trans s6)))
       ·symm;obtain⟨vE,ts,tu,_,go,_⟩:=c2 (by omega);nofun;rw[es] at tu;cases tu;exact absurd sk go.stuck
      ·by_cases o1:oo=1
       ·symm;obtain⟨vE,tu,_,sk⟩:=c1 o1;nofun;rw[es] at tu;cases tu;exact absurd sk nsk
       ·symm;obtain⟨vE,ts,tu,_,go,P0⟩:=c2 (by omega);nofun;rw[es] at tu;cases tu;exact⟨ts,go,SS,(λz=>by omega),λ_ H6 s6=>kM (by omega) _ (Et.trans (s5.trans (s6.trans cL))),(λz=>by omega)⟩
   | cons ts r=>
    symm;obtain⟨st,es,ls,go,sr⟩:=sd;nofun;have ZQ:=(List.getElem?_eq_some_iff.mp es).1;refine⟨true,λQ hq=>?_,?_⟩
    ·simp_all only[eG];refine⟨_,qU,_,_,_,aR _ _ u1,T.cf,T.na_Finder_states,_,jQ,_,rfl,_,u3,?_⟩;rw[decide_eq_true (by omega)];exact hq
    ·rw[if_pos rfl];symm;obtain⟨v,ev,rv⟩:=u4.at es;nofun;have eS:SS[dn.length]?=some st:=by
      obtain⟨q,e⟩:=tE;rw[e,abc ZQ];exact es
     have ZR:=sr.tE;have bn:b≠n:=λz=>by rw[z,u5] at qU;cases qU
     have bt:b≠tb:=λz=>by rw[z,vc] at qU;cases qU
     have Jk:=ZL vc rv;have ty:E3 K "list" (.ref b) H5:=.inl ⟨rfl,_,bT.of qU⟩;have dl:dn.length<=120:=by omega
     have ZS:=aaI ZR.len sQ;simp_all only[eG,BY,dt];refine⟨ty,_,_,_,aR _ _ u1,T.cf,T.na_Finder_states,_,jQ,_,qU,_,rfl,_,u3,v,by rw[CP];exact b5 ev,_,l,n,tb,g,FW.mono s5,gg,ss,zU,st,dn.length,Rq,by omega,λa ha=>⟨none_of (Et.trans (s5.trans cL)) ha,λz=>by rw[z,qU] at ha;cases ha⟩,Jk,ls,λsk=>absurd sk go.stuck,λ_=>⟨ts,go,SS,λ_=>ZR,(λz=>by omega),λ_ u H6 s6 Q9 tb6 ru=>?_⟩⟩;have Jd:H6 b=some (.lst bs):=cL _ _ (s6 _ _ (by rw[cU bl bn bt];exact qU));symm;obtain⟨Rr,Rt,Ru,L9⟩:=id tb6;nofun;have eh:∀o,dg (cE (upd H6 b o) l n tb) b=dg (cE H6 l n tb) b:=λo=>by
      funext a
      by_cases z:a=b
      ·rw[z];unfold dg;rw[if_pos rfl,if_pos rfl]
      ·rw[bX z,bX z];show(if a=tb then none else if a=n then none else if a=l then none else upd H6 b o a)=if a=tb then none else if a=n then none else if a=l then none else H6 a
       rw[aE z]
     refine⟨_,Jd,by omega,r.length,by omega,dn++ [ts],r,by rw[List.append_assoc];exact et,rfl,by rw[aay,aa0];have:=tE.len;omega,aJ ss (dj ts),by rw[aay,aa0];exact sr,?_,?_,Q9.K7 (λa h=>h.2) Jd bl,_,ai,?_,?_⟩
     ·intro a o ha;have ab:a≠b:=λz=>by have:=bU _ _ ha;rw[z,nb] at this;cases this
      have h6:=s6 _ _ (s5 _ _ ha);symm;obtain⟨e1,e2,e3⟩:=gh h6;nofun;rw[cU e1 e2 e3] at h6 ⊢;rw[aE ab];exact h6
     ·rw[aay,aa0];refine⟨Rr,by rw[aE (Ne.symm bt)];exact Rt,Ru,λnm v e=>?_⟩;symm;obtain⟨FQ,t',b',B7,a1,⟨p',ep,fp⟩,a2⟩:=L9 nm v e;subst ep;nofun;have kb:∀{a o},a≠b->cE H6 l n tb a=some o->cE (upd H6 b (.lst (bs++ [u]))) l n tb a=some o:=λ{a o} ab ha=>by
       symm;obtain⟨e1,e2,e3⟩:=gh ha;nofun;rw[cU e1 e2 e3] at ha ⊢;rw[aE ab];exact ha
      exact⟨FQ,t',b',B7,a1,⟨p',rfl,fp⟩,yr a2 (λo ho=>kb fp.2 ho) λa vs ha=>kb (λz=>by have:=cL _ _ ha;rw[z,Jd] at this;cases this) ha⟩
     ·rw[eh];intro v hv;rcases List.mem_append.mp hv with hv | hv
      ·exact(OQ v hv).mono (bO s6)
      ·rw[List.mem_singleton.mp hv];symm;obtain⟨_,q,eq,vs,hq,kq⟩:=ru b bs qU;nofun;refine⟨q,vs,eq,hq,λx y w' e=>?_⟩;have nw:=kq x y w' e;exact⟨none_of (Et.trans (s5.trans cL)) nw,(λz=>by rw[z,qU] at nw;cases nw),(λz=>by rw[z,u3] at nw;cases nw)⟩
     ·rw[eh,ve eS,aaK];exact(rb.mono (bO s6)).append (aS.mpr ⟨u,[],rfl,(ru b bs qU).1,bL.mpr rfl⟩)
  intro H5 o0 s5 zU Rv;symm;obtain⟨bs,qU,rb,OQ⟩:=Rv;subst o0;have kk:=kk rfl;obtain⟨Ji,OP,Ro,u1,u2,u3,u4,u5,u6,u7,u8⟩:=id zU;nofun;have xl:=u4.length;have OR:aA (dg H1 tb) H5:=s5.trans cL;simp_all only[eG];refine⟨_,_,_,aR _ _ u1,T.cf,T.na_Finder_states,_,jQ,_,_,_,aR _ _ u1,T.cf,T.na_Finder_states,_,jQ,_,rfl,⟨_,bT.of u3⟩,?_⟩;refine comp_map (src_list (Ok:=aA H5) (λH' k=>bT.of (k _ _ u3))) (λ_ _ _ _ h=>h.1▸aA.refl _) (by omega) (λi y H'=>∃st,SS[i]?=some st/\Rep H' (jn g st) y) (λ_ _ _ _ k ⟨st,e,r⟩=>⟨st,e,r.mono k⟩) ?_ ?_
  ·rintro i x z H7 H6 Q' hi s6 ⟨rfl,ex⟩ yy;symm;obtain⟨st,es,rst⟩:=u4.get ex;nofun;symm;obtain⟨vE,ts',tu,ls,go,_⟩:=sp.all.2 i (aaz _) (List.getElem?_eq_some_iff.mp es).1;nofun;rw[es] at tu;cases tu;obtain⟨x0,lk⟩:=wK go;simp_all only[c7,Fv];refine⟨_,_,s6 _ _ (OR _ _ ZN),ZM,g,(FW.mono (OR.trans s6)).co,gg,st.1,st.2,rst.st.mono (aR.trans s6),ls,x0,lk,λp H8 s8 n8 r8=>yy _ _ s8 ⟨st,es,?_⟩⟩;unfold jn;rw[lk];exact r8
  ·intro ys H6 s6 ly hy D Ra CQ;refine⟨by omega,λp H7 s7 np e7=>kk p b l D bs OP ys H7 (Et.trans (OR.trans (s6.trans ((ag CQ).trans s7)))) (none_of s1 nb) (none_of (Et.trans OR) Ra) e7 ?_ ?_ ?_ ?_ ?_ (s7 _ _ ai) ?_⟩
   all_goals have yE:aA H5 H7:=s6.trans ((ag CQ).trans s7)
   ·exact yE _ _ qU
   ·exact rb.mono yE
   ·exact λv hv=>(OQ v hv).mono yE
   ·exact yE _ _ u3
   ·exact u4.imp λ_ _ ⟨a,c',e,q1,q2,q3⟩=>⟨a,c',e,(aR.trans yE) _ _ q1,(aR.trans yE) _ _ q2,q3.1,q3.2,(ig q2).1⟩
   ·refine bh.of (by rw[aat];omega) λi d y ed ey=>?_;rw[aau] at ed;symm;obtain⟨st,es,rfl⟩:=Option.map_eq_some_iff.mp ed;obtain⟨vE,tu,r⟩:=hy i y ey;nofun;rw[es] at tu;cases tu;exact r.mono ((ag CQ).trans s7)
theorem qV:∀{l:List Str} {x:Str} {j:Nat},j<l.idxOf x->l[j]?≠some x
 | [],_,_,h=>by simp at h
 | y::l,x,j,h=>by
  rw[List.idxOf_cons] at h
  by_cases c:y=x
  ·rw[c,beq_self_eq_true] at h;exact absurd h (Nat.not_lt_zero _)
  ·rw[beq_false_of_ne c] at h;cases j with
   | zero=>simpa using c
   | succ j=>rw[List.getElem?_cons_succ];exact qV (l:=l) (Nat.lt_of_succ_lt_succ h)
theorem Cp (l:List Str):(l.map Dat.str).map toP=l.map PyData.str:=by
 rw[aaX];exact List.map_congr_left λa _=>by show toP (.str a)=_;rw[toP]
theorem Ig {l:List Str} {x:Str} (h:x∈l):((l.map Dat.str).map toP)[l.idxOf x]?=some (toP (.str x))/\∀j,j<l.idxOf x->((l.map Dat.str).map toP)[j]?≠some (toP (.str x)):=by
 have hl:=List.idxOf_lt_length_of_mem h;rw[Cp,show toP (.str x)=PyData.str x by rw[toP]];refine⟨by rw[aau,aaG hl,List.getElem_idxOf];rfl,λj hj e=>?_⟩;rw[aau] at e;obtain⟨y,ey,e⟩:=Option.map_eq_some_iff.mp e
 injection e with e
 exact qV hj (e▸ey)
theorem vf {H:Hp}:∀l:List Str,bh H (l.map Dat.str) (l.map V.str)
 | []=>bL.mpr rfl
 | _::l=>aS.mpr ⟨_,_,rfl,aK.mpr rfl,vf l⟩
theorem pf {H:Hp}:∀{l:List Int} {vs:List V},bh H (l.map Dat.int) vs->vs=l.map V.int
 | [],_,h=>bL.mp h
 | _::_,_,h=>by
  obtain⟨v,r,rfl,a,b⟩:=aS.mp h;rw[aN.mp a,pf b];rfl
theorem ints_rep {H:Hp}:∀l:List Int,bh H (l.map Dat.int) (l.map V.int)
 | []=>bL.mpr rfl
 | _::l=>aS.mpr ⟨_,_,rfl,aN.mpr rfl,ints_rep l⟩
noncomputable def Kx (n:Nat) (d:Dat):Prop:=pJ (toP d)=true/\(toP d).depth<=n
theorem pj {n:Nat} (k:Int):Kx n (.int k):=by unfold Kx;rw[toP,pJ,PyData.depth];exact⟨rfl,aaz _⟩
theorem xa {n:Nat} {x:Str} (h:eP (.str x)=true):Kx n (.str x):=by
 rw[eP] at h;unfold Kx;rw[toP,pJ,PyData.depth];exact⟨h,aaz _⟩
theorem xb {n:Nat}:∀{ds:List Dat},(∀d∈ds,Kx n d)->oJ (toPL ds)=true/\PyData.depthAll (toPL ds)<=n
 | [],_=>by rw[toPL,oJ,PyData.depthAll];exact⟨rfl,aaz _⟩
 | d::ds,h=>by
  obtain⟨a,b⟩:=h d aaE;obtain⟨e,f⟩:=xb (ds:=ds) λx hx=>h x (aaB _ hx);rw[toPL,oJ,PyData.depthAll,a,e];exact⟨rfl,by omega⟩
theorem Ih {n:Nat} {ds:List Dat} (h:∀d∈ds,Kx n d):Kx (n+1) (.tup ds):=by
 obtain⟨a,b⟩:=xb h;unfold Kx;rw[toP,pJ,PyData.depth];exact⟨a,by omega⟩
theorem xf {n:Nat} {ds:List Dat} (h:∀d∈ds,Kx n d):Kx (n+1) (.lst ds):=by
 obtain⟨a,b⟩:=xb h;unfold Kx;rw[toP,pJ,PyData.depth];exact⟨a,by omega⟩
theorem Cq {n:Nat} {a b:Dat} (ha:Kx n a) (hb:Kx n b):Kx (n+1) (.tup [a,b]):=Ih λd hd=>by
 rcases List.mem_cons.mp hd with rfl | hd
 ·exact ha
 ·rw[List.mem_singleton.mp hd];exact hb
theorem nP {n k:Nat} {d:Dat} (h:Kx n d) (l:n<=k):Kx k d:=⟨h.1,aaI h.2 l⟩
noncomputable def fJ (G H:Hp):Hp:=λa=>match G a with
 | some (.lst _)=>none
 | _=>H a
noncomputable def dR (G H:Hp):Prop:=∀a ys,G a=some (.lst ys)->∃zs,H a=some (.lst zs)
theorem dR.of {G H:Hp} (s:aA G H):dR G H:=λa ys e=>⟨ys,s _ _ e⟩
theorem dR.trans {G H K:Hp} (s:dR G H) (t:aA H K):dR G K:=λa ys e=>by
 obtain⟨zs,h⟩:=s a ys e;exact⟨zs,t _ _ h⟩
set_option tactic.hygienic true in
theorem iL {G H:Hp} {a:Addr} (h:∀ys,G a≠some (.lst ys)):fJ G H a=H a:=by
 unfold fJ
 split
 ·rename_i e;exact absurd e (h _)
 ·rfl
theorem sS {G H:Hp} {a:Addr} {ys:List V} (h:G a=some (.lst ys)):fJ G H a=none:=by
 unfold fJ;rw[h]
theorem jt {G H:Hp} {a:Addr} {o:HO} (h:fJ G H a=some o):(∀ys,G a≠some (.lst ys))/\H a=some o:=by
 by_cases c:∃ys,G a=some (.lst ys)
 ·obtain⟨ys,e⟩:=c;rw[sS e] at h;cases h
 ·have c:∀ys,G a≠some (.lst ys):=λys e=>c ⟨ys,e⟩;rw[iL c] at h;exact⟨c,h⟩
theorem qW {G H H':Hp} (s:aA H H'):aA (fJ G H) (fJ G H'):=λa o e=>by
 obtain⟨c,h⟩:=jt e;rw[iL c];exact s _ _ h
theorem vg {G H:Hp}:aA (fJ G H) H:=λa o e=>(jt e).2
theorem vh {G G' H:Hp} (s:dR G G'):aA (fJ G' H) (fJ G H):=λa o e=>by
 obtain⟨c,h⟩:=jt e;rw[iL (λys k=>by obtain⟨zs,z⟩:=s a ys k;exact c zs z)];exact h
theorem eO {G H:Hp} {l:Addr} {ys:List V} {o:HO} (e:G l=some (.lst ys)):fJ G (upd H l o)=fJ G H:=by
 funext a
 by_cases c:∃ys,G a=some (.lst ys)
 ·obtain⟨zs,z⟩:=c;rw[sS z,sS z]
 ·have c:∀ys,G a≠some (.lst ys):=λys e=>c ⟨ys,e⟩;rw[iL c,iL c,aE (λz=>by rw[z] at c;exact c ys e)]
noncomputable def dh (G H:Hp) (d:Dat) (v:V):Prop:=Rep (fJ G H) d v
noncomputable def bH (G H:Hp) (ds:List Dat) (vs:List V):Prop:=bh (fJ G H) ds vs
theorem dh.mono {G H H':Hp} {d:Dat} {v:V} (s:aA H H') (h:dh G H d v):dh G H' d v:=Rep.mono (qW s) h
theorem bH.mono {G H H':Hp} {ds:List Dat} {vs:List V} (s:aA H H') (h:bH G H ds vs):bH G H' ds vs:=bh.mono (qW s) h
theorem dh.low {G G' H:Hp} {d:Dat} {v:V} (s:dR G G') (h:dh G' H d v):dh G H d v:=Rep.mono (vh s) h
theorem bH.low {G G' H:Hp} {ds:List Dat} {vs:List V} (s:dR G G') (h:bH G' H ds vs):bH G H ds vs:=bh.mono (vh s) h
theorem dh.rep {G H:Hp} {d:Dat} {v:V} (h:dh G H d v):Rep H d v:=Rep.mono vg h
theorem bH.rep {G H:Hp} {ds:List Dat} {vs:List V} (h:bH G H ds vs):bh H ds vs:=bh.mono vg h
theorem bG {G H:Hp} {x:Str}:dh G H (.str x) (.str x):=aK.mpr rfl
theorem bc {G H:Hp} {k:Int}:dh G H (.int k) (.int k):=aN.mpr rfl
theorem bR {G H:Hp}:bH G H [] []:=bL.mpr rfl
theorem aU {G H:Hp} {d:Dat} {ds:List Dat} {v:V} {vs:List V} (h:dh G H d v) (k:bH G H ds vs):bH G H (d::ds) (v::vs):=aS.mpr ⟨_,_,rfl,h,k⟩
theorem b8 {G H:Hp} {p:Addr} {ds:List Dat} {vs:List V} (n:G p=none) (h:H p=some (.lst vs)) (r:bH G H ds vs):dh G H (.lst ds) (.ref p):=aZ.mpr ⟨p,vs,rfl,by rw[iL (λys e=>by rw[n] at e;cases e)];exact h,r⟩
theorem xg {G H:Hp} (s:dR G H) {p:Addr} {ds:List Dat} {vs:List V} (h:H p=some (.tup vs)) (r:bH G H ds vs):dh G H (.tup ds) (.ref p):=gI.mpr ⟨p,vs,rfl,by rw[iL (λys e=>by obtain⟨zs,z⟩:=s _ _ e;rw[h] at z;cases z)];exact h,r⟩
theorem qg {G H:Hp} (s:dR G H) {p:Addr} {a b:Dat} {x y:V} (h:H p=some (.tup [x,y])) (ha:dh G H a x) (hb:dh G H b y):dh G H (.tup [a,b]) (.ref p):=xg s h (aU ha (aU hb bR))
theorem gA {G H:Hp} (s:dR G H) {p:Addr} {a b c:Dat} {x y z:V} (h:H p=some (.tup [x,y,z])) (ha:dh G H a x) (hb:dh G H b y) (hc:dh G H c z):dh G H (.tup [a,b,c]) (.ref p):=xg s h (aU ha (aU hb (aU hc bR)))
theorem pz {G H:Hp} (s:dR G H) {p:Addr} {a b c d:Dat} {x y z u:V} (h:H p=some (.tup [x,y,z,u])) (ha:dh G H a x) (hb:dh G H b y) (hc:dh G H c z) (hd:dh G H d u):dh G H (.tup [a,b,c,d]) (.ref p):=xg s h (aU ha (aU hb (aU hc (aU hd bR))))
theorem jD {G H:Hp} {d:Dat} {v:V} (h:dh G H d v) {ds:List Dat} {vs:List V} (k:bH G H ds vs):bH G H (ds++ [d]) (vs++ [v]):=bh.append k (aS.mpr ⟨_,_,rfl,h,bL.mpr rfl⟩)
theorem bH.ix {G H:Hp} {ds:List Dat} {vs:List V} (h:bH G H ds vs) {i:Int} {d:Dat} (i0:0<=i) (ed:ds[i.toNat]?=some d):∃v,pM vs i=some v/\dh G H d v:=by
 obtain⟨v,ev,r⟩:=bh.at h ed;exact⟨v,by rw[show i=((i.toNat:Nat):Int) by omega];exact b5 ev,r⟩
theorem Ma {n:Str} (h:eP (.str n)=true):Kd (.str n):=⟨by rw[toP];exact h,by rw[toP,PyData.depth];decide⟩
theorem map_getD {α β:Type} {l:List α} {f:α->β} {i:Nat} (d:α) (h:i<l.length):(l.map f)[i]?=some (f (l.getD i d)):=by
 rw[aau,abl,aaG h];rfl
theorem Eu {α:Type} {l:List α} (n:Int) (h:0<l.length):∃(j:Nat) (x:α),n % (l.length:Int)=(j:Int)/\l[j]?=some x:=by
 have q1:=Int.emod_nonneg n (show(l.length:Int)≠0 by omega);have q2:=Int.emod_lt_of_pos n (show(0:Int)< (l.length:Int) by omega);exact⟨(n % (l.length:Int)).toNat,l[(n % (l.length:Int)).toNat]'(by omega),by omega,aaG _⟩
noncomputable def cm (s:cD):Dat:=.tup [.str s.1,.lst (s.2.map .int)]
noncomputable def lJ (K:PySem.W.Frag):Sp:=λvs H Q _=>∃a ns k,vs=[.ref a,.int k]/\bT K H a (List.map V.int ns)/\0<=k/\k<1000/\∀n,Q (.int n) H
noncomputable def Ew (g:Gm) (SS:List cD) (iO:List (List (Int×cD))):Dat:=.tup [.lst (zN g SS iO),.lst (SS.map cm),.lst (SS.map (jn g))]
theorem Ey {l:List Str} {j:Nat} {x:Str} (e:l[j]?=some x):pM (l.map V.str) (j:Int)=some (.str x):=b5 (by rw[aau,e];rfl)
noncomputable def nm1:Dd->Str
 | .set n _=>n
 | .plus n _=>n
 | .face n=>n
 | .move n _=>n
noncomputable def tH:Dd->List V
 | .set n k=>[.str (Str.ofString "set"),.str n,.int k]
 | .plus n k=>[.str (Str.ofString "plus"),.str n,.int k]
 | .face n=>[.str (Str.ofString "face"),.str n]
 | .move n m=>[.str (Str.ofString "move"),.str n,.str m]
theorem sU {H:Hp} {v:V}:∀{d:Dd},Rep H (Ag d) v->∃q,v=.ref q/\H q=some (.tup (tH d))
 | .set n k,h=>by obtain⟨q,x,y,z,e,hq,a,b,c⟩:=cV.mp (show Rep H (.tup _) v from h);rw[aK.mp a,aK.mp b,aN.mp c] at hq;exact⟨q,e,hq⟩
 | .plus n k,h=>by obtain⟨q,x,y,z,e,hq,a,b,c⟩:=cV.mp (show Rep H (.tup _) v from h);rw[aK.mp a,aK.mp b,aN.mp c] at hq;exact⟨q,e,hq⟩
 | .face n,h=>by obtain⟨q,x,y,e,hq,a,b⟩:=bA.mp (show Rep H (.tup _) v from h);rw[aK.mp a,aK.mp b] at hq;exact⟨q,e,hq⟩
 | .move n m,h=>by obtain⟨q,x,y,z,e,hq,a,b,c⟩:=cV.mp (show Rep H (.tup _) v from h);rw[aK.mp a,aK.mp b,aK.mp c] at hq;exact⟨q,e,hq⟩
theorem Cr {cs:List (Str×Int)}:∀{d:Dd},uS cs d->nm1 d∈cs.map (·.1)
 | .set _ _,h=>h.1
 | .plus _ _,h=>h.1
 | .face _,h=>h
 | .move _ _,h=>h.1
theorem yF (s:cD):toP (cm s)=.tuple [.str s.1,.list (s.2.map PyData.int)]:=by
 unfold cm;rw[toP,toPL,toPL,toPL,toP,toP,my]
theorem yG {a b:cD} (h:toP (cm a)=toP (cm b)):a=b:=by
 rw[yF,yF] at h
 injection h with h
 injection h with h1 h2
 injection h1 with h1
 injection h2 with h2 _
 injection h2 with h2
 have h3:a.2=b.2:=List.map_inj_right (f:=PyData.int) (λx y e=>by injection e) |>.mp h2
 exact Prod.ext h1 h3
theorem mB {s:cD} (h:eP (.str s.1)=true):Ke (cm s):=nP (n:=2) (Cq (xa h) (xf λd hd=>by obtain⟨k,_,rfl⟩:=List.mem_map.mp hd;exact pj _)) (by decide)
noncomputable def CT:List Int->Nat
 | []=>0
 | x::r=>Nat.gcd x.natAbs (CT r)
noncomputable def Mb:Sp:=λvs H Q _=>∃c,vs=[.int c]/\∀v ps H',aA H H'->ps∈jO->dh H H' (.lst (List.map dI ps)) v->Q v H'
noncomputable def FY (K:PySem.W.Frag):Sp:=λvs H Q _=>∃a ns cv cs,vs=[.ref a,cv]/\bT K H a (List.map V.int ns)/\Rep H (I0 cs) cv/\FA cs/\∀l rs H',aA H H'->B4 cs rs->Rep H' (.lst ((rs.map yi).map nh)) (.ref l)->Q (.ref l) H'
noncomputable def Cs:Sp:=λvs H Q _=>∃cv l dv v cs ns ds,vs=[cv,.ref l,dv,.int v]/\Rep H (I0 cs) cv/\FA cs/\H l=some (.lst (List.map V.int ns))/\uQ cs ns/\B1 cs ds/\Rep H (.lst (ds.map Ag)) dv/\0<=v/\∀p H',aA H H'->H p=none->H' p=some (.lst ((ds.foldl (eU cs v) ns).map V.int))->Q (.ref p) H'
noncomputable def Mc:Sp:=λvs H Q _=>∃l ws,vs=[.ref l]/\H l=some (.lst (List.map V.int ws))/\ws.length<=40/\(∀w∈ws,0<w/\w<=1000000)/\Q (.int (CT ws:Nat)) H
noncomputable def vi:Sp:=λvs H Q _=>∃tv cv nl rv ps cs ns rs,vs=[tv,cv,.ref nl,rv]/\Rep H (gf (bK ps)) tv/\ps∈jO/\Rep H (I0 cs) cv/\FA cs/\H nl=some (.lst (List.map V.int ns))/\uQ cs ns/\B4 cs rs/\Rep H (.lst ((rs.map yi).map nh)) rv/\∀v H',aA H H'->dh H H' (.lst ((bK ps).map λr=>cm (gz cs rs ns r.1))) v->Q v H'
noncomputable def FZ:Sp:=λvs H Q _=>∃tv wv ps SS ts,vs=[tv,wv]/\Rep H (gf (bK ps)) tv/\ps∈jO/\Rep H (.lst (List.map (sy SS) ts)) wv/\ts.map (·.1)=(Nm.weigh (bK ps) (ky (bK ps))).map (·.2)/\∀H',aA H H'->Q (.bl true) H'
noncomputable def F0:Sp:=λvs H Q _=>∃fv gv tv rv g cs ps t rs SS iO ss,vs=[fv,gv,tv,rv]/\Rep H (Ew g SS iO) fv/\Rep H (KU g) gv/\Rep H (gf (bK ps)) tv/\Rep H (.lst ((rs.map yi).map nh)) rv/\G5 g cs ps t rs/\ss=[(Str.ofString "roll",List.replicate g.cs.length 0)]/\dM g 0 SS 0 ss iO/\SS.length<=120/\SS.Nodup/\(∀s∈SS,Ah g s)/\∀H',aA H H'->Q (.bl true) H'
noncomputable def Ct:Sp:=λvs H Q _=>∃tv gv rv g cs ps t rs SS iO,vs=[tv,gv,rv]/\Rep H (gf (bK ps)) tv/\Rep H (KU g) gv/\Rep H (.lst ((rs.map yi).map nh)) rv/\G5 g cs ps t rs/\dM g 2 SS 0 [(Str.ofString "roll",List.replicate g.cs.length 0)] iO/\SS.length<=120/\(∀s∈SS,Ah g s)/\∀(n:Nat) H',120<n->aA H H'->Q (.int n) H'
theorem yH {c:TT} {tb:TS} {D:Ends} {σ:L2.St} {H:Hp} (Pv:Nat->L2.St->Hp->Prop) {m:Nat} (h0:Pv m σ H)
  (hs:∀m σ H,Pv m σ H->∃b:Bool,∃Z:Hp->Prop,(∀Q:Bool->Hp->Prop,(∀H',Z H'->Q b H')->c σ H Q)/\∀H',Z H'->if b=true then tb {D with nx:=λσ' H'=>∃m',m'<m/\Pv m' σ' H',ct:=λσ' H'=>∃m',m'<m/\Pv m' σ' H',bk:=D.nx} σ H' else D.nx σ H'):rA c tb D σ H:=by
 refine⟨Pv,⟨m,h0⟩,?_⟩;intro m σ H p;obtain⟨b,Z,k,q⟩:=hs m σ H p;refine k _ λH' z=>?_;have q:=q H' z;cases b with
 | true=>exact⟨_,λσ' H' h=>h,q⟩
 | false=>exact q
theorem xh {a:TS} {D:Ends} {σ:L2.St} {H:Hp} (C:(L2.St->Hp->Prop)->Prop) (hb:C D.nx) (ha:∀N:L2.St->Hp->Prop,C N->a {D with nx:=N} σ H):a D σ H:=ha _ hb
noncomputable def zV (cs:List (Str×Int)) (lo:Int) (rs:List Tw):Prop:=0<=lo/\(∀r∈rs,B1 cs r.2.2.1/\r.2.2.2∈gN/\r.2.1<lo)/\∀v:Int,0<=v->v<lo->∃(i:Nat) (r:Tw),rs[i]?=some r/\(r.1<=v/\v<=r.2.1)/\∀(j:Nat) r',rs[j]?=some r'->r'.1<=v/\v<=r'.2.1->j=i
theorem yI {cs:List (Str×Int)} {lo hi:Int} {rs:List Tw} {ds:List Dd} {to:Str} (h:zV cs lo rs) (lh:lo<=hi) (dk:B1 cs ds) (gk:to∈gN):zV cs (hi+1) (rs++ [(lo,hi,ds,to)]):=by
 obtain⟨h0,h1,h2⟩:=h;refine⟨by omega,λr hr=>?_,λv v0 v1=>?_⟩
 ·rcases List.mem_append.mp hr with hr | hr
  ·obtain⟨a,b,c⟩:=h1 r hr;exact⟨a,b,by omega⟩
  ·rw[List.mem_singleton.mp hr];exact⟨dk,gk,by show hi<hi+1;omega⟩
 ·by_cases c:v<lo
  ·obtain⟨i,r,e,cr,u⟩:=h2 v v0 c;have Rx:=(List.getElem?_eq_some_iff.mp e).1;refine⟨i,r,by rw[abc Rx];exact e,cr,λj r' ej cj=>?_⟩
   by_cases hj:j<rs.length
   ·rw[abc hj] at ej;exact u j r' ej cj
   ·rw[abk (by omega)] at ej;obtain⟨k,ek⟩:∃k,k=j - rs.length:=⟨_,rfl⟩
    rw[<-ek] at ej;cases k with
    | zero=>
     cases ej;have:=cj.1;exact absurd c (by show ¬v<lo;exact Int.not_lt.mpr this)
    | succ k=>cases ej
  ·refine⟨rs.length,(lo,hi,ds,to),by rw[abk (aav _),Nat.sub_self];rfl,⟨by show lo<=v;omega,by show v<=hi;omega⟩,λj r' ej cj=>?_⟩
   by_cases hj:j<rs.length
   ·rw[abc hj] at ej;have:=(h1 r' (aaC ej)).2.2;omega
   ·rw[abk (by omega)] at ej;have hk:j - rs.length<1:=(List.getElem?_eq_some_iff.mp ej).1;omega
theorem Ii {cs:List (Str×Int)} {rs:List Tw} (h:zV cs 1000 rs) (l:rs.length<=6):B4 cs rs:=⟨l,λr hr=>⟨(h.2.1 r hr).1,(h.2.1 r hr).2.1⟩,λv v0 v9=>h.2.2 v v0 (by omega)⟩
theorem rw_rev {cs:List (Str×Int)} {rs:List Tw} (h:B4 cs rs):B4 cs rs.reverse:=by
 obtain⟨l,h1,h2⟩:=h;refine⟨by rw[abp];exact l,λr hr=>h1 r (List.mem_reverse.mp hr),λv v0 v9=>?_⟩;obtain⟨i,r,e,c,u⟩:=h2 v v0 v9;have hi:=(List.getElem?_eq_some_iff.mp e).1;refine⟨rs.length - 1 - i,r,by rw[List.getElem?_reverse (by omega),show rs.length - 1 - (rs.length - 1 - i)=i by omega];exact e,c,λj r' ej cj=>?_⟩;have hj:=(List.getElem?_eq_some_iff.mp ej).1;rw[abp] at hj;rw[List.getElem?_reverse hj] at ej;have:=u _ r' ej cj;omega
theorem Cu {H:Hp} {ds:List Dat} {vs:List V} (h:bh H ds vs):bh H ds.reverse vs.reverse:=by
 have l:=h.length;refine bh.of (by rw[abp,abp,l]) λi d v ed ev=>?_;have hi:=(List.getElem?_eq_some_iff.mp ev).1;rw[abp] at hi;rw[List.getElem?_reverse (by omega)] at ed;rw[List.getElem?_reverse hi] at ev;rw[l] at ed;obtain⟨d',e,r⟩:=h.get ev;rw[ed] at e;cases e;exact r
theorem F1 {G H:Hp} (s:dR G H):∀{d:Dd} {q:Addr},H q=some (.tup (tH d))->dh G H (Ag d) (.ref q)
 | .set _ _,_,h=>gA s h bG bG bc
 | .plus _ _,_,h=>gA s h bG bG bc
 | .face _,_,h=>qg s h bG bG
 | .move _ _,_,h=>gA s h bG bG bG
theorem Cv {m:Int}:du [(sN,m)] sN=0:=by unfold du;exact List.idxOf_cons_self
theorem F2 {m v x:Int}:eU [(sN,m)] v [x] (.face sN)=[min (x+v) m]:=by
 show ni [(sN,m)] [x] (du [(sN,m)] sN) ([x].getD (du [(sN,m)] sN) 0+v)=_;rw[Cv];rfl
theorem F3 {m v x k:Int}:eU [(sN,m)] v [x] (.plus sN k)=[min (x+k) m]:=by
 show ni [(sN,m)] [x] (du [(sN,m)] sN) ([x].getD (du [(sN,m)] sN) 0+k)=_;rw[Cv];rfl
theorem Md {m v x k:Int}:eU [(sN,m)] v [x] (.set sN k)=[min k m]:=by
 show ni [(sN,m)] [x] (du [(sN,m)] sN) k=_;rw[Cv];rfl
theorem pA:bf ["_law_script","_law_k","_law_base"] ["_law_script","_law_k"] (au (top 43)):=.mk
theorem F4 (T:fj P w base K mg aH aI aF aV aq aD):iB P w K mg base (cN P w) 1 "_law_at" ["_law_script","_law_k"] (lJ K):=by
 refine T.zC.fB (λ_ _ _ _ _ _=>gS λ_ _=>rfl) λf fd F=>F.gR pA (λvs H Q E h=>?_) (λbZ A outer s H vs Q E hr h=>?_)
 ·obtain⟨_,_,_,rfl,_⟩:=h;rfl
 ·symm;obtain⟨a,ns,k,rfl,hS,k0,k1,kk⟩:=h;nofun;have nd:=pA.nd;refine⟨_,(ao (bP (aP mC (pv 1) (bg (j8 (K:=K)) (by rfl) T.z_len aaH (aa (pv 0) af)) (aX _)) (aw (aW (aG (qE (K:=K)) (pv 0) (pv 1))))
   bw)
  (ao (aT (i:=2) ae)
  (ao (bP (aP jc (bg (j8 (K:=K)) (by rfl) T.z_len aaH (aa (pv 0) af)) ae (aX _)) (aw (aT (i:=2) (br cG (aG (qE (K:=K)) (pv 0) (br cG (br cC (br cW (pv 1) ae) ae) (bg (j8 (K:=K)) (by rfl) T.z_len aaH (aa (pv 0) af)))) ae)))
   bw)
  (aw (aW (br cG (br cW (br cC (br cC (pv 2) (br cW ae (pv 1))) ae) (br cC (br cC (br cW (pv 2) ae) (br cW (pv 1) (pv 1))) ae)) ae)))))),?_⟩
  refine(?_:let cH:TS:=_;let cI:TS:=_;let cJ:TS:=_;let eD:TS:=_;tSeq cH (tSeq cI (tSeq cJ eD)) _ _ _);intro cH cI cJ eD;have sl:=sizeLine_eq;have kq:IntMulOk k k:=gc (by omega) (by omega);refine bo (λN=>¬k< (ns.length:Int)->N [some (.ref a),some (.int k),none] H) (λN hN=>?_) ?_
  ·simp_all only[Du];exact⟨ns,hS,jF (λc=>⟨ns,hS,k0,c,kk _⟩) hN⟩
  intro c;refine bo (λN=>N [some (.ref a),some (.int k),some (.int 73)] H) (λN hN=>?_) ?_
  ·simp_all only[];exact hN
  refine bo (λN=>∀x:Int,0<=x->x<998779->N [some (.ref a),some (.int k),some (.int x)] H) (λN hN=>?_) ?_
  ·simp_all only[Du];exact⟨ns,hS,jF (λz=>⟨lY,ns,hS,z,ns,hS,Int.emod_nonneg _ (by omega),Int.emod_lt_of_pos _ z,by decide,hN _ (Int.emod_nonneg _ (by decide)) (Int.emod_lt_of_pos _ (by decide))⟩) (λz=>hN 73 (by decide) (by decide))⟩
  intro x x0 x1;show IntMulOk 89 k/\IntMulOk x 7/\IntMulOk k k/\IntMulOk (x+89*k+6) (x*7+k*k+59)/\(0:Int)<1000193/\Q (V.int ((x+89*k+6)* (x*7+k*k+59) % 1000193)) H;exact⟨gc,lY,kq,gc (by omega) (by omega),by decide,kk _⟩
theorem lK:bf ["_law_cell","_law_some"] ["_law_cell"] (au (top 44)):=.mk
theorem Me (T:fj P w base K mg aH aI aF aV aq aD):iB P w K mg base (cN P w) 1 "_law_pool" ["_law_cell"] Mb:=by
 refine T.uE.fB (λ_ _ _ _ _ _=>iG λ_=>rfl) λf fd F=>F.gR lK (λvs H Q E h=>?_) (λbZ A outer s H vs Q E hr h=>?_)
 ·obtain⟨_,rfl,_⟩:=h;rfl
 ·symm;obtain⟨c,rfl,kk⟩:=h;nofun;clear G_;have nd:=lK.nd;refine⟨_,(ao (aT (i:=1) (bu (aa (bu (aa (aM (aa aL (aa ae (aa ae af)))) af)) (aa (bu (aa (aM (aa aL (aa ae (aa ae af)))) af)) (aa (bu (aa (aM (aa aL (aa ae (aa ae af)))) af)) (aa (bu (aa (aM (aa aL (aa ae (aa ae (aa ae af))))) af)) (aa (bu (aa (aM (aa aL (aa ae (aa ae (aa ae af))))) af)) af)))))))
  (ao (aT (i:=1) (br gQ (pv 1) (bu (aa (bu (aa (aM (aa aL (aa ae (aa ae (aa ae af))))) af)) (aa (bu (aa (aM (aa aL (aa ae (aa ae (aa ae af))))) af)) (aa (bu (aa (aM (aa aL (aa ae (aa ae af)))) af)) (aa (bu (aa (aM (aa aL (aa ae (aa ae af)))) af)) (aa (bu (aa (aM (aa aL (aa ae (aa ae af)))) af)) af))))))))
  (ao (aT (i:=1) (br gQ (pv 1) (bu (aa (bu (aa (aM (aa aL (aa ae (aa ae af)))) af)) (aa (bu (aa (aM (aa aL (aa ae af))) af)) (aa (bu (aa (aM (aa aL (aa ae (aa ae af)))) af)) (aa (bu (aa (aM (aa aL (aa ae (aa ae af)))) (aa (aM (aa aL (aa ae af))) af))) af)))))))
  (ao (aT (i:=1) (br gQ (pv 1) (bu (aa (bu (aa (aM (aa aL (aa ae (aa ae af)))) (aa (aM (aa aL (aa ae (aa ae af)))) af))) (aa (bu (aa (aM (aa aL (aa ae (aa ae (aa ae af))))) (aa (aM (aa aL (aa ae (aa ae (aa ae af))))) af))) (aa (bu (aa (aM (aa aL (aa ae af))) af)) af))))))
  (ao (aT (i:=1) (br gQ (pv 1) (bu (aa (bu (aa (aM (aa aL (aa ae (aa ae af)))) (aa (aM (aa aL (aa ae (aa ae af)))) (aa (aM (aa aL (aa ae (aa ae af)))) af)))) (aa (bu (aa (aM (aa aL (aa ae (aa ae af)))) (aa (aM (aa aL (aa ae (aa ae (aa ae af))))) af))) af)))))
  (ao (aT (i:=1) (br gQ (pv 1) (bu (aa (bu (aa (aM (aa aL (aa ae (aa ae (aa ae af))))) (aa (aM (aa aL (aa ae (aa ae af)))) af))) (aa (bu (aa (aM (aa aL (aa ae (aa ae (aa ae af))))) (aa (aM (aa aL (aa ae (aa ae af)))) af))) af)))))
  (aw (aW (aG bx (pv 1) (br cG (pv 0) ae)))))))))),?_⟩
  refine(?_:let cH:TS:=_;let cI:TS:=_;let cJ:TS:=_;let eD:TS:=_;let qS:TS:=_;let yA:TS:=_;let FK:TS:=_;tSeq cH (tSeq cI (tSeq cJ (tSeq eD (tSeq qS (tSeq yA FK))))) _ _ _);intro cH cI cJ eD qS yA FK;have sl:=sizeLine_eq;change tSeq _ _ _ _ _;refine bo (λN=>∀K0 l0 OS,aA H K0->K0 l0=some (.lst OS)->bH H K0 ((jO.take 5).map λps=>.lst (List.map dI ps)) OS->N [some (.int c),some (.ref l0)] K0) (λN hN=>?_) ?_
  ·simp_all only[];refine⟨by omega,λt1 G1 s1 n1 e1=>?_⟩;refine⟨by omega,λt2 n2=>?_⟩;have s2:=ag (o:=.lst [V.ref t1]) n2;have e2:upd G1 t2 (.lst [V.ref t1]) t2=some (.lst [V.ref t1]):=ai;generalize upd G1 t2 (.lst [V.ref t1])=G2 at s2 e2 ⊢;refine⟨by omega,λt3 G3 s3 n3 e3=>?_⟩;refine⟨by omega,λt4 n4=>?_⟩;have s4:=ag (o:=.lst [V.ref t3]) n4;have e4:upd G3 t4 (.lst [V.ref t3]) t4=some (.lst [V.ref t3]):=ai;generalize upd G3 t4 (.lst [V.ref t3])=G4 at s4 e4 ⊢;refine⟨by omega,λt5 G5 s5 n5 e5=>?_⟩;refine⟨by omega,λt6 n6=>?_⟩;have s6:=ag (o:=.lst [V.ref t5]) n6;have e6:upd G5 t6 (.lst [V.ref t5]) t6=some (.lst [V.ref t5]):=ai;generalize upd G5 t6 (.lst [V.ref t5])=G6 at s6 e6 ⊢;refine⟨by omega,λt7 G7 s7 n7 e7=>?_⟩;refine⟨by omega,λt8 n8=>?_⟩;have s8:=ag (o:=.lst [V.ref t7]) n8;have e8:upd G7 t8 (.lst [V.ref t7]) t8=some (.lst [V.ref t7]):=ai;generalize upd G7 t8 (.lst [V.ref t7])=G8 at s8 e8 ⊢;refine⟨by omega,λt9 G9 s9 n9 e9=>?_⟩;refine⟨by omega,λpB Ij=>?_⟩;have zQ:=ag (o:=.lst [V.ref t9]) Ij;have e10:upd G9 pB (.lst [V.ref t9]) pB=some (.lst [V.ref t9]):=ai;generalize upd G9 pB (.lst [V.ref t9])=Am at zQ e10 ⊢;refine⟨by omega,λF5 Ry=>?_⟩;have Mf:=ag (o:=.lst [V.ref t2,V.ref t4,V.ref t6,V.ref t8,V.ref pB]) Ry;have e11:upd Am F5 (.lst [V.ref t2,V.ref t4,V.ref t6,V.ref t8,V.ref pB]) F5=some (.lst [V.ref t2,V.ref t4,V.ref t6,V.ref t8,V.ref pB]):=ai;generalize upd Am F5 (.lst [V.ref t2,V.ref t4,V.ref t6,V.ref t8,V.ref pB])=Ez at Mf e11 ⊢;have Rz:aA Ez Ez:=aA.refl _;have Ik:=Mf.trans Rz;have q9:=zQ.trans Ik;have q8:=s9.trans q9;have q7:=s8.trans q8;have q6:=s7.trans q7;have q5:=s6.trans q6;have q4:=s5.trans q5;have q3:=s4.trans q4;have q2:=s3.trans q3;have q1:=s2.trans q2;have q0:=s1.trans q1;have sF:aA H Ez:=q0;have p1:aA H G1:=s1;have p2:aA H G2:=p1.trans s2;have p3:aA H G3:=p2.trans s3;have p4:aA H G4:=p3.trans s4;have p5:aA H G5:=p4.trans s5;have p6:aA H G6:=p5.trans s6;have p7:aA H G7:=p6.trans s7;have p8:aA H G8:=p7.trans s8;have p9:aA H G9:=p8.trans s9;have p10:aA H Am:=p9.trans zQ;have h2:H t2=none:=none_of (p1) n2;have h4:H t4=none:=none_of (p3) n4;have h6:H t6=none:=none_of (p5) n6;have h8:H t8=none:=none_of (p7) n8;have RA:H pB=none:=none_of (p9) Ij;have rN:bH H Ez [.lst (List.map dI [.di 1 6]),.lst (List.map dI [.di 2 6]),.lst (List.map dI [.di 3 4]),.lst (List.map dI [.best 2 3 4]),.lst (List.map dI [.dX 1 2 6])] [V.ref t2,V.ref t4,V.ref t6,V.ref t8,V.ref pB]:=(aU (b8 (h2) (q2 _ _ e2) (aU (gA (.of sF) (q1 _ _ e1) bG bc bc) bR)) (aU (b8 (h4) (q4 _ _ e4) (aU (gA (.of sF) (q3 _ _ e3) bG bc bc) bR)) (aU (b8 (h6) (q6 _ _ e6) (aU (gA (.of sF) (q5 _ _ e5) bG bc bc) bR)) (aU (b8 (h8) (q8 _ _ e8) (aU (pz (.of sF) (q7 _ _ e7) bG bc bc bc) bR)) (aU (b8 (RA) (Ik _ _ e10) (aU (pz (.of sF) (q9 _ _ e9) bG bc bc bc) bR)) bR)))))
   exact hN _ F5 _ q0 e11 rN
  rintro K0 l0 OS sK0 P8 OK;have RB:aA H K0:=sK0;have lv0:OS.length=5:=by have:=bh.length OK;rw[aat] at this;exact this.symm
  change tSeq _ _ _ _ _;refine bo (λN=>∀K1 l1 OT,aA K0 K1->K1 l1=some (.lst OT)->bH H K1 ((jO.take 10).map λps=>.lst (List.map dI ps)) OT->N [some (.int c),some (.ref l1)] K1) (λN hN=>?_) ?_
  ·simp_all only[nZ];refine⟨by omega,λt1 G1 s1 n1 e1=>?_⟩;refine⟨by omega,λt2 n2=>?_⟩;have s2:=ag (o:=.lst [V.ref t1]) n2;have e2:upd G1 t2 (.lst [V.ref t1]) t2=some (.lst [V.ref t1]):=ai;generalize upd G1 t2 (.lst [V.ref t1])=G2 at s2 e2 ⊢;refine⟨by omega,λt3 G3 s3 n3 e3=>?_⟩;refine⟨by omega,λt4 n4=>?_⟩;have s4:=ag (o:=.lst [V.ref t3]) n4;have e4:upd G3 t4 (.lst [V.ref t3]) t4=some (.lst [V.ref t3]):=ai;generalize upd G3 t4 (.lst [V.ref t3])=G4 at s4 e4 ⊢;refine⟨by omega,λt5 G5 s5 n5 e5=>?_⟩;refine⟨by omega,λt6 n6=>?_⟩;have s6:=ag (o:=.lst [V.ref t5]) n6;have e6:upd G5 t6 (.lst [V.ref t5]) t6=some (.lst [V.ref t5]):=ai;generalize upd G5 t6 (.lst [V.ref t5])=G6 at s6 e6 ⊢;refine⟨by omega,λt7 G7 s7 n7 e7=>?_⟩;refine⟨by omega,λt8 n8=>?_⟩;have s8:=ag (o:=.lst [V.ref t7]) n8;have e8:upd G7 t8 (.lst [V.ref t7]) t8=some (.lst [V.ref t7]):=ai;generalize upd G7 t8 (.lst [V.ref t7])=G8 at s8 e8 ⊢;refine⟨by omega,λt9 G9 s9 n9 e9=>?_⟩;refine⟨by omega,λpB Ij=>?_⟩;have zQ:=ag (o:=.lst [V.ref t9]) Ij;have e10:upd G9 pB (.lst [V.ref t9]) pB=some (.lst [V.ref t9]):=ai;generalize upd G9 pB (.lst [V.ref t9])=Am at zQ e10 ⊢;refine⟨by omega,λF5 Ry=>?_⟩;have Mf:=ag (o:=.lst [V.ref t2,V.ref t4,V.ref t6,V.ref t8,V.ref pB]) Ry;have e11:upd Am F5 (.lst [V.ref t2,V.ref t4,V.ref t6,V.ref t8,V.ref pB]) F5=some (.lst [V.ref t2,V.ref t4,V.ref t6,V.ref t8,V.ref pB]):=ai;generalize upd Am F5 (.lst [V.ref t2,V.ref t4,V.ref t6,V.ref t8,V.ref pB])=Ez at Mf e11 ⊢;have Rz:aA Ez Ez:=aA.refl _;have Ik:=Mf.trans Rz;have q9:=zQ.trans Ik;have q8:=s9.trans q9;have q7:=s8.trans q8;have q6:=s7.trans q7;have q5:=s6.trans q6;have q4:=s5.trans q5;have q3:=s4.trans q4;have q2:=s3.trans q3;have q1:=s2.trans q2;have q0:=s1.trans q1;have sF:aA H Ez:=RB.trans q0;have p1:aA H G1:=RB.trans s1;have p2:aA H G2:=p1.trans s2;have p3:aA H G3:=p2.trans s3;have p4:aA H G4:=p3.trans s4;have p5:aA H G5:=p4.trans s5;have p6:aA H G6:=p5.trans s6;have p7:aA H G7:=p6.trans s7;have p8:aA H G8:=p7.trans s8;have p9:aA H G9:=p8.trans s9;have p10:aA H Am:=p9.trans zQ;have h2:H t2=none:=none_of (p1) n2;have h4:H t4=none:=none_of (p3) n4;have h6:H t6=none:=none_of (p5) n6;have h8:H t8=none:=none_of (p7) n8;have RA:H pB=none:=none_of (p9) Ij;have rN:bH H Ez [.lst (List.map dI [.hits 5 3 6]),.lst (List.map dI [.hits 9 2 6]),.lst (List.map dI [.again 2 6]),.lst (List.map dI [.again 6 6]),.lst (List.map dI [.c8 2 3])] [V.ref t2,V.ref t4,V.ref t6,V.ref t8,V.ref pB]:=(aU (b8 (h2) (q2 _ _ e2) (aU (pz (.of sF) (q1 _ _ e1) bG bc bc bc) bR)) (aU (b8 (h4) (q4 _ _ e4) (aU (pz (.of sF) (q3 _ _ e3) bG bc bc bc) bR)) (aU (b8 (h6) (q6 _ _ e6) (aU (gA (.of sF) (q5 _ _ e5) bG bc bc) bR)) (aU (b8 (h8) (q8 _ _ e8) (aU (gA (.of sF) (q7 _ _ e7) bG bc bc) bR)) (aU (b8 (RA) (Ik _ _ e10) (aU (gA (.of sF) (q9 _ _ e9) bG bc bc) bR)) bR)))))
   have hL:=q0 _ _ P8;refine⟨_,hL,_,e11,by rw[lv0];show 5+5<=sizeLine;omega,λtz nz=>?_⟩;refine hN _ tz _ (q0.trans (ag nz)) ai ?_;rw[show((jO.take 10).map λps=>Dat.lst (List.map dI ps))=((jO.take 5).map λps=>Dat.lst (List.map dI ps))++ [.lst (List.map dI [.hits 5 3 6]),.lst (List.map dI [.hits 9 2 6]),.lst (List.map dI [.again 2 6]),.lst (List.map dI [.again 6 6]),.lst (List.map dI [.c8 2 3])] from rfl];exact bh.append (bH.mono (q0.trans (ag nz)) OK) (bH.mono (ag nz) rN)
  rintro K1 l1 OT sK1 hl1 ZT;have RC:aA H K1:=RB.trans sK1;have lv1:OT.length=10:=by have:=bh.length ZT;rw[aat] at this;exact this.symm
  change tSeq _ _ _ _ _;refine bo (λN=>∀K2 l2 Ap,aA K1 K2->K2 l2=some (.lst Ap)->bH H K2 ((jO.take 14).map λps=>.lst (List.map dI ps)) Ap->N [some (.int c),some (.ref l2)] K2) (λN hN=>?_) ?_
  ·simp_all only[nZ];refine⟨by omega,λt1 G1 s1 n1 e1=>?_⟩;refine⟨by omega,λt2 n2=>?_⟩;have s2:=ag (o:=.lst [V.ref t1]) n2;have e2:upd G1 t2 (.lst [V.ref t1]) t2=some (.lst [V.ref t1]):=ai;generalize upd G1 t2 (.lst [V.ref t1])=G2 at s2 e2 ⊢;refine⟨by omega,λt3 G3 s3 n3 e3=>?_⟩;refine⟨by omega,λt4 n4=>?_⟩;have s4:=ag (o:=.lst [V.ref t3]) n4;have e4:upd G3 t4 (.lst [V.ref t3]) t4=some (.lst [V.ref t3]):=ai;generalize upd G3 t4 (.lst [V.ref t3])=G4 at s4 e4 ⊢;refine⟨by omega,λt5 G5 s5 n5 e5=>?_⟩;refine⟨by omega,λt6 n6=>?_⟩;have s6:=ag (o:=.lst [V.ref t5]) n6;have e6:upd G5 t6 (.lst [V.ref t5]) t6=some (.lst [V.ref t5]):=ai;generalize upd G5 t6 (.lst [V.ref t5])=G6 at s6 e6 ⊢;refine⟨by omega,λt7 G7 s7 n7 e7=>?_⟩;refine⟨by omega,λt8 G8 s8 n8 e8=>?_⟩;refine⟨by omega,λt9 n9=>?_⟩;have s9:=ag (o:=.lst [V.ref t7,V.ref t8]) n9;have e9:upd G8 t9 (.lst [V.ref t7,V.ref t8]) t9=some (.lst [V.ref t7,V.ref t8]):=ai;generalize upd G8 t9 (.lst [V.ref t7,V.ref t8])=G9 at s9 e9 ⊢;refine⟨by omega,λpB Ij=>?_⟩;have zQ:=ag (o:=.lst [V.ref t2,V.ref t4,V.ref t6,V.ref t9]) Ij;have e10:upd G9 pB (.lst [V.ref t2,V.ref t4,V.ref t6,V.ref t9]) pB=some (.lst [V.ref t2,V.ref t4,V.ref t6,V.ref t9]):=ai;generalize upd G9 pB (.lst [V.ref t2,V.ref t4,V.ref t6,V.ref t9])=Am at zQ e10 ⊢;have Ik:aA Am Am:=aA.refl _;have q9:=zQ.trans Ik;have q8:=s9.trans q9;have q7:=s8.trans q8;have q6:=s7.trans q7;have q5:=s6.trans q6;have q4:=s5.trans q5;have q3:=s4.trans q4;have q2:=s3.trans q3;have q1:=s2.trans q2;have q0:=s1.trans q1;have sF:aA H Am:=RC.trans q0;have p1:aA H G1:=RC.trans s1;have p2:aA H G2:=p1.trans s2;have p3:aA H G3:=p2.trans s3;have p4:aA H G4:=p3.trans s4;have p5:aA H G5:=p4.trans s5;have p6:aA H G6:=p5.trans s6;have p7:aA H G7:=p6.trans s7;have p8:aA H G8:=p7.trans s8;have p9:aA H G9:=p8.trans s9;have h2:H t2=none:=none_of (p1) n2;have h4:H t4=none:=none_of (p3) n4;have h6:H t6=none:=none_of (p5) n6;have h9:H t9=none:=none_of (p8) n9;have rN:bH H Am [.lst (List.map dI [.c8 1 6]),.lst (List.map dI [.num 7]),.lst (List.map dI [.di 1 20]),.lst (List.map dI [.di 1 6,.num 9])] [V.ref t2,V.ref t4,V.ref t6,V.ref t9]:=(aU (b8 (h2) (q2 _ _ e2) (aU (gA (.of sF) (q1 _ _ e1) bG bc bc) bR)) (aU (b8 (h4) (q4 _ _ e4) (aU (qg (.of sF) (q3 _ _ e3) bG bc) bR)) (aU (b8 (h6) (q6 _ _ e6) (aU (gA (.of sF) (q5 _ _ e5) bG bc bc) bR)) (aU (b8 (h9) (q9 _ _ e9) (aU (gA (.of sF) (q7 _ _ e7) bG bc bc) (aU (qg (.of sF) (q8 _ _ e8) bG bc) bR))) bR))))
   have hL:=q0 _ _ hl1;refine⟨_,hL,_,e10,by rw[lv1];show 10+4<=sizeLine;omega,λtz nz=>?_⟩;refine hN _ tz _ (q0.trans (ag nz)) ai ?_;rw[show((jO.take 14).map λps=>Dat.lst (List.map dI ps))=((jO.take 10).map λps=>Dat.lst (List.map dI ps))++ [.lst (List.map dI [.c8 1 6]),.lst (List.map dI [.num 7]),.lst (List.map dI [.di 1 20]),.lst (List.map dI [.di 1 6,.num 9])] from rfl];exact bh.append (bH.mono (q0.trans (ag nz)) ZT) (bH.mono (ag nz) rN)
  rintro K2 l2 Ap sK2 Ac Jl;have RD:aA H K2:=RC.trans sK2;have RE:Ap.length=14:=by have:=bh.length Jl;rw[aat] at this;exact this.symm
  change tSeq _ _ _ _ _;refine bo (λN=>∀K3 l3 Il,aA K2 K3->K3 l3=some (.lst Il)->bH H K3 ((jO.take 17).map λps=>.lst (List.map dI ps)) Il->N [some (.int c),some (.ref l3)] K3) (λN hN=>?_) ?_
  ·simp_all only[nZ];refine⟨by omega,λt1 G1 s1 n1 e1=>?_⟩;refine⟨by omega,λt2 G2 s2 n2 e2=>?_⟩;refine⟨by omega,λt3 n3=>?_⟩;have s3:=ag (o:=.lst [V.ref t1,V.ref t2]) n3;have e3:upd G2 t3 (.lst [V.ref t1,V.ref t2]) t3=some (.lst [V.ref t1,V.ref t2]):=ai;generalize upd G2 t3 (.lst [V.ref t1,V.ref t2])=G3 at s3 e3 ⊢;refine⟨by omega,λt4 G4 s4 n4 e4=>?_⟩;refine⟨by omega,λt5 G5 s5 n5 e5=>?_⟩;refine⟨by omega,λt6 n6=>?_⟩;have s6:=ag (o:=.lst [V.ref t4,V.ref t5]) n6;have e6:upd G5 t6 (.lst [V.ref t4,V.ref t5]) t6=some (.lst [V.ref t4,V.ref t5]):=ai;generalize upd G5 t6 (.lst [V.ref t4,V.ref t5])=G6 at s6 e6 ⊢;refine⟨by omega,λt7 G7 s7 n7 e7=>?_⟩;refine⟨by omega,λt8 n8=>?_⟩;have s8:=ag (o:=.lst [V.ref t7]) n8;have e8:upd G7 t8 (.lst [V.ref t7]) t8=some (.lst [V.ref t7]):=ai;generalize upd G7 t8 (.lst [V.ref t7])=G8 at s8 e8 ⊢;refine⟨by omega,λt9 n9=>?_⟩;have s9:=ag (o:=.lst [V.ref t3,V.ref t6,V.ref t8]) n9;have e9:upd G8 t9 (.lst [V.ref t3,V.ref t6,V.ref t8]) t9=some (.lst [V.ref t3,V.ref t6,V.ref t8]):=ai;generalize upd G8 t9 (.lst [V.ref t3,V.ref t6,V.ref t8])=G9 at s9 e9 ⊢;have q9:aA G9 G9:=aA.refl _;have q8:=s9.trans q9;have q7:=s8.trans q8;have q6:=s7.trans q7;have q5:=s6.trans q6;have q4:=s5.trans q5;have q3:=s4.trans q4;have q2:=s3.trans q3;have q1:=s2.trans q2;have q0:=s1.trans q1;have sF:aA H G9:=RD.trans q0;have p1:aA H G1:=RD.trans s1;have p2:aA H G2:=p1.trans s2;have p3:aA H G3:=p2.trans s3;have p4:aA H G4:=p3.trans s4;have p5:aA H G5:=p4.trans s5;have p6:aA H G6:=p5.trans s6;have p7:aA H G7:=p6.trans s7;have p8:aA H G8:=p7.trans s8;have h3:H t3=none:=none_of (p2) n3;have h6:H t6=none:=none_of (p5) n6;have h8:H t8=none:=none_of (p7) n8;have rN:bH H G9 [.lst (List.map dI [.di 1 4,.again 1 3]),.lst (List.map dI [.hits 1 1 2,.hits 2 1 2]),.lst (List.map dI [.num 0])] [V.ref t3,V.ref t6,V.ref t8]:=(aU (b8 (h3) (q3 _ _ e3) (aU (gA (.of sF) (q1 _ _ e1) bG bc bc) (aU (gA (.of sF) (q2 _ _ e2) bG bc bc) bR))) (aU (b8 (h6) (q6 _ _ e6) (aU (pz (.of sF) (q4 _ _ e4) bG bc bc bc) (aU (pz (.of sF) (q5 _ _ e5) bG bc bc bc) bR))) (aU (b8 (h8) (q8 _ _ e8) (aU (qg (.of sF) (q7 _ _ e7) bG bc) bR)) bR)))
   have hL:=q0 _ _ Ac;refine⟨_,hL,_,e9,by rw[RE];show 14+3<=sizeLine;omega,λtz nz=>?_⟩;refine hN _ tz _ (q0.trans (ag nz)) ai ?_;rw[show((jO.take 17).map λps=>Dat.lst (List.map dI ps))=((jO.take 14).map λps=>Dat.lst (List.map dI ps))++ [.lst (List.map dI [.di 1 4,.again 1 3]),.lst (List.map dI [.hits 1 1 2,.hits 2 1 2]),.lst (List.map dI [.num 0])] from rfl];exact bh.append (bH.mono (q0.trans (ag nz)) Jl) (bH.mono (ag nz) rN)
  rintro K3 l3 Il sK3 hl3 Jk;have RF:aA H K3:=RD.trans sK3;have lv3:Il.length=17:=by have:=bh.length Jk;rw[aat] at this;exact this.symm
  change tSeq _ _ _ _ _;refine bo (λN=>∀K4 l4 EA,aA K3 K4->K4 l4=some (.lst EA)->bH H K4 ((jO.take 19).map λps=>.lst (List.map dI ps)) EA->N [some (.int c),some (.ref l4)] K4) (λN hN=>?_) ?_
  ·simp_all only[nZ];refine⟨by omega,λt1 G1 s1 n1 e1=>?_⟩;refine⟨by omega,λt2 G2 s2 n2 e2=>?_⟩;refine⟨by omega,λt3 G3 s3 n3 e3=>?_⟩;refine⟨by omega,λt4 n4=>?_⟩;have s4:=ag (o:=.lst [V.ref t1,V.ref t2,V.ref t3]) n4;have e4:upd G3 t4 (.lst [V.ref t1,V.ref t2,V.ref t3]) t4=some (.lst [V.ref t1,V.ref t2,V.ref t3]):=ai;generalize upd G3 t4 (.lst [V.ref t1,V.ref t2,V.ref t3])=G4 at s4 e4 ⊢;refine⟨by omega,λt5 G5 s5 n5 e5=>?_⟩;refine⟨by omega,λt6 G6 s6 n6 e6=>?_⟩;refine⟨by omega,λt7 n7=>?_⟩;have s7:=ag (o:=.lst [V.ref t5,V.ref t6]) n7;have e7:upd G6 t7 (.lst [V.ref t5,V.ref t6]) t7=some (.lst [V.ref t5,V.ref t6]):=ai;generalize upd G6 t7 (.lst [V.ref t5,V.ref t6])=G7 at s7 e7 ⊢;refine⟨by omega,λt8 n8=>?_⟩;have s8:=ag (o:=.lst [V.ref t4,V.ref t7]) n8;have e8:upd G7 t8 (.lst [V.ref t4,V.ref t7]) t8=some (.lst [V.ref t4,V.ref t7]):=ai;generalize upd G7 t8 (.lst [V.ref t4,V.ref t7])=G8 at s8 e8 ⊢;have q8:aA G8 G8:=aA.refl _;have q7:=s8.trans q8;have q6:=s7.trans q7;have q5:=s6.trans q6;have q4:=s5.trans q5;have q3:=s4.trans q4;have q2:=s3.trans q3;have q1:=s2.trans q2;have q0:=s1.trans q1;have sF:aA H G8:=RF.trans q0;have p1:aA H G1:=RF.trans s1;have p2:aA H G2:=p1.trans s2;have p3:aA H G3:=p2.trans s3;have p4:aA H G4:=p3.trans s4;have p5:aA H G5:=p4.trans s5;have p6:aA H G6:=p5.trans s6;have p7:aA H G7:=p6.trans s7;have h4:H t4=none:=none_of (p3) n4;have h7:H t7=none:=none_of (p6) n7;have rN:bH H G8 [.lst (List.map dI [.di 1 2,.di 1 3,.di 1 5]),.lst (List.map dI [.c8 0 4,.best 1 2 3])] [V.ref t4,V.ref t7]:=(aU (b8 (h4) (q4 _ _ e4) (aU (gA (.of sF) (q1 _ _ e1) bG bc bc) (aU (gA (.of sF) (q2 _ _ e2) bG bc bc) (aU (gA (.of sF) (q3 _ _ e3) bG bc bc) bR)))) (aU (b8 (h7) (q7 _ _ e7) (aU (gA (.of sF) (q5 _ _ e5) bG bc bc) (aU (pz (.of sF) (q6 _ _ e6) bG bc bc bc) bR))) bR))
   have hL:=q0 _ _ hl3;refine⟨_,hL,_,e8,by rw[lv3];show 17+2<=sizeLine;omega,λtz nz=>?_⟩;refine hN _ tz _ (q0.trans (ag nz)) ai ?_;rw[show((jO.take 19).map λps=>Dat.lst (List.map dI ps))=((jO.take 17).map λps=>Dat.lst (List.map dI ps))++ [.lst (List.map dI [.di 1 2,.di 1 3,.di 1 5]),.lst (List.map dI [.c8 0 4,.best 1 2 3])] from rfl];exact bh.append (bH.mono (q0.trans (ag nz)) Jk) (bH.mono (ag nz) rN)
  rintro K4 l4 EA sK4 EB Jm;have RG:aA H K4:=RF.trans sK4;have OU:EA.length=19:=by have:=bh.length Jm;rw[aat] at this;exact this.symm
  change tSeq _ _ _ _ _;refine bo (λN=>∀K5 l5 CU,aA K4 K5->K5 l5=some (.lst CU)->bH H K5 ((jO.take 21).map λps=>.lst (List.map dI ps)) CU->N [some (.int c),some (.ref l5)] K5) (λN hN=>?_) ?_
  ·simp_all only[nZ];refine⟨by omega,λt1 G1 s1 n1 e1=>?_⟩;refine⟨by omega,λt2 G2 s2 n2 e2=>?_⟩;refine⟨by omega,λt3 n3=>?_⟩;have s3:=ag (o:=.lst [V.ref t1,V.ref t2]) n3;have e3:upd G2 t3 (.lst [V.ref t1,V.ref t2]) t3=some (.lst [V.ref t1,V.ref t2]):=ai;generalize upd G2 t3 (.lst [V.ref t1,V.ref t2])=G3 at s3 e3 ⊢;refine⟨by omega,λt4 G4 s4 n4 e4=>?_⟩;refine⟨by omega,λt5 G5 s5 n5 e5=>?_⟩;refine⟨by omega,λt6 n6=>?_⟩;have s6:=ag (o:=.lst [V.ref t4,V.ref t5]) n6;have e6:upd G5 t6 (.lst [V.ref t4,V.ref t5]) t6=some (.lst [V.ref t4,V.ref t5]):=ai;generalize upd G5 t6 (.lst [V.ref t4,V.ref t5])=G6 at s6 e6 ⊢;refine⟨by omega,λt7 n7=>?_⟩;have s7:=ag (o:=.lst [V.ref t3,V.ref t6]) n7;have e7:upd G6 t7 (.lst [V.ref t3,V.ref t6]) t7=some (.lst [V.ref t3,V.ref t6]):=ai;generalize upd G6 t7 (.lst [V.ref t3,V.ref t6])=G7 at s7 e7 ⊢;have q7:aA G7 G7:=aA.refl _;have q6:=s7.trans q7;have q5:=s6.trans q6;have q4:=s5.trans q5;have q3:=s4.trans q4;have q2:=s3.trans q3;have q1:=s2.trans q2;have q0:=s1.trans q1;have sF:aA H G7:=RG.trans q0;have p1:aA H G1:=RG.trans s1;have p2:aA H G2:=p1.trans s2;have p3:aA H G3:=p2.trans s3;have p4:aA H G4:=p3.trans s4;have p5:aA H G5:=p4.trans s5;have p6:aA H G6:=p5.trans s6;have h3:H t3=none:=none_of (p2) n3;have h6:H t6=none:=none_of (p5) n6;have rN:bH H G7 [.lst (List.map dI [.dX 1 2 2,.again 3 6]),.lst (List.map dI [.hits 2 1 3,.again 4 6])] [V.ref t3,V.ref t6]:=(aU (b8 (h3) (q3 _ _ e3) (aU (pz (.of sF) (q1 _ _ e1) bG bc bc bc) (aU (gA (.of sF) (q2 _ _ e2) bG bc bc) bR))) (aU (b8 (h6) (q6 _ _ e6) (aU (pz (.of sF) (q4 _ _ e4) bG bc bc bc) (aU (gA (.of sF) (q5 _ _ e5) bG bc bc) bR))) bR))
   have hL:=q0 _ _ EB;refine⟨_,hL,_,e7,by rw[OU];show 19+2<=sizeLine;omega,λtz nz=>?_⟩;refine hN _ tz _ (q0.trans (ag nz)) ai ?_;rw[show((jO.take 21).map λps=>Dat.lst (List.map dI ps))=((jO.take 19).map λps=>Dat.lst (List.map dI ps))++ [.lst (List.map dI [.dX 1 2 2,.again 3 6]),.lst (List.map dI [.hits 2 1 3,.again 4 6])] from rfl];exact bh.append (bH.mono (q0.trans (ag nz)) Jm) (bH.mono (ag nz) rN)
  rintro K5 l5 CU sK5 vj vk;have sH5:aA H K5:=RG.trans sK5;have xi:CU.length=21:=by have:=bh.length vk;rw[aat] at this;exact this.symm
  have m0:=Int.emod_nonneg c (show(21:Int)≠0 by decide);have m1:=Int.emod_lt_of_pos c (show(0:Int)<21 by decide);have hi:(c % 21).toNat<jO.length:=by show _<21;omega
  rw[show jO.take 21=jO from rfl] at vk;symm;obtain⟨v,ev,rv⟩:=vk.ix (i:=c % 21) m0 (map_getD [] hi);nofun;simp_all only[];exact⟨by decide,_,vj,_,ev,kk v _ _ sH5 (by rw[abl,aaG hi];exact aa9 hi) rv⟩
theorem lL:bf ["_law_script","_law_counts","_law_goals","_law_rows_here","_law_low","_law_j","_law_cell","_law_high","_law_deeds","_law_deed"] ["_law_script","_law_counts"] (au (top 45)):=.mk
theorem Im (T:fj P w base K mg aH aI aF aV aq aD):iB P w K mg base (cN P w) 2 "_law_rows" ["_law_script","_law_counts"] (FY K):=by
 have dB:=F4 T;refine T.uF.fB (λ_ _ _ _ _ _=>gS λ_ _=>rfl) λf fd F=>F.gR lL (λvs H Q E h=>?_) (λbZ A outer s H vs Q E hr h=>?_)
 ·obtain⟨_,_,_,_,rfl,_⟩:=h;rfl
 ·symm;obtain⟨a,ns,cv,cs,rfl,hS,rc,hc,kk⟩:=h;nofun;clear G_;have nd:=lL.nd;refine⟨_,(ao (aT (i:=2) (je (kS (K:=K)) (bu (aa aL (aa aL (aa aL af)))) kD (kG (br cC ae (br cG (bI dB (aa (pv 0) (aa ae af))) ae)))))
  (ao (bP (aP jc (br cG (bI dB (aa (pv 0) (aa ae af))) ae) ae (aX _)) (aw (aT (i:=2) (br gQ (pv 2) (bu (aa aL af)))))
   bw)
  (ao (aT (i:=3) (bu af))
  (ao (aT (i:=4) ae)
  (ao (cK PassesOwn.never rfl (eY rfl T.z_range (aa (br cG (bI dB (aa (pv 0) (aa ae af))) ae) af)) (aO (i:=5) nd rfl (Or.inl rfl)) (ao (aT (i:=6) (bI dB (aa (pv 0) (aa (br cC ae (pv 5)) af))))
  (ao (aT (i:=7) (br cC (pv 4) (br cG (pv 6) ae)))
  (ao (aT (i:=8) (bu af))
  (ao (bP (PW.pt (pw_and (aP jc (bg bM (by rfl) T.z_len aaH (aa (pv 1) af)) ae (aX _)) (pw_and1 (aP jc (br cG (br eJ (pv 6) ae) ae) ae (aX _))))) (ao (aT (i:=9) (bu (aa (aM (aa aL (aa aL af))) (aa (aM (aa aL (aa aL (aa (br cG (br eJ (pv 6) ae) ae) af)))) (aa (aM (aa aL (aa aL (aa (br cG (br eJ (pv 6) ae) ae) af)))) af)))))
  (ao (aT (i:=8) (bu (aa (aG bx (pv 9) (br rB (br cG (br eJ (pv 6) ae) ae) ae)) af)))
  (aw (bP (aP cw (br cG (br eJ (pv 6) ae) ae) ae (aX _)) (aw (cg (eI aaU aa5 aa6 cQ.r (pv 8) (aa (aM (aa aL (aa aL af))) af))))
   bw))))
   bw)
  (ao (cg (eI aaU aa5 aa6 cQ.r (pv 3) (aa (aM (aa (pv 4) (aa (pv 7) (aa (pv 8) (aa (aG bx (pv 2) (br cG (br eJ (pv 6) ae) (bg bM (by rfl) T.z_len aaH (aa (pv 2) af)))) af))))) af)))
  (aw (aT (i:=4) (br cC (pv 7) ae)))))))))
  (ao (cg (eI aaU aa5 aa6 cQ.r (pv 3) (aa (aM (aa (pv 4) (aa ae (aa (bu af) (aa aL af))))) af)))
  (ao (bP (aP cw (br cG (bI dB (aa (pv 0) (aa ae af))) ae) ae (aX _)) (aw (cg (GH aaU PySem.F.slot_list_reverse PySem.F.type_list_reverse vV.r (pv 3))))
   bw)
  (aw (aW (pv 3)))))))))),?_⟩
  refine(?_:let cH:TS:=_;let cI:TS:=_;let cJ:TS:=_;let eD:TS:=_;let qS:TS:=_;let yA:TS:=_;let FK:TS:=_;let ZU:TS:=_;tSeq cH (tSeq cI (tSeq cJ (tSeq eD (tSeq qS (tSeq yA (tSeq FK ZU)))))) _ _ _);intro cH cI cJ eD qS yA FK ZU;have sl:=sizeLine_eq;have cnd:=hc.nd;symm;obtain⟨cl,FL,rfl,jG,yB⟩:=aZ.mp (show Rep H (.lst _) cv from rc);nofun;clear G_;have ZV:FL.length=cs.length:=by have:=yB.length;rw[aat] at this;omega
  change tSeq _ _ _ _ _;refine bo (λN=>∀H1 gl gs,aA H H1->H1 gl=some (.lst (List.map V.str gs))->0<gs.length->gs.length<=3->(∀x∈gs,x∈gN)->N [some (.ref a),some (.ref cl),some (.ref gl),none,none,none,none,none,none,none] H1) (λN hN=>?_) ?_
  ·simp_all only[lJ];refine⟨by omega,λp np=>⟨ns,(ag np).seq hS,by decide,by decide,λn3=>⟨by decide,_,bT.of ai,λp1 F6=>hN _ p1 ([Str.ofString "end",Str.ofString "b",Str.ofString "c"].take (1+n3 % 3).toNat) ((ag np).trans (ag F6)) ?_ ?_ ?_ (λx hx=>?_)⟩⟩⟩
   ·rw[ai,jj (by omega),List.map_take];rfl
   ·rw[abg];show 0<min _ 3;omega
   ·rw[abg];show min _ 3<=3;omega
   ·exact(show ∀x∈[Str.ofString "end",Str.ofString "b",Str.ofString "c"],x∈gN by ac_rfl) x (List.mem_of_mem_take hx)
  rintro H1 gl gs s1 Jn g1 g3 gm;change tSeq _ _ _ _ _;refine bo (λN=>∀H1 gl gs,aA H H1->H1 gl=some (.lst (List.map V.str gs))->0<gs.length->gs.length<=4->(∀x∈gs,x∈gN)->N [some (.ref a),some (.ref cl),some (.ref gl),none,none,none,none,none,none,none] H1) (λN hN=>?_) ?_
  ·refine iE (λH'=>H1=H') (λH'=>H1=H') (λH2 e=>?_) (λH2 e=>?_) (λY N hY hN=>?_)
   ·subst e;simp_all only[nZ];refine⟨by omega,λp np=>⟨_,ag np _ _ Jn,_,ai,by rw[aat];show gs.length+1<=sizeLine;omega,λp1 F6=>hN _ p1 (gs++ [Str.ofString "roll"]) (s1.trans ((ag np).trans (ag F6))) (by rw[ai,aaK];rfl) (by rw[aay];omega) (by rw[aay];show gs.length+1<=4;omega) (λx hx=>?_)⟩⟩;rcases List.mem_append.mp hx with hx | hx
    ·exact gm x hx
    ·rw[List.mem_singleton.mp hx];exact .head _
   ·subst e;exact hN _ gl gs s1 Jn g1 (by omega) gm
   ·simp_all only[lJ];exact⟨ns,s1.seq hS,by decide,by decide,λn=>⟨by decide,jF (λ_=>hY _ rfl) (λ_=>hN _ rfl)⟩⟩
  clear g1 g3 gm Jn s1;rintro H1 gl gs s1 Jn g1 g3 gm;change tSeq _ _ _ _ _;refine bo (λN=>∀H2 l,aA H1 H2->H1 l=none->H2 l=some (.lst [])->N [some (.ref a),some (.ref cl),some (.ref gl),some (.ref l),none,none,none,none,none,none] H2) (λN hN=>?_) ?_
  ·simp_all only[];exact⟨aaz _,λl nl=>hN _ l (ag nl) nl ai⟩
  rintro H2 l s2 nl hl;change tSeq _ _ _ _ _;refine bo (λN=>N [some (.ref a),some (.ref cl),some (.ref gl),some (.ref l),some (.int 0),none,none,none,none,none] H2) (λN hN=>?_) ?_
  ·simp_all only[];exact hN
  change tSeq _ _ _ _ _;refine bo (λN=>∀H3 lo rs xs,aA H1 H3->H3 l=some (.lst xs)->zV cs lo rs->lo<=30->List.length rs<=4->bH (upd H1 l (.lst [])) H3 ((rs.map yi).map nh) xs->∀z5 z6 z7 z8 z9,N [some (.ref a),some (.ref cl),some (.ref gl),some (.ref l),some (.int lo),z5,z6,z7,z8,z9] H3) (λN hN=>?_) ?_
  ·simp_all only[lJ];refine⟨ns,(s1.trans s2).seq hS,by decide,by decide,λn5=>⟨by decide,by omega,by omega,?_⟩⟩;have m5:(n5 % 5).toNat<=4:=by omega
   generalize (n5 % 5).toNat=mm at *;refine bY (src_range (Ok:=λ_=>True)) (λi σ H3=>aA H1 H3/\∃(lo:Int) (rs:List Tw) (xs:List V),H3 l=some (.lst xs)/\zV cs lo rs/\lo<=6*i/\rs.length=i/\bH (upd H1 l (.lst [])) H3 ((rs.map yi).map nh) xs/\∃z5 z6 z7 z8 z9,σ=[some (.ref a),some (.ref cl),some (.ref gl),some (.ref l),some (.int lo),z5,z6,z7,z8,z9]) ⟨s2,0,[],[],hl,⟨by decide,(λr hr=>by cases hr),λv v0 v1=>by omega⟩,by decide,rfl,bR,_,_,_,_,_,rfl⟩ (λ_ _ _ _ _=>trivial) ?_ ?_
   ·intro i x σ Mg H3 hi eQ eM;symm;obtain⟨s3,lo,rs,xs,hx,sg,l6,lr,rx,z5,z6,z7,z8,z9,rfl⟩:=eQ;obtain⟨rfl,rfl⟩:=eM;nofun;clear G_;have lx:xs.length=i:=by have:=bh.length rx;rw[aat,aat] at this;omega
    have li:dR (upd H1 l (.lst [])) H3:=λb ys e=>by
     by_cases c:b=l
     ·subst c;exact⟨_,hx⟩
     ·rw[aE c] at e;exact⟨_,s3 _ _ e⟩
    simp only[gName,aa3,aa2,Int.zero_add];change tSeq _ _ _ _ _;refine bo (λN=>∀c:Int,N [some (.ref a),some (.ref cl),some (.ref gl),some (.ref l),some (.int lo),some (.int (i:Int)),some (.int c),z7,z8,z9] H3) (λN hN=>?_) ?_
    ·simp_all only[lJ];exact⟨ns,(s1.trans s3).seq hS,by omega,by omega,λc=>hN c⟩
    rintro c;change tSeq _ _ _ _ _;refine bo (λN=>N [some (.ref a),some (.ref cl),some (.ref gl),some (.ref l),some (.int lo),some (.int (i:Int)),some (.int c),some (.int (lo+c % 6)),z8,z9] H3) (λN hN=>?_) ?_
    ·simp_all only[];exact⟨by decide,hN⟩
    change tSeq _ _ _ _ _;refine bo (λN=>∀H4 dl,aA H3 H4->H3 dl=none->H4 dl=some (.lst [])->N [some (.ref a),some (.ref cl),some (.ref gl),some (.ref l),some (.int lo),some (.int (i:Int)),some (.int c),some (.int (lo+c % 6)),some (.ref dl),z9] H4) (λN hN=>?_) ?_
    ·simp_all only[];exact⟨aaz _,λl nl=>hN _ l (ag nl) nl ai⟩
    rintro H4 ZW s4 nd0 wM;change tSeq _ _ _ _ _;refine bo (λN=>∀H5 dl ds z9,aA H3 H5->B1 cs ds->dh H3 H5 (.lst (ds.map Ag)) (.ref dl)->N [some (.ref a),some (.ref cl),some (.ref gl),some (.ref l),some (.int lo),some (.int (i:Int)),some (.int c),some (.int (lo+c % 6)),some (.ref dl),z9] H5) (λN hN=>?_) ?_
    ·refine iE (λH'=>H4=H'/\0<cs.length/\0<c / 6 % 4) (λH'=>H4=H') (λH5 e=>?_) (λH5 e=>?_) (λY N hY hN=>?_)
     ·symm;obtain⟨rfl,c0,c4⟩:=e;nofun;clear G_;have hs:sN∈cs.map (·.1):=by
       rcases hc with rfl | ⟨m,_,_,rfl⟩
       ·cases c0
       ·exact .head _
      change tSeq _ _ _ _ _;refine bo (λN=>∀H6 el vs,aA H4 H6->H6 el=some (.lst vs)->bH H3 H6 ([Dd.face sN,.plus sN (c / 24 % 9),.set sN (c / 24 % 40)].map Ag) vs->N [some (.ref a),some (.ref cl),some (.ref gl),some (.ref l),some (.int lo),some (.int (i:Int)),some (.int c),some (.int (lo+c % 6)),some (.ref ZW),some (.ref el)] H6) (λN hN=>?_) ?_
      ·simp_all only[];refine⟨by omega,λt0 G0 q0 n0 e0=>⟨gD.lit,by decide,by omega,λt1 G1 q1 n1 e1=>⟨gD.lit,by decide,by omega,λt2 G2 q2 n2 e2=>⟨by omega,λp np=>hN _ p _ (q0.trans (q1.trans (q2.trans (ag np)))) ai ?_⟩⟩⟩⟩;have q3:=ag (o:=.lst [V.ref t0,.ref t1,.ref t2]) np;have sA:=s4.trans (q0.trans (q1.trans (q2.trans q3)));exact aU (qg (.of sA) ((q1.trans (q2.trans q3)) _ _ e0) bG bG) (aU (gA (.of sA) ((q2.trans q3) _ _ e1) bG bG bc) (aU (gA (.of sA) (q3 _ _ e2) bG bG bc) bR))
      rintro H6 el evs s6 hel rel;change tSeq _ _ _ _ _;refine bo (λN=>∀H7 dl u d,aA H6 H7->H6 dl=none->H7 dl=some (.lst [u])->uS cs d->dh H3 H7 (Ag d) u->N [some (.ref a),some (.ref cl),some (.ref gl),some (.ref l),some (.int lo),some (.int (i:Int)),some (.int c),some (.int (lo+c % 6)),some (.ref dl),some (.ref el)] H7) (λN hN=>?_) ?_
      ·have hi4:(c / 6 % 4 - 1).toNat<3:=by omega
       symm;obtain⟨u,eu,ru⟩:=rel.ix (i:=c / 6 % 4 - 1) (by omega) (map_getD (Dd.face sN) hi4);nofun;clear G_;have dk:uS cs ([Dd.face sN,.plus sN (c / 24 % 9),.set sN (c / 24 % 40)].getD (c / 6 % 4 - 1).toNat (Dd.face sN)):=by
        generalize (c / 6 % 4 - 1).toNat=j at *;rcases j with _ | _ | _ | j
        ·exact hs
        ·exact⟨hs,by omega⟩
        ·exact⟨hs,by omega⟩
        ·omega
       simp_all only[];exact⟨gD.lit,by decide,_,hel,_,eu,by omega,λp np=>hN _ p u _ (ag np) np ai dk (ru.mono (ag np))⟩
      rintro H7 dl u d s7 Mh Cw dk ru;have RH:=s4.trans (s6.trans s7);have n3:H3 dl=none:=none_of (s4.trans s6) Mh;refine iE (λH'=>H7=H') (λH'=>H7=H') (λH8 e=>?_) (λH8 e=>?_) (λY N hY hN=>?_)
      ·subst e;symm;obtain⟨q,rfl,hq⟩:=sU ru.rep;nofun;simp_all only[dt];refine⟨.inl ⟨rfl,_,bT.of Cw⟩,by omega,λp H8 s8 np e8=>⟨_,s8 _ _ Cw,by show 1<sizeLine;omega,hN _ dl [d,.face sN] _ (bS (RH.trans s8) n3) ⟨aav 2,λx hx=>?_⟩ ?_⟩⟩
       ·rcases List.mem_cons.mp hx with rfl | hx
        ·exact dk
        ·rw[List.mem_singleton.mp hx];exact hs
       ·have ld:dR H3 (upd H8 dl (.lst ([V.ref q]++ [V.ref p]))):=λb ys e=>⟨ys,by rw[aE (λz=>by rw[z,n3] at e;cases e)];exact(RH.trans s8) _ _ e⟩
        exact b8 n3 ai (aU (F1 ld (by rw[aE (λz=>by rw[z,Cw] at hq;cases hq)];exact s8 _ _ hq)) (aU (F1 (d:=.face sN) ld (by rw[aE (λz=>by rw[z,s8 _ _ Cw] at e8;cases e8)];exact e8)) bR))
      ·subst e;exact hN _ dl [d] _ RH ⟨(show 1<=2 by decide),λx hx=>by rw[List.mem_singleton.mp hx];exact dk⟩ (b8 n3 Cw (aU ru bR))
      ·simp_all only[];exact⟨gD.lit,by decide,jF (λ_=>hY _ rfl) (λ_=>hN _ rfl)⟩
     ·subst e;exact hN _ ZW [] _ s4 ⟨aaz _,λd hd=>by cases hd⟩ (b8 nd0 wM bR)
     ·simp_all only[s4 _ _ (s3 _ _ (s1 _ _ jG))]
      by_cases c0:0<cs.length
      ·rw[if_pos (by omega)];exact⟨gD.lit,by decide,jF (λc4=>hY _ ⟨rfl,c0,c4⟩) (λ_=>hN _ rfl)⟩
      ·rw[if_neg (by omega),if_neg (by decide)];exact hN _ rfl
    rintro H5 dl ds z9' s5 dk Cy;change tSeq _ _ _ _ _;refine bo (λN=>∀H6 Kc,aA H1 H6->H6 l=some (.lst Kc)->(∃to,to∈gN/\bH (upd H1 l (.lst [])) H6 (((rs++ [(lo,lo+c % 6,ds,to)]).map yi).map nh) Kc)->N [some (.ref a),some (.ref cl),some (.ref gl),some (.ref l),some (.int lo),some (.int (i:Int)),some (.int c),some (.int (lo+c % 6)),some (.ref dl),z9'] H6) (λN hN=>?_) ?_
    ·symm;obtain⟨k,x,ek,ex⟩:=Eu (l:=gs) (c / 700) g1;nofun;have CH:pM (List.map V.str gs) (c / 700 % ((List.map V.str gs).length:Int))=some (.str x):=by rw[aat,ek];exact Ey ex
     simp_all only[dt];refine⟨.inl ⟨rfl,_,bT.of (s5 _ _ hx)⟩,gD.lit,_,(s3.trans s5) _ _ Jn,by rw[aat];omega,_,(s3.trans s5) _ _ Jn,_,CH,by omega,λp H6 s6 np e6=>⟨_,(s5.trans s6) _ _ hx,by omega,hN _ _ (bS (s3.trans (s5.trans s6)) nl) ai ⟨x,gm x (aaC ex),?_⟩⟩⟩;show bh (fJ _ (upd _ _ _)) _ _;rw[eO (ys:=[]) ai,aaK,aaK];exact jD (pz (li.trans (s5.trans s6)) e6 bc bc ((Cy.low li).mono s6) bG) (rx.mono (s5.trans s6))
    intro H6 Kc s6 hx6 Rv;symm;obtain⟨to,gk,rx6⟩:=Rv;nofun;simp_all only[];exact⟨s6,_,_,Kc,hx6,yI sg (by omega) dk gk,by omega,by rw[aay,lr];rfl,rx6,rfl,_,rfl⟩
   ·intro σ H3 c5;symm;obtain⟨s3,lo,rs,xs,hx,sg,l6,lr,rx,z5,z6,z7,z8,z9,rfl⟩:=c5;nofun;exact hN _ lo rs xs s3 hx sg (by omega) (by omega) rx _ _ _ _ _
  rintro H3 lo rs xs s3 hx sg l30 lr rx z5 z6 z7 z8 z9;have lx:xs.length=rs.length:=by have:=bh.length rx;rw[aat,aat] at this;omega
  have li:dR (upd H1 l (.lst [])) H3:=λb ys e=>by
   by_cases c:b=l
   ·subst c;exact⟨_,hx⟩
   ·rw[aE c] at e;exact⟨_,s3 _ _ e⟩
  change tSeq _ _ _ _ _;refine bo (λN=>∀H4 rs xs,aA H1 H4->H4 l=some (.lst xs)->B4 cs rs->bH (upd H1 l (.lst [])) H4 ((rs.map yi).map nh) xs->N [some (.ref a),some (.ref cl),some (.ref gl),some (.ref l),some (.int lo),z5,z6,z7,z8,z9] H4) (λN hN=>?_) ?_
  ·simp_all only[dt];refine⟨.inl ⟨rfl,_,bT.of hx⟩,by omega,λp np=>⟨by omega,λp1 H4 s4 F6 e4=>⟨_,((ag np).trans s4) _ _ hx,by omega,hN _ (rs++ [(lo,999,[],Str.ofString "end")]) _ (bS (s3.trans ((ag np).trans s4)) nl) ai (Ii (show zV cs (999+1) _ from yI sg (by omega) ⟨aaz _,λd hd=>by cases hd⟩ (.tail _ (.head _))) (by rw[aay];show rs.length+1<=6;omega)) ?_⟩⟩⟩;have sA:=(ag (o:=.lst []) np).trans s4;have pn:upd H1 l (.lst []) p=none:=by
    rw[aE (λz=>by rw[z,hx] at np;cases np)];exact none_of s3 np
   show bh (fJ _ (upd _ _ _)) _ _;rw[eO (ys:=[]) ai,aaK,aaK];exact jD (pz (li.trans sA) e4 bc bc (b8 pn (s4 _ _ ai) bR) bG) (rx.mono sA)
  clear lx li sg l30 lr rx hx s3;rintro H4 rs xs s4 hx rk rx;change tSeq _ _ _ _ _;refine bo (λN=>∀H5 rs xs,aA H1 H5->H5 l=some (.lst xs)->B4 cs rs->bH (upd H1 l (.lst [])) H5 ((rs.map yi).map nh) xs->N [some (.ref a),some (.ref cl),some (.ref gl),some (.ref l),some (.int lo),z5,z6,z7,z8,z9] H5) (λN hN=>?_) ?_
  ·refine iE (λH'=>H4=H') (λH'=>H4=H') (λH5 e=>?_) (λH5 e=>?_) (λY N hY hN=>?_)
   ·subst e;simp_all only[JS,ua];refine⟨.inl ⟨rfl,_,bT.of hx⟩,_,hx,hN _ rs.reverse _ (bS s4 nl) ai (rw_rev rk) ?_⟩;show bh (fJ _ (upd _ _ _)) _ _;rw[eO (ys:=[]) ai,List.map_reverse,List.map_reverse];exact Cu rx
   ·subst e;exact hN _ rs xs s4 hx rk rx
   ·simp_all only[lJ];exact⟨ns,(s1.trans s4).seq hS,by decide,by decide,λn=>⟨by decide,jF (λ_=>hY _ rfl) (λ_=>hN _ rfl)⟩⟩
  clear rx rk hx s4;rintro H5 rs xs s5 hx rk rx;simp_all only[];exact kk l rs _ (s1.trans s5) rk (aZ.mpr ⟨l,xs,rfl,hx,rx.rep⟩)
theorem gM:bf ["_law_counts","_law_numbers","_law_deeds","_law_value","_law_found","_law_deed"] ["_law_counts","_law_numbers","_law_deeds","_law_value"] (au (top 46)):=.mk
theorem Mi (T:fj P w base K mg aH aI aF aV aq aD):iB P w K mg base (cN P w) 1 "_law_sum" ["_law_counts","_law_numbers","_law_deeds","_law_value"] Cs:=by
 refine T.oN.fB (λ_ _ _ _ _ _=>uI λ_ _ _ _=>rfl) λf fd F=>F.gR gM (λvs H Q E h=>?_) (λbZ A outer s H vs Q E hr h=>?_)
 ·obtain⟨_,_,_,_,_,_,_,rfl,_⟩:=h;rfl
 ·symm;obtain⟨cv,l,dv,v,cs,ns,ds,rfl,rc,hc,hl,ir,Mj,rd,v0,kk⟩:=h;nofun;clear G_;have nd:=gM.nd;refine⟨_,(ao (aT (i:=4) (fX (dU (K:=K)) (by rfl) T.z_list rfl (aa (pv 1) af) (he:=se rfl) (hpl:=na rfl)))
  (ao (cK PassesOwn.never rfl (bJ (K:=K) (pv 2)) (aO (i:=5) nd rfl (Or.inl rfl)) (ao (bP (aP cw (aG aB (pv 5) ae) aL (aX _)) (aw (fE (br cC (aG bx (pv 4) ae) (pv 3)) (gO (pv 4) ae set_list)))
   (aw (bP (aP cw (aG aB (pv 5) ae) aL (aX _)) (aw (fE (br cC (aG bx (pv 4) ae) (aG aB (pv 5) ae)) (gO (pv 4) ae set_list)))
   (aw (fE (aG aB (pv 5) ae) (gO (pv 4) ae set_list))))))
  (aw (fE (bg (jv rfl) (by rfl) T.z_min rfl (aa (aG bx (pv 4) ae) (aa (aG aB (aG bx (pv 0) ae) ae) af))) (gO (pv 4) ae set_list)))))
  (aw (aW (pv 4))))),?_⟩
  refine(?_:let cH:TS:=_;let cI:TS:=_;let cJ:TS:=_;tSeq cH (tSeq cI cJ) _ _ _);intro cH cI cJ;have sl:=sizeLine_eq;symm;obtain⟨cl,FL,rfl,jG,yB⟩:=aZ.mp (show Rep H (.lst _) cv from rc);obtain⟨dl,lO,rfl,xZ,FJ⟩:=aZ.mp rd;nofun;clear G_;have RI:lO.length=ds.length:=by have:=FJ.length;rw[aat] at this;omega
  have d2:=Mj.1;change tSeq _ _ _ _ _;refine bo (λN=>∀H1 p,aA H H1->H p=none->H1 p=some (.lst (ns.map V.int))->N [some (.ref cl),some (.ref l),some (.ref dl),some (.int v),some (.ref p),none] H1) (λN hN=>?_) ?_
  ·simp_all only[];exact⟨_,.inl (bT.of hl),λp np=>hN _ p (ag np) np ai⟩
  rintro H1 p s1 np hp;change tSeq _ _ _ _ _;refine bo (λN=>∀H2,aA H H2->H2 p=some (.lst ((ds.foldl (eU cs v) ns).map V.int))->∀z5,N [some (.ref cl),some (.ref l),some (.ref dl),some (.int v),some (.ref p),z5] H2) (λN hN=>?_) ?_
  ·simp_all only[];refine⟨⟨_,bT.of (s1 _ _ xZ)⟩,bY (src_list (Ok:=aA H) (λH3 s3=>bT.of (s3 _ _ xZ))) (λi σ H3=>aA H H3/\H3 p=some (.lst (((ds.take i).foldl (eU cs v) ns).map V.int))/\uQ cs ((ds.take i).foldl (eU cs v) ns)/\∃z5,σ=[some (.ref cl),some (.ref l),some (.ref dl),some (.int v),some (.ref p),z5]) ⟨s1,hp,ir,_,rfl⟩ (λ_ _ _ _ h=>h.1) ?_ ?_⟩
   ·intro i x σ Mg H3 hi eQ eM;symm;obtain⟨s3,zW,Io,z5,rfl⟩:=eQ;obtain⟨rfl,ex⟩:=eM;obtain⟨dd,ed,EC⟩:=FJ.get ex;rw[aau] at ed;obtain⟨de,Ml,rfl⟩:=Option.map_eq_some_iff.mp ed;nofun;clear G_;have vm:=Mj.2 de (aaC Ml);have tk:(ds.take (i+1)).foldl (eU cs v) ns=eU cs v ((ds.take i).foldl (eU cs v) ns) de:=by rw[aaQ,Ml,abf];rfl
    rw[tk];have Mm:=B2 hc.nd.2.2.1 v0 vm Io;generalize (ds.take i).foldl (eU cs v) ns=ms at *;obtain⟨m,m1,ZX,rfl⟩:∃m,1<=m/\m<=60/\cs=[(sN,m)]:=by
     rcases hc with rfl | h
     ·exact absurd (Cr vm) (by intro z;cases z)
     ·exact h
    obtain⟨x0,rfl⟩:∃x0,ms=[x0]:=by
     have:=Io.1;rcases ms with _ | ⟨a,_ | ⟨b,r⟩⟩
     ·cases this
     ·exact⟨a,rfl⟩
     ·simp at this
    symm;obtain⟨RJ,r0,rfl,RK,Mn⟩:=aS.mp yB;obtain rfl:=bL.mp Mn;obtain⟨cq,ca,cb,rfl,ED,RL,RM⟩:=bA.mp (show Rep H (.tup _) RJ from RK);rw[aK.mp RL,aN.mp RM] at ED;obtain⟨q,rfl,hq⟩:=sU EC;nofun;have vn:=s3 _ _ hq;simp only[gName,aa3,aa2];change tSeq _ _ _ _ _;refine bo (λN=>∀y,eU [(sN,m)] v [x0] de=[min y m]->N [some (.ref cl),some (.ref l),some (.ref dl),some (.int v),some (.ref p),some (.ref q)] (upd H3 p (.lst [.int y]))) (λN hN=>?_) ?_
    ·cases de with
     | face n=>
      have en:n=sN:=List.mem_singleton.mp (show n∈[sN] from vm);subst en;refine fG (λY N k=>by simp_all only[vn,tH];exact k) ?_;simp_all only[vn,tH,rSetL,zW,aaw,aaT];exact⟨0,rfl,hN (x0+v) F2⟩
     | plus n k=>
      have en:n=sN:=List.mem_singleton.mp (show n∈[sN] from vm.1);subst en;refine dZ (λY N k=>by simp_all only[vn,tH];rw[if_neg (by ac_rfl)];exact k) ?_;change tIfS _ _ _ _ [some (.ref cl),some (.ref l),some (.ref dl),some (.int v),some (.ref p),some (.ref q)] H3;refine fG (λY N k=>by simp_all only[vn,tH];exact k) ?_;simp_all only[vn,tH,rSetL,zW,aaw,aaT];exact⟨0,rfl,hN (x0+k) F3⟩
     | set n k=>
      have en:n=sN:=List.mem_singleton.mp (show n∈[sN] from vm.1);subst en;refine dZ (λY N k=>by simp_all only[vn,tH];rw[if_neg (by ac_rfl)];exact k) ?_;change tIfS _ _ _ _ [some (.ref cl),some (.ref l),some (.ref dl),some (.int v),some (.ref p),some (.ref q)] H3;refine dZ (λY N k=>by simp_all only[vn,tH];rw[if_neg (by ac_rfl)];exact k) ?_;simp_all only[vn,tH,rSetL,zW,aaw,aaT];exact⟨0,rfl,hN k Md⟩
     | move n k=>exact absurd (List.mem_singleton.mp (show n∈[sN] from vm.1)) (λz=>vm.2.2 (z.trans (List.mem_singleton.mp (show k∈[sN] from vm.2.1)).symm))
    rintro y ey;rw[ey] at Mm ⊢;have RN:cl≠p:=λz=>by rw[z,np] at jG;cases jG
    have RO:cq≠p:=λz=>by rw[z,np] at ED;cases ED
    simp_all only[rSetL];refine⟨_,ai,_,at0,_,by rw[aE RN];exact s3 _ _ jG,_,at0,cq,rfl,_,by rw[aE RO];exact s3 _ _ ED,_,at1,y,rfl,m,rfl,_,ai,0,rfl,bS (bS s3 np) np,?_,Mm,_,rfl⟩;rw[ai];show some (HO.lst [V.int (if m<y then m else y)])=_;rw[show(if m<y then m else y)=min y m by split <;>omega]
   ·intro σ H3 c5;symm;obtain⟨s3,zW,Io,z5,rfl⟩:=c5;nofun;rw[RI,aaJ (aav _)] at zW;exact hN _ s3 zW _
  rintro H2 s2 E5 z5;simp_all only[];exact kk _ _ s2 np E5
theorem Ip (T:fj P w base K mg aH aI aF aV aq aD):rT P w K mg base (cN P w) 1 "_law_sum" ["_law_counts","_law_numbers","_law_deeds","_law_value"] Cs:=by
 refine T.oN.HA (λ_ _ _ _ _ _=>uI λ_ _ _ _=>rfl) λf fd F=>F.QB gM (λvs H Q E h=>?_) (λbZ A ad outer s H vs Q E hr wm h=>?_)
 ·obtain⟨_,_,_,_,_,_,_,rfl,_⟩:=h;rfl
 ·symm;obtain⟨cv,l,dv,v,cs,ns,ds,rfl,rc,hc,hl,ir,Mj,rd,v0,kk⟩:=h;nofun;clear G_;have nd:=gM.nd;have hx:=wm.resolve_left aaM;refine⟨_,(ao (aT (i:=4) (fX (dU (K:=K)) (by rfl) T.z_list rfl (aa (pv 1) af) (he:=se rfl) (hpl:=na rfl)))
  (ao (nJ PassesOwn.never wm (hV (K:=K) (pv 2)) (aO (i:=5) nd rfl (Or.inl rfl)) (ao (bP (aP cw (aG aB (pv 5) ae) aL (aX _)) (aw (fE (br cC (aG bx (pv 4) ae) (pv 3)) (gO (pv 4) ae set_list)))
   (aw (bP (aP cw (aG aB (pv 5) ae) aL (aX _)) (aw (fE (br cC (aG bx (pv 4) ae) (aG aB (pv 5) ae)) (gO (pv 4) ae set_list)))
   (aw (fE (aG aB (pv 5) ae) (gO (pv 4) ae set_list))))))
  (aw (fE (bg (wz wm) (by rfl) T.z_min rfl (aa (aG bx (pv 4) ae) (aa (aG aB (aG bx (pv 0) ae) ae) af))) (gO (pv 4) ae set_list)))))
  (aw (aW (pv 4))))),?_⟩
  have sl:=sizeLine_eq;symm;obtain⟨cl,FL,rfl,jG,yB⟩:=aZ.mp (show Rep H (.lst _) cv from rc);obtain⟨dl,lO,rfl,xZ,FJ⟩:=aZ.mp rd;nofun;clear G_;have RI:lO.length=ds.length:=by have:=FJ.length;rw[aat] at this;omega
  have d2:=Mj.1;change tSeq _ _ _ _ _;refine bo (λN=>∀H1 p,aA H H1->H p=none->H1 p=some (.lst (ns.map V.int))->N [some (.ref cl),some (.ref l),some (.ref dl),some (.int v),some (.ref p),none] H1) (λN hN=>?_) ?_
  ·simp_all only[];exact⟨_,.inl (bT.of hl),λp np=>hN _ p (ag np) np ai⟩
  rintro H1 p s1 np hp;change tSeq _ _ _ _ _;refine bo (λN=>∀H2,aA H H2->H2 p=some (.lst ((ds.foldl (eU cs v) ns).map V.int))->∀z5,N [some (.ref cl),some (.ref l),some (.ref dl),some (.int v),some (.ref p),z5] H2) (λN hN=>?_) ?_
  ·simp_all only[];refine⟨⟨_,bT.of (s1 _ _ xZ)⟩,bY (src_list (Ok:=aA H) (λH3 s3=>bT.of (s3 _ _ xZ))) (λi σ H3=>aA H H3/\H3 p=some (.lst (((ds.take i).foldl (eU cs v) ns).map V.int))/\uQ cs ((ds.take i).foldl (eU cs v) ns)/\∃z5,σ=[some (.ref cl),some (.ref l),some (.ref dl),some (.int v),some (.ref p),z5]) ⟨s1,hp,ir,_,rfl⟩ (λ_ _ _ _ h=>h.1) ?_ ?_⟩
   ·intro i x σ Mg H3 hi eQ eM;symm;obtain⟨s3,zW,Io,z5,rfl⟩:=eQ;obtain⟨rfl,ex⟩:=eM;obtain⟨dd,ed,EC⟩:=FJ.get ex;rw[aau] at ed;obtain⟨de,Ml,rfl⟩:=Option.map_eq_some_iff.mp ed;nofun;clear G_;have vm:=Mj.2 de (aaC Ml);have tk:(ds.take (i+1)).foldl (eU cs v) ns=eU cs v ((ds.take i).foldl (eU cs v) ns) de:=by rw[aaQ,Ml,abf];rfl
    rw[tk];have Mm:=B2 hc.nd.2.2.1 v0 vm Io;generalize (ds.take i).foldl (eU cs v) ns=ms at *;obtain⟨m,m1,ZX,rfl⟩:∃m,1<=m/\m<=60/\cs=[(sN,m)]:=by
     rcases hc with rfl | h
     ·exact absurd (Cr vm) (by intro z;cases z)
     ·exact h
    obtain⟨x0,rfl⟩:∃x0,ms=[x0]:=by
     have:=Io.1;rcases ms with _ | ⟨a,_ | ⟨b,r⟩⟩
     ·cases this
     ·exact⟨a,rfl⟩
     ·simp at this
    symm;obtain⟨RJ,r0,rfl,RK,Mn⟩:=aS.mp yB;obtain rfl:=bL.mp Mn;obtain⟨cq,ca,cb,rfl,ED,RL,RM⟩:=bA.mp (show Rep H (.tup _) RJ from RK);rw[aK.mp RL,aN.mp RM] at ED;obtain⟨q,rfl,hq⟩:=sU EC;nofun;have vn:=s3 _ _ hq;simp only[gName,aa3,aa2];change tSeq _ _ _ _ _;refine bo (λN=>∀y,eU [(sN,m)] v [x0] de=[min y m]->N [some (.ref cl),some (.ref l),some (.ref dl),some (.int v),some (.ref p),some (.ref q)] (upd H3 p (.lst [.int y]))) (λN hN=>?_) ?_
    ·cases de with
     | face n=>
      have en:n=sN:=List.mem_singleton.mp (show n∈[sN] from vm);subst en;refine fG (λY N k=>by simp_all only[vn,tH];exact k) ?_;simp_all only[vn,tH,rSetL,zW,aaw,aaT];exact⟨0,rfl,hN (x0+v) F2⟩
     | plus n k=>
      have en:n=sN:=List.mem_singleton.mp (show n∈[sN] from vm.1);subst en;refine dZ (λY N k=>by simp_all only[vn,tH];rw[if_neg (by ac_rfl)];exact k) ?_;change tIfS _ _ _ _ [some (.ref cl),some (.ref l),some (.ref dl),some (.int v),some (.ref p),some (.ref q)] H3;refine fG (λY N k=>by simp_all only[vn,tH];exact k) ?_;simp_all only[vn,tH,rSetL,zW,aaw,aaT];exact⟨0,rfl,hN (x0+k) F3⟩
     | set n k=>
      have en:n=sN:=List.mem_singleton.mp (show n∈[sN] from vm.1);subst en;refine dZ (λY N k=>by simp_all only[vn,tH];rw[if_neg (by ac_rfl)];exact k) ?_;change tIfS _ _ _ _ [some (.ref cl),some (.ref l),some (.ref dl),some (.int v),some (.ref p),some (.ref q)] H3;refine dZ (λY N k=>by simp_all only[vn,tH];rw[if_neg (by ac_rfl)];exact k) ?_;simp_all only[vn,tH,rSetL,zW,aaw,aaT];exact⟨0,rfl,hN k Md⟩
     | move n k=>exact absurd (List.mem_singleton.mp (show n∈[sN] from vm.1)) (λz=>vm.2.2 (z.trans (List.mem_singleton.mp (show k∈[sN] from vm.2.1)).symm))
    rintro y ey;rw[ey] at Mm ⊢;have RN:cl≠p:=λz=>by rw[z,np] at jG;cases jG
    have RO:cq≠p:=λz=>by rw[z,np] at ED;cases ED
    simp_all only[rSetL];refine⟨_,ai,_,at0,_,by rw[aE RN];exact s3 _ _ jG,_,at0,cq,rfl,_,by rw[aE RO];exact s3 _ _ ED,_,at1,y,rfl,m,rfl,_,ai,0,rfl,bS (bS s3 np) np,?_,Mm,_,rfl⟩;rw[ai];show some (HO.lst [V.int (if m<y then m else y)])=_;rw[show(if m<y then m else y)=min y m by split <;>omega]
   ·intro σ H3 c5;symm;obtain⟨s3,zW,Io,z5,rfl⟩:=c5;nofun;rw[RI,aaJ (aav _)] at zW;exact hN _ s3 zW _
  rintro H2 s2 E5 z5;simp_all only[];exact kk _ _ s2 np E5
theorem iS:bf ["_law_weights_here","_law_found","_law_weight","_law_other"] ["_law_weights_here"] (au (top 47)):=.mk
theorem Mo (T:fj P w base K mg aH aI aF aV aq aD):iB P w K mg base (cN P w) 1 "_law_divisor" ["_law_weights_here"] Mc:=by
 refine T.oO.fB (λ_ _ _ _ _ _=>iG λ_=>rfl) λf fd F=>F.gR iS (λvs H Q E h=>?_) (λbZ A outer s H vs Q E hr h=>?_)
 ·obtain⟨_,_,rfl,_⟩:=h;rfl
 ·symm;obtain⟨l,ws,rfl,hl,OV,pw,kk⟩:=h;nofun;have nd:=iS.nd;refine⟨_,(ao (aT (i:=1) ae)
  (ao (cK PassesOwn.never rfl (bJ (K:=K) (pv 0)) (aO (i:=2) nd rfl (Or.inl rfl)) (ao (aT (i:=3) (pv 2))
  (aw (jb PassesOwn.never (aP jc (pv 3) ae (aX _)) (aw (Gw (i:=1) (j:=3) rfl nd rfl rfl (by decide) rfl rfl (aa (pv 3) (aa (br cG (pv 1) (pv 3)) af)) rfl))))))
  (aw (aW (pv 1))))),?_⟩
  refine(?_:let cH:TS:=_;let cI:TS:=_;let cJ:TS:=_;tSeq cH (tSeq cI cJ) _ _ _);intro cH cI cJ;have sl:=sizeLine_eq;change tSeq _ _ _ _ _;refine bo (λN=>N [some (.ref l),some (.int 0),none,none] H) (λN hN=>?_) ?_
  ·simp_all only[];exact hN
  change tSeq _ _ _ _ _;refine bo (λN=>∀z2 z3,N [some (.ref l),some (.int (CT ws:Nat)),z2,z3] H) (λN hN=>?_) ?_
  ·simp_all only[];refine⟨⟨_,bT.of hl⟩,bY (src_list (Ok:=λH'=>H'=H) (λH' e=>by rw[e];exact bT.of hl)) (λi σ H'=>H'=H/\∃(x:Nat) (z2 z3:Option V),x<=1000000/\Nat.gcd x (CT (ws.drop i))=CT ws/\σ=[some (.ref l),some (.int x),z2,z3]) ⟨rfl,0,_,_,by decide,by rw[List.drop_zero,Nat.gcd_zero_left],rfl⟩ (λ_ _ _ _ h=>h.1) ?_ ?_⟩
   ·intro i x σ Mg H3 hi eQ eM;symm;obtain⟨e3,x0,z2,z3,l0,g0,rfl⟩:=eQ;obtain⟨rfl,ex⟩:=eM;subst e3;rw[aau] at ex;obtain⟨w,ew,rfl⟩:=Option.map_eq_some_iff.mp ex;obtain⟨w0,w1⟩:=pw w (aaC ew);nofun;have Rx:=(List.getElem?_eq_some_iff.mp ew).1;have ed:CT (ws.drop i)=Nat.gcd w.toNat (CT (ws.drop (i+1))):=by
     rw[List.drop_eq_getElem_cons Rx,(List.getElem?_eq_some_iff.mp ew).2];show Nat.gcd w.natAbs _=_;rw[show w.natAbs=w.toNat by omega]
    rw[ed] at g0;simp only[gName,aa3,aa2];change tSeq _ _ _ _ _;refine bo (λN=>N [some (.ref l),some (.int x0),some (.int w),some (.int w)] H3) (λN hN=>?_) ?_
    ·simp_all only[];exact hN
    refine yH (λk σ H'=>H'=H3/\∃x y:Nat,k=y/\x<=1000000/\y<=1000000/\Nat.gcd x y=Nat.gcd x0 w.toNat/\σ=[some (.ref l),some (.int x),some (.int w),some (.int y)]) (m:=w.toNat) ⟨rfl,x0,w.toNat,rfl,l0,by omega,rfl,by rw[Int.toNat_of_nonneg (by omega)]⟩ ?_;intro k σ H' Ek;symm;obtain⟨rfl,x,y,rfl,lx,ly,gx,rfl⟩:=Ek;nofun
    by_cases c:0<k
    ·refine⟨true,λsJ=>sJ=H',λQ q=>by simp_all only[];rw[decide_eq_true (by omega)];exact q _ rfl,λsJ e=>?_⟩;subst e;rw[if_pos rfl];simp_all only[];have lt:x % k<k:=Nat.mod_lt _ c;exact⟨by omega,x % k,lt,k,ly,by omega,by rw[<-gx,Nat.gcd_comm k (x % k),<-Nat.gcd_rec,Nat.gcd_comm],rfl,(Int.natCast_emod x k).symm⟩
    ·refine⟨false,λsJ=>sJ=H',λQ q=>by simp_all only[];rw[decide_eq_false (by omega)];exact q _ rfl,λsJ e=>?_⟩;subst e;rw[if_neg (by decide)];have k0:k=0:=by omega
     subst k0;rw[Nat.gcd_zero_right] at gx;exact⟨rfl,x,_,_,lx,by rw[gx,Nat.gcd_assoc];exact g0,rfl⟩
   ·intro σ H' c5;symm;obtain⟨rfl,x,z2,z3,l0,g0,rfl⟩:=c5;nofun;have:CT ws=x:=by rw[<-g0,aat,List.drop_length];exact Nat.gcd_zero_right x
    rw[this] at hN;exact hN _ _
  rintro z2 z3;simp_all only[];exact kk
theorem fW:bf ["_law_table","_law_counts","_law_numbers","_law_rows_here","_law_found","_law_value","_law_part","_law_low","_law_high","_law_deeds","_law_goal"] ["_law_table","_law_counts","_law_numbers","_law_rows_here"] (au (top 48)):=.mk
theorem Iq (T:fj P w base K mg aH aI aF aV aq aD):iB P w K mg base (cN P w) 2 "_law_ways" ["_law_table","_law_counts","_law_numbers","_law_rows_here"] vi:=by
 have xj:=Mi T;refine T.mP.fB (λ_ _ _ _ _ _=>uI λ_ _ _ _=>rfl) λf fd F=>F.gR fW (λvs H Q E h=>?_) (λbZ A outer s H vs Q E hr h=>?_)
 ·obtain⟨_,_,_,_,_,_,_,_,rfl,_⟩:=h;rfl
 ·symm;obtain⟨tv,cv,nl,rv,ps,cs,ns,rs,rfl,rt,hp,rc,hc,Ir,ir,Mp,rr,kk⟩:=h;nofun;clear G_;have nd:=fW.nd;refine⟨_,(ao (aT (i:=4) (bu af))
  (ao (cK PassesOwn.never rfl (bJ (K:=K) (pv 0)) (dE (K:=K) (n:=2) rfl (bD (aO (i:=5) nd rfl (Or.inl rfl)) (bD (aO (i:=6) nd rfl (Or.inl rfl)) c9))) (aw (cK PassesOwn.never rfl (bJ (K:=K) (pv 3)) (dE (K:=K) (n:=4) rfl (bD (aO (i:=7) nd rfl (Or.inl rfl)) (bD (aO (i:=8) nd rfl (Or.inl rfl)) (bD (aO (i:=9) nd rfl (Or.inl rfl)) (bD (aO (i:=10) nd rfl (Or.inl rfl)) c9))))) (aw (bP (PW.pt (pw_and (aP mD (pv 7) (pv 5) (aX _)) (pw_and1 (aP mD (pv 5) (pv 8) (aX _))))) (aw (cg (eI aaU aa5 aa6 cQ.r (pv 4) (aa (aM (aa (pv 10) (aa (bI xj (aa (pv 1) (aa (pv 2) (aa (pv 9) (aa (pv 5) af))))) af))) af))))
   bw)))))
  (aw (aW (pv 4))))),?_⟩
  refine(?_:let cH:TS:=_;let cI:TS:=_;let cJ:TS:=_;tSeq cH (tSeq cI cJ) _ _ _);intro cH cI cJ;have sl:=sizeLine_eq;symm;obtain⟨tl,Mq,rfl,EE,F7⟩:=aZ.mp (show Rep H (.lst _) tv from rt);obtain⟨rl,Mr,rfl,yC,Ms⟩:=aZ.mp rr;obtain⟨_,OV,pv⟩:=d4 (show eA ps from hp);nofun;clear G_;have val:∀r∈bK ps,0<=r.1/\r.1<=999:=λr hr=>(pv (r.1,r.2.1* (ky (bK ps) / r.2.2)) (List.mem_map.mpr ⟨r,hr,rfl⟩)).1;clear pv;have Mt:Mq.length=(bK ps).length:=by have:=F7.length;rw[aat] at this;omega
  have lrv:Mr.length=rs.length:=by have:=Ms.length;rw[aat,aat] at this;omega
  have RP:=Mp.2.1;change tSeq _ _ _ _ _;refine bo (λN=>∀H1 l,aA H H1->H l=none->H1 l=some (.lst [])->N [some (.ref tl),some cv,some (.ref nl),some (.ref rl),some (.ref l),none,none,none,none,none,none] H1) (λN hN=>?_) ?_
  ·simp_all only[];exact⟨aaz _,λl uY=>hN _ l (ag uY) uY ai⟩
  rintro H1 l s1 uY hl;change tSeq _ _ _ _ _;refine bo (λN=>∀H2 vs,aA H H2->H2 l=some (.lst vs)->bH (upd H l (.lst [])) H2 ((bK ps).map λr=>cm (gz cs rs ns r.1)) vs->∀z5 z6 z7 z8 z9 lM,N [some (.ref tl),some cv,some (.ref nl),some (.ref rl),some (.ref l),z5,z6,z7,z8,z9,lM] H2) (λN hN=>?_) ?_
  ·simp_all only[];generalize bK ps=W at *;refine⟨⟨_,bT.of (s1 _ _ EE)⟩,bY (src_list (Ok:=aA H) (λH' s'=>bT.of (s' _ _ EE))) (λi σ H4=>aA H H4/\∃vs,H4 l=some (.lst vs)/\vs.length=i/\bH (upd H l (.lst [])) H4 ((W.take i).map λr=>cm (gz cs rs ns r.1)) vs/\∃z5 z6 z7 z8 z9 lM,σ=[some (.ref tl),some cv,some (.ref nl),some (.ref rl),some (.ref l),z5,z6,z7,z8,z9,lM]) ⟨s1,[],hl,rfl,by rw[List.take_zero];exact bR,_,_,_,_,_,_,rfl⟩ (λ_ _ _ _ h=>h.1) ?_ ?_⟩
   ·intro i xv σ ZY H4 hi eQ eM;symm;obtain⟨s4,vs,EB,RQ,rv,z5,z6,z7,z8,z9,lM,rfl⟩:=eQ;obtain⟨rfl,Iu⟩:=eM;obtain⟨dd,ed,EC⟩:=F7.get Iu;rw[aau] at ed;obtain⟨y,ey,rfl⟩:=Option.map_eq_some_iff.mp ed;obtain⟨q,u1,u2,rfl,hq,Iv,Mu⟩:=bA.mp (show Rep _ (.tup _) xv from EC);rw[aN.mp Iv] at hq;obtain⟨y0,y9⟩:=val y (aaC ey);nofun;clear G_;have RS:i<40:=by omega
    have RT:(W.take (i+1)).map (λr=>cm (gz cs rs ns r.1))=(W.take i).map (λr=>cm (gz cs rs ns r.1))++ [cm (gz cs rs ns y.1)]:=by rw[aaQ,ey,aaK];rfl
    rw[RT];generalize (W.take i).map (λr=>cm (gz cs rs ns r.1))=DD at *;symm;obtain⟨i0,r0,e0,c0,RU,u0⟩:=HM Mp y0 y9;nofun;clear G_;have i0r:=(List.getElem?_eq_some_iff.mp e0).1;have CV:gz cs rs ns y.1=(r0.2.2.2,r0.2.2.1.foldl (eU cs y.1) ns):=by unfold gz;rw[RU]
    refine⟨q,_,rfl,iX.of (s4 _ _ hq),rfl,?_⟩;simp_all only[];refine⟨⟨_,bT.of (s4 _ _ yC)⟩,bY (src_list (Ok:=aA H) (λH' s'=>bT.of (s' _ _ yC))) (λj σ H5=>aA H H5/\∃qX,H5 l=some (.lst qX)/\qX.length=i+ (if i0<j then 1 else 0)/\bH (upd H l (.lst [])) H5 (DD++if i0<j then [cm (gz cs rs ns y.1)] else []) qX/\∃z7 z8 z9 lM,σ=[some (.ref tl),some cv,some (.ref nl),some (.ref rl),some (.ref l),some (.int y.1),some u2,z7,z8,z9,lM]) ⟨s4,vs,EB,by rw[if_neg (Nat.not_lt_zero _)];omega,by rw[if_neg (Nat.not_lt_zero _),aaP];exact rv,_,_,_,_,rfl⟩ (λ_ _ _ _ h=>h.1) ?_ ?_⟩
    ·intro j Iw σ ZZ H5 hj eQ eM;symm;obtain⟨s5,qX,vj,xi,vk,z7,z8,z9,lM,rfl⟩:=eQ;obtain⟨rfl,RV⟩:=eM;obtain⟨dr,er,RW⟩:=Ms.get RV;rw[aau,aau] at er;obtain⟨r1',Mv,rfl⟩:=Option.map_eq_some_iff.mp er;obtain⟨r,zX,rfl⟩:=Option.map_eq_some_iff.mp Mv;nofun;clear G_;clear er Mv;symm;obtain⟨qr,b1,b2,dv,b4,rfl,Mw,Mx,My,An,RX⟩:=dw.mp (show Rep _ (.tup _) Iw from RW);rw[aN.mp Mx,aN.mp My,aK.mp RX] at Mw;obtain⟨dk,gk⟩:=RP r (aaC zX);nofun;refine⟨qr,_,rfl,iX.of (s5 _ _ Mw),rfl,?_⟩;simp only[gCons,gName,gNil,aa3,aa2];refine⟨_,_,rfl,_,_,rfl,_,_,rfl,_,_,rfl,rfl,?_⟩;change tIfS _ _ _ _ [some (.ref tl),some cv,some (.ref nl),some (.ref rl),some (.ref l),some (.int y.1),some u2,some (.int r.1),some (.int r.2.1),some dv,some (.str r.2.2.2)] H5
     by_cases c:r.1<=y.1/\y.1<=r.2.1
     ·refine fG (λY N k=>by simp_all only[];rw[if_pos c.1,if_pos c.2];exact k) ?_;obtain rfl:=u0 j r zX c;rw[e0] at zX;cases zX;rw[if_neg (aaN _),aaP] at vk;rw[if_neg (aaN _)] at xi;have li:dR (upd H l (.lst [])) H5:=λb ys e=>by
       by_cases c:b=l
       ·subst c;exact⟨_,vj⟩
       ·rw[aE c] at e;exact⟨_,s5 _ _ e⟩
      refine xh (λN=>∀(p2 p3:Addr) (H6 H7:Hp),aA H5 H6->H5 p2=none->H6 p2=some (.lst ((r0.2.2.1.foldl (eU cs y.1) ns).map V.int))->aA H6 H7->H7 p3=some (.tup [.str r0.2.2.2,.ref p2])->N [some (.ref tl),some cv,some (.ref nl),some (.ref rl),some (.ref l),some (.int y.1),some u2,some (.int r0.1),some (.int r0.2.1),some dv,some (.str r0.2.2.2)] (upd H7 l (.lst (qX++ [.ref p3])))) ?_ (λN hN=>?_)
      case refine_2=>
       simp_all only[dt,Cs];exact⟨.inl ⟨rfl,_,bT.of vj⟩,⟨cs,rc.mono s5,hc,ns,s5 _ _ Ir,ir,r0.2.2.1,dk,An.mono s5,y0,λp2 H6 s6 n2 h2=>⟨by omega,λp3 H7 s7 n3 h3=>⟨_,(s6.trans s7) _ _ vj,by omega,hN p2 p3 H6 H7 s6 n2 h2 s7 h3⟩⟩⟩⟩
      rintro p2 p3 H6 H7 s6 n2 h2 s7 h3;have yE:=s6.trans s7;refine⟨bS (s5.trans yE) uY,_,ai,by rw[if_pos (aaR _),aay,xi];rfl,?_,_,_,_,_,rfl⟩;rw[if_pos (aaR _),CV];show bh (fJ _ (upd _ _ _)) _ _;rw[eO (ys:=[]) ai];have Jo:upd H l (.lst []) p2=none:=by
       rw[aE (λz=>by rw[z,vj] at n2;cases n2)];exact none_of s5 n2
      exact jD (qg (li.trans yE) h3 bG (b8 Jo (s7 _ _ h2) (ints_rep _))) (vk.mono yE)
     ·refine dZ (λY N k=>by
       simp_all only[]
       by_cases e:r.1<=y.1
       ·rw[if_pos e,if_neg (λz=>c ⟨e,z⟩)];exact k
       ·rw[if_neg e,if_neg (by decide)];exact k) ?_
      have ne:j≠i0:=λz=>by subst z;rw[e0] at zX;cases zX;exact c c0
      have ei:(i0<j+1)=(i0<j):=propext (by omega);simp only[ei];exact⟨s5,qX,vj,xi,vk,_,_,_,_,rfl⟩
    ·intro σ H5 c5;symm;obtain⟨s5,qX,vj,xi,vk,z7,z8,z9,lM,rfl⟩:=c5;nofun;have gF:i0<Mr.length:=by omega
     rw[if_pos gF] at xi vk;exact⟨s5,qX,vj,xi,vk,_,_,_,_,_,_,rfl⟩
   ·intro σ H4 c5;symm;obtain⟨s4,vs,EB,RQ,rv,z5,z6,z7,z8,z9,lM,rfl⟩:=c5;nofun;rw[Mt,aaJ (aav _)] at rv;exact hN _ vs s4 EB rv _ _ _ _ _ _
  rintro H2 vs s2 Ac Jl z5 z6 z7 z8 z9 lM;simp_all only[];exact kk _ _ s2 (b8 uY Ac (Jl.low (.of (ag uY))))
theorem Iy (T:fj P w base K mg aH aI aF aV aq aD):rT P w K mg base (cN P w) 2 "_law_ways" ["_law_table","_law_counts","_law_numbers","_law_rows_here"] vi:=by
 have vo:rT P w K mg base (cN P w) 1 "_law_sum" ["_law_counts","_law_numbers","_law_deeds","_law_value"] Cs:=Ip T;refine T.mP.HA (λ_ _ _ _ _ _=>uI λ_ _ _ _=>rfl) λf fd F=>F.QB fW (λvs H Q E h=>?_) (λbZ A ad outer s H vs Q E hr wm h=>?_)
 ·obtain⟨_,_,_,_,_,_,_,_,rfl,_⟩:=h;rfl
 ·symm;obtain⟨tv,cv,nl,rv,ps,cs,ns,rs,rfl,rt,hp,rc,hc,Ir,ir,Mp,rr,kk⟩:=h;nofun;clear G_;have nd:=fW.nd;have hx:=wm.resolve_left aaM;refine⟨_,(ao (aT (i:=4) (bu af))
  (ao (nJ PassesOwn.never wm (hV (K:=K) (pv 0)) (uB (K:=K) (n:=2) wm (bD (aO (i:=5) nd rfl (Or.inl rfl)) (bD (aO (i:=6) nd rfl (Or.inl rfl)) c9))) (aw (nJ PassesOwn.never wm (hV (K:=K) (pv 3)) (uB (K:=K) (n:=4) wm (bD (aO (i:=7) nd rfl (Or.inl rfl)) (bD (aO (i:=8) nd rfl (Or.inl rfl)) (bD (aO (i:=9) nd rfl (Or.inl rfl)) (bD (aO (i:=10) nd rfl (Or.inl rfl)) c9))))) (aw (bP (PW.pt (pw_and (aP mD (pv 7) (pv 5) (aX _)) (pw_and1 (aP mD (pv 5) (pv 8) (aX _))))) (aw (cg (eI aaU aa5 aa6 cQ.r (pv 4) (aa (aM (aa (pv 10) (aa (x9 vo hx (hr.mono (by decide)) rfl gE (aa (pv 1) (aa (pv 2) (aa (pv 9) (aa (pv 5) af)))) (he:=se rfl) (hpl:=na rfl)) af))) af))))
   bw)))))
  (aw (aW (pv 4))))),?_⟩
  have sl:=sizeLine_eq;symm;obtain⟨tl,Mq,rfl,EE,F7⟩:=aZ.mp (show Rep H (.lst _) tv from rt);obtain⟨rl,Mr,rfl,yC,Ms⟩:=aZ.mp rr;obtain⟨_,OV,pv⟩:=d4 (show eA ps from hp);nofun;clear G_;have val:∀r∈bK ps,0<=r.1/\r.1<=999:=λr hr=>(pv (r.1,r.2.1* (ky (bK ps) / r.2.2)) (List.mem_map.mpr ⟨r,hr,rfl⟩)).1;clear pv;have Mt:Mq.length=(bK ps).length:=by have:=F7.length;rw[aat] at this;omega
  have lrv:Mr.length=rs.length:=by have:=Ms.length;rw[aat,aat] at this;omega
  have RP:=Mp.2.1;change tSeq _ _ _ _ _;refine bo (λN=>∀H1 l,aA H H1->H l=none->H1 l=some (.lst [])->N [some (.ref tl),some cv,some (.ref nl),some (.ref rl),some (.ref l),none,none,none,none,none,none] H1) (λN hN=>?_) ?_
  ·simp_all only[];exact⟨aaz _,λl uY=>hN _ l (ag uY) uY ai⟩
  rintro H1 l s1 uY hl;change tSeq _ _ _ _ _;refine bo (λN=>∀H2 vs,aA H H2->H2 l=some (.lst vs)->bH (upd H l (.lst [])) H2 ((bK ps).map λr=>cm (gz cs rs ns r.1)) vs->∀z5 z6 z7 z8 z9 lM,N [some (.ref tl),some cv,some (.ref nl),some (.ref rl),some (.ref l),z5,z6,z7,z8,z9,lM] H2) (λN hN=>?_) ?_
  ·simp_all only[];generalize bK ps=W at *;refine⟨⟨_,bT.of (s1 _ _ EE)⟩,bY (src_list (Ok:=aA H) (λH' s'=>bT.of (s' _ _ EE))) (λi σ H4=>aA H H4/\∃vs,H4 l=some (.lst vs)/\vs.length=i/\bH (upd H l (.lst [])) H4 ((W.take i).map λr=>cm (gz cs rs ns r.1)) vs/\∃z5 z6 z7 z8 z9 lM,σ=[some (.ref tl),some cv,some (.ref nl),some (.ref rl),some (.ref l),z5,z6,z7,z8,z9,lM]) ⟨s1,[],hl,rfl,by rw[List.take_zero];exact bR,_,_,_,_,_,_,rfl⟩ (λ_ _ _ _ h=>h.1) ?_ ?_⟩
   ·intro i xv σ ZY H4 hi eQ eM;symm;obtain⟨s4,vs,EB,RQ,rv,z5,z6,z7,z8,z9,lM,rfl⟩:=eQ;obtain⟨rfl,Iu⟩:=eM;obtain⟨dd,ed,EC⟩:=F7.get Iu;rw[aau] at ed;obtain⟨y,ey,rfl⟩:=Option.map_eq_some_iff.mp ed;obtain⟨q,u1,u2,rfl,hq,Iv,Mu⟩:=bA.mp (show Rep _ (.tup _) xv from EC);rw[aN.mp Iv] at hq;obtain⟨y0,y9⟩:=val y (aaC ey);nofun;clear G_;have RS:i<40:=by omega
    have RT:(W.take (i+1)).map (λr=>cm (gz cs rs ns r.1))=(W.take i).map (λr=>cm (gz cs rs ns r.1))++ [cm (gz cs rs ns y.1)]:=by rw[aaQ,ey,aaK];rfl
    rw[RT];generalize (W.take i).map (λr=>cm (gz cs rs ns r.1))=DD at *;symm;obtain⟨i0,r0,e0,c0,RU,u0⟩:=HM Mp y0 y9;nofun;clear G_;have i0r:=(List.getElem?_eq_some_iff.mp e0).1;have CV:gz cs rs ns y.1=(r0.2.2.2,r0.2.2.1.foldl (eU cs y.1) ns):=by unfold gz;rw[RU]
    refine⟨q,_,rfl,iX.of (s4 _ _ hq),rfl,?_⟩;simp_all only[];refine⟨⟨_,bT.of (s4 _ _ yC)⟩,bY (src_list (Ok:=aA H) (λH' s'=>bT.of (s' _ _ yC))) (λj σ H5=>aA H H5/\∃qX,H5 l=some (.lst qX)/\qX.length=i+ (if i0<j then 1 else 0)/\bH (upd H l (.lst [])) H5 (DD++if i0<j then [cm (gz cs rs ns y.1)] else []) qX/\∃z7 z8 z9 lM,σ=[some (.ref tl),some cv,some (.ref nl),some (.ref rl),some (.ref l),some (.int y.1),some u2,z7,z8,z9,lM]) ⟨s4,vs,EB,by rw[if_neg (Nat.not_lt_zero _)];omega,by rw[if_neg (Nat.not_lt_zero _),aaP];exact rv,_,_,_,_,rfl⟩ (λ_ _ _ _ h=>h.1) ?_ ?_⟩
    ·intro j Iw σ ZZ H5 hj eQ eM;symm;obtain⟨s5,qX,vj,xi,vk,z7,z8,z9,lM,rfl⟩:=eQ;obtain⟨rfl,RV⟩:=eM;obtain⟨dr,er,RW⟩:=Ms.get RV;rw[aau,aau] at er;obtain⟨r1',Mv,rfl⟩:=Option.map_eq_some_iff.mp er;obtain⟨r,zX,rfl⟩:=Option.map_eq_some_iff.mp Mv;nofun;clear G_;clear er Mv;symm;obtain⟨qr,b1,b2,dv,b4,rfl,Mw,Mx,My,An,RX⟩:=dw.mp (show Rep _ (.tup _) Iw from RW);rw[aN.mp Mx,aN.mp My,aK.mp RX] at Mw;obtain⟨dk,gk⟩:=RP r (aaC zX);nofun;refine⟨qr,_,rfl,iX.of (s5 _ _ Mw),rfl,?_⟩;simp only[gCons,gName,gNil,aa3,aa2];refine⟨_,_,rfl,_,_,rfl,_,_,rfl,_,_,rfl,rfl,?_⟩;change tIfS _ _ _ _ [some (.ref tl),some cv,some (.ref nl),some (.ref rl),some (.ref l),some (.int y.1),some u2,some (.int r.1),some (.int r.2.1),some dv,some (.str r.2.2.2)] H5
     by_cases c:r.1<=y.1/\y.1<=r.2.1
     ·refine fG (λY N k=>by simp_all only[];rw[if_pos c.1,if_pos c.2];exact k) ?_;obtain rfl:=u0 j r zX c;rw[e0] at zX;cases zX;rw[if_neg (aaN _),aaP] at vk;rw[if_neg (aaN _)] at xi;have li:dR (upd H l (.lst [])) H5:=λb ys e=>by
       by_cases c:b=l
       ·subst c;exact⟨_,vj⟩
       ·rw[aE c] at e;exact⟨_,s5 _ _ e⟩
      refine xh (λN=>∀(p2 p3:Addr) (H6 H7:Hp),aA H5 H6->H5 p2=none->H6 p2=some (.lst ((r0.2.2.1.foldl (eU cs y.1) ns).map V.int))->aA H6 H7->H7 p3=some (.tup [.str r0.2.2.2,.ref p2])->N [some (.ref tl),some cv,some (.ref nl),some (.ref rl),some (.ref l),some (.int y.1),some u2,some (.int r0.1),some (.int r0.2.1),some dv,some (.str r0.2.2.2)] (upd H7 l (.lst (qX++ [.ref p3])))) ?_ (λN hN=>?_)
      case refine_2=>
       simp_all only[dt,Cs];exact⟨.inl ⟨rfl,_,bT.of vj⟩,⟨cs,rc.mono s5,hc,ns,s5 _ _ Ir,ir,r0.2.2.1,dk,An.mono s5,y0,λp2 H6 s6 n2 h2=>⟨by omega,λp3 H7 s7 n3 h3=>⟨_,(s6.trans s7) _ _ vj,by omega,hN p2 p3 H6 H7 s6 n2 h2 s7 h3⟩⟩⟩⟩
      rintro p2 p3 H6 H7 s6 n2 h2 s7 h3;have yE:=s6.trans s7;refine⟨bS (s5.trans yE) uY,_,ai,by rw[if_pos (aaR _),aay,xi];rfl,?_,_,_,_,_,rfl⟩;rw[if_pos (aaR _),CV];show bh (fJ _ (upd _ _ _)) _ _;rw[eO (ys:=[]) ai];have Jo:upd H l (.lst []) p2=none:=by
       rw[aE (λz=>by rw[z,vj] at n2;cases n2)];exact none_of s5 n2
      exact jD (qg (li.trans yE) h3 bG (b8 Jo (s7 _ _ h2) (ints_rep _))) (vk.mono yE)
     ·refine dZ (λY N k=>by
       simp_all only[]
       by_cases e:r.1<=y.1
       ·rw[if_pos e,if_neg (λz=>c ⟨e,z⟩)];exact k
       ·rw[if_neg e,if_neg (by decide)];exact k) ?_
      have ne:j≠i0:=λz=>by subst z;rw[e0] at zX;cases zX;exact c c0
      have ei:(i0<j+1)=(i0<j):=propext (by omega);simp only[ei];exact⟨s5,qX,vj,xi,vk,_,_,_,_,rfl⟩
    ·intro σ H5 c5;symm;obtain⟨s5,qX,vj,xi,vk,z7,z8,z9,lM,rfl⟩:=c5;nofun;have gF:i0<Mr.length:=by omega
     rw[if_pos gF] at xi vk;exact⟨s5,qX,vj,xi,vk,_,_,_,_,_,_,rfl⟩
   ·intro σ H4 c5;symm;obtain⟨s4,vs,EB,RQ,rv,z5,z6,z7,z8,z9,lM,rfl⟩:=c5;nofun;rw[Mt,aaJ (aav _)] at rv;exact hN _ vs s4 EB rv _ _ _ _ _ _
  rintro H2 vs s2 Ac Jl z5 z6 z7 z8 z9 lM;simp_all only[];exact kk _ _ s2 (b8 uY Ac (Jl.low (.of (ag uY))))
theorem iT:bf ["_law_table","_law_ways_here","_law_total","_law_weight","_law_to","_law_k"] ["_law_table","_law_ways_here"] (au (top 49)):=.mk
theorem Iz (T:fj P w base K mg aH aI aF aV aq aD):iB P w K mg base (cN P w) 2 "_law_weights" ["_law_table","_law_ways_here"] FZ:=by
 have pC:=Mo T;refine T.oP.fB (λ_ _ _ _ _ _=>gS λ_ _=>rfl) λf fd F=>F.gR iT (λvs H Q E h=>?_) (λbZ A outer s H vs Q E hr h=>?_)
 ·obtain⟨_,_,_,_,_,rfl,_⟩:=h;rfl
 ·symm;obtain⟨tv,wv,ps,SS,ts,rfl,rt,hp,RY,ew,kk⟩:=h;nofun;clear G_;have nd:=iT.nd;refine⟨_,(ao (bP (aP nV (bg bM (by rfl) T.z_len aaH (aa (pv 1) af)) (bg bM (by rfl) T.z_len aaH (aa (pv 0) af)) (aX _)) (aw (aW i9))
   bw)
  (ao (aT (i:=2) ae)
  (ao (cK PassesOwn.never rfl (bJ (K:=K) (pv 1)) (dE (K:=K) (n:=2) rfl (bD (aO (i:=3) nd rfl (Or.inl rfl)) (bD (aO (i:=4) nd rfl (Or.inl rfl)) c9))) (ao (bP (PW.pt (pw_or (Au (rj (bg (md (K:=K)) (by rfl) T.z_isinstance rfl (aa (pv 3) (aa (rh (v:=V.ty "int") rfl T.z_int rfl rfl) af))))) (pw_or (rj (bg (md (K:=K)) (by rfl) T.z_isinstance rfl (aa (pv 3) (aa (rh (v:=V.ty "bool") rfl T.z_bool rfl rfl) af)))) (pw_or1 (aP mC (pv 3) ae (aX _)))))) (aw (aW i9))
   bw)
  (aw (aT (i:=2) (br cC (pv 2) (pv 3))))))
  (ao (cK PassesOwn.never rfl (eY rfl T.z_range (aa (bg bM (by rfl) T.z_len aaH (aa (pv 0) af)) af)) (aO (i:=5) nd rfl (Or.inl rfl)) (aw (bP (aP nV (br cW (aG aB (aG bx (pv 1) (pv 5)) ae) (aG aB (aG aB (aG bx (pv 0) (pv 5)) ae) ae)) (br cW (pv 2) (aG aB (aG aB (aG bx (pv 0) (pv 5)) ae) ae)) (aX _)) (aw (aW i9))
   bw)))
  (aw (aW (iy cw (bI pC (aa (cY rfl (N:=["_law_table","_law_ways_here","_law_total","_law_weight","_law_to","_law_k"]) (so:=au (top 49)) (N':=["_law_weight","_law_to"]) (k:=2) (fr:=[]) rfl rfl ⟨rfl,by ac_rfl,by ac_rfl,by ac_rfl,rfl,by ac_rfl,by ac_rfl⟩ (bJ (K:=K) (pv 1)) (λ_ _ _ _ _=>(dE (K:=K) (n:=2) rfl (bD (aO (i:=0) (show(["_law_weight","_law_to"]:List Str).Nodup by ac_rfl) rfl (Or.inl rfl)) (bD (aO (i:=1) (show(["_law_weight","_law_to"]:List Str).Nodup by ac_rfl) rfl (Or.inl rfl)) c9)))) (λ_ _ _ _ _=>cX)
   (λ_ _ _ _ _=>(pv 0))) af)) ae (aX _)))))))),?_⟩
  refine(?_:let cH:TS:=_;let cI:TS:=_;let cJ:TS:=_;let eD:TS:=_;let qS:TS:=_;tSeq cH (tSeq cI (tSeq cJ (tSeq eD qS))) _ _ _);intro cH cI cJ eD qS;have sl:=sizeLine_eq;symm;obtain⟨tl,Mq,rfl,EE,F7⟩:=aZ.mp (show Rep H (.lst _) tv from rt);obtain⟨wl,OW,rfl,vX,Jp⟩:=aZ.mp RY;obtain⟨_,OV,pv⟩:=d4 (show eA ps from hp);obtain⟨aal,RZ,prod⟩:=Ef (show eA ps from hp);nofun;clear G_;have nn:∀W:List (Int×Int),(∀x∈W,1<=x.2)->0<=fA W:=λW h=>by
   induction W with
   | nil=>exact Int.le_refl 0
   | cons x r ih=>
    have h1:=ih λy hy=>h y (aaB _ hy);have h2:=h x aaE;show 0<=x.2+fA r;omega
  have aam:=nn _ λx hx=>(pv x hx).2;have bot:∀r∈bK ps,0<r.2.2/\r.2.2<=1000000:=λr hr=>by
   symm;obtain⟨w0,w6,_,h⟩:=mw (show eA ps from hp);nofun;exact⟨(h r hr).1,Int.le_trans (Int.le_of_dvd w0 (h r hr).2.1) w6⟩
  have Mt:Mq.length=(bK ps).length:=by have:=F7.length;rw[aat] at this;omega
  have Mz:ts.length=(bK ps).length:=by have:=congrArg List.length ew;rw[aat,aat] at this;rw[this];unfold Nm.weigh;rw[aat]
  have OX:OW.length=ts.length:=by have:=Jp.length;rw[aat] at this;omega
  change tSeq _ _ _ _ _;refine bo (λN=>N [some (.ref tl),some (.ref wl),none,none,none,none] H) (λN hN=>?_) ?_
  ·refine dZ (λY N k=>?_) hN;simp_all only[];exact⟨_,vX,_,EE,by rw[if_neg (λz=>z (by rw[OX,Mz,Mt]))];exact k⟩
  change tSeq _ _ _ _ _;refine bo (λN=>N [some (.ref tl),some (.ref wl),some (.int 0),none,none,none] H) (λN hN=>?_) ?_
  ·simp_all only[];exact hN
  change tSeq _ _ _ _ _;refine bo (λN=>∀z3 z4,N [some (.ref tl),some (.ref wl),some (.int (fA (Nm.weigh (bK ps) (ky (bK ps))))),z3,z4,none] H) (λN hN=>?_) ?_
  ·simp_all only[];have lW:(Nm.weigh (bK ps) (ky (bK ps))).length=ts.length:=by rw[Mz];unfold Nm.weigh;rw[aat]
   generalize Nm.weigh (bK ps) (ky (bK ps))=W at *;refine⟨⟨_,bT.of vX⟩,bY (src_list (Ok:=λH'=>H'=H) (λH' e=>by rw[e];exact bT.of vX)) (λi σ H'=>H'=H/\∃(x:Int) (z3 z4:Option V),x+fA (W.drop i)=fA W/\σ=[some (.ref tl),some (.ref wl),some (.int x),z3,z4,none]) ⟨rfl,0,_,_,by rw[List.drop_zero,Int.zero_add],rfl⟩ (λ_ _ _ _ h=>h.1) ?_ ?_⟩
   ·intro i xv σ Mg H3 hi eQ eM;symm;obtain⟨e3,x0,z3,z4,g0,rfl⟩:=eQ;obtain⟨rfl,Iu⟩:=eM;subst e3;obtain⟨dd,ed,EC⟩:=Jp.get Iu;rw[aau] at ed;obtain⟨y,ey,rfl⟩:=Option.map_eq_some_iff.mp ed;obtain⟨q,u1,u2,rfl,hq,Iv,Mu⟩:=bA.mp (show Rep _ (.tup _) xv from EC);nofun;rw[aN.mp Iv,aN.mp Mu] at hq;have R1:i<W.length:=by omega
    have eW:y.1=W[i].2:=by
     have:=congrArg (λl:List Int=>l[i]?) ew;simp only[aau,ey,aaG R1,Option.map_some] at this;exact aaS this
    have y1:=(pv _ (aa9 R1)).2;rw[<-eW] at y1;rw[List.drop_eq_getElem_cons R1] at g0;refine⟨q,_,rfl,iX.of hq,rfl,?_⟩;simp only[gCons,gName,gNil,aa3,aa2];refine⟨_,_,rfl,_,_,rfl,rfl,?_⟩;change tSeq _ _ _ _ _;refine bo (λN=>N [some (.ref tl),some (.ref wl),some (.int x0),some (.int y.1),some (.int ((SS.idxOf y.2:Nat):Int)),none] H3) (λN hN=>?_) ?_
    ·refine dZ (λY N k=>?_) hN;simp_all only[];exact⟨_,jd.int _,_,GV,by rw[if_neg (by decide)];exact⟨_,jd.int _,_,GX,by rw[if_neg (by decide),if_neg (by omega)];exact k⟩⟩
    simp_all only[];have g1:x0+ (W[i].2+fA (W.drop (i+1)))=fA W:=g0;exact⟨_,by rw[eW];omega,rfl,_,rfl⟩
   ·intro σ H' c5;symm;obtain⟨rfl,x,z3,z4,g0,rfl⟩:=c5;nofun;rw[List.drop_of_length_le (by omega)] at g0;have e:fA W=x:=by rw[<-g0];exact Int.add_zero x
    rw[e] at hN;exact hN _ _
  rintro z3 z4;change tSeq _ _ _ _ _;refine bo (λN=>∀z5,N [some (.ref tl),some (.ref wl),some (.int (fA (Nm.weigh (bK ps) (ky (bK ps))))),z3,z4,z5] H) (λN hN=>?_) ?_
  ·simp_all only[];refine⟨_,EE,by omega,by omega,?_⟩;rw[aaY];refine bY (src_range (Ok:=λH'=>H'=H)) (λi σ H'=>H'=H/\∃z5,σ=[some (.ref tl),some (.ref wl),some (.int (fA (Nm.weigh (bK ps) (ky (bK ps))))),z3,z4,z5]) ⟨rfl,_,rfl⟩ (λ_ _ _ _ h=>h.1) ?_ ?_
   ·intro i xv σ Mg H3 hi eQ eM;symm;obtain⟨e3,z5,rfl⟩:=eQ;obtain⟨rfl,rfl⟩:=eM;subst e3;nofun;have OY:i< (bK ps).length:=by omega
    have Z0:i<ts.length:=by omega
    obtain⟨v,ev,rv⟩:=F7.at (i:=i) (d:=A8 (bK ps)[i]) (by rw[aau,aaG OY];rfl);symm;obtain⟨q,u1,u2,rfl,hq,Iv,Mu⟩:=bA.mp (show Rep _ (.tup _) v from rv);obtain⟨q2,u3,u4,rfl,FF,ru3,ru4⟩:=bA.mp (show Rep _ (.tup _) u2 from Mu);nofun;rw[aN.mp Iv] at hq;rw[aN.mp ru3,aN.mp ru4] at FF;obtain⟨v',OZ,Iw⟩:=Jp.at (i:=i) (d:=sy SS ts[i]) (by rw[aau,aaG Z0];rfl);symm;obtain⟨q',u1',u2',rfl,AI,IA,MA⟩:=bA.mp (show Rep _ (.tup _) v' from Iw);rw[aN.mp IA,aN.mp MA] at AI;have eW:ts[i].1=(bK ps)[i].2.1* (ky (bK ps) / (bK ps)[i].2.2):=by
     have:=congrArg (λl:List Int=>l[i]?) ew;unfold Nm.weigh at this;simp only[aau,aaG Z0,aaG OY,Option.map_some] at this;exact aaS this
    have pr:=prod _ (aa9 OY);rw[<-eW] at pr;obtain⟨b0,b6⟩:=bot _ (aa9 OY);nofun;simp only[gName,aa3,aa2,Int.zero_add];refine dZ (λY N k=>?_) ?_
    ·simp_all only[vX,EE];refine⟨_,b5 OZ,q',rfl,_,AI,_,at0,_,b5 ev,q,rfl,_,hq,_,at1,q2,rfl,_,FF,_,at1,_,rfl,_,rfl,lY (by omega) (by omega),_,b5 ev,q,rfl,_,hq,_,at1,q2,rfl,_,FF,_,at0,?_⟩;exact⟨_,rfl,gc (by omega) (by omega),by rw[if_neg (λz=>z pr)];exact k⟩
    ·simp_all only[];exact⟨_,rfl⟩
   ·intro σ H' c5;symm;obtain⟨rfl,z5,rfl⟩:=c5;nofun;exact hN _
  rintro z5;simp_all only[Mc];refine⟨⟨_,bT.of vX⟩,?_⟩;have S:Src (C8 K wl) (aA H) ts.length (λi x H' H3=>H3=H'/\OW[i]?=some x):=by rw[<-OX];exact src_list (λH' s'=>bT.of (s' _ _ vX))
  refine we ts (λp=>some p.1) S (λ_ _ _ _ h=>h.1) (by rw[sizeLine_eq];omega) ?_ ?_
  ·rintro i p x ep ⟨_,ex⟩;obtain⟨v',OZ,Iw⟩:=Jp.at (i:=i) (d:=sy SS p) (by rw[aau,ep];rfl);rw[ex] at OZ;cases OZ;symm;obtain⟨q',u1',u2',rfl,AI,IA,MA⟩:=bA.mp (show Rep _ (.tup _) x from Iw);nofun;rw[aN.mp IA] at AI;refine⟨q',_,_,rfl,iX.of AI,λY N y1 _=>?_⟩;simp_all only[pP];exact y1 _ rfl
  intro D n1 n2;rw[xR];have eg:∀(l:List (Int×cD)) (W:List (Int×Int)),l.map (·.1)=W.map (·.2)->CT (l.map (·.1))=yw W:=λl W e=>by
   rw[e];clear e
   induction W with
   | nil=>rfl
   | cons x r ih=>show Nat.gcd _ (CT _)=Nat.gcd _ _;rw[ih]
  have eg:=eg _ _ ew;rw[RZ] at eg;refine⟨_,ai,by rw[aat];omega,λx hx=>?_,?_⟩
  ·rw[ew] at hx;symm;obtain⟨y,hy,rfl⟩:=List.mem_map.mp hx;nofun;clear G_;have le:∀W:List (Int×Int),(∀x∈W,1<=x.2)->∀y∈W,y.2<=fA W:=λW h=>by
    induction W with
    | nil=>exact λy hy=>nomatch hy
    | cons x r ih=>
     intro y hy;have h0:=nn r λz hz=>h z (aaB _ hz);have h2:=h x aaE;show y.2<=x.2+fA r;rcases List.mem_cons.mp hy with rfl | hy
     ·omega
     ·have:=ih (λz hz=>h z (aaB _ hz)) y hy;omega
   have l1:=le _ (λx hx=>(pv x hx).2) y hy;have l2:=(pv y hy).2;exact⟨by omega,by omega⟩
  ·rw[eg];exact kk _ (ag n2)
theorem gG {ss ts:List cD} {t:cD}:aJ ss (ts++ [t])=eF (aJ ss ts) t:=by
 unfold aJ;rw[abf];rfl
theorem nQ {ss:List cD} {s:cD}:toP (cm s)∈(ss.map cm).map toP↔s∈ss:=by
 rw[aaX];constructor
 ·intro h;obtain⟨t,ht,e⟩:=List.mem_map.mp h;rw[<-yG (show toP (cm t)=toP (cm s) from e)];exact ht
 ·exact λh=>List.mem_map.mpr ⟨s,h,rfl⟩
theorem EF {ss:List cD} {s:cD} (h:s∈ss):((ss.map cm).map toP)[ss.idxOf s]?=some (toP (cm s))/\∀j,j<ss.idxOf s->((ss.map cm).map toP)[j]?≠some (toP (cm s)):=by
 have hl:=List.idxOf_lt_length_of_mem h;refine⟨by rw[aau,aau,aaG hl,List.getElem_idxOf];rfl,λj hj e=>?_⟩;rw[aau,aau] at e;obtain⟨d,ed,e⟩:=Option.map_eq_some_iff.mp e;obtain⟨x,ex,rfl⟩:=Option.map_eq_some_iff.mp ed;have:=yG e;subst this;have hx:ss[j]=x:=(List.getElem?_eq_some_iff.mp ex).2;have:=List.not_of_lt_findIdx (p:=(·==x)) (xs:=ss) (show j<ss.findIdx (·==x) from hj);rw[hx] at this;simp at this
theorem EG {g:Gm} {SS:List cD} {iO:List (List (Int×cD))} {Fr:Addr->Prop} {H':Hp} {p b l wl:Addr} {bs xs ws:List V} (hp:H' p=some (.tup [.ref b,.ref l,.ref wl])) (hb:H' b=some (.lst bs)) (rb:bh H' (zN g SS iO) bs) (hl:H' l=some (.lst xs)) (al:Al (λs v=>zJ Fr H' v s.1 s.2) SS xs) (hw:H' wl=some (.lst ws)) (tw:bh H' (SS.map (jn g)) ws):Rep H' (Ew g SS iO) (.ref p):=by
 unfold Ew;refine cV.mpr ⟨p,_,_,_,rfl,hp,aZ.mpr ⟨b,bs,rfl,hb,rb⟩,aZ.mpr ⟨l,xs,rfl,hl,Al.zF (al.imp λs v h=>?_)⟩,aZ.mpr ⟨wl,ws,rfl,hw,tw⟩⟩;obtain⟨a,l2,rfl,h1,h2,_⟩:=h;exact bA.mpr ⟨a,_,_,rfl,h1,aK.mpr rfl,aZ.mpr ⟨l2,_,rfl,h2,ints_rep _⟩⟩
theorem F8 {cs:List (Str×Int)} {rs:List Tw} {ns:List Int} {ps:List Pt} {B:Int}:dj ((Nm.weigh (bK ps) B).map λx=>(x.2,gz cs rs ns x.1))=(bK ps).map λr=>gz cs rs ns r.1:=by
 unfold dj Nm.weigh;rw[aaX,aaX];rfl
theorem dM.more {g:Gm} {SS us:List cD} {k:Nat}:∀{r:List (List (Int×cD))},dM g 0 SS k us r->k<SS.length->∃ts r' st,r=ts::r'/\us[k]?=some st/\dG g st ts/\dM g 0 SS (k+1) (aJ us (dj ts)) r'
 | [],h,l=>by have:=(h.2.1 rfl).2;omega
 | ts::r',⟨st,e,_,go,h⟩,_=>⟨ts,r',st,rfl,e,go,h⟩
theorem IB {cs:List (Str×Int)} {ps:List Pt} {t:Int} {rs:List Tw} {st:cD} (h:st.1∈gN):(st.1=Str.ofString "roll"/\look (iu cs ps t rs).ps st.1=some (.gX (ps.map dI) t 1 rs))\/(st.1≠Str.ofString "roll"/\∃a b,look (iu cs ps t rs).ps st.1=some (.fin a b)):=by
 obtain⟨x,hx,ex⟩:=List.mem_map.mp (show st.1∈(iu cs ps t rs).ps.map (·.1) from h);obtain⟨i,ei⟩:=List.mem_iff_getElem?.mp hx;have lk:=qR ei;rw[ex] at lk
 match i,ei with
 | 0,e=>cases e;exact .inl ⟨ex.symm,lk⟩
 | 1,e=>cases e;exact .inr ⟨by rw[<-ex];ac_rfl,_,_,lk⟩
 | 2,e=>cases e;exact .inr ⟨by rw[<-ex];ac_rfl,_,_,lk⟩
 | 3,e=>cases e;exact .inr ⟨by rw[<-ex];ac_rfl,_,_,lk⟩
 | n+4,e=>cases e
theorem ws5 {cs:List (Str×Int)} {ps:List Pt} {t:Int} {rs:List Tw} {st:cD} (h:st.1∈gN):jn (iu cs ps t rs) st=.lst []:=by
 unfold jn;rcases IB (cs:=cs) (ps:=ps) (t:=t) (rs:=rs) h with ⟨_,lk⟩ | ⟨_,_,_,lk⟩
 ·rw[lk];rfl
 ·rw[lk];rfl
theorem sV {d:PyData} {a b:Prop} (k:b):(if (if false=true then decide (d=d) else !decide (d=d))=true then a else b):=by rw[if_neg (by simp)];exact k
theorem kx {us l:List cD} {j:Nat}:mz (aJ us (l.take j)) (aJ us l):=by
 have e:aJ us l=aJ (aJ us (l.take j)) (l.drop j):=by unfold aJ;rw[<-abf,List.take_append_drop]
 rw[e];exact dJ _ _
theorem R3 {cs:List (Str×Int)} {ps:List Pt} {t:Int} {rs:List Tw} {st:cD} (h:st.1∈gN) (n:st.1≠Str.ofString "roll"):(st.1=Str.ofString "end"/\look (iu cs ps t rs).ps st.1=some (.fin 1 2))\/(st.1=Str.ofString "b"/\look (iu cs ps t rs).ps st.1=some (.fin 0 1))\/(st.1=Str.ofString "c"/\look (iu cs ps t rs).ps st.1=some (.fin (-3) 1)):=by
 obtain⟨x,hx,ex⟩:=List.mem_map.mp (show st.1∈(iu cs ps t rs).ps.map (·.1) from h);obtain⟨i,ei⟩:=List.mem_iff_getElem?.mp hx;have lk:=qR ei;rw[ex] at lk
 match i,ei with
 | 0,e=>cases e;exact absurd ex.symm n
 | 1,e=>cases e;exact .inl ⟨ex.symm,lk⟩
 | 2,e=>cases e;exact .inr (.inl ⟨ex.symm,lk⟩)
 | 3,e=>cases e;exact .inr (.inr ⟨ex.symm,lk⟩)
 | n+4,e=>cases e
theorem dM.two {g:Gm} {SS us:List cD} {k:Nat}:∀{r:List (List (Int×cD))},dM g 2 SS k us r->∃st ts,us[k]?=some st/\dG g st ts/\((∃r,dM g 2 SS (k+1) (aJ us (dj ts)) r)\/120< (aJ us (dj ts)).length)
 | [],h=>by obtain⟨st,ts,e,_,go,l⟩:=h.2.2.2 rfl;exact⟨st,ts,e,go,.inr l⟩
 | ts::r',⟨st,e,_,go,h⟩=>⟨st,ts,e,go,.inl ⟨r',h⟩⟩
theorem pE:∀{l us:List cD},(aJ us l).length<=us.length+l.length
 | [],us=>aav _
 | s::l,us=>by
  have h:=pE (l:=l) (us:=eF us s);have h2:(eF us s).length<=us.length+1:=by
   unfold eF
   split
   ·omega
   ·rw[aay];exact aav _
  show(aJ (eF us s) l).length<=_;rw[aaF];omega
theorem j0:bf ["_law_found","_law_game","_law_table","_law_rows_here","_law_board","_law_states","_law_words","_law_due","_law_k","_law_name","_law_numbers","_law_aims","_law_j"] ["_law_found","_law_game","_law_table","_law_rows_here"] (au (top 50)):=.mk
theorem MB (T:fj P w base K mg aH aI aF aV aq aD):iB P w K mg base (cN P w) 3 "_law_right" ["_law_found","_law_game","_law_table","_law_rows_here"] F0:=by
 have vp:=Iq T;have pF:=Iz T;refine T.sj.fB (λ_ _ _ _ _ _=>uI λ_ _ _ _=>rfl) λf fd F=>F.gR j0 (λvs H Q E h=>?_) (λbZ A outer s H vs Q E hr h=>?_)
 ·obtain⟨_,_,_,_,_,_,_,_,_,_,_,_,rfl,_⟩:=h;rfl
 ·symm;obtain⟨fv,gv,tv,rv,g,cs,ps,t,rs,SS,iO,ss,rfl,rf,rg,rt,rr,G,ess,sp,sQ,Z1,sub,kk⟩:=h;nofun;clear G_;have nd:=j0.nd;refine⟨_,(ao (fE (pv 0) (dE (K:=K) (n:=3) rfl (bD (aO (i:=4) nd rfl (Or.inl rfl)) (bD (aO (i:=5) nd rfl (Or.inl rfl)) (bD (aO (i:=6) nd rfl (Or.inl rfl)) c9)))))
  (ao (aT (i:=7) (bu (aa (aM (aa aL (aa (cY rfl (N:=["_law_found","_law_game","_law_table","_law_rows_here","_law_board","_law_states","_law_words","_law_due","_law_k","_law_name","_law_numbers","_law_aims","_law_j"]) (so:=au (top 50)) (N':=["_law_count"]) (k:=1) (fr:=[]) rfl rfl ⟨rfl,by ac_rfl,by ac_rfl,by ac_rfl,rfl,by ac_rfl,by ac_rfl⟩ (bJ (K:=K) (aG aB (pv 1) ae)) (λ_ _ _ _ _=>(aO (i:=0) (show(["_law_count"]:List Str).Nodup by ac_rfl) rfl (Or.inl rfl))) (λ_ _ _ _ _=>cX)
   (λ_ _ _ _ _=>ae)) af))) af)))
  (ao (bP (PW.pt (pw_or (aP nV (bg bM (by rfl) T.z_len aaH (aa (pv 4) af)) (bg bM (by rfl) T.z_len aaH (aa (pv 5) af)) (aX _)) (pw_or (aP nV (bg bM (by rfl) T.z_len aaH (aa (pv 6) af)) (bg bM (by rfl) T.z_len aaH (aa (pv 5) af)) (aX _)) (pw_or1 (aP (rS hr.units) (pv 6) (cY rfl (N:=["_law_found","_law_game","_law_table","_law_rows_here","_law_board","_law_states","_law_words","_law_due","_law_k","_law_name","_law_numbers","_law_aims","_law_j"]) (so:=au (top 50)) (N':=["_law_state"]) (k:=1) (fr:=[]) rfl rfl ⟨rfl,by ac_rfl,by ac_rfl,by ac_rfl,rfl,by ac_rfl,by ac_rfl⟩ (bJ (K:=K) (pv 5)) (λ_ _ _ _ _=>(aO (i:=0) (show(["_law_state"]:List Str).Nodup by ac_rfl) rfl (Or.inl rfl))) (λ_ _ _ _ _=>cX)
   (λ_ _ _ _ _=>(bu af))) (aX _)))))) (aw (aW i9))
   bw)
  (ao (cK PassesOwn.never rfl (eY rfl T.z_range (aa (bg bM (by rfl) T.z_len aaH (aa (pv 5) af)) af)) (aO (i:=8) nd rfl (Or.inl rfl)) (ao (bP (PW.pt (pw_or (aP xw (pv 8) (bg bM (by rfl) T.z_len aaH (aa (pv 7) af)) (aX _)) (pw_or1 (aP (rS hr.units) (aG bx (pv 5) (pv 8)) (aG bx (pv 7) (pv 8)) (aX _))))) (aw (aW i9))
   bw)
  (ao (fE (aG bx (pv 7) (pv 8)) (dE (K:=K) (n:=2) rfl (bD (aO (i:=9) nd rfl (Or.inl rfl)) (bD (aO (i:=10) nd rfl (Or.inl rfl)) c9))))
  (aw (bP (aP cw (pv 9) aL (aX _)) (ao (bP (PW.pt (pw_or (aP (rS hr.units) (je GD (aG bx (pv 4) (pv 8)) kD (kG ae)) (aM (aa aL (aa (aG aB (aG aB (aG bx (aG aB (pv 1) ae) ae) ae) ae) af))) (aX _)) (pw_or1 (Au (rj (bI pF (aa (pv 2) (aa (aG aB (aG bx (pv 4) (pv 8)) ae) af)))))))) (aw (aW i9))
   bw)
  (ao (aT (i:=11) (bI vp (aa (pv 2) (aa (aG aB (pv 1) ae) (aa (pv 10) (aa (pv 3) af))))))
  (aw (cK PassesOwn.never rfl (eY rfl T.z_range (aa (bg bM (by rfl) T.z_len aaH (aa (pv 11) af)) af)) (aO (i:=12) nd rfl (Or.inl rfl)) (ao (bP (aP (qH hr.units) (aG bx (pv 11) (pv 12)) (pv 7) rfl) (aw (cg (eI aaU aa5 aa6 cQ.r (pv 7) (aa (aG bx (pv 11) (pv 12)) af))))
   bw)
  (aw (bP (aP nV (eI aaU PySem.F.slot_list_index PySem.F.type_list_index (zw hr.units) (pv 7) (aa (aG bx (pv 11) (pv 12)) af)) (aG aB (aG bx (aG aB (aG bx (pv 4) (pv 8)) ae) (pv 12)) ae) (aX _)) (aw (aW i9))
   bw)))))))
   (aw (bP (aP (rS hr.units) (aG bx (pv 4) (pv 8)) (aG bx (bu (aa (aM (aa aL (aa (aM (aa ae (aa ae af))) af))) (aa (aM (aa aL (aa (aM (aa ae (aa ae af))) af))) (aa (aM (aa aL (aa (aM (aa (jM gP ae) (aa ae af))) af))) af)))) (eI aaU PySem.F.slot_list_index PySem.F.type_list_index (zv hr.units) (bu (aa aL (aa aL (aa aL af)))) (aa (pv 9) af))) (aX _)) (aw (aW i9))
   bw)))))))
  (aw (aW (vC (iy cw (bg bM (by rfl) T.z_len aaH (aa (pv 7) af)) (bg bM (by rfl) T.z_len aaH (aa (pv 5) af)) (aX _)) (Av (iy mD (bg bM (by rfl) T.z_len aaH (aa (pv 7) af)) ae (aX _)))))))))),?_⟩
  refine(?_:let cH:TS:=_;let cI:TS:=_;let cJ:TS:=_;let eD:TS:=_;let qS:TS:=_;tSeq cH (tSeq cI (tSeq cJ (tSeq eD qS))) _ _ _);intro cH cI cJ eD qS;have sl:=sizeLine_eq;symm;obtain⟨fp,bv,sv,wv,rfl,O0,rb,B7,tw⟩:=cV.mp (show Rep H (.tup _) fv from rf);obtain⟨bl,bvs,rfl,MC,Z2⟩:=aZ.mp rb;obtain⟨tl,svs,rfl,Dy,Z3⟩:=aZ.mp B7;obtain⟨wl,OW,rfl,vX,Jp⟩:=aZ.mp tw;have G0:=G;obtain⟨rfl,hc,hp,MD⟩:=G;obtain⟨gp,cv,pv,rfl,CN,rc,rp⟩:=bA.mp (show Rep H (.tup _) gv from rg);obtain⟨cl,FL,rfl,jG,yB⟩:=aZ.mp (show Rep H (.lst _) cv from rc);obtain⟨pl,HV,rfl,hpl,FN⟩:=aZ.mp (show Rep H (.lst _) pv from rp);have ZV:FL.length=cs.length:=by have:=yB.length;rw[aat] at this;exact this.symm
  have c1:cs.length<=1:=hc.nd.2.1;obtain⟨pv0,pvr,rfl,rp0,_⟩:=aS.mp (show bh H (_::_) HV from FN);obtain⟨q0,n0,w0,rfl,OL,Mn,RY⟩:=bA.mp (show Rep H (.tup _) pv0 from rp0);obtain⟨wq,k0,pl0,ty0,rl0,rfl,Z4,rk0,aan,R5,aao⟩:=dw.mp (show Rep H (.tup _) w0 from RY);rw[aK.mp Mn] at OL;rw[aK.mp rk0] at Z4;have aap:iO.length=SS.length:=by have:=sp.all.1;omega
  have lbv:bvs.length=SS.length:=by have:=Z2.length;unfold zN at this;rw[aat,List.length_zip] at this;omega
  have R6:svs.length=SS.length:=by have:=Z3.length;rw[aat] at this;omega
  have OX:OW.length=SS.length:=by have:=Jp.length;rw[aat] at this;omega
  subst ess;nofun;clear G_;change tSeq _ _ _ _ _;refine bo (λN=>N [some (.ref fp),some (.ref gp),some tv,some rv,some (.ref bl),some (.ref tl),some (.ref wl),none,none,none,none,none,none] H) (λN hN=>?_) ?_
  ·simp_all only[];refine⟨fp,_,rfl,iX.of O0,rfl,?_⟩;simp only[gCons,gName,gNil,aa3,aa2];exact⟨_,_,rfl,_,_,rfl,_,_,rfl,rfl,hN⟩
  change tSeq _ _ _ _ _;refine bo (λN=>∀H1 dl vs,aA H H1->H dl=none->H1 dl=some (.lst vs)->bH (upd H dl (.lst [])) H1 ([(Str.ofString "roll",List.replicate cs.length (0:Int))].map cm) vs->N [some (.ref fp),some (.ref gp),some tv,some rv,some (.ref bl),some (.ref tl),some (.ref wl),some (.ref dl),none,none,none,none,none] H1) (λN hN=>?_) ?_
  ·simp_all only[CN];refine⟨⟨_,bT.of jG⟩,comp_map (src_list (Ok:=aA H) (λH' s'=>bT.of (s' _ _ jG))) (λ_ _ _ _ h=>by rw[h.1];exact aA.refl _) (by omega) (λi y H5=>y=.int 0) (λi y H5 H6 s6 h=>h) (λi x w H2 H3 Q hi s2 it kq=>kq _ _ (aA.refl _) rfl) (λys H2 s2 ly hy l n1 n2=>?_)⟩;have ey:ys=(List.replicate cs.length (0:Int)).map V.int:=by
    rw[List.map_replicate];exact List.eq_replicate_iff.mpr ⟨by omega,λb hb=>by obtain⟨i,hi,rfl⟩:=List.getElem_of_mem hb;exact hy i _ (aaG hi)⟩
   subst ey;have n0:=none_of s2 n2;have sD:=s2.trans (ag (o:=.lst ((List.replicate cs.length (0:Int)).map V.int)) n2);refine⟨by omega,λq H3 s3 nq hq=>⟨by omega,λp np=>?_⟩⟩;have s4:=sD.trans s3;have s5:=s4.trans (ag (o:=.lst [V.ref q]) np);have R7:=none_of s4 np;have lp:l≠p:=λz=>by rw[<-z,s3 _ _ ai] at np;cases np
   have li:dR (upd H p (.lst [])) (upd H3 p (.lst [V.ref q])):=λb ys e=>by
    by_cases c:b=p
    ·subst c;exact⟨_,ai⟩
    ·rw[aE c] at e;exact⟨_,s5 _ _ e⟩
   refine hN _ p _ s5 R7 ai (aU (qg li (ag np _ _ hq) bG (b8 ?_ (ag np _ _ (s3 _ _ ai)) (ints_rep _))) bR);rw[aE lp];exact n0
  rintro H1 dl vs s1 Mh xZ R8;change tSeq _ _ _ _ _;refine bo (λN=>∀H2,aA H1 H2->N [some (.ref fp),some (.ref gp),some tv,some rv,some (.ref bl),some (.ref tl),some (.ref wl),some (.ref dl),none,none,none,none,none] H2) (λN hN=>?_) ?_
  ·refine iE (λ_=>False) (λH'=>aA H1 H') (λ_ f=>f.elim) (λH2 s2=>hN _ s2) (λY N _ hN=>?_);simp_all only[Br];refine⟨_,s1 _ _ MC,_,s1 _ _ Dy,?_⟩;rw[if_neg (λz=>z (by rw[lbv,R6]))];refine⟨_,s1 _ _ vX,_,s1 _ _ Dy,?_⟩;rw[if_neg (λz=>z (by rw[OX,R6]))];refine⟨⟨_,bT.of (s1 _ _ Dy)⟩,comp_map (src_list (Ok:=aA H1) (λH' s'=>bT.of (s' _ _ (s1 _ _ Dy)))) (λ_ _ _ _ h=>by rw[h.1];exact aA.refl _) (by omega) (λi y H5=>Rep H5 (.lst []) y) (λi y H5 H6 s6 h=>Rep.mono s6 h) (λi x w H2 H3 Q hi s2 it kq=>?_) (λys H2 s2 ly hy D n1 n2=>?_)⟩
   ·simp_all only[];exact⟨aaz _,λp np=>kq _ _ (ag np) (aZ.mpr ⟨p,[],rfl,ai,bL.mpr rfl⟩)⟩
   have ke:Ke (.lst (SS.map λ_=>Dat.lst [])):=nP (n:=2) (xf λd hd=>by obtain⟨_,_,rfl⟩:=List.mem_map.mp hd;exact xf λd hd=>by cases hd) (by decide);have ew:SS.map (jn (iu cs ps t rs))=SS.map λ_=>Dat.lst []:=List.map_congr_left λs hs=>ws5 (sub s hs).1;have R9:Rep H (.lst (SS.map λ_=>Dat.lst [])) (.ref wl):=by rw[<-ew];exact tw
   refine⟨_,R9.mono (s1.trans (s2.trans (ag n2))),.lst (SS.map λ_=>Dat.lst []),aZ.mpr ⟨D,ys,rfl,ai,bh.of (by rw[aat];omega) λi d v ed ev=>?_⟩,ke,ke,?_⟩
   ·rw[aau] at ed;symm;obtain⟨_,_,rfl⟩:=Option.map_eq_some_iff.mp ed;nofun;exact Rep.mono (ag n2) (hy i v ev)
   ·exact sV (hN _ (s2.trans (ag n2)))
  rintro H2 s2;change tSeq _ _ _ _ _;refine bo (λN=>∀H3 vs z8 z9 lM CW tJ,aA H H3->H3 dl=some (.lst vs)->List.length vs=SS.length->N [some (.ref fp),some (.ref gp),some tv,some rv,some (.ref bl),some (.ref tl),some (.ref wl),some (.ref dl),z8,z9,lM,CW,tJ] H3) (λN hN=>?_) ?_
  ·simp_all only[];have Z5:=s1.trans s2;refine⟨_,Z5 _ _ Dy,by omega,by omega,?_⟩;rw[aaY];refine bY (src_range (Ok:=aA H)) (λk σ H4=>aA H H4/\∃dn rest us vs,iO=dn++rest/\dn.length=k/\dM (iu cs ps t rs) 0 SS k us rest/\H4 dl=some (.lst vs)/\bH (upd H dl (.lst [])) H4 (us.map cm) vs/\∃z8 z9 lM CW tJ,σ=[some (.ref fp),some (.ref gp),some tv,some rv,some (.ref bl),some (.ref tl),some (.ref wl),some (.ref dl),z8,z9,lM,CW,tJ]) ⟨Z5,[],iO,_,vs,rfl,rfl,sp,s2 _ _ xZ,R8.mono s2,_,_,_,_,_,rfl⟩ (λ_ _ _ _ h=>h.1) ?_ ?_
   ·intro k xv σ ZY H4 hk eQ eM;symm;obtain⟨s4,dn,rest,us,EA,et,ek,O1,IC,Jq,z8,z9,lM,CW,tJ,rfl⟩:=eQ;obtain⟨rfl,rfl⟩:=eM;nofun;clear G_;simp only[gName,aa3,aa2,Int.zero_add];change tSeq _ _ _ _ _;symm;obtain⟨ts,r',st,rfl,CV,go,ID⟩:=O1.more (by omega);nofun;clear G_;have ME:=O1.tE;have IE:=ID.tE;have Sa:SS[k]?=some st:=by obtain⟨r,e⟩:=ME;rw[e,abc (List.getElem?_eq_some_iff.mp CV).1];exact CV
    have Sb:iO[k]?=some ts:=by rw[et,abk (by omega),ek,Nat.sub_self];rfl
    have j1:=sub st (aaC Sa);have lus:us.length<=SS.length:=ME.len;have OU:EA.length=us.length:=by have:=Jq.length;rw[aat] at this;omega
    have kus:=(List.getElem?_eq_some_iff.mp CV).1;obtain⟨dv,Jr,An⟩:=Jq.at (i:=k) (d:=cm st) (by rw[aau,CV];rfl);obtain⟨sv,esv,rsv⟩:=Z3.at (i:=k) (d:=cm st) (by rw[aau,Sa];rfl);obtain⟨pv,O2,O3⟩:=Z2.at (i:=k) (d:=lB (iu cs ps t rs) SS st ts) (by unfold zN;rw[aau,List.getElem?_zip_eq_some (z:=(st,ts)) |>.mpr ⟨Sa,Sb⟩];rfl);have An:dh (upd H dl (.lst [])) H4 (cm st) dv:=An;have ks:=mB (jR.2 _ j1.1);refine bo (λN=>N [some (.ref fp),some (.ref gp),some tv,some rv,some (.ref bl),some (.ref tl),some (.ref wl),some (.ref dl),some (.int (k:Int)),z9,lM,CW,tJ] H4) (λN hN=>?_) ?_
    ·refine dZ (λY N kN=>?_) hN;simp_all only[Br];refine⟨_,IC,?_⟩;rw[if_neg (by omega)];exact⟨_,s4 _ _ Dy,_,b5 esv,_,IC,_,b5 Jr,_,rsv.mono s4,_,An.rep,ks,ks,sV kN⟩
    symm;obtain⟨dq,dn1,nv,rfl,IF,Sd,Se⟩:=bA.mp (show Rep _ (.tup _) dv from An.rep);obtain⟨nl,nvs,rfl,Ir,Sf⟩:=aZ.mp Se;obtain rfl:=pf Sf;nofun;clear G_;rw[aK.mp Sd] at IF;change tSeq _ _ _ _ _;refine bo (λN=>N [some (.ref fp),some (.ref gp),some tv,some rv,some (.ref bl),some (.ref tl),some (.ref wl),some (.ref dl),some (.int (k:Int)),some (.str st.1),some (.ref nl),CW,tJ] H4) (λN hN=>?_) ?_
    ·simp_all only[];refine⟨_,IC,_,b5 Jr,dq,_,rfl,iX.of IF,rfl,?_⟩;simp only[gCons,gName,gNil,aa3,aa2];exact⟨_,_,rfl,_,_,rfl,rfl,hN⟩
    change tIfS _ _ _ _ [some (.ref fp),some (.ref gp),some tv,some rv,some (.ref bl),some (.ref tl),some (.ref wl),some (.ref dl),some (.int (k:Int)),some (.str st.1),some (.ref nl),CW,tJ] H4;rcases IB (cs:=cs) (ps:=ps) (t:=t) (rs:=rs) j1.1 with ⟨er,lk⟩ | ⟨O4,fa,fb,lk⟩
    ·refine fG (λY N kN=>by simp_all only[];rw[if_pos er];exact kN) ?_;rw[show lB (iu cs ps t rs) SS st ts=.tup [.str (Str.ofString "throw"),.tup [.int t,.int 1],.lst (ts.map (sy SS))] by unfold lB;rw[lk]] at O3;symm;obtain⟨pq,pk,pt,pw,rfl,O5,rpk,rpt,Z6⟩:=cV.mp (show Rep H (.tup _) pv from O3);obtain⟨Z7,pws,rfl,hpw,MF⟩:=aZ.mp Z6;rw[aK.mp rpk] at O5;obtain⟨Sg,MG⟩:=B6 (t:=t) hc hp MD j1.2;nofun;have IG:ts=(Nm.weigh (bK ps) (ky (bK ps))).map λx=>(x.2,gz cs rs st.2 x.1):=o6 (λwo rs z=>by rw[lk] at z;cases z) go (by have e:st=(Str.ofString "roll",st.2):=Prod.ext er rfl;rw[e];exact Sg);change tSeq _ _ _ _ _;refine bo (λN=>∀H5,aA H4 H5->N [some (.ref fp),some (.ref gp),some tv,some rv,some (.ref bl),some (.ref tl),some (.ref wl),some (.ref dl),some (.int (k:Int)),some (.str st.1),some (.ref nl),CW,tJ] H5) (λN hN=>?_) ?_
     ·refine iE (λ_=>False) (λH'=>aA H4 H') (λ_ f=>f.elim) (λH5 s5=>hN _ s5) (λY N _ hN=>?_);simp_all only[Br,JR,FZ];have kt:Ke (.tup [.str (Str.ofString "throw"),.tup [.int t,.int 1]]):=nP (n:=2) (Cq (xa (by ac_rfl)) (Cq (pj _) (pj _))) (by decide);refine⟨_,s4 _ _ MC,_,b5 O2,pq,rfl,_,iX.of (s4 _ _ O5),show ¬(HT.eR 3 0 none=0/\HT.eR 3 3 (some 2)=3) by decide,λp np=>?_⟩;have s5:=s4.trans (ag (o:=.tup (pL [V.str (Str.ofString "throw"),pt,.ref Z7] none (some 2))) np);refine⟨_,s5 _ _ CN,_,at1,pl,rfl,_,s5 _ _ hpl,_,at0,q0,rfl,_,s5 _ _ OL,_,at1,wq,rfl,_,s5 _ _ Z4,_,at2,by omega,λp1 H5 s6 F6 hp1=>?_⟩;have s7:=s5.trans s6;refine⟨.tup [.str (Str.ofString "throw"),.tup [.int t,.int 1]],bA.mpr ⟨p,_,pt,rfl,s6 _ _ ai,aK.mpr rfl,rpt.mono s7⟩,_,bA.mpr ⟨p1,_,ty0,rfl,hp1,aK.mpr rfl,R5.mono s7⟩,kt,kt,sV ⟨_,s7 _ _ MC,_,b5 O2,pq,rfl,_,s7 _ _ O5,_,at2,ps,rt.mono s7,hp,SS,ts,Z6.mono s7,by rw[IG,aaX];rfl,λH' sH=>?_⟩⟩;rw[if_neg (by decide)];exact hN _ ((ag np).trans (s6.trans sH))
     rintro H5 s5;have CS:=s4.trans s5;have CY:=s5 _ _ IC;have Cy:=Jq.mono s5;have Z8:dR (upd H dl (.lst [])) H5:=λb ys e=>by
      by_cases c:b=dl
      ·subst c;exact⟨_,CY⟩
      ·rw[aE c] at e;exact⟨_,CS _ _ e⟩
     have eL:(bK ps).map (λr=>cm (gz cs rs st.2 r.1))=(dj ts).map cm:=by rw[IG,F8,aaX];rfl
     change tSeq _ _ _ _ _;refine bo (λN=>∀H6 al xk,aA H5 H6->al≠dl->H6 al=some (.lst xk)->dh (upd H dl (.lst [])) H6 (.lst ((dj ts).map cm)) (.ref al)->bH (upd H dl (.lst [])) H6 ((dj ts).map cm) xk->N [some (.ref fp),some (.ref gp),some tv,some rv,some (.ref bl),some (.ref tl),some (.ref wl),some (.ref dl),some (.int (k:Int)),some (.str st.1),some (.ref nl),some (.ref al),tJ] H6) (λN hN=>?_) ?_
     ·simp_all only[vi,CS _ _ CN];refine⟨ps,rt.mono CS,hp,cs,rc.mono CS,hc,st.2,s5 _ _ Ir,j1.2,rs,MD,rr.mono CS,λv H6 s6 Sh=>?_⟩;rw[eL] at Sh;symm;obtain⟨al,xk,rfl,Js,sW⟩:=aZ.mp (show Rep (fJ H5 H6) (.lst _) v from Sh);obtain⟨n5,EH⟩:=jt Js;nofun;exact hN _ al xk s6 (λz=>n5 _ (z▸CY)) EH (dh.low Z8 Sh) (bH.low Z8 sW)
     rintro H6 al xk s6 Si Js ral sW;have s06:=CS.trans s6;have Mz:(dj ts).length=ts.length:=by unfold dj;rw[aat]
     have Sj:xk.length=ts.length:=by have:=sW.length;rw[aat,Mz] at this;omega
     have aaq:ts.length<=40:=by rw[IG,aat];unfold Nm.weigh;rw[aat];exact(d4 (show eA ps from hp)).2.1
     have ZM:pws.length=ts.length:=by have:=MF.length;rw[aat] at this;omega
     have Z9:us.length<=120:=by omega
     have MH:∀s∈aJ us (dj ts),s∈SS:=λs hs=>by obtain⟨r,e⟩:=IE;rw[e];exact aba _ hs
     refine xh (λN=>∀H7 CZ tJ,aA H H7->H7 dl=some (.lst CZ)->bH (upd H dl (.lst [])) H7 ((aJ us (dj ts)).map cm) CZ->N [some (.ref fp),some (.ref gp),some tv,some rv,some (.ref bl),some (.ref tl),some (.ref wl),some (.ref dl),some (.int (k:Int)),some (.str st.1),some (.ref nl),some (.ref al),tJ] H7) ?_ (λN hN=>?_)
     ·intro H7 CZ tJ s7 F9 EI;exact⟨s7,dn++ [ts],r',_,CZ,by rw[et,List.append_assoc];rfl,by rw[aay,ek];rfl,ID,F9,EI,_,_,_,_,_,rfl⟩
     simp_all only[];refine⟨_,Js,by omega,by omega,?_⟩;rw[aaY];refine bY (src_range (Ok:=aA H)) (λj σ H7=>aA H H7/\H7 al=some (.lst xk)/\bH (upd H dl (.lst [])) H7 ((dj ts).map cm) xk/\∃CZ,H7 dl=some (.lst CZ)/\bH (upd H dl (.lst [])) H7 ((aJ us ((dj ts).take j)).map cm) CZ/\∃tJ,σ=[some (.ref fp),some (.ref gp),some tv,some rv,some (.ref bl),some (.ref tl),some (.ref wl),some (.ref dl),some (.int (k:Int)),some (.str st.1),some (.ref nl),some (.ref al),tJ]) ⟨s06,Js,sW,EA,s6 _ _ CY,by rw[List.take_zero];exact Cy.mono s6,_,rfl⟩ (λ_ _ _ _ h=>h.1) ?_ ?_
     ·intro j xv σ H7' H7 hj eQ eM;symm;obtain⟨s7,Cz,EJ,CZ,F9,EI,tJ,rfl⟩:=eQ;obtain⟨rfl,rfl⟩:=eM;nofun;simp only[gName,aa3,aa2,Int.zero_add];have hjt:j< (dj ts).length:=by omega
      have Sk:=aaG hjt;obtain⟨av,MI,EK⟩:=EJ.at (i:=j) (d:=cm (dj ts)[j]) (by rw[aau,Sk];rfl);have EK:dh (upd H dl (.lst [])) H7 (cm (dj ts)[j]) av:=EK;have tk:(dj ts).take (j+1)=(dj ts).take j++ [(dj ts)[j]]:=by rw[aaQ,Sk];rfl
      have inA:∀s∈aJ us ((dj ts).take j),Ah (iu cs ps t rs) s:=λs hs=>by
       refine sub s (MH s ?_);rcases cP.mp hs with h | h
       ·exact cP.mpr (.inl h)
       ·exact cP.mpr (.inr (List.mem_of_mem_take h))
      have hsj:Ah (iu cs ps t rs) (dj ts)[j]:=sub _ (MH _ (cP.mpr (.inr (aa9 hjt))));have kj:=mB (jR.2 _ hsj.1);have Sl:∀e∈(aJ us ((dj ts).take j)).map cm,Ke e:=λe he=>by
       symm;obtain⟨s,hs,rfl⟩:=List.mem_map.mp he;nofun;exact mB (jR.2 _ (inA s hs).1)
      change tSeq _ _ _ _ _;refine bo (λN=>∀H8 Sm,aA H H8->H8 al=some (.lst xk)->bH (upd H dl (.lst [])) H8 ((dj ts).map cm) xk->H8 dl=some (.lst Sm)->bH (upd H dl (.lst [])) H8 ((aJ us ((dj ts).take (j+1))).map cm) Sm->N [some (.ref fp),some (.ref gp),some tv,some rv,some (.ref bl),some (.ref tl),some (.ref wl),some (.ref dl),some (.int (k:Int)),some (.str st.1),some (.ref nl),some (.ref al),some (.int (j:Int))] H8) (λN hN=>?_) ?_
      ·rw[tk,gG] at hN;unfold eF at hN;simp_all only[Hx,dt];have lv7:CZ.length<=120:=by
        have l1:=EI.length;have l2:=(kx (us:=us) (l:=dj ts) (j:=j)).len;have l3:=IE.len;rw[aat] at l1;omega
       refine⟨_,Cz,_,b5 MI,_,F9,_,EI.rep,Sl,cm (dj ts)[j],EK.rep,kj,?_⟩
       by_cases m:(dj ts)[j]∈aJ us ((dj ts).take j)
       ·rw[if_neg (λz=>z (nQ.mpr m))];rw[if_pos m] at hN;exact hN _ _ s7 Cz EJ F9 EI
       ·rw[if_pos (λz=>m (nQ.mp z))];rw[if_neg m] at hN;refine⟨.inl ⟨rfl,_,bT.of F9⟩,_,Cz,_,b5 MI,_,F9,by omega,hN _ _ (bS s7 Mh) (by rw[aE Si];exact Cz) ?_ ai ?_⟩
        ·show bh (fJ _ (upd _ _ _)) _ _;rw[eO (ys:=[]) ai];exact EJ
        ·show bh (fJ _ (upd _ _ _)) _ _;rw[eO (ys:=[]) ai,aaK];exact jD EK EI
      rintro H8 Sm s8 MJ MK Lw rd8;have Sn:(dj ts)[j]∈aJ us ((dj ts).take (j+1)):=cP.mpr (.inr (by rw[tk];exact aaO _ (List.mem_singleton_self _)));obtain⟨i1,i2⟩:=EF Sn;have a8:mz (aJ us ((dj ts).take (j+1))) SS:=kx.trans IE;have l8:=a8.len;have ib:=List.idxOf_lt_length_of_mem Sn;obtain⟨av',So,IH⟩:=MK.at (i:=j) (d:=cm (dj ts)[j]) (by rw[aau,Sk];rfl);have IH:dh (upd H dl (.lst [])) H8 (cm (dj ts)[j]) av':=IH;have Sq:j<ts.length:=by omega
      have esj:(dj ts)[j]=ts[j].2:=List.getElem_map (f:=λx:Int×cD=>x.2);obtain⟨bv,ebv,rbv⟩:=MF.at (i:=j) (d:=sy SS ts[j]) (by rw[aau,aaG Sq];rfl);symm;obtain⟨bq,b1,b2,rfl,hbq,Mx,My⟩:=bA.mp (show Rep _ (.tup _) bv from rbv);nofun;rw[aN.mp Mx,aN.mp My,<-esj,a8.idx Sn] at hbq;simp_all only[Kt];refine⟨.inl ⟨rfl,_,bT.of Lw⟩,_,MJ,_,b5 So,_,Lw,_,rd8.rep,λe he=>?_,_,IH.rep,kj,_,i1,i2,by omega,_,s8 _ _ MC,_,b5 O2,pq,rfl,_,s8 _ _ O5,_,at2,Z7,rfl,_,s8 _ _ hpw,_,b5 ebv,bq,rfl,_,s8 _ _ hbq,_,at1,?_⟩
      ·symm;obtain⟨s,hs,rfl⟩:=List.mem_map.mp he;nofun;exact mB (jR.2 _ (sub s (by obtain⟨r,e⟩:=a8;rw[e];exact aba _ hs)).1)
      ·exact⟨rfl,by rw[if_neg (λz=>z rfl)];exact⟨s8,MJ,MK,_,Lw,rd8,_,rfl⟩⟩
     ·intro σ H7 c5;symm;obtain⟨s7,Cz,EJ,CZ,F9,EI,tJ,rfl⟩:=c5;nofun;rw[Sj,<-Mz,aaJ (aav _)] at EI;exact hN _ _ _ s7 F9 EI
    ·refine dZ (λY N kN=>by simp_all only[];rw[if_neg O4];exact kN) ?_;simp_all only[Br,Kr];refine⟨_,s4 _ _ MC,_,b5 O2,by omega,λa1 Ha sa na ea=>⟨by omega,λb1 Hb sb nb eb=>⟨by omega,λa2 Hc sc nc ec=>⟨by omega,λb2 Hd sd nd ed=>⟨by omega,λa3 He se ne_ ee=>⟨by omega,λb3 Hf sf nf ef=>⟨by omega,λp5 np5=>⟨by omega,λp6 np6=>?_⟩⟩⟩⟩⟩⟩⟩⟩;have q5:=ag (o:=.lst [V.ref b1,.ref b2,.ref b3]) np5;have q6:=ag (o:=.lst [V.str (Str.ofString "end"),.str (Str.ofString "b"),.str (Str.ofString "c")]) np6;have s9:=sa.trans (sb.trans (sc.trans (sd.trans (se.trans (sf.trans (q5.trans q6))))));have e6:upd (upd Hf p5 (.lst [V.ref b1,.ref b2,.ref b3])) p6 (.lst [V.str (Str.ofString "end"),.str (Str.ofString "b"),.str (Str.ofString "c")]) p6=_:=ai;have e5:=q6 _ _ ai;have f1:=q6 _ _ (q5 _ _ (sf _ _ (se _ _ (sd _ _ (sc _ _ eb)))));have g1:=q6 _ _ (q5 _ _ (sf _ _ (se _ _ (sd _ _ (sc _ _ (sb _ _ ea))))));have f2:=q6 _ _ (q5 _ _ (sf _ _ (se _ _ ed)));have g2:=q6 _ _ (q5 _ _ (sf _ _ (se _ _ (sd _ _ ec))));have f3:=q6 _ _ (q5 _ _ ef);have g3:=q6 _ _ (q5 _ _ (sf _ _ ee));generalize upd (upd Hf p5 (.lst [V.ref b1,.ref b2,.ref b3])) p6 (.lst [V.str (Str.ofString "end"),.str (Str.ofString "b"),.str (Str.ofString "c")])=H9 at *;obtain⟨j,a,b,bj,aj,mj,ij,ebj,hbj,haj,Sr⟩:∃(j:Nat) (a b:Int) (bj aj:Addr),st.1∈[Str.ofString "end",Str.ofString "b",Str.ofString "c"]/\[Str.ofString "end",Str.ofString "b",Str.ofString "c"].idxOf st.1=j/\[V.ref b1,.ref b2,.ref b3][j]?=some (.ref bj)/\H9 bj=some (.tup [.str (Str.ofString "end"),.ref aj])/\H9 aj=some (.tup [.int a,.int b])/\look (iu cs ps t rs).ps st.1=some (.fin a b):=by
      rcases R3 (cs:=cs) (ps:=ps) (t:=t) (rs:=rs) j1.1 O4 with ⟨e,l⟩ | ⟨e,l⟩ | ⟨e,l⟩
      ·exact⟨0,1,2,b1,a1,by rw[e];ac_rfl,by rw[e];ac_rfl,rfl,f1,g1,l⟩
      ·exact⟨1,0,1,b2,a2,by rw[e];ac_rfl,by rw[e];ac_rfl,rfl,f2,g2,l⟩
      ·exact⟨2,-3,1,b3,a3,by rw[e];ac_rfl,by rw[e];ac_rfl,rfl,f3,g3,l⟩
     have jlt:=(List.getElem?_eq_some_iff.mp ebj).1;have Ss:∀n∈[Str.ofString "end",Str.ofString "b",Str.ofString "c"],eP (.str n)=true:=by ac_rfl
     obtain⟨x1,x2⟩:=Ig mj;rw[ij] at x1 x2;rw[show lB (iu cs ps t rs) SS st ts=.tup [.str (Str.ofString "end"),.tup [.int a,.int b]] by unfold lB;rw[Sr];show BP _ _ _ _=_;unfold BP;rw[Sr];rfl] at O3;have ke:Ke (.tup [.str (Str.ofString "end"),.tup [.int a,.int b]]):=nP (n:=2) (Cq (xa (Ss _ (.head _))) (Cq (pj _) (pj _))) (by decide);have Su:ts=[]:=by unfold dG at go;rw[Sr] at go;exact go
     subst Su;refine⟨.inl ⟨rfl,_,bT.of e6⟩,_,e6,_,vf [Str.ofString "end",Str.ofString "b",Str.ofString "c"],λe he=>?_,.str st.1,aK.mpr rfl,Ma (Ss _ mj),j,x1,x2,(aa8 (show j<3 from jlt) (by decide)),_,e5,_,b5 ebj,_,O3.mono (s4.trans s9),_,bA.mpr ⟨bj,_,_,rfl,hbj,aK.mpr rfl,bA.mpr ⟨aj,_,_,rfl,haj,aN.mpr rfl,aN.mpr rfl⟩⟩,ke,ke,sV ⟨s4.trans s9,dn++ [[]],r',by rw[et,List.append_assoc];rfl,by rw[aay,ek];rfl,_,ID,_,s9 _ _ IC,Jq.mono s9,_,rfl⟩⟩;symm;obtain⟨n,hn,rfl⟩:=List.mem_map.mp he;nofun;exact Ma (Ss n hn)
   ·intro σ H4 c5;symm;obtain⟨s4,dn,rest,us,EA,et,ek,O1,IC,Jq,z8,z9,lM,CW,tJ,rfl⟩:=c5;have e0:rest=[]:=by
     cases rest with
     | nil=>rfl
     | cons a b=>exact absurd (congrArg List.length et) (by rw[aay,aaF];omega)
    subst e0;nofun;have OU:EA.length=us.length:=by have:=Jq.length;rw[aat] at this;omega
    exact hN _ _ _ _ _ _ _ s4 IC (by rw[OU,(O1.2.1 rfl).1])
  rintro H3 Il z8 z9 lM CW tJ s3 O6 l3;simp_all only[];refine⟨_,O6,_,s3 _ _ Dy,?_⟩;rw[if_pos (by rw[l3,R6])];refine⟨_,O6,?_⟩;rw[decide_eq_true (by omega)];exact kk _ s3
theorem lN:bf ["_law_table","_law_game","_law_rows_here","_law_due","_law_at_here","_law_aim"] ["_law_table","_law_game","_law_rows_here"] (au (top 51)):=.mk
theorem II (T:fj P w base K mg aH aI aF aV aq aD):rT P w K mg base (cN P w) 3 "_law_many" ["_law_table","_law_game","_law_rows_here"] Ct:=by
 have sY:rT P w K mg base (cN P w) 2 "_law_ways" ["_law_table","_law_counts","_law_numbers","_law_rows_here"] vi:=Iy T;refine T.uG.HA (λ_ _ _ _ _ _=>uH λ_ _ _=>rfl) λf fd F=>F.QB lN (λvs H Q E h=>?_) (λbZ A ad outer s H vs Q E hr wm h=>?_)
 ·obtain⟨_,_,_,_,_,_,_,_,_,_,rfl,_⟩:=h;rfl
 ·symm;obtain⟨tv,gv,rv,g,cs,ps,t,rs,SS,iO,rfl,rt,rg,rr,G,sp,sQ,sub,kk⟩:=h;nofun;clear G_;have nd:=lN.nd;have hx:=wm.resolve_left aaM;refine⟨_,(ao (aT (i:=3) (bu (aa (aM (aa aL (aa (Bx wm (N:=["_law_table","_law_game","_law_rows_here","_law_due","_law_at_here","_law_aim"]) (so:=au (top 51)) (N':=["_law_count"]) (k:=1) (fr:=[]) rfl rfl ⟨rfl,by ac_rfl,by ac_rfl,by ac_rfl,rfl,by ac_rfl,by ac_rfl⟩ (hV (K:=K) (aG aB (pv 1) ae)) (λ_ _ _ _ _=>(aO (i:=0) (show(["_law_count"]:List Str).Nodup by ac_rfl) rfl (Or.inl rfl))) (λ_ _ _ _ _=>cX)
   (λ_ _ _ _ _=>ae)) af))) af)))
  (ao (aT (i:=4) ae)
  (ao (jb PassesOwn.never (PW.pt (pw_and (aP mC (pv 4) (bg bM (by rfl) T.z_len aaH (aa (pv 3) af)) (aX _)) (pw_and1 (aP mC (bg bM (by rfl) T.z_len aaH (aa (pv 3) af)) ae (aX _))))) (ao (bP (aP cw (aG aB (aG bx (pv 3) (pv 4)) ae) aL (aX _)) (aw (nJ PassesOwn.never wm (hV (K:=K) (x9 sY hx (hr.mono (by decide)) rfl gE (aa (pv 0) (aa (aG aB (pv 1) ae) (aa (aG aB (aG bx (pv 3) (pv 4)) ae) (aa (pv 2) af)))) (he:=se rfl) (hpl:=na rfl))) (aO (i:=5) nd rfl (Or.inl rfl)) (aw (bP (aP (qH hr.units) (pv 5) (pv 3) rfl) (aw (cg (eI aaU aa5 aa6 cQ.r (pv 3) (aa (pv 5) af))))
   bw))))
   bw)
  (aw (aT (i:=4) (br cC (pv 4) ae)))))
  (aw (aW (bg bM (by rfl) T.z_len aaH (aa (pv 3) af))))))),?_⟩
  have sl:=sizeLine_eq;have G0:=G;symm;obtain⟨rfl,hc,hp,MD⟩:=G;obtain⟨gp,cv,pv,rfl,CN,rc,rp⟩:=bA.mp (show Rep H (.tup [I0 cs,_]) gv from rg);obtain⟨cl,FL,rfl,jG,yB⟩:=aZ.mp (show Rep H (.lst _) cv from rc);nofun;clear G_;have ZV:FL.length=cs.length:=by have:=yB.length;rw[aat] at this;exact this.symm
  have c1:cs.length<=1:=hc.nd.2.1;change tSeq _ _ _ _ _;refine bo (λN=>∀H1 dl vs,aA H H1->H dl=none->H1 dl=some (.lst vs)->bH (upd H dl (.lst [])) H1 ([(Str.ofString "roll",List.replicate cs.length (0:Int))].map cm) vs->N [some tv,some (.ref gp),some rv,some (.ref dl),none,none] H1) (λN hN=>?_) ?_
  ·simp_all only[CN];refine⟨⟨_,bT.of jG⟩,comp_map (src_list (Ok:=aA H) (λH' s'=>bT.of (s' _ _ jG))) (λ_ _ _ _ h=>by rw[h.1];exact aA.refl _) (by omega) (λi y H5=>y=.int 0) (λi y H5 H6 s6 h=>h) (λi x w H2 H3 Q hi s2 it kq=>kq _ _ (aA.refl _) rfl) (λys H2 s2 ly hy l n1 n2=>?_)⟩;have ey:ys=(List.replicate cs.length (0:Int)).map V.int:=by
    rw[List.map_replicate];exact List.eq_replicate_iff.mpr ⟨by omega,λb hb=>by obtain⟨i,hi,rfl⟩:=List.getElem_of_mem hb;exact hy i _ (aaG hi)⟩
   subst ey;have n0:=none_of s2 n2;have sD:=s2.trans (ag (o:=.lst ((List.replicate cs.length (0:Int)).map V.int)) n2);refine⟨by omega,λq H3 s3 nq hq=>⟨by omega,λp np=>?_⟩⟩;have s4:=sD.trans s3;have s5:=s4.trans (ag (o:=.lst [V.ref q]) np);have R7:=none_of s4 np;have lp:l≠p:=λz=>by rw[<-z,s3 _ _ ai] at np;cases np
   have li:dR (upd H p (.lst [])) (upd H3 p (.lst [V.ref q])):=λb ys e=>by
    by_cases c:b=p
    ·subst c;exact⟨_,ai⟩
    ·rw[aE c] at e;exact⟨_,s5 _ _ e⟩
   refine hN _ p _ s5 R7 ai (aU (qg li (ag np _ _ hq) bG (b8 ?_ (ag np _ _ (s3 _ _ ai)) (ints_rep _))) bR);rw[aE lp];exact n0
  rintro H1 dl vs s1 Mh xZ R8;change tSeq _ _ _ _ _;refine bo (λN=>N [some tv,some (.ref gp),some rv,some (.ref dl),some (.int 0),none] H1) (λN hN=>?_) ?_
  ·simp_all only[];exact hN
  change tSeq _ _ _ _ _;refine bo (λN=>∀H2 vs z4 z5,aA H H2->H2 dl=some (.lst vs)->120<List.length vs->N [some tv,some (.ref gp),some rv,some (.ref dl),z4,z5] H2) (λN hN=>?_) ?_
  ·refine yH (λm σ H'=>aA H H'/\∃(k:Nat) (us:List cD) (vs:List V) (z5:Option V),m=122 - k/\H' dl=some (.lst vs)/\bH (upd H dl (.lst [])) H' (us.map cm) vs/\(∀s∈us,Ah (iu cs ps t rs) s)/\us.length<=200/\((∃r,dM (iu cs ps t rs) 2 SS k us r)\/120<us.length)/\σ=[some tv,some (.ref gp),some rv,some (.ref dl),some (.int (k:Int)),z5]) (m:=122) ⟨s1,0,_,vs,_,rfl,xZ,R8,(λs hs=>by rw[List.mem_singleton.mp hs];exact⟨.head _,yu hc.nd.2.2.1⟩),(show 1<=200 by decide),.inl ⟨_,sp⟩,rfl⟩ ?_;intro m σ H2 Ek;symm;obtain⟨s2,k,us,Ap,z5,rfl,hd2,O7,str,Sv,ph,rfl⟩:=Ek;nofun;clear G_;have RE:Ap.length=us.length:=by have:=O7.length;rw[aat] at this;omega
   refine⟨decide (k<us.length/\us.length<122),λH'=>H'=H2,λQ kq=>by
    simp_all only[hd2,RE]
    by_cases c:k<us.length
    ·rw[if_pos (by omega),show decide ((us.length:Int)<122)=decide (k<us.length/\us.length<122) from decide_eq_decide.mpr (by omega)];exact kq _ rfl
    ·rw[if_neg (by omega),show false=decide (k<us.length/\us.length<122) from(decide_eq_false (by omega)).symm];exact kq _ rfl,?_⟩
   rintro H' rfl
   by_cases b:k<us.length/\us.length<122
   case neg=>
    rw[if_neg (by rw[decide_eq_false b];decide)];refine hN _ _ _ _ s2 hd2 ?_;rcases ph with ⟨r,Fl⟩ | h
    ·symm;obtain⟨st,ts,e,_,_⟩:=Fl.two;nofun;have h1:=(List.getElem?_eq_some_iff.mp e).1;have h2:=Fl.tE.len;omega
    ·omega
   rw[if_pos (decide_eq_true b)];have ek:=aaG b.1;have j1:=str _ (aa9 b.1);obtain⟨dv,Jr,An⟩:=O7.at (i:=k) (d:=cm us[k]) (by rw[aau,ek];rfl);have An:dh (upd H dl (.lst [])) H' (cm us[k]) dv:=An;symm;obtain⟨dq,dn1,nv,rfl,IF,Sd,Se⟩:=bA.mp (show Rep _ (.tup _) dv from An.rep);obtain⟨nl,nvs,rfl,Ir,Sf⟩:=aZ.mp Se;obtain rfl:=pf Sf;nofun;clear G_;rw[aK.mp Sd] at IF;generalize us[k]=st at *;change tSeq _ _ _ _ _;refine bo (λN=>∀H3 ML qX z5,aA H H3->H3 dl=some (.lst qX)->bH (upd H dl (.lst [])) H3 (ML.map cm) qX->(∀s∈ML,Ah (iu cs ps t rs) s)->ML.length<=200->((∃r,dM (iu cs ps t rs) 2 SS (k+1) ML r)\/120<ML.length)->N [some tv,some (.ref gp),some rv,some (.ref dl),some (.int (k:Int)),z5] H3) (λN hN=>?_) ?_
   ·rcases IB (cs:=cs) (ps:=ps) (t:=t) (rs:=rs) j1.1 with ⟨er,lk⟩ | ⟨O4,fa,fb,lk⟩
    ·obtain⟨Sg,MG⟩:=B6 (t:=t) hc hp MD j1.2;have CV:st=(Str.ofString "roll",st.2):=Prod.ext er rfl;refine fG (λY N kN=>by
      simp_all only[];exact⟨_,hd2,_,b5 Jr,dq,rfl,_,IF,_,at0,rfl,by rw[if_pos (congrArg V.str er)];exact kN⟩) ?_
     have li:dR (upd H dl (.lst [])) H':=λb ys e=>by
      by_cases c:b=dl
      ·subst c;exact⟨_,hd2⟩
      ·rw[aE c] at e;exact⟨_,s2 _ _ e⟩
     simp_all only[vi,s2 _ _ CN];refine⟨_,hd2,_,b5 Jr,dq,rfl,_,IF,_,at1,nl,rfl,ps,rt.mono s2,hp,cs,rc.mono s2,hc,st.2,Ir,j1.2,rs,MD,rr.mono s2,λv H4 s4 Jm=>?_⟩;have eL:(bK ps).map (λr=>cm (gz cs rs st.2 r.1))=((bK ps).map λr=>gz cs rs st.2 r.1).map cm:=by rw[aaX];rfl
     rw[eL] at Jm;symm;obtain⟨al,xk,rfl,Js,sW⟩:=aZ.mp (show Rep (fJ H' H4) (.lst _) v from Jm);obtain⟨n5,EH⟩:=jt Js;nofun;clear G_;have Si:al≠dl:=λz=>n5 _ (z▸hd2);have sW:=bH.low li sW;have hL:∀s∈(bK ps).map (λr=>gz cs rs st.2 r.1),Ah (iu cs ps t rs) s:=λs hs=>by
      symm;obtain⟨r,hr,rfl⟩:=List.mem_map.mp hs;obtain⟨v0,v9⟩:=((d4 (show eA ps from hp)).2.2 (r.1,r.2.1* (ky (bK ps) / r.2.2)) (List.mem_map.mpr ⟨r,hr,rfl⟩)).1;nofun;exact MG r.1 v0 v9
     have OV:((bK ps).map λr=>gz cs rs st.2 r.1).length<=40:=by rw[aat];exact(d4 (show eA ps from hp)).2.1
     have ph':(∃r,dM (iu cs ps t rs) 2 SS (k+1) (aJ us ((bK ps).map λr=>gz cs rs st.2 r.1)) r)\/120< (aJ us ((bK ps).map λr=>gz cs rs st.2 r.1)).length:=by
      rcases ph with ⟨r,Fl⟩ | h
      ·symm;obtain⟨vE,ts,e,go,h⟩:=Fl.two;nofun;rw[ek] at e;cases e;have Sb:ts=(Nm.weigh (bK ps) (ky (bK ps))).map λx=>(x.2,gz cs rs st.2 x.1):=o6 (λwo rs z=>by rw[lk] at z;cases z) go (by rw[CV];exact Sg);rw[Sb,F8] at h;exact h
      ·refine .inr ?_;have:=(dJ ((bK ps).map λr=>gz cs rs st.2 r.1) us).len;omega
     clear ph eL Jm;generalize (bK ps).map (λr=>gz cs rs st.2 r.1)=L at *;have Sj:xk.length=L.length:=by have:=sW.length;rw[aat] at this;omega
     have lT:=pE (l:=L) (us:=us);refine⟨al,rfl,⟨_,bT.of EH⟩,bY (src_list (Ok:=λH'=>H' al=some (.lst xk)) (λH' e=>bT.of e)) (λi σ H5=>aA H H5/\H5 al=some (.lst xk)/\bH (upd H dl (.lst [])) H5 (L.map cm) xk/\∃CU,H5 dl=some (.lst CU)/\bH (upd H dl (.lst [])) H5 ((aJ us (L.take i)).map cm) CU/\∃z5,σ=[some tv,some (.ref gp),some rv,some (.ref dl),some (.int (k:Int)),z5]) ⟨s2.trans s4,EH,sW,Ap,s4 _ _ hd2,by rw[List.take_zero];exact O7.mono s4,_,rfl⟩ (λ_ _ _ _ h=>h.2.1) ?_ ?_⟩
     ·intro i xv σ ZZ H5 hi eQ eM;symm;obtain⟨s5,IJ,EL,CU,CY,Cy,z5,rfl⟩:=eQ;obtain⟨rfl,Iu⟩:=eM;nofun;have hiL:i<L.length:=by omega
      have eiL:=aaG hiL;obtain⟨av,MI,EK⟩:=EL.at (i:=i) (d:=cm L[i]) (by rw[aau,eiL];rfl);have EK:dh (upd H dl (.lst [])) H5 (cm L[i]) av:=EK;rw[Iu] at MI;cases MI;have hsi:=hL _ (aa9 hiL);have tk:L.take (i+1)=L.take i++ [L[i]]:=by rw[aaQ,eiL];rfl
      have Sl:∀e∈(aJ us (L.take i)).map cm,Ke e:=λe he=>by
       symm;obtain⟨s,hs,rfl⟩:=List.mem_map.mp he;nofun;refine mB (jR.2 _ ?_);rcases cP.mp hs with h | h
       ·exact(str s h).1
       ·exact(hL s (List.mem_of_mem_take h)).1
      have xi:CU.length<=200:=by
       have l1:=Cy.length;have l2:=(kx (us:=us) (l:=L) (j:=i)).len;rw[aat] at l1;omega
      rw[tk,gG];unfold eF;simp_all only[Hx,dt];refine⟨_,CY,_,Cy.rep,Sl,_,EK.rep,mB (jR.2 _ hsi.1),?_⟩
      by_cases m:L[i]∈aJ us (L.take i)
      ·rw[if_neg (λz=>z (nQ.mpr m))];exact⟨s5,IJ,EL,_,CY,by rw[if_pos m];exact Cy,_,rfl⟩
      ·rw[if_pos (λz=>m (nQ.mp z))];refine⟨.inl ⟨rfl,_,bT.of CY⟩,_,CY,by omega,bS s5 Mh,by rw[aE Si];exact IJ,?_,_,ai,?_,_,rfl⟩
       ·show bh (fJ _ (upd _ _ _)) _ _;rw[eO (ys:=[]) ai];exact EL
       ·show bh (fJ _ (upd _ _ _)) _ _;rw[eO (ys:=[]) ai,if_neg m,aaK];exact jD EK Cy
     ·intro σ H5 c5;symm;obtain⟨s5,IJ,EL,CU,CY,Cy,z5,rfl⟩:=c5;nofun;rw[Sj,aaJ (aav _)] at Cy;refine hN _ _ _ _ s5 CY Cy (λs hs=>?_) (by omega) ph';rcases cP.mp hs with h | h
      ·exact str s h
      ·exact hL s h
    ·refine dZ (λY N kN=>by
      simp_all only[];exact⟨_,hd2,_,b5 Jr,dq,rfl,_,IF,_,at0,rfl,by rw[if_neg (λz=>O4 (V.str.inj z))];exact kN⟩) ?_
     refine hN _ us Ap _ s2 hd2 O7 str Sv ?_;rcases ph with ⟨r,Fl⟩ | h
     ·symm;obtain⟨vE,ts,e,go,h⟩:=Fl.two;nofun;rw[ek] at e;cases e;have Su:ts=[]:=by unfold dG at go;rw[lk] at go;exact go
      subst Su;exact h
     ·exact .inr h
   rintro H3 us3 Il z5 s3 O6 rd3 Sw l3 ph3;simp_all only[];exact⟨122 - (k+1),by omega,s3,k+1,rfl,us3,Il,O6,rd3,Sw,l3,ph3,rfl,_,rfl⟩
  rintro H2 Ap z4 z5 s2 hd2 l2;simp_all only[];exact⟨_,hd2,kk _ _ l2 s2⟩
theorem CA:bf ["_law_script","_law_counts","_law_pool_here","_law_rows_here","_law_pay","_law_places","_law_game","_law_table","_law_found"] ["_law_script"] (au (top 52)):=.mk
theorem IK (T:fj P w base K mg aH aI aF aV aq aD) {f:Addr} {fd:FuncData} (F:ue K "law" "law" (top 52) f fd):fU P w K mg base (cN P w) 12 f fd ["_law_script"] (yx K):=by
 have dB:=F4 T;have vq:=Me T;have vt:=Im T;have iK:=FI T;have CB:=Ie T;have sZ:rT P w K mg base (cN P w) 3 "_law_many" ["_law_table","_law_game","_law_rows_here"] Ct:=II T;have tf:=MB T;refine F.gR CA (λvs H Q E h=>?_) (λbZ A outer s H vs Q E hr h=>?_)
 ·obtain⟨_,_,rfl,_⟩:=h;rfl
 ·symm;obtain⟨sa,ns,rfl,hS,l63,kk⟩:=h;nofun;have nd:=CA.nd;refine⟨_,(ao (aT (i:=1) (je (kS (K:=K)) (bu (aa (aM (aa aL (aa (br cC ae (br cG (bI dB (aa (pv 0) (aa ae af))) ae)) af))) af)) kD (kG (br cG (bI dB (aa (pv 0) (aa ae af))) ae))))
  (ao (aT (i:=2) (bI vq (aa (bI dB (aa (pv 0) (aa ae af))) af)))
  (ao (aT (i:=3) (bI vt (aa (pv 0) (aa (pv 1) af))))
  (ao (aT (i:=4) (aM (aa (br rB (br cG (bI dB (aa (pv 0) (aa ae af))) ae) ae) (aa ae af))))
  (ao (aT (i:=5) (bu (aa (aM (aa aL (aa (aM (aa aL (aa (pv 2) (aa (pv 4) (aa (pv 3) af))))) af))) (aa (aM (aa aL (aa (aM (aa aL (aa (aM (aa ae (aa ae af))) af))) af))) (aa (aM (aa aL (aa (aM (aa aL (aa (aM (aa ae (aa ae af))) af))) af))) af)))))
  (ao (aT (i:=6) (aM (aa (pv 1) (aa (br gQ (pv 5) (bu (aa (aM (aa aL (aa (aM (aa aL (aa (aM (aa (jM gP ae) (aa ae af))) af))) af))) af))) af))))
  (ao (aT (i:=7) (bI iK (aa (pv 2) af)))
  (ao (aT (i:=8) Ar)
  (ao (BB (j:=8) CB (hr.mono (by decide)) rfl (aa (pv 6) af) rfl rfl rfl T.k_TooMany nd rfl rfl (λad oe vs hd h2=>(aw (aW (iy jc (DT sZ hd h2 (hr.mono (by decide)) rfl gE (aa (pv 7) (aa (pv 6) (aa (pv 3) af))) (he:=se rfl) (hpl:=na rfl)) ae (aX _))))) (he:=se rfl) (hpl:=na rfl))
  (aw (aW (vC (bg (md (K:=K)) (by rfl) T.z_isinstance rfl (aa (pv 8) (aa (rh (v:=V.ty "tuple") rfl T.z_tuple rfl rfl) af))) (vC (iy cw (bg za (by rfl) T.z_len aaH (aa (pv 8) af)) ae (aX _)) (Av (bI tf (aa (pv 8) (aa (pv 6) (aa (pv 7) (aa (pv 3) af))))))))))))))))))),?_⟩
  have sl:=sizeLine_eq;change tSeq _ _ _ _ _;refine bo (λN=>∀H1 cv cs,aA H H1->FA cs->dh H H1 (I0 cs) cv->N [some (.ref sa),some cv,none,none,none,none,none,none,none] H1) (λN hN=>?_) ?_
  ·simp_all only[lJ,rSlL];refine⟨ns,hS,by decide,by decide,λn=>⟨by decide,by omega,λp H2 s2 np hp=>⟨by omega,λp1 F6=>⟨ns,(s2.trans (ag F6)).seq hS,by decide,by decide,λn2=>⟨by decide,_,bT.of ai,λp2 Jo=>?_⟩⟩⟩⟩⟩;have q1:=ag (o:=.lst [V.ref p]) F6;have q2:=ag (o:=.lst (pL [V.ref p] none (some (n2 % 4)))) Jo;have sA:=s2.trans (q1.trans q2);have m4:=Int.emod_nonneg n2 (show(4:Int)≠0 by decide);have ZX:=Int.emod_nonneg n (show(60:Int)≠0 by decide);have m61:=Int.emod_lt_of_pos n (show(0:Int)<60 by decide);have p20:=none_of (s2.trans q1) Jo
   by_cases z:n2 % 4=0
   ·refine hN _ _ [] sA (.inl rfl) (b8 p20 ai ?_);rw[jj m4,z];exact bR
   ·refine hN _ _ [(sN,1+n % 60)] sA (.inr ⟨1+n % 60,by omega,by omega,rfl⟩) (b8 p20 ai ?_);have sB:=q1.trans q2;rw[jj m4,aaJ (show 1<=(n2 % 4).toNat by omega)] at sA sB ⊢;exact aU (qg (.of sA) (sB _ _ hp) bG bc) bR
  rintro H1 cv cs s1 hc rc1;change tSeq _ _ _ _ _;refine bo (λN=>∀H2 pv ps,aA H1 H2->ps∈jO->dh H1 H2 (.lst (List.map dI ps)) pv->N [some (.ref sa),some cv,some pv,none,none,none,none,none,none] H2) (λN hN=>?_) ?_
  ·simp_all only[lJ,Mb];exact⟨ns,s1.seq hS,by decide,by decide,λc v ps H2 s2 hp rp=>hN _ v ps s2 hp rp⟩
  rintro H2 pv ps s2 hp QO;have LC:=s1.trans s2;change tSeq _ _ _ _ _;refine bo (λN=>∀H3 l rs,aA H2 H3->B4 cs rs->Rep H3 (.lst ((rs.map yi).map nh)) (.ref l)->N [some (.ref sa),some cv,some pv,some (.ref l),none,none,none,none,none] H3) (λN hN=>?_) ?_
  ·simp_all only[FY];exact⟨ns,LC.seq hS,cs,rc1.rep.mono s2,hc,λl rs H3 s3 hr rr=>hN _ l rs s3 hr rr⟩
  rintro H3 rl rs s3 hr rr3;change tSeq _ _ _ _ _;refine bo (λN=>∀H4 tq (t:Int),aA H3 H4->H4 tq=some (.tup [.int t,.int 1])->N [some (.ref sa),some cv,some pv,some (.ref rl),some (.ref tq),none,none,none,none] H4) (λN hN=>?_) ?_
  ·simp_all only[lJ];exact⟨ns,(LC.trans s3).seq hS,by decide,by decide,λc=>⟨by decide,by omega,λp H5 s5 _ e5=>hN H5 p _ s5 e5⟩⟩
  rintro H4 tq t s4 htq;have s24:=s3.trans s4;have FT:=s2.trans s24;have rr4:=rr3.mono s4;have rp4:=QO.rep.mono s24;have rc4:=rc1.rep.mono FT;change tSeq _ _ _ _ _;refine bo (λN=>∀H5 pl vs,aA H4 H5->H5 pl=some (.lst vs)->bh H5 ([(Str.ofString "roll",Wt.gX (ps.map dI) t 1 rs),(Str.ofString "end",.fin 1 2),(Str.ofString "b",.fin 0 1)].map λp=>.tup [.str p.1,yj p.2]) vs->N [some (.ref sa),some cv,some pv,some (.ref rl),some (.ref tq),some (.ref pl),none,none,none] H5) (λN hN=>?_) ?_
  ·simp_all only[];refine⟨by omega,λa1 h1 u1 n1 e1=>⟨by omega,λa2 h2 u2 n2 e2=>⟨by omega,λa3 h3 u3 n3 e3=>⟨by omega,λa4 h4 u4 n4 e4=>⟨by omega,λa5 h5 u5 n5 e5=>⟨by omega,λa6 h6 u6 n6 e6=>⟨by omega,λa7 h7 u7 n7 e7=>⟨by omega,λa8 h8 u8 n8 e8=>⟨by omega,λpl npl=>?_⟩⟩⟩⟩⟩⟩⟩⟩⟩;have u9:=ag (o:=.lst [V.ref a2,.ref a5,.ref a8]) npl;have w8:=u8.trans u9;have w7:=u7.trans w8;have w6:=u6.trans w7;have w5:=u5.trans w6;have w4:=u4.trans w5;have w3:=u3.trans w4;have w2:=u2.trans w3;have w1:=u1.trans w2;refine hN _ pl _ w1 ai (aS.mpr ⟨_,_,rfl,bA.mpr ⟨a2,_,_,rfl,w3 _ _ e2,aK.mpr rfl,?_⟩,aS.mpr ⟨_,_,rfl,bA.mpr ⟨a5,_,_,rfl,w6 _ _ e5,aK.mpr rfl,?_⟩,aS.mpr ⟨_,_,rfl,bA.mpr ⟨a8,_,_,rfl,u9 _ _ e8,aK.mpr rfl,?_⟩,bL.mpr rfl⟩⟩⟩)
   ·exact dw.mpr ⟨a1,_,_,_,_,rfl,w2 _ _ e1,aK.mpr rfl,rp4.mono w1,bA.mpr ⟨tq,_,_,rfl,w1 _ _ htq,aN.mpr rfl,aN.mpr rfl⟩,rr4.mono w1⟩
   ·exact bA.mpr ⟨a4,_,_,rfl,w5 _ _ e4,aK.mpr rfl,bA.mpr ⟨a3,_,_,rfl,w4 _ _ e3,aN.mpr rfl,aN.mpr rfl⟩⟩
   ·exact bA.mpr ⟨a7,_,_,rfl,w8 _ _ e7,aK.mpr rfl,bA.mpr ⟨a6,_,_,rfl,w7 _ _ e6,aN.mpr rfl,aN.mpr rfl⟩⟩
  rintro H5 pl HV s5 hpl FN;change tSeq _ _ _ _ _;refine bo (λN=>∀H6 gv,aA H5 H6->Rep H6 (KU (iu cs ps t rs)) gv->N [some (.ref sa),some cv,some pv,some (.ref rl),some (.ref tq),some (.ref pl),some gv,none,none] H6) (λN hN=>?_) ?_
  ·simp_all only[nZ];have lpv:HV.length=3:=by have:=FN.length;exact this.symm
   refine⟨by omega,λa1 h1 u1 n1 e1=>⟨by omega,λa2 h2 u2 n2 e2=>⟨by omega,λa3 h3 u3 n3 e3=>⟨by omega,λa4 n4=>⟨_,ag n4 _ _ (u3 _ _ (u2 _ _ (u1 _ _ hpl))),_,ai,by rw[lpv];show 3+1<=_;omega,λa5 n5=>⟨by omega,λa6 h6 u6 n6 e6=>?_⟩⟩⟩⟩⟩⟩;have q4:=ag (o:=.lst [V.ref a3]) n4;have q5:=ag (o:=.lst (HV++ [V.ref a3])) n5;have w5:=q5.trans u6;have w4:=q4.trans w5;have w3:=u3.trans w4;have w2:=u2.trans w3;have w1:=u1.trans w2;refine hN _ _ w1 (bA.mpr ⟨a6,_,_,rfl,e6,rc4.mono (s5.trans w1),aZ.mpr ⟨a5,_,rfl,u6 _ _ ai,bh.append (FN.mono w1) (aS.mpr ⟨_,_,rfl,bA.mpr ⟨a3,_,_,rfl,w4 _ _ e3,aK.mpr rfl,bA.mpr ⟨a2,_,_,rfl,w3 _ _ e2,aK.mpr rfl,bA.mpr ⟨a1,_,_,rfl,w2 _ _ e1,aN.mpr rfl,aN.mpr rfl⟩⟩⟩,bL.mpr rfl⟩)⟩⟩)
  rintro H6 gv s6 rg6;have s46:=s5.trans s6;change tSeq _ _ _ _ _;refine bo (λN=>∀H7 tb,aA H6 H7->Rep H7 (gf (bK ps)) tb->N [some (.ref sa),some cv,some pv,some (.ref rl),some (.ref tq),some (.ref pl),some gv,some tb,none] H7) (λN hN=>?_) ?_
  ·simp_all only[HG];symm;obtain⟨pa,rfl,OO⟩:=yq (rp4.mono s46);nofun;exact⟨pa,rfl,ps,OO,hp,(d4 (show eA ps from hp)).1,λp H7 s7 np rt=>hN _ _ s7 rt⟩
  rintro H7 tb s7 rt7;have s47:=s46.trans s7;change tSeq _ _ _ _ _;refine bo (λN=>N [some (.ref sa),some cv,some pv,some (.ref rl),some (.ref tq),some (.ref pl),some gv,some tb,some .dP] H7) (λN hN=>?_) ?_
  ·simp_all only[];exact hN
  have G:G5 (iu cs ps t rs) cs ps t rs:=⟨rfl,hc,hp,hr⟩
  have gg:=G.gg;symm;obtain⟨o,SS,iO,o02,ak,sp,sQ,Z1,sub⟩:=G.out;nofun;have Sx:=rg6.mono s7;have rr7:=rr4.mono s47;change tSeq _ _ _ _ _;refine bo (λN=>∀H8 fv,o=0->aA H7 H8->Rep H8 (Ew (iu cs ps t rs) SS iO) fv->N [some (.ref sa),some cv,some pv,some (.ref rl),some (.ref tq),some (.ref pl),some gv,some tb,some fv] H8) (λN hN=>?_) ?_
  ·simp_all only[BA,Fp,BZ];refine⟨iu cs ps t rs,Sx,gg,Str.ofString "roll",rfl,Str.ofString "roll",1,ak,jR.2 _ (.head _),o,by omega,SS,iO,sp,sQ,λo1=>absurd o1 (by omega),λo2 H8 s8=>⟨T.e_TooMany_TooMany,?_⟩,λo0 p b l wl bs xs ws H8 s8 nb Er e1 e2 r1 _ e3 al e4 r2=>hN _ _ o0 s8 (EG e1 e2 r1 e3 al e4 r2)⟩;subst o2;unfold Ct;exact⟨tb,gv,.ref rl,iu cs ps t rs,cs,ps,t,rs,SS,iO,rfl,rt7.mono s8,Sx.mono s8,rr7.mono s8,G,sp,sQ,sub,λn H9 aar s9=>⟨n,rfl,by rw[decide_eq_true (by omega)];exact kk _⟩⟩
  rintro H8 fv o0 s8 rf8;subst o0;simp_all only[F0];have rf9:=rf8;symm;obtain⟨fp,f1,f2,f3,rfl,O0,_⟩:=cV.mp (show Rep H8 (.tup _) fv from rf9);nofun;refine⟨_,jd.tup O0,_,GW,?_⟩;rw[if_pos rfl];refine⟨fp,rfl,_,O0,?_⟩;rw[if_pos (show(([f1,f2,f3].length:Nat):Int)=3 from rfl)];exact⟨iu cs ps t rs,cs,ps,t,rs,SS,iO,rf8,Sx.mono s8,rt7.mono s8,rr7.mono s8,G,sp,sQ,Z1,sub,λH9 _=>kk H9⟩
end
theorem all_mk {l:PySem.W.OpenLaw} {w:World} {K:PySem.W.Frag} {h:Heap} {mg:Str->Option Value} {fa:Addr} (X:K.In h) (G:h.Ns mainGlobals mg) (hfa:mg "law"=some (.ref fa))
  {f0:Addr} {od0 an0:Option Addr} {sl0:Array (Option Value)} {oc0 kV0 dc0 pm0 cd0 ct0:Value} {f1:Addr} {od1 LJ:Option Addr} {Hg:Array (Option Value)} {oc1 kV1 dc1 pm1 cd1 ct1:Value} {f2:Addr} {od2 an2:Option Addr} {Ad:Array (Option Value)} {oc2 kV2 dc2 pm2 cd2 ct2:Value} {f3:Addr} {od3 an3:Option Addr} {sl3:Array (Option Value)} {oc3 kV3 dc3 pm3 cd3 ct3:Value} {f4:Addr} {od4 an4:Option Addr} {sl4:Array (Option Value)} {oc4 kV4 dc4 pm4 cd4 ct4:Value} {f5:Addr} {od5 HX:Option Addr} {sl5:Array (Option Value)} {oc5 kV5 dc5 pm5 cd5 ct5:Value} {f6:Addr} {od6 an6:Option Addr} {sl6:Array (Option Value)} {oc6 kV6 dc6 pm6 cd6 ct6:Value} {f7:Addr} {od7 an7:Option Addr} {sl7:Array (Option Value)} {oc7 kV7 dc7 pm7 cd7 ct7:Value} {f8:Addr} {od8 an8:Option Addr} {sl8:Array (Option Value)} {oc8 kV8 dc8 pm8 cd8 ct8:Value} {f9:Addr} {od9 an9:Option Addr} {sl9:Array (Option Value)} {oc9 kV9 dc9 pm9 cd9 ct9:Value} {Sy:Addr} {Sz SA:Option Addr} {SD:Array (Option Value)} {SE SG SH SI MM SJ:Value} {SK:Addr} {SM SN:Option Addr} {SO:Array (Option Value)} {SQ SR SU SV MN SW:Value} {SX:Addr} {SY S0:Option Addr} {S1:Array (Option Value)} {S2 S3 S4 S5 MO S6:Value} {S7:Addr} {S8 S9:Option Addr} {Ta:Array (Option Value)} {Tb Tc Td Tf MP Tg:Value} {Th:Addr} {Ti Tj:Option Addr} {Tn:Array (Option Value)} {To Tp Tq Tr MQ Ts:Value} {Tt:Addr} {Tu Tv:Option Addr} {Tx:Array (Option Value)} {Tz TB TC TF MR TH:Value} {TK:Addr} {TL TM:Option Addr} {TN:Array (Option Value)} {TQ TU TV TX MS TY:Value} {TZ:Addr} {T2 T3:Option Addr} {T4:Array (Option Value)} {T5 T6 T7 T8 MT T9:Value} {Ua:Addr} {Ub Uc:Option Addr} {Ud:Array (Option Value)} {Ue Ug Uh Ui MU Uj:Value} {Uk:Addr} {Ul Um:Option Addr} {Uo:Array (Option Value)} {Up Uq Ur Us MV Ut:Value} {Uu:Addr} {Uv Uw:Option Addr} {Ux:Array (Option Value)} {Uy Uz UA UB MW UC:Value} {UD:Addr} {UE UG:Option Addr} {UH:Array (Option Value)} {UI UJ UK UM MX UN:Value} {UO:Addr} {UP UQ:Option Addr} {UR:Array (Option Value)} {US UT UU UW MY UX:Value} {UY:Addr} {UZ U0:Option Addr} {U1:Array (Option Value)} {U2 U3 U4 U6 MZ U7:Value} {U8:Addr} {U9 Va:Option Addr} {Vb:Array (Option Value)} {Vc Vd Ve Vf M0 Vg:Value} {Vh:Addr} {Vi Vj:Option Addr} {Vk:Array (Option Value)} {Vl Vm Vn Vo M3 Vp:Value} {Vq:Addr} {Vr Vs:Option Addr} {Vt:Array (Option Value)} {Vu Vv Vw Vx M4 Vy:Value} {Vz:Addr} {VA VB:Option Addr} {VC:Array (Option Value)} {VD VE VF VG M5 VH:Value} {VI:Addr} {VJ VL:Option Addr} {VM:Array (Option Value)} {VN VO VP VQ M6 VR:Value} {VS:Addr} {VT VU:Option Addr} {VW:Array (Option Value)} {VX VY VZ V0 M7 V1:Value} {V2:Addr} {V3 V4:Option Addr} {V5:Array (Option Value)} {V6 V7 V8 V9 M8 Wa:Value} {Wb:Addr} {Wc Wd:Option Addr} {We:Array (Option Value)} {Wf Wg Wh Wi M9 Wj:Value} {Wk:Addr} {Wl Wm:Option Addr} {Wn:Array (Option Value)} {Wo Wp Wq Wr Na Wu:Value} {Wv:Addr} {Ww Wx:Option Addr} {Wy:Array (Option Value)} {Wz WA WB WC Nb WD:Value} {WE:Addr} {WG WH:Option Addr} {WI:Array (Option Value)} {WJ WK WL WM Nc WN:Value} {WO:Addr} {WQ WR:Option Addr} {WS:Array (Option Value)} {WT WU WV WW Nd WX:Value} {WY:Addr} {WZ W2:Option Addr} {W3:Array (Option Value)} {W4 W5 W6 W7 Nf W8:Value} {pG:Tok} {pH:Tok} {pI:Tok} {aH aI aF aV aq aD:Addr} {O8:Addr} {W9 Xa:Option Addr} {Xb:Array (Option Value)} {Xc Xd Xe Xf Ng Xg:Value} {O9:Addr} {Xh Xi:Option Addr} {Xj:Array (Option Value)} {Xk Xl Xm Xn Nh Xo:Value} {Pa:Addr} {Xp Xq:Option Addr} {Xr:Array (Option Value)} {Xs Xu Xv Xw Ni Xx:Value} {Pb:Addr} {Xy Xz:Option Addr} {XA:Array (Option Value)} {XB XC XD XF Nj XG:Value} {Pc:Addr} {XH XI:Option Addr} {XJ:Array (Option Value)} {XM XN XO XQ Nk XR:Value} {Pd:Addr} {XS XT:Option Addr} {XU:Array (Option Value)} {XW XX XY XZ Nl X0:Value} {Pe:Addr} {X1 X2:Option Addr} {X3:Array (Option Value)} {X4 X5 X6 X7 Np X8:Value} {Pf:Addr} {X9 Yb:Option Addr} {Yc:Array (Option Value)} {Yd Ye Yg Yh Nq Yi:Value} {Pg:Addr} {Yj Yk:Option Addr} {Yl:Array (Option Value)} {Ym Yn Yo Yp Nr Yq:Value} {Ph:Addr} {Yr Ys:Option Addr} {Yt:Array (Option Value)} {Yu Yv Yw Yx Nt Yy:Value} {EM:Addr} {Nu Nv:Option Addr} {Nw:Array (Option Value)} {Nx Ny Nz NA Ga NB:Value} {EN:Addr} {NC ND:Option Addr} {NF:Array (Option Value)} {NG NH NI NJ Gb NK:Value} {EO:Addr} {NL NM:Option Addr} {NN:Array (Option Value)} {NO NP NQ NR Gc NS:Value} {ER:Addr} {NT NU:Option Addr} {NV:Array (Option Value)} {NW NX NY NZ Gd N0:Value} {ES:Addr} {N2 N4:Option Addr} {N5:Array (Option Value)} {N6 N7 N8 N9 Ge Oa:Value}
  (a0:PySem.W.nsIn K mainGlobals "common_divisor"=some (some (.ref f0))) (l0:K.lookup f0=some ⟨oc0,od0,.func (PySem.W.fnOf "common_divisor" "common_divisor" (bb (top 7)) (aY (top 7)) (au (top 7)) .none kV0 dc0 pm0 an0 cd0 ct0),sl0⟩) (e0:PySem.W.codeIn K cd0 "common_divisor"=true) (k0:PySem.W.keepIn K (.ref f0)=true)
  (a1:PySem.W.nsIn K mainGlobals "share"=some (some (.ref f1))) (l1:K.lookup f1=some ⟨oc1,od1,.func (PySem.W.fnOf "share" "share" (bb (top 8)) (aY (top 8)) (au (top 8)) .none kV1 dc1 pm1 LJ cd1 ct1),Hg⟩) (e1:PySem.W.codeIn K cd1 "share"=true) (k1:PySem.W.keepIn K (.ref f1)=true)
  (a2:PySem.W.nsIn K mainGlobals "common_bottom"=some (some (.ref f2))) (l2:K.lookup f2=some ⟨oc2,od2,.func (PySem.W.fnOf "common_bottom" "common_bottom" (bb (top 9)) (aY (top 9)) (au (top 9)) .none kV2 dc2 pm2 an2 cd2 ct2),Ad⟩) (e2:PySem.W.codeIn K cd2 "common_bottom"=true) (k2:PySem.W.keepIn K (.ref f2)=true)
  (a3:PySem.W.nsIn K mainGlobals "table_by_weights"=some (some (.ref f3))) (l3:K.lookup f3=some ⟨oc3,od3,.func (PySem.W.fnOf "table_by_weights" "table_by_weights" (bb (top 11)) (aY (top 11)) (au (top 11)) .none kV3 dc3 pm3 an3 cd3 ct3),sl3⟩) (e3:PySem.W.codeIn K cd3 "table_by_weights"=true) (k3:PySem.W.keepIn K (.ref f3)=true)
  (a4:PySem.W.nsIn K mainGlobals "table_of"=some (some (.ref f4))) (l4:K.lookup f4=some ⟨oc4,od4,.func (PySem.W.fnOf "table_of" "table_of" (bb (top 12)) (aY (top 12)) (au (top 12)) .none kV4 dc4 pm4 an4 cd4 ct4),sl4⟩) (e4:PySem.W.codeIn K cd4 "table_of"=true) (k4:PySem.W.keepIn K (.ref f4)=true)
  (a5:PySem.W.nsIn K mainGlobals "bottom_of"=some (some (.ref f5))) (l5:K.lookup f5=some ⟨oc5,od5,.func (PySem.W.fnOf "bottom_of" "bottom_of" (bb (top 13)) (aY (top 13)) (au (top 13)) .none kV5 dc5 pm5 HX cd5 ct5),sl5⟩) (e5:PySem.W.codeIn K cd5 "bottom_of"=true) (k5:PySem.W.keepIn K (.ref f5)=true)
  (a6:PySem.W.nsIn K mainGlobals "weighed"=some (some (.ref f6))) (l6:K.lookup f6=some ⟨oc6,od6,.func (PySem.W.fnOf "weighed" "weighed" (bb (top 14)) (aY (top 14)) (au (top 14)) .none kV6 dc6 pm6 an6 cd6 ct6),sl6⟩) (e6:PySem.W.codeIn K cd6 "weighed"=true) (k6:PySem.W.keepIn K (.ref f6)=true)
  (a7:PySem.W.nsIn K mainGlobals "power"=some (some (.ref f7))) (l7:K.lookup f7=some ⟨oc7,od7,.func (PySem.W.fnOf "power" "power" (bb (top 18)) (aY (top 18)) (au (top 18)) .none kV7 dc7 pm7 an7 cd7 ct7),sl7⟩) (e7:PySem.W.codeIn K cd7 "power"=true) (k7:PySem.W.keepIn K (.ref f7)=true)
  (a8:PySem.W.nsIn K mainGlobals "most_faces"=some (some (.ref f8))) (l8:K.lookup f8=some ⟨oc8,od8,.func (PySem.W.fnOf "most_faces" "most_faces" (bb (top 19)) (aY (top 19)) (au (top 19)) .none kV8 dc8 pm8 an8 cd8 ct8),sl8⟩) (e8:PySem.W.codeIn K cd8 "most_faces"=true) (k8:PySem.W.keepIn K (.ref f8)=true)
  (a9:PySem.W.nsIn K mainGlobals "part_bottom"=some (some (.ref f9))) (l9:K.lookup f9=some ⟨oc9,od9,.func (PySem.W.fnOf "part_bottom" "part_bottom" (bb (top 20)) (aY (top 20)) (au (top 20)) .none kV9 dc9 pm9 an9 cd9 ct9),sl9⟩) (e9:PySem.W.codeIn K cd9 "part_bottom"=true) (k9:PySem.W.keepIn K (.ref f9)=true)
  (a10:PySem.W.nsIn K mainGlobals "part_count"=some (some (.ref Sy))) (l10:K.lookup Sy=some ⟨SE,Sz,.func (PySem.W.fnOf "part_count" "part_count" (bb (top 21)) (aY (top 21)) (au (top 21)) .none SG SH SI SA MM SJ),SD⟩) (e10:PySem.W.codeIn K MM "part_count"=true) (k10:PySem.W.keepIn K (.ref Sy)=true)
  (a11:PySem.W.nsIn K mainGlobals "check_size"=some (some (.ref SK))) (l11:K.lookup SK=some ⟨SQ,SM,.func (PySem.W.fnOf "check_size" "check_size" (bb (top 22)) (aY (top 22)) (au (top 22)) .none SR SU SV SN MN SW),SO⟩) (e11:PySem.W.codeIn K MN "check_size"=true) (k11:PySem.W.keepIn K (.ref SK)=true)
  (a12:PySem.W.nsIn K mainGlobals "dice_faces"=some (some (.ref SX))) (l12:K.lookup SX=some ⟨S2,SY,.func (PySem.W.fnOf "dice_faces" "dice_faces" (bb (top 23)) (aY (top 23)) (au (top 23)) .none S3 S4 S5 S0 MO S6),S1⟩) (e12:PySem.W.codeIn K MO "dice_faces"=true) (k12:PySem.W.keepIn K (.ref SX)=true)
  (a13:PySem.W.nsIn K mainGlobals "again_faces"=some (some (.ref S7))) (l13:K.lookup S7=some ⟨Tb,S8,.func (PySem.W.fnOf "again_faces" "again_faces" (bb (top 24)) (aY (top 24)) (au (top 24)) .none Tc Td Tf S9 MP Tg),Ta⟩) (e13:PySem.W.codeIn K MP "again_faces"=true) (k13:PySem.W.keepIn K (.ref S7)=true)
  (a14:PySem.W.nsIn K mainGlobals "burst_faces"=some (some (.ref Th))) (l14:K.lookup Th=some ⟨To,Ti,.func (PySem.W.fnOf "burst_faces" "burst_faces" (bb (top 25)) (aY (top 25)) (au (top 25)) .none Tp Tq Tr Tj MQ Ts),Tn⟩) (e14:PySem.W.codeIn K MQ "burst_faces"=true) (k14:PySem.W.keepIn K (.ref Th)=true)
  (a15:PySem.W.nsIn K mainGlobals "part_faces"=some (some (.ref Tt))) (l15:K.lookup Tt=some ⟨Tz,Tu,.func (PySem.W.fnOf "part_faces" "part_faces" (bb (top 26)) (aY (top 26)) (au (top 26)) .none TB TC TF Tv MR TH),Tx⟩) (e15:PySem.W.codeIn K MR "part_faces"=true) (k15:PySem.W.keepIn K (.ref Tt)=true)
  (a16:PySem.W.nsIn K mainGlobals "value_of"=some (some (.ref TK))) (l16:K.lookup TK=some ⟨TQ,TL,.func (PySem.W.fnOf "value_of" "value_of" (bb (top 27)) (aY (top 27)) (au (top 27)) .none TU TV TX TM MS TY),TN⟩) (e16:PySem.W.codeIn K MS "value_of"=true) (k16:PySem.W.keepIn K (.ref TK)=true)
  (a17:PySem.W.nsIn K mainGlobals "sides_product"=some (some (.ref TZ))) (l17:K.lookup TZ=some ⟨T5,T2,.func (PySem.W.fnOf "sides_product" "sides_product" (bb (top 28)) (aY (top 28)) (au (top 28)) .none T6 T7 T8 T3 MT T9),T4⟩) (e17:PySem.W.codeIn K MT "sides_product"=true) (k17:PySem.W.keepIn K (.ref TZ)=true)
  (a18:PySem.W.nsIn K mainGlobals "part_throws"=some (some (.ref Ua))) (l18:K.lookup Ua=some ⟨Ue,Ub,.func (PySem.W.fnOf "part_throws" "part_throws" (bb (top 29)) (aY (top 29)) (au (top 29)) .none Ug Uh Ui Uc MU Uj),Ud⟩) (e18:PySem.W.codeIn K MU "part_throws"=true) (k18:PySem.W.keepIn K (.ref Ua)=true)
  (a19:PySem.W.nsIn K mainGlobals "throws_by_bottom"=some (some (.ref Uk))) (l19:K.lookup Uk=some ⟨Up,Ul,.func (PySem.W.fnOf "throws_by_bottom" "throws_by_bottom" (bb (top 30)) (aY (top 30)) (au (top 30)) .none Uq Ur Us Um MV Ut),Uo⟩) (e19:PySem.W.codeIn K MV "throws_by_bottom"=true) (k19:PySem.W.keepIn K (.ref Uk)=true)
  (a20:PySem.W.nsIn K mainGlobals "pool_table"=some (some (.ref Uu))) (l20:K.lookup Uu=some ⟨Uy,Uv,.func (PySem.W.fnOf "pool_table" "pool_table" (bb (top 31)) (aY (top 31)) (au (top 31)) .none Uz UA UB Uw MW UC),Ux⟩) (e20:PySem.W.codeIn K MW "pool_table"=true) (k20:PySem.W.keepIn K (.ref Uu)=true)
  (a21:PySem.W.nsIn K mainGlobals "own_rows"=some (some (.ref UD))) (l21:K.lookup UD=some ⟨UI,UE,.func (PySem.W.fnOf "own_rows" "own_rows" (bb (top 34)) (aY (top 34)) (au (top 34)) .none UJ UK UM UG MX UN),UH⟩) (e21:PySem.W.codeIn K MX "own_rows"=true) (k21:PySem.W.keepIn K (.ref UD)=true)
  (a22:PySem.W.nsIn K mainGlobals "own_what"=some (some (.ref UO))) (l22:K.lookup UO=some ⟨US,UP,.func (PySem.W.fnOf "own_what" "own_what" (bb (top 35)) (aY (top 35)) (au (top 35)) .none UT UU UW UQ MY UX),UR⟩) (e22:PySem.W.codeIn K MY "own_what"=true) (k22:PySem.W.keepIn K (.ref UO)=true)
  (a23:PySem.W.nsIn K mainGlobals "throw_ways"=some (some (.ref UY))) (l23:K.lookup UY=some ⟨U2,UZ,.func (PySem.W.fnOf "throw_ways" "throw_ways" (bb (top 38)) (aY (top 38)) (au (top 38)) .none U3 U4 U6 U0 MZ U7),U1⟩) (e23:PySem.W.codeIn K MZ "throw_ways"=true) (k23:PySem.W.keepIn K (.ref UY)=true)
  (a24:PySem.W.nsIn K mainGlobals "pick_ways"=some (some (.ref U8))) (l24:K.lookup U8=some ⟨Vc,U9,.func (PySem.W.fnOf "pick_ways" "pick_ways" (bb (top 39)) (aY (top 39)) (au (top 39)) .none Vd Ve Vf Va M0 Vg),Vb⟩) (e24:PySem.W.codeIn K M0 "pick_ways"=true) (k24:PySem.W.keepIn K (.ref U8)=true)
  (a25:PySem.W.nsIn K mainGlobals "taken_up"=some (some (.ref Vh))) (l25:K.lookup Vh=some ⟨Vl,Vi,.func (PySem.W.fnOf "taken_up" "taken_up" (bb (top 40)) (aY (top 40)) (au (top 40)) .none Vm Vn Vo Vj M3 Vp),Vk⟩) (e25:PySem.W.codeIn K M3 "taken_up"=true) (k25:PySem.W.keepIn K (.ref Vh)=true)
  (a26:PySem.W.nsIn K mainGlobals "spread"=some (some (.ref Vq))) (l26:K.lookup Vq=some ⟨Vu,Vr,.func (PySem.W.fnOf "spread" "spread" (bb (top 41)) (aY (top 41)) (au (top 41)) .none Vv Vw Vx Vs M4 Vy),Vt⟩) (e26:PySem.W.codeIn K M4 "spread"=true) (k26:PySem.W.keepIn K (.ref Vq)=true)
  (a27:PySem.W.nsIn K mainGlobals "_law_at"=some (some (.ref Vz))) (l27:K.lookup Vz=some ⟨VD,VA,.func (PySem.W.fnOf "_law_at" "_law_at" (bb (top 43)) (aY (top 43)) (au (top 43)) .none VE VF VG VB M5 VH),VC⟩) (e27:PySem.W.codeIn K M5 "_law_at"=true) (k27:PySem.W.keepIn K (.ref Vz)=true)
  (a28:PySem.W.nsIn K mainGlobals "_law_pool"=some (some (.ref VI))) (l28:K.lookup VI=some ⟨VN,VJ,.func (PySem.W.fnOf "_law_pool" "_law_pool" (bb (top 44)) (aY (top 44)) (au (top 44)) .none VO VP VQ VL M6 VR),VM⟩) (e28:PySem.W.codeIn K M6 "_law_pool"=true) (k28:PySem.W.keepIn K (.ref VI)=true)
  (a29:PySem.W.nsIn K mainGlobals "_law_rows"=some (some (.ref VS))) (l29:K.lookup VS=some ⟨VX,VT,.func (PySem.W.fnOf "_law_rows" "_law_rows" (bb (top 45)) (aY (top 45)) (au (top 45)) .none VY VZ V0 VU M7 V1),VW⟩) (e29:PySem.W.codeIn K M7 "_law_rows"=true) (k29:PySem.W.keepIn K (.ref VS)=true)
  (a30:PySem.W.nsIn K mainGlobals "_law_sum"=some (some (.ref V2))) (l30:K.lookup V2=some ⟨V6,V3,.func (PySem.W.fnOf "_law_sum" "_law_sum" (bb (top 46)) (aY (top 46)) (au (top 46)) .none V7 V8 V9 V4 M8 Wa),V5⟩) (e30:PySem.W.codeIn K M8 "_law_sum"=true) (k30:PySem.W.keepIn K (.ref V2)=true)
  (a31:PySem.W.nsIn K mainGlobals "_law_divisor"=some (some (.ref Wb))) (l31:K.lookup Wb=some ⟨Wf,Wc,.func (PySem.W.fnOf "_law_divisor" "_law_divisor" (bb (top 47)) (aY (top 47)) (au (top 47)) .none Wg Wh Wi Wd M9 Wj),We⟩) (e31:PySem.W.codeIn K M9 "_law_divisor"=true) (k31:PySem.W.keepIn K (.ref Wb)=true)
  (a32:PySem.W.nsIn K mainGlobals "_law_ways"=some (some (.ref Wk))) (l32:K.lookup Wk=some ⟨Wo,Wl,.func (PySem.W.fnOf "_law_ways" "_law_ways" (bb (top 48)) (aY (top 48)) (au (top 48)) .none Wp Wq Wr Wm Na Wu),Wn⟩) (e32:PySem.W.codeIn K Na "_law_ways"=true) (k32:PySem.W.keepIn K (.ref Wk)=true)
  (a33:PySem.W.nsIn K mainGlobals "_law_weights"=some (some (.ref Wv))) (l33:K.lookup Wv=some ⟨Wz,Ww,.func (PySem.W.fnOf "_law_weights" "_law_weights" (bb (top 49)) (aY (top 49)) (au (top 49)) .none WA WB WC Wx Nb WD),Wy⟩) (e33:PySem.W.codeIn K Nb "_law_weights"=true) (k33:PySem.W.keepIn K (.ref Wv)=true)
  (a34:PySem.W.nsIn K mainGlobals "_law_right"=some (some (.ref WE))) (l34:K.lookup WE=some ⟨WJ,WG,.func (PySem.W.fnOf "_law_right" "_law_right" (bb (top 50)) (aY (top 50)) (au (top 50)) .none WK WL WM WH Nc WN),WI⟩) (e34:PySem.W.codeIn K Nc "_law_right"=true) (k34:PySem.W.keepIn K (.ref WE)=true)
  (a35:PySem.W.nsIn K mainGlobals "_law_many"=some (some (.ref WO))) (l35:K.lookup WO=some ⟨WT,WQ,.func (PySem.W.fnOf "_law_many" "_law_many" (bb (top 51)) (aY (top 51)) (au (top 51)) .none WU WV WW WR Nd WX),WS⟩) (e35:PySem.W.codeIn K Nd "_law_many"=true) (k35:PySem.W.keepIn K (.ref WO)=true)
  (a36:PySem.W.nsIn K mainGlobals "law"=some (some (.ref WY))) (l36:K.lookup WY=some ⟨W4,WZ,.func (PySem.W.fnOf "law" "law" (bb (top 52)) (aY (top 52)) (au (top 52)) .none W5 W6 W7 W2 Nf W8),W3⟩) (e36:PySem.W.codeIn K Nf "law"=true) (k36:PySem.W.keepIn K (.ref WY)=true)
  (z_abs:PySem.W.nsIn K mainGlobals "abs"=some none)
  (z_bool:PySem.W.nsIn K mainGlobals "bool"=some none)
  (z_enumerate:PySem.W.nsIn K mainGlobals "enumerate"=some none)
  (z_int:PySem.W.nsIn K mainGlobals "int"=some none)
  (z_isinstance:PySem.W.nsIn K mainGlobals "isinstance"=some none)
  (z_len:PySem.W.nsIn K mainGlobals "len"=some none)
  (z_list:PySem.W.nsIn K mainGlobals "list"=some none)
  (z_max:PySem.W.nsIn K mainGlobals "max"=some none)
  (z_min:PySem.W.nsIn K mainGlobals "min"=some none)
  (z_range:PySem.W.nsIn K mainGlobals "range"=some none)
  (z_sorted:PySem.W.nsIn K mainGlobals "sorted"=some none)
  (z_sum:PySem.W.nsIn K mainGlobals "sum"=some none)
  (z_tuple:PySem.W.nsIn K mainGlobals "tuple"=some none)
  (c_MOST_THROWS:PySem.W.nsIn K mainGlobals "MOST_THROWS"=some (some (.int 1296 pG)))
  (c_MOST_BOTTOM:PySem.W.nsIn K mainGlobals "MOST_BOTTOM"=some (some (.int 1000000 pH)))
  (c_MOST_STATES:PySem.W.nsIn K mainGlobals "MOST_STATES"=some (some (.int 120 pI)))
  (k_NoShare:PySem.W.nsIn K mainGlobals "NoShare"=some (some (.ref aH)))
  (k_NoTable:PySem.W.nsIn K mainGlobals "NoTable"=some (some (.ref aI)))
  (k_TooMany:PySem.W.nsIn K mainGlobals "TooMany"=some (some (.ref aF)))
  (k_NoWay:PySem.W.nsIn K mainGlobals "NoWay"=some (some (.ref aV)))
  (k_Course:PySem.W.nsIn K mainGlobals "Course"=some (some (.ref aq)))
  (k_Finder:PySem.W.nsIn K mainGlobals "Finder"=some (some (.ref aD)))
  (x_NoShare:PySem.W.excIn K aH rK kO=true)
  (x_NoTable:PySem.W.excIn K aI rK kO=true)
  (x_TooMany:PySem.W.excIn K aF rK kO=true)
  (x_NoWay:PySem.W.excIn K aV rK kO=true)
  (e_TooMany_TooMany:PySem.W.exmOne K (.ref aF) (.ref aF)=some true)
  (cl_Coursepg:PySem.W.plainGet K aq Str.empty=true)
  (cl_Coursehd:PySem.W.hasDictIn K aq=true)
  (cl_Coursepo:PySem.W.plainOver K aq=true)
  (cl_Coursesa:PySem.W.findIn K (.ref aq) "__setattr__"=some (some (.builtin "object.__setattr__")))
  (cl_Finderpg:PySem.W.plainGet K aD Str.empty=true)
  (cl_Finderhd:PySem.W.hasDictIn K aD=true)
  (cl_Finderpo:PySem.W.plainOver K aD=true)
  (cl_Findersa:PySem.W.findIn K (.ref aD) "__setattr__"=some (some (.builtin "object.__setattr__")))
  (na_Course_first:PySem.W.findIn K (.ref aq) "first"=some none)
  (na_Course_mosts:PySem.W.findIn K (.ref aq) "mosts"=some none)
  (na_Course_spots:PySem.W.findIn K (.ref aq) "spots"=some none)
  (na_Course_tables:PySem.W.findIn K (.ref aq) "tables"=some none)
  (na_Course_whats:PySem.W.findIn K (.ref aq) "whats"=some none)
  (na_Finder_numbers:PySem.W.findIn K (.ref aD) "numbers"=some none)
  (na_Finder_states:PySem.W.findIn K (.ref aD) "states"=some none)
  (dia_Course:PySem.W.findIn K (.ref aq) "__init__"=some (some (.ref O8)))
  (dii_Course:PySem.W.isFn K (.ref O8)=true)
  (dil_Course:K.lookup O8=some ⟨Xc,W9,.func (PySem.W.fnOf "__init__" "Course.__init__" (bb (inClass (top 36) 0)) (aY (inClass (top 36) 0)) (au (inClass (top 36) 0)) .none Xd Xe Xf Xa Ng Xg),Xb⟩)
  (dic_Course:PySem.W.codeIn K Ng "Course.__init__"=true)
  (dik_Course:PySem.W.keepIn K (.ref O8)=true)
  (dim_Course:PySem.W.makesIn K aq=true)
  (diq_Course:PySem.W.keepIn K (.ref aq)=true)
  (dia_Finder:PySem.W.findIn K (.ref aD) "__init__"=some (some (.ref O9)))
  (dii_Finder:PySem.W.isFn K (.ref O9)=true)
  (dil_Finder:K.lookup O9=some ⟨Xk,Xh,.func (PySem.W.fnOf "__init__" "Finder.__init__" (bb (inClass (top 37) 0)) (aY (inClass (top 37) 0)) (au (inClass (top 37) 0)) .none Xl Xm Xn Xi Nh Xo),Xj⟩)
  (dic_Finder:PySem.W.codeIn K Nh "Finder.__init__"=true)
  (dik_Finder:PySem.W.keepIn K (.ref O9)=true)
  (dim_Finder:PySem.W.makesIn K aD=true)
  (diq_Finder:PySem.W.keepIn K (.ref aD)=true)
  (dma_Course_asked:PySem.W.findIn K (.ref aq) "asked"=some (some (.ref Pa)))
  (dmi_Course_asked:PySem.W.isFn K (.ref Pa)=true)
  (dml_Course_asked:K.lookup Pa=some ⟨Xs,Xp,.func (PySem.W.fnOf "asked" "Course.asked" (bb (inClass (top 36) 3)) (aY (inClass (top 36) 3)) (au (inClass (top 36) 3)) .none Xu Xv Xw Xq Ni Xx),Xr⟩)
  (dmc_Course_asked:PySem.W.codeIn K Ni "Course.asked"=true)
  (dmk_Course_asked:PySem.W.keepIn K (.ref Pa)=true)
  (dma_Course_by_row:PySem.W.findIn K (.ref aq) "by_row"=some (some (.ref Pb)))
  (dmi_Course_by_row:PySem.W.isFn K (.ref Pb)=true)
  (dml_Course_by_row:K.lookup Pb=some ⟨XB,Xy,.func (PySem.W.fnOf "by_row" "Course.by_row" (bb (inClass (top 36) 6)) (aY (inClass (top 36) 6)) (au (inClass (top 36) 6)) .none XC XD XF Xz Nj XG),XA⟩)
  (dmc_Course_by_row:PySem.W.codeIn K Nj "Course.by_row"=true)
  (dmk_Course_by_row:PySem.W.keepIn K (.ref Pb)=true)
  (dma_Course_by_value:PySem.W.findIn K (.ref aq) "by_value"=some (some (.ref Pc)))
  (dmi_Course_by_value:PySem.W.isFn K (.ref Pc)=true)
  (dml_Course_by_value:K.lookup Pc=some ⟨XM,XH,.func (PySem.W.fnOf "by_value" "Course.by_value" (bb (inClass (top 36) 7)) (aY (inClass (top 36) 7)) (au (inClass (top 36) 7)) .none XN XO XQ XI Nk XR),XJ⟩)
  (dmc_Course_by_value:PySem.W.codeIn K Nk "Course.by_value"=true)
  (dmk_Course_by_value:PySem.W.keepIn K (.ref Pc)=true)
  (dma_Course_do:PySem.W.findIn K (.ref aq) "do"=some (some (.ref Pd)))
  (dmi_Course_do:PySem.W.isFn K (.ref Pd)=true)
  (dml_Course_do:K.lookup Pd=some ⟨XW,XS,.func (PySem.W.fnOf "do" "Course.do" (bb (inClass (top 36) 2)) (aY (inClass (top 36) 2)) (au (inClass (top 36) 2)) .none XX XY XZ XT Nl X0),XU⟩)
  (dmc_Course_do:PySem.W.codeIn K Nl "Course.do"=true)
  (dmk_Course_do:PySem.W.keepIn K (.ref Pd)=true)
  (dma_Course_end_worth:PySem.W.findIn K (.ref aq) "end_worth"=some (some (.ref Pe)))
  (dmi_Course_end_worth:PySem.W.isFn K (.ref Pe)=true)
  (dml_Course_end_worth:K.lookup Pe=some ⟨X4,X1,.func (PySem.W.fnOf "end_worth" "Course.end_worth" (bb (inClass (top 36) 12)) (aY (inClass (top 36) 12)) (au (inClass (top 36) 12)) .none X5 X6 X7 X2 Np X8),X3⟩)
  (dmc_Course_end_worth:PySem.W.codeIn K Np "Course.end_worth"=true)
  (dmk_Course_end_worth:PySem.W.keepIn K (.ref Pe)=true)
  (dma_Course_holds:PySem.W.findIn K (.ref aq) "holds"=some (some (.ref Pf)))
  (dmi_Course_holds:PySem.W.isFn K (.ref Pf)=true)
  (dml_Course_holds:K.lookup Pf=some ⟨Yd,X9,.func (PySem.W.fnOf "holds" "Course.holds" (bb (inClass (top 36) 9)) (aY (inClass (top 36) 9)) (au (inClass (top 36) 9)) .none Ye Yg Yh Yb Nq Yi),Yc⟩)
  (dmc_Course_holds:PySem.W.codeIn K Nq "Course.holds"=true)
  (dmk_Course_holds:PySem.W.keepIn K (.ref Pf)=true)
  (dma_Course_open_rows:PySem.W.findIn K (.ref aq) "open_rows"=some (some (.ref Pg)))
  (dmi_Course_open_rows:PySem.W.isFn K (.ref Pg)=true)
  (dml_Course_open_rows:K.lookup Pg=some ⟨Ym,Yj,.func (PySem.W.fnOf "open_rows" "Course.open_rows" (bb (inClass (top 36) 10)) (aY (inClass (top 36) 10)) (au (inClass (top 36) 10)) .none Yn Yo Yp Yk Nr Yq),Yl⟩)
  (dmc_Course_open_rows:PySem.W.codeIn K Nr "Course.open_rows"=true)
  (dmk_Course_open_rows:PySem.W.keepIn K (.ref Pg)=true)
  (dma_Course_put:PySem.W.findIn K (.ref aq) "put"=some (some (.ref Ph)))
  (dmi_Course_put:PySem.W.isFn K (.ref Ph)=true)
  (dml_Course_put:K.lookup Ph=some ⟨Yu,Yr,.func (PySem.W.fnOf "put" "Course.put" (bb (inClass (top 36) 1)) (aY (inClass (top 36) 1)) (au (inClass (top 36) 1)) .none Yv Yw Yx Ys Nt Yy),Yt⟩)
  (dmc_Course_put:PySem.W.codeIn K Nt "Course.put"=true)
  (dmk_Course_put:PySem.W.keepIn K (.ref Ph)=true)
  (dma_Course_start:PySem.W.findIn K (.ref aq) "start"=some (some (.ref EM)))
  (dmi_Course_start:PySem.W.isFn K (.ref EM)=true)
  (dml_Course_start:K.lookup EM=some ⟨Nx,Nu,.func (PySem.W.fnOf "start" "Course.start" (bb (inClass (top 36) 4)) (aY (inClass (top 36) 4)) (au (inClass (top 36) 4)) .none Ny Nz NA Nv Ga NB),Nw⟩)
  (dmc_Course_start:PySem.W.codeIn K Ga "Course.start"=true)
  (dmk_Course_start:PySem.W.keepIn K (.ref EM)=true)
  (dma_Course_table_at:PySem.W.findIn K (.ref aq) "table_at"=some (some (.ref EN)))
  (dmi_Course_table_at:PySem.W.isFn K (.ref EN)=true)
  (dml_Course_table_at:K.lookup EN=some ⟨NG,NC,.func (PySem.W.fnOf "table_at" "Course.table_at" (bb (inClass (top 36) 8)) (aY (inClass (top 36) 8)) (au (inClass (top 36) 8)) .none NH NI NJ ND Gb NK),NF⟩)
  (dmc_Course_table_at:PySem.W.codeIn K Gb "Course.table_at"=true)
  (dmk_Course_table_at:PySem.W.keepIn K (.ref EN)=true)
  (dma_Course_what_at:PySem.W.findIn K (.ref aq) "what_at"=some (some (.ref EO)))
  (dmi_Course_what_at:PySem.W.isFn K (.ref EO)=true)
  (dml_Course_what_at:K.lookup EO=some ⟨NO,NL,.func (PySem.W.fnOf "what_at" "Course.what_at" (bb (inClass (top 36) 5)) (aY (inClass (top 36) 5)) (au (inClass (top 36) 5)) .none NP NQ NR NM Gc NS),NN⟩)
  (dmc_Course_what_at:PySem.W.codeIn K Gc "Course.what_at"=true)
  (dmk_Course_what_at:PySem.W.keepIn K (.ref EO)=true)
  (dma_Course_words_at:PySem.W.findIn K (.ref aq) "words_at"=some (some (.ref ER)))
  (dmi_Course_words_at:PySem.W.isFn K (.ref ER)=true)
  (dml_Course_words_at:K.lookup ER=some ⟨NW,NT,.func (PySem.W.fnOf "words_at" "Course.words_at" (bb (inClass (top 36) 11)) (aY (inClass (top 36) 11)) (au (inClass (top 36) 11)) .none NX NY NZ NU Gd N0),NV⟩)
  (dmc_Course_words_at:PySem.W.codeIn K Gd "Course.words_at"=true)
  (dmk_Course_words_at:PySem.W.keepIn K (.ref ER)=true)
  (dma_Finder_number_of:PySem.W.findIn K (.ref aD) "number_of"=some (some (.ref ES)))
  (dmi_Finder_number_of:PySem.W.isFn K (.ref ES)=true)
  (dml_Finder_number_of:K.lookup ES=some ⟨N6,N2,.func (PySem.W.fnOf "number_of" "Finder.number_of" (bb (inClass (top 37) 1)) (aY (inClass (top 37) 1)) (au (inClass (top 37) 1)) .none N7 N8 N9 N4 Ge Oa),N5⟩)
  (dmc_Finder_number_of:PySem.W.codeIn K Ge "Finder.number_of"=true)
  (dmk_Finder_number_of:PySem.W.keepIn K (.ref ES)=true)
  :∃fd:FuncData,(∀(s:Shared) (v:Value),BindsTo s fd ⟨[v],[]⟩ [("_law_script",v)])/\∀base:Heap,K.In base->base.Ns mainGlobals mg->fU l.prog w K mg base (cN l.prog w) 30 fa fd ["_law_script"] (yx K):=by
 have e:=hfa.symm.trans (aax X G a36);cases e;have T:Txt K mg aH aI aF aV aq aD:=⟨aa7 X G z_abs,aa7 X G z_bool,aa7 X G z_enumerate,aa7 X G z_int,aa7 X G z_isinstance,aa7 X G z_len,aa7 X G z_list,aa7 X G z_max,aa7 X G z_min,aa7 X G z_range,aa7 X G z_sorted,aa7 X G z_sum,aa7 X G z_tuple,⟨_,_,bF l0 e0 k0,aax X G a0⟩,⟨_,_,bF l1 e1 k1,aax X G a1⟩,⟨_,_,bF l2 e2 k2,aax X G a2⟩,⟨_,_,bF l3 e3 k3,aax X G a3⟩,⟨_,_,bF l4 e4 k4,aax X G a4⟩,⟨_,_,bF l5 e5 k5,aax X G a5⟩,⟨_,_,bF l6 e6 k6,aax X G a6⟩,⟨_,_,bF l7 e7 k7,aax X G a7⟩,⟨_,_,bF l8 e8 k8,aax X G a8⟩,⟨_,_,bF l9 e9 k9,aax X G a9⟩,⟨_,_,bF l10 e10 k10,aax X G a10⟩,⟨_,_,bF l11 e11 k11,aax X G a11⟩,⟨_,_,bF l12 e12 k12,aax X G a12⟩,⟨_,_,bF l13 e13 k13,aax X G a13⟩,⟨_,_,bF l14 e14 k14,aax X G a14⟩,⟨_,_,bF l15 e15 k15,aax X G a15⟩,⟨_,_,bF l16 e16 k16,aax X G a16⟩,⟨_,_,bF l17 e17 k17,aax X G a17⟩,⟨_,_,bF l18 e18 k18,aax X G a18⟩,⟨_,_,bF l19 e19 k19,aax X G a19⟩,⟨_,_,bF l20 e20 k20,aax X G a20⟩,⟨_,_,bF l21 e21 k21,aax X G a21⟩,⟨_,_,bF l22 e22 k22,aax X G a22⟩,⟨_,_,bF l23 e23 k23,aax X G a23⟩,⟨_,_,bF l24 e24 k24,aax X G a24⟩,⟨_,_,bF l25 e25 k25,aax X G a25⟩,⟨_,_,bF l26 e26 k26,aax X G a26⟩,⟨_,_,bF l27 e27 k27,aax X G a27⟩,⟨_,_,bF l28 e28 k28,aax X G a28⟩,⟨_,_,bF l29 e29 k29,aax X G a29⟩,⟨_,_,bF l30 e30 k30,aax X G a30⟩,⟨_,_,bF l31 e31 k31,aax X G a31⟩,⟨_,_,bF l32 e32 k32,aax X G a32⟩,⟨_,_,bF l33 e33 k33,aax X G a33⟩,⟨_,_,bF l34 e34 k34,aax X G a34⟩,⟨_,_,bF l35 e35 k35,aax X G a35⟩,⟨_,aax X G c_MOST_THROWS⟩,⟨_,aax X G c_MOST_BOTTOM⟩,⟨_,aax X G c_MOST_STATES⟩,aax X G k_NoShare,aax X G k_NoTable,aax X G k_TooMany,aax X G k_NoWay,aax X G k_Course,aax X G k_Finder,x_NoShare,x_NoTable,x_TooMany,x_NoWay,e_TooMany_TooMany,⟨cl_Coursepg,cl_Coursehd,cl_Coursepo,cl_Coursesa⟩,⟨cl_Finderpg,cl_Finderhd,cl_Finderpo,cl_Findersa⟩,na_Course_first,na_Course_mosts,na_Course_spots,na_Course_tables,na_Course_whats,na_Finder_numbers,na_Finder_states,⟨_,_,bF dil_Course dic_Course dik_Course,⟨dim_Course,dia_Course,dii_Course,diq_Course⟩,aax X G k_Course⟩,⟨_,_,bF dil_Finder dic_Finder dik_Finder,⟨dim_Finder,dia_Finder,dii_Finder,diq_Finder⟩,aax X G k_Finder⟩,⟨_,_,bF dml_Course_asked dmc_Course_asked dmk_Course_asked,⟨dma_Course_asked,dmi_Course_asked,dmk_Course_asked⟩⟩,⟨_,_,bF dml_Course_by_row dmc_Course_by_row dmk_Course_by_row,⟨dma_Course_by_row,dmi_Course_by_row,dmk_Course_by_row⟩⟩,⟨_,_,bF dml_Course_by_value dmc_Course_by_value dmk_Course_by_value,⟨dma_Course_by_value,dmi_Course_by_value,dmk_Course_by_value⟩⟩,⟨_,_,bF dml_Course_do dmc_Course_do dmk_Course_do,⟨dma_Course_do,dmi_Course_do,dmk_Course_do⟩⟩,⟨_,_,bF dml_Course_end_worth dmc_Course_end_worth dmk_Course_end_worth,⟨dma_Course_end_worth,dmi_Course_end_worth,dmk_Course_end_worth⟩⟩,⟨_,_,bF dml_Course_holds dmc_Course_holds dmk_Course_holds,⟨dma_Course_holds,dmi_Course_holds,dmk_Course_holds⟩⟩,⟨_,_,bF dml_Course_open_rows dmc_Course_open_rows dmk_Course_open_rows,⟨dma_Course_open_rows,dmi_Course_open_rows,dmk_Course_open_rows⟩⟩,⟨_,_,bF dml_Course_put dmc_Course_put dmk_Course_put,⟨dma_Course_put,dmi_Course_put,dmk_Course_put⟩⟩,⟨_,_,bF dml_Course_start dmc_Course_start dmk_Course_start,⟨dma_Course_start,dmi_Course_start,dmk_Course_start⟩⟩,⟨_,_,bF dml_Course_table_at dmc_Course_table_at dmk_Course_table_at,⟨dma_Course_table_at,dmi_Course_table_at,dmk_Course_table_at⟩⟩,⟨_,_,bF dml_Course_what_at dmc_Course_what_at dmk_Course_what_at,⟨dma_Course_what_at,dmi_Course_what_at,dmk_Course_what_at⟩⟩,⟨_,_,bF dml_Course_words_at dmc_Course_words_at dmk_Course_words_at,⟨dma_Course_words_at,dmi_Course_words_at,dmk_Course_words_at⟩⟩,⟨_,_,bF dml_Finder_number_of dmc_Finder_number_of dmk_Finder_number_of,⟨dma_Finder_number_of,dmi_Finder_number_of,dmk_Finder_number_of⟩⟩⟩
 exact⟨_,λs v=>.of_eq rfl,λbase _ _=>(IK T (bF l36 e36 k36)).mono (by decide)⟩
theorem walk {l:PySem.W.OpenLaw} {q:Program} {loose:List Str} {XP:(Str->Option Value)->Heap->Prop} {YP:World->Heap->Prop} {d:DefRec} {K:Params->PySem.W.Frag} (hn:l.most=some 63) (JX:d.params.defaults=[])
  (hY:∀(w:World) (h:Heap),YP w h->(K w.params).In h)
  (F:∀(w:World) (mg:Str->Option Value) (fa:Addr) (h:Heap),(K w.params).In h->h.Ns mainGlobals mg->mg d.name=some (.ref fa)->
   ∃fd:FuncData,(∀(s:Shared) (u:Value),BindsTo s fd ⟨[u],[]⟩ [("_law_script",u)])/\∀base:Heap,(K w.params).In base->base.Ns mainGlobals mg->fU l.prog w (K w.params) mg base (cN l.prog w) 30 fa fd ["_law_script"] (yx (K w.params))):
  PySem.W.WalkO q loose XP YP l.row.toRowW d [] (λf vs=>PySem.call f vs):=
 L2.Dt (n:=63) (k:=30) (x:="_law_script") (CX:=λw=>cN l.prog w) (sp:=λw=>yx (K w.params)) hn (by decide) JX ⟨rfl,by decide,by decide⟩ hY F (λ_ _ a ns hl _ hS=>⟨a,ns,rfl,hS,hl,λ_=>rfl⟩) λ_ _ _ _ _ z=>(xI _ _) _ _ _ _ _ z
end K55
open PySem PySem.W PyProof.Rows
set_option maxRecDepth 100000 in
set_option maxHeartbeats 0 in
theorem PySem.Challenge.cw_pressluck_k55_throws_spread_holds : PySem.Challenge.rw_pressluck_k55_throws_spread.Holds := by
  w_on; refine holds_law K55.Jy fun Jy => ?_
  refine holds_open (q := K55.vw) (loose := []) (Xt := (fun s => xlAt K55.vw [] s && recOk (RowW.records (OpenRow.toRowW (PySem.W.OpenLaw.row PySem.Challenge.rw_pressluck_k55_throws_spread))) s)) (XP := XL K55.vw []) (Yf := Hook.obs (kHook K55.pre.heap_1 K55.CC K55.C4)) (Ya := Hook.val (kHook K55.pre.heap_1 K55.CC K55.C4)) (YP := Hook.says (kHook K55.pre.heap_1 K55.CC K55.C4)) (N := 6290) (Hd.yK (by kernel_rfl) (by decide) (fun s => by kernel_rfl) K55.run) (Hook.of (kHook K55.pre.heap_1 K55.CC K55.C4)) (Hook.keeps (kHook K55.pre.heap_1 K55.CC K55.C4)) (fun s e => xl_of s (Bool.and_eq_true_iff.mp e).1) XL.keeps (by rfl) (by rfl) (by rfl) (fun s e => recFacts_of (Bool.and_eq_true_iff.mp e).2) (by rfl) (by first | assumption | decide +kernel) (by decide +kernel) ⟨rfl, rfl, rfl, rfl, rfl, by decide +kernel⟩ ?hw ?hc
  (case hw => w_witness2)
  k_fill
  refine K55.walk (l := PySem.Challenge.rw_pressluck_k55_throws_spread) rfl rfl (fun w h Y => PySem.W.kIn_of Y) ?F
  case F =>
    intro w mg fa h KX G JY;refine' K55.all_mk KX G JY ?a0 ?l0 ?e0 ?k0 ?a1 ?l1 ?e1 ?k1 ?a2 ?l2 ?e2 ?k2 ?a3 ?l3 ?e3 ?k3 ?a4 ?l4 ?e4 ?k4 ?a5 ?l5 ?e5 ?k5 ?a6 ?l6 ?e6 ?k6 ?a7 ?l7 ?e7 ?k7 ?a8 ?l8 ?e8 ?k8 ?a9 ?l9 ?e9 ?k9 ?a10 ?l10 ?e10 ?k10 ?a11 ?l11 ?e11 ?k11 ?a12 ?l12 ?e12 ?k12 ?a13 ?l13 ?e13 ?k13 ?a14 ?l14 ?e14 ?k14 ?a15 ?l15 ?e15 ?k15 ?a16 ?l16 ?e16 ?k16 ?a17 ?l17 ?e17 ?k17 ?a18 ?l18 ?e18 ?k18 ?a19 ?l19 ?e19 ?k19 ?a20 ?l20 ?e20 ?k20 ?a21 ?l21 ?e21 ?k21 ?a22 ?l22 ?e22 ?k22 ?a23 ?l23 ?e23 ?k23 ?a24 ?l24 ?e24 ?k24 ?a25 ?l25 ?e25 ?k25 ?a26 ?l26 ?e26 ?k26 ?a27 ?l27 ?e27 ?k27 ?a28 ?l28 ?e28 ?k28 ?a29 ?l29 ?e29 ?k29 ?a30 ?l30 ?e30 ?k30 ?a31 ?l31 ?e31 ?k31 ?a32 ?l32 ?e32 ?k32 ?a33 ?l33 ?e33 ?k33 ?a34 ?l34 ?e34 ?k34 ?a35 ?l35 ?e35 ?k35 ?a36 ?l36 ?e36 ?k36 ?z_abs ?z_bool ?z_enumerate ?z_int ?z_isinstance ?z_len ?z_list ?z_max ?z_min ?z_range ?z_sorted ?z_sum ?z_tuple ?c_MOST_THROWS ?c_MOST_BOTTOM ?c_MOST_STATES ?k_NoShare ?k_NoTable ?k_TooMany ?k_NoWay ?k_Course ?k_Finder ?x_NoShare ?x_NoTable ?x_TooMany ?x_NoWay ?e_TooMany_TooMany ?cl_Coursepg ?cl_Coursehd ?cl_Coursepo ?cl_Coursesa ?cl_Finderpg ?cl_Finderhd ?cl_Finderpo ?cl_Findersa ?na_Course_first ?na_Course_mosts ?na_Course_spots ?na_Course_tables ?na_Course_whats ?na_Finder_numbers ?na_Finder_states ?dia_Course ?dii_Course ?dil_Course ?dic_Course ?dik_Course ?dim_Course ?diq_Course ?dia_Finder ?dii_Finder ?dil_Finder ?dic_Finder ?dik_Finder ?dim_Finder ?diq_Finder ?dma_Course_asked ?dmi_Course_asked ?dml_Course_asked ?dmc_Course_asked ?dmk_Course_asked ?dma_Course_by_row ?dmi_Course_by_row ?dml_Course_by_row ?dmc_Course_by_row ?dmk_Course_by_row ?dma_Course_by_value ?dmi_Course_by_value ?dml_Course_by_value ?dmc_Course_by_value ?dmk_Course_by_value ?dma_Course_do ?dmi_Course_do ?dml_Course_do ?dmc_Course_do ?dmk_Course_do ?dma_Course_end_worth ?dmi_Course_end_worth ?dml_Course_end_worth ?dmc_Course_end_worth ?dmk_Course_end_worth ?dma_Course_holds ?dmi_Course_holds ?dml_Course_holds ?dmc_Course_holds ?dmk_Course_holds ?dma_Course_open_rows ?dmi_Course_open_rows ?dml_Course_open_rows ?dmc_Course_open_rows ?dmk_Course_open_rows ?dma_Course_put ?dmi_Course_put ?dml_Course_put ?dmc_Course_put ?dmk_Course_put ?dma_Course_start ?dmi_Course_start ?dml_Course_start ?dmc_Course_start ?dmk_Course_start ?dma_Course_table_at ?dmi_Course_table_at ?dml_Course_table_at ?dmc_Course_table_at ?dmk_Course_table_at ?dma_Course_what_at ?dmi_Course_what_at ?dml_Course_what_at ?dmc_Course_what_at ?dmk_Course_what_at ?dma_Course_words_at ?dmi_Course_words_at ?dml_Course_words_at ?dmc_Course_words_at ?dmk_Course_words_at ?dma_Finder_number_of ?dmi_Finder_number_of ?dml_Finder_number_of ?dmc_Finder_number_of ?dmk_Finder_number_of
    (case a0 => k_is)
    (case l0 => k_is)
    (case e0 => k_is)
    (case k0 => k_is)
    (case a1 => k_is)
    (case l1 => k_is)
    (case e1 => k_is)
    (case k1 => k_is)
    (case a2 => k_is)
    (case l2 => k_is)
    (case e2 => k_is)
    (case k2 => k_is)
    (case a3 => k_is)
    (case l3 => k_is)
    (case e3 => k_is)
    (case k3 => k_is)
    (case a4 => k_is)
    (case l4 => k_is)
    (case e4 => k_is)
    (case k4 => k_is)
    (case a5 => k_is)
    (case l5 => k_is)
    (case e5 => k_is)
    (case k5 => k_is)
    (case a6 => k_is)
    (case l6 => k_is)
    (case e6 => k_is)
    (case k6 => k_is)
    (case a7 => k_is)
    (case l7 => k_is)
    (case e7 => k_is)
    (case k7 => k_is)
    (case a8 => k_is)
    (case l8 => k_is)
    (case e8 => k_is)
    (case k8 => k_is)
    (case a9 => k_is)
    (case l9 => k_is)
    (case e9 => k_is)
    (case k9 => k_is)
    (case a10 => k_is)
    (case l10 => k_is)
    (case e10 => k_is)
    (case k10 => k_is)
    (case a11 => k_is)
    (case l11 => k_is)
    (case e11 => k_is)
    (case k11 => k_is)
    (case a12 => k_is)
    (case l12 => k_is)
    (case e12 => k_is)
    (case k12 => k_is)
    (case a13 => k_is)
    (case l13 => k_is)
    (case e13 => k_is)
    (case k13 => k_is)
    (case a14 => k_is)
    (case l14 => k_is)
    (case e14 => k_is)
    (case k14 => k_is)
    (case a15 => k_is)
    (case l15 => k_is)
    (case e15 => k_is)
    (case k15 => k_is)
    (case a16 => k_is)
    (case l16 => k_is)
    (case e16 => k_is)
    (case k16 => k_is)
    (case a17 => k_is)
    (case l17 => k_is)
    (case e17 => k_is)
    (case k17 => k_is)
    (case a18 => k_is)
    (case l18 => k_is)
    (case e18 => k_is)
    (case k18 => k_is)
    (case a19 => k_is)
    (case l19 => k_is)
    (case e19 => k_is)
    (case k19 => k_is)
    (case a20 => k_is)
    (case l20 => k_is)
    (case e20 => k_is)
    (case k20 => k_is)
    (case a21 => k_is)
    (case l21 => k_is)
    (case e21 => k_is)
    (case k21 => k_is)
    (case a22 => k_is)
    (case l22 => k_is)
    (case e22 => k_is)
    (case k22 => k_is)
    (case a23 => k_is)
    (case l23 => k_is)
    (case e23 => k_is)
    (case k23 => k_is)
    (case a24 => k_is)
    (case l24 => k_is)
    (case e24 => k_is)
    (case k24 => k_is)
    (case a25 => k_is)
    (case l25 => k_is)
    (case e25 => k_is)
    (case k25 => k_is)
    (case a26 => k_is)
    (case l26 => k_is)
    (case e26 => k_is)
    (case k26 => k_is)
    (case a27 => k_is)
    (case l27 => k_is)
    (case e27 => k_is)
    (case k27 => k_is)
    (case a28 => k_is)
    (case l28 => k_is)
    (case e28 => k_is)
    (case k28 => k_is)
    (case a29 => k_is)
    (case l29 => k_is)
    (case e29 => k_is)
    (case k29 => k_is)
    (case a30 => k_is)
    (case l30 => k_is)
    (case e30 => k_is)
    (case k30 => k_is)
    (case a31 => k_is)
    (case l31 => k_is)
    (case e31 => k_is)
    (case k31 => k_is)
    (case a32 => k_is)
    (case l32 => k_is)
    (case e32 => k_is)
    (case k32 => k_is)
    (case a33 => k_is)
    (case l33 => k_is)
    (case e33 => k_is)
    (case k33 => k_is)
    (case a34 => k_is)
    (case l34 => k_is)
    (case e34 => k_is)
    (case k34 => k_is)
    (case a35 => k_is)
    (case l35 => k_is)
    (case e35 => k_is)
    (case k35 => k_is)
    (case a36 => k_is)
    (case l36 => k_is)
    (case e36 => k_is)
    (case k36 => k_is)
    (case z_abs => k_is)
    (case z_bool => k_is)
    (case z_enumerate => k_is)
    (case z_int => k_is)
    (case z_isinstance => k_is)
    (case z_len => k_is)
    (case z_list => k_is)
    (case z_max => k_is)
    (case z_min => k_is)
    (case z_range => k_is)
    (case z_sorted => k_is)
    (case z_sum => k_is)
    (case z_tuple => k_is)
    (case c_MOST_THROWS => k_is)
    (case c_MOST_BOTTOM => k_is)
    (case c_MOST_STATES => k_is)
    (case k_NoShare => k_is)
    (case k_NoTable => k_is)
    (case k_TooMany => k_is)
    (case k_NoWay => k_is)
    (case k_Course => k_is)
    (case k_Finder => k_is)
    (case x_NoShare => first | k_is | kit_is | kernel_rfl)
    (case x_NoTable => first | k_is | kit_is | kernel_rfl)
    (case x_TooMany => first | k_is | kit_is | kernel_rfl)
    (case x_NoWay => first | k_is | kit_is | kernel_rfl)
    (case e_TooMany_TooMany => first | k_is | kit_is | kernel_rfl)
    (case cl_Coursepg => k_is)
    (case cl_Coursehd => k_is)
    (case cl_Coursepo => k_is)
    (case cl_Coursesa => k_is)
    (case cl_Finderpg => k_is)
    (case cl_Finderhd => k_is)
    (case cl_Finderpo => k_is)
    (case cl_Findersa => k_is)
    (case na_Course_first => k_is)
    (case na_Course_mosts => k_is)
    (case na_Course_spots => k_is)
    (case na_Course_tables => k_is)
    (case na_Course_whats => k_is)
    (case na_Finder_numbers => k_is)
    (case na_Finder_states => k_is)
    (case dia_Course => k_is)
    (case dii_Course => k_is)
    (case dil_Course => k_is)
    (case dic_Course => k_is)
    (case dik_Course => k_is)
    (case dim_Course => k_is)
    (case diq_Course => k_is)
    (case dia_Finder => k_is)
    (case dii_Finder => k_is)
    (case dil_Finder => k_is)
    (case dic_Finder => k_is)
    (case dik_Finder => k_is)
    (case dim_Finder => k_is)
    (case diq_Finder => k_is)
    (case dma_Course_asked => k_is)
    (case dmi_Course_asked => k_is)
    (case dml_Course_asked => k_is)
    (case dmc_Course_asked => k_is)
    (case dmk_Course_asked => k_is)
    (case dma_Course_by_row => k_is)
    (case dmi_Course_by_row => k_is)
    (case dml_Course_by_row => k_is)
    (case dmc_Course_by_row => k_is)
    (case dmk_Course_by_row => k_is)
    (case dma_Course_by_value => k_is)
    (case dmi_Course_by_value => k_is)
    (case dml_Course_by_value => k_is)
    (case dmc_Course_by_value => k_is)
    (case dmk_Course_by_value => k_is)
    (case dma_Course_do => k_is)
    (case dmi_Course_do => k_is)
    (case dml_Course_do => k_is)
    (case dmc_Course_do => k_is)
    (case dmk_Course_do => k_is)
    (case dma_Course_end_worth => k_is)
    (case dmi_Course_end_worth => k_is)
    (case dml_Course_end_worth => k_is)
    (case dmc_Course_end_worth => k_is)
    (case dmk_Course_end_worth => k_is)
    (case dma_Course_holds => k_is)
    (case dmi_Course_holds => k_is)
    (case dml_Course_holds => k_is)
    (case dmc_Course_holds => k_is)
    (case dmk_Course_holds => k_is)
    (case dma_Course_open_rows => k_is)
    (case dmi_Course_open_rows => k_is)
    (case dml_Course_open_rows => k_is)
    (case dmc_Course_open_rows => k_is)
    (case dmk_Course_open_rows => k_is)
    (case dma_Course_put => k_is)
    (case dmi_Course_put => k_is)
    (case dml_Course_put => k_is)
    (case dmc_Course_put => k_is)
    (case dmk_Course_put => k_is)
    (case dma_Course_start => k_is)
    (case dmi_Course_start => k_is)
    (case dml_Course_start => k_is)
    (case dmc_Course_start => k_is)
    (case dmk_Course_start => k_is)
    (case dma_Course_table_at => k_is)
    (case dmi_Course_table_at => k_is)
    (case dml_Course_table_at => k_is)
    (case dmc_Course_table_at => k_is)
    (case dmk_Course_table_at => k_is)
    (case dma_Course_what_at => k_is)
    (case dmi_Course_what_at => k_is)
    (case dml_Course_what_at => k_is)
    (case dmc_Course_what_at => k_is)
    (case dmk_Course_what_at => k_is)
    (case dma_Course_words_at => k_is)
    (case dmi_Course_words_at => k_is)
    (case dml_Course_words_at => k_is)
    (case dmc_Course_words_at => k_is)
    (case dmk_Course_words_at => k_is)
    (case dma_Finder_number_of => k_is)
    (case dmi_Finder_number_of => k_is)
    (case dml_Finder_number_of => k_is)
    (case dmc_Finder_number_of => k_is)
    (case dmk_Finder_number_of => k_is)
