import PyProof.Rows.All
import Wide.All
import OpenK.AllK
import Wide.FinOn
import Lean
import PyProof.EqAt
import PyProof.EqKinds
import PyProof.TupleCall
import PyProof.NeKinds
import PySem.Challenge.RW_pressluck_k81_plays_written
set_option Elab.async false
set_option linter.all false
set_option maxRecDepth 100000
local macro_rules | `(∅) => `(by exact of_decide_eq_true (by kernel_rfl))
local macro_rules | `(⋯) => `(by lia)
local macro_rules | `(command| abbrev $i:declId $s:optDeclSig $v:declVal) => `(command| noncomputable def $i:declId $s:optDeclSig $v:declVal)
local macro_rules | `(tactic| injections) => `(tactic| rfl)
open List renaming length_map->aaj,map_cons->aak,getElem?_map->aal,size_toArray->aan,getElem?_eq_getElem->aao,mem_cons_of_mem->aap,map_append->aaq,mem_cons_self->aar,length_append->aat,length_cons->aaw,mem_of_getElem?->aay,take_of_length_le->aaz,length_take->aaD,mem_append_right->aaG,getElem_mem->aaH,lookup_cons->aaI,map_map->aaJ,take_add_one->aaK,length_range->aaO,set_cons_zero->aaP,set_cons_succ->aaQ,filterMap_cons->aaS,map_nil->aaU,getD_eq_getElem?_getD->aaV,lookup_cons_self->aaW,mem_cons->aaX,cons_append->aaY,append_nil->aa0,map_take->aa5,mem_of_find?_eq_some->aa6,length_singleton->aa8,length_zip->aa9,filterMap_append->abd,mem_append_left->abe,length_replicate->abf,replicate_succ->abg,filterMap_eq_map'->abi,getElem?_eq_some_iff->abr,mem_map->abt,mem_singleton->abu,replicate->aby
open Nat renaming le_refl->aam,zero_le->aas,le_trans->aau,ne_of_lt->aav,lt_of_lt_of_le->aaB,lt_irrefl->aaL,lt_succ_self->aa4,pow_le_pow_right->abh
open Bool renaming false_ne_true->aax,and_eq_true->aaN
open PySem renaming boot_len->aaA,mem_of_lookup->aa1,Str.ofString->aai,Heap.get?_push_of_some->abv,Heap.get?_push_size->abw,Heap.lt_size->abx
open Option.some renaming inj->aaC
open PySem.W renaming mg_of->aaE,mg_none_of->aaM,kia_one->aaZ,Frag->abk,keepIn->abl,codeIn->abm,fnOf->abn,nsIn->abo,findIn->abp
open Int renaming toNat_natCast->aaF,emod_nonneg->aa2,zero_add->aa3,natCast_mul->aa7,emod_lt_of_pos->aba
open PySem.F renaming plainAttrs_list->aaR,slot_list_append->abb,type_list_append->abc
open Array renaming length_toList->aaT
open PyProof.Rows renaming callWith_type1->abj
open Option renaming map_eq_some_iff->abq
namespace Hd
open PySem PySem.W PyProof.Rows
abbrev u7 (ok:Thread->Bool) (st:SharedT->Thread->Option (SharedT×Thread)) (n:Nat):SharedT->Thread->Option SharedT:=
 @Nat.rec (λ_=>SharedT->Thread->Option SharedT) (λ_ _=>none)
  (λ_ ih s t=>@Bool.rec (λ_=>Option SharedT) (@Bool.rec (λ_=>Option SharedT) none (@Option.rec (SharedT×Thread) (λ_=>Option SharedT) none (λr=>@Prod.rec _ _ (λ_=>Option SharedT) (λa b=>ih a b) r) (st s t)) (ok t)) (some s) (through t)) n
theorem oX {tb:String->Option Builtin} {p:Program} {w:World} {n₀:Nat} {ann:Option Value}:∀(n:Nat) (s:SharedT) (t:Thread) (s':SharedT),u7 (stepOk n₀ ann) (stepT (denote tb) p w) n s t=some s'->topRun tb p w n₀ ann n s.abs t=some s'.abs
 | 0,_,_,_,h=>by cases h
 | n+1,s,t,s',h=>by
  unfold topRun
  replace h:@Bool.rec (λ_=>Option SharedT) (@Bool.rec (λ_=>Option SharedT) none (@Option.rec (SharedT×Thread) (λ_=>Option SharedT) none (λr=>@Prod.rec _ _ (λ_=>Option SharedT) (λa b=>u7 (stepOk n₀ ann) (stepT (denote tb) p w) n a b) r) (stepT (denote tb) p w s t)) (stepOk n₀ ann t)) (some s) (through t)=some s':=h
  cases ht:through t with
  | true=>rw[ht] at h;cases h;rfl
  | false=>
   rw[ht] at h;cases hk:stepOk n₀ ann t with
   | false=>rw[hk] at h;cases h
   | true=>
    rw[hk] at h;cases hs:stepT (denote tb) p w s t with
    | none=>rw[hs] at h;cases h
    | some r=>obtain⟨s₂,t₂⟩:=r;rw[hs] at h;rw[stepT_spec hs];exact oX n s₂ t₂ s' h
abbrev bt (P:Params):BT:=((boot_heap P).objs.toList.foldl (fun(x:BT×Nat) o=>(x.1.ins x.2 o,x.2+1)) (.nil,0)).1
abbrev yN (w:World) (os:OsState):SharedT:=⟨bt w.params,11,{},Array.mk [],boot_drawn,boot_toks,os⟩
theorem Ak (w:World) (os:OsState):(yN w os).abs=⟨boot_heap w.params,Array.mk [],boot_drawn,boot_toks,os⟩:=by kernel_rfl
theorem xj (w:World):((boot_heap w.params).isNs mainGlobals && (Array.mk []:Array GenState).size==0,(boot_heap w.params).objs.size,(boot_heap w.params).nsMap mainGlobals "__annotations__")=(true,11,some (.ref 6)):=by kernel_rfl
theorem BF {p q:Program} {loose:List Str} {Xt:Shared->Bool} {α:Type} {Yf:Shared->α} {Ya:World->α} {N:Nat} {g0:Bool}
  (Mw:∀w:World,(fencedOpening treeTable p w N).map (λs=>(s.heap,s.gens,s.drawn,s.toks))=some (boot_heap w.params,Array.mk [],boot_drawn,boot_toks))
  (run:∀(w:World) (os:OsState),(u7 (stepOk 11 (some (.ref 6))) (stepT (denote treeTable) p w) N (yN w os) (topStub p)).map (λs=>((staticsOk (importedModules p.main.body) (boot_heap w.params) s.abs.heap && namesBound p s.abs.heap && gensDone s.abs && laidKept (boot_heap w.params) s.abs.heap),openSeen q loose (importedModules p.main.body) Xt g0 s.abs,Yf s.abs))=some (true,openGood q loose,Ya w)):
  LeftO p q loose Xt Yf Ya N g0:=λw=>by
 obtain⟨⟨h,gs,d,k,os⟩,e,e'⟩:=abq.mp (Mw w);obtain⟨rfl,rfl,rfl,rfl⟩:h=boot_heap w.params/\gs=Array.mk []/\d=boot_drawn/\k=boot_toks:=by simpa using e'
 obtain⟨z1,z2,z3⟩:_/\_/\_:=by simpa only[Prod.mk.injEq] using xj w
 obtain⟨s,r,l⟩:=abq.mp (run w os);obtain⟨l1,l2,l3⟩:_/\_/\_:=by simpa only[Prod.mk.injEq] using l
 have r:=oX _ _ _ _ r;rw[Ak] at r;have t:topFrom treeTable p w N ⟨boot_heap w.params,Array.mk [],boot_drawn,boot_toks,os⟩=some s.abs:=by
  unfold topFrom;dsimp only;rw[z1,z2,z3,r];show(match staticsOk (importedModules p.main.body) (boot_heap w.params) s.abs.heap && namesBound p s.abs.heap && gensDone s.abs && laidKept (boot_heap w.params) s.abs.heap with | true=>_ | false=>_)=_;rw[l1]
 unfold openEnds;rw[e];show((topFrom treeTable p w N ⟨boot_heap w.params,Array.mk [],boot_drawn,boot_toks,os⟩)).map _=_;rw[t];show some (_,_)=_;rw[l2,l3]
abbrev Runs (p q:Program) (loose:List Str) (Xt:Shared->Bool) {α:Type} (Yf:Shared->α) (Ya:World->α) (N:Nat) (g0:Bool) (w:World):Prop:=
 ∀os:OsState,(u7 (PySem.W.Fast.tw6613529449190102663 11 (some (.ref 6))) (PySem.W.Fast.tw10156331382660048174 (PySem.W.Fast.tw11892475500146522536 PySem.W.Fast.tw14364793385576792824) p w) N (yN w os) (topStub p)).map (λs=>((staticsOk (importedModules p.main.body) (boot_heap w.params) s.abs.heap && namesBound p s.abs.heap && gensDone s.abs && laidKept (boot_heap w.params) s.abs.heap),PySem.W.Fast.tw4187177175401517315 q loose (importedModules p.main.body) Xt g0 s.abs,Yf s.abs))=some (true,openGood q loose,Ya w)
theorem Am {p q:Program} {loose:List Str} {Xt:Shared->Bool} {α:Type} {Yf:Shared->α} {Ya:World->α} {N:Nat} {g0:Bool}
  (e:opening p=plainProg p.main.scope.names) (hN:Nat.ble 600 N=true) (f:∀s,fenceModules? p s=some s)
  (run:∀w:World,Runs p q loose Xt Yf Ya N g0 w):
  LeftO p q loose Xt Yf Ya N g0:=by
 refine BF (boot_open e hN f) ?_;unfold Runs at run;rw[PySem.W.Fast.te6613529449190102663,PySem.W.Fast.te10156331382660048174,PySem.W.Fast.te11892475500146522536,PySem.W.Fast.te14364793385576792824,PySem.W.Fast.te4187177175401517315];exact run
abbrev rb (p:Program) (N:Nat) (w:World) (os:OsState):Option SharedT:=u7 (PySem.W.Fast.tw6613529449190102663 11 (some (.ref 6))) (PySem.W.Fast.tw10156331382660048174 (PySem.W.Fast.tw11892475500146522536 PySem.W.Fast.tw14364793385576792824) p w) N (yN w os) (topStub p)
abbrev Mx (p:Program) (N:Nat) (w:World):Prop:=∀os:OsState,(rb p N w os).map (λs=>(staticsOk (importedModules p.main.body) (boot_heap w.params) s.abs.heap && namesBound p s.abs.heap && gensDone s.abs && laidKept (boot_heap w.params) s.abs.heap))=some true
abbrev My (p q:Program) (loose:List Str) (Xt:Shared->Bool) (N:Nat) (g0:Bool) (w:World):Prop:=∀os:OsState,(rb p N w os).map (λs=>PySem.W.Fast.tw4187177175401517315 q loose (importedModules p.main.body) Xt g0 s.abs)=some (openGood q loose)
abbrev Mz (p:Program) {α:Type} (Yf:Shared->α) (Ya:World->α) (N:Nat) (w:World):Prop:=∀os:OsState,(rb p N w os).map (λs=>Yf s.abs)=some (Ya w)
theorem MA {p q:Program} {loose:List Str} {Xt:Shared->Bool} {α:Type} {Yf:Shared->α} {Ya:World->α} {N:Nat} {g0:Bool} {w:World} (a:Mx p N w) (b:My p q loose Xt N g0 w) (c:Mz p Yf Ya N w):Runs p q loose Xt Yf Ya N g0 w:=λos=>by
 obtain⟨s,r,l⟩:=abq.mp (a os);have b:=b os;have c:=c os;rw[r] at b c;have l2:PySem.W.Fast.tw4187177175401517315 q loose (importedModules p.main.body) Xt g0 s.abs=openGood q loose:=aaC b;have l3:Yf s.abs=Ya w:=aaC c;show(rb p N w os).map _=_;rw[r];show some (_,_,_)=_;rw[l,l2,l3]
end Hd
namespace K81
open PySem PySem.Spec PyProof.Rows
abbrev top (i:Nat):Stmt:=PySem.Challenge.pw_pressluck_k81_plays_written.main.body.getD i (.Pass ⟨0,0,0,0⟩)
end K81
section Sl
open PySem PySem.W PyProof.Rows
local macro_rules | `(tactic| o_head $H) => `(tactic| (refine (fun (_ : PySem.W.Hook) => ?_) $H; assumption))
theorem K81.pre (h:PySem.W.OpenRow.Holds (PySem.W.OpenLaw.row PySem.Challenge.rw_pressluck_k81_plays_written)):PySem.W.OpenRow.Holds (PySem.W.OpenLaw.row PySem.Challenge.rw_pressluck_k81_plays_written):=by
 k_head
abbrev K81.EF:List Addr:=[2,3,15,17,18,20,21,22,29,30,31,32,35,42,43,44,47,54,55,56,59,66,67,68,71,78,79,80,83,90,91,92,95,102,103,104,107,109,110,112,113,114,116,117,119,120,121,123,124,126,127,128,130,131,133,134,135,138,139,140,142,143,145,146,147,150,151,152,154,155,157,158,159,161,162,164,165,166,168,169,171,172,173,175,176,178,179,180,182,183,185,186,187,189,190,192,193,194,197,198,199,202,203,204,207,208,209,211,212,214,215,216,219,220,221,223,224,226,227,228,231,232,233,236,237,238,241,242,243,246,247,248,250,251,253,254,262,264,265,267,268,269,271,272,274,275,276,278,279,281,282,283,285,286,288,289,290,292,293,295,296,297,299,300,302,303,304,306,307,309,310,311,314,315,316,318,319,321,322,323,325,326,328,329,330,333,334,335,338,339,340,342,343,345,346,347,348,349,350,351,361,363,364,366,367,368,370,371,373,374,375,377,378,380,381,382,385,386,387,389,390,392,393,394,397,398,399,401,402,404,405,406,408,409,411,412,413,416,417,418,419,420,421,422,425,427,428,430,431,432,434,435,437,438,439,441,442,444,445,446,448,449,451,452,453,455,456,458,459,460,462,463,465,466,467,469,470,472,473,481,483,484,486,487,488,491,492,493,495,496,498,499,500,502,503,505,506,507,510,511,512,514,515,517,518,519,522,523,524,527,528,529,531,532,534,535,536,539,540,541,543,544,546,547,548,551,552,553,556,557,558,560,561,563,564,565,567,568,570,571,572,574,575,577,578,579,582,583,584,587,588,589,592,593,594,596,597,599,600,601,603,604,606,607]
theorem K81.EX (P:PySem.Params):K81.EF=(K81.pre.heap_1 P).map (·.1):=by kernel_rfl
abbrev K81.vw:PySem.Program:={PySem.Challenge.pw_pressluck_k81_plays_written with main:={PySem.Challenge.pw_pressluck_k81_plays_written.main with body:=[K81.top 0,K81.top 2,K81.top 3,K81.top 4,K81.top 5,K81.top 6,K81.top 7,K81.top 8,K81.top 10,K81.top 11,K81.top 12,K81.top 13,K81.top 14,K81.top 15,K81.top 16,K81.top 17,K81.top 19,K81.top 20,K81.top 22,K81.top 23,K81.top 24,K81.top 25,K81.top 26,K81.top 27,K81.top 28,K81.top 29,K81.top 30,K81.top 31,K81.top 32,K81.top 34,K81.top 35,K81.top 36,K81.top 37,K81.top 38,K81.top 40,K81.top 41,K81.top 42,K81.top 44,K81.top 45,K81.top 46,K81.top 47,K81.top 48,K81.top 49,K81.top 50,K81.top 52,K81.top 53,K81.top 54,K81.top 55,K81.top 56,K81.top 57,K81.top 58,K81.top 59,K81.top 60,K81.top 61,K81.top 62,K81.top 63,K81.top 64,K81.top 65,K81.top 66,K81.top 67,K81.top 68,K81.top 69,K81.top 70,K81.top 71,K81.top 72,K81.top 73,K81.top 74,K81.top 75,K81.top 76,K81.top 77]}}
set_option maxHeartbeats 0 in
theorem K81.MB:PySem.Challenge.rw_pressluck_k81_plays_written.wellSaid=true:=by
 unfold OpenLaw.wellSaid OpenRow.wellSaid OpenRow.partSaid looksOpen
 with_reducible repeat' refine look_both ?_ ?_
 all_goals decide (config:={kernel:=true})
theorem K81.Sm (w:World):Hd.Mx (RowW.prog (OpenRow.toRowW (PySem.W.OpenLaw.row PySem.Challenge.rw_pressluck_k81_plays_written))) 8706 w:=λos=>by kernel_rfl
theorem K81.Sn (w:World):Hd.My (RowW.prog (OpenRow.toRowW (PySem.W.OpenLaw.row PySem.Challenge.rw_pressluck_k81_plays_written))) K81.vw ["value_of_pools","value_of_plays"] (λs=>xlAt K81.vw [] s && recOk (RowW.records (OpenRow.toRowW (PySem.W.OpenLaw.row PySem.Challenge.rw_pressluck_k81_plays_written))) s) 8706 true w:=λos=>by kernel_rfl
theorem K81.runC (w:World):Hd.Mz (RowW.prog (OpenRow.toRowW (PySem.W.OpenLaw.row PySem.Challenge.rw_pressluck_k81_plays_written))) (Hook.obs (kHook K81.pre.heap_1 K81.EF K81.EX)) (Hook.val (kHook K81.pre.heap_1 K81.EF K81.EX)) 8706 w:=λos=>by kernel_rfl
theorem K81.run (w:World):Hd.Runs (RowW.prog (OpenRow.toRowW (PySem.W.OpenLaw.row PySem.Challenge.rw_pressluck_k81_plays_written))) K81.vw ["value_of_pools","value_of_plays"] (λs=>xlAt K81.vw [] s && recOk (RowW.records (OpenRow.toRowW (PySem.W.OpenLaw.row PySem.Challenge.rw_pressluck_k81_plays_written))) s) (Hook.obs (kHook K81.pre.heap_1 K81.EF K81.EX)) (Hook.val (kHook K81.pre.heap_1 K81.EF K81.EX)) 8706 true w:=Hd.MA (K81.Sm w) (K81.Sn w) (K81.runC w)
end Sl
set_option tactic.hygienic false
set_option compiler.extract_closed false
set_option hygiene false in
local macro_rules | `(tactic| symm) => `(tactic| (refine (?_ : let G_ : Prop := _; G_); intro G_))
set_option hygiene false in
local macro_rules | `(tactic| nofun) => `(tactic| dsimp only [G_])
local macro_rules | `(tactic| ac_rfl) => `(tactic| decide +kernel)
namespace L2
open PySem PySem.Spec PyProof.Rows
@[inline]abbrev Key:=Sum Int Str
abbrev oY:Key->Value->Bool
 | .inl k,v=>Value.isInt k v
 | .inr x,v=>Value.isStrOf x v
abbrev Ji (w:World):Key->Int
 | .inl k=>hashInt k
 | .inr x=>hashStr w x
theorem cD:∀{k:Key} {v:Value},oY k v=true->(∃i t,k=Sum.inl i/\v=Value.int i t)\/(∃x t,k=Sum.inr x/\v=Value.str x t)
 | .inl i,v,h=>by
  obtain⟨t,e⟩:=Value.isInt_shape (k:=i) (v:=v) h;exact .inl ⟨i,t,rfl,e⟩
 | .inr x,v,h=>by
  obtain⟨t,e⟩:=Value.isStrOf_shape (x:=x) (v:=v) h;exact .inr ⟨x,t,rfl,e⟩
theorem An (i:Int) (t:Tok):oY (.inl i) (.int i t)=true:=by simp [oY,Value.isInt]
theorem Ao (x:Str) (t:Tok):oY (.inr x) (.str x t)=true:=by simp [oY,Value.isStrOf]
theorem Jj (a b:Int):decide ((Sum.inl a:Key)=Sum.inl b)=(a==b):=by
 by_cases e:a=b
 ·subst e;simp
 ·have h:¬(Sum.inl a:Key)=Sum.inl b:=λq=>e (Sum.inl.inj q);rw[decide_eq_false h];exact(beq_eq_false_iff_ne.mpr e).symm
theorem Jk (a b:Str):decide ((Sum.inr a:Key)=Sum.inr b)=decide (a=b):=by
 by_cases e:a=b
 ·subst e;simp
 ·have h:¬(Sum.inr a:Key)=Sum.inr b:=λq=>e (Sum.inr.inj q);rw[decide_eq_false h,decide_eq_false e]
theorem Jl (a:Int) (b:Str):decide ((Sum.inl a:Key)=Sum.inr b)=false:=decide_eq_false (λq=>nomatch q)
theorem Jm (a:Str) (b:Int):decide ((Sum.inr a:Key)=Sum.inl b)=false:=decide_eq_false (λq=>nomatch q)
abbrev cA (prog:Program) (w:World):PySem.KeyKind prog w Key where
 is:=oY
 hash:=Ji w
 inj:=λv a b ha hb=>by
  rcases cD ha with ⟨i,t,rfl,rfl⟩ | ⟨x,t,rfl,rfl⟩
  ·rcases cD hb with ⟨j,u,rfl,e⟩ | ⟨y,u,rfl,e⟩
   ·injection e with e1 _;rw[e1]
   ·exact nomatch e
  ·rcases cD hb with ⟨j,u,rfl,e⟩ | ⟨y,u,rfl,e⟩
   ·exact nomatch e
   ·injection e with e1 _;rw[e1]
 byValue:=λk v h=>by
  rcases cD h with ⟨i,t,rfl,rfl⟩ | ⟨x,t,rfl,rfl⟩ <;>rfl
 pyHash:=λhv h=>by
  rcases cD hv with ⟨i,t,rfl,rfl⟩ | ⟨x,t,rfl,rfl⟩
  ·exact wpAny_pyHash_int h
  ·exact wpAny_pyHash_str h
 eqBool:=λhu hv h=>by
  rcases cD hu with ⟨i,t,rfl,rfl⟩ | ⟨x,t,rfl,rfl⟩
  ·rcases cD hv with ⟨j,u,rfl,rfl⟩ | ⟨y,u,rfl,rfl⟩
   ·rw[Jj] at h;exact wpAny_eqBool_int h
   ·rw[Jl] at h;exact SeqAt.EqAt.int_str i t y u _ _ _ _ h
  ·rcases cD hv with ⟨j,u,rfl,rfl⟩ | ⟨y,u,rfl,rfl⟩
   ·rw[Jm] at h;exact SeqAt.EqAt.str_int x t j u _ _ _ _ h
   ·rw[Jk] at h;exact wpAny_eqBool_str h
 «strs»:=λk x t v h=>by
  rcases cD h with ⟨i,u,rfl,e⟩ | ⟨y,u,rfl,e⟩
  ·exact nomatch e
  ·injection e with e1 _
   subst e1;cases v <;>rfl
theorem u9 (prog:Program) (w:World) (i:Int) (t:Tok):(cA prog w).is (.inl i) (.int i t)=true:=An i t
theorem va (prog:Program) (w:World) (x:Str) (t:Tok):(cA prog w).is (.inr x) (.str x t)=true:=Ao x t
inductive V where
 | bZ | bl (b:Bool) | int (i:Int) | str (x:Str) | Bs (b:Array UInt8) | Jn (b:UInt64) | ref (a:Addr) | ty (n:String)
 deriving DecidableEq
abbrev RelV:V->Value->Prop
 | .bZ,u=>u=Value.none
 | .bl b,u=>u=Value.bool b
 | .int i,u=>∃t,u=Value.int i t
 | .str x,u=>∃t,u=Value.str x t
 | .Bs b,u=>∃t,u=Value.bytes b t
 | .Jn b,u=>∃t,u=Value.float b t
 | .ref a,u=>u=Value.ref a
 | .ty n,u=>u=Value.type n
@[inline]abbrev br:List V->List Value->Prop:=Paired RelV
theorem br.length {xs:List V} {us:List Value} (r:br xs us):xs.length=us.length:=Paired.length r
theorem br.get:∀{xs:List V} {us:List Value} {i:Nat} {x:V},br xs us->xs[i]?=some x->∃u,us[i]?=some u/\RelV x u
 | _,_,_,_,.nil,e=>by simp at e
 | _,_,0,_,.cons r _,e=>by simp at e;subst e;exact⟨_,rfl,r⟩
 | _,_,i+1,x,.cons _ t,e=>by
  obtain⟨u,h1,h2⟩:=br.get (i:=i) (x:=x) t (by simpa using e);exact⟨u,by simpa using h1,h2⟩
theorem br.set {x:V} {u:Value} (r:RelV x u):∀{xs:List V} {us:List Value} (i:Nat),br xs us->br (xs.set i x) (us.set i u)
 | _,_,_,.nil=>.nil
 | _,_,0,.cons _ t=>.cons r t
 | _,_,i+1,.cons q t=>.cons q (br.set r i t)
theorem br.append:∀{xs ys:List V} {us ws:List Value},br xs us->br ys ws->br (xs++ys) (us++ws)
 | _,_,_,_,.nil,s=>s
 | _,_,_,_,.cons r t,s=>.cons r (br.append t s)
theorem br.take:∀{xs:List V} {us:List Value} (n:Nat),br xs us->br (xs.take n) (us.take n)
 | _,_,0,_=>.nil
 | _,_,_+1,.nil=>.nil
 | _,_,n+1,.cons r t=>.cons r (br.take n t)
theorem br.drop:∀{xs:List V} {us:List Value} (n:Nat),br xs us->br (xs.drop n) (us.drop n)
 | _,_,0,r=>r
 | _,_,_+1,.nil=>.nil
 | _,_,n+1,.cons _ t=>br.drop n t
abbrev iG:Option V->Option Value->Prop
 | some v,some u=>RelV v u
 | none,none=>True
 | _,_=>False
abbrev KV {κ:Type}:List (κ×V)->List (κ×Value)->Prop:=Paired fun(p:κ×V) (q:κ×Value)=>p.1=q.1/\RelV p.2 q.2
abbrev kV:Key->V
 | .inl i=>.int i
 | .inr x=>.str x
inductive HO where
 | lst (xs:List V)
 | tup (xs:List V)
 | dK (kvs:List (Key×V)) | dT (kvs:List (List Key×V))
 | set (S:Int->Bool) (n:Nat)
 | ins (C dx:Addr) (fs:List (Str×V))
 | own (x:Addr)
 | xd (fs:List (Str×V))
 | met (f x:Addr)
 | Q3 (lo hi:Int)
 | uT (o:Obj) (u:HO)
 | EG (ps:Array Value)
 | ext (φ:Heap->Prop)
@[inline]abbrev Hp:=Addr->Option HO
abbrev upd (H:Hp) (a:Addr) (o:HO):Hp:=λb=>if b=a then some o else H b
theorem ai {H:Hp} {a:Addr} {o:HO}:upd H a o a=some o:=by unfold upd;rw[if_pos rfl]
theorem aD {H:Hp} {a b:Addr} {o:HO} (h:b≠a):upd H a o b=H b:=by unfold upd;rw[if_neg h]
theorem yO {H:Hp} {a:Addr} {o u:HO}:upd (upd H a o) a u=upd H a u:=by
 funext b;unfold upd;split <;>rfl
theorem MC {H:Hp} {a b:Addr} {o u:HO} (h:H a=some o) (h':H b=some u) (d:o≠u):a≠b:=by
 intro e;subst e;rw[h] at h';exact d (aaC h')
theorem eR {H:Hp} {a b:Addr} {o:HO} (h:H a=some o) (h':H b=none):a≠b:=by
 intro e;subst e;rw[h] at h';cases h'
abbrev TabAt (H:Hp) (h:Heap) (a:Addr) (ps:Array Value):Prop:=∃mo:Array Value,h.get? a=some {cls:=.none,data:=.fields mo}/\
 (mo=#[]\/∃(l c:Value) (c1:Addr) (q:Str) (t:Tok),ps=#[l,c,.str q t]/\mo=#[l,c,.ref c1]/\H c1=some (.own a)/\h.CodeRec (.ref c1) q)
section
variable (P : Program) (w : World)
abbrev cE (H:Hp) (h:Heap) (a:Addr):HO->Prop
 | .lst xs=>xs.length<=sizeLine/\∃(bf:List Value) (n:Nat),br xs bf/\h.get? a=some {cls:=.type "list",data:=.seq bf.toArray n}
 | .tup xs=>xs.length<=sizeLine/\∃bf:List Value,br xs bf/\IsTup h a bf.toArray
 | .dK kvs=>kvs.length<=sizeLine/\(a==sysModules)=false/\∃vs,KV kvs vs/\h.DictOf (cA P w) a vs
 | .dT kvs=>kvs.length<=sizeLine/\(a==sysModules)=false/\∃xs:List (List Key×Addr×Value),
   Paired (fun(p:List Key×V) (q:List Key×Addr×Value)=>p.1=q.1/\H q.2.1=some (.tup (p.1.map kV))/\RelV p.2 q.2.2) kvs xs/\
   ∃o es ep,h.get? a=some o/\o.ExactDict/\o.data=.dict es ep/\es.toList=xs.map (entryOfKey (tupleKind (cA P w)))/\(xs.map (·.1)).Nodup
 | .set S n=>h.SetOf (intKind P w) a S n
 | .ins C dx fs=>H dx=some (.own a)/\fs.length<=1000/\dx≠a/\h.get? a=some (PySem.W.instObj C dx)/\
   ∃mA,h.Ns1 dx mA/\(∀f,iG (fs.lookup f) (mA f))/\PySem.Within mA (fs.map (·.1))
 | .own _=>∃o,h.get? a=some o
 | .xd fs=>∃mA,h.Ns1 a mA/\∀f,iG (fs.lookup f) (mA f)
 | .Q3 lo hi=>∃t u v,h.get? a=some {cls:=.type "range",data:=.fields #[.int lo t,.int hi u,.int 1 v]}
 | .uT o u=>h.get? a=some o/\cE H h a u
 | .EG ps=>TabAt H h a ps
 | .met f x=>h.get? a=some (PySem.W.methodObj (.ref f) (.ref x))
 | .ext φ=>φ h/\(∃o,h.get? a=some o)/\∀h1 h2:Heap,φ h1->(∀o,h1.get? a=some o->h2.get? a=some o)->φ h2
abbrev gG (H:Hp) (h:Heap):Prop:=∀a o,H a=some o->cE P w H h a o
end
section
variable {P : Program} {w : World} {H H' : Hp} {h h' : Heap} {a : Addr} {o : HO}
theorem cE.lt (x:cE P w H h a o):a<h.objs.size:=by
 cases o with
 | lst xs=>obtain⟨_,_,_,_,e⟩:=x;exact abx e
 | tup xs=>obtain⟨_,_,_,p⟩:=x;exact p.lt
 | dK kvs=>obtain⟨_,_,_,_,o,_,_,e,_⟩:=x;exact abx e
 | dT kvs=>obtain⟨_,_,_,_,o,_,_,e,_⟩:=x;exact abx e
 | set S n=>obtain⟨o,_,_,_,e,_⟩:=x;exact abx e
 | ins C dx fs=>obtain⟨_,_,_,e,_⟩:=x;exact abx e
 | own y=>obtain⟨_,e⟩:=x;exact abx e
 | xd fs=>obtain⟨_,⟨_,_,_,e,_⟩,_⟩:=x;exact abx e
 | Q3 lo hi=>obtain⟨_,_,_,e⟩:=x;exact abx e
 | uT ob u=>obtain⟨e,_⟩:=x;exact abx e
 | EG ps=>obtain⟨_,e,_⟩:=x;exact abx e
 | met f y=>exact abx (show h.get? a=some _ from x)
 | ext φ=>obtain⟨_,⟨_,e⟩,_⟩:=x;exact abx e
theorem Paired.Jo {α β:Type} {F G:α->β->Prop}:∀{l₁:List α} {l₂:List β},Paired F l₁ l₂->(∀a b,F a b->G a b)->Paired G l₁ l₂
 | _,_,.nil,_=>.nil
 | _,_,.cons r t,f=>.cons (f _ _ r) (Paired.Jo t f)
theorem cE.oZ (x:cE P w H h a o) (k:∀b u,(b=a\/H b=some (.own a))->h.get? b=some u->h'.get? b=some u)
  (ho:∀b,H b=some (.own a)->H' b=some (.own a)) (ht:∀b xs,H b=some (.tup xs)->H' b=some (.tup xs)):cE P w H' h' a o:=by
 induction o with
 | lst xs=>obtain⟨z,bf,n,r,e⟩:=x;exact⟨z,bf,n,r,k _ _ (.inl rfl) e⟩
 | tup xs=>obtain⟨z,bf,r,ob,e,c⟩:=x;exact⟨z,bf,r,ob,k _ _ (.inl rfl) e,c⟩
 | dK kvs=>obtain⟨z,y,vs,r,ob,es,ep,e,c⟩:=x;exact⟨z,y,vs,r,ob,es,ep,k _ _ (.inl rfl) e,c⟩
 | dT kvs=>
  obtain⟨z,y,xs,r,ob,es,ep,e,c⟩:=x;exact⟨z,y,xs,Paired.Jo r λp q z=>⟨z.1,ht _ _ z.2.1,z.2.2⟩,ob,es,ep,k _ _ (.inl rfl) e,c⟩
 | set S n=>obtain⟨ob,es,ep,t,e,c⟩:=x;exact⟨ob,es,ep,t,k _ _ (.inl rfl) e,c⟩
 | ins C dx fs=>
  obtain⟨d,z,ne,e,mA,⟨od,es,ep,e2,c⟩,r⟩:=x;exact⟨ho _ d,z,ne,k _ _ (.inl rfl) e,mA,⟨od,es,ep,k _ _ (.inr d) e2,c⟩,r⟩
 | own y=>obtain⟨ob,e⟩:=x;exact⟨ob,k _ _ (.inl rfl) e⟩
 | xd fs=>obtain⟨mA,⟨od,es,ep,e,c⟩,r⟩:=x;exact⟨mA,⟨od,es,ep,k _ _ (.inl rfl) e,c⟩,r⟩
 | Q3 lo hi=>obtain⟨t,u,v,e⟩:=x;exact⟨t,u,v,k _ _ (.inl rfl) e⟩
 | uT ob u ih=>obtain⟨e,q⟩:=x;exact⟨k _ _ (.inl rfl) e,ih q⟩
 | EG ps=>
  obtain⟨mo,e,q⟩:=x;refine⟨mo,k _ _ (.inl rfl) e,?_⟩;rcases q with q | ⟨l,c,c1,qn,t,e1,e2,e3,c2,o2,YB,t2,f1,f2,f3,f4⟩
  ·exact .inl q
  ·cases f1;exact .inr ⟨l,c,c1,qn,t,e1,e2,ho _ e3,c1,o2,YB,t2,rfl,k _ _ (.inr e3) f2,f3,f4⟩
 | met f y=>
  have e:h.get? a=some (PySem.W.methodObj (.ref f) (.ref y)):=x;show h'.get? a=some (PySem.W.methodObj (.ref f) (.ref y));exact k a _ (.inl rfl) e
 | ext φ=>obtain⟨p,⟨o,e⟩,st⟩:=x;exact⟨st _ _ p λo q=>k _ _ (.inl rfl) q,⟨o,k _ _ (.inl rfl) e⟩,st⟩
theorem gG.lt (x:gG P w H h) (e:H a=some o):a<h.objs.size:=(x a o e).lt
theorem gG.fresh (x:gG P w H h) (e:h.objs.size<=a):H a=none:=by
 cases q:H a with
 | none=>rfl
 | some u=>exact absurd (aaB (x.lt q) e) (aaL _)
theorem gG.kept (x:gG P w H h) (k:∀b u,h.get? b=some u->h'.get? b=some u):gG P w H h':=λa o e=>
 (x a o e).oZ (λb u _ q=>k b u q) (λ_ q=>q) λ_ _ q=>q
theorem gG.laid (x:gG P w H h) (k:∀b u,h.get? b=some u->h'.get? b=some u) (hp:h.objs.size<=a) (new:cE P w (upd H a o) h' a o):gG P w (upd H a o) h':=λb u e=>by
 have hn:=x.fresh hp
 by_cases hb:b=a
 ·subst hb;rw[ai] at e;cases e;exact new
 ·rw[aD hb] at e;exact(x b u e).oZ (λc v _ q=>k c v q) (λc q=>by rw[aD (eR q hn)];exact q) λc xs q=>by rw[aD (eR q hn)];exact q
end
abbrev Rd (H:Hp) (a:Addr) (u:HO):Prop:=H a=some u\/∃o,H a=some (.uT o u)
theorem Rd.ok {P:Program} {w:World} {H:Hp} {h:Heap} {a:Addr} {u:HO} (r:Rd H a u) (x:gG P w H h):cE P w H h a u:=by
 rcases r with r | ⟨o,r⟩
 ·exact x a u r
 ·obtain⟨_,q⟩:=x a _ r;exact q
abbrev MD:Option HO->Prop
 | some (.lst _)=>True
 | some (.dK _)=>True
 | some (.dT _)=>True
 | some (.set _ _)=>True
 | some (.ins _ _ _)=>True
 | some (.ext _)=>True
 | _=>False
section
variable {P : Program} {w : World} {H : Hp} {h h' : Heap} {x e : Addr} {o' : HO}
theorem gG.write (ok:gG P w H h) (mu:MD (H x)) (he:e=x\/H e=some (.own x)) (k:∀b u,b≠e->h.get? b=some u->h'.get? b=some u) (LZ:∃u,h'.get? e=some u)
  (new:cE P w (upd H x o') h' x o'):gG P w (upd H x o') h':=λb u q=>by
 have ME:∀c y,H c=some (.own y)->c≠x:=λc y r z=>by subst z;rw[r] at mu;exact mu
 have So:∀c xs,H c=some (.tup xs)->c≠x:=λc xs r z=>by subst z;rw[r] at mu;exact mu
 by_cases hb:b=x
 ·subst hb;rw[ai] at q;cases q;exact new
 ·rw[aD hb] at q
  by_cases Jp:b=e
  ·have q':H b=some (.own x):=by
    rcases he with z | z
    ·exact absurd (Jp.trans z) hb
    ·rw[Jp];exact z
   rw[q] at q';cases q';obtain⟨v,hv⟩:=LZ;exact⟨v,by rw[Jp];exact hv⟩
  ·refine(ok b u q).oZ (λc v hc r=>k c v ?_ r) (λc r=>by rw[aD (ME c b r)];exact r) λc xs r=>by rw[aD (So c xs r)];exact r
   rcases hc with rfl | hc
   ·exact Jp
   ·rintro rfl;rcases he with z | z
    ·exact ME c b hc z
    ·rw[hc] at z;cases z;exact hb rfl
end
structure Un (fs ex:List Addr) (H H':Hp) (h h':Heap):Prop where
 keep:∀b o,h.get? b=some o->H b=none->b∉fs->b∉ex->h'.get? b=some o
 slot:∀b o,h.get? b=some o->H b=none->b∈fs->b∉ex->∃sl,h'.get? b=some {o with slots:=sl}
 free:∀b o,h.get? b=some o->H b=none->b∉ex->H' b=none
 there:∀b o,h.get? b=some o->b∉ex->∃o',h'.get? b=some o'
 iH:∀b xs,H b=some (.tup xs)->H' b=some (.tup xs)
 hV:∀b o u,H b=some (.uT o u)->H' b=some (.uT o u)
 iJ:∀b ps,H b=some (.EG ps)->∃more,H' b=some (.EG (ps++more))
section
variable {fs YC ex Sq : List Addr} {H H1 H2 : Hp} {h h1 h2 h' : Heap} {a x e : Addr} {o : HO}
theorem Un.any (u:Un fs ex H H1 h h1) {b:Addr} {ob:Obj} (q:h.get? b=some ob) (n:H b=none) (hx:b∉ex):∃sl,h1.get? b=some {ob with slots:=sl}:=by
 by_cases hb:b∈fs
 ·exact u.slot b ob q n hb hx
 ·exact⟨ob.slots,u.keep b ob q n hb hx⟩
theorem Un.kept (k:∀b u,h.get? b=some u->h'.get? b=some u):Un fs ex H H h h':=
 ⟨λb ob q _ _ _=>k b ob q,λb ob q _ _ _=>⟨ob.slots,k b ob q⟩,λ_ _ _ n _=>n,λb ob q _=>⟨ob,k b ob q⟩,λ_ _ q=>q,λ_ _ _ q=>q,λ_ ps q=>⟨#[],by rw[q];simp⟩⟩
theorem Un.refl:Un fs ex H H h h:=Un.kept λ_ _ q=>q
theorem Un.laid (k:∀b u,h.get? b=some u->h'.get? b=some u) (hp:h.objs.size<=a) (hn:H a=none):Un fs ex H (upd H a o) h h' where
 keep:=λb u q _ _ _=>k b u q
 slot:=λb u q _ _ _=>⟨u.slots,k b u q⟩
 free:=λb u q n _=>by rw[aD (aav (aaB (abx q) hp))];exact n
 there:=λb u q _=>⟨u,k b u q⟩
 iH:=λb xs q=>by rw[aD (eR q hn)];exact q
 hV:=λb u xs q=>by rw[aD (eR q hn)];exact q
 iJ:=λb ps q=>⟨#[],by rw[aD (eR q hn),q];simp⟩
theorem Un.write (mu:MD (H x)) (he:e=x\/H e=some (.own x)) (k:∀b u,b≠e->h.get? b=some u->h'.get? b=some u) (LZ:∃u,h'.get? e=some u):Un fs ex H (upd H x o) h h':=by
 have hx:∀b,H b=none->b≠x:=λb n z=>by subst z;rw[n] at mu;exact mu
 have hb:∀b,H b=none->b≠e:=λb n z=>by
  subst z;rcases he with r | r
  ·exact hx b n r
  ·rw[n] at r;cases r
 have hm:∀b u,H b=some u->¬MD (some u)->b≠x:=λb u q nm z=>by subst z;rw[q] at mu;exact nm mu
 refine⟨λb u q n _ _=>k b u (hb b n) q,λb u q n _ _=>⟨u.slots,k b u (hb b n) q⟩,λb u q n _=>by rw[aD (hx b n)];exact n,λb u q _=>?_,
  λb xs q=>by rw[aD (hm b _ q λz=>z)];exact q,λb u xs q=>by rw[aD (hm b _ q λz=>z)];exact q,λb ps q=>⟨#[],by rw[aD (hm b _ q λz=>z),q];simp⟩⟩
 by_cases Jp:b=e
 ·subst Jp;exact LZ
 ·exact⟨u,k b u Jp q⟩
end
abbrev Q4 (h:Heap) (H:Hp):List Addr:=(List.range h.objs.size).filter λa=>(H a).isSome
abbrev sW (h:Heap) (H:Hp):Heap:=PySem.W.hideAll h (Q4 h H)
theorem Ap (h:Heap) (H:Hp):(sW h H).objs.size=h.objs.size:=PySem.W.hideAll_size _ _
theorem BG {h:Heap} {H:Hp} {b:Addr} {o:Obj} (e:h.get? b=some o) (n:H b=none):(sW h H).get? b=some o:=
 PySem.W.hideAll_get _ e λhm=>by
  have q:(H b).isSome=true:=(List.mem_filter.mp hm).2;rw[n] at q;simp at q
theorem EY {h:Heap} {H:Hp} {b:Addr} {o:Obj} (e:(sW h H).get? b=some o):h.get? b=some o/\H b=none:=by
 have e':h.get? b=some o:=PySem.W.of_hideAll (Q4 h H) e;refine⟨e',?_⟩;cases q:H b with
 | none=>rfl
 | some x=>
  have hm:b∈Q4 h H:=List.mem_filter.mpr ⟨List.mem_range.mpr (abx e'),by simp [q]⟩;have z:(sW h H).get? b=none:=PySem.W.hideAll_none (Q4 h H) hm;rw[z] at e;cases e
abbrev EZ (g h:Heap) (L:Addr):List (Addr×Obj):=(List.range h.objs.size).filterMap λa=>if a=L\/(g.get? a).isSome=true then none else (h.get? a).map λo=>(a,o)
abbrev rest (g h:Heap) (L d:Addr):List (Addr×Obj):=(EZ g h L).filter λp=>decide (p.1≠d)
structure Mod (K:abk) (mg:Str->Option Value) (base:Heap):Prop where
 E1:K.In base
 glob:base.Ns mainGlobals mg
 blt:∃mb,base.Ns builtinsNs mb/\∀x:Str,x≠"__name__"->mb x=bootBuiltins x
 nolimit:base.NoLimit
structure Cx where
 prog:Program
 w:World
 K:abk
 mg:Str->Option Value
 base:Heap
 A:Around
 N:List Str
 s₀:Shared
 H₀:Hp
 env:Env
 outer:List Env
 stack:List Env
 ex:List Addr
 fn:Str->Bool
 calm:Bool
 pn:List (Addr×Obj)
 xe:Value->Shared->Prop
def dN (l:List Env):List Addr:=l.filterMap (·.frame)
@[inline]abbrev Cx.fs (X:Cx):List Addr:=dN X.outer
abbrev Sr (sc:Scope) (x:Str):Prop:=sc.names.lookup x=some .local\/sc.names.lookup x=some .cell\/sc.names.lookup x=some .free
abbrev Loc (sc:Scope) (x:Str):Prop:=sc.names.lookup x=some .local\/sc.names.lookup x=some .cell
abbrev Look (env:Env) (h:Heap) (m:Str->Option Value) (x:Str) (u:Value):Prop:=
 (env.kindOf x=some .local/\m x=some u)\/((env.kindOf x=some .cell\/env.kindOf x=some .free)/\∃c,env.cells.lookup x=some c/\h.IsCell c (some u))
structure Cx.Ok (X:Cx):Prop where
 mod:Mod X.K X.mg X.base
 kind:X.env.scope.kind=.function
 glob:X.env.globals=mainGlobals
 blt:X.env.builtins=builtinsNs
 above:X.s₀.heap.objs.size<=X.env.locals
 inj:∀x y c,X.env.cells.lookup x=some c->X.env.cells.lookup y=some c->x=y
 has:∀x,(X.env.kindOf x=some .cell\/X.env.kindOf x=some .free)->∃c,X.env.cells.lookup x=some c
 Jq:∀x c,X.fn x=true->X.env.cells.lookup x=some c->X.s₀.heap.objs.size<=c
 hd:X.calm=true->X.A.handled=none
 frames:X.A.frames=some X.stack
 L1:X.stack=X.outer\/(X.stack=X.env::X.outer/\X.env.frame=some X.env.locals)
 Q5:∀b∈X.ex,b≠X.env.locals/\∀x c,X.env.cells.lookup x=some c->c≠b
 bs:∀b o,X.base.get? b=some o->X.s₀.heap.get? b=some o/\X.H₀ b=none
 BH:X.base.objs.size<=X.s₀.heap.objs.size
 xk:∀b o,X.base.get? b=some o->b∉X.ex
 Aq:∀b∈X.ex,b∉X.fs
 kC:X.s₀.heap.FunFrames X.base X.outer
 E2:∀b∈X.fs,X.H₀ b=none
structure Inv (X:Cx) (pins:List (Addr×Obj)) (σ:List (Option V)) (H:Hp) (s:Shared):Prop where
 ok:X.Ok
 os:s.os=X.s₀.os
 bare:AllBare s.gens
 base:Un X.fs X.ex X.H₀ H X.s₀.heap s.heap
 loc:∃m,s.heap.Ns X.env.locals m/\∀(i:Nat) (x:Str) (v:V),X.N[i]?=some x->σ[i]?=some (some v)->Sr X.env.scope x->∃u,RelV v u/\Look X.env s.heap m x u
 cell:∀x c,X.env.cells.lookup x=some c->∃v,s.heap.IsCell c v
 free:H X.env.locals=none
 fQ:∀x c,X.env.cells.lookup x=some c->H c=none
 pin:∀p∈X.pn++pins,s.heap.get? p.1=some p.2/\H p.1=none/\p.1≠X.env.locals/\p.1∉X.fs/\∀v,p.2.data≠.cell v
 bL:gG X.prog X.w H s.heap
 len:σ.length=X.N.length
section
variable {X : Cx} {pins : List (Addr × Obj)} {σ : List (Option V)} {H H' : Hp} {s : Shared} {h' : Heap}
theorem Cx.Ok.Ss (ok:X.Ok) {b:Addr} {o:Obj} (e:X.base.get? b=some o):b∉X.fs:=λhb=>by
 have:=(ok.kC.mem hb).1;rw[e] at this;cases this
theorem Inv.bs (I:Inv X pins σ H s):∀b o,X.base.get? b=some o->s.heap.get? b=some o/\H b=none:=λb o e=>
 ⟨I.base.keep b o (I.ok.bs b o e).1 (I.ok.bs b o e).2 (I.ok.Ss e) (I.ok.xk b o e),I.base.free b o (I.ok.bs b o e).1 (I.ok.bs b o e).2 (I.ok.xk b o e)⟩
theorem Inv.bk (I:Inv X pins σ H s):∀b o,X.base.get? b=some o->s.heap.get? b=some o:=λb o e=>(I.bs b o e).1
theorem Inv.mod (I:Inv X pins σ H s):Mod X.K X.mg X.base:=I.ok.mod
theorem Inv.iK (I:Inv X pins σ H s):X.K.In s.heap:=I.ok.mod.E1.keeps I.bk
theorem Inv.lt (I:Inv X pins σ H s):X.env.locals<s.heap.objs.size:=let ⟨_,hn,_⟩:=I.loc;hn.lt
theorem Inv.sz (I:Inv X pins σ H s):X.s₀.heap.objs.size<=s.heap.objs.size:=aau I.ok.above (Nat.le_of_lt I.lt)
theorem Inv.Su (I:Inv X pins σ H s) {a:Addr} (h:s.heap.objs.size<=a):a∉X.fs:=λhb=>by
 obtain⟨_,o,ho,_⟩:=I.ok.kC.mem hb;exact absurd (aaB (abx ho) (aau I.sz h)) (aaL _)
theorem Inv.E3 (I:Inv X pins σ H s):∀x c,X.env.cells.lookup x=some c->c≠X.env.locals:=λx c e z=>by
 obtain⟨v,o,ho,hd⟩:=I.cell x c e;obtain⟨m,⟨o',es,ep,Ar,Sv,_⟩,_⟩:=I.loc;rw[z,Ar] at ho;cases ho;rw[Sv] at hd;cases hd
theorem Inv.kC (I:Inv X pins σ H s):s.heap.FunFrames X.base X.outer:=by
 have all:∀(l:List Env),(∀b∈dN l,b∈X.fs)->X.s₀.heap.FunFrames X.base l->s.heap.FunFrames X.base l:=by
  intro l
  induction l with
  | nil=>intro _ _;trivial
  | cons env r ih=>
   intro hs hl;obtain⟨hk,⟨L,o,hf,hn,ho,hd⟩,hr⟩:=hl;have hL:L∈X.fs:=hs L (by unfold dN;rw[aaS,hf];exact aar);obtain⟨sl,e⟩:=I.base.slot L o ho (I.ok.E2 L hL) hL λz=>I.ok.Aq L z hL;exact⟨hk,⟨L,_,hf,hn,e,hd⟩,ih (λb hb=>hs b (by unfold dN;rw[aaS,hf];exact aap _ hb)) hr⟩
 exact all X.outer (λ_ hb=>hb) I.ok.kC
theorem Inv.stack (I:Inv X pins σ H s):s.heap.FunFrames X.base X.stack:=by
 rcases I.ok.L1 with e | ⟨e,hf⟩
 ·rw[e];exact I.kC
 ·rw[e];obtain⟨m,hn,_⟩:=I.loc;refine .cons (by rw[I.ok.kind];decide) hf hn ?_ I.kC;exact Heap.get?_none_of_le (aau I.ok.BH I.ok.above)
theorem Inv.sX (I:Inv X pins σ H s):∀b∈dN X.stack,b∈X.env.locals::X.fs:=λb hb=>by
 rcases I.ok.L1 with e | ⟨e,hf⟩
 ·rw[e] at hb;exact aap _ hb
 ·rw[e] at hb;unfold dN at hb;rw[aaS,hf] at hb;exact hb
theorem Inv.kD (I:Inv X pins σ H s):∀b∈dN X.stack,H b=none:=λb hb=>by
 rcases aaX.mp (I.sX b hb) with e | hb
 ·rw[e];exact I.free
 ·obtain⟨_,o,ho,_⟩:=I.ok.kC.mem hb;exact I.base.free b o ho (I.ok.E2 b hb) λz=>I.ok.Aq b z hb
theorem Inv.step {g':Array GenState} {t':Nat} {d':Drawn} {ch:List Addr} (I:Inv X pins σ H s)
  (EH:∀b∈ch,(b∈X.ex\/X.s₀.heap.objs.size<=b)/\b≠X.env.locals/\(∀x c,X.env.cells.lookup x=some c->c≠b)/\∀p∈X.pn++pins,p.1≠b)
  (keep:∀b o,b≠X.env.locals->b∉X.fs->b∉ch->s.heap.get? b=some o->H b=none->h'.get? b=some o)
  (slot:∀b o,b≠X.env.locals->b∈X.fs->b∉ch->s.heap.get? b=some o->H b=none->∃sl,h'.get? b=some {o with slots:=sl}) (free:∀b o,b∉ch->s.heap.get? b=some o->H b=none->H' b=none)
  (there:∀b o,b∉ch->s.heap.get? b=some o->∃o',h'.get? b=some o')
  (iH:∀b xs,H b=some (.tup xs)->H' b=some (.tup xs)) (hV:∀b o u,H b=some (.uT o u)->H' b=some (.uT o u)) (iJ:∀b ps,H b=some (.EG ps)->∃more,H' b=some (.EG (ps++more)))
  (ns:∀m,s.heap.Ns X.env.locals m->h'.Ns X.env.locals m) (bL:gG X.prog X.w H' h') (hg:AllBare g'):
  Inv X pins σ H' {s with heap:=h',gens:=g',drawn:=d',toks:=t'}:=by
 have WS:∀b o,X.s₀.heap.get? b=some o->b≠X.env.locals:=λb o e=>aav (aaB (abx e) I.ok.above);have Q6:∀b o,X.s₀.heap.get? b=some o->b∉X.ex->b∉ch:=λb o e hx hb=>by
  rcases(EH b hb).1 with z | z
  ·exact hx z
  ·exact absurd (aaB (abx e) z) (aaL _)
 have cellK:∀x c,X.env.cells.lookup x=some c->∀v,s.heap.IsCell c v->h'.IsCell c v:=λx c e v ⟨o,ho,hd⟩=>by
  have EI:c∉ch:=λz=>(EH c z).2.2.1 x c e rfl
  by_cases hc:c∈X.fs
  ·obtain⟨sl,q⟩:=slot c o (I.E3 x c e) hc EI ho (I.fQ x c e);exact⟨_,q,hd⟩
  ·exact⟨o,keep c o (I.E3 x c e) hc EI ho (I.fQ x c e),hd⟩
 refine⟨I.ok,I.os,hg,⟨λb o e n hb hx=>?_,λb o e n hb hx=>?_,λb o e n hx=>?_,λb o e hx=>?_,λb xs e=>iH b xs (I.base.iH b xs e),λb o xs e=>hV b o xs (I.base.hV b o xs e),λb ps e=>?_⟩,?_,λx c e=>?_,?_,λx c e=>?_,λp hp=>?_,bL,I.len⟩
 ·exact keep b o (WS b o e) hb (Q6 b o e hx) (I.base.keep b o e n hb hx) (I.base.free b o e n hx)
 ·obtain⟨sl,e1⟩:=I.base.slot b o e n hb hx;obtain⟨MF,e2⟩:=slot b _ (WS b o e) hb (Q6 b o e hx) e1 (I.base.free b o e n hx);exact⟨MF,e2⟩
 ·obtain⟨o',e1⟩:=I.base.there b o e hx;exact free b o' (Q6 b o e hx) e1 (I.base.free b o e n hx)
 ·obtain⟨o',e1⟩:=I.base.there b o e hx;exact there b o' (Q6 b o e hx) e1
 ·obtain⟨m1,e1⟩:=I.base.iJ b ps e;obtain⟨m2,e2⟩:=iJ b _ e1;exact⟨m1++m2,by rw[e2,Array.append_assoc]⟩
 ·obtain⟨m,hn,hl⟩:=I.loc;refine⟨m,ns m hn,λi x v e1 e2 e3=>?_⟩;obtain⟨u,r,l⟩:=hl i x v e1 e2 e3;refine⟨u,r,?_⟩;rcases l with l | ⟨k,c,e,z⟩
  ·exact .inl l
  ·exact .inr ⟨k,c,e,cellK x c e _ z⟩
 ·obtain⟨v,z⟩:=I.cell x c e;exact⟨v,cellK x c e v z⟩
 ·obtain⟨m,⟨o,_,_,ho,_⟩,_⟩:=I.loc;exact free _ o (λz=>(EH _ z).2.1 rfl) ho I.free
 ·obtain⟨v,o,ho,hd⟩:=I.cell x c e;exact free c o (λz=>(EH c z).2.2.1 x c e rfl) ho (I.fQ x c e)
 ·obtain⟨e,n,ne,nf,d⟩:=I.pin p hp;have EI:p.1∉ch:=λz=>(EH p.1 z).2.2.2 p hp rfl;exact⟨keep p.1 p.2 ne nf EI e n,free p.1 p.2 EI e n,ne,nf,d⟩
theorem Inv.un {t':Nat} (I:Inv X pins σ H s) (u:Un X.fs [] H H' s.heap h') (bL:gG X.prog X.w H' h'):Inv X pins σ H' {s with heap:=h',toks:=t'}:=by
 obtain⟨m,⟨o,es,ep,ho,r⟩,_⟩:=id I.loc;obtain⟨sl,hL⟩:=u.any ho I.free (by simp);exact I.step (g':=s.gens) (d':=s.drawn) (ch:=[]) (λ_ z=>nomatch z) (λb o _ hb _ e n=>u.keep b o e n hb (by simp)) (λb o _ hb _ e n=>u.slot b o e n hb (by simp)) (λb o _ e n=>u.free b o e n (by simp)) (λb o _ e=>u.there b o e (by simp)) u.iH u.hV u.iJ (λm' hm=>by
  obtain⟨o',Sw,xo,Ar,r'⟩:=hm;rw[ho] at Ar;cases Ar;exact⟨_,Sw,xo,hL,r'⟩) bL I.bare
theorem Inv.call {g':Array GenState} {t':Nat} {d':Drawn} {ch:List Addr} (I:Inv X pins σ H s) (u:Un (dN X.stack) ch H H' s.heap h') (bL:gG X.prog X.w H' h') (hg:AllBare g')
  (EH:∀b∈ch,(b∈X.ex\/X.s₀.heap.objs.size<=b)/\b≠X.env.locals/\(∀x c,X.env.cells.lookup x=some c->c≠b)/\∀p∈X.pn++pins,p.1≠b):
  Inv X pins σ H' {s with heap:=h',gens:=g',drawn:=d',toks:=t'}:=by
 obtain⟨m,⟨o,es,ep,ho,r⟩,_⟩:=id I.loc;obtain⟨sl,hL⟩:=u.any ho I.free λz=>(EH _ z).2.1 rfl;exact I.step (ch:=ch) EH (λb o hL hb hc e n=>u.keep b o e n (λz=>(aaX.mp (I.sX b z)).elim hL hb) hc) (λb o _ _ hc e n=>u.any e n hc) (λb o hc e n=>u.free b o e n hc) (λb o hc e=>u.there b o e hc) u.iH u.hV u.iJ (λm' hm=>by
  obtain⟨o',Sw,xo,Ar,r'⟩:=hm;rw[ho] at Ar;cases Ar;exact⟨_,Sw,xo,hL,r'⟩) bL hg
theorem Inv.turned {t':Nat} {it:Addr} (I:Inv X pins σ H s) (k:∀b o,b≠it->s.heap.get? b=some o->h'.get? b=some o) (hn:H it=none) (hL:it≠X.env.locals)
  (h1:it∈X.ex\/X.s₀.heap.objs.size<=it) (h2:∀x c,X.env.cells.lookup x=some c->c≠it) (h3:∀p∈X.pn++pins,p.1≠it):Inv X pins σ H {s with heap:=h',toks:=t'}:=by
 have WT:∀b u,H b=some u->b≠it:=λb u e z=>by rw[z,hn] at e;cases e
 refine I.step (g':=s.gens) (d':=s.drawn) (ch:=[it]) (λb hb=>?_) (λb o _ _ hc e _=>k b o (λz=>hc (by simp [z])) e) (λb o _ _ hc e _=>⟨o.slots,k b o (λz=>hc (by simp [z])) e⟩) (λ_ _ _ _ n=>n)
  (λb o hc e=>⟨o,k b o (λz=>hc (by simp [z])) e⟩) (λ_ _ e=>e) (λ_ _ _ e=>e) (λb ps e=>⟨#[],by rw[e];simp⟩) (λm hm=>?_) (λb u e=>?_) I.bare
 ·have e:b=it:=by simpa using hb
  subst e;exact⟨h1,hL,h2,h3⟩
 ·obtain⟨o,es,ep,ho,r⟩:=hm;exact⟨o,es,ep,k _ o (Ne.symm hL) ho,r⟩
 ·refine(I.bL b u e).oZ (λc v hc q=>k c v ?_ q) (λ_ q=>q) λ_ _ q=>q;rcases hc with z | z
  ·rw[z];exact WT b u e
  ·exact WT c _ z
theorem Inv.tok (I:Inv X pins σ H s) (t:Nat):Inv X pins σ H {s with toks:=t}:=I.un (h':=s.heap) (t':=t) Un.refl I.bL
theorem Inv.kept {t':Nat} (I:Inv X pins σ H s) (k:∀b u,s.heap.get? b=some u->h'.get? b=some u):Inv X pins σ H {s with heap:=h',toks:=t'}:=I.un (Un.kept k) (I.bL.kept k)
theorem Inv.laid {a:Addr} {o:HO} {t':Nat} (I:Inv X pins σ H s) (k:∀b u,s.heap.get? b=some u->h'.get? b=some u) (hp:s.heap.objs.size<=a) (new:cE X.prog X.w (upd H a o) h' a o):
  Inv X pins σ (upd H a o) {s with heap:=h',toks:=t'}:=I.un (Un.laid k hp (I.bL.fresh hp)) (I.bL.laid k hp new)
theorem Inv.write {x e:Addr} {o:HO} {t':Nat} (I:Inv X pins σ H s) (mu:MD (H x)) (he:e=x\/H e=some (.own x)) (k:∀b u,b≠e->s.heap.get? b=some u->h'.get? b=some u) (LZ:∃u,h'.get? e=some u)
  (new:cE X.prog X.w (upd H x o) h' x o):Inv X pins σ (upd H x o) {s with heap:=h',toks:=t'}:=I.un (Un.write mu he k LZ) (I.bL.write mu he k LZ new)
theorem Inv.je {Hq:List (Addr×Obj)} (I:Inv X pins σ H s) (h:∀p∈Hq,s.heap.get? p.1=some p.2/\H p.1=none/\p.1≠X.env.locals/\p.1∉X.fs/\∀v,p.2.data≠.cell v):Inv X Hq σ H s:=
 ⟨I.ok,I.os,I.bare,I.base,I.loc,I.cell,I.free,I.fQ,λp hp=>(List.mem_append.mp hp).elim (λz=>I.pin p (abe _ z)) (h p),I.bL,I.len⟩
theorem o4 {N:List Str} (hN:N.Nodup) {i j:Nat} {x:Str} (a:N[i]?=some x) (b:N[j]?=some x):i=j:=by
 obtain⟨h1,e1⟩:=abr.mp a;obtain⟨h2,e2⟩:=abr.mp b;exact(List.getElem_inj hN).mp (e1.trans e2.symm)
theorem rQ {M:Model} {A:Around} {E:Value->Shared->Prop} {i:Nat} {x:Str} {v:V} {u:Value} {Q:Unit->Shared->Prop} (I:Inv X pins σ H s) (hN:X.N.Nodup) (hi:X.N[i]?=some x) (hx:Loc X.env.scope x) (r:RelV v u)
  (h:∀s',Inv X pins (σ.set i (some v)) H s'->(∃a,Heap.SameBut a s.heap s'.heap/\(a=X.env.locals\/X.env.cells.lookup x=some a))->Q () s') (hf:X.fn x=true\/X.env.scope.names.lookup x=some .local:=by first | exact .inl rfl | exact .inr rfl | assumption):wpAny M A (storeName X.env x u) Q E s:=by
 obtain⟨m,hn,hl⟩:=id I.loc;have Jr:(X.env.scope.kind==.class || (X.env.scope.kind==.module && X.env.locals !=X.env.globals))=false:=by rw[I.ok.kind];rfl
 have Js:i<σ.length:=by rw[I.len];exact(abr.mp hi).1
 have E3:=I.E3;have tracked:∀{a:Addr} {h':Heap},(∃o,s.heap.get? a=some o/\H a=none)->Heap.SameBut a s.heap h'->gG X.prog X.w H h':=λ{a h'} ha hs b ob e=>by
  obtain⟨_,_,Hr⟩:=ha;refine(I.bL b ob e).oZ (λc w' hc q=>(hs.2 c ?_).trans q) (λ_ q=>q) λ_ _ q=>q;rintro rfl;rcases hc with rfl | hc
  ·rw[Hr] at e;cases e
  ·rw[Hr] at hc;cases hc
 rcases hx with hk | hk
 ·refine wpAny_storeName_local hk hn (λh' YD hs=>?_) Jr;obtain⟨oL,_,_,MG,_⟩:=id hn;refine h _ ⟨I.ok,I.os,I.bare,⟨λb o e n hb hx=>?_,λb o e n hb hx=>?_,I.base.free,λb o e hx=>?_,I.base.iH,I.base.hV,I.base.iJ⟩,⟨_,YD,λj y v' e1 e2 e3=>?_⟩,λy c e=>?_,I.free,I.fQ,λp hp=>?_,tracked ⟨oL,MG,I.free⟩ hs,by simpa using I.len⟩ ⟨_,hs,.inl rfl⟩
  ·exact(hs.2 b (aav (aaB (abx e) I.ok.above))).trans (I.base.keep b o e n hb hx)
  ·obtain⟨sl,e1⟩:=I.base.slot b o e n hb hx;exact⟨sl,(hs.2 b (aav (aaB (abx e) I.ok.above))).trans e1⟩
  ·obtain⟨o',e1⟩:=I.base.there b o e hx;exact⟨o',(hs.2 b (aav (aaB (abx e) I.ok.above))).trans e1⟩
  ·by_cases hj:j=i
   ·subst hj;rw[hi] at e1;cases e1;rw[List.getElem?_set_self Js] at e2;cases e2;exact⟨u,r,.inl ⟨hk,by simp⟩⟩
   ·rw[List.getElem?_set_ne (Ne.symm hj)] at e2;obtain⟨u',r',q⟩:=hl j y v' e1 e2 e3;refine⟨u',r',?_⟩;rcases q with ⟨k,e⟩ | ⟨k,c,e,z⟩
    ·refine .inl ⟨k,?_⟩;have:y≠x:=λe=>hj (o4 hN e1 (e▸hi));simp [this,e]
    ·exact .inr ⟨k,c,e,z.sameBut hs (E3 y c e)⟩
  ·obtain⟨w',z⟩:=I.cell y c e;exact⟨w',z.sameBut hs (E3 y c e)⟩
  ·obtain⟨e,n,ne,nf,d⟩:=I.pin p hp;exact⟨(hs.2 p.1 ne).trans e,n,ne,nf,d⟩
 ·have Sx:X.fn x=true:=by
   rcases hf with z | z
   ·exact z
   ·rw[z] at hk;cases hk
  obtain⟨c,hc⟩:=I.ok.has x (.inl hk);obtain⟨w',z⟩:=I.cell x c hc;refine wpAny_storeName_cell I.ok.kind hk hc z (λh' Q7 hs=>?_);obtain⟨oc,WU,Sy⟩:=id z;refine h {s with heap:=h'} ⟨I.ok,I.os,I.bare,⟨λb o e n hb hx=>?_,λb o e n hb hx=>?_,I.base.free,λb o e hx=>?_,I.base.iH,I.base.hV,I.base.iJ⟩,⟨m,hn.sameBut hs (Ne.symm (E3 x c hc)),λj y v' e1 e2 e3=>?_⟩,λy c' e=>?_,I.free,I.fQ,λp hp=>?_,tracked ⟨oc,WU,I.fQ x c hc⟩ hs,by simpa using I.len⟩ ⟨c,hs,.inr hc⟩
  ·exact(hs.2 b (aav (aaB (abx e) (I.ok.Jq x c Sx hc)))).trans (I.base.keep b o e n hb hx)
  ·obtain⟨sl,e1⟩:=I.base.slot b o e n hb hx;exact⟨sl,(hs.2 b (aav (aaB (abx e) (I.ok.Jq x c Sx hc)))).trans e1⟩
  ·obtain⟨o',e1⟩:=I.base.there b o e hx;exact⟨o',(hs.2 b (aav (aaB (abx e) (I.ok.Jq x c Sx hc)))).trans e1⟩
  ·by_cases hj:j=i
   ·subst hj;rw[hi] at e1;cases e1;rw[List.getElem?_set_self Js] at e2;cases e2;exact⟨u,r,.inr ⟨.inl hk,c,hc,Q7⟩⟩
   ·rw[List.getElem?_set_ne (Ne.symm hj)] at e2;obtain⟨u',r',q⟩:=hl j y v' e1 e2 e3;refine⟨u',r',?_⟩;rcases q with q | ⟨k,c',e,z'⟩
    ·exact .inl q
    ·refine .inr ⟨k,c',e,z'.sameBut hs ?_⟩;rintro rfl;exact hj (o4 hN e1 (I.ok.inj _ _ _ e hc▸hi))
  ·by_cases MH:c'=c
   ·subst MH;exact⟨_,Q7⟩
   ·obtain⟨w2,z2⟩:=I.cell y c' e;exact⟨w2,z2.sameBut hs MH⟩
  ·obtain⟨e,n,ne,nf,d⟩:=I.pin p hp;refine⟨(hs.2 p.1 ?_).trans e,n,ne,nf,d⟩;intro q;rw[q,WU] at e;have q':oc=p.2:=aaC e;exact d w' (by rw[<-q'];exact Sy)
theorem fc {M:Model} {A:Around} {E:Value->Shared->Prop} {i:Nat} {x:Str} {v:V} {u:Value} {Q:Unit->Shared->Prop} (I:Inv X pins σ H s) (hN:X.N.Nodup) (hi:X.N[i]?=some x) (hx:Loc X.env.scope x) (r:RelV v u)
  (h:∀s',Inv X pins (σ.set i (some v)) H s'->Q () s') (hf:X.fn x=true\/X.env.scope.names.lookup x=some .local:=by first | exact .inl rfl | exact .inr rfl | assumption):wpAny M A (storeName X.env x u) Q E s:=
 rQ I hN hi hx r (λs' I' _=>h s' I') hf
theorem Inv.BI {s':Shared} {ch:List Addr} (I:Inv X pins σ H s) (ho:s'.os=s.os) (u:Un (dN X.stack) ch H H' s.heap s'.heap) (bL:gG X.prog X.w H' s'.heap) (hg:AllBare s'.gens)
  (EH:∀b∈ch,(b∈X.ex\/X.s₀.heap.objs.size<=b)/\b≠X.env.locals/\(∀x c,X.env.cells.lookup x=some c->c≠b)/\∀p∈X.pn++pins,p.1≠b):Inv X pins σ H' s':=by
 obtain⟨h',g',d',t',o'⟩:=s';have e:o'=s.os:=ho;subst e;exact I.call (g':=g') (t':=t') (d':=d') u bL hg EH
end
@[inline]abbrev XK:=Value->Option Addr->Hp->Prop
@[inline]abbrev St:=List (Option V)
@[inline]abbrev VK:=V->Hp->Prop
@[inline]abbrev TE:=St->Hp->VK->Prop
@[inline]abbrev TT:=St->Hp->(Bool->Hp->Prop)->Prop
@[inline]abbrev TA:=St->Hp->(List V->Hp->Prop)->Prop
structure Ends where
 nx:St->Hp->Prop
 rt:VK
 bk:St->Hp->Prop:=λ_ _=>False
 ct:St->Hp->Prop:=λ_ _=>False
@[inline]abbrev TS:=Ends->St->Hp->Prop
abbrev EP (X:Cx) (pins:List (Addr×Obj)) (σ:St) (Q:VK) (u:Value) (s':Shared):Prop:=∃v H',Inv X pins σ H' s'/\RelV v u/\Q v H'
abbrev TP (X:Cx) (pins:List (Addr×Obj)) (σ:St) (Q:Bool->Hp->Prop) (b:Bool) (s':Shared):Prop:=∃H',Inv X pins σ H' s'/\Q b H'
abbrev AP (X:Cx) (pins:List (Addr×Obj)) (σ:St) (Q:List V->Hp->Prop) (us:List Value) (s':Shared):Prop:=∃vs H',Inv X pins σ H' s'/\br vs us/\Q vs H'
abbrev SP (X:Cx) (pins:List (Addr×Obj)) (D:Ends) (f:Flow) (s':Shared):Prop:=
 match f with
 | .next=>∃σ' H',Inv X pins σ' H' s'/\D.nx σ' H'
 | .brk=>∃σ' H',Inv X pins σ' H' s'/\D.bk σ' H'
 | .cont=>∃σ' H',Inv X pins σ' H' s'/\D.ct σ' H'
 | .ret u=>∃v σ' H',Inv X pins σ' H' s'/\RelV v u/\D.rt v H'
abbrev PE (X:Cx) (e:Expr) (t:TE):Prop:=
 ∀(pins:List (Addr×Obj)) (s:Shared) (σ:St) (H:Hp) (Q:VK),Inv X pins σ H s->t σ H Q->wpAny (model X.prog X.w) X.A (eval e X.env) (EP X pins σ Q) X.xe s
abbrev PT (X:Cx) (e:Expr) (t:TT):Prop:=
 ∀(pins:List (Addr×Obj)) (s:Shared) (σ:St) (H:Hp) (Q:Bool->Hp->Prop),Inv X pins σ H s->t σ H Q->wpAny (model X.prog X.w) X.A (isTrue e X.env (eval e X.env)) (TP X pins σ Q) X.xe s
abbrev PW (X:Cx) (e:Expr) (t:TT):Prop:=
 ∀(whole:Sem Value) (pins:List (Addr×Obj)) (s:Shared) (σ:St) (H:Hp) (Q:Bool->Hp->Prop),Inv X pins σ H s->t σ H Q->wpAny (model X.prog X.w) X.A (isTrue e X.env whole) (TP X pins σ Q) X.xe s
theorem PW.pt {X:Cx} {e:Expr} {t:TT} (h:PW X e t):PT X e t:=h _
abbrev PA (X:Cx) (es:List Expr) (t:TA):Prop:=
 ∀(pos:Pos) (pins:List (Addr×Obj)) (s:Shared) (σ:St) (H:Hp) (Q:List V->Hp->Prop),Inv X pins σ H s->t σ H Q->wpAny (model X.prog X.w) X.A (spliced (backTo pos (starEach es X.env))) (AP X pins σ Q) X.xe s
abbrev PS (X:Cx) (st:Stmt) (t:TS):Prop:=
 ∀(pins:List (Addr×Obj)) (s:Shared) (σ:St) (H:Hp) (D:Ends),Inv X pins σ H s->t D σ H->wpAny (model X.prog X.w) X.A (exec st X.env) (SP X pins D) X.xe s
abbrev vb (X:Cx) (st:List Stmt) (t:TS):Prop:=
 ∀(pins:List (Addr×Obj)) (s:Shared) (σ:St) (H:Hp) (D:Ends),Inv X pins σ H s->t D σ H->wpAny (model X.prog X.w) X.A (execs st X.env) (SP X pins D) X.xe s
theorem cb {α:Type} {t:Sem α} {Q Q':α->Shared->Prop} {M:Model} {A:Around} {E:Value->Shared->Prop} {s:Shared} (h:wpAny M A t Q E s) (hQ:∀a s,Q a s->Q' a s):wpAny M A t Q' E s:=wpAny_mono h hQ λ_ _ x=>x
section
variable {X : Cx}
abbrev Sz (o:Option (Option V)) (k:V->Prop):Prop:=match o with | some (some v)=>k v | _=>False
abbrev dg (x:V) (k:Addr->Prop):Prop:=match x with | .ref a=>k a | _=>False
abbrev fR (x:V) (k:Int->Prop):Prop:=match x with | .int a=>k a | _=>False
abbrev L3 (x:V) (k:Bool->Prop):Prop:=match x with | .bl a=>k a | _=>False
abbrev qB (x:V) (k:Str->Prop):Prop:=match x with | .str a=>k a | _=>False
abbrev eS (vs:List V) (k:V->Prop):Prop:=match vs with | [a]=>k a | _=>False
abbrev dj (vs:List V) (k:V->V->Prop):Prop:=match vs with | [a,b]=>k a b | _=>False
abbrev iL (vs:List V) (k:V->V->V->Prop):Prop:=match vs with | [a,b,c]=>k a b c | _=>False
abbrev jr (vs:List V) (k:V->V->V->V->Prop):Prop:=match vs with | [a,b,c,d]=>k a b c d | _=>False
theorem rdV_c {v:V} {k:V->Prop}:Sz (some (some v)) k=k v:=rfl
theorem rdR_c {a:Addr} {k:Addr->Prop}:dg (.ref a) k=k a:=rfl
theorem rdI_c {a:Int} {k:Int->Prop}:fR (.int a) k=k a:=rfl
theorem rdB_c {a:Bool} {k:Bool->Prop}:L3 (.bl a) k=k a:=rfl
theorem rdS_c {a:Str} {k:Str->Prop}:qB (.str a) k=k a:=rfl
theorem rdL1_c {a:V} {k:V->Prop}:eS [a] k=k a:=rfl
theorem rdL2_c {a b:V} {k:V->V->Prop}:dj [a,b] k=k a b:=rfl
theorem rdL3_c {a b c:V} {k:V->V->V->Prop}:iL [a,b,c] k=k a b c:=rfl
theorem rdL4_c {a b c d:V} {k:V->V->V->V->Prop}:jr [a,b,c,d] k=k a b c d:=rfl
theorem rdV_eq {o:Option (Option V)} {k:V->Prop}:Sz o k=∃v,o=some (some v)/\k v:=propext ⟨λh=>by rcases o with _ | _ | v;exact h.elim;exact h.elim;exact⟨v,rfl,h⟩,fun⟨v,e,h⟩=>by subst e;exact h⟩
theorem rdR_eq {x:V} {k:Addr->Prop}:dg x k=∃a,x=.ref a/\k a:=propext ⟨λh=>by cases x <;>first | exact⟨_,rfl,h⟩ | exact h.elim,fun⟨v,e,h⟩=>by subst e;exact h⟩
theorem rdI_eq {x:V} {k:Int->Prop}:fR x k=∃a,x=.int a/\k a:=propext ⟨λh=>by cases x <;>first | exact⟨_,rfl,h⟩ | exact h.elim,fun⟨v,e,h⟩=>by subst e;exact h⟩
theorem rdB_eq {x:V} {k:Bool->Prop}:L3 x k=∃a,x=.bl a/\k a:=propext ⟨λh=>by cases x <;>first | exact⟨_,rfl,h⟩ | exact h.elim,fun⟨v,e,h⟩=>by subst e;exact h⟩
theorem rdS_eq {x:V} {k:Str->Prop}:qB x k=∃a,x=.str a/\k a:=propext ⟨λh=>by cases x <;>first | exact⟨_,rfl,h⟩ | exact h.elim,fun⟨v,e,h⟩=>by subst e;exact h⟩
theorem rdL1_eq {vs:List V} {k:V->Prop}:eS vs k=∃a,vs=[a]/\k a:=propext ⟨λh=>by rcases vs with _ | ⟨a,_ | ⟨b,l⟩⟩ <;>first | exact⟨_,rfl,h⟩ | exact h.elim,fun⟨_,e,h⟩=>by subst e;exact h⟩
theorem rdL2_eq {vs:List V} {k:V->V->Prop}:dj vs k=∃a b,vs=[a,b]/\k a b:=propext ⟨λh=>by rcases vs with _ | ⟨a,_ | ⟨b,_ | ⟨c,l⟩⟩⟩ <;>first | exact⟨_,_,rfl,h⟩ | exact h.elim,fun⟨_,_,e,h⟩=>by subst e;exact h⟩
theorem rdL3_eq {vs:List V} {k:V->V->V->Prop}:iL vs k=∃a b c,vs=[a,b,c]/\k a b c:=propext ⟨λh=>by rcases vs with _ | ⟨a,_ | ⟨b,_ | ⟨c,_ | ⟨d,l⟩⟩⟩⟩ <;>first | exact⟨_,_,_,rfl,h⟩ | exact h.elim,fun⟨_,_,_,e,h⟩=>by subst e;exact h⟩
theorem rdL4_eq {vs:List V} {k:V->V->V->V->Prop}:jr vs k=∃a b c d,vs=[a,b,c,d]/\k a b c d:=propext ⟨λh=>by rcases vs with _ | ⟨a,_ | ⟨b,_ | ⟨c,_ | ⟨d,_ | ⟨e,l⟩⟩⟩⟩⟩ <;>first | exact⟨_,_,_,_,rfl,h⟩ | exact h.elim,fun⟨_,_,_,_,e,h⟩=>by subst e;exact h⟩
abbrev tVar (i:Nat):TE:=λσ H Q=>Sz σ[i]? λv=>Q v H
abbrev tC (v:V):TE:=λ_ H Q=>Q v H
theorem Jt {i:Nat} {x:Str} {pos:Pos} (hN:X.N[i]?=some x) (hv:Sr X.env.scope x) (hd:(x==("__debug__":Str))=false:=by decide) (qI:(x==("__classdict__":Str))=false:=by decide):PE X (.Name x pos) (tVar i):=by
 intro pins s σ H Q I h;obtain⟨v,e,h⟩:=rdV_eq.mp h;obtain⟨m,hn,hl⟩:=I.loc;obtain⟨u,r,l⟩:=hl i x v hN e hv;have fin:EP X pins σ Q u s:=⟨v,H,I,r,h⟩
 rcases l with ⟨hk,hm⟩ | ⟨hk,c,hc,Hs⟩
 ·exact wpAny_Name (wpAny_loadName_local I.ok.kind hk hn hm fin) hd
 ·rcases hk with hk | hk
  ·exact wpAny_Name (wpAny_loadName_cell I.ok.kind hk hc Hs fin) hd
  ·exact wpAny_Name (wpAny_loadName_free I.ok.kind hk hc Hs fin qI) hd
theorem ae {i j pos}:PE X (.Constant (.int i) j pos) (tC (.int i)):=λ_ _ _ H _ I h=>wpAny_Constant_int ⟨.int i,H,I.tok _,⟨_,rfl⟩,h⟩
theorem iA {b j pos}:PE X (.Constant (.bool b) j pos) (tC (.bl b)):=λ_ _ _ H _ I h=>Constant_bool ⟨.bl b,H,I,rfl,h⟩
theorem fi {j pos}:PE X (.Constant .none j pos) (tC .bZ):=λ_ _ _ H _ I h=>Constant_none ⟨.bZ,H,I,rfl,h⟩
theorem aZ {x j pos}:PE X (.Constant (.str x) j pos) (tC (.str x)):=λ_ _ _ H _ I h=>Calls.Constant_str ⟨.str x,H,I.tok _,⟨_,rfl⟩,h⟩
abbrev Gl (X:Cx) (x:Str):Prop:=X.env.kindOf x=some .globalImplicit
theorem fK {E:Value->Shared->Prop} {pins:List (Addr×Obj)} {s:Shared} {σ:St} {H:Hp} {x:Str} {u:Value} {pos:Pos} {Q:Value->Shared->Prop} (I:Inv X pins σ H s) (hg:Gl X x) (hm:X.mg x=some u) (h:Q u s)
  (hd:(x==("__debug__":Str))=false:=by decide):wpAny (model X.prog X.w) X.A (eval (.Name x pos) X.env) Q E s:=
 Calls.Name_function_global I.ok.kind hg (Calls.loadGlobal_global (by rw[I.ok.glob];exact I.mod.glob.keeps I.bk) hm h) hd
theorem gH {E:Value->Shared->Prop} {pins:List (Addr×Obj)} {s:Shared} {σ:St} {H:Hp} {x:Str} {u:Value} {pos:Pos} {Q:Value->Shared->Prop} (I:Inv X pins σ H s) (hg:Gl X x) (hm:X.mg x=none) (hv:bootBuiltins x=some u) (h:Q u s)
  (hn:x≠"__name__":=by decide) (hd:(x==("__debug__":Str))=false:=by decide):wpAny (model X.prog X.w) X.A (eval (.Name x pos) X.env) Q E s:=by
 obtain⟨mb,h1,h2⟩:=I.mod.blt;exact Calls.Name_function_global I.ok.kind hg (Calls.loadGlobal_builtin (by rw[I.ok.glob];exact I.mod.glob.keeps I.bk) hm (by rw[I.ok.blt];exact h1.keeps I.bk) ((h2 x hn).trans hv) h) hd
theorem jf {x:Str} {v:V} {u:Value} {pos:Pos} (hg:Gl X x) (hm:X.mg x=some u) (r:RelV v u) (hd:(x==("__debug__":Str))=false:=by decide):PE X (.Name x pos) (tC v):=
 λ_ _ _ H _ I h=>fK I hg hm ⟨v,H,I,r,h⟩ hd
theorem jg {x:Str} {v:V} {u:Value} {pos:Pos} (hg:Gl X x) (hm:X.mg x=none) (hv:bootBuiltins x=some u) (r:RelV v u) (hn:x≠"__name__":=by decide) (hd:(x==("__debug__":Str))=false:=by decide):PE X (.Name x pos) (tC v):=
 λ_ _ _ H _ I h=>gH I hg hm hv ⟨v,H,I,r,h⟩ hn hd
abbrev YE (ta tb:TE) (k:Int->Int->Hp->Prop):St->Hp->Prop:=λσ H=>ta σ H λx H1=>tb σ H1 λy H2=>∃i j,x=.int i/\y=.int j/\k i j H2
variable {a b : Expr} {ta tb : TE} {pos : Pos}
abbrev PC (X:Cx) (op:CmpOp) (a b:Expr) (t:TE):Prop:=
 ∀(pins:List (Addr×Obj)) (s:Shared) (σ:St) (H:Hp) (Q:VK),Inv X pins σ H s->t σ H Q->
  wpAny (model X.prog X.w) X.A (eval a X.env) (λv s₁=>wpAny (model X.prog X.w) X.A (eval b X.env) (λu s₂=>wpAny (model X.prog X.w) X.A (compareOp op v u) (EP X pins σ Q) X.xe s₂) X.xe s₁) X.xe s
theorem BJ (b:Expr) {op:CmpOp} (h:op≠.In) (h2:op≠.NotIn):behindInMarks op b=false:=by
 have e1:(op==CmpOp.In)=false:=by cases op <;>first | rfl | exact absurd rfl h
 have e2:(op==CmpOp.NotIn)=false:=by cases op <;>first | rfl | exact absurd rfl h2
 cases b <;>simp [behindInMarks,e1,e2]
abbrev As (p:Int->Int->Bool) (ta tb:TE):TE:=λσ H Q=>YE ta tb (λi j H2=>Q (.bl (p i j)) H2) σ H
@[inline]abbrev tLt:TE->TE->TE:=As λi j=>decide (i<j)
@[inline]abbrev tLe:TE->TE->TE:=As λi j=>decide (i<=j)
@[inline]abbrev tGt:TE->TE->TE:=As λi j=>decide (j<i)
@[inline]abbrev tGe:TE->TE->TE:=As λi j=>decide (j<=i)
@[inline]abbrev YF:TE->TE->TE:=As λi j=>decide (i=j)
@[inline]abbrev YG:TE->TE->TE:=As λi j=>!decide (i=j)
abbrev tB (t:TE):TT:=λσ H Q=>t σ H λx H1=>L3 x λc=>Q c H1
theorem BK {op:CmpOp} {t:TE} (h:PC X op a b t) (h1:behindInMarks op b=false:=by first | exact BJ _ (by decide) (by decide) | rfl):PT X (.Compare a [op] [b] pos) (tB t):=by
 intro pins s σ H Q I hw;refine wpAny_isTrue_Compare1 (cb (h pins s σ H _ I hw) λv s1 h1=>cb h1 λu s2 h2=>cb h2 λc s3 dG=>?_) h1;obtain⟨x,H1,I1,r1,q1⟩:=dG;obtain⟨d,rfl,q⟩:=rdB_eq.mp q1;cases r1;exact wpAny_truthy_bool ⟨H1,I1,q⟩
theorem iM {e:Expr} {t:TE} (h:PE X e t) (he:∀whole,isTrue e X.env whole=(do let v <-whole;standAt e.pos;holding [v] (truthy v)):=by intro _;rfl):PT X e (tB t):=by
 intro pins s σ H Q I hw;refine isTrue_plain (cb (h pins s σ H _ I hw) λv s1 dG=>?_) (he _);obtain⟨x,H1,I1,r1,q1⟩:=dG;obtain⟨d,rfl,q⟩:=rdB_eq.mp q1;cases r1;exact wpAny_truthy_bool ⟨H1,I1,q⟩
variable {tA Q8 : TT} {rest : List Expr}
abbrev tAnd (t u:TT):TT:=λσ H Q=>t σ H λc H1=>if c=true then u σ H1 Q else Q false H1
abbrev tOr (t u:TT):TT:=λσ H Q=>t σ H λc H1=>if c=true then Q true H1 else u σ H1 Q
abbrev tNot (t:TT):TT:=λσ H Q=>t σ H λc H1=>Q (!c) H1
theorem pw_and1 (ha:PT X a tA):PW X (.BoolOp .And [a] pos) tA:=by
 intro wh pins s σ H Q I h;refine isTrue_and (cb (ha pins s σ H Q I h) λc s1 e=>?_);cases c with
 | true=>exact isTrue_and_nil e
 | false=>exact e
theorem pw_or1 (ha:PT X a tA):PW X (.BoolOp .Or [a] pos) tA:=by
 intro wh pins s σ H Q I h;refine isTrue_or (cb (ha pins s σ H Q I h) λc s1 e=>?_);cases c with
 | false=>exact isTrue_or_nil e
 | true=>exact e
theorem pw_and (ha:PT X a tA) (hb:PW X (.BoolOp .And (b::rest) pos) Q8):PW X (.BoolOp .And (a::b::rest) pos) (tAnd tA Q8):=by
 intro wh pins s σ H Q I h;refine isTrue_and (cb (ha pins s σ H _ I h) λc s1 ⟨H1,I1,q1⟩=>?_);cases c with
 | true=>exact hb wh pins s1 σ H1 Q I1 q1
 | false=>exact⟨H1,I1,q1⟩
theorem pw_or (ha:PT X a tA) (hb:PW X (.BoolOp .Or (b::rest) pos) Q8):PW X (.BoolOp .Or (a::b::rest) pos) (tOr tA Q8):=by
 intro wh pins s σ H Q I h;refine isTrue_or (cb (ha pins s σ H _ I h) λc s1 ⟨H1,I1,q1⟩=>?_);cases c with
 | true=>exact⟨H1,I1,q1⟩
 | false=>exact hb wh pins s1 σ H1 Q I1 q1
theorem xp (ha:PT X a tA):PT X (.UnaryOp .Not a pos) (tNot tA):=by
 intro pins s σ H Q I h;exact isTrue_not (ha pins s σ H (λc H1=>Q (!c) H1) I h)
abbrev tAndV (ta tb:TE):TE:=λσ H Q=>ta σ H λx H1=>∃c,x=.bl c/\if c=true then tb σ H1 Q else Q (.bl false) H1
abbrev tOrV (ta tb:TE):TE:=λσ H Q=>ta σ H λx H1=>∃c,x=.bl c/\if c=true then Q (.bl true) H1 else tb σ H1 Q
abbrev tNotV (ta:TE):TE:=λσ H Q=>ta σ H λx H1=>∃c,x=.bl c/\Q (.bl (!c)) H1
theorem o5 {op} {t:TE} (h:PE X a t):PE X (.BoolOp op [a] pos) t:=λpins s σ H Q I hw=>BoolOp_one (h pins s σ H Q I hw)
theorem o8 (ha:PE X a ta) (hb:PE X (.BoolOp .And (b::rest) pos) tb):PE X (.BoolOp .And (a::b::rest) pos) (tAndV ta tb):=by
 intro pins s σ H Q I h;refine BoolOp_and (cb (ha pins s σ H _ I h) λv s1 dG=>?_);obtain⟨x,H1,I1,r1,q1⟩:=dG;obtain⟨c,rfl,q1⟩:=q1;cases r1;refine wpAny_truthy_bool ?_;cases c with
 | true=>exact hb pins s1 σ H1 Q I1 q1
 | false=>exact⟨.bl false,H1,I1,rfl,q1⟩
theorem Ht (ha:PE X a ta) (hb:PE X (.BoolOp .Or (b::rest) pos) tb):PE X (.BoolOp .Or (a::b::rest) pos) (tOrV ta tb):=by
 intro pins s σ H Q I h;refine BoolOp_or (cb (ha pins s σ H _ I h) λv s1 dG=>?_);obtain⟨x,H1,I1,r1,q1⟩:=dG;obtain⟨c,rfl,q1⟩:=q1;cases r1;refine wpAny_truthy_bool ?_;cases c with
 | false=>exact hb pins s1 σ H1 Q I1 q1
 | true=>exact⟨.bl true,H1,I1,rfl,q1⟩
theorem BL (ha:PE X a ta):PE X (.UnaryOp .Not a pos) (tNotV ta):=by
 intro pins s σ H Q I h;refine UnaryOp_ (cb (ha pins s σ H _ I h) λv s1 dG=>?_);obtain⟨x,H1,I1,r1,q1⟩:=dG;obtain⟨c,rfl,q1⟩:=q1;cases r1;exact not_of (wpAny_truthy_bool ⟨.bl (!c),H1,I1,rfl,q1⟩)
abbrev tIf (t:TT) (ta tb:TE):TE:=λσ H Q=>t σ H λc H1=>if c=true then ta σ H1 Q else tb σ H1 Q
theorem gL {c:Expr} (hc:PT X c tA) (ha:PE X a ta) (hb:PE X b tb):PE X (.IfExp c a b pos) (tIf tA ta tb):=by
 intro pins s σ H Q I h;refine wpAny_IfExp (cb (hc pins s σ H _ I h) λd s1 ⟨H1,I1,q1⟩=>?_);cases d with
 | true=>exact ha pins s1 σ H1 Q I1 q1
 | false=>exact hb pins s1 σ H1 Q I1 q1
end
abbrev bw (K:abk) (H:Hp) (a:Addr) (xs:List V):Prop:=
 Rd H a (.lst xs)\/
  ∃(o:Obj) (bf:Array Value) (n:Nat),K.lookup a=some o/\o.cls=.type "list"/\o.dict=none/\o.data=.seq bf n/\bf.size<=sizeLine/\br xs bf.toList
abbrev jD (K:abk) (H:Hp) (a:Addr) (xs:List V):Prop:=
 Rd H a (.tup xs)\/
  ∃(o:Obj) (bf:Array Value) (n:Nat),K.lookup a=some o/\o.cls=.type "tuple"/\o.data=.seq bf n/\bf.size<=sizeLine/\br xs bf.toList
abbrev SA:Value->Option V
 | .none=>some .bZ
 | .bool b=>some (.bl b)
 | .int i _=>some (.int i)
 | .str x _=>some (.str x)
 | .bytes b _=>some (.Bs b)
 | .float b _=>some (.Jn b)
 | .ref a=>some (.ref a)
 | .type n=>some (.ty n)
 | _=>none
theorem RelV.abs {x:V} {u:Value} (r:RelV x u):SA u=some x:=by
 cases x with
 | bZ=>cases r;rfl
 | bl _=>cases r;rfl
 | int _=>obtain⟨t,rfl⟩:=r;rfl
 | str _=>obtain⟨t,rfl⟩:=r;rfl
 | Bs _=>obtain⟨t,rfl⟩:=r;rfl
 | Jn _=>obtain⟨t,rfl⟩:=r;rfl
 | ref _=>cases r;rfl
 | ty _=>cases r;rfl
theorem RelV.inj {x y:V} {u:Value} (r:RelV x u) (q:RelV y u):x=y:=aaC (r.abs.symm.trans q.abs)
theorem br.inj:∀{xs ys:List V} {us:List Value},br xs us->br ys us->xs=ys
 | _,_,_,.nil,.nil=>rfl
 | _,_,_,.cons r t,.cons r' t'=>by rw[r.inj r',br.inj t t']
section
variable {X : Cx} {pins : List (Addr × Obj)} {σ : St} {H : Hp} {s : Shared} {a : Addr} {xs ys : List V}
theorem bw.of {K:abk} (h:H a=some (.lst xs)):bw K H a xs:=.inl (.inl h)
theorem jD.of {K:abk} (h:H a=some (.tup xs)):jD K H a xs:=.inl (.inl h)
theorem Inv.list (I:Inv X pins σ H s) (h:bw X.K H a xs):∃bf:List Value,br xs bf/\PlainL s.heap a bf.toArray/\xs.length<=sizeLine:=by
 rcases h with h | ⟨o,bf,n,hk,hc,hd,hs,hz,r⟩
 ·obtain⟨z,bf,n,r,e⟩:=h.ok I.bL;exact⟨bf,r,⟨_,n,e,rfl,rfl,rfl⟩,z⟩
 ·refine⟨bf.toList,r,⟨o,n,I.iK a o hk,hc,hd,by simpa using hs⟩,?_⟩;have e:=r.length;simp only[aaT] at e;lia
theorem Inv.tuple (I:Inv X pins σ H s) (h:jD X.K H a xs):∃bf:List Value,br xs bf/\IsTup s.heap a bf.toArray/\xs.length<=sizeLine:=by
 rcases h with h | ⟨o,bf,n,hk,hc,hs,hz,r⟩
 ·obtain⟨z,bf,r,p⟩:=h.ok I.bL;exact⟨bf,r,p,z⟩
 ·refine⟨bf.toList,r,⟨o,I.iK a o hk,hc,n,by simpa using hs⟩,?_⟩;have e:=r.length;simp only[aaT] at e;lia
theorem Inv.vc (I:Inv X pins σ H s) (h:bw X.K H a xs) (h':bw X.K H a ys):xs=ys:=by
 obtain⟨bf,r,⟨o,n,e,_,_,d⟩,_⟩:=I.list h;obtain⟨its',r',⟨o',n',e',_,_,d'⟩,_⟩:=I.list h';rw[e] at e';cases e';rw[d] at d'
 injection d' with d1 _
 have:bf=its':=by simpa using congrArg Array.toList d1
 subst this;exact r.inj r'
end
@[inline]abbrev Cx.iN (X:Cx) (E:Value->Shared->Prop):Cx:={X with xe:=E}
@[inline]abbrev Cx.Au (X:Cx):Cx:=X.iN λ_ _=>False
theorem Cx.Ok.iN {X:Cx} (ok:X.Ok) (E:Value->Shared->Prop):(X.iN E).Ok:=
 ⟨ok.mod,ok.kind,ok.glob,ok.blt,ok.above,ok.inj,ok.has,ok.Jq,ok.hd,ok.frames,ok.L1,ok.Q5,ok.bs,ok.BH,ok.xk,ok.Aq,ok.kC,ok.E2⟩
theorem Cx.Ok.eD {X:Cx} {E:Value->Shared->Prop} (ok:(X.iN E).Ok):X.Ok:=
 ⟨ok.mod,ok.kind,ok.glob,ok.blt,ok.above,ok.inj,ok.has,ok.Jq,ok.hd,ok.frames,ok.L1,ok.Q5,ok.bs,ok.BH,ok.xk,ok.Aq,ok.kC,ok.E2⟩
section
variable {X : Cx} {pins : List (Addr × Obj)} {σ : St} {H : Hp} {s : Shared} {E : Value -> Shared -> Prop}
theorem Inv.iN (I:Inv X pins σ H s) (E:Value->Shared->Prop):Inv (X.iN E) pins σ H s:=⟨I.ok.iN E,I.os,I.bare,I.base,I.loc,I.cell,I.free,I.fQ,I.pin,I.bL,I.len⟩
theorem Inv.eD (I:Inv (X.iN E) pins σ H s):Inv X pins σ H s:=⟨I.ok.eD,I.os,I.bare,I.base,I.loc,I.cell,I.free,I.fQ,I.pin,I.bL,I.len⟩
theorem SP.eD {D:Ends} {f:Flow} {s':Shared} (h:SP (X.iN E) pins D f s'):SP X pins D f s':=by
 cases f with
 | next=>obtain⟨σ',H',I,q⟩:=h;exact⟨σ',H',I.eD,q⟩
 | brk=>obtain⟨σ',H',I,q⟩:=h;exact⟨σ',H',I.eD,q⟩
 | cont=>obtain⟨σ',H',I,q⟩:=h;exact⟨σ',H',I.eD,q⟩
 | ret u=>obtain⟨v,σ',H',I,r,q⟩:=h;exact⟨v,σ',H',I.eD,r,q⟩
theorem vb.Au {st:List Stmt} {t:TS} (h:vb X.Au st t):vb X st t:=λpins s σ H D I hw=>
 wpAny_mono (h pins s σ H D (I.iN _) hw) (λ_ _ q=>q.eD) λ_ _ z=>False.elim z
end
section
variable {X : Cx} {st : Stmt} {rest : List Stmt} {t u : TS} {e : Expr} {te : TE} {pos : Pos}
abbrev tNext:TS:=λD σ H=>D.nx σ H
abbrev tSeq (t u:TS):TS:=λD σ H=>t {D with nx:=u D} σ H
theorem aX:vb X [] tNext:=λ_ _ σ H _ I h=>wpAny_execs_nil ⟨σ,H,I,h⟩
theorem ag (h1:PS X st t) (h2:vb X rest u):vb X (st::rest) (tSeq t u):=by
 intro pins s σ H D I h;refine wpAny_execs_cons (cb (h1 pins s σ H {D with nx:=u D} I h) λf s1 q=>?_);cases f with
 | next=>
  obtain⟨σ',H',I',q⟩:=q;exact h2 pins s1 σ' H' D I' q
 | ret v=>exact q
 | brk=>exact q
 | cont=>exact q
theorem aq (h1:PS X st t):vb X [st] t:=by
 intro pins s σ H D I h;refine wpAny_execs_cons (cb (h1 pins s σ H D I h) λf s1 q=>?_);cases f with
 | next=>exact wpAny_execs_nil q
 | ret v=>exact q
 | brk=>exact q
 | cont=>exact q
abbrev Ju:TS:=λD σ H=>D.bk σ H
theorem BM:PS X (.Break pos) Ju:=λ_ _ σ H _ I h=>wpAny_Break ⟨σ,H,I,h⟩
theorem Inv.quiet {pins:List (Addr×Obj)} {σ:St} {H:Hp} {s:Shared} (I:Inv X pins σ H s):interactive X.env=false:=by simp [interactive,I.ok.kind]
abbrev tDrop (te:TE):TS:=λD σ H=>te σ H λ_ H1=>D.nx σ H1
theorem bU (he:PE X e te) (hs:swapsWith e none pos.line X.env=pure false:=by rfl):PS X (.Expr e pos) (tDrop te):=by
 intro pins s σ H D I h;exact wpAny_Expr_any (cb (he pins s σ H _ I h) λv s1 ⟨x,H1,I1,r1,q1⟩=>⟨σ,H1,I1,q1⟩) I.quiet hs
abbrev tRet (te:TE):TS:=λD σ H=>te σ H D.rt
theorem aQ (he:PE X e te):PS X (.Return (some e) pos) (tRet te):=by
 intro pins s σ H D I h;exact wpAny_Return_some (cb (he pins s σ H _ I h) λv s1 ⟨x,H1,I1,r1,q1⟩=>⟨x,σ,H1,I1,r1,q1⟩)
abbrev tRetN:TS:=λD _ H=>D.rt .bZ H
abbrev tIfS (c:TT) (t u:TS):TS:=λD σ H=>c σ H λb H1=>if b=true then t D σ H1 else u D σ H1
theorem bc {c:Expr} {a b:List Stmt} {tc:TT} (hc:PT X c tc) (ha:vb X a t) (hb:vb X b u):PS X (.If c a b pos) (tIfS tc t u):=by
 intro pins s σ H D I h;refine wpAny_If (cb (hc pins s σ H _ I h) λd s1 ⟨H1,I1,q1⟩=>?_);cases d with
 | true=>exact ha pins s1 σ H1 D I1 q1
 | false=>exact hb pins s1 σ H1 D I1 q1
end
@[inline]abbrev TG:=V->St->Hp->(St->Hp->Prop)->Prop
@[inline]abbrev Hu:=List V->St->Hp->(St->Hp->Prop)->Prop
abbrev PG (X:Cx) (target:Expr) (t:TG):Prop:=
 ∀(pins:List (Addr×Obj)) (s:Shared) (σ:St) (H:Hp) (v:V) (u:Value) (Q:St->Hp->Prop),Inv X pins σ H s->RelV v u->t v σ H Q->
  wpAny (model X.prog X.w) X.A (assign target X.env u) (λ_ s'=>∃σ' H',Inv X pins σ' H' s'/\Q σ' H') X.xe s
abbrev L4 (X:Cx) (ts:List Expr) (t:Hu):Prop:=
 ∀(pins:List (Addr×Obj)) (s:Shared) (σ:St) (H:Hp) (vs:List V) (us:List Value) (Q:St->Hp->Prop),Inv X pins σ H s->br vs us->t vs σ H Q->
  wpAny (model X.prog X.w) X.A (assignInOrder ((assignEach ts X.env).map (·.2)) us) (λ_ s'=>∃σ' H',Inv X pins σ' H' s'/\Q σ' H') X.xe s
@[inline]abbrev Jv:=V->V->V->Hp->(Hp->Prop)->Prop
abbrev MI (X:Cx) (t:Jv):Prop:=
 ∀(pins:List (Addr×Obj)) (s:Shared) (σ:St) (H:Hp) (o i v:V) (ov iv u:Value) (Q:Hp->Prop),Inv X pins σ H s->RelV o ov->RelV i iv->RelV v u->t o i v H Q->
  wpAny (model X.prog X.w) X.A (setItem ov iv u) (λ_ s'=>∃H',Inv X pins σ H' s'/\Q H') X.xe s
@[inline]abbrev TIp:=V->V->Hp->VK->Prop
section
variable {X : Cx} {pos : Pos}
abbrev gName (i:Nat):TG:=λv σ H Q=>Q (σ.set i (some v)) H
theorem a5 {i:Nat} {x:Str} (hN:X.N.Nodup) (hi:X.N[i]?=some x) (hx:Loc X.env.scope x) (hf:X.fn x=true\/X.env.scope.names.lookup x=some .local:=by first | exact .inl rfl | exact .inr rfl | assumption):PG X (.Name x pos) (gName i):=by
 intro pins s σ H v u Q I r h;exact wpAny_assign_Name (fc I hN hi hx r (λs' I'=>⟨_,H,I',h⟩) hf)
abbrev gNil:Hu:=λvs σ H Q=>vs=[]/\Q σ H
abbrev gCons (t:TG) (u:Hu):Hu:=λvs σ H Q=>∃v r,vs=v::r/\t v σ H λσ' H'=>u r σ' H' Q
theorem eW:L4 X [] gNil:=by
 intro pins s σ H vs us Q I r h;obtain⟨e,h⟩:=h;subst e;cases r;exact assignInOrder_nil ⟨σ,H,I,h⟩
theorem bK {e:Expr} {es:List Expr} {t:TG} {u:Hu} (h1:PG X e t) (h2:L4 X es u)
  (hs:(assignEach (e::es) X.env).map (·.2)=assign e X.env::(assignEach es X.env).map (·.2):=by rfl):L4 X (e::es) (gCons t u):=by
 intro pins s σ H vs us Q I r h;obtain⟨v,vr,e1,h⟩:=h;subst e1;cases r with
 | cons r rr=>
  rw[hs];refine assignInOrder_cons (cb (h1 pins s σ H _ _ _ I r h) λ_ s1 ⟨σ1,H1,I1,q1⟩=>?_);exact h2 pins s1 σ1 H1 _ _ Q I1 rr q1
abbrev Av (K:abk) (n:Nat) (t:Hu):TG:=λv σ H Q=>∃a xs,v=.ref a/\jD K H a xs/\xs.length=n/\t xs σ H Q
theorem Jw {es:List Expr} {k:Nat} {t:Hu} {n:Nat} (hc:X.calm=true) (h:L4 X es t)
  (hn:(assignEach es X.env).length=n:=by rfl) (kG:(assignEach es X.env).findIdx? (·.1)=none:=by rfl):PG X (.Tuple es k pos) (Av X.K n t):=by
 intro pins s σ H v u Q I r hw;obtain⟨a,xs,e1,hq,hl,hw⟩:=hw;subst e1;cases r;obtain⟨bf,rv,ht,hz⟩:=I.tuple hq;refine assign_Tuple_tuple (I.ok.hd hc) ht (by simp [hn,<-hl,rv.length]) kG λh' hx=>?_;have I1:Inv X pins σ H {s with heap:=h'}:=I.kept (t':=s.toks) λb o e=>hx b o (aav (abx e)) e;exact h pins _ σ H xs _ Q I1 (by simpa using rv) hw
abbrev gSub (to ti:TE) (t:Jv):TG:=λv σ H Q=>to σ H λo H1=>ti σ H1 λi H2=>t o i v H2 λH3=>Q σ H3
theorem BN {o i:Expr} {to ti:TE} {t:Jv} (ho:PE X o to) (hi:PE X i ti) (hs:MI X t)
  (ha:∀v,assign (.Subscript o i pos) X.env v=(do
   let ov <-holding [v] (eval o X.env);let iv <-holding [v,ov] (eval i X.env)
   standAt pos
   holding [v,ov,iv] (setItem ov iv v)
   release [v,ov,iv] []):=by intro _;rfl):PG X (.Subscript o i pos) (gSub to ti t):=by
 intro pins s σ H v u Q I r h;rw[ha];refine wpAny_bind (wpAny_holding (cb (ho pins s σ H _ I h) λov s1 dG=>?_));obtain⟨x,H1,I1,r1,q1⟩:=dG;refine wpAny_bind (wpAny_holding (cb (hi pins s1 σ H1 _ I1 q1) λiv s2 dG=>?_));obtain⟨y,H2,I2,r2,q2⟩:=dG;refine wpAny_bind (wpAny_standAt (wpAny_bind (wpAny_holding (cb (hs pins s2 σ H2 x y v ov iv u _ I2 r1 r2 r q2) λ_ s3 ⟨H3,I3,q3⟩=>?_))));exact wpAny_release ⟨σ,H3,I3,q3⟩
abbrev tAsg (te:TE) (g:TG):TS:=λD σ H=>te σ H λx H1=>g x σ H1 D.nx
theorem xq {tg e:Expr} {te:TE} {g:TG} (he:PE X e te) (hg:PG X tg g) (hs:swapsWithSole [tg] e pos.line X.env=pure false:=by rfl) (hw:swappedStores [tg] e X.env=pure none:=by rfl)
  (h1:(assignEach [tg] X.env).map (·.2)=[assign tg X.env]:=by rfl):PS X (.Assign [tg] e pos) (tAsg te g):=by
 intro pins s σ H D I h;refine wpAny_Assign_stores (cb (he pins s σ H _ I h) λv s1 dG=>?_) hs hw;obtain⟨x,H1,I1,r1,q1⟩:=dG;rw[h1];exact cb (hg pins s1 σ H1 x v _ I1 r1 q1) λ_ s2 q=>q
theorem aK {i:Nat} {x:Str} {e:Expr} {te:TE} {pos':Pos} (he:PE X e te) (hN:X.N.Nodup:=by exact nd) (hi:X.N[i]?=some x:=by rfl) (hx:Loc X.env.scope x:=by first | exact Or.inl rfl | exact Or.inr rfl) (hs:swapsWith e (some (.Name x pos')) pos.line X.env=pure false:=by rfl) (hf:X.fn x=true\/X.env.scope.names.lookup x=some .local:=by first | exact .inl rfl | exact .inr rfl | assumption):
  PS X (.Assign [.Name x pos'] e pos) (tAsg te (gName i)):=by
 intro pins s σ H D I h;refine wpAny_Assign_Name (cb (he pins s σ H _ I h) λv s1 dG=>?_) hs;obtain⟨y,H1,I1,r1,q1⟩:=dG;exact fc I1 hN hi hx r1 (λs2 I2=>⟨_,H1,I2,q1⟩) hf
abbrev tPar (i j:Nat) (ta:TA):TS:=λD σ H=>ta σ H λvs H1=>∃v w,vs=[v,w]/\D.nx ((σ.set i (some v)).set j (some w)) H1
theorem Jx {i j:Nat} {x y:Str} {a b:Expr} {ta:TA} {px py pt:Pos} {kt k2 SD} (hc:X.calm=true) (hN:X.N.Nodup) (hi:X.N[i]?=some x) (hj:X.N[j]?=some y) (YH:i≠j)
  (hx:X.env.scope.names.lookup x=some .local) (hy:X.env.scope.names.lookup y=some .local) (ha:PA X [a,b] ta)
  (hw:swappedStores [.Tuple [.Name x px,.Name y py] kt pt] (.Tuple [a,b] k2 SD) X.env=pure (some [x,y]))
  (hs:swapsWithSole [.Tuple [.Name x px,.Name y py] kt pt] (.Tuple [a,b] k2 SD) pos.line X.env=pure false:=by rfl):
  PS X (.Assign [.Tuple [.Name x px,.Name y py] kt pt] (.Tuple [a,b] k2 SD) pos) (tPar i j ta):=by
 intro pins s σ H D I h;rw[exec_Assign_arm];refine wpAny_bind (wpAny_standAt ?_);rw[hs];refine wpAny_bind (wpAny_pure ?_);rw[if_neg ∅];refine wpAny_bind (Tuple_ (cb (ha _ pins s σ H _ I h) λus s1 dG=>?_));obtain⟨vs,H1,I1,r1,q1⟩:=dG;obtain⟨v,w,e1,q1⟩:=q1;subst e1;obtain⟨u1,u2,rfl,rv,Aw⟩:∃u1 u2,us=[u1,u2]/\RelV v u1/\RelV w u2:=by
  cases r1 with
  | cons p q=>
   cases q with
   | cons p' q'=>
    cases q';exact⟨_,_,rfl,p,p'⟩
 refine wpAny_newObj_type ?_ (by show 2<=sizeLine;decide);have I2:Inv X pins σ H1 {s1 with heap:=s1.heap.push {cls:=.type "tuple",data:=.seq [u1,u2].toArray}}:=I1.kept (t':=s1.toks) λb o e=>abv _ e;rw[hw];refine wpAny_bind (wpAny_pure ?_);show wpAny (model X.prog X.w) X.A (do rule "assign.swapped-stores";let items <-unpackItems (.ref s1.heap.objs.size) 2 none;assignInOrder [λv=>bindName X.env y v,λv=>bindName X.env x v] items.reverse;pure Flow.next) _ _ _;refine wpAny_bind (wpAny_rule (wpAny_bind (unpackItems_tuple (items:=#[u1,u2]) (I.ok.hd hc) (IsTup.new s1.heap _) λh' MJ=>?_)));have I3:=I2.kept (h':=h') (t':=s1.toks) λb o e=>MJ b o (aav (abx e)) e;show wpAny _ _ (assignInOrder [λv=>bindName X.env y v,λv=>bindName X.env x v] [u2,u1] >>=λ_=>pure Flow.next) _ _ _;refine wpAny_bind (assignInOrder_cons (wpAny_bindName (fc I3 hN hj (.inl hy) Aw (λs2 I4=>?_) (.inr hy))));refine assignInOrder_cons (wpAny_bindName (fc I4 hN hi (.inl hx) rv (λs3 I5=>assignInOrder_nil (wpAny_pure ?_)) (.inr hx)));rw[List.set_comm _ _ (Ne.symm YH)] at I5;exact⟨_,H1,I5,q1⟩
end
section
variable {X : Cx} {pos : Pos}
abbrev xr (c:TT) (tb:TS):TS:=λD σ H=>∃W:Nat->St->Hp->Prop,(∃m,W m σ H)/\∀m σ H,W m σ H->
 c σ H λb H1=>if b=true then ∃N:St->Hp->Prop,(∀σ' H',N σ' H'->∃m',m'<m/\W m' σ' H')/\tb {D with nx:=N,ct:=N,bk:=D.nx} σ H1 else D.nx σ H1
theorem kI {c:Expr} {body:List Stmt} {tc:TT} {tb:TS} (hp:PassesOwn (model X.prog X.w) X.A X.env X.xe) (hc:PT X c tc) (hb:vb X body tb):PS X (.While c body [] pos) (xr tc tb):=by
 intro pins s σ H D I h;obtain⟨W,⟨m0,w0⟩,turn⟩:=h;refine wpAny_While (codeAny_whileLoop (λn s'=>∃σ' H',Inv X pins σ' H' s'/\W n σ' H') ?_ m0 ⟨σ,H,I,w0⟩);rintro n s1 ⟨σ1,H1,I1,w1⟩;refine wpAny_passesOwn hp (cb (hc pins s1 σ1 H1 _ I1 (turn n σ1 H1 w1)) λb s2 ⟨H2,I2,q2⟩=>?_);cases b with
 | true=>
  obtain⟨N,hN,q2⟩:=q2;rw[if_pos rfl];refine wpAny_passesOwn hp (cb (hb pins s2 σ1 H2 _ I2 q2) λf s3 q3=>?_);cases f with
  | next=>
   obtain⟨σ3,H3,I3,n3⟩:=q3;obtain⟨m',hm,w3⟩:=hN σ3 H3 n3;exact⟨m',hm,σ3,H3,I3,w3⟩
  | cont=>
   obtain⟨σ3,H3,I3,n3⟩:=q3;obtain⟨m',hm,w3⟩:=hN σ3 H3 n3;exact⟨m',hm,σ3,H3,I3,w3⟩
  | brk=>exact q3
  | ret v=>exact q3
 | false=>
  rw[if_neg aax];exact wpAny_execs_nil ⟨σ1,H2,I2,q2⟩
end
structure It where
 go:Nat->Hp->Prop
 yP:Nat->Hp->V->Hp->Prop
 stop:Nat->Hp->Prop
abbrev j6 (X:Cx) (pins:List (Addr×Obj)) (H:Hp) (b:Addr):Prop:=
 H b=none/\b≠X.env.locals/\b∉X.fs/\(b∈X.ex\/X.s₀.heap.objs.size<=b)/\(∀x c,X.env.cells.lookup x=some c->c≠b)/\∀p∈X.pn++pins,p.1≠b
theorem Inv.BO {X:Cx} {pins:List (Addr×Obj)} {σ:St} {H H':Hp} {s:Shared} {b:Addr} (I:Inv X pins σ H s) (hb:s.heap.objs.size<=b) (hn:H' b=none):j6 X pins H' b:=by
 refine⟨hn,Nat.ne_of_gt (aaB I.lt hb),I.Su hb,.inr (aau I.sz hb),λx c e z=>?_,λp hp z=>?_⟩
 ·obtain⟨v,q⟩:=I.cell x c e;exact absurd (aaB q.lt (by rw[z];exact hb)) (aaL _)
 ·exact absurd (aaB (abx (I.pin p hp).1) (by rw[z];exact hb)) (aaL _)
structure Turn (P:Program) (w:World) (K:abk) (tg:Expr) (J:It) (fp:List Addr) (it:Addr) (tn:Nat->Heap->Prop):Prop where
 mem:it∈fp
 obj:∀i h,tn i h->∀b∈fp,∃o,h.get? b=some o/\∀v,o.data≠.cell v
 keep:∀i h h',tn i h->(∀b∈fp,∀o,h.get? b=some o->h'.get? b=some o)->tn i h'
 item:∀(X:Cx),X.prog=P->X.w=w->X.K=K->X.calm=true->∀(i:Nat) (pins:List (Addr×Obj)) (s:Shared) (σ:St) (H:Hp) (E:Value->Shared->Prop),Inv X pins σ H s->(∀b∈fp,j6 X pins H b)->tn i s.heap->J.go i H->
  wpAny (model P w) X.A (pyNext (.ref it)) (λr s1=>∃u,r=some u/\
   wpAny (model P w) X.A (letOwnedTupleGo tg (.ref it) u) (λ_ s2=>∃x H',Inv X pins σ H' s2/\RelV x u/\J.yP i H x H'/\tn (i+1) s2.heap/\∀b∈fp,H' b=none) E s1) E s
 done:∀(X:Cx),X.prog=P->X.w=w->X.K=K->X.calm=true->∀(i:Nat) (pins:List (Addr×Obj)) (s:Shared) (σ:St) (H:Hp) (E:Value->Shared->Prop),Inv X pins σ H s->(∀b∈fp,j6 X pins H b)->tn i s.heap->J.stop i H->
  wpAny (model P w) X.A (pyNext (.ref it)) (λr s1=>r=none/\Inv X pins σ H s1) E s
 self:∀(A:Around) (i:Nat) (s:Shared) (Q:Value->Shared->Prop) (E:Value->Shared->Prop),tn i s.heap->Q (.ref it) s->wpAny (model P w) A (pyIter (.ref it)) Q E s
@[inline]abbrev TI:=St->Hp->(It->Hp->Prop)->Prop
abbrev WV (X:Cx) (pins:List (Addr×Obj)) (σ:St) (tg:Expr) (R:It->Hp->Prop) (Hv:Value) (s2:Shared):Prop:=
 ∃(it:Addr) (fp:List Addr) (tn:Nat->Heap->Prop) (J:It) (H':Hp),Hv=.ref it/\Inv X pins σ H' s2/\Turn X.prog X.w X.K tg J fp it tn/\tn 0 s2.heap/\(∀b∈fp,j6 X pins H' b)/\R J H'
abbrev PI (X:Cx) (tg iter:Expr) (wi:TI):Prop:=
 ∀(pins:List (Addr×Obj)) (s:Shared) (σ:St) (H:Hp) (R:It->Hp->Prop),Inv X pins σ H s->wi σ H R->
  wpAny (model X.prog X.w) X.A (eval iter X.env) (λv s1=>wpAny (model X.prog X.w) X.A (pyIter v) (WV X pins σ tg R) X.xe s1) X.xe s
theorem BP {M:Model} {A:Around} {E:Value->Shared->Prop} {s:Shared} {tg:Expr} {it:Addr} {u:Value} {o:Obj} {n:String} {vs:Array Value} {Q:Unit->Shared->Prop} (ho:s.heap.get? it=some o) (hc:o.cls=.type n) (hd:o.data=.fields vs)
  (hn:["enumerate","zip","dict_itemiterator","dict_reverseitemiterator","odict_iterator","itertools.zip_longest","itertools.pairwise"].contains n=false) (hQ:Q () s):wpAny M A (letOwnedTupleGo tg (.ref it) u) Q E s:=by
 unfold letOwnedTupleGo;cases tg <;>first
  | exact wpAny_pure hQ
  | (cases u <;>first
    | exact wpAny_pure hQ
    | (refine wpAny_bind (wpAny_load ho ?_)
       rw[hc,hd];show wpAny M A (if (["enumerate","zip","dict_itemiterator","dict_reverseitemiterator","odict_iterator","itertools.zip_longest","itertools.pairwise"].contains n && vs[0]?==some (rawInt _))=true then _ else _) Q E s;rw[if_neg (by intro h;rw[hn,Bool.false_and] at h;cases h)];exact wpAny_pure hQ))
abbrev uU (K:abk) (a:Addr):It:=
 ⟨λi H=>∃xs x,bw K H a xs/\xs[i]?=some x,λi H x H'=>H'=H/\∀xs,bw K H a xs->xs[i]?=some x,λi H=>∃xs,bw K H a xs/\xs.length<=i⟩
abbrev YI (K:abk) (a:Addr):It:=
 ⟨λi H=>∃xs x,jD K H a xs/\xs[i]?=some x,λi H x H'=>H'=H/\∀xs,jD K H a xs->xs[i]?=some x,λi H=>∃xs,jD K H a xs/\xs.length<=i⟩
abbrev MK (lo:Int) (n:Nat):It:=⟨λi _=>i<n,λi H x H'=>H'=H/\x=.int (lo+i),λi _=>n<=i⟩
theorem Ax {P:Program} {w:World} {K:abk} {tg:Expr} (a it:Addr):Turn P w K tg (uU K a) [it] it (λi h=>h.IsListIter it a i) where
 mem:=by simp
 obj:=λi h st b hb=>by
  have e:b=it:=by simpa using hb
  subst e;obtain⟨o,e,c,d⟩:=st;exact⟨o,e,λv z=>by rw[d] at z;cases z⟩
 keep:=λi h h' st k=>st.at λo e=>k it (by simp) o e
 item:=by
  intro X hP hw hK hc i pins s σ H E I hf st hg;subst hP hw hK;obtain⟨xs,x,hq,hx⟩:=hg;obtain⟨bf,rv,p,hz⟩:=I.list hq;obtain⟨u,hu,ru⟩:=rv.get hx;obtain⟨f0,f1,f2,f3,f4,f5⟩:=hf it (by simp);refine wpAny_pyNext_list_item st p.isList (x:=u) (by simpa using hu) λh' cK sb=>?_;have I1:Inv X pins σ H {s with heap:=h'}:=I.turned (t':=s.toks) (λb o hb e=>(sb.2 b hb).trans e) f0 f1 f3 f4 f5;obtain⟨o,e,c,d⟩:=id cK;exact⟨u,rfl,BP (s:={s with heap:=h'}) e c d ∅ ⟨x,H,I1,ru,⟨rfl,λys hy=>by rw[I.vc hy hq];exact hx⟩,cK,λb hb=>(hf b hb).1⟩⟩
 done:=by
  intro X hP hw hK hc i pins s σ H E I hf st hg;subst hP hw hK;obtain⟨xs,hq,hx⟩:=hg;obtain⟨bf,rv,p,hz⟩:=I.list hq;obtain⟨f0,f1,f2,f3,f4,f5⟩:=hf it (by simp);have hl:=rv.length;exact wpAny_pyNext_list_end (I.ok.hd hc) st p.isList (by simp;lia) λh' eb=>⟨rfl,I.turned (t':=s.toks) (λb o hb e=>eb b o hb e) f0 f1 f3 f4 f5⟩
 self:=λ_ _ _ _ _ st h=>wpAny_pyIter_listiter st h
theorem xt {P:Program} {w:World} {K:abk} {tg:Expr} (it:Addr) (lo:Int) (n:Nat):Turn P w K tg (MK lo n) [it] it (λi h=>IsRangeIter h it (lo+ (i:Nat)*1) ((n:Int) - (i:Nat)) 1) where
 mem:=by simp
 obj:=λi h st b hb=>by
  have e:b=it:=by simpa using hb
  subst e;exact⟨_,st,λv z=>by
   have z':Data.fields _=Data.cell v:=z;cases z'⟩
 keep:=λi h h' st k=>k it (by simp) _ st
 item:=by
  intro X hP hw hK hc i pins s σ H E I hf st hg;subst hP hw hK;obtain⟨f0,f1,f2,f3,f4,f5⟩:=hf it (by simp);have W:=Walks.range (prog:=X.prog) (w:=X.w) (I.ok.hd hc) it lo 1 n;refine W.item i s _ _ hg st λv h' tk hv cK kk=>?_;obtain⟨t,rfl⟩:=hv;have I1:Inv X pins σ H {s with heap:=h',toks:=tk}:=I.turned (λb o hb e=>kk b o (by simpa using hb) e) f0 f1 f3 f4 f5;refine⟨_,rfl,BP (s:={s with heap:=h',toks:=tk}) (n:="range_iterator") cK rfl rfl ∅ ⟨.int (lo+i),H,I1,⟨t,?_⟩,⟨rfl,rfl⟩,cK,λb hb=>(hf b hb).1⟩⟩;rw[Int.mul_one]
 done:=by
  intro X hP hw hK hc i pins s σ H E I hf st hg;subst hP hw hK;obtain⟨f0,f1,f2,f3,f4,f5⟩:=hf it (by simp);exact wpAny_pyNext_range_end (I.ok.hd hc) st (by have:n<=i:=hg;lia) λh' eb=>⟨rfl,I.turned (t':=s.toks) (λb o hb e=>eb b o hb e) f0 f1 f3 f4 f5⟩
 self:=λ_ _ _ _ _ st h=>wpAny_pyIter_rangeiter st h
section
variable {X : Cx} {tg : Expr}
abbrev iList (K:abk) (tl:TE):TI:=λσ H R=>tl σ H λx H1=>dg x λa=>(∃xs,bw K H1 a xs)/\R (uU K a) H1
abbrev iTup (K:abk) (tl:TE):TI:=λσ H R=>tl σ H λx H1=>dg x λa=>(∃xs,jD K H1 a xs)/\R (YI K a) H1
theorem E4 {l:Expr} {tl:TE} (hl:PE X l tl):PI X tg l (iList X.K tl):=by
 intro pins s σ H R I h;refine cb (hl pins s σ H _ I h) λv s1 dG=>?_;obtain⟨x,H1,I1,r1,q1⟩:=dG;obtain⟨a,e,⟨xs,hq⟩,q⟩:=rdR_eq.mp q1;subst e;cases r1;obtain⟨bf,rv,p,hz⟩:=I1.list hq;refine wpAny_pyIter_list p.isList ?_;refine⟨s1.heap.objs.size,[s1.heap.objs.size],_,_,H1,rfl,I1.kept (t':=s1.toks) λb o e=>abv _ e,Ax a _,⟨_,abw _ rfl,rfl,rfl⟩,λb hb=>?_,q⟩;have e:b=s1.heap.objs.size:=by simpa using hb
 subst e;exact I1.BO (aam _) (I1.bL.fresh (aam _))
theorem vd {pins:List (Addr×Obj)} {σ:St} {H:Hp} {s:Shared} {R:It->Hp->Prop} {E:Value->Shared->Prop} {lo hi:Int} {t u v:Tok} {tk:Nat} (I:Inv X pins σ H s) (h1:-(2^62)<=lo) (h2:lo<2^62) (h3:-(2^62)<=hi) (h4:hi<2^62)
  (q:R (MK lo (hi - lo).toNat) H):wpAny (model X.prog X.w) X.A (pyIter (.ref s.heap.objs.size)) (WV X pins σ tg R) E {s with heap:=s.heap.push {cls:=.type "range",data:=.fields #[.int lo t,.int hi u,.int 1 v]},toks:=tk}:=by
 refine wpAny_pyIter_range (IsRange.new ..) (small_one h1 h2 h3 h4) ?_;have I1:Inv X pins σ H {s with heap:=s.heap.push {cls:=.type "range",data:=.fields #[.int lo t,.int hi u,.int 1 v]},toks:=tk}:=I.kept λb o e=>abv _ e;refine⟨(s.heap.push {cls:=.type "range",data:=.fields #[.int lo t,.int hi u,.int 1 v]}).objs.size,[(s.heap.push {cls:=.type "range",data:=.fields #[.int lo t,.int hi u,.int 1 v]}).objs.size],_,_,H,rfl,
  I1.kept (t':=tk) λb o e=>abv _ e,xt _ lo (hi - lo).toNat,?_,λb hb=>?_,q⟩
 ·have e1:lo+ ((0:Nat):Int)*1=lo:=by simp
  have e2:(((hi - lo).toNat:Nat):Int) - ((0:Nat):Int)=Builtin.Range.rangeSize lo hi 1:=by rw[rangeSize_one];split <;>lia
  show IsRangeIter _ _ (lo+ ((0:Nat):Int)*1) ((((hi - lo).toNat:Nat):Int) - ((0:Nat):Int)) 1;rw[e1,e2];exact abw _ rfl
 ·have e:b=(s.heap.push {cls:=.type "range",data:=.fields #[.int lo t,.int hi u,.int 1 v]}).objs.size:=by simpa using hb
  subst e;exact I1.BO (aam _) (I1.bL.fresh (aam _))
abbrev iRng1 (ta:TA):TI:=λσ H R=>ta σ H λvs H1=>eS vs λx=>fR x λj=> -(2^62)<=j/\j<2^62/\R (MK 0 j.toNat) H1
abbrev iRng2 (ta:TA):TI:=λσ H R=>ta σ H λvs H1=>dj vs λx y=>fR x λi=>fR y λj=>(-(2^62)<=i/\i<2^62/\-(2^62)<=j/\j<2^62)/\R (MK i (j - i).toNat) H1
theorem cJ {a:Expr} {ta:TA} {p pos:Pos} (hg:Gl X "range") (hm:X.mg "range"=none) (ha:PA X [a] ta) (hs:starEach [a] X.env=[(false,eval a X.env)]:=by rfl):PI X tg (.Call (.Name "range" p) [a] [] pos) (iRng1 ta):=by
 intro pins s σ H R I h;refine Call_ (gH I hg hm boot_range (abj (cb (ha pos pins s σ H _ I h) λus s1 dG=>?_) hs rfl));obtain⟨vs,H1,I1,r1,q1⟩:=dG;obtain⟨x,e,p1⟩:=rdL1_eq.mp q1;clear q1;obtain⟨j,rfl,q1,q2,q⟩:=rdI_eq.mp p1;subst e;cases r1 with
 | cons r rr=>
  cases rr;obtain⟨t,rfl⟩:=r;exact call_range_1 (vd I1 ⋯ ⋯ q1 q2 (by simpa using q))
theorem Ay {a b:Expr} {ta:TA} {p pos:Pos} (hg:Gl X "range") (hm:X.mg "range"=none) (ha:PA X [a,b] ta) (hs:starEach [a,b] X.env=[(false,eval a X.env),(false,eval b X.env)]:=by rfl) (Hw:starEach [b] X.env=[(false,eval b X.env)]:=by rfl):
  PI X tg (.Call (.Name "range" p) [a,b] [] pos) (iRng2 ta):=by
 intro pins s σ H R I h;refine Call_ (gH I hg hm boot_range (abj (cb (ha pos pins s σ H _ I h) λus s1 dG=>?_) (by rw[hs,Hw]) (by rw[Hw];rfl)));obtain⟨vs,H1,I1,r1,q1⟩:=dG;obtain⟨x,y,e,p1⟩:=rdL2_eq.mp q1;clear q1;obtain⟨i,rfl,p2⟩:=rdI_eq.mp p1;obtain⟨j,rfl,⟨q1,q2,q3,q4⟩,q⟩:=rdI_eq.mp p2;subst e;cases r1 with
 | cons r rr=>
  cases rr with
  | cons r' rr=>
   cases rr;obtain⟨t,rfl⟩:=r;obtain⟨t',rfl⟩:=r';exact call_range_2 (vd I1 q1 q2 q3 q4 q)
abbrev ML (wi:TI) (g:TG) (tb:TS):TS:=λD σ H=>wi σ H λJ H1=>∃W:Nat->Nat->St->Hp->Prop,(∃m,W 0 m σ H1)/\∀i m σ H,W i m σ H->
 (J.stop i H/\D.nx σ H)\/(J.go i H/\∃N:St->Hp->Prop,(∀σ' H',N σ' H'->∃m',m'<m/\W (i+1) m' σ' H')/\∀x H',J.yP i H x H'->g x σ H' λσ2 H2=>tb {D with nx:=N,ct:=N,bk:=D.nx} σ2 H2)
abbrev o9 (fp:List Addr) (h:Heap):List (Addr×Obj):=fp.filterMap λb=>(h.get? b).map λo=>(b,o)
theorem hX {fp:List Addr} {h:Heap} {b:Addr} {o:Obj} (hb:b∈fp) (e:h.get? b=some o):(b,o)∈o9 fp h:=List.mem_filterMap.mpr ⟨b,hb,by rw[e];rfl⟩
theorem Az {fp:List Addr} {h:Heap} {p:Addr×Obj} (hp:p∈o9 fp h):p.1∈fp/\h.get? p.1=some p.2:=by
 obtain⟨b,hb,e⟩:=List.mem_filterMap.mp hp;cases q:h.get? b with
 | none=>rw[q] at e;cases e
 | some o=>
  rw[q] at e;have e':(b,o)=p:=aaC e;subst e';exact⟨hb,q⟩
theorem Inv.pinned {pins:List (Addr×Obj)} {σ:St} {H:Hp} {s:Shared} {fp:List Addr} (I:Inv X pins σ H s) (hf:∀b∈fp,j6 X pins H b) (ho:∀b∈fp,∃o,s.heap.get? b=some o/\∀v,o.data≠.cell v):Inv X (pins++o9 fp s.heap) σ H s:=
 I.je λp hp=>(List.mem_append.mp hp).elim (λz=>I.pin p (aaG _ z)) λz=>by
  obtain⟨hb,e⟩:=Az z;obtain⟨f0,f1,f2,_⟩:=hf p.1 hb;obtain⟨o,e',d⟩:=ho p.1 hb;rw[e] at e';cases e';exact⟨e,f0,f1,f2,d⟩
theorem Inv.pb {pins pl:List (Addr×Obj)} {σ:St} {H:Hp} {s:Shared} (I:Inv X (pins++pl) σ H s):Inv X pins σ H s:=I.je λp hp=>I.pin p (aaG _ (abe _ hp))
theorem b6 {iter:Expr} {body:List Stmt} {wi:TI} {g:TG} {tb:TS} {pos:Pos} (hp:PassesOwn (model X.prog X.w) X.A X.env X.xe) (hc:X.calm=true) (hi:PI X tg iter wi) (hg:PG X tg g) (hb:vb X body tb)
  (hs:∀x,foldedSetIterable iter X.env x=pure x:=by intro _;rfl):PS X (.For tg iter body [] pos) (ML wi g tb):=by
 intro pins s σ H D I h;refine wpAny_For (cb (hi pins s σ H _ I h) λv s1 h1=>cb h1 λHv s2 h2=>?_) hs;obtain⟨it,fp,tn,J,H2,e,I2,T,uV,f2,W,⟨m0,w0⟩,turn⟩:=h2;subst e;have xu:∀{H':Hp},(∀b∈fp,H' b=none)->∀b∈fp,j6 X pins H' b:=λhn b hb=>⟨hn b hb,(f2 b hb).2⟩
 refine codeAny_forLoop_any (λn s'=>∃i σ' H',Inv X pins σ' H' s'/\tn i s'.heap/\(∀b∈fp,H' b=none)/\W i n σ' H') ?_ m0 ⟨0,σ,H2,I2,uV,λb hb=>(f2 b hb).1,w0⟩;rintro n s3 ⟨i,σ3,H3,I3,WW,WX,w3⟩;rcases turn i n σ3 H3 w3 with ⟨stop,qn⟩ | ⟨go,N,hN,step⟩
 ·refine wpAny_passesOwn hp (cb (T.done X rfl rfl rfl hc i pins s3 σ3 H3 X.xe I3 (xu WX) WW stop) λr s4 ⟨hr,I4⟩=>?_);subst hr;exact wpAny_execs_nil ⟨σ3,H3,I4,qn⟩
 ·refine wpAny_passesOwn hp (cb (T.item X rfl rfl rfl hc i pins s3 σ3 H3 X.xe I3 (xu WX) WW go) λr s4 ⟨u,hr,h4⟩=>?_);subst hr;refine wpAny_passesOwn hp (cb h4 λ_ s5 dG=>?_);obtain⟨x,H5,I5,r5,y5,SE,YJ⟩:=dG;have L5:=I5.pinned (xu YJ) (T.obj _ _ SE);refine wpAny_passesOwn hp (cb (hg _ s5 σ3 H5 x u _ L5 r5 (step x H5 y5)) λ_ s6 ⟨σ6,H6,I6,q6⟩=>?_);refine wpAny_passesOwn hp (cb (hb _ s6 σ6 H6 _ I6 q6) λf s7 q7=>?_);have again:∀{σ7:St} {H7:Hp},Inv X (pins++o9 fp s5.heap) σ7 H7 s7->N σ7 H7->∃m,m<n/\∃i σ' H',Inv X pins σ' H' s7/\tn i s7.heap/\(∀b∈fp,H' b=none)/\W i m σ' H':=λ{σ7 H7} I7 n7=>by
   obtain⟨m',hm,w7⟩:=hN σ7 H7 n7;refine⟨m',hm,i+1,σ7,H7,I7.pb,T.keep _ _ _ SE λb hb o e=>(I7.pin (b,o) (aaG _ (aaG _ (hX hb e)))).1,λb hb=>?_,w7⟩;obtain⟨o,e,d⟩:=T.obj _ _ SE b hb;exact(I7.pin (b,o) (aaG _ (aaG _ (hX hb e)))).2.1
  cases f with
  | next=>obtain⟨σ7,H7,I7,n7⟩:=q7;exact again I7 n7
  | cont=>obtain⟨σ7,H7,I7,n7⟩:=q7;exact again I7 n7
  | brk=>obtain⟨σ7,H7,I7,q7⟩:=q7;exact⟨σ7,H7,I7.pb,q7⟩
  | ret v=>obtain⟨x7,σ7,H7,I7,r7,q7⟩:=q7;exact⟨x7,σ7,H7,I7.pb,r7,q7⟩
end
theorem ve {c:TT} {tb:TS} {D:Ends} {σ:St} {H:Hp} (Pv:St->Hp->Prop) (μ:St->Hp->Nat) (h0:Pv σ H)
  (hs:∀σ H,Pv σ H->c σ H λb H1=>if b=true then tb {D with nx:=λσ' H'=>Pv σ' H'/\μ σ' H'<μ σ H,ct:=λσ' H'=>Pv σ' H'/\μ σ' H'<μ σ H,bk:=D.nx} σ H1 else D.nx σ H1)
  (mono:∀σ H Q Q',(∀b H1,Q b H1->Q' b H1)->c σ H Q->c σ H Q'):xr c tb D σ H:=by
 refine⟨λm σ H=>m=μ σ H/\Pv σ H,⟨_,rfl,h0⟩,?_⟩;rintro m σ H ⟨rfl,p⟩;refine mono σ H _ _ (λb H1 q=>?_) (hs σ H p);cases b with
 | true=>exact⟨_,λσ' H' ⟨p',l⟩=>⟨_,l,rfl,p'⟩,q⟩
 | false=>exact q
@[inline]abbrev R2:=V->V->Hp->VK->Prop
abbrev hZ (X:Cx) (f:Value->Value->Sem Value) (r:R2):Prop:=
 ∀(pins:List (Addr×Obj)) (s:Shared) (σ:St) (H:Hp) (x y:V) (v u:Value) (Q:VK),Inv X pins σ H s->RelV x v->RelV y u->r x y H Q->
  wpAny (model X.prog X.w) X.A (f v u) (EP X pins σ Q) X.xe s
abbrev Q9 (X:Cx) (f:Value->Sem Value) (r:V->Hp->VK->Prop):Prop:=
 ∀(pins:List (Addr×Obj)) (s:Shared) (σ:St) (H:Hp) (x:V) (v:Value) (Q:VK),Inv X pins σ H s->RelV x v->r x H Q->
  wpAny (model X.prog X.w) X.A (f v) (EP X pins σ Q) X.xe s
abbrev cj (X:Cx) (f:Value) (r:List V->Hp->VK->Prop):Prop:=
 ∀(pins:List (Addr×Obj)) (s:Shared) (σ:St) (H:Hp) (xs:List V) (us:List Value) (Q:VK),Inv X pins σ H s->br xs us->r xs H Q->
  wpAny (model X.prog X.w) X.A (call f us) (EP X pins σ Q) X.xe s
abbrev tOp (r:R2) (ta tb:TE):TE:=λσ H Q=>ta σ H λx H1=>tb σ H1 λy H2=>r x y H2 Q
abbrev tUn (r:V->Hp->VK->Prop) (ta:TE):TE:=λσ H Q=>ta σ H λx H1=>r x H1 Q
abbrev rI (C:Int->Int->Prop) (g:Int->Int->V):R2:=λx y H Q=>fR x λi=>fR y λj=>C i j/\Q (g i j) H
abbrev rI0 (g:Int->Int->V):R2:=λx y H Q=>fR x λi=>fR y λj=>Q (g i j) H
abbrev rU (g:Int->V):V->Hp->VK->Prop:=λx H Q=>∃i,x=.int i/\Q (g i) H
section
variable {X : Cx} {a b c : Expr} {ta tb tc : TE} {pos : Pos}
theorem Jy (ha:PE X a ta) (hb:PE X b tb) {pins:List (Addr×Obj)} {s:Shared} {σ:St} {H:Hp} {R:V->V->Hp->Prop} (I:Inv X pins σ H s)
  (h:ta σ H λx H1=>tb σ H1 λy H2=>R x y H2) {Q:Value->Shared->Prop} {f:Value->Value->Sem Value}
  (hf:∀v u s2 x y H2,Inv X pins σ H2 s2->RelV x v->RelV y u->R x y H2->wpAny (model X.prog X.w) X.A (f v u) Q X.xe s2):
  wpAny (model X.prog X.w) X.A (eval a X.env) (λv s₁=>wpAny (model X.prog X.w) X.A (eval b X.env) (λu s₂=>wpAny (model X.prog X.w) X.A (f v u) Q X.xe s₂) X.xe s₁) X.xe s:=by
 refine cb (ha pins s σ H _ I h) λv s1 dG=>?_;obtain⟨x,H1,I1,r1,q1⟩:=dG;refine cb (hb pins s1 σ H1 _ I1 q1) λu s2 dG=>?_;obtain⟨y,H2,I2,r2,q2⟩:=dG;exact hf v u s2 x y H2 I2 r1 r2 q2
theorem aJ {op:Operator} {r:R2} (ho:hZ X (binaryOp op) r) (ha:PE X a ta) (hb:PE X b tb):PE X (.BinOp a op b pos) (tOp r ta tb):=by
 intro pins s σ H Q I h;exact wpAny_BinOp (Jy ha hb I h λv u s2 x y H2 I2 rx ry q=>ho pins s2 σ H2 x y v u Q I2 rx ry q)
theorem kJ {op:UnaryOp} {r:V->Hp->VK->Prop} (ho:Q9 X (unaryOp op) r) (ha:PE X a ta):PE X (.UnaryOp op a pos) (tUn r ta):=by
 intro pins s σ H Q I h;exact UnaryOp_ (cb (ha pins s σ H _ I h) λv s1 ⟨x,H1,I1,r1,q1⟩=>ho pins s1 σ H1 x v Q I1 r1 q1)
theorem MM {f:Value->Value->Sem Value} {C:Int->Int->Prop} {g:Int->Int->Int}
  (rule:∀(i j:Int) (t u:Tok) (s:Shared) (Q:Value->Shared->Prop) (E:Value->Shared->Prop),C i j->Q (.int (g i j) s.toks) {s with toks:=s.toks+1}->wpAny (model X.prog X.w) X.A (f (.int i t) (.int j u)) Q E s):
  hZ X f (rI C λi j=>.int (g i j)):=by
 intro pins s σ H x y v u Q I rx ry h;obtain⟨i,rfl,h1⟩:=rdI_eq.mp h;obtain⟨j,rfl,hc,q⟩:=rdI_eq.mp h1;obtain⟨t,rfl⟩:=rx;obtain⟨t',rfl⟩:=ry;exact rule i j t t' s _ _ hc ⟨.int (g i j),H,I.tok _,⟨_,rfl⟩,q⟩
theorem MN {f:Value->Value->Sem Value} {g:Int->Int->Int}
  (rule:∀(i j:Int) (t u:Tok) (s:Shared) (Q:Value->Shared->Prop) (E:Value->Shared->Prop),Q (.int (g i j) s.toks) {s with toks:=s.toks+1}->wpAny (model X.prog X.w) X.A (f (.int i t) (.int j u)) Q E s):
  hZ X f (rI0 λi j=>.int (g i j)):=by
 intro pins s σ H x y v u Q I rx ry h;obtain⟨i,rfl,h1⟩:=rdI_eq.mp h;obtain⟨j,rfl,q⟩:=rdI_eq.mp h1;obtain⟨t,rfl⟩:=rx;obtain⟨t',rfl⟩:=ry;exact rule i j t t' s _ _ ⟨.int (g i j),H,I.tok _,⟨_,rfl⟩,q⟩
theorem E5 {f:Value->Value->Sem Value} {g:Int->Int->Bool}
  (rule:∀(i j:Int) (t u:Tok) (s:Shared) (Q:Value->Shared->Prop) (E:Value->Shared->Prop),Q (.bool (g i j)) s->wpAny (model X.prog X.w) X.A (f (.int i t) (.int j u)) Q E s):
  hZ X f (rI0 λi j=>.bl (g i j)):=by
 intro pins s σ H x y v u Q I rx ry h;obtain⟨i,rfl,h1⟩:=rdI_eq.mp h;obtain⟨j,rfl,q⟩:=rdI_eq.mp h1;obtain⟨t,rfl⟩:=rx;obtain⟨t',rfl⟩:=ry;exact rule i j t t' s _ _ ⟨.bl (g i j),H,I,rfl,q⟩
abbrev CPow (i j:Int):Prop:=0<=j/\j<=1000000/\i.natAbs<2^64
theorem aS:hZ X (binaryOp .Add) (rI0 λi j=>.int (i+j)):=MN λ_ _ _ _ _ _ _ q=>add_int q
theorem ia:hZ X (binaryOp .Sub) (rI0 λi j=>.int (i - j)):=MN λ_ _ _ _ _ _ _ q=>sub_int q
theorem Jz:hZ X (binaryOp .Mod) (rI (λ_ j=>0<j) λi j=>.int (i % j)):=MM λi j _ _ _ _ _ hc q=>by
 have h1:(0:Int)<j:=hc;exact mod_int' ⋯ (by rw[Int.fmod_eq_emod_of_nonneg i ⋯];exact q)
theorem xw:hZ X (binaryOp .Pow) (rI CPow λi j=>.int (i^j.toNat)):=MM λ_ _ _ _ _ _ _ hc q=>pow_int_small hc.1 hc.2.1 hc.2.2 q
theorem YK {f:Value->Sem Value} {g:Int->Int}
  (rule:∀(i:Int) (t:Tok) (s:Shared) (Q:Value->Shared->Prop) (E:Value->Shared->Prop),Q (.int (g i) s.toks) {s with toks:=s.toks+1}->wpAny (model X.prog X.w) X.A (f (.int i t)) Q E s):
  Q9 X f (rU λi=>.int (g i)):=by
 intro pins s σ H x v Q I rx h;obtain⟨i,rfl,q⟩:=h;obtain⟨t,rfl⟩:=rx;exact rule i t s _ _ ⟨.int (g i),H,I.tok _,⟨_,rfl⟩,q⟩
theorem ib:Q9 X (unaryOp .USub) (rU λi=>.int (-i)):=YK λ_ _ _ _ _ q=>neg_int q
end
abbrev xy:V->V->Bool
 | .bZ,.bZ=>true | .bZ,.int _=>true | .int _,.bZ=>true | .bZ,.bl _=>true | .bl _,.bZ=>true | .bZ,.str _=>true | .str _,.bZ=>true
 | .int _,.int _=>true | .bl _,.bl _=>true | .str _,.str _=>true | .Bs _,.Bs _=>true
 | .int _,.str _=>true | .str _,.int _=>true | .bl _,.str _=>true | .str _,.bl _=>true
 | _,_=>false
abbrev rEq:R2:=λx y H Q=>xy x y=true/\Q (.bl (decide (x=y))) H
abbrev rNe:R2:=λx y H Q=>xy x y=true/\Q (.bl (!decide (x=y))) H
theorem yQ {i j:Int}:decide (V.int i=V.int j)=(i==j):=by
 rw[Bool.eq_iff_iff];simp
theorem BQ {i j:Bool}:decide (V.bl i=V.bl j)=(i==j):=by
 rw[Bool.eq_iff_iff];simp
theorem yR {i j:Str}:decide (V.str i=V.str j)=(i==j):=by
 rw[Bool.eq_iff_iff];simp
theorem yS {i j:Array UInt8}:decide (V.Bs i=V.Bs j)=(i.toList==j.toList):=by
 rw[Bool.eq_iff_iff];cases i;cases j;simp
section
variable {X : Cx} {a b c : Expr} {ta tb tc : TE} {pos : Pos}
theorem bJ {pins:List (Addr×Obj)} {σ:St} {H:Hp} {s:Shared} {Q:VK} {k k':Bool} (I:Inv X pins σ H s) (q:Q (.bl k) H) (e:k=k'):EP X pins σ Q (.bool k') s:=by
 subst e;exact⟨.bl k,H,I,rfl,q⟩
theorem bq:hZ X (compareOp .Eq) rEq:=by
 intro pins s σ H x y v u Q I rx ry h;obtain⟨hs,q⟩:=h;cases x with
 | bZ=>
  cases rx;cases y with
  | bZ=>cases ry;exact PySem.EqNone.eq_none_none (bJ I q (by simp))
  | bl j=>cases ry;exact PySem.EqNone.eq_none_bool (bJ I q (by simp))
  | int j=>obtain⟨t',rfl⟩:=ry;exact PySem.EqNone.eq_none_int (bJ I q (by simp))
  | str j=>obtain⟨t',rfl⟩:=ry;exact PySem.EqNone.eq_none_str (bJ I q (by simp))
  | _=>exact absurd (show false=true from hs) aax
 | bl i=>
  cases rx;cases y with
  | bZ=>cases ry;exact PySem.EqNone.eq_bool_none (bJ I q (by simp))
  | bl j=>cases ry;exact eq_bool (bJ I q BQ)
  | str j=>obtain⟨t',rfl⟩:=ry;exact PySem.EqMixed.eq_bool_str (bJ I q (by simp))
  | _=>exact absurd (show false=true from hs) aax
 | int i=>
  obtain⟨t,rfl⟩:=rx;cases y with
  | bZ=>cases ry;exact PySem.EqNone.eq_int_none (bJ I q (by simp))
  | int j=>obtain⟨t',rfl⟩:=ry;exact eq_int (bJ I q yQ)
  | str j=>obtain⟨t',rfl⟩:=ry;exact PySem.EqMixed.eq_int_str (bJ I q (by simp))
  | _=>exact absurd (show false=true from hs) aax
 | str i=>
  obtain⟨t,rfl⟩:=rx;cases y with
  | bZ=>cases ry;exact PySem.EqNone.eq_str_none (bJ I q (by simp))
  | bl j=>cases ry;exact PySem.EqMixed.eq_str_bool (bJ I q (by simp))
  | int j=>obtain⟨t',rfl⟩:=ry;exact PySem.EqMixed.eq_str_int (bJ I q (by simp))
  | str j=>obtain⟨t',rfl⟩:=ry;exact eq_str (bJ I q yR)
  | _=>exact absurd (show false=true from hs) aax
 | Bs i=>
  obtain⟨t,rfl⟩:=rx;cases y with
  | Bs j=>obtain⟨t',rfl⟩:=ry;exact PySem.W.eq_bytes (bJ I q yS)
  | _=>exact absurd (show false=true from hs) aax
 | _=>cases y <;>exact absurd (show false=true from hs) aax
theorem pe:hZ X (compareOp .NotEq) rNe:=by
 intro pins s σ H x y v u Q I rx ry h;obtain⟨hs,q⟩:=h;cases x with
 | bZ=>
  cases rx;cases y with
  | bZ=>cases ry;exact PySem.EqNone.ne_none_none (bJ I q (by simp))
  | bl j=>cases ry;exact PySem.EqNone.ne_none_bool (bJ I q (by simp))
  | int j=>obtain⟨t',rfl⟩:=ry;exact PySem.EqNone.ne_none_int (bJ I q (by simp))
  | str j=>obtain⟨t',rfl⟩:=ry;exact PySem.EqNone.ne_none_str (bJ I q (by simp))
  | _=>exact absurd (show false=true from hs) aax
 | bl i=>
  cases rx;cases y with
  | bZ=>cases ry;exact PySem.EqNone.ne_bool_none (bJ I q (by simp))
  | bl j=>cases ry;exact ne_bool (bJ I q (congrArg not BQ))
  | str j=>obtain⟨t',rfl⟩:=ry;exact PySem.EqMixed.ne_bool_str (bJ I q (by simp))
  | _=>exact absurd (show false=true from hs) aax
 | int i=>
  obtain⟨t,rfl⟩:=rx;cases y with
  | bZ=>cases ry;exact PySem.EqNone.ne_int_none (bJ I q (by simp))
  | int j=>obtain⟨t',rfl⟩:=ry;exact ne_int (bJ I q (congrArg not yQ))
  | str j=>obtain⟨t',rfl⟩:=ry;exact PySem.EqMixed.ne_int_str (bJ I q (by simp))
  | _=>exact absurd (show false=true from hs) aax
 | str i=>
  obtain⟨t,rfl⟩:=rx;cases y with
  | bZ=>cases ry;exact PySem.EqNone.ne_str_none (bJ I q (by simp))
  | bl j=>cases ry;exact PySem.EqMixed.ne_str_bool (bJ I q (by simp))
  | int j=>obtain⟨t',rfl⟩:=ry;exact PySem.EqMixed.ne_str_int (bJ I q (by simp))
  | str j=>obtain⟨t',rfl⟩:=ry;exact ne_str (bJ I q (congrArg not yR))
  | _=>exact absurd (show false=true from hs) aax
 | Bs i=>
  obtain⟨t,rfl⟩:=rx;cases y with
  | Bs j=>obtain⟨t',rfl⟩:=ry;exact PySem.W.ne_bytes (bJ I q (congrArg not yS))
  | _=>exact absurd (show false=true from hs) aax
 | _=>cases y <;>exact absurd (show false=true from hs) aax
theorem vf:hZ X (compareOp .Lt) (rI0 λi j=>.bl (decide (i<j))):=E5 λ_ _ _ _ _ _ _ q=>lt_int q
theorem nv:hZ X (compareOp .LtE) (rI0 λi j=>.bl (decide (i<=j))):=E5 λ_ _ _ _ _ _ _ q=>le_int q
theorem fB:hZ X (compareOp .Gt) (rI0 λi j=>.bl (decide (j<i))):=E5 λ_ _ _ _ _ _ _ q=>gt_int q
theorem yT:hZ X (compareOp .GtE) (rI0 λi j=>.bl (decide (j<=i))):=E5 λ_ _ _ _ _ _ _ q=>ge_int q
theorem AA:hZ X (compareOp .In) (λx y H Q=>∃i j,x=.str i/\y=.str j/\Q (.bl (!(Builtin.Str.occurrences j i 0 j.length 1).isEmpty)) H):=by
 intro pins s σ H x y v u Q I rx ry h;obtain⟨i,j,rfl,rfl,q⟩:=h;obtain⟨t,rfl⟩:=rx;obtain⟨t',rfl⟩:=ry;exact in_str (bJ I q rfl)
theorem sZ:hZ X (compareOp .Is) (λx y H Q=>y=.bZ/\Q (.bl (decide (x=.bZ))) H):=by
 intro pins s σ H x y v u Q I rx ry h;obtain⟨rfl,q⟩:=h;cases ry;refine is_none_gen (bJ I q ?_);cases x <;>first
  | (cases rx;rfl)
  | (obtain⟨t,rfl⟩:=rx;rfl)
theorem E6:hZ X (compareOp .IsNot) (λx y H Q=>y=.bZ/\Q (.bl (!decide (x=.bZ))) H):=by
 intro pins s σ H x y v u Q I rx ry h;obtain⟨rfl,q⟩:=h;cases ry;refine isnot_none_gen (bJ I q ?_);cases x <;>first
  | (cases rx;rfl)
  | (obtain⟨t,rfl⟩:=rx;rfl)
theorem tf:hZ X (compareOp .NotIn) (λx y H Q=>∃i j,x=.str i/\y=.str j/\Q (.bl (!(!(Builtin.Str.occurrences j i 0 j.length 1).isEmpty))) H):=by
 intro pins s σ H x y v u Q I rx ry h;obtain⟨i,j,rfl,rfl,q⟩:=h;obtain⟨t,rfl⟩:=rx;obtain⟨t',rfl⟩:=ry;exact notIn_str (bJ I q rfl)
theorem aR (b:Expr) {op:CmpOp} (h:op≠.In:=by decide) (h2:op≠.NotIn:=by decide):behindInMarks op b=false:=by
 have e1:(op==CmpOp.In)=false:=by cases op <;>first | rfl | exact absurd rfl h
 have e2:(op==CmpOp.NotIn)=false:=by cases op <;>first | rfl | exact absurd rfl h2
 cases b <;>simp [behindInMarks,e1,e2]
theorem eX {op:CmpOp} {r:R2} (ho:hZ X (compareOp op) r) (ha:PE X a ta) (hb:PE X b tb) (hm:behindInMarks op b=false):PE X (.Compare a [op] [b] pos) (tOp r ta tb):=by
 intro pins s σ H Q I h;exact wpAny_Compare1 (Jy ha hb I h λv u s2 x y H2 I2 rx ry q=>ho pins s2 σ H2 x y v u Q I2 rx ry q) hm
abbrev tTest (t:TE):TT:=λσ H Q=>t σ H λx H'=>L3 x λk=>Q k H'
theorem aL {op:CmpOp} {r:R2} (ho:hZ X (compareOp op) r) (ha:PE X a ta) (hb:PE X b tb) (hm:behindInMarks op b=false):PT X (.Compare a [op] [b] pos) (tTest (tOp r ta tb)):=by
 intro pins s σ H Q I h;refine wpAny_isTrue_Compare1 (cb (ha pins s σ H _ I h) λv s1 ⟨x,H1,I1,r1,q1⟩=>cb (hb pins s1 σ H1 _ I1 q1) λu s2 ⟨y,H2,I2,r2,q2⟩=>
  cb (ho pins s2 σ H2 x y v u _ I2 r1 r2 q2) λc s3 ⟨z,H3,I3,r3,q3⟩=>?_) hm
 obtain⟨k,e,q3⟩:=rdB_eq.mp q3;subst e;cases r3;exact wpAny_truthy_bool ⟨H3,I3,q3⟩
abbrev tChain (r r':R2) (ta tb tc:TE):TE:=λσ H Q=>ta σ H λx H1=>tb σ H1 λy H2=>r x y H2 λz H3=>∃k,z=.bl k/\
 (if k=true then tc σ H3 λw' H4=>r' y w' H4 Q else Q (.bl false) H3)
theorem BR {op JA:CmpOp} {r r':R2} (ho:hZ X (compareOp op) r) (Ar:hZ X (compareOp JA) r') (ha:PE X a ta) (hb:PE X b tb) (hc:PE X c tc)
  (hm:lastMarks [op,JA] [b,c]=false:=by with_unfolding_all rfl):PE X (.Compare a [op,JA] [b,c] pos) (tChain r r' ta tb tc):=by
 intro pins s σ H Q I h;refine Compare_chain (cb (ha pins s σ H _ I h) λv s1 ⟨x,H1,I1,r1,q1⟩=>chain_link (cb (hb pins s1 σ H1 _ I1 q1) λu s2 ⟨y,H2,I2,r2,q2⟩=>
  cb (ho pins s2 σ H2 x y v u _ I2 r1 r2 q2) λd s3 ⟨z,H3,I3,r3,k,e,q3⟩=>?_)) hm
 subst e;cases r3;refine wpAny_truthy_bool ?_;cases k with
 | false=>exact ite_ff ⟨.bl false,H3,I3,rfl,q3⟩
 | true=>exact ite_tt (chain_last (cb (hc pins s3 σ H3 _ I3 q3) λw' s4 ⟨z',H4,I4,r4,q4⟩=>Ar pins s4 σ H4 y z' u w' Q I4 r2 r4 q4))
theorem pf {op JA:CmpOp} {r r':R2} (ho:hZ X (compareOp op) r) (Ar:hZ X (compareOp JA) r') (ha:PE X a ta) (hb:PE X b tb) (hc:PE X c tc)
  (hm:lastMarks [op,JA] [b,c]=false:=by with_unfolding_all rfl):PT X (.Compare a [op,JA] [b,c] pos) (tTest (tChain r r' ta tb tc)):=by
 intro pins s σ H Q I h;refine isTrue_chain (cb (ha pins s σ H _ I h) λv s1 ⟨x,H1,I1,r1,q1⟩=>test_link (cb (hb pins s1 σ H1 _ I1 q1) λu s2 ⟨y,H2,I2,r2,q2⟩=>
  cb (ho pins s2 σ H2 x y v u _ I2 r1 r2 q2) λd s3 ⟨z,H3,I3,r3,k,e,q3⟩=>?_)) hm
 subst e;cases r3;refine wpAny_truthy_bool ?_;cases k with
 | false=>
  exact ite_ff ⟨H3,I3,q3⟩
 | true=>
  refine ite_tt (test_last (cb (hc pins s3 σ H3 _ I3 q3) λw' s4 ⟨z',H4,I4,r4,q4⟩=>cb (Ar pins s4 σ H4 y z' u w' _ I4 r2 r4 q4) λd' s5 dG=>?_));obtain⟨z2,H5,I5,r5,q5⟩:=dG;obtain⟨k2,e2,q5⟩:=rdB_eq.mp q5;subst e2;cases r5;exact wpAny_truthy_bool ⟨H5,I5,q5⟩
theorem mm:(sizeLine:Nat)<2^63:=by rw[sizeLine_eq];decide
theorem ph:hZ X (binaryOp .Add) (λx y H Q=>∃i j,x=.str i/\y=.str j/\i.length+j.length<=sizeLine/\Q (.str (i++j)) H):=by
 intro pins s σ H x y v u Q I rx ry h;obtain⟨i,j,rfl,rfl,hz,q⟩:=h;obtain⟨t,rfl⟩:=rx;obtain⟨t',rfl⟩:=ry;exact add_str (λt' tk=>⟨.str (i++j),H,I.tok _,⟨_,rfl⟩,q⟩) hz
theorem vals1 {x:V} {us:List Value} (r:br [x] us):∃u,us=[u]/\RelV x u:=by
 cases r with
 | cons r1 r2=>cases r2;exact⟨_,rfl,r1⟩
theorem vals2 {x y:V} {us:List Value} (r:br [x,y] us):∃u w',us=[u,w']/\RelV x u/\RelV y w':=by
 cases r with
 | cons r1 r2=>
  cases r2 with
  | cons r3 r4=>cases r4;exact⟨_,_,rfl,r1,r3⟩
theorem pj:cj X (.builtin "abs") (λxs H Q=>∃i,xs=[.int i]/\Q (.int (if i<0 then -i else i)) H):=by
 intro pins s σ H xs us Q I r h;obtain⟨i,rfl,q⟩:=h;obtain⟨u,rfl,t,rfl⟩:=vals1 r;exact call_abs_int λu tk=>⟨.int (if i<0 then -i else i),H,I.tok _,⟨_,rfl⟩,q⟩
theorem jh (hc:X.calm=true):cj X (.builtin "max") (λxs H Q=>∃i j,xs=[.int i,.int j]/\Q (.int (if j >i then j else i)) H):=by
 intro pins s σ H xs us Q I r h;obtain⟨i,j,rfl,q⟩:=h;obtain⟨u,w',rfl,⟨t,rfl⟩,⟨t',rfl⟩⟩:=vals2 r;refine max_two_ints (I.ok.hd hc) λh' tk k=>⟨_,H,I.kept k,?_,q⟩
 by_cases hj:j >i
 ·rw[if_pos hj,if_pos hj];exact⟨_,rfl⟩
 ·rw[if_neg hj,if_neg hj];exact⟨_,rfl⟩
theorem fO (hc:X.calm=true):cj X (.builtin "min") (λxs H Q=>∃i j,xs=[.int i,.int j]/\Q (.int (if j<i then j else i)) H):=by
 intro pins s σ H xs us Q I r h;obtain⟨i,j,rfl,q⟩:=h;obtain⟨u,w',rfl,⟨t,rfl⟩,⟨t',rfl⟩⟩:=vals2 r;refine min_two_ints (I.ok.hd hc) λh' tk k=>⟨_,H,I.kept k,?_,q⟩
 by_cases hj:j<i
 ·rw[if_pos hj,if_pos hj];exact⟨_,rfl⟩
 ·rw[if_neg hj,if_neg hj];exact⟨_,rfl⟩
theorem AB:cj X (.type "int") (λxs H Q=>(∃i,xs=[.int i]/\Q (.int i) H)\/∃k,xs=[.bl k]/\Q (.int (if k then 1 else 0)) H):=by
 intro pins s σ H xs us Q I r h;rcases h with ⟨i,rfl,q⟩ | ⟨k,rfl,q⟩
 ·obtain⟨u,rfl,t,rfl⟩:=vals1 r;exact call_int_int ⟨.int i,H,I,⟨_,rfl⟩,q⟩
 ·obtain⟨u,rfl,r1⟩:=vals1 r;cases r1;exact call_int_bool ⟨.int (if k then 1 else 0),H,I.tok _,⟨_,rfl⟩,q⟩
theorem tj:cj X (.type "str") (λxs H Q=>∃i,xs=[.int i]/\i.natAbs.log2<1920/\Q (.str (toString i)) H):=by
 intro pins s σ H xs us Q I r h;obtain⟨i,rfl,hz,q⟩:=h;obtain⟨u,rfl,t,rfl⟩:=vals1 r;exact PySem.P.str_of_int hz ⟨.str _,H,I.tok _,⟨_,rfl⟩,q⟩
end
structure xA (h:Heap) (x dx C:Addr) (mA:Str->Option Value):Prop where
 obj:h.get? x=some (PySem.W.instObj C dx)
 ns:h.Ns1 dx mA
 ne:dx≠x
set_option tactic.hygienic true in
theorem AD {h:Heap} {dx:Addr} {mA:Str->Option Value} (n:h.Ns1 dx mA):∃od,h.get? dx=some od/\∀name,PySem.W.lookIn name od=some (mA name):=by
 obtain⟨o,es,ep,ho,hd,hk,_,hm⟩:=n;refine⟨o,ho,λname=>?_⟩;have e:=hm name;unfold nsFind findBy at e;rw[<-Array.find?_toList] at e;unfold PySem.W.lookIn;rw[hd];dsimp only
 split
 ·rename_i y q
  rw[q] at e;exact congrArg some e
 ·rename_i q
  rw[q] at e;have a:es.toList.any (·.refKey)=false:=by
   rw[List.any_eq_false];intro y hy;obtain⟨z,t,SG⟩:=hk y (Array.mem_toList_iff.mp hy);simp [DictEntry.refKey,SG]
  have a':¬es.toList.any (·.refKey)=true:=by rw[a];exact aax
  rw[if_neg a'];exact congrArg some e
theorem xA.look {h:Heap} {x dx C:Addr} {mA:Str->Option Value} (I:xA h x dx C mA):∃od,PySem.W.InstAt h x (PySem.W.instObj C dx) C (some od)/\∀name,PySem.W.lookIn name od=some (mA name):=
 let ⟨od,ho,hl⟩:=AD I.ns
 ⟨od,⟨I.obj,rfl,rfl,ho⟩,hl⟩
section
variable {prog : Program} {w : World} {A : Around} {E : Value -> Shared -> Prop} {s : Shared} {K : abk} {x dx C f : Addr} {mA : Str -> Option Value} {name : Str} {v : Value}
theorem get_map {expr:Bool} {Q:Value->Shared->Prop} (X:K.In s.heap) (I:xA s.heap x dx C mA) (hg:PySem.W.plainGet K C name=true) (hh:PySem.W.hasDictIn K C=true)
  (ha:abp K (.ref C) name=some none) (hv:mA name=some v) (SH:PySem.W.handedIn v=true) (h:Q v {s with toks:=s.toks+1}):
  wpAny (model prog w) A (getAttr (.ref x) name expr) Q E s:=by
 obtain⟨od,J,hl⟩:=I.look;exact PySem.W.get_value X J (PySem.W.plainGet_of hg).1 (PySem.W.findObj_own hh ha rfl (by rw[hl,hv])) SH h
theorem BU {pl:Sem Bool} {Q:Value×List Value->Shared->Prop} (X:K.In s.heap) (I:xA s.heap x dx C mA) (hg:PySem.W.plainGet K C name=true)
  (hf:abp K (.ref C) name=some (some (.ref f))) (ht:PySem.W.isFn K (.ref f)=true) (hv:mA name=none) (h:Q (.ref f,[.ref x]) s):
  wpAny (model prog w) A (getMethod (.ref x) name pl) Q E s:=by
 obtain⟨od,J,hl⟩:=I.look;exact PySem.W.method_fn X J (PySem.W.plainGet_of hg).1 (PySem.W.plainGet_of hg).2 hf (beq_iff_eq.mp ht) (by show(PySem.W.lookIn name od).map (·.isSome)=some false;rw[hl,hv];rfl) h
theorem E7 {ns:List Str} {Q:Unit->Shared->Prop} (X:K.In s.heap) (I:xA s.heap x dx C mA)
  (hs:abp K (.ref C) "__setattr__"=some (some (.builtin "object.__setattr__"))) (hp:PySem.W.plainOver K C=true) (ht:PySem.W.takerIn K C name=some none) (hh:PySem.W.hasDictIn K C=true)
  (hw:PySem.Within mA ns) (hsz:ns.length<=sizeLine)
  (h:∀h',xA h' x dx C (λy=>if y=name then some v else mA y)->Heap.SameBut dx s.heap h'->Q () {s with heap:=h',toks:=s.toks+2}):
  wpAny (model prog w) A (setAttr (.ref x) name v) Q E s:=by
 obtain⟨od,J,hl⟩:=I.look;refine PySem.W.set_plain X J hs (PySem.W.osa_open (s:={s with toks:=s.toks+1}) (r:=none) X J hp ht λb=>?_);obtain⟨cd,hc,Sv⟩:=PySem.W.any_some hh;have hx:s.heap.get? x=some ⟨.ref C,some dx,.plain,#[]⟩:=I.obj;refine wpAny_bind (wpAny_pure (wpAny_bind (wpAny_bind (wpAny_loadPart hx (wpAny_bind (PySem.W.Looks.here (s:={s with toks:=s.toks+1}) (PySem.W.looks_clsIn X hc) ?_))))));rw[Sv];refine wpAny_pure (a:=some dx) (wpAny_bind (wpAny_pure (wpAny_bind ?_)));refine wpAny_nsSet1 (s:={s with toks:=s.toks+1}) I.ns λh' Ra Hw=>?_;obtain⟨oD,esD,epD,YL,YM,YN⟩:=Ra.count (PySem.Within.cons name v hw);refine wpAny_bind (wpAny_lookBehind YL (by rw[YM];exact pastItsLine_dict (aau YN (by rw[aaw];lia))) ?_);exact wpAny_pure (h _ ⟨(Hw.2 _ (Ne.symm I.ne)).trans I.obj,Ra,I.ne⟩ Hw)
theorem BV {R:Result->Shared->Prop} {vs:List Value} {kw:List (Str×Value)} (X:K.In s.heap) (hm:PySem.W.makesIn K C=true)
  (hi:abp K (.ref C) "__init__"=some (some (.ref f))) (hf:PySem.W.typeIn K (.ref f)=some (.type "function"))
  (h:codeAny (model prog w) (A.under (.builtin "type.__call__" ⟨.ref C::vs,kw⟩)) (.call (.ref f) ⟨.ref (s.heap.objs.size+1)::vs,kw⟩) (PySem.W.InitBack (s.heap.objs.size+1) R)
   {s with heap:=(s.heap.push PySem.W.emptyDict).push (PySem.W.instObj C s.heap.objs.size)}):
  codeAny (model prog w) A (.call (.ref C) ⟨vs,kw⟩) R s:=by
 obtain⟨hh,g,d,t,os⟩:=s;exact PySem.W.make_core (PySem.W.makes_of X hm) (PySem.W.looks_findIn X hi) (λself=>PySem.W.bind_fn X self hf) (.inl rfl) h
end
abbrev gI (f:Str) (v:V):List (Str×V)->List (Str×V)
 | []=>[(f,v)]
 | (g,x)::r=>if g=f then (g,v)::r else (g,x)::gI f v r
theorem nA (f g:Str) (v:V):∀fs:List (Str×V),(gI f v fs).lookup g=if g=f then some v else fs.lookup g
 | []=>by
  show List.lookup g [(f,v)]=_
  by_cases h:g=f
  ·have hb:(g==f)=true:=beq_iff_eq.mpr h;simp only[List.lookup,hb,if_pos h]
  ·have hb:(g==f)=false:=beq_eq_false_iff_ne.mpr h;simp only[List.lookup,hb,if_neg h]
 | (k,x)::r=>by
  have ih:=nA f g v r;rw[show gI f v ((k,x)::r)=(if k=f then (k,v)::r else (k,x)::gI f v r) from rfl]
  by_cases hk:k=f
  ·rw[if_pos hk]
   by_cases h:g=k
   ·have hb:(g==k)=true:=beq_iff_eq.mpr h;simp only[List.lookup,hb,if_pos (h.trans hk)]
   ·have hb:(g==k)=false:=beq_eq_false_iff_ne.mpr h;simp only[List.lookup,hb,if_neg (λe:g=f=>h (e.trans hk.symm))]
  ·rw[if_neg hk]
   by_cases h:g=k
   ·have hb:(g==k)=true:=beq_iff_eq.mpr h;simp only[List.lookup,hb,if_neg (λe:g=f=>hk (h.symm.trans e))]
   ·have hb:(g==k)=false:=beq_eq_false_iff_ne.mpr h;simp only[List.lookup,hb];exact ih
theorem mq (f:Str) (v:V):∀fs:List (Str×V),f∈(gI f v fs).map (·.1)/\∀g,g∈fs.map (·.1)->g∈(gI f v fs).map (·.1)
 | []=>⟨by simp [gI],λg h=>by simp at h⟩
 | (k,x)::r=>by
  obtain⟨i1,i2⟩:=mq f v r;rw[show gI f v ((k,x)::r)=(if k=f then (k,v)::r else (k,x)::gI f v r) from rfl]
  by_cases hk:k=f
  ·rw[if_pos hk];subst hk;exact⟨by simp,λg h=>by simpa using h⟩
  ·rw[if_neg hk];refine⟨?_,λg h=>?_⟩
   ·rw[aak];exact aap _ i1
   ·rw[aak] at h ⊢;rcases aaX.mp h with e | e
    ·exact aaX.mpr (.inl e)
    ·exact aap _ (i2 g e)
theorem nB (f:Str) (v:V):∀fs:List (Str×V),(gI f v fs).length<=fs.length+1
 | []=>by simp [gI]
 | (k,x)::r=>by
  have ih:=nB f v r;rw[show gI f v ((k,x)::r)=(if k=f then (k,v)::r else (k,x)::gI f v r) from rfl]
  by_cases hk:k=f
  ·rw[if_pos hk,aaw,aaw];lia
  ·rw[if_neg hk,aaw,aaw];lia
theorem iG.some_of {v:V} {o:Option Value} (r:iG (some v) o):∃u,o=some u/\RelV v u:=by
 cases o with
 | none=>exact(show False from r).elim
 | some u=>exact⟨u,rfl,r⟩
theorem iG.none_of {o:Option Value} (r:iG none o):o=none:=by
 cases o with
 | none=>rfl
 | some u=>exact(show False from r).elim
theorem AE {v:V} {u:Value} (r:RelV v u):PySem.W.handedIn u=true:=by
 cases v with
 | bZ=>cases (show u=Value.none from r);rfl
 | bl b=>cases (show u=Value.bool b from r);rfl
 | int i=>obtain⟨t,e⟩:=(show ∃t,u=Value.int i t from r);cases e;rfl
 | str x=>obtain⟨t,e⟩:=(show ∃t,u=Value.str x t from r);cases e;rfl
 | Bs b=>obtain⟨t,e⟩:=(show ∃t,u=Value.bytes b t from r);cases e;rfl
 | Jn b=>obtain⟨t,e⟩:=(show ∃t,u=Value.float b t from r);cases e;rfl
 | ref a=>cases (show u=Value.ref a from r);rfl
 | ty n=>cases (show u=Value.type n from r);rfl
section
variable {P : Program} {w : World} {H H' : Hp} {h h' : Heap} {a C dx : Addr} {fs YC : List (Str × V)}
theorem oC (bL:gG P w H h) (e:H a=some (.ins C dx fs)):∃mA,xA h a dx C mA/\(∀f,iG (fs.lookup f) (mA f))/\PySem.Within mA (fs.map (·.1))/\fs.length<=1000/\H dx=some (.own a):=by
 obtain⟨d,z,ne,ob,mA,n,r,q⟩:=(show cE P w H h a (.ins C dx fs) from bL a _ e)
 exact⟨mA,⟨ob,n,ne⟩,r,q,z,d⟩
end
structure vg (K:abk) (C:Addr):Prop where
 pg:PySem.W.plainGet K C Str.empty=true
 hd:PySem.W.hasDictIn K C=true
 po:PySem.W.plainOver K C=true
 sa:abp K (.ref C) "__setattr__"=some (some (.builtin "object.__setattr__"))
theorem vg.get {K:abk} {C:Addr} (c:vg K C) (f:Str):PySem.W.plainGet K C f=true:=c.pg
abbrev mr (K:abk) (C:Addr) (f:Str):Prop:=abp K (.ref C) f=some none
theorem mr.MO {K:abk} {C:Addr} {f:Str} (n:mr K C f):PySem.W.takerIn K C f=some none:=by
 unfold PySem.W.takerIn;rw[show abp K (.ref C) f=some none from n];rfl
structure Con (K:abk) (C:Addr) (f:Str) (v:V) (u:Value):Prop where
 at_:abp K (.ref C) f=some (some u)
 rel:RelV v u
 get:PySem.W.specialIn K u "__get__"=some none
 cp:PySem.W.copiedNames.contains f=false
structure BW (K:abk) (C:Addr) (m:Str) (f:Addr):Prop where
 at_:abp K (.ref C) m=some (some (.ref f))
 fn:PySem.W.isFn K (.ref f)=true
 kp:abl K (.ref f)=true
section
variable {X : Cx} {pins : List (Addr × Obj)} {σ : St} {H : Hp} {s : Shared} {a C dx : Addr} {fs : List (Str × V)} {f : Str} {v : V} {A : Around} {E : Value -> Shared -> Prop}
theorem xB {b:Bool} {Q:Value->Shared->Prop} (I:Inv X pins σ H s) (e:H a=some (.ins C dx fs)) (c:vg X.K C) (n:mr X.K C f) (l:fs.lookup f=some v)
  (h:∀u s',Inv X pins σ H s'->RelV v u->Q u s'):wpAny (model X.prog X.w) A (getAttr (.ref a) f b) Q E s:=by
 obtain⟨mA,O,r,_,_,_⟩:=oC I.bL e;obtain⟨u,hu,ru⟩:=iG.some_of (v:=v) (o:=mA f) (by rw[<-l];exact r f);exact get_map I.iK O (c.get f) c.hd n hu (AE ru) (h u _ (I.tok _) ru)
theorem j7 {m:Str} {g:Addr} {pl:Sem Bool} {Q:Value×List Value->Shared->Prop} (I:Inv X pins σ H s) (e:H a=some (.ins C dx fs)) (c:vg X.K C) (k:BW X.K C m g) (l:fs.lookup m=none)
  (h:Q (.ref g,[.ref a]) s):wpAny (model X.prog X.w) A (getMethod (.ref a) m pl) Q E s:=by
 obtain⟨mA,O,r,_,_,_⟩:=oC I.bL e;have hn:mA m=none:=iG.none_of (by rw[<-l];exact r m);exact BU I.iK O (c.get m) k.at_ k.fn hn h
theorem xC {y:V} {u:Value} {Q:Unit->Shared->Prop} (I:Inv X pins σ H s) (e:H a=some (.ins C dx fs)) (c:vg X.K C) (n:mr X.K C f) (hl:fs.length<1000) (ry:RelV y u)
  (h:∀s',Inv X pins σ (upd H a (.ins C dx (gI f y fs))) s'->Q () s'):wpAny (model X.prog X.w) A (setAttr (.ref a) f u) Q E s:=by
 obtain⟨mA,O,r,wi,_,ho⟩:=oC I.bL e;have hz:(fs.map (·.1)).length<=sizeLine:=by rw[aaj,sizeLine_eq];lia
 refine E7 I.iK O c.sa c.po n.MO c.hd wi hz λh' O' sb=>h _ ?_;have hd:∃o,h'.get? dx=some o:=let ⟨o,_,_,e',_⟩:=O'.ns;⟨o,e'⟩;refine I.write (x:=a) (e:=dx) (by rw[e];exact True.intro) (.inr ho) (λb q hb z=>(sb.2 b hb).trans z) hd ?_;refine⟨by rw[aD O.ne];exact ho,?_,O.ne,O'.obj,_,O'.ns,λg=>?_,λg hg=>?_⟩
 ·have:=nB f y fs;lia
 ·show iG ((gI f y fs).lookup g) (if g=f then some u else mA g);rw[nA]
  by_cases q:g=f
  ·rw[if_pos q,if_pos q];exact ry
  ·rw[if_neg q,if_neg q];exact r g
 ·by_cases q:g=f
  ·rw[q];exact(mq f y fs).1
  ·refine(mq f y fs).2 g (wi g λz=>hg ?_);show(if g=f then some u else mA g)=none;rw[if_neg q];exact z
theorem Inv.made (I:Inv X pins σ H s):Inv X pins σ (upd (upd H s.heap.objs.size (.own (s.heap.objs.size+1))) (s.heap.objs.size+1) (.ins C s.heap.objs.size []))
  {s with heap:=(s.heap.push PySem.W.emptyDict).push (PySem.W.instObj C s.heap.objs.size)}:=by
 have e1:(s.heap.push PySem.W.emptyDict).get? s.heap.objs.size=some PySem.W.emptyDict:=abw s.heap rfl;have e2:((s.heap.push PySem.W.emptyDict).push (PySem.W.instObj C s.heap.objs.size)).get? (s.heap.objs.size+1)=some (PySem.W.instObj C s.heap.objs.size):=by
  have:=abw (s.heap.push PySem.W.emptyDict) (o:=PySem.W.instObj C s.heap.objs.size) rfl
  rwa [Heap.size_push] at this
 have e3:(s.heap.push PySem.W.emptyDict).Ns s.heap.objs.size (λ_=>none):=⟨PySem.W.emptyDict,#[],_,e1,rfl,(λe he=>absurd he (by simp)),λ_=>rfl⟩
 have I1:=I.laid (a:=s.heap.objs.size) (o:=.own (s.heap.objs.size+1)) (h':=s.heap.push PySem.W.emptyDict) (t':=s.toks) (λb u q=>abv _ q) (aam _) ⟨_,e1⟩;refine I1.laid (a:=s.heap.objs.size+1) (o:=.ins C s.heap.objs.size []) (t':=s.toks) (λb u q=>abv _ q) (Nat.le_of_eq (Heap.size_push _ _)) ?_;have ne:s.heap.objs.size≠s.heap.objs.size+1:=aav (aa4 _);refine⟨by rw[aD ne,ai],aas _,ne,e2,λ_=>none,(Heap.Ns1.of_empty e3).at λo q=>abv _ q,λ_=>True.intro,λy hy=>absurd rfl hy⟩
theorem E8 {prog:Program} {w:World} {env:Env} {e:Expr} {f:Str} {pos:Pos} {s:Shared} {Q:Value->Shared->Prop} (hb:attributeBase e f env (eval e env)=eval e env)
  (h:wpAny (model prog w) A (eval e env) (λo s₁=>wpAny (model prog w) A (getAttr o f true) Q E s₁) E s):wpAny (model prog w) A (eval (.Attribute e f pos) env) Q E s:=
 Attribute_any_ h (by rw[arm_eval_Attribute,hb])
end
abbrev dC (K:abk) (ta:TE) (f:Str):TE:=λσ H Q=>ta σ H λx H1=>∃a C dx fs v,x=.ref a/\H1 a=some (.ins C dx fs)/\vg K C/\mr K C f/\fs.lookup f=some v/\Q v H1
abbrev oa (K:abk) (ta tv:TE) (f:Str):TS:=λD σ H=>tv σ H λy H1=>ta σ H1 λx H2=>∃a C dx fs,x=.ref a/\H2 a=some (.ins C dx fs)/\vg K C/\mr K C f/\fs.length<1000/\
 D.nx σ (upd H2 a (.ins C dx (gI f y fs)))
section
variable {X : Cx} {o e value : Expr} {f : Str} {pos pos' iO : Pos} {ta tv : TE}
theorem bp (he:PE X e ta) (hb:attributeBase e f X.env (eval e X.env)=eval e X.env):PE X (.Attribute e f pos) (dC X.K ta f):=by
 intro pins s σ H Q I h;refine E8 hb (cb (he pins s σ H _ I h) λu s1 dG=>?_);obtain⟨x,H1,I1,rx,a,C,dx,fs,v,ex,ea,c,n,l,q⟩:=dG;subst ex;obtain rfl:u=Value.ref a:=rx;exact xB I1 ea c n l λu' s2 I2 ru=>⟨v,H1,I2,ru,q⟩
theorem fS (ha:PE X o ta) (hv:PE X value tv) (hs:swapsWith value (some (.Attribute o f pos')) pos.line X.env=pure false):PS X (.Assign [.Attribute o f pos'] value pos) (oa X.K ta tv f):=by
 intro pins s σ H D I h;refine plainObj_wpAny_Assign_Attribute (cb (hv pins s σ H _ I h) λu s1 ⟨y,H1,I1,ry,q⟩=>cb (ha pins s1 σ H1 _ I1 q) λov s2 dG=>?_) hs;obtain⟨x,H2,I2,rx,a,C,dx,fs,ex,ea,c,n,l,q2⟩:=dG;subst ex;obtain rfl:ov=Value.ref a:=rx;exact xC I2 ea c n l ry λs3 I3=>⟨σ,_,I3,q2⟩
end
section
variable {X : Cx} {pins : List (Addr × Obj)} {σ : St} {H : Hp} {s : Shared} {A : Around} {E : Value -> Shared -> Prop} {Q : Value -> Shared -> Prop} {c : Value} {b : Bool}
inductive js (K:abk) (H:Hp):V->Value->Prop where
 | bZ:js K H .bZ (.type "NoneType")
 | bl (x:Bool):js K H (.bl x) (.type "bool")
 | int (i:Int):js K H (.int i) (.type "int")
 | str (x:Str):js K H (.str x) (.type "str")
 | Jn (x:UInt64):js K H (.Jn x) (.type "float")
 | lst {a:Addr} {xs:List V} (e:H a=some (.lst xs)):js K H (.ref a) (.type "list")
 | uT {a:Addr} {o:Obj} {xs:List V} (e:H a=some (.uT o (.lst xs))):js K H (.ref a) (.type "list")
 | tup {a:Addr} {xs:List V} (e:H a=some (.tup xs)):js K H (.ref a) (.type "tuple")
 | dK {a:Addr} {kvs:List (Key×V)} (e:H a=some (.dK kvs)):js K H (.ref a) (.type "dict")
 | dT {a:Addr} {kvs:List (List Key×V)} (e:H a=some (.dT kvs)):js K H (.ref a) (.type "dict")
 | ins {a C dx:Addr} {fs:List (Str×V)} (e:H a=some (.ins C dx fs)) (cl:vg K C) (ha:abp K (.ref C) "__class__"=some (some (.builtin "object.__class__")))
   (hn:PySem.W.specialIn K (.builtin "object.__class__") "__get__"=some (some (.builtin "getset_descriptor.__get__"))) (WY:PySem.W.takesIn K (.builtin "object.__class__")=some true)
   (hm:PySem.W.mroIn K C (.type "object")=some true):js K H (.ref a) (.ref C)
theorem AF {x:V} {u t:Value} (I:Inv X pins σ H s) (rx:RelV x u) (ty:js X.K H x t) (e:PySem.W.kitOne X.K t c=some b) (h:∀tk,Q (.bool b) {s with toks:=tk}):
  wpAny (model X.prog X.w) A (call (.builtin "isinstance") [u,c]) Q E s:=by
 cases ty with
 | bZ=>cases (show u=Value.none from rx);exact aaZ PySem.W.kitx_none I.iK True.intro e (λz=>nomatch z) h
 | bl y=>cases (show u=Value.bool y from rx);exact aaZ PySem.W.kitx_bool I.iK True.intro e (λz=>nomatch z) h
 | int i=>obtain⟨t,q⟩:=(show ∃t,u=Value.int i t from rx);cases q;exact aaZ PySem.W.kitx_int I.iK True.intro e (λz=>nomatch z) h
 | str y=>obtain⟨t,q⟩:=(show ∃t,u=Value.str y t from rx);cases q;exact aaZ PySem.W.kitx_str I.iK True.intro e (λz=>nomatch z) h
 | Jn y=>obtain⟨t,q⟩:=(show ∃t,u=Value.float y t from rx);cases q;exact aaZ PySem.W.kitx_float I.iK True.intro e (λz=>nomatch z) h
 | @lst a xs ea=>
  cases (show u=Value.ref a from rx);obtain⟨_,_,n,_,h1⟩:=(show cE X.prog X.w H s.heap a (.lst xs) from I.bL a _ ea)
  exact aaZ PySem.W.kitx_list I.iK ⟨_,h1,rfl⟩ e (λz=>nomatch z) h
 | @uT a ob xs ea=>
  cases (show u=Value.ref a from rx);obtain⟨_,_,_,n,_,h1⟩:=(show cE X.prog X.w H s.heap a (.uT ob (.lst xs)) from I.bL a _ ea)
  exact aaZ PySem.W.kitx_list I.iK ⟨_,h1,rfl⟩ e (λz=>nomatch z) h
 | @tup a xs ea=>
  cases (show u=Value.ref a from rx);obtain⟨_,_,_,p⟩:=(show cE X.prog X.w H s.heap a (.tup xs) from I.bL a _ ea)
  obtain⟨o,h1,h2,_⟩:=p;exact aaZ PySem.W.kitx_tuple I.iK ⟨o,h1,h2⟩ e (λz=>nomatch z) h
 | @dK a kvs ea=>
  cases (show u=Value.ref a from rx);obtain⟨_,_,vs,_,p⟩:=(show cE X.prog X.w H s.heap a (.dK kvs) from I.bL a _ ea)
  obtain⟨o,es,ep,h1,h2,_⟩:=p;exact aaZ PySem.W.kitx_dict I.iK ⟨o,h1,h2.1⟩ e (λz=>nomatch z) h
 | @dT a kvs ea=>
  cases (show u=Value.ref a from rx);obtain⟨_,_,xs,_,o,es,ep,h1,h2,_⟩:=(show cE X.prog X.w H s.heap a (.dT kvs) from I.bL a _ ea)
  exact aaZ PySem.W.kitx_dict I.iK ⟨o,h1,h2.1⟩ e (λz=>nomatch z) h
 | @ins a C dx fs ea cl ha hn WY hm=>
  cases (show u=Value.ref a from rx);obtain⟨mA,O,_⟩:=oC I.bL ea;obtain⟨od,J,_⟩:=O.look;exact aaZ (PySem.W.kitx_own (cl.get _) cl.hd ha hn WY hm) I.iK J e (λz=>nomatch z) h
end
structure dD (k:Nat) (A:Around):Prop where
 hd:A.handled=none
 dp:A.depth+3*k+5<recursionLimit
 un:A.units+16*k+200<cLine
theorem dD.mono {j k:Nat} {A:Around} (r:dD k A) (h:j<=k):dD j A:=⟨r.hd,by have:=r.dp;lia,by have:=r.un;lia⟩
theorem dD.deeper {k:Nat} {A:Around} (r:dD (k+1) A) (env:Env):dD k (A.deeper env):=
 ⟨r.hd,by have:=r.dp;show A.depth+1+3*k+5<_;lia,by have:=r.un;show A.units+3+16*k+200<_;lia⟩
theorem xD {A:Around} {C:Addr} {us:List Value} {kw:List (Str×Value)}:(A.under (.builtin "type.__call__" ⟨.ref C::us,kw⟩)).depth=A.depth+1:=by
 first | rfl | simp [Around.under,Code.weight,Code.isCreation,Code.isGuard,Code.isCaller,Code.frames,Code.isFrame,guardIds]
theorem xE {A:Around} {C:Addr} {us:List Value} {kw:List (Str×Value)}:(A.under (.builtin "type.__call__" ⟨.ref C::us,kw⟩)).units=A.units+1:=by
 first | rfl | simp [Around.under,Code.cUnits,Code.frames,Code.isFrame]
theorem dD.make {k:Nat} {A:Around} (r:dD (k+1) A) (C:Addr) (us:List Value) (kw:List (Str×Value)):dD k (A.under (.builtin "type.__call__" ⟨.ref C::us,kw⟩)):=
 ⟨r.hd,by have:=r.dp;rw[xD];lia,by have:=r.un;rw[xE];lia⟩
theorem dD.depth {k:Nat} {A:Around} (r:dD k A):A.depth<recursionLimit:=by have:=r.dp;lia
theorem dD.units {k:Nat} {A:Around} (r:dD k A):A.units+64<cLine:=by have:=r.un;lia
theorem dD.JB {k:Nat} {A:Around} (r:dD k A):A.units<cLine:=by have:=r.un;lia
abbrev tNil:TA:=λ_ H Q=>Q [] H
abbrev tCons (ta:TE) (tr:TA):TA:=λσ H Q=>ta σ H λx H1=>tr σ H1 λxs H2=>Q (x::xs) H2
section
variable {X : Cx} {e : Expr} {es : List Expr} {te : TE} {t : TA} {pos : Pos}
theorem af:PA X [] tNil:=λ_ _ _ _ H Q I h=>Calls.spliced_nil ⟨[],H,I,.nil,h⟩
theorem aa (ha:PE X e te) (hr:PA X es t) (hs:starEach (e::es) X.env=(false,eval e X.env)::starEach es X.env:=by first | exact se rfl | rfl):PA X (e::es) (tCons te t):=by
 intro pos pins s σ H Q I h;rw[hs];show wpAny _ _ (spliced ((false,eval e X.env)::backTo pos (starEach es X.env))) _ _ s;refine Calls.spliced_cons (cb (ha pins s σ H _ I h) λu s1 dG=>?_);obtain⟨x,H1,I1,r1,q1⟩:=dG;exact cb (hr pos pins s1 σ H1 _ I1 q1) λus s2 ⟨xs,H2,I2,r2,q2⟩=>⟨x::xs,H2,I2,.cons r1 r2,q2⟩
abbrev tLst (t:TA):TE:=λσ H Q=>t σ H λxs H1=>xs.length<=sizeLine/\∀p,H1 p=none->Q (.ref p) (upd H1 p (.lst xs))
theorem bH (h:PA X es t):PE X (.List es pos) (tLst t):=by
 intro pins s σ H Q I hq;refine wpAny_List_spliced (cb (h pos pins s σ H _ I hq) λus s1 ⟨xs,H1,I1,r,z,q⟩=>⟨by rw[<-r.length];exact z,?_⟩);have hf:H1 s1.heap.objs.size=none:=I1.bL.fresh (aam _);refine⟨.ref s1.heap.objs.size,upd H1 s1.heap.objs.size (.lst xs),I1.laid (t':=s1.toks) (λb u e=>abv _ e) (aam _) ?_,rfl,q _ hf⟩;exact⟨z,us,0,r,abw _ rfl⟩
end
@[inline]abbrev Sp:=List V->Hp->VK->XK->Prop
@[inline]abbrev mi:=List Env->Hp->Shared->XK->Value->Shared->Prop
structure xF (P:Program) (w:World) (K:abk) (mg:Str->Option Value) (base:Heap) (A:Around) (outer:List Env) (s:Shared) (H:Hp):Prop where
 frames:A.frames=some outer
 mod:Mod K mg base
 bs:∀b o,base.get? b=some o->s.heap.get? b=some o/\H b=none
 BH:base.objs.size<=s.heap.objs.size
 kC:s.heap.FunFrames base outer
 E2:∀b∈dN outer,H b=none
 bL:gG P w H s.heap
 bare:AllBare s.gens
abbrev CE (outer:List Env) (P:Program) (w:World) (H:Hp) (s:Shared) (Q:VK) (u:Value) (s':Shared):Prop:=
 ∃v H',s'.os=s.os/\AllBare s'.gens/\Un (dN outer) [] H H' s.heap s'.heap/\gG P w H' s'.heap/\RelV v u/\Q v H'
abbrev CR (CX:mi) (outer:List Env) (P:Program) (w:World) (H:Hp) (s:Shared) (Q:VK) (E:XK) (r:Result) (s':Shared):Prop:=
 match r with
 | .ok (.ret u)=>CE outer P w H s Q u s'
 | .ok _=>False
 | .error e=>CX outer H s E e s'
structure fL (P:Program) (w:World) (K:abk) (mg:Str->Option Value) (base:Heap) (CX:mi) (k:Nat) (f:Addr) (fd:FuncData) (ps:List Str) (sp:Sp):Prop where
 len:∀vs H Q E,sp vs H Q E->vs.length=ps.length
 run:∀(A:Around) (outer:List Env) (s:Shared) (H:Hp) (args:Args) (us:List Value) (vs:List V) (Q:VK) (E:XK),dD k A->xF P w K mg base A outer s H->BindsTo s fd args (ps.zip us)->br vs us->sp vs H Q E->
  codeAny (model P w) A (.call (.ref f) args) (CR CX outer P w H s Q E) s
theorem fL.mono {P:Program} {w:World} {K:abk} {mg:Str->Option Value} {base:Heap} {CX:mi} {j k:Nat} {f:Addr} {fd:FuncData} {ps:List Str} {sp:Sp} (F:fL P w K mg base CX j f fd ps sp) (h:j<=k):
  fL P w K mg base CX k f fd ps sp:=⟨F.len,λA outer s H args us vs Q E hr=>F.run A outer s H args us vs Q E (hr.mono h)⟩
theorem xF.make {P:Program} {w:World} {K:abk} {mg:Str->Option Value} {base:Heap} {A:Around} {outer:List Env} {s:Shared} {H:Hp} (e:xF P w K mg base A outer s H) (C:Addr) (us:List Value) (kw:List (Str×Value)):
  xF P w K mg base (A.under (.builtin "type.__call__" ⟨.ref C::us,kw⟩)) outer s H:=⟨by first | exact e.frames | (simpa [Around.under,Code.envs,Code.isFrame,pushEnvs] using e.frames),e.mod,e.bs,e.BH,e.kC,e.E2,e.bL,e.bare⟩
section
variable {X : Cx} {pins : List (Addr × Obj)} {σ : St} {H : Hp} {s s' : Shared}
theorem Inv.E9 (I:Inv X pins σ H s):xF X.prog X.w X.K X.mg X.base X.A X.stack s H:=
 ⟨I.ok.frames,I.ok.mod,I.bs,aau I.ok.BH I.sz,I.stack,I.kD,I.bL,I.bare⟩
theorem Inv.after {Q:VK} {u:Value} (I:Inv X pins σ H s) (h:CE X.stack X.prog X.w H s Q u s'):EP X pins σ Q u s':=by
 obtain⟨v,H',os,bare,un,bL,r,q⟩:=h;obtain⟨hh,g,d,t,YO⟩:=s';obtain rfl:YO=s.os:=os;exact⟨v,H',I.call (h':=hh) (g':=g) (d':=d) (t':=t) (ch:=[]) un bL bare (λb z=>absurd z (by simp)),r,q⟩
end
abbrev tCall (sp:Sp) (eU:List V) (E:XK) (t:TA):TE:=λσ H Q=>t σ H λvs H1=>sp (vs++eU) H1 Q E
abbrev bS (C:Addr) (m:Str) (sp:Sp) (eU:List V) (E:XK) (ta:TE) (t:TA):TE:=λσ H Q=>ta σ H λx H1=>dg x λa=>∃dx fs,H1 a=some (.ins C dx fs)/\fs.lookup m=none/\
 t σ H1 λvs H2=>sp (.ref a::(vs++eU)) H2 Q E
abbrev yU (C:Addr) (sp:Sp) (eU:List V) (E:XK) (t:TA):TE:=λσ H Q=>t σ H λvs H1=>∀x dx,H1 x=none->H1 dx=none->dx≠x->
 sp (.ref x::(vs++eU)) (upd (upd H1 dx (.own x)) x (.ins C dx [])) (λv H2=>v=.bZ/\Q (.ref x) H2) E
abbrev Binds (K:abk) (fd:FuncData) (ps:List Str) (ds:List Value):Prop:=
 ∀(s:Shared) (us:List Value),K.In s.heap->(us++ds).length=ps.length->BindsTo s fd ⟨us,[]⟩ (ps.zip (us++ds))
theorem Binds.all {K:abk} {fd:FuncData} {ps:List Str} (h:∀us:List Value,us.length=ps.length->bindArgs fd ⟨us,[]⟩=pure (ps.zip us)):Binds K fd ps []:=λs us _ hl=>by
 rw[aa0] at hl ⊢;exact .of_eq (h us hl)
abbrev fj (CX:mi) (X:Cx) (E:XK):Prop:=∀(pins:List (Addr×Obj)) (σ:St) (H:Hp) (s:Shared) (e:Value) (s':Shared),Inv X pins σ H s->CX X.stack H s E e s'->X.xe e s'
section
variable {X : Cx} {CX : mi} {k : Nat} {f C : Addr} {fd : FuncData} {ps : List Str} {sp : Sp} {eU : List V} {ds : List Value} {E : XK} {x m : Str} {p pos apos : Pos} {e o : Expr} {es : List Expr} {ta : TE} {t : TA}
theorem xG {pins:List (Addr×Obj)} {σ:St} {H:Hp} {s:Shared} {Q:VK} {us:List Value} {vs:List V} (F:fL X.prog X.w X.K X.mg X.base CX k f fd ps sp) (hr:dD k X.A) (hb:Binds X.K fd ps ds) (hd:br eU ds) (hx:fj CX X E)
  (I:Inv X pins σ H s) (r:br vs us) (h:sp (vs++eU) H Q E):wpAny (model X.prog X.w) X.A (call (.ref f) us) (EP X pins σ Q) X.xe s:=by
 have r2:br (vs++eU) (us++ds):=r.append hd;have hl:(us++ds).length=ps.length:=by rw[<-r2.length];exact F.len _ _ _ _ h
 refine wpAny_call (codeAny_mono (F.run X.A X.stack s H ⟨us,[]⟩ (us++ds) (vs++eU) Q E hr I.E9 (hb s us I.iK hl) r2 h) λr s' hq=>?_);cases r with
 | error e=>exact hx pins σ H s e s' I hq
 | ok fl=>
  cases fl with
  | ret u=>exact I.after hq
  | next=>exact False.elim hq
  | brk=>exact False.elim hq
  | cont=>exact False.elim hq
theorem Fb (F:fL X.prog X.w X.K X.mg X.base CX k f fd ps sp) (hr:dD k X.A) (hg:Gl X x) (hm:X.mg x=some (.ref f)) (hk:abl X.K (.ref f)=true) (hb:Binds X.K fd ps ds) (hd:br eU ds) (hx:fj CX X E)
  (ha:PA X (e::es) t) (tq:(x==("__debug__":Str))=false:=by decide) (he:starEach (e::es) X.env=(false,eval e X.env)::starEach es X.env:=by injections) (hpl:(backTo pos (starEach es X.env)).any (·.1)=false:=by injections):
  PE X (.Call (.Name x p) (e::es) [] pos) (tCall sp eU E t):=by
 intro pins s σ H Q I h;refine wpAny_Call_Name_kw (fK I hg hm ?_ tq);refine PySem.W.callWith_K (h₀:=X.base) I.ok.mod.E1 hk (cb (ha pos pins s σ H _ I h) λus s1 ⟨vs,H1,I1,r,q⟩=>⟨I1.iK,?_⟩) he hpl;exact xG F hr hb hd hx I1 r q
theorem Fc {pl:Sem Bool} (he:PE X o ta) (c:vg X.K C) (hm:BW X.K C m f) (F:fL X.prog X.w X.K X.mg X.base CX k f fd ps sp) (hr:dD k X.A) (hb:Binds X.K fd ps ds) (hd:br eU ds) (hx:fj CX X E) (ha:PA X (e::es) t)
  (kG:starEach (e::es) X.env=(false,eval e X.env)::starEach es X.env:=by injections) (hpl:(backTo pos (starEach es X.env)).any (·.1)=false:=by injections)
  (ht:eval (.Call (.Attribute o m apos) (e::es) [] pos) X.env=(do
   let ov <-eval o X.env
   standAt apos.atName
   let (f,first) <-holding [ov] (getMethod ov m pl)
   callWith pos f first (backTo pos (starEach (e::es) X.env)) (backToKw pos (keywordEach [] X.env))):=by rfl):
  PE X (.Call (.Attribute o m apos) (e::es) [] pos) (bS C m sp eU E ta t):=by
 intro pins s σ H Q I h;refine PySem.W.methodCall_KW (pl:=pl) (cb (he pins s σ H _ I h) λu s1 dG=>?_) ht;obtain⟨x,H1,I1,rx,q0⟩:=dG;obtain⟨a,ex,dx,fs,ea,l,q⟩:=rdR_eq.mp q0;subst ex;obtain rfl:u=Value.ref a:=rx;refine j7 I1 ea c hm l ?_;refine PySem.W.callWith_K (first:=[.ref a]) (h₀:=X.base) I.ok.mod.E1 hm.kp (cb (ha pos pins s1 σ H1 _ I1 q) λus s2 ⟨vs,H2,I2,r,q2⟩=>⟨I2.iK,?_⟩) kG hpl;exact xG (us:=.ref a::us) (vs:=.ref a::vs) F hr hb hd hx I2 (.cons rfl r) q2
theorem BX {pl:Sem Bool} (he:PE X o ta) (c:vg X.K C) (hm:BW X.K C m f) (F:fL X.prog X.w X.K X.mg X.base CX k f fd ps sp) (hr:dD k X.A) (hb:Binds X.K fd ps ds) (hd:br eU ds) (hx:fj CX X E)
  (ht:eval (.Call (.Attribute o m apos) [] [] pos) X.env=(do
   let ov <-eval o X.env
   standAt apos.atName
   let (f,first) <-holding [ov] (getMethod ov m pl)
   callWith pos f first (backTo pos (starEach [] X.env)) (backToKw pos (keywordEach [] X.env))):=by rfl):
  PE X (.Call (.Attribute o m apos) [] [] pos) (bS C m sp eU E ta tNil):=by
 intro pins s σ H Q I h;refine PySem.W.methodCall_KW (pl:=pl) (cb (he pins s σ H _ I h) λu s1 dG=>?_) ht;obtain⟨x,H1,I1,rx,q0⟩:=dG;obtain⟨a,ex,dx,fs,ea,l,q⟩:=rdR_eq.mp q0;subst ex;obtain rfl:u=Value.ref a:=rx;refine j7 I1 ea c hm l ?_;exact PySem.W.callWith_K0 (first:=[.ref a]) I1.iK hm.kp (xG (us:=[.ref a]) (vs:=[.ref a]) F hr hb hd hx I1 (.cons rfl .nil) q)
structure Mk (K:abk) (C f:Addr):Prop where
 makes:PySem.W.makesIn K C=true
 init:abp K (.ref C) "__init__"=some (some (.ref f))
 fn:PySem.W.isFn K (.ref f)=true
 kp:abl K (.ref C)=true
theorem BY {pins:List (Addr×Obj)} {σ:St} {H:Hp} {s:Shared} {Q:VK} {us:List Value} {vs:List V} (M:Mk X.K C f) (F:fL X.prog X.w X.K X.mg X.base CX k f fd ps sp) (hr:dD (k+1) X.A) (hb:Binds X.K fd ps ds) (hd:br eU ds)
  (hx:fj CX X E) (I:Inv X pins σ H s) (r:br vs us)
  (h:∀x dx,H x=none->H dx=none->dx≠x->sp (.ref x::(vs++eU)) (upd (upd H dx (.own x)) x (.ins C dx [])) (λv H2=>v=.bZ/\Q (.ref x) H2) E):
  wpAny (model X.prog X.w) X.A (call (.ref C) us) (EP X pins σ Q) X.xe s:=by
 have hq:=h (s.heap.objs.size+1) s.heap.objs.size (I.bL.fresh (Nat.le_succ _)) (I.bL.fresh (aam _)) (aav (aa4 _));have I2:=Inv.made (C:=C) I;have r2:br (V.ref (s.heap.objs.size+1)::(vs++eU)) (Value.ref (s.heap.objs.size+1)::(us++ds)):=.cons rfl (r.append hd);have hl:(Value.ref (s.heap.objs.size+1)::us++ds).length=ps.length:=by
  have e:=r2.length;rw[F.len _ _ _ _ hq] at e;exact e.symm
 refine wpAny_call (BV (f:=f) I.iK M.makes M.init (beq_iff_eq.mp M.fn) (codeAny_mono (F.run _ X.stack _ _ ⟨Value.ref (s.heap.objs.size+1)::us,[]⟩ (Value.ref (s.heap.objs.size+1)::(us++ds)) _ _ E (hr.make C us [])
  (I2.E9.make C us []) (hb _ (Value.ref (s.heap.objs.size+1)::us) I2.iK hl) r2 hq) λr s' og=>?_))
 cases r with
 | error e=>exact hx pins σ _ _ e s' I2 og
 | ok fl=>
  cases fl with
  | ret u=>
   obtain⟨v,H',I3,rv,ev,q3⟩:=I2.after og;subst ev;exact⟨rv,⟨V.ref (s.heap.objs.size+1),H',I3,rfl,q3⟩⟩
  | next=>exact False.elim og
  | brk=>exact False.elim og
  | cont=>exact False.elim og
theorem Fd (M:Mk X.K C f) (F:fL X.prog X.w X.K X.mg X.base CX k f fd ps sp) (hr:dD (k+1) X.A) (hg:Gl X x) (hm:X.mg x=some (.ref C)) (hb:Binds X.K fd ps ds) (hd:br eU ds) (hx:fj CX X E)
  (ha:PA X (e::es) t) (tq:(x==("__debug__":Str))=false:=by decide) (he:starEach (e::es) X.env=(false,eval e X.env)::starEach es X.env:=by injections) (hpl:(backTo pos (starEach es X.env)).any (·.1)=false:=by injections):
  PE X (.Call (.Name x p) (e::es) [] pos) (yU C sp eU E t):=by
 intro pins s σ H Q I h;refine wpAny_Call_Name_kw (fK I hg hm ?_ tq);refine PySem.W.callWith_K (h₀:=X.base) I.ok.mod.E1 M.kp (cb (ha pos pins s σ H _ I h) λus s1 ⟨vs,H1,I1,r,q⟩=>⟨I1.iK,?_⟩) he hpl;exact BY M F hr hb hd hx I1 r q
end
section
variable {X : Cx} {CX : mi} {k : Nat} {f C : Addr} {fd : FuncData} {ps ks : List Str} {sp : Sp} {E : XK} {x m : Str} {p pos apos YQ : Pos} {e o : Expr} {es : List Expr} {kws : List Keyword} {te ta : TE} {t tk : TA} {nm : Option Str}
structure SI (K:abk) (fd:FuncData) (ps ks:List Str) (g:List Value->List Value->List Value) (gV:List V->List V->List V):Prop where
 to:∀(s:Shared) (us ws:List Value),K.In s.heap->(g us ws).length=ps.length->BindsTo s fd ⟨us,ks.zip ws⟩ (ps.zip (g us ws))
 rel:∀{vs:List V} {us:List Value} {zs:List V} {ws:List Value},br vs us->br zs ws->br (gV vs zs) (g us ws)
variable {g : List Value -> List Value -> List Value} {gV : List V -> List V -> List V}
end
structure aV (N P:List Str) (sc:Scope):Prop where
 kind:sc.kind=.function:=by rfl
 co:sc.isCoroutine=false:=by rfl
 gen:sc.isGenerator=false:=by rfl
 nd:N.Nodup:=by first | decide +kernel | rfl
 pre:N.take P.length=P:=by rfl
 par:∀x∈P,sc.names.lookup x=some .local\/sc.names.lookup x=some .cell:=by first | decide +kernel | rfl
 JC:∀y∈sc.names,y.2≠.free:=by first | decide +kernel | rfl
theorem rR {kindOf:Str->Option NameKind} {x:Str}:∀{binds:List (Str×Value)} {m:Str->Option Value},(∀v,(x,v)∉binds)->bindL kindOf binds m x=m x
 | [],_,_=>rfl
 | (n,v)::r,m,h=>by
  unfold bindL;rw[rR λw hw=>h w (aap _ hw)]
  split
  ·have:x≠n:=by rintro rfl;exact h v aar
   simp [this]
  ·rfl
theorem rS {kindOf:Str->Option NameKind} {x:Str}:∀{binds:List (Str×Value)} {m:Str->Option Value},(∀v,(x,v)∉binds)->bindC kindOf binds m x=m x
 | [],_,_=>rfl
 | (n,v)::r,m,h=>by
  unfold bindC;rw[rS λw hw=>h w (aap _ hw)]
  split
  ·rfl
  ·have:x≠n:=by rintro rfl;exact h v aar
   simp [this]
theorem rT {kindOf:Str->Option NameKind} {x:Str} {v:Value}:∀{P:List Str} {vs:List Value} {i:Nat} {m:Str->Option Value},P.Nodup->P[i]?=some x->vs[i]?=some v->kindOf x=some .local->
  bindL kindOf (P.zip vs) m x=some v
 | [],_,_,_,_,h,_,_=>by simp at h
 | _::_,[],_,_,_,_,h,_=>by simp at h
 | p::P,w::vs,0,m,nd,h1,h2,hk=>by
  simp at h1 h2;subst h1;subst h2;show bindL kindOf ((p,w)::P.zip vs) m p=_;unfold bindL;rw[rR λv hv=>(List.nodup_cons.mp nd).1 (List.of_mem_zip hv).1,if_pos hk];simp
 | p::P,w::vs,i+1,m,nd,h1,h2,hk=>by
  show bindL kindOf ((p,w)::P.zip vs) m x=_;unfold bindL;exact rT (i:=i) (List.nodup_cons.mp nd).2 (by simpa using h1) (by simpa using h2) hk
theorem rV {kindOf:Str->Option NameKind} {x:Str} {v:Value}:∀{P:List Str} {vs:List Value} {i:Nat} {m:Str->Option Value},P.Nodup->P[i]?=some x->vs[i]?=some v->kindOf x≠some .local->
  bindC kindOf (P.zip vs) m x=some v
 | [],_,_,_,_,h,_,_=>by simp at h
 | _::_,[],_,_,_,_,h,_=>by simp at h
 | p::P,w::vs,0,m,nd,h1,h2,hk=>by
  simp at h1 h2;subst h1;subst h2;show bindC kindOf ((p,w)::P.zip vs) m p=_;unfold bindC;rw[rS λv hv=>(List.nodup_cons.mp nd).1 (List.of_mem_zip hv).1,if_neg hk];simp
 | p::P,w::vs,i+1,m,nd,h1,h2,hk=>by
  show bindC kindOf ((p,w)::P.zip vs) m x=_;unfold bindC;exact rV (i:=i) (List.nodup_cons.mp nd).2 (by simpa using h1) (by simpa using h2) hk
abbrev start (N:List Str) (vs:List V):St:=vs.map some++aby (N.length - vs.length) none
abbrev gM (CX:mi) (P:Program) (w:World) (K:abk) (mg:Str->Option Value) (base:Heap) (N:List Str) (qual:Str) (scope:Scope) (f:Addr) (cd:Value) (A:Around) (outer:List Env) (s:Shared) (H:Hp) (E:XK):Cx where
 prog:=P
 w:=w
 K:=K
 mg:=mg
 base:=base
 A:=A.deeper (envOfC qual scope s.heap.objs.size f cd)
 N:=N
 s₀:=s
 H₀:=H
 env:=envOfC qual scope s.heap.objs.size f cd
 outer:=outer
 stack:=envOfC qual scope s.heap.objs.size f cd::outer
 ex:=[]
 calm:=true
 fn:=λ_=>true
 pn:=[]
 xe:=λe s'=>wpAny (model P w) (A.deeper (envOfC qual scope s.heap.objs.size f cd)) (leaving (envOfC qual scope s.heap.objs.size f cd) e) (λ_ tD=>CX outer H s E e tD) (λe' tD=>CX outer H s E e' tD) s'
theorem vh {sc:Scope} {n:Nat} {x:Str} (h:sc.names.lookup x=some .cell):∃c,(cellsFrom n sc.names []).lookup x=some c:=by
 have q:=PySem.W.cellsFrom_some sc.names n [] (.inl h);exact Option.isSome_iff_exists.mp q
theorem AG {CX:mi} {P:Program} {w:World} {K:abk} {mg:Str->Option Value} {base:Heap} {N ps:List Str} {qual:Str} {scope:Scope} {f:Addr} {cd:Value} {A:Around} {outer:List Env} {s s1:Shared} {H:Hp} {E:XK} {us:List Value} {vs:List V}
  (S:aV N ps scope) (hd:A.handled=none) (e0:xF P w K mg base A outer s H) (hl:vs.length=ps.length) (r:br vs us)
  (x:InCallC s s.heap.objs.size (bindL (envOfC qual scope s.heap.objs.size f cd).kindOf (ps.zip us) λ_=>none) (cellsFrom (s.heap.objs.size+1) scope.names []) (bindC (envOfC qual scope s.heap.objs.size f cd).kindOf (ps.zip us) λ_=>none) s1):
  Inv (gM CX P w K mg base N qual scope f cd A outer s H E) [] (start N vs) H s1:=by
 have hpl:ps.length<=N.length:=by have:=congrArg List.length S.pre;rw[aaD] at this;lia
 obtain⟨h1,tk,rfl,hk⟩:=x.done;have MP:∀b:Addr,b∉(gM CX P w K mg base N qual scope f cd A outer s H E).ex:=λb z=>absurd (show b∈([]:List Addr) from z) (by simp);refine⟨⟨e0.mod,S.kind,rfl,rfl,aam _,λy z c h1 h2=>?_,λy hy=>?_,λy c _ h=>?_,λ_=>hd,Around.frames_deeper e0.frames,.inr ⟨rfl,rfl⟩,λb z=>absurd z (MP b),e0.bs,e0.BH,λb _ _=>MP b,λb z=>absurd z (MP b),e0.kC,e0.E2⟩,
  rfl,e0.bare,Un.kept hk,⟨_,x.toInCall.ns,λi y v h1 h2 h3=>?_⟩,λy c h=>⟨_,x.cell y c h⟩,e0.bL.fresh (aam _),λy c h=>?_,λp hp=>absurd (show p∈([]:List (Addr×Obj)) from hp) (by simp),e0.bL.kept hk,?_⟩
 ·exact name_of_addr x.apart (aa1 h1) (aa1 h2)
 ·have hy:scope.names.lookup y=some .cell\/scope.names.lookup y=some .free:=hy;rcases hy with hy | hy
  ·exact vh hy
  ·exact absurd rfl (S.JC _ (aa1 hy))
 ·exact Nat.le_of_lt (x.above y c (aa1 h))
 ·have hi:i<vs.length:=by
   unfold start at h2
   by_cases hi:i<vs.length
   ·exact hi
   ·rw[List.getElem?_append_right (by simpa using hi)] at h2;rw[List.getElem?_replicate] at h2
    split at h2 <;>cases h2
  have ha:vs[i]?=some v:=by
   unfold start at h2;rw[List.getElem?_append_left (by simpa using hi),aal] at h2;cases e:vs[i]? with
   | none=>rw[e] at h2;cases h2
   | some a=>rw[e] at h2;cases h2;rfl
  obtain⟨u,hu,rv⟩:=r.get ha;have hp:ps[i]?=some y:=by
   rw[<-S.pre,List.getElem?_take_of_lt ⋯];exact h1
  have WZ:ps.Nodup:=by rw[<-S.pre];exact S.nd.sublist (List.take_sublist _ _)
  refine⟨u,rv,?_⟩;rcases S.par y (aay hp) with k | k
  ·exact .inl ⟨k,rT WZ hp hu k⟩
  ·obtain⟨c,e⟩:=vh (n:=s.heap.objs.size+1) k;refine .inr ⟨.inl k,c,e,?_⟩;have q:=x.cell y c e;rw[rV WZ hp hu (by show scope.names.lookup y≠_;rw[k];decide)] at q;exact q
 ·exact e0.bL.fresh (Nat.le_of_lt (x.above y c (aa1 h)))
 ·unfold start;show _=N.length;rw[aat,aaj,abf];lia
theorem Hx {CX:mi} {P:Program} {w:World} {K:abk} {mg:Str->Option Value} {base:Heap} {k:Nat} {f:Addr} {name qual:Str} {params:Arguments} {body:List Stmt} {scope:Scope} {dV kV doc pm bR ct oc:Value} {an od:Option Addr}
  {Fe:Array (Option Value)} {N ps:List Str} {sp:Sp} (lk:K.lookup f=some ⟨oc,od,.func (abn name qual params body scope dV kV doc pm an bR ct),Fe⟩) (qI:abm K bR qual=true) (S:aV N ps scope)
  (len:∀vs H Q E,sp vs H Q E->vs.length=ps.length)
  (vi:∀(A:Around) (outer:List Env) (s:Shared) (H:Hp) (vs:List V) (Q:VK) (E:XK),dD k (A.deeper (envOfC qual scope s.heap.objs.size f bR))->sp vs H Q E->
   ∃t,vb (gM CX P w K mg base N qual scope f bR A outer s H E) body t/\t {nx:=λ_ H'=>Q .bZ H',rt:=Q} (start N vs) H):
  fL P w K mg base CX (k+1) f (abn name qual params body scope dV kV doc pm an bR ct) ps sp:=by
 refine⟨len,λA outer s H args us vs Q E hr e0 hb r Bu=>?_⟩;have hl:=len _ _ _ _ Bu;have KX:K.In s.heap:=e0.mod.E1.keeps λb o e=>(e0.bs b o e).1;have lim:s.heap.NoLimit:=e0.mod.nolimit.keeps λb o e=>(e0.bs b o e).1;have MQ:∀y∈ps.zip us,scope.names.lookup y.1=some .local\/(scope.names.lookup y.1=some .cell/\((cellsFrom (s.heap.objs.size+1) scope.names []).lookup y.1).isSome=true):=fun⟨n,v⟩ hy=>by
  rcases S.par n (List.of_mem_zip hy).1 with q | q
  ·exact .inl q
  ·exact .inr ⟨q,PySem.W.cellsFrom_some _ _ _ (.inl q)⟩
 refine codeAny_call_function hr.depth (KX _ _ lk) rfl S.co S.gen rfl (PySem.W.codeRec_of KX qI) (hb _ _ _ _ ?_);refine wpAny_newFunctionEnv_cells S.kind MQ λenv he s1 x=>?_;subst he;refine⟨lim.keeps x.toInCall.keep,codeAny_func ?_⟩;obtain⟨t,ht,hq⟩:=vi A outer s H vs Q E (hr.deeper _) Bu;have I:Inv (gM CX P w K mg base N qual scope f bR A outer s H E) [] (start N vs) H s1:=AG S hr.hd e0 hl r x;refine wpAny_mono (ht [] s1 (start N vs) H _ I hq) (λfl s' hs=>?_) λe s' hs=>hs;have fin:∀{σ':St} {H':Hp} {v:V} {u:Value},Inv (gM CX P w K mg base N qual scope f bR A outer s H E) [] σ' H' s'->RelV v u->Q v H'->CE outer P w H s Q u s':=
  λ{σ' H' v u} J rv q=>⟨v,H',J.os,J.bare,J.base,J.bL,rv,q⟩
 cases fl with
 | ret u=>
  obtain⟨v,σ',H',J,rv,q⟩:=hs;exact fin J rv q
 | next=>
  obtain⟨σ',H',J,q⟩:=hs;exact fin (v:=V.bZ) (u:=Value.none) J rfl q
 | brk=>
  obtain⟨_,_,_,q⟩:=hs;exact False.elim q
 | cont=>
  obtain⟨_,_,_,q⟩:=hs;exact False.elim q
section
variable {X : Cx} {x : Str} {p pos : Pos} {e : Expr} {es : List Expr} {t : TA} {id T : String} {r : List V -> Hp -> VK -> Prop}
abbrev tCB (r:List V->Hp->VK->Prop) (t:TA):TE:=λσ H Q=>t σ H λvs H1=>r vs H1 Q
theorem aY (hc:cj X (.builtin id) r) (hg:Gl X x) (hm:X.mg x=none) (hv:bootBuiltins x=some (.builtin id)) (ha:PA X (e::es) t) (hn:x≠"__name__":=by decide) (tq:(x==("__debug__":Str))=false:=by decide)
  (he:starEach (e::es) X.env=(false,eval e X.env)::starEach es X.env:=by first | exact se rfl | rfl) (hpl:(backTo pos (starEach es X.env)).any (·.1)=false:=by first | exact na rfl | rfl):PE X (.Call (.Name x p) (e::es) [] pos) (tCB r t):=by
 intro pins s σ H Q I h;refine wpAny_Call_Name_kw (gH I hg hm hv ?_ hn tq);exact PyProof.Rows.callWith_builtin1 (cb (ha pos pins s σ H _ I h) λus s1 ⟨vs,H1,I1,r1,q1⟩=>hc pins s1 σ H1 vs us Q I1 r1 q1) he hpl
theorem cX (hc:cj X (.type T) r) (hg:Gl X x) (hm:X.mg x=none) (hv:bootBuiltins x=some (.type T)) (ha:PA X (e::es) t) (hn:x≠"__name__":=by decide) (tq:(x==("__debug__":Str))=false:=by decide)
  (he:starEach (e::es) X.env=(false,eval e X.env)::starEach es X.env:=by injections) (hpl:(backTo pos (starEach es X.env)).any (·.1)=false:=by injections):PE X (.Call (.Name x p) (e::es) [] pos) (tCB r t):=by
 intro pins s σ H Q I h;refine wpAny_Call_Name_kw (gH I hg hm hv ?_ hn tq);exact abj (cb (ha pos pins s σ H _ I h) λus s1 ⟨vs,H1,I1,r1,q1⟩=>hc pins s1 σ H1 vs us Q I1 r1 q1) he hpl
end
end L2
namespace HT
open PySem PyProof.Rows
section
open PySem.SeqAt
open PySem.AutoSeq1 (wpAny_loadPart')
open PySem.MeetsSeq PySem.MeetsSeq2 PySem.MeetsSeq3
end
section
variable {prog : Program} {w : World} {A : Around} {E : Value -> Shared -> Prop} {s : Shared}
abbrev xH (n d:Nat):Option Int->Nat
 | none=>d
 | some v=>if v<0 then (v+ (n:Int)).toNat else min v.toNat n
end
end HT
namespace L2
open PySem PySem.Spec PyProof.Rows
@[inline]abbrev TO:=St->Hp->(Option Int->Hp->Prop)->Prop
abbrev PO (X:Cx) (e:Option Expr) (t:TO):Prop:=
 ∀(pins:List (Addr×Obj)) (s:Shared) (σ:St) (H:Hp) (Q:Option Int->Hp->Prop),Inv X pins σ H s->t σ H Q->
  wpAny (model X.prog X.w) X.A (evalPart e X.env) (λu s'=>∃o H',Inv X pins σ H' s'/\IsPart u o/\Q o H') X.xe s
abbrev tNoPart:TO:=λ_ H Q=>Q none H
abbrev tPart (t:TE):TO:=λσ H Q=>t σ H λx H1=>∃i,x=.int i/\Q (some i) H1
theorem intsAre_of {ns:List Int}:∀{us:List Value},br (ns.map V.int) us->IntsAre us ns:=by
 induction ns with
 | nil=>intro us r;rw[aaU] at r;cases r;exact .nil
 | cons n ns ih=>
  intro us r;rw[aak] at r;cases r with
  | cons r1 r2=>
   obtain⟨t,e⟩:=r1;subst e;exact .cons n t (ih r2)
section
variable {X : Cx} {e : Expr} {te : TE} {lo hi : Option Expr} {tl th : TO} {pos p2 : Pos}
theorem eB:PO X none tNoPart:=by
 intro pins s σ H Q I h;rw[evalPart_none];exact wpAny_pure ⟨none,H,I,.none,h⟩
theorem cN (h:PE X e te):PO X (some e) (tPart te):=by
 intro pins s σ H Q I hw;rw[evalPart_some];refine cb (h pins s σ H _ I hw) λu s1 dG=>?_;obtain⟨x,H1,I1,r1,q1⟩:=dG;obtain⟨i,rfl,q⟩:=q1;obtain⟨t,rfl⟩:=r1;exact⟨some i,H1,I1,.int i t,q⟩
abbrev Rb (X:Cx) (r:V->Option Int->Option Int->Hp->VK->Prop):Prop:=
 ∀(pins:List (Addr×Obj)) (s:Shared) (σ:St) (H:Hp) (x:V) (v vl vu:Value) (lo hi:Option Int) (sl:Addr) (Q:VK),Inv X pins σ H s->RelV x v->s.heap.IsSliceOf sl vl vu .none->IsPart vl lo->IsPart vu hi->r x lo hi H Q->
  ∃T id,typeLookup (.type T) "__getitem__"=pure (some (.builtin id))/\s.TypeIs v T/\wpAny (model X.prog X.w) X.A (getItem v (.ref sl)) (EP X pins σ Q) X.xe s
abbrev tSl (r:V->Option Int->Option Int->Hp->VK->Prop) (te:TE) (tl th:TO):TE:=λσ H Q=>te σ H λx H1=>tl σ H1 λl H2=>th σ H2 λu H3=>r x l u H3 Q
theorem cL {r:V->Option Int->Option Int->Hp->VK->Prop} (hr:Rb X r) (he:PE X e te) (hl:PO X lo tl) (hu:PO X hi th):PE X (.Subscript e (.Slice lo hi none p2) pos) (tSl r te tl th):=by
 intro pins s σ H Q I h;refine Subscript_ (cb (he pins s σ H _ I h) λv s1 dG=>?_);obtain⟨x,H1,I1,r1,q1⟩:=dG;refine wpAny_Slice (cb (hl pins s1 σ H1 _ I1 q1) λvl s2 ⟨l,H2,I2,pl,q2⟩=>cb (hu pins s2 σ H2 _ I2 q2) λvu s3 dG=>?_);obtain⟨u,H3,I3,pu,q3⟩:=dG;rw[evalPart_none];refine wpAny_pure ?_;have I4:Inv X pins σ H3 {s3 with heap:=s3.heap.push {cls:=.type "slice",data:=.fields #[vl,vu,.none]}}:=I3.kept (t':=s3.toks) λb ob q=>abv _ q;obtain⟨T,id,hT,ht,hg⟩:=hr pins {s3 with heap:=s3.heap.push {cls:=.type "slice",data:=.fields #[vl,vu,.none]}} σ H3 x v vl vu l u s3.heap.objs.size Q I4 r1 (Heap.IsSliceOf.new ..) pl pu q3;show wpAny (model X.prog X.w) X.A (subscriptTail e (.Slice lo hi none p2) v (.ref s3.heap.objs.size)) (EP X pins σ Q) X.xe {s3 with heap:=s3.heap.push {cls:=.type "slice",data:=.fields #[vl,vu,.none]}};exact tail_any (ops:=[.ref s3.heap.objs.size,v]) ht hT hg (by with_unfolding_all rfl)
abbrev vj (xs:List V) (lo hi:Option Int):List V:=(xs.drop (HT.xH xs.length 0 lo)).take (HT.xH xs.length xs.length hi - HT.xH xs.length 0 lo)
theorem vk (xs:List V) (lo hi:Option Int):(vj xs lo hi).length<=xs.length:=by
 unfold vj;rw[aaD,List.length_drop];lia
end
abbrev Ff (n:Nat) (i:Int):Option Nat:=if 0<=i then (if i<n then some i.toNat else none) else if -(n:Int)<=i then some (i+n).toNat else none
abbrev mv {α:Type} (xs:List α) (i:Int):Option α:=(Ff xs.length i).bind λj=>xs[j]?
theorem yV {n:Nat} {i:Int} {j:Nat} (h:Ff n i=some j):seqIndex? i n=some j/\j<n/\-(n:Int)<=i/\i<n:=by
 unfold Ff at h
 by_cases h0:0<=i
 ·rw[if_pos h0] at h
  by_cases h1:i<n
  ·rw[if_pos h1] at h;have e:i.toNat=j:=aaC h;exact⟨by rw[seqIndex_of h0 h1,e],⋯,⋯,h1⟩
  ·rw[if_neg h1] at h;cases h
 ·rw[if_neg h0] at h
  by_cases h1:-(n:Int)<=i
  ·rw[if_pos h1] at h;have e:(i+n).toNat=j:=aaC h;exact⟨by rw[seqIndex_neg ⋯ h1,e],⋯,h1,⋯⟩
  ·rw[if_neg h1] at h;cases h
theorem tE {α:Type} {xs:List α} {i:Int} {v:α} (h:mv xs i=some v):∃j,seqIndex? i xs.length=some j/\xs[j]?=some v/\j<xs.length/\-(xs.length:Int)<=i/\i<xs.length:=by
 unfold mv at h;cases e:Ff xs.length i with
 | none=>rw[e] at h;cases h
 | some j=>
  rw[e] at h;obtain⟨h1,h2,h3,h4⟩:=yV e;exact⟨j,h1,h,h2,h3,h4⟩
theorem bM {α:Type} {xs:List α} {j:Nat} {v:α} (h:xs[j]?=some v):mv xs (j:Int)=some v:=by
 have hj:j<xs.length:=(abr.mp h).1;have e:Ff xs.length (j:Int)=some j:=by
  unfold Ff;rw[if_pos ⋯,if_pos ⋯];simp
 unfold mv;rw[e];exact h
abbrev Fg (b:Expr):Prop:=∀o i,subscripted b false o i=operate [o,i] (getItem o i)
abbrev EJ (X:Cx) (r:R2):Prop:=
 ∀(value slice:Expr) (pins:List (Addr×Obj)) (s:Shared) (σ:St) (H:Hp) (x y:V) (v u:Value) (Q:VK),Inv X pins σ H s->RelV x v->RelV y u->r x y H Q->
  subscripted slice false v u=operate [v,u] (getItem v u)->wpAny (model X.prog X.w) X.A (subscriptTail value slice v u) (EP X pins σ Q) X.xe s
abbrev JD (X:Cx) (id:String) (r:V->List V->Hp->VK->Prop):Prop:=
 ∀(pins:List (Addr×Obj)) (s:Shared) (σ:St) (H:Hp) (x:V) (xs:List V) (v:Value) (us:List Value) (Q:VK),Inv X pins σ H s->RelV x v->br xs us->r x xs H Q->
  wpAny (model X.prog X.w) X.A (call (.builtin id) (v::us)) (EP X pins σ Q) X.xe s
section
variable {X : Cx} {a b : Expr} {ta tb : TE} {pos : Pos}
theorem av {r:R2} (hr:EJ X r) (ha:PE X a ta) (hb:PE X b tb) (hs:Fg b:=by exact λ_ _=>rfl):PE X (.Subscript a b pos) (tOp r ta tb):=by
 intro pins s σ H Q I h;exact Subscript_ (Jy ha hb I h λv u s2 x y H2 I2 rx ry q=>hr a b pins s2 σ H2 x y v u Q I2 rx ry q (hs _ _))
abbrev SJ (K:abk):R2:=λx y H Q=>∃p xs i v,x=.ref p/\y=.int i/\bw K H p xs/\mv xs i=some v/\Q v H
abbrev SK (K:abk):R2:=λx y H Q=>∃p xs i v,x=.ref p/\y=.int i/\jD K H p xs/\mv xs i=some v/\Q v H
abbrev Fh:R2:=λx y H Q=>∃z i c,x=.str z/\y=.int i/\z.length<=sizeLine/\mv z.cps.toList i=some c/\Q (.str ⟨#[c]⟩) H
theorem yW:EJ X (SJ X.K):=by
 intro value slice pins s σ H x y v u Q I rx ry h hs;obtain⟨p,xs,i,z,rfl,rfl,hq,he,q⟩:=h;cases rx;obtain⟨t,rfl⟩:=ry;obtain⟨bf,r,pl,hz⟩:=I.list hq;obtain⟨j,h1,h2,h3,h4,h5⟩:=tE he;obtain⟨w,ew,Aw⟩:=r.get h2;have hl:=r.length;have hn:=mm;have fin:EP X pins σ Q w s:=⟨z,H,I,Aw,q⟩
 by_cases h0:0<=i
 ·have hj:i.toNat=j:=by
   rw[seqIndex_of h0 h5] at h1;exact aaC h1
  exact item_listR pl.isList h0 ⋯ (by rw[hj];simpa using ew) fin hs
 ·have hj:(i+ (bf.toArray.size:Int)).toNat=j:=by
   rw[seqIndex_neg ⋯ h4] at h1;rw[aan,<-hl];exact aaC h1
  exact subscriptTail_builtinR (x:=w) pl.isList.typeIs slot_list_getitem.lookup
   (wpAny_getItem_list_neg (Q:=λr s'=>r=w/\EP X pins σ Q r s') pl.isList ⋯ (by rw[aan] <;>lia) ⋯ (by rw[hj];simpa using ew) ⟨rfl,fin⟩) hs
theorem JE:EJ X (SK X.K):=by
 intro value slice pins s σ H x y v u Q I rx ry h hs;obtain⟨p,xs,i,z,rfl,rfl,hq,he,q⟩:=h;cases rx;obtain⟨t,rfl⟩:=ry;obtain⟨bf,r,pl,hz⟩:=I.tuple hq;obtain⟨j,h1,h2,h3,h4,h5⟩:=tE he;obtain⟨w,ew,Aw⟩:=r.get h2;have hl:=r.length;have hn:=mm;have fin:EP X pins σ Q w s:=⟨z,H,I,Aw,q⟩
 exact subscriptTail_builtinR (x:=w) pl.typeIs slot_tuple_getitem.lookup
  (getItem_tuple (j:=j) (Q:=λr s'=>r=w/\EP X pins σ Q r s') pl ⋯ ⋯ (by rw[aan,<-hl];exact h1) (by simpa using ew) ⟨rfl,fin⟩) hs
theorem JF:EJ X Fh:=by
 intro value slice pins s σ H x y v u Q I rx ry h hs;obtain⟨z,i,c,rfl,rfl,hz,he,q⟩:=h;obtain⟨t,rfl⟩:=rx;obtain⟨t',rfl⟩:=ry;obtain⟨j,h1,h2,h3,h4,h5⟩:=tE he;have hl:z.cps.toList.length=z.length:=by simp [Str.length]
 rw[hl] at h1 h4 h5;have hn:=mm;exact tail_any (typeIs_str s z t) slot_str_getitem.lookup (getItem_str (c:=c) (by
  have e1:decide (i < -(2^63:Int))=false:=decide_eq_false ⋯;have e2:decide (i≥2^63)=false:=decide_eq_false ⋯;rw[e1,e2,Bool.or_false]) (by rw[h1];simpa using h2) ⟨.str ⟨#[c]⟩,H,I.tok _,⟨_,rfl⟩,q⟩) hs
theorem xI (bf:List Value) (n j:Nat) (u:Value):Obj.mapSeq (·.setIfInBounds j u) {cls:=.type "list",data:=.seq bf.toArray n}={cls:=.type "list",data:=.seq (bf.set j u).toArray n}:=by
 simp [Obj.mapSeq]
theorem Inv.lst {pins:List (Addr×Obj)} {σ:St} {H:Hp} {s:Shared} {p:Addr} {xs:List V} (I:Inv X pins σ H s) (h:H p=some (.lst xs)):
  ∃(bf:List Value) (n:Nat),br xs bf/\s.heap.get? p=some {cls:=.type "list",data:=.seq bf.toArray n}/\xs.length<=sizeLine:=by
 obtain⟨z,bf,n,r,e⟩:=I.bL p _ h;exact⟨bf,n,r,e,z⟩
theorem Inv.JG {pins:List (Addr×Obj)} {σ:St} {H:Hp} {s:Shared} {p:Addr} {xs ys:List V} {bf its':List Value} {n n':Nat} {f:Obj->Obj} (I:Inv X pins σ H s) (h:H p=some (.lst xs))
  (ho:s.heap.get? p=some {cls:=.type "list",data:=.seq bf.toArray n}) (hf:f {cls:=.type "list",data:=.seq bf.toArray n}={cls:=.type "list",data:=.seq its'.toArray n'}) (r:br ys its') (hz:ys.length<=sizeLine) (t:Nat):
  Inv X pins σ (upd H p (.lst ys)) {s with heap:=s.heap.update p f,toks:=t}:=by
 have e:(s.heap.update p f).get? p=some {cls:=.type "list",data:=.seq its'.toArray n'}:=by
  rw[Heap.get?_update_self f ho (by rw[hf] <;>rfl),hf]
 refine I.write (x:=p) (e:=p) (by rw[h];trivial) (.inl rfl) (λb u hb q=>(Heap.get?_update_other _ _ (Ne.symm hb)).trans q) ⟨_,e⟩ ?_;exact⟨hz,its',n',r,e⟩
abbrev rSetL:V->V->V->Hp->(Hp->Prop)->Prop:=λo i v H Q=>∃p xs k j,o=.ref p/\i=.int k/\H p=some (.lst xs)/\Ff xs.length k=some j/\Q (upd H p (.lst (xs.set j v)))
theorem set_list:MI X rSetL:=by
 intro pins s σ H o i v ov iv u Q I ro ri rv h;obtain⟨p,xs,k,j,rfl,rfl,hp,hj,q⟩:=h;cases ro;obtain⟨t,rfl⟩:=ri;obtain⟨bf,n,r,ho,hz⟩:=I.lst hp;obtain⟨h1,h2,h3,h4⟩:=yV hj;have hl:=r.length;have hn:=mm;have I':Inv X pins σ (upd H p (.lst (xs.set j v))) {s with heap:=s.heap.update p (Obj.mapSeq (·.setIfInBounds j u))}:=
  I.JG hp ho (xI bf n j u) (r.set rv j) (by rw[List.length_set];exact hz) s.toks
 by_cases h0:0<=k
 ·have hk:k.toNat=j:=by
   rw[seqIndex_of h0 h4] at h1;exact aaC h1
  exact PySem.W.ki_setAt ho h0 ⋯ (by rw[aan,<-hl];exact h4) (by rw[hk];exact⟨_,I',q⟩)
 ·have hk:(k+ (bf.toArray.size:Int)).toNat=j:=by
   rw[seqIndex_neg ⋯ h3] at h1;rw[aan,<-hl];exact aaC h1
  exact PySem.W.ki_setBack ho ⋯ (by rw[aan,<-hl];exact h3) ⋯ (by rw[hk];exact⟨_,I',q⟩)
theorem tF (lo hi:Option Int) (n:Nat):(sliceBounds lo hi none n).1=((HT.xH n 0 lo:Nat):Int)/\(sliceBounds lo hi none n).2.1=((HT.xH n n hi:Nat):Int)/\(sliceBounds lo hi none n).2.2=1:=by
 refine⟨?_,?_,rfl⟩
 ·cases lo with
  | none=>simp [sliceBounds,HT.xH]
  | some i=>
   simp only[sliceBounds,HT.xH,Option.getD_none,show(1:Int) >0 by decide,if_true]
   by_cases h:i<0
   ·simp only[h,if_true] <;>lia
   ·simp only[h,if_false] <;>lia
 ·cases hi with
  | none=>simp [sliceBounds,HT.xH]
  | some i=>
   simp only[sliceBounds,HT.xH,Option.getD_none,show(1:Int) >0 by decide,if_true]
   by_cases h:i<0
   ·simp only[h,if_true] <;>lia
   ·simp only[h,if_false] <;>lia
theorem qJ (bf:List Value) (lo hi:Option Int):slicePick bf.toArray lo hi none=((bf.drop (HT.xH bf.length 0 lo)).take (HT.xH bf.length bf.length hi - HT.xH bf.length 0 lo)).toArray:=by
 obtain⟨h1,h2,h3⟩:=tF lo hi bf.toArray.size;unfold slicePick;rw[h1,h2,h3];simp only[sliceRange_one,pick_run,aan] <;>rfl
abbrev rSlL (K:abk):V->Option Int->Option Int->Hp->VK->Prop:=λx lo hi H Q=>∃a xs,x=.ref a/\bw K H a xs/\∀p,H p=none->Q (.ref p) (upd H p (.lst (vj xs lo hi)))
theorem Fi:Rb X (rSlL X.K):=by
 intro pins s σ H x v vl vu lo hi sl Q I rx hs pl pu h;obtain⟨a,xs,rfl,hx,q⟩:=h;cases rx;obtain⟨bf,r,ht,hz⟩:=I.list hx;have hlen:=r.length;refine⟨"list",_,slot_list_getitem.lookup,ht.isList.typeIs,?_⟩;refine wpAny_getItem_list_slice ht.isList hs pl pu .none (by simp) ?_ (by rw[aan] <;>lia);rw[qJ,<-hlen];refine⟨.ref s.heap.objs.size,_,I.laid (t':=s.toks) (o:=.lst (vj xs lo hi)) (λb ob q=>abv _ q) (aam _) ?_,rfl,q _ (I.bL.fresh (aam _))⟩;exact⟨aau (vk xs lo hi) hz,_,0,(r.drop (HT.xH xs.length 0 lo)).take (HT.xH xs.length xs.length hi - HT.xH xs.length 0 lo),abw _ rfl⟩
abbrev cY:V->Bool
 | .bZ=>true
 | .bl _=>true
 | .int _=>true
 | .str _=>true
 | _=>false
abbrev tG:V->V->Bool
 | .bZ,.bZ=>true
 | .bl a,.bl b=>a==b
 | .bl a,.int b=>(if a then 1 else 0)==b
 | .int a,.bl b=>a==(if b then 1 else 0)
 | .int a,.int b=>a==b
 | .str a,.str b=>a==b
 | _,_=>false
theorem BZ {A:Around} {s:Shared} {y x:V} {u v:Value} (ry:RelV y u) (rx:RelV x v) (fy:cY y=true) (fx:cY x=true):SeqAt.EqAt A s u v (tG y x):=by
 cases y with
 | bZ=>
  cases ry;cases x with
  | bZ=>cases rx;exact SeqAt.EqAt.same _
  | bl b=>cases rx;exact SeqAt.EqAt.none_bool b
  | int b=>obtain⟨t,rfl⟩:=rx;exact SeqAt.EqAt.none_int b t
  | str b=>obtain⟨t,rfl⟩:=rx;exact SeqAt.EqAt.none_str b t
  | _=>exact absurd (show false=true from fx) aax
 | bl a=>
  cases ry;cases x with
  | bZ=>cases rx;exact SeqAt.EqAt.bool_none a
  | bl b=>cases rx;exact SeqAt.EqAt.bool_bool a b
  | int b=>obtain⟨t,rfl⟩:=rx;exact SeqAt.EqAt.bool_int a b t
  | str b=>obtain⟨t,rfl⟩:=rx;exact SeqAt.EqAt.bool_str a b t
  | _=>exact absurd (show false=true from fx) aax
 | int a=>
  obtain⟨t',rfl⟩:=ry;cases x with
  | bZ=>cases rx;exact SeqAt.EqAt.int_none a t'
  | bl b=>cases rx;exact SeqAt.EqAt.int_bool a t' b
  | int b=>obtain⟨t,rfl⟩:=rx;exact SeqAt.EqAt.int_int a t' b t
  | str b=>obtain⟨t,rfl⟩:=rx;exact SeqAt.EqAt.int_str a t' b t
  | _=>exact absurd (show false=true from fx) aax
 | str a=>
  obtain⟨t',rfl⟩:=ry;cases x with
  | bZ=>cases rx;exact SeqAt.EqAt.str_none a t'
  | bl b=>cases rx;exact SeqAt.EqAt.str_bool a t' b
  | int b=>obtain⟨t,rfl⟩:=rx;exact SeqAt.EqAt.str_int a t' b t
  | str b=>obtain⟨t,rfl⟩:=rx;exact SeqAt.EqAt.str_str a t' b t
  | _=>exact absurd (show false=true from fx) aax
 | _=>exact absurd (show false=true from fy) aax
abbrev xJ (x:V) (u:Value):Bool:=match u with
 | .none=>tG .bZ x
 | .bool b=>tG (.bl b) x
 | .int i _=>tG (.int i) x
 | .str z _=>tG (.str z) x
 | _=>false
theorem B2 {x y:V} {u:Value} (r:RelV y u) (f:cY y=true):xJ x u=tG y x:=by
 cases y with
 | bZ=>cases r;rfl
 | bl b=>cases r;rfl
 | int i=>obtain⟨t,rfl⟩:=r;rfl
 | str z=>obtain⟨t,rfl⟩:=r;rfl
 | _=>exact absurd (show false=true from f) aax
theorem kK {x:V}:∀{xs:List V} {us:List Value},br xs us->xs.all cY=true->us.any (xJ x)=xs.any λy=>tG y x
 | _,_,.nil,_=>rfl
 | y::xs,u::us,.cons r t,f=>by
  rw[List.all_cons,aaN] at f;rw[List.any_cons,List.any_cons,B2 r f.1,kK t f.2]
theorem iP {A:Around} {s:Shared} {x:V} {v:Value} (rx:RelV x v) (fx:cY x=true):∀{xs:List V} {us:List Value},br xs us->xs.all cY=true->∀u∈us,SeqAt.EqAt A s u v (xJ x u)
 | _,_,.nil,_=>λu hu=>by cases hu
 | y::xs,u::us,.cons r t,f=>λu' hu=>by
  rw[List.all_cons,aaN] at f;rcases aaX.mp hu with rfl | hu
  ·rw[B2 r f.1];exact BZ r rx f.1 fx
  ·exact iP rx fx t f.2 u' hu
abbrev B3 (x:V) (xs:List V):Bool:=xs.any λy=>tG y x
abbrev Rc (K:abk) (neg:Bool):R2:=λx y H Q=>∃p xs,y=.ref p/\(bw K H p xs\/jD K H p xs)/\cY x=true/\xs.all cY=true/\Q (.bl (if neg then !B3 x xs else B3 x xs)) H
theorem AH:hZ X (compareOp .In) (Rc X.K false):=by
 intro pins s σ H x y v u Q I rx ry h;obtain⟨p,xs,rfl,hq,fx,fs,q⟩:=h;cases ry;rcases hq with hq | hq
 ·obtain⟨bf,r,pl,hz⟩:=I.list hq;refine SeqAt.in_listAt (xJ x) pl.isList (λw hw=>iP rx fx r fs w (by simpa using hw)) ⟨.bl _,H,I,rfl,?_⟩;rw[show bf.toArray.any (xJ x)=bf.any (xJ x) by simp,kK r fs];exact q
 ·obtain⟨bf,r,pl,hz⟩:=I.tuple hq;refine SeqAt.in_tupleAt (xJ x) pl (λw hw=>iP rx fx r fs w (by simpa using hw)) ⟨.bl _,H,I,rfl,?_⟩;rw[show bf.toArray.any (xJ x)=bf.any (xJ x) by simp,kK r fs];exact q
theorem tH:hZ X (compareOp .NotIn) (Rc X.K true):=by
 intro pins s σ H x y v u Q I rx ry h;obtain⟨p,xs,rfl,hq,fx,fs,q⟩:=h;cases ry;rcases hq with hq | hq
 ·obtain⟨bf,r,pl,hz⟩:=I.list hq;refine SeqAt.notIn_listAt (xJ x) pl.isList (λw hw=>iP rx fx r fs w (by simpa using hw)) ⟨.bl _,H,I,rfl,?_⟩;rw[show bf.toArray.any (xJ x)=bf.any (xJ x) by simp,kK r fs];exact q
 ·obtain⟨bf,r,pl,hz⟩:=I.tuple hq;refine SeqAt.notIn_tupleAt (xJ x) pl (λw hw=>iP rx fx r fs w (by simpa using hw)) ⟨.bl _,H,I,rfl,?_⟩;rw[show bf.toArray.any (xJ x)=bf.any (xJ x) by simp,kK r fs];exact q
theorem kL:cj X (.builtin "len") (λxs H Q=>∃p ys,xs=[.ref p]/\(bw X.K H p ys\/jD X.K H p ys)/\Q (.int ys.length) H):=by
 intro pins s σ H xs us Q I r h;obtain⟨p,ys,rfl,hq,q⟩:=h;obtain⟨u,rfl,rx⟩:=vals1 r;cases rx;have hn:=mm;rcases hq with hq | hq
 ·obtain⟨bf,r',pl,hz⟩:=I.list hq;have hlen:=r'.length;exact Calls.call_len_list pl.isList (by simp only[aan] <;>lia) ⟨.int ys.length,H,I.tok _,⟨s.toks+1,by rw[aan,hlen]⟩,q⟩
 ·obtain⟨bf,r',pl,hz⟩:=I.tuple hq;have hlen:=r'.length;exact len_tuple pl (by simp only[aan] <;>lia) ⟨.int ys.length,H,I.tok _,⟨s.toks+1,by rw[aan,hlen]⟩,q⟩
theorem tI:cj X (.builtin "len") (λxs H Q=>∃z,xs=[.str z]/\z.length<=sizeLine/\Q (.int z.length) H):=by
 intro pins s σ H xs us Q I r h;obtain⟨z,rfl,hz,q⟩:=h;obtain⟨u,rfl,t,rfl⟩:=vals1 r;have hn:=mm;exact len_str ⋯ ⟨.int z.length,H,I.tok _,⟨_,rfl⟩,q⟩
theorem tJ:cj X (.type "list") (λxs H Q=>∃p ys,xs=[.ref p]/\(bw X.K H p ys\/jD X.K H p ys)/\∀l,H l=none->Q (.ref l) (upd H l (.lst ys))):=by
 intro pins s σ H xs us Q I r h;obtain⟨p,ys,rfl,hq,q⟩:=h;obtain⟨u,rfl,rx⟩:=vals1 r;cases rx;have fin:∀(bf:List Value),br ys bf->ys.length<=sizeLine->∀(h':Heap) (c':Nat),(∀b o',s.heap.get? b=some o'->h'.get? b=some o')->
   h'.get? s.heap.objs.size=some {cls:=.type "list",dict:=none,data:=.seq bf.toArray c',slots:=#[]}->EP X pins σ Q (.ref s.heap.objs.size) {s with heap:=h'}:=λbf r' hz h' c' kp e=>
  ⟨.ref s.heap.objs.size,_,I.laid (t':=s.toks) kp (aam _) (show cE X.prog X.w _ h' _ (.lst ys) from⟨hz,bf,c',r',e⟩),rfl,q _ (I.bL.fresh (aam _))⟩
 rcases hq with hq | hq
 ·obtain⟨bf,r',pl,hz⟩:=I.list hq;have hlen:=r'.length;obtain⟨o,ho,hc,n,hd⟩:=pl.isList;exact call_list_seq p (.inl rfl) ho hc hd (λh' c' kp e=>fin bf r' hz h' c' kp e) (by simp only[aan] <;>lia)
 ·obtain⟨bf,r',pl,hz⟩:=I.tuple hq;have hlen:=r'.length;obtain⟨o,ho,hc,n,hd⟩:=pl;exact call_list_seq p (.inr rfl) ho hc hd (λh' c' kp e=>fin bf r' hz h' c' kp e) (by simp only[aan] <;>lia)
abbrev SM (K:abk) (T:String) (x:V) (H:Hp):Prop:=match x with
 | .str _=>T="str"
 | .int _=>T="int"
 | .ref p=>(T="list"/\∃xs,bw K H p xs)\/(T="tuple"/\∃o,K.lookup p=some o/\o.cls=.type "tuple"/\o.dict=none)\/
   (T="dict"/\((∃kvs,H p=some (.dK kvs))\/∃kvs,H p=some (.dT kvs)))\/(T="set"/\∃S n,H p=some (.set S n))
 | _=>False
theorem B4 {pins:List (Addr×Obj)} {σ:St} {H:Hp} {s:Shared} {T:String} {x:V} {v:Value} (I:Inv X pins σ H s) (r:RelV x v) (ty:SM X.K T x H):
  s.TypeIs v T/\∀a,v=.ref a->∃ob,s.heap.get? a=some ob/\ob.dict=none:=by
 cases x with
 | str z=>
  obtain⟨t,rfl⟩:=r;cases (show T="str" from ty);exact⟨typeIs_str s z t,λ_ e=>nomatch e⟩
 | int i=>
  obtain⟨t,rfl⟩:=r;cases (show T="int" from ty);exact⟨typeIs_int s i t,λ_ e=>nomatch e⟩
 | ref p=>
  cases r;rcases ty with ⟨rfl,xs,hq⟩ | ⟨rfl,o,hk,hc,hd⟩ | ⟨rfl,hk⟩ | ⟨rfl,S,n,hk⟩
  ·obtain⟨bf,_,pl,_⟩:=I.list hq;refine⟨pl.isList.typeIs,λa e=>?_⟩;cases e;obtain⟨o,n,e,c,hd,_⟩:=pl;exact⟨o,e,hd⟩
  ·refine⟨⟨o,I.iK p o hk,hc⟩,λa e=>?_⟩;cases e;exact⟨o,I.iK _ o hk,hd⟩
  ·have z:∃o,s.heap.get? p=some o/\o.ExactDict:=by
    rcases hk with ⟨kvs,hk⟩ | ⟨kvs,hk⟩
    ·obtain⟨_,_,_,_,o,_,_,e,ex,_⟩:=I.bL p _ hk;exact⟨o,e,ex⟩
    ·obtain⟨_,_,_,_,o,_,_,e,ex,_⟩:=I.bL p _ hk;exact⟨o,e,ex⟩
   obtain⟨o,e,ex⟩:=z;refine⟨⟨o,e,ex.1⟩,λa e2=>?_⟩;cases e2;exact⟨o,e,ex.2.1⟩
  ·obtain⟨o,_,_,_,e,ex,_⟩:=I.bL p _ hk;refine⟨⟨o,e,ex.1⟩,λa e2=>?_⟩;cases e2;exact⟨o,e,ex.2.1⟩
 | _=>exact False.elim ty
abbrev tBM (K:abk) (T:String) (r:V->List V->Hp->VK->Prop) (to:TE) (t:TA):TE:=λσ H Q=>to σ H λx H1=>SM K T x H1/\t σ H1 λxs H2=>r x xs H2 Q
variable {o e : Expr} {es : List Expr} {to : TE} {t : TA} {name : Str} {apos dk : Pos} {T id : String} {r : V -> List V -> Hp -> VK -> Prop}
theorem fe (pa:PlainAttrs T) (slot:Slot T name id) (YR:typeOf (.builtin id)=pure (.type "method_descriptor")) (hm:JD X id r) (ho:PE X o to) (ha:PA X (e::es) t)
  (vm:attributeBase o name X.env (eval o X.env)=eval o X.env:=by rfl)
  (SN:((backTo dk (starEach (e::es) X.env)).all (λx=>!x.1) && (backToKw dk (keywordEach [] X.env)).all (λx=>x.1.isSome)
   && decide ((e::es).length+ ([]:List Keyword).length+ (if ([]:List Keyword).isEmpty then 0 else 1)<30))=true:=by rfl)
  (B5:(apos.endLine==dk.line)=true:=by rfl) (hs:starEach (e::es) X.env=(false,eval e X.env)::starEach es X.env:=by injections) (xK:(backTo dk (starEach es X.env)).any (·.1)=false:=by injections):
  PE X (.Call (.Attribute o name apos) (e::es) [] dk) (tBM X.K T r to t):=by
 intro pins s σ H Q I h;refine wpAny_Call_method_late vm SN B5 rfl (cb (ho pins s σ H _ I h) λv s1 dG=>?_);obtain⟨x,H1,I1,r1,ty,q1⟩:=dG;obtain⟨h1,h2⟩:=B4 I1 r1 ty;refine⟨T,id,pa,slot,YR,h1,h2,?_⟩;have hA:=ha dk pins s1 σ H1 _ I1 q1;rw[hs] at hA ⊢;refine Calls.callWith_builtin (by show(false || (backTo dk (starEach es X.env)).any (·.1))=false;rw[xK] <;>rfl) (Calls.evalArgs_plain ?_);exact cb hA λus s2 ⟨vs,H2,I2,r2,q2⟩=>hm pins s2 σ H2 x vs v us Q I2 r1 r2 q2
end
abbrev L6 (X:Cx) (id:String) (r:V->List V->Hp->VK->Prop):Prop:=
 ∀(pins:List (Addr×Obj)) (s:Shared) (σ:St) (H:Hp) (x:V) (xs:List V) (v:Value) (us:List Value) (Q:VK),Inv X pins σ H s->RelV x v->br xs us->r x xs H Q->
  wpAny (model X.prog X.w) X.A (call (.builtin id) (v::us)) (EP X pins σ Q) X.xe s
theorem br.one:∀{x:V} {us:List Value},br [x] us->∃u,us=[u]/\RelV x u
 | _,_,.cons r .nil=>⟨_,rfl,r⟩
theorem br.reverse {xs:List V} {us:List Value} (h:br xs us):br xs.reverse us.reverse:=by
 induction h with
 | nil=>exact .nil
 | cons r t ih=>rw[List.reverse_cons,List.reverse_cons];exact br.append ih (.cons r .nil)
theorem br.rep {xs:List V} {us:List Value} (h:br xs us):∀k:Nat,br (aby k xs).flatten (aby k us).flatten
 | 0=>.nil
 | k+1=>by
  rw[abg,abg,List.flatten_cons,List.flatten_cons];exact br.append h (br.rep h k)
theorem foldl_rep (bf:List Value):∀(k:Nat) (acc:List Value),
  List.foldl (λx1 x2=>x1++x2) acc.toArray (aby k bf.toArray)=(acc++ (aby k bf).flatten).toArray
 | 0,acc=>by simp
 | k+1,acc=>by
  have e:acc.toArray++bf.toArray=(acc++bf).toArray:=by simp
  have e2:(acc++bf)++ (aby k bf).flatten=acc++ (aby (k+1) bf).flatten:=by
   rw[abg,List.flatten_cons,List.append_assoc]
  rw[<-e2,<-foldl_rep bf k (acc++bf),<-e,abg,List.foldl_cons]
section
variable {X : Cx} {pins : List (Addr × Obj)} {σ : St} {H : Hp} {s : Shared} {l b : Addr} {xs ys zs : List V}
theorem Inv.JH {bf its':List Value} {n:Nat} {f:Array Value->Array Value} {t':Nat} (I:Inv X pins σ H s) (hH:H l=some (.lst xs))
  (e:s.heap.get? l=some {cls:=.type "list",data:=.seq bf.toArray n}) (hf:f bf.toArray=its'.toArray) (hv:br ys its') (hz:ys.length<=sizeLine):
  Inv X pins σ (upd H l (.lst ys)) {s with heap:=s.heap.update l (Obj.mapSeq f),toks:=t'}:=by
 have q:=PySem.IsL.update e f;rw[hf] at q;refine I.write (x:=l) (e:=l) (by rw[hH];exact trivial) (.inl rfl) (λb' u hb hu=>(Heap.get?_update_other s.heap (Obj.mapSeq f) (Ne.symm hb)).trans hu) ⟨_,q⟩ ?_;exact⟨hz,its',_,hv,q⟩
theorem Inv.MR {bf:List Value} {t':Nat} (I:Inv X pins σ H s) (hv:br ys bf) (hz:ys.length<=sizeLine):
  Inv X pins σ (upd H s.heap.objs.size (.lst ys)) {s with heap:=s.heap.push {cls:=.type "list",data:=.seq bf.toArray},toks:=t'}:=
 I.laid (λ_ _ q=>abv _ q) (aam _) ⟨hz,bf,0,hv,abw _ rfl⟩
theorem Inv.fresh (I:Inv X pins σ H s):H s.heap.objs.size=none:=I.bL.fresh (aam _)
theorem Inv.xM (I:Inv X pins σ H s) (hH:H l=some (.lst xs)):xs.length<=sizeLine/\∃(bf:List Value) (n:Nat),br xs bf/\xs.length=bf.length/\s.heap.get? l=some {cls:=.type "list",data:=.seq bf.toArray n}:=by
 obtain⟨z,bf,n,r,e⟩:=I.bL l _ hH;exact⟨z,bf,n,r,r.length,e⟩
theorem vn {n:Nat} (h:n<=sizeLine):Builtin.List.listTooLong n=false:=by
 unfold Builtin.List.listTooLong;exact decide_eq_false ⋯
end
section
variable {X : Cx}
abbrev eY:V->List V->Hp->VK->Prop:=λx vs H Q=>∃l xs y,x=.ref l/\vs=[y]/\H l=some (.lst xs)/\xs.length<sizeLine/\Q .bZ (upd H l (.lst (xs++ [y])))
theorem dO:L6 X "list.append" eY:=by
 intro pins s σ H x vs v us Q I rx rv h;obtain⟨l,xs,y,rfl,rfl,hH,hz,q⟩:=h;cases rx;obtain⟨u,rfl,ru⟩:=rv.one;obtain⟨z,bf,n,r,hl,e⟩:=I.xM hH;refine call_meets F.slot_list_append ⟨_,e,rfl⟩ F.entry_list_append (F.args_list_append_2 _ _) (PySem.list_append l bf.toArray n u (by rw[aan];lia)) ⟨e,?_⟩;refine⟨.bZ,_,I.JH (its':=bf++ [u]) hH e (by simp) (r.append (.cons ru .nil)) ?_,rfl,q⟩;rw[aat,aa8];lia
abbrev tK:V->List V->Hp->VK->Prop:=λx vs H Q=>∃l b xs zs,x=.ref l/\vs=[.ref b]/\H l=some (.lst xs)/\H b=some (.lst zs)/\xs.length+zs.length<=sizeLine/\Q .bZ (upd H l (.lst (xs++zs)))
theorem rW:L6 X "list.extend" tK:=by
 intro pins s σ H x vs v us Q I rx rv h;obtain⟨l,b,xs,zs,rfl,rfl,hH,hB,hz,q⟩:=h;cases rx;obtain⟨u,rfl,ru⟩:=rv.one;cases ru;obtain⟨z,bf,n,r,hl,e⟩:=I.xM hH;obtain⟨z2,vo,n2,r2,nE,e2⟩:=I.xM hB;have hsz:bf.toArray.size+vo.toArray.size<=sizeLine:=by rw[aan,aan];lia
 have B6:¬(!bf.toArray.isEmpty && Builtin.List.listTooLong (bf.toArray.size+vo.toArray.size))=true:=by
  rw[vn hsz,Bool.and_false];exact aax
 refine call_meets F.slot_list_extend ⟨_,e,rfl⟩ F.entry_list_extend (F.args_list_extend_2 _ _)
  (AutoSeq1.list_extend_list_list_0 l bf.toArray n b vo.toArray n2 B6 (by rw[aan];lia) ⋯) ⟨e,e2,?_⟩
 refine⟨.bZ,_,I.JH (its':=bf++vo) hH e (by simp) (r.append r2) ?_,rfl,q⟩;rw[aat];lia
abbrev B7:R2:=λx y H Q=>∃l b xs zs,x=.ref l/\y=.ref b/\H l=some (.lst xs)/\H b=some (.lst zs)/\xs.length+zs.length<=sizeLine/\∀p,H p=none->Q (.ref p) (upd H p (.lst (xs++zs)))
theorem fk:hZ X (binaryOp .Add) B7:=by
 intro pins s σ H x y v u Q I rx ry h;obtain⟨l,b,xs,zs,rfl,rfl,hH,hB,hz,q⟩:=h;cases rx;cases ry;obtain⟨z,bf,n,r,hl,e⟩:=I.xM hH;obtain⟨z2,vo,n2,r2,nE,e2⟩:=I.xM hB;refine PySem.P.add_list e e2 ?_ (by rw[aan,aan];lia);have ea:bf.toArray++vo.toArray=(bf++vo).toArray:=by simp
 rw[ea];exact⟨.ref _,_,I.MR (t':=s.toks) (r.append r2) (by rw[aat];lia),rfl,q _ I.fresh⟩
abbrev MS:R2:=λx y H Q=>∃l k xs,x=.ref l/\y=.int k/\H l=some (.lst xs)/\-(2^63)<=k/\k<2^63/\xs.length*k.toNat<=sizeLine/\
 ∀p,H p=none->Q (.ref p) (upd H p (.lst (aby k.toNat xs).flatten))
theorem len_rep {α:Type} (xs:List α) (k:Nat):(aby k xs).flatten.length=k*xs.length:=by
 induction k with
 | zero=>simp
 | succ k ih=>rw[abg,List.flatten_cons,aat,ih,Nat.succ_mul,Nat.add_comm]
theorem JI:hZ X (binaryOp .Mult) MS:=by
 intro pins s σ H x y v u Q I rx ry h;obtain⟨l,k,xs,rfl,rfl,hH,h1,h2,hz,q⟩:=h;cases rx;obtain⟨t,rfl⟩:=ry;obtain⟨z,bf,n,r,hl,e⟩:=I.xM hH;have hlen:bf.toArray.size*k.toNat<=sizeLine:=by rw[aan,<-hl];exact hz
 have SO:¬bf.toArray.size*k.toNat >(2^63 - 1) / 8:=by
  have:(sizeLine:Nat)<=(2^63 - 1) / 8:=∅
  lia
 have SQ:¬(!Builtin.List.listFitsIndex k)=true:=by
  rw[fitsIndex_both h1 h2];exact aax
 have B6:¬Builtin.List.listTooLong (bf.toArray.size*k.toNat)=true:=by
  rw[vn hlen];exact aax
 have SR:List.foldl (λx1 x2=>x1++x2) #[] (aby (if bf.toArray.isEmpty=true then 0 else k.toNat) bf.toArray)=(aby k.toNat bf).flatten.toArray:=by
  have f0:∀m:Nat,List.foldl (λx1 x2=>x1++x2) #[] (aby m bf.toArray)=(aby m bf).flatten.toArray:=λm=>by
   have:=foldl_rep bf m [];rw[List.nil_append] at this;exact this
  rw[f0];cases bf with
  | nil=>simp
  | cons a r'=>rw[if_neg (by simp)]
 refine wpAny_binaryOp_repeat_ref (T:="list") (U:="int") ∅ ⟨_,e,rfl⟩ (λs'=>typeIs_int s' k t) noFill_list_mul F.fills_int_mul F.slot_int_rmul repeat_list F.slot_int_index.lookup
  (call_meets F.slot_int_rmul (typeIs_int s k t) F.entry_int_rmul (F.args_int_rmul_2 _ _) (int___rmul___int_list k t l bf.toArray n)
   ⟨e,rfl,⟨_,e,rfl⟩,call_meets F.slot_list_mul ⟨_,e,rfl⟩ F.entry_list_mul (F.args_list_mul_2 _ _) (AutoListH.list___mul___list_int_3 l bf.toArray n k t SQ SO B6) ⟨e,?_⟩⟩)
 rw[SR];exact⟨.ref _,_,I.MR (t':=s.toks) (r.rep k.toNat) (by rw[len_rep,Nat.mul_comm];exact hz),rfl,q _ I.fresh⟩
end
section
variable {prog : Program} {w : World} {A : Around} {E : Value -> Shared -> Prop} {s : Shared}
end
section
variable {X : Cx}
end
section
variable {κ : Type} [DecidableEq κ]
abbrev dU (kvs:List (κ×V)) (k:κ):Option V:=(kvs.find? λkv=>decide (kv.1=k)).map (·.2)
abbrev putK (kvs:List (κ×V)) (k:κ) (v:V):List (κ×V):=
 if (kvs.any λkv=>decide (kv.1=k))=true then kvs.map (λkv=>if kv.1=k then (kv.1,v) else kv) else kvs++ [(k,v)]
abbrev MT (kvs:List (κ×V)) (k:κ):List (κ×V):=kvs.filter λkv=>decide (kv.1≠k)
theorem gN {p:κ×V} {r:List (κ×V)} {k:κ} (e:p.1=k):dU (p::r) k=some p.2:=by simp [dU,List.find?_cons,e]
theorem eJ {p:κ×V} {r:List (κ×V)} {k:κ} (e:¬p.1=k):dU (p::r) k=dU r k:=by simp [dU,List.find?_cons,e]
theorem vp (k:κ):∀kvs:List (κ×V),(kvs.any λkv=>decide (kv.1=k))=(dU kvs k).isSome
 | []=>rfl
 | p::r=>by
  rw[List.any_cons]
  by_cases e:p.1=k
  ·simp only[gN e,decide_eq_true e,Bool.true_or,Option.isSome_some]
  ·rw[eJ e,decide_eq_false e,Bool.false_or];exact vp k r
theorem nF (kvs:List (κ×V)) (k:κ) (v:V):(putK kvs k v).length<=kvs.length+1:=by
 unfold putK
 split
 ·rw[aaj];lia
 ·rw[aat,aaw,List.length_nil];lia
theorem iG.mw {o:Option V} {u:Option Value} (r:iG o u):o.isSome=u.isSome:=by
 cases o with
 | none=>cases u with
  | none=>rfl
  | some _=>exact(show False from r).elim
 | some _=>cases u with
  | none=>exact(show False from r).elim
  | some _=>rfl
theorem iG.getD {o:Option V} {u:Option Value} {d:V} {d':Value} (r:iG o u) (rd:RelV d d'):RelV (o.getD d) (u.getD d'):=by
 cases o with
 | none=>cases u with
  | none=>exact rd
  | some _=>exact(show False from r).elim
 | some _=>cases u with
  | none=>exact(show False from r).elim
  | some _=>exact r
theorem KV.val {kvs:List (κ×V)} {vs:List (κ×Value)} (r:KV kvs vs) (k:κ):iG (dU kvs k) (valueAt vs k):=by
 unfold KV at r
 induction r with
 | nil=>exact True.intro
 | @cons p q ps qs h t ih=>
  obtain⟨h1,h2⟩:=h
  by_cases e:p.1=k
  ·have e':q.1=k:=h1.symm.trans e;have b:valueAt (q::qs) k=some q.2:=by simp [valueAt,List.find?_cons,e']
   rw[gN e,b];exact h2
  ·have e':¬q.1=k:=λz=>e (h1.trans z);have b:valueAt (q::qs) k=valueAt qs k:=by simp [valueAt,List.find?_cons,e']
   rw[eJ e,b];exact ih
theorem KV.any {kvs:List (κ×V)} {vs:List (κ×Value)} (r:KV kvs vs) (k:κ):(kvs.any λkv=>decide (kv.1=k))=vs.any λkv=>decide (kv.1=k):=by
 unfold KV at r
 induction r with
 | nil=>rfl
 | cons h t ih=>rw[List.any_cons,List.any_cons,ih,h.1]
theorem KV.JJ {kvs:List (κ×V)} {vs:List (κ×Value)} (r:KV kvs vs) (k:κ) {y:V} {u:Value} (ry:RelV y u):
  KV (kvs.map λkv=>if kv.1=k then (kv.1,y) else kv) (vs.map λkv=>if kv.1=k then (kv.1,u) else kv):=by
 unfold KV at r ⊢
 induction r with
 | nil=>exact .nil
 | @cons p q ps qs h t ih=>
  rw[aak,aak];refine .cons ?_ ih;obtain⟨h1,h2⟩:=h
  by_cases e:p.1=k
  ·rw[if_pos e,if_pos (h1.symm.trans e)];exact⟨h1,ry⟩
  ·rw[if_neg e,if_neg (λz=>e (h1.trans z))];exact⟨h1,h2⟩
theorem KV.put {kvs:List (κ×V)} {vs:List (κ×Value)} (r:KV kvs vs) (k:κ) {y:V} {u:Value} (ry:RelV y u):KV (putK kvs k y) (stored vs k u):=by
 unfold putK stored;rw[r.any k]
 by_cases e:(vs.any λkv=>decide (kv.1=k))=true
 ·rw[if_pos e,if_pos e];exact r.JJ k ry
 ·rw[if_neg e,if_neg e];exact Paired.snoc r ⟨rfl,ry⟩
theorem KV.length {kvs:List (κ×V)} {vs:List (κ×Value)} (r:KV kvs vs):kvs.length=vs.length:=Paired.length r
end
theorem pk {P:Program} {w:World} {k:Key} {u:Value} (r:RelV (kV k) u):(cA P w).is k u=true:=by
 cases k with
 | inl i=>obtain⟨t,e⟩:=(show ∃t,u=Value.int i t from r);subst e;exact u9 P w i t
 | inr x=>obtain⟨t,e⟩:=(show ∃t,u=Value.str x t from r);subst e;exact va P w x t
theorem rX {P:Program} {w:World}:∀{ks:List Key} {us:List Value},br (ks.map kV) us->ItemsAre (cA P w) ks us
 | [],_,r=>by rw[aaU] at r;cases r;exact .nil
 | k::ks,_,r=>by
  rw[aak] at r;cases r with
  | cons h t=>exact .cons (pk h) (rX t)
@[inline]abbrev KT (H:Hp):List (List Key×V)->List (List Key×Addr×Value)->Prop:=Paired λp q=>p.1=q.1/\H q.2.1=some (.tup (p.1.map kV))/\RelV p.2 q.2.2
theorem KT.val {H:Hp} {kvs:List (List Key×V)} {xs:List (List Key×Addr×Value)} (r:KT H kvs xs) (k:List Key):iG (dU kvs k) ((atKey xs k).map (·.2)):=by
 induction r with
 | nil=>exact True.intro
 | @cons p q ps qs h t ih=>
  obtain⟨h1,_,h2⟩:=h
  by_cases e:p.1=k
  ·have e':q.1=k:=h1.symm.trans e;have b:atKey (q::qs) k=some q.2:=by simp [atKey,List.find?_cons,e']
   rw[gN e,b];exact h2
  ·have e':¬q.1=k:=λz=>e (h1.trans z);have b:atKey (q::qs) k=atKey qs k:=by simp [atKey,List.find?_cons,e']
   rw[eJ e,b];exact ih
theorem KT.JJ {H:Hp} {kvs:List (List Key×V)} {xs:List (List Key×Addr×Value)} (r:KT H kvs xs) (k:List Key) {y:V} {u:Value} (ry:RelV y u):
  KT H (kvs.map λkv=>if kv.1=k then (kv.1,y) else kv) (xs.map (putAt k u)):=by
 induction r with
 | nil=>exact .nil
 | @cons p q ps qs h t ih=>
  rw[aak,aak];refine .cons ?_ ih;obtain⟨h1,h2,h3⟩:=h;unfold putAt
  by_cases e:p.1=k
  ·rw[if_pos e,if_pos (h1.symm.trans e)];exact⟨h1,h2,ry⟩
  ·rw[if_neg e,if_neg (λz=>e (h1.trans z))];exact⟨h1,h2,h3⟩
theorem KT.put {H:Hp} {kvs:List (List Key×V)} {xs:List (List Key×Addr×Value)} (r:KT H kvs xs) (k:List Key) {b:Addr} {y:V} {u:Value} (hb:H b=some (.tup (k.map kV))) (ry:RelV y u):
  KT H (putK kvs k y) (storedH xs k b u):=by
 have e:(kvs.any λkv=>decide (kv.1=k))=(atKey xs k).isSome:=by
  rw[vp,(r.val k).mw,Option.isSome_map]
 unfold putK storedH;rw[e]
 by_cases q:(atKey xs k).isSome=true
 ·rw[if_pos q,if_pos q];exact r.JJ k ry
 ·rw[if_neg q,if_neg q];exact Paired.snoc r ⟨rfl,hb,ry⟩
theorem KT.keeps {H H':Hp} {kvs:List (List Key×V)} {xs:List (List Key×Addr×Value)} (r:KT H kvs xs) (ht:∀b ys,H b=some (.tup ys)->H' b=some (.tup ys)):KT H' kvs xs:=
 Paired.Jo r λ_ _ z=>⟨z.1,ht _ _ z.2.1,z.2.2⟩
section
variable {P : Program} {w : World} {H : Hp} {h : Heap} {a : Addr}
theorem Hy {u:HO} (ok:gG P w H h) (e:Rd H a u):cE P w H h a u:=e.ok ok
theorem nG {kvs:List (Key×V)} (ok:gG P w H h) (e:Rd H a (.dK kvs)):kvs.length<=sizeLine/\(a==sysModules)=false/\∃vs,KV kvs vs/\h.DictOf (cA P w) a vs:=
 show cE P w H h a (.dK kvs) from Hy ok e
theorem B8 {kvs:List (Key×V)} (ok:gG P w H h) (e:H a=some (.dK kvs)):kvs.length<=sizeLine/\(a==sysModules)=false/\∃vs,KV kvs vs/\h.DictOf (cA P w) a vs:=nG ok (.inl e)
theorem pq {ks:List Key} (ok:gG P w H h) (e:H a=some (.tup (ks.map kV))):(tupleKind (cA P w)).is h ks a:=by
 obtain⟨_,bf,r,o,h1,h2,n,h3⟩:=(show cE P w H h a (.tup (ks.map kV)) from ok a _ e)
 exact⟨o,bf.toArray,n,h1,h2,h3,by simpa using rX r⟩
theorem rY {kvs:List (List Key×V)} (ok:gG P w H h) (e:Rd H a (.dT kvs)):kvs.length<=sizeLine/\(a==sysModules)=false/\
  ∃xs,KT H kvs xs/\h.DictOfH (tupleKind (cA P w)) a xs:=by
 obtain⟨z,y,xs,r,o,es,ep,h1,h2,h3,h4,h5⟩:=(show cE P w H h a (.dT kvs) from Hy ok e)
 refine⟨z,y,xs,r,o,es,ep,h1,h2,h3,h4,λx hx=>?_,h5⟩;have all:∀{l:List (List Key×V)} {m:List (List Key×Addr×Value)},KT H l m->∀x∈m,(tupleKind (cA P w)).is h x.1 x.2.1:=by
  intro l m q
  induction q with
  | nil=>intro x hx;exact nomatch hx
  | @cons p q ps qs hq t ih=>
   intro x hx;rcases aaX.mp hx with e | hx
   ·subst e;exact pq ok (by rw[<-hq.1];exact hq.2.1)
   ·exact ih x hx
 exact all r x hx
theorem MU {kvs:List (List Key×V)} (ok:gG P w H h) (e:H a=some (.dT kvs)):kvs.length<=sizeLine/\(a==sysModules)=false/\
  ∃xs,KT H kvs xs/\h.DictOfH (tupleKind (cA P w)) a xs:=rY ok (.inl e)
end
abbrev jt (H:Hp) (a:Addr) (y:V) (r:Option V):Prop:=
 (∃kvs k,Rd H a (.dK kvs)/\y=kV k/\r=dU kvs k)\/∃kvs k b,Rd H a (.dT kvs)/\y=.ref b/\H b=some (.tup (k.map kV))/\r=dU kvs k
abbrev xN (H:Hp) (a:Addr) (y v:V) (H':Hp):Prop:=
 (∃kvs k,H a=some (.dK kvs)/\y=kV k/\kvs.length<sizeLine/\H'=upd H a (.dK (putK kvs k v)))\/
 ∃kvs k b,H a=some (.dT kvs)/\y=.ref b/\H b=some (.tup (k.map kV))/\kvs.length<sizeLine/\H'=upd H a (.dT (putK kvs k v))
theorem xN.k {H:Hp} {a:Addr} {kvs:List (Key×V)} {k:Key} {v:V} (e:H a=some (.dK kvs)) (hl:kvs.length<sizeLine):xN H a (kV k) v (upd H a (.dK (putK kvs k v))):=.inl ⟨kvs,k,e,rfl,hl,rfl⟩
section
variable {X : Cx} {pins : List (Addr × Obj)} {σ : St} {H : Hp} {s : Shared} {a : Addr} {y v : V} {u r : Value} {o : Option V} {A : Around} {E : Value -> Shared -> Prop}
theorem Inv.YS (I:Inv X pins σ H s):sysModules<s.heap.objs.size:=by
 have h:mainGlobals<s.heap.objs.size:=(I.mod.glob.keeps I.bk).lt;exact Nat.lt_trans ∅ h
theorem AI {Q:Value->Shared->Prop} (hu:A.units+1<cLine) (I:Inv X pins σ H s) (g:jt H a y (some v)) (ry:RelV y u) (h:∀w' s',Inv X pins σ H s'->RelV v w'->Q w' s'):
  wpAny (model X.prog X.w) A (getItem (.ref a) u) Q E s:=by
 rcases g with ⟨kvs,k,e,ey,l⟩ | ⟨kvs,k,b,e,ey,eb,l⟩
 ·subst ey;obtain⟨z,hd,vs,rel,dd⟩:=nG I.bL e;obtain⟨w',hw,Aw⟩:=iG.some_of (v:=v) (o:=valueAt vs k) (by rw[l];exact rel.val k);exact wpAny_getItem_of (pk ry) dd.mapOf hw (h w' _ (I.tok _) Aw)
 ·subst ey;cases (show u=Value.ref b from ry);obtain⟨z,hd,xs,rel,dd⟩:=rY I.bL e;obtain⟨w',hw,Aw⟩:=iG.some_of (v:=v) (o:=(atKey xs k).map (·.2)) (by rw[l];exact rel.val k);obtain⟨p,hp,YT⟩:=abq.mp hw;refine wpAny_getItem_heap (tupleKind_room_in1 hu) (pq I.bL eb) dd hp ?_;rw[YT];exact h w' _ (I.tok _) Aw
theorem Fj {Q:Value->Shared->Prop} (hu:A.units+1<cLine) (I:Inv X pins σ H s) (g:jt H a y o) (ry:RelV y u) (h:∀s',Inv X pins σ H s'->Q (.bool (!o.isSome)) s'):
  wpAny (model X.prog X.w) A (compareOp .NotIn u (.ref a)) Q E s:=by
 rcases g with ⟨kvs,k,e,ey,l⟩ | ⟨kvs,k,b,e,ey,eb,l⟩
 ·subst ey;obtain⟨z,hd,vs,rel,dd⟩:=nG I.bL e;refine wpAny_notIn_of (pk ry) hd dd.mapOf ?_;rw[<-(rel.val k).mw,<-l];exact h _ (I.tok _)
 ·subst ey;cases (show u=Value.ref b from ry);obtain⟨z,hd,xs,rel,dd⟩:=rY I.bL e;refine wpAny_notIn_heap (tupleKind_room_in1 hu) (pq I.bL eb) hd dd ?_;have q:=(rel.val k).mw;rw[Option.isSome_map] at q;rw[<-q,<-l];exact h _ (I.tok _)
theorem yX {h':Heap} {t':Nat} {ob:HO} (I:Inv X pins σ H s) (mu:MD (H a)) (hs:Heap.SameBut a s.heap h') (he:∃q,h'.get? a=some q) (new:cE X.prog X.w (upd H a ob) h' a ob):
  Inv X pins σ (upd H a ob) {s with heap:=h',toks:=t'}:=
 I.write (x:=a) (e:=a) mu (.inl rfl) (λb q hb z=>(hs.2 b hb).trans z) he new
theorem JK {P:Program} {w:World} {H':Hp} {h':Heap} {kvs:List (Key×V)} {vs:List (Key×Value)} (z:kvs.length<=sizeLine) (hd:(a==sysModules)=false) (rel:KV kvs vs) (dd:h'.DictOf (cA P w) a vs):
  cE P w H' h' a (.dK kvs):=⟨z,hd,vs,rel,dd⟩
theorem AJ {H':Hp} {Q:Unit->Shared->Prop} (hu:A.units+1<cLine) (I:Inv X pins σ H s) (g:xN H a y v H') (ry:RelV y u) (rv:RelV v r) (h:∀s',Inv X pins σ H' s'->Q () s'):
  wpAny (model X.prog X.w) A (setItem (.ref a) u r) Q E s:=by
 rcases g with ⟨kvs,k,e,ey,l,eH⟩ | ⟨kvs,k,b,e,ey,eb,l,eH⟩
 ·subst ey eH;obtain⟨z,hd,vs,rel,dd⟩:=B8 I.bL e;have hz:vs.length<=sizeLine:=by rw[<-rel.length];exact z
  have hl:(putK kvs k v).length<=sizeLine:=by have:=nF kvs k v;lia
  refine wpAny_setItem_pairs (hsz:=hz) (pk ry) dd λh' Rf hs=>h _ ?_;have he:∃q,h'.get? a=some q:=let ⟨q,_,_,hq,_⟩:=Rf;⟨q,hq⟩;exact yX I (by rw[e];exact True.intro) hs he (JK hl hd (rel.put k rv) Rf)
 ·subst ey eH;cases (show u=Value.ref b from ry);obtain⟨z,hd,xs,rel,dd⟩:=MU I.bL e;have hz:xs.length<=sizeLine:=by rw[<-Paired.length rel];exact z
  have hl:(putK kvs k v).length<=sizeLine:=by have:=nF kvs k v;lia
  refine wpAny_setItem_heap (hsz:=hz) (tupleKind_room_in1 hu) (pq I.bL eb) dd λh' Rf hs=>h _ ?_;obtain⟨q,es,ep,hq,h2,h3,h4,_,h5⟩:=Rf;refine yX I (by rw[e];exact True.intro) hs ⟨q,hq⟩ ⟨hl,hd,_,(rel.put k eb rv).keeps λc ys ec=>?_,q,es,ep,hq,h2,h3,h4,h5⟩;rw[aD (MC ec e (λz=>nomatch z))];exact ec
end
section
variable {X : Cx} {pins : List (Addr × Obj)} {σ : St} {H : Hp} {s : Shared} {a : Addr} {kvs : List (Key × V)} {k : Key} {u : Value} {A : Around} {E : Value -> Shared -> Prop}
theorem MV {Q:Value->Shared->Prop} (I:Inv X pins σ H s) (e:Rd H a (.dK kvs)) (h:∀t s',Inv X pins σ H s'->Q (.int kvs.length t) s'):wpAny (model X.prog X.w) A (call (.builtin "len") [.ref a]) Q E s:=by
 obtain⟨z,hd,vs,rel,dd⟩:=nG I.bL e;refine call_len_dict hd dd (by rw[<-rel.length];rw[sizeLine_eq] at z;lia) ?_;rw[<-rel.length];exact h _ _ (I.tok _)
end
abbrev MW (i:Expr):Prop:=∀ov iv,subscripted i false ov iv=operate [ov,iv] (getItem ov iv)
theorem Fk {prog:Program} {w:World} {A:Around} {E:Value->Shared->Prop} {s:Shared} {env:Env} {value slice:Expr} {pos:Pos} {T id:String} {Q:Value->Shared->Prop}
  (hl:typeLookup (.type T) "__getitem__"=pure (some (.builtin id))) (hs:MW slice)
  (h:wpAny (model prog w) A (eval value env) (λo s₁=>wpAny (model prog w) A (eval slice env) (λi s₂=>s₂.TypeIs o T/\wpAny (model prog w) A (getItem o i) Q E s₂) E s₁) E s):
  wpAny (model prog w) A (eval (.Subscript value slice pos) env) Q E s:=by
 refine Subscript_ (wpAny_mono h (λo s₁ h₁=>wpAny_mono h₁ (λi s₂ h₂=>?_) λ_ _ x=>x) λ_ _ x=>x);obtain⟨hT,h₂⟩:=h₂;unfold subscriptTail;refine wpAny_bind ?_;rw[getitemInPython_of_ne hT.not_modules];refine wpAny_bind (wpAny_specialOf hT hl ?_);have fin:wpAny (model prog w) A (subscripted slice false o i) (λr s₃=>wpAny (model prog w) A (letTemporaryGo value o r >>=λ_=>pure r) Q E s₃) E s₂:=by
  rw[hs o i];exact wpAny_operating (wpAny_mono h₂ (λr s₃ h₃=>wpAny_bind (wpAny_letTemporaryGo (wpAny_pure h₃))) λ_ _ x=>x)
 first
  | exact wpAny_pure (wpAny_bind fin)
  | exact wpAny_bind (wpAny_pure (wpAny_bind fin))
  | exact wpAny_bind fin
theorem vq {X:Cx} {pins:List (Addr×Obj)} {σ:St} {H:Hp} {s:Shared} {a:Addr} {y:V} {o:Option V} (I:Inv X pins σ H s) (g:jt H a y o):s.TypeIs (.ref a) "dict":=by
 rcases g with ⟨kvs,k,e,_,_⟩ | ⟨kvs,k,b,e,_,_,_⟩
 ·obtain⟨_,_,vs,_,dd⟩:=nG I.bL e;exact dd.typeIs
 ·obtain⟨_,_,xs,_,dd⟩:=rY I.bL e;exact dd.typeIs
abbrev tDGet (td ty:TE):TE:=λσ H Q=>td σ H λx H1=>ty σ H1 λy H2=>∃a v,x=.ref a/\jt H2 a y (some v)/\Q v H2
abbrev tDIn (ty td:TE):TE:=λσ H Q=>ty σ H λy H1=>td σ H1 λx H2=>∃a o,x=.ref a/\jt H2 a y o/\Q (.bl o.isSome) H2
abbrev tDNotIn (ty td:TE):TE:=λσ H Q=>ty σ H λy H1=>td σ H1 λx H2=>∃a o,x=.ref a/\jt H2 a y o/\Q (.bl (!o.isSome)) H2
abbrev sDPut (td ty tv:TE):TS:=λD σ H=>tv σ H λv H1=>td σ H1 λx H2=>ty σ H2 λy H3=>∃a H4,x=.ref a/\xN H3 a y v H4/\D.nx σ H4
section
variable {X : Cx} {o i e value : Expr} {pos pos' iO : Pos} {td ty tv : TE}
theorem cB (hu:X.A.units+1<cLine) (ho:PE X o td) (hi:PE X i ty) (hs:MW i):PE X (.Subscript o i pos) (tDGet td ty):=by
 intro pins s σ H Q I h;refine Fk PySem.F.slot_dict_getitem.lookup hs (cb (ho pins s σ H _ I h) λu s1 ⟨x,H1,I1,rx,q1⟩=>cb (hi pins s1 σ H1 _ I1 q1) λiv s2 dG=>?_);obtain⟨y,H2,I2,ry,a,v,ex,g,q2⟩:=dG;subst ex;obtain rfl:u=Value.ref a:=rx;exact⟨vq I2 g,AI hu I2 g ry λw' s3 I3 Aw=>⟨v,H2,I3,Aw,q2⟩⟩
theorem rZ (hu:X.A.units+1<cLine) (hi:PE X i ty) (ho:PE X o td):PC X .NotIn i o (tDNotIn ty td):=by
 intro pins s σ H Q I h;refine cb (hi pins s σ H _ I h) λiv s1 ⟨y,H1,I1,ry,q1⟩=>cb (ho pins s1 σ H1 _ I1 q1) λu s2 dG=>?_;obtain⟨x,H2,I2,rx,a,ov,ex,g,q2⟩:=dG;subst ex;obtain rfl:u=Value.ref a:=rx;exact Fj hu I2 g ry λs3 I3=>⟨.bl (!ov.isSome),H2,I3,rfl,q2⟩
theorem eK (hu:X.A.units+1<cLine) (ho:PE X o td) (hi:PE X i ty) (hv:PE X value tv) (hs:swapsWith value (some (.Subscript o i pos')) pos.line X.env=pure false):
  PS X (.Assign [.Subscript o i pos'] value pos) (sDPut td ty tv):=by
 intro pins s σ H D I h;refine wpAny_Assign_Subscript (cb (hv pins s σ H _ I h) λr s1 ⟨v,H1,I1,rv,q1⟩=>cb (ho pins s1 σ H1 _ I1 q1) λu s2 ⟨x,H2,I2,rx,q2⟩=>cb (hi pins s2 σ H2 _ I2 q2) λiv s3 dG=>?_) hs;obtain⟨y,H3,I3,ry,a,H4,ex,g,q3⟩:=dG;subst ex;obtain rfl:u=Value.ref a:=rx;exact AJ hu I3 g ry rv λs4 I4=>⟨σ,H4,I4,q3⟩
end
theorem B9 {P:Program} {w:World} {H:Hp} (h:Heap) (hb:sysModules<h.objs.size):cE P w H (h.push {cls:=.type "dict",data:=.dict #[]}) h.objs.size (.dK []):=
 ⟨aas _,beq_eq_false_iff_ne.mpr (Ne.symm (aav hb)),[],.nil,Heap.DictOf.new h⟩
abbrev tDNewK:TE:=λ_ H Q=>∀p,H p=none->Q (.ref p) (upd H p (.dK []))
section
variable {X : Cx} {pos : Pos}
theorem gO:PE X (.Dict [] [] pos) tDNewK:=λpins s σ H Q I h=>
 wpAny_Dict_empty ⟨.ref s.heap.objs.size,_,I.laid (a:=s.heap.objs.size) (o:=.dK []) (t':=s.toks) (λ_ _ q=>abv _ q) (aam _) (B9 s.heap I.YS),rfl,h _ (I.bL.fresh (aam _))⟩
end
@[inline]abbrev VV:List (V×V)->List (Value×Value)->Prop:=Paired λp q=>RelV p.1 q.1/\RelV p.2 q.2
structure M1 (X:Cx) (o:Expr) (m:Str) (apos:Pos) (e:Expr) (dk:Pos):Prop where
 base:attributeBase o m X.env (eval o X.env)=eval o X.env
 L7:((backTo dk (starEach [e] X.env)).all (λx=>!x.1) && (backToKw dk (keywordEach [] X.env)).all (λx=>x.1.isSome)
  && decide (([e]:List Expr).length+ ([]:List Keyword).length+ (if ([]:List Keyword).isEmpty then 0 else 1)<30))=true
 line:(apos.endLine==dk.line)=true
 trees:backTo dk (starEach [e] X.env)=[(false,eval e X.env)]
structure M2 (X:Cx) (o:Expr) (m:Str) (apos:Pos) (e f:Expr) (dk:Pos):Prop where
 base:attributeBase o m X.env (eval o X.env)=eval o X.env
 L7:((backTo dk (starEach [e,f] X.env)).all (λx=>!x.1) && (backToKw dk (keywordEach [] X.env)).all (λx=>x.1.isSome)
  && decide (([e,f]:List Expr).length+ ([]:List Keyword).length+ (if ([]:List Keyword).isEmpty then 0 else 1)<30))=true
 line:(apos.endLine==dk.line)=true
 trees:backTo dk (starEach [e,f] X.env)=[(false,eval e X.env),(false,eval f X.env)]
abbrev Rg (H:Hp) (a:Addr):Prop:=(∃kvs,Rd H a (.dK kvs))\/∃kvs,Rd H a (.dT kvs)
theorem JL {X:Cx} {pins:List (Addr×Obj)} {σ:St} {H:Hp} {s:Shared} {a:Addr} (I:Inv X pins σ H s) (d:Rg H a):
  s.TypeIs (.ref a) "dict"/\(∀b,Value.ref a=.ref b->∃ob,s.heap.get? b=some ob/\ob.dict=none)/\(a==sysModules)=false:=by
 rcases d with ⟨kvs,e⟩ | ⟨kvs,e⟩
 ·obtain⟨_,hd,vs,_,dd⟩:=nG I.bL e;refine⟨dd.typeIs,λb q=>?_,hd⟩;cases q;obtain⟨ob,_,_,h1,h2,_⟩:=dd;exact⟨ob,h1,h2.2.1⟩
 ·obtain⟨_,hd,xs,_,dd⟩:=rY I.bL e;refine⟨dd.typeIs,λb q=>?_,hd⟩;cases q;obtain⟨ob,_,_,h1,h2,_⟩:=dd;exact⟨ob,h1,h2.2.1⟩
section
variable {X : Cx} {pins : List (Addr × Obj)} {σ : St} {H : Hp} {s : Shared} {a : Addr} {y d : V} {u r : Value} {o : Option V} {A : Around} {E : Value -> Shared -> Prop}
theorem JM {Q:Value->Shared->Prop} (hu:A.units+1<cLine) (I:Inv X pins σ H s) (g:jt H a y o) (ry:RelV y u) (rd:RelV d r) (h:∀w' s',Inv X pins σ H s'->RelV (o.getD d) w'->Q w' s'):
  wpAny (model X.prog X.w) A (call (.builtin "dict.get") [.ref a,u,r]) Q E s:=by
 rcases g with ⟨kvs,k,e,ey,l⟩ | ⟨kvs,k,b,e,ey,eb,l⟩
 ·subst ey;obtain⟨z,hd,vs,rel,dd⟩:=nG I.bL e;refine call_meetsIn PySem.F.slot_dict_get dd.typeIs PySem.F.entry_dict_get (PySem.F.args_dict_get_3 _ _ _) (meets_dict_get_default (cA X.prog X.w) a (pk ry) hd r) ⟨_,dd.mapOf,h _ _ (I.tok _) ?_⟩;rw[l];exact(rel.val k).getD rd
 ·subst ey;cases (show u=Value.ref b from ry);obtain⟨z,hd,xs,rel,dd⟩:=rY I.bL e;refine call_meetsIn PySem.F.slot_dict_get dd.typeIs PySem.F.entry_dict_get (PySem.F.args_dict_get_3 _ _ _) (meetsH_dict_get_default (tupleKind (cA X.prog X.w)) a b hd r) ⟨tupleKind_room_in1 hu,k,xs,pq I.bL eb,dd,h _ _ (I.tok _) ?_⟩;rw[l];exact(rel.val k).getD rd
end
abbrev tDGet1 (td ty:TE):TE:=λσ H Q=>td σ H λx H1=>∃a,x=.ref a/\Rg H1 a/\ty σ H1 λy H2=>∃o,jt H2 a y o/\Q (o.getD .bZ) H2
abbrev tDGet2 (td ty tx:TE):TE:=λσ H Q=>td σ H λx H1=>∃a,x=.ref a/\Rg H1 a/\ty σ H1 λy H2=>tx σ H2 λz H3=>∃o,jt H3 a y o/\Q (o.getD z) H3
abbrev tDPop1 (td ty:TE):TE:=λσ H Q=>td σ H λx H1=>∃a,x=.ref a/\Rg H1 a/\ty σ H1 λy H2=>∃kvs k v,H2 a=some (.dK kvs)/\y=kV k/\dU kvs k=some v/\Q v (upd H2 a (.dK (MT kvs k)))
section
variable {X : Cx} {o e f : Expr} {apos dk : Pos} {td ty tx : TE}
theorem Ca (hu:X.A.units+1<cLine) (ho:PE X o td) (he:PE X e ty) (hf:PE X f tx) (m:M2 X o "get" apos e f dk):PE X (.Call (.Attribute o "get" apos) [e,f] [] dk) (tDGet2 td ty tx):=by
 intro pins s σ H Q I h;refine wpAny_Call_method m.base m.L7 m.line PySem.F.plainAttrs_dict PySem.F.slot_dict_get PySem.F.type_dict_get (cb (ho pins s σ H _ I h) λu s1 dG=>?_);obtain⟨x,H1,I1,rx,a,ex,d,q1⟩:=dG;subst ex;obtain rfl:u=Value.ref a:=rx;obtain⟨t1,t2,_⟩:=JL I1 d;refine⟨t1,t2,?_⟩;rw[m.trees];refine Calls.callWith_builtin rfl (Calls.evalArgs_plain (Calls.spliced_cons (cb (he pins s1 σ H1 _ I1 q1) λiv s2 ⟨y,H2,I2,ry,q2⟩=>
  Calls.spliced_cons (cb (hf pins s2 σ H2 _ I2 q2) λfv s3 ⟨z,H3,I3,rz,ov,g,q3⟩=>Calls.spliced_nil ?_))))
 exact JM hu I3 g ry rz λw' s4 I4 Aw=>⟨_,H3,I4,Aw,q3⟩
end
section
variable {X : Cx} {pins : List (Addr × Obj)} {σ : St} {H : Hp} {s : Shared} {a : Addr} {kvs : List (Key × V)} {A : Around} {E : Value -> Shared -> Prop}
end
section
variable {X : Cx} {pins : List (Addr × Obj)} {σ : St} {H : Hp} {s : Shared} {a : Addr} {y : V} {u : Value} {A : Around} {E : Value -> Shared -> Prop}
end
end L2
namespace W0
open PySem PySem.W PySem.Calls PyProof.Rows
theorem oi {P:Params} {h:Heap}:∀(ns:List Int) (vs:List Value),WellAll P h vs (ns.map WData.int)->IntsAre vs ns:=by
 intro ns
 induction ns with
 | nil=>
  intro vs w;rw[aaU] at w;cases w;exact .nil
 | cons n ns ih=>
  intro vs w;rw[aak] at w;cases w with
  | cons a b=>
   cases a;exact .cons _ _ (ih _ b)
theorem AK {l:OpenLaw} {n:Nat} (hn:l.most=some n) {P:Params} {h:Heap} {args:List WData} {vals:List Value}
  (Fl:l.row.toRowW.claim.pre args=true) (Fm:WellAll P h vals args):
  ∃a vs ns,vals=[Value.ref a]/\args=[WData.list (ns.map WData.int)]/\h.get? a=some {cls:=.type "list",data:=.seq vs.toArray}/\IntsAre vs ns/\ns.length<=n:=by
 have gu:WShape.hasAll [] args [.list .int]=true:=(pre_splitW Fl).1;have hc:l.pre.holds [] {args:=args}=true:=(pre_splitW Fl).2;obtain⟨d,r,rfl,h1,h2⟩:=hasAllW_cons gu;obtain rfl:=hasAllW_nil h2;obtain⟨xs,rfl,h3⟩:=hasW_list h1;obtain⟨ns,rfl⟩:=items_int h3;have hlen:ns.length<=n:=by
  unfold OpenLaw.pre at hc;have h4:(WTm.not (.lt (.lit (.int (n:Int))) (.len (.arg 0)))).holds [] {args:=[.list (ns.map .int)]}=true:=by
   have h4:=(holds_andW hc).1;rw[hn] at h4;exact h4
  have h5:=condW_of h4 (w_not (w_lt w_lit (w_len_list (w_arg rfl))));rw[aaj] at h5;refine Nat.le_of_not_lt λq=>?_;have q':(n:Int)< ((ns.length:Nat):Int):=⋯
  first
   | (rw[decide_eq_true q'] at h5;exact absurd h5 ∅)
   | (simp at h5;lia)
 cases Fm with
 | cons w1 w2=>
  cases w2;cases w1 with
  | list ho AL=>exact⟨_,_,ns,rfl,rfl,ho,oi ns _ AL,hlen⟩
theorem AM (l:OpenLaw) (args:List WData):l.row.toRowW.claim.post args (.bool true) args=true:=
 postW_of (r:=l.row.toRowW) (X:=(true==true))
  (show WShape.has [] (.bool true) .bool=true by first | rfl | decide | simp [WShape.has,WShape.arms,WShape.armsAll])
  (show(WTm.eq .res (.lit (.bool true))).value [] {args:=args,res:=some (.bool true),after:=args}=some (.bool (true==true)) from w_eq_bool (w_res rfl) w_lit) rfl
theorem vt {l:OpenLaw} {n:Nat} {q:Program} {loose:List Str} {XP:(Str->Option Value)->Heap->Prop} {YP:World->Heap->Prop} {d:DefRec}
  (hn:l.most=some n) (MX:d.params.defaults=[])
  (call:∀(w:World) (s₀ s₁:Shared) (mg mb:Str->Option Value) (fa:Addr) (o:Obj) (pm cd doc:Value) (a:Addr) (vs:List Value) (ns:List Int),
   Ground q loose [] XP w s₀ mg mb s₁.heap->YP w s₁.heap->
   s₁.heap.get? fa=some o->o.data=.func (docDef d.name d.params d.body d.scope pm cd doc)->s₁.heap.CodeRec cd d.name->mg d.name=some (.ref fa)->
   s₁.heap.get? a=some {cls:=.type "list",data:=.seq vs.toArray}->IntsAre vs ns->ns.length<=n->s₁.gens=#[]->
   codeAny (model l.prog w) callerA (.call (.ref fa) ⟨[.ref a],[]⟩) (λr s'=>r=.ok (.ret (.bool true))/\OldK s₁.heap s'.heap/\s'.os=s₁.os/\AllBare s'.gens) s₁):
  WalkO q loose XP YP l.row.toRowW d [] (λf vs=>PySem.call f vs):=by
 intro w s₀ s₁ mg mb G Y fa o pm cd doc dV kV ho hd qI hD MY hg args vals as Fl YU hrd Fm hlo;obtain rfl:dV=.none:=Dflts.none hD MX;obtain rfl:kV=.none:=Dflts.noKw hD;obtain⟨a,vs,ns,rfl,rfl,JN,hints,hlen⟩:=AK hn Fl Fm;refine enter_call (codeAny_mono (call w s₀ s₁ mg mb fa o pm cd doc a vs ns G Y ho (fd_plain hd) qI MY JN hints hlen hg) λr s' hq=>?_);obtain⟨rfl,h2,h3,h4⟩:=hq;exact⟨.inl ⟨.bool true,.bool true,[],rfl,λ_=>rfl,.bool true,AM l _,λ_=>⟨List.Pairwise.nil,λ_ hm=>(nomatch hm)⟩⟩,h2,h3,h4⟩
section
variable {prog : Program} {w : World} {A : Around} {E : Value -> Shared -> Prop} {s : Shared} {K : Frag}
end
end W0
namespace L2
open PySem PySem.Spec PyProof.Rows
theorem sf:∀{vs:List Value} {ns:List Int},IntsAre vs ns->br (ns.map V.int) vs
 | _,_,.nil=>.nil
 | _,_,.cons n t h=>.cons ⟨t,rfl⟩ (sf h)
abbrev JO (H:Hp):Prop:=∀b,H b=none\/∃o xs,H b=some (.uT o (.lst xs))
theorem law_call {P:Program} {w:World} {K:abk} {mg mb:Str->Option Value} {CX:mi} {k:Nat} {fa a:Addr} {fd:FuncData} {x:Str} {sp:Sp} {s₁:Shared} {vs:List Value} {ns:List Int}
  (KX:K.In s₁.heap) (W1:s₁.heap.Ns mainGlobals mg) (hb:s₁.heap.Ns builtinsNs mb) (YV:∀x:Str,x≠"__name__"->mb x=bootBuiltins x) (SS:s₁.heap.NoLimit) (hg:s₁.gens=#[])
  (ha:s₁.heap.get? a=some {cls:=.type "list",data:=.seq vs.toArray}) (hi:IntsAre vs ns) (hl:ns.length<=sizeLine) (hr:dD k callerA)
  (F:∀base:Heap,K.In base->base.Ns mainGlobals mg->fL P w K mg base CX k fa fd [x] sp) (MZ:∀(s:Shared) (u:Value),BindsTo s fd ⟨[u],[]⟩ [(x,u)])
  (Bu:∀H:Hp,JO H->bw K H a (ns.map V.int)->sp [.ref a] H (λv _=>v=.bl true) λ_ _ _=>False)
  (SU:∀H e s',CX [] H s₁ (λ_ _ _=>False) e s'->False):
  codeAny (model P w) callerA (.call (.ref fa) ⟨[.ref a],[]⟩) (λr s'=>r=.ok (.ret (.bool true))/\OldK s₁.heap s'.heap/\s'.os=s₁.os/\AllBare s'.gens) s₁:=by
 have rv:=sf hi;have SV:=hi.length;have core:∀H:Hp,JO H->bw K H a (ns.map V.int)->gG P w H s₁.heap->(∀b,H b≠none->b=a)->(H a≠none->K.lookup a=none)->
   codeAny (model P w) callerA (.call (.ref fa) ⟨[.ref a],[]⟩) (λr s'=>r=.ok (.ret (.bool true))/\OldK s₁.heap s'.heap/\s'.os=s₁.os/\AllBare s'.gens) s₁:=by
  intro H hO hS bL hA hK;have yY:∀{b:Addr} {o:Obj},s₁.heap.get? b=some o->H b=none->(sW s₁.heap H).get? b=some o:=λe n=>BG e n;have MP:∀{b:Addr} {o:Obj} {es:Array DictEntry} {ep:Nat},s₁.heap.get? b=some o->o.data=.dict es ep->H b=none:=λ{b o es ep} e d=>by
   cases q:H b with
   | none=>rfl
   | some u=>
    have e':b=a:=hA b (by rw[q];simp);subst e';rw[ha] at e;cases e;have d':Data.seq vs.toArray _=Data.dict es ep:=d;cases d'
  have Rh:∀{b:Addr} {m:Str->Option Value},s₁.heap.Ns b m->(sW s₁.heap H).Ns b m:=λ{b m} ⟨o,es,ep,e,d,r⟩=>⟨o,es,ep,yY e (MP e d),d,r⟩
  have W2:K.In (sW s₁.heap H):=λb o e=>yY (KX b o e) (by
   cases q:H b with
   | none=>rfl
   | some u=>
    have e':b=a:=hA b (by rw[q];simp);subst e';rw[hK (by rw[q];simp)] at e;cases e)
  have hM:Mod K mg (sW s₁.heap H):=⟨W2,Rh W1,⟨mb,Rh hb,YV⟩,let ⟨mc,h1,h2⟩:=SS;⟨mc,Rh h1,h2⟩⟩
  have e0:xF P w K mg (sW s₁.heap H) callerA [] s₁ H:=⟨rfl,hM,λb o e=>EY e,Nat.le_of_eq (Ap _ _),trivial,λb hb=>absurd (show b∈([]:List Addr) from hb) (by simp),bL,.of_eq hg⟩
  refine codeAny_mono ((F _ W2 (Rh W1)).run callerA [] s₁ H ⟨[.ref a],[]⟩ [.ref a] [.ref a] _ _ hr e0 (MZ s₁ (.ref a)) (.cons rfl .nil) (Bu H hO hS)) λr s' h=>?_;cases r with
  | error e=>exact(SU H e s' h).elim
  | ok fl=>
   cases fl with
   | next=>exact False.elim h
   | brk=>exact False.elim h
   | cont=>exact False.elim h
   | ret u=>
    obtain⟨v,H',os,bare,un,SW,r',q⟩:=h;have q':v=.bl true:=q;subst q';obtain rfl:u=Value.bool true:=r';refine⟨rfl,OldK.of_keep λb o e=>?_,os,bare⟩;cases q:H b with
    | none=>exact un.keep b o e q (by intro z;exact absurd (show b∈([]:List Addr) from z) (by simp)) (by simp)
    | some u=>
     rcases hO b with z | ⟨ob,xs,z⟩
     ·rw[q] at z;cases z
     ·have z2:=un.hV b ob _ z;obtain⟨e1,_⟩:=bL b _ z;obtain⟨e2,_⟩:=SW b _ z2;rw[e] at e1;cases e1;exact e2
 cases hk:K.lookup a with
 | some o=>
  have e:=KX a o hk;rw[ha] at e;cases e;refine core (λ_=>none) (λ_=>.inl rfl) (.inr ⟨_,vs.toArray,_,hk,rfl,rfl,rfl,by rw[aan,SV];exact hl,by simpa using rv⟩) (λb u z=>by have z':(none:Option HO)=some u:=z;cases z') (λb z=>absurd rfl z) λz=>absurd rfl z
 | none=>
  refine core (λb=>if b=a then some (.uT {cls:=.type "list",data:=.seq vs.toArray} (.lst (ns.map V.int))) else none) (λb=>?_) (.inl (.inr ⟨{cls:=.type "list",data:=.seq vs.toArray},if_pos rfl⟩)) (λb u z=>?_) (λb z=>?_) λ_=>hk
  ·by_cases hb:b=a
   ·exact .inr ⟨_,_,if_pos hb⟩
   ·exact .inl (if_neg hb)
  ·by_cases hb:b=a
   ·have z':=(if_pos hb).symm.trans z;cases z';subst hb;exact⟨ha,by rw[aaj];exact hl,vs,_,rv,ha⟩
   ·have z':=(if_neg hb).symm.trans z;cases z'
  ·by_cases hb:b=a
   ·exact hb
   ·exact absurd (if_neg hb) z
@[inline]abbrev KOf {K:abk} {h:Heap} (_:K.In h):abk:=K
theorem Fn {l:PySem.W.OpenLaw} {n k:Nat} {q:Program} {loose:List Str} {XP:(Str->Option Value)->Heap->Prop} {YP:World->Heap->Prop} {d:DefRec} {K:Params->abk} {CX:World->mi} {sp:World->Sp} {x:Str}
  (hn:l.most=some n) (Ra:n<=sizeLine) (MX:d.params.defaults=[]) (hr:dD k callerA)
  (hY:∀(w:World) (h:Heap),YP w h->(K w.params).In h)
  (F:∀(w:World) (mg:Str->Option Value) (fa:Addr) (h:Heap),(K w.params).In h->h.Ns mainGlobals mg->mg d.name=some (.ref fa)->
   ∃fd:FuncData,(∀(s:Shared) (u:Value),BindsTo s fd ⟨[u],[]⟩ [(x,u)])/\
    ∀base:Heap,(K w.params).In base->base.Ns mainGlobals mg->fL l.prog w (K w.params) mg base (CX w) k fa fd [x] (sp w))
  (Bu:∀(w:World) (H:Hp) (a:Addr) (ns:List Int),ns.length<=n->JO H->bw (K w.params) H a (ns.map V.int)->sp w [.ref a] H (λv _=>v=.bl true) λ_ _ _=>False)
  (SU:∀(w:World) (H:Hp) (s:Shared) (e:Value) (s':Shared),CX w [] H s (λ_ _ _=>False) e s'->False):
  PySem.W.WalkO q loose XP YP l.row.toRowW d [] (λf vs=>PySem.call f vs):=by
 refine W0.vt hn MX λw s₀ s₁ mg mb fa o pm cd doc a vs ns G Y ho hd qI MY JN hints hlen hg=>?_;have KX:=hY w _ Y;obtain⟨fd,hb,hF⟩:=F w mg fa _ KX G.T.g MY;exact law_call KX G.T.g G.T.b G.T.builtins G.T.nolimit hg JN hints (aau hlen Ra) hr hF hb (λH hO hS=>Bu w H a ns hlen hO hS) λH e s'=>SU w H s₁ e s'
abbrev inClass (s:Stmt) (j:Nat):Stmt:=match s with
 | .ClassDef _ _ _ body _ _ _ _ _ _ _=>body.getD j (.Pass ⟨0,0,0,0⟩)
 | _=>.Pass ⟨0,0,0,0⟩
abbrev bC (s:Stmt):Arguments:=match s with
 | .FunctionDef _ a _ _ _ _ _ _ _ _=>a
 | _=>{posonlyargs:=[],args:=[],vararg:=none,kwonlyargs:=[],kw_defaults:=[],kwarg:=none,defaults:=[]}
abbrev bu (s:Stmt):List Stmt:=match s with
 | .FunctionDef _ _ b _ _ _ _ _ _ _=>b
 | _=>[]
abbrev au (s:Stmt):Scope:=match s with
 | .FunctionDef _ _ _ _ _ _ sc _ _ _=>sc
 | _=>{kind:=.function,names:=[],isGenerator:=false,isCoroutine:=false}
@[inline]abbrev CX0:mi:=λ_ _ _ _ _ _=>False
@[inline]abbrev E0:XK:=λ_ _ _=>False
structure xf (K:abk) (x qual:Str) (st:Stmt) (f:Addr) (fd:FuncData):Prop where
 ex:∃(oc:Value) (od:Option Addr) (kV doc pm:Value) (an:Option Addr) (bR ct:Value) (Fe:Array (Option Value)),
  fd=abn x qual (bC st) (bu st) (au st) .none kV doc pm an bR ct/\K.lookup f=some ⟨oc,od,.func fd,Fe⟩/\abm K bR qual=true
 kp:abl K (.ref f)=true
section
variable {P : Program} {w : World} {K : abk} {mg : Str -> Option Value} {base : Heap}
theorem xf.binds {x qual:Str} {st:Stmt} {f:Addr} {fd:FuncData} {ps:List Str} (F:xf K x qual st f fd)
  (h:∀(kV doc pm:Value) (an:Option Addr) (bR ct:Value) (us:List Value),us.length=ps.length->bindArgs (abn x qual (bC st) (bu st) (au st) .none kV doc pm an bR ct) ⟨us,[]⟩=pure (ps.zip us)):Binds K fd ps []:=by
 obtain⟨oc,od,kV,doc,pm,an,bR,ct,Fe,rfl,lk,qI⟩:=F.ex;exact .all (h kV doc pm an bR ct)
theorem cC {x qual:Str} {st:Stmt} {f:Addr} {oc:Value} {od an:Option Addr} {Fe:Array (Option Value)} {kV doc pm bR ct:Value} (l:K.lookup f=some ⟨oc,od,.func (abn x qual (bC st) (bu st) (au st) .none kV doc pm an bR ct),Fe⟩)
  (c:abm K bR qual=true) (k:abl K (.ref f)=true):xf K x qual st f (abn x qual (bC st) (bu st) (au st) .none kV doc pm an bR ct):=⟨⟨oc,od,kV,doc,pm,an,bR,ct,Fe,rfl,l,c⟩,k⟩
end
theorem ck {A:Around} {k:Nat} (hr:dD k A):A.units+1<cLine:=Nat.lt_of_le_of_lt (Nat.add_le_add_left (by decide:1<=64) _) hr.units
section
variable {X : Cx}
theorem pv (i:Nat) {x:Str} {pos:Pos} (hN:X.N[i]?=some x:=by rfl) (hv:Sr X.env.scope x:=by first | exact Or.inl rfl | exact Or.inr (.inl rfl) | exact Or.inr (.inr rfl)) (hd:(x==("__debug__":Str))=false:=by decide)
  (qI:(x==("__classdict__":Str))=false:=by decide):PE X (.Name x pos) (tVar i):=Jt hN hv hd qI
end
theorem xO {A B:Prop} (h:A):if true=true then A else B:=by
 rw[if_pos rfl];exact h
theorem eI {c A B:Prop} [Decidable c] (h1:c->A) (h2:¬c->B):if c then A else B:=by
 by_cases h:c
 ·rw[if_pos h];exact h1 h
 ·rw[if_neg h];exact h2 h
abbrev aB (H H':Hp):Prop:=∀b o,H b=some o->H' b=some o
theorem aB.refl (H:Hp):aB H H:=λ_ _ h=>h
theorem aB.trans {H H1 H2:Hp} (a:aB H H1) (b:aB H1 H2):aB H H2:=λc o h=>b c o (a c o h)
theorem aB.seq {K:abk} {H H':Hp} {a:Addr} {xs:List V} (e:aB H H') (h:bw K H a xs):bw K H' a xs:=by
 rcases h with (h | ⟨o,h⟩) | h
 ·exact .inl (.inl (e _ _ h))
 ·exact .inl (.inr ⟨o,e _ _ h⟩)
 ·exact .inr h
section
variable {X : Cx}
theorem AN:cj X (.builtin "len") (λxs H Q=>∃a kvs,xs=[V.ref a]/\H a=some (.dK kvs)/\Q (.int kvs.length) H):=by
 intro pins s σ H xs us Q I r h;obtain⟨a,kvs,rfl,ha,q⟩:=h;obtain⟨u,rfl,ru⟩:=vals1 r;cases ru;exact MV I (.inl ha) λt s' I'=>⟨.int kvs.length,H,I',⟨t,rfl⟩,q⟩
end
section
variable {κ : Type} [DecidableEq κ]
end
abbrev Bt (n:Nat) (i:Int):Prop:=i.natAbs<2^n
theorem Bt.neg {n:Nat} {i:Int} (h1:Bt n i):Bt n (-i):=by
 unfold Bt at *;lia
theorem Bt.le {n:Nat} {i j:Int} (h:Bt n j) (q:i.natAbs<=j.natAbs):Bt n i:=Nat.lt_of_le_of_lt q h
theorem Bt.of {n:Nat} {i:Int} (b:Nat) (h1:-(b:Int)<=i) (h2:i<=(b:Int)) (h:b<2^n:=by ac_rfl):Bt n i:=by
 unfold Bt;exact Nat.lt_of_le_of_lt ⋯ h
theorem Bt.log {n:Nat} {i:Int} (h:Bt n i) (q:n<=9000:=by decide):i.natAbs.log2<9000:=by
 by_cases z:i.natAbs=0
 ·rw[z];decide
 ·exact aaB ((Nat.log2_lt z).mpr h) q
theorem bE {i j:Int} (h1:-(2^64)<i:=by decide) (h2:i<2^64:=by decide):IntMulOk i j:=.of_left (intBits_le_64 h1 h2)
theorem JP {i j:Int} (h1:-(2^64)<j:=by decide) (h2:j<2^64:=by decide):IntMulOk i j:=.of_right (intBits_le_64 h1 h2)
section
variable {X : Cx}
theorem bj:hZ X (binaryOp .Mult) (rI IntMulOk λi j=>.int (i*j)):=MM λ_ _ _ _ _ _ _ hc q=>mul_int q hc
abbrev kO (_ j:Int):Prop:=0<j/\j.natAbs.log2<9000
theorem kO.of {i j:Int} {n:Nat} (h:0<j) (b:Bt n j) (q:n<=9000:=by decide):kO i j:=⟨h,b.log q⟩
theorem kO.lit {i j:Int} (h:0<j:=by decide) (q:j.natAbs.log2<9000:=by decide):kO i j:=⟨h,q⟩
theorem kP:hZ X (binaryOp .FloorDiv) (rI kO λi j=>.int (i / j)):=MM λi j _ _ _ _ _ hc q=>by
 have h1:(0:Int)<j:=hc.1;exact floordiv_int ⋯ (by rw[Int.fdiv_eq_ediv_of_nonneg i ⋯];exact q) (.inl (PyProof.noPylong_of_log2 hc.2))
abbrev pw (_ j:Int):Prop:=j≠0/\j.natAbs.log2<9000
theorem pw.of {i j:Int} {n:Nat} (h:j≠0) (b:Bt n j) (q:n<=9000:=by decide):pw i j:=⟨h,b.log q⟩
theorem vv:hZ X (binaryOp .FloorDiv) (rI pw λi j=>.int (i.fdiv j)):=MM λ_ _ _ _ _ _ _ hc q=>floordiv_int hc.1 q (.inl (PyProof.noPylong_of_log2 hc.2))
theorem dm:hZ X (binaryOp .Mod) (rI (λ_ j=>0<j) λi j=>.int (i % j)):=Jz
abbrev rIxTH:R2:=λx y H Q=>dg x λp=>fR y λi=>∃xs,H p=some (.tup xs)/\∃v,mv xs i=some v/\Q v H
theorem ao:EJ X rIxTH:=λvalue slice pins s σ H x y v u Q I rx ry h hs=>by
 obtain⟨p,e1,h⟩:=rdR_eq.mp h;obtain⟨i,e2,xs,e3,z,e4,q⟩:=rdI_eq.mp h;exact JE value slice pins s σ H x y v u Q I rx ry ⟨p,xs,i,z,e1,e2,jD.of e3,e4,q⟩ hs
abbrev rIxLH:R2:=λx y H Q=>dg x λp=>fR y λi=>∃xs,H p=some (.lst xs)/\∃v,mv xs i=some v/\Q v H
theorem a6:EJ X rIxLH:=λvalue slice pins s σ H x y v u Q I rx ry h hs=>by
 obtain⟨p,e1,h⟩:=rdR_eq.mp h;obtain⟨i,e2,xs,e3,z,e4,q⟩:=rdI_eq.mp h;exact yW value slice pins s σ H x y v u Q I rx ry ⟨p,xs,i,z,e1,e2,bw.of e3,e4,q⟩ hs
abbrev tTupS (t:TA):TE:=λσ H Q=>t σ H λxs H1=>xs.length<=sizeLine/\∀p H2,aB H1 H2->H1 p=none->H2 p=some (.tup xs)->Q (.ref p) H2
theorem aj {H:Hp} {p:Addr} {o:HO} (h:H p=none):aB H (upd H p o):=λb u e=>by
 rw[aD (eR e h)];exact e
theorem a9 {es:List Expr} {t:TA} {x1} {pos:Pos} (h:PA X es t):PE X (.Tuple es x1 pos) (tTupS t):=λpins s σ H Q I hq=>
 cb (h:=wpAny_Tuple_spliced (cb (h pos pins s σ H _ I hq) λus s1 ⟨xs,H1,I1,r,z,q⟩=>⟨by rw[<-r.length];exact z,by
  have hf:H1 s1.heap.objs.size=none:=I1.bL.fresh (aam _);refine⟨.ref s1.heap.objs.size,upd H1 s1.heap.objs.size (.tup xs),I1.laid (t':=s1.toks) (λb u e=>abv _ e) (aam _) ?_,rfl,q _ _ (aj hf) hf ai⟩;exact⟨z,us,r,⟨_,abw _ rfl,rfl,_,rfl⟩⟩⟩)) λ_ _ z=>z
theorem bF:cj X (.builtin "len") (λxs H Q=>∃p ys,xs=[.ref p]/\H p=some (.lst ys)/\Q (.int ys.length) H):=λpins s σ H xs us Q I r ⟨p,ys,e,h,q⟩=>
 kL pins s σ H xs us Q I r ⟨p,ys,e,.inl (bw.of h),q⟩
theorem AO:cj X (.builtin "len") (λxs H Q=>∃p ns,xs=[.ref p]/\bw X.K H p (List.map V.int ns)/\Q (.int (List.length ns:Nat)) H):=λpins s σ H xs us Q I r ⟨p,ns,e,h,q⟩=>
 kL pins s σ H xs us Q I r ⟨p,_,e,.inl h,by rw[aaj];exact q⟩
abbrev JQ (K:abk):R2:=λx y H Q=>∃p ns i,x=.ref p/\y=.int i/\bw K H p (List.map V.int ns)/\0<=i/\i< (List.length ns:Nat)/\Q (.int (ns.getD i.toNat 0)) H
theorem vx {ns:List Int} {i:Int} (h0:0<=i) (h1:i< (ns.length:Nat)):mv (ns.map V.int) i=some (.int (ns.getD i.toNat 0)):=by
 obtain⟨j,rfl⟩:=Int.eq_ofNat_of_zero_le h0;refine bM ?_;have hj:j<ns.length:=⋯
 rw[aal,aao hj];simp [aaV,aao hj]
theorem Cb:EJ X (JQ X.K):=λvalue slice pins s σ H x y v u Q I rx ry ⟨p,ns,i,e1,e2,e3,h0,h1,q⟩ hs=>
 yW value slice pins s σ H x y v u Q I rx ry ⟨p,_,i,_,e1,e2,e3,vx h0 h1,q⟩ hs
structure eO (P:Program) (w:World) (K:abk) (mg:Str->Option Value) (base:Heap) (CX:mi) (k:Nat) (x:Str) (ps:List Str) (sp:Sp):Prop where
 ex:∃f fd,fL P w K mg base CX k f fd ps sp/\mg x=some (.ref f)/\abl K (.ref f)=true/\Binds K fd ps []
theorem aN {CX:mi} {k:Nat} {x:Str} {ps:List Str} {sp:Sp} {E:XK} {e:Expr} {es:List Expr} {t:TA} {p pos:Pos} (C:eO X.prog X.w X.K X.mg X.base CX k x ps sp) (ha:PA X (e::es) t) (hr:dD k X.A:=by exact hr.mono ∅) (hg:Gl X x:=by rfl) (hx:fj CX X E:=by exact kR.pass)
  (tq:(x==("__debug__":Str))=false:=by decide) (he:starEach (e::es) X.env=(false,eval e X.env)::starEach es X.env:=by first | exact se rfl | rfl) (hpl:(backTo pos (starEach es X.env)).any (·.1)=false:=by first | exact na rfl | rfl):
  PE X (.Call (.Name x p) (e::es) [] pos) (tCall sp [] E t):=by
 obtain⟨f,fd,F,hm,hk,hb⟩:=C.ex;exact Fb F hr hg hm hk hb .nil hx ha tq he hpl
end
abbrev tL (CX:mi):Prop:=∀outer H s e s',¬CX outer H s (λ_ _ _=>False) e s'
theorem tL.pass {CX:mi} (h:tL CX) {X:Cx}:fj CX X E0:=λ_ _ H s e s' _ z=>(h _ H s e s' z).elim
section
variable {P : Program} {w : World} {K : abk} {mg : Str -> Option Value} {base : Heap} {CX : mi}
theorem xf.d4 {x qual:Str} {st:Stmt} {f:Addr} {fd:FuncData} {N ps:List Str} {k:Nat} {sp:Sp} (F:xf K x qual st f fd) (S:aV N ps (au st)) (len:∀vs H Q E,sp vs H Q E->vs.length=ps.length)
  (vi:∀(bR:Value) (A:Around) (outer:List Env) (s:Shared) (H:Hp) (vs:List V) (Q:VK) (E:XK),dD k (A.deeper (envOfC qual (au st) s.heap.objs.size f bR))->sp vs H Q E->
   ∃t,vb (gM CX P w K mg base N qual (au st) f bR A outer s H E).Au (bu st) t/\t {nx:=λ_ H'=>Q .bZ H',rt:=Q} (start N vs) H):fL P w K mg base CX (k+1) f fd ps sp:=by
 obtain⟨oc,od,kV,doc,pm,an,bR,ct,Fe,rfl,lk,qI⟩:=F.ex;refine Hx lk qI S len λA outer s H vs Q E hr Bu=>?_;obtain⟨t,h,q⟩:=vi bR A outer s H vs Q E hr Bu;exact⟨t,h.Au,q⟩
structure Dn (K:abk) (mg:Str->Option Value) (x:Str) (st:Stmt):Prop where
 ex:∃f fd,xf K x x st f fd/\mg x=some (.ref f)
theorem Dn.dE {x:Str} {st:Stmt} {ps:List Str} {k:Nat} {sp:Sp} (D:Dn K mg x st)
  (hb:∀(kV doc pm:Value) (an:Option Addr) (bR ct:Value) (us:List Value),us.length=ps.length->bindArgs (abn x x (bC st) (bu st) (au st) .none kV doc pm an bR ct) ⟨us,[]⟩=pure (ps.zip us))
  (h:∀f fd,xf K x x st f fd->fL P w K mg base CX k f fd ps sp):eO P w K mg base CX k x ps sp:=by
 obtain⟨f,fd,F,hm⟩:=D.ex;exact⟨f,fd,h f fd F,hm,F.kp,F.binds hb⟩
end
section
variable {X : Cx}
abbrev Fo (xs ys:List V):Bool:=(List.range (min xs.length ys.length)).all (λj=>tG (xs.getD j .bZ) (ys.getD j .bZ)) && xs.length==ys.length
theorem yZ {xs:List V} (h:xs.all cY=true) {j:Nat} (hj:j<xs.length):cY (xs.getD j .bZ)=true:=by
 rw[aaV,aao hj];exact List.all_eq_true.mp h _ (aaH hj)
theorem Cd {xs:List V} {us:List Value} (r:br xs us) {j:Nat} (hj:j<us.length):RelV (xs.getD j .bZ) us[j]:=by
 have hl:=r.length;have hx:j<xs.length:=⋯
 obtain⟨u,e1,e2⟩:=r.get (aao hx);rw[aao hj] at e1;cases e1;rw[aaV,aao hx];exact e2
abbrev rEqT:R2:=λx y H Q=>∃p q xs ys,x=.ref p/\y=.ref q/\H p=some (.tup xs)/\H q=some (.tup ys)/\xs.all cY=true/\ys.all cY=true/\Q (.bl (Fo xs ys)) H
abbrev rInT:R2:=λx y H Q=>∃p xs,y=.ref p/\H p=some (.tup xs)/\cY x=true/\xs.all cY=true/\Q (.bl (B3 x xs)) H
theorem xP:hZ X (compareOp .In) rInT:=λpins s σ H x y v u Q I rx ry ⟨p,xs,e1,e2,f1,f2,q⟩=>
 AH pins s σ H x y v u Q I rx ry ⟨p,xs,e1,.inr (jD.of e2),f1,f2,q⟩
theorem Ce:cj X (.builtin "isinstance") (λxs H Q=>∃x c t b,xs=[x,.ty c]/\js X.K H x t/\PySem.W.kitOne X.K t (.type c)=some b/\Q (.bl b) H):=by
 intro pins s σ H xs us Q I r h;obtain⟨x,c,t,b,rfl,ty,e,q⟩:=h;obtain⟨u,u',rfl,rx,rc⟩:=vals2 r;cases rc;exact AF I rx ty e λtk=>⟨.bl b,H,I.tok tk,rfl,q⟩
end
theorem at0 {α:Type} {x:α} {l:List α}:mv (x::l) 0=some x:=bM (j:=0) rfl
theorem at1 {α:Type} {x y:α} {l:List α}:mv (x::y::l) 1=some y:=bM (j:=1) rfl
theorem at2 {α:Type} {x y z:α} {l:List α}:mv (x::y::z::l) 2=some z:=bM (j:=2) rfl
abbrev Pr (a b:Int):List V:=[.int a,.int b]
theorem kS {K:abk} {t c:String} {b:Bool} (h1:(Value.type t==Value.type c)=false:=by ac_rfl) (h2:PySem.W.kitMeta c=true:=by ac_rfl) (h3:(PySem.fastBuiltinMro t).map (·.contains (Value.type c))=some b:=by ac_rfl):
  PySem.W.kitOne K (.type t) (.type c)=some b:=by
 unfold PySem.W.kitOne PySem.W.kitCls PySem.W.subIn;rw[if_neg (by rw[h1];decide)];dsimp only;rw[if_pos h2];exact h3
end L2
namespace Nm
abbrev g (a b:Int):Int:=(Int.gcd a b:Nat)
theorem M0 (a b:Int):0<=g a b:=Int.natCast_nonneg _
theorem Cf {a b:Int} (h:b≠0):0<g a b:=by
 have:=Int.gcd_pos_of_ne_zero_right a h;unfold g;lia
theorem y4 (a b:Int):g a b∣a:=Int.gcd_dvd_left ..
theorem ji (a b:Int):g a b∣b:=Int.gcd_dvd_right ..
theorem tM (a b:Int):g a b=g b a:=by unfold g;rw[Int.gcd_comm]
theorem M3 {a b:Int} (h:0<b):g a b<=b:=Int.le_of_dvd h (ji a b)
theorem Cg (a b:Int):g (a.natAbs:Int) b=g a b:=by
 unfold g Int.gcd;rw[Int.natAbs_natCast]
theorem y7 (a b:Int):g a (b.natAbs:Int)=g a b:=by
 rw[tM,Cg,tM]
theorem Hz (a b:Int):g (-a) b=g a b:=by
 unfold g Int.gcd;rw[Int.natAbs_neg]
theorem Ci {a b:Int} (ha:0<=a) (_hb:0<b):g b (a % b)=g a b:=by
 unfold g Int.gcd;rw[Int.natAbs_emod_of_nonneg ha,Nat.gcd_comm b.natAbs,<-Nat.gcd_rec,Nat.gcd_comm]
theorem Cj {a:Int} (ha:0<=a):g a 0=a:=by
 unfold g;rw[Int.gcd_zero_right];lia
theorem Ck {a b:Int} (h:b≠0):g a b<=(b.natAbs:Int):=by
 rw[<-y7];exact M3 ⋯
theorem Fp {a b:Int} (h:b≠0):g (a / g a b) (b / g a b)=1:=by
 have p:0<Int.gcd a b:=Int.gcd_pos_of_ne_zero_right a h;unfold g;rw[Int.gcd_ediv_gcd_ediv_gcd p];rfl
theorem Fq {a b:Int} (h:0<b):0<b / g a b:=Int.ediv_pos_of_pos_of_dvd h (M0 a b) (ji a b)
theorem AQ (a b:Int):(a / g a b)*b=a* (b / g a b):=by
 rw[<-Int.mul_ediv_assoc _ (ji a b),Int.mul_comm a b,Int.mul_ediv_assoc _ (y4 a b),Int.mul_comm]
theorem Fs {q a b:Int} (h:q∣a*b) (c:Int.gcd a q=1):q∣b:=by
 have h1:=(Int.dvd_gcd_mul_iff_dvd_mul (k:=q) (n:=a) (m:=b)).mpr h;rw[Int.gcd_comm,c] at h1
 simpa using h1
theorem back {a b c d p q x y:Int} (hq:0<q) (hd:0<d) (e:p* (b*d)=(a*d - c*b)*q) (f:x* (q*d)=(p*d+c*q)*y):x*b=a*y:=by
 have h:(x*b)* (q*d)=(a*y)* (q*d):=by grind
 exact Int.eq_of_mul_eq_mul_right (by have:=Int.mul_pos hq hd;lia) h
end Nm
namespace L2
open PySem PySem.Spec PyProof.Rows PySem.W
abbrev ju (h:Heap) (e:Addr):Prop:=∃o vs,h.get? e=some o/\o.data=.fields vs/\vs[2]?=some .none
section
variable {M : Model} {A : Around} {E : Value -> Shared -> Prop} {s : Shared} {base : Heap} {env : Env} {outer : List Env} {L e : Addr} {a0 : Value} {Q : Unit -> Shared -> Prop} {p : Prop}
theorem vy {oe:Obj} {vs:Array Value} {head:Value} {hn:Bool} (AR:A.frames=some (env::outer)) (hl:s.heap.FunFrames base (env::outer)) (hf:env.frame=some L) (he:s.heap.get? e=some oe)
  (kb:base.StaysIn s.heap) (en:base.get? e=none) (hd:oe.data=.fields vs) (z:1<vs.size) (h0:vs[0]?=some a0) (h2:p->vs[2]?=some .none)
  (h:∀h',Heap.HeldW base (env::outer) e oe.cls a0 L h'->s.heap.UpToSlots h'->(p->ju h' e)->Q () {s with heap:=h'}):
  wpAny M A (do
   let a <-frameOf env;let pl <-entryPlaceOf L hn;let b <-EntryCells.newEntry head a .none (rawInt L) .none pl
   setField (.ref e) 1 b) Q E s:=by
 have ef:e∉(env::outer).filterMap (·.frame):=λm=>by
  obtain⟨_,o,ho,nf⟩:=hl.mem m;rw[he] at ho;cases ho;exact nf vs hd
 refine wpAny_bind (wpAny_frameOf_fun AR hl hf λh1 M4=>wpAny_bind (wpAny_entryPlaceOf λpl hpl=>?_));unfold EntryCells.newEntry newFields;refine wpAny_bind (wpAny_newObj_type ?_ (hpl.sizeOk5 _ _ _ _ _));have e1:h1.get? e=some oe:=(M4.2.1 e ef).trans he;generalize hT:([head,.ref L,.none,rawInt L,.none]++ (if pl.isEmpty then aby 6 Value.none else pl)).toArray=ts;have t3:ts[3]?=some (rawInt L):=by rw[<-hT];first | (simp;done) | (rcases hpl with rfl | ⟨_,_,_,_,_,_,_,rfl⟩ <;>simp)
 have e2:=abv (h:=h1) {cls:=.type "traceback",dict:=none,data:=.fields ts} e1;have ne:h1.objs.size≠e:=Nat.ne_of_gt (abx e1);have d3:=Obj.data_mapFields hd (·.setIfInBounds 1 (Value.ref h1.objs.size));have e3:=Heap.get?_update_self (Obj.mapFields (·.setIfInBounds 1 (Value.ref h1.objs.size))) e2 (Obj.isFreed_of_fields d3);have kp:∀b o,b≠e->h1.get? b=some o->((h1.push {cls:=.type "traceback",dict:=none,data:=.fields ts}).update e (Obj.mapFields (·.setIfInBounds 1 (Value.ref h1.objs.size)))).get? b=some o:=λb o be hb=>by
  rw[Heap.get?_update_other _ _ (Ne.symm be)];exact abv _ hb
 have nr:∀b o,s.heap.get? b=some o->(∀vs,o.data≠.fields vs)->b≠e:=λb o hb nf q=>by
  rw[q,he] at hb;cases hb;exact nf vs hd
 refine wpAny_setField e2 hd z (h _ ?_ ?_ ?_)
 ·have k1:base.StaysIn h1:=λb o hb=>(M4.2.1 b λm=>by rw[(hl.mem m).1] at hb;cases hb).trans (kb b o hb);refine⟨λb o hb=>kp b o (λq=>by rw[q,en] at hb;cases hb) (k1 b o hb),en,hl.of_keeps λb o hb nf=>?_,_,_,h1.objs.size,{cls:=.type "traceback",dict:=none,data:=.fields ts},ts,e3,⟨Obj.cls_mapFields _ _,?_⟩,d3,by simp [z],k1.fresh,ne,?_,rfl,t3⟩
  ·obtain⟨sl,hs⟩:=M4.2.2 b o hb;exact⟨_,kp b _ (nr b o hb nf) hs,rfl⟩
  ·rw[Array.getElem?_setIfInBounds_ne ∅];exact h0
  ·rw[Heap.get?_update_other _ _ (Ne.symm ne)];exact abw h1 rfl
 ·intro b o hb nf;obtain⟨sl,hs⟩:=M4.2.2 b o hb;exact⟨sl,kp b _ (nr b o hb nf) hs⟩
 ·intro hp;refine⟨_,_,e3,d3,?_⟩;rw[Array.getElem?_setIfInBounds_ne ∅];exact h2 hp
theorem pz {oe:Obj} {vs:Array Value} (AR:A.frames=some (env::outer)) (hl:s.heap.FunFrames base (env::outer)) (hf:env.frame=some L) (he:s.heap.get? e=some oe)
  (kb:base.StaysIn s.heap) (en:base.get? e=none) (hd:oe.data=.fields vs) (h1:vs[1]?=some .none) (h0:vs[0]?=some a0) (h2:p->vs[2]?=some .none)
  (h:∀h',Heap.HeldW base (env::outer) e oe.cls a0 L h'->s.heap.UpToSlots h'->(p->ju h' e)->Q () {s with heap:=h'}):wpAny M A (noteFrame (.ref e) env) Q E s:=by
 unfold noteFrame;simp only[hf];refine wpAny_bind (wpAny_field he hd h1 ?_);rw[if_neg ∅];exact vy AR hl hf he kb en hd (Array.getElem?_eq_some_iff.mp h1).1 h0 h2 h
theorem y8 {cls:Value} (AR:A.frames=some (env::outer)) (hf:env.frame=some L) (fl:Heap.FlyingW base (env::outer) e cls a0 s.heap) (nc:p->ju s.heap e)
  (h:∀h',Heap.HeldW base (env::outer) e cls a0 L h'->s.heap.UpToSlots h'->(p->ju h' e)->Q () {s with heap:=h'}):wpAny M A (noteFrame (.ref e) env) Q E s:=by
 obtain⟨kb,en,hl,oe,vs,T,oT,ts,he,⟨rfl,h0⟩,hd,h1,nT,Te,gT,dT,h3⟩:=fl;have h2:p->vs[2]?=some .none:=λhp=>by
  obtain⟨o,ws,q,d,r⟩:=nc hp;rw[he] at q;cases q;rw[hd] at d;cases d;exact r
 unfold noteFrame;simp only[hf];refine wpAny_bind (wpAny_field he hd h1 ?_);rw[if_pos (by simp)];refine wpAny_bind (wpAny_field gT dT h3 ?_);rw[if_neg (by simp [rawInt])];refine wpAny_bind (wpAny_setField gT dT (Array.getElem?_eq_some_iff.mp h3).1 ?_);have ot:∀b,b≠T->(s.heap.update T (Obj.mapFields (·.setIfInBounds 3 Value.none))).get? b=s.heap.get? b:=λb hb=>Heap.get?_update_other _ _ (Ne.symm hb);have nr:∀b o,s.heap.get? b=some o->(∀vs,o.data≠.fields vs)->b≠T:=λb o hb nf q=>by
  rw[q,gT] at hb;cases hb;exact nf ts dT
 exact vy AR (hl.of_keeps λb o hb nf=>⟨o,(ot b (nr b o hb nf)).trans hb,rfl⟩) hf ((ot e (Ne.symm Te)).trans he) (λb o hb=>(ot b λq=>by rw[q,nT] at hb;cases hb).trans (kb b o hb)) en hd (Array.getElem?_eq_some_iff.mp h1).1 h0 h2
  λh' x1 x2 x3=>h h' x1 (λb o hb nf=>x2 b o ((ot b (nr b o hb nf)).trans hb) nf) x3
theorem kT {cls fl:Value} {l:List Env} (kb:base.StaysIn s.heap) (en:base.get? e=none) (hl:s.heap.FunFrames base l) (ht:s.heap.TracedAtW base e cls a0 fl) (nc:p->ju s.heap e)
  (h:∀h',Heap.FlyingW base l e cls a0 h'->s.heap.UpToSlots h'->(p->ju h' e)->Q () {s with heap:=h'}):wpAny M A (setFlight (.ref e) none) Q E s:=by
 obtain⟨oe,vs,T,oT,ts,he,hc,hd,h1,nT,Te,gT,dT,h3⟩:=ht;have z3:3<ts.size:=(Array.getElem?_eq_some_iff.mp h3).1;have ot:∀b,b≠T->(s.heap.update T (Obj.mapFields (·.setIfInBounds 3 ((none:Option Addr).elim Value.none λf=>rawInt f)))).get? b=s.heap.get? b:=λb hb=>Heap.get?_update_other _ _ (Ne.symm hb);have nr:∀b o,s.heap.get? b=some o->(∀vs,o.data≠.fields vs)->b≠T:=λb o hb nf q=>by
  rw[q,gT] at hb;cases hb;exact nf ts dT
 unfold setFlight;refine wpAny_bind (wpAny_field he hd h1 ?_);rw[if_pos (by simp)];refine wpAny_setField gT dT z3 (h _ ⟨λb o hb=>(ot b λq=>by rw[q,nT] at hb;cases hb).trans (kb b o hb),en,hl.of_keeps λb o hb nf=>⟨o,(ot b (nr b o hb nf)).trans hb,rfl⟩,
  oe,vs,T,_,_,(ot e (Ne.symm Te)).trans he,hc,hd,h1,nT,Te,Heap.get?_update_self _ gT (Obj.isFreed_of_fields (Obj.data_mapFields dT _)),Obj.data_mapFields dT _,by simp [z3]⟩ (λb o hb nf=>⟨o.slots,(ot b (nr b o hb nf)).trans hb⟩) λhp=>?_)
 obtain⟨o,ws,q,d,r⟩:=nc hp;exact⟨o,ws,(ot e (Ne.symm Te)).trans q,d,r⟩
theorem Cm {cls:Value} (AR:A.frames=some (env::outer)) (hf:env.frame=some L) (fl:Heap.FlyingW base (env::outer) e cls a0 s.heap) (nc:p->ju s.heap e)
  (h:∀h',Heap.FlyingW base outer e cls a0 h'->s.heap.UpToSlots h'->(p->ju h' e)->Q () {s with heap:=h'}):wpAny M A (leaving env (.ref e)) Q E s:=by
 unfold leaving;refine wpAny_bind (y8 AR hf fl nc λh' x1 x2 x3=>?_);exact kT x1.1 x1.2.1 x1.2.2.1 x1.2.2.2 x3 λh2 y1 y2 y3=>by
  obtain⟨k1,k2,⟨_,_,k3⟩,k4⟩:=y1;exact h h2 ⟨k1,k2,k3,k4⟩ (x2.trans y2) y3
theorem vz {h0:Heap} {oe:Obj} {vs:Array Value} (AR:A.frames=some (env::outer)) (hf:env.frame=some L) (kb:base.StaysIn h0) (hl:h0.FunFrames base (env::outer)) (kp:∀b o,h0.get? b=some o->s.heap.get? b=some o) (nw:h0.get? e=none)
  (he:s.heap.get? e=some oe) (hd:oe.data=.fields vs) (h1:vs[1]?=some .none) (z0:vs[0]?=some a0) (h2:p->vs[2]?=some .none)
  (h:∀h',Heap.FlyingW base outer e oe.cls a0 h'->s.heap.UpToSlots h'->(p->ju h' e)->Q () {s with heap:=h'}):wpAny M A (leaving env (.ref e)) Q E s:=by
 have en:base.get? e=none:=by
  cases q:base.get? e with
  | none=>rfl
  | some o=>
   have:=kb e o q;rw[nw] at this;cases this
 unfold leaving;refine wpAny_bind (pz AR (hl.of_keeps λb o hb _=>⟨o,kp b o hb,rfl⟩) hf he (λb o hb=>kp b o (kb b o hb)) en hd h1 z0 h2 λh' x1 x2 x3=>?_);exact kT x1.1 x1.2.1 x1.2.2.1 x1.2.2.2 x3 λh2 y1 y2 y3=>by
  obtain⟨k1,k2,⟨_,_,k3⟩,k4⟩:=y1;exact h h2 ⟨k1,k2,k3,k4⟩ (x2.trans y2) y3
end
open PySem PySem.Spec PyProof.Rows PySem.W
theorem cE.get {P:Program} {w:World} {H:Hp} {h:Heap} {a:Addr}:∀{o:HO},cE P w H h a o->∃ob,h.get? a=some ob
 | .lst _,x=>let ⟨_,_,_,_,e⟩:=x;⟨_,e⟩
 | .tup _,x=>let ⟨_,_,_,o,e,_⟩:=x;⟨o,e⟩
 | .dK _,x=>let ⟨_,_,_,_,o,_,_,e,_⟩:=x;⟨o,e⟩
 | .dT _,x=>let ⟨_,_,_,_,o,_,_,e,_⟩:=x;⟨o,e⟩
 | .set _ _,x=>by
  obtain⟨o,es,ep,t,e,_⟩:=x;exact⟨o,e⟩
 | .ins _ _ _,x=>let ⟨_,_,_,e,_⟩:=x;⟨_,e⟩
 | .own _,x=>x
 | .xd _,x=>by
  obtain⟨mA,⟨o,es,ep,e,_⟩,_⟩:=x;exact⟨o,e⟩
 | .Q3 _ _,x=>let ⟨_,_,_,e⟩:=x;⟨_,e⟩
 | .uT _ _,x=>⟨_,x.1⟩
 | .EG _,⟨_,x,_⟩=>⟨_,x⟩
 | .met _ _,x=>⟨_,x⟩
 | .ext _,x=>x.2.1
theorem gG.M5 {P:Program} {w:World} {H:Hp} {h h' B:Heap} (ok:gG P w H h) (hB:∀b u o,H b=some u->h.get? b=some o->B.get? b=some o) (st:B.StaysIn h'):gG P w H h':=λa o e=>
 (ok a o e).oZ (λb u hb q=>st b u (by
  rcases hb with rfl | hb
  ·exact hB _ _ _ e q
  ·exact hB _ _ _ hb q)) (λ_ r=>r) λ_ _ r=>r
structure Ft (P:Program) (w:World) (l:List Env) (H:Hp) (s:Shared) (H':Hp) (ad:Addr) (cls:Value) (s':Shared):Prop where
 os:s'.os=s.os
 bare:AllBare s'.gens
 un:Un (dN l) [] H H' s.heap s'.heap
 bL:gG P w H' s'.heap
 fl:∃B a0,Heap.FlyingW B l ad cls a0 s'.heap/\(∀b o,s.heap.get? b=some o->H b=none->b∉dN l->B.get? b=some o)/\(∀b o,s.heap.get? b=some o->b∉dN l->∃o',B.get? b=some o')/\
  (∀b u o,H' b=some u->s'.heap.get? b=some o->B.get? b=some o)
abbrev cu (P:Program) (w:World):mi:=λl H s E e s'=>∃ad cls c H',e=.ref ad/\(Ft P w l H s H' ad cls s'/\(c=none->ju s'.heap ad))/\E cls c H'
theorem y9 (P:Program) (w:World):tL (cu P w):=λ_ _ _ _ _ ⟨_,_,_,_,_,_,h⟩=>h
section
variable {P : Program} {w : World} {K : abk} {mg : Str -> Option Value} {base : Heap} {N : List Str} {qual : Str} {scope : Scope} {f : Addr} {bR : Value} {A : Around} {outer : List Env} {s0 : Shared} {H0 : Hp} {E : XK}
theorem Cn {pins:List (Addr×Obj)} {σ:St} {H:Hp} {s:Shared} {h':Heap} {ad:Addr} {cls:Value} {vs:List Value}
  (I:Inv (gM (cu P w) P w K mg base N qual scope f bR A outer s0 H0 E) pins σ H s) (mx:Heap.MadeExcOf s.heap h' ad cls vs) (e:E cls none H):
  (gM (cu P w) P w K mg base N qual scope f bR A outer s0 H0 E).xe (.ref ad) {s with heap:=h'}:=by
 let env:Env:=envOfC qual scope s0.heap.objs.size f bR;have Co:∀b o,s0.heap.get? b=some o->b∉dN outer->b∉dN (env::outer):=λb o q hb z=>by
  rcases aaX.mp (show b∈s0.heap.objs.size::dN outer from z) with z | z
  ·rw[z] at q;exact absurd (abx q) (aaL _)
  ·exact hb z
 have Fu:∀b,b∈dN outer->b∈dN (env::outer):=λb hb=>aaX.mpr (.inr hb);have ST:s.heap.FunFrames base (env::outer):=I.stack;have SF:∀b∈dN (env::outer),H b=none:=I.kD;have BS:Un (dN outer) [] H0 H s0.heap s.heap:=I.base;show wpAny (model P w) (A.deeper env) (leaving env (.ref ad)) (λ_ tD=>cu P w outer H0 s0 E (.ref ad) tD) (λe' tD=>cu P w outer H0 s0 E e' tD) {s with heap:=h'};obtain⟨tt,YW,_,_⟩:=mx.there;refine vz (p:=(none:Option Addr)=none) (base:=hideAll s.heap (dN (env::outer))) (h0:=s.heap) (L:=s0.heap.objs.size) I.ok.frames rfl (λb o q=>of_hideAll _ q)
  (funFrames_hide ST λen he a ha=>List.mem_filterMap.mpr ⟨en,he,ha⟩) mx.keeps mx.new YW rfl rfl rfl (λ_=>rfl) λh2 x1 x4 xc=>?_
 have x4:Heap.UpToSlots h' h2:=x4;have fr:∀b∈dN (env::outer),∀o,s.heap.get? b=some o->∃sl,h2.get? b=some {o with slots:=sl}:=λb hb o q=>by
  obtain⟨_,o1,q1,nf⟩:=ST.mem hb;rw[q] at q1;cases q1;exact x4 b o (mx.keeps b o q) nf
 refine⟨ad,cls,none,H,rfl,⟨⟨I.os,I.bare,⟨λb o q n hb hx=>?_,λb o q n hb hx=>?_,BS.free,λb o q hx=>?_,BS.iH,BS.hV,BS.iJ⟩,?_,⟨_,_,x1,λb o q n hb=>?_,λb o q hb=>?_,λb u o e1 q=>?_⟩⟩,xc⟩,e⟩
 ·exact x1.1 b o (hideAll_get _ (BS.keep b o q n hb hx) (Co b o q hb))
 ·obtain⟨sl,q1⟩:=BS.slot b o q n hb hx;obtain⟨AS,q2⟩:=fr b (Fu b hb) _ q1;exact⟨AS,q2⟩
 ·obtain⟨o1,q1⟩:=BS.there b o q hx
  by_cases hb:b∈dN (env::outer)
  ·obtain⟨AS,q2⟩:=fr b hb _ q1;exact⟨_,q2⟩
  ·exact⟨o1,x1.1 b o1 (hideAll_get _ q1 hb)⟩
 ·exact gG.M5 I.bL (λb u o e1 q=>hideAll_get _ q λz=>by
   have:=SF b z;rw[e1] at this;cases this) x1.1
 ·exact hideAll_get _ (BS.keep b o q n hb (by simp)) (Co b o q hb)
 ·obtain⟨o1,q1⟩:=BS.there b o q (by simp);exact⟨o1,hideAll_get _ q1 (Co b o q hb)⟩
 ·obtain⟨o1,q1⟩:=(I.bL b u e1).get;have q2:=hideAll_get (dN (env::outer)) q1 λz=>by
   have:=SF b z;rw[e1] at this;cases this
  have q3:=x1.1 b o1 q2;rw[q] at q3;cases q3;exact q2
theorem tN:fj (cu P w) (gM (cu P w) P w K mg base N qual scope f bR A outer s0 H0 E) E:=by
 intro pins σ H s e s' I c;let env:Env:=envOfC qual scope s0.heap.objs.size f bR;obtain⟨ad,cls,cc,H',rfl,⟨F,nc⟩,he⟩:=c;have Co:∀b o,s0.heap.get? b=some o->b∉dN outer->b∉dN (env::outer):=λb o q hb z=>by
  rcases aaX.mp (show b∈s0.heap.objs.size::dN outer from z) with z | z
  ·rw[z] at q;exact absurd (abx q) (aaL _)
  ·exact hb z
 have Fu:∀b,b∈dN outer->b∈dN (env::outer):=λb hb=>aaX.mpr (.inr hb);have ST:s.heap.FunFrames base (env::outer):=I.stack;have BS:Un (dN outer) [] H0 H s0.heap s.heap:=I.base;have FU:Un (dN (env::outer)) [] H H' s.heap s'.heap:=F.un;obtain⟨B,a0,fl,c0,c2,c1⟩:=F.fl;have fl:Heap.FlyingW B (env::outer) ad cls a0 s'.heap:=fl;have c0:∀b o,s.heap.get? b=some o->H b=none->b∉dN (env::outer)->B.get? b=some o:=c0;have c2:∀b o,s.heap.get? b=some o->b∉dN (env::outer)->∃o',B.get? b=some o':=c2;show wpAny (model P w) (A.deeper env) (leaving env (.ref ad)) (λ_ tD=>cu P w outer H0 s0 E (.ref ad) tD) (λe' tD=>cu P w outer H0 s0 E e' tD) s';refine Cm (L:=s0.heap.objs.size) I.ok.frames rfl fl nc λh2 x1 x2 xc=>?_;have fr:∀b∈dN (env::outer),∀o,s'.heap.get? b=some o->∃sl,h2.get? b=some {o with slots:=sl}:=λb hb o q=>by
  obtain⟨_,o1,q1,nf⟩:=fl.2.2.1.mem hb;rw[q] at q1;cases q1;exact x2 b o q nf
 refine⟨ad,cls,cc,H',rfl,⟨⟨F.os.trans I.os,F.bare,⟨λb o q n hb hx=>?_,λb o q n hb hx=>?_,λb o q n hx=>?_,λb o q hx=>?_,λb xs q=>FU.iH b xs (BS.iH b xs q),λb o u q=>FU.hV b o u (BS.hV b o u q),λb ps q=>?_⟩,F.bL.M5 c1 x1.1,
  ⟨B,a0,x1,λb o q n hb=>?_,λb o q hb=>?_,λb u o e1 q=>?_⟩⟩,xc⟩,he⟩
 ·exact x1.1 b o (c0 b o (BS.keep b o q n hb hx) (BS.free b o q n hx) (Co b o q hb))
 ·obtain⟨sl,q1⟩:=BS.slot b o q n hb hx;obtain⟨M4,q2⟩:=FU.slot b _ q1 (BS.free b o q n hx) (Fu b hb) hx;obtain⟨AS,q3⟩:=fr b (Fu b hb) _ q2;exact⟨AS,q3⟩
 ·obtain⟨o1,q1⟩:=BS.there b o q hx;exact FU.free b o1 q1 (BS.free b o q n hx) hx
 ·obtain⟨o1,q1⟩:=BS.there b o q hx
  by_cases hb:b∈dN (env::outer)
  ·obtain⟨o2,q2⟩:=FU.there b o1 q1 hx;obtain⟨AS,q3⟩:=fr b hb _ q2;exact⟨_,q3⟩
  ·obtain⟨o2,q2⟩:=c2 b o1 q1 hb;exact⟨o2,x1.1 b o2 q2⟩
 ·obtain⟨m1,e1⟩:=BS.iJ b ps q;obtain⟨m2,e2⟩:=FU.iJ b _ e1;exact⟨m1++m2,by rw[e2,Array.append_assoc]⟩
 ·exact c0 b o (BS.keep b o q n hb (by simp)) (BS.free b o q n (by simp)) (Co b o q hb)
 ·obtain⟨o1,q1⟩:=BS.there b o q (by simp);exact c2 b o1 q1 (Co b o q hb)
 ·obtain⟨o1,q1⟩:=(F.bL b u e1).get;have q2:=c1 b u o1 e1 q1;have q3:=x1.1 b o1 q2;rw[q] at q3;cases q3;exact q2
end
open PySem PySem.Spec PyProof.Rows PySem.W
set_option tactic.hygienic true in
theorem oE {K:Frag} {h:Heap} {C:Addr} {W3:List Value} {newId:String} (X:K.In h) (q:excIn K C W3 newId=true):
  ∃tl N nm qn bs hdct sn sub ab col dd k0 k1 k2 k3 k5 mN,h.get? C=some (excClassObj nm qn C N bs tl hdct sn sub ab col dd k0 k1 k2 k3 k5 newId)/\h.Ns N mN/\mN "__init__"=none/\OwnTail h W3 tl:=by
 unfold excIn at q
 split at q
 ·rename_i dd cd sl ho
  split at q
  ·rename_i C' bm k0 k1 k2 k3 n k5 hm hs
   simp only[aaN,beq_iff_eq,Bool.not_eq_true'] at q;obtain⟨⟨⟨⟨⟨rfl,rfl⟩,M6⟩,ht⟩,bL⟩,JR⟩:=q;obtain⟨nm,bs,mro,ns,qn,hd,sn,sub,ab,col,del⟩:=cd;dsimp only at hm M6 bL JR;subst hm M6;have JS:sl=#[k0,k1,k2,k3,some (.builtin n),k5]:=by
    obtain⟨l⟩:=sl;simp only at hs;rw[hs]
   subst JS;exact⟨bm,ns,nm,qn,bs,hd,sn,sub,ab,col,dd,k0,k1,k2,k3,k5,_,X _ _ ho,.of_isNs (isNs_of_in X bL),nsMap_none_of_in X bL JR,tail_of_in X ht⟩
  ·cases q
 ·cases q
@[inline]abbrev jv:List Value:=[.type "ValueError",.type "Exception",.type "BaseException",.type "object"]
@[inline]abbrev fC:String:="ValueError.__new__"
abbrev tRaise (C:Addr) (E:XK) (t:TA):TS:=λ_ σ H=>t σ H λvs H1=>vs.length<=sizeLine/\E (.ref C) none H1
section
variable {P : Program} {w : World} {K : abk} {mg : Str -> Option Value} {base : Heap} {N : List Str} {qual : Str} {scope : Scope} {f : Addr} {bR : Value} {A : Around} {outer : List Env} {s0 : Shared} {H0 : Hp} {E : XK}
theorem fg {x:Str} {C:Addr} {np dk pos:Pos} {e:Expr} {es:List Expr} {t:TA} (hg:Gl (gM (cu P w) P w K mg base N qual scope f bR A outer s0 H0 E) x) (hm:mg x=some (.ref C)) (q:excIn K C jv fC=true)
  (hh:A.handled=none) (ha:PA (gM (cu P w) P w K mg base N qual scope f bR A outer s0 H0 E) (e::es) t) (tq:(x==("__debug__":Str))=false:=by decide)
  (he:starEach (e::es) (gM (cu P w) P w K mg base N qual scope f bR A outer s0 H0 E).env=(false,eval e (gM (cu P w) P w K mg base N qual scope f bR A outer s0 H0 E).env)::starEach es (gM (cu P w) P w K mg base N qual scope f bR A outer s0 H0 E).env:=by injections)
  (hpl:(backTo dk (starEach es (gM (cu P w) P w K mg base N qual scope f bR A outer s0 H0 E).env)).any (·.1)=false:=by injections):
  PS (gM (cu P w) P w K mg base N qual scope f bR A outer s0 H0 E) (.Raise (some (.Call (.Name x np) (e::es) [] dk)) none pos) (tRaise C E t):=by
 intro pins s σ H D I h;have FB:=PySem.F.excBase_ValueError;obtain⟨tl,Nn,nm,qn,bs,hdct,sn,sub,ab,col,dd,k0,k1,k2,k3,k5,mN,hC,hN,JR,T⟩:=oE I.ok.mod.E1 q;refine wpAny_Raise_call_subT (C:=C) (nm:=nm) (q:=qn) (N:=Nn) (bs:=bs) (bm:=tl) (hdct:=hdct) (sn:=sn) (sub:=sub) (ab:=ab) (col:=col) (dd:=dd) (k0:=k0) (k1:=k1) (k2:=k2) (k3:=k3) (k5:=k5)
  FB (mN:=mN) (T.hasType FB.hasBase) hh (by rw[he];show(false || (backTo dk (starEach es _)).any (·.1))=false;rw[hpl];rfl) JR (fK I hg hm ⟨rfl,?_⟩ tq)
 rw[he];have JT:=ha dk pins s σ H _ I h;rw[he] at JT;refine Calls.evalArgs_plain (cb JT λus s1 ⟨vs,H1,I1,r,z,k⟩=>⟨rfl,by rw[<-r.length];exact z,I1.bk _ _ hC,hN.keeps I1.bk,T.keeps I1.bk,λh' ad mx=>?_⟩);exact Cn I1 mx k
end
section
variable {X : Cx} {pins : List (Addr × Obj)} {σ : St} {H H' : Hp} {s s' : Shared}
@[inline]abbrev Cx.mark (X:Cx) (ad:Addr):Cx:={X with A:=X.A.mark (some (.ref ad)),calm:=false,xe:=λ_ _=>False}
theorem Inv.mark (I:Inv X pins σ H s) (ad:Addr):Inv (X.mark ad) pins σ H s:=
 ⟨⟨I.ok.mod,I.ok.kind,I.ok.glob,I.ok.blt,I.ok.above,I.ok.inj,I.ok.has,I.ok.Jq,λz=>(aax z).elim,I.ok.frames,I.ok.L1,I.ok.Q5,I.ok.bs,I.ok.BH,I.ok.xk,I.ok.Aq,I.ok.kC,I.ok.E2⟩,
  I.os,I.bare,I.base,I.loc,I.cell,I.free,I.fQ,I.pin,I.bL,I.len⟩
theorem Inv.unmark {ad:Addr} (ok:X.Ok) (I:Inv (X.mark ad) pins σ H s):Inv X pins σ H s:=⟨ok,I.os,I.bare,I.base,I.loc,I.cell,I.free,I.fQ,I.pin,I.bL,I.len⟩
theorem name_goes {M:Model} {A:Around} {E:Value->Shared->Prop} {i:Nat} {n:Str} {pos:Pos} {Q:Unit->Shared->Prop} (I:Inv X pins σ H s) (hN:X.N.Nodup) (hi:X.N[i]?=some n) (hl:X.env.scope.names.lookup n=some .local)
  (h:∀s',Inv X pins (σ.set i none) H s'->Q () s'):wpAny M A (do bindName X.env n .none;unbindBehindTheSuite X.env n pos) Q E s:=by
 have Js:i<σ.length:=by rw[I.len];exact(abr.mp hi).1
 refine wpAny_bind (wpAny_bindName (fc (v:=.bZ) I hN hi (.inl hl) rfl (λs1 I1=>?_) (.inr hl)));obtain⟨m,hn,W4⟩:=id I1.loc;have YX:∃u,m n=some u:=by
  obtain⟨u,_,z⟩:=W4 i n .bZ hi (by rw[List.getElem?_set_self Js]) (.inl hl);rcases z with ⟨_,z⟩ | ⟨z,_⟩
  ·exact⟨u,z⟩
  ·have hk:X.env.kindOf n=some .local:=hl;rw[hk] at z;rcases z with z | z <;>cases z
 obtain⟨u0,SX⟩:=YX;unfold unbindBehindTheSuite;refine wpAny_onRaise ?_;unfold unbindName;refine wpAny_bind (wpAny_point (wpAny_bind ?_));unfold deleteName;have hk:X.env.kindOf n=some .local:=hl;have Jr:(X.env.scope.kind==.class || (X.env.scope.kind==.module && X.env.locals !=X.env.globals))=false:=by rw[I.ok.kind];rfl
 simp only[hk,Jr];rw[if_neg ∅];refine wpAny_bind (wpAny_nsDel_keeps hn λh₂ v YY YZ=>?_);rw[SX];simp only[if_true,Option.isSome_some,Bool.not_true,Bool.false_eq_true,if_false];refine wpAny_pure (wpAny_point (h _ ?_));have hs:Heap.SameBut X.env.locals s1.heap h₂:=YZ;refine⟨I1.ok,I1.os,I1.bare,⟨λb o e nn hb hx=>?_,λb o e nn hb hx=>?_,I1.base.free,λb o e hx=>?_,I1.base.iH,I1.base.hV,I1.base.iJ⟩,⟨_,YY,λj y v' e1 e2 e3=>?_⟩,λy c e=>?_,I1.free,I1.fQ,λp hp=>?_,λb ob e=>?_,?_⟩
 ·exact(hs.2 b (aav (aaB (abx e) I1.ok.above))).trans (I1.base.keep b o e nn hb hx)
 ·obtain⟨sl,e1⟩:=I1.base.slot b o e nn hb hx;exact⟨sl,(hs.2 b (aav (aaB (abx e) I1.ok.above))).trans e1⟩
 ·obtain⟨o',e1⟩:=I1.base.there b o e hx;exact⟨o',(hs.2 b (aav (aaB (abx e) I1.ok.above))).trans e1⟩
 ·by_cases hj:j=i
  ·subst hj;rw[List.getElem?_set_self Js] at e2;cases e2
  ·rw[List.getElem?_set_ne (Ne.symm hj)] at e2;obtain⟨u',r',q⟩:=W4 j y v' e1 (by rw[List.getElem?_set_ne (Ne.symm hj)];exact e2) e3;refine⟨u',r',?_⟩;rcases q with ⟨k,e⟩ | ⟨k,c,e,z⟩
   ·refine .inl ⟨k,?_⟩;have:y≠n:=λe=>hj (o4 hN e1 (e▸hi));simp [this,e]
   ·exact .inr ⟨k,c,e,z.sameBut hs (I1.E3 y c e)⟩
 ·obtain⟨w',z⟩:=I1.cell y c e;exact⟨w',z.sameBut hs (I1.E3 y c e)⟩
 ·obtain⟨e,nn,ne,nf,d⟩:=I1.pin p hp;exact⟨(hs.2 p.1 ne).trans e,nn,ne,nf,d⟩
 ·refine(I1.bL b ob e).oZ (λc w' hc q=>(hs.2 c ?_).trans q) (λ_ q=>q) λ_ _ q=>q;rintro rfl;have fr:=I1.free;rcases hc with rfl | hc
  ·rw[fr] at e;cases e
  ·rw[fr] at hc;cases hc
 ·rw[List.length_set];exact I.len
abbrev JU (ad:Addr) (cls:Value):HO:=.ext λh=>∃o vs,h.get? ad=some o/\o.cls=cls/\o.data=.fields vs
theorem Ft.new {P:Program} {w:World} {l:List Env} {ad:Addr} {cls:Value} (F:Ft P w l H s H' ad cls s'):s.heap.get? ad=none:=by
 obtain⟨B,a0,fl,c0,c2,c1⟩:=F.fl;cases q:s.heap.get? ad with
 | none=>rfl
 | some o=>
  by_cases hb:ad∈dN l
  ·obtain⟨_,o1,q1,nf⟩:=fl.2.2.1.mem hb;obtain⟨oe,vs,he,_,hd,_⟩:=fl.first;rw[q1] at he;cases he;exact absurd hd (nf _)
  ·obtain⟨o',q'⟩:=c2 ad o q hb;rw[fl.2.1] at q';cases q'
theorem Ft.tracked {P:Program} {w:World} {l:List Env} {ad:Addr} {cls:Value} (F:Ft P w l H s H' ad cls s'):H' ad=none:=by
 obtain⟨B,a0,fl,c0,c2,c1⟩:=F.fl;cases q:H' ad with
 | none=>rfl
 | some u=>
  obtain⟨o,e⟩:=(F.bL ad u q).get;have:=c1 ad u o q e;rw[fl.2.1] at this;cases this
theorem Ft.inv {ad:Addr} {cls:Value} (F:Ft X.prog X.w X.stack H s H' ad cls s') (I:Inv X pins σ H s) {B h6:Heap} {a0:Value} (fl:Heap.FlyingW B X.stack ad cls a0 s'.heap)
  (c0:∀b o,s.heap.get? b=some o->H b=none->b∉dN X.stack->B.get? b=some o) (c2:∀b o,s.heap.get? b=some o->b∉dN X.stack->∃o',B.get? b=some o')
  (c1:∀b u o,H' b=some u->s'.heap.get? b=some o->B.get? b=some o) (st:B.StaysIn h6) (up:s'.heap.UpToSlots h6):Inv X pins σ H' {s' with heap:=h6}:=by
 have fr:∀b∈dN X.stack,∀o,s'.heap.get? b=some o->∃sl,h6.get? b=some {o with slots:=sl}:=λb hb o q=>by
  obtain⟨_,o1,q1,nf⟩:=fl.2.2.1.mem hb;rw[q] at q1;cases q1;exact up b o q nf
 refine I.BI (s':={s' with heap:=h6}) (ch:=[]) F.os ⟨λb o q n hb _=>st b o (c0 b o q n hb),λb o q n hb hx=>?_,F.un.free,λb o q hx=>?_,F.un.iH,F.un.hV,F.un.iJ⟩ (F.bL.M5 c1 st) F.bare (λb hb=>absurd hb (by simp))
 ·obtain⟨sl,q1⟩:=F.un.slot b o q n hb hx;obtain⟨AS,q2⟩:=fr b hb _ q1;exact⟨AS,q2⟩
 ·by_cases hb:b∈dN X.stack
  ·obtain⟨o2,q2⟩:=F.un.there b o q hx;obtain⟨AS,q3⟩:=fr b hb _ q2;exact⟨_,q3⟩
  ·obtain⟨o2,q2⟩:=c2 b o q hb;exact⟨o2,st b o2 q2⟩
theorem Inv.adopt {ad:Addr} {φ:Heap->Prop} (I:Inv X pins σ H' s') (I0:Inv X pins σ H s) (new:s.heap.get? ad=none) (hn:H' ad=none) (ho:∃o,s'.heap.get? ad=some o) (p:φ s'.heap)
  (kG:∀h1 h2:Heap,φ h1->(∀o,h1.get? ad=some o->h2.get? ad=some o)->φ h2):Inv X pins σ (upd H' ad (.ext φ)) s':=by
 have ne:∀b o,s.heap.get? b=some o->b≠ad:=λb o e z=>by rw[z,new] at e;cases e
 have tk:∀b u,H' b=some u->b≠ad:=λb u e z=>by rw[z,hn] at e;cases e
 have Y0:∀b o,b∉X.ex->X.s₀.heap.get? b=some o->b≠ad:=λb o hx e=>by
  obtain⟨o',e'⟩:=I0.base.there b o e hx;exact ne b o' e'
 refine⟨I.ok,I.os,I.bare,⟨I.base.keep,I.base.slot,λb o e n hx=>?_,I.base.there,λb xs e=>?_,λb o u e=>?_,λb ps e=>?_⟩,I.loc,I.cell,?_,λy c e=>?_,λq hq=>?_,λb u e=>?_,I.len⟩
 ·rw[aD (Y0 b o hx e)];exact I.base.free b o e n hx
 ·rw[aD (tk _ _ (I.base.iH b xs e))];exact I.base.iH b xs e
 ·rw[aD (tk _ _ (I.base.hV b o u e))];exact I.base.hV b o u e
 ·obtain⟨m,e1⟩:=I.base.iJ b ps e;exact⟨m,by rw[aD (tk _ _ e1)];exact e1⟩
 ·obtain⟨m,⟨o,es,ep,hl,_⟩,_⟩:=I0.loc;rw[aD (ne _ _ hl)];exact I.free
 ·obtain⟨v,o,hc,_⟩:=I0.cell y c e;rw[aD (ne _ _ hc)];exact I.fQ y c e
 ·obtain⟨e,n,r⟩:=I.pin q hq;refine⟨e,?_,r⟩;rw[aD (ne _ _ (I0.pin q hq).1)];exact n
 ·by_cases hb:b=ad
  ·subst hb;rw[ai] at e;cases e;exact⟨p,ho,kG⟩
  ·rw[aD hb] at e;exact(I.bL b u e).oZ (λ_ _ _ q=>q) (λc r=>by rw[aD (tk _ _ r)];exact r) λc xs r=>by rw[aD (tk _ _ r)];exact r
theorem JV {ad:Addr} {cls:Value} {cx n:Str} {np tO:Pos} {b₀:Stmt} {pA:List Stmt} {i:Nat} {ts:TS} {C2:Addr} {D:Ends} (I:Inv X pins σ H s) (F:Ft X.prog X.w X.stack H s H' ad cls s')
  (kG:X.stack=X.env::X.outer) (hf:X.env.frame=some X.env.locals) (hg:Gl X cx) (hm:X.mg cx=some (.ref C2)) (hx:exmOne X.K cls (.ref C2)=some true) (hN:X.N.Nodup) (hi:X.N[i]?=some n)
  (hl:X.env.scope.names.lookup n=some .local) (hs:vb (X.mark ad) (b₀::pA) ts)
  (h:ts {nx:=λσ' H2=>D.nx (σ'.set i none) H2,rt:=D.rt,bk:=λσ' H2=>D.bk (σ'.set i none) H2,ct:=λσ' H2=>D.ct (σ'.set i none) H2} (σ.set i (some (.ref ad))) (upd H' ad (JU ad cls)))
  (tq:(cx==("__debug__":Str))=false:=by decide):
  wpAny (model X.prog X.w) X.A (noteFrame (.ref ad) X.env) (λ_ s₂=>wpAny (model X.prog X.w) X.A (setFlight (.ref ad) none)
   (λ_ s₃=>wpAny (model X.prog X.w) X.A (handleBy (.ref ad) X.env [.ExceptHandler (some (.Name cx np)) (some n) (b₀::pA) tO]) (SP X pins D) X.xe s₃) X.xe s₂) X.xe s':=by
 obtain⟨B,a0,fl,c0,c2,c1⟩:=F.fl;have M7:=fl;rw[kG] at M7;refine wpAny_looks_onW (I.ok.frames.trans (by rw[kG])) hf M7 λh4 nH SY=>?_;refine wpAny_landsW nH λh5 JW M8=>?_;have U5:s'.heap.UpToSlots h5:=SY.trans M8;have I5:Inv X pins σ H' {s' with heap:=h5}:=F.inv I fl c0 c2 c1 JW.1 U5;obtain⟨ob,S0,JX⟩:=JW.there;refine wpAny_handleBy_cons (codeAny_handlers_test (fK (X:=X.mark ad) (I5.mark ad) hg hm ?_ tq)) (by intro q;cases q);have LT:Looks (model X.prog X.w) h5 (typeOf (.ref ad)) cls:=by
  subst JX;exact(Looks.ld S0).andThen .now
 refine(exm_one I5.iK LT hx).here ?_;refine codeAny_handlers_suite_as ?_;refine lands_againW JW λh6 JY S1=>?_;have I6:Inv X pins σ H' {s' with heap:=h6}:=F.inv I fl c0 c2 c1 JY.1 (U5.trans S1);obtain⟨oe,vs,he,Y1,S2,_⟩:=JY.first;have I7:Inv X pins σ (upd H' ad (JU ad cls)) {s' with heap:=h6}:=I6.adopt I F.new F.tracked ⟨oe,he⟩ ⟨oe,vs,he,Y1,S2⟩ λh1 h2 ⟨o,ws,e1,e2,e3⟩ k=>⟨o,ws,k o e1,e2,e3⟩
 refine fc (X:=X.mark ad) (I7.mark ad) hN hi (.inl hl) (v:=.ref ad) rfl (λs7 I8=>?_) (.inr hl);refine wpAny_mono (hs pins s7 _ _ _ I8 h) (λfw s8 hq=>?_) λ_ _ z=>z.elim;cases fw with
 | next=>
  obtain⟨σ8,H8,I9,q8⟩:=hq;exact name_goes (I9.unmark I.ok) hN hi hl λs9 Fv=>⟨_,_,Fv,q8⟩
 | brk=>
  obtain⟨σ8,H8,I9,q8⟩:=hq;exact name_goes (I9.unmark I.ok) hN hi hl λs9 Fv=>⟨_,_,Fv,q8⟩
 | cont=>
  obtain⟨σ8,H8,I9,q8⟩:=hq;exact name_goes (I9.unmark I.ok) hN hi hl λs9 Fv=>⟨_,_,Fv,q8⟩
 | ret u=>
  obtain⟨v8,σ8,H8,I9,r8,q8⟩:=hq;exact name_goes (I9.unmark I.ok) hN hi hl λs9 Fv=>⟨v8,_,_,Fv,r8,q8⟩
end
section
variable {X : Cx} {CX : mi} {k : Nat} {x : Str} {ps : List Str} {sp : Sp} {E : XK} {e : Expr} {es : List Expr} {t : TA} {p pos : Pos}
theorem Fw {pins:List (Addr×Obj)} {σ:St} {H:Hp} {s:Shared} {Q:VK} {Ex:Value->Shared->Prop} (C:eO X.prog X.w X.K X.mg X.base CX k x ps sp) (hr:dD k X.A) (hg:Gl X x) (ha:PA X.Au (e::es) t) (I:Inv X pins σ H s)
  (h:t σ H λvs H1=>sp vs H1 Q E) (hx:∀H1 s1 e s',Inv X pins σ H1 s1->CX X.stack H1 s1 E e s'->Ex e s')
  (tq:(x==("__debug__":Str))=false:=by decide) (he:starEach (e::es) X.env=(false,eval e X.env)::starEach es X.env:=by injections) (hpl:(backTo pos (starEach es X.env)).any (·.1)=false:=by injections):
  wpAny (model X.prog X.w) X.A (eval (.Call (.Name x p) (e::es) [] pos) X.env) (EP X pins σ Q) Ex s:=by
 obtain⟨f,fd,F,hm,hk,hb⟩:=C.ex;refine wpAny_Call_Name_kw (fK I hg hm ?_ tq);refine PySem.W.callWith_K (h₀:=X.base) I.ok.mod.E1 hk (wpAny_mono (ha pos pins s σ H _ (I.iN _) h) (λus s1 ⟨vs,H1,I1,r,q⟩=>⟨I1.eD.iK,?_⟩) λ_ _ z=>z.elim) he hpl;have I1:=I1.eD;have hl:us.length=ps.length:=by rw[<-r.length];exact F.len _ _ _ _ q
 have M9:=hb s1 us I1.iK (by rw[aa0];exact hl);rw[aa0] at M9;refine wpAny_call (codeAny_mono (F.run X.A X.stack s1 H1 ⟨us,[]⟩ us vs Q E hr I1.E9 M9 r q) λr s' hq=>?_);cases r with
 | error e=>exact hx H1 s1 e s' I1 hq
 | ok fl=>
  cases fl with
  | ret u=>exact I1.after hq
  | next=>exact False.elim hq
  | brk=>exact False.elim hq
  | cont=>exact False.elim hq
abbrev S3 (K:abk) (C2:Addr) (i:Nat) (ts:TS) (D:Ends) (σ:St):XK:=λcls _ H2=>exmOne K cls (.ref C2)=some true/\∀ad,H2 ad=none->
 ts {nx:=λσ' H3=>D.nx (σ'.set i none) H3,rt:=D.rt,bk:=λσ' H3=>D.bk (σ'.set i none) H3,ct:=λσ' H3=>D.ct (σ'.set i none) H3} (σ.set i (some (.ref ad))) (upd H2 ad (JU ad cls))
abbrev HA (K:abk) (sp:Sp) (t:TA) (j:Nat) (C2:Addr) (i:Nat) (ts:TS):TS:=λD σ H=>t σ H λvs H1=>sp vs H1 (λv H2=>D.nx (σ.set j (some v)) H2) (S3 K C2 i ts D σ)
variable {cx n : Str} {np tO xQ iO : Pos} {b₀ : Stmt} {pA : List Stmt} {i : Nat} {ts : TS} {C2 : Addr}
theorem Fx {y:Str} {j:Nat} {Na:Pos} (C:eO X.prog X.w X.K X.mg X.base (cu X.prog X.w) k x ps sp) (hr:dD k X.A) (hg:Gl X x) (ha:PA X.Au (e::es) t) (kG:X.stack=X.env::X.outer) (hf:X.env.frame=some X.env.locals)
  (Y2:Gl X cx) (hm:X.mg cx=some (.ref C2)) (hN:X.N.Nodup) (hj:X.N[j]?=some y) (hy:X.env.scope.names.lookup y=some .local) (hi:X.N[i]?=some n) (hl:X.env.scope.names.lookup n=some .local) (hs:∀ad,vb (X.mark ad) (b₀::pA) ts)
  (Nb:swapsWith (.Call (.Name x p) (e::es) [] pos) (some (.Name y Na)) xQ.line X.env=pure false:=by rfl) (tq:(x==("__debug__":Str))=false:=by decide) (Y3:(cx==("__debug__":Str))=false:=by decide)
  (he:starEach (e::es) X.env=(false,eval e X.env)::starEach es X.env:=by injections) (hpl:(backTo pos (starEach es X.env)).any (·.1)=false:=by injections):
  PS X (.Try [.Assign [.Name y Na] (.Call (.Name x p) (e::es) [] pos) xQ] [.ExceptHandler (some (.Name cx np)) (some n) (b₀::pA) tO] [] [] iO) (HA X.K sp t j C2 i ts):=by
 intro pins s σ H D I h;refine wpAny_Try_except (wpAny_execs_cons (wpAny_Assign_Name (cb (Fw C hr hg ha I h (λH1 s1 e1 s' I1 ⟨ad,cls,_,H',ee,⟨F,_⟩,hx,q⟩=>?_) tq he hpl) λv s1 ⟨z,H1,I1,r1,q1⟩=>?_) Nb))
 ·subst ee;exact JV I1 F kG hf Y2 hm hx hN hi hl (hs ad) (q ad F.tracked) Y3
 ·exact fc I1 hN hj (.inl hy) r1 (λs2 I2=>wpAny_execs_nil (wpAny_execs_nil ⟨_,H1,I2,q1⟩)) (.inr hy)
end
end L2
namespace Nm
abbrev st (a b:Int):Int:=if b<0 then -(a / g a b) else a / g a b
abbrev sb (a b:Int):Int:=if b<0 then -(b / g a b) else b / g a b
theorem Cp {a d:Int} (h:0<d):a.fdiv d=a / d:=Int.fdiv_eq_ediv_of_nonneg a ⋯
theorem Cq {a d:Int} (h:0<d) (dv:d∣a):a.fdiv (-d)= -(a / d):=by
 obtain⟨k,rfl⟩:=dv;rw[Int.mul_ediv_cancel_left _ ⋯,show d*k=(-d)* (-k) by rw[Int.neg_mul_neg]];exact Int.mul_fdiv_cancel_left _ ⋯
set_option tactic.hygienic true in
theorem JZ {a b:Int} (h:b≠0):0<sb a b:=by
 have g0:=Cf (a:=a) h;unfold sb
 split
 ·rename_i hb
  have h1:0< (-b) / g a b:=Int.ediv_pos_of_pos_of_dvd ⋯ (M0 a b) (Int.dvd_neg.mpr (ji a b));rw[Int.neg_ediv_of_dvd (ji a b)] at h1;exact h1
 ·exact Fq ⋯
theorem Fy (a b:Int):g a (-b)=g a b:=by rw[tM,Hz,tM]
theorem J0 {a b:Int} (h:b≠0):g (st a b) (sb a b)=1:=by
 have e:=Fp (a:=a) h;unfold st sb
 split
 ·rw[Hz,Fy];exact e
 ·exact e
theorem Cr (a b:Int):st a b*b=a*sb a b:=by
 have e:=AQ a b;unfold st sb
 split
 ·rw[Int.neg_mul,e,Int.mul_neg]
 ·exact e
theorem J1 {a b:Int} (h:0<b):st a b=a / g a b/\sb a b=b / g a b:=by
 unfold st sb;rw[if_neg ⋯,if_neg ⋯];exact⟨rfl,rfl⟩
end Nm
namespace L2
open PySem PySem.Spec PyProof.Rows
section
variable {P : Program} {w : World} {K : abk} {mg : Str -> Option Value} {base : Heap} {CX : mi}
theorem xf.HB {x qual:Str} {st:Stmt} {f:Addr} {fd:FuncData} {N ps:List Str} {k:Nat} {sp:Sp} (F:xf K x qual st f fd) (S:aV N ps (au st)) (len:∀vs H Q E,sp vs H Q E->vs.length=ps.length)
  (vi:∀(bR:Value) (A:Around) (outer:List Env) (s:Shared) (H:Hp) (vs:List V) (Q:VK) (E:XK),dD k (A.deeper (envOfC qual (au st) s.heap.objs.size f bR))->sp vs H Q E->
   ∃t,vb (gM CX P w K mg base N qual (au st) f bR A outer s H E) (bu st) t/\t {nx:=λ_ H'=>Q .bZ H',rt:=Q} (start N vs) H):fL P w K mg base CX (k+1) f fd ps sp:=by
 obtain⟨oc,od,kV,doc,pm,an,bR,ct,Fe,rfl,lk,qI⟩:=F.ex;exact Hx lk qI S len λA outer s H vs Q E hr Bu=>vi bR A outer s H vs Q E hr Bu
end
abbrev noStar:Expr->Bool
 | .Starred _ _=>false
 | _=>true
theorem se {e:Expr} {es:List Expr} {env:Env} (h:noStar e=true):starEach (e::es) env=(false,eval e env)::starEach es env:=by
 cases e <;>first | rfl | exact absurd h aax
theorem na {env:Env} {pos:Pos}:∀{es:List Expr},es.all noStar=true->(backTo pos (starEach es env)).any (·.1)=false
 | [],_=>rfl
 | e::es,h=>by
  rw[List.all_cons,aaN] at h;rw[se h.1];show(false || (backTo pos (starEach es env)).any (·.1))=false;rw[na h.2];rfl
open PySem PySem.Spec PyProof.Rows PySem.W
structure gJ (K:abk) (C:Addr):Prop where
 cls:(clsIn K C).isSome=true
 ga:findIn K (.ref C) "__getattribute__"=some (some (.builtin "BaseException.__getattribute__"))
 gt:findIn K (.ref C) "__getattr__"=some none
 cl:findIn K (.ref C) "__class__"=some (some (.builtin "object.__class__"))
 be:mroIn K C (.type "BaseException")=some true
 ob:mroIn K C (.type "object")=some true
section
variable {prog : Program} {w : World} {A : Around} {E : Value -> Shared -> Prop} {K : abk} {h : Heap} {g : Array GenState} {d : Drawn} {t : Nat} {os : OsState} {a C : Addr} {o : Obj}
theorem Fz {R:Result->Shared->Prop} {tp:Value} (X:K.In h) (EC:gJ K C) (hx:h.get? a=some o) (hc:o.cls=.ref C) (hq:R (.ok (.ret (.ref C))) ⟨h,g,d,t,os⟩):
  codeAny (model prog w) A (.call (.builtin "getset_descriptor.__get__") ⟨[.builtin "object.__class__",.ref a,tp],[]⟩) R ⟨h,g,d,t,os⟩:=by
 have T0:Looks (model prog w) h (typeOf (.ref a)) (.ref C):=hc▸(Looks.ld hx).andThen .now;have T1:=looks_mroIn (M:=model prog w) X EC.ob;refine codeAny_call_builtin (KF.slot_gs.plain) (KF.entry_gs) (KF.slot_gs.check _ _ _ _ _ _ _ _ KF.type_class (KF.args_gs _ _ _) ?_);unfold Builtin.«getset_descriptor.__get__» Builtin.Getset_descriptor.descrGet;rw[dga_obj];refine wpAny_bind (m:=pure _) (wpAny_pure ?_);unfold Builtin.Getset_descriptor.descrGetter Builtin.Getset_descriptor.descrCheckInstance Builtin.Getset_descriptor.descrNameAndClass isInstance;simp only[KF.owner_class]
 repeat lk
 refine And.intro (Code.quiet_builtin _ ∅) (codeAny_builtin KF.entry_class ?_);unfold Builtin.«object.__class__» shownTypeOf
 repeat lk
 exact hq
theorem AU {tk:Tok} {Q:Fin->Shared->Prop} (X:K.In h) (EC:gJ K C) (hx:h.get? a=some o) (hc:o.cls=.ref C) (hq:Q (.done (.ret (.ref C))) ⟨h,g,d,t,os⟩):
  wpAny (model prog w) A (Builtin.«object.__getattribute__» ⟨[.ref a,.str "__class__" tk],[]⟩) Q E ⟨h,g,d,t,os⟩:=by
 have T0:Looks (model prog w) h (typeOf (.ref a)) (.ref C):=hc▸(Looks.ld hx).andThen .now;have T1:=looks_findIn (M:=model prog w) X EC.cl;have hT5:(⟨h,g,d,t,os⟩:Shared).TypeIs (.builtin "object.__class__") "getset_descriptor":=F.typeOf_object_class;have f5:=F.typeOf_object_class;have f6:=F.slot_gs_get.lookup;have f7:=F.slot_gs_set.lookup
 repeat (any_goals (first | assumption | with_reducible refine Looks.at T0 ?_ | with_reducible refine Looks.at T1 ?_ | wp_step))
 refine Fz X EC hx hc ?_
 repeat (any_goals (first | assumption | wp_step))
theorem AV {HC:Value} {Q:Unit->Shared->Prop} {M:Model} (X:K.In h) (EC:gJ K C) (hx:h.get? a=some o) (hc:o.cls=.ref C) (hq:Q () ⟨h,g,d,t,os⟩):
  wpAny M A (checkBuiltinCall "BaseException.__getattribute__" ⟨[.ref a,HC],[]⟩) Q E ⟨h,g,d,t,os⟩:=by
 have T0:Looks M h (typeOf (.ref a)) (.ref C):=hc▸(Looks.ld hx).andThen .now;have T1:=looks_mroIn (M:=M) X EC.be;have hk:builtinKind "BaseException.__getattribute__"=some .slot:=∅
 have Bu:splitId "BaseException.__getattribute__"=some ("BaseException","__getattribute__"):=∅
 have ha:=F.args_bexc_ga (.ref a) HC;simp only[checkBuiltinCall,hk,Bu];refine wpAny_bind ?_;unfold isInstance
 repeat (first | with_reducible refine Looks.at T0 ?_ | with_reducible refine Looks.at T1 ?_ | wp_step)
 exact hq
theorem Cs {tk:Tok} {R:Result->Shared->Prop} (X:K.In h) (EC:gJ K C) (hx:h.get? a=some o) (hc:o.cls=.ref C) (hq:R (.ok (.ret (.ref C))) ⟨h,g,d,t,os⟩):
  codeAny (model prog w) A (.call (.builtin "BaseException.__getattribute__") ⟨[.ref a,.str "__class__" tk],[]⟩) R ⟨h,g,d,t,os⟩:=
 codeAny_call_builtin (F.excAttr_ValueError.ga.plain) F.entry_bexc_ga (AV X EC hx hc (AU X EC hx hc hq))
theorem J3 {tk:Tok} {fill expr:Bool} {Q:Value->Shared->Prop} (X:K.In h) (EC:gJ K C) (hx:h.get? a=some o) (hc:o.cls=.ref C) (hq:Q (.ref C) ⟨h,g,d,t,os⟩):
  wpAny (model prog w) A (getAttrBy (.ref a) (.str "__class__" tk) fill expr) Q E ⟨h,g,d,t,os⟩:=by
 have T0:Looks (model prog w) h (typeOf (.ref a)) (.ref C):=hc▸(Looks.ld hx).andThen .now;have T1:=looks_findIn (M:=model prog w) X EC.ga;have T2:=looks_findIn (M:=model prog w) X EC.gt;have f3:=F.excAttr_ValueError.ga.bind (.ref a);have y0:(expr && onTheHeap (Value.builtin "BaseException.__getattribute__"))=false:=by cases expr <;>rfl
 have y2:(Value.builtin "BaseException.__getattribute__"==Value.builtin "object.__getattribute__")=false:=∅
 have y1:(onTheHeap (Value.ref C) && Value.builtin "BaseException.__getattribute__"==Value.builtin "object.__getattribute__")=false:=by rw[y2];rfl
 repeat (any_goals (first | assumption | with_reducible refine Looks.at T0 ?_ | with_reducible refine Looks.at T1 ?_ | with_reducible refine Looks.at T2 ?_ | wp_step))
 refine Cs X EC hx hc ?_
 repeat (any_goals (first | assumption | wp_step))
theorem Ct {Q:Option Value->Shared->Prop} (X:K.In h) (EC:gJ K C) (hx:h.get? a=some o) (hc:o.cls=.ref C) (hq:Q (some (.ref C)) ⟨h,g,d,t+1,os⟩):
  wpAny (model prog w) A (getAttr? (.ref a) "__class__") Q E ⟨h,g,d,t,os⟩:=by
 unfold getAttr? getAttrBy?
 repeat (any_goals (first | assumption | with_reducible apply J3 X EC hx hc | wp_step))
end
abbrev ExcAt (a C:Addr) (h:Heap):Prop:=∃o,h.get? a=some o/\o.cls=.ref C
set_option tactic.hygienic true in
theorem Cu {K:abk} {a C:Addr} (EC:gJ K C):KitX K (.ref a) (.ref C) (ExcAt a C) where
 ty:=λ_ _ _ ⟨_,e,c⟩=>c▸(Looks.ld e).andThen .now
 it:=λ_ _ X _=>by
  obtain⟨cd,qI⟩:=Option.isSome_iff_exists.mp EC.cls;unfold clsIn at qI
  split at qI
  ·rename_i ho
   intro A' Q' E' s' k q;unfold isType loadHead;exact wpAny_bind (wpAny_loadPart (k _ _ (X _ _ ho)) (wpAny_pure q))
  ·cases qI
 ne:=λh tp dd bf n sl X Y4=>by
  obtain⟨cd,qI⟩:=Option.isSome_iff_exists.mp EC.cls;refine Bool.eq_false_iff.mpr λq=>?_;have e:C=tp:=Value.ref.inj (beq_iff_eq.mp q);subst e;unfold clsIn at qI
  split at qI
  ·rename_i ho
   have z:=(X _ _ ho).symm.trans Y4;cases z
  ·cases qI
 ca:=λ{_ _ _ _ _ s} X p k=>by
  obtain⟨h,g,d,t,os⟩:=s;obtain⟨o,e,c⟩:=p;exact Ct X EC e c k
section
variable {X : Cx}
abbrev S4:V->Option Value
 | .ref C=>some (.ref C)
 | .ty T=>some (.type T)
 | _=>none
theorem FA {c:V} {v u:Value} (h:S4 c=some v) (r:RelV c u):u=v:=by
 cases c with
 | ref C=>cases h;exact r
 | ty T=>cases h;exact r
 | _=>cases h
theorem Cv:cj X (.builtin "isinstance") (λxs H Q=>∃ad C c v b,xs=[.ref ad,c]/\H ad=some (JU ad (.ref C))/\gJ X.K C/\S4 c=some v/\kitOne X.K (.ref C) v=some b/\Q (.bl b) H):=by
 intro pins s σ H xs us Q I r h;obtain⟨ad,C,c,v,b,rfl,hH,EC,hv,e,q⟩:=h;obtain⟨u,u',rfl,rx,rc⟩:=vals2 r;cases rx;obtain rfl:=FA hv rc;obtain⟨⟨o,vs,e1,e2,e3⟩,_,_⟩:=(show cE X.prog X.w H s.heap ad (JU ad (.ref C)) from I.bL ad _ hH)
 exact kia_one (Cu EC) I.iK ⟨o,e1,e2⟩ e (λz=>nomatch z) λtk=>⟨.bl b,H,I.tok tk,rfl,q⟩
end
theorem j8 {env:Env}:∀(names:List (Str×NameKind)) (cs:List (Str×Addr)),(∀n,(n,NameKind.free)∈names->∃c,env.cells.lookup n=some c)->(∀x c,cs.lookup x=some c->env.cells.lookup x=some c)->
  ∃cl,(forIn names cs fun(x:Str×NameKind) (r:List (Str×Addr))=>(if (x.2==NameKind.free)=true then do let c <-cellOf env x.1;pure (ForInStep.yield ((x.1,c)::r)) else pure (ForInStep.yield r):Sem (ForInStep (List (Str×Addr)))))=pure cl/\
   (∀x c,cl.lookup x=some c->env.cells.lookup x=some c)/\(∀n,((n,NameKind.free)∈names\/(cs.lookup n).isSome=true)->∃c,cl.lookup n=some c)/\(∀x c,(x,c)∈cl->(env.cells.lookup x=some c/\(x,NameKind.free)∈names)\/(x,c)∈cs)
 | [],cs,_,h=>⟨cs,rfl,h,(λn hn=>by
   rcases hn with hn | hn
   ·exact absurd hn (by simp)
   ·exact Option.isSome_iff_exists.mp hn),λx c m=>.inr m⟩
 | (n,k)::r,cs,hf,h=>by
  by_cases hk:k=.free
  ·subst hk;obtain⟨c,hc⟩:=hf n aar;obtain⟨cl,e,h1,h2,h3⟩:=j8 r ((n,c)::cs) (λm hm=>hf m (aap _ hm)) (λx c' hx=>by
    rw[aaI] at hx;cases q:x==n with
    | true=>
     rw[q] at hx;have e1:x=n:=by simpa using q
     cases hx;rw[e1];exact hc
    | false=>rw[q] at hx;exact h x c' hx)
   refine⟨cl,?_,h1,λm hm=>h2 m ?_,λx c' m=>?_⟩
   rotate_left 2
   ·rcases h3 x c' m with ⟨q1,q2⟩ | m
    ·exact .inl ⟨q1,aap _ q2⟩
    ·rcases aaX.mp m with e | m
     ·cases e;exact .inl ⟨hc,aar⟩
     ·exact .inr m
   ·rw[List.forIn_cons];have Y5:cellOf env n=pure c:=by unfold cellOf;rw[hc]
    simp only[beq_self_eq_true,if_true,Y5,pure_bind];exact e
   ·rcases hm with hm | hm
    ·rcases aaX.mp hm with z | z
     ·cases z
      right
      rw[aaI];simp
     ·exact .inl z
    ·right
     rw[aaI];cases q:m==n with
     | true=>rfl
     | false=>exact hm
  ·obtain⟨cl,e,h1,h2,h3⟩:=j8 r cs (λm hm=>hf m (aap _ hm)) h;refine⟨cl,?_,h1,λm hm=>h2 m ?_,λx c' m=>(h3 x c' m).imp (λq=>⟨q.1,aap _ q.2⟩) id⟩
   ·rw[List.forIn_cons];have:(k==NameKind.free)=false:=by simpa using hk
    simp only[this,Bool.false_eq_true,if_false,pure_bind];exact e
   ·rcases hm with hm | hm
    ·rcases aaX.mp hm with z | z
     ·cases z;exact absurd rfl hk
     ·exact .inl z
    ·exact .inr hm
theorem jE {env:Env} {scope:Scope} (hf:∀n,(n,NameKind.free)∈scope.names->∃c,env.cells.lookup n=some c):
  ∃cl,closureFor scope env=pure cl/\(∀x c,cl.lookup x=some c->env.cells.lookup x=some c)/\(∀n,(n,NameKind.free)∈scope.names->∃c,cl.lookup n=some c)/\(∀x c,(x,c)∈cl->env.cells.lookup x=some c/\(x,NameKind.free)∈scope.names):=by
 obtain⟨cl,e,h1,h2,h3⟩:=j8 (env:=env) scope.names [] hf (λx c h=>by simp at h);refine⟨cl,?_,h1,λn hn=>h2 n (.inl hn),λx c m=>(h3 x c m).elim id λz=>absurd z (by simp)⟩;unfold closureFor;simp only[bind_pure];exact e
structure fP (N:List Str) (so:Scope) (N':List Str) (scope:Scope) (k:Nat) (fr:List Nat):Prop where
 kind:scope.kind=.function
 J4:∀y∈scope.names,y.2=.cell->scope.names.lookup y.1=some .cell/\(y.1,NameKind.free)∉scope.names
 locs:∀y∈scope.names,y.2=.local->scope.names.lookup y.1=some .local
 outer:∀y∈scope.names,y.2=.free->(so.names.lookup y.1=some .cell\/so.names.lookup y.1=some .free)
 len:N'.length=k+fr.length
 at_:∀t,t<fr.length->(fr[t]?).bind (λj=>N[j]?)=N'[k+t]?
 S5:∀x∈N'.drop k,scope.names.lookup x=some .free
abbrev stC (k:Nat) (fr:List Nat) (σ:St):St:=aby k none++fr.map λj=>(σ[j]?).join
abbrev oj (X:Cx) (N:List Str) (scope:Scope) (cl:List (Str×Addr)) (C:Addr) (s:Shared) (H:Hp) (ex:List Addr):Cx where
 prog:=X.prog
 w:=X.w
 K:=X.K
 mg:=X.mg
 base:=X.base
 A:=X.A
 N:=N
 s₀:=s
 H₀:=H
 env:=compEnvC scope cl C X.env
 outer:=X.stack
 stack:=X.stack
 ex:=ex
 calm:=X.calm
 fn:=λx=>scope.names.lookup x==some .cell
 pn:=[]
 xe:=λ_ _=>False
theorem fE {env:Env}:∀{names:List (Str×NameKind)} {x:Str},names.lookup x=some .free->
  (names.map fun(n,k)=>if (k==NameKind.free && env.scope.kind==.function && env.kindOf n==some .cell) then (n,NameKind.cell) else (n,k)).lookup x=some .cell\/
  (names.map fun(n,k)=>if (k==NameKind.free && env.scope.kind==.function && env.kindOf n==some .cell) then (n,NameKind.cell) else (n,k)).lookup x=some .free
 | [],_,h=>by simp at h
 | (n,k)::r,x,h=>by
  have ih:=@fE env r x;show List.lookup x ((if (k==NameKind.free && env.scope.kind==.function && env.kindOf n==some .cell)=true then (n,NameKind.cell) else (n,k))::_)=_\/List.lookup x ((if (k==NameKind.free && env.scope.kind==.function && env.kindOf n==some .cell)=true then (n,NameKind.cell) else (n,k))::_)=_;cases hx:x==n with
  | true=>
   simp only[aaI,hx] at h;cases h
   by_cases hc:(NameKind.free==NameKind.free && env.scope.kind==.function && env.kindOf n==some .cell)=true
   ·rw[if_pos hc];left;simp [aaI,hx]
   ·rw[if_neg hc];right;simp [aaI,hx]
  | false=>
   simp only[aaI,hx] at h
   by_cases hc:(k==NameKind.free && env.scope.kind==.function && env.kindOf n==some .cell)=true
   ·rw[if_pos hc];simp only[aaI,hx];exact ih h
   ·rw[if_neg hc];simp only[aaI,hx];exact ih h
theorem kU {env:Env}:∀{names:List (Str×NameKind)} {x:Str},
  ((names.map fun(n,k)=>if (k==NameKind.free && env.scope.kind==.function && env.kindOf n==some .cell) then (n,NameKind.cell) else (n,k)).lookup x=some .cell\/
  (names.map fun(n,k)=>if (k==NameKind.free && env.scope.kind==.function && env.kindOf n==some .cell) then (n,NameKind.cell) else (n,k)).lookup x=some .free)->(x,NameKind.free)∈names\/(x,NameKind.cell)∈names
 | [],_,h=>by simp at h
 | (n,k)::r,x,h=>by
  have ih:=@kU env r x;have up:((x,NameKind.free)∈r\/(x,NameKind.cell)∈r)->((x,NameKind.free)∈(n,k)::r\/(x,NameKind.cell)∈(n,k)::r):=λz=>z.imp (aap _) (aap _);have h:List.lookup x ((if (k==NameKind.free && env.scope.kind==.function && env.kindOf n==some .cell)=true then (n,NameKind.cell) else (n,k))::_)=_\/List.lookup x ((if (k==NameKind.free && env.scope.kind==.function && env.kindOf n==some .cell)=true then (n,NameKind.cell) else (n,k))::_)=_:=h;cases hx:x==n with
  | true=>
   have e1:x=n:=by simpa using hx
   subst e1
   by_cases hc:(k==NameKind.free && env.scope.kind==.function && env.kindOf x==some .cell)=true
   ·have:k=.free:=by
     simp only[aaN] at hc
     simpa using hc.1.1
    subst this;exact .inl aar
   ·rw[if_neg hc] at h;simp only[aaI,hx] at h;rcases h with h | h
    ·cases h;exact .inr aar
    ·cases h;exact .inl aar
  | false=>
   by_cases hc:(k==NameKind.free && env.scope.kind==.function && env.kindOf n==some .cell)=true
   ·rw[if_pos hc] at h;simp only[aaI,hx] at h;exact up (ih h)
   ·rw[if_neg hc] at h;simp only[aaI,hx] at h;exact up (ih h)
theorem my:∀(names:List (Str×NameKind)) (h:Heap) (acc:List (Str×Addr)) (x:Str) (c:Addr),(x,c)∈cellsFrom h.objs.size names acc->
  (x,c)∈acc\/(h.objs.size<=c/\(pushCells h names).IsCell c none/\(x,NameKind.cell)∈names)
 | [],h,acc,x,c,m=>.inl m
 | (n,k)::r,h,acc,x,c,m=>by
  unfold cellsFrom at m;unfold pushCells
  by_cases hk:(k==NameKind.cell)=true
  ·rw[if_pos hk] at m ⊢;have ih:=my r (h.push {cls:=.type "cell",data:=.cell none}) ((n,h.objs.size)::acc) x c;rw[Heap.size_push] at ih;rcases ih m with m | ⟨q1,q2,q3⟩
   ·rcases aaX.mp m with e | m
    ·cases e;have hk:k=.cell:=by simpa using hk
     subst hk;refine .inr ⟨aam _,?_,aar⟩;have q:(h.push {cls:=.type "cell",data:=.cell none}).IsCell h.objs.size none:=⟨_,abw _ rfl,rfl⟩
     exact q.keeps λb o e=>pushCells_keeps r _ b o e
    ·exact .inl m
   ·exact .inr ⟨⋯,q2,aap _ q3⟩
  ·rw[if_neg hk] at m ⊢;rcases my r h acc x c m with m | ⟨q1,q2,q3⟩
   ·exact .inl m
   ·exact .inr ⟨q1,q2,aap _ q3⟩
theorem mz:∀(names:List (Str×NameKind)) (n lo:Nat) (acc:List (Str×Addr)),(∀x c,(x,c)∈acc->c<n)->(∀x y c,lo<=c->(x,c)∈acc->(y,c)∈acc->x=y)->
  ∀x y c,lo<=c->(x,c)∈cellsFrom n names acc->(y,c)∈cellsFrom n names acc->x=y
 | [],n,lo,acc,h1,h2,x,y,c,hl,m1,m2=>h2 x y c hl m1 m2
 | (z,k)::r,n,lo,acc,h1,h2,x,y,c,hl,m1,m2=>by
  unfold cellsFrom at m1 m2
  by_cases hk:(k==NameKind.cell)=true
  ·rw[if_pos hk] at m1 m2;refine mz r (n+1) lo _ (λx c m=>?_) (λx y c hl m1 m2=>?_) x y c hl m1 m2
   ·rcases aaX.mp m with e | m
    ·cases e;exact aa4 _
    ·exact Nat.lt_succ_of_lt (h1 x c m)
   ·rcases aaX.mp m1 with e1 | m1 <;>rcases aaX.mp m2 with e2 | m2
    ·cases e1;cases e2;rfl
    ·cases e1;exact absurd (h1 _ _ m2) (aaL _)
    ·cases e2;exact absurd (h1 _ _ m1) (aaL _)
    ·exact h2 x y c hl m1 m2
  ·rw[if_neg hk] at m1 m2;exact mz r n lo acc h1 h2 x y c hl m1 m2
theorem ic:∀(names:List (Str×NameKind)) (n:Nat) (acc:List (Str×Addr)) (x:Str),(x,NameKind.cell)∉names->(cellsFrom n names acc).lookup x=acc.lookup x
 | [],n,acc,x,_=>rfl
 | (z,k)::r,n,acc,x,h=>by
  have hr:(x,NameKind.cell)∉r:=λm=>h (aap _ m);unfold cellsFrom
  by_cases hk:(k==NameKind.cell)=true
  ·rw[if_pos hk,ic r _ _ x hr,aaI];have hk:k=.cell:=by simpa using hk
   subst hk;have:(x==z)=false:=by
    cases q:x==z with
    | false=>rfl
    | true=>
     have e:x=z:=by simpa using q
     subst e;exact absurd aar h
   rw[this]
  ·rw[if_neg hk];exact ic r n acc x hr
theorem mB:∀(names:List (Str×NameKind)) (n:Nat) (acc:List (Str×Addr)) (x:Str),((x,NameKind.cell)∈names\/(acc.lookup x).isSome=true)->((cellsFrom n names acc).lookup x).isSome=true
 | [],n,acc,x,h=>by
  rcases h with h | h
  ·simp at h
  ·exact h
 | (z,k)::r,n,acc,x,h=>by
  unfold cellsFrom
  by_cases hk:(k==NameKind.cell)=true
  ·rw[if_pos hk];refine mB r _ _ x ?_;rcases h with h | h
   ·rcases aaX.mp h with e | h
    ·cases e
     right
     rw[aaI];simp
    ·exact .inl h
   ·right
    rw[aaI];cases q:x==z with
    | true=>rfl
    | false=>exact h
  ·rw[if_neg hk];refine mB r _ _ x ?_;rcases h with h | h
   ·rcases aaX.mp h with e | h
    ·cases e;exact absurd rfl hk
    ·exact .inl h
   ·exact .inr h
section
variable {M : Model} {A : Around} {E : Value -> Shared -> Prop} {s : Shared}
theorem kW {scope:Scope} {globals:Addr} {closure:List (Str×Addr)} {qual:Str} {func:Option Addr} {code:Value} {outer:Env} {Q:Env->Shared->Prop}
  (hQ:Q (newEnv scope s.heap.objs.size globals (cellsFrom (s.heap.objs.size+1) scope.names closure) qual func code (some outer) builtinsNs)
   {s with heap:=pushCells (s.heap.push {cls:=.type "dict",data:=.dict #[]}) scope.names}):
  wpAny M A (newFunctionEnv scope globals closure [] qual func code (some outer)) Q E s:=by
 simp only[newFunctionEnv,Option.isSome_some,if_true];refine wpAny_bind (wpAny_alloc ?_);refine wpAny_bind (wpAny_layCells _ (λname kind cells=>by cases Y6:kind==NameKind.cell <;>simp [Y6]) _ _ _ _ ?_);rw[show({s with heap:=s.heap.push {cls:=.type "dict",data:=.dict #[]}}:Shared).heap.objs.size=s.heap.objs.size+1 from Heap.size_push ..];refine wpAny_bind ?_;rw[List.forIn_nil];exact wpAny_pure (wpAny_pure hQ)
end
structure J5 (X:Cx) (scope:Scope) (cl:List (Str×Addr)) (lo:Nat) (C:Addr) (h1:Heap):Prop where
 old:∀x c,cl.lookup x=some c->X.env.cells.lookup x=some c\/(lo<=c/\C<c/\h1.IsCell c none)
 inj:∀x y c,C<c->cl.lookup x=some c->cl.lookup y=some c->x=y
 has:∀n,(n,NameKind.free)∈scope.names\/(n,NameKind.cell)∈scope.names->∃c,cl.lookup n=some c
 S5:∀n,scope.names.lookup n=some .free->∀c,cl.lookup n=some c->X.env.cells.lookup n=some c
 own:∀x c,scope.names.lookup x=some .cell->cl.lookup x=some c->lo<=c
section
variable {X : Cx} {pins : List (Addr × Obj)} {σ : St} {H : Hp} {s : Shared} {N' : List Str} {scope : Scope} {k : Nat} {fr : List Nat} {cl : List (Str × Addr)}
theorem J6 {C:Addr} {fp:List Addr} {h1:Heap} (I:Inv X pins σ H s) (S:fP X.N X.env.scope N' scope k fr) (B:J5 X scope cl s.heap.objs.size C h1)
  (hC:s.heap.objs.size<=C) (f2:∀b∈fp,j6 X pins H b) (lt:∀b∈fp,b<s.heap.objs.size):(oj X N' scope cl C s H fp).Ok where
 mod:=I.ok.mod
 kind:=S.kind
 glob:=I.ok.glob
 blt:=I.ok.blt
 above:=hC
 inj:=λx y c h1 h2=>by
  rcases B.old _ _ h1 with o1 | o1 <;>rcases B.old _ _ h2 with o2 | o2
  ·exact I.ok.inj x y c o1 o2
  ·exact B.inj x y c o2.2.1 h1 h2
  ·exact B.inj x y c o1.2.1 h1 h2
  ·exact B.inj x y c o1.2.1 h1 h2
 has:=λx hx=>B.has x (kU hx)
 Jq:=λx c z e=>B.own x c (by
  have z:(scope.names.lookup x==some NameKind.cell)=true:=z
  simpa using z) e
 hd:=I.ok.hd
 frames:=I.ok.frames
 L1:=.inl rfl
 Q5:=λb hb=>⟨aav (aaB (lt b hb) hC),λx c e=>(B.old _ _ e).elim (λo=>(f2 b hb).2.2.2.2.1 x c o) λo=>Nat.ne_of_gt (aaB (lt b hb) o.1)⟩
 bs:=I.bs
 BH:=aau I.ok.BH I.sz
 xk:=λb o e hb=>by
  rcases(f2 b hb).2.2.2.1 with z | z
  ·exact I.ok.xk b o e z
  ·exact absurd (aaB (abx e) (aau I.ok.BH z)) (aaL _)
 Aq:=λb hb z=>by
  rcases aaX.mp (I.sX b z) with q | q
  ·exact(f2 b hb).2.1 q
  ·exact(f2 b hb).2.2.1 q
 kC:=I.stack
 E2:=I.kD
theorem FC {C:Addr} {fp:List Addr} {h1:Heap} {tk:Nat} {m:Str->Option Value} (I:Inv X pins σ H s) (S:fP X.N X.env.scope N' scope k fr) (B:J5 X scope cl s.heap.objs.size C h1)
  (hC:s.heap.objs.size<=C) (f2:∀b∈fp,j6 X pins H b) (lt:∀b∈fp,b<s.heap.objs.size) (old:∀b o,s.heap.get? b=some o->h1.get? b=some o) (hn:h1.Ns C m):
  Inv (oj X N' scope cl C s H fp) [] (stC k fr σ) H {s with heap:=h1,toks:=tk}:=by
 refine⟨J6 I S B hC f2 lt,rfl,I.bare,Un.kept old,⟨m,hn,λi x v e1 e2 e3=>?_⟩,λx c e=>?_,I.bL.fresh hC,λx c e=>(B.old _ _ e).elim (λo=>I.fQ x c o) λo=>I.bL.fresh o.1,λp hp=>absurd (show p∈([]:List (Addr×Obj)) from hp) (by simp),I.bL.kept old,?_⟩
 ·have e1:N'[i]?=some x:=e1;unfold stC at e2
  by_cases hi:i<k
  ·rw[List.getElem?_append_left (by simpa using hi),List.getElem?_replicate,if_pos hi] at e2;cases e2
  ·rw[List.getElem?_append_right (by simpa using hi),abf,aal] at e2;cases q:fr[i - k]? with
   | none=>rw[q] at e2;cases e2
   | some j=>
    rw[q] at e2;have e2:(σ[j]?).join=some v:=aaC e2;have ej:σ[j]?=some (some v):=by
     cases z:σ[j]? with
     | none=>rw[z] at e2;cases e2
     | some o=>rw[z] at e2;exact congrArg some e2
    have nI:i - k<fr.length:=(abr.mp q).1;have HD:=S.at_ (i - k) nI;rw[q,show k+ (i - k)=i by lia,e1] at HD;have HD:X.N[j]?=some x:=HD;have Y7:x∈N'.drop k:=List.mem_iff_getElem?.mpr ⟨i - k,by rw[List.getElem?_drop,show k+ (i - k)=i by lia];exact e1⟩;have AR:=S.S5 x Y7;have Cw:(x,NameKind.free)∈scope.names:=aa1 AR;have Nc:=S.outer _ Cw rfl;obtain⟨m0,hn0,Y8⟩:=I.loc;obtain⟨u,r,l⟩:=Y8 j x v HD ej (.inr Nc);refine⟨u,r,.inr ⟨fE AR,?_⟩⟩;rcases l with ⟨kk,_⟩ | ⟨_,c,e,z⟩
    ·have kk:X.env.scope.names.lookup x=some .local:=kk;rcases Nc with q1 | q1
     ·rw[kk] at q1;cases q1
     ·rw[kk] at q1;cases q1
    ·obtain⟨c',e'⟩:=B.has x (.inl Cw);have ec:=B.S5 x AR _ e';rw[e] at ec;cases ec;obtain⟨ob,ho,hd⟩:=z;exact⟨c,e',ob,old _ _ ho,hd⟩
 ·rcases B.old _ _ e with o | o
  ·obtain⟨v,ob,ho,hd⟩:=I.cell x c o;exact⟨v,ob,old _ _ ho,hd⟩
  ·exact⟨none,o.2.2⟩
 ·unfold stC;rw[aat,abf,aaj];exact S.len.symm
end
section
variable {prog : Program} {w : World} {A : Around} {E : Value -> Shared -> Prop} {R : Result -> Shared -> Prop} {s : Shared}
theorem iQ {elt target iter:Expr} {ifs:List Expr} {scope:Scope} {pos:Pos} {it acc:Value} {env:Env} (I:Nat->Shared->Prop)
  (turn:∀n s,I n s->wpAny (model prog w) A (pyNext it) (λr s₁=>match r with
   | none=>R (.ok .next) s₁
   | some v=>wpAny (model prog w) A (letOwnedTupleGo target it v) (λ_ W5=>wpAny (model prog w) A (assign target env v) (λ_ s₂=>
     wpAny (model prog w) A (forIn ifs true λc r=>if r=true then do let ok <-isTrue c env (eval c env);pure (ForInStep.yield ok) else pure (ForInStep.yield r)) (λok s₃=>
      if ok=true then wpAny (model prog w) A (eval elt env) (λx s₄=>
       wpAny (model prog w) A (call (.builtin "list.append") [acc,x]) (λ_ s₅=>∃m,m<n/\I m s₅) (λ_ _=>False) s₄) (notedBy (model prog w) A env λx s'=>R (.error x) s') s₃
      else ∃m,m<n/\I m s₃) (λ_ _=>False) s₂) (λ_ _=>False) W5) (λ_ _=>False) s₁) (λ_ _=>False) s)
  (n:Nat) (h:I n s):
  codeAny (model prog w) A (.compLoop (.ListComp elt [⟨target,iter,ifs,0⟩] scope pos) 0 it acc env) R s:=by
 refine codeAny_loop rfl I (λn s hI=>?_) n h;show wpAny _ A ((compTurn (.ListComp elt [⟨target,iter,ifs,0⟩] scope pos) 0 it acc env).onRaise (λx=>do noteFrame x env;theTreesLotGoes x)) _ _ s;refine wpAny_noted ?_;rw[compTurn_list];refine wpAny_bind (wpAny_standAt (wpAny_bind (wpAny_mono (turn n s hI) (λr s₁ h₁=>?_) λ_ _ h'=>h'.elim)));cases r with
 | none=>exact wpAny_pure h₁
 | some v=>
  refine wpAny_bind (wpAny_mono h₁ (λ_ W5 Y9=>?_) λ_ _ h'=>h'.elim);refine wpAny_bind (wpAny_mono Y9 (λ_ s₂ h₂=>wpAny_bind (wpAny_mono h₂ (λok s₃ h₃=>?_) λ_ _ h'=>h'.elim)) λ_ _ h'=>h'.elim);cases ok with
  | false=>exact wpAny_pure ⟨rfl,h₃⟩
  | true=>
   exact wpAny_bind (wpAny_bind (wpAny_mono h₃ (λx s₄ h₄=>wpAny_bind (wpAny_mono h₄ (λ_ s₅ h₅=>wpAny_pure (wpAny_pure ⟨rfl,h₅⟩)) λ_ _ h'=>h'.elim)) λ_ _ h'=>h'))
end
abbrev J7 (X:Cx) (ifs:List Expr) (t:TT):Prop:=
 ∀(pins:List (Addr×Obj)) (s:Shared) (σ:St) (H:Hp) (Q:Bool->Hp->Prop),Inv X pins σ H s->t σ H Q->
  wpAny (model X.prog X.w) X.A (forIn ifs true λc r=>if r=true then do let ok <-isTrue c X.env (eval c X.env);pure (ForInStep.yield ok) else pure (ForInStep.yield r)) (TP X pins σ Q) X.xe s
abbrev mC:TT:=λ_ H Q=>Q true H
theorem cV {X:Cx}:J7 X [] mC:=λ_ _ _ H _ I h=>wpAny_tests_nil ⟨H,I,h⟩
theorem eZ {X:Cx} {c:Expr} {t:TT} (h:PT X c t):J7 X [c] t:=λpins s σ H Q I hq=>wpAny_tests_one (h pins s σ H Q I hq)
section
variable {X : Cx}
abbrev fU (J:It) (g:TG) (tc:TT) (te:TE) (σ0:St) (H1:Hp) (fin:List V->Hp->Prop):Prop:=
 ∃W:Nat->Nat->List V->St->Hp->Prop,(∃m,W 0 m [] σ0 H1)/\∀i m ys σ2 H2,W i m ys σ2 H2->
  (J.stop i H2/\fin ys H2)\/
  (J.go i H2/\∀x H3,J.yP i H2 x H3->g x σ2 H3 λσ3 H4=>tc σ3 H4 λb H5=>if b=true then te σ3 H5 λy H6=>ys.length<sizeLine/\∃m',m'<m/\W (i+1) m' (ys++ [y]) σ3 H6 else ∃m',m'<m/\W (i+1) m' ys σ3 H5)
abbrev fV (bf:List Value) (n:Nat):Obj:={cls:=.type "list",data:=.seq bf.toArray n}
theorem Cy {elt target iter:Expr} {ifs:List Expr} {scope:Scope} {pos:Pos} {g:TG} {tc:TT} {te:TE} {k:Nat} {fr:List Nat} {N':List Str} {cl:List (Str×Addr)} {pins:List (Addr×Obj)} {σ:St} {H2:Hp} {s2:Shared}
  {it:Addr} {fp:List Addr} {tn:Nat->Heap->Prop} {J:It} {fin:List V->Hp->Prop} {R0:Result->Shared->Prop} {XE:List (Str×Addr)->Addr->Shared->Hp->List Addr->Value->Shared->Prop}
  (hc:X.calm=true) (S:fP X.N X.env.scope N' scope k fr) (c1:∀x c,cl.lookup x=some c->X.env.cells.lookup x=some c) (c2:∀n,(n,NameKind.free)∈scope.names->∃c,cl.lookup n=some c) (cin:∀x c,(x,c)∈cl->∃y,X.env.cells.lookup y=some c) (Ri:∀x,(x,NameKind.cell)∈scope.names->∀c,(x,c)∉cl)
  (hg:∀cl C s H ex,PG (oj X N' scope cl C s H ex) target g) (ht:∀cl C s H ex,J7 (oj X N' scope cl C s H ex) ifs tc) (he:∀cl C s H ex,PE ((oj X N' scope cl C s H ex).iN (XE cl C s H ex)) elt te)
  (I2:Inv X pins σ H2 s2) (T:Turn X.prog X.w X.K target J fp it tn) (uV:tn 0 s2.heap) (f2:∀b∈fp,j6 X pins H2 b) (hb:fU J g tc te (stC k fr σ) H2 fin)
  (hR:∀(C:Addr),C=(s2.heap.push {cls:=.type "list",dict:=none,data:=.seq ([]:List Value).toArray}).objs.size->∀(s':Shared) (m:Str->Option Value) (ys:List V) (bf:List Value) (n:Nat) (H':Hp),s2.heap.objs.size<C->s'.heap.Ns C m->br ys bf->ys.length<=sizeLine->s'.heap.get? s2.heap.objs.size=some (fV bf n)->H' s2.heap.objs.size=none->H' C=none->fin ys H'->
   s'.os=s2.os->AllBare s'.gens->Un (dN X.stack) fp H2 H' s2.heap s'.heap->gG X.prog X.w H' s'.heap->R0 (.ok .next) s')
  (hE:∀cl C x s',C=(s2.heap.push {cls:=.type "list",dict:=none,data:=.seq ([]:List Value).toArray}).objs.size->s2.heap.objs.size<C->XE cl C s2 H2 fp x s'->notedBy (model X.prog X.w) X.A (compEnvC scope cl C X.env) (λy tD=>R0 (.error y) tD) x s'):
  codeAny (model X.prog X.w) X.A (.compStart (.ListComp elt [⟨target,iter,ifs,0⟩] scope pos) 0 (.ref it) (.ref s2.heap.objs.size) (compEnvC scope (cellsFrom ((s2.heap.push {cls:=.type "list",dict:=none,data:=.seq ([]:List Value).toArray}).objs.size+1) scope.names cl) (s2.heap.push {cls:=.type "list",dict:=none,data:=.seq ([]:List Value).toArray}).objs.size X.env)) R0 {s2 with heap:=pushCells ((s2.heap.push {cls:=.type "list",dict:=none,data:=.seq ([]:List Value).toArray}).push {cls:=.type "dict",data:=.dict #[]}) scope.names}:=by
 obtain⟨W,⟨m0,w0⟩,turn⟩:=hb;have lt:∀b∈fp,b<s2.heap.objs.size:=λb hb=>by
  obtain⟨o,e,_⟩:=T.obj _ _ uV b hb;exact abx e
 generalize EK:s2.heap.push {cls:=.type "list",dict:=none,data:=.seq ([]:List Value).toArray}=G2 at hR hE ⊢;have L8:G2.objs.size=s2.heap.objs.size+1:=by rw[<-EK,Heap.size_push]
 have W6:s2.heap.objs.size≠G2.objs.size:=by rw[L8];exact aav (aa4 _)
 have hC:s2.heap.objs.size<=G2.objs.size:=by rw[L8];exact Nat.le_succ _
 have old:∀b o,s2.heap.get? b=some o->(pushCells (G2.push {cls:=.type "dict",data:=.dict #[]}) scope.names).get? b=some o:=λb o e=>by
  refine pushCells_keeps _ _ b o (abv _ ?_);rw[<-EK];exact abv _ e
 have xR:(pushCells (G2.push {cls:=.type "dict",data:=.dict #[]}) scope.names).get? s2.heap.objs.size=some (fV [] 0):=by
  refine pushCells_keeps _ _ _ _ (abv _ ?_);rw[<-EK];exact abw _ rfl
 have S6:(pushCells (G2.push {cls:=.type "dict",data:=.dict #[]}) scope.names).Ns G2.objs.size λ_=>none:=(Heap.Ns.new G2 (.type "dict")).keeps (pushCells_keeps _ _);have W7:∀x c,(x,c)∈cl->c<G2.objs.size+1:=λx c m=>by
  obtain⟨y,hy⟩:=cin x c m;obtain⟨v,q⟩:=I2.cell y c hy;rw[L8];exact Nat.lt_succ_of_lt (Nat.lt_succ_of_lt q.lt)
 have B:J5 X scope (cellsFrom (G2.objs.size+1) scope.names cl) s2.heap.objs.size G2.objs.size (pushCells (G2.push {cls:=.type "dict",data:=.dict #[]}) scope.names):=by
  have own:=my scope.names (G2.push {cls:=.type "dict",data:=.dict #[]}) cl;rw[Heap.size_push] at own;refine⟨λx c e=>?_,λx y c hc h1 h2=>?_,λn hn=>?_,λn hn c e=>?_,λx c hx e=>?_⟩
  ·by_cases hx:(x,NameKind.cell)∈scope.names
   ·rcases own x c (aa1 e) with m | ⟨q1,q2,_⟩
    ·
     exfalso;exact Ri x hx c m
    ·exact .inr ⟨aau hC (Nat.le_of_succ_le q1),q1,q2⟩
   ·rw[ic _ _ _ _ hx] at e;exact .inl (c1 x c e)
  ·exact mz scope.names (G2.objs.size+1) (G2.objs.size+1) cl W7 (λx y c hl m1 _=>absurd (W7 x c m1) (Nat.not_lt.mpr hl)) x y c hc (aa1 h1) (aa1 h2)
  ·refine Option.isSome_iff_exists.mp (mB _ _ _ n ?_);rcases hn with hn | hn
   ·obtain⟨c,e⟩:=c2 n hn;exact .inr (by rw[e];rfl)
   ·exact .inl hn
  ·have hx:(n,NameKind.cell)∉scope.names:=λm=>by
    have:=(S.J4 _ m rfl).1;rw[hn] at this;cases this
   rw[ic _ _ _ _ hx] at e;exact c1 n c e
  ·have hx:=aa1 hx;rcases own x c (aa1 e) with m | ⟨q1,q2,_⟩
   ·exact absurd m (Ri x hx c)
   ·exact aau hC (Nat.le_of_succ_le q1)
 generalize pushCells (G2.push {cls:=.type "dict",data:=.dict #[]}) scope.names=h₁ at *;generalize cellsFrom (G2.objs.size+1) scope.names cl=uW at *;generalize J8:s2.heap.objs.size=D at *;generalize Nd:G2.objs.size=C at *;have fD:H2 D=none:=by rw[<-J8];exact I2.bL.fresh (aam _)
 have cells:∀x c,uW.lookup x=some c->c≠D:=λx c e=>by
  rcases B.old _ _ e with o | o
  ·obtain⟨v,q⟩:=I2.cell x c o;rw[<-J8];exact aav q.lt
  ·exact Nat.ne_of_gt (Nat.lt_trans (by rw[L8];exact aa4 _) o.2.1)
 have loop:∀(Hv:Addr) (s3:Shared),Hv=it->(∃tk,s3={s2 with heap:=h₁,toks:=tk})->
   codeAny (model X.prog X.w) X.A (.compLoop (.ListComp elt [⟨target,iter,ifs,0⟩] scope pos) 0 (.ref Hv) (.ref D) (compEnvC scope uW C X.env)) R0 s3:=by
  rintro Hv s3 rfl ⟨tk,rfl⟩;have I3:Inv (oj X N' scope uW C s2 H2 fp) [] (stC k fr σ) H2 {s2 with heap:=h₁,toks:=tk}:=FC I2 S (by rw[J8];exact B) (by rw[J8];exact hC) f2 (by rw[J8];exact lt) old S6;have xu:∀{H':Hp} {o:Obj},(∀b∈fp,H' b=none)->∀b∈fp,j6 (oj X N' scope uW C s2 H2 fp) [(D,o)] H' b:=λ{H' o} hn b hb=>
   ⟨hn b hb,aav (aaB (lt b hb) hC),λz=>by
    rcases aaX.mp (I2.sX b z) with q | q
    ·exact(f2 b hb).2.1 q
    ·exact(f2 b hb).2.2.1 q,.inl hb,λx c e=>(B.old _ _ e).elim (λo=>(f2 b hb).2.2.2.2.1 x c o) (λo=>Nat.ne_of_gt (aaB (lt b hb) o.1)),λp hp=>by
    have e:p=(D,o):=by simpa [oj] using hp
    rw[e];exact Nat.ne_of_gt (lt b hb)⟩
  have S9:∀{σ':St} {H':Hp} {s':Shared} {o:Obj},Inv (oj X N' scope uW C s2 H2 fp) [] σ' H' s'->s'.heap.get? D=some o->H' D=none->(∀v,o.data≠.cell v)->Inv (oj X N' scope uW C s2 H2 fp) [(D,o)] σ' H' s':=λ{σ' H' s' o} I' e n hd=>
   I'.je λp hp=>by
    have q:p=(D,o):=by simpa using hp
    subst q;refine⟨e,n,W6,λz=>?_,hd⟩;obtain⟨_,ob,ho,_⟩:=I2.stack.mem z;exact absurd (abx ho) (by rw[J8];exact aaL _)
  have Za:∀{bf:List Value} {n:Nat} (v:Option Value),(fV bf n).data≠.cell v:=λv z=>by
   have z:Data.seq _ _=Data.cell v:=z;cases z
  refine iQ (λn s'=>∃i ys σ' H' bf FD,Inv (oj X N' scope uW C s2 H2 fp) [] σ' H' s'/\tn i s'.heap/\(∀b∈fp,H' b=none)/\s'.heap.get? D=some (fV bf FD)/\H' D=none/\br ys bf/\ys.length<=sizeLine/\W i n ys σ' H') ?_ m0
   ⟨0,[],_,H2,[],0,I3,T.keep _ _ _ uV (λb _ o e=>old b o e),λb hb=>(f2 b hb).1,xR,fD,.nil,aas _,w0⟩
  rintro n s4 ⟨i,ys,σ4,H4,bf,FD,I4,W8,W9,Zb,Xa,Rj,Xb,w4⟩;have Xc:=S9 I4 Zb Xa Za;rcases turn i n ys σ4 H4 w4 with ⟨stop,qf⟩ | ⟨go,step⟩
  ·refine cb (T.done (oj X N' scope uW C s2 H2 fp) rfl rfl rfl hc i _ s4 σ4 H4 _ Xc (xu W9) W8 stop) λr s5 ⟨hr,I5⟩=>?_;subst hr;obtain⟨m5,Zc,_⟩:=I5.loc;exact hR C rfl s5 m5 ys bf FD H4 (by rw[L8];exact aa4 _) Zc Rj Xb (I5.pin (D,fV bf FD) (aaG _ aar)).1 Xa I5.free qf I5.os I5.bare I5.base I5.bL
  ·refine cb (T.item (oj X N' scope uW C s2 H2 fp) rfl rfl rfl hc i _ s4 σ4 H4 _ Xc (xu W9) W8 go) λr s5 ⟨u,hr,h5⟩=>?_;subst hr;refine cb h5 λ_ s6 dG=>?_;obtain⟨x,H6,I6,r6,y6,Ta,Zd⟩:=dG;have Ze:=I6.pinned (xu Zd) (T.obj _ _ Ta);refine cb (hg uW C s2 H2 fp _ s6 σ4 H6 x u _ Ze r6 (step x H6 y6)) λ_ s7 ⟨σ7,H7,I7,q7⟩=>?_;refine cb (ht uW C s2 H2 fp _ s7 σ7 H7 _ I7 q7) λok s8 ⟨H8,I8,q8⟩=>?_;have back:∀{σ':St} {H':Hp} {s':Shared},Inv (oj X N' scope uW C s2 H2 fp) ([(D,fV bf FD)]++o9 fp s6.heap) σ' H' s'->tn (i+1) s'.heap/\(∀b∈fp,H' b=none)/\s'.heap.get? D=some (fV bf FD)/\H' D=none:=λ{σ' H' s'} I'=>by
    have pD:=I'.pin (D,fV bf FD) (aaG _ (abe _ (by simp)));refine⟨T.keep _ _ _ Ta λb hb o e=>(I'.pin (b,o) (aaG _ (aaG _ (hX hb e)))).1,λb hb=>?_,pD.1,pD.2.1⟩;obtain⟨o,e,d⟩:=T.obj _ _ Ta b hb;exact(I'.pin (b,o) (aaG _ (aaG _ (hX hb e)))).2.1
   cases ok with
   | false=>
    rw[if_neg aax];rw[if_neg aax] at q8;obtain⟨m',hm,w8⟩:=q8;obtain⟨b1,b2,b3,b4⟩:=back I8;exact⟨m',hm,i+1,ys,σ7,H8,bf,FD,I8.je (λp hp=>absurd hp (by simp)),b1,b2,b3,b4,Rj,Xb,w8⟩
   | true=>
    rw[if_pos rfl];rw[if_pos rfl] at q8;refine wpAny_mono (he uW C s2 H2 fp _ s8 σ7 H8 _ (I8.iN _) q8) (λy s9 ⟨z,H9,I9,r9,nI,m',hm,w9⟩=>?_) λx s' hx=>hE uW C x s' rfl (by rw[L8];exact aa4 _) hx;have I9:=I9.eD;obtain⟨b1,b2,b3,b4⟩:=back I9;have hl:=Rj.length;refine call_meets F.slot_list_append ⟨_,b3,rfl⟩ F.entry_list_append (F.args_list_append_2 _ _) (PySem.list_append D bf.toArray FD y (by rw[aan];lia)) ⟨b3,?_⟩;obtain⟨c',q⟩:∃c',(s9.heap.update D (Obj.mapSeq λx=>x.push y)).get? D=some (fV (bf++ [y]) c'):=by
     have q:=PySem.IsL.update b3 (λx=>x.push y);rw[show bf.toArray.push y=(bf++ [y]).toArray by simp] at q;exact⟨_,q⟩
    have Zf:Inv (oj X N' scope uW C s2 H2 fp) [] σ7 H9 s9:=I9.je (λp hp=>absurd hp (by simp));have kp:∀b o,b≠D->s9.heap.get? b=some o->(s9.heap.update D (Obj.mapSeq λx=>x.push y)).get? b=some o:=λb o hb e=>(Heap.get?_update_other s9.heap (Obj.mapSeq λx=>x.push y) (Ne.symm hb)).trans e;have Fv:=Zf.turned (t':=s9.toks) (it:=D) (h':=s9.heap.update D (Obj.mapSeq λx=>x.push y)) kp b4 W6 (.inr (by show s2.heap.objs.size<=D;rw[J8];exact aam _)) (λx c e=>cells x c e) (λp hp=>absurd hp (by simp [oj]));refine⟨m',hm,i+1,ys++ [z],σ7,H9,bf++ [y],c',Fv,T.keep _ _ _ b1 (λb hb o e=>kp b o (aav (lt b hb)) e),b2,q,b4,Rj.append (.cons r9 .nil),?_,w9⟩
    ·rw[aat,aa8];lia
 exact codeAny_compStart_list (loop it _ rfl ⟨_,rfl⟩) (T.self _ 0 _ _ _ (T.keep _ _ _ uV (λb _ o e=>old b o e)) (loop it _ rfl ⟨_,rfl⟩))
theorem sh {elt target iter:Expr} {ifs:List Expr} {scope:Scope} {pos:Pos} {g:TG} {tc:TT} {te:TE} {k:Nat} {fr:List Nat} {N':List Str} {cl:List (Str×Addr)} {pins:List (Addr×Obj)} {σ:St} {H2:Hp} {s2:Shared}
  {it:Addr} {fp:List Addr} {tn:Nat->Heap->Prop} {J:It} {E:Value->Shared->Prop} {fin:List V->Hp->Prop} {RR:Value->Addr->Result->Shared->Prop} {XE:List (Str×Addr)->Addr->Shared->Hp->List Addr->Value->Shared->Prop}
  (hc:X.calm=true) (S:fP X.N X.env.scope N' scope k fr) (c1:∀x c,cl.lookup x=some c->X.env.cells.lookup x=some c) (c2:∀n,(n,NameKind.free)∈scope.names->∃c,cl.lookup n=some c) (cin:∀x c,(x,c)∈cl->∃y,X.env.cells.lookup y=some c) (Ri:∀x,(x,NameKind.cell)∈scope.names->∀c,(x,c)∉cl)
  (hg:∀cl C s H ex,PG (oj X N' scope cl C s H ex) target g) (ht:∀cl C s H ex,J7 (oj X N' scope cl C s H ex) ifs tc) (he:∀cl C s H ex,PE ((oj X N' scope cl C s H ex).iN (XE cl C s H ex)) elt te)
  (I2:Inv X pins σ H2 s2) (T:Turn X.prog X.w X.K target J fp it tn) (uV:tn 0 s2.heap) (f2:∀b∈fp,j6 X pins H2 b) (hb:fU J g tc te (stC k fr σ) H2 fin)
  (hR:∀(C:Addr) (s':Shared) (m:Str->Option Value) (ys:List V) (bf:List Value) (n:Nat) (H':Hp),s2.heap.objs.size<C->s'.heap.Ns C m->br ys bf->ys.length<=sizeLine->s'.heap.get? s2.heap.objs.size=some (fV bf n)->H' s2.heap.objs.size=none->H' C=none->fin ys H'->
   s'.os=s2.os->AllBare s'.gens->Un (dN X.stack) fp H2 H' s2.heap s'.heap->gG X.prog X.w H' s'.heap->RR (.ref s2.heap.objs.size) C (.ok .next) s')
  (hE:∀cl C x s',s2.heap.objs.size<C->XE cl C s2 H2 fp x s'->notedBy (model X.prog X.w) X.A (compEnvC scope cl C X.env) (λy tD=>RR (.ref s2.heap.objs.size) C (.error y) tD) x s'):
  wpAny (model X.prog X.w) X.A (newList []) (λacc s₃=>wpAny (model X.prog X.w) X.A (newFunctionEnv scope X.env.globals cl [] X.env.qual none .none (some X.env)) (λNf s₄=>
   codeAny (model X.prog X.w) X.A (.compStart (.ListComp elt [⟨target,iter,ifs,0⟩] scope pos) 0 (.ref it) acc {Nf with scope:=relabel scope X.env}) (RR acc Nf.locals) s₄) E s₃) E s2:=by
 refine wpAny_newObj_type (kW ?_);exact Cy (R0:=RR _ _) hc S c1 c2 cin Ri hg ht he I2 T uV f2 hb (λC e=>by subst e;exact hR _) (λcl C x s' e=>by subst e;exact hE cl _ x s')
theorem comp_back {fp:List Addr} {pins:List (Addr×Obj)} {σ:St} {H2 H':Hp} {s2 s':Shared} {C:Addr} {ys:List V} {bf:List Value} {n:Nat} {h':Heap} (I2:Inv X pins σ H2 s2) (f2:∀b∈fp,j6 X pins H2 b) (hC:s2.heap.objs.size<C)
  (vl:br ys bf) (sz:ys.length<=sizeLine) (hD:s'.heap.get? s2.heap.objs.size=some (fV bf n)) (nD:H' s2.heap.objs.size=none) (nC:H' C=none)
  (os:s'.os=s2.os) (bare:AllBare s'.gens) (un:Un (dN X.stack) fp H2 H' s2.heap s'.heap) (bL:gG X.prog X.w H' s'.heap) (hs:Heap.SameBut C s'.heap h'):
  Inv X pins σ (upd H' s2.heap.objs.size (.lst ys)) {s' with heap:=h'}:=by
 have Tb:∀b o,s2.heap.get? b=some o->b≠C:=λb o e=>aav (Nat.lt_trans (abx e) hC);have Zg:∀b o,s2.heap.get? b=some o->b≠s2.heap.objs.size:=λb o e=>aav (abx e);have tk:∀b u,H' b=some u->b≠s2.heap.objs.size:=λb u e z=>by rw[z,nD] at e;cases e
 have tC:∀b u,H' b=some u->b≠C:=λb u e z=>by rw[z,nC] at e;cases e
 have fD:H2 s2.heap.objs.size=none:=I2.bL.fresh (aam _);have t2:∀b u,H2 b=some u->b≠s2.heap.objs.size:=λb u e z=>by rw[z,fD] at e;cases e
 refine I2.BI (s':={s' with heap:=h'}) (ch:=fp) os ⟨λb o e m hb hx=>?_,λb o e m hb hx=>?_,λb o e m hx=>?_,λb o e hx=>?_,λb xs e=>?_,λb o u e=>?_,λb ps e=>?_⟩ (λb u e=>?_) bare λb hb=>?_
 ·exact(hs.2 b (Tb b o e)).trans (un.keep b o e m hb hx)
 ·obtain⟨sl,q⟩:=un.slot b o e m hb hx;exact⟨sl,(hs.2 b (Tb b o e)).trans q⟩
 ·rw[aD (Zg b o e)];exact un.free b o e m hx
 ·obtain⟨o',q⟩:=un.there b o e hx;exact⟨o',(hs.2 b (Tb b o e)).trans q⟩
 ·rw[aD (t2 b _ e)];exact un.iH b xs e
 ·rw[aD (t2 b _ e)];exact un.hV b o u e
 ·obtain⟨mo,q⟩:=un.iJ b ps e;exact⟨mo,by rw[aD (t2 b _ e)];exact q⟩
 ·by_cases hb:b=s2.heap.objs.size
  ·subst hb;rw[ai] at e;cases e;exact⟨sz,bf,n,vl,(hs.2 _ (aav hC)).trans hD⟩
  ·rw[aD hb] at e;exact(bL b u e).oZ (λc v hc q=>(hs.2 c (by
    rcases hc with rfl | hc
    ·exact tC _ _ e
    ·exact tC _ _ hc)).trans q) (λc r=>by rw[aD (tk _ _ r)];exact r) λc xs r=>by rw[aD (tk _ _ r)];exact r
 ·exact⟨(f2 b hb).2.2.2.1,(f2 b hb).2.1,(f2 b hb).2.2.2.2.1,(f2 b hb).2.2.2.2.2⟩
abbrev tComp (wi:TI) (g:TG) (tc:TT) (te:TE) (k:Nat) (fr:List Nat):TE:=λσ H Q=>wi σ H λJ H1=>fU J g tc te (stC k fr σ) H1 λys H2=>∀D,H1 D=none->H2 D=none->Q (.ref D) (upd H2 D (.lst ys))
theorem b5 {elt target iter:Expr} {ifs:List Expr} {scope so:Scope} {pos:Pos} {wi:TI} {g:TG} {tc:TT} {te:TE} {k:Nat} {fr:List Nat} {N N':List Str} (hc:X.calm=true) (hN:X.N=N) (qE:X.env.scope=so) (S:fP N so N' scope k fr)
  (hi:PI X target iter wi) (hg:∀cl C s H ex,PG (oj X N' scope cl C s H ex) target g) (ht:∀cl C s H ex,J7 (oj X N' scope cl C s H ex) ifs tc) (he:∀cl C s H ex,PE (oj X N' scope cl C s H ex) elt te)
  (hs:∀x,foldedSetIterable iter X.env x=pure x:=by intro _;rfl):PE X (.ListComp elt [⟨target,iter,ifs,0⟩] scope pos) (tComp wi g tc te k fr):=by
 subst hN qE;intro pins s σ H Q I h;rw[eval_ListComp];obtain⟨cl,eN,c1,c2,c3⟩:=jE (env:=X.env) (scope:=scope) λn hn=>I.ok.has n (S.outer _ hn rfl);refine wpAny_comprehension_free (use:=none) (cl:=cl) rfl hs eN S.kind S.locs ?_;refine cb (hi pins s σ H _ I h) λv s1 h1=>cb h1 λHv s2 h2=>?_;obtain⟨it,fp,tn,J,H2,rfl,I2,T,uV,f2,hb⟩:=h2;refine sh (RR:=λacc C=>compPost (model X.prog X.w) X.A X.xe none (EP X pins σ Q) acc C) hc S c1 c2 (λx c m=>⟨x,(c3 x c m).1⟩) (λx hx c m=>(S.J4 _ hx rfl).2 (c3 x c m).2) (XE:=λ_ _ _ _ _ _ _=>False) hg ht he I2 T uV f2 hb ?_ (λ_ _ _ _ _ z=>False.elim z);intro C s' m ys bf n H' hC hn vl sz hD nD nC fin os bare un bL;exact⟨m,hn,λh' Ng=>⟨.ref _,_,comp_back I2 f2 hC vl sz hD nD nC os bare un bL Ng,rfl,fin _ (I2.bL.fresh (aam _)) nD⟩⟩
theorem kX {elt target iter:Expr} {ifs:List Expr} {scope so:Scope} {pos Nh py:Pos} {wi:TI} {g:TG} {tc:TT} {te:TE} {k:Nat} {fr:List Nat} {N N':List Str} {y:Str} {i:Nat} (hc:X.calm=true) (hN:X.N.Nodup) (hy:X.N[i]?=some y) (hl:X.env.scope.names.lookup y=some .local)
  (Zh:X.N=N) (qE:X.env.scope=so) (S:fP N so N' scope k fr)
  (hi:PI X target iter wi) (hg:∀cl C s H ex,PG (oj X N' scope cl C s H ex) target g) (ht:∀cl C s H ex,J7 (oj X N' scope cl C s H ex) ifs tc) (he:∀cl C s H ex,PE (oj X N' scope cl C s H ex) elt te)
  (Nb:swapsWith (.ListComp elt [⟨target,iter,ifs,0⟩] scope pos) (some (.Name y py)) Nh.line X.env=pure true:=by rfl)
  (hs:∀x,foldedSetIterable iter X.env x=pure x:=by intro _;rfl):PS X (.Assign [.Name y py] (.ListComp elt [⟨target,iter,ifs,0⟩] scope pos) Nh) (tAsg (tComp wi g tc te k fr) (gName i)):=by
 subst Zh qE;intro pins s σ H D I h;rw[exec_Assign_Name_used _ _ _ _ Nb];obtain⟨cl,eN,c1,c2,c3⟩:=jE (env:=X.env) (scope:=scope) λn hn=>I.ok.has n (S.outer _ hn rfl);refine wpAny_bind (wpAny_standAt (wpAny_bind ?_));show wpAny _ X.A (do let _ <-comprehension (.ListComp elt [⟨target,iter,ifs,0⟩] scope pos) scope X.env _ (newList []) false (eval iter X.env) (some (assign (.Name y py) X.env))) _ _ s;refine wpAny_bind (wpAny_mono (wpAny_comprehension_free (use:=some (assign (.Name y py) X.env)) (Q:=λ_ s'=>SP X pins D .next s') (cl:=cl) rfl hs eN S.kind S.locs ?_) (λ_ s' hq=>wpAny_pure (wpAny_pure hq)) λ_ _ e=>e);refine cb (hi pins s σ H _ I h) λv s1 h1=>cb h1 λHv s2 h2=>?_;obtain⟨it,fp,tn,J,H2,rfl,I2,T,uV,f2,hb⟩:=h2;refine sh (RR:=λacc C=>compPost (model X.prog X.w) X.A X.xe (some (assign (.Name y py) X.env)) (λ_ s'=>SP X pins D .next s') acc C) hc S c1 c2 (λx c m=>⟨x,(c3 x c m).1⟩) (λx hx c m=>(S.J4 _ hx rfl).2 (c3 x c m).2) (XE:=λ_ _ _ _ _ _ _=>False) hg ht he I2 T uV f2 hb ?_ (λ_ _ _ _ _ z=>False.elim z);intro C s' m ys bf n H' hC hn vl sz hD nD nC fin os bare un bL;have I3:Inv X pins σ (upd H' s2.heap.objs.size (.lst ys)) s':=comp_back (h':=s'.heap) I2 f2 hC vl sz hD nD nC os bare un bL (.refl ..);refine wpAny_assign_Name (rQ (v:=.ref s2.heap.objs.size) I3 hN hy (.inl hl) rfl (λs4 I4 ch=>?_) (.inr hl));have Xd:X.env.locals<s2.heap.objs.size:=I2.lt;obtain⟨a,gn,ha⟩:=ch;have aC:a≠C:=by
  rcases ha with rfl | ha
  ·exact aav (Nat.lt_trans Xd hC)
  ·obtain⟨v,q⟩:=I2.cell _ _ ha;exact aav (Nat.lt_trans q.lt hC)
 refine⟨m,hn.sameBut gn (Ne.symm aC),λh' Ng=>⟨_,_,?_,fin _ (I2.bL.fresh (aam _)) nD⟩⟩;have Zi:(upd H' s2.heap.objs.size (.lst ys)) C=none:=by rw[aD (Nat.ne_of_gt hC)];exact nC
 exact I4.turned (t':=s4.toks) (it:=C) (h':=h') (λb o hb e=>(Ng.2 b hb).trans e) Zi (Nat.ne_of_gt (Nat.lt_trans Xd hC)) (.inr (aau I2.sz (Nat.le_of_lt hC))) (λx c e z=>by
  obtain⟨v,q⟩:=I2.cell x c e;exact absurd (Nat.lt_trans q.lt hC) (by rw[z];exact aaL _)) (λp hp z=>by
  have:=abx (I2.pin p hp).1;rw[z] at this;exact absurd (Nat.lt_trans this hC) (aaL _))
end
structure Src (J:It) (Ok:Hp->Prop) (n:Nat) (Item:Nat->V->Hp->Hp->Prop):Prop where
 go:∀i H,i<n->Ok H->J.go i H
 yP:∀i H x H3,i<n->Ok H->J.yP i H x H3->Item i x H H3
 stop:∀H,Ok H->J.stop n H
theorem src_list {K:abk} {a:Addr} {xs:List V} {Ok:Hp->Prop} (h:∀H,Ok H->bw K H a xs):Src (uU K a) Ok xs.length (λi x H H3=>H3=H/\xs[i]?=some x) where
 go:=λi H hi ok=>⟨xs,xs[i],h H ok,by simp [hi]⟩
 yP:=λi H x H3 hi ok ⟨e,y⟩=>⟨e,y xs (h H ok)⟩
 stop:=λH ok=>⟨xs,h H ok,aam _⟩
theorem src_range {lo:Int} {n:Nat} {Ok:Hp->Prop}:Src (MK lo n) Ok n (λi x H H3=>H3=H/\x=.int (lo+i)) where
 go:=λ_ _ hi _=>hi
 yP:=λ_ _ _ _ _ _ y=>y
 stop:=λ_ _=>aam _
theorem gP {J:It} {g:TG} {tc:TT} {te:TE} {σ0:St} {H1:Hp} {fin:List V->Hp->Prop} {n:Nat} {Item:Nat->V->Hp->Hp->Prop} (S:Src J (aB H1) n Item) (J9:St->Prop) (h0:J9 σ0) (P:Nat->List V->Hp->Prop) (p0:P 0 [] H1) (hz:n<=sizeLine)
  (hs:∀i x σ H ys H3 (Q:St->V->Hp->Prop) (N:St->Hp->Prop),i<n->aB H1 H->P i ys H->ys.length<=i->J9 σ->Item i x H H3->
   (∀σ3 y H6,J9 σ3->aB H1 H6->P (i+1) (ys++ [y]) H6->Q σ3 y H6)->(∀σ3 H5,J9 σ3->aB H1 H5->P (i+1) ys H5->N σ3 H5)->
   g x σ H3 λσ3 H4=>tc σ3 H4 λb H5=>if b=true then te σ3 H5 λy H6=>Q σ3 y H6 else N σ3 H5)
  (mD:∀ys H,aB H1 H->P n ys H->ys.length<=n->fin ys H):fU J g tc te σ0 H1 fin:=by
 refine⟨λi m ys σ H=>m=n - i/\i<=n/\ys.length<=i/\J9 σ/\aB H1 H/\P i ys H,⟨n,by simp,aas _,aam _,h0,aB.refl _,p0⟩,?_⟩;rintro i m ys σ H ⟨rfl,hi,hl,ow,sm,p⟩
 by_cases nI:i<n
 ·refine .inr ⟨S.go i H nI sm,λx H3 y=>hs i x σ H ys H3 (λσ3 y H6=>ys.length<sizeLine/\∃m',m'<n - i/\m'=n - (i+1)/\i+1<=n/\(ys++ [y]).length<=i+1/\J9 σ3/\aB H1 H6/\P (i+1) (ys++ [y]) H6)
   (λσ3 H5=>∃m',m'<n - i/\m'=n - (i+1)/\i+1<=n/\ys.length<=i+1/\J9 σ3/\aB H1 H5/\P (i+1) ys H5) nI sm p hl ow (S.yP i H x H3 nI sm y) (λσ3 y H6 o s6 q=>?_) (λσ3 H5 o s5 q=>?_)⟩
  ·exact⟨⋯,n - (i+1),⋯,rfl,nI,by rw[aat,aa8];lia,o,s6,q⟩
  ·exact⟨n - (i+1),⋯,rfl,nI,⋯,o,s5,q⟩
 ·have e:i=n:=⋯
  subst e;exact .inl ⟨S.stop H sm,mD ys H sm p hl⟩
theorem comp_map {J:It} {te:TE} {tl:St} {H1:Hp} {fin:List V->Hp->Prop} {n:Nat} {Item:Nat->V->Hp->Hp->Prop} (S:Src J (aB H1) n Item) (sub:∀i x H H3,Item i x H H3->aB H H3) (hz:n<=sizeLine)
  (R:Nat->V->Hp->Prop) (mono:∀i y H H',aB H H'->R i y H->R i y H')
  (hs:∀i x w H H3 (Q:VK),i<n->aB H1 H->Item i x H H3->(∀y H6,aB H3 H6->R i y H6->Q y H6)->te ((w::tl).set 0 (some x)) H3 Q)
  (mD:∀ys H,aB H1 H->ys.length=n->(∀i y,ys[i]?=some y->R i y H)->fin ys H):fU J (gName 0) mC te (none::tl) H1 fin:=by
 refine⟨λi m ys σ H=>m=n - i/\i<=n/\ys.length=i/\(∃w,σ=w::tl)/\aB H1 H/\∀j y,ys[j]?=some y->R j y H,⟨n,by simp,aas _,rfl,⟨_,rfl⟩,aB.refl _,λj y e=>by simp at e⟩,?_⟩;rintro i m ys σ H ⟨rfl,hi,hl,⟨w,rfl⟩,sm,p⟩
 by_cases nI:i<n
 ·refine .inr ⟨S.go i H nI sm,λx H3 y=>?_⟩;have it:=S.yP i H x H3 nI sm y;have s3:=sub i x H H3 it;unfold gName mC;refine xO ?_;refine hs i x w H H3 _ nI sm it λy H6 s6 r=>⟨⋯,n - (i+1),⋯,rfl,nI,by rw[aat,aa8];lia,⟨_,rfl⟩,sm.trans (s3.trans s6),λj z e=>?_⟩
  by_cases hj:j<i
  ·rw[List.getElem?_append_left ⋯] at e;exact mono j z _ _ (s3.trans s6) (p j z e)
  ·rw[List.getElem?_append_right ⋯] at e;have e2:j - ys.length=0:=by
    by_cases q:j - ys.length=0
    ·exact q
    ·rw[List.getElem?_eq_none (by simp;lia)] at e;cases e
   rw[e2] at e;simp at e;subst e;have:j=i:=⋯
   subst this;exact r
 ·have e:i=n:=⋯
  subst e;exact .inl ⟨S.stop H sm,mD ys H sm hl p⟩
abbrev HE (J:It) (g:TG) (tb:TS) (D:Ends) (σ:St) (H:Hp):Prop:=
 ∃W:Nat->Nat->St->Hp->Prop,(∃m,W 0 m σ H)/\∀i m σ H,W i m σ H->
  (J.stop i H/\D.nx σ H)\/(J.go i H/\∃N:St->Hp->Prop,(∀σ' H',N σ' H'->∃m',m'<m/\W (i+1) m' σ' H')/\∀x H',J.yP i H x H'->g x σ H' λσ2 H2=>tb {D with nx:=N,ct:=N,bk:=D.nx} σ2 H2)
theorem tFor_eq {wi:TI} {g:TG} {tb:TS} {D:Ends} {σ:St} {H:Hp}:ML wi g tb D σ H=wi σ H λJ H1=>HE J g tb D σ H1:=rfl
theorem bN {J:It} {g:TG} {tb:TS} {D:Ends} {σ:St} {H:Hp} {n:Nat} {Item:Nat->V->Hp->Hp->Prop} {Ok:Hp->Prop} (S:Src J Ok n Item) (Pv:Nat->St->Hp->Prop) (h0:Pv 0 σ H) (bL:∀i σ H,i<=n->Pv i σ H->Ok H)
  (hs:∀i x σ H H3,i<n->Pv i σ H->Item i x H H3->g x σ H3 λσ2 H2=>tb {D with nx:=Pv (i+1),ct:=Pv (i+1),bk:=D.nx} σ2 H2) (hd:∀σ H,Pv n σ H->D.nx σ H):HE J g tb D σ H:=by
 refine⟨λi m σ H=>m=n - i/\i<=n/\Pv i σ H,⟨n,by simp,aas _,h0⟩,?_⟩;rintro i m σ H ⟨rfl,hi,p⟩
 by_cases nI:i<n
 ·exact .inr ⟨S.go i H nI (bL i σ H hi p),Pv (i+1),λσ' H' p'=>⟨n - (i+1),⋯,rfl,nI,p'⟩,λx H' y=>hs i x σ H H' nI p (S.yP i H x H' nI (bL i σ H hi p) y)⟩
 ·have e:i=n:=⋯
  subst e;exact .inl ⟨S.stop H (bL i σ H hi p),hd σ H p⟩
section
variable {X : Cx} {pins : List (Addr × Obj)} {σ : St} {H : Hp} {s : Shared}
theorem Inv.moved {h':Heap} {t':Nat} {ch:List Addr} (I:Inv X pins σ H s) (f:∀b∈ch,j6 X pins H b) (k:∀b o,b∉ch->s.heap.get? b=some o->h'.get? b=some o):Inv X pins σ H {s with heap:=h',toks:=t'}:=by
 have EI:∀b u,H b=some u->b∉ch:=λb u e z=>by rw[(f b z).1] at e;cases e
 refine I.step (g':=s.gens) (d':=s.drawn) (ch:=ch) (λb hb=>⟨(f b hb).2.2.2.1,(f b hb).2.1,(f b hb).2.2.2.2.1,(f b hb).2.2.2.2.2⟩) (λb o _ _ hc e _=>k b o hc e) (λb o _ _ hc e _=>⟨o.slots,k b o hc e⟩) (λ_ _ _ _ n=>n)
  (λb o hc e=>⟨o,k b o hc e⟩) (λ_ _ e=>e) (λ_ _ _ e=>e) (λb ps e=>⟨#[],by rw[e];simp⟩) (λm hm=>?_) (λb u e=>?_) I.bare
 ·obtain⟨o,es,ep,ho,r⟩:=hm;exact⟨o,es,ep,k _ o (λz=>(f _ z).2.1 rfl) ho,r⟩
 ·refine(I.bL b u e).oZ (λc v hc q=>k c v ?_ q) (λ_ q=>q) λ_ _ q=>q;rcases hc with z | z
  ·rw[z];exact EI b u e
  ·exact EI c _ z
theorem Inv.take {ad:Addr} {o:HO} (I:Inv X pins σ H s) (f:j6 X pins H ad) (new:X.s₀.heap.objs.size<=ad) (ok:cE X.prog X.w (upd H ad o) s.heap ad o):Inv X pins σ (upd H ad o) s:=by
 obtain⟨hn,nL,nf,_,nc,np⟩:=f;have tk:∀b u,H b=some u->b≠ad:=λb u e z=>by rw[z,hn] at e;cases e
 refine⟨I.ok,I.os,I.bare,⟨I.base.keep,I.base.slot,λb ob e m hx=>?_,I.base.there,λb xs e=>?_,λb ob u e=>?_,λb ps e=>?_⟩,I.loc,I.cell,?_,λx c e=>?_,λp hp=>?_,λb u e=>?_,I.len⟩
 ·rw[aD (aav (aaB (abx e) new))];exact I.base.free b ob e m hx
 ·have q:=I.base.iH b xs e;rw[aD (tk b _ q)];exact q
 ·have q:=I.base.hV b ob u e;rw[aD (tk b _ q)];exact q
 ·obtain⟨mo,q⟩:=I.base.iJ b ps e;exact⟨mo,by rw[aD (tk b _ q)];exact q⟩
 ·rw[aD (Ne.symm nL)];exact I.free
 ·rw[aD (nc x c e)];exact I.fQ x c e
 ·obtain⟨a,b,c⟩:=I.pin p hp;exact⟨a,by rw[aD (np p hp)];exact b,c⟩
 ·by_cases hb:b=ad
  ·subst hb;rw[ai] at e;cases e;exact ok
  ·rw[aD hb] at e;exact(I.bL b u e).oZ (λ_ _ _ q=>q) (λc r=>by rw[aD (tk _ _ r)];exact r) λc xs r=>by rw[aD (tk _ _ r)];exact r
end
abbrev Zj (K:abk) (a b:Addr):It:=
 ⟨λi H=>∃xs ys x y,bw K H a xs/\bw K H b ys/\xs[i]?=some x/\ys[i]?=some y,
  λi H v H'=>∃p,H p=none/\v=.ref p/\∃x y,(∀xs,bw K H a xs->xs[i]?=some x)/\(∀ys,bw K H b ys->ys[i]?=some y)/\H'=upd H p (.tup [x,y]),
  λi H=>∃xs ys,bw K H a xs/\bw K H b ys/\(i=min xs.length ys.length)⟩
abbrev Tc (K:abk) (a:Addr):It:=
 ⟨λi H=>∃xs x,bw K H a xs/\xs[i]?=some x,
  λi H v H'=>∃p,H p=none/\v=.ref p/\∃x,(∀xs,bw K H a xs->xs[i]?=some x)/\H'=upd H p (.tup [.int i,x]),
  λi H=>∃xs,bw K H a xs/\xs.length=i⟩
theorem AW {P:Program} {w:World} {K:abk} {elts:List Expr} {k:Nat} {pos:Pos} (e it a:Addr) (Xe:e≠it) (hle:a≠e) (Xf:a≠it):
  Turn P w K (.Tuple elts k pos) (Tc K a) [e,it] e (λi h=>(∃old,IsEnum h e it i old)/\h.IsListIter it a i) where
 mem:=by simp
 obj:=λi h st c hc=>by
  obtain⟨⟨old,he⟩,⟨o1,e1,_,d1⟩⟩:=st;simp only[aaX,List.not_mem_nil,or_false] at hc;rcases hc with rfl | rfl
  ·exact⟨_,he,λv q=>by cases q⟩
  ·exact⟨_,e1,λv q=>by rw[d1] at q;cases q⟩
 keep:=λi h h' st kp=>by
  obtain⟨⟨old,he⟩,h1⟩:=st;exact⟨⟨old,kp e (by simp) _ he⟩,h1.at λo q=>kp it (by simp) o q⟩
 item:=by
  intro X hP hw hK hc i pins s σ H E I hf st hg;subst hP hw hK;obtain⟨xs,x,L9,hx⟩:=hg;obtain⟨xS,r1,p1,z1⟩:=I.list L9;obtain⟨u,eu,ru⟩:=r1.get hx;obtain⟨he,h1⟩:=st;have W:=WalksT.enumerate (prog:=X.prog) (w:=X.w) (I.ok.hd hc) e it a Xe hle Xf xS.toArray;have li:i<xS.toArray.size:=by
   have a1:=(abr.mp eu).1;simp only[aan];lia
  refine W.item i s _ _ li ⟨he,h1,p1.isList⟩ λT vals h' tk Zk hT hI hm kk=>?_;have I1:Inv X pins σ H {s with heap:=h',toks:=tk}:=I.moved (ch:=[e,it]) hf kk;have fT:j6 X pins H T:=I.BO hT (I.bL.fresh hT);refine⟨_,rfl,W.go elts k pos i T _ _ _ hm λTd uV Xg=>?_⟩;have I2:Inv X pins σ H {s with heap:=Td,toks:=tk}:=I1.moved (s:={s with heap:=h',toks:=tk}) (t':=tk) (ch:=[e,it]) hf Xg;obtain⟨t,x',ex,rfl⟩:=Zk;have Sq:xS[i]?=some x':=by simpa using ex
  rw[eu] at Sq;cases Sq;have Zl:=W.apart _ _ _ hm;obtain⟨oT,eT,cT,nT,dT⟩:=hI;have Zm:IsTup Td T #[.int i t,u]:=⟨oT,Xg _ _ Zl eT,cT,nT,dT⟩
  have I3:Inv X pins σ (upd H T (.tup [.int i,x])) {s with heap:=Td,toks:=tk}:=
   I2.take fT (aau I.sz hT) ⟨by show 2<=sizeLine;decide,[.int i t,u],.cons ⟨t,rfl⟩ (.cons ru .nil),Zm⟩
  obtain⟨b1,b2,_⟩:=uV;refine⟨.ref T,_,I3,rfl,⟨T,fT.1,rfl,x,λTf q=>?_,rfl⟩,⟨b1,b2⟩,λc hc=>?_⟩
  ·rw[I.vc q L9];exact hx
  ·rw[aD (λq=>?_)]
   ·exact(hf c hc).1
   ·subst q;obtain⟨o,e,_⟩:∃o,s.heap.get? c=some o/\True:=by
     simp only[aaX,List.not_mem_nil,or_false] at hc;obtain⟨old,he⟩:=he;obtain⟨o1,e1,_⟩:=h1;rcases hc with rfl | rfl
     ·exact⟨_,he,trivial⟩
     ·exact⟨_,e1,trivial⟩
    exact absurd (abx e) (Nat.not_lt.mpr hT)
 done:=by
  intro X hP hw hK hc i pins s σ H E I hf st hg;subst hP hw hK;obtain⟨xs,L9,hi⟩:=hg;obtain⟨xS,r1,p1,z1⟩:=I.list L9;obtain⟨he,h1⟩:=st;have W:=WalksT.enumerate (prog:=X.prog) (w:=X.w) (I.ok.hd hc) e it a Xe hle Xf xS.toArray;have l1:=r1.length;have e:i=xS.toArray.size:=by simp only[aan];lia
  subst e;exact W.done s _ _ ⟨he,h1,p1.isList⟩ λh' tk kk=>⟨rfl,I.moved (ch:=[_,it]) hf kk⟩
 self:=λ_ _ _ _ _ st h=>by
  obtain⟨⟨old,he⟩,_⟩:=st;exact wpAny_pyIter_enum he h
section
variable {X : Cx} {elts : List Expr} {kk : Nat} {iO : Pos}
abbrev iZip (K:abk) (ta:TA):TI:=λσ H R=>ta σ H λvs H1=>∃a b,vs=[.ref a,.ref b]/\(∃xs,bw K H1 a xs)/\(∃ys,bw K H1 b ys)/\R (Zj K a b) H1
abbrev iEnum (K:abk) (ta:TA):TI:=λσ H R=>ta σ H λvs H1=>∃a,vs=[.ref a]/\(∃xs,bw K H1 a xs)/\R (Tc K a) H1
theorem tP {a:Expr} {ta:TA} {p pos:Pos} (hg:Gl X "enumerate") (hm:X.mg "enumerate"=none) (ha:PA X [a] ta) (hs:starEach [a] X.env=[(false,eval a X.env)]:=by rfl):
  PI X (.Tuple elts kk iO) (.Call (.Name "enumerate" p) [a] [] pos) (iEnum X.K ta):=by
 intro pins s σ H R I h;refine Call_ (gH I hg hm rfl (abj (cb (ha pos pins s σ H _ I h) λus s1 dG=>?_) hs rfl));obtain⟨vs,H1,I1,r1,q1⟩:=dG;obtain⟨a,e,⟨xs,q1⟩,q⟩:=q1;subst e;obtain⟨u,rfl,ra⟩:=vals1 r1;cases ra;obtain⟨xS,v1,p1,z1⟩:=I1.list q1;refine call_enumerate_list p1.isList λh' b1 b2 b3 kp=>?_;refine wpAny_pyIter_enum b1 ?_;have I2:Inv X pins σ H1 {s1 with heap:=h'}:=I1.kept (t':=s1.toks) kp;have la:a<s1.heap.objs.size:=by obtain⟨o,e,_⟩:=p1.isList;exact abx e
 refine⟨s1.heap.objs.size+1,[s1.heap.objs.size+1,s1.heap.objs.size],_,_,H1,rfl,I2,
  AW (s1.heap.objs.size+1) s1.heap.objs.size a (Nat.ne_of_gt (aa4 _)) (aav (Nat.lt_succ_of_lt la)) (aav la),⟨⟨_,b1⟩,b2⟩,λc hc=>?_,q⟩
 have Xh:s1.heap.objs.size<=c:=by
  simp only[aaX,List.not_mem_nil,or_false] at hc;rcases hc with rfl | rfl <;>lia
 exact I1.BO Xh (I1.bL.fresh Xh)
end
theorem Cz {K:abk} {a:Addr} {xs:List V} {Ok:Hp->Prop} (h1:∀H,Ok H->bw K H a xs):
  Src (Tc K a) Ok xs.length (λi v H H3=>∃p x,H p=none/\v=.ref p/\xs[i]?=some x/\H3=upd H p (.tup [.int i,x])) where
 go:=λi H hi ok=>⟨xs,xs[i],h1 H ok,by simp [hi]⟩
 yP:=λi H x H3 hi ok ⟨p,n,e,u,e1,e3⟩=>⟨p,u,n,e,e1 xs (h1 H ok),e3⟩
 stop:=λH ok=>⟨xs,h1 H ok,rfl⟩
inductive Dat where
 | bZ | bl (b:Bool) | int (i:Int) | str (x:Str) | tup (l:List Dat) | lst (l:List Dat)
mutual
noncomputable def Rep (H:Hp):Dat->V->Prop
 | .bZ,v=>v=.bZ
 | .bl b,v=>v=.bl b
 | .int i,v=>v=.int i
 | .str x,v=>v=.str x
 | .tup ds,v=>∃p vs,v=.ref p/\H p=some (.tup vs)/\bg H ds vs
 | .lst ds,v=>∃p vs,v=.ref p/\H p=some (.lst vs)/\bg H ds vs
noncomputable def bg (H:Hp):List Dat->List V->Prop
 | [],vs=>vs=[]
 | d::ds,vs=>∃v r,vs=v::r/\Rep H d v/\bg H ds r
end
mutual
theorem Rep.mono {H H':Hp} (s:aB H H'):∀{d:Dat} {v:V},Rep H d v->Rep H' d v
 | .bZ,_,h=>by rw[Rep] at *;exact h
 | .bl _,_,h=>by rw[Rep] at *;exact h
 | .int _,_,h=>by rw[Rep] at *;exact h
 | .str _,_,h=>by rw[Rep] at *;exact h
 | .tup _,_,h=>by
  rw[Rep] at *;obtain⟨p,vs,e,hp,r⟩:=h;exact⟨p,vs,e,s _ _ hp,bg.mono s r⟩
 | .lst _,_,h=>by
  rw[Rep] at *;obtain⟨p,vs,e,hp,r⟩:=h;exact⟨p,vs,e,s _ _ hp,bg.mono s r⟩
theorem bg.mono {H H':Hp} (s:aB H H'):∀{ds:List Dat} {vs:List V},bg H ds vs->bg H' ds vs
 | [],_,h=>by rw[bg] at *;exact h
 | _::_,_,h=>by
  rw[bg] at *;obtain⟨v,r,e,h1,h2⟩:=h;exact⟨v,r,e,Rep.mono s h1,bg.mono s h2⟩
end
theorem bg.length {H:Hp}:∀{ds:List Dat} {vs:List V},bg H ds vs->ds.length=vs.length
 | [],_,h=>by rw[bg] at h;subst h;rfl
 | _::_,_,h=>by
  rw[bg] at h;obtain⟨v,r,rfl,_,h2⟩:=h;simp [h2.length]
theorem bg.get {H:Hp}:∀{ds:List Dat} {vs:List V} {i:Nat} {v:V},bg H ds vs->vs[i]?=some v->∃d,ds[i]?=some d/\Rep H d v
 | [],_,i,v,h,e=>by rw[bg] at h;subst h;simp at e
 | d::ds,_,i,v,h,e=>by
  rw[bg] at h;obtain⟨v',r,rfl,h1,h2⟩:=h;cases i with
  | zero=>simp at e;subst e;exact⟨d,rfl,h1⟩
  | succ i=>simp at e;obtain⟨d',e',r'⟩:=h2.get e;exact⟨d',by simpa using e',r'⟩
theorem bg.at {H:Hp}:∀{ds:List Dat} {vs:List V} {i:Nat} {d:Dat},bg H ds vs->ds[i]?=some d->∃v,vs[i]?=some v/\Rep H d v
 | [],_,i,v,h,e=>by simp at e
 | d::ds,_,i,d',h,e=>by
  rw[bg] at h;obtain⟨v',r,rfl,h1,h2⟩:=h;cases i with
  | zero=>simp at e;subst e;exact⟨v',rfl,h1⟩
  | succ i=>simp at e;obtain⟨v,e',r'⟩:=h2.at e;exact⟨v,by simpa using e',r'⟩
theorem bg.of {H:Hp}:∀{ds:List Dat} {vs:List V},ds.length=vs.length->(∀(i:Nat) d v,ds[i]?=some d->vs[i]?=some v->Rep H d v)->bg H ds vs
 | [],[],_,_=>by rw[bg]
 | [],_::_,h,_=>by simp at h
 | _::_,[],h,_=>by simp at h
 | d::ds,v::vs,h,k=>by
  rw[bg];exact⟨v,vs,rfl,k 0 d v rfl rfl,bg.of (by simpa using h) λi d' v' e1 e2=>k (i+1) d' v' (by simpa using e1) (by simpa using e2)⟩
theorem bg.append {H:Hp}:∀{as bs:List Dat} {us vs:List V},bg H as us->bg H bs vs->bg H (as++bs) (us++vs)
 | [],_,_,_,h,k=>by rw[bg] at h;subst h;exact k
 | _::_,_,_,_,h,k=>by
  rw[bg] at h;obtain⟨v,r,rfl,h1,h2⟩:=h;show bg H (_::(_++_)) (_::(_++_));rw[bg];exact⟨_,_,rfl,h1,h2.append k⟩
abbrev depth:Dat->Nat
 | .tup l=>1+dL l
 | .lst l=>1+dL l
 | _=>0
where dL:List Dat->Nat
 | []=>0
 | d::ds=>max (depth d) (dL ds)
theorem gQ {d:Dat}:∀{ds:List Dat},d∈ds->depth d<=depth.dL ds
 | e::ds,h=>by
  rw[depth.dL];rcases aaX.mp h with rfl | h
  ·exact Nat.le_max_left _ _
  ·exact aau (gQ h) (Nat.le_max_right _ _)
section
variable {X : Cx} {pins : List (Addr × Obj)} {σ : St} {H : Hp} {s : Shared}
theorem all_true (n:Nat):((List.range n).all λ_=>true)=true:=by simp
theorem CA (I:Inv X pins σ H s):∀(n:Nat) (d:Dat),depth d<=n->∀(v v':V) (u u':Value) (A:Around),Rep H d v->Rep H d v'->RelV v u->RelV v' u'->A.units+n<cLine->SeqAt.EqAt A s u u' true:=by
 intro n
 induction n with
 | zero=>
  intro d hd v v' u u' A h h' r r' hu;cases d with
  | bZ=>rw[Rep] at h h';subst h h';cases r;cases r';exact SeqAt.EqAt.same _
  | bl b=>rw[Rep] at h h';subst h h';cases r;cases r';exact SeqAt.EqAt.same _
  | int i=>rw[Rep] at h h';subst h h';obtain⟨t,rfl⟩:=r;obtain⟨t',rfl⟩:=r';have:=SeqAt.EqAt.int_int (A:=A) (s:=s) i t i t';simpa using this
  | str x=>rw[Rep] at h h';subst h h';obtain⟨t,rfl⟩:=r;obtain⟨t',rfl⟩:=r';have:=SeqAt.EqAt.str_str (A:=A) (s:=s) x t x t';simpa using this
  | tup l=>rw[depth] at hd;lia
  | lst l=>rw[depth] at hd;lia
 | succ n ih=>
  intro d hd v v' u u' A h h' r r' hu;cases d with
  | bZ=>rw[Rep] at h h';subst h h';cases r;cases r';exact SeqAt.EqAt.same _
  | bl b=>rw[Rep] at h h';subst h h';cases r;cases r';exact SeqAt.EqAt.same _
  | int i=>rw[Rep] at h h';subst h h';obtain⟨t,rfl⟩:=r;obtain⟨t',rfl⟩:=r';have:=SeqAt.EqAt.int_int (A:=A) (s:=s) i t i t';simpa using this
  | str x=>rw[Rep] at h h';subst h h';obtain⟨t,rfl⟩:=r;obtain⟨t',rfl⟩:=r';have:=SeqAt.EqAt.str_str (A:=A) (s:=s) x t x t';simpa using this
  | tup l=>
   rw[Rep] at h h';obtain⟨p,vs,rfl,hp,rl⟩:=h;obtain⟨p',CB,rfl,mE,CC⟩:=h';cases r;cases r';rw[depth] at hd
   by_cases Ni:p=p'
   ·subst Ni;exact SeqAt.EqAt.same _
   obtain⟨bf,rv,pl,hz⟩:=I.tuple (jD.of hp);obtain⟨its',CD,CF,Tg⟩:=I.tuple (jD.of mE);have e1:=rl.length;have e2:=CC.length;have l1:=rv.length;have l2:=CD.length;have R:=SeqAt.RcAt.tuples (A:=A) (e:=λ_=>true) pl CF ⋯ (λj h1 h2=>?_)
   ·simp only[aan,all_true,Bool.true_and] at R;rw[show(bf.length==its'.length)=true by simp;lia] at R;exact .of_refs Ni R
   ·rw[aan] at h1 h2;obtain⟨d,ed⟩:∃d,l[j]?=some d:=⟨l[j]'⋯,by simp⟩
    obtain⟨v1,f1,q1⟩:=rl.at ed;obtain⟨v2,f2,q2⟩:=CC.at ed;obtain⟨u1,g1,w1⟩:=rv.get f1;obtain⟨u2,g2,w2⟩:=CD.get f2;have a1:bf.toArray[j]=u1:=by simpa [aao h1] using g1
    have a2:its'.toArray[j]=u2:=by simpa [aao h2] using g2
    rw[a1,a2];have:=gQ (aay ed);exact ih d ⋯ v1 v2 u1 u2 A.in1 q1 q2 w1 w2 (by show A.units+1+n<cLine;lia)
  | lst l=>
   rw[Rep] at h h';obtain⟨p,vs,rfl,hp,rl⟩:=h;obtain⟨p',CB,rfl,mE,CC⟩:=h';cases r;cases r';rw[depth] at hd
   by_cases Ni:p=p'
   ·subst Ni;exact SeqAt.EqAt.same _
   obtain⟨bf,rv,pl,hz⟩:=I.list (bw.of hp);obtain⟨its',CD,CF,Tg⟩:=I.list (bw.of mE);have e1:=rl.length;have e2:=CC.length;have l1:=rv.length;have l2:=CD.length;have R:=SeqAt.RcAt.lists (A:=A) (e:=λ_=>true) pl.isList CF.isList (by simp only[aan];lia) ⋯ (λj h1 h2=>?_)
   ·rw[all_true] at R;exact .of_refs Ni R
   ·rw[aan] at h1 h2;obtain⟨d,ed⟩:∃d,l[j]?=some d:=⟨l[j]'⋯,by simp⟩
    obtain⟨v1,f1,q1⟩:=rl.at ed;obtain⟨v2,f2,q2⟩:=CC.at ed;obtain⟨u1,g1,w1⟩:=rv.get f1;obtain⟨u2,g2,w2⟩:=CD.get f2;have a1:bf.toArray[j]=u1:=by simpa [aao h1] using g1
    have a2:its'.toArray[j]=u2:=by simpa [aao h2] using g2
    rw[a1,a2];have:=gQ (aay ed);exact ih d ⋯ v1 v2 u1 u2 A.in1 q1 q2 w1 w2 (by show A.units+1+n<cLine;lia)
end
section
variable {X : Cx}
abbrev AX (b:Bool):R2:=λx y H Q=>∃d,Rep H d x/\Rep H d y/\(∃p,x=.ref p)/\depth d<=40/\Q (.bl b) H
theorem CG {pins:List (Addr×Obj)} {σ:St} {H:Hp} {s:Shared} {d:Dat} {p p':Addr} (I:Inv X pins σ H s) (hu:X.A.units+64<cLine) (h:Rep H d (.ref p)) (h':Rep H d (.ref p')) (hd:depth d<=40):
  (∃bf its':List Value,IsTup s.heap p bf.toArray/\IsTup s.heap p' its'.toArray/\bf.length=its'.length/\∀j (h1:j<bf.toArray.size) (h2:j<its'.toArray.size),SeqAt.EqAt X.A.in1 s bf.toArray[j] its'.toArray[j] true)\/
  (∃bf its':List Value,s.heap.IsList p bf.toArray/\s.heap.IsList p' its'.toArray/\bf.length=its'.length/\∀j (h1:j<bf.toArray.size) (h2:j<its'.toArray.size),SeqAt.EqAt X.A.in1 s bf.toArray[j] its'.toArray[j] true):=by
 cases d with
 | bZ=>rw[Rep] at h;cases h
 | bl b=>rw[Rep] at h;cases h
 | int i=>rw[Rep] at h;cases h
 | str x=>rw[Rep] at h;cases h
 | tup l=>
  left
  rw[Rep] at h h';obtain⟨_,vs,e,hp,rl⟩:=h;cases e;obtain⟨_,CB,e,mE,CC⟩:=h';cases e;rw[depth] at hd;obtain⟨bf,rv,pl,hz⟩:=I.tuple (jD.of hp);obtain⟨its',CD,CF,Tg⟩:=I.tuple (jD.of mE);have e1:=rl.length;have e2:=CC.length;have l1:=rv.length;have l2:=CD.length;refine⟨bf,its',pl,CF,⋯,λj h1 h2=>?_⟩;rw[aan] at h1 h2;obtain⟨d,ed⟩:∃d,l[j]?=some d:=⟨l[j]'⋯,by simp⟩
  obtain⟨v1,f1,q1⟩:=rl.at ed;obtain⟨v2,f2,q2⟩:=CC.at ed;obtain⟨u1,g1,w1⟩:=rv.get f1;obtain⟨u2,g2,w2⟩:=CD.get f2;have a1:bf.toArray[j]=u1:=by simpa [aao h1] using g1
  have a2:its'.toArray[j]=u2:=by simpa [aao h2] using g2
  rw[a1,a2];have:=gQ (aay ed);exact CA I 40 d ⋯ v1 v2 u1 u2 X.A.in1 q1 q2 w1 w2 (by show X.A.units+1+40<cLine;lia)
 | lst l=>
  right
  rw[Rep] at h h';obtain⟨_,vs,e,hp,rl⟩:=h;cases e;obtain⟨_,CB,e,mE,CC⟩:=h';cases e;rw[depth] at hd;obtain⟨bf,rv,pl,hz⟩:=I.list (bw.of hp);obtain⟨its',CD,CF,Tg⟩:=I.list (bw.of mE);have e1:=rl.length;have e2:=CC.length;have l1:=rv.length;have l2:=CD.length;refine⟨bf,its',pl.isList,CF.isList,⋯,λj h1 h2=>?_⟩;rw[aan] at h1 h2;obtain⟨d,ed⟩:∃d,l[j]?=some d:=⟨l[j]'⋯,by simp⟩
  obtain⟨v1,f1,q1⟩:=rl.at ed;obtain⟨v2,f2,q2⟩:=CC.at ed;obtain⟨u1,g1,w1⟩:=rv.get f1;obtain⟨u2,g2,w2⟩:=CD.get f2;have a1:bf.toArray[j]=u1:=by simpa [aao h1] using g1
  have a2:its'.toArray[j]=u2:=by simpa [aao h2] using g2
  rw[a1,a2];have:=gQ (aay ed);exact CA I 40 d ⋯ v1 v2 u1 u2 X.A.in1 q1 q2 w1 w2 (by show X.A.units+1+40<cLine;lia)
theorem CH (hu:X.A.units+64<cLine):hZ X (compareOp .Eq) (AX true):=by
 intro pins s σ H x y v u Q I rx ry h;obtain⟨d,h1,h2,⟨p,rfl⟩,hd,q⟩:=h;obtain⟨p',rfl⟩:∃p',y=.ref p':=by
  cases d with
  | bZ=>rw[Rep] at h1;cases h1
  | bl b=>rw[Rep] at h1;cases h1
  | int i=>rw[Rep] at h1;cases h1
  | str x=>rw[Rep] at h1;cases h1
  | tup l=>rw[Rep] at h2;obtain⟨p',_,e,_⟩:=h2;exact⟨p',e⟩
  | lst l=>rw[Rep] at h2;obtain⟨p',_,e,_⟩:=h2;exact⟨p',e⟩
 cases rx;cases ry;rcases CG I hu h1 h2 hd with ⟨bf,its',a,b,e,k⟩ | ⟨bf,its',a,b,e,k⟩
 ·refine SeqAt.eq_tupleAt (e:=λ_=>true) a b ⋯ k ⟨.bl true,H,I,?_,q⟩;show Value.bool _=Value.bool true;rw[all_true,aan,aan,e];simp
 ·refine SeqAt.eq_listAt (e:=λ_=>true) a b (by simp only[aan];exact e) ⋯ k ⟨.bl true,H,I,?_,q⟩;show Value.bool _=Value.bool true;rw[all_true]
theorem tQ (hu:X.A.units+64<cLine):hZ X (compareOp .NotEq) (AX false):=by
 intro pins s σ H x y v u Q I rx ry h;obtain⟨d,h1,h2,⟨p,rfl⟩,hd,q⟩:=h;obtain⟨p',rfl⟩:∃p',y=.ref p':=by
  cases d with
  | bZ=>rw[Rep] at h1;cases h1
  | bl b=>rw[Rep] at h1;cases h1
  | int i=>rw[Rep] at h1;cases h1
  | str x=>rw[Rep] at h1;cases h1
  | tup l=>rw[Rep] at h2;obtain⟨p',_,e,_⟩:=h2;exact⟨p',e⟩
  | lst l=>rw[Rep] at h2;obtain⟨p',_,e,_⟩:=h2;exact⟨p',e⟩
 cases rx;cases ry;rcases CG I hu h1 h2 hd with ⟨bf,its',a,b,e,k⟩ | ⟨bf,its',a,b,e,k⟩
 ·refine SeqAt.RcNeAt.tuples (A:=X.A) (e:=λ_=>true) a b ⋯ k X.prog X.w X.xe _ ⟨.bl false,H,I,?_,q⟩;show Value.bool _=Value.bool false;rw[all_true,aan,aan,e];simp
 ·refine SeqAt.RcNeAt.lists (A:=X.A) (e:=λ_=>true) a b (by simp only[aan];exact e) ⋯ k X.prog X.w X.xe _ ⟨.bl false,H,I,?_,q⟩;show Value.bool _=Value.bool false;rw[all_true];rfl
abbrev rNeT:R2:=λx y H Q=>∃p q xs ys,x=.ref p/\y=.ref q/\H p=some (.tup xs)/\H q=some (.tup ys)/\xs.all cY=true/\ys.all cY=true/\Q (.bl (!Fo xs ys)) H
end
end L2
namespace Nm
abbrev ins (x:Int):List Int->List Int
 | []=>[x]
 | y::r=>if x<=y then x::y::r else y::ins x r
abbrev tR:List Int->List Int
 | []=>[]
 | x::r=>ins x (tR r)
theorem pB (x:Int):∀l,(ins x l).Perm (x::l)
 | []=>.refl _
 | y::r=>by
  unfold ins
  split
  ·exact .refl _
  ·exact((pB x r).cons y).trans (.swap ..)
theorem kY:∀l,(tR l).Perm l
 | []=>.refl _
 | x::r=>(pB x _).trans ((kY r).cons x)
set_option tactic.hygienic true in
theorem za (x:Int):∀l:List Int,l.Pairwise (·<=·)->(ins x l).Pairwise (·<=·)
 | [],_=>by unfold ins;simp
 | y::r,h=>by
  unfold ins;rw[List.pairwise_cons] at h
  split
  ·rename_i c
   rw[List.pairwise_cons,List.pairwise_cons];refine⟨λz hz=>?_,h.1,h.2⟩;rcases aaX.mp hz with rfl | hz
   ·exact c
   ·have:=h.1 z hz;lia
  ·rename_i c
   rw[List.pairwise_cons];refine⟨λz hz=>?_,za x r h.2⟩;rcases aaX.mp ((pB x r).mem_iff.mp hz) with rfl | hz
   ·lia
   ·exact h.1 z hz
theorem zb:∀l:List Int,(tR l).Pairwise (·<=·)
 | []=>by unfold tR;simp
 | x::r=>za x _ (zb r)
theorem ig (l:List Int):(tR l).length=l.length:=(kY l).length_eq
theorem zc:∀{a b:List Int},a.Perm b->a.Pairwise (·<=·)->b.Pairwise (·<=·)->a=b
 | [],b,p,_,_=>by simpa using p.symm.eq_nil
 | x::a,[],p,_,_=>by simpa using p.eq_nil
 | x::a,y::b,p,ha,hb=>by
  rw[List.pairwise_cons] at ha hb;have e:x=y:=by
   have h1:y∈x::a:=p.mem_iff.mpr aar;have h2:x∈y::b:=p.mem_iff.mp aar;rcases aaX.mp h1 with h1 | h1
   ·exact h1.symm
   ·rcases aaX.mp h2 with h2 | h2
    ·exact h2
    ·have:=ha.1 y h1;have:=hb.1 x h2;lia
  subst e;rw[zc ((List.perm_cons x).mp p) ha.2 hb.2]
theorem tS {a b:List Int} (p:a.Perm b) (o:a.Pairwise (·<=·)):a=tR b:=zc (p.trans (kY b).symm) o (zb b)
theorem FE {a:Int} {l:List Int}:a∈tR l↔a∈l:=(kY l).mem_iff
end Nm
namespace L2
open PySem PySem.Spec PyProof.Rows PySem.W
section
variable {X : Cx}
theorem xT {us:List Value} {ns:List Int} (h:IntsAre us ns):∃xs,us.toArray=intItems xs/\preSum (numAt xs) xs.size=ns.sum:=by
 obtain⟨xs,hx⟩:=h.allInts.items;refine⟨xs,hx,?_⟩;have e1:ns=xs.toList.map (·.1):=by
  rw[<-nums_intItems,<-hx];exact h.numsOf.symm
 rw[preSum_eq,aaz (by simp),e1]
theorem xU (hc:X.calm=true):cj X (.builtin "sum") (λxs H Q=>∃p ns,xs=[.ref p]/\bw X.K H p (List.map V.int ns)/\Q (.int ns.sum) H):=by
 intro pins s σ H xs us Q I r h;obtain⟨p,ns,rfl,hq,q⟩:=h;obtain⟨u,rfl,rx⟩:=vals1 r;cases rx;obtain⟨bf,rv,pl,hz⟩:=I.list hq;obtain⟨ys,e1,e2⟩:=xT (intsAre_of rv);have hl:=pl.isList;rw[e1] at hl;refine sum_intListG (I.ok.hd hc) hl λh' tk t' hk=>⟨.int ns.sum,H,I.kept (t':=tk) hk,⟨t',?_⟩,q⟩
 rw[e2]
theorem ij {us:List Value} {ns:List Int} (h:IntsAre us ns):br (ns.map V.int) us:=by
 induction h with
 | nil=>exact .nil
 | cons n t _ ih=>exact .cons ⟨t,rfl⟩ ih
theorem qK:cj X (.builtin "sorted") (λxs H Q=>∃p ns,xs=[.ref p]/\bw X.K H p (List.map V.int ns)/\ns.length<64/\∀l,H l=none->Q (.ref l) (upd H l (.lst (List.map V.int (Nm.tR ns))))):=by
 intro pins s σ H xs us Q I r h;obtain⟨p,ns,rfl,hq,hn,q⟩:=h;obtain⟨u,rfl,rx⟩:=vals1 r;cases rx;obtain⟨bf,rv,pl,hz⟩:=I.list hq;have hl:=rv.length;rw[aaj] at hl;refine sorted_ints pl.isList (intsAre_of rv) ⋯ λout Bv a1 a2 a3=>?_;obtain rfl:=Nm.tS a2 a3;obtain⟨e,he⟩:=sortedAll_at s.heap bf out;have fr:=I.bL.fresh (a:=s.heap.objs.size+1) (Nat.le_succ _);refine⟨.ref (s.heap.objs.size+1),_,I.laid (t':=s.toks) (λ_ _=>sortedAll_old) (Nat.le_succ _) (o:=.lst (List.map V.int (Nm.tR ns))) ⟨?_,out.toList,e,ij a1,?_⟩,rfl,q _ fr⟩
 ·rw[aaj,Nm.ig,sizeLine_eq];lia
 ·exact he
abbrev jF (kvs:List (Key×V)):List Int:=kvs.map λp=>match p.1 with | .inl i=>i | .inr _=>0
abbrev allI (kvs:List (Key×V)):Prop:=∀p∈kvs,∃i,p.1=Sum.inl i
theorem qL (hc:X.calm=true):cj X (.builtin "sorted") (λxs H Q=>∃d kvs,xs=[.ref d]/\Rd H d (.dK kvs)/\allI kvs/\kvs.length<64/\∀l,H l=none->Q (.ref l) (upd H l (.lst (List.map V.int (Nm.tR (jF kvs)))))):=by
 intro pins s σ H xs us Q I r h;obtain⟨d,kvs,rfl,hd,AL,hn,q⟩:=h;obtain⟨u,rfl,rx⟩:=vals1 r;cases rx;obtain⟨hz,lo,vs,kv,dd⟩:=nG I.bL hd;have hlen:kvs.length=vs.length:=Paired.length kv;obtain⟨ep,HD⟩:=dd.dictAt;refine Calls.call_function_entry kind_sorted plain_sorted entry_sorted (args_sorted1 _) ?_;unfold Builtin.«sorted»;refine wpAny_bind (m:=checkCount "sorted" 1 1 _) (wpAny_pure ?_);refine wpAny_bind (kdu_collect (A:=X.A.in1) (kdl_dict (kvs:=vs) (ep:=ep) lo) (I.ok.hd hc) HD (by rw[<-hlen,sizeLine_eq];lia) λh' tk acc hk xR=>?_);have hl:acc.toList.length=vs.length:=by rw[aaT];exact xR.1
 have hI:IntsAre acc.toList (jF kvs):=by
  have all:∀(j:Nat) v,acc.toList[j]?=some v->∃i t,v=Value.int i t/\(jF kvs)[j]?=some i:=λj v e=>by
   obtain⟨k,x,hx,hk⟩:=xR.2 j v (by rw[<-Array.getElem?_toList];exact e);obtain⟨p,e1,e2⟩:∃p,kvs[j]?=some p/\p.1=k:=by
    have:∀{as:List (Key×V)} {bs:List (Key×Value)} (j:Nat) {b},KV as bs->bs[j]?=some b->∃a,as[j]?=some a/\a.1=b.1:=by
     intro as bs j b r
     induction r generalizing j with
     | nil=>intro e;simp at e
     | cons r1 r2 ih=>
      intro e;cases j with
      | zero=>simp at e;subst e;exact⟨_,rfl,r1.1⟩
      | succ j=>simp at e;obtain⟨a,e1,e2⟩:=ih j e;exact⟨a,by simpa using e1,e2⟩
    obtain⟨a,e1,e2⟩:=this j kv hx;exact⟨a,e1,e2⟩
   obtain⟨i,hi⟩:=AL p (aay e1);rw[<-e2,hi] at hk;have hk:oY (.inl i) v=true:=hk;rcases cD hk with ⟨i',t,e3,e4⟩ | ⟨x',t,e3,_⟩
   ·cases e3;refine⟨i,t,e4,?_⟩;unfold jF;rw[aal,e1];simp [hi]
   ·cases e3
  have go:∀(us:List Value) (ns:List Int),us.length=ns.length->(∀(j:Nat) v,us[j]?=some v->∃i t,v=Value.int i t/\ns[j]?=some i)->IntsAre us ns:=by
   intro us
   induction us with
   | nil=>intro ns hl _;cases ns with | nil=>exact .nil | cons _ _=>simp at hl
   | cons u us ih=>
    intro ns hl k;cases ns with
    | nil=>simp at hl
    | cons n ns=>
     obtain⟨i,t,rfl,e⟩:=k 0 u rfl;simp at e;subst e;exact .cons n t (ih ns (by simpa using hl) λj v e=>by
      obtain⟨i,t,e1,e2⟩:=k (j+1) v (by simpa using e);exact⟨i,t,e1,by simpa using e2⟩)
  refine go _ _ ?_ all;unfold jF;rw[aaj,hl,hlen]
 refine wpAny_bind (wpAny_newList ?_ (by rw[hl,<-hlen,sizeLine_eq];lia));have MG:(h'.push (seqObj "list" acc.toList.toArray 0)).get? h'.objs.size=some (seqObj "list" acc.toList.toArray 0):=abw _ rfl;have I1:Inv X pins σ H {s with heap:=h',toks:=tk}:=I.kept (t':=tk) hk;refine wpAny_bind (wpAny_holding (wpAny_call_entry slot_list_sort ⟨_,MG,rfl⟩ entry_list_sort (list_sort_tree MG hI ⋯ λout Bv a1 a2 a3=>⟨_,rfl,?_⟩) (args_list_sort _)));obtain rfl:=Nm.tS a2 a3;obtain⟨e,he⟩:=sortedHeap_at (out:=out) MG;have fr:=I1.bL.fresh (a:=h'.objs.size) (aam _);refine wpAny_pure ⟨_,rfl,.ref h'.objs.size,_,I1.laid (t':=tk) (λb o eb=>?_) (aam _) (o:=.lst (List.map V.int (Nm.tR (jF kvs)))) ⟨?_,out.toList,e,ij a1,?_⟩,rfl,q _ fr⟩
 ·rw[sortedHeap_old (aav (abx eb)) (by rw[Heap.size_push];exact Nat.lt_succ_of_lt (abx eb))];exact abv _ eb
 ·rw[aaj,Nm.ig,sizeLine_eq];unfold jF;rw[aaj];lia
 ·exact he
end
section
variable {X : Cx} {pins : List (Addr × Obj)} {σ : St} {H : Hp} {s : Shared}
end
abbrev Zn (d:Addr) (o:Obj) (kvs:List (Key×V)):It:=
 ⟨λi H=>H d=some (.uT o (.dK kvs))/\i<kvs.length,λi H x H'=>H'=H/\∃p,kvs[i]?=some p/\x=kV p.1,λi H=>H d=some (.uT o (.dK kvs))/\i=kvs.length⟩
section
variable {X : Cx} {x : Str} {Zo : Pos}
abbrev iDict (tl:TE):TI:=λσ H R=>tl σ H λv H1=>∃d kvs,v=.ref d/\H1 d=some (.dK kvs)/\∀o,R (Zn d o kvs) (upd H1 d (.uT o (.dK kvs)))
end
open PySem PySem.Spec PyProof.Rows PySem.W
section
variable {X : Cx} {K : abk}
theorem bh {tg l:Expr} {tl:TE} (hl:PE X l tl) (hK:X.K=K:=by rfl):PI X tg l (iList K tl):=by subst hK;exact E4 hl
theorem qM {elts:List Expr} {kk:Nat} {iO:Pos} {a:Expr} {ta:TA} {p pos:Pos} (hg:Gl X "enumerate") (hm:X.mg "enumerate"=none) (ha:PA X [a] ta) (n1:noStar a=true:=by rfl) (hK:X.K=K:=by rfl):
  PI X (.Tuple elts kk iO) (.Call (.Name "enumerate" p) [a] [] pos) (iEnum K ta):=by subst hK;exact tP hg hm ha (by rw[se n1];rfl)
theorem e8 {es:List Expr} {k:Nat} {t:Hu} {n:Nat} {pos:Pos} (hc:X.calm=true) (h:L4 X es t) (hn:(assignEach es X.env).length=n:=by rfl) (kG:(assignEach es X.env).findIdx? (·.1)=none:=by rfl) (hK:X.K=K:=by rfl):PG X (.Tuple es k pos) (Av K n t):=by
 subst hK;exact Jw hc h hn kG
theorem si (hK:X.K=K:=by rfl):EJ X (JQ K):=by subst hK;exact Cb
theorem j9 (hK:X.K=K:=by rfl):cj X (.builtin "len") (λxs H Q=>∃p ns,xs=[.ref p]/\bw K H p (List.map V.int ns)/\Q (.int (List.length ns:Nat)) H):=by subst hK;exact AO
theorem jG (hK:X.K=K:=by rfl):hZ X (compareOp .NotIn) (Rc K true):=by subst hK;exact tH
theorem d7 (hK:X.K=K:=by rfl):cj X (.type "list") (λxs H Q=>∃p ys,xs=[.ref p]/\(bw K H p ys\/jD K H p ys)/\∀l,H l=none->Q (.ref l) (upd H l (.lst ys))):=by subst hK;exact tJ
theorem gR (hK:X.K=K:=by rfl):cj X (.builtin "isinstance") (λxs H Q=>∃x c t b,xs=[x,.ty c]/\js K H x t/\PySem.W.kitOne K t (.type c)=some b/\Q (.bl b) H):=by subst hK;exact Ce
theorem gS (hK:X.K=K:=by rfl):cj X (.builtin "isinstance") (λxs H Q=>∃ad C c v b,xs=[.ref ad,c]/\H ad=some (JU ad (.ref C))/\gJ K C/\S4 c=some v/\kitOne K (.ref C) v=some b/\Q (.bl b) H):=by subst hK;exact Cv
theorem iR (hc:X.calm=true:=by rfl) (hK:X.K=K:=by rfl):cj X (.builtin "sum") (λxs H Q=>∃p ns,xs=[.ref p]/\bw K H p (List.map V.int ns)/\Q (.int ns.sum) H):=by subst hK;exact xU hc
theorem pC (hK:X.K=K:=by rfl):cj X (.builtin "sorted") (λxs H Q=>∃p ns,xs=[.ref p]/\bw K H p (List.map V.int ns)/\ns.length<64/\∀l,H l=none->Q (.ref l) (upd H l (.lst (List.map V.int (Nm.tR ns))))):=by subst hK;exact qK
theorem pE (hc:X.calm=true:=by rfl):cj X (.builtin "sorted") (λxs H Q=>∃d kvs,xs=[.ref d]/\Rd H d (.dK kvs)/\allI kvs/\kvs.length<64/\∀l,H l=none->Q (.ref l) (upd H l (.lst (List.map V.int (Nm.tR (jF kvs)))))):=qL hc
theorem cM (hK:X.K=K:=by rfl):Rb X (rSlL K):=by subst hK;exact Fi
theorem L6.r {id:String} {r:V->List V->Hp->VK->Prop} (h:L6 X id r):JD X id r:=h
end
end L2
namespace Nm
@[inline]abbrev Ws:=List (Int×Int)
abbrev keys (ws:Ws):List Int:=ws.map (·.1)
abbrev look:Ws->Int->Int
 | [],_=>0
 | p::r,k=>if p.1=k then p.2 else look r k
abbrev put:Ws->Int->Int->Ws
 | [],k,v=>[(k,v)]
 | p::r,k,v=>if p.1=k then (k,v)::r else p::put r k v
abbrev pF (ws:Ws):Int:=(ws.map (·.2)).sum
abbrev jw (ws:Ws) (k x:Int):Ws:=put ws k (look ws k+x)
abbrev cP (ws ps:Ws):Ws:=ps.foldl (λacc p=>jw acc p.1 p.2) ws
abbrev cnt (ps:Ws) (s:Int):Int:=(ps.map λp=>if p.1=s then p.2 else 0).sum
set_option tactic.hygienic true in
theorem vA:∀(ws:Ws) (k v j:Int),look (put ws k v) j=if k=j then v else look ws j
 | [],k,v,j=>by simp [put,look]
 | p::r,k,v,j=>by
  unfold put
  split
  ·rename_i c
   simp only[look]
   by_cases e:k=j
   ·simp [e]
   ·rw[if_neg e,if_neg e,if_neg ⋯]
  ·rename_i c
   simp only[look]
   by_cases e:p.1=j
   ·rw[if_pos e,if_neg ⋯,if_pos e]
   ·rw[if_neg e,if_neg e];exact vA r k v j
set_option tactic.hygienic true in
theorem zd {ws:Ws} {k v j:Int}:j∈keys (put ws k v)↔j=k\/j∈keys ws:=by
 induction ws with
 | nil=>simp [put,keys]
 | cons p r ih=>
  unfold put
  split
  ·rename_i c
   simp only[keys,aak,aaX];rw[c];constructor
   ·intro h;exact .inr h
   ·rintro(h | h)
    ·exact .inl h
    ·exact h
  ·simp only[keys,aak,aaX] at ih ⊢;rw[ih];constructor
   ·rintro(h | h | h)
    ·exact .inr (.inl h)
    ·exact .inl h
    ·exact .inr (.inr h)
   ·rintro(h | h | h)
    ·exact .inr (.inl h)
    ·exact .inl h
    ·exact .inr (.inr h)
set_option tactic.hygienic true in
theorem AY {ws:Ws} (k v:Int) (h:(keys ws).Nodup):(keys (put ws k v)).Nodup:=by
 induction ws with
 | nil=>simp [put,keys]
 | cons p r ih=>
  have h':p.1∉keys r/\(keys r).Nodup:=by simpa [keys] using h
  unfold put
  split
  ·rename_i c
   have:k∉keys r/\(keys r).Nodup:=by rw[<-c];exact h'
   simpa [keys] using this
  ·rename_i c
   have i:=ih h'.2;have n:p.1∉keys (put r k v):=λz=>by
    rcases zd.mp z with z | z
    ·exact c z
    ·exact h'.1 z
   have:p.1∉keys (put r k v)/\(keys (put r k v)).Nodup:=⟨n,i⟩
   simpa [keys] using this
theorem vB:∀(ws:Ws) (k x:Int),pF (jw ws k x)=pF ws+x
 | [],k,x=>by simp [jw,put,look,pF]
 | p::r,k,x=>by
  have ih:=vB r k x;unfold jw pF at *;unfold put look
  by_cases c:p.1=k
  ·rw[if_pos c,if_pos c];simp only[aak,List.sum_cons];lia
  ·rw[if_neg c,if_neg c];simp only[aak,List.sum_cons];lia
theorem FG (ws:Ws) (k v:Int):(put ws k v).length<=ws.length+1:=by
 induction ws with
 | nil=>simp [put]
 | cons p r ih=>
  unfold put
  split
  ·simp
  ·simp only[aaw];lia
theorem nJ:∀(ps ws:Ws) (s:Int),look (cP ws ps) s=look ws s+cnt ps s
 | [],ws,s=>by simp [cP,cnt]
 | p::r,ws,s=>by
  have ih:=nJ r (jw ws p.1 p.2) s;show look (cP (jw ws p.1 p.2) r) s=_;rw[ih];unfold jw cnt;rw[vA];simp only[aak,List.sum_cons]
  by_cases c:p.1=s
  ·rw[if_pos c,if_pos c,c];lia
  ·rw[if_neg c,if_neg c];lia
theorem kc {s:Int}:∀{ps ws:Ws},s∈keys (cP ws ps)↔s∈keys ws\/s∈keys ps
 | [],ws=>by simp [cP,keys]
 | p::r,ws=>by
  show s∈keys (cP (jw ws p.1 p.2) r)↔_;rw[kc];unfold jw;rw[zd];simp only[keys,aak,aaX];constructor
  ·rintro((h | h) | h)
   ·exact .inr (.inl h)
   ·exact .inl h
   ·exact .inr (.inr h)
  ·rintro(h | h | h)
   ·exact .inl (.inr h)
   ·exact .inl (.inl h)
   ·exact .inr h
theorem kZ:∀{ps ws:Ws},(keys ws).Nodup->(keys (cP ws ps)).Nodup
 | [],_,h=>h
 | p::r,ws,h=>by
  show(keys (cP (jw ws p.1 p.2) r)).Nodup;exact kZ (AY _ _ h)
theorem pG:∀(ps ws:Ws),pF (cP ws ps)=pF ws+pF ps
 | [],ws=>by simp [cP,pF]
 | p::r,ws=>by
  show pF (cP (jw ws p.1 p.2) r)=_;rw[pG,vB];unfold pF;simp only[aak,List.sum_cons];lia
theorem pH:∀(ps ws:Ws),(cP ws ps).length<=ws.length+ps.length
 | [],ws=>by simp [cP]
 | p::r,ws=>by
  have h:=pH r (jw ws p.1 p.2);have h2:=FG ws p.1 (look ws p.1+p.2);show(cP (jw ws p.1 p.2) r).length<=_;unfold jw at *;simp only[aaw];lia
structure Over (as ws:Ws) (B T:Int):Prop where
 nd:(keys ws).Nodup
 perm:(keys as).Perm (keys ws)
 val:∀k∈keys ws,look as k*T=look ws k*B
theorem cZ {ws:Ws} {p:Int×Int} (h:(keys ws).Nodup) (hp:p∈ws):look ws p.1=p.2:=by
 induction ws with
 | nil=>cases hp
 | cons q r ih=>
  have h':q.1∉keys r/\(keys r).Nodup:=by simpa [keys] using h
  unfold look;rcases aaX.mp hp with rfl | hp
  ·rw[if_pos rfl]
  ·rw[if_neg (λz=>h'.1 (by rw[z];exact abt.mpr ⟨p,hp,rfl⟩))];exact ih h'.2 hp
abbrev rowsOf (ws:Ws) (B:Int):List (Int×Int×Int):=(tR (keys ws)).map λv=>(v,st (look ws v) B,sb (look ws v) B)
theorem qN (ws p q:Ws):cP ws (p++q)=cP (cP ws p) q:=by
 unfold cP;rw[List.foldl_append]
theorem vC (ws p:Ws) (k x:Int):cP ws (p++ [(k,x)])=jw (cP ws p) k x:=by
 rw[qN];rfl
theorem ze:∀{l:List Int},0<l.length->(∀x∈l,0<x)->0<l.sum
 | [],h,_=>by simp at h
 | x::r,_,h=>by
  have hx:=h x aar;rw[List.sum_cons]
  by_cases c:0<r.length
  ·have:=ze c λy hy=>h y (aap _ hy);lia
  ·have:r=[]:=List.eq_nil_of_length_eq_zero ⋯;subst this
   simpa using hx
theorem Ka {ws:Ws} (nd:(keys ws).Nodup) {P:Int->Prop} (h:∀k∈keys ws,P (look ws k)):∀x∈ws.map (·.2),P x:=λx hx=>by
 obtain⟨p,hp,rfl⟩:=abt.mp hx;have:=h p.1 (abt.mpr ⟨p,hp,rfl⟩)
 rwa [cZ nd hp] at this
theorem FH {ws:Ws} (h:0<ws.length) (nd:(keys ws).Nodup) (w:∀k∈keys ws,0<look ws k):0<pF ws:=
 ze (by rw[aaj];exact h) (Ka nd w)
theorem Kb {ps:Ws} (h:∀p∈ps,0<p.2) (s:Int):0<=cnt ps s:=by
 induction ps with
 | nil=>simp [cnt]
 | cons p r ih=>
  have i:=ih λq hq=>h q (aap _ hq);have hp:=h p aar;unfold cnt at *;rw[aak,List.sum_cons]
  split <;>lia
theorem oF {ps:Ws} (h:∀p∈ps,0<p.2) {s:Int} (hs:s∈keys ps):0<cnt ps s:=by
 induction ps with
 | nil=>simp [keys] at hs
 | cons p r ih=>
  have h':∀q∈r,0<q.2:=λq hq=>h q (aap _ hq);have hp:=h p aar;have n:=Kb h' s;have e:cnt (p::r) s=(if p.1=s then p.2 else 0)+cnt r s:=by unfold cnt;rw[aak,List.sum_cons]
  rw[e]
  by_cases c:p.1=s
  ·rw[if_pos c];lia
  ·rw[if_neg c];have Ng:s∈keys r:=by
    unfold keys at hs ⊢;rw[aak] at hs;rcases aaX.mp hs with z | z
    ·exact absurd z.symm c
    ·exact z
   have:=ih h' Ng;lia
end Nm
namespace L2
open PySem PySem.Spec PyProof.Rows
abbrev enc (ws:Nm.Ws):List (Key×V):=ws.map λp=>(Sum.inl p.1,V.int p.2)
theorem tT (ws:Nm.Ws):(enc ws).length=ws.length:=by unfold enc;rw[aaj]
theorem AZ (ws:Nm.Ws):jF (enc ws)=Nm.keys ws:=by
 unfold jF enc Nm.keys;rw[aaJ];rfl
theorem CI (ws:Nm.Ws):allI (enc ws):=λp hp=>by
 unfold enc at hp;obtain⟨q,_,rfl⟩:=abt.mp hp;exact⟨q.1,rfl⟩
theorem zf (ws:Nm.Ws) (k:Int):dU (enc ws) (Sum.inl k)=if k∈Nm.keys ws then some (.int (Nm.look ws k)) else none:=by
 induction ws with
 | nil=>simp [enc,dU,Nm.keys]
 | cons p r ih=>
  unfold dU at *;unfold enc at *;rw[aak,List.find?_cons];unfold Nm.look
  by_cases c:p.1=k
  ·rw[show decide ((Sum.inl p.1:Key)=Sum.inl k)=true by rw[c];simp];simp [Nm.keys,c]
  ·rw[show decide ((Sum.inl p.1:Key)=Sum.inl k)=false by simpa using c];simp only[ih];have e:(k∈Nm.keys (p::r))=(k∈Nm.keys r):=by
    unfold Nm.keys;rw[aak,aaX];apply propext;constructor
    ·rintro(h | h)
     ·exact absurd h.symm c
     ·exact h
    ·exact .inr
   simp only[e,if_neg c]
theorem FI {ws:Nm.Ws} (nd:(Nm.keys ws).Nodup) (k v:Int):putK (enc ws) (Sum.inl k) (.int v)=enc (Nm.put ws k v):=by
 have key:∀{ws:Nm.Ws},k∉Nm.keys ws->(enc ws).map (λkv=>if kv.1=(Sum.inl k:Key) then (kv.1,V.int v) else kv)=enc ws:=by
  intro ws h;unfold enc;rw[aaJ];apply List.map_congr_left;intro p hp;have:p.1≠k:=λz=>h (by rw[<-z];exact abt.mpr ⟨p,hp,rfl⟩);simp [this]
 have any:∀ws:Nm.Ws,((enc ws).any λkv=>decide (kv.1=(Sum.inl k:Key)))=decide (k∈Nm.keys ws):=by
  intro ws
  induction ws with
  | nil=>simp [enc,Nm.keys]
  | cons p r ih=>
   unfold enc at *;rw[aak,List.any_cons,ih];unfold Nm.keys;rw[aak]
   by_cases c:p.1=k
   ·simp [c]
   ·have c2:¬k=p.1:=λz=>c z.symm;simp [c,c2]
 unfold putK;rw[any];clear any
 by_cases c:k∈Nm.keys ws
 ·rw[if_pos (by simpa using c)]
  induction ws with
  | nil=>simp [Nm.keys] at c
  | cons p r ih=>
   have h':p.1∉Nm.keys r/\(Nm.keys r).Nodup:=by simpa [Nm.keys] using nd
   unfold Nm.put
   by_cases e:p.1=k
   ·rw[if_pos e];have:=key (ws:=r) (by rw[<-e];exact h'.1);unfold enc at *;rw[aak,aak,this,aak];simp [e]
   ·rw[if_neg e];have c':k∈Nm.keys r:=by
     unfold Nm.keys at c ⊢;rw[aak] at c;rcases aaX.mp c with z | z
     ·exact absurd z.symm e
     ·exact z
    have:=ih h'.2 c';unfold enc at *;rw[aak,aak,this,aak];simp [e]
 ·rw[if_neg (by simpa using c)]
  induction ws with
  | nil=>simp [enc,Nm.put]
  | cons p r ih=>
   have h':p.1∉Nm.keys r/\(Nm.keys r).Nodup:=by simpa [Nm.keys] using nd
   have e:¬p.1=k:=λz=>c (by unfold Nm.keys;rw[aak,z];exact aar);have c':k∉Nm.keys r:=λz=>c (by unfold Nm.keys at *;rw[aak];exact aap _ z);unfold Nm.put;rw[if_neg e];have:=ih h'.2 c';unfold enc at *;rw[aak,aaY,this,aak]
theorem FJ {H:Hp} {d:Addr} {ws:Nm.Ws} {v:Int} (h:Rd H d (.dK (enc ws))) (hv:v∈Nm.keys ws):jt H d (.int v) (some (.int (Nm.look ws v))):=
 .inl ⟨_,Sum.inl v,h,rfl,by rw[zf,if_pos hv]⟩
theorem CJ {H:Hp} {d:Addr} {ws:Nm.Ws} {v:Int} (h:H d=some (.dK (enc ws))) (hv:v∈Nm.keys ws):jt H d (.int v) (some (.int (Nm.look ws v))):=FJ (.inl h) hv
theorem CK {ws:Nm.Ws} {v:Int} (h:v∉Nm.keys ws):Nm.look ws v=0:=by
 induction ws with
 | nil=>rfl
 | cons p r ih=>
  unfold Nm.keys at h;rw[aak] at h;unfold Nm.look;rw[if_neg (λz=>h (by rw[z];exact aar))];exact ih λz=>h (aap _ z)
theorem A0 {H:Hp} {d:Addr} {ws:Nm.Ws} (v:Int) (h:Rd H d (.dK (enc ws))):∃o,jt H d (.int v) o/\o.getD (.int 0)=.int (Nm.look ws v):=by
 refine⟨_,.inl ⟨_,Sum.inl v,h,rfl,rfl⟩,?_⟩;rw[zf]
 by_cases c:v∈Nm.keys ws
 ·rw[if_pos c];rfl
 ·rw[if_neg c,CK c];rfl
theorem CL {H:Hp} {d:Addr} {ws:Nm.Ws} (v x:Int) (h:H d=some (.dK (enc ws))) (nd:(Nm.keys ws).Nodup) (hl:ws.length<sizeLine):xN H d (.int v) (.int x) (upd H d (.dK (enc (Nm.put ws v x)))):=by
 have:=xN.k (k:=Sum.inl v) (v:=.int x) h (by rw[tT];exact hl);rw[FI nd] at this;exact this
abbrev FK (r:Int×Int×Int):Dat:=.tup [.int r.1,.tup [.int r.2.1,.int r.2.2]]
abbrev k7 (rows:List (Int×Int×Int)):Dat:=.lst (rows.map FK)
abbrev dA (p:Int×Int):Dat:=.tup [.int p.1,.int p.2]
abbrev CM (ws:Nm.Ws):Dat:=.lst (ws.map dA)
theorem oG {H:Hp} {r:Int×Int×Int} {v:V}:Rep H (FK r) v↔∃p q,v=.ref p/\H p=some (.tup [.int r.1,.ref q])/\H q=some (.tup [.int r.2.1,.int r.2.2]):=by
 unfold FK;simp only[Rep,bg];constructor
 ·rintro⟨p,vs,rfl,hp,a,b,rfl,rfl,c,d,rfl,⟨q,us,rfl,hq,e,f,rfl,rfl,g,h,rfl,rfl,rfl⟩,rfl⟩;exact⟨p,q,rfl,hp,hq⟩
 ·rintro⟨p,q,rfl,hp,hq⟩;exact⟨p,_,rfl,hp,_,_,rfl,rfl,_,_,rfl,⟨q,_,rfl,hq,_,_,rfl,rfl,_,_,rfl,rfl,rfl⟩,rfl⟩
theorem b7 {H:Hp} {r:Int×Int} {v:V}:Rep H (dA r) v↔∃p,v=.ref p/\H p=some (.tup [.int r.1,.int r.2]):=by
 unfold dA;simp only[Rep,bg];constructor
 ·rintro⟨p,vs,rfl,hp,a,b,rfl,rfl,c,d,rfl,rfl,rfl⟩;exact⟨p,rfl,hp⟩
 ·rintro⟨p,rfl,hp⟩;exact⟨p,_,rfl,hp,_,_,rfl,rfl,_,_,rfl,rfl,rfl⟩
theorem ba {H:Hp} {ds:List Dat} {v:V}:Rep H (.lst ds) v↔∃p vs,v=.ref p/\H p=some (.lst vs)/\bg H ds vs:=by rw[Rep]
abbrev Xi (H H':Hp):Prop:=∀p xs,(H p=some (.tup xs)->H' p=some (.tup xs))/\(H p=some (.lst xs)->H' p=some (.lst xs))
mutual
theorem Rep.Nj {H H':Hp} (s:Xi H H'):∀{d:Dat} {v:V},Rep H d v->Rep H' d v
 | .bZ,_,h=>by rw[Rep] at *;exact h
 | .bl _,_,h=>by rw[Rep] at *;exact h
 | .int _,_,h=>by rw[Rep] at *;exact h
 | .str _,_,h=>by rw[Rep] at *;exact h
 | .tup _,_,h=>by
  rw[Rep] at *;obtain⟨p,vs,e,hp,r⟩:=h;exact⟨p,vs,e,(s _ _).1 hp,bg.Nj s r⟩
 | .lst _,_,h=>by
  rw[Rep] at *;obtain⟨p,vs,e,hp,r⟩:=h;exact⟨p,vs,e,(s _ _).2 hp,bg.Nj s r⟩
theorem bg.Nj {H H':Hp} (s:Xi H H'):∀{ds:List Dat} {vs:List V},bg H ds vs->bg H' ds vs
 | [],_,h=>by rw[bg] at *;exact h
 | _::_,_,h=>by
  rw[bg] at *;obtain⟨v,r,e,h1,h2⟩:=h;exact⟨v,r,e,Rep.Nj s h1,bg.Nj s h2⟩
end
theorem none_of {H H':Hp} (s:aB H H') {p:Addr} (h:H' p=none):H p=none:=by
 cases e:H p with
 | none=>rfl
 | some o=>rw[s p o e] at h;cases h
end L2
namespace Nm
end Nm
namespace L2
open PySem PySem.Spec PyProof.Rows
theorem mF {α:Type} {J:It} {tc:TT} {te:TE} {tl:St} {H1:Hp} {fin:List V->Hp->Prop} {Item:Nat->V->Hp->Hp->Prop} (as:List α) (f:α->Option Int) (S:Src J (aB H1) as.length Item) (sub:∀i x H H3,Item i x H H3->H3=H) (hz:as.length<=sizeLine)
  (hs:∀i a x,as[i]?=some a->Item i x H1 H1->∀(Y:VK) (N:Hp->Prop),(∀z,f a=some z->Y (.int z) H1)->(f a=none->N H1)->tc (some x::tl) H1 λb H5=>if b=true then te (some x::tl) H5 Y else N H5)
  (mD:fin (List.map V.int (as.filterMap f)) H1):fU J (gName 0) tc te (none::tl) H1 fin:=by
 refine gP S (λσ=>∃w0,σ=w0::tl) ⟨_,rfl⟩ (λi ys H=>H=H1/\ys=List.map V.int ((as.take i).filterMap f)) ⟨rfl,by simp⟩ hz ?_ ?_
 ·rintro i x σ H ys H3 Q N hi sm ⟨rfl,rfl⟩ hl ⟨w0,rfl⟩ it kq kn;obtain rfl:=sub _ _ _ _ it;have ea:as[i]?=some as[i]:=aao hi;refine hs i _ x ea it _ _ (λz e=>kq _ _ _ ⟨_,rfl⟩ sm ⟨rfl,?_⟩) (λe=>kn _ _ ⟨_,rfl⟩ sm ⟨rfl,?_⟩)
  ·rw[aaK,ea,abd,aaq];simp [e]
  ·rw[aaK,ea,abd,aaq];simp [e]
 ·rintro ys H sm ⟨rfl,rfl⟩ hl;rw[aaz (aam _)];exact mD
theorem pI {K:abk} {α:Type} {J:It} {tc:TT} {te:TE} {tl:St} {H1:Hp} {fin:List V->Hp->Prop} {Item:Nat->V->Hp->Hp->Prop} (as:List α) (f:α->Option Int) (S:Src J (aB H1) as.length Item) (sub:∀i x H H3,Item i x H H3->H3=H) (hz:as.length<=sizeLine)
  (hs:∀i a x,as[i]?=some a->Item i x H1 H1->∃p u v,x=.ref p/\jD K H1 p [u,v]/\∀(Y:VK) (N:Hp->Prop),(∀z,f a=some z->Y (.int z) H1)->(f a=none->N H1)->tc (some u::some v::tl) H1 λb H5=>if b=true then te (some u::some v::tl) H5 Y else N H5)
  (mD:fin (List.map V.int (as.filterMap f)) H1):fU J (Av K 2 (gCons (gName 0) (gCons (gName 1) gNil))) tc te (none::none::tl) H1 fin:=by
 refine gP S (λσ=>∃w0 w1,σ=w0::w1::tl) ⟨_,_,rfl⟩ (λi ys H=>H=H1/\ys=List.map V.int ((as.take i).filterMap f)) ⟨rfl,by simp⟩ hz ?_ ?_
 ·rintro i x σ H ys H3 Q N hi sm ⟨rfl,rfl⟩ hl ⟨w0,w1,rfl⟩ it kq kn;obtain rfl:=sub _ _ _ _ it;have ea:as[i]?=some as[i]:=aao hi;obtain⟨p,u,v,rfl,sq,k⟩:=hs i _ x ea it;refine⟨p,_,rfl,sq,rfl,_,_,rfl,_,_,rfl,rfl,?_⟩;refine k _ _ (λz e=>kq _ _ _ ⟨_,_,rfl⟩ sm ⟨rfl,?_⟩) (λe=>kn _ _ ⟨_,_,rfl⟩ sm ⟨rfl,?_⟩)
  ·rw[aaK,ea,abd,aaq];simp [e]
  ·rw[aaK,ea,abd,aaq];simp [e]
 ·rintro ys H sm ⟨rfl,rfl⟩ hl;rw[aaz (aam _)];exact mD
theorem FL {α β:Type} (f:α->β) (l:List α):l.filterMap (λa=>some (f a))=l.map f:=by
 rw[<-List.filterMap_eq_map];rfl
open PySem PySem.Spec PyProof.Rows PySem.W
section
variable {X : Cx} {K : abk}
theorem vD:∀{us:List Value} {bs:List Bool},br (bs.map V.bl) us->LSm.BoolsAre us bs
 | _,[],.nil=>.nil
 | _,b::bs,.cons r t=>by
  have e:_=Value.bool b:=r;subst e;exact .cons b (vD t)
theorem xV (hc:X.calm=true):cj X (.builtin "all") (λxs H Q=>∃p bs,xs=[.ref p]/\bw X.K H p (List.map V.bl bs)/\Q (.bl (bs.all id)) H):=by
 intro pins s σ H xs us Q I r h;obtain⟨p,bs,rfl,hq,q⟩:=h;obtain⟨u,rfl,rx⟩:=vals1 r;cases rx;obtain⟨bf,rv,pl,hz⟩:=I.list hq;have hb:=vD rv;have hl:=pl.isList;have nI:p<s.heap.objs.size:=by obtain⟨_,e,_⟩:=hl;exact abx e
 refine call_all_walk (wpAny_pyIter_list hl ?_);refine⟨s.heap.objs.size,[s.heap.objs.size,p],[s.heap.objs.size],bf.toArray.size,_,_,λi=>(bs[i]?).getD true,rfl,Walks.list (A:=X.A.in1) (I.ok.hd hc) _ p (aav nI) bf.toArray,
  ⟨⟨_,abw _ rfl,rfl,rfl⟩,hl.push _⟩,λi v s' Q' E' hP hQ=>?_,λh' tk hk=>?_⟩
 ·obtain⟨b,e,rfl⟩:=hb.get i v (by simpa using hP);simp only[e,Option.getD_some] at hQ;exact wpAny_truthy_bool hQ
 ·have e:((List.range bf.toArray.size).all λi=>(bs[i]?).getD true)=bs.all id:=by
   rw[aan,hb.length];exact LSm.range_all bs
  rw[e];exact⟨.bl _,H,I.kept (t':=tk) (LSm.kept_iter hk),rfl,q⟩
theorem vE (hc:X.calm=true:=by rfl) (hK:X.K=K:=by rfl):cj X (.builtin "all") (λxs H Q=>∃p bs,xs=[.ref p]/\bw K H p (List.map V.bl bs)/\Q (.bl (bs.all id)) H):=by subst hK;exact xV hc
theorem Kc {as:List (Key×V)} {bs:List (Key×Value)} (r:KV as bs):∀(j:Nat) {b},bs[j]?=some b->∃a,as[j]?=some a/\RelV a.2 b.2:=by
 induction r with
 | nil=>intro j b e;simp at e
 | cons r1 r2 ih=>
  intro j b e;cases j with
  | zero=>simp at e;subst e;exact⟨_,rfl,r1.2⟩
  | succ j=>simp at e;obtain⟨a,e1,e2⟩:=ih j e;exact⟨a,by simpa using e1,e2⟩
theorem vF (ns:List Int):preSum (λi=>ns.getD i 0) ns.length=ns.sum:=by
 have e:=preSum_eq (ns.map λn=>(n,(0:Nat))).toArray ns.length;have f:(λi=>ns.getD i 0)=numAt (ns.map λn=>(n,(0:Nat))).toArray:=by
  funext i;unfold numAt;simp only[List.getElem?_toArray,aal,aaV];cases ns[i]? <;>rfl
 rw[f];refine e.trans ?_;rw[aaz (by simp)];congr 1;simp [Function.comp_def]
abbrev tSumV (to:TE):TE:=λσ H Q=>to σ H λv H1=>∃d kvs ns,v=.ref d/\H1 d=some (.dK kvs)/\kvs.map (·.2)=List.map V.int ns/\Q (.int ns.sum) H1
theorem xW {o:Expr} {to:TE} {p apos dk pos:Pos} (hc:X.calm=true) (hg:Gl X "sum") (hm:X.mg "sum"=none) (ho:PE X o to)
  (vm:attributeBase o "values" X.env (eval o X.env)=eval o X.env:=by rfl) (B5:(apos.endLine==dk.line)=true:=by rfl)
  (he:starEach [Expr.Call (.Attribute o "values" apos) [] [] dk] X.env=[(false,eval (.Call (.Attribute o "values" apos) [] [] dk) X.env)]:=by rfl):
  PE X (.Call (.Name "sum" p) [.Call (.Attribute o "values" apos) [] [] dk] [] pos) (tSumV to):=by
 intro pins s σ H Q I h;refine wpAny_Call_Name_kw (gH I hg hm (u:=.builtin "sum") rfl ?_ ∅ ∅);rw[he];refine PySem.callWith_builtin1 ?_;refine wpAny_Call_method0_late vm B5 (cb (ho pins s σ H _ I h) λv s1 dG=>?_);obtain⟨x,H1,I1,r1,q1⟩:=dG;obtain⟨d,kvs,ns,rfl,hd,hv,q⟩:=q1;obtain⟨h1,h2⟩:=B4 (T:="dict") I1 r1 (.inr (.inr (.inl ⟨rfl,.inl ⟨_,hd⟩⟩)));cases r1;obtain⟨hz,lo,vs,kv,dd⟩:=B8 I1.bL hd;have hlen:kvs.length=vs.length:=Paired.length kv;refine⟨"dict","dict.values",PySem.F.plainAttrs_dict,PySem.F.slot_dict_values,PySem.F.type_dict_values,h1,h2,Calls.callWith_builtin rfl (PySem.evalArgs_none ?_)⟩;refine call_meetsIn PySem.F.slot_dict_values dd.typeIs PySem.F.entry_dict_values (PySem.F.args_dict_values_1 _) (meets_dict_values _ d lo) ⟨⟨vs,dd⟩,?_⟩;have I2:Inv X pins σ H1 {s1 with heap:=s1.heap.push {cls:=.type "dict_values",data:=.fields #[.ref d]}}:=I1.kept (t':=s1.toks) λb o e=>abv _ e;obtain⟨hz,lo,vs,kv,dd⟩:=B8 I2.bL hd;have hlen:kvs.length=vs.length:=Paired.length kv;obtain⟨ep,HD⟩:=dd.dictAt;have hn:ns.length=vs.length:=by
  have:=congrArg List.length hv;rw[aaj,aaj] at this;lia
 have Ks:=kdl_values (prog:=X.prog) (w:=X.w) (r:=s1.heap.objs.size) (d:=d) (knd:=cA X.prog X.w) (kvs:=vs) (ep:=ep);have bL:({s1 with heap:=s1.heap.push {cls:=.type "dict_values",data:=.fields #[.ref d]}}:Shared).heap.IsValuesView s1.heap.objs.size d/\({s1 with heap:=s1.heap.push {cls:=.type "dict_values",data:=.fields #[.ref d]}}:Shared).heap.DictAt (cA X.prog X.w) d vs ep:=⟨⟨_,abw _ rfl,rfl,rfl⟩,HD⟩
 refine call_sum_walkAnyS ?_;obtain⟨oI,St,hit,W,st⟩:=Ks.iter X.A.in1 _ (I.ok.hd hc) bL;refine hit _ _ ⟨_,_,_,_,vs.length,_,_,λi=>ns.getD i 0,rfl,W.toS,st,λb hb=>?_,λi v hP=>?_,λs' t' Rk=>?_⟩
 ·show b< (Heap.push _ oI).objs.size;rw[size_push'];rcases aaX.mp hb with e | hb
  ·rw[e];exact aa4 _
  ·rw[abu.mp hb];exact Nat.lt_succ_of_lt (Ks.there _ bL).2
 ·obtain⟨k,e⟩:=hP;obtain⟨a,e1,e2⟩:=Kc kv i e;have e3:(kvs.map (·.2))[i]?=some a.2:=by rw[aal,e1];rfl
  rw[hv,aal] at e3;obtain⟨n,en,ea⟩:=abq.mp e3;rw[<-ea] at e2;obtain⟨t,e2⟩:=e2;refine⟨t,?_⟩;show v=Value.int (ns.getD i 0) t;rw[aaV,en];exact e2
 ·have hk:∀b o,(s1.heap.push {cls:=.type "dict_values",data:=.fields #[.ref d]}).get? b=some o->s'.heap.get? b=some o:=λb o e=>
   Rk.heap b o (λhI=>absurd (abx e) (by rw[abu.mp hI];exact aaL _)) (abv _ e)
  rw[Moved.eq_with Rk,<-hn,vF];exact⟨.int ns.sum,H1,I2.kept (t':=s'.toks) hk,⟨t',rfl⟩,q⟩
theorem dP {α:Type} {J:It} {tc:TT} {te:TE} {tl:St} {H1:Hp} {fin:List V->Hp->Prop} {Item:Nat->V->Hp->Hp->Prop} (as:List α) (f:α->Option V) (S:Src J (aB H1) as.length Item) (sub:∀i x H H3,Item i x H H3->H3=H) (hz:as.length<=sizeLine)
  (hs:∀i a x,as[i]?=some a->Item i x H1 H1->∀(Y:VK) (N:Hp->Prop),(∀z,f a=some z->Y z H1)->(f a=none->N H1)->tc (some x::tl) H1 λb H5=>if b=true then te (some x::tl) H5 Y else N H5)
  (mD:fin (as.filterMap f) H1):fU J (gName 0) tc te (none::tl) H1 fin:=by
 refine gP S (λσ=>∃w0,σ=w0::tl) ⟨_,rfl⟩ (λi ys H=>H=H1/\ys=(as.take i).filterMap f) ⟨rfl,by simp⟩ hz ?_ ?_
 ·rintro i x σ H ys H3 Q N hi sm ⟨rfl,rfl⟩ hl ⟨w0,rfl⟩ it kq kn;obtain rfl:=sub _ _ _ _ it;have ea:as[i]?=some as[i]:=aao hi;refine hs i _ x ea it _ _ (λz e=>kq _ _ _ ⟨_,rfl⟩ sm ⟨rfl,?_⟩) (λe=>kn _ _ ⟨_,rfl⟩ sm ⟨rfl,?_⟩)
  ·rw[aaK,ea,abd];simp [e]
  ·rw[aaK,ea,abd];simp [e]
 ·rintro ys H sm ⟨rfl,rfl⟩ hl;rw[aaz (aam _)];exact mD
theorem dq {a b:TS} {D:Ends} {σ:St} {H:Hp} (C:St->Hp->Prop) (ha:∀N:St->Hp->Prop,(∀σ' H',C σ' H'->N σ' H')->a {D with nx:=N} σ H) (hb:∀σ' H',C σ' H'->b D σ' H'):tSeq a b D σ H:=ha _ hb
theorem xX {tc:TT} {a b:TS} {D:Ends} {σ:St} {H:Hp} (C1 C2:Hp->Prop) (h1:∀H',C1 H'->a D σ H') (h2:∀H',C2 H'->b D σ H')
  (ht:∀Y N:Hp->Prop,(∀H',C1 H'->Y H')->(∀H',C2 H'->N H')->tc σ H λv H'=>if v=true then Y H' else N H'):tIfS tc a b D σ H:=ht _ _ h1 h2
end
end L2
namespace Nm
abbrev pos (ps:Ws):Ws:=ps.filter λp=>decide (0<p.2)
abbrev jH (ps:Ws):Ws:=cP [] (pos ps)
abbrev bad (ps:Ws):Prop:=(∃p∈ps,p.2<0)\/pos ps=[]
theorem CN (ps:Ws) (p:Int×Int):pos (ps++ [p])=if 0<p.2 then pos ps++ [p] else pos ps:=by
 unfold pos;rw[List.filter_append]
 by_cases c:0<p.2
 ·rw[if_pos c];simp [c]
 ·rw[if_neg c];simp [c]
theorem CO (ps:Ws) (p:Int×Int):jH (ps++ [p])=if 0<p.2 then jw (jH ps) p.1 p.2 else jH ps:=by
 unfold jH;rw[CN]
 split
 ·rw[vC]
 ·rfl
theorem mG (ps:Ws):(keys (jH ps)).Nodup:=kZ (by simp [keys])
theorem zg (ps:Ws):(jH ps).length<=ps.length:=by
 have:=pH (pos ps) [];have h2:(pos ps).length<=ps.length:=List.length_filter_le _ _;unfold jH;simp only[List.length_nil] at this;lia
theorem zh {ps:Ws}:jH ps=[]↔pos ps=[]:=by
 constructor
 ·intro h;cases e:pos ps with
  | nil=>rfl
  | cons p r=>
   have m:p.1∈keys (jH ps):=by
    unfold jH;rw[e];exact kc.mpr (.inr (by simp [keys]))
   rw[h] at m;simp [keys] at m
 ·intro h;unfold jH;rw[h];rfl
theorem FN (ps:Ws):∀p∈pos ps,0<p.2:=λp hp=>by
 unfold pos at hp
 simpa using (List.mem_filter.mp hp).2
theorem FO (ps:Ws):∀k∈keys (jH ps),0<look (jH ps) k:=λk hk=>by
 unfold jH at *;rw[nJ];have h:k∈keys (pos ps):=by
  rcases kc.mp hk with z | z
  ·simp [keys] at z
  ·exact z
 have:=oF (FN ps) h;simp only[look];lia
theorem FP (ps:Ws):pF (jH ps)=pF (pos ps):=by
 unfold jH;rw[pG];simp [pF]
theorem pJ {c:Int} (c0:0<=c):∀{ps:Ws},(∀p∈ps,p.2<=c)->pF (pos ps)<=ps.length*c
 | [],_=>by simp [pos,pF]
 | p::r,h=>by
  have ih:=pJ c0 λq hq=>h q (aap _ hq);have hp:=h p aar;rw[aaw,Int.natCast_succ,Int.add_mul];unfold pos at *;rw[List.filter_cons]
  split
  ·rw[show pF (p::List.filter (λp=>decide (0<p.2)) r)=p.2+pF (List.filter (λp=>decide (0<p.2)) r) from by unfold pF;rw[aak,List.sum_cons]];lia
  ·lia
end Nm
namespace L2
open PySem PySem.Spec PyProof.Rows PySem.W
section
variable {X : Cx} {K : abk}
theorem zi:∀{us:List Value} {ts:List Str},br (ts.map V.str) us->∃l:List (Str×Tok),strValues l=us/\l.map (·.1)=ts
 | _,[],.nil=>⟨[],rfl,rfl⟩
 | _,x::ts,.cons r t=>by
  obtain⟨k,rfl⟩:=(r:∃k,_=Value.str x k)
  obtain⟨l,rfl,rfl⟩:=zi t;exact⟨(x,k)::l,rfl,rfl⟩
abbrev rJoin (K:abk):V->List V->Hp->VK->Prop:=λx xs H Q=>∃sep p ts,x=.str sep/\xs=[.ref p]/\bw K H p (List.map V.str ts)/\JoinOk sep ts=true/\Q (.str (Txt.join sep ts)) H
theorem FQ:JD X "str.join" (rJoin X.K):=by
 intro pins s σ H x xs v us Q I rx rv h;obtain⟨sep,p,ts,rfl,rfl,hq,ok,q⟩:=h;obtain⟨t,rfl⟩:=rx;obtain⟨u,rfl,ru⟩:=vals1 rv;cases ru;obtain⟨bf,r,pl,hz⟩:=I.list hq;obtain⟨l,rfl,e2⟩:=zi r;exact SC.join pl.isList e2 ok λt' k=>⟨.str _,H,I.tok _,⟨_,rfl⟩,q⟩
theorem vG (hK:X.K=K:=by rfl):JD X "str.join" (rJoin K):=by subst hK;exact FQ
theorem pK:cj X (.type "str") (λxs H Q=>∃i,xs=[.int i]/\i.natAbs.log2<1920/\Q (.str (toString i)) H):=tj
theorem xY:cj X (.type "int") (λxs H Q=>∃k,xs=[.bl k]/\Q (.int (if k then 1 else 0)) H):=by
 intro pins s σ H xs us Q I r h;exact AB pins s σ H xs us Q I r (.inr h)
@[inline]abbrev TJ:=Str->TE
abbrev jNil:TJ:=λacc _ H Q=>Q (.str acc) H
abbrev jLit (x:Str) (t:TJ):TJ:=λacc σ H Q=>(acc++x).length<=sizeLine/\t (acc++x) σ H Q
abbrev jInt (te:TE) (t:TJ):TJ:=λacc σ H Q=>te σ H λv H1=>∃i,v=.int i/\i.natAbs.log2<1920/\(acc++toString i).length<=sizeLine/\t (acc++toString i) σ H1 Q
abbrev jStr (te:TE) (t:TJ):TJ:=λacc σ H Q=>te σ H λv H1=>∃z,v=.str z/\z.length<=sizeLine/\(acc++z).length<=sizeLine/\t (acc++z) σ H1 Q
abbrev tJoined (t:TJ):TE:=λσ H Q=>t Str.empty σ H Q
end
open PySem PySem.Spec PyProof.Rows PySem.W
inductive Pl where
 | fin (w:Int×Int) | eC (w:Int×Int) (ws:List (Int×Int)) | pck (sj:Int) (to:List Int)
theorem pL {ds:List Dat} {n:Nat} (h:∀d∈ds,depth d<=n):depth.dL ds<=n:=by
 induction ds with
 | nil=>rw[depth.dL];lia
 | cons d ds ih=>
  rw[depth.dL];have:=h d aar;have:=ih λe he=>h e (aap _ he);lia
theorem xZ (p:Int×Int):depth (dA p)=1:=by simp [dA,depth,depth.dL]
abbrev df (H:Hp) (p:Addr):Hp:=λa=>if a=p then none else H a
theorem cQ {H:Hp} {p a:Addr} (h:a≠p):df H p a=H a:=if_neg h
theorem FR {H:Hp} {p:Addr} {o:HO}:aB (df H p) (upd H p o):=λa u e=>by
 unfold df at e
 by_cases h:a=p
 ·rw[if_pos h] at e;cases e
 ·rw[if_neg h] at e;rw[aD h];exact e
theorem dr {H:Hp} {p:Addr}:aB (df H p) H:=λa u e=>by
 unfold df at e
 by_cases h:a=p
 ·rw[if_pos h] at e;cases e
 ·rw[if_neg h] at e;exact e
theorem CP {H0 H:Hp} {p:Addr} (s:aB H0 H) (n:H0 p=none):aB H0 (df H p):=λa u e=>by
 rw[cQ (λz=>by rw[z,n] at e;cases e)];exact s _ _ e
theorem gU {H H':Hp} {p:Addr} (s:aB H H'):aB (df H p) (df H' p):=λa u e=>by
 unfold df at *
 by_cases h:a=p
 ·rw[if_pos h] at e;cases e
 ·rw[if_neg h] at e ⊢;exact s _ _ e
theorem cF {H0 H:Hp} {p:Addr} {o:HO} (s:aB H0 H) (n:H0 p=none):aB H0 (upd H p o):=(CP s n).trans FR
section
variable {X : Cx} {K : abk}
abbrev Nk:R2:=λx y H Q=>∃p q xs ys,x=.ref p/\y=.ref q/\H p=some (.lst xs)/\H q=some (.lst ys)/\xs.all cY=true/\ys.all cY=true/\Q (.bl (Fo xs ys)) H
theorem zj {xs ys:List V} (h:xs.length≠ys.length):Fo xs ys=false:=by
 unfold Fo;rw[show(xs.length==ys.length)=false by simpa using h,Bool.and_false]
theorem Kd (hu:X.A.units<cLine):hZ X (compareOp .Eq) Nk:=by
 intro pins s σ H x y v u Q I rx ry h;obtain⟨p,q,xs,ys,rfl,rfl,hp,hq,fx,fy,k⟩:=h;cases rx;cases ry;obtain⟨bf,r,pl,hz⟩:=I.list (bw.of hp);obtain⟨vo,r2,HF,hz2⟩:=I.list (bw.of hq);have l1:=r.length;have l2:=r2.length
 by_cases hl:xs.length=ys.length
 ·refine SeqAt.eq_listAt (e:=λj=>tG (xs.getD j .bZ) (ys.getD j .bZ)) pl.isList HF.isList (by simp only[aan];lia) hu (λj h1 h2=>?_) ⟨.bl _,H,I,rfl,?_⟩
  ·rw[aan] at h1 h2;exact BZ (Cd r h1) (Cd r2 h2) (yZ fx ⋯) (yZ fy ⋯)
  ·have e:((List.range bf.toArray.size).all λj=>tG (xs.getD j .bZ) (ys.getD j .bZ))=Fo xs ys:=by
    unfold Fo;rw[aan,<-l1,<-hl,Nat.min_self];simp
   rw[e];exact k
 ·refine SeqAt.eq_list_lengthsAt pl.isList HF.isList (by simp only[aan,bne_iff_ne];lia) hu ⟨.bl _,H,I,rfl,?_⟩;rw[show(false:Bool)=Fo xs ys from(zj hl).symm];exact k
end
end L2
namespace PySem
section
variable {prog : Program} {w : World} {A : Around} {E : Value -> Shared -> Prop} {s : Shared}
end
end PySem
namespace L2
open PySem PySem.Spec PyProof.Rows PySem.W
section
variable {X : Cx} {K : abk}
abbrev tRev (K:abk) (te:TE):TE:=λσ H Q=>te σ H λv H1=>∃p xs,v=.ref p/\bw K H1 p xs/\∀l,H1 l=none->Q (.ref l) (upd H1 l (.lst xs.reverse))
abbrev tD1 (tk tv:TE):TE:=λσ H Q=>∀d,H d=none->tk σ (upd H d (.dK [])) λx H1=>tv σ H1 λv H2=>∃k,x=kV k/\H2 d=some (.dK [])/\Q (.ref d) (upd H2 d (.dK [(k,v)]))
end
end L2
namespace PySem
section
variable {prog : Program} {w : World} {A : Around} {R : Result -> Shared -> Prop} {I : Addr} {fp wr : List Addr} {n : Nat} {P : Nat -> Value -> Prop} {St : Nat -> Heap -> Prop} {kw : List (Str × Value)}
end
section
variable {prog : Program} {w : World} {A : Around} {E : Value -> Shared -> Prop} {s : Shared}
end
end PySem
namespace L2
open PySem PySem.Spec PyProof.Rows PySem.W
section
variable {X : Cx} {K : abk}
abbrev tMaxD (K:abk) (te td:TE):TE:=λσ H Q=>te σ H λv H1=>td σ H1 λdv H2=>∃p ns,v=.ref p/\bw K H2 p (List.map V.int ns)/\(ns=[]->Q dv H2)/\∀M,M∈ns->(∀a∈ns,a<=M)->Q (.int M) H2
abbrev tLR (te:TE):TE:=λσ H Q=>te σ H λv H1=>∃n:Nat,v=.int (n:Int)/\n<=1000000/\∀l,H1 l=none->Q (.ref l) (upd H1 l (.lst ((List.range n).map λi:Nat=>V.int (i:Int))))
end
end L2
namespace PySem
open Builtin Builtin.Str
section
variable {prog : Program} {w : World} {A : Around} {E : Value -> Shared -> Prop} {s : Shared} {x y : Str} {t u : Tok} {Q : Value -> Shared -> Prop}
theorem x6 (hy:(y.length==0)=false)
  (hq:∀l k,l.map (·.1)=Txt.split x y->Q (.ref s.heap.objs.size) {s with heap:=s.heap.push {cls:=.type "list",data:=.seq (strValues l).toArray},toks:=k})
  (hsz:x.length<=sizeLine) (Th:(partsBetween x (occurrences x y 0 x.length (x.length+1)) y.length).length<=sizeLine):
  wpAny (model prog w) A (call (.builtin "str.split") [.str x t,.str y u]) Q E s:=by
 cases h1:(decide (x.length<y.length) || decide (Builtin.Str.strKind x<Builtin.Str.strKind y))
 ·cases hf:(occurrences x y 0 x.length (x.length+1)).isEmpty
  ·refine call_meets F.slot_str_split (typeIs_str _ _ _) F.entry_str_split (F.args_str_split_2 _ _) (meets_str_split_sep x y t u h1 hy hf hsz Th) ?_;show wants Q E _ {s with toks:=_,heap:=s.heap.push {cls:=.type "list",data:=.seq (strsFrom s.toks (partsBetween x (occurrences x y 0 x.length (x.length+1)) y.length)).toArray}};rw[strsFrom_eq];exact hq (numbered s.toks _) _ ((numbered_texts _ _).trans ((if_neg (ne_true_of_eq_false h1)).trans (if_neg (ne_true_of_eq_false hf))).symm)
  ·exact call_meets F.slot_str_split (typeIs_str _ _ _) F.entry_str_split (F.args_str_split_2 _ _) (meets_str_split_not_found x y t u h1 hy hf)
    (hq [(x,t)] s.toks ((if_neg (ne_true_of_eq_false h1)).trans (if_pos hf)).symm)
 ·exact call_meets F.slot_str_split (typeIs_str _ _ _) F.entry_str_split (F.args_str_split_2 _ _) (meets_str_split_cannot_occur x y t u h1)
   (hq [(x,t)] s.toks (if_pos h1).symm)
end
theorem zk {c:Nat}:∀{a b r q:List Nat},c∉a->c∉b->a++c::r=b++c::q->a=b/\r=q
 | [],[],r,q,_,_,h=>by simp at h;exact⟨rfl,h⟩
 | [],y::b,r,q,_,hb,h=>by simp at h;exact absurd (h.1▸aar) hb
 | x::a,[],r,q,ha,_,h=>by simp at h;exact absurd (h.1▸aar) ha
 | x::a,y::b,r,q,ha,hb,h=>by
  simp only[aaY,List.cons.injEq] at h;obtain⟨e1,e2⟩:=zk (λm=>ha (aap _ m)) (λm=>hb (aap _ m)) h.2;exact⟨by rw[h.1,e1],e2⟩
theorem k8 {a b:Str} (h:a.cps.toList=b.cps.toList):a=b:=by
 cases a;cases b;congr 1;exact Array.toList_inj.mp h
theorem join_cons (c:Nat) (x y:Str) (r:List Str):(Str.join ⟨#[c]⟩ (x::y::r)).cps.toList=x.cps.toList++c::(Str.join ⟨#[c]⟩ (y::r)).cps.toList:=by
 show(x++ ⟨#[c]⟩++Str.join ⟨#[c]⟩ (y::r)).cps.toList=_;simp only[Str.cps_append,Array.toList_append,List.append_assoc];rfl
theorem vH (c:Nat):∀(ps qs:List Str),ps≠[]->qs≠[]->(∀p∈ps,c∉p.cps.toList)->(∀p∈qs,c∉p.cps.toList)->Str.join ⟨#[c]⟩ ps=Str.join ⟨#[c]⟩ qs->ps=qs
 | [],_,h,_,_,_,_=>absurd rfl h
 | _,[],_,h,_,_,_=>absurd rfl h
 | [x],[y],_,_,_,_,e=>by
  have e:x=y:=e;rw[e]
 | [x],y::y2::r,_,_,hp,_,e=>by
  exfalso;have e:=congrArg (λz:Str=>z.cps.toList) e;simp only[join_cons] at e;refine hp x aar ?_;have e:x.cps.toList=_:=e;rw[e];exact aaG _ aar
 | x::x2::r,[y],_,_,_,hq,e=>by
  exfalso;have e:=congrArg (λz:Str=>z.cps.toList) e;simp only[join_cons] at e;refine hq y aar ?_;have e:_=y.cps.toList:=e;rw[<-e];exact aaG _ aar
 | x::x2::r,y::y2::q,_,_,hp,hq,e=>by
  have e:=congrArg (λz:Str=>z.cps.toList) e;simp only[join_cons] at e;obtain⟨e1,e2⟩:=zk (hp x aar) (hq y aar) e;rw[k8 e1,vH c (x2::r) (y2::q) (by simp) (by simp) (λp m=>hp p (aap _ m)) (λp m=>hq p (aap _ m)) (k8 e2)]
theorem CQ (x y:Str):Txt.split x y≠[]:=by
 unfold Txt.split
 split
 ·simp
 ·split
  ·simp
  ·unfold Builtin.Str.partsBetween;cases Builtin.Str.occurrences x y 0 x.length (x.length+1) <;>simp
theorem x8 (c:Nat) {ps:List Str} (h:ps≠[]) (hp:∀p∈ps,c∉p.cps.toList):Txt.split (Txt.join ⟨#[c]⟩ ps) ⟨#[c]⟩=ps:=by
 have e:Txt.join ⟨#[c]⟩ ps=Str.join ⟨#[c]⟩ ps:=StrLaws.glued_eq_join _ _;rw[e];exact vH c _ _ (CQ _ _) h (StrLaws.split_free _ c) hp (StrLaws.join_split _ _)
end PySem
namespace L2
open PySem PySem.Spec PyProof.Rows PySem.W
section
variable {X : Cx} {K : abk}
theorem zm:∀(l:List (Str×Tok)),br (List.map V.str (l.map (·.1))) (strValues l)
 | []=>.nil
 | p::l=>.cons ⟨p.2,rfl⟩ (zm l)
theorem A1 (x y:Str):(Builtin.Str.partsBetween x (Builtin.Str.occurrences x y 0 x.length (x.length+1)) y.length).length<=x.length+2:=by
 have:=StrLaws.occ_length_le x y 0 x.length (x.length+1);unfold Builtin.Str.partsBetween;simp only[aaj,aa9,aaw,aat,aa8];lia
theorem CS:JD X "str.split" (λx xs H Q=>∃z c,x=.str z/\xs=[.str ⟨#[c]⟩]/\z.length<=1000000/\∀l,H l=none->Q (.ref l) (upd H l (.lst (List.map V.str (Txt.split z ⟨#[c]⟩))))):=by
 intro pins s σ H x xs v us Q I rx rv h;obtain⟨z,c,rfl,rfl,hz,q⟩:=h;obtain⟨t,rfl⟩:=rx;obtain⟨u,rfl,ru⟩:=vals1 rv;obtain⟨t2,rfl⟩:=ru;have pl:=A1 z ⟨#[c]⟩;have sl:=sizeLine_eq;have fr:=I.bL.fresh (a:=s.heap.objs.size) (aam _);refine x6 rfl (λl k e=>?_) ⋯ ⋯;have lv:=zm l;rw[e] at lv;have ll:=lv.length;rw[aaj] at ll;refine⟨.ref s.heap.objs.size,_,I.laid (t':=k) (λb o e=>abv _ e) (aam _) (o:=.lst (List.map V.str (Txt.split z ⟨#[c]⟩))) ⟨?_,strValues l,0,lv,?_⟩,rfl,q _ fr⟩
 ·rw[aaj];have:(Txt.split z ⟨#[c]⟩).length<=z.length+2:=by
   unfold Txt.split
   split
   ·simp
   ·split
    ·simp
    ·exact pl
  lia
 ·exact abw _ rfl
theorem pM:cj X (.type "int") (λxs H Q=>∃z n,xs=[.str z]/\z.length<=640/\PySem.intText? z=some n/\Q (.int n) H):=by
 intro pins s σ H xs us Q I r h;obtain⟨z,n,rfl,hl,hn,q⟩:=h;obtain⟨u,rfl,t,rfl⟩:=vals1 r;exact PySem.W.KIN.call_text hn hl ⟨.int n,H,I.tok _,⟨_,rfl⟩,q⟩
theorem mH:cj X (.builtin "len") (λxs H Q=>∃z,xs=[.str z]/\z.length<=sizeLine/\Q (.int z.length) H):=tI
abbrev Rl (z:Str):It:=⟨λi _=>i<z.cps.size,λi H x H'=>H'=H/\∃c,z.cps[i]?=some c/\x=.str ⟨#[c]⟩,λi _=>z.cps.size<=i⟩
theorem CT {P:Program} {w:World} {tg:Expr} (z:Str) (t:Tok) (it:Addr):Turn P w K tg (Rl z) [it] it (λi h=>h.IsStrIter it "str_ascii_iterator" z t i) where
 mem:=by simp
 obj:=λi h st b hb=>by
  have e:b=it:=by simpa using hb
  subst e;obtain⟨o,e,c,d⟩:=st;exact⟨o,e,λv z=>by rw[d] at z;cases z⟩
 keep:=λi h h' st k=>let ⟨o,e,r⟩:=st;⟨o,k it (by simp) o e,r⟩
 item:=by
  intro X hP hw hK hc i pins s σ H E I hf st hg;subst hP hw hK;obtain⟨f0,f1,f2,f3,f4,f5⟩:=hf it (by simp);have hg:i<z.cps.size:=hg;refine wpAny_pyNext_ascii_item st (c:=z.cps[i]) (by simp [hg]) λh' cK sb=>?_;have I1:Inv X pins σ H {s with heap:=h',toks:=s.toks+1}:=I.turned (t':=s.toks+1) (λb o hb e=>(sb.2 b hb).trans e) f0 f1 f3 f4 f5;obtain⟨o,e,c,d⟩:=id cK;exact⟨_,rfl,BP (s:={s with heap:=h',toks:=s.toks+1}) e c d ∅ ⟨.str ⟨#[z.cps[i]]⟩,H,I1,⟨_,rfl⟩,⟨rfl,_,by simp [hg],rfl⟩,cK,λb hb=>(hf b hb).1⟩⟩
 done:=by
  intro X hP hw hK hc i pins s σ H E I hf st hg;subst hP hw hK;obtain⟨f0,f1,f2,f3,f4,f5⟩:=hf it (by simp);have hg:z.cps.size<=i:=hg;exact wpAny_pyNext_ascii_end (I.ok.hd hc) st (by simp [hg]) λh' eb=>⟨rfl,I.turned (t':=s.toks) (λb o hb e=>eb b o hb e) f0 f1 f3 f4 f5⟩
 self:=λ_ _ _ _ _ st h=>wpAny_pyIter_striter_ascii st h
abbrev iStr (tl:TE):TI:=λσ H R=>tl σ H λx H1=>∃z,x=.str z/\z.cps.all (·<128)=true/\R (Rl z) H1
theorem CU {tg l:Expr} {tl:TE} (hl:PE X l tl):PI X tg l (iStr tl):=by
 intro pins s σ H R I h;refine cb (hl pins s σ H _ I h) λv s1 dG=>?_;obtain⟨x,H1,I1,r1,q1⟩:=dG;obtain⟨z,e,ha,q⟩:=q1;subst e;obtain⟨t,rfl⟩:=r1;refine wpAny_pyIter_ascii ha ?_;refine⟨s1.heap.objs.size,[s1.heap.objs.size],_,_,H1,rfl,I1.kept (t':=s1.toks) λb o e=>abv _ e,CT z t _,⟨_,abw _ rfl,rfl,rfl⟩,λb hb=>?_,q⟩;have e:b=s1.heap.objs.size:=by simpa using hb
 subst e;exact I1.BO (aam _) (I1.bL.fresh (aam _))
theorem zo {z:Str} {Ok:Hp->Prop}:Src (Rl z) Ok z.cps.size (λi x H H3=>H3=H/\∃c,z.cps[i]?=some c/\x=.str ⟨#[c]⟩) where
 go:=λi H hi _=>hi
 yP:=λi H x H3 hi _ y=>y
 stop:=λH _=>aam _
theorem A2 {K:abk} {J:It} {te:TE} {tl:St} {H1:Hp} {fin:List V->Hp->Prop} {n:Nat} {Item:Nat->V->Hp->Hp->Prop} (S:Src J (aB H1) n Item) (Xj:Nat->V->V->V->Hp->Prop)
  (tp:∀i x H H3,i<n->aB H1 H->Item i x H H3->aB H H3/\∃p a b c,x=.ref p/\jD K H3 p [a,b,c]/\Xj i a b c H3) (hz:n<=sizeLine)
  (R:Nat->V->Hp->Prop) (mono:∀i y H H',aB H H'->R i y H->R i y H')
  (hs:∀i a b c H3 (Q:VK),i<n->aB H1 H3->Xj i a b c H3->(∀y H6,aB H3 H6->R i y H6->Q y H6)->te (some a::some b::some c::tl) H3 Q)
  (mD:∀ys H,aB H1 H->ys.length=n->(∀(i:Nat) y,ys[i]?=some y->R i y H)->fin ys H):fU J (Av K 3 (gCons (gName 0) (gCons (gName 1) (gCons (gName 2) gNil)))) mC te (none::none::none::tl) H1 fin:=by
 refine⟨λi m ys σ H=>m=n - i/\i<=n/\ys.length=i/\(∃w w' Xk,σ=w::w'::Xk::tl)/\aB H1 H/\∀(j:Nat) y,ys[j]?=some y->R j y H,⟨n,by simp,aas _,rfl,⟨_,_,_,rfl⟩,aB.refl _,λj y e=>by simp at e⟩,?_⟩;rintro i m ys σ H ⟨rfl,hi,hl,⟨w,w',Xk,rfl⟩,sm,p⟩
 by_cases nI:i<n
 ·refine .inr ⟨S.go i H nI sm,λx H3 y=>?_⟩;obtain⟨s3,q,a,b,c,rfl,sq,it⟩:=tp i x H H3 nI sm (S.yP i H x H3 nI sm y);refine⟨q,_,rfl,sq,rfl,_,_,rfl,_,_,rfl,_,_,rfl,rfl,?_⟩;unfold mC;refine xO ?_;refine hs i a b c H3 _ nI (sm.trans s3) it λy H6 s6 r=>⟨⋯,n - (i+1),⋯,rfl,nI,by rw[aat,aa8];lia,⟨_,_,_,rfl⟩,sm.trans (s3.trans s6),λj z e=>?_⟩
  by_cases hj:j<i
  ·rw[List.getElem?_append_left ⋯] at e;exact mono j z _ _ (s3.trans s6) (p j z e)
  ·rw[List.getElem?_append_right ⋯] at e;have e2:j - ys.length=0:=by
    by_cases q:j - ys.length=0
    ·exact q
    ·rw[List.getElem?_eq_none (by simp;lia)] at e;cases e
   rw[e2] at e;simp at e;subst e;have:j=i:=⋯
   subst this;exact r
 ·have e:i=n:=⋯
  subst e;exact .inl ⟨S.stop H sm,mD ys H sm hl p⟩
theorem gW {x:Str} {i:Int} {pos:Pos} (hg:Gl X x) (h:∃t,X.mg x=some (.int i t)) (hd:(x==("__debug__":Str))=false:=by decide):PE X (.Name x pos) (tC (.int i)):=by
 obtain⟨t,h⟩:=h;exact jf hg h ⟨t,rfl⟩ hd
theorem CV {x:Str} {i:Str} {pos:Pos} (hg:Gl X x) (h:∃t,X.mg x=some (.str i t)) (hd:(x==("__debug__":Str))=false:=by decide):PE X (.Name x pos) (tC (.str i)):=by
 obtain⟨t,h⟩:=h;exact jf hg h ⟨t,rfl⟩ hd
theorem zp:EJ X Fh:=JF
end
end L2
namespace PySem
end PySem
namespace PySem
section
variable {M : Model} {A : Around} {E : Value -> Shared -> Prop} {s : Shared} {env : Env}
end
end PySem
namespace L2
open PySem PySem.Spec PyProof.Rows PySem.W
section
variable {M : Model} {A : Around} {E : Value -> Shared -> Prop} {s : Shared} {B : Heap} {l : List Env} {ad L : Addr} {cls a0 : Value} {p : Prop}
theorem A3 {α:Type} {Ti:String} {ce:Env} {Q:α->Shared->Prop} (hh:Heap.HeldW B l ad cls a0 L s.heap) (hf:ce.frame=some L) (nc:p->ju s.heap ad)
  (k:∀h',Heap.HeldW B l ad cls a0 L h'->s.heap.UpToSlots h'->(p->ju h' ad)->E (.ref ad) {s with heap:=h'}):wpAny M A (PySem.passOn Ti (.ref ad) ce:Sem α) Q E s:=by
 obtain⟨st,na,ff,oe,vs,T,oT,ts,g1,g2,g3,g4,g5,g6,g7,g8,g9⟩:=id hh;have sz:3<ts.size:=(Array.getElem?_eq_some_iff.mp g9).1;unfold PySem.passOn;refine wpAny_bind (wpAny_field g1 g3 g4 ?_);have nz:¬(Value.ref T==Value.none)=true:=by simp
 rw[if_neg nz,hf];have ot:∀{f:Obj->Obj} b,b≠T->(s.heap.update T f).get? b=s.heap.get? b:=λb hb=>Heap.get?_update_other _ _ (Ne.symm hb);have nr:∀b o,s.heap.get? b=some o->(∀us,o.data≠.fields us)->b≠T:=λb o e nf z=>by
  rw[z,g7] at e;cases e;exact nf ts g8
 have fin:wpAny M A (setFlight (.ref ad) (some L)) (λ_ s1=>wpAny M A (throw (.ref ad):Sem α) Q E s1) E s:=by
  unfold setFlight;refine wpAny_bind (wpAny_field g1 g3 g4 ?_);have yz:(Value.ref T !=Value.none)=true:=by simp
  rw[if_pos yz];refine wpAny_setField g7 g8 sz (wpAny_throw (k _ ⟨λb o e=>?_,na,?_,?_⟩ (λb o e nf=>?_) λhp=>?_))
  ·refine(ot b λz=>?_).trans (st b o e);rw[z,g5] at e;cases e
  ·exact Heap.FunFrames.of_keeps (λb o e nf=>⟨o,(ot b (nr b o e nf)).trans e,rfl⟩) ff
  ·exact⟨oe,vs,T,_,_,(ot ad (Ne.symm g6)).trans g1,g2,g3,g4,g5,g6,Heap.get?_update_self _ g7 (Obj.isFreed_of_fields (Obj.data_mapFields g8 _)),Obj.data_mapFields g8 _,by simp [sz]⟩
  ·exact⟨o.slots,(ot b (nr b o e nf)).trans e⟩
  ·obtain⟨o,ws,q,d,r⟩:=nc hp;exact⟨o,ws,(ot ad (Ne.symm g6)).trans q,d,r⟩
 first
  | exact wpAny_bind (wpAny_pure (wpAny_bind fin))
  | exact wpAny_bind fin
theorem leave_held {en:Env} {r:List Env} {Q:Unit->Shared->Prop} (hf:en.frame=some L) (hh:Heap.HeldW B (en::r) ad cls a0 L s.heap) (nc:p->ju s.heap ad)
  (k:∀h',Heap.FlyingW B r ad cls a0 h'->s.heap.UpToSlots h'->(p->ju h' ad)->Q () {s with heap:=h'}):wpAny M A (leaving en (.ref ad)) Q E s:=by
 have lands:wpAny M A (setFlight (.ref ad) none) Q E s:=kT hh.1 hh.2.1 hh.2.2.1 hh.2.2.2 nc λh' fl up n2=>by
  obtain⟨p1,p2,p3,p4⟩:=fl;exact k h' ⟨p1,p2,p3.2.2,p4⟩ up n2
 unfold leaving;exact wpAny_bind (wpAny_noteFrame_againW hf hh.2.2.2 lands)
end
section
variable {P : Program} {w : World} {K : abk} {mg : Str -> Option Value} {base : Heap} {N : List Str} {qual : Str} {scope : Scope} {f : Addr} {bR : Value} {A : Around} {outer : List Env} {s0 : Shared} {H0 : Hp} {E : XK}
end
open PySem PySem.Spec PyProof.Rows PySem.W
section
variable {X : Cx}
abbrev Kf:V->List V->Hp->VK->Prop:=λx vs H Q=>∃l xs i y,x=.ref l/\vs=[.int i,y]/\H l=some (.lst xs)/\0<=i/\i<=(xs.length:Nat)/\xs.length<sizeLine/\Q .bZ (upd H l (.lst (xs.take i.toNat++y::xs.drop i.toNat)))
theorem sy:L6 X "list.insert" Kf:=by
 intro pins s σ H x vs v us Q I rx rv h;obtain⟨l,xs,i,y,rfl,rfl,hH,h0,h1,hz,q⟩:=h;cases rx;obtain⟨u1,u2,rfl,⟨t,rfl⟩,ru⟩:=vals2 rv;obtain⟨z,bf,n,r,hl,e⟩:=I.xM hH;have sl:=sizeLine_eq;refine call_meets PySem.F.slot_list_insert ⟨_,e,rfl⟩ PySem.F.entry_list_insert (PySem.F.args_list_insert_3 _ _ _) (AutoSeq1.list_insert_list_int_val_1 l bf.toArray n i t u2 (by rw[fitsIndex_both ⋯ ⋯];decide) (by rw[aan];lia)) ⟨e,?_⟩;have k2:(if i<0 then (i+ (bf.toArray.size:Int)).toNat else min i.toNat bf.toArray.size)=i.toNat:=by
  rw[if_neg ⋯,aan];lia
 refine⟨.bZ,_,I.JH (its':=bf.take i.toNat++u2::bf.drop i.toNat) hH e ?_ ?_ ?_,rfl,q⟩
 ·show(bf.toArray.extract 0 (if i<0 then (i+ (bf.toArray.size:Int)).toNat else min i.toNat bf.toArray.size)).push u2++bf.toArray.extract (if i<0 then (i+ (bf.toArray.size:Int)).toNat else min i.toNat bf.toArray.size)=_;rw[k2];apply Array.toList_inj.mp;simp [aaz]
 ·exact(r.take _).append (.cons ru (r.drop _))
 ·simp;lia
end
open PySem PySem.Spec PyProof.Rows PySem.W
@[inline]abbrev Xl (h:Heap) (T:Addr) (a b c:Value):Prop:=h.get? T=some {cls:=.type "tuple",data:=.seq #[a,b,c]}
structure Ap3 (z TI TO i1 i2 i3 a b c:Addr):Prop where
 TIz:TI≠z
 TOz:TO≠z
 i1z:i1≠z
 i2z:i2≠z
 i3z:i3≠z
 TITO:TI≠TO
 TI1:TI≠i1
 TI2:TI≠i2
 TI3:TI≠i3
 TO1:TO≠i1
 TO2:TO≠i2
 TO3:TO≠i3
 i12:i1≠i2
 i13:i1≠i3
 i23:i2≠i3
 az:a≠z
 bz:b≠z
 cz:c≠z
 bTO:b≠TO
 cTO:c≠TO
 b1:b≠i1
 c1:c≠i1
 c2:c≠i2
section
variable {prog : Program} {w : World} {A : Around} {E : Value -> Shared -> Prop} {s : Shared}
end
@[inline]abbrev Xm (h:Heap) (la:Addr):Heap:=h.push {cls:=.type "list_iterator",data:=.fields #[.ref la,.int 0 0]}
@[inline]abbrev Xn (h:Heap) (la lb:Addr):Heap:=(Xm h la).push {cls:=.type "list_iterator",data:=.fields #[.ref lb,.int 0 0]}
@[inline]abbrev Xo (h:Heap) (la lb lc:Addr):Heap:=(Xn h la lb).push {cls:=.type "list_iterator",data:=.fields #[.ref lc,.int 0 0]}
@[inline]abbrev Xp (h:Heap) (la lb lc:Addr):Heap:=(Xo h la lb lc).push {cls:=.type "tuple",data:=.seq #[.ref h.objs.size,.ref (Xm h la).objs.size,.ref (Xn h la lb).objs.size]}
@[inline]abbrev Zp (h:Heap) (la lb lc:Addr):Heap:=(Xp h la lb lc).push {cls:=.type "tuple",data:=.seq #[.none,.none,.none]}
@[inline]abbrev z3f (h:Heap) (la lb lc:Addr):Heap:=(Zp h la lb lc).push {cls:=.type "zip",data:=.fields #[.none,.bool false,.bool false,.ref (Xo h la lb lc).objs.size,.ref (Xp h la lb lc).objs.size]}
section
variable {prog : Program} {w : World} {A : Around} {E : Value -> Shared -> Prop} {s : Shared}
end
section
variable {X : Cx} {elts : List Expr} {kk : Nat} {iO : Pos} {K : abk}
end
open PySem PySem.Spec PyProof.Rows PySem.W
abbrev Xq:V->Option Str
 | .str z=>some z
 | .int i=>if i.natAbs.log2<1920 then some (aai (toString i)) else none
 | _=>none
section
variable {X : Cx} {K : abk}
theorem x9:cj X (.type "str") (λxs H Q=>∃x z,xs=[x]/\Xq x=some z/\Q (.str z) H):=by
 intro pins s σ H xs us Q I r h;obtain⟨x,z,rfl,hz,q⟩:=h;obtain⟨u,rfl,ru⟩:=vals1 r;cases x with
 | str y=>
  obtain⟨t,rfl⟩:=ru;cases hz;exact PySem.P.str_of_str ⟨.str _,H,I,⟨_,rfl⟩,q⟩
 | int i=>
  obtain⟨t,rfl⟩:=ru;have hz:(if i.natAbs.log2<1920 then some (aai (toString i)) else none)=some z:=hz
  by_cases c:i.natAbs.log2<1920
  ·rw[if_pos c] at hz;cases hz;exact PySem.P.str_of_int c ⟨.str _,H,I.tok _,⟨_,rfl⟩,q⟩
  ·rw[if_neg c] at hz;cases hz
 | _=>cases hz
end
open PySem PySem.Spec PyProof.Rows PySem.W
section
variable {X : Cx} {K : abk}
abbrev tSortR (K:abk) (te:TE):TE:=λσ H Q=>te σ H λv H1=>∃p ns,v=.ref p/\bw K H1 p (List.map V.int ns)/\ns.length<64/\∀l,H1 l=none->Q (.ref l) (upd H1 l (.lst (List.map V.int (Nm.tR ns).reverse)))
theorem CW {e d:Expr} {te:TE} {p1 pos kp:Pos} (hg:Gl X "sorted") (hm:X.mg "sorted"=none) (he:PE X e te) (hd:PE X d (tC (.bl true))) (n1:noStar e=true:=by rfl):
  PE X (.Call (.Name "sorted" p1) [e] [⟨some "reverse",d,kp⟩] pos) (tSortR X.K te):=by
 intro pins s σ H Q I h;refine wpAny_Call_Name_kw (gH I hg hm (u:=.builtin "sorted") rfl ?_ ∅ ∅);refine PyProof.Rows.callWith_kw (e:=e) (rest:=[]) ?_ (by rw[se n1];rfl) (by rw[se n1];rfl) rfl rfl;rw[se n1];show wpAny _ _ (spliced [(false,eval e X.env)]) _ _ s;refine Calls.spliced_cons (cb (he pins s σ H _ I h) λu s1 ⟨x,H1,I1,r1,q1⟩=>Calls.spliced_nil ?_);refine PyProof.Rows.kws_cons (cb (hd pins s1 σ H1 (λv H2=>v=.bl true/\H2=H1) I1 ⟨rfl,rfl⟩) λdv s2 ⟨y,H2,I2,r2,ey,eh⟩=>PyProof.Rows.kws_nil ?_);subst ey;subst eh;have r2:dv=.bool true:=r2;subst r2;obtain⟨p,ns,rfl,hq,hn,q⟩:=q1;cases r1;obtain⟨bf,rv,pl,hz⟩:=I2.list hq;have hl:=rv.length;rw[aaj] at hl;show wpAny _ _ (call (.builtin "sorted") [.ref p] [(aai "reverse",.bool true)]) _ _ _;refine sorted_ints_rev pl.isList (intsAre_of rv) ⋯ λout Bv a1 a2 a3=>?_;have a3:Bv.Pairwise (·≥·):=a3;have e3:Bv=(Nm.tR ns).reverse:=by
  have:=Nm.tS ((List.reverse_perm Bv).trans a2) (List.pairwise_reverse.mpr a3);rw[<-this,List.reverse_reverse]
 subst e3;obtain⟨e,he⟩:=sortedAll_at s2.heap bf out;have fr:=I2.bL.fresh (a:=s2.heap.objs.size+1) (Nat.le_succ _);refine⟨.ref (s2.heap.objs.size+1),_,I2.laid (t':=s2.toks) (λ_ _=>sortedAll_old) (Nat.le_succ _) (o:=.lst (List.map V.int (Nm.tR ns).reverse)) ⟨?_,out.toList,e,ij a1,?_⟩,rfl,q _ fr⟩
 ·rw[aaj,List.length_reverse,Nm.ig,sizeLine_eq];lia
 ·exact he
theorem A4 {e d:Expr} {te:TE} {p1 pos kp:Pos} (hg:Gl X "sorted") (hm:X.mg "sorted"=none) (he:PE X e te) (hd:PE X d (tC (.bl true))) (n1:noStar e=true:=by rfl) (hK:X.K=K:=by rfl):
  PE X (.Call (.Name "sorted" p1) [e] [⟨some "reverse",d,kp⟩] pos) (tSortR K te):=by subst hK;exact CW hg hm he hd n1
end
end L2
namespace PySem.SeqAt
open AutoSeq1 (wpAny_loadPart')
open MeetsSeq MeetsSeq2 MeetsSeq3
end PySem.SeqAt
namespace L2
open PySem PySem.Spec PyProof.Rows PySem.W
abbrev HG:List Int->List Int->Bool
 | [],[]=>true
 | [],_::_=>false
 | _::_,[]=>true
 | a::r,b::q=>if a=b then HG r q else decide (b<=a)
section
variable {X : Cx} {K : abk}
end
end L2
namespace PySem.UL
section
variable {prog : Program} {w : World} {A : Around} {E : Value -> Shared -> Prop} {s : Shared}
end
theorem sA {α:Type}:∀l:List α,(List.range l.length).filterMap (λk=>l[k]?)=l
 | []=>rfl
 | a::r=>by
  rw[aaw,List.range_succ_eq_map,aaS];simp only[List.getElem?_cons_zero];rw[List.filterMap_map];have:=sA r
  simpa [Function.comp_def] using this
open Builtin in
theorem pick_rev (items:List Value):slicePick items.toArray none none (some (-1))=items.reverse.toArray:=by
 unfold slicePick;have e:sliceRange (sliceBounds none none (some (-1)) items.toArray.size).1 (sliceBounds none none (some (-1)) items.toArray.size).2.1 (sliceBounds none none (some (-1)) items.toArray.size).2.2=Builtin.Str.strSliceIndices none none (-1) items.length:=by
  rw[aan];rfl
 rw[e,PyProof.Rows.picked_rev];congr 1;rw[List.filterMap_map];have h:∀l:List Nat,(∀k∈l,k<items.length)->l.filterMap ((λk=>items.toArray[k]?) ∘λk=>items.length - 1 - k)=l.filterMap λk=>items.reverse[k]?:=by
  intro l
  induction l with
  | nil=>intro _;rfl
  | cons k r ih=>
   intro hk;have e:((λk=>items.toArray[k]?) ∘λk=>items.length - 1 - k) k=items.reverse[k]?:=by
    rw[List.getElem?_reverse (hk k (by simp))];simp
   rw[aaS,aaS,e,ih λx hx=>hk x (aap _ hx)]
 rw[h _ λk hk=>List.mem_range.mp hk];have:=sA items.reverse
 rwa [List.length_reverse] at this
end PySem.UL
namespace L2
open PySem PySem.Spec PyProof.Rows PySem.W
section
variable {X : Cx} {K : abk}
abbrev Kg (K:abk) (te ts:TE):TE:=λσ H Q=>te σ H λx H1=>ts σ H1 λy H2=>∃a xs,x=.ref a/\y=.int (-1)/\bw K H2 a xs/\∀p,H2 p=none->Q (.ref p) (upd H2 p (.lst xs.reverse))
theorem CY {e st:Expr} {te ts:TE} {p2 pos:Pos} (he:PE X e te) (hs:PE X st ts):PE X (.Subscript e (.Slice none none (some st) p2) pos) (Kg X.K te ts):=by
 intro pins s σ H Q I h;refine Subscript_ (cb (he pins s σ H _ I h) λv s1 dG=>?_);obtain⟨x,H1,I1,r1,q1⟩:=dG;refine wpAny_Slice ?_;rw[evalPart_none];refine wpAny_pure ?_;refine wpAny_pure ?_;rw[evalPart_some];refine cb (hs pins s1 σ H1 _ I1 q1) λvs s2 dG=>?_;obtain⟨y,H2,I2,r2,q2⟩:=dG;obtain⟨a,xs,rfl,rfl,hx,q⟩:=q2;obtain⟨t,rfl⟩:=r2;cases r1;have I4:Inv X pins σ H2 {s2 with heap:=s2.heap.push {cls:=.type "slice",data:=.fields #[.none,.none,.int (-1) t]}}:=I2.kept (t':=s2.toks) λb ob q=>abv _ q;obtain⟨bf,r,ht,hz⟩:=I4.list hx;have hlen:=r.length;show wpAny (model X.prog X.w) X.A (subscriptTail e (.Slice none none (some st) p2) (.ref a) (.ref s2.heap.objs.size)) (EP X pins σ Q) X.xe {s2 with heap:=s2.heap.push {cls:=.type "slice",data:=.fields #[.none,.none,.int (-1) t]}};refine tail_any (ops:=[.ref a,.ref s2.heap.objs.size]) ht.isList.typeIs slot_list_getitem.lookup ?_ (by with_unfolding_all rfl);refine wpAny_getItem_list_slice ht.isList (Heap.IsSliceOf.new ..) .none .none (.int (-1) t) (by simp) ?_ (by rw[aan] <;>lia);rw[PySem.UL.pick_rev];refine⟨.ref _,_,I4.laid (t':=s2.toks) (o:=.lst xs.reverse) (λb ob q=>abv _ q) (aam _) ?_,rfl,q _ (I4.bL.fresh (aam _))⟩;exact⟨by rw[List.length_reverse];exact hz,_,0,r.reverse,abw _ rfl⟩
theorem A5 {e st:Expr} {te ts:TE} {p2 pos:Pos} (he:PE X e te) (hs:PE X st ts) (hK:X.K=K:=by rfl):PE X (.Subscript e (.Slice none none (some st) p2) pos) (Kg K te ts):=by subst hK;exact CY he hs
end
structure zq (P:Program) (w:World) (K:abk) (mg:Str->Option Value) (base:Heap) (CX:mi) (k:Nat) (x:Str) (C:Addr) (ps:List Str) (sp:Sp):Prop where
 ex:∃f fd,Mk K C f/\fL P w K mg base CX k f fd ps sp/\mg x=some (.ref C)/\Binds K fd ps []
section
variable {X : Cx}
theorem HH {CX:mi} {k:Nat} {x:Str} {C:Addr} {ps:List Str} {sp:Sp} {E:XK} {e:Expr} {es:List Expr} {t:TA} {p pos:Pos} (M:zq X.prog X.w X.K X.mg X.base CX k x C ps sp) (hr:dD (k+1) X.A) (hg:Gl X x) (hx:fj CX X E) (ha:PA X (e::es) t)
  (tq:(x==("__debug__":Str))=false:=by decide) (he:starEach (e::es) X.env=(false,eval e X.env)::starEach es X.env:=by first | exact se rfl | rfl) (hpl:(backTo pos (starEach es X.env)).any (·.1)=false:=by first | exact na rfl | rfl):
  PE X (.Call (.Name x p) (e::es) [] pos) (yU C sp [] E t):=by
 obtain⟨f,fd,m,F,hm,hb⟩:=M.ex;exact Fd m F hr hg hm hb .nil hx ha tq he hpl
end
structure Rm (K:abk) (mg:Str->Option Value) (x qual:Str) (st:Stmt) (C:Addr):Prop where
 ex:∃f fd,xf K "__init__" qual st f fd/\Mk K C f/\mg x=some (.ref C)
theorem Rm.dE {P:Program} {w:World} {K:abk} {mg:Str->Option Value} {base:Heap} {CX:mi} {x qual:Str} {st:Stmt} {C:Addr} {ps:List Str} {k:Nat} {sp:Sp} (D:Rm K mg x qual st C)
  (hb:∀(kV doc pm:Value) (an:Option Addr) (bR ct:Value) (us:List Value),us.length=ps.length->bindArgs (abn "__init__" qual (bC st) (bu st) (au st) .none kV doc pm an bR ct) ⟨us,[]⟩=pure (ps.zip us))
  (h:∀f fd,xf K "__init__" qual st f fd->fL P w K mg base CX k f fd ps sp):zq P w K mg base CX k x C ps sp:=by
 obtain⟨f,fd,F,m,hm⟩:=D.ex;exact⟨f,fd,m,h f fd F,hm,F.binds hb⟩
noncomputable instance Ma:DecidableEq PyData:=λ_ _=>Classical.propDecidable _
mutual
noncomputable def gu:PyData->Bool
 | .int _=>true
 | .str x=>PyData.canLay0 (.str x)
 | .tuple xs=>mI xs
 | _=>false
noncomputable def mI:List PyData->Bool
 | []=>true
 | x::xs=>gu x && mI xs
end
mutual
theorem FT:∀(d:PyData),gu d=true->d.canLay0=true
 | .none,h=>by simp [gu] at h
 | .bool _,h=>by simp [gu] at h
 | .int _,_=>by simp [PyData.canLay0]
 | .str x,h=>by rw[gu] at h;exact h
 | .list _,h=>by simp [gu] at h
 | .tuple xs,h=>by rw[gu] at h;rw[PyData.canLay0];exact vI xs h
 | .dict _,h=>by simp [gu] at h
theorem vI:∀(xs:List PyData),mI xs=true->PyData.canLayAll0 xs=true
 | [],_=>by simp [PyData.canLayAll0]
 | x::xs,h=>by
  rw[mI,aaN] at h;rw[PyData.canLayAll0,aaN];exact⟨FT x h.1,vI xs h.2⟩
end
mutual
theorem Kh:∀(x y:PyData),gu x=true->gu y=true->PyData.eqv x y=decide (x=y)
 | .int i,y,_,hy=>by
  cases y with
  | int j=>
   rw[PyData.eqv]
   by_cases c:i=j
   ·subst c;simp
   ·rw[decide_eq_false (λe=>c (by injection e))];simp [c]
  | str _=>simp [PyData.eqv]
  | tuple _=>simp [PyData.eqv]
  | _=>simp [gu] at hy
 | .str a,y,_,hy=>by
  cases y with
  | str b=>
   rw[PyData.eqv]
   by_cases c:a=b
   ·subst c;simp
   ·rw[decide_eq_false (λe=>c (by injection e))];simp [c]
  | int _=>simp [PyData.eqv]
  | tuple _=>simp [PyData.eqv]
  | _=>simp [gu] at hy
 | .tuple xs,y,hx,hy=>by
  cases y with
  | tuple ys=>
   rw[gu] at hx hy;rw[PyData.eqv,zr xs ys hx hy]
   by_cases c:xs=ys
   ·subst c;simp
   ·rw[decide_eq_false c,decide_eq_false (λe=>c (by injection e))]
  | int _=>simp [PyData.eqv]
  | str _=>simp [PyData.eqv]
  | _=>simp [gu] at hy
 | .none,_,h,_=>by simp [gu] at h
 | .bool _,_,h,_=>by simp [gu] at h
 | .list _,_,h,_=>by simp [gu] at h
 | .dict _,_,h,_=>by simp [gu] at h
theorem zr:∀(xs ys:List PyData),mI xs=true->mI ys=true->PyData.eqvAll xs ys=decide (xs=ys)
 | [],[],_,_=>by simp [PyData.eqvAll]
 | [],_::_,_,_=>by simp [PyData.eqvAll]
 | _::_,[],_,_=>by simp [PyData.eqvAll]
 | x::xs,y::ys,hx,hy=>by
  rw[mI,aaN] at hx hy;rw[PyData.eqvAll,Kh x y hx.1 hy.1,zr xs ys hx.2 hy.2]
  by_cases c:x=y
  ·subst c
   by_cases d:xs=ys
   ·subst d;simp
   ·rw[decide_eq_false d,decide_eq_false (λe=>d (List.cons.inj e).2)];simp
  ·rw[decide_eq_false c,decide_eq_false (λe=>c (List.cons.inj e).1)];simp
end
mutual
theorem ya {h h':Heap} {d:Addr} {o:Obj} {es ep} (ho:h.get? d=some o) (hd:o.data=.dict es ep) (hs:Heap.SameBut d h h'):∀(x:PyData) (v:Value) (as:List Addr),gu x=true->Reads h v x as->Reads h' v x as
 | .int _,_,_,_,r=>by cases r;exact .int _ _
 | .str _,_,_,_,r=>by cases r;exact .str _ _
 | .tuple xs,_,_,hx,r=>by
  rw[gu] at hx;cases r with
  | @tuple a o' vs n _ _ e c q t=>
   have ne:a≠d:=λz=>by
    subst z;rw[ho] at e;cases e;rw[hd] at q;cases q
   exact .tuple ((hs.2 a ne).trans e) c q (nK ho hd hs xs _ _ hx t)
 | .none,_,_,h,_=>by simp [gu] at h
 | .bool _,_,_,h,_=>by simp [gu] at h
 | .list _,_,_,h,_=>by simp [gu] at h
 | .dict _,_,_,h,_=>by simp [gu] at h
theorem nK {h h':Heap} {d:Addr} {o:Obj} {es ep} (ho:h.get? d=some o) (hd:o.data=.dict es ep) (hs:Heap.SameBut d h h'):∀(xs:List PyData) (vs:List Value) (as:List Addr),mI xs=true->ReadsAll h vs xs as->ReadsAll h' vs xs as
 | [],_,_,_,r=>by cases r;exact .nil
 | x::xs,_,_,hx,r=>by
  rw[mI,aaN] at hx;cases r with
  | cons r1 r2=>exact .cons (ya ho hd hs x _ _ hx.1 r1) (nK ho hd hs xs _ _ hx.2 r2)
end
mutual
noncomputable def zt (w:World):PyData->Int
 | .int i=>Ji w (.inl i)
 | .str x=>Ji w (.inr x)
 | .tuple xs=>reduceHash (Builtin.Tuple.tupleHashOf (gw w xs))
 | _=>0
noncomputable def gw (w:World):List PyData->List Int
 | []=>[]
 | x::xs=>zt w x::gw w xs
end
mutual
noncomputable def Rn:PyData->Nat
 | .tuple xs=>pN xs+1
 | _=>1
noncomputable def pN:List PyData->Nat
 | []=>0
 | x::xs=>Rn x+pN xs
end
section
variable {prog : Program} {w : World}
abbrev PH (prog:Program) (w:World) (m:Nat) (h:Heap) (d:PyData) (v:Value):Prop:=∀(A:Around) (E:Value->Shared->Prop) (s:Shared) (Q:Int->Shared->Prop),s.heap=h->A.units+m<cLine->
 Q (zt w d) {s with toks:=s.toks+Rn d}->wpAny (model prog w) A (pyHash v) Q E s
inductive HI (prog:Program) (w:World) (m:Nat) (h:Heap):List PyData->List Value->Prop
 | nil:HI prog w m h [] []
 | cons {d v ds vs}:PH prog w m h d v->HI prog w m h ds vs->HI prog w m h (d::ds) (v::vs)
theorem A6 (xs ys:List PyData):gw w (xs++ys)=gw w xs++gw w ys:=by
 induction xs with
 | nil=>simp [gw]
 | cons x xs ih=>simp [gw,ih]
theorem CZ (xs ys:List PyData):pN (xs++ys)=pN xs+pN ys:=by
 induction xs with
 | nil=>simp [pN]
 | cons x xs ih=>simp [pN,ih,Nat.add_assoc]
theorem C0 {m:Nat} {h:Heap} {ds:List PyData} {a:Addr} {o:Obj} {items n} (ho:h.get? a=some o) (hc:o.cls=.type "tuple") (hd:o.data=.seq items n) (hi:HI prog w m h ds items.toList):PH prog w (m+1) h (.tuple ds) (.ref a):=by
 intro A E s Q hh hu hq;subst hh;have hT:s.TypeIs (.ref a) "tuple":=⟨o,ho,hc⟩
 have SX:A.units<cLine:=⋯
 unfold pyHash
 first | unfold pyHashByItsType | skip
 first | refine wpAny_bind (wpAny_cRoomFor_or (.inr SX) ?_) | skip
 refine wpAny_bind (wpAny_specialOf hT F.slot_tuple_hash.lookup ?_);show wpAny _ _ (if (some (Value.builtin "tuple.__hash__")==some Value.none)=true then _ else _) Q E s;rw[if_neg (by rw[beq_builtin_none];exact aax)];refine wpAny_bind (wpAny_specialOf hT F.slot_tuple_hash.lookup ?_);show wpAny _ _ (callSpecialIfBoundUnlessNone? (.ref a) "__hash__" _ >>=_) Q E s;refine wpAny_bind (wpAny_callSpecialIfBoundUnlessNone?_slot hT F.slot_tuple_hash (wpAny_call_entry F.slot_tuple_hash hT F.entry_tuple_hash ?_ (F.args_tuple_hash_1 _)));show wpAny _ _ (Builtin.Tuple.tupleItemsOf (.ref a) >>=_) _ _ s;refine wpAny_bind (wpAny_tupleItemsOf ho hd ?_);refine wpAny_bind ?_;rw[<-Array.forIn_toList];refine wpAny_forIn_list _
  (λrest (b:Array Int) s'=>∃done left,ds=done++left/\HI prog w m s.heap left rest/\b.toList=gw w done/\s'={s with toks:=s.toks+pN done})
  _ ?_ ?_ _ _ ⟨[],ds,rfl,hi,rfl,rfl⟩
 ·rintro x rest b s' ⟨done,left,rfl,hl,hb,rfl⟩;cases hl with
  | @cons k _ Xr _ h1 C4=>
   refine wpAny_bind (h1 _ _ _ _ rfl (by show A.units+1+m<cLine;lia) ?_);have e1:(b.push (zt w k)).toList=gw w (done++ [k]):=by rw[A6];simp [hb,gw]
   have e2:s.toks+pN done+Rn k=s.toks+pN (done++ [k]):=by rw[CZ];simp [pN,Nat.add_assoc]
   first
    | exact wpAny_pure ⟨done++ [k],Xr,by simp,C4,e1,by rw[<-e2]⟩
    | exact wpAny_bind (wpAny_pure (wpAny_pure ⟨done++ [k],Xr,by simp,C4,e1,by rw[<-e2]⟩))
 ·rintro b s' ⟨done,left,rfl,hl,hb,rfl⟩;cases hl;rw[aa0] at hq;show wpAny _ _ (retInt (Builtin.Tuple.tupleHashOf b.toList)) _ _ _;rw[hb];refine wpAny_ret_mkInt ?_;show wpAny _ _ (if (decide (-(2:Int)^63<=Builtin.Tuple.tupleHashOf (gw w done)) && decide (Builtin.Tuple.tupleHashOf (gw w done)<2^63))=true then _ else _) Q E _;rw[zt,Rn] at hq;unfold reduceHash at hq
  by_cases hr:(decide (-(2:Int)^63<=Builtin.Tuple.tupleHashOf (gw w done)) && decide (Builtin.Tuple.tupleHashOf (gw w done)<2^63))=true
  ·rw[if_pos hr];rw[if_pos hr] at hq;exact wpAny_pure (by simpa [Nat.add_assoc] using hq)
  ·rw[if_neg hr];rw[if_neg hr] at hq;exact wpAny_bind (wpAny_rule (wpAny_pure (by simpa [Nat.add_assoc] using hq)))
mutual
theorem Ki {h:Heap}:∀(d:PyData) (v:Value) (as:List Addr),gu d=true->Reads h v d as->PH prog w d.depth h d v
 | .int i,_,_,_,r=>by
  cases r with
  | int _ t=>
   intro A E s Q _ _ hq;exact(cA prog w).pyHash (k:=.inl i) (pk (k:=.inl i) ⟨t,rfl⟩) hq
 | .str x,_,_,_,r=>by
  cases r with
  | str _ t=>
   intro A E s Q _ _ hq;exact(cA prog w).pyHash (k:=.inr x) (pk (k:=.inr x) ⟨t,rfl⟩) hq
 | .tuple xs,_,_,hx,r=>by
  rw[gu] at hx;cases r with
  | tuple e c q t=>exact C0 e c q (zu xs _ _ hx t)
 | .none,_,_,h,_=>by simp [gu] at h
 | .bool _,_,_,h,_=>by simp [gu] at h
 | .list _,_,_,h,_=>by simp [gu] at h
 | .dict _,_,_,h,_=>by simp [gu] at h
theorem zu {h:Heap}:∀(ds:List PyData) (vs:List Value) (as:List Addr),mI ds=true->ReadsAll h vs ds as->HI prog w (PyData.depthAll ds) h ds vs
 | [],_,_,_,r=>by cases r;exact .nil
 | x::xs,_,_,hx,r=>by
  rw[mI,aaN] at hx;cases r with
  | cons r1 r2=>
   have p1:=Ki x _ _ hx.1 r1;have p2:=zu xs _ _ hx.2 r2;have up:∀{m m':Nat} {ds:List PyData} {vs:List Value},m<=m'->HI prog w m h ds vs->HI prog w m' h ds vs:=λl q=>by
    induction q with
    | nil=>exact .nil
    | cons p _ ih=>exact .cons (λA E s Q e u=>p A E s Q e ⋯) ih
   refine .cons (λA E s Q e u=>p1 A E s Q e ?_) (up ?_ p2)
   ·rw[PyData.depthAll] at u;lia
   ·rw[PyData.depthAll];lia
end
theorem vJ {h:Heap} {k:Nat} {a:Addr} {o:Obj} {items n} (ho:h.get? a=some o) (hc:o.cls=.type "tuple") (hd:o.data=.seq items n) (hi:∀v∈items.toList,∀(A:Around) (E:Value->Shared->Prop) (s:Shared) (Q:Bool->Shared->Prop),s.heap=h->Q true s->wpAny (model prog w) A (eqIsQuiet k v) Q E s)
  (A:Around) (E:Value->Shared->Prop) (s:Shared) (Q:Bool->Shared->Prop) (hh:s.heap=h) (hq:Q true s):wpAny (model prog w) A (eqIsQuiet (k+1) (.ref a)) Q E s:=by
 subst hh;have hT:s.TypeIs (.ref a) "tuple":=⟨o,ho,hc⟩
 unfold eqIsQuiet;refine wpAny_bind (wpAny_specialOf hT F.slot_tuple_eq.lookup ?_);show wpAny _ _ (isInstance (.ref a) (.type "tuple") >>=_) _ _ s;refine wpAny_bind (wpAny_isInstance hT isSubtype_tuple_tuple ?_);simp only[Bool.not_true,Bool.false_eq_true,if_false];refine wpAny_bind (wpAny_seqItems ho hd ?_);refine wpAny_bind ?_;show wpAny _ _ (forIn items _ _) _ _ s;rw[<-Array.forIn_toList];refine wpAny_forIn_list _ (λrest r s'=>r.1=none/\s'=s/\∀v∈rest,v∈items.toList) _ ?_ ?_ _ _ ⟨rfl,rfl,λ_ h=>h⟩
 ·rintro v rest r s' ⟨hr,rfl,AL⟩;refine wpAny_bind (hi v (AL v aar) _ _ _ _ rfl ?_);simp only[Bool.not_true,Bool.false_eq_true,if_false];exact wpAny_pure ⟨rfl,rfl,λu Zq=>AL u (aap _ Zq)⟩
 ·rintro⟨r1,r2⟩ s' ⟨hr,rfl,_⟩;simp only at hr;subst hr;exact wpAny_pure hq
mutual
theorem A7 {h:Heap}:∀(d:PyData) (v:Value) (as:List Addr) (k:Nat),gu d=true->d.depth<=k->Reads h v d as->∀(A:Around) (E:Value->Shared->Prop) (s:Shared) (Q:Bool->Shared->Prop),s.heap=h->Q true s->wpAny (model prog w) A (eqIsQuiet k v) Q E s
 | .int _,_,_,_,_,_,r=>by
  cases r;intro A E s Q _ hq;rw[eqIsQuiet_byValue _ rfl];exact wpAny_pure hq
 | .str _,_,_,_,_,_,r=>by
  cases r;intro A E s Q _ hq;rw[eqIsQuiet_byValue _ rfl];exact wpAny_pure hq
 | .tuple xs,_,_,k,hx,hk,r=>by
  rw[gu] at hx;rw[PyData.depth] at hk;cases k with
  | zero=>lia
  | succ k=>
   cases r with
   | tuple e c q t=>exact vJ e c q (pO xs _ _ k hx ⋯ t)
 | .none,_,_,_,h,_,_=>by simp [gu] at h
 | .bool _,_,_,_,h,_,_=>by simp [gu] at h
 | .list _,_,_,_,h,_,_=>by simp [gu] at h
 | .dict _,_,_,_,h,_,_=>by simp [gu] at h
theorem pO {h:Heap}:∀(ds:List PyData) (vs:List Value) (as:List Addr) (k:Nat),mI ds=true->PyData.depthAll ds<=k->ReadsAll h vs ds as->∀v∈vs,∀(A:Around) (E:Value->Shared->Prop) (s:Shared) (Q:Bool->Shared->Prop),s.heap=h->Q true s->wpAny (model prog w) A (eqIsQuiet k v) Q E s
 | [],_,_,_,_,_,r=>by
  cases r;intro v hv;simp at hv
 | x::xs,_,_,k,hx,hk,r=>by
  rw[mI,aaN] at hx;rw[PyData.depthAll] at hk;cases r with
  | cons r1 r2=>
   intro v hv;rcases aaX.mp hv with rfl | hv
   ·exact A7 x _ _ k hx.1 ⋯ r1
   ·exact pO xs _ _ k hx.2 ⋯ r2 v hv
end
end
mutual
noncomputable def toP:Dat->PyData
 | .bZ=>.none
 | .bl b=>.bool b
 | .int i=>.int i
 | .str x=>.str x
 | .tup l=>.tuple (toPL l)
 | .lst l=>.list (toPL l)
noncomputable def toPL:List Dat->List PyData
 | []=>[]
 | d::ds=>toP d::toPL ds
end
section
variable {P : Program} {w : World} {H : Hp} {h : Heap}
mutual
theorem pP (ok:gG P w H h):∀(d:Dat) (v:V) (u:Value),Rep H d v->RelV v u->∃as,Reads h u (toP d) as
 | .bZ,v,u,r,q=>by
  rw[Rep] at r;subst r;cases (show u=Value.none from q);exact⟨_,.none⟩
 | .bl b,v,u,r,q=>by
  rw[Rep] at r;subst r;cases (show u=Value.bool b from q);exact⟨_,.bool b⟩
 | .int i,v,u,r,q=>by
  rw[Rep] at r;subst r;obtain⟨t,rfl⟩:=(show ∃t,u=Value.int i t from q)
  exact⟨_,.int i t⟩
 | .str x,v,u,r,q=>by
  rw[Rep] at r;subst r;obtain⟨t,rfl⟩:=(show ∃t,u=Value.str x t from q)
  exact⟨_,.str x t⟩
 | .tup l,v,u,r,q=>by
  rw[Rep] at r;obtain⟨p,vs,rfl,hp,rl⟩:=r;cases (show u=Value.ref p from q);obtain⟨_,bf,rv,o,h1,h2,n,h3⟩:=(show cE P w H h p (.tup vs) from ok p _ hp)
  obtain⟨as,ra⟩:=mJ ok l vs bf rl rv;exact⟨as,.tuple h1 h2 h3 (by simpa using ra)⟩
 | .lst l,v,u,r,q=>by
  rw[Rep] at r;obtain⟨p,vs,rfl,hp,rl⟩:=r;cases (show u=Value.ref p from q);obtain⟨_,bf,n,rv,h1⟩:=(show cE P w H h p (.lst vs) from ok p _ hp)
  obtain⟨as,ra⟩:=mJ ok l vs bf rl rv;exact⟨p::as,.list h1 rfl rfl (by simpa using ra)⟩
theorem mJ (ok:gG P w H h):∀(ds:List Dat) (vs:List V) (us:List Value),bg H ds vs->br vs us->∃as,ReadsAll h us (toPL ds) as
 | [],vs,us,r,q=>by
  rw[bg] at r;subst r;cases q;exact⟨_,.nil⟩
 | d::ds,vs,us,r,q=>by
  rw[bg] at r;obtain⟨v,rest,rfl,r1,r2⟩:=r;cases q with
  | cons q1 q2=>
   obtain⟨a1,h1⟩:=pP ok d v _ r1 q1;obtain⟨a2,h2⟩:=mJ ok ds rest _ r2 q2;exact⟨_,.cons h1 h2⟩
end
end
@[inline]abbrev Rows:=List (Dat×Addr×Int)
@[inline]abbrev RwN:Rows->List (PyData×Addr×Value)->Prop:=Paired λp q=>toP p.1=q.1/\p.2.1=q.2.1/\∃t,q.2.2=Value.int p.2.2 t
section
variable {P : Program} {w : World} {H : Hp} {h : Heap} {a : Addr}
end
section
variable {X : Cx} {P : Program} {w : World} {o i e value : Expr} {pos pos' iO : Pos} {td ty tv : TE}
end
open PySem PySem.Spec PyProof.Rows PySem.W
section
variable {X : Cx} {K : abk}
theorem sC {P:Program} {w:World} {H:Hp} {h:Heap} (ok:gG P w H h) {ds:List Dat} {xs:List V} {us:List Value} (r:bg H ds xs) (v:br xs us) {i:Nat} {u:Value} (e:us[i]?=some u):∃d as,ds[i]?=some d/\Reads h u (toP d) as:=by
 have l1:=r.length;have l2:=v.length;have hi:=(abr.mp e).1;have ex:xs[i]?=some (xs[i]'⋯):=aao ⋯;obtain⟨u',e1,rv⟩:=v.get ex;rw[e] at e1;cases e1;obtain⟨d,ed,rd⟩:=r.get ex;obtain⟨as,ra⟩:=pP ok d _ _ rd rv;exact⟨d,as,ed,ra⟩
end
structure dB (P:Program) (w:World) (K:abk) (mg:Str->Option Value) (base:Heap) (CX:mi) (k:Nat) (C:Addr) (m:Str) (ps:List Str) (sp:Sp):Prop where
 ex:∃f fd,BW K C m f/\fL P w K mg base CX k f fd ps sp/\Binds K fd ps []
section
variable {X : Cx} {CX : mi} {k : Nat} {C : Addr} {m : Str} {ps : List Str} {sp : Sp} {E : XK} {e o : Expr} {es : List Expr} {ta : TE} {t : TA} {pos apos : Pos} {pl : Sem Bool}
theorem c4 (M:dB X.prog X.w X.K X.mg X.base CX k C m ps sp) (c:vg X.K C) (he:PE X o ta) (ha:PA X (e::es) t) (hr:dD k X.A:=by exact hr.mono ∅) (hx:fj CX X E:=by exact kR.pass)
  (kG:starEach (e::es) X.env=(false,eval e X.env)::starEach es X.env:=by first | exact se rfl | rfl) (hpl:(backTo pos (starEach es X.env)).any (·.1)=false:=by first | exact na rfl | rfl)
  (ht:eval (.Call (.Attribute o m apos) (e::es) [] pos) X.env=(do
   let ov <-eval o X.env
   standAt apos.atName
   let (f,first) <-holding [ov] (getMethod ov m pl)
   callWith pos f first (backTo pos (starEach (e::es) X.env)) (backToKw pos (keywordEach [] X.env))):=by rfl):
  PE X (.Call (.Attribute o m apos) (e::es) [] pos) (bS C m sp [] E ta t):=by
 obtain⟨f,fd,hm,F,hb⟩:=M.ex;exact Fc he c hm F hr hb .nil hx ha kG hpl ht
theorem ik (M:dB X.prog X.w X.K X.mg X.base CX k C m ps sp) (c:vg X.K C) (he:PE X o ta) (hr:dD k X.A:=by exact hr.mono ∅) (hx:fj CX X E:=by exact kR.pass)
  (ht:eval (.Call (.Attribute o m apos) [] [] pos) X.env=(do
   let ov <-eval o X.env
   standAt apos.atName
   let (f,first) <-holding [ov] (getMethod ov m pl)
   callWith pos f first (backTo pos (starEach [] X.env)) (backToKw pos (keywordEach [] X.env))):=by rfl):
  PE X (.Call (.Attribute o m apos) [] [] pos) (bS C m sp [] E ta tNil):=by
 obtain⟨f,fd,hm,F,hb⟩:=M.ex;exact BX he c hm F hr hb .nil hx ht
end
structure qO (K:abk) (C:Addr) (m qual:Str) (st:Stmt):Prop where
 ex:∃f fd,xf K m qual st f fd/\BW K C m f
theorem qO.dE {P:Program} {w:World} {K:abk} {mg:Str->Option Value} {base:Heap} {CX:mi} {m qual:Str} {st:Stmt} {C:Addr} {ps:List Str} {k:Nat} {sp:Sp} (D:qO K C m qual st)
  (hb:∀(kV doc pm:Value) (an:Option Addr) (bR ct:Value) (us:List Value),us.length=ps.length->bindArgs (abn m qual (bC st) (bu st) (au st) .none kV doc pm an bR ct) ⟨us,[]⟩=pure (ps.zip us))
  (h:∀f fd,xf K m qual st f fd->fL P w K mg base CX k f fd ps sp):dB P w K mg base CX k C m ps sp:=by
 obtain⟨f,fd,F,hm⟩:=D.ex;exact⟨f,fd,hm,h f fd F,F.binds hb⟩
end L2
namespace L2
open PySem PySem.Spec PyProof.Rows PySem.W
mutual
noncomputable def tU:PyData->Bool
 | .none=>true
 | .int _=>true
 | .str x=>PyData.canLay0 (.str x)
 | .tuple xs=>vK xs
 | .list xs=>vK xs
 | _=>false
noncomputable def vK:List PyData->Bool
 | []=>true
 | x::xs=>tU x && vK xs
end
mutual
theorem oH:∀(d:PyData),tU d=true->d.canLay0=true
 | .none,_=>by simp [PyData.canLay0]
 | .bool _,h=>by simp [tU] at h
 | .int _,_=>by simp [PyData.canLay0]
 | .str x,h=>by rw[tU] at h;exact h
 | .list xs,h=>by rw[tU] at h;rw[PyData.canLay0];exact pQ xs h
 | .tuple xs,h=>by rw[tU] at h;rw[PyData.canLay0];exact pQ xs h
 | .dict _,h=>by simp [tU] at h
theorem pQ:∀(xs:List PyData),vK xs=true->PyData.canLayAll0 xs=true
 | [],_=>by simp [PyData.canLayAll0]
 | x::xs,h=>by
  rw[vK,aaN] at h;rw[PyData.canLayAll0,aaN];exact⟨oH x h.1,pQ xs h.2⟩
end
mutual
theorem zv:∀(x y:PyData),tU x=true->tU y=true->PyData.eqv x y=decide (x=y)
 | .none,y,_,hy=>by cases y <;>simp [PyData.eqv]
 | .int i,y,_,hy=>by
  cases y with
  | int j=>
   rw[PyData.eqv]
   by_cases c:i=j
   ·subst c;simp
   ·rw[decide_eq_false (λe=>c (by injection e))];simp [c]
  | bool _=>simp [tU] at hy
  | _=>simp [PyData.eqv]
 | .str a,y,_,hy=>by
  cases y with
  | str b=>
   rw[PyData.eqv]
   by_cases c:a=b
   ·subst c;simp
   ·rw[decide_eq_false (λe=>c (by injection e))];simp [c]
  | _=>simp [PyData.eqv]
 | .tuple xs,y,hx,hy=>by
  cases y with
  | tuple ys=>
   rw[tU] at hx hy;rw[PyData.eqv,pR xs ys hx hy]
   by_cases c:xs=ys
   ·subst c;simp
   ·rw[decide_eq_false c,decide_eq_false (λe=>c (by injection e))]
  | _=>simp [PyData.eqv]
 | .list xs,y,hx,hy=>by
  cases y with
  | list ys=>
   rw[tU] at hx hy;rw[PyData.eqv,pR xs ys hx hy]
   by_cases c:xs=ys
   ·subst c;simp
   ·rw[decide_eq_false c,decide_eq_false (λe=>c (by injection e))]
  | _=>simp [PyData.eqv]
 | .bool _,_,h,_=>by simp [tU] at h
 | .dict _,_,h,_=>by simp [tU] at h
theorem pR:∀(xs ys:List PyData),vK xs=true->vK ys=true->PyData.eqvAll xs ys=decide (xs=ys)
 | [],[],_,_=>by simp [PyData.eqvAll]
 | [],_::_,_,_=>by simp [PyData.eqvAll]
 | _::_,[],_,_=>by simp [PyData.eqvAll]
 | x::xs,y::ys,hx,hy=>by
  rw[vK,aaN] at hx hy;rw[PyData.eqvAll,zv x y hx.1 hy.1,pR xs ys hx.2 hy.2]
  by_cases c:x=y
  ·subst c
   by_cases d:xs=ys
   ·subst d;simp
   ·rw[decide_eq_false d,decide_eq_false (λe=>d (List.cons.inj e).2)];simp
  ·rw[decide_eq_false c,decide_eq_false (λe=>c (List.cons.inj e).1)];simp
end
section
variable {X : Cx} {K : abk}
abbrev Ke (d:Dat):Prop:=tU (toP d)=true/\(toP d).depth<=8
theorem Kj {A:Around} {s:Shared} {a b:PyData} {u v:Value} {as bs:List Addr} (ra:Reads s.heap u a as) (rb:Reads s.heap v b bs) (ha:tU a=true) (hb:tU b=true) (da:a.depth<=8) (db:b.depth<=8) (hu:A.units+8<cLine):SeqAt.EqAt A s u v (decide (a=b)):=λprog w E Q h=>
 SeqAt.eqBoolOverData _ _ _ _ _ _ _ _ _ _ _ _ ra rb (oH _ ha) (oH _ hb) ⋯ (by rw[zv _ _ ha hb];exact h)
theorem C5 {s:Shared} {ds:List Dat} {d:Dat} (Kk:∀e∈ds,Ke e) {u:Value} {e:Dat} {bs:List Addr} [Decidable (∃cs,Reads s.heap u (toP d) cs)] (he:e∈ds) (re:Reads s.heap u (toP e) bs):decide (∃cs,Reads s.heap u (toP d) cs)=decide (toP e=toP d):=by
 by_cases c:toP e=toP d
 ·rw[decide_eq_true c,decide_eq_true ⟨bs,by rw[<-c];exact re⟩]
 ·rw[decide_eq_false c,decide_eq_false];rintro⟨cs,rc⟩;exact c (SeqAt.Reads.unique _ _ _ _ _ (oH _ (Kk e he).1) re rc)
abbrev Nl:V->List V->Hp->VK->Prop:=λx vs H Q=>∃l xs ds v d i,x=.ref l/\vs=[v]/\H l=some (.lst xs)/\bg H ds xs/\(∀e∈ds,Ke e)/\Rep H d v/\Ke d/\(ds.map toP)[i]?=some (toP d)/\(∀j,j<i->(ds.map toP)[j]?≠some (toP d))/\i<100000/\Q (.int (i:Nat)) H
theorem A8 (hu:X.A.units+64<cLine):JD X "list.index" Nl:=by
 classical
 intro pins s σ H x vs v us Q I rx rv h;obtain⟨l,xs,ds,y,d,i,rfl,rfl,hp,rd,Kk,Zr,hd,hi,Zs,i6,q⟩:=h;cases rx;obtain⟨u,rfl,ru⟩:=vals1 rv;obtain⟨bf,r,pl,hz⟩:=I.list (bw.of hp);obtain⟨as,ra⟩:=pP I.bL d y u Zr ru;have l1:=rd.length;have l2:=r.length;have at_:∀(j:Nat) (hj:j<bf.length),∃e bs,ds[j]?=some e/\e∈ds/\Reads s.heap bf[j] (toP e) bs:=λj hj=>by
  obtain⟨e,bs,ed,re⟩:=sC I.bL rd r (aao hj);exact⟨e,bs,ed,aay ed,re⟩
 have Zt:i<bf.length:=by
  have:=(abr.mp hi).1;rw[aaj] at this;lia
 obtain⟨⟨c1,d1,d2,sl⟩,ho,e1,m,e2⟩:=pl.isList;cases e1;cases e2;have hit:decide (∃cs,Reads s.heap bf[i] (toP d) cs)=true:=by
  obtain⟨e,bs,ed,he,re⟩:=at_ i Zt;rw[C5 Kk he re];rw[aal,ed] at hi;exact decide_eq_true (aaC hi)
 refine call_meets PySem.F.slot_list_index ⟨_,ho,rfl⟩ PySem.F.entry_list_index (PySem.F.args_list_index_2 _ _) (PySem.SeqAt.list_indexAt l bf.toArray m d1 sl u (λu=>decide (∃cs,Reads s.heap u (toP d) cs)) i (by rw[aan];lia) ⋯ hit (λj hj hl=>?_)) ⟨ho,λy hy=>?_,⟨.int _,H,I.tok _,⟨_,rfl⟩,q⟩⟩
 ·rw[aan] at hj;obtain⟨e,bs,ed,he,re⟩:=at_ j hj;show decide (∃cs,Reads s.heap bf[j] (toP d) cs)=false;rw[C5 Kk he re];refine decide_eq_false λz=>Zs j hl ?_;rw[aal,ed];exact congrArg some z
 ·obtain⟨j,ej⟩:=List.getElem?_of_mem (List.mem_toArray.mp hy);obtain⟨e,bs,ed,re⟩:=sC I.bL rd r ej;have he:=aay ed;show SeqAt.EqAt _ _ _ _ (decide _);rw[C5 Kk he re];exact Kj re ra (Kk e he).1 hd.1 (Kk e he).2 hd.2 (by show X.A.units+1+8<cLine;lia)
end
open PySem PySem.Spec PyProof.Rows PySem.W
section
variable {X : Cx} {CX : mi} {k : Nat} {C : Addr} {m : Str} {ps : List Str} {sp : Sp} {E : XK} {e o : Expr} {es : List Expr} {ta : TE} {t : TA} {pos apos : Pos} {pl : Sem Bool}
theorem C6 {pins:List (Addr×Obj)} {σ:St} {H:Hp} {s:Shared} {Q:VK} {Ex:Value->Shared->Prop} (M:dB X.prog X.w X.K X.mg X.base CX k C m ps sp) (c:vg X.K C) (ho:PE X.Au o ta) (hr:dD k X.A) (ha:PA X.Au (e::es) t) (I:Inv X pins σ H s)
  (h:bS C m sp [] E ta t σ H Q) (hx:∀H1 s1 e s',Inv X pins σ H1 s1->CX X.stack H1 s1 E e s'->Ex e s')
  (kG:starEach (e::es) X.env=(false,eval e X.env)::starEach es X.env:=by injections) (hpl:(backTo pos (starEach es X.env)).any (·.1)=false:=by injections)
  (ht:eval (.Call (.Attribute o m apos) (e::es) [] pos) X.env=(do
   let ov <-eval o X.env
   standAt apos.atName
   let (f,first) <-holding [ov] (getMethod ov m pl)
   callWith pos f first (backTo pos (starEach (e::es) X.env)) (backToKw pos (keywordEach [] X.env))):=by rfl):
  wpAny (model X.prog X.w) X.A (eval (.Call (.Attribute o m apos) (e::es) [] pos) X.env) (EP X pins σ Q) Ex s:=by
 obtain⟨f,fd,hm,F,hb⟩:=M.ex;refine PySem.W.methodCall_KW (pl:=pl) (wpAny_mono (ho pins s σ H _ (I.iN _) h) (λu s1 ⟨x,H1,I1,rx,q0⟩=>?_) λ_ _ z=>z.elim) ht;obtain⟨a,ex,dx,fs,ea,l,q⟩:=rdR_eq.mp q0;have I1:=I1.eD;subst ex;obtain rfl:u=Value.ref a:=rx;refine j7 I1 ea c hm l ?_;refine PySem.W.callWith_K (first:=[.ref a]) (h₀:=X.base) I.ok.mod.E1 hm.kp (wpAny_mono (ha pos pins s1 σ H1 _ (I1.iN _) q) (λus s2 ⟨vs,H2,I2,r,q2⟩=>⟨I2.eD.iK,?_⟩) λ_ _ z=>z.elim) kG hpl;have I2:=I2.eD;have q2:sp (.ref a::(vs++ [])) H2 Q E:=q2;rw[aa0] at q2;have r':br (.ref a::vs) (.ref a::us):=.cons rfl r;have hl:(Value.ref a::us).length=ps.length:=by
  rw[<-r'.length];exact F.len _ _ _ _ q2
 have M9:=hb s2 (.ref a::us) I2.iK (by rw[aa0];exact hl);rw[aa0] at M9;refine wpAny_call (codeAny_mono (F.run X.A X.stack s2 H2 ⟨.ref a::us,[]⟩ (.ref a::us) (.ref a::vs) Q E hr I2.E9 M9 r' q2) λr s' hq=>?_);cases r with
 | error e=>exact hx H2 s2 e s' I2 hq
 | ok fl=>
  cases fl with
  | ret u=>exact I2.after hq
  | next=>exact False.elim hq
  | brk=>exact False.elim hq
  | cont=>exact False.elim hq
end
section
variable {X : Cx} {k k2 : Nat} {C C' : Addr} {m m2 : Str} {ps Xs : List Str} {sp Np : Sp} {e e2 o o2 : Expr} {es FV : List Expr} {ta Nq : TE} {t t2 : TA} {pos apos om vL : Pos} {pl HF : Sem Bool} {cx n : Str} {np tO xQ C7 iO Nr : Pos} {b₀ : Stmt} {pA : List Stmt} {i : Nat} {ts : TS} {C2 : Addr} {c : Expr} {tc : TT}
end
end L2
namespace PySem.Dfl
open PySem PyProof.Rows
section
variable {prog : Program} {w : World} {A : Around} {E : Value -> Shared -> Prop} {s : Shared}
end
section
variable {prog : Program} {w : World} {K : Type} [DecidableEq K] {knd : KeyKind prog w K} {A : Around} {R : Result -> Shared -> Prop} {I : Addr} {fp wr : List Addr} {G : Array GenState -> Array GenState -> Prop} {n : Nat} {P : Nat -> Value -> Prop} {St : Nat -> Shared -> Prop}
end
end PySem.Dfl
namespace PySem.Dfl
open PySem PyProof.Rows
section
variable {prog : Program} {w : World} {K : Type} [DecidableEq K] {knd : KeyKind prog w K} {A : Around} {E : Value -> Shared -> Prop} {s : Shared}
end
end PySem.Dfl
namespace L2
open PySem PyProof.Rows
section
variable {X : Cx} {P : Program} {w : World} {K : abk}
end
open PySem PyProof.Rows
section
variable {X : Cx}
end
open PySem PyProof.Rows
structure Nt (K:abk) (mg:Str->Option Value) (g x:Str) (st:Stmt):Prop where
 ex:∃f fd,xf K x x st f fd/\mg g=some (.ref f)
theorem Nt.dE {P:Program} {w:World} {K:abk} {mg:Str->Option Value} {base:Heap} {CX:mi} {g x:Str} {st:Stmt} {ps:List Str} {k:Nat} {sp:Sp} (D:Nt K mg g x st)
  (hb:∀(kV doc pm:Value) (an:Option Addr) (bR ct:Value) (us:List Value),us.length=ps.length->bindArgs (abn x x (bC st) (bu st) (au st) .none kV doc pm an bR ct) ⟨us,[]⟩=pure (ps.zip us))
  (h:∀f fd,xf K x x st f fd->fL P w K mg base CX k f fd ps sp):eO P w K mg base CX k g ps sp:=by
 obtain⟨f,fd,F,hm⟩:=D.ex;exact⟨f,fd,h f fd F,hm,F.kp,F.binds hb⟩
open PySem PyProof.Rows
theorem exV {b:V} {Q:V->Prop}:(∃v,(some (some b):Option (Option V))=some (some v)/\Q v)=Q b:=propext ⟨fun⟨_,e,h⟩=>by cases e;exact h,λh=>⟨b,rfl,h⟩⟩
theorem exI {a:Int} {Q:Int->Prop}:(∃i,V.int a=V.int i/\Q i)=Q a:=propext ⟨fun⟨_,e,h⟩=>by cases e;exact h,λh=>⟨a,rfl,h⟩⟩
theorem exB {a:Bool} {Q:Bool->Prop}:(∃i,V.bl a=V.bl i/\Q i)=Q a:=propext ⟨fun⟨_,e,h⟩=>by cases e;exact h,λh=>⟨a,rfl,h⟩⟩
theorem exR {a:Addr} {Q:Addr->Prop}:(∃i,V.ref a=V.ref i/\Q i)=Q a:=propext ⟨fun⟨_,e,h⟩=>by cases e;exact h,λh=>⟨a,rfl,h⟩⟩
theorem exS {a:Str} {Q:Str->Prop}:(∃i,V.str a=V.str i/\Q i)=Q a:=propext ⟨fun⟨_,e,h⟩=>by cases e;exact h,λh=>⟨a,rfl,h⟩⟩
theorem exII {a b:Int} {Q:Int->Int->Prop}:(∃i j,V.int a=V.int i/\V.int b=V.int j/\Q i j)=Q a b:=propext ⟨fun⟨_,_,e,f,h⟩=>by cases e;cases f;exact h,λh=>⟨a,b,rfl,rfl,h⟩⟩
theorem exRI {a:Addr} {k:Int} {Q:Addr->List V->Int->V->Prop}:(∃p xs i v,V.ref a=V.ref p/\V.int k=V.int i/\Q p xs i v)=∃xs v,Q a xs k v:=propext ⟨fun⟨_,xs,_,v,e,f,h⟩=>by cases e;cases f;exact⟨xs,v,h⟩,fun⟨xs,v,h⟩=>⟨a,xs,k,v,rfl,rfl,h⟩⟩
theorem exRa {α:Type} {a:Addr} {Q:Addr->α->Prop}:(∃p v,V.ref a=V.ref p/\Q p v)=∃v,Q a v:=propext ⟨fun⟨_,v,e,h⟩=>by cases e;exact⟨v,h⟩,fun⟨v,h⟩=>⟨a,v,rfl,h⟩⟩
theorem exRb {α β:Type} {a:Addr} {Q:Addr->α->β->Prop}:(∃p v u,V.ref a=V.ref p/\Q p v u)=∃v u,Q a v u:=propext ⟨fun⟨_,v,u,e,h⟩=>by cases e;exact⟨v,u,h⟩,fun⟨v,u,h⟩=>⟨a,v,u,rfl,h⟩⟩
theorem scal_ss {a b:Str}:xy (.str a) (.str b)=true:=rfl
theorem scal_ii {a b:Int}:xy (.int a) (.int b)=true:=rfl
theorem scal_bb {a b:Bool}:xy (.bl a) (.bl b)=true:=rfl
theorem scal_si {a:Str} {b:Int}:xy (.str a) (.int b)=true:=rfl
theorem scal_is {a:Int} {b:Str}:xy (.int a) (.str b)=true:=rfl
open PySem PySem.Spec PyProof.Rows PySem.W
section
variable {X : Cx}
end
open PySem PySem.Spec PyProof.Rows PySem.W
section
variable {X : Cx} {k : Nat} {x : Str} {ps : List Str} {sp : Sp} {e : Expr} {es : List Expr} {t : TA} {p pos : Pos}
variable {cx n : Str} {np tO xQ iO : Pos} {b₀ : Stmt} {pA : List Stmt} {i : Nat} {ts : TS} {C2 : Addr}
end
section
variable {X : Cx}
end
section
variable {X : Cx}
abbrev Nu (ta:TA):TE:=λσ H Q=>ta σ H λvs H1=>∃(a:Int) (n:Nat),vs=[.int a,.int (a+ (n:Int))]/\n<=1000000/\-1000000<=a/\a<=1000000/\∀l,H1 l=none->Q (.ref l) (upd H1 l (.lst ((List.range n).map λi:Nat=>V.int (a+ (i:Int)))))
theorem qQ {a b:Expr} {ta:TA} {p1 p2 Tj om:Pos} (hc:X.calm=true) (Mb:Gl X "list") (Mc:X.mg "list"=none) (HJ:Gl X "range") (mK:X.mg "range"=none) (ha:PA X [a,b] ta) (hs:starEach [a,b] X.env=[(false,eval a X.env),(false,eval b X.env)]:=by rfl) (Hw:starEach [b] X.env=[(false,eval b X.env)]:=by rfl):
  PE X (.Call (.Name "list" p1) [.Call (.Name "range" p2) [a,b] [] om] [] Tj) (Nu ta):=by
 intro pins s σ H Q I h;refine wpAny_Call_Name_kw (gH I Mb Mc (u:=.type "list") rfl ?_ ∅ ∅);refine abj ?_ (se rfl) rfl;rw[se rfl];show wpAny _ _ (spliced [(false,eval (.Call (.Name "range" p2) [a,b] [] om) X.env)]) _ _ s;refine Calls.spliced_cons ?_;refine Call_ (gH I HJ mK boot_range (abj (cb (ha om pins s σ H _ I h) λus s1 dG=>?_) (by rw[hs,Hw]) (by rw[Hw];rfl)));obtain⟨vs,H1,I1,r1,q1⟩:=dG;obtain⟨i,n,e,hn,i0,i1,q⟩:=q1;subst e;cases r1 with
 | cons r rr=>
 cases rr with
 | cons r' rr=>
 cases rr;obtain⟨t,rfl⟩:=r;obtain⟨t',rfl⟩:=r';refine call_range_2 (Calls.spliced_nil ?_);refine call_list_range (n:=n) (I.ok.hd hc) (abw _ rfl) ?_ ?_ ⋯ λh' tk Tn c' hk Xu xR=>?_
 ·exact small_one ⋯ ⋯ ⋯ ⋯
 ·rw[rangeSize_one];split <;>lia
 have fr:=I1.bL.fresh (a:=s1.heap.objs.size+1) (Nat.le_succ _);have sz:(s1.heap.push {cls:=.type "range",data:=.fields #[.int i t,.int (i+ (n:Int)) t',.int 1 s1.toks]}).objs.size=s1.heap.objs.size+1:=Heap.size_push ..;simp only[sz] at Xu ⊢;refine⟨.ref (s1.heap.objs.size+1),_,I1.laid (t':=tk) (λb o e=>hk b o (abv _ e)) (Nat.le_succ _) (o:=.lst ((List.range n).map λj:Nat=>V.int (i+ (j:Int)))) ⟨?_,Tn.toList,c',?_,?_⟩,rfl,q _ fr⟩
 ·rw[aaj,aaO];have:=sizeLine_eq;lia
 ·have go:∀(us:List Value) (ws:List V),us.length=ws.length->(∀(j:Nat) v x,us[j]?=some v->ws[j]?=some x->RelV x v)->br ws us:=by
   intro us
   induction us with
   | nil=>intro ws hl _;cases ws with | nil=>exact .nil | cons _ _=>simp at hl
   | cons u us ih=>
    intro ws hl k;cases ws with
    | nil=>simp at hl
    | cons x r=>exact .cons (k 0 u x rfl rfl) (ih r (by simpa using hl) λj v y e1 e2=>k (j+1) v y (by simpa using e1) (by simpa using e2))
  refine go _ _ (by rw[aaT,xR.1,aaj,aaO]) λj v x e1 e2=>?_;rw[Array.getElem?_toList] at e1;obtain⟨t',rfl⟩:=xR.2 j v e1;rw[aal] at e2;obtain⟨m,em,rfl⟩:=abq.mp e2;have:m=j:=by
   obtain⟨_,h2⟩:=abr.mp em;rw[List.getElem_range] at h2;exact h2.symm
  subst this;exact⟨t',by simp⟩
 ·simpa using Xu
end
open PySem PySem.Spec PyProof.Rows PySem.W
theorem qR:entryFor table "proto.unchain"=some Builtin.«proto.unchain»:=entryFor_of_tree (by kernel_rfl)
theorem yb {P:Program} {w:World} {A:Around} {R:Result->Shared->Prop} {s:Shared} {id:String} {args:Args} {b:Builtin} (hb:entryFor table id=some b)
  (h:wpAny (model P w) (A.under (.builtin id args)) (b args) (λfin s'=>match fin with | .done f=>R (.ok f) s' | .again c'=>c'.quiet=true/\codeAny (model P w) A c' R s') (λe s'=>R (.error e) s') s):
  codeAny (model P w) A (.builtin id args) R s:=by
 refine codeAny_of_tree ?_;show wpAny _ _ (match entryFor table id with | some b=>b args | none=>unsupported ((withoutEnding? id "#data").getD id)) _ _ s;rw[hb];exact h
section
variable {P : Program} {w : World} {A : Around} {E : Value -> Shared -> Prop} {s : Shared} {e h : Addr} {oe oh : Obj} {vs ws : Array Value}
theorem qS {α:Type} {Q:α->Shared->Prop} (hh:A.handled=some (.ref h)) (ne:h≠e)
  (ho:s.heap.get? h=some oh) (hd:oh.data=.fields vs) (h2:vs[2]?=some .none) (he:s.heap.get? e=some oe) (Zu:oe.data=.fields ws) (hz:2<ws.size)
  (hE:E (.ref e) {s with heap:=s.heap.update e (Obj.mapFields (·.setIfInBounds 2 (.ref h)))}):wpAny (model P w) A (raiseNew (.ref e):Sem α) Q E s:=by
 unfold raiseNew;refine wpAny_bind (wpAny_handled ?_);rw[hh];dsimp only;rw[if_pos (by simp [ne])];refine wpAny_bind (wpAny_holding (wpAny_runValue (yb qR ?_)));unfold Builtin.«proto.unchain»;dsimp only;refine wpAny_bind (wpAny_field ho hd h2 ?_);rw[if_pos ∅];refine wpAny_pure ?_;dsimp only;refine wpAny_bind ?_;show wpAny _ _ (setField (.ref e) 2 (.ref h)) _ _ s;exact wpAny_setField he Zu hz (wpAny_throw hE)
end
section
variable {M : Model} {A : Around} {E : Value -> Shared -> Prop}
variable {nm q : Str} {C N : Addr} {bs bm : List Value} {hdct : Bool} {sn : List Str} {sub : List Value} {ab : Bool} {col : Option Bool} {dd : Option Addr} {k0 k1 k2 k3 k5 : Option Value} {newId : String}
theorem tV {s:Shared} {e:Addr} {o:Obj} {msg:String} {Q:Value->Shared->Prop} (vm:bm.contains (.type "BaseException")=true) (hC:s.heap.get? C=some (excClassObj nm q C N bs bm hdct sn sub ab col dd k0 k1 k2 k3 k5 newId))
  (he:s.heap.get? e=some o) (hc:o.cls=.ref C) {ws:Array Value} (hd:o.data=.fields ws) (h:Q (.ref e) s):wpAny M A (excFromValue (.ref e) msg) Q E s:=by
 have Zv:(Value.ref C::bm).contains (.type "BaseException")=true:=by rw[List.contains_cons,vm,Bool.or_true]
 obtain⟨hp,g,d,tk,os⟩:=s;obtain⟨c,d1,dt,sl⟩:=o;dsimp only at hc hd;subst hc hd;unfold excFromValue
 repeat (first | with_reducible refine wpAny_loadPart_at he ?_ | with_reducible refine wpAny_loadPart_at hC ?_ | (with_reducible refine wpAny_isSubtype_exc hC ?_;rw[Zv]) | wp_step)
 exact h
theorem vM {s:Shared} {e:Addr} {o:Obj} {Q:Value->Shared->Prop} (hC:s.heap.get? C=some (excClassObj nm q C N bs bm hdct sn sub ab col dd k0 k1 k2 k3 k5 newId))
  (he:s.heap.get? e=some o) (hc:o.cls=.ref C) {ws:Array Value} (hd:o.data=.fields ws) (h:Q (.ref e) s):wpAny M A (raisedInstance (.ref e)) Q E s:=by
 obtain⟨hp,g,d,tk,os⟩:=s;obtain⟨c,d1,dt,sl⟩:=o;dsimp only at hc hd;subst hc hd;unfold raisedInstance
 repeat (first | with_reducible refine wpAny_loadPart_at he ?_ | with_reducible refine wpAny_loadPart_at hC ?_ | wp_step)
 exact h
theorem vN {s:Shared} {e:Addr} {o:Obj} {Q:Bool->Shared->Prop} (hC:s.heap.get? C=some (excClassObj nm q C N bs bm hdct sn sub ab col dd k0 k1 k2 k3 k5 newId))
  (he:s.heap.get? e=some o) (hc:o.cls=.ref C) {ws:Array Value} (hd:o.data=.fields ws) (h:Q false s):wpAny M A (isType (.ref e)) Q E s:=by
 obtain⟨hp,g,d,tk,os⟩:=s;obtain⟨c,d1,dt,sl⟩:=o;dsimp only at hc hd;subst hc hd;unfold isType
 repeat (first | with_reducible refine wpAny_loadPart_at he ?_ | with_reducible refine wpAny_loadPart_at hC ?_ | wp_step)
 exact h
end
section
variable {P : Program} {w : World} {A : Around} {E : Value -> Shared -> Prop} {env : Env}
abbrev eP (h:Heap) (e:Addr) (ws:Array Value):Prop:=∃o C nm q N bs bm hdct sn sub ab col dd k0 k1 k2 k3 k5 newId,h.get? e=some o/\o.cls=.ref C/\o.data=.fields ws/\C≠e/\bm.contains (.type "BaseException")=true/\
 h.get? C=some (excClassObj nm q C N bs bm hdct sn sub ab col dd k0 k1 k2 k3 k5 newId)
theorem eP.set {h:Heap} {e:Addr} {ws:Array Value} {i:Nat} {x:Value} (I:eP h e ws):eP (h.update e (Obj.mapFields (·.setIfInBounds i x))) e (ws.setIfInBounds i x):=by
 obtain⟨o,C,nm,q,N,bs,bm,hdct,sn,sub,ab,col,dd,k0,k1,k2,k3,k5,newId,he,hc,hd,ne,hb,hC⟩:=I;refine⟨Obj.mapFields (·.setIfInBounds i x) o,C,nm,q,N,bs,bm,hdct,sn,sub,ab,col,dd,k0,k1,k2,k3,k5,newId,Heap.get?_update_self _ he (Obj.isFreed_of_fields (Obj.data_mapFields hd _)),?_,Obj.data_mapFields hd _,ne,hb,(Heap.get?_update_other _ _ (Ne.symm ne)).trans hC⟩;obtain⟨c,d1,dt,sl⟩:=o;dsimp only at hc hd;subst hd;exact hc
theorem eP.off {h:Heap} {e a:Addr} {ws:Array Value} {f:Obj->Obj} (I:eP h e ws) (ne:a≠e) (nc:∀o C,h.get? e=some o->o.cls=.ref C->a≠C):eP (h.update a f) e ws:=by
 obtain⟨o,C,nm,q,N,bs,bm,hdct,sn,sub,ab,col,dd,k0,k1,k2,k3,k5,newId,he,hc,hd,ne',hb,hC⟩:=I;exact⟨o,C,nm,q,N,bs,bm,hdct,sn,sub,ab,col,dd,k0,k1,k2,k3,k5,newId,(Heap.get?_update_other _ _ ne).trans he,hc,hd,ne',hb,(Heap.get?_update_other _ _ (nc o C he hc)).trans hC⟩
section
variable {M : Model} {s : Shared} {e : Addr} {ws : Array Value}
theorem eP.from (I:eP s.heap e ws) {msg:String} {Q:Value->Shared->Prop} (h:Q (.ref e) s):wpAny M A (excFromValue (.ref e) msg) Q E s:=by
 obtain⟨o,C,nm,q,N,bs,bm,hdct,sn,sub,ab,col,dd,k0,k1,k2,k3,k5,newId,he,hc,hd,ne,hb,hC⟩:=I;exact tV hb hC he hc hd h
theorem eP.raised (I:eP s.heap e ws) {Q:Value->Shared->Prop} (h:Q (.ref e) s):wpAny M A (raisedInstance (.ref e)) Q E s:=by
 obtain⟨o,C,nm,q,N,bs,bm,hdct,sn,sub,ab,col,dd,k0,k1,k2,k3,k5,newId,he,hc,hd,ne,hb,hC⟩:=I;exact vM hC he hc hd h
theorem eP.isType (I:eP s.heap e ws) {Q:Bool->Shared->Prop} (h:Q false s):wpAny M A (PySem.isType (.ref e)) Q E s:=by
 obtain⟨o,C,nm,q,N,bs,bm,hdct,sn,sub,ab,col,dd,k0,k1,k2,k3,k5,newId,he,hc,hd,ne,hb,hC⟩:=I;exact vN hC he hc hd h
theorem eP.put (I:eP s.heap e ws) {i:Nat} {x:Value} {Q:Unit->Shared->Prop} (hi:i<ws.size) (h:Q () {s with heap:=s.heap.update e (Obj.mapFields (·.setIfInBounds i x))}):wpAny M A (setField (.ref e) i x) Q E s:=by
 obtain⟨o,C,nm,q,N,bs,bm,hdct,sn,sub,ab,col,dd,k0,k1,k2,k3,k5,newId,he,hc,hd,ne,hb,hC⟩:=I;exact wpAny_setField he hd hi h
end
abbrev iS (hp:Heap) (e h:Addr):Heap:=((hp.update e (Obj.mapFields (·.setIfInBounds 3 (.ref h)))).update e (Obj.mapFields (·.setIfInBounds 4 (.bool true)))).update e (Obj.mapFields (·.setIfInBounds 2 (.ref h)))
theorem pS {s:Shared} {x c:Sem Value} {h:Addr} {Q:Flow->Shared->Prop} (hh:A.handled=some (.ref h))
  (hx:wpAny (model P w) A x (λv s₁=>∃e,v=.ref e/\wpAny (model P w) A c (λcv s₂=>cv=.ref h/\h≠e/\(∃ws,eP s₂.heap e ws/\ws[1]?=some .none/\4<ws.size)/\
   (∃oh C,s₂.heap.get? h=some oh/\oh.cls=.ref C/\e≠C)/\(∃vs,eP s₂.heap h vs/\vs[2]?=some .none)/\E (.ref e) {s₂ with heap:=iS s₂.heap e h}) E s₁) E s):
  wpAny (model P w) A (raiseStmt env (some x) (some c)) Q E s:=by
 unfold raiseStmt;refine wpAny_bind (wpAny_mono hx (λv s₁ h₁=>?_) λ_ _ z=>z);obtain⟨e,rfl,hc⟩:=h₁;dsimp only;refine wpAny_bind (wpAny_holding (wpAny_mono hc (λcv s₂ h₂=>?_) λ_ _ z=>z));obtain⟨rfl,ne,⟨ws,Ie,w1,wz⟩,⟨oh,Ch,gh,ch,EI⟩,⟨vs,Ih,v2⟩,hE⟩:=h₂;have nc:∀o C,s₂.heap.get? h=some o->o.cls=.ref C->e≠C:=λo C ho hc=>by
  rw[gh] at ho;cases ho;rw[ch] at hc;cases hc;exact EI
 refine wpAny_bind (wpAny_pure ?_);dsimp only;refine wpAny_bind (wpAny_holding (Ie.from ?_));rw[if_neg (by simp)];refine wpAny_bind (wpAny_holding (Ih.from ?_));have I1:=Ie.set (i:=3) (x:=.ref h);have I2:=I1.set (i:=4) (x:=.bool true);refine wpAny_bind (Ie.put ⋯ ?_);refine wpAny_bind (I1.put (by simp;lia) ?_);refine wpAny_bind (I2.isType ?_);rw[if_neg ∅];refine wpAny_bind (I2.raised ?_);have J2:eP ((s₂.heap.update e (Obj.mapFields (·.setIfInBounds 3 (.ref h)))).update e (Obj.mapFields (·.setIfInBounds 4 (.bool true)))) h vs:=by
  refine(Ih.off (Ne.symm ne) nc).off (Ne.symm ne) λo C ho hc=>nc o C ?_ hc;rw[<-ho];exact(Heap.get?_update_other _ _ (Ne.symm ne)).symm
 obtain⟨oe,_,_,_,_,_,_,_,_,_,_,_,_,_,_,_,_,_,_,ge,_,de,_⟩:=id I2;obtain⟨oh',_,_,_,_,_,_,_,_,_,_,_,_,_,_,_,_,_,_,Zw,_,dh,_⟩:=id J2;unfold setFlight;refine wpAny_bind (wpAny_bind (wpAny_field ge de (x:=.none) ?_ ?_))
 ·rw[Array.getElem?_setIfInBounds_ne ∅,Array.getElem?_setIfInBounds_ne ∅];exact w1
 rw[if_neg ∅];refine wpAny_pure ?_;exact qS hh ne Zw dh v2 ge de (by simp;lia) hE
end
theorem qT {B h h':Heap} {l:List Env} {ad:Addr} {cls a0:Value} (fl:Heap.FlyingW B l ad cls a0 h) (k:∀b o,h.get? b=some o->h'.get? b=some o):Heap.FlyingW B l ad cls a0 h':=by
 obtain⟨f1,f2,f3,oe,vs,T,oT,ts,g1,g2,g3,g4,g5,g6,g7,g8,g9⟩:=fl;exact⟨λb o q=>k b o (f1 b o q),f2,f3.of_keeps λb o hb _=>⟨o,k b o hb,rfl⟩,oe,vs,T,oT,ts,k _ _ g1,g2,g3,g4,g5,g6,k _ _ g7,g8,g9⟩
section
variable {X : Cx} {pins : List (Addr × Obj)} {σ : St} {H : Hp} {s : Shared}
theorem C8 {E:Value->Shared->Prop} {Q:Bool->Shared->Prop} {cx cy:Str} {C1 C2:Value} {ad:Addr} {cls:Value} {b:Bool} {p1 p2 iO:Pos} {kk:Nat} (I:Inv X pins σ H s) (hg:Gl X cx) (hm:X.mg cx=some C1) (HJ:Gl X cy) (mK:X.mg cy=some C2)
  (LT:Looks (model X.prog X.w) s.heap (typeOf (.ref ad)) cls) (he:PySem.W.exmAny X.K cls [C1,C2]=some b)
  (q:∀h',(∀a o,s.heap.get? a=some o->h'.get? a=some o)->Q b {s with heap:=h'})
  (h1:(cx==("__debug__":Str))=false:=by decide) (h2:(cy==("__debug__":Str))=false:=by decide):
  wpAny (model X.prog X.w) X.A (eval (.Tuple [.Name cx p1,.Name cy p2] kk iO) X.env) (λc s₁=>wpAny (model X.prog X.w) X.A (excMatches (.ref ad) c) Q E s₁) E s:=by
 refine wpAny_Tuple ?_;refine wpAny_items_cons (fK I hg hm ?_ h1);refine wpAny_items_cons (fK I HJ mK ?_ h2);refine wpAny_items_nil ⟨by size_fits,?_⟩;have kp:∀a o,s.heap.get? a=some o->(s.heap.push {cls:=.type "tuple",data:=.seq [C1,C2].toArray}).get? a=some o:=λ_ _ z=>abv _ z;exact(PySem.W.exm_tup2 (I.iK.keeps kp) (LT.keeps kp) (abw s.heap rfl) he).here (q _ kp)
end
abbrev Md (ad:Addr) (cls:Value):HO:=.ext λh=>∃o vs,h.get? ad=some o/\o.cls=cls/\o.data=.fields vs/\vs[2]?=some .none
section
variable {M : Model} {A : Around} {E : Value -> Shared -> Prop} {s : Shared} {B : Heap} {l : List Env} {ad L : Addr} {cls a0 : Value}
theorem A9 {ce:Env} (hh:Heap.HeldW B l ad cls a0 L s.heap) (hf:ce.frame=some L)
  (k:∀h',Heap.HeldW B l ad cls a0 L h'->s.heap.UpToSlots h'->E (.ref ad) {s with heap:=h'}):cameBackBy M A ce E (.ref ad) s:=by
 obtain⟨st,na,ff,oe,vs,T,oT,ts,g1,g2,g3,g4,g5,g6,g7,g8,g9⟩:=id hh;have sz:3<ts.size:=(Array.getElem?_eq_some_iff.mp g9).1;have ot:∀{f:Obj->Obj} b,b≠T->(s.heap.update T f).get? b=s.heap.get? b:=λb hb=>Heap.get?_update_other _ _ (Ne.symm hb);have nr:∀b o,s.heap.get? b=some o->(∀us,o.data≠.fields us)->b≠T:=λb o e nf z=>by
  rw[z,g7] at e;cases e;exact nf ts g8
 unfold cameBackBy;refine wpAny_bind (wpAny_field g1 g3 g4 ?_);rw[if_neg (by simp)];have fin:wpAny M A (setFlight (.ref ad) ce.frame) (λ_ s1=>E (.ref ad) s1) E s:=by
  rw[hf];unfold setFlight;refine wpAny_bind (wpAny_field g1 g3 g4 ?_);rw[if_pos (by simp)];refine wpAny_setField g7 g8 sz (k _ ⟨λb o e=>?_,na,?_,?_⟩ (λb o e nf=>?_))
  ·refine(ot b λz=>?_).trans (st b o e);rw[z,g5] at e;cases e
  ·exact Heap.FunFrames.of_keeps (λb o e nf=>⟨o,(ot b (nr b o e nf)).trans e,rfl⟩) ff
  ·exact⟨oe,vs,T,_,_,(ot ad (Ne.symm g6)).trans g1,g2,g3,g4,g5,g6,Heap.get?_update_self _ g7 (Obj.isFreed_of_fields (Obj.data_mapFields g8 _)),Obj.data_mapFields g8 _,by simp [sz]⟩
  ·exact⟨o.slots,(ot b (nr b o e nf)).trans e⟩
 first
  | exact fin
  | exact wpAny_bind (wpAny_pure fin)
end
theorem Inv.Nv {X:Cx} {pins:List (Addr×Obj)} {σ:St} {H:Hp} {s:Shared} {h':Heap} (I:Inv X pins σ H s) (st:(hideAll s.heap (dN X.stack)).StaysIn h') (up:∀b∈dN X.stack,∀o,s.heap.get? b=some o->∃sl,h'.get? b=some {o with slots:=sl}):
  Inv X pins σ H {s with heap:=h'}:=by
 refine I.BI (s':={s with heap:=h'}) (ch:=[]) rfl ⟨λb o q n hb _=>st b o (hideAll_get _ q hb),λb o q n hb _=>up b hb o q,λb o q n _=>n,λb o q _=>?_,λb xs q=>q,λb o u q=>q,λb ps q=>⟨#[],by rw[Array.append_empty];exact q⟩⟩
  (gG.M5 I.bL (λb u o e1 q=>hideAll_get _ q λz=>by
   have:=I.kD b z;rw[e1] at this;cases this) st) I.bare (λb hb=>absurd hb (by simp))
 by_cases hb:b∈dN X.stack
 ·obtain⟨sl,q1⟩:=up b hb o q;exact⟨_,q1⟩
 ·exact⟨o,st b o (hideAll_get _ q hb)⟩
section
variable {P : Program} {w : World} {K : abk} {mg : Str -> Option Value} {base : Heap} {N : List Str} {qual : Str} {scope : Scope} {f : Addr} {bR : Value} {A : Around} {outer : List Env} {s0 : Shared} {H0 : Hp} {E : XK}
theorem FW {pins:List (Addr×Obj)} {σ:St} {H:Hp} {s:Shared} {h' B:Heap} {ad T c:Addr} {cls a0:Value}
  (I:Inv (gM (cu P w) P w K mg base N qual scope f bR A outer s0 H0 E) pins σ H s) (held:Heap.HeldW B (envOfC qual scope s0.heap.objs.size f bR::outer) ad cls a0 s0.heap.objs.size h') (up:s.heap.UpToSlots h')
  (B1:∀b o,s.heap.get? b=some o->b≠ad->b≠T->b∉dN (envOfC qual scope s0.heap.objs.size f bR::outer)->B.get? b=some o)
  (Kl:H ad=none) (nT:H T=none) (Zx:s0.heap.get? ad=none) (zT:s0.heap.get? T=none) (e:E cls (some c) H):
  (gM (cu P w) P w K mg base N qual scope f bR A outer s0 H0 E).xe (.ref ad) {s with heap:=h'}:=by
 let env:Env:=envOfC qual scope s0.heap.objs.size f bR;have Co:∀b o,s0.heap.get? b=some o->b∉dN outer->b∉dN (env::outer):=λb o q hb z=>by
  rcases aaX.mp (show b∈s0.heap.objs.size::dN outer from z) with z | z
  ·rw[z] at q;exact absurd (abx q) (aaL _)
  ·exact hb z
 have Fu:∀b,b∈dN outer->b∈dN (env::outer):=λb hb=>aaX.mpr (.inr hb);have ST:s.heap.FunFrames base (env::outer):=I.stack;have SF:∀b∈dN (env::outer),H b=none:=I.kD;have BS:Un (dN outer) [] H0 H s0.heap s.heap:=I.base;have n0:∀b o,s0.heap.get? b=some o->b≠ad/\b≠T:=λb o q=>⟨(λz=>by rw[z,Zx] at q;cases q),(λz=>by rw[z,zT] at q;cases q)⟩
 have Xv:∀b u o,H b=some u->s.heap.get? b=some o->B.get? b=some o:=λb u o e1 q=>B1 b o q (λz=>by rw[z,Kl] at e1;cases e1) (λz=>by rw[z,nT] at e1;cases e1) λz=>by
  have:=SF b z;rw[e1] at this;cases this
 show wpAny (model P w) (A.deeper env) (leaving env (.ref ad)) (λ_ tD=>cu P w outer H0 s0 E (.ref ad) tD) (λe' tD=>cu P w outer H0 s0 E e' tD) {s with heap:=h'};refine leave_held (p:=False) rfl held (λz=>z.elim) λh2 x1 x4 _=>?_;have x4:Heap.UpToSlots h' h2:=x4;have fr:∀b∈dN (env::outer),∀o,s.heap.get? b=some o->∃sl,h2.get? b=some {o with slots:=sl}:=λb hb o q=>by
  obtain⟨_,o1,q1,nf⟩:=ST.mem hb;rw[q] at q1;cases q1;exact(up.trans x4) b o q nf
 refine⟨ad,cls,some c,H,rfl,⟨⟨I.os,I.bare,⟨λb o q n hb hx=>?_,λb o q n hb hx=>?_,BS.free,λb o q hx=>?_,BS.iH,BS.hV,BS.iJ⟩,?_,⟨B,a0,x1,λb o q n hb=>?_,λb o q hb=>?_,λb u o e1 q=>?_⟩⟩,λz=>by cases z⟩,e⟩
 ·exact x1.1 b o (B1 b o (BS.keep b o q n hb hx) (n0 b o q).1 (n0 b o q).2 (Co b o q hb))
 ·obtain⟨sl,q1⟩:=BS.slot b o q n hb hx;obtain⟨AS,q2⟩:=fr b (Fu b hb) _ q1;exact⟨AS,q2⟩
 ·obtain⟨o1,q1⟩:=BS.there b o q hx
  by_cases hb:b∈dN (env::outer)
  ·obtain⟨AS,q2⟩:=fr b hb _ q1;exact⟨_,q2⟩
  ·exact⟨o1,x1.1 b o1 (B1 b o1 q1 (n0 b o q).1 (n0 b o q).2 hb)⟩
 ·exact gG.M5 I.bL Xv x1.1
 ·exact B1 b o (BS.keep b o q n hb (by simp)) (n0 b o q).1 (n0 b o q).2 (Co b o q hb)
 ·obtain⟨o1,q1⟩:=BS.there b o q (by simp);exact⟨o1,B1 b o1 q1 (n0 b o q).1 (n0 b o q).2 (Co b o q hb)⟩
 ·obtain⟨o1,q1⟩:=(I.bL b u e1).get;have q2:=Xv b u o1 e1 q1;have q3:=x1.1 b o1 q2;rw[q] at q3;cases q3;exact q2
end
abbrev Km (X:Cx) (E:XK):Prop:=∀(pins:List (Addr×Obj)) (σ:St) (H:Hp) (s:Shared) (h' B:Heap) (ad T c:Addr) (cls a0:Value),Inv X pins σ H s->Heap.HeldW B X.stack ad cls a0 X.env.locals h'->s.heap.UpToSlots h'->
 (∀b o,s.heap.get? b=some o->b≠ad->b≠T->b∉dN X.stack->B.get? b=some o)->H ad=none->H T=none->X.s₀.heap.get? ad=none->X.s₀.heap.get? T=none->E cls (some c) H->X.xe (.ref ad) {s with heap:=h'}
theorem FX {P:Program} {w:World} {K:abk} {mg:Str->Option Value} {base:Heap} {N:List Str} {qual:Str} {scope:Scope} {f:Addr} {bR:Value} {A:Around} {outer:List Env} {s0:Shared} {H0:Hp} {E:XK}:
  Km (gM (cu P w) P w K mg base N qual scope f bR A outer s0 H0 E) E:=λ_ _ _ _ _ _ _ _ _ _ _ I a b c d e f g h=>FW I a b c d e f g h
theorem C9 {K:Frag} {h:Heap} {e C:Addr} {o:Obj} {ws:Array Value} (X:K.In h) (q:excIn K C jv fC=true) (he:h.get? e=some o) (hc:o.cls=.ref C) (hd:o.data=.fields ws):eP h e ws/\C≠e:=by
 obtain⟨tl,N,nm,qn,bs,hdct,sn,sub,ab,col,dd,k0,k1,k2,k3,k5,mN,hC,hN,JR,T⟩:=oE X q;have ne:C≠e:=λz=>by
  rw[z,he] at hC;cases hC;cases hd
 exact⟨⟨o,C,nm,qn,N,bs,tl,hdct,sn,sub,ab,col,dd,k0,k1,k2,k3,k5,_,he,hc,hd,ne,T.hasType PySem.F.excBase_ValueError.hasBase,hC⟩,ne⟩
theorem FY {hp:Heap} {e h b:Addr} (n:b≠e):(iS hp e h).get? b=hp.get? b:=by
 unfold iS;rw[Heap.get?_update_other _ _ (Ne.symm n),Heap.get?_update_other _ _ (Ne.symm n),Heap.get?_update_other _ _ (Ne.symm n)]
theorem FZ {hp:Heap} {e h:Addr} {o:Obj} {ws:Array Value} (he:hp.get? e=some o) (hd:o.data=.fields ws):
  ∃o',(iS hp e h).get? e=some o'/\o'.cls=o.cls/\o'.data=.fields (((ws.setIfInBounds 3 (.ref h)).setIfInBounds 4 (.bool true)).setIfInBounds 2 (.ref h)):=by
 have d1:=Obj.data_mapFields hd (·.setIfInBounds 3 (Value.ref h));have e1:=Heap.get?_update_self (Obj.mapFields (·.setIfInBounds 3 (Value.ref h))) he (Obj.isFreed_of_fields d1);have d2:=Obj.data_mapFields d1 (·.setIfInBounds 4 (Value.bool true));have e2:=Heap.get?_update_self (Obj.mapFields (·.setIfInBounds 4 (Value.bool true))) e1 (Obj.isFreed_of_fields d2);have d3:=Obj.data_mapFields d2 (·.setIfInBounds 2 (Value.ref h));exact⟨_,Heap.get?_update_self _ e2 (Obj.isFreed_of_fields d3),by rw[Obj.cls_mapFields,Obj.cls_mapFields,Obj.cls_mapFields],d3⟩
section
variable {X : Cx} {pins : List (Addr × Obj)} {σ : St} {H H' : Hp} {s s' : Shared} {E : XK} {ad Cc C3 : Addr} {cls C1 C2 : Value} {cx cy n x : Str} {p1 p2 iO np To dk Kn tO : Pos} {kk i : Nat} {e : Expr} {es : List Expr} {ta : TA}
theorem Ko {M:Model} {A:Around} {E:Value->Shared->Prop} {Q:Value->Shared->Prop} {v:V} (I:Inv X pins σ H s) (hi:X.N[i]?=some n) (hl:X.env.scope.names.lookup n=some .local) (hv:σ[i]?=some (some v)) (h:∀u,RelV v u->Q u s)
  (hd:(n==("__debug__":Str))=false:=by decide):wpAny M A (eval (.Name n np) X.env) Q E s:=by
 obtain⟨m,hn,hk⟩:=I.loc;obtain⟨u,r,l⟩:=hk i n v hi hv (.inl hl);rcases l with ⟨hk,hm⟩ | ⟨hk,_⟩
 ·exact wpAny_Name (wpAny_loadName_local I.ok.kind hk hn hm (h u r)) hd
 ·have z:X.env.kindOf n=some .local:=hl;rw[z] at hk;rcases hk with hk | hk <;>cases hk
theorem zx {D:Ends} (I:Inv X pins σ H s) (F:Ft X.prog X.w X.stack H s H' ad cls s') (nc:ju s'.heap ad) (eN:cls=.ref Cc) (qc:excIn X.K Cc jv fC=true) (kG:X.stack=X.env::X.outer) (hf:X.env.frame=some X.env.locals) (hex:X.ex=[]) (ho:Km X E)
  (Mb:Gl X cx) (Mc:X.mg cx=some C1) (HJ:Gl X cy) (mK:X.mg cy=some C2) (hx:PySem.W.exmAny X.K cls [C1,C2]=some true) (hN:X.N.Nodup) (hi:X.N[i]?=some n) (hl:X.env.scope.names.lookup n=some .local)
  (Ro:Gl X x) (Rp:X.mg x=some (.ref C3)) (q3:excIn X.K C3 jv fC=true) (ha:∀ad,PA (X.mark ad) (e::es) ta)
  (h:ta (σ.set i (some (.ref ad))) (upd H' ad (Md ad cls)) λvs H1=>vs.length<=sizeLine/\H1 ad=some (Md ad cls)/\E (.ref C3) (some ad) H1)
  (Rq:(cx==("__debug__":Str))=false:=by decide) (hd2:(cy==("__debug__":Str))=false:=by decide) (Rr:(x==("__debug__":Str))=false:=by decide) (Rt:(n==("__debug__":Str))=false:=by decide)
  (he:starEach (e::es) X.env=(false,eval e X.env)::starEach es X.env:=by injections) (hpl:(backTo dk (starEach es X.env)).any (·.1)=false:=by injections):
  wpAny (model X.prog X.w) X.A (noteFrame (.ref ad) X.env) (λ_ s₂=>wpAny (model X.prog X.w) X.A (setFlight (.ref ad) none)
   (λ_ s₃=>wpAny (model X.prog X.w) X.A (handleBy (.ref ad) X.env [.ExceptHandler (some (.Tuple [.Name cx p1,.Name cy p2] kk iO)) (some n) [.Raise (some (.Call (.Name x np) (e::es) [] dk)) (some (.Name n To)) Kn] tO])
    (SP X pins D) X.xe s₃) X.xe s₂) X.xe s':=by
 symm;obtain⟨B,a0,fl,c0,c2,c1⟩:=F.fl;nofun;have M7:=fl;rw[kG] at M7;refine y8 (p:=True) (L:=X.env.locals) (I.ok.frames.trans (by rw[kG])) hf M7 (λ_=>nc) λh4 nH SY Zy=>?_;refine kT (p:=True) nH.1 nH.2.1 nH.2.2.1 nH.2.2.2 Zy λh5 JW M8 Zz=>?_;have U5:s'.heap.UpToSlots h5:=SY.trans M8;have I5:Inv X pins σ H' {s' with heap:=h5}:=F.inv I fl c0 c2 c1 JW.1 U5;symm;obtain⟨ob,S0,JX⟩:=JW.there;nofun;have LT:Looks (model X.prog X.w) h5 (typeOf (.ref ad)) cls:=by
  subst JX;exact(Looks.ld S0).andThen .now
 refine wpAny_handleBy_cons (codeAny_handlers_test (C8 (X:=X.mark ad) (I5.mark ad) Mb Mc HJ mK LT hx (λh6 k6=>?_) Rq hd2)) (by intro q;cases q);refine codeAny_handlers_suite_as ?_;have JY:=qT JW k6;have ZA:ju h6 ad:=by
  symm;obtain⟨o,vs,q,d,r⟩:=Zz trivial;nofun;exact⟨o,vs,k6 _ _ q,d,r⟩
 refine kT (p:=True) JY.1 JY.2.1 JY.2.2.1 JY.2.2.2.at (λ_=>ZA) λh7 Xw ZC ZD=>?_;have U7:s'.heap.UpToSlots h7:=(U5.trans (Heap.UpToSlots.of_keeps k6)).trans ZC;have I7:Inv X pins σ H' {s' with heap:=h7}:=F.inv I fl c0 c2 c1 Xw.1 U7;symm;obtain⟨oe,vs,Tp,S2,h2⟩:=ZD trivial;obtain⟨o7,Xx,ZE⟩:=Xw.there;nofun;rw[Tp] at Xx;cases Xx;have I8:Inv X pins σ (upd H' ad (Md ad cls)) {s' with heap:=h7}:=I7.adopt I F.new F.tracked ⟨oe,Tp⟩ ⟨oe,vs,Tp,ZE,S2,h2⟩ λh1 h2 ⟨o,ws,e1,e2,e3,e4⟩ k=>⟨o,ws,k o e1,e2,e3,e4⟩
 refine fc (X:=X.mark ad) (I8.mark ad) hN hi (.inl hl) (v:=.ref ad) rfl (λs8 I9=>?_) (.inr hl);refine wpAny_execs_cons ?_;rw[arm_exec_Raise];refine wpAny_bind (wpAny_standAt ?_);refine pS (h:=ad) rfl (wpAny_bind (wpAny_mono (wpAny_Call_ofName (fK (X:=X.mark ad) I9 Ro Rp ?_ Rr)) (λv s₃ h₃=>wpAny_bind (wpAny_standAt (wpAny_pure h₃))) λ_ _ x=>x));have FB:=PySem.F.excBase_ValueError;symm;obtain⟨tl,Nn,nm,qn,bs,hdct,sn,sub,ab,col,dd,k0,k1,k2,k3,k5,mN,hC,ZF,JR,T⟩:=oE I.ok.mod.E1 q3;nofun;have JT:=ha ad dk pins s8 _ _ _ I9 h;have ZG:starEach (e::es) (X.mark ad).env=(false,eval e X.env)::starEach es X.env:=he;rw[ZG] at JT;rw[he];unfold callWith;refine wpAny_bind (wpAny_holding (wpAny_mono (Q:=λa s2=>a.kw=[]/\∃vs H1,Inv (X.mark ad) pins (List.set σ i (some (V.ref ad))) H1 s2/\br vs a.pos/\vs.length<=sizeLine/\H1 ad=some (Md ad cls)/\E (.ref C3) (some ad) H1) (E:=λ_ _=>False) (Calls.evalArgs_plain (cb JT λus s1 ⟨vs,H1,I1,r,z,k⟩=>⟨rfl,vs,H1,I1,r,z,k⟩)) (λa s₂ h₂=>wpAny_bind (wpAny_standAt ?_)) λ_ _ z=>z.elim));obtain⟨apos,ZH⟩:=a;symm;obtain⟨ZI,vs1,H1,I1,r1,z1,t1,ZJ⟩:=h₂;obtain rfl:ZH=[]:=ZI;have HK:=I1.unmark I.ok;obtain⟨hp,g,d,tk,os⟩:=s₂;nofun;have xK:(backTo dk ((false,eval e X.env)::starEach es X.env)).any (·.1)=false:=by
  show(false || (backTo dk (starEach es _)).any (·.1))=false;rw[hpl];rfl
 simp only[xK];have Xy:=I1.bk _ _ hC;refine wpAny_bind (wpAny_keeperOf_exc Xy ?_);refine wpAny_bind (wpAny_call_exc_subT (hrest:=by show apos.length<=sizeLine;have:=r1.length;dsimp only at this;lia) FB (T.keeps I1.bk) Xy (ZF.keeps I1.bk) JR λhm e2 mx=>wpAny_bind (wpAny_holding (wpAny_point (wpAny_pure ?_))));have I2:Inv X pins (List.set σ i (some (V.ref ad))) H1 ⟨hm,g,d,tk,os⟩:=HK.kept mx.keeps;have Js:i<σ.length:=by rw[I.len];exact(abr.mp hi).1
 refine⟨e2,rfl,wpAny_bind (Ko I2 hi hl (v:=.ref ad) (by rw[List.getElem?_set_self Js]) (λu ru=>wpAny_bind (wpAny_standAt (wpAny_pure ?_))) Rt)⟩;obtain rfl:u=Value.ref ad:=ru;symm;obtain⟨tt,he2,tn,_⟩:=mx.there;obtain⟨⟨oh,ws,g1,g2,g3,g4⟩,_,_⟩:=I2.bL ad _ t1;nofun;have g1:hm.get? ad=some oh:=g1;have ZK:ad≠e2:=λz=>by
  symm;obtain⟨⟨o1,_,q1,_⟩,_,_⟩:=HK.bL ad _ t1;nofun;have q1:hp.get? ad=some o1:=q1;rw[z,mx.new] at q1;cases q1
 have ih:=C9 I2.iK qc g1 (g2.trans eN) g3;have ie:=C9 I2.iK q3 he2 rfl rfl;refine⟨rfl,ZK,⟨_,ie.1,rfl,show(4:Nat)<6 by decide⟩,⟨oh,Cc,g1,g2.trans eN,λz=>?_⟩,⟨ws,ih.1,g4⟩,?_⟩
 ·symm;obtain⟨_,_,_,_,_,_,_,_,_,_,_,_,_,_,_,_,mN',Nd,_⟩:=oE HK.iK qc;nofun;have Nd:hp.get? Cc=_:=Nd;rw[<-z,mx.new] at Nd;cases Nd
 symm;obtain⟨o3,f1,f2,f3⟩:=FZ (h:=ad) he2 rfl;nofun;have n1:H1 e2=none:=by
  cases q:H1 e2 with
  | none=>rfl
  | some u=>
   obtain⟨o,q1⟩:=(HK.bL e2 u q).get;have q1:hp.get? e2=some o:=q1;rw[mx.new] at q1;cases q1
 have Tq:hp.FunFrames X.base X.stack:=HK.stack;have Xz:e2∉dN X.stack:=λz=>by
  symm;obtain⟨_,o,q,_⟩:=Tq.mem z;nofun;rw[mx.new] at q;cases q
 have Fu:∀en∈X.stack,∀a,en.frame=some a->a∈dN X.stack:=λen he a ha=>List.mem_filterMap.mpr ⟨en,he,ha⟩;have kf:∀b o,hp.get? b=some o->(iS hm e2 ad).get? b=some o:=λb o q=>by
  rw[FY (λz=>by rw[z,mx.new] at q;cases q)];exact mx.keeps b o q
 have ZL:(hideAll hp (dN X.stack)).get? e2=none:=by
  cases q:(hideAll hp (dN X.stack)).get? e2 with
  | none=>rfl
  | some o=>
   have:=of_hideAll _ q;rw[mx.new] at this;cases this
 have FF:hp.FunFrames (hideAll hp (dN X.stack)) (X.env::X.outer):=by rw[<-kG];exact funFrames_hide Tq Fu
 refine pz (p:=False) (L:=X.env.locals) (base:=hideAll hp (dN X.stack)) (a0:=.ref tt) (I.ok.frames.trans (by rw[kG])) (FF.of_keeps λb o q _=>⟨o,kf b o q,rfl⟩) hf f1 (λb o q=>kf b o (of_hideAll _ q)) ZL f3 (by rfl) (by rfl) (λz=>z.elim) λh3 Dc ZM _=>?_;have I3:Inv X pins (List.set σ i (some (V.ref ad))) H1 ⟨h3,g,d,tk,os⟩:=HK.Nv (h':=h3) Dc.1 λb hb o q=>by
  symm;obtain⟨_,o1,q1,nf⟩:=Tq.mem hb;nofun;have q:hp.get? b=some o:=q;rw[q] at q1;cases q1;exact ZM b o (kf b o q) nf
 symm;obtain⟨Tr,ZN,T3,oT,ts,m1,⟨m2,ZO⟩,m3,m4,m5,m6,m7,m8,m9⟩:=Dc.2.2.2;nofun;rw[f2] at m2;have Ts:T3∉dN X.stack:=λz=>by
  obtain⟨_,o,q,nf⟩:=(show h3.FunFrames _ X.stack by rw[kG];exact Dc.2.2.1).mem z;rw[m7] at q;cases q;exact nf _ m8
 have pT:hp.get? T3=none:=by
  cases q:hp.get? T3 with
  | none=>rfl
  | some o=>
   have:=hideAll_get _ q Ts;rw[m5] at this;cases this
 have n2:H1 T3=none:=by
  cases q:H1 T3 with
  | none=>rfl
  | some u=>
   obtain⟨o,q1⟩:=(HK.bL T3 u q).get;have q1:hp.get? T3=some o:=q1;rw[pT] at q1;cases q1
 have z0:∀b,hp.get? b=none->X.s₀.heap.get? b=none:=λb n=>by
  cases q:X.s₀.heap.get? b with
  | none=>rfl
  | some o=>
   obtain⟨o1,q1⟩:=HK.base.there b o q (by rw[hex];simp);have q1:hp.get? b=some o1:=q1;rw[n] at q1;cases q1
 have XA:X.env.locals∈dN X.stack:=by rw[kG];unfold dN;rw[aaS,hf];exact aar
 have XB:∀b,b∈X.fs->b∈dN X.stack:=λb hb=>by rw[kG];unfold dN;rw[aaS,hf];exact aap _ hb
 have I4:Inv X ((e2,Tr)::(T3,oT)::pins) (List.set σ i (some (V.ref ad))) H1 ⟨h3,g,d,tk,os⟩:=I3.je λp mE=>by
  rcases aaX.mp mE with rfl | mE
  ·exact⟨m1,n1,λz=>Xz (by rw[show e2=X.env.locals from z];exact XA),λz=>Xz (XB _ z),λv z=>by rw[m3] at z;cases z⟩
  rcases aaX.mp mE with rfl | mE
  ·exact⟨m7,n2,λz=>Ts (by rw[show T3=X.env.locals from z];exact XA),λz=>Ts (XB _ z),λv z=>by rw[m8] at z;cases z⟩
  ·exact I3.pin p (aaG _ mE)
 refine name_goes I4 hN hi hl λs4 L5=>?_;have ZP:=(L5.pin (e2,Tr) (aaG _ aar)).1;have ZQ:=(L5.pin (T3,oT) (aaG _ (aap _ aar))).1;have nH:Heap.HeldW (hideAll s4.heap (e2::T3::dN X.stack)) (X.env::X.outer) e2 (.ref C3) (.ref tt) X.env.locals s4.heap:=by
  refine⟨λb o q=>of_hideAll _ q,hideAll_none _ aar,?_,Tr,ZN,T3,oT,ts,ZP,⟨m2,ZO⟩,m3,m4,hideAll_none _ (aap _ aar),m6,ZQ,m8,m9⟩;rw[<-kG];exact funFrames_hide L5.stack λen he a ha=>aap _ (aap _ (Fu en he a ha))
 refine A3 (p:=False) nH hf (λz=>z.elim) λh5 HL M8 _=>?_;refine wpAny_noteFrame_againW hf HL.2.2.2 ?_;refine A9 HL hf λh6 Nw S1=>?_;refine ho _ _ H1 s4 h6 _ e2 T3 ad (.ref C3) (.ref tt) L5 (by rw[kG];exact Nw) (M8.trans S1) (λb o q b1 b2 b3=>hideAll_get _ q λz=>?_) n1 n2 (z0 _ mx.new) (z0 _ pT) ZJ;rcases aaX.mp z with z | z
 ·exact b1 z
 rcases aaX.mp z with z | z
 ·exact b2 z
 ·exact b3 z
end
theorem zy {K:Frag} {cls c1 c2:Value} {a b:Bool} (h1:PySem.W.exmOne K cls c1=some a) (h2:PySem.W.exmOne K cls c2=some b):PySem.W.exmAny K cls [c1,c2]=some (a || b):=by
 unfold PySem.W.exmAny;unfold PySem.W.exmAny;unfold PySem.W.exmAny;rw[h1,h2];dsimp only;rw[Bool.or_false]
abbrev De (K:abk) (C1 C2:Value) (C3:Addr) (E:XK) (i:Nat) (ta:TA) (σ:St):XK:=λcls c H2=>c=none/\(∃Cc,cls=.ref Cc/\excIn K Cc jv fC=true)/\PySem.W.exmAny K cls [C1,C2]=some true/\
 ∀ad,H2 ad=none->ta (σ.set i (some (.ref ad))) (upd H2 ad (Md ad cls)) λvs H1=>vs.length<=sizeLine/\H1 ad=some (Md ad cls)/\E (.ref C3) (some ad) H1
abbrev HM (K:abk) (tc:TT) (C:Addr) (m:Str) (sp:Sp) (ta:TE) (t:TA) (C':Addr) (m2:Str) (Np:Sp) (Nq:TE) (t2:TA) (C1 C2:Value) (C3:Addr) (E:XK) (i:Nat) (t3:TA):TS:=λD σ H=>
 tc σ H λd H1=>if d=true then bS C m sp [] (De K C1 C2 C3 E i t3 σ) ta t σ H1 (λ_ H2=>D.nx σ H2) else bS C' m2 Np [] (De K C1 C2 C3 E i t3 σ) Nq t2 σ H1 (λ_ H2=>D.nx σ H2)
section
variable {X : Cx} {E : XK} {k k2 : Nat} {C C' C3 : Addr} {m m2 : Str} {ps Xs : List Str} {sp Np : Sp} {e e2 e3 o o2 : Expr} {es FV Nx : List Expr} {ta Nq : TE} {t t2 t3 : TA} {pos apos om vL : Pos} {pl HF : Sem Bool} {cx cy n x : Str} {p1 p2 Ny np To dk Kn tO xQ C7 iO Nr : Pos} {i kk : Nat} {C1 C2 : Value} {c : Expr} {tc : TT}
theorem F0 (hc:PT X.Au c tc) (M:dB X.prog X.w X.K X.mg X.base (cu X.prog X.w) k C m ps sp) (cl:vg X.K C) (ho:PE X.Au o ta) (hr:dD k X.A) (ha:PA X.Au (e::es) t)
  (M':dB X.prog X.w X.K X.mg X.base (cu X.prog X.w) k2 C' m2 Xs Np) (xh:vg X.K C') (Ar:PE X.Au o2 Nq) (Bw:dD k2 X.A) (JT:PA X.Au (e2::FV) t2) (kG:X.stack=X.env::X.outer) (hf:X.env.frame=some X.env.locals) (hex:X.ex=[]) (XC:Km X E)
  (Mb:Gl X cx) (Mc:X.mg cx=some C1) (HJ:Gl X cy) (mK:X.mg cy=some C2) (hN:X.N.Nodup) (hi:X.N[i]?=some n) (hl:X.env.scope.names.lookup n=some .local) (Ro:Gl X x) (Rp:X.mg x=some (.ref C3)) (q3:excIn X.K C3 jv fC=true) (h3:∀ad,PA (X.mark ad) (e3::Nx) t3)
  (Nb:swapsWith (.Call (.Attribute o m apos) (e::es) [] pos) none xQ.line X.env=pure false:=by rfl) (Tt:swapsWith (.Call (.Attribute o2 m2 vL) (e2::FV) [] om) none C7.line X.env=pure false:=by rfl)
  (Rq:(cx==("__debug__":Str))=false:=by decide) (hd2:(cy==("__debug__":Str))=false:=by decide) (Rr:(x==("__debug__":Str))=false:=by decide) (Rt:(n==("__debug__":Str))=false:=by decide)
  (he:starEach (e::es) X.env=(false,eval e X.env)::starEach es X.env:=by injections) (hpl:(backTo pos (starEach es X.env)).any (·.1)=false:=by injections)
  (he2:starEach (e2::FV) X.env=(false,eval e2 X.env)::starEach FV X.env:=by rfl) (hpl2:(backTo om (starEach FV X.env)).any (·.1)=false:=by rfl)
  (he3:starEach (e3::Nx) X.env=(false,eval e3 X.env)::starEach Nx X.env:=by rfl) (hpl3:(backTo dk (starEach Nx X.env)).any (·.1)=false:=by rfl)
  (ht:eval (.Call (.Attribute o m apos) (e::es) [] pos) X.env=(do
   let ov <-eval o X.env
   standAt apos.atName
   let (f,first) <-holding [ov] (getMethod ov m pl)
   callWith pos f first (backTo pos (starEach (e::es) X.env)) (backToKw pos (keywordEach [] X.env))):=by rfl)
  (ZR:eval (.Call (.Attribute o2 m2 vL) (e2::FV) [] om) X.env=(do
   let ov <-eval o2 X.env
   standAt vL.atName
   let (f,first) <-holding [ov] (getMethod ov m2 HF)
   callWith om f first (backTo om (starEach (e2::FV) X.env)) (backToKw om (keywordEach [] X.env))):=by rfl):
  PS X (.Try [.If c [.Expr (.Call (.Attribute o m apos) (e::es) [] pos) xQ] [.Expr (.Call (.Attribute o2 m2 vL) (e2::FV) [] om) C7] Nr]
   [.ExceptHandler (some (.Tuple [.Name cx p1,.Name cy p2] kk Ny)) (some n) [.Raise (some (.Call (.Name x np) (e3::Nx) [] dk)) (some (.Name n To)) Kn] tO] [] [] iO) (HM X.K tc C m sp ta t C' m2 Np Nq t2 C1 C2 C3 E i t3):=by
 intro pins s σ H D I h;refine wpAny_Try_except (wpAny_execs_cons (wpAny_If (wpAny_mono (hc pins s σ H _ (I.iN _) h) (λd s1 ⟨H1,I1,q1⟩=>?_) λ_ _ z=>z.elim)));have I1:=I1.eD;cases d with
 | true=>
  refine wpAny_execs_cons (wpAny_Expr_any (cb (C6 (pl:=pl) M cl ho hr ha I1 q1 (λH1 s1 e1 s' I1 ⟨ad,cls,c,H',ee,⟨F,nc⟩,ec,⟨Cc,eN,qc⟩,hx,q⟩=>?_) he hpl ht) λv s1 ⟨z,H1,I1,r1,q1⟩=>?_) I1.quiet Nb)
  ·subst ee;exact zx I1 F (nc ec) eN qc kG hf hex XC Mb Mc HJ mK hx hN hi hl Ro Rp q3 h3 (q ad F.tracked) Rq hd2 Rr Rt he3 hpl3
  ·exact wpAny_execs_nil (wpAny_execs_nil (wpAny_execs_nil ⟨σ,H1,I1,q1⟩))
 | false=>
  refine wpAny_execs_cons (wpAny_Expr_any (cb (C6 (pl:=HF) M' xh Ar Bw JT I1 q1 (λH1 s1 e1 s' I1 ⟨ad,cls,c,H',ee,⟨F,nc⟩,ec,⟨Cc,eN,qc⟩,hx,q⟩=>?_) he2 hpl2 ZR) λv s1 ⟨z,H1,I1,r1,q1⟩=>?_) I1.quiet Tt)
  ·subst ee;exact zx I1 F (nc ec) eN qc kG hf hex XC Mb Mc HJ mK hx hN hi hl Ro Rp q3 h3 (q ad F.tracked) Rq hd2 Rr Rt he3 hpl3
  ·exact wpAny_execs_nil (wpAny_execs_nil (wpAny_execs_nil ⟨σ,H1,I1,q1⟩))
end
open PySem PySem.Spec PyProof.Rows PySem.W
open PySem PyProof.Rows
theorem XD {vs:List V} {k:Int->Prop} (h:eS vs λa=>fR a λa=>k a):∃a,vs=[.int a]/\k a:=by
 obtain⟨_,rfl,h0⟩:=rdL1_eq.mp h;obtain⟨_,rfl,h1⟩:=rdI_eq.mp h0;exact⟨_,rfl,h1⟩
theorem qU {vs:List V} {k:Int->Int->Prop} (h:dj vs λa b=>fR a λa=>fR b λb=>k a b):∃a b,vs=[.int a,.int b]/\k a b:=by
 obtain⟨_,_,rfl,h0⟩:=rdL2_eq.mp h;obtain⟨_,rfl,h1⟩:=rdI_eq.mp h0;obtain⟨_,rfl,h2⟩:=rdI_eq.mp h1;exact⟨_,_,rfl,h2⟩
theorem Df {vs:List V} {k:Int->Addr->Str->Bool->Prop} (h:jr vs λa b c d=>fR a λa=>dg b λb=>qB c λc=>L3 d λd=>k a b c d):∃a b c d,vs=[.int a,.ref b,.str c,.bl d]/\k a b c d:=by
 obtain⟨_,_,_,_,rfl,h0⟩:=rdL4_eq.mp h;obtain⟨_,rfl,h1⟩:=rdI_eq.mp h0;obtain⟨_,rfl,h2⟩:=rdR_eq.mp h1;obtain⟨_,rfl,h3⟩:=rdS_eq.mp h2;obtain⟨_,rfl,h4⟩:=rdB_eq.mp h3;exact⟨_,_,_,_,rfl,h4⟩
theorem tW {vs:List V} {k:Int->Addr->Str->Addr->Prop} (h:jr vs λa b c d=>fR a λa=>dg b λb=>qB c λc=>dg d λd=>k a b c d):∃a b c d,vs=[.int a,.ref b,.str c,.ref d]/\k a b c d:=by
 obtain⟨_,_,_,_,rfl,h0⟩:=rdL4_eq.mp h;obtain⟨_,rfl,h1⟩:=rdI_eq.mp h0;obtain⟨_,rfl,h2⟩:=rdR_eq.mp h1;obtain⟨_,rfl,h3⟩:=rdS_eq.mp h2;obtain⟨_,rfl,h4⟩:=rdR_eq.mp h3;exact⟨_,_,_,_,rfl,h4⟩
theorem nM {vs:List V} {k:Addr->Prop} (h:eS vs λa=>dg a λa=>k a):∃a,vs=[.ref a]/\k a:=by
 obtain⟨_,rfl,h0⟩:=rdL1_eq.mp h;obtain⟨_,rfl,h1⟩:=rdR_eq.mp h0;exact⟨_,rfl,h1⟩
theorem Ba {vs:List V} {k:Addr->Int->Prop} (h:dj vs λa b=>dg a λa=>fR b λb=>k a b):∃a b,vs=[.ref a,.int b]/\k a b:=by
 obtain⟨_,_,rfl,h0⟩:=rdL2_eq.mp h;obtain⟨_,rfl,h1⟩:=rdR_eq.mp h0;obtain⟨_,rfl,h2⟩:=rdI_eq.mp h1;exact⟨_,_,rfl,h2⟩
theorem Dg {vs:List V} {k:Addr->Int->Int->Int->Prop} (h:jr vs λa b c d=>dg a λa=>fR b λb=>fR c λc=>fR d λd=>k a b c d):∃a b c d,vs=[.ref a,.int b,.int c,.int d]/\k a b c d:=by
 obtain⟨_,_,_,_,rfl,h0⟩:=rdL4_eq.mp h;obtain⟨_,rfl,h1⟩:=rdR_eq.mp h0;obtain⟨_,rfl,h2⟩:=rdI_eq.mp h1;obtain⟨_,rfl,h3⟩:=rdI_eq.mp h2;obtain⟨_,rfl,h4⟩:=rdI_eq.mp h3;exact⟨_,_,_,_,rfl,h4⟩
theorem Bb {vs:List V} {k:Addr->Addr->Prop} (h:dj vs λa b=>dg a λa=>dg b λb=>k a b):∃a b,vs=[.ref a,.ref b]/\k a b:=by
 obtain⟨_,_,rfl,h0⟩:=rdL2_eq.mp h;obtain⟨_,rfl,h1⟩:=rdR_eq.mp h0;obtain⟨_,rfl,h2⟩:=rdR_eq.mp h1;exact⟨_,_,rfl,h2⟩
theorem Dh {vs:List V} {k:Addr->Addr->V->Int->Prop} (h:jr vs λa b c d=>dg a λa=>dg b λb=>fR d λd=>k a b c d):∃a b c d,vs=[.ref a,.ref b,c,.int d]/\k a b c d:=by
 obtain⟨_,_,_,_,rfl,h0⟩:=rdL4_eq.mp h;obtain⟨_,rfl,h1⟩:=rdR_eq.mp h0;obtain⟨_,rfl,h2⟩:=rdR_eq.mp h1;obtain⟨_,rfl,h3⟩:=rdI_eq.mp h2;exact⟨_,_,_,_,rfl,h3⟩
theorem F1 {vs:List V} {k:Addr->Str->Prop} (h:dj vs λa b=>dg a λa=>qB b λb=>k a b):∃a b,vs=[.ref a,.str b]/\k a b:=by
 obtain⟨_,_,rfl,h0⟩:=rdL2_eq.mp h;obtain⟨_,rfl,h1⟩:=rdR_eq.mp h0;obtain⟨_,rfl,h2⟩:=rdS_eq.mp h1;exact⟨_,_,rfl,h2⟩
theorem HN {vs:List V} {k:Addr->Str->Addr->Prop} (h:iL vs λa b c=>dg a λa=>qB b λb=>dg c λc=>k a b c):∃a b c,vs=[.ref a,.str b,.ref c]/\k a b c:=by
 obtain⟨_,_,_,rfl,h0⟩:=rdL3_eq.mp h;obtain⟨_,rfl,h1⟩:=rdR_eq.mp h0;obtain⟨_,rfl,h2⟩:=rdS_eq.mp h1;obtain⟨_,rfl,h3⟩:=rdR_eq.mp h2;exact⟨_,_,_,rfl,h3⟩
theorem Di {vs:List V} {k:Addr->Str->V->V->Prop} (h:jr vs λa b c d=>dg a λa=>qB b λb=>k a b c d):∃a b c d,vs=[.ref a,.str b,c,d]/\k a b c d:=by
 obtain⟨_,_,_,_,rfl,h0⟩:=rdL4_eq.mp h;obtain⟨_,rfl,h1⟩:=rdR_eq.mp h0;obtain⟨_,rfl,h2⟩:=rdS_eq.mp h1;exact⟨_,_,_,_,rfl,h2⟩
theorem jx {vs:List V} {k:Addr->V->Prop} (h:dj vs λa b=>dg a λa=>k a b):∃a b,vs=[.ref a,b]/\k a b:=by
 obtain⟨_,_,rfl,h0⟩:=rdL2_eq.mp h;obtain⟨_,rfl,h1⟩:=rdR_eq.mp h0;exact⟨_,_,rfl,h1⟩
theorem HP {vs:List V} {k:Addr->V->Int->Prop} (h:iL vs λa b c=>dg a λa=>fR c λc=>k a b c):∃a b c,vs=[.ref a,b,.int c]/\k a b c:=by
 obtain⟨_,_,_,rfl,h0⟩:=rdL3_eq.mp h;obtain⟨_,rfl,h1⟩:=rdR_eq.mp h0;obtain⟨_,rfl,h2⟩:=rdI_eq.mp h1;exact⟨_,_,_,rfl,h2⟩
theorem HQ {vs:List V} {k:Addr->V->Addr->Prop} (h:iL vs λa b c=>dg a λa=>dg c λc=>k a b c):∃a b c,vs=[.ref a,b,.ref c]/\k a b c:=by
 obtain⟨_,_,_,rfl,h0⟩:=rdL3_eq.mp h;obtain⟨_,rfl,h1⟩:=rdR_eq.mp h0;obtain⟨_,rfl,h2⟩:=rdR_eq.mp h1;exact⟨_,_,_,rfl,h2⟩
theorem Dj {vs:List V} {k:Addr->V->V->Int->Prop} (h:jr vs λa b c d=>dg a λa=>fR d λd=>k a b c d):∃a b c d,vs=[.ref a,b,c,.int d]/\k a b c d:=by
 obtain⟨_,_,_,_,rfl,h0⟩:=rdL4_eq.mp h;obtain⟨_,rfl,h1⟩:=rdR_eq.mp h0;obtain⟨_,rfl,h2⟩:=rdI_eq.mp h1;exact⟨_,_,_,_,rfl,h2⟩
theorem Me {vs:List V} {k:Str->Prop} (h:eS vs λa=>qB a λa=>k a):∃a,vs=[.str a]/\k a:=by
 obtain⟨_,rfl,h0⟩:=rdL1_eq.mp h;obtain⟨_,rfl,h1⟩:=rdS_eq.mp h0;exact⟨_,rfl,h1⟩
theorem HR {vs:List V} {k:V->Prop} (h:eS vs λa=>k a):∃a,vs=[a]/\k a:=by
 obtain⟨_,rfl,h0⟩:=rdL1_eq.mp h;exact⟨_,rfl,h0⟩
theorem Nz {vs:List V} {k:V->Addr->Prop} (h:dj vs λa b=>dg b λb=>k a b):∃a b,vs=[a,.ref b]/\k a b:=by
 obtain⟨_,_,rfl,h0⟩:=rdL2_eq.mp h;obtain⟨_,rfl,h1⟩:=rdR_eq.mp h0;exact⟨_,_,rfl,h1⟩
theorem HS {vs:List V} {k:V->Addr->Str->Prop} (h:iL vs λa b c=>dg b λb=>qB c λc=>k a b c):∃a b c,vs=[a,.ref b,.str c]/\k a b c:=by
 obtain⟨_,_,_,rfl,h0⟩:=rdL3_eq.mp h;obtain⟨_,rfl,h1⟩:=rdR_eq.mp h0;obtain⟨_,rfl,h2⟩:=rdS_eq.mp h1;exact⟨_,_,_,rfl,h2⟩
theorem HU {vs:List V} {k:V->Addr->V->Prop} (h:iL vs λa b c=>dg b λb=>k a b c):∃a b c,vs=[a,.ref b,c]/\k a b c:=by
 obtain⟨_,_,_,rfl,h0⟩:=rdL3_eq.mp h;obtain⟨_,rfl,h1⟩:=rdR_eq.mp h0;exact⟨_,_,_,rfl,h1⟩
theorem Dk {vs:List V} {k:V->Addr->V->Int->Prop} (h:jr vs λa b c d=>dg b λb=>fR d λd=>k a b c d):∃a b c d,vs=[a,.ref b,c,.int d]/\k a b c d:=by
 obtain⟨_,_,_,_,rfl,h0⟩:=rdL4_eq.mp h;obtain⟨_,rfl,h1⟩:=rdR_eq.mp h0;obtain⟨_,rfl,h2⟩:=rdI_eq.mp h1;exact⟨_,_,_,_,rfl,h2⟩
theorem NA {vs:List V} {k:V->Str->Prop} (h:dj vs λa b=>qB b λb=>k a b):∃a b,vs=[a,.str b]/\k a b:=by
 obtain⟨_,_,rfl,h0⟩:=rdL2_eq.mp h;obtain⟨_,rfl,h1⟩:=rdS_eq.mp h0;exact⟨_,_,rfl,h1⟩
theorem HV {vs:List V} {k:V->Str->Addr->Prop} (h:iL vs λa b c=>qB b λb=>dg c λc=>k a b c):∃a b c,vs=[a,.str b,.ref c]/\k a b c:=by
 obtain⟨_,_,_,rfl,h0⟩:=rdL3_eq.mp h;obtain⟨_,rfl,h1⟩:=rdS_eq.mp h0;obtain⟨_,rfl,h2⟩:=rdR_eq.mp h1;exact⟨_,_,_,rfl,h2⟩
theorem oo {vs:List V} {k:V->V->Prop} (h:dj vs λa b=>k a b):∃a b,vs=[a,b]/\k a b:=by
 obtain⟨_,_,rfl,h0⟩:=rdL2_eq.mp h;exact⟨_,_,rfl,h0⟩
theorem zz {vs:List V} {k:V->V->V->Prop} (h:iL vs λa b c=>k a b c):∃a b c,vs=[a,b,c]/\k a b c:=by
 obtain⟨_,_,_,rfl,h0⟩:=rdL3_eq.mp h;exact⟨_,_,_,rfl,h0⟩
end L2
namespace Wq
@[inline]abbrev Sh:=Int×Int
abbrev Lw (x:Sh):Prop:=0<x.2/\Nm.g x.1 x.2=1
abbrev sc (L:Int) (x:Sh):Int:=x.1* (L / x.2)
theorem tX {L:Int} {x:Sh} (h:x.2∣L):sc L x*x.2=x.1*L:=by
 unfold sc;rw[Int.mul_assoc,Int.ediv_mul_cancel h]
theorem Dl {L s:Int} {x:Sh} (h:Lw x) (L0:0<L) (e:x.1*L=s*x.2):x.2∣L/\sc L x=s:=by
 have c:Int.gcd x.1 x.2=1:=by have:=h.2;unfold Nm.g at this;lia
 have d:x.2∣L:=Nm.Fs (q:=x.2) (a:=x.1) ⟨s,by rw[e,Int.mul_comm]⟩ c;refine⟨d,?_⟩;have:=tX d;rw[e] at this;exact Int.eq_of_mul_eq_mul_right (by have:=h.1;lia) this
abbrev low (a b:Int):Sh:=(Nm.st a b,Nm.sb a b)
theorem Dm {a b:Int} (h:0<b):Lw (low a b):=⟨Nm.JZ ⋯,Nm.J0 ⋯⟩
theorem Kq {a b L s:Int} (h:0<b) (L0:0<L) (e:a*L=s*b):(low a b).2∣L/\sc L (low a b)=s:=by
 refine Dl (Dm h) L0 ?_;have c:=Nm.Cr a b;show Nm.st a b*L=s*Nm.sb a b;refine Int.eq_of_mul_eq_mul_right (show b≠0 by lia) ?_
 calc Nm.st a b*L*b=(Nm.st a b*b)*L:=Int.mul_right_comm ..
  _=a*Nm.sb a b*L:=by rw[c]
  _=(a*L)*Nm.sb a b:=Int.mul_right_comm ..
  _=s*b*Nm.sb a b:=by rw[e]
  _=s*Nm.sb a b*b:=Int.mul_right_comm ..
abbrev pl (x y:Sh):Sh:=low (x.1*y.2+y.1*x.2) (x.2*y.2)
abbrev tm (x y:Sh):Sh:=low (x.1*y.1) (x.2*y.2)
theorem NB {L:Int} {x y:Sh} (hx:0<x.2) (hy:0<y.2) (L0:0<L) (dx:x.2∣L) (dy:y.2∣L):Lw (pl x y)/\(pl x y).2∣L/\sc L (pl x y)=sc L x+sc L y:=by
 have e1:=tX dx;have e2:=tX dy;refine⟨Dm (Int.mul_pos hx hy),Kq (Int.mul_pos hx hy) L0 ?_⟩
 calc (x.1*y.2+y.1*x.2)*L=(x.1*L)*y.2+ (y.1*L)*x.2:=by rw[Int.add_mul,Int.mul_right_comm,Int.mul_right_comm y.1]
  _=sc L x*x.2*y.2+sc L y*y.2*x.2:=by rw[e1,e2]
  _=(sc L x+sc L y)* (x.2*y.2):=by rw[Int.add_mul,Int.mul_assoc,Int.mul_assoc,Int.mul_comm y.2 x.2]
end Wq
namespace K81
open PySem PySem.Spec PyProof.Rows L2
set_option maxHeartbeats 4000000
local macro_rules | `(~~~$x) => `(some (V.ref $x))
local macro_rules | `(tactic| injections) => `(tactic| first | exact se rfl | exact na rfl | exact fun _ _ => rfl | rfl)
local macro_rules | `(tactic| simp! only [$ls,*]) => `(tactic| simp only [↓exV, ↓exI, ↓exB, ↓exR, ↓exS, ↓exII, ↓exRI, ↓exRa, ↓exRb, ↓rdV_c, ↓rdR_c, ↓rdI_c, ↓rdB_c, ↓rdS_c, L2.start, rdV_c, rdR_c, rdI_c, rdB_c, rdS_c, rdL1_c, rdL2_c, rdL3_c, rdL4_c, rdV_eq, rdR_eq, rdI_eq, rdB_eq, rdS_eq, rdL1_eq, rdL2_eq, rdL3_eq, rdL4_eq, Pr, tRev, tLR, tMaxD, tSortR, tD1, tDPop1, tSl, tNoPart, tPart, rSlL, tDIn, tDNotIn, gSub, rSetL, tLst, tDNewK, tComp, L2.stC, tFor_eq, iList, iTup, iRng1, iRng2, iZip, iEnum, iDict, iStr, tChain, tSumV, tBM, rJoin, tJoined, jNil, jLit, jInt, jStr, tRaise, tDGet, tDGet2, tDGet1, sDPut, Option.join_some, List.getElem?_nil,  tSeq, tRet, tRetN, tIfS, tTest, tB, tOp, tUn, tVar, tC, tCB, tCons, tNil, tCall, tTupS, tAsg, gName, gNil, gCons, tPar, tNext, tDrop, tAnd, tOr, tNot, tAndV, tOrV, tNotV, tIf, rI, rI0, rU, rIxTH, rIxLH, rEqT, rNeT, rInT, rEq, rNe, scal_ss, scal_ii, scal_bb, scal_si, scal_is, CPow, at0, at1, at2, List.map_cons, List.map_nil, List.length_cons, List.length_nil, Nat.reduceSub, Nat.reduceAdd, Nat.zero_add, List.replicate_zero, List.reduceReplicate, List.append_nil, List.nil_append, List.cons_append, List.getElem?_cons_zero, List.getElem?_cons_succ, List.set_cons_zero, List.set_cons_succ, Option.some.injEq, exists_eq_left', exists_eq_left, V.ref.injEq, V.int.injEq, V.bl.injEq, V.str.injEq, V.ty.injEq, HO.tup.injEq, HO.lst.injEq, List.cons.injEq, and_true, true_and, and_assoc, exists_and_left, decide_eq_true_eq, Bool.not_eq_true', decide_eq_false_iff_not, ite_true, ite_false, if_true, if_false, Int.reduceToNat, eq_self_iff_true, $ls,*])
local macro_rules | `(tactic| subst_vars) => `(tactic| change tSeq _ _ _ _ _)
local macro_rules | `(tactic| dsimp? [$ls,*]) => `(tactic| (first | ((dsimp (config := { zetaDelta := true }) only [L2.start, rdV_c, rdR_c, rdI_c, rdB_c, rdS_c, rdL1_c, rdL2_c, rdL3_c, rdL4_c, Pr, tRev, tLR, tMaxD, tSortR, tD1, tDPop1, tSl, tNoPart, tPart, rSlL, tDIn, tDNotIn, gSub, rSetL, tLst, tDNewK, tComp, L2.stC, tFor_eq, iList, iTup, iRng1, iRng2, iZip, iEnum, iDict, iStr, tChain, tSumV, tBM, rJoin, tJoined, jNil, jLit, jInt, jStr, tRaise, tDGet, tDGet2, tDGet1, sDPut, tSeq, tRet, tRetN, tIfS, tTest, tB, tOp, tUn, tVar, tC, tCB, tCons, tNil, tCall, tTupS, tAsg, gName, gNil, gCons, tPar, tNext, tDrop, tAnd, tOr, tNot, tAndV, tOrV, tNotV, tIf, rI, rI0, rU, rIxTH, rIxLH, rEqT, rNeT, rInT, rEq, rNe, scal_ss, scal_ii, scal_bb, scal_si, scal_is, CPow, List.map_cons, List.map_nil, List.length_cons, List.length_nil, Nat.reduceSub, Nat.reduceAdd, List.replicate_zero, List.reduceReplicate, List.nil_append, List.cons_append, List.getElem?_cons_zero, List.getElem?_cons_succ, List.set_cons_zero, List.set_cons_succ, $ls,*]); try simp! only [$ls,*]) | simp! only [$ls,*] | simp_all only [$ls,*]))
seal L2.PE L2.PT L2.PW L2.PA L2.PS L2.vb L2.PG L2.L4 L2.PI L2.J7 L2.PO L2.hZ L2.Q9 L2.cj L2.EJ L2.Rb L2.JD L2.L6
theorem kR {P:Program} {w:World}:tL (cu P w):=y9 P w
set_option genInjectivity false in
set_option genSizeOf false in
structure Txt (K:abk) (mg:Str->Option Value) (aw aG aH aA aM aI aE ah aF:Addr):Prop where
 z_ValueError:mg "ValueError"=none
 z_abs:mg "abs"=none
 z_all:mg "all"=none
 z_bool:mg "bool"=none
 z_enumerate:mg "enumerate"=none
 z_int:mg "int"=none
 z_isinstance:mg "isinstance"=none
 z_len:mg "len"=none
 z_list:mg "list"=none
 z_max:mg "max"=none
 z_min:mg "min"=none
 z_range:mg "range"=none
 z_sorted:mg "sorted"=none
 z_str:mg "str"=none
 z_sum:mg "sum"=none
 yd:Dn K mg "is_whole" (top 12)
 mL:Dn K mg "common_divisor" (top 13)
 F2:Dn K mg "share" (top 14)
 Kr:Dn K mg "plus" (top 15)
 tY:Dn K mg "is_figures" (top 16)
 ye:Dn K mg "whole_in" (top 17)
 kg:Dn K mg "table_by_weights" (top 19)
 yf:Dn K mg "table_of" (top 20)
 F3:Dn K mg "power" (top 24)
 tZ:Dn K mg "most_faces" (top 25)
 qV:Dn K mg "part_bottom" (top 26)
 t4:Dn K mg "part_count" (top 27)
 t5:Dn K mg "check_size" (top 28)
 t6:Dn K mg "dice_faces" (top 29)
 qW:Dn K mg "again_faces" (top 30)
 qX:Dn K mg "burst_faces" (top 31)
 t7:Dn K mg "part_faces" (top 32)
 mM:Nt K mg "value_of_pools" "value_of" (top 33)
 oq:Dn K mg "sides_product" (top 35)
 qY:Dn K mg "part_throws" (top 36)
 kh:Dn K mg "throws_by_bottom" (top 37)
 t8:Dn K mg "pool_table" (top 38)
 yg:Dn K mg "own_rows" (top 40)
 yh:Dn K mg "own_what" (top 41)
 mO:Nt K mg "value_of_plays" "value_of" (top 47)
 vO:Dn K mg "take_step" (top 49)
 vP:Dn K mg "read_play" (top 50)
 vQ:Dn K mg "_law_cell" (top 52)
 t9:Dn K mg "_law_mixed" (top 53)
 yi:Dn K mg "_law_low" (top 54)
 vR:Dn K mg "_law_plus" (top 55)
 ud:Dn K mg "_law_words" (top 57)
 uf:Dn K mg "_law_deeds" (top 58)
 ug:Dn K mg "_law_throw" (top 59)
 vS:Dn K mg "_law_pick" (top 60)
 vT:Dn K mg "_law_game" (top 61)
 qZ:Dn K mg "_law_values" (top 62)
 vU:Dn K mg "_law_what" (top 63)
 q9:Dn K mg "_law_number" (top 64)
 pU:Dn K mg "_law_arrived" (top 65)
 vV:Dn K mg "_law_done" (top 66)
 k9:Dn K mg "_law_holds_when" (top 67)
 vW:Dn K mg "_law_open" (top 68)
 vX:Dn K mg "_law_gone" (top 69)
 vY:Dn K mg "_law_paid" (top 70)
 rh:Dn K mg "_law_points" (top 71)
 uh:Dn K mg "_law_value" (top 72)
 rj:Dn K mg "_law_walked" (top 73)
 ui:Dn K mg "_law_steps" (top 74)
 pV:Dn K mg "_law_spoiled" (top 75)
 vZ:Dn K mg "_law_told" (top 76)
 c_FIGURES:∃t,mg "FIGURES"=some (.str "0123456789" t)
 c_MOST_FIGURES:∃t,mg "MOST_FIGURES"=some (.int 12 t)
 c_MOST_THROWS:∃t,mg "MOST_THROWS"=some (.int 1296 t)
 c_MOST_BOTTOM:∃t,mg "MOST_BOTTOM"=some (.int 1000000 t)
 c_MOST_STEPS:∃t,mg "MOST_STEPS"=some (.int 200 t)
 c_MOST_VALUE:∃t,mg "MOST_VALUE"=some (.int 999 t)
 k_LuckError:mg "LuckError"=some (.ref aw)
 k_NoShare:mg "NoShare"=some (.ref aG)
 k_NoTable:mg "NoTable"=some (.ref aH)
 k_TooMany:mg "TooMany"=some (.ref aA)
 k_NoGame:mg "NoGame"=some (.ref aM)
 k_NoStep:mg "NoStep"=some (.ref aI)
 k_NoPlay:mg "NoPlay"=some (.ref aE)
 k_Course:mg "Course"=some (.ref ah)
 k_Play:mg "Play"=some (.ref aF)
 x_NoShare:PySem.W.excIn K aG jv fC=true
 x_NoTable:PySem.W.excIn K aH jv fC=true
 x_TooMany:PySem.W.excIn K aA jv fC=true
 x_NoStep:PySem.W.excIn K aI jv fC=true
 x_NoPlay:PySem.W.excIn K aE jv fC=true
 iT:gJ K aE
 e_NoPlay_LuckError:PySem.W.exmOne K (.ref aE) (.ref aw)=some true
 e_NoStep_NoStep:PySem.W.exmOne K (.ref aI) (.ref aI)=some true
 e_TooMany_TooMany:PySem.W.exmOne K (.ref aA) (.ref aA)=some true
 f_NoStep_TooMany:PySem.W.exmOne K (.ref aI) (.ref aA)=some false
 f_TooMany_NoStep:PySem.W.exmOne K (.ref aA) (.ref aI)=some false
 i_NoPlay_NoPlay:PySem.W.kitOne K (.ref aE) (.ref aE)=some true
 i_NoPlay_ValueError:PySem.W.kitOne K (.ref aE) (.type "ValueError")=some true
 n_NoPlay_NoGame:PySem.W.kitOne K (.ref aE) (.ref aM)=some false
 n_NoPlay_NoStep:PySem.W.kitOne K (.ref aE) (.ref aI)=some false
 n_NoPlay_TooMany:PySem.W.kitOne K (.ref aE) (.ref aA)=some false
 n_Play_list:PySem.W.kitOne K (.ref aF) (.type "list")=some false
 aW:vg K ah
 a7:vg K aF
 na_Course_first:abp K (.ref ah) "first"=some none
 na_Course_mosts:abp K (.ref ah) "mosts"=some none
 na_Course_spots:abp K (.ref ah) "spots"=some none
 na_Course_tables:abp K (.ref ah) "tables"=some none
 na_Course_whats:abp K (.ref ah) "whats"=some none
 na_Play_course:abp K (.ref aF) "course"=some none
 na_Play_paid:abp K (.ref aF) "paid"=some none
 na_Play_state:abp K (.ref aF) "state"=some none
 na_Play_trail:abp K (.ref aF) "trail"=some none
 o_Play_cls:abp K (.ref aF) "__class__"=some (some (.builtin "object.__class__"))
 o_Play_obj:PySem.W.mroIn K aF (.type "object")=some true
 Bc:Rm K mg "Course" "Course.__init__" (inClass (top 42) 0) ah
 F4:Rm K mg "Play" "Play.__init__" (inClass (top 46) 0) aF
 ou:qO K ah "asked" "Course.asked" (inClass (top 42) 3)
 mP:qO K ah "by_row" "Course.by_row" (inClass (top 42) 6)
 ki:qO K ah "by_value" "Course.by_value" (inClass (top 42) 7)
 uj:qO K ah "do" "Course.do" (inClass (top 42) 2)
 jy:qO K ah "end_worth" "Course.end_worth" (inClass (top 42) 12)
 ox:qO K ah "holds" "Course.holds" (inClass (top 42) 9)
 jA:qO K ah "open_rows" "Course.open_rows" (inClass (top 42) 10)
 rk:qO K ah "put" "Course.put" (inClass (top 42) 1)
 oy:qO K ah "start" "Course.start" (inClass (top 42) 4)
 kj:qO K ah "table_at" "Course.table_at" (inClass (top 42) 8)
 lh:qO K ah "what_at" "Course.what_at" (inClass (top 42) 5)
 kl:qO K ah "words_at" "Course.words_at" (inClass (top 42) 11)
 yj:qO K aF "go" "Play.go" (inClass (top 46) 4)
 lj:qO K aF "open_ways" "Play.open_ways" (inClass (top 46) 3)
 pW:qO K aF "points" "Play.points" (inClass (top 46) 2)
 wa:qO K aF "say" "Play.say" (inClass (top 46) 5)
 rA:qO K aF "shown" "Play.shown" (inClass (top 46) 8)
 pX:qO K aF "stands" "Play.stands" (inClass (top 46) 1)
 rB:qO K aF "throw" "Play.throw" (inClass (top 46) 6)
abbrev eQ (K:abk) (x q:Str) (st:Stmt):Prop:=∃f oc od sl kV dc pm an cd ct,abo K mainGlobals x=some (some (.ref f))/\K.lookup f=some ⟨oc,od,.func (abn q q (bC st) (bu st) (au st) .none kV dc pm an cd ct),sl⟩/\abm K cd q=true/\abl K (.ref f)=true
theorem ZS {K:abk} {x q:Str} {st:Stmt} {f:Addr} {od an:Option Addr} {sl:Array (Option Value)} {oc kV dc pm cd ct:Value} (a:abo K mainGlobals x=some (some (.ref f))) (l:K.lookup f=some ⟨oc,od,.func (abn q q (bC st) (bu st) (au st) .none kV dc pm an cd ct),sl⟩) (e:abm K cd q=true) (k:abl K (.ref f)=true):eQ K x q st:=⟨_,_,_,_,_,_,_,_,_,_,a,l,e,k⟩
theorem eQ.dn {K:abk} {h:Heap} {mg:Str->Option Value} {x:Str} {st:Stmt} (F:eQ K x x st) (X:K.In h) (G:h.Ns mainGlobals mg):Dn K mg x st:=by
 obtain⟨_,_,_,_,_,_,_,_,_,_,a,l,e,k⟩:=F;exact⟨_,_,cC l e k,aaE X G a⟩
theorem eQ.da {K:abk} {h:Heap} {mg:Str->Option Value} {x q:Str} {st:Stmt} (F:eQ K x q st) (X:K.In h) (G:h.Ns mainGlobals mg):Nt K mg x q st:=by
 obtain⟨_,_,_,_,_,_,_,_,_,_,a,l,e,k⟩:=F;exact⟨_,_,cC l e k,aaE X G a⟩
theorem Tu {C:List Value->Prop} (k:C []):∀us:List Value,us.length=0->C us:=λus h=>by
 cases us with
 | nil=>exact k
 | cons a us=>cases h
theorem F5 {C:List Value->Prop} {n:Nat} (k:∀a (us:List Value),us.length=n->C (a::us)):∀us:List Value,us.length=n+1->C us:=λus h=>by
 cases us with
 | nil=>cases h
 | cons a us=>exact k a us (Nat.succ.inj h)
theorem gq {C:List Value->Prop} (k:∀a,C [a]):∀us:List Value,us.length=1->C us:=F5 λa=>Tu (C:=λus=>C (a::us)) (k a)
theorem dQ {C:List Value->Prop} (k:∀a b,C [a,b]):∀us:List Value,us.length=2->C us:=F5 λa=>gq (C:=λus=>C (a::us)) (k a)
theorem rC {C:List Value->Prop} (k:∀a b c,C [a,b,c]):∀us:List Value,us.length=3->C us:=F5 λa=>dQ (C:=λus=>C (a::us)) (k a)
theorem uk {C:List Value->Prop} (k:∀a b c d,C [a,b,c,d]):∀us:List Value,us.length=4->C us:=F5 λa=>rC (C:=λus=>C (a::us)) (k a)
abbrev Al {α:Type} (R:α->V->Prop):List α->List V->Prop
 | [],[]=>True
 | a::as,v::vs=>R a v/\Al R as vs
 | _,_=>False
theorem Al.length {α:Type} {R:α->V->Prop}:∀{as:List α} {vs:List V},Al R as vs->vs.length=as.length
 | [],[],_=>rfl
 | a::as,v::vs,h=>by simp [Al.length h.2]
theorem Al.imp {α:Type} {R S:α->V->Prop} (f:∀a v,R a v->S a v):∀{as:List α} {vs:List V},Al R as vs->Al S as vs
 | [],[],_=>trivial
 | a::as,v::vs,h=>⟨f _ _ h.1,Al.imp f h.2⟩
theorem Al.append {α:Type} {R:α->V->Prop}:∀{as bs:List α} {us vs:List V},Al R as us->Al R bs vs->Al R (as++bs) (us++vs)
 | [],_,[],_,_,k=>k
 | a::as,_,v::vs,_,h,k=>⟨h.1,Al.append h.2 k⟩
theorem Al.one {α:Type} {R:α->V->Prop} {a:α} {v:V} (h:R a v):Al R [a] [v]:=⟨h,trivial⟩
theorem Al.get {α:Type} {R:α->V->Prop}:∀{as:List α} {vs:List V} {i:Nat} {v:V},Al R as vs->vs[i]?=some v->∃a,as[i]?=some a/\R a v:=by
 intro as
 induction as with
 | nil=>
  intro vs i v h e;cases vs with
  | nil=>simp at e
  | cons u vs=>exact h.elim
 | cons a as ih=>
  intro vs i v h e;cases vs with
  | nil=>exact h.elim
  | cons u vs=>
   cases i with
   | zero=>cases e;exact⟨a,rfl,h.1⟩
   | succ i=>exact ih (vs:=vs) (i:=i) h.2 e
theorem Al.of {α:Type} {R:α->V->Prop}:∀{as:List α} {vs:List V},vs.length=as.length->(∀(i:Nat) v a,vs[i]?=some v->as[i]?=some a->R a v)->Al R as vs
 | [],[],_,_=>trivial
 | [],_::_,l,_=>by simp at l
 | _::_,[],l,_=>by simp at l
 | a::as,u::vs,l,h=>⟨h 0 u a rfl rfl,Al.of (by simpa using l) λi v b e1 e2=>h (i+1) v b (by simpa using e1) (by simpa using e2)⟩
abbrev NC:Sp:=λvs H Q _=>dj vs λa b=>fR a λa=>fR b λb=>Q (.int (Nm.g a b)) H
abbrev Kt (qn:Addr):Sp:=λvs H Q E=>dj vs λa b=>fR a λa=>fR b λb=>Bt 5000 b/\(b=0->E (.ref qn) none H)/\(b≠0->∀p H',aB H H'->H p=none->H' p=some (.tup (Pr (Nm.st a b) (Nm.sb a b)))->Q (.ref p) H')
abbrev Ku:Sp:=λvs H Q _=>dj vs λd B=>dg d λd=>fR B λB=>∃ws,H d=some (.dK (enc ws))/\(Nm.keys ws).Nodup/\ws.length<64/\B≠0/\Bt 5000 B/\∀p H',aB H H'->H p=none->Rep H' (k7 (Nm.rowsOf ws B)) (.ref p)->Q (.ref p) H'
abbrev ND (qt:Addr):Sp:=λvs H Q E=>eS vs λv=>∃ps,Rep H (CM ps) v/\ps.length<=1296/\(∀p∈ps,p.2<=10^12)/\(Nm.jH ps).length<64/\(Nm.bad ps->∀H',aB H H'->E (.ref qt) none H')/\(¬Nm.bad ps->∀p H',aB H H'->H p=none->Rep H' (k7 (Nm.rowsOf (Nm.jH ps) (Nm.pF (Nm.jH ps)))) (.ref p)->Q (.ref p) H')
abbrev F6 (s:Nat):Nat->List (List Int)
 | 0=>[[]]
 | d+1=>(F6 s d).flatMap λf=>(List.range s).map λi:Nat=>f++ [((i:Nat):Int)+1]
theorem oJ (s:Nat):∀d,(F6 s d).length=s^d
 | 0=>rfl
 | d+1=>by
  have h:∀l:List (List Int),(l.flatMap λf=>(List.range s).map λi:Nat=>f++ [((i:Nat):Int)+1]).length=l.length*s:=by
   intro l
   induction l with
   | nil=>simp
   | cons a r ih=>rw[List.flatMap_cons,aat,ih,aaj,aaO,aaw,Nat.succ_mul,Nat.add_comm]
  rw[F6,h,oJ s d,Nat.pow_succ]
theorem um (s:Nat):∀d,∀f∈F6 s d,f.length=d/\∀x∈f,1<=x/\x<=(s:Int)
 | 0,f,h=>by
  rw[abu.mp h];exact⟨rfl,by simp⟩
 | d+1,f,h=>by
  obtain⟨g,hg,hf⟩:=List.mem_flatMap.mp h;obtain⟨i,hi,rfl⟩:=abt.mp hf;obtain⟨l,k⟩:=um s d g hg;have:=List.mem_range.mp hi;refine⟨by rw[aat,l];rfl,λx hx=>?_⟩;rcases List.mem_append.mp hx with h | h
  ·exact k x h
  ·rw[abu.mp h];lia
abbrev Lt (f g:List Int):Prop:=HG f g=false
inductive Pt
 | num (n:Nat)
 | cU (m s:Nat)
abbrev rD:Pt->List V
 | .num n=>[.str "number",.int (n:Int)]
 | .cU m s=>[.str "dice",.int (m:Int),.int (s:Int)]
abbrev qF:Pt->Dat
 | .num n=>.tup [.str "number",.int (n:Int)]
 | .cU m s=>.tup [.str "dice",.int (m:Int),.int (s:Int)]
abbrev lst:Pt->Nat
 | .num n=>n
 | .cU _ s=>s
abbrev sd:Pt->Nat
 | .num _=>1
 | p=>lst p
abbrev HW:Pt->Nat
 | .num _=>0
 | .cU m _=>m
abbrev bot (p:Pt):Nat:=sd p^HW p
abbrev cnt:Pt->Nat
 | .num _=>1
 | p=>bot p
abbrev F7:Pt->List (List Int)
 | .num _=>[[]]
 | .cU m s=>F6 s m
abbrev val:Pt->List Int->Int
 | .num n,_=>n
 | .cU _ _,f=>f.sum
abbrev eL:Pt->Prop
 | .num n=>n<=99
 | .cU m s=>1<=s/\s<=20/\m<=6
theorem uo {p:Pt} (g:eL p):1<=sd p/\sd p<=20:=by
 cases p <;>simp only[sd,lst,eL] at *<;>lia
theorem Kv {p:Pt} (g:eL p):lst p<=99:=by
 cases p <;>simp only[lst,eL] at *<;>lia
theorem pY {p:Pt} (g:eL p):HW p<=7:=by
 cases p <;>simp only[HW,eL] at *<;>(try split) <;>lia
theorem Bd {s e:Nat} (hs:s<=20) (he:e<=10):s^e<=10240000000000:=
 aau (Nat.pow_le_pow_left hs e) (aau (abh ∅ he) ∅)
theorem lq (p:Pt):(F7 p).length=cnt p:=by
 cases p with
 | num n=>rfl
 | cU m s=>exact oJ s m
theorem lA {p:Pt} (g:eL p):∀f∈F7 p,(∀x∈f,1<=x/\x<=(lst p:Int))/\f.length<=HW p:=by
 intro f hf;cases p with
 | num n=>rw[abu.mp hf];simp
 | cU m s=>obtain⟨a,b⟩:=um s m f hf;exact⟨b,Nat.le_of_eq a⟩
theorem F8 {p:Pt} (g:eL p) {f:List Int} (hf:f∈F7 p):1<=sd p^f.length/\sd p^f.length<=bot p:=
 ⟨Nat.pow_pos (uo g).1,abh (uo g).1 (lA g f hf).2⟩
@[inline]abbrev Row:=List Int×Int×Nat
abbrev EL (p:Pt):List Row:=(F7 p).map λf=>(f,val p f,sd p^f.length)
abbrev jj (rs:List Row) (p:Pt):List Row:=rs.flatMap λr=>(EL p).map λq=>(r.1++q.1,r.2.1+q.2.1,r.2.2*q.2.2)
abbrev eC (ps:List Pt):List Row:=ps.foldl jj [([],0,1)]
theorem pZ (ps:List Pt) (p:Pt):eC (ps++ [p])=jj (eC ps) p:=by unfold eC;rw[List.foldl_append];rfl
abbrev iU:List Nat->Nat
 | []=>1
 | a::r=>a*iU r
theorem gX (l:List Nat) (a:Nat):iU (l++ [a])=iU l*a:=by
 induction l with
 | nil=>simp [iU]
 | cons b r ih=>simp only[aaY,iU,ih,Nat.mul_assoc]
theorem zA {l:List Nat} (h:∀a∈l,1<=a):1<=iU l:=by
 induction l with
 | nil=>simp [iU]
 | cons b r ih=>
  have h1:=h b (by simp);have h2:=ih λa ha=>h a (aap _ ha);exact Nat.mul_le_mul h1 h2
theorem wb {l:List Nat} (h:∀a∈l,1<=a):∀i,iU (l.take i)<=iU l:=by
 induction l with
 | nil=>intro i;simp
 | cons b r ih=>
  intro i;have h1:=h b (by simp);have h0:∀a∈r,1<=a:=λa ha=>h a (aap _ ha);cases i with
  | zero=>exact Nat.mul_le_mul h1 (zA h0)
  | succ i=>exact Nat.mul_le_mul (aam _) (ih h0 i)
theorem F9 (rs:List Row) (p:Pt):(jj rs p).length=rs.length*cnt p:=by
 unfold jj
 induction rs with
 | nil=>simp
 | cons r t ih=>
  rw[List.flatMap_cons,aat,ih,aaj,aaw,Nat.succ_mul];unfold EL;rw[aaj,lq];lia
theorem take_snoc {α:Type} {l:List α} {i:Nat} (h:i<l.length):l.take (i+1)=l.take i++ [l[i]]:=by
 rw[aaK,aao h];rfl
theorem oK (ps:List Pt):(eC ps).length=iU (ps.map cnt):=by
 have:∀i,i<=ps.length->(eC (ps.take i)).length=iU ((ps.take i).map cnt):=by
  intro i
  induction i with
  | zero=>intro _;rfl
  | succ i ih=>
   intro h;rw[take_snoc ⋯,pZ,F9,ih ⋯,aaq,aak,aaU,gX]
 have:=this ps.length (aam _)
 rwa [aaz (aam _)] at this
theorem oF {p:Pt} (g:eL p):1<=cnt p:=by
 cases p with
 | num n=>simp [cnt]
 | cU m s=>exact Nat.pow_pos g.1
theorem zB {p:Pt} (g:eL p):1<=bot p:=Nat.pow_pos (uo g).1
abbrev sE (ps:List Pt):Prop:=(∀p∈ps,eL p)/\iU (ps.map cnt)<=1296/\iU (ps.map bot)<=1000000
theorem mQ {ps:List Pt} (g:sE ps) (i:Nat):iU ((ps.take i).map cnt)<=1296:=by
 rw[aa5];exact aau (wb (λa ha=>by obtain⟨p,hp,rfl⟩:=abt.mp ha;exact oF (g.1 p hp)) i) g.2.1
theorem mR {ps:List Pt} (g:sE ps) (i:Nat):iU ((ps.take i).map bot)<=1000000:=by
 rw[aa5];exact aau (wb (λa ha=>by obtain⟨p,hp,rfl⟩:=abt.mp ha;exact zB (g.1 p hp)) i) g.2.2
theorem zC {l:List Nat} (h:∀a∈l,1<=a):∀a∈l,a<=iU l:=by
 induction l with
 | nil=>intro a ha;cases ha
 | cons b r ih=>
  intro a ha;have h1:=h b (by simp);have h0:∀a∈r,1<=a:=λa ha=>h a (aap _ ha);rw[iU];rcases aaX.mp ha with rfl | ha
  ·have:=Nat.mul_le_mul (aam a) (zA h0);lia
  ·have:=Nat.mul_le_mul h1 (ih h0 a ha);lia
theorem mS {ps:List Pt} (g:sE ps) {p:Pt} (hp:p∈ps):eL p/\cnt p<=1296/\bot p<=1000000:=
 ⟨g.1 p hp,aau (zC (λa ha=>by obtain⟨p,hp,rfl⟩:=abt.mp ha;exact oF (g.1 p hp)) _ (List.mem_map_of_mem hp)) g.2.1,
  aau (zC (λa ha=>by obtain⟨p,hp,rfl⟩:=abt.mp ha;exact zB (g.1 p hp)) _ (List.mem_map_of_mem hp)) g.2.2⟩
theorem zD {ps:List Pt} (g:∀p∈ps,eL p):∀i,i<=ps.length->∀r∈eC (ps.take i),r.1.length<=7*i/\1<=r.2.2/\r.2.2<=iU ((ps.take i).map bot):=by
 intro i
 induction i with
 | zero=>intro _ r hr;rw[abu.mp hr];simp [iU]
 | succ i ih=>
  intro h r hr;rw[take_snoc ⋯,pZ] at hr;obtain⟨r0,h0,hr⟩:=List.mem_flatMap.mp hr;obtain⟨q,hq,rfl⟩:=abt.mp hr;obtain⟨f,hf,rfl⟩:=abt.mp hq;obtain⟨a,b,c⟩:=ih ⋯ r0 h0;have gp:=g _ (aaH (show i<ps.length by lia));obtain⟨d,e⟩:=F8 gp hf;have l:=(lA gp f hf).2;have m:=pY gp;rw[take_snoc ⋯,aaq,aak,aaU,gX];refine⟨by rw[aat];show r0.1.length+f.length<=_;lia,Nat.mul_le_mul b d,Nat.mul_le_mul c e⟩
abbrev Fa (H:Hp) (f:List Int) (v:V):Prop:=∃q,v=.ref q/\H q=some (.lst (List.map V.int f))
theorem Fa.mono {H H':Hp} {f:List Int} {v:V} (s:aB H H'):Fa H f v->Fa H' f v:=fun⟨q,e,h⟩=>⟨q,e,s _ _ h⟩
abbrev TR (G H:Hp) (r:Row) (v:V):Prop:=∃a q,v=.ref a/\H a=some (.tup [.ref q,.int r.2.1,.int (r.2.2:Int)])/\H q=some (.lst (List.map V.int r.1))/\G q=none
theorem TR.mono {G H H':Hp} {r:Row} {v:V} (s:aB H H'):TR G H r v->TR G H' r v:=fun⟨a,q,e,h,k,n⟩=>⟨a,q,e,s _ _ h,s _ _ k,n⟩
abbrev Kw (H:Hp) (l:Addr) (ps:List Pt):Prop:=∃xs,H l=some (.lst xs)/\Al (λp v=>∃q,v=.ref q/\H q=some (.tup (rD p))) ps xs
theorem Kw.mono {H H':Hp} {l:Addr} {ps:List Pt} (s:aB H H'):Kw H l ps->Kw H' l ps:=fun⟨xs,h,a⟩=>⟨xs,s _ _ h,a.imp λ_ _ ⟨q,e,k⟩=>⟨q,e,s _ _ k⟩⟩
theorem zE {H:Hp} {p:Addr} {o:HO}:df (upd H p o) p=df H p:=by
 funext a;unfold df
 by_cases c:a=p
 ·rw[if_pos c,if_pos c]
 ·rw[if_neg c,if_neg c,aD c]
theorem yk (p:Pt):mv (rD p) (-1)=some (.int (lst p:Int)):=by cases p <;>rfl
abbrev kd:Pt->Str
 | .num _=>aai "number"
 | .cU _ _=>aai "dice"
abbrev NF:Sp:=λvs H Q _=>∃(b e:Nat),vs=[.int (b:Int),.int (e:Int)]/\(1<=b\/e=0)/\e<=10/\b^e<=1000000/\Q (.int ((b^e:Nat):Int)) H
abbrev NG:Sp:=λvs H Q _=>eS vs λq=>dg q λq=>∃p,H q=some (.tup (rD p))/\Q (.int (HW p:Int)) H
abbrev Dp:Sp:=λvs H Q _=>eS vs λq=>dg q λq=>∃p,H q=some (.tup (rD p))/\eL p/\bot p<=1000000/\Q (.int (bot p:Int)) H
abbrev NH:Sp:=λvs H Q _=>eS vs λq=>dg q λq=>∃p,H q=some (.tup (rD p))/\eL p/\bot p<=1000000/\Q (.int (cnt p:Int)) H
abbrev NI:Sp:=λvs H Q _=>eS vs λl=>dg l λl=>∃ps,Kw H l ps/\sE ps/\Q .bZ H
abbrev NJ:Sp:=λvs H Q _=>∃(d s:Nat),vs=[.int (d:Int),.int (s:Int)]/\1<=s/\s<=20/\d<=6/\s^d<=1296/\∀l H' xs,aB H H'->H' l=some (.lst xs)->Al (Fa H') (F6 s d) xs->Q (.ref l) H'
abbrev NK:Sp:=λvs H Q _=>eS vs λq=>dg q λq=>∃p,H q=some (.tup (rD p))/\eL p/\cnt p<=1296/\∀l H' xs,aB H H'->H' l=some (.lst xs)->Al (Fa H') (F7 p) xs->Q (.ref l) H'
abbrev NL:Sp:=λvs H Q _=>dj vs λq l=>dg q λq=>dg l λl=>∃p,H q=some (.tup (rD p))/\∃f,H l=some (.lst (List.map V.int f))/\eL p/\f∈F7 p/\∀H',aB H H'->Q (.int (val p f)) H'
abbrev NM:Sp:=λvs H Q _=>dj vs λq l=>dg q λq=>dg l λl=>∃p,H q=some (.tup (rD p))/\∃f,H l=some (.lst (List.map V.int f))/\eL p/\f∈F7 p/\Q (.int ((sd p^f.length:Nat):Int)) H
abbrev NN:Sp:=λvs H Q _=>eS vs λq=>dg q λq=>∃p,H q=some (.tup (rD p))/\eL p/\cnt p<=1296/\∀l H' xs,aB H H'->H' l=some (.lst xs)->Al (TR (λ_=>none) H') (EL p) xs->Q (.ref l) H'
abbrev NO:Sp:=λvs H Q _=>eS vs λa=>dg a λa=>∃ps,Kw H a ps/\sE ps/\ps.length<=4/\∀l H' xs,aB H H'->H' l=some (.lst xs)->Al (TR H H') (eC ps) xs->Q (.ref l) H'
abbrev NP:Sp:=λ_ _ _ _=>False
abbrev Dq:List (Nat×Nat):=[(1,2),(1,3),(1,4),(1,5),(1,6),(2,2),(2,3),(2,4),(2,5),(2,6)]
abbrev Ga:List (List Pt):=Dq.flatMap λx=>[.cU x.1 x.2]::(List.range 100).map λm=>[.cU x.1 x.2,.num m]
abbrev Gb (C:Nat) (rs:List Row):Nm.Ws:=rs.map λr=>(r.2.1,((C / r.2.2:Nat):Int))
abbrev zF (ps:List Pt):Nm.Ws:=Gb (iU (ps.map bot)) (eC ps)
abbrev lB (ps:List Pt):List (Int×Int×Int):=Nm.rowsOf (Nm.jH (zF ps)) (Nm.pF (Nm.jH (zF ps)))
abbrev nN (ps:List Pt):Prop:=ps∈Ga
abbrev HX (ps:List Pt):Int:=(iU (ps.map bot):Int)
abbrev gy:List Pt->List Int
 | [.cU k s]=>(List.range (k*s - k+1)).map λi:Nat=>(k:Int)+ (i:Int)
 | [.cU k s,.num m]=>(List.range (k*s - k+1)).map λi:Nat=>(k:Int)+ (m:Int)+ (i:Int)
 | _=>[]
theorem lC {ps:List Pt} (g:ps∈Ga):∃k s,(k,s)∈Dq/\(ps=[.cU k s]\/∃m,m<100/\ps=[.cU k s,.num m]):=by
 obtain⟨⟨k,s⟩,hx,h⟩:=List.mem_flatMap.mp g;refine⟨k,s,hx,?_⟩;rcases aaX.mp h with h | h
 ·exact .inl h
 ·obtain⟨m,hm,rfl⟩:=abt.mp h;exact .inr ⟨m,List.mem_range.mp hm,rfl⟩
abbrev rE (x:Nat×Nat):List (List Pt):=[.cU x.1 x.2]::(List.range 100).map λm=>[.cU x.1 x.2,.num m]
theorem Dr {ps:List Pt} (h:ps∈Ga):∃x∈Dq,ps∈rE x:=by
 obtain⟨x,hx,h⟩:=List.mem_flatMap.mp h;exact⟨x,hx,h⟩
@[inline]abbrev EM (ps:List Pt):Prop:=(∀x∈zF ps,0<x.2/\x.2<=10^12)/\(zF ps).length<=1296/\(Nm.jH (zF ps)).length<64/\Nm.pos (zF ps)≠[]/\iU (ps.map cnt)<=1296/\iU (ps.map bot)<=1000000
@[inline]abbrev EN (ps:List Pt):Prop:=(0<HX ps/\HX ps<=1000000/\(lB ps).length<=1296/\∀r∈lB ps,0<r.2.2/\r.2.2∣HX ps/\0<=r.2.1/\r.2.1<=HX ps)/\(lB ps).map (·.1)=gy ps
theorem Tv:∀ps∈rE (1,2),EM ps:=∅
theorem Tz:∀ps∈rE (1,2),EN ps:=∅
theorem TB:∀ps∈rE (1,3),EM ps:=∅
theorem TC:∀ps∈rE (1,3),EN ps:=∅
theorem TF:∀ps∈rE (1,4),EM ps:=∅
theorem TH:∀ps∈rE (1,4),EN ps:=∅
theorem TK:∀ps∈rE (1,5),EM ps:=∅
theorem TL:∀ps∈rE (1,5),EN ps:=∅
theorem TM:∀ps∈rE (1,6),EM ps:=∅
theorem TN:∀ps∈rE (1,6),EN ps:=∅
theorem TQ:∀ps∈rE (2,2),EM ps:=∅
theorem TU:∀ps∈rE (2,2),EN ps:=∅
theorem TV:∀ps∈rE (2,3),EM ps:=∅
theorem TX:∀ps∈rE (2,3),EN ps:=∅
theorem TY:∀ps∈rE (2,4),EM ps:=∅
theorem TZ:∀ps∈rE (2,4),EN ps:=∅
theorem T4:∀ps∈rE (2,5),EM ps:=∅
theorem T5:∀ps∈rE (2,5),EN ps:=∅
theorem T6:∀ps∈rE (2,6),EM ps:=∅
theorem T7:∀ps∈rE (2,6),EN ps:=∅
theorem uq:∀ps∈Ga,(∀x∈zF ps,0<x.2/\x.2<=10^12)/\(zF ps).length<=1296/\(Nm.jH (zF ps)).length<64/\Nm.pos (zF ps)≠[]/\iU (ps.map cnt)<=1296/\iU (ps.map bot)<=1000000:=λps h=>by
 obtain⟨x,hx,h⟩:=Dr h;simp only[Dq,aaX,List.not_mem_nil,or_false] at hx;rcases hx with rfl | rfl | rfl | rfl | rfl | rfl | rfl | rfl | rfl | rfl
 ·exact Tv ps h
 ·exact TB ps h
 ·exact TF ps h
 ·exact TK ps h
 ·exact TM ps h
 ·exact TQ ps h
 ·exact TV ps h
 ·exact TY ps h
 ·exact T4 ps h
 ·exact T6 ps h
theorem zG:∀ps∈Ga,(0<HX ps/\HX ps<=1000000/\(lB ps).length<=1296/\∀r∈lB ps,0<r.2.2/\r.2.2∣HX ps/\0<=r.2.1/\r.2.1<=HX ps)/\(lB ps).map (·.1)=gy ps:=λps h=>by
 obtain⟨x,hx,h⟩:=Dr h;simp only[Dq,aaX,List.not_mem_nil,or_false] at hx;rcases hx with rfl | rfl | rfl | rfl | rfl | rfl | rfl | rfl | rfl | rfl
 ·exact Tz ps h
 ·exact TC ps h
 ·exact TH ps h
 ·exact TL ps h
 ·exact TN ps h
 ·exact TU ps h
 ·exact TX ps h
 ·exact TZ ps h
 ·exact T5 ps h
 ·exact T7 ps h
theorem Gc {ps:List Pt} (g:ps∈Ga):ps.length<=4:=by
 obtain⟨k,s,_,e | ⟨m,_,e⟩⟩:=lC g <;>rw[e] <;>simp
theorem wc {ps:List Pt} (g:ps∈Ga):sE ps:=by
 have h:=(uq ps g).2.2.2.2;refine⟨λp hp=>?_,h.1,h.2⟩;have d:∀x∈Dq,1<=x.2/\x.2<=20/\x.1<=6:=∅
 obtain⟨k,s,hd,e | ⟨m,hm,e⟩⟩:=lC g
 ·rw[e,abu] at hp;rw[hp];exact d _ hd
 ·rw[e,aaX,abu] at hp;rcases hp with rfl | rfl
  ·exact d _ hd
  ·show m<=99;lia
theorem Ky {ps:List Pt} (g:nN ps):¬Nm.bad (zF ps):=λb=>by
 obtain⟨h1,_,_,h4,_⟩:=uq ps g;rcases b with ⟨x,hx,c⟩ | c
 ·have:=h1 x hx;lia
 ·exact h4 c
theorem Gd {p q:Pt} (h:qF p=qF q):p=q:=by
 cases p <;>cases q <;>simp only[qF,Dat.tup.injEq,List.cons.injEq,Dat.str.injEq,Dat.int.injEq,and_true,Int.natCast_inj] at h <;>first | exact absurd h.1 (by ac_rfl) | (obtain⟨_,rfl⟩:=h;rfl) | (obtain⟨_,rfl,rfl⟩:=h;rfl) | (obtain⟨_,rfl,rfl,rfl⟩:=h;rfl)
abbrev NQ:Sp:=λvs H Q _=>eS vs λa=>dg a λa=>∃ps,Kw H a ps/\nN ps/\ps.length<=4/\∀p H',aB H H'->H p=none->Rep H' (k7 (lB ps)) (.ref p)->Q (.ref p) H'
@[inline]abbrev Kz:Str:=aai "0123456789"
theorem Ge (c:Nat):c∈Kz.cps.toList↔48<=c/\c<=57:=by
 have e:Kz.cps.toList=(List.range 10).map (48+·):=∅
 rw[e,abt];exact⟨fun⟨d,hd,h⟩=>by have:=List.mem_range.mp hd;have h:48+d=c:=h;lia,λh=>⟨c - 48,List.mem_range.mpr ⋯,show 48+ (c - 48)=c by lia⟩⟩
abbrev we (k:Int):Str:=aai (toString k)
abbrev dig (l:List Nat):Prop:=1<=l.length/\l.length<=12/\∀c∈l,c∈Kz.cps.toList
instance (l:List Nat):Decidable (dig l):=by unfold dig;infer_instance
theorem dig.all {l:List Nat} (h:dig l):NumText.AllDigits l:=λc hc=>(Ge c).mp (h.2.2 c hc)
abbrev lead (l:List Nat):Prop:=1<l.length/\l.head?=some 48
instance (l:List Nat):Decidable (lead l):=by unfold lead;infer_instance
abbrev canon (l:List Nat):Prop:=dig l/\¬lead l
instance (l:List Nat):Decidable (canon l):=by unfold canon;infer_instance
@[inline]abbrev Bx (l:List Nat):Nat:=NumText.digitsVal l
theorem Ds (m:Nat):(we (m:Int)).cps.toList=(Nat.toDigits 10 m).map Char.toNat:=PySem.W.KIN.signs_num m
theorem ym:∀c:Nat,c<58->(Char.ofNat c).toNat=c:=∅
theorem wg:∀l:List Nat,NumText.AllDigits l->(l.map Char.ofNat).map Char.toNat=l
 | [],_=>rfl
 | c::l,h=>by
  show(Char.ofNat c).toNat::(l.map Char.ofNat).map Char.toNat=c::l;rw[ym c (by have:=h.head;lia),wg l h.tail]
theorem mT {l:List Nat} (h:dig l):(we (Bx l:Nat)).cps.toList=l↔¬lead l:=by
 rw[Ds];constructor
 ·rintro e ⟨h1,h2⟩;have hl:=congrArg List.length e;rw[NumText.toDigits_all l h.all] at hl;cases l with
  | nil=>simp at h1
  | cons c r=>
   simp at h2;subst h2;have d:(48::r).dropWhile (·==48)=r.dropWhile (·==48):=rfl;rw[d] at hl;have dl:=List.IsSuffix.length_le (List.dropWhile_suffix (l:=r) (·==48));rw[aaw] at h1;cases hd:r.dropWhile (·==48) with
   | nil=>rw[hd] at hl;simp at hl;rw[hl] at h1;simp at h1
   | cons a b=>rw[hd] at hl dl;simp at hl dl;lia
 ·intro nl;cases l with
  | nil=>exact absurd h.1 (by simp)
  | cons c r=>
   rw[NumText.toDigits_digitsVal r.length (c::r) rfl h.all,wg _ h.all]
   by_cases z:r.length=0
   ·exact .inl z
   ·refine .inr ⟨c,r,rfl,?_⟩;have:=h.all.head
    by_cases q:c=48
    ·exact absurd ⟨by simp;lia,by rw[q];rfl⟩ nl
    ·lia
theorem Dt:∀l:List Nat,NumText.AllDigits l->Bx l<10^l.length:=by
 have key:∀(l:List Nat) (a k:Nat),NumText.AllDigits l->a<10^k->l.foldl (λacc c=>acc*10+ (c - 48)) a<10^ (k+l.length):=by
  intro l
  induction l with
  | nil=>intro a k _ h;exact h
  | cons c r ih=>
   intro a k h ha;have hc:=h.head;have:=ih (a*10+ (c - 48)) (k+1) h.tail (by rw[Nat.pow_succ];lia);rw[aaw,show k+ (r.length+1)=k+1+r.length by lia];exact this
 intro l h;have:=key l 0 0 h ∅;rw[Nat.zero_add] at this;exact this
theorem dig.lt {l:List Nat} (h:dig l):Bx l<10^12:=aaB (Dt l h.all) (abh ∅ h.2.1)
inductive Dd
 | set (n:Str) (k:Int)
 | plus (n:Str) (k:Int)
 | face (n:Str)
 | move (n m:Str)
abbrev zH:Dd->Dat
 | .set n k=>.tup [.str "set",.str n,.int k]
 | .plus n k=>.tup [.str "plus",.str n,.int k]
 | .face n=>.tup [.str "face",.str n]
 | .move n m=>.tup [.str "move",.str n,.str m]
structure Rw where
 word:Str
 wh:Option (Str×Str×Int)
 ds:List Dd
 to:Str
abbrev KA:Option (Str×Str×Int)->Dat
 | none=>.bZ
 | some (a,b,k)=>.tup [.str a,.str b,.int k]
@[inline]abbrev R4:=Dat×Dat×List Dat×Dat
abbrev p6 (r:R4):Dat:=.tup [r.1,r.2.1,.lst r.2.2.1,r.2.2.2]
abbrev Gf (r:Rw):R4:=(.str r.word,KA r.wh,r.ds.map zH,.str r.to)
@[inline]abbrev Tw:=Int×Int×List Dd×Str
abbrev EO (r:Tw):R4:=(.int r.1,.int r.2.1,r.2.2.1.map zH,.str r.2.2.2)
inductive Wt
 | ask (c:Str) (k:Int) (one other:Str)
 | fin (t b:Int)
 | score (c:Str)
 | pick (sj:Int) (rs:List Rw)
 | eC (di:List Dat) (t b:Int) (rs:List Tw)
abbrev jI:Wt->Dat
 | .ask c k a b=>.tup [.str "ask",.str c,.int k,.str a,.str b]
 | .fin t b=>.tup [.str "end",.tup [.int t,.int b]]
 | .score c=>.tup [.str "score",.str c]
 | .pick w rs=>.tup [.str "pick",.int w,.lst ((rs.map Gf).map p6)]
 | .eC di t b rs=>.tup [.str "throw",.lst di,.tup [.int t,.int b],.lst ((rs.map EO).map p6)]
structure Gm where
 cs:List (Str×Int)
 ps:List (Str×Wt)
abbrev Ru (cs:List (Str×Int)):Dat:=.lst (cs.map λc=>.tup [.str c.1,.int c.2])
abbrev ZT (ps:List (Str×Wt)):Dat:=.lst (ps.map λp=>.tup [.str p.1,jI p.2])
abbrev wj (g:Gm):Dat:=.tup [Ru g.cs,ZT g.ps]
abbrev bG (cs:List (Str×Int)) (n:Str):Nat:=(cs.map (·.1)).idxOf n
abbrev most (cs:List (Str×Int)) (i:Nat):Int:=(cs.map (·.2)).getD i 0
abbrev ur (cs:List (Str×Int)) (ns:List Int) (i:Nat) (k:Int):List Int:=ns.set i (min k (most cs i))
abbrev iI (cs:List (Str×Int)) (v:Int) (ns:List Int):Dd->List Int
 | .set n k=>ur cs ns (bG cs n) k
 | .plus n k=>ur cs ns (bG cs n) (ns.getD (bG cs n) 0+k)
 | .face n=>ur cs ns (bG cs n) (ns.getD (bG cs n) 0+v)
 | .move n m=>(ur cs ns (bG cs m) (ns.getD (bG cs m) 0+ns.getD (bG cs n) 0)).set (bG cs n) 0
abbrev fW (cs:List (Str×Int)):Dd->Prop
 | .set n _=>n∈cs.map (·.1)
 | .plus n _=>n∈cs.map (·.1)
 | .face n=>n∈cs.map (·.1)
 | .move n m=>n∈cs.map (·.1)/\m∈cs.map (·.1)
theorem fM {cs:List (Str×Int)} {n:Str} (h:n∈cs.map (·.1)):bG cs n<cs.length:=by
 have:=List.idxOf_lt_length_of_mem h
 rwa [aaj] at this
theorem iV {cs:List (Str×Int)} {ns:List Int} {i:Nat} {k:Int}:(ur cs ns i k).length=ns.length:=by unfold ur;rw[List.length_set]
theorem Gg {cs:List (Str×Int)} {v:Int} {ns:List Int}:∀d:Dd,(iI cs v ns d).length=ns.length
 | .set _ _=>iV
 | .plus _ _=>iV
 | .face _=>iV
 | .move _ _=>by unfold iI;rw[List.length_set,iV]
abbrev look (ps:List (Str×Wt)) (n:Str):Option Wt:=(ps.find? λp=>decide (p.1=n)).map (·.2)
abbrev dW (g:Gm) (ns:List Int):Nat->Str->Option Str
 | 0,_=>none
 | f+1,nm=>match look g.ps nm with
  | some (.ask c k a b)=>if k<=ns.getD (bG g.cs c) 0 then dW g ns f a else dW g ns f b
  | some _=>some nm
  | none=>none
abbrev km (cs:List (Str×Int)) (ns:List Int):Option (Str×Str×Int)->Bool
 | none=>true
 | some (n,x,k)=>if n∈cs.map (·.1) then (if x=aai "from" then decide (k<=ns.getD (bG cs n) 0) else decide (ns.getD (bG cs n) 0<k)) else false
abbrev lD (cs:List (Str×Int)):Wt->Prop
 | .ask c _ _ _=>c∈cs.map (·.1)
 | .fin _ _=>True
 | .score c=>c∈cs.map (·.1)
 | .pick _ rs=>rs.length<=100/\∀r∈rs,r.ds.length<=100/\∀d∈r.ds,fW cs d
 | .eC di _ _ rs=>di.length<=100/\rs.length<=100/\∀r∈rs,r.2.2.1.length<=100/\∀d∈r.2.2.1,fW cs d
structure GoodG (g:Gm):Prop where
 nc:(g.cs.map (·.1)).Nodup
 np:(g.ps.map (·.1)).Nodup
 lc:g.cs.length<=100
 lp:g.ps.length<=100
 p0:0<g.ps.length
 wt:∀p∈g.ps,lD g.cs p.2
theorem cZ {ps:List (Str×Wt)} {n:Str} {x:Wt} (h:look ps n=some x):(n,x)∈ps:=by
 unfold look at h;obtain⟨p,hp,rfl⟩:=abq.mp h;have e:=List.find?_some hp;have e:p.1=n:=by simpa using e
 subst e;exact aa6 hp
abbrev p7:List (Str×Int)->Nat->List (Key×V)
 | [],_=>[]
 | c::cs,i=>(Sum.inr c.1,V.int (i:Int))::p7 cs (i+1)
theorem zI:∀(cs:List (Str×Int)) (i:Nat),(p7 cs i).length=cs.length
 | [],_=>rfl
 | _::cs,i=>by rw[p7,aaw,zI cs,aaw]
theorem wm (c:Str×Int):∀(cs:List (Str×Int)) (i:Nat),p7 (cs++ [c]) i=p7 cs i++ [(Sum.inr c.1,V.int ((i+cs.length:Nat):Int))]
 | [],i=>rfl
 | d::cs,i=>by
  rw[aaY,p7,wm c cs (i+1),p7,aaw,show i+1+cs.length=i+ (cs.length+1) by lia];rfl
theorem zJ {n:Str}:∀{cs:List (Str×Int)} {i:Nat},n∈cs.map (·.1)->dU (p7 cs i) (Sum.inr n)=some (.int ((i+bG cs n:Nat):Int))
 | [],_,h=>by simp at h
 | c::cs,i,h=>by
  rw[p7]
  by_cases e:c.1=n
  ·rw[gN (by rw[e])];have:bG (c::cs) n=0:=by unfold bG;rw[aak,e,List.idxOf_cons_self]
   rw[this];rfl
  ·rw[eJ (λz=>e (by injection z)),zJ (cs:=cs) (i:=i+1) (by simpa [Ne.symm e] using h)];have:bG (c::cs) n=bG cs n+1:=by unfold bG;rw[aak,List.idxOf_cons,beq_false_of_ne e];rfl
   rw[this,show i+1+bG cs n=i+ (bG cs n+1) by lia]
theorem p8 {n:Str}:∀{cs:List (Str×Int)} {i:Nat},n∉cs.map (·.1)->dU (p7 cs i) (Sum.inr n)=none
 | [],_,_=>rfl
 | c::cs,i,h=>by
  rw[p7,eJ (λz=>h (by injection z with z;simp [z])),p8 (cs:=cs) (i:=i+1) (λz=>h (by rw[aak];exact aap _ z))]
theorem jk {κ:Type} [DecidableEq κ] {kvs:List (κ×V)} {k:κ} {v:V} (h:dU kvs k=none):putK kvs k v=kvs++ [(k,v)]:=by
 unfold putK;rw[if_neg];intro c;obtain⟨x,hx,e⟩:=List.any_eq_true.mp c;unfold dU at h;have:kvs.find? (λkv=>decide (kv.1=k))=none:=by simpa using h
 exact absurd e (by simpa using List.find?_eq_none.mp this x hx)
abbrev qa (H:Hp):List (Str×Wt)->List (Key×V)->Prop
 | [],us=>us=[]
 | p::ps,us=>∃v r,us=(Sum.inr p.1,v)::r/\Rep H (jI p.2) v/\qa H ps r
theorem qa.mono {H H':Hp} (s:aB H H'):∀{ps:List (Str×Wt)} {us:List (Key×V)},qa H ps us->qa H' ps us
 | [],_,h=>h
 | _::_,_,⟨v,r,e,h1,h2⟩=>⟨v,r,e,h1.mono s,h2.mono s⟩
theorem qa.len {H:Hp}:∀{ps:List (Str×Wt)} {us:List (Key×V)},qa H ps us->us.length=ps.length
 | [],_,h=>by rw[qa] at h;subst h;rfl
 | _::_,_,⟨v,r,e,h1,h2⟩=>by rw[e,aaw,h2.len,aaw]
theorem qa.snoc {H:Hp} {p:Str×Wt} {v:V} (k:Rep H (jI p.2) v):∀{ps:List (Str×Wt)} {us:List (Key×V)},qa H ps us->qa H (ps++ [p]) (us++ [(Sum.inr p.1,v)])
 | [],_,h=>by rw[qa] at h;subst h;exact⟨v,[],rfl,k,rfl⟩
 | _::_,_,⟨u,r,e,h1,h2⟩=>by rw[e];exact⟨u,_,rfl,h1,h2.snoc k⟩
theorem qa.val {H:Hp} {n:Str}:∀{ps:List (Str×Wt)} {us:List (Key×V)},qa H ps us->(∃x v,look ps n=some x/\dU us (Sum.inr n)=some v/\Rep H (jI x) v)\/(look ps n=none/\dU us (Sum.inr n)=none)
 | [],_,h=>by rw[qa] at h;subst h;exact .inr ⟨rfl,rfl⟩
 | p::ps,_,⟨u,r,e,h1,h2⟩=>by
  subst e
  by_cases c:p.1=n
  ·exact .inl ⟨p.2,u,by unfold look;rw[List.find?_cons_of_pos (by simpa using c)];rfl,gN (by rw[c]),h1⟩
  ·rcases h2.val (n:=n) with ⟨x,v,a,b,d⟩ | ⟨a,b⟩
   ·exact .inl ⟨x,v,by unfold look at *;rw[List.find?_cons_of_neg (by simpa using c)];exact a,by rw[eJ (λz=>c (by injection z))];exact b,d⟩
   ·exact .inr ⟨by unfold look at *;rw[List.find?_cons_of_neg (by simpa using c)];exact a,by rw[eJ (λz=>c (by injection z))];exact b⟩
theorem Be {ps:List (Str×Wt)} {n:Str} (h:n∉ps.map (·.1)):look ps n=none:=by
 unfold look;rw[Option.map_eq_none_iff,List.find?_eq_none];intro p hp c;exact h (abt.mpr ⟨p,hp,by simpa using c⟩)
theorem c5 {cs:List (Str×Int)} {v:Int}:∀(ds:List Dd) (ns:List Int),(ds.foldl (iI cs v) ns).length=ns.length
 | [],_=>rfl
 | d::ds,ns=>by rw[List.foldl_cons,c5 ds,Gg]
abbrev d8 (cs:List (Str×Int)) (ns:List Int):Wt->List Rw
 | .pick _ rs=>rs.filter λr=>km cs ns r.wh
 | _=>[]
abbrev yn (cs:List (Str×Int)) (ns:List Int):Wt->Option (Int×Int)
 | .fin t b=>some (t,b)
 | .score c=>some (ns.getD (bG cs c) 0,1)
 | _=>none
theorem aP {a b:TS} {D:Ends} {σ:L2.St} {H:Hp} (C:(L2.St->Hp->Prop)->Prop) (ha:∀N:L2.St->Hp->Prop,C N->a {D with nx:=N} σ H) (hb:C (b D)):tSeq a b D σ H:=ha _ hb
abbrev yo (q:Addr) (H:Hp) (c:Addr) (g:Gm):Prop:=∃dx sp mo wh tb us ft,H c=some (.ins q dx [(aai "spots",.ref sp),(aai "mosts",.ref mo),(aai "first",.str ft),(aai "whats",.ref wh),(aai "tables",.ref tb)])/\
 H sp=some (.dK (p7 g.cs 0))/\H mo=some (.lst ((g.cs.map (·.2)).map V.int))/\H wh=some (.dK us)/\qa H g.ps us/\(g.ps.map (·.1)).head?=some ft
theorem yo.mono {q:Addr} {H H':Hp} {c:Addr} {g:Gm} (s:aB H H'):yo q H c g->yo q H' c g:=λhh=>by
 obtain⟨dx,sp,mo,wh,tb,us,ft,h1,h2,h3,h4,h5,h6⟩:=hh;exact⟨dx,sp,mo,wh,tb,us,ft,s _ _ h1,s _ _ h2,s _ _ h3,s _ _ h4,h5.mono s,h6⟩
abbrev mj (H:Hp) (v:V) (nm:Str) (ns:List Int):Prop:=∃a l,v=.ref a/\H a=some (.tup [.str nm,.ref l])/\H l=some (.lst (ns.map V.int))
theorem mj.mono {H H':Hp} {v:V} {nm:Str} {ns:List Int} (s:aB H H'):mj H v nm ns->mj H' v nm ns:=fun⟨a,l,e,h1,h2⟩=>⟨a,l,e,s _ _ h1,s _ _ h2⟩
abbrev wq (q:Addr):Sp:=λvs H Q _=>∃c l i k,vs=[.ref c,.ref l,.int ((i:Nat):Int),.int k]/\∃g,yo q (df H l) c g/\∃ns,H l=some (.lst (List.map V.int ns))/\i<g.cs.length/\ns.length=g.cs.length/\Q .bZ (upd H l (.lst ((ur g.cs ns i k).map V.int)))
abbrev NR (q:Addr):Sp:=λvs H Q _=>jr vs λc l dv v=>dg c λc=>dg l λl=>fR v λv=>∃g,yo q (df H l) c g/\∃ns,H l=some (.lst (List.map V.int ns))/\∃d,Rep (df H l) (zH d) dv/\fW g.cs d/\ns.length=g.cs.length/\Q .bZ (upd H l (.lst ((iI g.cs v ns d).map V.int)))
abbrev Du (q:Addr):Sp:=λvs H Q _=>iL vs λc nm l=>dg c λc=>qB nm λnm=>dg l λl=>∃g,yo q H c g/\GoodG g/\∃ns,H l=some (.lst (List.map V.int ns))/\ns.length=g.cs.length/\∃f fF,dW g ns f nm=some fF/\∀a H',aB H H'->H a=none->H' a=some (.tup [.str fF,.ref l])->Q (.ref a) H'
abbrev HY (q:Addr):Sp:=λvs H Q _=>eS vs λc=>dg c λc=>∃g,yo q H c g/\GoodG g/\∃f ft,(g.ps.map (·.1)).head?=some ft/\∃fF,dW g (aby g.cs.length 0) f ft=some fF/\∀a l H',aB H H'->H a=none->H l=none->H' a=some (.tup [.str fF,.ref l])->H' l=some (.lst ((aby g.cs.length (0:Int)).map V.int))->Q (.ref a) H'
abbrev lE (q:Addr):Sp:=λvs H Q _=>dj vs λc v=>dg c λc=>∃H0,aB H0 H/\∃g,yo q H0 c g/\∃nm ns,mj H v nm ns/\∃x,look g.ps nm=some x/\∀u,Rep H0 (jI x) u->Q u H
abbrev HZ (q:Addr):Sp:=λvs H Q _=>iL vs λc v l=>dg c λc=>dg l λl=>∃g,yo q H c g/\∃ns wh,Rep H (KA wh) v/\H l=some (.lst (List.map V.int ns))/\ns.length=g.cs.length/\Q (.bl (km g.cs ns wh)) H
abbrev Dv (q:Addr):Sp:=λvs H Q _=>jr vs λc sv rv v=>dg c λc=>fR v λv=>∃g,yo q H c g/\GoodG g/\∃nm ns,mj H sv nm ns/\∃a b ds to,Rep H (p6 (a,b,List.map zH ds,.str to)) rv/\(∀d∈ds,fW g.cs d)/\ds.length<=100/\ns.length=g.cs.length/\∃f fF,dW g (ds.foldl (iI g.cs v) ns) f to=some fF/\∀p l H',aB H H'->H p=none->H l=none->H' p=some (.tup [.str fF,.ref l])->H' l=some (.lst ((ds.foldl (iI g.cs v) ns).map V.int))->Q (.ref p) H'
theorem jn {H:Hp} {ds:List Dat} {v:V}:Rep H (.tup ds) v↔∃p vs,v=.ref p/\H p=some (.tup vs)/\bg H ds vs:=by rw[Rep]
theorem aU {H:Hp} {d:Dat} {ds:List Dat} {vs:List V}:bg H (d::ds) vs↔∃v r,vs=v::r/\Rep H d v/\bg H ds r:=by rw[bg]
theorem bA {H:Hp} {vs:List V}:bg H [] vs↔vs=[]:=by rw[bg]
theorem aT {H:Hp} {x:Str} {v:V}:Rep H (.str x) v↔v=.str x:=by rw[Rep]
theorem bD {H:Hp} {x:Int} {v:V}:Rep H (.int x) v↔v=.int x:=by rw[Rep]
theorem bI {H:Hp} {a b:Dat} {v:V}:Rep H (.tup [a,b]) v↔∃p x y,v=.ref p/\H p=some (.tup [x,y])/\Rep H a x/\Rep H b y:=by
 rw[jn];constructor
 ·rintro⟨p,vs,e,h,r⟩;obtain⟨x,r1,rfl,hx,r⟩:=aU.mp r;obtain⟨y,r2,rfl,hy,r⟩:=aU.mp r;rw[bA.mp r] at h;exact⟨p,x,y,e,h,hx,hy⟩
 ·rintro⟨p,x,y,e,h,hx,hy⟩;exact⟨p,_,e,h,aU.mpr ⟨x,_,rfl,hx,aU.mpr ⟨y,_,rfl,hy,bA.mpr rfl⟩⟩⟩
theorem eE {H:Hp} {a b c:Dat} {v:V}:Rep H (.tup [a,b,c]) v↔∃p x y z,v=.ref p/\H p=some (.tup [x,y,z])/\Rep H a x/\Rep H b y/\Rep H c z:=by
 rw[jn];constructor
 ·rintro⟨p,vs,e,h,r⟩;obtain⟨x,r1,rfl,hx,r⟩:=aU.mp r;obtain⟨y,r2,rfl,hy,r⟩:=aU.mp r;obtain⟨z,r3,rfl,hz,r⟩:=aU.mp r;rw[bA.mp r] at h;exact⟨p,x,y,z,e,h,hx,hy,hz⟩
 ·rintro⟨p,x,y,z,e,h,hx,hy,hz⟩;exact⟨p,_,e,h,aU.mpr ⟨x,_,rfl,hx,aU.mpr ⟨y,_,rfl,hy,aU.mpr ⟨z,_,rfl,hz,bA.mpr rfl⟩⟩⟩⟩
theorem dF {H:Hp} {a b c d:Dat} {v:V}:Rep H (.tup [a,b,c,d]) v↔∃p x y z u,v=.ref p/\H p=some (.tup [x,y,z,u])/\Rep H a x/\Rep H b y/\Rep H c z/\Rep H d u:=by
 rw[jn];constructor
 ·rintro⟨p,vs,e,h,r⟩;obtain⟨x,r1,rfl,hx,r⟩:=aU.mp r;obtain⟨y,r2,rfl,hy,r⟩:=aU.mp r;obtain⟨z,r3,rfl,hz,r⟩:=aU.mp r;obtain⟨u,r4,rfl,hu,r⟩:=aU.mp r;rw[bA.mp r] at h;exact⟨p,x,y,z,u,e,h,hx,hy,hz,hu⟩
 ·rintro⟨p,x,y,z,u,e,h,hx,hy,hz,hu⟩;exact⟨p,_,e,h,aU.mpr ⟨x,_,rfl,hx,aU.mpr ⟨y,_,rfl,hy,aU.mpr ⟨z,_,rfl,hz,aU.mpr ⟨u,_,rfl,hu,bA.mpr rfl⟩⟩⟩⟩⟩
theorem uu {H:Hp} {a b c d f:Dat} {v:V}:Rep H (.tup [a,b,c,d,f]) v↔∃p x y z u t,v=.ref p/\H p=some (.tup [x,y,z,u,t])/\Rep H a x/\Rep H b y/\Rep H c z/\Rep H d u/\Rep H f t:=by
 rw[jn];constructor
 ·rintro⟨p,vs,e,h,r⟩;obtain⟨x,r1,rfl,hx,r⟩:=aU.mp r;obtain⟨y,r2,rfl,hy,r⟩:=aU.mp r;obtain⟨z,r3,rfl,hz,r⟩:=aU.mp r;obtain⟨u,r4,rfl,hu,r⟩:=aU.mp r;obtain⟨t,r5,rfl,ht,r⟩:=aU.mp r;rw[bA.mp r] at h;exact⟨p,x,y,z,u,t,e,h,hx,hy,hz,hu,ht⟩
 ·rintro⟨p,x,y,z,u,t,e,h,hx,hy,hz,hu,ht⟩;exact⟨p,_,e,h,aU.mpr ⟨x,_,rfl,hx,aU.mpr ⟨y,_,rfl,hy,aU.mpr ⟨z,_,rfl,hz,aU.mpr ⟨u,_,rfl,hu,aU.mpr ⟨t,_,rfl,ht,bA.mpr rfl⟩⟩⟩⟩⟩⟩
theorem bT {k k':Str} {v:V} {l:List (Str×V)} (h:(k==k')=false):List.lookup k ((k',v)::l)=List.lookup k l:=by rw[aaI,h]
theorem jJ {a b c d e:V}:List.lookup (aai "spots") [(aai "spots",a),(aai "mosts",b),(aai "first",c),(aai "whats",d),(aai "tables",e)]=some a:=aaW
theorem Ia {a b c d e:V}:List.lookup (aai "mosts") [(aai "spots",a),(aai "mosts",b),(aai "first",c),(aai "whats",d),(aai "tables",e)]=some b:=by
 rw[bT ∅];exact aaW
theorem NS {a b c d e:V}:List.lookup (aai "first") [(aai "spots",a),(aai "mosts",b),(aai "first",c),(aai "whats",d),(aai "tables",e)]=some c:=by
 rw[bT ∅,bT ∅];exact aaW
theorem zL {a b c d e:V}:List.lookup (aai "whats") [(aai "spots",a),(aai "mosts",b),(aai "first",c),(aai "whats",d),(aai "tables",e)]=some d:=by
 rw[bT ∅,bT ∅,bT ∅];exact aaW
theorem d9 {a b c d e:V} {k:Str} (h1:(k==aai "spots")=false) (h2:(k==aai "mosts")=false) (h3:(k==aai "first")=false) (h4:(k==aai "whats")=false) (h5:(k==aai "tables")=false):
  List.lookup k [(aai "spots",a),(aai "mosts",b),(aai "first",c),(aai "whats",d),(aai "tables",e)]=none:=by
 rw[bT h1,bT h2,bT h3,bT h4,bT h5];rfl
theorem zM {n i:Nat} (h:i<n):Ff n (i:Int)=some i:=by
 unfold Ff;rw[if_pos ⋯,if_pos ⋯,aaF]
theorem e9 {ns:List Int} {i:Nat} (h:i<ns.length):mv (List.map V.int ns) (i:Int)=some (.int (ns.getD i 0)):=by
 have:=vx (ns:=ns) (i:=(i:Int)) ⋯ ⋯
 rwa [aaF] at this
theorem Gh {cs:List (Str×Int)} {i:Nat} (h:i<cs.length):mv (List.map V.int (cs.map (·.2))) (i:Int)=some (.int (most cs i)):=e9 (by rw[aaj];exact h)
theorem ip {H:Hp} {sp:Addr} {cs:List (Str×Int)} {n:Str} (h:H sp=some (.dK (p7 cs 0))) (hn:n∈cs.map (·.1)):jt H sp (.str n) (some (.int ((bG cs n:Nat):Int))):=
 .inl ⟨_,Sum.inr n,.inl h,rfl,by rw[zJ hn,Nat.zero_add]⟩
theorem wu {H:Hp} {p:Addr} {o:HO}:df (upd H p o) p=df H p:=by
 funext a;unfold df
 by_cases c:a=p
 ·rw[if_pos c,if_pos c]
 ·rw[if_neg c,if_neg c,aD c]
theorem zN {c:TT} {tb:TS} {D:Ends} {σ:L2.St} {H:Hp} (Pv:Nat->L2.St->Hp->Prop) {m:Nat} (h0:Pv m σ H)
  (hs:∀m σ H,Pv m σ H->∃b:Bool,(∀Q:Bool->Hp->Prop,Q b H->c σ H Q)/\if b=true then tb {D with nx:=λσ' H'=>∃m',m'<m/\Pv m' σ' H',ct:=λσ' H'=>∃m',m'<m/\Pv m' σ' H',bk:=D.nx} σ H else D.nx σ H):xr c tb D σ H:=by
 refine⟨Pv,⟨m,h0⟩,?_⟩;intro m σ H p;obtain⟨b,k,q⟩:=hs m σ H p;refine k _ ?_;cases b with
 | true=>exact⟨_,λσ' H' h=>h,q⟩
 | false=>exact q
theorem Dw {H:Hp} {p:Addr} (h:H p=none):df H p=H:=by
 funext a;unfold df
 by_cases c:a=p
 ·rw[if_pos c,c,h]
 ·rw[if_neg c]
theorem qb {H H':Hp} {p:Addr} (h:df H' p=H):aB H H':=by rw[<-h];exact dr
theorem Dx (n:Nat):(aby n [V.int 0]).flatten=List.map V.int (aby n 0):=by
 induction n with
 | zero=>rfl
 | succ n ih=>rw[abg,List.flatten_cons,ih,abg];rfl
abbrev Dy (q:Addr):Sp:=λvs H Q _=>dj vs λc v=>dg c λc=>∃H0,aB H0 H/\∃g,yo q H0 c g/\GoodG g/\∃nm ns,mj H v nm ns/\ns.length=g.cs.length/\∃x,look g.ps nm=some x/\∀p xs H',aB H H'->H p=none->H' p=some (.lst xs)->bg H0 (((d8 g.cs ns x).map Gf).map p6) xs->Q (.ref p) H'
abbrev Ib (q:Addr):Sp:=λvs H Q _=>dj vs λc v=>dg c λc=>∃g,yo q H c g/\GoodG g/\∃nm ns,mj H v nm ns/\ns.length=g.cs.length/\∃x,look g.ps nm=some x/\∀p H',aB H H'->H p=none->Rep H' (.lst ((d8 g.cs ns x).map λr=>Dat.str r.word)) (.ref p)->Q (.ref p) H'
abbrev Ic (q:Addr):Sp:=λvs H Q _=>dj vs λc v=>dg c λc=>∃g,yo q H c g/\GoodG g/\∃nm ns,mj H v nm ns/\ns.length=g.cs.length/\∃x,look g.ps nm=some x/\∃t b,yn g.cs ns x=some (t,b)/\∀u H',aB H H'->Rep H' (.tup [.int t,.int b]) u->Q u H'
theorem iq {H:Hp} {p:Rw->Bool}:∀{rs:List Rw} {xs:List V},bg H ((rs.map Gf).map p6) xs->bg H (((rs.filter p).map Gf).map p6) ((xs.zip rs).filterMap λx=>if p x.2=true then some x.1 else none)
 | [],xs,h=>by rw[List.zip_nil_right];exact bA.mpr rfl
 | r::rs,xs,h=>by
  obtain⟨v,ys,rfl,h1,h2⟩:=aU.mp h;have ih:=iq (p:=p) h2;rw[List.zip_cons_cons,aaS]
  by_cases c:p r=true
  ·simp only[c,if_true];rw[List.filter_cons_of_pos c,aak,aak];exact aU.mpr ⟨v,_,rfl,h1,ih⟩
  ·simp only[c];rw[List.filter_cons_of_neg c];exact ih
theorem sF {H:Hp}:∀{rs:List Rw} {xs:List V},bg H ((rs.map Gf).map p6) xs->bg H (rs.map λr=>Dat.str r.word) (rs.map λr=>V.str r.word)
 | [],xs,h=>bA.mpr rfl
 | r::rs,xs,h=>by
  obtain⟨v,ys,rfl,h1,h2⟩:=aU.mp h;exact aU.mpr ⟨_,_,rfl,aT.mpr rfl,sF h2⟩
theorem lF {H:Hp} {rs:List Rw} {xs:List V} {i:Nat} {x:V} (h:bg H ((rs.map Gf).map p6) xs) (e:xs[i]?=some x):∃r p a b c d,rs[i]?=some r/\x=.ref p/\H p=some (.tup [.str r.word,b,c,d])/\Rep H (KA r.wh) b/\a=r:=by
 obtain⟨dd,ed,rd⟩:=h.get e;rw[aal,aal] at ed;obtain⟨r4,e4,rfl⟩:=abq.mp ed;obtain⟨r,er,rfl⟩:=abq.mp e4;obtain⟨p,x1,x2,x3,x4,rfl,hp,r1,r2,r3,r4⟩:=dF.mp (show Rep H (.tup _) x from rd);have r1:x1=.str r.word:=aT.mp r1;subst r1;exact⟨r,p,r,x2,x3,x4,er,rfl,hp,r2,rfl⟩
theorem dJ {tc:TT} {a b:TS} {D:Ends} {σ:L2.St} {H:Hp} (h:∀Y N:Hp->Prop,Y H->tc σ H λv H'=>if v=true then Y H' else N H') (k:a D σ H):tIfS tc a b D σ H:=xX (λH'=>H'=H) (λ_=>False) (λ_ e=>e▸k) (λ_ f=>f.elim) λY N hY _=>h Y N (hY _ rfl)
theorem cG {tc:TT} {a b:TS} {D:Ends} {σ:L2.St} {H:Hp} (h:∀Y N:Hp->Prop,N H->tc σ H λv H'=>if v=true then Y H' else N H') (k:b D σ H):tIfS tc a b D σ H:=xX (λ_=>False) (λH'=>H'=H) (λ_ f=>f.elim) (λ_ e=>e▸k) λY N _ hN=>h Y N (hN _ rfl)
@[inline]abbrev dR:=Str×List Int
abbrev T8 (ss:List dR) (s:dR):List dR:=if s∈ss then ss else ss++ [s]
noncomputable abbrev T9 (H:Hp) (l n:Addr):Hp:=df (df H l) n
abbrev Kp (H H':Hp):Prop:=∀a,(∀vs,H a=some (.tup vs)->H' a=some (.tup vs))/\∀vs,H a=some (.lst vs)->H' a=some (.lst vs)
theorem Kp.of {H H':Hp} (s:aB H H'):Kp H H':=λa=>⟨λ_=>s _ _,λ_=>s _ _⟩
theorem Kp.upd {H:Hp} {p:Addr} {o:HO} (h1:∀vs,H p≠some (.tup vs)) (h2:∀vs,H p≠some (.lst vs)):Kp H (upd H p o):=λa=>by
 by_cases c:a=p
 ·subst c;exact⟨λvs e=>absurd e (h1 vs),λvs e=>absurd e (h2 vs)⟩
 ·rw[aD c];exact⟨λ_ h=>h,λ_ h=>h⟩
theorem Kp.trans {H H' H2:Hp} (a:Kp H H') (b:Kp H' H2):Kp H H2:=λx=>⟨λ_ h=>(b x).1 _ ((a x).1 _ h),λ_ h=>(b x).2 _ ((a x).2 _ h)⟩
mutual
theorem Kp.rep {H H':Hp} (s:Kp H H'):∀{d:Dat} {v:V},Rep H d v->Rep H' d v
 | .bZ,_,h=>by rw[Rep] at *;exact h
 | .bl _,_,h=>by rw[Rep] at *;exact h
 | .int _,_,h=>by rw[Rep] at *;exact h
 | .str _,_,h=>by rw[Rep] at *;exact h
 | .tup ds,_,h=>by
  rw[Rep] at *;obtain⟨p,vs,e,hp,r⟩:=h;exact⟨p,vs,e,(s p).1 _ hp,s.KC r⟩
 | .lst ds,_,h=>by
  rw[Rep] at *;obtain⟨p,vs,e,hp,r⟩:=h;exact⟨p,vs,e,(s p).2 _ hp,s.KC r⟩
theorem Kp.KC {H H':Hp} (s:Kp H H'):∀{ds:List Dat} {vs:List V},bg H ds vs->bg H' ds vs
 | [],_,h=>by rw[bg] at *;exact h
 | d::ds,_,h=>by
  rw[bg] at *;obtain⟨v,r,e,h1,h2⟩:=h;exact⟨v,r,e,s.rep h1,s.KC h2⟩
end
theorem Kp.Ua {H H':Hp} (s:Kp H H'):∀{ps:List (Str×Wt)} {us:List (Key×V)},qa H ps us->qa H' ps us
 | [],_,h=>h
 | _::_,_,⟨v,r,e,h1,h2⟩=>⟨v,r,e,s.rep h1,s.Ua h2⟩
theorem qa.none {H:Hp} {ps:List (Str×Wt)} {us:List (Key×V)} {n:Str} (h:qa H ps us) (nn:n∉ps.map (·.1)):dU us (Sum.inr n)=none:=by
 rcases h.val (n:=n) with ⟨x,v,a,_,_⟩ | ⟨_,b⟩
 ·rw[Be nn] at a;cases a
 ·exact b
theorem wy {α:Type} {l:List α} (h:l.Nodup) {i:Nat} {x:α} (e:l[i]?=some x):x∉l.take i:=by
 intro m;obtain⟨j,hj,ej⟩:=List.getElem_of_mem m;rw[aaD] at hj;rw[List.getElem_take] at ej;obtain⟨hi,ei⟩:=abr.mp e;have:=(List.getElem_inj h).mp (ej.trans ei.symm);lia
abbrev cP (ss ts:List dR):List dR:=ts.foldl T8 ss
theorem Gi {H:Hp} {p:Pt} {v:V} (h:Rep H (qF p) v):∃q,v=.ref q/\H q=some (.tup (rD p)):=by
 cases p with
 | num n=>obtain⟨q,x,y,e,hq,a,b⟩:=bI.mp (show Rep H (.tup _) v from h);rw[aT.mp a,bD.mp b] at hq;exact⟨q,e,hq⟩
 | cU n s=>obtain⟨q,x,y,z,e,hq,a,b,c⟩:=eE.mp (show Rep H (.tup _) v from h);rw[aT.mp a,bD.mp b,bD.mp c] at hq;exact⟨q,e,hq⟩
abbrev Bf (q:Addr) (H:Hp) (c:Addr) (g:Gm) (tb:Addr):Prop:=∃dx sp mo wh us ft,H c=some (.ins q dx [(aai "spots",.ref sp),(aai "mosts",.ref mo),(aai "first",.str ft),(aai "whats",.ref wh),(aai "tables",.ref tb)])/\
 H sp=some (.dK (p7 g.cs 0))/\H mo=some (.lst ((g.cs.map (·.2)).map V.int))/\H wh=some (.dK us)/\qa H g.ps us/\(g.ps.map (·.1)).head?=some ft
theorem Bf.co {q:Addr} {H:Hp} {c:Addr} {g:Gm} {tb:Addr}:Bf q H c g tb->yo q H c g:=λhh=>by
 obtain⟨dx,sp,mo,wh,us,ft,h1,h2,h3,h4,h5,h6⟩:=hh;exact⟨dx,sp,mo,wh,tb,us,ft,h1,h2,h3,h4,h5,h6⟩
theorem Bf.mono {q:Addr} {H H':Hp} {c:Addr} {g:Gm} {tb:Addr} (s:aB H H'):Bf q H c g tb->Bf q H' c g tb:=λhh=>by
 obtain⟨dx,sp,mo,wh,us,ft,h1,h2,h3,h4,h5,h6⟩:=hh;exact⟨dx,sp,mo,wh,us,ft,s _ _ h1,s _ _ h2,s _ _ h3,s _ _ h4,h5.mono s,h6⟩
theorem Kp.df {H:Hp} {tb:Addr} {kvs:List (Key×V)} (h:H tb=some (.dK kvs)):Kp H (df H tb):=λa=>by
 by_cases c:a=tb
 ·subst c;rw[h];exact⟨(λ_ e=>by cases e),(λ_ e=>by cases e)⟩
 ·rw[cQ c];exact⟨λ_ e=>e,λ_ e=>e⟩
noncomputable abbrev ZU (H:Hp) (l n tb:Addr):Hp:=df (T9 H l n) tb
abbrev wA (rs:List Tw) (v:Int):Option Tw:=rs.find? λr=>decide (r.1<=v) && decide (v<=r.2.1)
theorem wB {kvs:List (Key×V)} {k:Key} {v:V} (h:dU kvs k=none) (k':Key):dU (kvs++ [(k,v)]) k'=if k=k' then some v else dU kvs k':=by
 unfold dU at *;rw[List.find?_append]
 by_cases c:k=k'
 ·subst c;rw[if_pos rfl];have:kvs.find? (λkv=>decide (kv.1=k))=none:=by simpa using h
  rw[this];simp
 ·rw[if_neg c];have:List.find? (λkv:Key×V=>decide (kv.1=k')) [(k,v)]=none:=by simp [c]
  rw[this];simp
theorem gz:∀{ps qs:List Pt},ps.map qF=qs.map qF->ps=qs
 | [],[],_=>rfl
 | [],_::_,h=>by cases h
 | _::_,[],h=>by cases h
 | p::ps,q::qs,h=>by
  rw[aak,aak] at h
  injection h with h1 h2
  rw[Gd h1,gz h2]
theorem zO {H:Hp} {v:V} {ps:List Pt} (h:Rep H (.lst (ps.map qF)) v):∃a,v=.ref a/\Kw H a ps:=by
 obtain⟨a,xs,e,ha,r⟩:=ba.mp h;refine⟨a,e,xs,ha,?_⟩;have:∀{ps:List Pt} {xs:List V},bg H (ps.map qF) xs->Al (λp v=>∃q,v=.ref q/\H q=some (.tup (rD p))) ps xs:=by
  intro ps
  induction ps with
  | nil=>intro xs h;rw[bA.mp h];trivial
  | cons p ps ih=>
   intro xs h;obtain⟨v,r,rfl,h1,h2⟩:=aU.mp h;exact⟨Gi h1,ih h2⟩
 exact this r
theorem Gj {H X:Hp} {rows:List (Int×Int×Int)} {p:Addr} (h:Rep H (k7 rows) (.ref p)) (kp:∀o,H p=some o->X p=some o) (kt:∀a vs,H a=some (.tup vs)->X a=some (.tup vs)):Rep X (k7 rows) (.ref p):=by
 obtain⟨a,xs,e,ha,r⟩:=ba.mp h;cases e;refine ba.mpr ⟨_,xs,rfl,kp _ ha,?_⟩;refine bg.of r.length λi d v ed ev=>?_;obtain⟨d',NT,rd⟩:=r.get ev;rw[ed] at NT;cases NT;rw[aal] at ed;obtain⟨x,_,rfl⟩:=abq.mp ed;obtain⟨p1,q1,rfl,h1,h2⟩:=oG.mp rd;exact oG.mpr ⟨p1,q1,rfl,kt _ _ h1,kt _ _ h2⟩
abbrev Ig (q:Addr):Sp:=λvs H Q _=>dj vs λc sv=>dg c λc=>∃g nm ns tb,Bf q (df H tb) c g tb/\mj H sv nm ns/\∃kvs,H tb=some (.dK kvs)/\kvs.length<=1000/\∃ps t b rs,look g.ps nm=some (.eC (ps.map qF) t b rs)/\nN ps/\ps.length<=4/\(∀v,dU kvs (Sum.inr nm)=some v->Q v H)/\(dU kvs (Sum.inr nm)=none->∀p H1,aB H H1->H p=none->Rep H1 (k7 (lB ps)) (.ref p)->Q (.ref p) (upd H1 tb (.dK (kvs++ [(Sum.inr nm,.ref p)]))))
abbrev NU (q:Addr):Sp:=λvs H Q _=>iL vs λc sv v=>dg c λc=>fR v λv=>∃g,yo q H c g/\GoodG g/\∃nm ns,mj H sv nm ns/\ns.length=g.cs.length/\∃di t b rs,look g.ps nm=some (.eC di t b rs)/\∃r,wA rs v=some r/\∃f fF,dW g (r.2.2.1.foldl (iI g.cs v) ns) f r.2.2.2=some fF/\∀p l H',aB H H'->H p=none->H l=none->H' p=some (.tup [.str fF,.ref l])->H' l=some (.lst ((r.2.2.1.foldl (iI g.cs v) ns).map V.int))->Q (.ref p) H'
theorem mU {H:Hp} {p:Tw->Bool}:∀{rs:List Tw} {xs:List V},bg H ((rs.map EO).map p6) xs->bg H (((rs.filter p).map EO).map p6) ((xs.zip rs).filterMap λx=>if p x.2=true then some x.1 else none)
 | [],xs,h=>by rw[List.zip_nil_right];exact bA.mpr rfl
 | r::rs,xs,h=>by
  obtain⟨v,ys,rfl,h1,h2⟩:=aU.mp h;have ih:=mU (p:=p) h2;rw[List.zip_cons_cons,aaS]
  by_cases c:p r=true
  ·simp only[c,if_true];rw[List.filter_cons_of_pos c,aak,aak];exact aU.mpr ⟨v,_,rfl,h1,ih⟩
  ·simp only[c];rw[List.filter_cons_of_neg c];exact ih
abbrev nw (H X H':Hp):Hp:=λa=>match H a with
 | none=>H' a
 | some _=>X a
theorem cf {H X H':Hp} {a:Addr} (h:H a=none):nw H X H' a=H' a:=by unfold nw;rw[h]
theorem jK {H X H':Hp} (sx:aB X H):aB X (nw H X H'):=λa o h=>by unfold nw;rw[sx _ _ h];exact h
theorem KD {H X H':Hp} (sx:aB X H) (s:aB H H'):aB (nw H X H') H':=λa o h=>by
 unfold nw at h
 split at h
 ·exact h
 ·exact s _ _ (sx _ _ h)
theorem lG {H X H' nO:Hp} (s:aB H' nO):aB (nw H X H') (nw H X nO):=λa o h=>by
 cases c:H a with
 | none=>rw[cf c] at h ⊢;exact s _ _ h
 | some x=>unfold nw at h ⊢;rw[c] at h ⊢;exact h
theorem NV {H X H' nO:Hp} (s1:aB H H') (s2:aB H' nO):nw H' (nw H X H') nO=nw H X nO:=by
 funext a;unfold nw;cases h:H a with
 | none=>
  dsimp only;cases h':H' a with
  | none=>rfl
  | some o=>dsimp only;exact(s2 _ _ h').symm
 | some o=>
  rw[s1 _ _ h]
abbrev sG:Sp:=λvs H Q _=>eS vs λv=>∃(X:Hp),aB X H/\∃(rs:List R4),Rep X (.lst (rs.map p6)) v/\rs.length<=100/\(∀r∈rs,r.2.2.1.length<=100)/\∀p H',aB H H'->Rep (nw H X H') (.lst (rs.map p6)) (.ref p)->Q (.ref p) H'
abbrev Ii:Sp:=λvs H Q _=>eS vs λv=>∃(X:Hp),aB X H/\∃(x:Wt),Rep X (jI x) v/\∃(cs:List (Str×Int)),lD cs x/\∀u H',aB H H'->Rep (nw H X H') (jI x) u->Q u H'
abbrev zP (K:abk):Sp:=λvs H Q _=>∃(a:Addr) (ns:List Int),vs=[.ref a]/\bw K H a (ns.map V.int)/\ns.length<=63/\∀H',Q (.bl true) H'
abbrev dH (P:Program) (w:World) (base:Heap) (K:abk) (mg:Str->Option Value) (aw aG aH aA aM aI aE ah aF:Addr):Prop:=Txt K mg aw aG aH aA aM aI aE ah aF
section
variable {P : Program} {w : World} {K : abk} {mg : Str -> Option Value} {base : Heap}
variable {aw aG aH aA aM aI aE ah aF : Addr}
set_option hygiene false in
local macro_rules | `(0 ||| 0) => `(dH P w base K mg aw aG aH aA aM aI aE ah aF)
set_option hygiene false in
local macro_rules | `($a <<< $b) => `(eO P w K mg base (cu P w) $a $b)
local macro_rules | `($x⁻¹) => `(some (V.int $x))
theorem gA:aV ["one","other","rest"] ["one","other"] (au (top 13)):=.mk
theorem NW (T:0|||0):(1<<<"common_divisor") ["one","other"] NC:=by
 refine T.mL.dE (λ_ _ _ _ _ _=>dQ λ_ _=>rfl) λf fd F=>F.d4 gA (λvs H Q E h=>?_) (λbR A outer s H vs Q E hr h=>?_)
 ·obtain⟨_,_,rfl,_⟩:=qU h;rfl
 ·symm;obtain⟨a,b,rfl,k⟩:=qU h;nofun;clear G_;have nd:=gA.nd;refine⟨_,(ag (aK (i:=0) (aY pj (by rfl) T.z_abs rfl (aa (pv 0) af)))
  (ag (aK (i:=1) (aY pj (by rfl) T.z_abs rfl (aa (pv 1) af)))
  (ag (kI PassesOwn.never (aL pe (pv 1) ae (aR _)) (ag (aK (i:=2) (aJ dm (pv 0) (pv 1)))
  (ag (aK (i:=0) (pv 1))
  (aq (aK (i:=1) (pv 2))))))
  (aq (aQ (pv 0)))))),?_⟩
  refine(?_:let bO:TS:=_;let bP:TS:=_;let bQ:TS:=_;let cO:TS:=_;tSeq bO (tSeq bP (tSeq bQ cO)) _ _ _);intro bO bP bQ cO;dsimp?[];refine ve (λσ H1=>H1=H/\∃(x y:Int) (z:Option V),σ=[x⁻¹,y⁻¹,z]/\0<=x/\0<=y/\Nm.g x y=Nm.g a b) (λσ _=>match σ with | [_,y⁻¹,_]=>y.toNat | _=>0) ?_ ?_ ?_
  ·refine⟨rfl,_,_,_,rfl,?_,?_,?_⟩
   ·split <;>lia
   ·split <;>lia
   ·rw[show(if a<0 then -a else a)=(a.natAbs:Int) by split <;>lia,show(if b<0 then -b else b)=(b.natAbs:Int) by split <;>lia,Nm.Cg,Nm.y7]
  ·intro σ H1 du;symm;obtain⟨rfl,x,y,z,rfl,x0,y0,e⟩:=du;nofun;dsimp?[];refine eI (λc=>?_) (λc=>?_)
   ·refine⟨⋯,y0,aa2 _ ⋯,by rw[Nm.Ci x0 ⋯,e],?_⟩;have:=aba x (show 0<y by lia);have:=aa2 x (show y≠0 by lia);lia
   ·have z:y=0:=⋯
    subst z;rw[Nm.Cj x0] at e;rw[e];exact k
  ·intro σ H1 Q1 Q2 hq hc
   revert hc
   dsimp?[];intro hc;symm;obtain⟨v,e1,e2,q⟩:=hc;nofun;exact⟨v,e1,e2,hq _ _ q⟩
theorem wC:aV ["top","bottom","divisor"] ["top","bottom"] (au (top 14)):=.mk
theorem Ij (T:0|||0):(2<<<"share") ["top","bottom"] (Kt aG):=by
 have mV:=NW T;refine T.F2.dE (λ_ _ _ _ _ _=>dQ λ_ _=>rfl) λf fd F=>F.HB wC (λvs H Q E h=>?_) (λbR A outer s H vs Q E hr h=>?_)
 ·obtain⟨_,_,rfl,_⟩:=qU h;rfl
 ·symm;obtain⟨a,b,rfl,bt,kE,kQ⟩:=qU h;nofun;have nd:=wC.nd;have yp:A.handled=none:=hr.hd;refine⟨_,(ag (bc (aL bq (pv 1) ae (aR _)) (aq (fg rfl T.k_NoShare T.x_NoShare yp (aa aZ af)))
   aX)
  (ag (aK (i:=2) (aN mV (aa (pv 0) (aa (pv 1) af))))
  (ag (bc (aL vf (pv 1) ae (aR _)) (aq (aK (i:=2) (kJ ib (pv 2))))
   aX)
  (aq (aQ (a9 (aa (aJ vv (pv 0) (pv 2)) (aa (aJ vv (pv 1) (pv 2)) af)))))))),?_⟩
  refine(?_:let bO:TS:=_;let bP:TS:=_;let bQ:TS:=_;let cO:TS:=_;tSeq bO (tSeq bP (tSeq bQ cO)) _ _ _);intro bO bP bQ cO;dsimp?[NC,tRaise];refine eI (λz=>?_) (λz=>?_)
  ·exact⟨∅,kE z⟩
  ·have g0:0<Nm.g a b:=Nm.Cf z;have gb:Bt 5000 (Nm.g a b):=bt.le (by have:=Nm.Ck (a:=a) z;lia);have kq:=kQ z;unfold Nm.st Nm.sb at kq;refine eI (λc=>?_) (λc=>?_)
   ·rw[if_pos c,if_pos c] at kq;rw[Nm.Cq g0 (Nm.y4 a b),Nm.Cq g0 (Nm.ji a b)];exact⟨pw.of ⋯ gb.neg,pw.of ⋯ gb.neg,∅,λp H2 s1 n1 e=>kq p H2 s1 n1 e⟩
   ·rw[if_neg c,if_neg c] at kq;rw[Nm.Cp g0,Nm.Cp g0];exact⟨pw.of ⋯ gb,pw.of ⋯ gb,∅,λp H2 s1 n1 e=>kq p H2 s1 n1 e⟩
theorem fG:aV ["weights","bottom"] ["weights","bottom"] (au (top 19)):=.mk
theorem NX (T:0|||0):(3<<<"table_by_weights") ["weights","bottom"] Ku:=by
 have uv:=Ij T;refine T.kg.dE (λ_ _ _ _ _ _=>dQ λ_ _=>rfl) λf fd F=>F.d4 fG (λvs H Q E h=>?_) (λbR A outer s H vs Q E hr h=>?_)
 ·obtain⟨_,_,rfl,_⟩:=Ba h;rfl
 ·symm;obtain⟨d,B,rfl,ws,hd,ndk,hz,B0,bB,k⟩:=Ba h;nofun;have nd:=fG.nd;refine⟨_,(aq (aQ (b5 rfl (N:=["weights","bottom"]) (so:=au (top 19)) (N':=["value","weights","bottom"]) (k:=1) (fr:=[0,1]) rfl rfl ⟨rfl,∅,∅,∅,rfl,∅,∅⟩ (bh (K:=K) (aY pE (by rfl) T.z_sorted rfl (aa (pv 0) af))) (λ_ _ _ _ _=>(a5 (i:=0) (show(["value","weights","bottom"]:List Str).Nodup by ac_rfl) rfl (.inl rfl))) (λ_ _ _ _ _=>cV)
   (λ_ _ _ _ _=>(a9 (aa (pv 0) (aa (aN uv (aa (cB (ck hr) (pv 1) (pv 0) (λ_ _=>rfl)) (aa (pv 2) af))) af))))))),?_⟩
  dsimp?[];refine⟨enc ws,.inl hd,CI ws,by rw[tT];exact hz,λl nl=>⟨⟨_,bw.of ai⟩,?_⟩⟩;rw[AZ];have sm:aB H (upd H l (.lst (List.map V.int (Nm.tR (Nm.keys ws))))):=aj nl;have ll:(List.map V.int (Nm.tR (Nm.keys ws))).length=ws.length:=by rw[aaj,Nm.ig];unfold Nm.keys;rw[aaj]
  refine comp_map (src_list (λH2 s2=>s2.seq (bw.of ai))) (λ_ _ _ _ h=>by rw[h.1];exact aB.refl _) (by rw[ll,sizeLine_eq];lia) (λi y H2=>∀r,(Nm.rowsOf ws B)[i]?=some r->Rep H2 (FK r) y) (λi y H2 H3 s3 h r e=>(h r e).mono s3) ?_ ?_
  ·rintro i x w0 H2 H3 Q2 hi s2 ⟨rfl,hx⟩ kq;rw[aal] at hx;symm;obtain⟨v,ev,rfl⟩:=abq.mp hx;nofun;have hv:v∈Nm.keys ws:=Nm.FE.mp (aay ev);have hd2:=s2 _ _ (sm _ _ hd);dsimp?[Kt];refine⟨_,CJ hd2 hv,_,rfl,bB,λz=>absurd z B0,λ_ p H4 s4 _ e4=>⟨∅,λp5 H5 s5 _ e5=>?_⟩⟩;refine kq _ _ (s4.trans s5) λr er=>?_;have:r=(v,Nm.st (Nm.look ws v) B,Nm.sb (Nm.look ws v) B):=by
    unfold Nm.rowsOf at er;rw[aal,ev] at er;exact(aaC er).symm
   subst this;exact oG.mpr ⟨p5,p,rfl,e5,s5 _ _ e4⟩
  ·intro ys H2 s2 ly hy D n1 n2;refine k _ _ (sm.trans (s2.trans (aj n2))) (none_of sm n1) (ba.mpr ⟨D,ys,rfl,ai,?_⟩);refine bg.of ?_ λi dd v e1 e2=>?_
   ·rw[aaj,ly];unfold Nm.rowsOf;rw[aaj,aaj]
   ·rw[aal] at e1;symm;obtain⟨r,er,rfl⟩:=abq.mp e1;nofun;exact(hy i v e2 r er).mono (aj n2)
theorem nP:aV ["rows","weights","value","weight"] ["rows"] (au (top 20)):=.mk
theorem NY (T:0|||0):(4<<<"table_of") ["rows"] (ND aH):=by
 have ko:=NX T;refine T.yf.dE (λ_ _ _ _ _ _=>gq λ_=>rfl) λf fd F=>F.HB nP (λvs H Q E h=>?_) (λbR A outer s H vs Q E hr h=>?_)
 ·obtain⟨_,rfl,_⟩:=HR h;rfl
 ·symm;obtain⟨v,rfl,ps,rp,hz,hb,hw,kE,kQ⟩:=HR h;nofun;have nd:=nP.nd;have yp:A.handled=none:=hr.hd;refine⟨_,(ag (aK (i:=1) gO)
  (ag (b6 PassesOwn.leaving rfl (bh (K:=K) (pv 0)) (e8 (K:=K) (n:=2) rfl (bK (a5 (i:=2) nd rfl (.inl rfl)) (bK (a5 (i:=3) nd rfl (.inl rfl)) eW))) (ag (bc (aL vf (pv 3) ae (aR _)) (aq (fg rfl T.k_NoTable T.x_NoTable yp (aa aZ af)))
   aX)
  (aq (bc (aL fB (pv 3) ae (aR _)) (aq (eK (ck hr) (pv 1) (pv 2) (aJ aS (Ca (ck hr) (pv 1) (pv 2) ae (by first | exact⟨rfl,rfl,rfl⟩ | constructor <;>rfl)) (pv 3)) rfl))
   aX))))
  (ag (bc (aL bq (aY AN (by rfl) T.z_len aaA (aa (pv 1) af)) ae (aR _)) (aq (fg rfl T.k_NoTable T.x_NoTable yp (aa aZ af)))
   aX)
  (aq (aQ (aN ko (aa (pv 1) (aa (xW rfl (by rfl) T.z_sum (pv 1)) af)))))))),?_⟩
  refine(?_:let bO:TS:=_;let bP:TS:=_;let bQ:TS:=_;let cO:TS:=_;tSeq bO (tSeq bP (tSeq bQ cO)) _ _ _);intro bO bP bQ cO;dsimp?[Ku,tRaise];intro d Mf;symm;obtain⟨a,xs,rfl,ha,rl⟩:=ba.mp rp;nofun;have n1:=rl.length;rw[aaj] at n1;have q1:∀o,bw K (upd H d o) a xs:=λo=>bw.of (aj Mf _ _ ha);refine⟨_,rfl,⟨_,q1 _⟩,bN (src_list (Ok:=λH'=>∃o,H'=upd H d o) (λH' ⟨o,e⟩=>by rw[e];exact q1 o))
   (λi σ H'=>H'=upd H d (.dK (enc (Nm.jH (ps.take i))))/\(∀p∈ps.take i,0<=p.2)/\∃z1 z2,σ=[~~~a,~~~d,z1,z2])
   ⟨by rw[List.take_zero];rfl,by simp,_,_,rfl⟩ (λ_ _ _ _ h=>⟨_,h.1⟩) ?_ ?_⟩
  ·intro i x σ H' nO hi fm fo;symm;obtain⟨rfl,nn,z1,z2,rfl⟩:=fm;obtain⟨rfl,hx⟩:=fo;obtain⟨dd,ed,rd⟩:=rl.get hx;rw[aal] at ed;obtain⟨p,ep,rfl⟩:=abq.mp ed;obtain⟨q,rfl,hq⟩:=b7.mp rd;nofun;have tk:ps.take (i+1)=ps.take i++ [p]:=by rw[aaK,ep];rfl
   refine⟨q,_,rfl,jD.of (aj Mf _ _ hq),rfl,?_⟩;dsimp?[tRaise];rw[tk,Nm.CO];refine eI (λc=>?_) (λc=>?_)
   ·exact⟨∅,kE (.inl ⟨p,aay ep,c⟩) _ (aj Mf)⟩
   ·have XF:∀r∈ps.take i++ [p],0<=r.2:=λr hr=>by
     rcases List.mem_append.mp hr with h | h
     ·exact nn r h
     ·have:r=p:=by simpa using h
      subst this;lia
    refine eI (λc2=>?_) (λc2=>?_)
    ·symm;obtain⟨o,ho,eo⟩:=A0 (H:=upd H d (.dK (enc (Nm.jH (ps.take i))))) p.1 (.inl ai);nofun;refine⟨.inl ⟨_,.inl ai⟩,o,ho,?_⟩;rw[eo];dsimp?[];refine⟨_,CL _ _ ai (Nm.mG _) ?_,?_,XF,?_⟩
     ·have:=Nm.zg (ps.take i);rw[aaD] at this;rw[sizeLine_eq];lia
     ·rw[yO,if_pos c2];rfl
     ·exact⟨_,rfl⟩
    ·refine⟨by rw[if_neg c2],XF,?_⟩;exact⟨_,rfl⟩
  ·intro σ H' du;symm;obtain⟨rfl,nn,z1,z2,rfl⟩:=du;nofun;rw[aaz ⋯] at nn ⊢;dsimp?[tRaise,Ku];have el:(enc (Nm.jH ps)).length=(Nm.jH ps).length:=tT _;refine⟨_,ai,eI (λz=>⟨∅,kE (.inr ?_) _ (aj Mf)⟩) (λz=>?_)⟩
   ·exact Nm.zh.mp (List.eq_nil_of_length_eq_zero ⋯)
   ·have np:Nm.pos ps≠[]:=λe=>by
     have:=Nm.zh.mpr e;exact z (by rw[el,this];rfl)
    have nb:¬Nm.bad ps:=λb=>by
     rcases b with ⟨p,hp,c⟩ | c
     ·have:=nn p hp;lia
     ·exact np c
    have T0:=Nm.FH (show 0< (Nm.jH ps).length by lia) (Nm.mG ps) (Nm.FO ps);have T1:=Nm.pJ (c:=10^12) ∅ hb;rw[<-Nm.FP] at T1;have lw:=Nm.zg ps;have ev:List.map (λx:Key×V=>x.2) (enc (Nm.jH ps))=List.map V.int ((Nm.jH ps).map (·.2)):=by
     unfold enc;rw[aaJ,aaJ];rfl
    refine⟨_,ai,_,ev,_,ai,Nm.mG ps,⋯,?_,?_,λp H' s' Rv r'=>?_⟩
    ·show Nm.pF (Nm.jH ps)≠0;lia
    ·show Bt 5000 (Nm.pF (Nm.jH ps));exact Bt.of (10^16) ⋯ ⋯
    ·exact kQ nb p H' ((aj Mf).trans s') (none_of (aj Mf) Rv) r'
theorem wD:aV ["base","exponent","product","turn"] ["base","exponent"] (au (top 24)):=.mk
theorem NZ (T:0|||0):(1<<<"power") ["base","exponent"] NF:=by
 refine T.F3.dE (λ_ _ _ _ _ _=>dQ λ_ _=>rfl) λf fd F=>F.d4 wD (λvs H Q E h=>?_) (λbR A outer s H vs Q E hr h=>?_)
 ·obtain⟨_,_,rfl,_⟩:=h;rfl
 ·symm;obtain⟨b,e,rfl,be,Rx,hb,kk⟩:=h;nofun;have nd:=wD.nd;refine⟨_,(ag (aK (i:=2) ae)
  (ag (b6 PassesOwn.never rfl (cJ rfl T.z_range (aa (pv 1) af)) (a5 (i:=3) nd rfl (.inl rfl)) (ag (bc (aL fB (pv 2) (gW rfl T.c_MOST_BOTTOM) (aR _)) (aq BM)
   aX)
  (aq (aK (i:=2) (aJ bj (pv 2) (pv 0))))))
  (aq (aQ (pv 2))))),?_⟩
  refine(?_:let bO:TS:=_;let bP:TS:=_;let bQ:TS:=_;tSeq bO (tSeq bP bQ) _ _ _);intro bO bP bQ;have sl:=sizeLine_eq;dsimp?[];refine⟨⋯,⋯,bN (src_range (Ok:=λ_=>True)) (λi σ H'=>H=H'/\∃z,σ=[some (.int (b:Int)),some (.int (e:Int)),some (.int ((b^i:Nat):Int)),z]) ⟨rfl,_,rfl⟩ (λ_ _ _ _ _=>trivial) ?_ ?_⟩
  ·intro i x σ H' nO hi fm fo;symm;obtain⟨rfl,z,rfl⟩:=fm;obtain⟨rfl,rfl⟩:=fo;nofun;have b1:1<=b:=⋯
   have le:b^i<=b^e:=abh b1 ⋯;dsimp?[];rw[if_neg ⋯];refine⟨bE ⋯ ⋯,?_,_,rfl⟩;rw[Nat.pow_succ,aa7]
  ·intro σ H' du;symm;obtain⟨rfl,z,rfl⟩:=du;nofun;rw[aaF];dsimp?[];exact kk
theorem jL:aV ["part"] ["part"] (au (top 25)):=.mk
theorem Dz (T:0|||0):(1<<<"most_faces") ["part"] NG:=by
 refine T.tZ.dE (λ_ _ _ _ _ _=>gq λ_=>rfl) λf fd F=>F.d4 jL (λvs H Q E h=>?_) (λbR A outer s H vs Q E hr h=>?_)
 ·obtain⟨_,rfl,_⟩:=nM h;rfl
 ·symm;obtain⟨q,rfl,p,hq,kk⟩:=nM h;nofun;have nd:=jL.nd;refine⟨_,(ag (bc (aL bq (av ao (pv 0) ae) aZ (aR _)) (aq (aQ ae))
   aX)
  (ag (bc (aL bq (av ao (pv 0) ae) aZ (aR _)) (aq (aQ (gL (aL fB (av ao (pv 0) ae) ae (aR _)) ae ae)))
   aX)
  (ag (bc (aL bq (av ao (pv 0) ae) aZ (aR _)) (aq (aQ (aJ aS (aY (jh rfl) (by rfl) T.z_max rfl (aa (av ao (pv 0) ae) (aa ae af))) ae)))
   aX)
  (aq (aQ (av ao (pv 0) (kJ ib ae))))))),?_⟩
  refine(?_:let bO:TS:=_;let bP:TS:=_;let bQ:TS:=_;let cO:TS:=_;tSeq bO (tSeq bP (tSeq bQ cO)) _ _ _);intro bO bP bQ cO;cases p with
  | num n=>
   simp only[rD] at hq;dsimp?[hq];exact kk
  | cU m s=>
   simp only[rD] at hq;dsimp?[hq];rw[if_neg ∅,if_neg ∅,if_neg ∅];exact⟨_,rfl,kk⟩
theorem iW:aV ["part"] ["part"] (au (top 26)):=.mk
theorem DA (T:0|||0):(2<<<"part_bottom") ["part"] Dp:=by
 have Gk:=NZ T;have eM:=Dz T;refine T.qV.dE (λ_ _ _ _ _ _=>gq λ_=>rfl) λf fd F=>F.d4 iW (λvs H Q E h=>?_) (λbR A outer s H vs Q E hr h=>?_)
 ·obtain⟨_,rfl,_⟩:=nM h;rfl
 ·symm;obtain⟨q,rfl,p,hq,g,hb,kk⟩:=nM h;nofun;have nd:=iW.nd;refine⟨_,(aq (aQ (aN Gk (aa (av ao (pv 0) (kJ ib ae)) (aa (aN eM (aa (pv 0) af)) af))))),?_⟩;dsimp?[NF,NG];refine⟨_,hq,_,yk p,p,hq,lst p,rfl,HW p,rfl,?_,?_,?_,?_⟩
  ·cases p with
   | num n=>exact .inr rfl
   | _=>exact .inl g.1
  ·have:=pY g;lia
  ·have:lst p^HW p=bot p:=by cases p <;>rfl
   rw[this];exact hb
  ·have:lst p^HW p=bot p:=by cases p <;>rfl
   rw[this];exact kk
theorem jM:aV ["part","sides","low"] ["part"] (au (top 27)):=.mk
theorem N0 (T:0|||0):(3<<<"part_count") ["part"] NH:=by
 have eM:=Dz T;have eg:=DA T;refine T.t4.dE (λ_ _ _ _ _ _=>gq λ_=>rfl) λf fd F=>F.d4 jM (λvs H Q E h=>?_) (λbR A outer s H vs Q E hr h=>?_)
 ·obtain⟨_,rfl,_⟩:=nM h;rfl
 ·symm;obtain⟨q,rfl,p,hq,g,hb,kk⟩:=nM h;nofun;have nd:=jM.nd;refine⟨_,(ag (aK (i:=1) (av ao (pv 0) (kJ ib ae)))
  (ag (bc (aL bq (av ao (pv 0) ae) aZ (aR _)) (ag (aK (i:=2) (aY (jh rfl) (by rfl) T.z_max rfl (aa (aY (fO rfl) (by rfl) T.z_min rfl (aa (av ao (pv 0) ae) (aa (pv 1) af))) (aa ae af))))
  (aq (aQ (aJ ia (aJ aS (aJ bj (pv 2) (pv 1)) (pv 1)) (pv 2)))))
   aX)
  (ag (bc (aL bq (av ao (pv 0) ae) aZ (aR _)) (aq (aQ (aJ aS (aJ bj (aN eM (aa (pv 0) af)) (aJ ia (pv 1) ae)) ae)))
   aX)
  (aq (aQ (aN eg (aa (pv 0) af))))))),?_⟩
  refine(?_:let bO:TS:=_;let bP:TS:=_;let bQ:TS:=_;let cO:TS:=_;tSeq bO (tSeq bP (tSeq bQ cO)) _ _ _);intro bO bP bQ cO;refine aP (λN=>N [~~~q,some (.int (lst p:Int)),none] H) (λN hN=>?_) ?_
  ·dsimp?[];exact⟨_,hq,_,yk p,hN⟩
  cases p with
  | num n=>
   simp only[rD] at hq;refine aP (λN=>N [~~~q,some _,none] H) (λN hN=>cG (λY N k=>by dsimp?[hq];rw[if_neg ∅];exact k) (by dsimp?[];exact hN)) ?_;refine aP (λN=>N [~~~q,some _,none] H) (λN hN=>cG (λY N k=>by dsimp?[hq];rw[if_neg ∅];exact k) (by dsimp?[];exact hN)) ?_;dsimp?[Dp];exact⟨.num n,hq,g,hb,kk⟩
  | cU m s=>
   simp only[rD] at hq;refine aP (λN=>N [~~~q,some _,none] H) (λN hN=>cG (λY N k=>by dsimp?[hq];rw[if_neg ∅];exact k) (by dsimp?[];exact hN)) ?_;refine aP (λN=>N [~~~q,some _,none] H) (λN hN=>cG (λY N k=>by dsimp?[hq];rw[if_neg ∅];exact k) (by dsimp?[];exact hN)) ?_;dsimp?[Dp];exact⟨.cU m s,hq,g,hb,kk⟩
theorem jN:aV ["pool","count","bottom","part"] ["pool"] (au (top 28)):=.mk
theorem N1 (T:0|||0):(4<<<"check_size") ["pool"] NI:=by
 have uw:=N0 T;have eg:=DA T;refine T.t5.dE (λ_ _ _ _ _ _=>gq λ_=>rfl) λf fd F=>F.HB jN (λvs H Q E h=>?_) (λbR A outer s H vs Q E hr h=>?_)
 ·obtain⟨_,rfl,_⟩:=nM h;rfl
 ·symm;obtain⟨l,rfl,ps,hp,g,kk⟩:=nM h;nofun;have nd:=jN.nd;have yp:A.handled=none:=hr.hd;refine⟨_,(ag (aK (i:=1) ae)
  (ag (aK (i:=2) ae)
  (ag (b6 PassesOwn.leaving rfl (bh (K:=K) (pv 0)) (a5 (i:=3) nd rfl (.inl rfl)) (ag (aK (i:=1) (aJ bj (pv 1) (aN uw (aa (pv 3) af))))
  (aq (aK (i:=2) (aJ bj (pv 2) (aN eg (aa (pv 3) af)))))))
  (aq (bc (PW.pt (pw_or (aL fB (pv 1) (gW rfl T.c_MOST_THROWS) (aR _)) (pw_or1 (aL fB (pv 2) (gW rfl T.c_MOST_BOTTOM) (aR _))))) (aq (fg rfl T.k_TooMany T.x_TooMany yp (aa aZ af)))
   aX))))),?_⟩
  refine(?_:let bO:TS:=_;let bP:TS:=_;let bQ:TS:=_;let cO:TS:=_;tSeq bO (tSeq bP (tSeq bQ cO)) _ _ _);intro bO bP bQ cO;symm;obtain⟨xs,hl,al⟩:=hp;nofun;have lx:=al.length;dsimp?[];refine⟨⟨_,bw.of hl⟩,bN (src_list (Ok:=λH'=>H=H') (λH' e=>by subst e;exact bw.of hl)) (λi σ H'=>H=H'/\∃z,σ=[~~~l,some (.int ((iU ((ps.take i).map cnt):Nat):Int)),some (.int ((iU ((ps.take i).map bot):Nat):Int)),z]) ⟨rfl,_,rfl⟩ (λ_ _ _ _ h=>h.1) ?_ ?_⟩
  ·intro i x σ H' nO hi fm fo;symm;obtain⟨rfl,z,rfl⟩:=fm;obtain⟨rfl,ex⟩:=fo;obtain⟨p,ep,q,rfl,hq⟩:=al.get ex;nofun;obtain⟨DB,xo⟩:=abr.mp ep;have hm:p∈ps:=by rw[<-xo];exact aaH DB
   symm;obtain⟨gp,c1,b1⟩:=mS g hm;nofun;have c0:=mQ g i;have b0:=mR g i;dsimp?[NH,Dp];refine⟨p,hq,gp,b1,bE ⋯ ⋯,p,hq,gp,b1,bE ⋯ ⋯,?_,?_,_,rfl⟩
   ·rw[take_snoc DB,xo,aaq,aak,aaU,gX,aa7]
   ·rw[take_snoc DB,xo,aaq,aak,aaU,gX,aa7]
  ·intro σ H' du;symm;obtain⟨rfl,z,rfl⟩:=du;nofun;rw[lx,aaz (aam _)];have c0:=g.2.1;have b0:=g.2.2;dsimp?[];rw[if_neg ⋯,if_neg ⋯];exact kk
theorem jO:aV ["dice","sides","found","turn","longer","faces"] ["dice","sides"] (au (top 29)):=.mk
theorem N4 (T:0|||0):(1<<<"dice_faces") ["dice","sides"] NJ:=by
 refine T.t6.dE (λ_ _ _ _ _ _=>dQ λ_ _=>rfl) λf fd F=>F.d4 jO (λvs H Q E h=>?_) (λbR A outer s H vs Q E hr h=>?_)
 ·obtain⟨_,_,rfl,_⟩:=h;rfl
 ·symm;obtain⟨d,s',rfl,s1,XG,d6,hd,kk⟩:=h;nofun;have nd:=jO.nd;refine⟨_,(ag (aK (i:=2) (bH (aa (bH af) af)))
  (ag (b6 PassesOwn.never rfl (cJ rfl T.z_range (aa (pv 0) af)) (a5 (i:=3) nd rfl (.inl rfl)) (ag (aK (i:=4) (bH af))
  (ag (b6 PassesOwn.never rfl (bh (K:=K) (pv 2)) (a5 (i:=5) nd rfl (.inr rfl)) (aq (bU (fe aaR PySem.F.slot_list_extend PySem.F.type_list_extend rW.r (pv 4) (aa (b5 rfl (N:=["dice","sides","found","turn","longer","faces"]) (so:=au (top 29)) (N':=["face","faces"]) (k:=1) (fr:=[5]) rfl rfl ⟨rfl,∅,∅,∅,rfl,∅,∅⟩ (Ay rfl T.z_range (aa ae (aa (aJ aS (pv 1) ae) af))) (λ_ _ _ _ _=>(a5 (i:=0) (show(["face","faces"]:List Str).Nodup by ac_rfl) rfl (.inl rfl))) (λ_ _ _ _ _=>cV)
   (λ_ _ _ _ _=>(aJ fk (pv 1) (bH (aa (pv 0) af))))) af)))))
  (aq (aK (i:=2) (pv 4))))))
  (aq (aQ (pv 2))))),?_⟩
  refine(?_:let bO:TS:=_;let bP:TS:=_;let bQ:TS:=_;tSeq bO (tSeq bP bQ) _ _ _);intro bO bP bQ;have sl:=sizeLine_eq;dsimp?[];refine⟨aas _,λe0 m0=>⟨∅,λl0 n0=>⟨⋯,⋯,?_⟩⟩⟩;have s0:aB H (upd (upd H e0 (.lst [])) l0 (.lst [.ref e0])):=(aj m0).trans (aj n0);refine bN (src_range (Ok:=λ_=>True)) (λi σ H'=>aB H H'/\∃l xs z z' Ry,H' l=some (.lst xs)/\Al (Fa H') (F6 s' i) xs/\σ=[some (.int (d:Int)),some (.int (s':Int)),~~~l,z,z',Ry]) ?_ (λ_ _ _ _ _=>trivial) ?_ ?_
  ·exact⟨s0,l0,_,_,_,_,ai,.one ⟨e0,rfl,aj n0 _ _ ai⟩,rfl⟩
  ·intro i x σ H' nO hi fm fo;symm;obtain⟨sm,l,xs,z,z',Ry,hl,al,rfl⟩:=fm;obtain⟨rfl,rfl⟩:=fo;nofun;have lx:=al.length;rw[oJ] at lx;have hle:s'^ (i+1)<=1296:=aau (abh s1 ⋯) hd;have ZV:s'^i<=1296:=aau (abh s1 ⋯) hd;subst_vars;refine dq (λσ' H1=>aB nO H1/\∃m,nO m=none/\H1 m=some (.lst [])/\σ'=[some (.int (d:Int)),some (.int (s':Int)),~~~l,some (.int (0+i)),~~~m,Ry]) (λN hN=>?_) ?_
   ·dsimp?[];exact⟨aas _,λm nm=>hN _ _ ⟨aj nm,m,nm,ai,rfl⟩⟩
   intro _ H1 du;symm;obtain⟨ER,m,nm,hm,rfl⟩:=du;nofun;subst_vars;refine dq (λσ' H2=>aB nO H2/\∃ys,H2 m=some (.lst ys)/\Al (Fa H2) (F6 s' (i+1)) ys/\∃z,σ'=[some (.int (d:Int)),some (.int (s':Int)),~~~l,some (.int (0+i)),~~~m,z]) (λN hN=>?_) ?_
   ·dsimp?[];refine⟨⟨_,bw.of (ER _ _ hl)⟩,bN (src_list (Ok:=aB nO) (λH2 s2=>bw.of (s2 _ _ hl)))
     (λj σ H2=>aB nO H2/\∃ys z,H2 m=some (.lst ys)/\ys.length=j*s'/\Al (Fa (df H2 m)) (((F6 s' i).take j).flatMap λf=>(List.range s').map λi:Nat=>f++ [((i:Nat):Int)+1]) ys/\σ=[some (.int (d:Int)),some (.int (s':Int)),~~~l,some (.int (0+i)),~~~m,z])
     ⟨ER,[],_,hm,by simp,trivial,rfl⟩ (λ_ _ _ _ h=>h.1) ?_ ?_⟩
    ·intro j x σ H2 H3 hj fm fo;symm;obtain⟨wF,ys,z,mK,ly,ay,rfl⟩:=fm;obtain⟨rfl,ex⟩:=fo;obtain⟨f,ef,q,rfl,hq⟩:=al.get ex;nofun;obtain⟨ZW,ZX⟩:=abr.mp ef;have fl:=(um s' i f (by rw[<-ZX];exact aaH ZW)).1;have Rz:=wF _ _ hq;dsimp?[tK];refine⟨.inl ⟨rfl,_,bw.of mK⟩,⋯,⋯,⋯,⋯,?_⟩;rw[show((s':Int)+1 - 1).toNat=s' by lia];refine comp_map src_range (λ_ _ _ _ h=>by rw[h.1];exact aB.refl _) ⋯ (λk y H4=>Fa (df H4 m) (f++ [((k:Nat):Int)+1]) y) (λk y H4 H5 s5 h=>h.mono (gU s5)) ?_ ?_
     ·rintro k x w0 H4 H5 Q2 hk s4 ⟨rfl,rfl⟩ kq;dsimp?[B7];refine⟨∅,λa1 n1=>⟨_,aj n1 _ _ (s4 _ _ Rz),_,ai,by rw[aaj];simp only[aaw,List.length_nil];lia,λa2 n2=>kq _ _ ((aj n1).trans (aj n2)) ⟨a2,rfl,?_⟩⟩⟩;have ne:a2≠m:=λe=>by
       subst e;rw[aj n1 _ _ (s4 _ _ mK)] at n2;cases n2
      rw[cQ ne,ai,aaq,Int.add_comm];rfl
     ·intro zs H4 s4 lz hz D n1 n2;have ZY:=s4 _ _ mK;have jm:j*s'<=s'^ (i+1):=by rw[Nat.pow_succ];exact Nat.mul_le_mul_right _ ⋯
      have ZZ:∀{k:Nat},k=j*s'+s'->k<=sizeLine:=λe=>⋯
      refine⟨_,aj n2 _ _ ZY,_,ai,ZZ (by rw[ly,lz]),?_⟩;have s5:aB H3 (upd H4 D (.lst zs)):=s4.trans (aj n2);refine⟨cF (wF.trans s5) nm,_,ai,by rw[aat,ly,lz,Nat.succ_mul],?_,_,rfl⟩;rw[zE,aaK,ef,List.flatMap_append];refine Al.append (ay.imp λ_ _ h=>h.mono (gU s5)) ?_;simp only[Option.toList,List.flatMap_cons,List.flatMap_nil,aa0];refine Al.of (by rw[aaj,aaO];exact lz) λk y g e1 e2=>?_;rw[aal] at e2;symm;obtain⟨k',ek,rfl⟩:=abq.mp e2;nofun;obtain⟨hk1,XH⟩:=abr.mp ek;rw[List.getElem_range] at XH;subst XH;exact(hz _ _ e1).mono (gU (aj n2))
    ·intro σ H2 du;symm;obtain⟨wF,ys,z,mK,ly,ay,rfl⟩:=du;nofun;refine hN _ _ ⟨wF,ys,mK,?_,_,rfl⟩;rw[lx,<-oJ s' i,aaz (aam _)] at ay;exact ay.imp λ_ _ h=>h.mono dr
   intro _ H2 du;symm;obtain⟨wF,ys,mK,ay,z,rfl⟩:=du;nofun;dsimp?[]
   first | exact⟨sm.trans wF,m,_,mK,ay,rfl,⟨_,rfl⟩,⟨_,rfl⟩,⟨_,rfl⟩⟩ | exact⟨sm.trans wF,m,_,mK,ay,rfl,_,_,rfl⟩ | exact⟨sm.trans wF,m,_,mK,ay,rfl,⟨_,rfl⟩,_,rfl⟩ | exact⟨sm.trans wF,m,_,mK,ay,rfl,_,rfl⟩
  ·intro σ H' du;symm;obtain⟨sm,l,xs,z,z',Ry,hl,al,rfl⟩:=du;nofun;rw[aaF] at al;dsimp?[];exact kk _ _ _ sm hl al
theorem qd:aV ["low","sides","found","face"] ["low","sides"] (au (top 30)):=.mk
theorem N5 (T:0|||0):(1<<<"again_faces") ["low","sides"] NP:=by
 refine T.qW.dE (λ_ _ _ _ _ _=>dQ λ_ _=>rfl) λf fd F=>F.d4 qd (λvs H Q E h=>h.elim) (λbR A outer s H vs Q E hr h=>h.elim)
theorem qe:aV ["most","sides","found","ahead"] ["most","sides"] (au (top 31)):=.mk
theorem N6 (T:0|||0):(1<<<"burst_faces") ["most","sides"] NP:=by
 refine T.qX.dE (λ_ _ _ _ _ _=>dQ λ_ _=>rfl) λf fd F=>F.d4 qe (λvs H Q E h=>h.elim) (λbR A outer s H vs Q E hr h=>h.elim)
theorem jP:aV ["part"] ["part"] (au (top 32)):=.mk
theorem N7 (T:0|||0):(2<<<"part_faces") ["part"] NK:=by
 have eM:=Dz T;have uy:=N4 T;have rF:=N5 T;have rG:=N6 T;refine T.t7.dE (λ_ _ _ _ _ _=>gq λ_=>rfl) λf fd F=>F.d4 jP (λvs H Q E h=>?_) (λbR A outer s H vs Q E hr h=>?_)
 ·obtain⟨_,rfl,_⟩:=nM h;rfl
 ·symm;obtain⟨q,rfl,p,hq,g,hc,kk⟩:=nM h;nofun;have nd:=jP.nd;refine⟨_,(ag (bc (aL bq (av ao (pv 0) ae) aZ (aR _)) (aq (aQ (bH (aa (bH af) af))))
   aX)
  (ag (bc (aL bq (av ao (pv 0) ae) aZ (aR _)) (aq (aQ (aN rF (aa (av ao (pv 0) ae) (aa (av ao (pv 0) ae) af)))))
   aX)
  (ag (bc (aL bq (av ao (pv 0) ae) aZ (aR _)) (aq (aQ (aN rG (aa (aN eM (aa (pv 0) af)) (aa (av ao (pv 0) ae) af)))))
   aX)
  (aq (aQ (aN uy (aa (av ao (pv 0) (kJ ib ae)) (aa (av ao (pv 0) (kJ ib ae)) af)))))))),?_⟩
  refine(?_:let bO:TS:=_;let bP:TS:=_;let bQ:TS:=_;let cO:TS:=_;tSeq bO (tSeq bP (tSeq bQ cO)) _ _ _);intro bO bP bQ cO;cases p with
  | num n=>
   simp only[rD] at hq;dsimp?[hq];refine⟨aas _,λe0 m0=>⟨∅,λl0 n0=>kk _ _ _ ((aj m0).trans (aj n0)) ai (.one ⟨e0,rfl,aj n0 _ _ ai⟩)⟩⟩
  | cU m s=>
   simp only[rD] at hq;dsimp?[hq,NJ];rw[if_neg ∅,if_neg ∅,if_neg ∅];refine⟨_,rfl,_,rfl,m,rfl,s,rfl,g.1,g.2.1,g.2.2,hc,kk⟩
theorem gB:aV ["part","faces"] ["part","faces"] (au (top 33)):=.mk
theorem N8 (T:0|||0):(1<<<"value_of_pools") ["part","faces"] NL:=by
 refine T.mM.dE (λ_ _ _ _ _ _=>dQ λ_ _=>rfl) λf fd F=>F.d4 gB (λvs H Q E h=>?_) (λbR A outer s H vs Q E hr h=>?_)
 ·obtain⟨_,_,rfl,_⟩:=Bb h;rfl
 ·symm;obtain⟨q,l,rfl,p,hq,fs,hl,g,hf,kk⟩:=Bb h;nofun;have nd:=gB.nd;refine⟨_,(ag (bc (aL bq (av ao (pv 0) ae) aZ (aR _)) (aq (aQ (av ao (pv 0) ae)))
   aX)
  (ag (bc (aL bq (av ao (pv 0) ae) aZ (aR _)) (aq (aQ (aY (iR (K:=K)) (by rfl) T.z_sum rfl (aa (cL (cM (K:=K)) (A4 (K:=K) rfl T.z_sorted (pv 1) iA (n1:=rfl)) eB (cN (av ao (pv 0) ae))) af))))
   aX)
  (ag (bc (aL bq (av ao (pv 0) ae) aZ (aR _)) (aq (aQ (aY (iR (K:=K)) (by rfl) T.z_sum rfl (aa (cL (cM (K:=K)) (aY (pC (K:=K)) (by rfl) T.z_sorted rfl (aa (pv 1) af)) eB (cN (av ao (pv 0) ae))) af))))
   aX)
  (ag (bc (aL bq (av ao (pv 0) ae) aZ (aR _)) (aq (aQ (aY bF (by rfl) T.z_len aaA (aa (b5 rfl (N:=["part","faces"]) (so:=au (top 33)) (N':=["face","part"]) (k:=1) (fr:=[0]) rfl rfl ⟨rfl,∅,∅,∅,rfl,∅,∅⟩ (bh (K:=K) (pv 1)) (λ_ _ _ _ _=>(a5 (i:=0) (show(["face","part"]:List Str).Nodup by ac_rfl) rfl (.inl rfl))) (λ_ _ _ _ _=>(eZ (aL yT (pv 0) (av ao (pv 1) ae) (aR _))))
   (λ_ _ _ _ _=>(pv 0))) af))))
   aX)
  (ag (bc (aL bq (av ao (pv 0) ae) aZ (aR _)) (aq (aQ (av a6 (pv 1) (kJ ib ae))))
   aX)
  (aq (aQ (aY (iR (K:=K)) (by rfl) T.z_sum rfl (aa (pv 1) af))))))))),?_⟩
  refine(?_:let bO:TS:=_;let bP:TS:=_;let bQ:TS:=_;let cO:TS:=_;let lH:TS:=_;let sI:TS:=_;tSeq bO (tSeq bP (tSeq bQ (tSeq cO (tSeq lH sI)))) _ _ _);intro bO bP bQ cO lH sI;have sl:=sizeLine_eq;have fl:=(lA g fs hf).2;have ml:=pY g;cases p with
  | num n=>
   simp only[rD] at hq;dsimp?[hq];exact kk _ (aB.refl _)
  | cU m s=>
   simp only[rD] at hq;dsimp?[hq];rw[if_neg ∅,if_neg ∅,if_neg ∅,if_neg ∅,if_neg ∅];exact⟨fs,bw.of hl,kk _ (aB.refl _)⟩
theorem gY:aV ["part","faces","product","face"] ["part","faces"] (au (top 35)):=.mk
theorem N9 (T:0|||0):(1<<<"sides_product") ["part","faces"] NM:=by
 refine T.oq.dE (λ_ _ _ _ _ _=>dQ λ_ _=>rfl) λf fd F=>F.d4 gY (λvs H Q E h=>?_) (λbR A outer s H vs Q E hr h=>?_)
 ·obtain⟨_,_,rfl,_⟩:=Bb h;rfl
 ·symm;obtain⟨q,l,rfl,p,hq,fs,hl,g,hf,kk⟩:=Bb h;nofun;have nd:=gY.nd;refine⟨_,(ag (aK (i:=2) ae)
  (ag (b6 PassesOwn.never rfl (bh (K:=K) (pv 1)) (a5 (i:=3) nd rfl (.inl rfl)) (aq (aK (i:=2) (aJ bj (pv 2) (av ao (pv 0) (kJ ib ae))))))
  (aq (aQ (pv 2))))),?_⟩
  refine(?_:let bO:TS:=_;let bP:TS:=_;let bQ:TS:=_;tSeq bO (tSeq bP bQ) _ _ _);intro bO bP bQ;have fl:=(lA g fs hf).2;have ml:=pY g;have l99:=Kv g;have XG:=(uo g).2;have e0:0<fs.length->lst p=sd p:=λh=>by
   cases p with
   | num n=>rw[abu.mp hf] at h;cases h
   | _=>rfl
  dsimp?[];refine⟨⟨_,bw.of hl⟩,bN (src_list (Ok:=λH'=>H=H') (λH' e=>by subst e;exact bw.of hl)) (λi σ H'=>H=H'/\∃z,σ=[~~~q,~~~l,some (.int ((sd p^i:Nat):Int)),z]) ⟨rfl,_,rfl⟩ (λ_ _ _ _ h=>h.1) ?_ ?_⟩
  ·intro i x σ H' nO hi fm fo;symm;obtain⟨rfl,z,rfl⟩:=fm;obtain⟨rfl,ex⟩:=fo;nofun;rw[aaj] at hi;have le:=Bd (e:=i) XG ⋯;have e1:=e0 ⋯;dsimp?[];refine⟨_,hq,_,yk p,?_⟩;dsimp?[];refine⟨bE ⋯ ⋯,?_,_,rfl⟩;rw[Nat.pow_succ,aa7,e1]
  ·intro σ H' du;symm;obtain⟨rfl,z,rfl⟩:=du;nofun;rw[aaj];dsimp?[];exact kk
theorem iX:aV ["part"] ["part"] (au (top 36)):=.mk
theorem Oa (T:0|||0):(3<<<"part_throws") ["part"] NN:=by
 have uz:=N7 T;have mW:=N8 T;have oz:=N9 T;refine T.qY.dE (λ_ _ _ _ _ _=>gq λ_=>rfl) λf fd F=>F.d4 iX (λvs H Q E h=>?_) (λbR A outer s H vs Q E hr h=>?_)
 ·obtain⟨_,rfl,_⟩:=nM h;rfl
 ·symm;obtain⟨q,rfl,p,hq,g,hc,kk⟩:=nM h;nofun;have nd:=iX.nd;refine⟨_,(aq (aQ (b5 rfl (N:=["part"]) (so:=au (top 36)) (N':=["faces","part"]) (k:=1) (fr:=[0]) rfl rfl ⟨rfl,∅,∅,∅,rfl,∅,∅⟩ (bh (K:=K) (aN uz (aa (pv 0) af))) (λ_ _ _ _ _=>(a5 (i:=0) (show(["faces","part"]:List Str).Nodup by ac_rfl) rfl (.inl rfl))) (λ_ _ _ _ _=>cV)
   (λ_ _ _ _ _=>(a9 (aa (pv 0) (aa (aN mW (aa (pv 1) (aa (pv 0) af))) (aa (aN oz (aa (pv 1) (aa (pv 0) af))) af)))))))),?_⟩
  have sl:=sizeLine_eq;dsimp?[NK];refine⟨p,hq,g,hc,λl H1 xs s1 hl al=>⟨⟨_,bw.of hl⟩,?_⟩⟩;have lx:=al.length;rw[lq] at lx;refine comp_map (src_list (λH2 s2=>bw.of (s2 _ _ hl))) (λ_ _ _ _ h=>by rw[h.1];exact aB.refl _) ⋯ (λi y H2=>∀f,(F7 p)[i]?=some f->TR (λ_=>none) H2 (f,val p f,sd p^f.length) y) (λi y H2 H3 s3 h f e=>(h f e).mono s3) ?_ ?_
  ·rintro i x w0 H2 H3 Q2 hi s2 ⟨rfl,ex⟩ kq;symm;obtain⟨fs,ef,b,rfl,hb⟩:=al.get ex;nofun;have hf:fs∈F7 p:=aay ef;have Rz:=s2 _ _ (s1 _ _ hq);have Ub:=s2 _ _ hb;dsimp?[NL,NM];refine⟨p,Rz,fs,Ub,g,hf,λH4 s4=>⟨p,s4 _ _ Rz,fs,s4 _ _ Ub,g,hf,∅,λa H5 s5 na e5=>kq _ _ (s4.trans s5) λf e=>?_⟩⟩;rw[ef] at e;cases e;exact⟨a,b,rfl,e5,s5 _ _ (s4 _ _ Ub),rfl⟩
  ·intro ys H2 s2 ly hy D n1 n2;refine kk _ _ _ (s1.trans (s2.trans (aj n2))) ai ?_;refine Al.of (by unfold EL;rw[aaj,lq];lia) λi y r e1 e2=>?_;unfold EL at e2;rw[aal] at e2;symm;obtain⟨f,ef,rfl⟩:=abq.mp e2;nofun;exact(hy i y e1 f ef).mono (aj n2)
theorem fH:aV ["pool","found","part","behind","longer","faces","value","bottom"] ["pool"] (au (top 37)):=.mk
theorem Ob (T:0|||0):(5<<<"throws_by_bottom") ["pool"] NO:=by
 have uA:=N1 T;have rH:=Oa T;refine T.kh.dE (λ_ _ _ _ _ _=>gq λ_=>rfl) λf fd F=>F.d4 fH (λvs H Q E h=>?_) (λbR A outer s H vs Q E hr h=>?_)
 ·obtain⟨_,rfl,_⟩:=nM h;rfl
 ·symm;obtain⟨a,rfl,ps,hp,g,l4,kk⟩:=nM h;nofun;clear G_;have nd:=fH.nd;refine⟨_,(ag (bU (aN uA (aa (pv 0) af)))
  (ag (aK (i:=1) (bH (aa (a9 (aa (bH af) (aa ae (aa ae af)))) af)))
  (ag (b6 PassesOwn.never rfl (bh (K:=K) (pv 0)) (a5 (i:=2) nd rfl (.inl rfl)) (ag (aK (i:=3) (aN rH (aa (pv 2) af)))
  (ag (aK (i:=4) (bH af))
  (ag (b6 PassesOwn.never rfl (bh (K:=K) (pv 1)) (e8 (K:=K) (n:=3) rfl (bK (a5 (i:=5) nd rfl (.inr rfl)) (bK (a5 (i:=6) nd rfl (.inr rfl)) (bK (a5 (i:=7) nd rfl (.inr rfl)) eW)))) (aq (bU (fe aaR PySem.F.slot_list_extend PySem.F.type_list_extend rW.r (pv 4) (aa (b5 rfl (N:=["pool","found","part","behind","longer","faces","value","bottom"]) (so:=au (top 37)) (N':=["more","faces","value","bottom"]) (k:=1) (fr:=[5,6,7]) rfl rfl ⟨rfl,∅,∅,∅,rfl,∅,∅⟩ (bh (K:=K) (pv 3)) (λ_ _ _ _ _=>(a5 (i:=0) (show(["more","faces","value","bottom"]:List Str).Nodup by ac_rfl) rfl (.inl rfl))) (λ_ _ _ _ _=>cV)
   (λ_ _ _ _ _=>(a9 (aa (aJ fk (pv 1) (av ao (pv 0) ae)) (aa (aJ aS (pv 2) (av ao (pv 0) ae)) (aa (aJ bj (pv 3) (av ao (pv 0) ae)) af)))))) af)))))
  (aq (aK (i:=1) (pv 4)))))))
  (aq (aQ (pv 1)))))),?_⟩
  refine(?_:let bO:TS:=_;let bP:TS:=_;let bQ:TS:=_;let cO:TS:=_;tSeq bO (tSeq bP (tSeq bQ cO)) _ _ _);intro bO bP bQ cO;have sl:=sizeLine_eq;symm;obtain⟨vs,ha,ap⟩:=hp;nofun;clear G_;have lv:=ap.length;subst_vars;refine dq (λσ' H1=>H=H1/\σ'=[~~~a,none,none,none,none,none,none,none]) (λN hN=>?_) ?_
  ·dsimp?[NI];exact⟨ps,⟨vs,ha,ap⟩,g,hN _ _ ⟨rfl,rfl⟩⟩
  rintro _ _ ⟨rfl,rfl⟩;subst_vars;refine dq (λσ' H1=>aB H H1/\∃l xs,H1 l=some (.lst xs)/\Al (TR H H1) (eC []) xs/\σ'=[~~~a,~~~l,none,none,none,none,none,none]) (λN hN=>?_) ?_
  ·dsimp?[];refine⟨aas _,λe0 m0=>⟨∅,λt H1 s1 nt e1=>⟨∅,λl n1=>hN _ _ ⟨(aj m0).trans (s1.trans (aj n1)),l,_,ai,.one ⟨t,e0,rfl,aj n1 _ _ e1,aj n1 _ _ (s1 _ _ ai),m0⟩,rfl⟩⟩⟩⟩
  intro _ H1 du;symm;obtain⟨ER,l,xs,hl,al,rfl⟩:=du;nofun;clear G_;subst_vars;refine dq (λσ' H2=>aB H H2/\∃l xs,H2 l=some (.lst xs)/\Al (TR H H2) (eC ps) xs/\∃z1 z2 z3 z4 z5 z6,σ'=[~~~a,~~~l,z1,z2,z3,z4,z5,z6]) (λN hN=>?_) ?_
  ·dsimp?[];refine⟨⟨_,bw.of (ER _ _ ha)⟩,bN (src_list (Ok:=aB H) (λH2 s2=>bw.of (s2 _ _ ha)))
    (λi σ H2=>aB H H2/\∃l xs z1 z2 z3 z4 z5 z6,H2 l=some (.lst xs)/\Al (TR H H2) (eC (ps.take i)) xs/\σ=[~~~a,~~~l,z1,z2,z3,z4,z5,z6])
    ⟨ER,l,xs,_,_,_,_,_,_,hl,al,rfl⟩ (λ_ _ _ _ h=>h.1) ?_ ?_⟩
   ·clear hl al xs l;intro i x σ H2 H3 hi fm fo;symm;obtain⟨wF,l,xs,z1,z2,z3,z4,z5,z6,hl,al,rfl⟩:=fm;obtain⟨rfl,ex⟩:=fo;obtain⟨p,ep,q,rfl,hq⟩:=ap.get ex;nofun;obtain⟨DB,xo⟩:=abr.mp ep;have hm:p∈ps:=by rw[<-xo];exact aaH DB
    symm;obtain⟨gp,c1,b1⟩:=mS g hm;nofun;have lx:=al.length;rw[oK] at lx;have c0:=mQ g i;have c2:=mQ g (i+1);have es:eC (ps.take (i+1))=jj (eC (ps.take i)) p:=by rw[take_snoc DB,xo,pZ]
    have ec:iU ((ps.take (i+1)).map cnt)=iU ((ps.take i).map cnt)*cnt p:=by rw[take_snoc DB,xo,aaq,aak,aaU,gX]
    rw[ec] at c2;subst_vars;refine dq (λσ' H4=>aB H3 H4/\∃b bs,H4 b=some (.lst bs)/\Al (TR (λ_=>none) H4) (EL p) bs/\σ'=[~~~a,~~~l,~~~q,~~~b,z3,z4,z5,z6]) (λN hN=>?_) ?_
    ·dsimp?[NN];exact⟨p,wF _ _ hq,gp,c1,λb H4 bs s4 hb ab=>hN _ _ ⟨s4,b,bs,hb,ab,rfl⟩⟩
    intro _ H4 du;symm;obtain⟨RA,b,bs,hb,ab,rfl⟩:=du;nofun;have lb:=ab.length;unfold EL at lb;rw[aaj,lq] at lb;have hl:=RA _ _ hl;have al:=al.imp λ_ _ h=>TR.mono RA h;subst_vars;refine dq (λσ' H5=>aB H4 H5/\∃m,H4 m=none/\H5 m=some (.lst [])/\σ'=[~~~a,~~~l,~~~q,~~~b,~~~m,z4,z5,z6]) (λN hN=>?_) ?_
    ·dsimp?[];exact⟨aas _,λm nm=>hN _ _ ⟨aj nm,m,nm,ai,rfl⟩⟩
    intro _ H5 du;symm;obtain⟨XI,m,nm,Z0,rfl⟩:=du;nofun;subst_vars;refine dq (λσ' H6=>aB H4 H6/\∃ys,H6 m=some (.lst ys)/\Al (TR H H6) (jj (eC (ps.take i)) p) ys/\∃z4 z5 z6,σ'=[~~~a,~~~l,~~~q,~~~b,~~~m,z4,z5,z6]) (λN hN=>?_) ?_
    ·dsimp?[];refine⟨⟨_,bw.of (XI _ _ hl)⟩,bN (src_list (Ok:=aB H4) (λH2 s2=>bw.of (s2 _ _ hl)))
      (λj σ H6=>aB H4 H6/\∃ys z4 z5 z6,H6 m=some (.lst ys)/\ys.length=j*cnt p/\Al (TR H (df H6 m)) (jj ((eC (ps.take i)).take j) p) ys/\σ=[~~~a,~~~l,~~~q,~~~b,~~~m,z4,z5,z6])
      ⟨XI,[],_,_,_,Z0,by simp,trivial,rfl⟩ (λ_ _ _ _ h=>h.1) ?_ ?_⟩
     ·intro j x σ H6 H7 hj fm fo;symm;obtain⟨DC,ys,z4,z5,z6,Ik,ly,ay,rfl⟩:=fm;obtain⟨rfl,ex⟩:=fo;obtain⟨r,er,t,fq,rfl,ht,Uc,nfq⟩:=al.get ex;nofun;have Bw:=zD g.1 i ⋯ r (aay er);have ht:=DC _ _ ht;have Uc:=DC _ _ Uc;have XJ:=DC _ _ hb;have b0:=mR g i;refine⟨t,_,rfl,jD.of ht,rfl,_,_,rfl,_,_,rfl,_,_,rfl,rfl,?_⟩;dsimp?[tK];refine⟨.inl ⟨rfl,_,bw.of Ik⟩,⟨_,bw.of XJ⟩,?_⟩;refine comp_map (src_list (λH2 s2=>bw.of (s2 _ _ XJ))) (λ_ _ _ _ h=>by rw[h.1];exact aB.refl _) ⋯ (λk y H8=>∀u,(EL p)[k]?=some u->TR H (df H8 m) (r.1++u.1,r.2.1+u.2.1,r.2.2*u.2.2) y) (λk y H8 H9 s9 h u e=>(h u e).mono (gU s9)) ?_ ?_
      ·rintro k x w0 H8 H9 Q2 hk s8 ⟨rfl,ex⟩ kq;symm;obtain⟨u,eu,c,d,rfl,hc,hd,_⟩:=ab.get ex;nofun;have XM:=s8 _ _ (DC _ _ hc);have Z1:=s8 _ _ (DC _ _ hd);have Ud:=s8 _ _ Uc;have lu:u.1.length<=7:=by
        have hu:=aay eu;unfold EL at hu;symm;obtain⟨f,hf,rfl⟩:=abt.mp hu;nofun;exact aau (lA gp f hf).2 (pY gp)
       dsimp?[B7,XM,Z1,Ud];refine⟨by rw[aaj,aaj];lia,λa1 n1=>?_⟩;have s9:=aj (o:=.lst (List.map V.int r.1++List.map V.int u.1)) n1;simp only[s9 _ _ XM];refine⟨_,rfl,_,at1,_,rfl,_,rfl,_,at2,_,rfl,bE ⋯ ⋯,∅,λt2 zQ qG XN Rx=>kq _ _ (s9.trans qG) λu' XO=>?_⟩;rw[eu] at XO;cases XO;have Z2:=s9 _ _ (s8 _ _ Ik);refine⟨t2,a1,rfl,?_,?_,?_⟩
       ·rw[cQ (λe=>by rw[e,Z2] at XN;cases XN),Rx,aa7]
       ·rw[cQ (λe=>by rw[e,s8 _ _ Ik] at n1;cases n1),qG _ _ ai,aaq]
       ·exact none_of (wF.trans (RA.trans (DC.trans s8))) n1
      ·intro zs H8 s8 lz hz D n1 n2;have Z3:=s8 _ _ Ik;have jm:j*cnt p+cnt p<=iU ((ps.take i).map cnt)*cnt p:=by
        rw[<-Nat.succ_mul];exact Nat.mul_le_mul_right _ ⋯
       refine⟨_,aj n2 _ _ Z3,_,ai,⋯,?_⟩;have s9:aB H7 (upd H8 D (.lst zs)):=s8.trans (aj n2);refine⟨cF (DC.trans s9) nm,_,ai,by rw[aat,ly,lz,lb,Nat.succ_mul],?_,_,rfl⟩;rw[zE,aaK,er];unfold jj;rw[List.flatMap_append];refine Al.append (ay.imp λ_ _ h=>h.mono (gU s9)) ?_;simp only[Option.toList,List.flatMap_cons,List.flatMap_nil,aa0];refine Al.of (by rw[aaj];unfold EL;rw[aaj,lq];lia) λk y v e1 e2=>?_;rw[aal] at e2;symm;obtain⟨u,eu,rfl⟩:=abq.mp e2;nofun;exact(hz _ _ e1 u eu).mono (gU (aj n2))
     ·intro σ H6 du;symm;obtain⟨DC,ys,z4,z5,z6,Ik,ly,ay,rfl⟩:=du;nofun;refine hN _ _ ⟨DC,ys,Ik,?_,_,_,_,rfl⟩;rw[lx,<-oK,aaz (aam _)] at ay;exact ay.imp λ_ _ h=>h.mono dr
    intro _ H6 du;symm;obtain⟨DC,ys,Ik,ay,z4,z5,z6,rfl⟩:=du;nofun;dsimp?[];rw[es];exact⟨wF.trans (RA.trans DC),m,_,Ik,ay,rfl,_,rfl⟩
   ·intro σ H2 du;symm;obtain⟨wF,l,xs,z1,z2,z3,z4,z5,z6,hl,al,rfl⟩:=du;nofun;rw[lv,aaz (aam _)] at al;exact hN _ _ ⟨wF,l,xs,hl,al,_,_,_,_,_,_,rfl⟩
  intro _ H2 du;symm;obtain⟨wF,l,xs,hl,al,z1,z2,z3,z4,z5,z6,rfl⟩:=du;nofun;dsimp?[];exact kk _ _ _ wF hl al
theorem jQ:aV ["pool","found","common","part"] ["pool"] (au (top 38)):=.mk
theorem Oc (T:0|||0):(6<<<"pool_table") ["pool"] NQ:=by
 have kr:=Ob T;have eg:=DA T;have yq:=NY T;refine T.t8.dE (λ_ _ _ _ _ _=>gq λ_=>rfl) λf fd F=>F.d4 jQ (λvs H Q E h=>?_) (λbR A outer s H vs Q E hr h=>?_)
 ·obtain⟨_,rfl,_⟩:=nM h;rfl
 ·symm;obtain⟨a,rfl,ps,hp,gl,l4,kk⟩:=nM h;nofun;clear G_;have nd:=jQ.nd;refine⟨_,(ag (aK (i:=1) (aN kr (aa (pv 0) af)))
  (ag (aK (i:=2) ae)
  (ag (b6 PassesOwn.never rfl (bh (K:=K) (pv 0)) (a5 (i:=3) nd rfl (.inl rfl)) (aq (aK (i:=2) (aJ bj (pv 2) (aN eg (aa (pv 3) af))))))
  (aq (aQ (aN yq (aa (b5 rfl (N:=["pool","found","common","part"]) (so:=au (top 38)) (N':=["faces","value","bottom","common"]) (k:=3) (fr:=[2]) rfl rfl ⟨rfl,∅,∅,∅,rfl,∅,∅⟩ (bh (K:=K) (pv 1)) (λ_ _ _ _ _=>(e8 (K:=K) (n:=3) rfl (bK (a5 (i:=0) (show(["faces","value","bottom","common"]:List Str).Nodup by ac_rfl) rfl (.inl rfl)) (bK (a5 (i:=1) (show(["faces","value","bottom","common"]:List Str).Nodup by ac_rfl) rfl (.inl rfl)) (bK (a5 (i:=2) (show(["faces","value","bottom","common"]:List Str).Nodup by ac_rfl) rfl (.inl rfl)) eW))))) (λ_ _ _ _ _=>cV)
   (λ_ _ _ _ _=>(a9 (aa (pv 1) (aa (aJ kP (pv 3) (pv 2)) af))))) af))))))),?_⟩
  refine(?_:let bO:TS:=_;let bP:TS:=_;let bQ:TS:=_;let cO:TS:=_;tSeq bO (tSeq bP (tSeq bQ cO)) _ _ _);intro bO bP bQ cO;have sl:=sizeLine_eq;have gm:=wc gl;symm;obtain⟨vs,ha,ap⟩:=id hp;nofun;clear G_;have lv:=ap.length;subst_vars;refine dq (λσ' H1=>aB H H1/\∃l xs,H1 l=some (.lst xs)/\Al (TR H H1) (eC ps) xs/\σ'=[~~~a,~~~l,none,none]) (λN hN=>?_) ?_
  ·dsimp?[NO];exact⟨ps,hp,gm,l4,λl H1 xs s1 hl al=>hN _ _ ⟨s1,l,xs,hl,al,rfl⟩⟩
  intro _ H1 du;symm;obtain⟨ER,l,xs,hl,al,rfl⟩:=du;nofun;clear G_;have lx:=al.length;rw[oK] at lx;subst_vars;refine dq (λσ' H2=>H1=H2/\σ'=[~~~a,~~~l,1⁻¹,none]) (λN hN=>?_) ?_
  ·dsimp?[];exact hN _ _ ⟨rfl,rfl⟩
  rintro _ _ ⟨rfl,rfl⟩;subst_vars;refine dq (λσ' H2=>H1=H2/\∃z,σ'=[~~~a,~~~l,some (.int (iU (ps.map bot):Int)),z]) (λN hN=>?_) ?_
  ·dsimp?[];refine⟨⟨_,bw.of (ER _ _ ha)⟩,bN (src_list (Ok:=λH'=>H1=H') (λH' e=>by subst e;exact bw.of (ER _ _ ha))) (λi σ H'=>H1=H'/\∃z,σ=[~~~a,~~~l,some (.int (iU ((ps.take i).map bot):Int)),z]) ⟨rfl,_,rfl⟩ (λ_ _ _ _ h=>h.1) ?_ ?_⟩
   ·intro i x σ H' nO hi fm fo;symm;obtain⟨rfl,z,rfl⟩:=fm;obtain⟨rfl,ex⟩:=fo;obtain⟨p,ep,q,rfl,hq⟩:=ap.get ex;nofun;obtain⟨DB,xo⟩:=abr.mp ep;symm;obtain⟨gp,c1,b1⟩:=mS gm (aay ep);nofun;have b0:=mR gm i;dsimp?[Dp];refine⟨p,ER _ _ hq,gp,b1,bE ⋯ ⋯,?_,_,rfl⟩;rw[take_snoc DB,xo,aaq,aak,aaU,gX,aa7]
   ·intro σ H' du;symm;obtain⟨rfl,z,rfl⟩:=du;nofun;rw[lv,aaz (aam _)];exact hN _ _ ⟨rfl,_,rfl⟩
  intro _ _ du;symm;obtain⟨rfl,z,rfl⟩:=du;have c0:=gm.2.1;have bW:=gm.2.2;obtain⟨Z4,Z5,Z6,_⟩:=uq ps gl;nofun;clear G_;have dv:∀r∈eC ps,1<=r.2.2/\r.2.2<=iU (ps.map bot):=λr Bw=>by
   have:=zD gm.1 ps.length (aam _) r (by rw[aaz (aam _)];exact Bw);rw[aaz (aam _)] at this;exact this.2
  have nb:=Ky gl;have Z7:Gb (iU (ps.map bot)) (eC ps)=zF ps:=rfl;generalize hW:iU (ps.map bot)=W at *;dsimp?[ND];refine⟨⟨_,bw.of hl⟩,?_⟩;refine A2 (K:=K) (src_list (λH2 s2=>bw.of (s2 _ _ hl))) (λi u v b' H2=>∃r,(eC ps)[i]?=some r/\v=.int r.2.1/\b'=.int (r.2.2:Int)) ?_ ⋯
   (λi y H2=>∀r,(eC ps)[i]?=some r->Rep H2 (dA (r.2.1,((W / r.2.2:Nat):Int))) y) (λi y H2 H3 s3 h r e=>(h r e).mono s3) ?_ ?_
  ·rintro i x H2 H3 hi s2 ⟨rfl,ex⟩;symm;obtain⟨r,er,t,q,rfl,ht,hq,nq⟩:=al.get ex;nofun;exact⟨aB.refl _,t,_,_,_,rfl,jD.of (s2 _ _ ht),r,er,rfl,rfl⟩
  ·intro i u v b' H2 Q2 hi s2 Z8 kq;symm;obtain⟨r,er,rfl,rfl⟩:=Z8;nofun;have hb:=dv r (aay er);dsimp?[];refine⟨kO.of (n:=64) ⋯ (Bt.of 1000000 ⋯ ⋯),∅,λt H3 s3 nt e3=>kq _ _ s3 λr' Il=>?_⟩;rw[er] at Il;cases Il;rw[<-Int.natCast_ediv] at e3;exact b7.mpr ⟨t,rfl,e3⟩
  ·intro ys H2 s2 ly hy D n1 n2;have rp:Rep (upd H2 D (.lst ys)) (CM (zF ps)) (.ref D):=by
    rw[<-Z7];refine ba.mpr ⟨D,ys,rfl,ai,bg.of ?_ λi dd v e1 e2=>?_⟩
    ·unfold Gb;rw[aaj,aaj,ly,lx,<-oK]
    ·unfold Gb at e1;rw[aal,aal] at e1;symm;obtain⟨p,ep,rfl⟩:=abq.mp e1;obtain⟨r,er,rfl⟩:=abq.mp ep;nofun;exact(hy i v e2 r er).mono (aj n2)
   have sD:aB H (upd H2 D (.lst ys)):=ER.trans (s2.trans (aj n2));exact⟨zF ps,rp,Z5,λx hx=>(Z4 x hx).2,Z6,λb=>absurd b nb,λ_ p H' s' np r'=>kk p H' (sD.trans s') (none_of sD np) r'⟩
theorem nQ:aV ["rows"] ["rows"] (au (top 40)):=.mk
theorem Od (T:0|||0):(1<<<"own_rows") ["rows"] sG:=by
 refine T.yg.dE (λ_ _ _ _ _ _=>gq λ_=>rfl) λf fd F=>F.d4 nQ (λvs H Q E h=>?_) (λbR A outer s H vs Q E hr h=>?_)
 ·obtain⟨_,rfl,_⟩:=HR h;rfl
 ·symm;obtain⟨v,rfl,X,sx,rs,rp,lr,ll,kk⟩:=HR h;nofun;have nd:=nQ.nd;refine⟨_,(aq (aQ (b5 rfl (N:=["rows"]) (so:=au (top 40)) (N':=["row"]) (k:=1) (fr:=[]) rfl rfl ⟨rfl,∅,∅,∅,rfl,∅,∅⟩ (bh (K:=K) (pv 0)) (λ_ _ _ _ _=>(a5 (i:=0) (show(["row"]:List Str).Nodup by ac_rfl) rfl (.inl rfl))) (λ_ _ _ _ _=>cV)
   (λ_ _ _ _ _=>(a9 (aa (av ao (pv 0) ae) (aa (av ao (pv 0) ae) (aa (cX (d7 (K:=K)) (by rfl) T.z_list rfl (aa (av ao (pv 0) ae) af)) (aa (av ao (pv 0) ae) af))))))))),?_⟩
  have sl:=sizeLine_eq;symm;obtain⟨l,xs,rfl,hl,rl⟩:=ba.mp rp;nofun;have hl:=sx _ _ hl;have len:=rl.length;rw[aaj] at len;dsimp?[];refine⟨⟨_,bw.of hl⟩,?_⟩;refine comp_map (src_list (K:=K) (λH' s'=>bw.of (s' _ _ hl))) (λ_ _ _ _ h=>by rw[h.1];exact aB.refl _) ⋯ (λi y H4=>∀r,rs[i]?=some r->Rep (nw H X H4) (p6 r) y) (λi y H4 H5 s5 h r e=>(h r e).mono (lG s5)) ?_ ?_
  ·rintro i x w0 H4 H5 Q2 hi s4 ⟨rfl,ex⟩ kq;symm;obtain⟨d,ed,rd⟩:=rl.get ex;rw[aal] at ed;obtain⟨r,er,rfl⟩:=abq.mp ed;obtain⟨p,a,b,c,d,rfl,hp,ra,rb,rc,Z9⟩:=dF.mp rd;obtain⟨c',cs',rfl,hc,oM⟩:=ba.mp rc;nofun;have hp:=s4 _ _ (sx _ _ hp);have hc:=s4 _ _ (sx _ _ hc);dsimp?[hp];refine⟨_,.inl (bw.of hc),λm nm=>⟨_,aj nm _ _ hp,_,rfl,∅,λt H6 s6 nt e6=>kq _ _ ((aj nm).trans s6) λr' Il=>?_⟩⟩;rw[er] at Il;cases Il;have sn:aB X (nw H X H6):=jK sx;have Ue:=none_of s4 nm;have nt0:=none_of (s4.trans (aj nm)) nt;exact dF.mpr ⟨t,_,_,_,_,rfl,by rw[cf nt0];exact e6,ra.mono sn,rb.mono sn,ba.mpr ⟨m,cs',rfl,by rw[cf Ue];exact s6 _ _ ai,oM.mono sn⟩,Z9.mono sn⟩
  ·intro ys H5 s5 ly hy D n1 n2;refine kk D _ (s5.trans (aj n2)) (ba.mpr ⟨D,ys,rfl,by rw[cf (none_of s5 n2)];exact ai,bg.of (by rw[aaj];lia) λi dd u e1 e2=>?_⟩);rw[aal] at e1;symm;obtain⟨r,er,rfl⟩:=abq.mp e1;nofun;exact(hy i u e2 r er).mono (lG (aj n2))
theorem nR:aV ["what"] ["what"] (au (top 41)):=.mk
theorem Oe (T:0|||0):(2<<<"own_what") ["what"] Ii:=by
 have qg:=Od T;refine T.yh.dE (λ_ _ _ _ _ _=>gq λ_=>rfl) λf fd F=>F.d4 nR (λvs H Q E h=>?_) (λbR A outer s H vs Q E hr h=>?_)
 ·obtain⟨_,rfl,_⟩:=HR h;rfl
 ·symm;obtain⟨v,rfl,X,sx,x,rp,cs,gd,kk⟩:=HR h;nofun;have nd:=nR.nd;refine⟨_,(ag (bc (aL bq (av ao (pv 0) ae) aZ (aR _)) (aq (aQ (a9 (aa aZ (aa (cX (d7 (K:=K)) (by rfl) T.z_list rfl (aa (av ao (pv 0) ae) af)) (aa (av ao (pv 0) ae) (aa (aN qg (aa (av ao (pv 0) ae) af)) af)))))))
   aX)
  (ag (bc (aL bq (av ao (pv 0) ae) aZ (aR _)) (aq (aQ (a9 (aa aZ (aa (av ao (pv 0) ae) (aa (aN qg (aa (av ao (pv 0) ae) af)) af))))))
   aX)
  (aq (aQ (pv 0))))),?_⟩
  refine(?_:let bO:TS:=_;let bP:TS:=_;let bQ:TS:=_;tSeq bO (tSeq bP bQ) _ _ _);intro bO bP bQ;have sl:=sizeLine_eq;cases x with
  | ask c k a b=>
   symm;obtain⟨p,x1,x2,x3,x4,x5,rfl,hp,r1,r2,r3,r4,r5⟩:=uu.mp (show Rep X (.tup _) v from rp);rw[aT] at r1;subst r1;nofun;dsimp?[sG,sx _ _ hp];rw[if_neg ∅,if_neg ∅];exact kk _ _ (aB.refl _) (rp.mono (jK sx))
  | fin t b=>
   symm;obtain⟨p,x1,x2,rfl,hp,r1,r2⟩:=bI.mp (show Rep X (.tup _) v from rp);rw[aT] at r1;subst r1;nofun;dsimp?[sG,sx _ _ hp];rw[if_neg ∅,if_neg ∅];exact kk _ _ (aB.refl _) (rp.mono (jK sx))
  | score c=>
   symm;obtain⟨p,x1,x2,rfl,hp,r1,r2⟩:=bI.mp (show Rep X (.tup _) v from rp);rw[aT] at r1;subst r1;nofun;dsimp?[sG,sx _ _ hp];rw[if_neg ∅,if_neg ∅];exact kk _ _ (aB.refl _) (rp.mono (jK sx))
  | pick w rs=>
   symm;obtain⟨p,x1,x2,x3,rfl,hp,r1,r2,r3⟩:=eE.mp (show Rep X (.tup _) v from rp);rw[aT] at r1;subst r1;nofun;dsimp?[sG,sx _ _ hp];rw[if_neg ∅];obtain⟨g1,g2⟩:=gd;refine⟨X,sx,_,r3,by rw[aaj];exact g1,λr Bw=>?_,λm H1 s1 rm=>⟨∅,λt H2 s2 nt e2=>kk _ _ (s1.trans s2) ?_⟩⟩
   ·symm;obtain⟨r0,h0,rfl⟩:=abt.mp Bw;nofun;show(r0.ds.map zH).length<=100;rw[aaj];exact(g2 r0 h0).1
   ·exact eE.mpr ⟨t,_,_,_,rfl,by rw[cf (none_of s1 nt)];exact e2,aT.mpr rfl,r2.mono (jK sx),rm.mono (lG s2)⟩
  | eC di t b rs=>
   symm;obtain⟨p,x1,x2,x3,x4,rfl,hp,r1,r2,r3,r4⟩:=dF.mp (show Rep X (.tup _) v from rp);rw[aT] at r1;subst r1;nofun;have hp:=sx _ _ hp;dsimp?[sG,hp];symm;obtain⟨g1,g2,g3⟩:=gd;obtain⟨l2,Of,rfl,nE,rl2⟩:=ba.mp r2;nofun;refine⟨_,rfl,_,.inl (bw.of (sx _ _ nE)),λm nm=>?_⟩;have sm:=aj (o:=.lst Of) nm;have snm:aB (nw H X (upd H m (.lst Of))) (upd H m (.lst Of)):=KD sx sm;refine⟨_,sm _ _ hp,_,rfl,_,sm _ _ hp,_,rfl,nw H X (upd H m (.lst Of)),snm,_,r4.mono (jK sx),by rw[aaj];exact g2,λr Bw=>?_,λn H1 s1 rn=>⟨∅,λt H2 s2 nt e2=>kk _ _ (sm.trans (s1.trans s2)) ?_⟩⟩
   ·symm;obtain⟨r0,h0,rfl⟩:=abt.mp Bw;nofun;show(r0.2.2.1.map zH).length<=100;rw[aaj];exact(g3 r0 h0).1
   ·rw[NV sm s1] at rn;exact dF.mpr ⟨t,_,_,_,_,rfl,by rw[cf (none_of (sm.trans s1) nt)];exact e2,aT.mpr rfl,ba.mpr ⟨m,Of,rfl,by rw[cf nm];exact s2 _ _ (s1 _ _ ai),rl2.mono (jK sx)⟩,r3.mono (jK sx),rn.mono (lG s2)⟩
theorem jR:aV ["self","counts","spot","number"] ["self","counts","spot","number"] (au (inClass (top 42) 1)):=.mk
theorem KE (T:0|||0):dB P w K mg base (cu P w) 1 ah "put" ["self","counts","spot","number"] (wq ah):=by
 refine T.rk.dE (λ_ _ _ _ _ _=>uk λ_ _ _ _=>rfl) λf fd F=>F.d4 jR (λvs H Q E h=>?_) (λbR A outer s H vs Q E hr h=>?_)
 ·obtain⟨_,_,_,_,rfl,_⟩:=h;rfl
 ·symm;obtain⟨c,l,i,k,rfl,g,⟨dx,sp,mo,wh,tb,us,ft,h1,h2,h3,h4,h5,h6⟩,ns,hl,il,ln,kk⟩:=h;nofun;have nd:=jR.nd;refine⟨_,(aq (xq (aY (fO rfl) (by rfl) T.z_min rfl (aa (pv 3) (aa (av a6 (bp (pv 0) rfl) (pv 2)) af))) (BN (pv 1) (pv 2) set_list))),?_⟩;have h1:=dr _ _ h1;have h3:=dr _ _ h3;dsimp?[dC];refine⟨_,_,_,h1,T.aW,T.na_Course_mosts,_,Ia,_,rfl,_,h3,_,Gh il,_,rfl,_,hl,_,zM (by rw[aaj];lia),?_⟩;rw[<-List.map_set];have e:(if most g.cs i<k then most g.cs i else k)=min k (most g.cs i):=⋯
  rw[e];exact kk
theorem lI:aV ["self","counts","deed","value","spot","other"] ["self","counts","deed","value"] (au (inClass (top 42) 2)):=.mk
theorem Og (T:0|||0):dB P w K mg base (cu P w) 2 ah "do" ["self","counts","deed","value"] (NR ah):=by
 have fN:=KE T;refine T.uj.dE (λ_ _ _ _ _ _=>uk λ_ _ _ _=>rfl) λf fd F=>F.d4 lI (λvs H Q E h=>?_) (λbR A outer s H vs Q E hr h=>?_)
 ·obtain⟨_,_,_,_,rfl,_⟩:=Dh h;rfl
 ·symm;obtain⟨c,l,dv,v,rfl,g,co,ns,hl,d,rd,gd,ln,kk⟩:=Dh h;nofun;have nd:=lI.nd;refine⟨_,(ag (aK (i:=4) (cB (ck hr) (bp (pv 0) rfl) (av ao (pv 2) ae) (λ_ _=>rfl)))
  (aq (bc (aL bq (av ao (pv 2) ae) aZ (aR _)) (aq (bU (c4 fN T.aW (pv 0) (aa (pv 1) (aa (pv 4) (aa (av ao (pv 2) ae) af))))))
   (aq (bc (aL bq (av ao (pv 2) ae) aZ (aR _)) (aq (bU (c4 fN T.aW (pv 0) (aa (pv 1) (aa (pv 4) (aa (aJ aS (av a6 (pv 1) (pv 4)) (av ao (pv 2) ae)) af))))))
   (aq (bc (aL bq (av ao (pv 2) ae) aZ (aR _)) (aq (bU (c4 fN T.aW (pv 0) (aa (pv 1) (aa (pv 4) (aa (aJ aS (av a6 (pv 1) (pv 4)) (pv 3)) af))))))
   (ag (aK (i:=5) (cB (ck hr) (bp (pv 0) rfl) (av ao (pv 2) ae) (λ_ _=>rfl)))
  (ag (bU (c4 fN T.aW (pv 0) (aa (pv 1) (aa (pv 5) (aa (aJ aS (av a6 (pv 1) (pv 5)) (av a6 (pv 1) (pv 4))) af)))))
  (aq (xq ae (BN (pv 1) (pv 4) set_list)))))))))))),?_⟩
  symm;obtain⟨dx,sp,mo,wh,tb,us,ft,h1,h2,h3,h4,h5,h6⟩:=id co;nofun;have h1:=dr _ _ h1;have h2:=dr _ _ h2;have lp:∀{a b c d e:V},List.lookup (aai "put") [(aai "spots",a),(aai "mosts",b),(aai "first",c),(aai "whats",d),(aai "tables",e)]=none:=d9 (by ac_rfl) (by ac_rfl) (by ac_rfl) (by ac_rfl) (by ac_rfl);cases d with
  | set n k=>
   symm;obtain⟨p,x1,x2,x3,rfl,hp,r1,r2,r3⟩:=eE.mp (show Rep (df H l) (.tup _) dv from rd);rw[aT] at r1 r2;rw[bD] at r3;subst r1 r2 r3;nofun;have hp:=dr _ _ hp;have sl:=fM (cs:=g.cs) gd;subst_vars;refine dq (λσ' H'=>H=H'/\σ'=[~~~c,~~~l,~~~p,v⁻¹,some (.int ((bG g.cs n:Nat):Int)),none]) (λN hN=>by dsimp?[dC,hp];exact⟨_,_,_,h1,T.aW,T.na_Course_spots,_,jJ,_,rfl,_,ip h2 gd,hN _ _ ⟨rfl,rfl⟩⟩) ?_;rintro _ _ ⟨rfl,rfl⟩;refine dJ (λY N k=>by dsimp?[hp];first | exact k | (rw[if_pos (by ac_rfl)];exact k)) ?_;dsimp?[dC,bS,wq,hp];exact⟨_,_,h1,lp,_,rfl,_,co,_,hl,sl,ln,kk⟩
  | plus n k=>
   symm;obtain⟨p,x1,x2,x3,rfl,hp,r1,r2,r3⟩:=eE.mp (show Rep (df H l) (.tup _) dv from rd);rw[aT] at r1 r2;rw[bD] at r3;subst r1 r2 r3;nofun;have hp:=dr _ _ hp;have sl:=fM (cs:=g.cs) gd;subst_vars;refine dq (λσ' H'=>H=H'/\σ'=[~~~c,~~~l,~~~p,v⁻¹,some (.int ((bG g.cs n:Nat):Int)),none]) (λN hN=>by dsimp?[dC,hp];exact⟨_,_,_,h1,T.aW,T.na_Course_spots,_,jJ,_,rfl,_,ip h2 gd,hN _ _ ⟨rfl,rfl⟩⟩) ?_;rintro _ _ ⟨rfl,rfl⟩;refine cG (λY N k=>by dsimp?[hp];first | exact k | (rw[if_neg (by ac_rfl)];exact k)) (dJ (λY N k=>by dsimp?[hp];first | exact k | (rw[if_pos (by ac_rfl)];exact k)) ?_);dsimp?[dC,bS,wq,hp];exact⟨_,_,h1,lp,_,hl,_,e9 ⋯,_,rfl,_,rfl,_,co,_,hl,sl,ln,kk⟩
  | face n=>
   symm;obtain⟨p,x1,x2,rfl,hp,r1,r2⟩:=bI.mp (show Rep (df H l) (.tup _) dv from rd);rw[aT] at r1 r2;subst r1 r2;nofun;have hp:=dr _ _ hp;have sl:=fM (cs:=g.cs) gd;subst_vars;refine dq (λσ' H'=>H=H'/\σ'=[~~~c,~~~l,~~~p,v⁻¹,some (.int ((bG g.cs n:Nat):Int)),none]) (λN hN=>by dsimp?[dC,hp];exact⟨_,_,_,h1,T.aW,T.na_Course_spots,_,jJ,_,rfl,_,ip h2 gd,hN _ _ ⟨rfl,rfl⟩⟩) ?_;rintro _ _ ⟨rfl,rfl⟩;refine cG (λY N k=>by dsimp?[hp];first | exact k | (rw[if_neg (by ac_rfl)];exact k)) (cG (λY N k=>by dsimp?[hp];first | exact k | (rw[if_neg (by ac_rfl)];exact k)) (dJ (λY N k=>by dsimp?[hp];first | exact k | (rw[if_pos (by ac_rfl)];exact k)) ?_));dsimp?[dC,bS,wq,hp];exact⟨_,_,h1,lp,_,hl,_,e9 ⋯,_,rfl,_,rfl,_,co,_,hl,sl,ln,kk⟩
  | move n m=>
   symm;obtain⟨p,x1,x2,x3,rfl,hp,r1,r2,r3⟩:=eE.mp (show Rep (df H l) (.tup _) dv from rd);rw[aT] at r1 r2 r3;subst r1 r2 r3;nofun;have hp:=dr _ _ hp;have sl:=fM (cs:=g.cs) gd.1;have AS:=fM (cs:=g.cs) gd.2;subst_vars;refine dq (λσ' H'=>H=H'/\σ'=[~~~c,~~~l,~~~p,v⁻¹,some (.int ((bG g.cs n:Nat):Int)),none]) (λN hN=>by dsimp?[dC,hp];exact⟨_,_,_,h1,T.aW,T.na_Course_spots,_,jJ,_,rfl,_,ip h2 gd.1,hN _ _ ⟨rfl,rfl⟩⟩) ?_;rintro _ _ ⟨rfl,rfl⟩;refine cG (λY N k=>by dsimp?[hp];first | exact k | (rw[if_neg (by ac_rfl)];exact k)) (cG (λY N k=>by dsimp?[hp];first | exact k | (rw[if_neg (by ac_rfl)];exact k)) (cG (λY N k=>by dsimp?[hp];first | exact k | (rw[if_neg (by ac_rfl)];exact k)) ?_));dsimp?[dC,bS,wq,hp];refine⟨_,_,_,h1,T.aW,T.na_Course_spots,_,jJ,_,rfl,_,ip h2 gd.2,_,_,h1,lp,_,rfl,_,hl,_,e9 ⋯,_,hl,_,e9 ⋯,_,rfl,_,rfl,_,rfl,_,co,_,hl,AS,ln,_,ai,_,zM (by rw[aaj,iV];lia),?_⟩;rw[yO,<-List.map_set];exact kk
theorem iB:aV ["self","name","counts","what"] ["self","name","counts"] (au (inClass (top 42) 3)):=.mk
theorem DD (T:0|||0):dB P w K mg base (cu P w) 1 ah "asked" ["self","name","counts"] (Du ah):=by
 refine T.ou.dE (λ_ _ _ _ _ _=>rC λ_ _ _=>rfl) λf fd F=>F.d4 iB (λvs H Q E h=>?_) (λbR A outer s H vs Q E hr h=>?_)
 ·obtain⟨_,_,_,rfl,_⟩:=HN h;rfl
 ·symm;obtain⟨c,nm,l,rfl,g,co,gg,ns,hl,ln,fu,fF,ak,kk⟩:=HN h;nofun;clear G_;have nd:=iB.nd;refine⟨_,(ag (aK (i:=3) (cB (ck hr) (bp (pv 0) rfl) (pv 1) (λ_ _=>rfl)))
  (ag (kI PassesOwn.never (aL bq (av ao (pv 3) ae) aZ (aR _)) (ag (aK (i:=1) (gL (aL yT (av a6 (pv 2) (cB (ck hr) (bp (pv 0) rfl) (av ao (pv 3) ae) (λ_ _=>rfl))) (av ao (pv 3) ae) (aR _)) (av ao (pv 3) ae) (av ao (pv 3) ae)))
  (aq (aK (i:=3) (cB (ck hr) (bp (pv 0) rfl) (pv 1) (λ_ _=>rfl))))))
  (aq (aQ (a9 (aa (pv 1) (aa (pv 2) af))))))),?_⟩
  refine(?_:let bO:TS:=_;let bP:TS:=_;let bQ:TS:=_;tSeq bO (tSeq bP bQ) _ _ _);intro bO bP bQ;symm;obtain⟨dx,sp,mo,wh,tb,us,ft,h1,h2,h3,h4,h5,h6⟩:=id co;nofun;clear G_;dsimp?[dC];cases fu with
  | zero=>cases ak
  | succ fu=>
   rcases h5.val (n:=nm) with ⟨x,u,lk,vl,rx⟩ | ⟨lk,vl⟩
   ·refine⟨_,_,_,h1,T.aW,T.na_Course_whats,_,zL,_,rfl,_,.inl ⟨_,Sum.inr nm,.inl h4,rfl,vl.symm⟩,?_⟩;refine zN (λm σ H'=>H=H'/\∃nm x u,dW g ns (m+1) nm=some fF/\look g.ps nm=some x/\Rep H (jI x) u/\σ=[some (V.ref c),some (V.str nm),some (V.ref l),some u]) (m:=fu) ⟨rfl,nm,x,u,ak,lk,rx,rfl⟩ ?_;clear ak lk rx vl;intro m σ H' Gn;symm;obtain⟨rfl,nm,x,u,ak,lk,rx,rfl⟩:=Gn;nofun;have gx:=gg.wt _ (cZ lk);rw[dW,lk] at ak;have fin:∀{p:Addr} {xs:List V} {y:Str},u=.ref p->H p=some (.tup (.str y::xs))->y≠aai "ask"->nm=fF->∃b:Bool,(∀Q:Bool->Hp->Prop,Q b H->tTest (tOp rEq (tOp rIxTH (tVar 3) (tC (V.int 0))) (tC (V.str "ask"))) [some (V.ref c),some (V.str nm),some (V.ref l),some u] H Q)/\b=false:=by
     intro p xs y e hp ny _;refine⟨false,λQ q=>?_,rfl⟩;subst e;dsimp?[hp];rw[decide_eq_false ny];exact q
    cases x with
    | ask c' k a b=>
     symm;obtain⟨p,x1,x2,x3,x4,x5,rfl,hp,r1,r2,r3,r4,r5⟩:=uu.mp (show Rep H (.tup _) u from rx);rw[aT] at r1 r2 r4 r5;rw[bD] at r3;subst r1 r2 r3 r4 r5;nofun;refine⟨true,λQ q=>?_,?_⟩
     ·dsimp?[hp];rw[decide_eq_true trivial];exact q
     ·rw[if_pos rfl];have hs:=fM (cs:=g.cs) gx;have step:∀y,dW g ns m y=some fF->∃m' x u,m'<m/\dW g ns (m'+1) y=some fF/\look g.ps y=some x/\Rep H (jI x) u/\jt H wh (.str y) (some u):=by
       intro y hy;cases m with
       | zero=>cases hy
       | succ m'=>
        rcases h5.val (n:=y) with ⟨x,u,dZ,vl,rx'⟩ | ⟨dZ,vl⟩
        ·exact⟨m',x,u,aa4 _,hy,dZ,rx',.inl ⟨_,Sum.inr y,.inl h4,rfl,vl.symm⟩⟩
        ·rw[dW,dZ] at hy;cases hy
      have ak:(if k<=ns.getD (bG g.cs c') 0 then dW g ns m a else dW g ns m b)=some fF:=ak;dsimp?[dC,hp];refine⟨_,_,_,h1,T.aW,T.na_Course_spots,_,jJ,_,rfl,_,ip h2 gx,_,rfl,_,hl,_,e9 ⋯,_,rfl,eI (λc1=>?_) (λc1=>?_)⟩
      ·rw[if_pos c1] at ak;symm;obtain⟨m',x,u,l1,l2,l3,l4,l5⟩:=step a ak;nofun;refine⟨_,rfl,_,_,_,h1,T.aW,T.na_Course_whats,_,zL,_,rfl,_,l5,?_⟩;exact⟨m',l1,a,l2,x,l3,u,l4,rfl,rfl⟩
      ·rw[if_neg c1] at ak;symm;obtain⟨m',x,u,l1,l2,l3,l4,l5⟩:=step b ak;nofun;refine⟨_,rfl,_,_,_,h1,T.aW,T.na_Course_whats,_,zL,_,rfl,_,l5,?_⟩;exact⟨m',l1,b,l2,x,l3,u,l4,rfl,rfl⟩
    | fin t b=>
     symm;obtain⟨p,x1,x2,rfl,hp,r1,r2⟩:=bI.mp (show Rep H (.tup _) u from rx);rw[aT] at r1;subst r1;have e:nm=fF:=by injection ak
     obtain⟨b',k1,rfl⟩:=fin rfl hp ∅ e;nofun;refine⟨false,k1,?_⟩;rw[if_neg ∅];dsimp?[];exact⟨∅,λp H2 s2 np e2=>kk p H2 s2 np (by rw[<-e];exact e2)⟩
    | score c'=>
     symm;obtain⟨p,x1,x2,rfl,hp,r1,r2⟩:=bI.mp (show Rep H (.tup _) u from rx);rw[aT] at r1;subst r1;have e:nm=fF:=by injection ak
     obtain⟨b',k1,rfl⟩:=fin rfl hp ∅ e;nofun;refine⟨false,k1,?_⟩;rw[if_neg ∅];dsimp?[];exact⟨∅,λp H2 s2 np e2=>kk p H2 s2 np (by rw[<-e];exact e2)⟩
    | pick w' rs=>
     symm;obtain⟨p,x1,x2,x3,rfl,hp,r1,r2,r3⟩:=eE.mp (show Rep H (.tup _) u from rx);rw[aT] at r1;subst r1;have e:nm=fF:=by injection ak
     obtain⟨b',k1,rfl⟩:=fin rfl hp ∅ e;nofun;refine⟨false,k1,?_⟩;rw[if_neg ∅];dsimp?[];exact⟨∅,λp H2 s2 np e2=>kk p H2 s2 np (by rw[<-e];exact e2)⟩
    | eC di t b rs=>
     symm;obtain⟨p,x1,x2,x3,x4,rfl,hp,r1,r2,r3,r4⟩:=dF.mp (show Rep H (.tup _) u from rx);rw[aT] at r1;subst r1;have e:nm=fF:=by injection ak
     obtain⟨b',k1,rfl⟩:=fin rfl hp ∅ e;nofun;refine⟨false,k1,?_⟩;rw[if_neg ∅];dsimp?[];exact⟨∅,λp H2 s2 np e2=>kk p H2 s2 np (by rw[<-e];exact e2)⟩
   ·rw[dW,lk] at ak;cases ak
theorem iC:aV ["self","when","counts","number"] ["self","when","counts"] (au (inClass (top 42) 9)):=.mk
theorem KG (T:0|||0):dB P w K mg base (cu P w) 1 ah "holds" ["self","when","counts"] (HZ ah):=by
 refine T.ox.dE (λ_ _ _ _ _ _=>rC λ_ _ _=>rfl) λf fd F=>F.d4 iC (λvs H Q E h=>?_) (λbR A outer s H vs Q E hr h=>?_)
 ·obtain⟨_,_,_,rfl,_⟩:=HQ h;rfl
 ·symm;obtain⟨c,v,l,rfl,g,co,ns,wh',rv,hl,ln,kk⟩:=HQ h;nofun;have nd:=iC.nd;refine⟨_,(ag (bc (aL sZ (pv 1) fi (aR _)) (aq (aQ iA))
   aX)
  (ag (bc (BK (rZ (ck hr) (av ao (pv 1) ae) (bp (pv 0) rfl))) (aq (aQ iA))
   aX)
  (ag (aK (i:=3) (av a6 (pv 2) (cB (ck hr) (bp (pv 0) rfl) (av ao (pv 1) ae) (λ_ _=>rfl))))
  (aq (aQ (gL (aL bq (av ao (pv 1) ae) aZ (aR _)) (eX yT (pv 3) (av ao (pv 1) ae) (aR _)) (eX vf (pv 3) (av ao (pv 1) ae) (aR _)))))))),?_⟩
  refine(?_:let bO:TS:=_;let bP:TS:=_;let bQ:TS:=_;let cO:TS:=_;tSeq bO (tSeq bP (tSeq bQ cO)) _ _ _);intro bO bP bQ cO;symm;obtain⟨dx,sp,mo,wh,tb,us,ft,h1,h2,h3,h4,h5,h6⟩:=id co;nofun;cases wh' with
  | none=>
   have e:v=.bZ:=by rw[KA,Rep] at rv;exact rv
   subst e;dsimp?[];exact kk
  | some x=>
   symm;obtain⟨a,b,k⟩:=x;obtain⟨p,x1,x2,x3,rfl,hp,r1,r2,r3⟩:=eE.mp (show Rep H (.tup _) v from rv);rw[aT] at r1 r2;rw[bD] at r3;subst r1 r2 r3;nofun;dsimp?[dC,hp];rw[if_neg (by intro z;cases z)]
   by_cases hn:a∈g.cs.map (·.1)
   ·have hs:=fM hn;refine⟨_,_,_,h1,T.aW,T.na_Course_spots,_,jJ,_,rfl,_,ip h2 hn,?_⟩;rw[if_neg (by simp)];refine⟨_,_,_,h1,T.aW,T.na_Course_spots,_,jJ,_,rfl,_,ip h2 hn,_,rfl,_,hl,_,e9 ⋯,?_⟩;have kk:Q (.bl (if a∈g.cs.map (·.1) then (if b=aai "from" then decide (k<=ns.getD (bG g.cs a) 0) else decide (ns.getD (bG g.cs a) 0<k)) else false)) H:=kk;rw[if_pos hn] at kk
    by_cases c1:b=aai "from"
    ·rw[if_pos c1] at kk ⊢;exact⟨_,rfl,kk⟩
    ·rw[if_neg c1] at kk ⊢;exact⟨_,rfl,kk⟩
   ·refine⟨_,_,_,h1,T.aW,T.na_Course_spots,_,jJ,_,rfl,_,.inl ⟨_,Sum.inr a,.inl h2,rfl,rfl⟩,?_⟩;rw[p8 hn,if_pos (by rfl)];have kk:Q (.bl (if a∈g.cs.map (·.1) then (if b=aai "from" then decide (k<=ns.getD (bG g.cs a) 0) else decide (ns.getD (bG g.cs a) 0<k)) else false)) H:=kk;rw[if_neg hn] at kk;exact kk
theorem iD:aV ["self"] ["self"] (au (inClass (top 42) 4)):=.mk
theorem KH (T:0|||0):dB P w K mg base (cu P w) 2 ah "start" ["self"] (HY ah):=by
 have fX:=DD T;refine T.oy.dE (λ_ _ _ _ _ _=>gq λ_=>rfl) λf fd F=>F.d4 iD (λvs H Q E h=>?_) (λbR A outer s H vs Q E hr h=>?_)
 ·obtain⟨_,rfl,_⟩:=nM h;rfl
 ·symm;obtain⟨c,rfl,g,co,gg,fu,ft,hf,fF,ak,kk⟩:=nM h;nofun;have nd:=iD.nd;refine⟨_,(aq (aQ (c4 fX T.aW (pv 0) (aa (bp (pv 0) rfl) (aa (aJ JI (bH (aa ae af)) (aY bF (by rfl) T.z_len aaA (aa (bp (pv 0) rfl) af))) af))))),?_⟩;have sl:=sizeLine_eq;have lc:=gg.lc;symm;obtain⟨dx,sp,mo,wh,tb,us,By,h1,h2,h3,h4,h5,h6⟩:=id co;nofun;rw[h6] at hf;cases hf;have lp:∀{a b c d e:V},List.lookup (aai "asked") [(aai "spots",a),(aai "mosts",b),(aai "first",c),(aai "whats",d),(aai "tables",e)]=none:=d9 (by ac_rfl) (by ac_rfl) (by ac_rfl) (by ac_rfl) (by ac_rfl);dsimp?[dC,bS,Du,MS];refine⟨_,_,h1,lp,_,_,_,h1,T.aW,T.na_Course_first,_,NS,by decide,λp np=>?_⟩;have RB:=aj (o:=.lst [V.int 0]) np;refine⟨_,_,_,RB _ _ h1,T.aW,T.na_Course_mosts,_,Ia,_,rfl,_,RB _ _ h3,_,ai,by simp only[aaj];lia,by simp only[aaj];lia,by simp only[aaj,aaw,List.length_nil];lia,λl nl=>?_⟩;have el:(aby (((List.map V.int (List.map (λx=>x.snd) g.cs)).length:Nat):Int).toNat [V.int 0]).flatten=List.map V.int (aby g.cs.length 0):=by rw[Dx,aaF,aaj,aaj]
  rw[el];have MF:=RB.trans (aj (o:=.lst (List.map V.int (aby g.cs.length 0))) nl);exact⟨_,rfl,g,co.mono MF,gg,_,ai,by simp,fu,fF,ak,λa H' s' na e'=>kk a l H' (MF.trans s') (none_of MF na) (none_of RB nl) e' (s' _ _ ai)⟩
theorem gC:aV ["self","state"] ["self","state"] (au (inClass (top 42) 5)):=.mk
theorem ku (T:0|||0):dB P w K mg base (cu P w) 1 ah "what_at" ["self","state"] (lE ah):=by
 refine T.lh.dE (λ_ _ _ _ _ _=>dQ λ_ _=>rfl) λf fd F=>F.d4 gC (λvs H Q E h=>?_) (λbR A outer s H vs Q E hr h=>?_)
 ·obtain⟨_,_,rfl,_⟩:=jx h;rfl
 ·symm;obtain⟨c,v,rfl,H0,s0,g,co,nm,ns,⟨a,l,rfl,ha,hl⟩,x,lk,kk⟩:=jx h;nofun;have nd:=gC.nd;refine⟨_,(aq (aQ (cB (ck hr) (bp (pv 0) rfl) (av ao (pv 1) ae) (λ_ _=>rfl)))),?_⟩;symm;obtain⟨dx,sp,mo,wh,tb,us,By,h1,h2,h3,h4,h5,h6⟩:=id co;nofun;dsimp?[dC,ha];rcases h5.val (n:=nm) with ⟨x',u,dZ,vl,rx⟩ | ⟨dZ,vl⟩
  ·rw[lk] at dZ;cases dZ;exact⟨_,_,_,s0 _ _ h1,T.aW,T.na_Course_whats,_,zL,_,rfl,_,.inl ⟨_,Sum.inr nm,.inl (s0 _ _ h4),rfl,vl.symm⟩,kk u rx⟩
  ·rw[lk] at dZ;cases dZ
theorem gZ:aV ["self","state","row","value","counts","deed"] ["self","state","row","value"] (au (inClass (top 42) 6)):=.mk
theorem DE (T:0|||0):dB P w K mg base (cu P w) 3 ah "by_row" ["self","state","row","value"] (Dv ah):=by
 have wG:=Og T;have fX:=DD T;refine T.mP.dE (λ_ _ _ _ _ _=>uk λ_ _ _ _=>rfl) λf fd F=>F.d4 gZ (λvs H Q E h=>?_) (λbR A outer s H vs Q E hr h=>?_)
 ·obtain⟨_,_,_,_,rfl,_⟩:=Dj h;rfl
 ·symm;obtain⟨c,sv,rv,v,rfl,g,co,gg,nm,ns,⟨sa,l,rfl,gn,hl⟩,a,b,ds,to,rr,gd,ld,ln,fu,fF,ak,kk⟩:=Dj h;nofun;have nd:=gZ.nd;refine⟨_,(ag (aK (i:=4) (cX (d7 (K:=K)) (by rfl) T.z_list rfl (aa (av ao (pv 1) ae) af)))
  (ag (b6 PassesOwn.never rfl (bh (K:=K) (av ao (pv 2) ae)) (a5 (i:=5) nd rfl (.inl rfl)) (aq (bU (c4 wG T.aW (pv 0) (aa (pv 4) (aa (pv 5) (aa (pv 3) af)))))))
  (aq (aQ (c4 fX T.aW (pv 0) (aa (av ao (pv 2) ae) (aa (pv 4) af))))))),?_⟩
  refine(?_:let bO:TS:=_;let bP:TS:=_;let bQ:TS:=_;tSeq bO (tSeq bP bQ) _ _ _);intro bO bP bQ;have sl:=sizeLine_eq;have lc:=gg.lc;symm;obtain⟨dx,sp,mo,wh,tb,us,By,h1,h2,h3,h4,h5,h6⟩:=id co;obtain⟨rp,x1,x2,x3,x4,rfl,XQ,r1,r2,r3,r4⟩:=dF.mp (show Rep H (.tup _) rv from rr);rw[aT] at r4;subst r4;obtain⟨dl,eU,rfl,Oh,Gp⟩:=ba.mp r3;nofun;have lp:∀{a b c d e:V},List.lookup (aai "asked") [(aai "spots",a),(aai "mosts",b),(aai "first",c),(aai "whats",d),(aai "tables",e)]=none:=d9 (by ac_rfl) (by ac_rfl) (by ac_rfl) (by ac_rfl) (by ac_rfl);have Bg:∀{a b c d e:V},List.lookup (aai "do") [(aai "spots",a),(aai "mosts",b),(aai "first",c),(aai "whats",d),(aai "tables",e)]=none:=d9 (by ac_rfl) (by ac_rfl) (by ac_rfl) (by ac_rfl) (by ac_rfl);refine aP (λN=>∀H1 m,H m=none->aB H H1->df H1 m=H->H1 m=some (.lst (List.map V.int ns))->N [~~~c,~~~sa,~~~rp,v⁻¹,~~~m,none] H1) (λN hN=>?_) ?_
  ·dsimp?[gn];exact⟨_,.inl (bw.of hl),λm nm=>hN _ m nm (aj nm) (by rw[wu,Dw nm]) ai⟩
  rintro H1 m Ue s1 hh hm;have Gq:=Gp.length;rw[aaj] at Gq;refine aP (λN=>∀H2,df H2 m=H->H2 m=some (.lst (List.map V.int (ds.foldl (iI g.cs v) ns)))->∀z,N [~~~c,~~~sa,~~~rp,v⁻¹,~~~m,z] H2) (λN hN=>?_) ?_
  ·dsimp?[s1 _ _ XQ];refine⟨⟨_,bw.of (s1 _ _ Oh)⟩,bN (src_list (Ok:=λH'=>df H' m=H) (λH' e=>bw.of (qb e _ _ Oh))) (λi σ H'=>df H' m=H/\H' m=some (.lst (List.map V.int ((ds.take i).foldl (iI g.cs v) ns)))/\∃z,σ=[~~~c,~~~sa,~~~rp,v⁻¹,~~~m,z]) ⟨hh,by rw[List.take_zero];exact hm,_,rfl⟩ (λ_ _ _ _ h=>h.1) ?_ ?_⟩
   ·intro i x σ H3 H2 hi fm fo;symm;obtain⟨e2,mK,z,rfl⟩:=fm;obtain⟨rfl,ex⟩:=fo;obtain⟨dd,ed,rd⟩:=Gp.get ex;rw[aal] at ed;obtain⟨d,e0,rfl⟩:=abq.mp ed;nofun;have s2:=qb e2;dsimp?[bS,NR];refine⟨_,_,s2 _ _ h1,Bg,g,by rw[e2];exact co,_,mK,d,by rw[e2];exact rd,gd d (aay e0),by rw[c5];exact ln,by rw[wu];exact e2,?_,_,rfl⟩;rw[ai,aaK,e0,Option.toList_some,List.foldl_append];rfl
   ·intro σ H2 du;symm;obtain⟨e2,mK,z,rfl⟩:=du;nofun;rw[<-Gq,aaz (aam _)] at mK;exact hN _ e2 mK _
  rintro H2 e2 mK z;have s2:=qb e2;have lns:(ds.foldl (iI g.cs v) ns).length=g.cs.length:=by rw[c5];exact ln
  dsimp?[bS,Du,s2 _ _ XQ];exact⟨_,_,s2 _ _ h1,lp,_,rfl,_,rfl,g,co.mono s2,gg,_,mK,lns,fu,fF,ak,λa H' s' na e'=>kk a m H' (s2.trans s') (none_of s2 na) Ue e' (s' _ _ mK)⟩
theorem fI:aV ["self","state","what"] ["self","state"] (au (inClass (top 42) 10)):=.mk
theorem DF (T:0|||0):dB P w K mg base (cu P w) 2 ah "open_rows" ["self","state"] (Dy ah):=by
 have bo:=ku T;have qh:=KG T;refine T.jA.dE (λ_ _ _ _ _ _=>dQ λ_ _=>rfl) λf fd F=>F.d4 fI (λvs H Q E h=>?_) (λbR A outer s H vs Q E hr h=>?_)
 ·obtain⟨_,_,rfl,_⟩:=jx h;rfl
 ·symm;obtain⟨c,v,rfl,H0,s0,g,XR,gg,nm,ns,st,ln,x,lk,kk⟩:=jx h;nofun;have co:=XR.mono s0;have nd:=fI.nd;refine⟨_,(ag (aK (i:=2) (c4 bo T.aW (pv 0) (aa (pv 1) af)))
  (ag (bc (aL pe (av ao (pv 2) ae) aZ (aR _)) (aq (aQ (bH af)))
   aX)
  (aq (aQ (b5 rfl (N:=["self","state","what"]) (so:=au (inClass (top 42) 10)) (N':=["row","self","state"]) (k:=1) (fr:=[0,1]) rfl rfl ⟨rfl,∅,∅,∅,rfl,∅,∅⟩ (bh (K:=K) (av ao (pv 2) ae)) (λ_ _ _ _ _=>(a5 (i:=0) (show(["row","self","state"]:List Str).Nodup by ac_rfl) rfl (.inl rfl))) (λ_ _ _ _ _=>(eZ (iM (c4 qh T.aW (pv 1) (aa (av ao (pv 0) ae) (aa (av ao (pv 2) ae) af))))))
   (λ_ _ _ _ _=>(pv 0))))))),?_⟩
  refine(?_:let bO:TS:=_;let bP:TS:=_;let bQ:TS:=_;tSeq bO (tSeq bP bQ) _ _ _);intro bO bP bQ;have sl:=sizeLine_eq;symm;obtain⟨dx,sp,mo,wh,tb,us,By,h1,h2,h3,h4,h5,h6⟩:=id co;obtain⟨sa,l,rfl,gn,hl⟩:=id st;nofun;have lp:∀{a b c d e:V},List.lookup (aai "what_at") [(aai "spots",a),(aai "mosts",b),(aai "first",c),(aai "whats",d),(aai "tables",e)]=none:=d9 (by ac_rfl) (by ac_rfl) (by ac_rfl) (by ac_rfl) (by ac_rfl);have Bg:∀{a b c d e:V},List.lookup (aai "holds") [(aai "spots",a),(aai "mosts",b),(aai "first",c),(aai "whats",d),(aai "tables",e)]=none:=d9 (by ac_rfl) (by ac_rfl) (by ac_rfl) (by ac_rfl) (by ac_rfl);have gx:=gg.wt _ (cZ lk);refine aP (λN=>∀u,Rep H0 (jI x) u->N [~~~c,~~~sa,some u] H) (λN hN=>?_) ?_
  ·dsimp?[bS,lE];exact⟨_,_,h1,lp,H0,s0,g,XR,nm,ns,st,x,lk,λu ru=>hN u ru⟩
  rintro u ru;cases x with
  | pick w' rs=>
   symm;obtain⟨p,x1,x2,x3,rfl,hp,r1,r2,r3⟩:=eE.mp (show Rep H0 (.tup _) u from ru);rw[aT] at r1;subst r1;obtain⟨rl,xs,rfl,rJ,zR⟩:=ba.mp r3;have len:=zR.length;rw[aaj,aaj] at len;obtain⟨g1,g2⟩:=gx;nofun;have zl:(xs.zip rs).length=xs.length:=by rw[aa9];lia
   dsimp?[s0 _ _ hp];refine⟨⟨_,bw.of (s0 _ _ rJ)⟩,?_⟩;have S:Src (uU K rl) (aB H) xs.length _:=src_list (λH' s'=>bw.of (s' _ _ (s0 _ _ rJ)));rw[<-zl] at S;refine dP (xs.zip rs) (λx=>if km g.cs ns x.2.wh=true then some x.1 else none) S (λ_ _ _ _ h=>h.1) ⋯ ?_ ?_
   ·rintro i ⟨x,r⟩ y Oi ⟨_,ey⟩ Y N y1 y2;obtain⟨e1,e2⟩:=List.getElem?_zip_eq_some.mp Oi;rw[e1] at ey;cases ey;symm;obtain⟨r',p',a',b',c',d',er,rfl,mE,rb,_⟩:=lF zR e1;nofun;rw[e2] at er;cases er;dsimp?[bS,HZ,s0 _ _ mE,gn];exact⟨_,_,h1,Bg,g,co,ns,_,rb.mono s0,hl,ln,eI (λc=>y1 _ (if_pos c)) (λc=>y2 (if_neg c))⟩
   ·intro D n1 n2;exact kk D _ _ (aj n2) n2 ai (iq zR)
  | ask _ _ _ _=>
   symm;obtain⟨p,x1,x2,x3,x4,x5,rfl,hp,r1,r2,r3,r4,r5⟩:=uu.mp (show Rep H0 (.tup _) u from ru);rw[aT] at r1;subst r1;nofun;dsimp?[s0 _ _ hp];rw[if_pos ∅];exact⟨aas _,λD nD=>kk D _ _ (aj nD) nD ai (bA.mpr rfl)⟩
  | fin _ _=>
   symm;obtain⟨p,x1,x2,rfl,hp,r1,r2⟩:=bI.mp (show Rep H0 (.tup _) u from ru);rw[aT] at r1;subst r1;nofun;dsimp?[s0 _ _ hp];rw[if_pos ∅];exact⟨aas _,λD nD=>kk D _ _ (aj nD) nD ai (bA.mpr rfl)⟩
  | score _=>
   symm;obtain⟨p,x1,x2,rfl,hp,r1,r2⟩:=bI.mp (show Rep H0 (.tup _) u from ru);rw[aT] at r1;subst r1;nofun;dsimp?[s0 _ _ hp];rw[if_pos ∅];exact⟨aas _,λD nD=>kk D _ _ (aj nD) nD ai (bA.mpr rfl)⟩
  | eC _ _ _ _=>
   symm;obtain⟨p,x1,x2,x3,x4,rfl,hp,r1,r2,r3,r4⟩:=dF.mp (show Rep H0 (.tup _) u from ru);rw[aT] at r1;subst r1;nofun;dsimp?[s0 _ _ hp];rw[if_pos ∅];exact⟨aas _,λD nD=>kk D _ _ (aj nD) nD ai (bA.mpr rfl)⟩
theorem fY:aV ["self","state"] ["self","state"] (au (inClass (top 42) 11)):=.mk
theorem KI (T:0|||0):dB P w K mg base (cu P w) 3 ah "words_at" ["self","state"] (Ib ah):=by
 have eF:=DF T;refine T.kl.dE (λ_ _ _ _ _ _=>dQ λ_ _=>rfl) λf fd F=>F.d4 fY (λvs H Q E h=>?_) (λbR A outer s H vs Q E hr h=>?_)
 ·obtain⟨_,_,rfl,_⟩:=jx h;rfl
 ·symm;obtain⟨c,v,rfl,g,co,gg,nm,ns,st,ln,x,lk,kk⟩:=jx h;nofun;clear G_;have nd:=fY.nd;refine⟨_,(aq (aQ (b5 rfl (N:=["self","state"]) (so:=au (inClass (top 42) 11)) (N':=["row"]) (k:=1) (fr:=[]) rfl rfl ⟨rfl,∅,∅,∅,rfl,∅,∅⟩ (bh (K:=K) (c4 eF T.aW (pv 0) (aa (pv 1) af))) (λ_ _ _ _ _=>(a5 (i:=0) (show(["row"]:List Str).Nodup by ac_rfl) rfl (.inl rfl))) (λ_ _ _ _ _=>cV)
   (λ_ _ _ _ _=>(av ao (pv 0) ae))))),?_⟩
  have sl:=sizeLine_eq;symm;obtain⟨dx,sp,mo,wh,tb,us,By,h1,h2,h3,h4,h5,h6⟩:=id co;nofun;clear G_;have lp:∀{a b c d e:V},List.lookup (aai "open_rows") [(aai "spots",a),(aai "mosts",b),(aai "first",c),(aai "whats",d),(aai "tables",e)]=none:=d9 (by ac_rfl) (by ac_rfl) (by ac_rfl) (by ac_rfl) (by ac_rfl);have gx:=gg.wt _ (cZ lk);have L7:(d8 g.cs ns x).length<=100:=by
   cases x with
   | pick w' rs=>exact aau (List.length_filter_le _ _) gx.1
   | _=>exact aas _
  dsimp?[bS,Dy];refine⟨_,_,h1,lp,H,aB.refl _,g,co,gg,nm,ns,st,ln,x,lk,λrl xs H1 s1 n1 rJ Ug=>?_⟩;generalize d8 g.cs ns x=rs at *;have zR:=Ug.mono s1;have len:=zR.length;rw[aaj,aaj] at len;have zl:(xs.zip rs).length=xs.length:=by rw[aa9];lia
  refine⟨⟨_,bw.of rJ⟩,?_⟩;have S:Src (uU K rl) (aB H1) xs.length _:=src_list (λH' s'=>bw.of (s' _ _ rJ));rw[<-zl] at S;refine dP (xs.zip rs) (λx=>some (.str x.2.word)) S (λ_ _ _ _ h=>h.1) ⋯ ?_ ?_
  ·rintro i ⟨x,r⟩ y Oi ⟨_,ey⟩ Y N y1 y2;obtain⟨e1,e2⟩:=List.getElem?_zip_eq_some.mp Oi;rw[e1] at ey;cases ey;symm;obtain⟨r',p',a',b',c',d',er,rfl,mE,rb,_⟩:=lF zR e1;nofun;rw[e2] at er;cases er;dsimp?[mC,mE];exact y1 _ rfl
  ·intro D Uh n2;have e:(xs.zip rs).filterMap (λx=>some (V.str x.2.word))=rs.map λr=>V.str r.word:=by
    rw[FL];have:(xs.zip rs).map (λx=>V.str x.2.word)=((xs.zip rs).map Prod.snd).map λr=>V.str r.word:=by rw[aaJ];rfl
    rw[this,List.map_snd_zip ⋯]
   rw[e];exact kk D _ (s1.trans (aj n2)) (none_of s1 n2) (ba.mpr ⟨D,_,rfl,ai,(sF zR).mono (aj n2)⟩)
theorem fJ:aV ["self","state","what"] ["self","state"] (au (inClass (top 42) 12)):=.mk
theorem KJ (T:0|||0):dB P w K mg base (cu P w) 2 ah "end_worth" ["self","state"] (Ic ah):=by
 have bo:=ku T;refine T.jy.dE (λ_ _ _ _ _ _=>dQ λ_ _=>rfl) λf fd F=>F.d4 fJ (λvs H Q E h=>?_) (λbR A outer s H vs Q E hr h=>?_)
 ·obtain⟨_,_,rfl,_⟩:=jx h;rfl
 ·symm;obtain⟨c,v,rfl,g,co,gg,nm,ns,st,ln,x,lk,t,b,ew,kk⟩:=jx h;nofun;have nd:=fJ.nd;refine⟨_,(ag (aK (i:=2) (c4 bo T.aW (pv 0) (aa (pv 1) af)))
  (aq (aQ (gL (aL bq (av ao (pv 2) ae) aZ (aR _)) (av ao (pv 2) ae) (a9 (aa (av a6 (av ao (pv 1) ae) (cB (ck hr) (bp (pv 0) rfl) (av ao (pv 2) ae) (λ_ _=>rfl))) (aa ae af))))))),?_⟩
  have sl:=sizeLine_eq;symm;obtain⟨dx,sp,mo,wh,tb,us,By,h1,h2,h3,h4,h5,h6⟩:=id co;obtain⟨sa,l,rfl,gn,hl⟩:=id st;nofun;have lp:∀{a b c d e:V},List.lookup (aai "what_at") [(aai "spots",a),(aai "mosts",b),(aai "first",c),(aai "whats",d),(aai "tables",e)]=none:=d9 (by ac_rfl) (by ac_rfl) (by ac_rfl) (by ac_rfl) (by ac_rfl);have gx:=gg.wt _ (cZ lk);refine aP (λN=>∀u,Rep H (jI x) u->N [~~~c,~~~sa,some u] H) (λN hN=>?_) ?_
  ·dsimp?[bS,lE];exact⟨_,_,h1,lp,H,aB.refl _,g,co,nm,ns,st,x,lk,λu ru=>hN u ru⟩
  rintro u ru;cases x with
  | fin t' b'=>
   symm;obtain⟨p,x1,x2,rfl,hp,r1,r2⟩:=bI.mp (show Rep H (.tup _) u from ru);rw[aT] at r1;subst r1;nofun;cases ew;dsimp?[dC,hp];exact kk _ _ (aB.refl _) r2
  | score c'=>
   symm;obtain⟨p,x1,x2,rfl,hp,r1,r2⟩:=bI.mp (show Rep H (.tup _) u from ru);rw[aT] at r1 r2;subst r1 r2;nofun;cases ew;have hs:=fM (cs:=g.cs) gx;dsimp?[dC,hp,gn];rw[if_neg ∅];refine⟨_,_,_,h1,T.aW,T.na_Course_spots,_,jJ,_,rfl,_,ip h2 gx,_,rfl,_,hl,_,e9 ⋯,∅,λp' H2 s2 np e2=>kk _ _ s2 (bI.mpr ⟨p',_,_,rfl,e2,bD.mpr rfl,bD.mpr rfl⟩)⟩
  | ask _ _ _ _=>cases ew
  | pick _ _=>cases ew
  | eC _ _ _ _=>cases ew
theorem Im {H X H' nO:Hp} (k:Kp H' nO):Kp (nw H X H') (nw H X nO):=λa=>by
 cases c:H a with
 | none=>rw[cf c,cf c];exact k a
 | some x=>unfold nw;rw[c];exact⟨λ_ h=>h,λ_ h=>h⟩
abbrev Io (q:Addr):Sp:=λvs H Q _=>dj vs λc gv=>dg c λc=>∃(dx:Addr),H c=some (.ins q dx [])/\∃(X:Hp),aB X H/\X c=none/\∃(g:Gm),Rep X (wj g) gv/\GoodG g/\∀tb H',(∀a o,a≠c->H a=some o->H' a=some o)->H tb=none->H' tb=some (.dK [])->Bf q (df (nw (df H c) X H') tb) c g tb->Q .bZ H'
theorem fZ:aV ["self","game","spot","count","name","what"] ["self","game"] (au (inClass (top 42) 0)):=.mk
theorem Oj (T:0|||0):zq P w K mg base (cu P w) 3 "Course" ah ["self","game"] (Io ah):=by
 have yr:=Oe T;refine T.Bc.dE (λ_ _ _ _ _ _=>dQ λ_ _=>rfl) λf fd F=>F.d4 fZ (λvs H Q E h=>?_) (λbR A outer s H vs Q E hr h=>?_)
 ·obtain⟨_,_,rfl,_⟩:=jx h;rfl
 ·symm;obtain⟨c,gv,rfl,dx,hc,X,sx,xc,g,rg,gg,kk⟩:=jx h;nofun;clear G_;have nd:=fZ.nd;refine⟨_,(ag (fS (pv 0) gO rfl)
  (ag (fS (pv 0) (bH af) rfl)
  (ag (b6 PassesOwn.never rfl (qM (K:=K) rfl T.z_enumerate (aa (av ao (pv 1) ae) af)) (e8 (K:=K) (n:=2) rfl (bK (a5 (i:=2) nd rfl (.inl rfl)) (bK (a5 (i:=3) nd rfl (.inl rfl)) eW))) (ag (eK (ck hr) (bp (pv 0) rfl) (av ao (pv 3) ae) (pv 2) rfl)
  (aq (bU (fe aaR abb abc dO.r (bp (pv 0) rfl) (aa (av ao (pv 3) ae) af))))))
  (ag (fS (pv 0) (av ao (av a6 (av ao (pv 1) ae) ae) ae) rfl)
  (ag (fS (pv 0) gO rfl)
  (ag (b6 PassesOwn.never rfl (bh (K:=K) (av ao (pv 1) ae)) (e8 (K:=K) (n:=2) rfl (bK (a5 (i:=4) nd rfl (.inl rfl)) (bK (a5 (i:=5) nd rfl (.inl rfl)) eW))) (aq (eK (ck hr) (bp (pv 0) rfl) (pv 4) (aN yr (aa (pv 5) af)) rfl)))
  (aq (fS (pv 0) gO rfl)))))))),?_⟩
  refine(?_:let bO:TS:=_;let bP:TS:=_;let bQ:TS:=_;let cO:TS:=_;let lH:TS:=_;let sI:TS:=_;let zS:TS:=_;tSeq bO (tSeq bP (tSeq bQ (tSeq cO (tSeq lH (tSeq sI zS))))) _ _ _);intro bO bP bQ cO lH sI zS;have sl:=sizeLine_eq;have np:=gg.np;have nc:=gg.nc;have lc:=gg.lc;have lpp:=gg.lp;have p0:=gg.p0;symm;obtain⟨gp,g0,g1,rfl,uX,rc,rp⟩:=bI.mp (show Rep X (.tup _) gv from rg);obtain⟨cl,uB,rfl,eN,oM⟩:=ba.mp (show Rep X (.lst _) g0 from rc);obtain⟨pl,Bz,rfl,hpl,BA⟩:=ba.mp (show Rep X (.lst _) g1 from rp);nofun;clear G_;have uX:=sx _ _ uX;have eN:=sx _ _ eN;have hpl:=sx _ _ hpl;have Ui:df H c c=none:=if_pos rfl;have DG:∀{a},H a=none->df H c a=none:=λ{a} h=>by
   unfold df
   split
   ·rfl
   ·exact h
  have rK:=oM.length;rw[aaj] at rK;have Ol:=BA.length;rw[aaj] at Ol;subst_vars;let K1:Hp->Prop:=λH1=>∀a o,a≠c->H a=some o->H1 a=some o;have kp:∀{H1},K1 H1->Kp H H1:=λ{H1} k a=>by
   by_cases z:a=c
   ·subst z;rw[hc];exact⟨(λ_ e=>by cases e),(λ_ e=>by cases e)⟩
   ·exact⟨λ_=>k _ _ z,λ_=>k _ _ z⟩
  have yt:∀{H1 a vs},K1 H1->H a=some (.tup vs)->H1 a=some (.tup vs):=λk e=>((kp k) _).1 _ e;have DH:∀{H1 a vs},K1 H1->H a=some (.lst vs)->H1 a=some (.lst vs):=λk e=>((kp k) _).2 _ e;refine aP (λN=>∀H1,K1 H1->(∃sp,sp≠c/\H sp=none/\H1 c=some (.ins ah dx [(aai "spots",.ref sp)])/\H1 sp=some (.dK []))->N [~~~c,~~~gp,none,none,none,none] H1) (λN hN=>?_) ?_
  ·dsimp?[oa,tDNewK];intro sp KL;have e1:sp≠c:=λz=>by rw[z,hc] at KL;cases KL
   refine⟨_,_,_,by rw[aD (Ne.symm e1)];exact hc,T.aW,T.na_Course_spots,∅,hN _ (λa o ac ha=>?_) ⟨sp,e1,KL,ai,by rw[aD e1,ai]⟩⟩;rw[aD ac,aD (λz=>by rw[z,KL] at ha;cases ha)];exact ha
  intro H1 k1 du;symm;obtain⟨sp,Mg,KL,Uj,Om⟩:=du;nofun;clear G_;refine aP (λN=>∀H2,K1 H2->(∃mo,mo≠c/\mo≠sp/\H mo=none/\H2 c=some (.ins ah dx [(aai "spots",.ref sp),(aai "mosts",.ref mo)])/\H2 sp=some (.dK [])/\H2 mo=some (.lst []))->N [~~~c,~~~gp,none,none,none,none] H2) (λN hN=>?_) ?_
  ·dsimp?[oa];refine⟨aas _,λmo Gr=>?_⟩;have e1:mo≠c:=λz=>by rw[z,Uj] at Gr;cases Gr
   have e2:mo≠sp:=λz=>by rw[z,Om] at Gr;cases Gr
   have n0:H mo=none:=by
    cases h0:H mo with
    | none=>rfl
    | some o=>rw[k1 _ _ e1 h0] at Gr;cases Gr
   refine⟨_,_,_,by rw[aD (Ne.symm e1)];exact Uj,T.aW,T.na_Course_mosts,by show(1:Nat)<1000;decide,hN _ (λa o ac ha=>?_) ⟨mo,e1,e2,n0,?_,by rw[aD Mg,aD (Ne.symm e2)];exact Om,by rw[aD e1,ai]⟩⟩
   ·rw[aD ac,aD (λz=>by rw[z,n0] at ha;cases ha)];exact k1 _ _ ac ha
   ·rw[ai];show some (HO.ins _ _ (if aai "spots"=aai "mosts" then _ else _))=_;rw[if_neg ∅];rfl
  intro H2 k2 du;symm;obtain⟨mo,RC,Oo,Gr,XS,Uk,Ul⟩:=du;nofun;clear G_;refine aP (λN=>∀H3,K1 H3->H3 c=some (.ins ah dx [(aai "spots",.ref sp),(aai "mosts",.ref mo)])->H3 sp=some (.dK (p7 g.cs 0))->H3 mo=some (.lst ((g.cs.map (·.2)).map V.int))->∀z1 z2,N [~~~c,~~~gp,z1,z2,none,none] H3) (λN hN=>?_) ?_
  ·dsimp?[iEnum,yt k2 uX];refine⟨⟨_,bw.of (DH k2 eN)⟩,bN (Cz (Ok:=K1) (λH' k=>bw.of (DH k eN))) (λi σ H'=>K1 H'/\H' c=some (.ins ah dx [(aai "spots",.ref sp),(aai "mosts",.ref mo)])/\H' sp=some (.dK (p7 (g.cs.take i) 0))/\H' mo=some (.lst (((g.cs.take i).map (·.2)).map V.int))/\∃z1 z2,σ=[~~~c,~~~gp,z1,z2,none,none]) ⟨k2,XS,Uk,Ul,_,_,rfl⟩ (λ_ _ _ _ h=>h.1) ?_ ?_⟩
   ·intro i x σ H3 H4 hi fm fo;symm;obtain⟨k3,Mh,yu,yv,z1,z2,rfl⟩:=fm;obtain⟨t,y,nt,rfl,ey,rfl⟩:=fo;obtain⟨d0,ed,rd⟩:=oM.get ey;rw[aal] at ed;obtain⟨cn,ec,rfl⟩:=abq.mp ed;obtain⟨cp,y1,y2,rfl,Ip,r1,r2⟩:=bI.mp (show Rep X (.tup _) y from rd);rw[aT] at r1;rw[bD] at r2;subst r1 r2;nofun;clear G_;have Ip:=sx _ _ Ip;have tk:g.cs.take (i+1)=g.cs.take i++ [cn]:=by rw[aaK,ec];rfl
    have nn:cn.1∉(g.cs.take i).map (·.1):=by
     rw[aa5];exact wy nc (by rw[aal,ec];rfl)
    have tc:t≠c:=λz=>by rw[z,Mh] at nt;cases nt
    have ts:t≠sp:=λz=>by rw[z,yu] at nt;cases nt
    have tm:t≠mo:=λz=>by rw[z,yv] at nt;cases nt
    have k4:K1 (upd H3 t (.tup [.int (i:Int),.ref cp])):=λa o ac ha=>aj nt _ _ (k3 a o ac ha);have Mi:upd H3 t (.tup [.int (i:Int),.ref cp]) c=_:=aj nt _ _ Mh;have Gs:upd H3 t (.tup [.int (i:Int),.ref cp]) sp=_:=aj nt _ _ yu;have Gu:upd H3 t (.tup [.int (i:Int),.ref cp]) mo=_:=aj nt _ _ yv;refine⟨t,_,rfl,jD.of ai,rfl,?_⟩;generalize upd H3 t (.tup [.int (i:Int),.ref cp])=H4 at *;have lsp:(p7 (g.cs.take i) 0).length<sizeLine:=by rw[zI,aaD];lia
    have k5:K1 (upd H4 sp (.dK (putK (p7 (g.cs.take i) 0) (Sum.inr cn.1) (.int (i:Int))))):=λa o ac ha=>by
     rw[aD (λz=>by rw[z,KL] at ha;cases ha)];exact k4 a o ac ha
    dsimp?[sDPut,dC,eY,yt k4 Ip];have mX:dU (p7 (g.cs.take i) 0) (Sum.inr cn.1)=none:=p8 nn;rw[jk mX] at k5;have lt:(g.cs.take i).length=i:=by rw[aaD];lia
    have Gv:∀o,upd H4 sp o mo=some (.lst (((g.cs.take i).map (·.2)).map V.int)):=λo=>by rw[aD Oo];exact Gu
    have ty:∀o,SM K "list" (.ref mo) (upd H4 sp o):=λo=>.inl ⟨rfl,_,bw.of (Gv o)⟩;refine⟨_,_,_,Mi,T.aW,T.na_Course_spots,_,aaW,_,rfl,_,.inl ⟨_,Sum.inr cn.1,Gs,rfl,lsp,rfl⟩,?_⟩;rw[jk mX];refine⟨_,_,_,by rw[aD (Ne.symm Mg)];exact Mi,T.aW,T.na_Course_mosts,_,by rw[bT ∅];exact aaW,ty _,_,yt k5 Ip,_,rfl,_,rfl,_,Gv _,by rw[aaj,aaj];lia,?_⟩;refine⟨?_,?_,?_,?_,_,rfl⟩
    ·intro a o ac ha;rw[aD (λz=>by rw[z,Gr] at ha;cases ha)];exact k5 a o ac ha
    ·rw[aD (Ne.symm RC),aD (Ne.symm Mg)];exact Mi
    ·rw[aD (Ne.symm Oo),ai,tk,wm,lt,Nat.zero_add]
    ·rw[ai,tk,aaq,aaq];rfl
   ·intro σ H3 du;symm;obtain⟨k3,Mh,yu,yv,z1,z2,rfl⟩:=du;nofun;rw[<-rK,aaz (aam _)] at yu yv;exact hN _ k3 Mh yu yv _ _
  rintro H3 k3 Mh yu yv z1 z2;obtain⟨⟨n0,x0⟩,XT⟩:∃x,g.ps[0]?=some x:=⟨_,aao p0⟩
  obtain⟨v0,ev0,Um⟩:=BA.at (by rw[aal,XT];rfl);refine aP (λN=>∀H4,K1 H4->H4 c=some (.ins ah dx [(aai "spots",.ref sp),(aai "mosts",.ref mo),(aai "first",.str n0)])->H4 sp=some (.dK (p7 g.cs 0))->H4 mo=some (.lst ((g.cs.map (·.2)).map V.int))->N [~~~c,~~~gp,z1,z2,none,none] H4) (λN hN=>?_) ?_
  ·dsimp?[oa,yt k3 uX];symm;obtain⟨q0,a1,a2,rfl,Iq,b1,_⟩:=bI.mp (show Rep X (.tup _) v0 from Um);rw[aT] at b1;subst b1;nofun;have Iq:=sx _ _ Iq;have at0:mv Bz 0=some (.ref q0):=(bM ev0:mv Bz ((0:Nat):Int)=_)
   refine⟨_,DH k3 hpl,_,at0,_,rfl,_,yt k3 Iq,_,rfl,_,_,_,Mh,T.aW,T.na_Course_first,by show(2:Nat)<1000;decide,hN _ (λa o ac ha=>?_) ?_ (by rw[aD Mg];exact yu) (by rw[aD RC];exact yv)⟩
   ·rw[aD ac];exact k3 _ _ ac ha
   ·rw[ai];show some (HO.ins _ _ (if aai "spots"=aai "first" then _ else _::(if aai "mosts"=aai "first" then _ else _)))=_;rw[if_neg (by ac_rfl),if_neg (by ac_rfl)];rfl
  rintro H4 k4 Mi Gs Gu;refine aP (λN=>∀H5,K1 H5->(∃wh,wh≠c/\wh≠sp/\wh≠mo/\H wh=none/\H5 c=some (.ins ah dx [(aai "spots",.ref sp),(aai "mosts",.ref mo),(aai "first",.str n0),(aai "whats",.ref wh)])/\H5 sp=some (.dK (p7 g.cs 0))/\H5 mo=some (.lst ((g.cs.map (·.2)).map V.int))/\H5 wh=some (.dK []))->N [~~~c,~~~gp,z1,z2,none,none] H5) (λN hN=>?_) ?_
  ·dsimp?[oa,tDNewK];intro wh DI;have e1:wh≠c:=λz=>by rw[z,Mi] at DI;cases DI
   have e2:wh≠sp:=λz=>by rw[z,Gs] at DI;cases DI
   have e3:wh≠mo:=λz=>by rw[z,Gu] at DI;cases DI
   have n0:H wh=none:=by
    cases h0:H wh with
    | none=>rfl
    | some o=>rw[k4 _ _ e1 h0] at DI;cases DI
   refine⟨_,_,_,by rw[aD (Ne.symm e1)];exact Mi,T.aW,T.na_Course_whats,by show(3:Nat)<1000;decide,hN _ (λa o ac ha=>?_) ⟨wh,e1,e2,e3,n0,?_,by rw[aD Mg,aD (Ne.symm e2)];exact Gs,by rw[aD RC,aD (Ne.symm e3)];exact Gu,by rw[aD e1,ai]⟩⟩
   ·rw[aD ac,aD (λz=>by rw[z,n0] at ha;cases ha)];exact k4 _ _ ac ha
   ·rw[ai];show some (HO.ins _ _ (if aai "spots"=aai "whats" then _ else _::(if aai "mosts"=aai "whats" then _ else _::(if aai "first"=aai "whats" then _ else _))))=_;rw[if_neg (by ac_rfl),if_neg (by ac_rfl),if_neg (by ac_rfl)];rfl
  intro H5 k5 du;symm;obtain⟨wh,XU,Uo,Up,DI,hc5,Uq,Gv,Ur⟩:=du;nofun;refine aP (λN=>∀H6,K1 H6->H6 c=some (.ins ah dx [(aai "spots",.ref sp),(aai "mosts",.ref mo),(aai "first",.str n0),(aai "whats",.ref wh)])->H6 sp=some (.dK (p7 g.cs 0))->H6 mo=some (.lst ((g.cs.map (·.2)).map V.int))->(∃us,H6 wh=some (.dK us)/\qa (nw (df H c) X H6) g.ps us)->∀z3 z4,N [~~~c,~~~gp,z1,z2,z3,z4] H6) (λN hN=>?_) ?_
  ·dsimp?[yt k5 uX];refine⟨⟨_,bw.of (DH k5 hpl)⟩,bN (src_list (Ok:=K1) (λH' k=>bw.of (DH k hpl))) (λi σ H'=>K1 H'/\H' c=some (.ins ah dx [(aai "spots",.ref sp),(aai "mosts",.ref mo),(aai "first",.str n0),(aai "whats",.ref wh)])/\H' sp=some (.dK (p7 g.cs 0))/\H' mo=some (.lst ((g.cs.map (·.2)).map V.int))/\(∃us,H' wh=some (.dK us)/\qa (nw (df H c) X H') (g.ps.take i) us)/\∃z3 z4,σ=[~~~c,~~~gp,z1,z2,z3,z4]) ⟨k5,hc5,Uq,Gv,⟨[],Ur,rfl⟩,_,_,rfl⟩ (λ_ _ _ _ h=>h.1) ?_ ?_⟩
   ·intro i x σ H7 H6 hi fm fo;symm;obtain⟨k6,Gw,Bh,Bi,⟨us,wH,wk⟩,z3,z4,rfl⟩:=fm;obtain⟨rfl,ey⟩:=fo;obtain⟨d0,ed,rd⟩:=BA.get ey;rw[aal] at ed;obtain⟨pn,ec,rfl⟩:=abq.mp ed;obtain⟨cp,y1,y2,rfl,Ip,r1,r2⟩:=bI.mp (show Rep X (.tup _) x from rd);rw[aT] at r1;subst r1;nofun;have Ip:=sx _ _ Ip;have sx6:aB X H6:=λa o h=>k6 _ _ (λz=>by rw[z,xc] at h;cases h) (sx _ _ h);have tk:g.ps.take (i+1)=g.ps.take i++ [pn]:=by rw[aaK,ec];rfl
    have nn:pn.1∉(g.ps.take i).map (·.1):=by
     rw[aa5];exact wy np (by rw[aal,ec];rfl)
    have mX:=wk.none nn;have lus:us.length<=100:=by rw[wk.len,aaD];lia
    refine⟨cp,_,rfl,jD.of (yt k6 Ip),rfl,?_⟩;dsimp?[sDPut,dC,Ii];refine⟨X,sx6,_,r2,_,gg.wt _ (aay ec),λu H7 s7 ru=>?_⟩;refine⟨_,_,_,s7 _ _ Gw,T.aW,T.na_Course_whats,_,by rw[bT ∅,bT ∅,bT ∅];exact aaW,_,rfl,_,.inl ⟨_,Sum.inr pn.1,s7 _ _ wH,rfl,⋯,rfl⟩,?_⟩;rw[jk mX];have kq:Kp H7 (upd H7 wh (.dK (us++ [(Sum.inr pn.1,u)]))):=Kp.upd (λvs e=>by rw[s7 _ _ wH] at e;cases e) (λvs e=>by rw[s7 _ _ wH] at e;cases e);refine⟨λa o ac ha=>?_,by rw[aD (Ne.symm XU)];exact s7 _ _ Gw,by rw[aD (Ne.symm Uo)];exact s7 _ _ Bh,by rw[aD (Ne.symm Up)];exact s7 _ _ Bi,⟨_,ai,?_⟩,_,rfl⟩
    ·rw[aD (λz=>by rw[z,DI] at ha;cases ha)];exact s7 _ _ (k6 _ _ ac ha)
    ·rw[tk];have kn:Kp (nw (df H c) X H7) (nw (df H c) X (upd H7 wh (.dK (us++ [(Sum.inr pn.1,u)])))):=Im kq;refine qa.snoc (kn.rep (ru.mono λa o h=>?_)) (kn.Ua (wk.mono (lG s7)));cases h6:H6 a with
     | none=>
      rw[cf h6] at h;have ac:a≠c:=λz=>by rw[z,Gw] at h6;cases h6
      have h0:H a=none:=by
       cases h0:H a with
       | none=>rfl
       | some o=>rw[k6 _ _ ac h0] at h6;cases h6
      rw[cf (DG h0)];exact h
     | some o6=>
      unfold nw at h;rw[h6] at h;exact jK (λa o hx=>by rw[cQ (λz=>by rw[z,xc] at hx;cases hx)];exact sx _ _ hx) _ _ h
   ·intro σ H6 du;symm;obtain⟨k6,Gw,Bh,Bi,⟨us,wH,wk⟩,z3,z4,rfl⟩:=du;nofun;rw[<-Ol,aaz (aam _)] at wk;exact hN _ k6 Gw Bh Bi ⟨us,wH,wk⟩ _ _
  intro H6 k6 Gw Bh Bi p5_ z3 z4;symm;obtain⟨us,wH,wk⟩:=p5_;nofun;dsimp?[oa,tDNewK];intro tb kA;have e1:tb≠c:=λz=>by rw[z,Gw] at kA;cases kA
  have e2:tb≠sp:=λz=>by rw[z,Bh] at kA;cases kA
  have e3:tb≠mo:=λz=>by rw[z,Bi] at kA;cases kA
  have e4:tb≠wh:=λz=>by rw[z,wH] at kA;cases kA
  have yw:H tb=none:=by
   cases h0:H tb with
   | none=>rfl
   | some o=>rw[k6 _ _ e1 h0] at kA;cases kA
  refine⟨_,_,_,by rw[aD (Ne.symm e1)];exact Gw,T.aW,T.na_Course_tables,by show(4:Nat)<1000;decide,kk tb _ (λa o ac ha=>?_) yw (by rw[aD e1,ai]) ⟨dx,sp,mo,wh,us,n0,?_,by rw[cQ (Ne.symm e2),cf (DG KL),aD Mg,aD (Ne.symm e2)];exact Bh,by rw[cQ (Ne.symm e3),cf (DG Gr),aD RC,aD (Ne.symm e3)];exact Bi,by rw[cQ (Ne.symm e4),cf (DG DI),aD XU,aD (Ne.symm e4)];exact wH,?_,?_⟩⟩
  ·rw[aD ac,aD (λz=>by rw[z,yw] at ha;cases ha)];exact k6 _ _ ac ha
  ·rw[cQ (Ne.symm e1),cf Ui,ai];show some (HO.ins _ _ (if aai "spots"=aai "tables" then _ else _::(if aai "mosts"=aai "tables" then _ else _::(if aai "first"=aai "tables" then _ else _::(if aai "whats"=aai "tables" then _ else _)))))=_;rw[if_neg (by ac_rfl),if_neg (by ac_rfl),if_neg (by ac_rfl),if_neg (by ac_rfl)];rfl
  ·have MH:upd H6 tb (.dK []) c=_:=(aD (Ne.symm e1)).trans Gw;refine((Im ((Kp.of (aj kA)).trans (Kp.upd (o:=_) (λvs e=>by rw[MH] at e;cases e) (λvs e=>by rw[MH] at e;cases e)))).trans (Kp.df (tb:=tb) (kvs:=[]) ?_)).Ua wk;rw[cf (DG yw),aD e1,ai]
  ·rw[List.head?_map,List.head?_eq_getElem?,XT];rfl
theorem f9:aV ["self","state"] ["self","state"] (au (inClass (top 42) 8)):=.mk
theorem wI {a b c d e:V}:List.lookup (aai "tables") [(aai "spots",a),(aai "mosts",b),(aai "first",c),(aai "whats",d),(aai "tables",e)]=some e:=by
 rw[bT ∅,bT ∅,bT ∅,bT ∅];exact aaW
theorem KN (T:0|||0):dB P w K mg base (cu P w) 7 ah "table_at" ["self","state"] (Ig ah):=by
 have bo:=ku T;have uC:=Oc T;refine T.kj.dE (λ_ _ _ _ _ _=>dQ λ_ _=>rfl) λf fd F=>F.d4 f9 (λvs H Q E h=>?_) (λbR A outer s H vs Q E hr h=>?_)
 ·obtain⟨_,_,rfl,_⟩:=jx h;rfl
 ·symm;obtain⟨c,sv,rfl,g,nm,ns,tb,co,st,kvs,sJ,XW,ps,t,b,rs,lk,gl,l4,kF,kN⟩:=jx h;nofun;have nd:=f9.nd;refine⟨_,(ag (bc (BK (rZ (ck hr) (av ao (pv 1) ae) (bp (pv 0) rfl))) (aq (eK (ck hr) (bp (pv 0) rfl) (av ao (pv 1) ae) (aN uC (aa (av ao (c4 bo T.aW (pv 0) (aa (pv 1) af)) ae) af)) rfl))
   aX)
  (aq (aQ (cB (ck hr) (bp (pv 0) rfl) (av ao (pv 1) ae) (λ_ _=>rfl))))),?_⟩
  have sl:=sizeLine_eq;symm;obtain⟨dx,sp,mo,wh,us,By,h1,h2,h3,h4,h5,h6⟩:=id co;obtain⟨sa,cl,rfl,gn,eN⟩:=id st;nofun;have Mj:=dr _ _ h1;have lp:∀{a b c d e:V},List.lookup (aai "what_at") [(aai "spots",a),(aai "mosts",b),(aai "first",c),(aai "whats",d),(aai "tables",e)]=none:=d9 (by ac_rfl) (by ac_rfl) (by ac_rfl) (by ac_rfl) (by ac_rfl);cases hv:dU kvs (Sum.inr nm) with
  | some v=>
   dsimp?[dC,gn];refine⟨_,_,_,Mj,T.aW,T.na_Course_tables,_,wI,_,rfl,_,.inl ⟨kvs,Sum.inr nm,.inl sJ,rfl,hv.symm⟩,?_⟩;rw[if_neg (by simp)];exact⟨_,_,_,Mj,T.aW,T.na_Course_tables,_,wI,_,rfl,_,.inl ⟨kvs,Sum.inr nm,.inl sJ,rfl,hv.symm⟩,kF v hv⟩
  | none=>
   dsimp?[dC,bS,gn,lE,NQ,sDPut];refine⟨_,_,_,Mj,T.aW,T.na_Course_tables,_,wI,_,rfl,_,.inl ⟨kvs,Sum.inr nm,.inl sJ,rfl,hv.symm⟩,?_⟩;rw[if_pos (by rfl)];refine⟨_,_,Mj,lp,df H tb,dr,g,co.co,nm,ns,st,_,lk,λu ru=>?_⟩;symm;obtain⟨p,x1,x2,x3,x4,rfl,hp,r1,r2,r3,r4⟩:=dF.mp (show Rep _ (.tup _) u from ru);obtain⟨a,rfl,pl⟩:=zO r2;nofun;refine⟨_,rfl,_,dr _ _ hp,_,rfl,_,rfl,ps,pl.mono dr,gl,l4,λp2 H1 s1 n1 rt=>?_⟩;have ct:c≠tb:=λz=>by rw[z] at h1;unfold df at h1;rw[if_pos rfl] at h1;cases h1
   have sat:sa≠tb:=λz=>by rw[z,sJ] at gn;cases gn
   refine⟨_,_,_,s1 _ _ Mj,T.aW,T.na_Course_tables,_,wI,_,s1 _ _ gn,_,rfl,_,rfl,_,.inl ⟨kvs,Sum.inr nm,s1 _ _ sJ,rfl,⋯,rfl⟩,?_⟩;rw[jk hv];refine⟨_,_,_,by rw[aD ct];exact s1 _ _ Mj,T.aW,T.na_Course_tables,_,wI,_,by rw[aD sat];exact s1 _ _ gn,_,rfl,_,rfl,_,.inl ⟨_,Sum.inr nm,.inl ai,rfl,?_⟩,kN hv p2 H1 s1 n1 rt⟩;rw[wB hv,if_pos rfl]
theorem gc:aV ["self","state","value","rows"] ["self","state","value"] (au (inClass (top 42) 7)):=.mk
theorem Oq (T:0|||0):dB P w K mg base (cu P w) 4 ah "by_value" ["self","state","value"] (NU ah):=by
 have bo:=ku T;have fz:=DE T;refine T.ki.dE (λ_ _ _ _ _ _=>rC λ_ _ _=>rfl) λf fd F=>F.d4 gc (λvs H Q E h=>?_) (λbR A outer s H vs Q E hr h=>?_)
 ·obtain⟨_,_,_,rfl,_⟩:=HP h;rfl
 ·symm;obtain⟨c,sv,v,rfl,g,co,gg,nm,ns,st,ln,di,t,b,rs,lk,r,ro,fu,fF,ak,kk⟩:=HP h;nofun;have nd:=gc.nd;refine⟨_,(ag (kX (i:=3) rfl nd rfl rfl (N:=["self","state","value","rows"]) (so:=au (inClass (top 42) 7)) (N':=["row","value"]) (k:=1) (fr:=[2]) rfl rfl ⟨rfl,∅,∅,∅,rfl,∅,∅⟩ (bh (K:=K) (av ao (c4 bo T.aW (pv 0) (aa (pv 1) af)) ae)) (λ_ _ _ _ _=>(a5 (i:=0) (show(["row","value"]:List Str).Nodup by ac_rfl) rfl (.inl rfl))) (λ_ _ _ _ _=>(eZ (pf nv nv (av ao (pv 0) ae) (pv 1) (av ao (pv 0) ae))))
   (λ_ _ _ _ _=>(pv 0)))
  (aq (aQ (c4 fz T.aW (pv 0) (aa (pv 1) (aa (av a6 (pv 3) ae) (aa (pv 2) af))))))),?_⟩
  have sl:=sizeLine_eq;symm;obtain⟨dx,sp,mo,wh,tb,us,By,h1,h2,h3,h4,h5,h6⟩:=id co;obtain⟨sa,cl,rfl,gn,eN⟩:=id st;obtain⟨g0,g1,g2⟩:=gg.wt _ (cZ lk);nofun;have lp:∀{a b c d e:V},List.lookup (aai "what_at") [(aai "spots",a),(aai "mosts",b),(aai "first",c),(aai "whats",d),(aai "tables",e)]=none:=d9 (by ac_rfl) (by ac_rfl) (by ac_rfl) (by ac_rfl) (by ac_rfl);have Bg:∀{a b c d e:V},List.lookup (aai "by_row") [(aai "spots",a),(aai "mosts",b),(aai "first",c),(aai "whats",d),(aai "tables",e)]=none:=d9 (by ac_rfl) (by ac_rfl) (by ac_rfl) (by ac_rfl) (by ac_rfl);refine aP (λN=>∀H1,aB H H1->∀p xs,H1 p=some (.lst xs)->bg H (((rs.filter λr=>decide (r.1<=v) && decide (v<=r.2.1)).map EO).map p6) xs->N [~~~c,~~~sa,v⁻¹,~~~p] H1) (λN hN=>?_) ?_
  ·dsimp?[bS,lE];refine⟨_,_,h1,lp,H,aB.refl _,g,co,nm,ns,st,_,lk,λu ru=>?_⟩;symm;obtain⟨p,x1,x2,x3,x4,rfl,hp,r1,r2,r3,r4⟩:=dF.mp (show Rep H (.tup _) u from ru);obtain⟨rl,xs,rfl,rJ,zR⟩:=ba.mp r4;nofun;have len:=zR.length;rw[aaj,aaj] at len;have zl:(xs.zip rs).length=xs.length:=by rw[aa9];lia
   refine⟨_,rfl,_,hp,_,rfl,_,rfl,⟨_,bw.of rJ⟩,?_⟩;have S:Src (uU K rl) (aB H) xs.length _:=src_list (λH' s'=>bw.of (s' _ _ rJ));rw[<-zl] at S;refine dP (xs.zip rs) (λx=>if (decide (x.2.1<=v) && decide (v<=x.2.2.1))=true then some x.1 else none) S (λ_ _ _ _ h=>h.1) ⋯ ?_ ?_
   ·rintro i ⟨x,r'⟩ y Oi ⟨_,ey⟩ Y N3 y1 y2;obtain⟨e1,e2⟩:=List.getElem?_zip_eq_some.mp Oi;rw[e1] at ey;cases ey;symm;obtain⟨dd,ed,rd⟩:=zR.get e1;nofun;rw[aal,aal,e2] at ed;cases ed;symm;obtain⟨p',a',b',c',d',rfl,mE,q1,q2,q3,q4⟩:=dF.mp (show Rep H (.tup _) x from rd);nofun;rw[show a'=.int r'.1 from bD.mp q1,show b'=.int r'.2.1 from bD.mp q2] at mE;dsimp?[mE]
    by_cases c1:r'.1<=v
    ·rw[if_pos c1]
     by_cases c2:v<=r'.2.1
     ·rw[if_pos c2];exact y1 _ (if_pos (by simp [c1,c2]))
     ·rw[if_neg c2];exact y2 (if_neg (by simp [c2]))
    ·rw[if_neg c1,if_neg ∅];exact y2 (if_neg (by simp [c1]))
   ·intro D n1 n2;exact hN _ (aj n2) D _ ai (mU zR)
  rintro H1 s1 p xs hp zR;have hd:(rs.filter λr=>decide (r.1<=v) && decide (v<=r.2.1)).head?=some r:=by rw[List.head?_filter];exact ro
  obtain⟨rest,er⟩:∃rest,(rs.filter λr=>decide (r.1<=v) && decide (v<=r.2.1))=r::rest:=by
   cases h:rs.filter λr=>decide (r.1<=v) && decide (v<=r.2.1) with
   | nil=>rw[h] at hd;cases hd
   | cons a l=>rw[h] at hd;cases hd;exact⟨l,rfl⟩
  rw[er] at zR;symm;obtain⟨y,ys,rfl,ry,_⟩:=aU.mp zR;have lJ:r∈rs:=aa6 ro;obtain⟨q1,q2⟩:=g2 r lJ;nofun;dsimp?[bS,Dv];refine⟨_,_,s1 _ _ h1,Bg,_,hp,_,(bM rfl:mv (y::ys) ((0:Nat):Int)=_),g,co.mono s1,gg,nm,ns,st.mono s1,_,_,r.2.2.1,r.2.2.2,ry.mono s1,q2,q1,ln,fu,fF,ak,λp' l' H' s' n1 n2 e1 e2=>kk p' l' H' (s1.trans s') (none_of s1 n1) (none_of s1 n2) e1 e2⟩
abbrev cg (L:List Addr) (H:Hp):Hp:=λa=>if a∈L then none else H a
theorem cW {L:List Addr} {H:Hp} {a:Addr} (h:a∉L):cg L H a=H a:=if_neg h
theorem gi {L:List Addr} {H:Hp} {a:Addr} {o:HO} (h:cg L H a=some o):a∉L/\H a=some o:=by
 unfold cg at h
 by_cases c:a∈L
 ·rw[if_pos c] at h;cases h
 ·rw[if_neg c] at h;exact⟨c,h⟩
theorem a8 {L:List Addr} {H:Hp}:aB (cg L H) H:=λ_ _ h=>(gi h).2
theorem DJ {L:List Addr} {H:Hp} {t:Addr} (ht:t∈L):aB (cg L H) (df H t):=λa o h=>by
 obtain⟨c,h⟩:=gi h;rw[cQ (λz=>c (by rw[z];exact ht))];exact h
abbrev K3 (p t b:Addr) (H H':Hp):Prop:=∀a o,a≠p->a≠t->a≠b->H a=some o->H' a=some o
theorem K3.of {p t b:Addr} {H H':Hp} (s:aB H H'):K3 p t b H H':=λa o _ _ _ h=>s a o h
theorem K3.trans {p t b:Addr} {H H' nO:Hp} (s:K3 p t b H H') (s':K3 p t b H' nO):K3 p t b H nO:=λa o h1 h2 h3 h=>s' a o h1 h2 h3 (s a o h1 h2 h3 h)
theorem K3.df {p t b:Addr} {L:List Addr} {H H':Hp} (k:K3 p t b H H') (hp:p∈L) (ht:t∈L) (hb:b∈L):aB (cg L H) (cg L H'):=λa o h=>by
 obtain⟨c,h⟩:=gi h;rw[cW c];exact k a o (λz=>c (by rw[z];exact hp)) (λz=>c (by rw[z];exact ht)) (λz=>c (by rw[z];exact hb)) h
theorem mY {L:List Addr} {H H':Hp} (s:aB H H'):aB (cg L H) (cg L H'):=λa o h=>by
 obtain⟨c,h⟩:=gi h;rw[cW c];exact s a o h
@[inline]abbrev uY:=Str×dR×(Int×Int)
abbrev ES (X:Hp) (e:uY) (v:V):Prop:=∃t sv pv,v=.ref t/\X t=some (.tup [.str e.1,sv,pv])/\mj X sv e.2.1.1 e.2.1.2/\Rep X (dA e.2.2) pv
theorem ES.mono {X X':Hp} {e:uY} {v:V} (s:aB X X') (h:ES X e v):ES X' e v:=by
 obtain⟨t,sv,pv,e1,h1,⟨a,l,e2,h2,h3⟩,r⟩:=h;exact⟨t,sv,pv,e1,s _ _ h1,⟨a,l,e2,s _ _ h2,s _ _ h3⟩,r.mono s⟩
abbrev kB (c sv pv tl:V):List (Str×V):=[(aai "course",c),(aai "state",sv),(aai "paid",pv),(aai "trail",tl)]
abbrev Ot (H X:Hp) (tb:Addr) (g:Gm):Prop:=∃kvs,H tb=some (.dK kvs)/\(kvs.map (·.1)).Nodup/\(∀k∈kvs.map (·.1),k∈g.ps.map λp=>(Sum.inr p.1:Key))/\∀nm v,dU kvs (Sum.inr nm)=some v->∃ps t b rs,look g.ps nm=some (.eC (ps.map qF) t b rs)/\Rep X (k7 (lB ps)) v
theorem Ot.mono {H H' X X':Hp} {tb:Addr} {g:Gm} (s:aB X X') (k:∀o,H tb=some o->H' tb=some o):Ot H X tb g->Ot H' X' tb g:=λhh=>by
 obtain⟨kvs,h1,h2,h3,h4⟩:=hh;exact⟨kvs,k _ h1,h2,h3,λnm v e=>by obtain⟨ps,t,b,rs,a,r⟩:=h4 nm v e;exact⟨ps,t,b,rs,a,r.mono s⟩⟩
structure dz (qP qC:Addr) (L:List Addr) (H:Hp) (p tl tb:Addr) (g:Gm) (st:dR) (pd:Int×Int) (tr:List uY):Prop where
 mem:p∈L/\tl∈L/\tb∈L
 al:∀a∈L,∃o,H a=some o/\∀vs,o≠.tup vs
 ex:∃dp c sv pv xs,H p=some (.ins qP dp (kB (.ref c) sv pv (.ref tl)))/\Bf qC (cg L H) c g tb/\mj (cg L H) sv st.1 st.2/\Rep (cg L H) (dA pd) pv/\H tl=some (.lst xs)/\Al (ES (cg L H)) tr xs
 Ml:Ot H (cg L H) tb g
 good:GoodG g
 len:st.2.length=g.cs.length
 Ou:∀e∈tr,e.2.1.2.length=g.cs.length
abbrev Ir (qP qC:Addr):Sp:=λvs H Q _=>dj vs λx gv=>dg x λx=>∃(dx:Addr),H x=some (.ins qP dx [])/\∃(X:Hp),aB X H/\X x=none/\∃(g:Gm),Rep X (wj g) gv/\GoodG g/\∃(f:Nat) (ft:Str),(g.ps.map (·.1)).head?=some ft/\∃(nm:Str),dW g (aby g.cs.length 0) f ft=some nm/\∀c sv pv tl tb H',(∀a o,a≠x->H a=some o->H' a=some o)->H tl=none->H tb=none->H' x=some (.ins qP dx (kB (.ref c) sv pv (.ref tl)))->H' tl=some (.lst [])->H' tb=some (.dK [])->Bf qC (cg [x,tl,tb] (nw (df H x) X H')) c g tb->mj (cg [x,tl,tb] (nw (df H x) X H')) sv nm (aby g.cs.length 0)->Rep (cg [x,tl,tb] (nw (df H x) X H')) (dA (0,1)) pv->Q .bZ H'
abbrev DK (qP qC:Addr):Sp:=λvs H Q _=>eS vs λp=>dg p λp=>∃tl tb L g st pd tr,dz qP qC L H p tl tb g st pd tr/\∀a l H',aB H H'->H a=none->H l=none->H' a=some (.tup [.str st.1,.ref l])->H' l=some (.lst (st.2.map V.int))->Q (.ref a) H'
theorem jS {a b c d:V}:List.lookup (aai "course") (kB a b c d)=some a:=aaW
theorem hG {a b c d:V}:List.lookup (aai "state") (kB a b c d)=some b:=by unfold kB;rw[bT ∅];exact aaW
theorem zU {a b c d:V}:List.lookup (aai "paid") (kB a b c d)=some c:=by unfold kB;rw[bT ∅,bT ∅];exact aaW
theorem DL {a b c d:V}:List.lookup (aai "trail") (kB a b c d)=some d:=by unfold kB;rw[bT ∅,bT ∅,bT ∅];exact aaW
theorem iY:aV ["self"] ["self"] (au (inClass (top 46) 1)):=.mk
theorem KO (T:0|||0):dB P w K mg base (cu P w) 1 aF "stands" ["self"] (DK aF ah):=by
 refine T.pX.dE (λ_ _ _ _ _ _=>gq λ_=>rfl) λf fd F=>F.d4 iY (λvs H Q E h=>?_) (λbR A outer s H vs Q E hr h=>?_)
 ·obtain⟨_,rfl,_⟩:=nM h;rfl
 ·symm;obtain⟨p,rfl,tl,tb,L,g,st,pd,tr,pl,kk⟩:=nM h;nofun;have nd:=iY.nd;refine⟨_,(aq (aQ (a9 (aa (av ao (bp (pv 0) rfl) ae) (aa (cX (d7 (K:=K)) (by rfl) T.z_list rfl (aa (av ao (bp (pv 0) rfl) ae) af)) af))))),?_⟩;symm;obtain⟨dp,c,sv,pv,xs,hp,co,⟨sa,cl,rfl,gn,eN⟩,rp,sL,al⟩:=pl.ex;nofun;have gn:=a8 _ _ gn;have eN:=a8 _ _ eN;dsimp?[dC];exact⟨_,_,_,hp,T.a7,T.na_Play_state,_,hG,sa,rfl,_,gn,_,rfl,_,_,_,hp,T.a7,T.na_Play_state,_,hG,sa,rfl,_,gn,_,rfl,cl,rfl,_,.inl (bw.of eN),λl nl=>⟨∅,λa H' s' na ha=>kk a l H' ((aj nl).trans s') (none_of (aj nl) na) nl ha (s' _ _ ai)⟩⟩
theorem hJ:aV ["self","game"] ["self","game"] (au (inClass (top 46) 0)):=.mk
theorem KP (T:0|||0):zq P w K mg base (cu P w) 5 "Play" aF ["self","game"] (Ir aF ah):=by
 have DM:=Oj T;have qi:=KH T;refine T.F4.dE (λ_ _ _ _ _ _=>dQ λ_ _=>rfl) λf fd F=>F.d4 hJ (λvs H Q E h=>?_) (λbR A outer s H vs Q E hr h=>?_)
 ·obtain⟨_,_,rfl,_⟩:=jx h;rfl
 ·symm;obtain⟨x,gv,rfl,dx,hx,X,sx,xx,g,rg,gg,fu,ft,hft,nm,ask,kk⟩:=jx h;nofun;have nd:=hJ.nd;refine⟨_,(ag (fS (pv 0) (HH DM (hr.mono ∅) rfl kR.pass (aa (pv 1) af)) rfl)
  (ag (fS (pv 0) (ik qi T.aW (bp (pv 0) rfl)) rfl)
  (ag (fS (pv 0) (a9 (aa ae (aa ae af))) rfl)
  (aq (fS (pv 0) (bH af) rfl))))),?_⟩
  refine(?_:let bO:TS:=_;let bP:TS:=_;let bQ:TS:=_;let cO:TS:=_;tSeq bO (tSeq bP (tSeq bQ cO)) _ _ _);intro bO bP bQ cO;have sl:=sizeLine_eq;let K1:Hp->Prop:=λH1=>∀a o,a≠x->H a=some o->H1 a=some o;refine aP (λN=>∀H1 c tb,K1 H1->H c=none->H tb=none->H1 x=some (.ins aF dx [(aai "course",.ref c)])->H1 tb=some (.dK [])->Bf ah (cg [x,tb] (nw (df H x) X H1)) c g tb->N [~~~x,some gv] H1) (λN hN=>?_) ?_
  ·dsimp?[oa,yU,Io];intro c dc nc Us ne;have hcx:c≠x:=λz=>by rw[z,hx] at nc;cases nc
   have hdx:dc≠x:=λz=>by rw[z,hx] at Us;cases Us
   have sc:aB H (upd (upd H dc (.own c)) c (.ins ah dc [])):=λa o h=>by
    rw[aD (λz=>by rw[z,nc] at h;cases h),aD (λz=>by rw[z,Us] at h;cases h)];exact h
   have xc:X c=none:=by
    cases h:X c with
    | none=>rfl
    | some o=>rw[sx _ _ h] at nc;cases nc
   refine⟨dc,ai,X,sx.trans sc,xc,g,rg,gg,λtb H' kH kA sJ co=>?_⟩;have MJ:H' x=some (.ins aF dx []):=kH _ _ (Ne.symm hcx) (sc _ _ hx);have yw:H tb=none:=none_of sc kA;have Ut:tb≠x:=λz=>by rw[z,hx] at yw;cases yw
   refine⟨_,_,_,MJ,T.a7,T.na_Play_course,∅,hN _ c tb (λa o ax h=>by rw[aD ax];exact kH a o (λz=>by rw[z,nc] at h;cases h) (sc _ _ h)) nc yw ai (by rw[aD Ut];exact sJ) (co.mono λa o h=>?_)⟩;obtain⟨Mm,h⟩:a≠tb/\nw (df (upd (upd H dc (.own c)) c (.ins ah dc [])) c) X H' a=some o:=by
    by_cases z:a=tb
    ·unfold df at h;rw[if_pos z] at h;cases h
    ·rw[cQ z] at h;exact⟨z,h⟩
   have go:a≠x->nw (df H x) X (upd H' x (.ins aF dx (gI (aai "course") (.ref c) []))) a=some o->cg [x,tb] (nw (df H x) X (upd H' x (.ins aF dx (gI (aai "course") (.ref c) [])))) a=some o:=λax h=>by
    rw[cW (by simp [ax,Mm])];exact h
   cases h6:df (upd (upd H dc (.own c)) c (.ins ah dc [])) c a with
   | none=>
    rw[cf h6] at h;have h0:H a=none:=by
     by_cases z:a=c
     ·rw[z];exact nc
     ·rw[cQ z] at h6;exact none_of sc h6
    have ax:a≠x:=λz=>by rw[z,hx] at h0;cases h0
    refine go ax ?_;rw[cf (by rw[cQ ax];exact h0),aD ax];exact h
   | some o6=>
    unfold nw at h;rw[h6] at h;exact go (λz=>by rw[z,xx] at h;cases h) (jK (λa o hh=>by rw[cQ (λz=>by rw[z,xx] at hh;cases hh)];exact sx _ _ hh) _ _ h)
  rintro H1 c tb k1 nc kA RD Gx Mn;have cx:c≠x:=λz=>by rw[z,hx] at nc;cases nc
  refine aP (λN=>∀H2 sv,(∀a o,a≠x->H1 a=some o->H2 a=some o)->H2 x=some (.ins aF dx [(aai "course",.ref c),(aai "state",sv)])->mj (cg [x,tb] (nw (df H x) X H2)) sv nm (aby g.cs.length 0)->N [~~~x,some gv] H2) (λN hN=>?_) ?_
  ·dsimp?[oa,bS,dC,HY];have s1:aB (cg [x,tb] (nw (df H x) X H1)) H1:=λa o h=>by
    obtain⟨fF,h⟩:=gi h;cases h6:df H x a with
    | none=>rw[cf h6] at h;exact h
    | some o6=>
     unfold nw at h;rw[h6] at h;exact k1 _ _ (λz=>by rw[z,xx] at h;cases h) (sx _ _ h)
   symm;obtain⟨dc,sp,mo,wh,us,By,h1,_⟩:=id Mn;nofun;refine⟨_,_,_,RD,T.a7,T.na_Play_course,_,aaW,c,rfl,_,_,s1 _ _ h1,d9 ∅ ∅ ∅ ∅ ∅,g,(Mn.mono s1).co,gg,fu,ft,hft,nm,ask,λa l H' s' na nl ha hl=>?_⟩;have MJ:=s' _ _ RD;have ax:a≠x:=λz=>by rw[z,RD] at na;cases na
   have lx:l≠x:=λz=>by rw[z,RD] at nl;cases nl
   have Mm:a≠tb:=λz=>by rw[z,Gx] at na;cases na
   have Uu:l≠tb:=λz=>by rw[z,Gx] at nl;cases nl
   have n0:∀{b},b≠x->H1 b=none->H b=none:=λ{b} bx h=>by
    cases h0:H b with
    | none=>rfl
    | some o=>rw[k1 _ _ bx h0] at h;cases h
   refine⟨_,_,_,MJ,T.a7,T.na_Play_state,by show(1:Nat)<1000;decide,hN _ (.ref a) (λb o bx h=>by rw[aD bx];exact s' _ _ h) ?_ ⟨a,l,rfl,?_,?_⟩⟩
   ·rw[ai];show some (HO.ins _ _ (if aai "course"=aai "state" then _ else _))=_;rw[if_neg ∅];rfl
   ·rw[cW (by simp [ax,Mm]),cf (by rw[cQ ax];exact n0 ax na),aD ax];exact ha
   ·rw[cW (by simp [lx,Uu]),cf (by rw[cQ lx];exact n0 lx nl),aD lx];exact hl
  rintro H2 sv k2 XX uV;refine aP (λN=>∀H3 pv,(∀a o,a≠x->H2 a=some o->H3 a=some o)->H3 x=some (.ins aF dx [(aai "course",.ref c),(aai "state",sv),(aai "paid",pv)])->Rep (cg [x,tb] (nw (df H x) X H3)) (dA (0,1)) pv->N [~~~x,some gv] H3) (λN hN=>?_) ?_
  ·dsimp?[oa];refine⟨∅,λr H' s' nr Bw=>?_⟩;have rx:r≠x:=λz=>by rw[z,XX] at nr;cases nr
   have Uv:=k2 _ _ (λz=>by rw[z,hx] at kA;cases kA) Gx;have rtb:r≠tb:=λz=>by rw[z,Uv] at nr;cases nr
   have nr0:H r=none:=by
    cases h0:H r with
    | none=>rfl
    | some o=>rw[k2 _ _ rx (k1 _ _ rx h0)] at nr;cases nr
   refine⟨_,_,_,s' _ _ XX,T.a7,T.na_Play_paid,by show(2:Nat)<1000;decide,hN _ (.ref r) (λb o bx h=>by rw[aD bx];exact s' _ _ h) ?_ (b7.mpr ⟨r,rfl,?_⟩)⟩
   ·rw[ai];show some (HO.ins _ _ (if aai "course"=aai "paid" then _ else _::(if aai "state"=aai "paid" then _ else _)))=_;rw[if_neg ∅,if_neg ∅];rfl
   ·rw[cW (by simp [rx,rtb]),cf (by rw[cQ rx];exact nr0),aD rx];exact Bw
  rintro H3 pv k3 XY rp3;dsimp?[oa];refine⟨aas _,λtl xi=>?_⟩;have Ov:tl≠x:=λz=>by rw[z,XY] at xi;cases xi
  have RE:∀a o,a≠x->H1 a=some o->H3 a=some o:=λa o ax h=>k3 _ _ ax (k2 _ _ ax h);have KQ:H tl=none:=by
   cases h0:H tl with
   | none=>rfl
   | some o=>rw[RE _ _ Ov (k1 _ _ Ov h0)] at xi;cases xi
  have Ow:=RE _ _ (λz=>by rw[z,hx] at kA;cases kA) Gx;have Ut:tb≠x:=λz=>by rw[z,hx] at kA;cases kA
  have EG:tb≠tl:=λz=>by rw[<-z,Ow] at xi;cases xi
  have up:∀Hk v,(∀a o,a≠x->Hk a=some o->H3 a=some o)->aB (cg [x,tb] (nw (df H x) X Hk)) (cg [x,tl,tb] (nw (df H x) X (upd (upd H3 tl (.lst [])) x v))):=λHk v kk' a o h=>by
   obtain⟨na,h⟩:=gi h;have ax:a≠x:=λz=>na (by simp [z]);have Mm:a≠tb:=λz=>na (by simp [z]);cases h6:df H x a with
   | none=>
    rw[cf h6] at h;have h3:=kk' _ _ ax h;have RF:a≠tl:=λz=>by rw[z,xi] at h3;cases h3
    rw[cW (by simp [ax,RF,Mm]),cf h6,aD ax,aD RF];exact h3
   | some o6=>
    have RF:a≠tl:=λz=>by rw[z,cQ Ov,KQ] at h6;cases h6
    rw[cW (by simp [ax,RF,Mm])];unfold nw at h ⊢;rw[h6] at h ⊢;exact h
  refine⟨_,_,_,by rw[aD (Ne.symm Ov)];exact XY,T.a7,T.na_Play_trail,by show(3:Nat)<1000;decide,kk c sv pv tl tb _ (λa o ax h=>?_) KQ kA ?_ (by rw[aD Ov,ai]) (by rw[aD Ut,aD EG];exact Ow) (Mn.mono (up H1 _ RE)) ?_ (rp3.mono (up H3 _ λ_ _ _ h=>h))⟩
  ·rw[aD ax,aD (λz=>by rw[z,KQ] at h;cases h)];exact RE _ _ ax (k1 _ _ ax h)
  ·rw[ai];show some (HO.ins _ _ (if aai "course"=aai "trail" then _ else _::(if aai "state"=aai "trail" then _ else _::(if aai "paid"=aai "trail" then _ else _))))=_;rw[if_neg ∅,if_neg ∅,if_neg ∅];rfl
  ·symm;obtain⟨a,l,e,h1,h2⟩:=uV;nofun;have u:=up H2 (.ins aF dx (gI (aai "trail") (.ref tl) [(aai "course",.ref c),(aai "state",sv),(aai "paid",pv)])) (λa o ax h=>k3 _ _ ax h);exact⟨a,l,e,u _ _ h1,u _ _ h2⟩
theorem wJ {α:Type} [DecidableEq α]:∀{l U:List α},l.Nodup->(∀x∈l,x∈U)->l.length<=U.length
 | [],_,_,_=>aas _
 | a::l,U,nd,h=>by
  obtain⟨na,nd⟩:=List.nodup_cons.mp nd;have ha:=h a aar;have:=wJ (l:=l) (U:=U.erase a) nd λx hx=>by
   have xa:x≠a:=λz=>na (z▸hx);exact(List.mem_erase_of_ne xa).mpr (h x (aap _ hx))
  rw[List.length_erase_of_mem ha] at this;have:=List.length_pos_of_mem ha;rw[aaw];lia
theorem dz.kept {qP qC:Addr} {L:List Addr} {H H':Hp} {p tl tb:Addr} {g:Gm} {st:dR} {pd:Int×Int} {tr:List uY} (pl:dz qP qC L H p tl tb g st pd tr) (s:aB (cg L H) (cg L H')) (k:∀a,a=p\/a=tl\/a=tb->∀o,H a=some o->H' a=some o) (al:∀a∈L,∃o,H' a=some o/\∀vs,o≠.tup vs):dz qP qC L H' p tl tb g st pd tr:=by
 obtain⟨m,_,⟨dp,c,sv,pv,xs,h1,h2,h3,h4,h5,h6⟩,Ml,gd,ln,lt⟩:=pl;exact⟨m,al,⟨dp,c,sv,pv,xs,k _ (.inl rfl) _ h1,h2.mono s,h3.mono s,h4.mono s,k _ (.inr (.inl rfl)) _ h5,h6.imp λ_ _ h=>h.mono s⟩,Ml.mono s (k _ (.inr (.inr rfl))),gd,ln,lt⟩
theorem dz.same {qP qC:Addr} {L:List Addr} {H H':Hp} {p tl tb:Addr} {g:Gm} {st:dR} {pd:Int×Int} {tr:List uY} (pl:dz qP qC L H p tl tb g st pd tr) (s:aB H H'):dz qP qC L H' p tl tb g st pd tr:=
 pl.kept (mY s) (λ_ _ _ h=>s _ _ h) λa ha=>by obtain⟨o,h,n⟩:=pl.al a ha;exact⟨o,s _ _ h,n⟩
theorem dz.out {qP qC:Addr} {L:List Addr} {H:Hp} {p tl tb:Addr} {g:Gm} {st:dR} {pd:Int×Int} {tr:List uY} (pl:dz qP qC L H p tl tb g st pd tr) {a:Addr} (n:H a=none):a∉L:=λm=>by
 obtain⟨o,h,_⟩:=pl.al a m;rw[n] at h;cases h
theorem dz.next {qP qC:Addr} {L:List Addr} {H H':Hp} {p tl tb:Addr} {g:Gm} {st cK:dR} {pd XZ:Int×Int} {tr Uw:List uY} (pl:dz qP qC L H p tl tb g st pd tr) (k3:K3 p tl tb H H') {dp c:Addr} {sv pv:V} {xs:List V}
  (h1:H' p=some (.ins qP dp (kB (.ref c) sv pv (.ref tl)))) (co:Bf qC (cg L H) c g tb) (h3:mj (cg L H') sv cK.1 cK.2) (h4:Rep (cg L H') (dA XZ) pv) (h5:H' tl=some (.lst xs)) (h6:Al (ES (cg L H')) Uw xs) (X0:Ot H' (cg L H') tb g) (ln:cK.2.length=g.cs.length) (lt:∀e∈Uw,e.2.1.2.length=g.cs.length):dz qP qC L H' p tl tb g cK XZ Uw:=by
 refine⟨pl.mem,λa ha=>?_,⟨dp,c,sv,pv,xs,h1,co.mono (k3.df pl.mem.1 pl.mem.2.1 pl.mem.2.2),h3,h4,h5,h6⟩,X0,pl.good,ln,lt⟩
 by_cases e1:a=p
 ·exact⟨_,by rw[e1];exact h1,λ_ z=>by cases z⟩
 by_cases e2:a=tl
 ·exact⟨_,by rw[e2];exact h5,λ_ z=>by cases z⟩
 by_cases e3:a=tb
 ·obtain⟨kvs,z,_⟩:=X0;exact⟨_,by rw[e3];exact z,λ_ z=>by cases z⟩
 obtain⟨o,h,n⟩:=pl.al a ha;exact⟨o,k3 _ _ e1 e2 e3 h,n⟩
theorem ES.up {X X':Hp} {tr:List uY} {xs:List V} (s:aB X X') (h:Al (ES X) tr xs):Al (ES X') tr xs:=h.imp λ_ _ h=>h.mono s
theorem Ox {a b c d v:V}:gI (aai "state") v (kB a b c d)=kB a v c d:=by
 show(if aai "course"=aai "state" then _ else _::(if aai "state"=aai "state" then _ else _))=_;rw[if_neg ∅,if_pos rfl];rfl
theorem Oy {a b c d v:V}:gI (aai "paid") v (kB a b c d)=kB a b v d:=by
 show(if aai "course"=aai "paid" then _ else _::(if aai "state"=aai "paid" then _ else _::(if aai "paid"=aai "paid" then _ else _)))=_;rw[if_neg ∅,if_neg ∅,if_pos rfl];rfl
theorem ints_rep {H:Hp}:∀l:List Int,bg H (l.map Dat.int) (l.map V.int)
 | []=>bA.mpr rfl
 | _::l=>aU.mpr ⟨_,_,rfl,bD.mpr rfl,ints_rep l⟩
theorem hU {H:Hp}:∀{l:List Int} {vs:List V},bg H (l.map Dat.int) vs->vs=l.map V.int
 | [],_,h=>bA.mp h
 | _::_,_,h=>by
  obtain⟨v,r,rfl,a,b⟩:=aU.mp h;rw[bD.mp a,hU b];rfl
theorem jo (l:List Int):(l.map V.int).all cY=true:=List.all_eq_true.mpr λx hx=>by
 obtain⟨i,_,rfl⟩:=abt.mp hx;rfl
theorem oN (x:Int) (ns:List Int):B3 (V.int x) (List.map V.int ns)=decide (x∈ns):=by
 unfold B3
 by_cases c:x∈ns
 ·rw[decide_eq_true c];exact List.any_eq_true.mpr ⟨V.int x,abt.mpr ⟨x,c,rfl⟩,by simp [tG]⟩
 ·rw[decide_eq_false c];refine List.any_eq_false.mpr λy hy=>?_;obtain⟨n,hn,rfl⟩:=abt.mp hy;have:n≠x:=λe=>by subst e;exact c hn
  simp [tG,this]
theorem ints_in {l:List Int} {v:Int} (h:v∈l):B3 (.int v) (l.map V.int)=true:=by rw[oN];exact decide_eq_true h
theorem wK {H:Hp}:∀l:List Str,bg H (l.map Dat.str) (l.map V.str)
 | []=>bA.mpr rfl
 | _::l=>aU.mpr ⟨_,_,rfl,aT.mpr rfl,wK l⟩
theorem qj {K:abk} {α:Type} {J:It} {tc:TT} {te:TE} {tl:L2.St} {H1:Hp} {fin:List V->Hp->Prop} {Item:Nat->V->Hp->Hp->Prop} (as:List α) (f:α->Option V) (S:Src J (aB H1) as.length Item) (sub:∀i x H H3,Item i x H H3->H3=H) (hz:as.length<=sizeLine)
  (hs:∀i a x,as[i]?=some a->Item i x H1 H1->∃p u v,x=.ref p/\jD K H1 p [u,v]/\∀(Y:VK) (N:Hp->Prop),(∀z,f a=some z->Y z H1)->(f a=none->N H1)->tc (some u::some v::tl) H1 λb H5=>if b=true then te (some u::some v::tl) H5 Y else N H5)
  (mD:fin ((as.filterMap f)) H1):fU J (Av K 2 (gCons (gName 0) (gCons (gName 1) gNil))) tc te (none::none::tl) H1 fin:=by
 refine gP S (λσ=>∃w0 w1,σ=w0::w1::tl) ⟨_,_,rfl⟩ (λi ys H=>H=H1/\ys=(as.take i).filterMap f) ⟨rfl,by simp⟩ hz ?_ ?_
 ·rintro i x σ H ys H3 Q N hi sm ⟨rfl,rfl⟩ hl ⟨w0,w1,rfl⟩ it kq kn;obtain rfl:=sub _ _ _ _ it;have ea:as[i]?=some as[i]:=aao hi;obtain⟨p,u,v,rfl,sq,k⟩:=hs i _ x ea it;refine⟨p,_,rfl,sq,rfl,_,_,rfl,_,_,rfl,rfl,?_⟩;refine k _ _ (λz e=>kq _ _ _ ⟨_,_,rfl⟩ sm ⟨rfl,?_⟩) (λe=>kn _ _ ⟨_,_,rfl⟩ sm ⟨rfl,?_⟩)
  ·rw[aaK,ea,abd];simp [e]
  ·rw[aaK,ea,abd];simp [e]
 ·rintro ys H sm ⟨rfl,rfl⟩ hl;rw[aaz (aam _)];exact mD
abbrev jB (N:Int) (x:Int×Int):Prop:=Wq.Lw x/\x.2∣2/\-N<=Wq.sc 2 x/\Wq.sc 2 x<=N
theorem jB.pl {N M:Int} {x y:Int×Int} (hx:jB N x) (hy:jB M y):jB (N+M) (Wq.pl x y):=by
 obtain⟨a,b,e⟩:=Wq.NB hx.1.1 hy.1.1 (show(0:Int)<2 by decide) hx.2.1 hy.2.1;have:=hx.2.2;have:=hy.2.2;exact⟨a,b,⋯,⋯⟩
theorem jB.le {N M:Int} {x:Int×Int} (h:jB N x) (k:N<=M):jB M x:=⟨h.1,h.2.1,by have:=h.2.2;lia,by have:=h.2.2;lia⟩
theorem jB.num {N:Int} {x:Int×Int} (h:jB N x) (n:N<=1000000):(-1000000<=x.1/\x.1<=1000000)/\0<x.2/\x.2<=2:=by
 have b0:=h.1.1;have b2:=Int.le_of_dvd ∅ h.2.1;have e:=Wq.tX h.2.1;have:=h.2.2;refine⟨?_,b0,b2⟩;have c:x.2=1\/x.2=2:=⋯
 rcases c with c | c <;>rw[c] at e <;>lia
theorem jq (k:Int) {N:Int} (h1:-N<=2*k) (h2:2*k<=N):jB N (k,1):=⟨⟨by show(0:Int)<1;decide,by show Nm.g k 1=1;unfold Nm.g;rw[Int.gcd_one_right];rfl⟩,⟨2,rfl⟩,by show -N<=k* (2 / 1);lia,by show k* (2 / 1)<=N;lia⟩
theorem Gy (k:Int) {N:Int} (o:k % 2=1) (h1:-N<=k) (h2:k<=N):jB N (k,2):=⟨⟨by show(0:Int)<2;decide,by
 show Nm.g k 2=1;unfold Nm.g;have d:=Int.gcd_dvd_left (a:=k) (b:=2);have d2:=Int.gcd_dvd_right (a:=k) (b:=2);have l:=Int.le_of_dvd ∅ d2;have p:0<Int.gcd k 2:=Int.gcd_pos_of_ne_zero_right k ∅;have c:Int.gcd k 2=1\/Int.gcd k 2=2:=⋯
 rcases c with c | c
 ·rw[c];rfl
 ·rw[c] at d;lia⟩,⟨1,rfl⟩,by show -N<=k* (2 / 2);lia,by show k* (2 / 2)<=N;lia⟩
abbrev sM:Wt->Str
 | .ask _ _ _ _=>aai "ask"
 | .fin _ _=>aai "end"
 | .score _=>aai "score"
 | .pick _ _=>aai "pick"
 | .eC _ _ _ _=>aai "throw"
theorem nS {H:Hp} {x:Wt} {u:V} (h:Rep H (jI x) u):∃q vs,u=.ref q/\H q=some (.tup (.str (sM x)::vs)):=by
 cases x <;>(obtain⟨p,vs,rfl,hp,r⟩:=jn.mp (show Rep H (.tup _) u from h);obtain⟨v,r1,rfl,a,_⟩:=aU.mp r;obtain rfl:=aT.mp a;exact⟨p,r1,rfl,hp⟩)
theorem KR {x:Wt} (h:sM x=aai "ask"):∃c k a b,x=.ask c k a b:=by
 cases x with
 | ask c k a b=>exact⟨_,_,_,_,rfl⟩
 | fin t b=>exact absurd (show aai "end"=aai "ask" from h) ∅
 | score c=>exact absurd (show aai "score"=aai "ask" from h) ∅
 | pick w rs=>exact absurd (show aai "pick"=aai "ask" from h) ∅
 | eC di t b rs=>exact absurd (show aai "throw"=aai "ask" from h) ∅
theorem KS {x:Wt} (h:sM x=aai "end"):∃t b,x=.fin t b:=by
 cases x with
 | ask c k a b=>exact absurd (show aai "ask"=aai "end" from h) ∅
 | fin t b=>exact⟨_,_,rfl⟩
 | score c=>exact absurd (show aai "score"=aai "end" from h) ∅
 | pick w rs=>exact absurd (show aai "pick"=aai "end" from h) ∅
 | eC di t b rs=>exact absurd (show aai "throw"=aai "end" from h) ∅
theorem DN {x:Wt} (h:sM x=aai "score"):∃c,x=.score c:=by
 cases x with
 | ask c k a b=>exact absurd (show aai "ask"=aai "score" from h) ∅
 | fin t b=>exact absurd (show aai "end"=aai "score" from h) ∅
 | score c=>exact⟨_,rfl⟩
 | pick w rs=>exact absurd (show aai "pick"=aai "score" from h) ∅
 | eC di t b rs=>exact absurd (show aai "throw"=aai "score" from h) ∅
theorem zV {x:Wt} (h:sM x=aai "pick"):∃w rs,x=.pick w rs:=by
 cases x with
 | ask c k a b=>exact absurd (show aai "ask"=aai "pick" from h) ∅
 | fin t b=>exact absurd (show aai "end"=aai "pick" from h) ∅
 | score c=>exact absurd (show aai "score"=aai "pick" from h) ∅
 | pick w rs=>exact⟨_,_,rfl⟩
 | eC di t b rs=>exact absurd (show aai "throw"=aai "pick" from h) ∅
theorem qk {x:Wt} (h:sM x=aai "throw"):∃di t b rs,x=.eC di t b rs:=by
 cases x with
 | ask c k a b=>exact absurd (show aai "ask"=aai "throw" from h) ∅
 | fin t b=>exact absurd (show aai "end"=aai "throw" from h) ∅
 | score c=>exact absurd (show aai "score"=aai "throw" from h) ∅
 | pick w rs=>exact absurd (show aai "pick"=aai "throw" from h) ∅
 | eC di t b rs=>exact⟨_,_,_,_,rfl⟩
theorem DO {a b c d:V}:(kB a b c d).length<1000:=by show(4:Nat)<1000;decide
abbrev DP (g:Gm) (st:dR) (pd:Int×Int) (x:Wt):Int×Int:=match yn g.cs st.2 x with
 | some w=>Wq.pl pd w
 | none=>pd
abbrev Gz (g:Gm) (st:dR) (x:Wt) (ds:List Dat):Prop:=match x with
 | .eC di _ _ _=>∃ps,di=ps.map qF/\nN ps/\ds=(gy ps).map Dat.int
 | _=>ds=(d8 g.cs st.2 x).map λr=>Dat.str r.word
abbrev DQ (tr:List uY):Str:=Txt.join (aai " ") (tr.map (·.1))
theorem joinOk_of {sep:Str} {ts:List Str} {B:Nat} (hB:∀y∈ts,y.length<=B) (h:ts.length*B+ts.length*sep.length<=16777216):JoinOk sep ts=true:=by
 unfold JoinOk;rw[Bool.not_eq_true'];exact StrLaws.joinFits hB h
abbrev Iu (x:Wt):Prop:=∀c k a b,x≠.ask c k a b
abbrev ql:Sp:=λvs H Q _=>dj vs λu v=>∃a,Rep H (dA a) u/\∃b,Rep H (dA b) v/\jB 500000 a/\jB 500000 b/\∀r H',aB H H'->H r=none->H' r=some (.tup (Pr (Wq.pl a b).1 (Wq.pl a b).2))->Q (.ref r) H'
abbrev DR:Sp:=λvs H Q _=>eS vs λn=>fR n λn=>Q (.bl true) H
abbrev Iv (qP qC:Addr):Sp:=λvs H Q _=>eS vs λp=>dg p λp=>∃(tl tb:Addr) (L:List Addr) (g:Gm) (st:dR) (pd:Int×Int) (tr:List uY),dz qP qC L H p tl tb g st pd tr/\∃(x:Wt),look g.ps st.1=some x/\Iu x/\jB 500000 pd/\(∀w,yn g.cs st.2 x=some w->jB 500000 w)/\∀u H',aB H H'->Rep H' (dA (DP g st pd x)) u->Q u H'
abbrev zW (qP qC:Addr):Sp:=λvs H Q _=>eS vs λp=>dg p λp=>∃(tl tb:Addr) (L:List Addr) (g:Gm) (st:dR) (pd:Int×Int) (tr:List uY),dz qP qC L H p tl tb g st pd tr/\∃(x:Wt),look g.ps st.1=some x/\∃(ds:List Dat),Gz g st x ds/\∀a H',K3 p tl tb H H'->dz qP qC L H' p tl tb g st pd tr->H a=none->Rep H' (.lst ds) (.ref a)->Q (.ref a) H'
abbrev KU (qP qC qm:Addr):Sp:=λvs H Q E=>jr vs λp step sv pv=>dg p λp=>qB step λstep=>∃(tl tb:Addr) (L:List Addr) (g:Gm) (st:dR) (pd:Int×Int) (tr:List uY),dz qP qC L H p tl tb g st pd tr/\tr.length<=200/\∃(cK:dR),mj (cg L H) sv cK.1 cK.2/\cK.2.length=g.cs.length/\∃(py:Int×Int),Rep (cg L H) (dA py) pv/\jB 500000 pd/\jB 500000 py/\(tr.length=200->∀H',aB H H'->E (.ref qm) none H')/\(tr.length<200->∀H',K3 p tl tb H H'->dz qP qC L H' p tl tb g cK (Wq.pl pd py) (tr++ [(step,st,pd)])->Q .bZ H')
abbrev DS (qP qC qn qm:Addr):Sp:=λvs H Q E=>dj vs λp word=>dg p λp=>qB word λword=>∃(tl tb:Addr) (L:List Addr) (g:Gm) (st:dR) (pd:Int×Int) (tr:List uY),dz qP qC L H p tl tb g st pd tr/\tr.length<=200/\∃(x:Wt),look g.ps st.1=some x/\jB 500000 pd/\((d8 g.cs st.2 x).find? (λr=>decide (r.word=word))=none->∀H',aB H H'->E (.ref qn) none H')/\(∀r,(d8 g.cs st.2 x).find? (λr=>decide (r.word=word))=some r->∃f fF,dW g (r.ds.foldl (iI g.cs 0) st.2) f r.to=some fF/\
  (tr.length=200->∀H',aB H H'->E (.ref qm) none H')/\(tr.length<200->∀H',K3 p tl tb H H'->dz qP qC L H' p tl tb g (fF,r.ds.foldl (iI g.cs 0) st.2) (Wq.pl pd (0,1)) (tr++ [(word,st,pd)])->Q .bZ H'))
abbrev zX (qP qC:Addr):Sp:=λvs H Q _=>eS vs λp=>dg p λp=>∃(tl tb:Addr) (L:List Addr) (g:Gm) (st:dR) (pd:Int×Int) (tr:List uY),dz qP qC L H p tl tb g st pd tr/\tr.length<=200/\(∀e∈tr,e.1.length<=20)/\∀H',aB H H'->Q (.str (DQ tr)) H'
theorem zY:aV ["one","other"] ["one","other"] (au (top 15)):=.mk
theorem DT (T:0|||0):(3<<<"plus") ["one","other"] ql:=by
 have uv:=Ij T;refine T.Kr.dE (λ_ _ _ _ _ _=>dQ λ_ _=>rfl) λf fd F=>F.d4 zY (λvs H Q E h=>?_) (λbR A outer s H vs Q E hr h=>?_)
 ·obtain⟨_,_,rfl,_⟩:=oo h;rfl
 ·symm;obtain⟨u,v,rfl,a,ra,b,rb,ha,hb,k⟩:=oo h;nofun;have nd:=zY.nd;refine⟨_,(aq (aQ (aN uv (aa (aJ aS (aJ bj (av ao (pv 0) ae) (av ao (pv 1) ae)) (aJ bj (av ao (pv 1) ae) (av ao (pv 0) ae))) (aa (aJ bj (av ao (pv 0) ae) (av ao (pv 1) ae)) af))))),?_⟩;symm;obtain⟨p,rfl,hp⟩:=b7.mp ra;obtain⟨q,rfl,hq⟩:=b7.mp rb;obtain⟨a1,a2,a3⟩:=ha.num ∅;obtain⟨b1,b2,b3⟩:=hb.num ∅;nofun;dsimp?[Kt,hp,hq];have m0:=Int.mul_pos a2 b2;have m4:a.2*b.2<=4:=Int.le_trans (Int.mul_le_mul a3 b3 ⋯ ∅) ∅;exact⟨bE ⋯ ⋯,bE ⋯ ⋯,bE ⋯ ⋯,Bt.of 4 ⋯ ⋯,λz=>absurd z ⋯,λ_ r H' s' n' e=>k r H' s' n' e⟩
theorem nU:aV ["thing"] ["thing"] (au (top 12)):=.mk
theorem KW (T:0|||0):(1<<<"is_whole") ["thing"] DR:=by
 refine T.yd.dE (λ_ _ _ _ _ _=>gq λ_=>rfl) λf fd F=>F.d4 nU (λvs H Q E h=>?_) (λbR A outer s H vs Q E hr h=>?_)
 ·obtain⟨_,rfl,_⟩:=XD h;rfl
 ·symm;obtain⟨n,rfl,k⟩:=XD h;nofun;have nd:=nU.nd;refine⟨_,(aq (aQ (o8 (aY (gR (K:=K)) (by rfl) T.z_isinstance rfl (aa (pv 0) (aa (jg (v:=V.ty "int") rfl T.z_int rfl rfl) af))) (o5 (BL (aY (gR (K:=K)) (by rfl) T.z_isinstance rfl (aa (pv 0) (aa (jg (v:=V.ty "bool") rfl T.z_bool rfl rfl) af)))))))),?_⟩;dsimp?[];refine⟨_,.int _,_,by rfl,?_⟩;rw[if_pos rfl];exact⟨_,.int _,false,by rfl,k⟩
theorem iZ:aV ["self"] ["self"] (au (inClass (top 46) 2)):=.mk
theorem KY (T:0|||0):dB P w K mg base (cu P w) 4 aF "points" ["self"] (Iv aF ah):=by
 have bo:=ku T;have kx:=KJ T;have yx:=DT T;refine T.pW.dE (λ_ _ _ _ _ _=>gq λ_=>rfl) λf fd F=>F.d4 iZ (λvs H Q E h=>?_) (λbR A outer s H vs Q E hr h=>?_)
 ·obtain⟨_,rfl,_⟩:=nM h;rfl
 ·symm;obtain⟨p,rfl,tl,tb,L,g,st,pd,tr,pl,x,lk,RG,yy,hw,kk⟩:=nM h;nofun;have nd:=iZ.nd;refine⟨_,(ag (bc (aL xP (av ao (c4 bo T.aW (bp (pv 0) rfl) (aa (bp (pv 0) rfl) af)) ae) (a9 (aa aZ (aa aZ af))) rfl) (aq (aQ (bp (pv 0) rfl)))
   aX)
  (aq (aQ (aN yx (aa (bp (pv 0) rfl) (aa (c4 kx T.aW (bp (pv 0) rfl) (aa (bp (pv 0) rfl) af)) af)))))),?_⟩
  have sl:=sizeLine_eq;symm;obtain⟨dp,c,sv,pv,xs,hp,co,oO,rp,sL,al⟩:=pl.ex;have lp:∀{a b c d e:V},List.lookup (aai "what_at") [(aai "spots",a),(aai "mosts",b),(aai "first",c),(aai "whats",d),(aai "tables",e)]=none:=d9 (by ac_rfl) (by ac_rfl) (by ac_rfl) (by ac_rfl) (by ac_rfl);have Bg:∀{a b c d e:V},List.lookup (aai "end_worth") [(aai "spots",a),(aai "mosts",b),(aai "first",c),(aai "whats",d),(aai "tables",e)]=none:=d9 (by ac_rfl) (by ac_rfl) (by ac_rfl) (by ac_rfl) (by ac_rfl);obtain⟨dc,sp,mo,wh,us,By,h1,_⟩:=id co;nofun;have h1:=a8 _ _ h1;refine aP (λN=>∀w,yn g.cs st.2 x=some w->∀H1,aB H H1->N [~~~p] H1) (λN hN=>?_) ?_
  ·dsimp?[dC,bS,lE,rInT];refine⟨_,_,_,hp,T.a7,T.na_Play_course,_,jS,c,rfl,_,_,h1,lp,_,_,_,hp,T.a7,T.na_Play_state,_,hG,cg L H,a8,g,co.co,st.1,st.2,oO.mono a8,x,lk,λu ru=>?_⟩;symm;obtain⟨q,CB,rfl,hq⟩:=nS ru;nofun;have hq:=a8 _ _ hq;refine⟨q,rfl,_,hq,_,at0,∅,λt1 H1 s1 n1 e1=>?_⟩;refine⟨_,e1,rfl,rfl,?_⟩;have go:sM x=aai "throw"\/sM x=aai "pick"->DP g st pd x=pd:=λh=>by
    rcases h with h | h
    ·obtain⟨_,_,_,_,rfl⟩:=qk h;rfl
    ·obtain⟨_,_,rfl⟩:=zV h;rfl
   have no:¬(sM x=aai "throw"\/sM x=aai "pick")->∃w,yn g.cs st.2 x=some w:=λh=>by
    cases x with
    | ask c k a b=>exact absurd rfl (RG c k a b)
    | fin t b=>exact⟨_,rfl⟩
    | score c=>exact⟨_,rfl⟩
    | pick w rs=>exact absurd (.inr rfl) h
    | eC p t b rs=>exact absurd (.inl rfl) h
   by_cases ek:sM x=aai "throw"\/sM x=aai "pick"
   ·rw[if_pos (by rcases ek with e | e <;>rw[e] <;>ac_rfl)];exact⟨_,_,_,s1 _ _ hp,T.a7,T.na_Play_paid,_,zU,kk _ _ s1 (by rw[go ek];exact rp.mono (a8.trans s1))⟩
   ·obtain⟨w,ew⟩:=no ek;rw[if_neg (by
     intro z;refine ek ?_;cases x with
     | ask c k a b=>exact absurd rfl (RG c k a b)
     | fin t b=>exact absurd (show B3 (V.str "end") [V.str "throw",V.str "pick"]=true from z) ∅
     | score c=>exact absurd (show B3 (V.str "score") [V.str "throw",V.str "pick"]=true from z) ∅
     | pick w rs=>exact .inr rfl
     | eC p t b rs=>exact .inl rfl)]
    exact hN w ew _ s1
  rintro w ew H1 s1;dsimp?[dC,bS,Ic,ql];refine⟨_,_,_,s1 _ _ hp,T.a7,T.na_Play_paid,_,zU,_,_,_,s1 _ _ hp,T.a7,T.na_Play_course,_,jS,c,rfl,_,_,s1 _ _ h1,Bg,_,_,_,s1 _ _ hp,T.a7,T.na_Play_state,_,hG,g,co.co.mono (a8.trans s1),pl.good,st.1,st.2,oO.mono (a8.trans s1),pl.len,x,lk,w.1,w.2,ew,λu H2 s2 ru=>⟨pd,rp.mono (a8.trans (s1.trans s2)),w,ru,yy,hw w ew,λr H3 s3 n3 e3=>kk _ _ (s1.trans (s2.trans s3)) ?_⟩⟩;unfold DP;rw[ew];exact b7.mpr ⟨r,rfl,e3⟩
theorem gD:aV ["self"] ["self"] (au (inClass (top 46) 3)):=.mk
theorem DU (T:0|||0):dB P w K mg base (cu P w) 8 aF "open_ways" ["self"] (zW aF ah):=by
 have bo:=ku T;have lK:=KN T;have lL:=KI T;refine T.lj.dE (λ_ _ _ _ _ _=>gq λ_=>rfl) λf fd F=>F.d4 gD (λvs H Q E h=>?_) (λbR A outer s H vs Q E hr h=>?_)
 ·obtain⟨_,rfl,_⟩:=nM h;rfl
 ·symm;obtain⟨p,rfl,tl,tb,L,g,st,pd,tr,pl,x,lk,ds,od,kk⟩:=nM h;nofun;have nd:=gD.nd;refine⟨_,(ag (bc (aL bq (av ao (c4 bo T.aW (bp (pv 0) rfl) (aa (bp (pv 0) rfl) af)) ae) aZ (aR _)) (aq (aQ (b5 rfl (N:=["self"]) (so:=au (inClass (top 46) 3)) (N':=["value","part"]) (k:=2) (fr:=[]) rfl rfl ⟨rfl,∅,∅,∅,rfl,∅,∅⟩ (bh (K:=K) (c4 lK T.aW (bp (pv 0) rfl) (aa (bp (pv 0) rfl) af))) (λ_ _ _ _ _=>(e8 (K:=K) (n:=2) rfl (bK (a5 (i:=0) (show(["value","part"]:List Str).Nodup by ac_rfl) rfl (.inl rfl)) (bK (a5 (i:=1) (show(["value","part"]:List Str).Nodup by ac_rfl) rfl (.inl rfl)) eW)))) (λ_ _ _ _ _=>cV)
   (λ_ _ _ _ _=>(pv 0)))))
   aX)
  (aq (aQ (c4 lL T.aW (bp (pv 0) rfl) (aa (bp (pv 0) rfl) af))))),?_⟩
  have sl:=sizeLine_eq;symm;obtain⟨dp,c,sv,pv,xs,hp,co,oO,rp,sL,al⟩:=pl.ex;obtain⟨dc,sp,mo,wh,us,By,h1,_⟩:=id co;nofun;have h1:=a8 _ _ h1;have lp:∀{a b c d e:V},List.lookup (aai "what_at") [(aai "spots",a),(aai "mosts",b),(aai "first",c),(aai "whats",d),(aai "tables",e)]=none:=d9 (by ac_rfl) (by ac_rfl) (by ac_rfl) (by ac_rfl) (by ac_rfl);have Bg:∀{a b c d e:V},List.lookup (aai "table_at") [(aai "spots",a),(aai "mosts",b),(aai "first",c),(aai "whats",d),(aai "tables",e)]=none:=d9 (by ac_rfl) (by ac_rfl) (by ac_rfl) (by ac_rfl) (by ac_rfl);have lp3:∀{a b c d e:V},List.lookup (aai "words_at") [(aai "spots",a),(aai "mosts",b),(aai "first",c),(aai "whats",d),(aai "tables",e)]=none:=d9 (by ac_rfl) (by ac_rfl) (by ac_rfl) (by ac_rfl) (by ac_rfl)
  by_cases ek:sM x=aai "throw"
  ·symm;obtain⟨di,t,b,rs,rfl⟩:=qk ek;obtain⟨ps,rfl,gl,rfl⟩:=od;nofun;refine aP (λN=>True) (λN _=>?_) trivial;change tIfS _ _ _ _ [~~~p] H;refine dJ (λY N k=>?_) ?_
   ·dsimp?[dC,bS,lE];refine⟨_,_,_,hp,T.a7,T.na_Play_course,_,jS,c,rfl,_,_,h1,lp,_,_,_,hp,T.a7,T.na_Play_state,_,hG,cg L H,a8,g,co.co,st.1,st.2,oO.mono a8,_,lk,λu ru=>?_⟩;symm;obtain⟨q,CB,rfl,hq⟩:=nS ru;nofun;have hq:=a8 _ _ hq;refine⟨q,rfl,_,hq,_,at0,rfl,?_⟩;rw[if_pos (congrArg V.str ek)];exact k
   have key:∀v H1,K3 p tl tb H H1->dz aF ah L H1 p tl tb g st pd tr->Rep H1 (k7 (lB ps)) v->(∀D,H1 D=none->H D=none)->∃a,v=.ref a/\(∃xs,bw K H1 a xs)/\fU (uU K a) (Av K 2 (gCons (gName 0) (gCons (gName 1) gNil))) mC (tVar 0) [none,none] H1 λys H2=>∀D:Addr,H1 D=none->H2 D=none->Q (V.ref D) (upd H2 D (HO.lst ys)):=λv H1 k1 Bj rt nn=>by
    symm;obtain⟨a,ys,rfl,ha,ry⟩:=ba.mp rt;nofun;refine⟨a,rfl,⟨_,bw.of ha⟩,?_⟩;have len:=ry.length;rw[aaj] at len;have l13:=(zG ps gl).1.2.2.1;have S:Src (uU K a) (aB H1) ys.length _:=src_list (λH' s'=>bw.of (s' _ _ ha));rw[<-len] at S;refine pI (K:=K) (lB ps) (λr=>some r.1) S (λ_ _ _ _ h=>h.1) ⋯ ?_ ?_
    ·rintro i r y er ⟨_,ey⟩;symm;obtain⟨d,ed,rd⟩:=ry.get ey;nofun;rw[aal,er] at ed;cases ed;symm;obtain⟨p1,q1,rfl,e1,e2⟩:=oG.mp rd;nofun;exact⟨p1,_,_,rfl,jD.of e1,λY N y1 y2=>by dsimp?[];exact y1 _ rfl⟩
    ·intro D n1 n2;have sD:=aj (o:=.lst (List.map V.int ((lB ps).filterMap λr=>some r.1))) n1;refine kk D _ (k1.trans (.of sD)) (Bj.same sD) (nn _ n1) (ba.mpr ⟨D,_,rfl,ai,?_⟩);rw[abi,show List.map ((λr:Int×Int×Int=>r.1)) (lB ps)=gy ps from(zG ps gl).2];exact ints_rep _
   symm;obtain⟨kvs,sJ,knd,Oz,OA⟩:=id pl.Ml;nofun;have aaa:kvs.length<=100:=by
    have:=wJ knd Oz;rw[aaj,aaj] at this;exact aau this pl.good.lp
   have RH:p≠tb:=λz=>by rw[z,sJ] at hp;cases hp
   have Ux:tl≠tb:=λz=>by rw[z,sJ] at sL;cases sL
   dsimp?[dC,bS,Ig];refine⟨_,_,_,hp,T.a7,T.na_Play_course,_,jS,c,rfl,_,_,h1,Bg,_,_,_,hp,T.a7,T.na_Play_state,_,hG,g,st.1,st.2,tb,co.mono (DJ pl.mem.2.2),oO.mono a8,kvs,sJ,⋯,ps,t,b,rs,lk,gl,?_,λv hv=>?_,λhv p2 H1 s1 n2 r2=>?_⟩
   ·exact Gc gl
   ·symm;obtain⟨Iw,t',b',GA,dZ,rv⟩:=OA _ _ hv;nofun;rw[lk] at dZ
    injection dZ with dZ
    injection dZ with e1
    have e1:=gz e1;subst e1;exact key v H (.of (aB.refl _)) pl (rv.mono a8) λ_ h=>h
   ·have k2:K3 p tl tb H (upd H1 tb (.dK (kvs++ [(Sum.inr st.1,.ref p2)]))):=λa o _ _ h3 h=>by rw[aD h3];exact s1 _ _ h
    have s2:=k2.df pl.mem.1 pl.mem.2.1 pl.mem.2.2;have p2n:p2∉L:=pl.out n2;have tup:∀a vs,H1 a=some (.tup vs)->upd H1 tb (.dK (kvs++ [(Sum.inr st.1,.ref p2)])) a=some (.tup vs)/\a∉L:=λa vs h=>by
     refine⟨by rw[aD (λz=>by rw[z,s1 _ _ sJ] at h;cases h)];exact h,λm=>?_⟩;symm;obtain⟨o,ho,no⟩:=pl.al a m;nofun;rw[s1 _ _ ho] at h;cases h;exact no _ rfl
    have p2t:p2≠tb:=λz=>by rw[z,sJ] at n2;cases n2
    have r3:Rep (cg L (upd H1 tb (.dK (kvs++ [(Sum.inr st.1,.ref p2)])))) (k7 (lB ps)) (.ref p2):=Gj r2 (λo h=>by rw[cW p2n,aD p2t];exact h) λa vs h=>by
     obtain⟨x1,x2⟩:=tup a vs h;rw[cW x2];exact x1
    have HF:dz aF ah L (upd H1 tb (.dK (kvs++ [(Sum.inr st.1,.ref p2)]))) p tl tb g st pd tr:=by
     refine pl.next k2 (by rw[aD RH];exact s1 _ _ hp) co (oO.mono s2) (rp.mono s2) (by rw[aD Ux];exact s1 _ _ sL) (ES.up s2 al) ⟨_,ai,?_,λk hk=>?_,λnm v e=>?_⟩ pl.len pl.Ou
     ·rw[aaq,aak,aaU];refine List.nodup_append.mpr ⟨knd,by simp,λa ha b hb=>?_⟩;rw[abu] at hb;intro z;rw[z,hb] at ha;symm;obtain⟨x,hx,ex⟩:=abt.mp ha;nofun;unfold dU at hv;have hv:kvs.find? (λkv=>decide (kv.1=Sum.inr st.1))=none:=by simpa using hv
      exact absurd (List.find?_eq_none.mp hv x hx) (by simp [ex])
     ·rw[aaq,List.mem_append] at hk;rcases hk with hk | hk
      ·exact Oz k hk
      ·rw[aak,aaU,abu] at hk;rw[hk];exact abt.mpr ⟨_,cZ lk,rfl⟩
     ·rw[wB hv] at e
      by_cases z:(Sum.inr st.1:Key)=Sum.inr nm
      ·rw[if_pos z] at e;cases e
       injection z with z
       exact⟨ps,t,b,rs,by rw[<-z];exact lk,r3⟩
      ·rw[if_neg z] at e;symm;obtain⟨Iw,t',b',GA,dZ,rv⟩:=OA _ _ e;nofun;exact⟨Iw,t',b',GA,dZ,rv.mono s2⟩
    obtain⟨a,ea,k⟩:=key (.ref p2) _ k2 HF (r3.mono a8) λD h=>by
     by_cases z:D=tb
     ·rw[z,ai] at h;cases h
     ·rw[aD z] at h;exact none_of s1 h
    cases ea;exact k
  ·subst_vars;refine aP (λN=>N [~~~p] H) (λN hN=>?_) ?_
   ·change tIfS _ _ _ _ [~~~p] H;refine cG (λY N k=>?_) hN;dsimp?[dC,bS,lE];refine⟨_,_,_,hp,T.a7,T.na_Play_course,_,jS,c,rfl,_,_,h1,lp,_,_,_,hp,T.a7,T.na_Play_state,_,hG,cg L H,a8,g,co.co,st.1,st.2,oO.mono a8,_,lk,λu ru=>?_⟩;symm;obtain⟨q,CB,rfl,hq⟩:=nS ru;nofun;have hq:=a8 _ _ hq;refine⟨q,rfl,_,hq,_,at0,rfl,?_⟩;rw[if_neg (λz=>ek (by injection z))];exact k
   dsimp?[dC,bS,Ib];refine⟨_,_,_,hp,T.a7,T.na_Play_course,_,jS,c,rfl,_,_,h1,lp3,_,_,_,hp,T.a7,T.na_Play_state,_,hG,g,co.co.mono a8,pl.good,st.1,st.2,oO.mono a8,pl.len,x,lk,λa H' s' na ra=>kk a H' (.of s') (pl.same s') na ?_⟩;have e:ds=(d8 g.cs st.2 x).map λr=>Dat.str r.word:=by
    cases x with
    | eC di t b rs=>exact absurd rfl ek
    | ask c k a b=>exact od
    | fin t b=>exact od
    | score c=>exact od
    | pick w rs=>exact od
   rw[e];exact ra
theorem qo:aV ["self","step","state","pay"] ["self","step","state","pay"] (au (inClass (top 46) 4)):=.mk
theorem Iy (T:0|||0):dB P w K mg base (cu P w) 4 aF "go" ["self","step","state","pay"] (KU aF ah aA):=by
 have yx:=DT T;refine T.yj.dE (λ_ _ _ _ _ _=>uk λ_ _ _ _=>rfl) λf fd F=>F.HB qo (λvs H Q E h=>?_) (λbR A outer s H vs Q E hr h=>?_)
 ·obtain⟨_,_,_,_,rfl,_⟩:=Di h;rfl
 ·symm;obtain⟨p,step,BB,ET,rfl,tl,tb,L,g,st,pd,tr,pl,Bk,cK,Uy,ln',py,rpy,yy,oP,kE,kQ⟩:=Di h;nofun;clear G_;have nd:=qo.nd;have yp:A.handled=none:=hr.hd;refine⟨_,(ag (bc (aL bq (aY bF (by rfl) T.z_len aaA (aa (bp (pv 0) rfl) af)) (gW rfl T.c_MOST_STEPS) (aR _)) (aq (fg rfl T.k_TooMany T.x_TooMany yp (aa aZ af)))
   aX)
  (ag (bU (fe aaR abb abc dO.r (bp (pv 0) rfl) (aa (a9 (aa (pv 1) (aa (bp (pv 0) rfl) (aa (bp (pv 0) rfl) af)))) af)))
  (ag (fS (pv 0) (pv 2) rfl)
  (aq (fS (pv 0) (aN yx (aa (bp (pv 0) rfl) (aa (pv 3) af))) rfl))))),?_⟩
  refine(?_:let bO:TS:=_;let bP:TS:=_;let bQ:TS:=_;let cO:TS:=_;tSeq bO (tSeq bP (tSeq bQ cO)) _ _ _);intro bO bP bQ cO;have sl:=sizeLine_eq;symm;obtain⟨dp,c,sv,pv,xs,hp,co,oO,rp,sL,al⟩:=pl.ex;nofun;clear G_;have xl:=al.length;refine aP (λN=>tr.length<200->N [~~~p,some (.str step),some BB,some ET] H) (λN hN=>?_) ?_
  ·dsimp?[dC,tRaise];refine⟨_,_,_,hp,T.a7,T.na_Play_trail,_,DL,tl,rfl,_,sL,eI (λe=>⟨∅,kE ⋯ _ (aB.refl _)⟩) (λe=>hN ⋯)⟩
  intro l2;have Uz:p≠tl:=λz=>by rw[z,sL] at hp;cases hp
  symm;obtain⟨kvs,sJ,_⟩:=id pl.Ml;nofun;clear G_;have RH:p≠tb:=λz=>by rw[z,sJ] at hp;cases hp
  have Ux:tl≠tb:=λz=>by rw[z,sJ] at sL;cases sL
  refine aP (λN=>∀t H1,aB H H1->H t=none->H1 t=some (.tup [.str step,sv,pv])->N [~~~p,some (.str step),some BB,some ET] (upd H1 tl (.lst (xs++ [.ref t])))) (λN hN=>?_) ?_
  ·dsimp?[dC,eY];refine⟨_,_,_,hp,T.a7,T.na_Play_trail,_,DL,.inl ⟨rfl,_,bw.of sL⟩,_,_,_,hp,T.a7,T.na_Play_state,_,hG,_,_,_,hp,T.a7,T.na_Play_paid,_,zU,⋯,λt H1 s1 n1 e1=>?_⟩;exact⟨tl,rfl,_,s1 _ _ sL,⋯,hN t H1 s1 n1 e1⟩
  rintro t H1 s1 nt ht;have pH1:=s1 _ _ hp;refine aP (λN=>N [~~~p,some (.str step),some BB,some ET] (upd (upd H1 tl (.lst (xs++ [.ref t]))) p (.ins aF dp (kB (.ref c) BB pv (.ref tl))))) (λN hN=>?_) ?_
  ·dsimp?[oa];rw[<-Ox (b:=sv)] at hN;exact⟨_,_,_,by rw[aD Uz];exact pH1,T.a7,T.na_Play_state,DO,hN⟩
  generalize EK:upd (upd H1 tl (.lst (xs++ [.ref t]))) p (.ins aF dp (kB (.ref c) BB pv (.ref tl)))=H2;have k2:K3 p tl tb H H2:=λa o h1 h2 h3 h=>by rw[<-EK,aD h1,aD h2];exact s1 _ _ h
  have p2:H2 p=some (.ins aF dp (kB (.ref c) BB pv (.ref tl))):=by rw[<-EK,ai]
  have t2:H2 tl=some (.lst (xs++ [.ref t])):=by rw[<-EK,aD (Ne.symm Uz),ai]
  have b2:H2 tb=some (.dK kvs):=by rw[<-EK,aD (Ne.symm RH),aD (Ne.symm Ux)];exact s1 _ _ sJ
  have n2:H2 t=some (.tup [.str step,sv,pv]):=by
   rw[<-EK,aD (λz=>by rw[z,hp] at nt;cases nt),aD (λz=>by rw[z,sL] at nt;cases nt)];exact ht
  clear EK;have sm:=k2.df pl.mem.1 pl.mem.2.1 pl.mem.2.2;dsimp?[dC,oa,ql];refine⟨_,_,_,p2,T.a7,T.na_Play_paid,_,zU,pd,rp.mono (sm.trans a8),py,rpy.mono (sm.trans a8),yy,oP,λr H3 s3 nr er=>⟨_,_,_,s3 _ _ p2,T.a7,T.na_Play_paid,DO,?_⟩⟩;rw[Oy];have rp':r≠p:=λz=>by rw[z,p2] at nr;cases nr
  have k4:K3 p tl tb H (upd H3 p (.ins aF dp (kB (.ref c) BB (.ref r) (.ref tl)))):=λa o h1 h2 h3 h=>by rw[aD h1];exact s3 _ _ (k2 a o h1 h2 h3 h)
  have s4:=k4.df pl.mem.1 pl.mem.2.1 pl.mem.2.2;have nrH:H r=none:=by
   cases h:H r with
   | none=>rfl
   | some o=>rw[k2 _ _ rp' (λz=>by rw[z,t2] at nr;cases nr) (λz=>by rw[z,b2] at nr;cases nr) h] at nr;cases nr
  have fr:∀{a o},H a=none->H3 a=some o->cg L (upd H3 p (.ins aF dp (kB (.ref c) BB (.ref r) (.ref tl)))) a=some o:=λ{a o} n h=>by
   rw[cW (pl.out n),aD (λz=>by rw[z,hp] at n;cases n)];exact h
  refine kQ l2 _ k4 (pl.next k4 ai co (Uy.mono s4) (b7.mpr ⟨r,rfl,fr nrH er⟩) (by rw[aD (Ne.symm Uz)];exact s3 _ _ t2) ?_ (pl.Ml.mono s4 λo h=>?_) ln' ?_)
  ·exact(ES.up s4 al).append (Al.one ⟨t,sv,pv,rfl,fr nt (s3 _ _ n2),oO.mono s4,rp.mono s4⟩)
  ·rw[sJ] at h;rw[aD (Ne.symm RH),s3 _ _ b2];exact h
  ·intro e he;rcases List.mem_append.mp he with he | he
   ·exact pl.Ou e he
   ·rw[abu.mp he];exact pl.len
theorem nV:aV ["self","word","rows"] ["self","word"] (au (inClass (top 46) 5)):=.mk
theorem DV (T:0|||0):dB P w K mg base (cu P w) 5 aF "say" ["self","word"] (DS aF ah aI aA):=by
 have eF:=DF T;have fz:=DE T;have mZ:=Iy T;refine T.wa.dE (λ_ _ _ _ _ _=>dQ λ_ _=>rfl) λf fd F=>F.HB nV (λvs H Q E h=>?_) (λbR A outer s H vs Q E hr h=>?_)
 ·obtain⟨_,_,rfl,_⟩:=F1 h;rfl
 ·symm;obtain⟨p,word,rfl,tl,tb,L,g,st,pd,tr,pl,Bk,x,lk,yy,kE,kQ⟩:=F1 h;nofun;have nd:=nV.nd;have yp:A.handled=none:=hr.hd;refine⟨_,(ag (kX (i:=2) rfl nd rfl rfl (N:=["self","word","rows"]) (so:=au (inClass (top 46) 5)) (N':=["row","word"]) (k:=1) (fr:=[1]) rfl rfl ⟨rfl,∅,∅,∅,rfl,∅,∅⟩ (bh (K:=K) (c4 eF T.aW (bp (pv 0) rfl) (aa (bp (pv 0) rfl) af))) (λ_ _ _ _ _=>(a5 (i:=0) (show(["row","word"]:List Str).Nodup by ac_rfl) rfl (.inl rfl))) (λ_ _ _ _ _=>(eZ (aL bq (av ao (pv 0) ae) (pv 1) (aR _))))
   (λ_ _ _ _ _=>(pv 0)))
  (ag (bc (aL bq (aY bF (by rfl) T.z_len aaA (aa (pv 2) af)) ae (aR _)) (aq (fg rfl T.k_NoStep T.x_NoStep yp (aa aZ af)))
   aX)
  (aq (bU (c4 mZ T.a7 (pv 0) (aa (pv 1) (aa (c4 fz T.aW (bp (pv 0) rfl) (aa (bp (pv 0) rfl) (aa (av a6 (pv 2) ae) (aa ae af)))) (aa (a9 (aa ae (aa ae af))) af))) (hx:=tN)))))),?_⟩
  refine(?_:let bO:TS:=_;let bP:TS:=_;let bQ:TS:=_;tSeq bO (tSeq bP bQ) _ _ _);intro bO bP bQ;have sl:=sizeLine_eq;symm;obtain⟨dp,c,sv,pv,xs,hp,co,oO,rp,sL,al⟩:=pl.ex;obtain⟨dc,sp,mo,wh,us,By,h1,_⟩:=id co;nofun;have h1:=a8 _ _ h1;have lp:∀{a b c d e:V},List.lookup (aai "open_rows") [(aai "spots",a),(aai "mosts",b),(aai "first",c),(aai "whats",d),(aai "tables",e)]=none:=d9 (by ac_rfl) (by ac_rfl) (by ac_rfl) (by ac_rfl) (by ac_rfl);have Bg:∀{a b c d e:V},List.lookup (aai "by_row") [(aai "spots",a),(aai "mosts",b),(aai "first",c),(aai "whats",d),(aai "tables",e)]=none:=d9 (by ac_rfl) (by ac_rfl) (by ac_rfl) (by ac_rfl) (by ac_rfl);have gx:=pl.good.wt _ (cZ lk);have L7:(d8 g.cs st.2 x).length<=100:=by
   cases x with
   | pick w rs=>exact aau (List.length_filter_le _ _) gx.1
   | eC di t b rs=>exact aas _
   | ask c k a b=>exact aas _
   | fin t b=>exact aas _
   | score c=>exact aas _
  refine aP (λN=>∀H1,aB H H1->∀a ys,H1 a=some (.lst ys)->bg (cg L H) ((((d8 g.cs st.2 x).filter λr=>decide (r.word=word)).map Gf).map p6) ys->N [~~~p,some (.str word),~~~a] H1) (λN hN=>?_) ?_
  ·dsimp?[dC,bS,Dy];refine⟨_,_,_,hp,T.a7,T.na_Play_course,_,jS,c,rfl,_,_,h1,lp,_,_,_,hp,T.a7,T.na_Play_state,_,hG,cg L H,a8,g,co.co,pl.good,st.1,st.2,oO.mono a8,pl.len,x,lk,λa ys H1 s1 na ha ra=>?_⟩;have len:=ra.length;rw[aaj,aaj] at len;have zl:(ys.zip (d8 g.cs st.2 x)).length=ys.length:=by rw[aa9];lia
   refine⟨⟨_,bw.of ha⟩,?_⟩;have S:Src (uU K a) (aB H1) ys.length _:=src_list (λH' s'=>bw.of (s' _ _ ha));rw[<-zl] at S;refine dP (ys.zip (d8 g.cs st.2 x)) (λy=>if decide (y.2.word=word)=true then some y.1 else none) S (λ_ _ _ _ h=>h.1) ⋯ ?_ ?_
   ·rintro i ⟨y,r⟩ z OB ⟨_,ez⟩ Y N3 y1 y2;obtain⟨e1,e2⟩:=List.getElem?_zip_eq_some.mp OB;rw[e1] at ez;cases ez;symm;obtain⟨r',q,_,b1,b2,b3,er,rfl,hq,_,_⟩:=lF ra e1;nofun;rw[e2] at er;cases er;have hq:=s1 _ _ (a8 _ _ hq);dsimp?[hq]
    by_cases e:r.word=word
    ·rw[if_pos e];exact y1 _ (if_pos (decide_eq_true e))
    ·rw[if_neg e];exact y2 (if_neg (by simpa using e))
   ·intro D n1 n2;exact hN _ (s1.trans (aj n2)) D _ ai (iq ra)
  rintro H1 s1 a ys ha ry;have qp:=ry.length;rw[aaj,aaj] at qp;have hd:((d8 g.cs st.2 x).filter λr=>decide (r.word=word)).head?=(d8 g.cs st.2 x).find? λr=>decide (r.word=word):=by rw[List.head?_filter]
  subst_vars;cases er:(d8 g.cs st.2 x).filter λr=>decide (r.word=word) with
  | nil=>
   rw[er] at hd qp;refine aP (λ_=>True) (λN _=>?_) trivial;dsimp?[ha,tRaise];rw[if_pos (by rw[List.length_nil] at qp;lia)];exact⟨∅,kE hd.symm _ s1⟩
  | cons r rest=>
   rw[er] at hd qp ry;symm;obtain⟨y,ys,rfl,r1,_⟩:=aU.mp ry;nofun;refine aP (λN=>N [~~~p,some (.str word),~~~a] H1) (λN hN=>?_) ?_
   ·dsimp?[ha,tRaise];rw[if_neg ⋯];exact hN
   symm;obtain⟨f',fF,ak,kM,kk⟩:=kQ r hd.symm;nofun;have lJ:r∈d8 g.cs st.2 x:=(List.mem_filter.mp (by rw[er];exact aar)).1;have gr:r.ds.length<=100/\∀d∈r.ds,fW g.cs d:=by
    cases x with
    | pick w rs=>exact gx.2 r (List.mem_filter.mp lJ).1
    | eC di t b rs=>cases lJ
    | ask c k a b=>cases lJ
    | fin t b=>cases lJ
    | score c=>cases lJ
   have Bj:=pl.same s1;have UA:∀{a b c d:V},List.lookup (aai "go") (kB a b c d)=none:=by intro a b c d;unfold kB;rw[bT ∅,bT ∅,bT ∅,bT ∅];rfl
   dsimp?[dC,bS,Dv,KU];refine⟨_,_,s1 _ _ hp,UA,_,_,_,s1 _ _ hp,T.a7,T.na_Play_course,_,jS,c,rfl,_,_,s1 _ _ h1,Bg,_,_,_,s1 _ _ hp,T.a7,T.na_Play_state,_,hG,_,ha,_,at0,g,co.co.mono (a8.trans s1),pl.good,st.1,st.2,oO.mono (a8.trans s1),_,_,r.ds,r.to,r1.mono (a8.trans s1),gr.2,gr.1,pl.len,f',fF,ak,λp' l' H2 s2 n1 n2 e1 e2=>⟨⋯,λt H3 s3 nt et=>?_⟩⟩;have lM:=s1.trans (s2.trans s3);have fr:∀{a o},H a=none->H3 a=some o->cg L H3 a=some o:=λ{a o} n h=>by rw[cW (pl.out n)];exact h
   have pl3:=pl.same lM;exact⟨tl,tb,L,g,st,pd,tr,pl3,Bk,(fF,r.ds.foldl (iI g.cs 0) st.2),⟨p',l',rfl,fr (none_of s1 n1) (s3 _ _ e1),fr (none_of s1 n2) (s3 _ _ e2)⟩,(c5 _ _).trans pl.len,(0,1),b7.mpr ⟨t,rfl,fr (none_of (s1.trans s2) nt) et⟩,yy,jq 0 ∅ ∅,λz H' s'=>kM z H' (lM.trans s'),λz H' k' CF=>kk z H' ((K3.of lM).trans k') CF⟩
theorem jT:aV ["self","value","what"] ["self","value"] (au (inClass (top 46) 6)):=.mk
abbrev DW (qP qC qn qm:Addr):Sp:=λvs H Q E=>dj vs λp v=>dg p λp=>fR v λv=>∃(tl tb:Addr) (L:List Addr) (g:Gm) (st:dR) (pd:Int×Int) (tr:List uY),dz qP qC L H p tl tb g st pd tr/\tr.length<=200/\∃(x:Wt),look g.ps st.1=some x/\(∀di t b rs,x=.eC di t b rs->∃ps,di=ps.map qF/\nN ps)/\jB 500000 pd/\((∀ps t b rs,x=.eC (List.map qF ps) t b rs->v∉gy ps)->∀H',K3 p tl tb H H'->dz qP qC L H' p tl tb g st pd tr->E (.ref qn) none H')/\(∀ps t b rs,x=.eC (List.map qF ps) t b rs->v∈gy ps->0<=v/\v<=1000/\jB 500000 (t,b)/\∃r f fF,wA rs v=some r/\dW g (r.2.2.1.foldl (iI g.cs v) st.2) f r.2.2.2=some fF/\
  (tr.length=200->∀H',K3 p tl tb H H'->dz qP qC L H' p tl tb g st pd tr->E (.ref qm) none H')/\(tr.length<200->∀H',K3 p tl tb H H'->dz qP qC L H' p tl tb g (fF,r.2.2.1.foldl (iI g.cs v) st.2) (Wq.pl pd (t,b)) (tr++ [(aai (toString v),st,pd)])->Q .bZ H'))
theorem DX (T:0|||0):dB P w K mg base (cu P w) 9 aF "throw" ["self","value"] (DW aF ah aI aA):=by
 have bo:=ku T;have yA:=KW T;have eV:=DU T;have lN:=Oq T;have mZ:=Iy T;refine T.rB.dE (λ_ _ _ _ _ _=>dQ λ_ _=>rfl) λf fd F=>F.HB jT (λvs H Q E h=>?_) (λbR A outer s H vs Q E hr h=>?_)
 ·obtain⟨_,_,rfl,_⟩:=Ba h;rfl
 ·symm;obtain⟨p,v,rfl,tl,tb,L,g,st,pd,tr,pl,Bk,x,lk,xg,yy,kE,kQ⟩:=Ba h;nofun;have nd:=jT.nd;have yp:A.handled=none:=hr.hd;refine⟨_,(ag (aK (i:=2) (c4 bo T.aW (bp (pv 0) rfl) (aa (bp (pv 0) rfl) af)))
  (ag (bc (PW.pt (pw_or (aL pe (av ao (pv 2) ae) aZ (aR _)) (pw_or (xp (iM (aN yA (aa (pv 1) af)))) (pw_or1 (aL (jG (K:=K)) (pv 1) (ik eV T.a7 (pv 0)) rfl))))) (aq (fg rfl T.k_NoStep T.x_NoStep yp (aa aZ af)))
   aX)
  (aq (bU (c4 mZ T.a7 (pv 0) (aa (cX pK (by rfl) T.z_str rfl (aa (pv 1) af)) (aa (c4 lN T.aW (bp (pv 0) rfl) (aa (bp (pv 0) rfl) (aa (pv 1) af))) (aa (av ao (pv 2) ae) af))) (hx:=tN)))))),?_⟩
  refine(?_:let bO:TS:=_;let bP:TS:=_;let bQ:TS:=_;tSeq bO (tSeq bP bQ) _ _ _);intro bO bP bQ;have sl:=sizeLine_eq;symm;obtain⟨dp,c,sv,pv,xs,hp,co,oO,rp,sL,al⟩:=pl.ex;obtain⟨dc,sp,mo,wh,us,By,h1,_⟩:=id co;nofun;have h1:=a8 _ _ h1;have lp:∀{a b c d e:V},List.lookup (aai "what_at") [(aai "spots",a),(aai "mosts",b),(aai "first",c),(aai "whats",d),(aai "tables",e)]=none:=d9 (by ac_rfl) (by ac_rfl) (by ac_rfl) (by ac_rfl) (by ac_rfl);have Bg:∀{a b c d e:V},List.lookup (aai "by_value") [(aai "spots",a),(aai "mosts",b),(aai "first",c),(aai "whats",d),(aai "tables",e)]=none:=d9 (by ac_rfl) (by ac_rfl) (by ac_rfl) (by ac_rfl) (by ac_rfl);have UA:∀{a b c d:V},List.lookup (aai "go") (kB a b c d)=none:=by intro a b c d;unfold kB;rw[bT (by ac_rfl),bT (by ac_rfl),bT (by ac_rfl),bT (by ac_rfl)];rfl
  have low:∀{a b c d:V},List.lookup (aai "open_ways") (kB a b c d)=none:=by intro a b c d;unfold kB;rw[bT ∅,bT ∅,bT ∅,bT ∅];rfl
  refine aP (λN=>∀u,Rep (cg L H) (jI x) u->N [~~~p,v⁻¹,some u] H) (λN hN=>?_) ?_
  ·dsimp?[dC,bS,lE];exact⟨_,_,_,hp,T.a7,T.na_Play_course,_,jS,c,rfl,_,_,h1,lp,_,_,_,hp,T.a7,T.na_Play_state,_,hG,cg L H,a8,g,co.co,st.1,st.2,oO.mono a8,_,lk,λu ru=>hN u ru⟩
  rintro u ru
  by_cases kt:sM x=aai "throw"
  case neg=>
   symm;obtain⟨q,CB,rfl,hq⟩:=nS ru;nofun;have og:=a8 _ _ hq;refine aP (λ_=>True) (λN _=>?_) trivial;refine dJ (λY N k=>by dsimp?[og];rw[if_pos kt];exact k) ?_;dsimp?[tRaise];exact⟨∅,kE (λps t b rs e=>absurd (by rw[e];rfl) kt) _ (.of (aB.refl _)) pl⟩
  symm;obtain⟨di,t,b,rs,rfl⟩:=qk kt;obtain⟨ps,rfl,gl⟩:=xg _ _ _ _ rfl;obtain⟨q,w1,x1,x2,x3,rfl,hq,r1,r2,rt,r4⟩:=dF.mp (show Rep _ (.tup _) u from ru);nofun;rw[aT.mp r1] at hq;have og:=a8 _ _ hq;subst_vars
  by_cases hv:v∈gy ps
  case neg=>
   refine aP (λ_=>True) (λN _=>?_) trivial;dsimp?[bS,DR,zW,og,tRaise];rw[if_neg (by simp),if_neg ∅];refine⟨_,_,hp,low,tl,tb,L,g,st,pd,tr,pl,_,lk,_,⟨ps,rfl,gl,rfl⟩,λa H1 k1 Bj na ra=>?_⟩;symm;obtain⟨a',ys,e0,ha,ry⟩:=ba.mp ra;nofun;cases e0;obtain rfl:=hU ry;refine⟨_,_,rfl,.inl (bw.of ha),rfl,jo _,_,rfl,?_⟩;rw[oN,decide_eq_false hv];refine⟨∅,kE (λIw t' b' GA e=>?_) _ k1 Bj⟩
   injection e with e
   rw[<-gz e];exact hv
  symm;obtain⟨v0,v1,oP,r,f',fF,ro,ak,kM,kk⟩:=kQ ps t b rs rfl hv;nofun;refine aP (λN=>∀H1,K3 p tl tb H H1->dz aF ah L H1 p tl tb g st pd tr->N [~~~p,v⁻¹,~~~q] H1) (λN hN=>?_) ?_
  ·dsimp?[bS,DR,zW,og];rw[if_neg (by simp),if_neg ∅];refine⟨_,_,hp,low,tl,tb,L,g,st,pd,tr,pl,_,lk,_,⟨ps,rfl,gl,rfl⟩,λa H1 k1 Bj na ra=>?_⟩;symm;obtain⟨a',ys,e0,ha,ry⟩:=ba.mp ra;nofun;cases e0;obtain rfl:=hU ry;refine⟨_,_,rfl,.inl (bw.of ha),rfl,jo _,_,rfl,?_⟩;rw[ints_in hv];exact hN _ k1 Bj
  rintro H1 k1 Bj;symm;obtain⟨dp1,c1,sv1,pv1,xs1,UB,Mn,UC,rp1,aab,al1⟩:=Bj.ex;obtain⟨dc1,sp1,UD,wh1,us1,ft1,g1,_⟩:=id Mn;nofun;have g1:=a8 _ _ g1;have sm:=k1.df pl.mem.1 pl.mem.2.1 pl.mem.2.2;have L9:=sm _ _ hq;dsimp?[dC,bS,NU,KU];refine⟨_,_,UB,UA,?_,_,_,_,UB,T.a7,T.na_Play_course,_,jS,c1,rfl,_,_,g1,Bg,_,_,_,UB,T.a7,T.na_Play_state,_,hG,g,Mn.co.mono a8,pl.good,st.1,st.2,UC.mono a8,pl.len,_,_,_,_,lk,r,ro,f',fF,ak,λp' l' H2 s2 n1 n2 e1 e2=>?_⟩
  ·exact Nat.lt_of_le_of_lt (Nat.log2_le_self _) ⋯
  have fr:∀{a o},H1 a=none->H2 a=some o->cg L H2 a=some o:=λ{a o} n h=>by rw[cW (Bj.out n)];exact h
  have Mo:=mY (L:=L) s2;exact⟨_,s2 _ _ (a8 _ _ L9),_,at2,tl,tb,L,g,st,pd,tr,Bj.same s2,Bk,(fF,r.2.2.1.foldl (iI g.cs v) st.2),⟨p',l',rfl,fr n1 e1,fr n2 e2⟩,(c5 _ _).trans pl.len,(t,b),Rep.mono (sm.trans Mo) rt,yy,oP,λz H' s'=>kM z H' (k1.trans (.of (s2.trans s'))) (Bj.same (s2.trans s')),λz H' k' CF=>kk z H' (k1.trans ((K3.of s2).trans k')) CF⟩
theorem jU:aV ["self"] ["self"] (au (inClass (top 46) 8)):=.mk
theorem KZ (T:0|||0):dB P w K mg base (cu P w) 1 aF "shown" ["self"] (zX aF ah):=by
 refine T.rA.dE (λ_ _ _ _ _ _=>gq λ_=>rfl) λf fd F=>F.d4 jU (λvs H Q E h=>?_) (λbR A outer s H vs Q E hr h=>?_)
 ·obtain⟨_,rfl,_⟩:=nM h;rfl
 ·symm;obtain⟨p,rfl,tl,tb,L,g,st,pd,tr,pl,Bk,lw,kk⟩:=nM h;nofun;have nd:=jU.nd;refine⟨_,(aq (aQ (fe PySem.F.plainAttrs_str PySem.F.slot_str_join PySem.F.type_str_join (vG (K:=K)) aZ (aa (b5 rfl (N:=["self"]) (so:=au (inClass (top 46) 8)) (N':=["step"]) (k:=1) (fr:=[]) rfl rfl ⟨rfl,∅,∅,∅,rfl,∅,∅⟩ (bh (K:=K) (bp (pv 0) rfl)) (λ_ _ _ _ _=>(a5 (i:=0) (show(["step"]:List Str).Nodup by ac_rfl) rfl (.inl rfl))) (λ_ _ _ _ _=>cV)
   (λ_ _ _ _ _=>(av ao (pv 0) ae))) af)))),?_⟩
  have sl:=sizeLine_eq;symm;obtain⟨dp,c,sv,pv,xs,hp,co,oO,rp,sL,al⟩:=pl.ex;nofun;have xl:=al.length;dsimp?[dC];refine⟨rfl,_,_,_,hp,T.a7,T.na_Play_trail,_,DL,tl,rfl,⟨_,bw.of sL⟩,?_⟩;have S:Src (uU K tl) (aB H) xs.length _:=src_list (λH' s'=>bw.of (s' _ _ sL));rw[xl] at S;refine dP tr (λe=>some (.str e.1)) S (λ_ _ _ _ h=>h.1) ⋯ ?_ ?_
  ·rintro i e x ee ⟨_,ex⟩ Y N y1 y2;symm;obtain⟨e',X1,t,BB,ET,rfl,ht,_⟩:=al.get ex;nofun;rw[ee] at X1;cases X1;have ht:=a8 _ _ ht;unfold mC;refine xO ?_;dsimp?[ht];exact y1 _ rfl
  ·intro D n1 n2;rw[show tr.filterMap (λe=>some (V.str e.1))=(tr.map (·.1)).map V.str by rw[aaJ,abi];rfl];refine⟨tr.map (λe:uY=>e.1),bw.of ai,?_,kk _ (aj n2)⟩;refine joinOk_of (B:=20) (λy hy=>?_) (by rw[aaj,show(aai " ").length=1 by ac_rfl];lia);symm;obtain⟨e,he,rfl⟩:=abt.mp hy;nofun;exact lw e he
abbrev ir (G H:Hp):Hp:=λa=>match G a with
 | some (.lst _)=>none
 | _=>H a
abbrev dS (G H:Hp):Prop:=∀a ys,G a=some (.lst ys)->∃zs,H a=some (.lst zs)
theorem dS.of {G H:Hp} (s:aB G H):dS G H:=λa ys e=>⟨ys,s _ _ e⟩
theorem dS.trans {G H K:Hp} (s:dS G H) (t:aB H K):dS G K:=λa ys e=>by
 obtain⟨zs,h⟩:=s a ys e;exact⟨zs,t _ _ h⟩
set_option tactic.hygienic true in
theorem iu {G H:Hp} {a:Addr} (h:∀ys,G a≠some (.lst ys)):ir G H a=H a:=by
 unfold ir
 split
 ·rename_i e;exact absurd e (h _)
 ·rfl
theorem uD {G H:Hp} {a:Addr} {ys:List V} (h:G a=some (.lst ys)):ir G H a=none:=by
 unfold ir;rw[h]
theorem qq {G H:Hp} {a:Addr} {o:HO} (h:ir G H a=some o):(∀ys,G a≠some (.lst ys))/\H a=some o:=by
 by_cases c:∃ys,G a=some (.lst ys)
 ·obtain⟨ys,e⟩:=c;rw[uD e] at h;cases h
 ·have c:∀ys,G a≠some (.lst ys):=λys e=>c ⟨ys,e⟩;rw[iu c] at h;exact⟨c,h⟩
theorem sN {G H H':Hp} (s:aB H H'):aB (ir G H) (ir G H'):=λa o e=>by
 obtain⟨c,h⟩:=qq e;rw[iu c];exact s _ _ h
theorem DY {G H:Hp}:aB (ir G H) H:=λa o e=>(qq e).2
theorem wL {G G' H:Hp} (s:dS G G'):aB (ir G' H) (ir G H):=λa o e=>by
 obtain⟨c,h⟩:=qq e;rw[iu (λys k=>by obtain⟨zs,z⟩:=s a ys k;exact c zs z)];exact h
theorem i4 {G H:Hp} {l:Addr} {ys:List V} {o:HO} (e:G l=some (.lst ys)):ir G (upd H l o)=ir G H:=by
 funext a
 by_cases c:∃ys,G a=some (.lst ys)
 ·obtain⟨zs,z⟩:=c;rw[uD z,uD z]
 ·have c:∀ys,G a≠some (.lst ys):=λys e=>c ⟨ys,e⟩;rw[iu c,iu c,aD (λz=>by rw[z] at c;exact c ys e)]
abbrev dM (G H:Hp) (d:Dat) (v:V):Prop:=Rep (ir G H) d v
abbrev cS (G H:Hp) (ds:List Dat) (vs:List V):Prop:=bg (ir G H) ds vs
theorem dM.mono {G H H':Hp} {d:Dat} {v:V} (s:aB H H') (h:dM G H d v):dM G H' d v:=Rep.mono (sN s) h
theorem cS.mono {G H H':Hp} {ds:List Dat} {vs:List V} (s:aB H H') (h:cS G H ds vs):cS G H' ds vs:=bg.mono (sN s) h
theorem dM.low {G G' H:Hp} {d:Dat} {v:V} (s:dS G G') (h:dM G' H d v):dM G H d v:=Rep.mono (wL s) h
theorem cS.low {G G' H:Hp} {ds:List Dat} {vs:List V} (s:dS G G') (h:cS G' H ds vs):cS G H ds vs:=bg.mono (wL s) h
theorem cS.rep {G H:Hp} {ds:List Dat} {vs:List V} (h:cS G H ds vs):bg H ds vs:=bg.mono DY h
theorem bV {G H:Hp} {x:Str}:dM G H (.str x) (.str x):=aT.mpr rfl
theorem dX {G H:Hp} {k:Int}:dM G H (.int k) (.int k):=bD.mpr rfl
theorem K0 {G H:Hp}:dM G H .bZ .bZ:=by unfold dM;rw[Rep]
theorem gj {G H:Hp}:cS G H [] []:=bA.mpr rfl
theorem bY {G H:Hp} {d:Dat} {ds:List Dat} {v:V} {vs:List V} (h:dM G H d v) (k:cS G H ds vs):cS G H (d::ds) (v::vs):=aU.mpr ⟨_,_,rfl,h,k⟩
theorem uE {G H:Hp} {p:Addr} {ds:List Dat} {vs:List V} (n:G p=none) (h:H p=some (.lst vs)) (r:cS G H ds vs):dM G H (.lst ds) (.ref p):=ba.mpr ⟨p,vs,rfl,by rw[iu (λys e=>by rw[n] at e;cases e)];exact h,r⟩
theorem qr {G H:Hp} (s:dS G H) {p:Addr} {ds:List Dat} {vs:List V} (h:H p=some (.tup vs)) (r:cS G H ds vs):dM G H (.tup ds) (.ref p):=jn.mpr ⟨p,vs,rfl,by rw[iu (λys e=>by obtain⟨zs,z⟩:=s _ _ e;rw[h] at z;cases z)];exact h,r⟩
theorem wM {G H:Hp} (s:dS G H) {p:Addr} {a b:Dat} {x y:V} (h:H p=some (.tup [x,y])) (ha:dM G H a x) (hb:dM G H b y):dM G H (.tup [a,b]) (.ref p):=qr s h (bY ha (bY hb gj))
theorem yB {G H:Hp} (s:dS G H) {p:Addr} {a b c:Dat} {x y z:V} (h:H p=some (.tup [x,y,z])) (ha:dM G H a x) (hb:dM G H b y) (hc:dM G H c z):dM G H (.tup [a,b,c]) (.ref p):=qr s h (bY ha (bY hb (bY hc gj)))
theorem K2 {G H:Hp} (s:dS G H) {p:Addr} {a b c d:Dat} {x y z u:V} (h:H p=some (.tup [x,y,z,u])) (ha:dM G H a x) (hb:dM G H b y) (hc:dM G H c z) (hd:dM G H d u):dM G H (.tup [a,b,c,d]) (.ref p):=qr s h (bY ha (bY hb (bY hc (bY hd gj))))
theorem oQ {G H:Hp} {d:Dat} {v:V} (h:dM G H d v) {ds:List Dat} {vs:List V} (k:cS G H ds vs):cS G H (ds++ [d]) (vs++ [v]):=bg.append k (aU.mpr ⟨_,_,rfl,h,bA.mpr rfl⟩)
abbrev BC (w:Str):Prop:=0<w.length/\w.length<=8/\gu (.str w)=true/\∀c∈w.cps.toList,97<=c/\c<=122
abbrev BD:Dd->Prop
 | .set _ k=>0<=k
 | .plus _ k=>0<=k
 | _=>True
abbrev GB (cs:List (Str×Int)):Option (Str×Str×Int)->Prop
 | none=>True
 | some (n,x,_)=>n∈cs.map (·.1)/\(x=aai "from"\/x=aai "below")
abbrev jC (cs:List (Str×Int)) (gs:List Str):Wt->Prop
 | .ask _ _ _ _=>False
 | .fin t b=>b=1/\-9<=t/\t<=9
 | .score c=>c∈cs.map (·.1)
 | .pick _ rs=>(rs.length<=4/\(∃z,∀r∈rs,r.word.length=z)/\∃r∈rs,r.wh=none)/\(rs.map (·.word)).Nodup/\∀r∈rs,BC r.word/\GB cs r.wh/\r.to∈gs/\∀d∈r.ds,BD d
 | .eC di t b rs=>∃ps,di=ps.map qF/\nN ps/\jB 20 (t,b)/\(∀v∈gy ps,0<=v/\v<=1000/\∃r,wA rs v=some r)/\∀r∈rs,r.2.2.2∈gs/\∀d∈r.2.2.1,BD d
structure DZ (g:Gm) (gs:List Str):Prop where
 good:GoodG g
 most:∀c∈g.cs,0<=c.2/\c.2<=1000
 hs:∀p∈g.ps,BC p.1
 hd:∃f∈gs,(g.ps.map (·.1)).head?=some f
 to:∀nm∈gs,∀ns,∃fF x,dW g ns 3 nm=some fF/\look g.ps fF=some x/\jC g.cs gs x
structure ng (g:Gm) (gs:List Str) (st:dR):Prop where
 len:st.2.length=g.cs.length
 nn:∀n∈st.2,0<=n/\n<=1000
 at_:∃x,look g.ps st.1=some x/\jC g.cs gs x
abbrev dY (g:Gm) (st:dR) (d:Dat) (w:Str) (py:Int×Int) (cK:dR):Prop:=
 (∃sj rs r,look g.ps st.1=some (.pick sj rs)/\(rs.map (·.word)).Nodup/\(d8 g.cs st.2 (.pick sj rs)).find? (λr=>decide (r.word=w))=some r/\d=.str w/\py=(0,1)/\cK.2=r.ds.foldl (iI g.cs 0) st.2/\dW g cK.2 3 r.to=some cK.1)\/
 (∃ps t b rs r v,look g.ps st.1=some (.eC (ps.map qF) t b rs)/\nN ps/\v∈gy ps/\0<=v/\v<=1000/\d=.int v/\w=aai (toString v)/\py=(t,b)/\wA rs v=some r/\cK.2=r.2.2.1.foldl (iI g.cs v) st.2/\dW g cK.2 3 r.2.2.2=some cK.1)
abbrev GC (K:abk):Sp:=λvs H Q _=>dj vs λa k=>dg a λa=>fR k λk=>∃ns,bw K H a (List.map V.int ns)/\0<=k/\k<1000/\∀n,Q (.int n) H
abbrev bX (c m:Int):Int:=c % 2^64*11400714819323198485 % 2^64 / 2^11 % m
theorem cH {c m:Int} (h:0<m):0<=bX c m:=aa2 _ ⋯
theorem cR {c m:Int} (h:0<m):bX c m<m:=aba _ h
abbrev b8:Sp:=λvs H Q _=>dj vs λc m=>fR c λc=>fR m λm=>0<m/\Q (.int (bX c m)) H
abbrev Iz:Sp:=λvs H Q _=>dj vs λa b=>fR a λa=>fR b λb=>0<b/\Bt 8900 b/\∀p H',aB H H'->H p=none->H' p=some (.tup (Pr (Nm.st a b) (Nm.sb a b)))->Q (.ref p) H'
abbrev i5 (sg:Nat->Int) (size:Nat):Str:=⟨((List.range size).map λj:Nat=>97+ (sg j).toNat).toArray⟩
theorem D0 (sg:Nat->Int) (j:Nat):i5 sg (j+1)=i5 sg j++ (⟨#[97+ (sg j).toNat]⟩:Str):=by
 unfold i5;rw[List.range_succ,aaq];show(⟨(_++ [_]).toArray⟩:Str)=⟨_++#[_]⟩;congr 1;simp
theorem oR (sg:Nat->Int) (j:Nat):(i5 sg j).length=j:=by
 unfold i5 Str.length;simp
theorem K4 {x:Int} (h:0<=x) (h':x<26):mv (aai "abcdefghijklmnopqrstuvwxyz").cps.toList x=some (97+x.toNat):=by
 have hh:∀i∈List.range 26,(aai "abcdefghijklmnopqrstuvwxyz").cps.toList[i]?=some (97+i):=∅
 have e:x=((x.toNat:Nat):Int):=⋯
 have:=hh x.toNat (List.mem_range.mpr ⋯);rw[e,aaF];exact bM this
theorem K5 {sg:Nat->Int} {size:Nat} (h1:1<=size) (h8:size<=8) (h:∀j,0<=sg j/\sg j<26):BC (i5 sg size):=by
 have m:∀c∈(i5 sg size).cps.toList,97<=c/\c<=122:=λc hc=>by
  obtain⟨j,_,rfl⟩:=abt.mp (show c∈(List.range size).map λj:Nat=>97+ (sg j).toNat from hc);have:=h j;lia
 refine⟨by rw[oR];lia,by rw[oR];lia,?_,m⟩;rw[gu,PyData.canLay0];unfold PyData.strOk;rw[<-Array.all_toList];simp only[List.all_eq_true,decide_eq_true_eq];intro x hx;have:=m x hx;lia
theorem K6 {sg RI:Nat->Int} {size j:Nat} (hj:j<size) (h:0<=sg j) (h':0<=RI j) (ne:sg j≠RI j):i5 sg size≠i5 RI size:=λe=>by
 have e:=congrArg (λs:Str=>s.cps.toList[j]?) e;unfold i5 at e;simp only[aal] at e;rw[List.getElem?_range hj] at e;have e:97+ (sg j).toNat=97+ (RI j).toNat:=aaC e;lia
abbrev Bl (c sp sm:Int) (k j:Nat):Int:=if (j:Int)=sp then (bX (c+4) 26+5* (k:Int)) % 26 else bX (c+31* (j:Int)+977* (k:Int)* (1 - sm)+3) 26
theorem GD (c sp sm:Int) (k j:Nat):0<=Bl c sp sm k j/\Bl c sp sm k j<26:=by
 unfold Bl
 split
 ·lia
 ·exact⟨cH ∅,cR ∅⟩
theorem D1 {c sp sm:Int} {n size:Nat} (h0:0<=sp) (h1:sp< (size:Int)) (hn:n<=12):((List.range n).map λk:Nat=>i5 (Bl c sp sm k) size).Nodup:=by
 unfold List.Nodup;rw[List.pairwise_map];refine List.Pairwise.imp_of_mem ?_ (List.nodup_range (n:=n));intro i j hi hj ne;have hi:=List.mem_range.mp hi;have hj:=List.mem_range.mp hj;refine K6 (j:=sp.toNat) ⋯ (GD ..).1 (GD ..).1 ?_;unfold Bl;rw[if_pos ⋯,if_pos ⋯];have b0:=cH (c:=c+4) (m:=26) ∅;have b1:=cR (c:=c+4) (m:=26) ∅;lia
abbrev D2:Sp:=λvs H Q _=>dj vs λc n=>fR c λc=>fR n λn=>0<=n/\n<=12/\∀(l:Addr) (H':Hp) (ws:List Str),aB H H'->H l=none->H' l=some (.lst (ws.map V.str))->ws.length=n.toNat->ws.Nodup->(∀w∈ws,BC w)->(∃z,∀w∈ws,w.length=z)->Q (.ref l) H'
theorem sO:∀{l:List Str} {x:Str} {j:Nat},j<l.idxOf x->l[j]?≠some x
 | [],_,_,h=>by simp at h
 | y::l,x,j,h=>by
  rw[List.idxOf_cons] at h
  by_cases c:y=x
  ·rw[c,beq_self_eq_true] at h;exact absurd h (Nat.not_lt_zero _)
  ·rw[beq_false_of_ne c] at h;cases j with
   | zero=>simpa using c
   | succ j=>rw[List.getElem?_cons_succ];exact sO (l:=l) (Nat.lt_of_succ_lt_succ h)
theorem D3 (l:List Str):(l.map Dat.str).map toP=l.map PyData.str:=by
 rw[aaJ];exact List.map_congr_left λa _=>by show toP (.str a)=_;rw[toP]
theorem K7 {l:List Str} {x:Str} (h:x∈l):((l.map Dat.str).map toP)[l.idxOf x]?=some (toP (.str x))/\∀j,j<l.idxOf x->((l.map Dat.str).map toP)[j]?≠some (toP (.str x)):=by
 have hl:=List.idxOf_lt_length_of_mem h;rw[D3,show toP (.str x)=PyData.str x by rw[toP]];refine⟨by rw[aal,aao hl,List.getElem_idxOf];rfl,λj hj e=>?_⟩;rw[aal] at e;obtain⟨y,ey,e⟩:=abq.mp e
 injection e with e
 exact sO hj (e▸ey)
abbrev Kx (n:Nat) (d:Dat):Prop:=tU (toP d)=true/\(toP d).depth<=n
theorem K8 {n:Nat} {x:Str} (h:gu (.str x)=true):Kx n (.str x):=by
 rw[gu] at h;unfold Kx;rw[toP,tU,PyData.depth];exact⟨h,aas _⟩
abbrev D4:Sp:=λvs H Q _=>jr vs λc cl fh th=>fR c λc=>dg cl λcl=>qB fh λfh=>L3 th λth=>∃(cs:List (Str×Int)),Rep H (Ru cs) (.ref cl)/\cs.length<=3/\fh∈cs.map (·.1)/\(cs.map (·.1)).Nodup/\(∀x∈cs,BC x.1)/\∀(l:Addr) (H':Hp) (ds:List Dd),aB H H'->H l=none->dM H H' (.lst (ds.map zH)) (.ref l)->ds.length<=3->(∀d∈ds,fW cs d/\BD d)->Q (.ref l) H'
abbrev zZ:Sp:=λvs H Q _=>jr vs λc cl fh gl=>fR c λc=>dg cl λcl=>qB fh λfh=>dg gl λgl=>∃(cs:List (Str×Int)),Rep H (Ru cs) (.ref cl)/\cs.length<=3/\fh∈cs.map (·.1)/\(cs.map (·.1)).Nodup/\(∀x∈cs,BC x.1)/\∃(gs:List Str),H gl=some (.lst (List.map V.str gs))/\0<gs.length/\gs.length<=3/\∀u H' x,aB H H'->dM H H' (jI x) u->lD cs x->jC cs gs x->Q u H'
abbrev IA (K:abk):Sp:=λvs H Q _=>jr vs λs at_ tu mo=>dg s λs=>fR at_ λat_=>fR tu λtu=>fR mo λmo=>∃ns,bw K H s (List.map V.int ns)/\0<=at_/\at_<=100/\1<=tu/\tu<=100/\1<=mo/\mo<=100/\∀u H' g gs,aB H H'->Rep H' (wj g) u->DZ g gs->Q u H'
abbrev IB:Sp:=λvs H Q _=>eS vs λv=>∃ps,Rep H (.lst (ps.map qF)) v/\nN ps/\∀l H',aB H H'->H l=none->H' l=some (.lst ((gy ps).map V.int))->Q (.ref l) H'
abbrev nW:Sp:=λvs H Q _=>dj vs λgv nm=>qB nm λnm=>∃g,Rep H (wj g) gv/\GoodG g/\∃x,look g.ps nm=some x/\∀u H',aB H H'->Rep H (jI x) u->Q u H'
theorem sP {H:Hp} {nm:Str}:∀{ps:List (Str×Wt)} {Bz:List V},bg H (ps.map λp=>Dat.tup [.str p.1,jI p.2]) Bz->∃us:List V,us.length=ps.length/\(∀(i:Nat) p u,ps[i]?=some p->us[i]?=some u->∃q,Bz[i]?=some (.ref q)/\H q=some (.tup [.str p.1,u]))/\∀x,look ps nm=some x->∃u r,((us.zip ps).filterMap λy=>if y.2.1=nm then some y.1 else none)=u::r/\Rep H (jI x) u
 | [],_,h=>⟨[],rfl,(λi p u e=>by simp at e),λx e=>by cases e⟩
 | p::ps,Bz,h=>by
  obtain⟨v,r,rfl,h1,h2⟩:=aU.mp (show bg H (Dat.tup [.str p.1,jI p.2]::ps.map λp=>Dat.tup [.str p.1,jI p.2]) Bz from h);obtain⟨q,a,b,rfl,hq,r1,r2⟩:=bI.mp h1;rw[aT.mp r1] at hq;obtain⟨us,e1,e2,e3⟩:=sP h2;refine⟨b::us,by rw[aaw,aaw,e1],λi p' u ep eu=>?_,λx ex=>?_⟩
  ·cases i with
   | zero=>cases ep;cases eu;exact⟨q,rfl,hq⟩
   | succ i=>exact e2 i p' u ep eu
  ·rw[List.zip_cons_cons,aaS]
   by_cases c:p.1=nm
   ·rw[if_pos c];have:look (p::ps) nm=some p.2:=by unfold look;rw[List.find?_cons_of_pos (by simpa using c)];rfl
    rw[this] at ex;cases ex;exact⟨b,_,rfl,r2⟩
   ·rw[if_neg c];exact e3 x (by unfold look at *;rwa [List.find?_cons_of_neg (by simpa using c)] at ex)
theorem wN {nm:Str}:∀{cs:List (Str×Int)} {ns:List Int},ns.length=cs.length->nm∈cs.map (·.1)->∃r,((cs.zip ns).filterMap λy=>if y.1.1=nm then some y.2 else none)=ns.getD (bG cs nm) 0::r
 | [],_,_,h=>by simp at h
 | c::cs,[],l,_=>by simp at l
 | c::cs,k::ns,l,h=>by
  rw[List.zip_cons_cons,aaS]
  by_cases e:c.1=nm
  ·have s0:bG (c::cs) nm=0:=by unfold bG;rw[aak,e,List.idxOf_cons_self]
   rw[if_pos e,s0];exact⟨_,rfl⟩
  ·have s1:bG (c::cs) nm=bG cs nm+1:=by unfold bG;rw[aak,List.idxOf_cons,beq_false_of_ne e];rfl
   rw[if_neg e,s1];exact wN (cs:=cs) (ns:=ns) (by simpa using l) (by simpa [Ne.symm e] using h)
abbrev uZ:List Pt->Int
 | []=>0
 | .num m::r=>(m:Int)+uZ r
 | .cU k _::r=>(k:Int)+uZ r
abbrev u4:List Pt->Int
 | []=>0
 | .num m::r=>(m:Int)+u4 r
 | .cU k s::r=>(k:Int)* (s:Int)+u4 r
theorem uF (p:Pt):∀ps,uZ (ps++ [p])=uZ ps+ (match p with | .num m=>(m:Int) | .cU k _=>(k:Int))
 | []=>by cases p <;>exact Int.add_comm _ _
 | .num m::ps=>by rw[aaY,uZ,uZ,uF p ps,Int.add_assoc]
 | .cU k s::ps=>by rw[aaY,uZ,uZ,uF p ps,Int.add_assoc]
theorem uG (p:Pt):∀ps,u4 (ps++ [p])=u4 ps+ (match p with | .num m=>(m:Int) | .cU k s=>(k:Int)* (s:Int))
 | []=>by cases p <;>exact Int.add_comm _ _
 | .num m::ps=>by rw[aaY,u4,u4,uG p ps,Int.add_assoc]
 | .cU k s::ps=>by rw[aaY,u4,u4,uG p ps,Int.add_assoc]
abbrev Aa:Sp:=λvs H Q _=>iL vs λgv l nm=>dg l λl=>qB nm λnm=>∃g,Rep H (wj g) gv/\GoodG g/\∃ns,H l=some (.lst (List.map V.int ns))/\ns.length=g.cs.length/\nm∈g.cs.map (·.1)/\∀H',aB H H'->Q (.int (ns.getD (bG g.cs nm) 0)) H'
abbrev wO:Sp:=λvs H Q _=>iL vs λgv nm l=>qB nm λnm=>dg l λl=>∃g,Rep H (wj g) gv/\GoodG g/\∃ns,H l=some (.lst (List.map V.int ns))/\ns.length=g.cs.length/\∃f fF,dW g ns f nm=some fF/\∀a l' H',aB H H'->H a=none->H l'=none->H' a=some (.tup [.str fF,.ref l'])->H' l'=some (.lst (List.map V.int ns))->Q (.ref a) H'
abbrev zK:List (Str×Int)->List Int->List (Key×V)
 | c::cs,n::ns=>(Sum.inr c.1,V.int n)::zK cs ns
 | _,_=>[]
theorem uH {n:Str}:∀{cs:List (Str×Int)} {ns:List Int},ns.length=cs.length->n∈cs.map (·.1)->dU (zK cs ns) (Sum.inr n)=some (.int (ns.getD (bG cs n) 0))
 | [],_,_,h=>by simp at h
 | c::cs,[],l,_=>by simp at l
 | c::cs,k::ns,l,h=>by
  rw[zK]
  by_cases e:c.1=n
  ·rw[gN (by rw[e])];have:bG (c::cs) n=0:=by unfold bG;rw[aak,e,List.idxOf_cons_self]
   rw[this];rfl
  ·rw[eJ (λz=>e (by injection z)),uH (cs:=cs) (ns:=ns) (by simpa using l) (by simpa [Ne.symm e] using h)];have:bG (c::cs) n=bG cs n+1:=by unfold bG;rw[aak,List.idxOf_cons,beq_false_of_ne e];rfl
   rw[this];rfl
theorem oS:∀{cs:List (Str×Int)} {ns:List Int},ns.length=cs.length->(zK cs ns).map (·.1)=cs.map λc=>(Sum.inr c.1:Key)
 | [],[],_=>rfl
 | [],_::_,l=>by simp at l
 | c::cs,[],l=>by simp at l
 | c::cs,k::ns,l=>by rw[zK,aak,aak,oS (by simpa using l)]
theorem uI (c:Str×Int) (k:Int):∀{cs:List (Str×Int)} {ns:List Int},ns.length=cs.length->zK (cs++ [c]) (ns++ [k])=zK cs ns++ [(Sum.inr c.1,V.int k)]
 | [],[],_=>rfl
 | [],_::_,l=>by simp at l
 | d::cs,[],l=>by simp at l
 | d::cs,n::ns,l=>by rw[aaY,aaY,zK,uI c k (by simpa using l),zK];rfl
theorem uJ {n:Str}:∀{cs:List (Str×Int)} {ns:List Int},n∉cs.map (·.1)->dU (zK cs ns) (Sum.inr n)=none
 | [],_,_=>rfl
 | c::cs,[],_=>rfl
 | c::cs,k::ns,h=>by rw[zK,eJ (λz=>h (by injection z with z;simp [z])),uJ (λz=>h (by rw[aak];exact aap _ z))]
theorem yC {n:Str} {k:Int}:∀{cs:List (Str×Int)} {ns:List Int},(cs.map (·.1)).Nodup->ns.length=cs.length->n∈cs.map (·.1)->putK (zK cs ns) (Sum.inr n) (.int k)=zK cs (ns.set (bG cs n) k):=by
 intro cs ns nd l h;have an:∀{cs:List (Str×Int)} {ns:List Int},ns.length=cs.length->n∈cs.map (·.1)->((zK cs ns).any λkv=>decide (kv.1=(Sum.inr n:Key)))=true:=λ{cs ns} l h=>by
  rw[List.any_eq_true];have:(Sum.inr n:Key)∈(zK cs ns).map (·.1):=by
   rw[oS l];obtain⟨c,hc,rfl⟩:=abt.mp h;exact abt.mpr ⟨c,hc,rfl⟩
  obtain⟨x,hx,e⟩:=abt.mp this;exact⟨x,hx,by simp [e]⟩
 unfold putK;rw[if_pos (an l h)];have mp:∀{cs:List (Str×Int)} {ns:List Int},(cs.map (·.1)).Nodup->ns.length=cs.length->(zK cs ns).map (λkv=>if kv.1=(Sum.inr n:Key) then (kv.1,V.int k) else kv)=zK cs (ns.set (bG cs n) k):=by
  intro cs
  induction cs with
  | nil=>intro ns _ _;cases ns <;>rfl
  | cons c cs ih=>
   intro ns nd l;cases ns with
   | nil=>simp at l
   | cons m ns=>
    rw[aak,List.nodup_cons] at nd;rw[zK,aak]
    by_cases e:c.1=n
    ·have s0:bG (c::cs) n=0:=by unfold bG;rw[aak,e,List.idxOf_cons_self]
     rw[if_pos (by rw[e]),s0,aaP,zK];congr 1;refine(List.map_congr_left λx hx=>?_).trans (List.map_id _);rw[if_neg]
     ·rfl
     ·intro z;have:x.1∈(zK cs ns).map (·.1):=abt.mpr ⟨x,hx,rfl⟩;rw[oS (by simpa using l),z] at this;obtain⟨c',Q7,e'⟩:=abt.mp this
      injection e' with e'
      exact nd.1 (by rw[e,<-e'];exact abt.mpr ⟨c',Q7,rfl⟩)
    ·have s1:bG (c::cs) n=bG cs n+1:=by unfold bG;rw[aak,List.idxOf_cons,beq_false_of_ne e];rfl
     rw[if_neg (λz=>e (by injection z)),s1,aaQ,zK,ih nd.2 (by simpa using l)]
 exact mp nd l
theorem yD {cs:List (Str×Int)} {ns:List Int} (l:ns.length=cs.length):(zK cs ns).length=cs.length:=by
 have:=congrArg List.length (oS l)
 rwa [aaj,aaj] at this
theorem uK {ns:List Int} {i:Nat} (h:i<ns.length):ns.getD i 0=ns[i]:=by rw[aaV,aao h];rfl
theorem D5 {cs:List (Str×Int)} {ns:List Int} (nd:(cs.map (·.1)).Nodup) (l:ns.length=cs.length):cs.map (λc=>ns.getD (bG cs c.1) 0)=ns:=by
 refine List.ext_getElem (by rw[aaj,l]) λi h1 h2=>?_;rw[aaj] at h1;rw[List.getElem_map];have e:bG cs (cs[i]).1=i:=by
  have h3:i< (cs.map (·.1)).length:=by rw[aaj];exact h1
  have h4:(cs.map (·.1)).idxOf (cs[i]).1< (cs.map (·.1)).length:=List.idxOf_lt_length_of_mem (abt.mpr ⟨_,aaH h1,rfl⟩);have h5:(cs.map (·.1))[(cs.map (·.1)).idxOf (cs[i]).1]=(cs.map (·.1))[i]:=by rw[List.getElem_idxOf,List.getElem_map]
  exact(List.getElem_inj nd).mp h5
 rw[e,uK h2]
abbrev D6:Sp:=λvs H Q _=>jr vs λgv l dv v=>dg l λl=>fR v λv=>∃(g:Gm),Rep H (wj g) gv/\GoodG g/\∃(ns:List Int),H l=some (.lst (List.map V.int ns))/\ns.length=g.cs.length/\∃(ds:List Dd),Rep H (.lst (List.map zH ds)) dv/\ds.length<=100/\(∀d∈ds,fW g.cs d)/\∀l' H',aB H H'->H l'=none->H' l'=some (.lst ((ds.foldl (iI g.cs v) ns).map V.int))->Q (.ref l') H'
abbrev IC:Sp:=λvs H Q _=>iL vs λgv l wv=>dg l λl=>∃g,Rep H (wj g) gv/\GoodG g/\∃ns,H l=some (.lst (List.map V.int ns))/\ns.length=g.cs.length/\∃wh,Rep H (KA wh) wv/\GB g.cs wh/\∀H',aB H H'->Q (.bl (km g.cs ns wh)) H'
abbrev wQ:Sp:=λvs H Q _=>dj vs λgv sv=>∃(g:Gm),Rep H (wj g) gv/\GoodG g/\∃(gs:List Str) (st:dR),mj H sv st.1 st.2/\st.2.length=g.cs.length/\∃(x:Wt),look g.ps st.1=some x/\jC g.cs gs x/\∀a H' ds,aB H H'->H a=none->Rep H' (.lst ds) (.ref a)->Gz g st x ds->Q (.ref a) H'
theorem Ab {w:Str} {r:Rw}:∀{rs:List Rw},(rs.map (·.word)).Nodup->r∈rs->r.word=w->∃q,(rs.filter λx=>decide (x.word=w))=r::q
 | [],_,h,_=>by cases h
 | a::rs,nd,h,e=>by
  rw[aak,List.nodup_cons] at nd;rcases aaX.mp h with z | z
  ·rw[<-z,List.filter_cons_of_pos (by simpa using e)];exact⟨_,rfl⟩
  ·have:a.word≠w:=λx=>nd.1 (by rw[x,<-e];exact abt.mpr ⟨r,z,rfl⟩);rw[List.filter_cons_of_neg (by simpa using this)];exact Ab nd.2 z e
abbrev D7:Sp:=λvs H Q _=>iL vs λgv sv dv=>∃(g:Gm),Rep H (wj g) gv/\GoodG g/\∃(st:dR),mj H sv st.1 st.2/\st.2.length=g.cs.length/\∃(d:Dat),Rep H d dv/\∃(w:Str) (py:Int×Int) (cK:dR),dY g st d w py cK/\∀a l H',aB H H'->H a=none->H l=none->H' a=some (.tup [.str cK.1,.ref l])->H' l=some (.lst (List.map V.int cK.2))->Q (.ref a) H'
abbrev K9:Wt->Int×Int
 | .eC _ t b _=>(t,b)
 | _=>(0,1)
abbrev ID:Sp:=λvs H Q _=>dj vs λgv sv=>∃(g:Gm),Rep H (wj g) gv/\GoodG g/\∃(st:dR),mj H sv st.1 st.2/\∃(x:Wt),look g.ps st.1=some x/\∀u H',aB H H'->Rep H' (dA (K9 x)) u->Q u H'
abbrev IE:Sp:=λvs H Q _=>iL vs λgv sv pv=>∃(g:Gm),Rep H (wj g) gv/\GoodG g/\∃(st:dR),mj H sv st.1 st.2/\st.2.length=g.cs.length/\∃(pd:Int×Int) (x:Wt),look g.ps st.1=some x/\Rep H (dA pd) pv/\jB 500000 pd/\(∀w,yn g.cs st.2 x=some w->jB 500000 w)/\∀u H',aB H H'->Rep H' (dA (DP g st pd x)) u->Q u H'
@[inline]abbrev Ent:=dR×(Int×Int)×Str
abbrev La (w:Str):Prop:=0<w.length/\w.length<=20/\gu (.str w)=true
theorem lO:aV ["_law_script","_law_k","_law_number_here"] ["_law_script","_law_k"] (au (top 52)):=.mk
theorem oU (T:0|||0):(1<<<"_law_cell") ["_law_script","_law_k"] (GC K):=by
 refine T.vQ.dE (λ_ _ _ _ _ _=>dQ λ_ _=>rfl) λf fd F=>F.d4 lO (λvs H Q E h=>?_) (λbR A outer s H vs Q E hr h=>?_)
 ·obtain⟨_,_,rfl,_⟩:=Ba h;rfl
 ·symm;obtain⟨a,k,rfl,ns,hS,k0,k1,kk⟩:=Ba h;nofun;have nd:=lO.nd;refine⟨_,(ag (bc (aL vf (pv 1) (aY (j9 (K:=K)) (by rfl) T.z_len aaA (aa (pv 0) af)) (aR _)) (aq (aQ (av (si (K:=K)) (pv 0) (pv 1))))
   aX)
  (ag (aK (i:=2) (aJ aS (aJ bj (pv 1) ae) ae))
  (ag (bc (aL fB (aY (j9 (K:=K)) (by rfl) T.z_len aaA (aa (pv 0) af)) ae (aR _)) (aq (aK (i:=2) (aJ aS (aJ bj (aJ dm (av (si (K:=K)) (pv 0) (aJ dm (aJ bj (pv 1) ae) (aY (j9 (K:=K)) (by rfl) T.z_len aaA (aa (pv 0) af)))) ae) ae) (aJ bj (aJ bj (pv 1) (pv 1)) ae))))
   aX)
  (aq (aQ (aJ dm (aJ bj (pv 2) (pv 2)) ae)))))),?_⟩
  refine(?_:let bO:TS:=_;let bP:TS:=_;let bQ:TS:=_;let cO:TS:=_;tSeq bO (tSeq bP (tSeq bQ cO)) _ _ _);intro bO bP bQ cO;dsimp?[JQ];have j2:k*k<=1000000:=Int.le_trans (Int.mul_le_mul (show k<=1000 by lia) (show k<=1000 by lia) k0 ∅) ∅;have j3:0<=k*k:=Int.mul_nonneg k0 k0;refine⟨ns,hS,eI (λc=>⟨ns,hS,k0,c,kk _⟩) (λc=>⟨bE ⋯ ⋯,ns,hS,eI (λz=>?_) (λz=>?_)⟩)⟩
  ·have m1:=aa2 (ns.getD (k*5 % (ns.length:Int)).toNat 0) (show(2147483647:Int)≠0 by decide);have m2:=aba (ns.getD (k*5 % (ns.length:Int)).toNat 0) (show(0:Int)<2147483647 by decide);exact⟨bE ⋯ ⋯,ns,hS,z,ns,hS,aa2 _ ⋯,aba _ z,∅,JP,bE ⋯ ⋯,bE ⋯ ⋯,bE ⋯ ⋯,∅,kk _⟩
  ·exact⟨bE ⋯ ⋯,∅,kk _⟩
theorem jV:aV ["_law_cell_here","_law_many"] ["_law_cell_here","_law_many"] (au (top 53)):=.mk
theorem nh (T:0|||0):(1<<<"_law_mixed") ["_law_cell_here","_law_many"] b8:=by
 refine T.t9.dE (λ_ _ _ _ _ _=>dQ λ_ _=>rfl) λf fd F=>F.d4 jV (λvs H Q E h=>?_) (λbR A outer s H vs Q E hr h=>?_)
 ·obtain⟨_,_,rfl,_⟩:=qU h;rfl
 ·symm;obtain⟨c,m,rfl,m0,kk⟩:=qU h;nofun;have nd:=jV.nd;refine⟨_,(aq (aQ (aJ dm (aJ kP (aJ dm (aJ bj (aJ dm (pv 0) (aJ xw ae ae)) ae) (aJ xw ae ae)) (aJ xw ae ae)) (pv 1)))),?_⟩;dsimp?[];have h1:=aa2 c (show((2:Int)^64)≠0 by decide);have h2:=aba c (show(0:Int)<2^64 by decide);exact⟨∅,∅,∅,∅,bE ⋯ ⋯,∅,∅,∅,∅,∅,∅,∅,kO.lit,m0,kk⟩
theorem nX:aV ["_law_top","_law_bottom","_law_one","_law_other"] ["_law_top","_law_bottom"] (au (top 54)):=.mk
theorem Lb (T:0|||0):(1<<<"_law_low") ["_law_top","_law_bottom"] Iz:=by
 refine T.yi.dE (λ_ _ _ _ _ _=>dQ λ_ _=>rfl) λf fd F=>F.d4 nX (λvs H Q E h=>?_) (λbR A outer s H vs Q E hr h=>?_)
 ·obtain⟨_,_,rfl,_⟩:=qU h;rfl
 ·symm;obtain⟨a,b,rfl,b0,bb,k⟩:=qU h;nofun;clear G_;have nd:=nX.nd;refine⟨_,(ag (aK (i:=2) (aY pj (by rfl) T.z_abs rfl (aa (pv 0) af)))
  (ag (aK (i:=3) (pv 1))
  (ag (kI PassesOwn.never (aL fB (pv 3) ae (aR _)) (aq (Jx (i:=2) (j:=3) rfl nd rfl rfl ∅ rfl rfl (aa (pv 3) (aa (aJ dm (pv 2) (pv 3)) af)) rfl)))
  (aq (aQ (a9 (aa (aJ kP (pv 0) (pv 2)) (aa (aJ kP (pv 1) (pv 2)) af)))))))),?_⟩
  refine(?_:let bO:TS:=_;let bP:TS:=_;let bQ:TS:=_;let cO:TS:=_;tSeq bO (tSeq bP (tSeq bQ cO)) _ _ _);intro bO bP bQ cO;dsimp?[];refine ve (λσ H1=>H1=H/\∃x y:Int,σ=[a⁻¹,b⁻¹,x⁻¹,y⁻¹]/\0<=x/\0<=y/\Nm.g x y=Nm.g a b) (λσ _=>match σ with | [_,_,_,y⁻¹]=>y.toNat | _=>0) ?_ ?_ ?_
  ·refine⟨rfl,_,_,rfl,?_,⋯,?_⟩
   ·split <;>lia
   ·rw[show(if a<0 then -a else a)=(a.natAbs:Int) by split <;>lia,Nm.Cg]
  ·intro σ H1 du;symm;obtain⟨rfl,x,y,rfl,x0,y0,e⟩:=du;nofun;dsimp?[];refine eI (λc=>?_) (λc=>?_)
   ·refine⟨c,y0,aa2 _ ⋯,by rw[Nm.Ci x0 c,e],?_⟩;have:=aba x c;have:=aa2 x (show y≠0 by lia);lia
   ·have z:y=0:=⋯
    subst z;rw[Nm.Cj x0] at e;rw[e];have g0:0<Nm.g a b:=Nm.Cf ⋯;have gb:Bt 8900 (Nm.g a b):=bb.le (by have:=Nm.M3 (a:=a) b0;lia);obtain⟨e1,e2⟩:=Nm.J1 (a:=a) b0;rw[e1,e2] at k;exact⟨kO.of g0 gb,kO.of g0 gb,∅,λp H2 s1 n1 e=>k p H2 s1 n1 e⟩
  ·intro σ H1 Q1 Q2 hq hc
   revert hc
   dsimp?[];intro hc;symm;obtain⟨v,e1,i,e2,q⟩:=hc;nofun;exact⟨v,e1,i,e2,hq _ _ q⟩
theorem lP:aV ["_law_one","_law_other"] ["_law_one","_law_other"] (au (top 55)):=.mk
theorem D8 (T:0|||0):(2<<<"_law_plus") ["_law_one","_law_other"] ql:=by
 have yE:=Lb T;refine T.vR.dE (λ_ _ _ _ _ _=>dQ λ_ _=>rfl) λf fd F=>F.d4 lP (λvs H Q E h=>?_) (λbR A outer s H vs Q E hr h=>?_)
 ·obtain⟨_,_,rfl,_⟩:=oo h;rfl
 ·symm;obtain⟨u,v,rfl,a,ra,b,rb,ha,hb,k⟩:=oo h;nofun;have nd:=lP.nd;refine⟨_,(aq (aQ (aN yE (aa (aJ aS (aJ bj (av ao (pv 0) ae) (av ao (pv 1) ae)) (aJ bj (av ao (pv 1) ae) (av ao (pv 0) ae))) (aa (aJ bj (av ao (pv 0) ae) (av ao (pv 1) ae)) af))))),?_⟩;symm;obtain⟨p,rfl,hp⟩:=b7.mp ra;obtain⟨q,rfl,hq⟩:=b7.mp rb;obtain⟨a1,a2,a3⟩:=ha.num ∅;obtain⟨b1,b2,b3⟩:=hb.num ∅;nofun;dsimp?[Iz,hp,hq];have m0:=Int.mul_pos a2 b2;have m4:a.2*b.2<=4:=Int.le_trans (Int.mul_le_mul a3 b3 ⋯ ∅) ∅;exact⟨bE ⋯ ⋯,bE ⋯ ⋯,bE ⋯ ⋯,m0,(Bt.of 4 ⋯ ⋯),λr H' s' n' e=>k r H' s' n' e⟩
theorem jW:aV ["_law_cell_here","_law_n","_law_size","_law_spot","_law_same","_law_words_here","_law_k","_law_word","_law_j","_law_sign"] ["_law_cell_here","_law_n"] (au (top 57)):=.mk
theorem D9 (T:0|||0):(2<<<"_law_words") ["_law_cell_here","_law_n"] D2:=by
 have aO:=nh T;refine T.ud.dE (λ_ _ _ _ _ _=>dQ λ_ _=>rfl) λf fd F=>F.d4 jW (λvs H Q E h=>?_) (λbR A outer s H vs Q E hr h=>?_)
 ·obtain⟨_,_,rfl,_⟩:=qU h;rfl
 ·symm;obtain⟨c,n,rfl,n0,RJ,kk⟩:=qU h;nofun;clear G_;have nd:=jW.nd;refine⟨_,(ag (aK (i:=2) (aJ aS ae (aN aO (aa (pv 0) (aa ae af)))))
  (ag (aK (i:=3) (aN aO (aa (aJ aS (pv 0) ae) (aa (pv 2) af))))
  (ag (aK (i:=4) (aN aO (aa (aJ aS (pv 0) ae) (aa ae af))))
  (ag (aK (i:=5) (bH af))
  (ag (b6 PassesOwn.never rfl (cJ rfl T.z_range (aa (pv 1) af)) (a5 (i:=6) nd rfl (.inl rfl)) (ag (aK (i:=7) aZ)
  (ag (b6 PassesOwn.never rfl (cJ rfl T.z_range (aa (pv 2) af)) (a5 (i:=8) nd rfl (.inl rfl)) (ag (aK (i:=9) (aN aO (aa (aJ aS (aJ aS (aJ aS (pv 0) (aJ bj ae (pv 8))) (aJ bj (aJ bj ae (pv 6)) (aJ ia ae (pv 4)))) ae) (aa ae af))))
  (ag (bc (aL bq (pv 8) (pv 3) (aR _)) (aq (aK (i:=9) (aJ dm (aJ aS (aN aO (aa (aJ aS (pv 0) ae) (aa ae af))) (aJ bj ae (pv 6))) ae)))
   aX)
  (aq (aK (i:=7) (aJ ph (pv 7) (av zp aZ (pv 9))))))))
  (aq (bU (fe aaR abb abc dO.r (pv 5) (aa (pv 7) af)))))))
  (aq (aQ (pv 5)))))))),?_⟩
  refine(?_:let bO:TS:=_;let bP:TS:=_;let bQ:TS:=_;let cO:TS:=_;let lH:TS:=_;let sI:TS:=_;tSeq bO (tSeq bP (tSeq bQ (tSeq cO (tSeq lH sI)))) _ _ _);intro bO bP bQ cO lH sI;have sl:=sizeLine_eq;obtain⟨m,rfl⟩:∃m:Nat,n=(m:Int):=⟨n.toNat,⋯⟩
  have z0:=cH (c:=c) (m:=8) ∅;have z1:=cR (c:=c) (m:=8) ∅;obtain⟨sz,esz⟩:∃sz:Nat,1+bX c 8=(sz:Int):=⟨(1+bX c 8).toNat,⋯⟩
  have p0:=cH (c:=c+1) (m:=(sz:Int)) ⋯;have p1:=cR (c:=c+1) (m:=(sz:Int)) ⋯;have w0:=cH (c:=c+2) (m:=2) ∅;have w1:=cR (c:=c+2) (m:=2) ∅;refine aP (λN=>N [c⁻¹,some (.int (m:Int)),some (.int (sz:Int)),none,none,none,none,none,none,none] H) (λN hN=>?_) ?_
  ·dsimp?[b8];rw[esz];exact⟨∅,hN⟩
  refine aP (λN=>N [c⁻¹,some (.int (m:Int)),some (.int (sz:Int)),some (.int (bX (c+1) (sz:Int))),none,none,none,none,none,none] H) (λN hN=>?_) ?_
  ·dsimp?[b8];exact⟨⋯,hN⟩
  generalize bX (c+1) (sz:Int)=sp at *;refine aP (λN=>N [c⁻¹,some (.int (m:Int)),some (.int (sz:Int)),sp⁻¹,some (.int (bX (c+2) 2)),none,none,none,none,none] H) (λN hN=>?_) ?_
  ·dsimp?[b8];exact⟨∅,hN⟩
  generalize bX (c+2) 2=sm at *;refine aP (λN=>∀H1 l,aB H H1->H l=none->H1 l=some (.lst [])->N [c⁻¹,some (.int (m:Int)),some (.int (sz:Int)),sp⁻¹,sm⁻¹,~~~l,none,none,none,none] H1) (λN hN=>?_) ?_
  ·dsimp?[];exact⟨aas _,λl nl=>hN _ l (aj nl) nl ai⟩
  rintro H1 l s1 nl hl;refine aP (λN=>∀H2,aB H H2->H2 l=some (.lst (((List.range m).map λk:Nat=>i5 (Bl c sp sm k) sz).map V.str))->∀z6 z7 z8 z9,N [c⁻¹,some (.int (m:Int)),some (.int (sz:Int)),sp⁻¹,sm⁻¹,~~~l,z6,z7,z8,z9] H2) (λN hN=>?_) ?_
  ·dsimp?[];refine⟨⋯,⋯,bN (src_range (Ok:=λ_=>True)) (λi σ H2=>aB H H2/\H2 l=some (.lst (((List.range i).map λk:Nat=>i5 (Bl c sp sm k) sz).map V.str))/\∃z6 z7 z8 z9,σ=[c⁻¹,some (.int (m:Int)),some (.int (sz:Int)),sp⁻¹,sm⁻¹,~~~l,z6,z7,z8,z9]) ⟨s1,hl,_,_,_,_,rfl⟩ (λ_ _ _ _ _=>trivial) ?_ ?_⟩
   ·intro k x σ H2 H3 hk fm fo;symm;obtain⟨s2,nE,z6,z7,z8,z9,rfl⟩:=fm;obtain⟨rfl,rfl⟩:=fo;nofun;rw[aaF] at hk;simp only[gName,aaQ,aaP,aa3];refine aP (λN=>N [c⁻¹,some (.int (m:Int)),some (.int (sz:Int)),sp⁻¹,sm⁻¹,~~~l,some (.int (k:Int)),some (.str ""),z8,z9] H3) (λN hN=>?_) ?_
    ·dsimp?[];exact hN
    refine aP (λN=>∀z8 z9,N [c⁻¹,some (.int (m:Int)),some (.int (sz:Int)),sp⁻¹,sm⁻¹,~~~l,some (.int (k:Int)),some (.str (i5 (Bl c sp sm k) sz)),z8,z9] H3) (λN hN=>?_) ?_
    ·dsimp?[];refine⟨⋯,⋯,bN (src_range (Ok:=λ_=>True)) (λj σ H4=>H3=H4/\∃z8 z9,σ=[c⁻¹,some (.int (m:Int)),some (.int (sz:Int)),sp⁻¹,sm⁻¹,~~~l,some (.int (k:Int)),some (.str (i5 (Bl c sp sm k) j)),z8,z9]) ⟨rfl,_,_,rfl⟩ (λ_ _ _ _ _=>trivial) ?_ ?_⟩
     ·intro j x σ H4 H5 hj fm fo;symm;obtain⟨rfl,z8,z9,rfl⟩:=fm;obtain⟨rfl,rfl⟩:=fo;nofun
      try rw[aaF] at hj
      simp only[gName,aaQ,aaP,aa3];refine aP (λN=>N [c⁻¹,some (.int (m:Int)),some (.int (sz:Int)),sp⁻¹,sm⁻¹,~~~l,some (.int (k:Int)),some (.str (i5 (Bl c sp sm k) j)),some (.int (j:Int)),some (.int (bX (c+31* (j:Int)+977* (k:Int)* (1 - sm)+3) 26))] H5) (λN hN=>?_) ?_
      ·dsimp?[b8];exact⟨bE ⋯ ⋯,bE ⋯ ⋯,bE ⋯ ⋯,∅,hN⟩
      refine aP (λN=>N [c⁻¹,some (.int (m:Int)),some (.int (sz:Int)),sp⁻¹,sm⁻¹,~~~l,some (.int (k:Int)),some (.str (i5 (Bl c sp sm k) j)),some (.int (j:Int)),some (.int (Bl c sp sm k j))] H5) (λN hN=>?_) ?_
      ·unfold Bl at hN;dsimp?[b8];refine eI (λe=>?_) (λe=>?_)
       ·rw[if_pos e] at hN;exact⟨∅,bE ⋯ ⋯,∅,hN⟩
       ·rw[if_neg e] at hN;exact hN
      obtain⟨b0,b1⟩:=GD c sp sm k j;dsimp?[Fh];exact⟨by rw[sl];ac_rfl,_,K4 b0 b1,by rw[oR];show j+1<=sizeLine;lia,(D0 _ _).symm,_,rfl⟩
     ·intro σ H4 du;symm;obtain⟨rfl,z8,z9,rfl⟩:=du;nofun
      try rw[show((sz:Int)).toNat=sz from aaF _]
      exact hN _ _
    rintro z8 z9;dsimp?[eY];refine⟨.inl ⟨rfl,_,bw.of nE⟩,_,nE,by rw[aaj,aaj,aaO];lia,cF s2 nl,?_,_,rfl⟩;rw[ai,List.range_succ,aaq,aaq];rfl
   ·intro σ H2 du;symm;obtain⟨s2,nE,z6,z7,z8,z9,rfl⟩:=du;nofun;rw[aaF] at nE;exact hN _ s2 nE _ _ _ _
  rintro H2 s2 nE z6 z7 z8 z9;dsimp?[];exact kk _ _ _ s2 nl nE (by rw[aaj,aaO,aaF]) (D1 p0 p1 ⋯) (λw hw=>by
   symm;obtain⟨k,_,rfl⟩:=abt.mp hw;nofun;exact K5 ⋯ ⋯ (GD c sp sm k)) ⟨sz,λw hw=>by
   symm;obtain⟨k,_,rfl⟩:=abt.mp hw;nofun;exact oR _ _⟩
theorem jX:aV ["_law_cell_here","_law_counts","_law_clock","_law_thrown","_law_others","_law_deeds_here","_law_j","_law_name","_law_kind","_law_deed"] ["_law_cell_here","_law_counts","_law_clock","_law_thrown"] (au (top 58)):=.mk
theorem qu {H:Hp} {d:Dat} {v:V} (r:Rep H d v):∀(k:Nat) {ds:List Dat} {xs:List V},bg H ds xs->bg H (ds.take k++d::ds.drop k) (xs.take k++v::xs.drop k)
 | 0,ds,xs,h=>aU.mpr ⟨v,xs,rfl,r,h⟩
 | k+1,[],xs,h=>by rw[bA.mp h];exact aU.mpr ⟨v,[],rfl,r,bA.mpr rfl⟩
 | k+1,a::ds,xs,h=>by
  obtain⟨x,ys,rfl,h1,h2⟩:=aU.mp h;exact aU.mpr ⟨x,_,rfl,h1,qu r k h2⟩
theorem nj {fh:Str}:∀cs:List (Str×Int),(cs.filterMap λx=>if x.1≠fh then some (V.str x.1) else none)=((cs.map (·.1)).filter λn=>decide (n≠fh)).map V.str
 | []=>rfl
 | x::cs=>by
  rw[aaS,aak]
  by_cases e:x.1=fh
  ·rw[if_neg (λz=>z e),List.filter_cons_of_neg (by simpa using e)];exact nj cs
  ·rw[if_pos e,List.filter_cons_of_pos (by simpa using e),aak,nj cs]
theorem Ea (T:0|||0):(2<<<"_law_deeds") ["_law_cell_here","_law_counts","_law_clock","_law_thrown"] D4:=by
 have aO:=nh T;refine T.uf.dE (λ_ _ _ _ _ _=>uk λ_ _ _ _=>rfl) λf fd F=>F.d4 jX (λvs H Q E h=>?_) (λbR A outer s H vs Q E hr h=>?_)
 ·obtain⟨_,_,_,_,rfl,_⟩:=Df h;rfl
 ·symm;obtain⟨c,cl,fh,th,rfl,cs,rc,c3,uL,Lc,cw,kk⟩:=Df h;nofun;clear G_;have nd:=jX.nd;refine⟨_,(ag (kX (i:=4) rfl nd rfl rfl (N:=["_law_cell_here","_law_counts","_law_clock","_law_thrown","_law_others","_law_deeds_here","_law_j","_law_name","_law_kind","_law_deed"]) (so:=au (top 58)) (N':=["_law_name","_law_most","_law_clock"]) (k:=2) (fr:=[2]) rfl rfl ⟨rfl,∅,∅,∅,rfl,∅,∅⟩ (bh (K:=K) (pv 1)) (λ_ _ _ _ _=>(e8 (K:=K) (n:=2) rfl (bK (a5 (i:=0) (show(["_law_name","_law_most","_law_clock"]:List Str).Nodup by ac_rfl) rfl (.inl rfl)) (bK (a5 (i:=1) (show(["_law_name","_law_most","_law_clock"]:List Str).Nodup by ac_rfl) rfl (.inl rfl)) eW)))) (λ_ _ _ _ _=>(eZ (aL pe (pv 0) (pv 2) (aR _))))
   (λ_ _ _ _ _=>(pv 0)))
  (ag (aK (i:=5) (bH (aa (a9 (aa aZ (aa (pv 2) (aa ae af)))) af)))
  (ag (b6 PassesOwn.never rfl (cJ rfl T.z_range (aa (aN aO (aa (aJ aS (pv 0) ae) (aa ae af))) af)) (a5 (i:=6) nd rfl (.inl rfl)) (aq (bc (aL fB (aY bF (by rfl) T.z_len aaA (aa (pv 4) af)) ae (aR _)) (ag (aK (i:=7) (av a6 (pv 4) (aN aO (aa (aJ aS (aJ aS (pv 0) (aJ bj ae (pv 6))) ae) (aa (aY bF (by rfl) T.z_len aaA (aa (pv 4) af)) af)))))
  (ag (aK (i:=8) (aN aO (aa (aJ aS (aJ aS (pv 0) (aJ bj ae (pv 6))) ae) (aa ae af))))
  (ag (aK (i:=9) (a9 (aa (av a6 (bH (aa aZ (aa aZ af))) (aJ dm (pv 8) ae)) (aa (pv 7) (aa (aN aO (aa (aJ aS (pv 0) (aJ bj ae (pv 6))) (aa ae af))) af)))))
  (ag (bc (PW.pt (pw_and (aL bq (pv 8) ae (aR _)) (pw_and1 (iM (pv 3))))) (aq (aK (i:=9) (a9 (aa aZ (aa (pv 7) af)))))
   aX)
  (ag (bc (PW.pt (pw_and (aL bq (pv 8) ae (aR _)) (pw_and1 (aL fB (aY bF (by rfl) T.z_len aaA (aa (pv 4) af)) ae (aR _))))) (aq (aK (i:=9) (a9 (aa aZ (aa (pv 7) (aa (av a6 (pv 4) (aJ ia ae (fe aaR PySem.F.slot_list_index PySem.F.type_list_index (A8 hr.units) (pv 4) (aa (pv 7) af)))) af))))))
   aX)
  (aq (bU (fe aaR PySem.F.slot_list_insert PySem.F.type_list_insert sy.r (pv 5) (aa (aN aO (aa (aJ aS (aJ aS (pv 0) (aJ bj ae (pv 6))) ae) (aa (aJ aS (aY bF (by rfl) T.z_len aaA (aa (pv 5) af)) ae) af))) (aa (pv 9) af))))))))))
   aX)))
  (aq (aQ (pv 5)))))),?_⟩
  refine(?_:let bO:TS:=_;let bP:TS:=_;let bQ:TS:=_;let cO:TS:=_;tSeq bO (tSeq bP (tSeq bQ cO)) _ _ _);intro bO bP bQ cO;have sl:=sizeLine_eq;symm;obtain⟨xh,uB,e0,eN,oM⟩:=ba.mp (show Rep H (.lst _) (.ref cl) from rc);nofun;clear G_;cases e0;have len:=oM.length;rw[aaj] at len;refine aP (λN=>∀H1 ol,aB H H1->H1 ol=some (.lst (((cs.map (·.1)).filter λn=>decide (n≠fh)).map V.str))->N [c⁻¹,~~~cl,some (.str fh),some (.bl th),~~~ol,none,none,none,none,none] H1) (λN hN=>?_) ?_
  ·dsimp?[];refine⟨⟨_,bw.of eN⟩,?_⟩;have S:Src (uU K cl) (aB H) uB.length _:=src_list (λH' s'=>bw.of (s' _ _ eN));rw[<-len] at S;refine qj (K:=K) cs (λx=>if x.1≠fh then some (.str x.1) else none) S (λ_ _ _ _ h=>h.1) ⋯ ?_ ?_
   ·rintro i x y ex ⟨_,ey⟩;symm;obtain⟨d,ed,rd⟩:=oM.get ey;nofun;rw[aal,ex] at ed;cases ed;symm;obtain⟨cq,b1,b2,rfl,GF,q1,q2⟩:=bI.mp (show Rep _ (.tup _) y from rd);obtain rfl:=aT.mp q1;nofun;refine⟨cq,_,_,rfl,jD.of GF,λY N y1 y2=>?_⟩;dsimp?[]
    by_cases e:x.1=fh
    ·rw[if_neg (λz=>z e)];exact y2 (if_neg (λz=>z e))
    ·rw[if_pos e];exact y1 _ (if_pos e)
   ·intro D n1 n2;refine hN _ D (aj n2) ?_;rw[ai,nj]
  rintro H1 ol s1 UE;generalize UG:(cs.map (·.1)).filter (λn=>decide (n≠fh))=os at *;have Ld:∀n∈os,n∈cs.map (·.1):=λn hn=>by rw[<-UG] at hn;exact(List.mem_filter.mp hn).1
  have ond:os.Nodup:=by rw[<-UG];exact Lc.filter _
  have aac:os.length<=2:=by
   have:os.length< (cs.map (·.1)).length:=by
    rw[<-UG];exact List.length_filter_lt_length_iff_exists.mpr ⟨fh,uL,by simp⟩
   rw[aaj] at this;lia
  refine aP (λN=>∀H2 l t,aB H1 H2->H1 l=none->H2 l=some (.lst [.ref t])->H2 t=some (.tup [.str "plus",.str fh,.int 1])->N [c⁻¹,~~~cl,some (.str fh),some (.bl th),~~~ol,~~~l,none,none,none,none] H2) (λN hN=>?_) ?_
  ·dsimp?[];exact⟨⋯,λt H2 s2 nt et=>⟨⋯,λl nl=>hN _ l t (s2.trans (aj nl)) (none_of s2 nl) ai (aj nl _ _ et)⟩⟩
  rintro H2 l t s2 nl hl ht;have RK:H l=none:=none_of s1 nl;have lol:ol≠l:=λz=>by rw[z,nl] at UE;cases UE
  have GG:=s1.trans s2;have li2:dS (upd H l (.lst [])) H2:=λb ys e=>by
   by_cases z:b=l
   ·subst z;exact⟨_,hl⟩
   ·rw[aD z] at e;exact⟨_,GG _ _ e⟩
  refine aP (λN=>∀(H3:Hp) (ds:List Dd) (xs:List V),aB H H3->H3 l=some (.lst xs)->ds.length<=3->(∀d∈ds,fW cs d/\BD d)->cS (upd H l (.lst [])) H3 (ds.map zH) xs->∀z6 z7 z8 z9,N [c⁻¹,~~~cl,some (.str fh),some (.bl th),~~~ol,~~~l,z6,z7,z8,z9] H3) (λN hN=>?_) ?_
  ·dsimp?[b8];have m0:=cH (c:=c+5) (m:=3) ∅;have m1:=cR (c:=c+5) (m:=3) ∅;obtain⟨m,em⟩:∃m:Nat,bX (c+5) 3=(m:Int):=⟨(bX (c+5) 3).toNat,⋯⟩
   rw[em] at m0 m1 ⊢;refine⟨∅,⋯,⋯,?_⟩;rw[aaF];refine bN (src_range (Ok:=λ_=>True)) (λi σ H3=>aB H H3/\H3 ol=some (.lst (os.map V.str))/\∃(ds:List Dd) (xs:List V),H3 l=some (.lst xs)/\ds.length<=i+1/\(∀d∈ds,fW cs d/\BD d)/\cS (upd H l (.lst [])) H3 (List.map zH ds) xs/\∃z6 z7 z8 z9,σ=[c⁻¹,~~~cl,some (.str fh),some (.bl th),~~~ol,~~~l,z6,z7,z8,z9]) ⟨GG,s2 _ _ UE,[.plus fh 1],[.ref t],hl,aam _,λd hd=>by rw[abu.mp hd];exact⟨uL,show(0:Int)<=1 by decide⟩,bY (yB li2 ht bV bV dX) gj,_,_,_,_,rfl⟩ (λ_ _ _ _ _=>trivial) ?_ ?_
   ·intro i x σ H3 H4 hi fm fo;symm;obtain⟨s3,IF,ds,xs,hx,ld,gd,rx,z6,z7,z8,z9,rfl⟩:=fm;obtain⟨rfl,rfl⟩:=fo;nofun;clear G_;have xl:xs.length=ds.length:=by have:=bg.length rx;rw[aaj] at this;lia
    simp only[gName,aaQ,aaP,aa3];change tIfS _ _ _ _ [c⁻¹,~~~cl,some (.str fh),some (.bl th),~~~ol,~~~l,some (.int (i:Int)),z7,z8,z9] H4
    by_cases o0:os=[]
    ·subst o0;refine cG (λY N k=>by dsimp?[IF];rw[if_neg ∅];exact k) ?_;dsimp?[];exact⟨s3,IF,ds,xs,hx,⋯,gd,rx,_,rfl⟩
    ·have op:0<os.length:=List.length_pos_iff.mpr o0;refine dJ (λY N k=>by dsimp?[IF];rw[if_pos (by rw[aaj];lia)];exact k) ?_;have UH:(0:Int)< (os.length:Int):=⋯
     refine aP (λN=>∀n,n∈os->N [c⁻¹,~~~cl,some (.str fh),some (.bl th),~~~ol,~~~l,some (.int (i:Int)),some (.str n),z8,z9] H4) (λN hN=>?_) ?_
     ·dsimp?[b8,IF];rw[aaj];have b0:=cH (c:=c+7* (i:Int)+1) UH;have b1:=cR (c:=c+7* (i:Int)+1) UH;generalize bX (c+7* (i:Int)+1) (os.length:Int)=b at *;obtain⟨k,rfl⟩:∃k:Nat,b=(k:Int):=⟨b.toNat,⋯⟩
      have hk:k<os.length:=⋯
      exact⟨bE ⋯ ⋯,UH,.str os[k],bM (by rw[aal,aao hk];rfl),hN _ (aaH hk)⟩
     rintro n hn;have RL:=Ld n hn;refine aP (λN=>∀kd:Int,0<=kd->kd<4->N [c⁻¹,~~~cl,some (.str fh),some (.bl th),~~~ol,~~~l,some (.int (i:Int)),some (.str n),kd⁻¹,z9] H4) (λN hN=>?_) ?_
     ·dsimp?[b8];exact⟨bE ⋯ ⋯,∅,hN _ (cH ∅) (cR ∅)⟩
     rintro kd k0 k4;let UI:Hp->V->Prop:=λH5 v=>∃d,dM (upd H l (.lst [])) H5 (zH d) v/\fW cs d/\BD d;have Le:dS (upd H l (.lst [])) H4:=λb ys e=>by
      by_cases z:b=l
      ·subst z;exact⟨_,hx⟩
      ·rw[aD z] at e;exact⟨_,s3 _ _ e⟩
     refine aP (λN=>∀H5 v,aB H4 H5->UI H5 v->N [c⁻¹,~~~cl,some (.str fh),some (.bl th),~~~ol,~~~l,some (.int (i:Int)),some (.str n),kd⁻¹,some v] H5) (λN hN=>?_) ?_
     ·have v0:∀c,0<=bX c 3:=λc=>cH ∅;dsimp?[b8];obtain⟨ww,dw,h2w,edw,odw⟩:∃w d,mv [V.str "set",V.str "plus"] (kd % 2)=some (.str w)/\zH d=.tup [.str w,.str n,.int (bX (c+13* (i:Int)) 3)]/\fW cs d/\BD d:=by
       have o:kd % 2=0\/kd % 2=1:=⋯
       rcases o with o | o
       ·rw[o];exact⟨_,.set n _,rfl,rfl,RL,v0 _⟩
       ·rw[o];exact⟨_,.plus n _,rfl,rfl,RL,v0 _⟩
      refine⟨⋯,λp np=>⟨∅,_,ai,_,h2w,bE ⋯ ⋯,∅,⋯,λp1 H5 s5 Mp e5=>?_⟩⟩;have OC:=(aj np).trans s5;exact hN _ _ OC ⟨dw,by rw[edw];exact yB (Le.trans OC) e5 bV bV dX,odw⟩
     rintro H5 v5 s5 d5;refine aP (λN=>∀H5 v,aB H4 H5->UI H5 v->N [c⁻¹,~~~cl,some (.str fh),some (.bl th),~~~ol,~~~l,some (.int (i:Int)),some (.str n),kd⁻¹,some v] H5) (λN hN=>?_) ?_
     ·dsimp?[]
      by_cases z1:kd=2
      ·rw[if_pos z1]
       by_cases z2:th=true
       ·rw[if_pos z2];exact⟨⋯,λp H6 s6 np e6=>hN _ _ (s5.trans s6) ⟨.face n,wM (Le.trans (s5.trans s6)) e6 bV bV,RL,trivial⟩⟩
       ·rw[if_neg z2];exact hN _ _ s5 d5
      ·rw[if_neg z1,if_neg ∅];exact hN _ _ s5 d5
     rintro H6 v6 s6 d6;refine aP (λN=>∀H5 v,aB H4 H5->UI H5 v->N [c⁻¹,~~~cl,some (.str fh),some (.bl th),~~~ol,~~~l,some (.int (i:Int)),some (.str n),kd⁻¹,some v] H5) (λN hN=>?_) ?_
     ·dsimp?[s6 _ _ IF,Nl]
      by_cases z1:kd=3
      ·rw[if_pos z1,aaj]
       by_cases z2:(1:Int)< (os.length:Int)
       ·rw[if_pos z2];have o2:os.length=2:=⋯
        obtain⟨ei,ni⟩:=K7 hn;have UJ:=List.idxOf_lt_length_of_mem hn;have j2:(1 - ((os.idxOf n:Nat):Int))=((1 - os.idxOf n:Nat):Int):=⋯
        have hj:1 - os.idxOf n<os.length:=⋯
        have ks:∀x∈os,Ke (.str x):=λx hx=>by
         symm;obtain⟨y,hy,rfl⟩:=abt.mp (Ld x hx);nofun;exact K8 (cw y hy).2.2.1
        refine⟨.inl ⟨rfl,_,bw.of (s6 _ _ IF)⟩,os.map Dat.str,wK _,λe he=>?_,.str n,aT.mpr rfl,ks n hn,os.idxOf n,ei,ni,⋯,.str os[1 - os.idxOf n],?_,⋯,λp H7 s7 np e7=>hN _ _ (s6.trans s7) ⟨.move n os[1 - os.idxOf n],yB (Le.trans (s6.trans s7)) e7 bV bV bV,⟨RL,Ld _ (aaH hj)⟩,trivial⟩⟩
        ·symm;obtain⟨x,hx,rfl⟩:=abt.mp he;nofun;exact ks x hx
        ·rw[j2];exact bM (by rw[aal,aao hj];rfl)
       ·rw[if_neg z2];exact hN _ _ s6 d6
      ·rw[if_neg z1,if_neg ∅];exact hN _ _ s6 d6
     intro H7 v7 s7 Gn;symm;obtain⟨d,rd,gd1,gd2⟩:=Gn;nofun;clear G_;have b0:=cH (c:=c+17* (i:Int)+3) (m:=(xs.length:Int)+1) ⋯;have b1:=cR (c:=c+17* (i:Int)+3) (m:=(xs.length:Int)+1) ⋯;dsimp?[b8,Kf];refine⟨.inl ⟨rfl,_,bw.of (s7 _ _ hx)⟩,bE ⋯ ⋯,xs,s7 _ _ hx,⋯,?_⟩;generalize bX (c+17* (i:Int)+3) ((xs.length:Int)+1)=b at *;obtain⟨k,rfl⟩:∃k:Nat,b=(k:Int):=⟨b.toNat,⋯⟩
     rw[aaF];refine⟨xs,s7 _ _ hx,⋯,⋯,⋯,cF (s3.trans s7) RK,by rw[aD lol];exact s7 _ _ IF,ds.take k++d::ds.drop k,_,ai,?_,λe he=>?_,?_,_,rfl⟩
     ·rw[aat,aaw,aaD,List.length_drop];lia
     ·rcases List.mem_append.mp he with he | he
      ·exact gd e (List.mem_of_mem_take he)
      ·rcases aaX.mp he with rfl | he
       ·exact⟨gd1,gd2⟩
       ·exact gd e (List.mem_of_mem_drop he)
     ·show bg (ir _ (upd _ _ _)) _ _;rw[i4 (ys:=[]) ai,aaq,aak,aa5,List.map_drop];exact qu rd k (rx.mono s7)
   ·intro σ H3 du;symm;obtain⟨s3,IF,ds,xs,hx,ld,gd,rx,z6,z7,z8,z9,rfl⟩:=du;nofun;exact hN _ ds xs s3 hx ⋯ gd rx _ _ _ _
  rintro H3 ds xs s3 hx ld gd rx z6 z7 z8 z9;dsimp?[];exact kk _ _ ds s3 RK (uE RK hx (rx.low (.of (aj RK)))) ld gd
theorem jY:aV ["_law_cell_here","_law_counts","_law_clock","_law_goals","_law_sides","_law_pool","_law_low_here","_law_high","_law_cut","_law_rows","_law_k","_law_ends","_law_deeds_here","_law_pay"] ["_law_cell_here","_law_counts","_law_clock","_law_goals"] (au (top 59)):=.mk
theorem UK {ps:List Pt} (h:ps∈Ga):0<=uZ ps/\uZ ps<=u4 ps/\u4 ps<=500/\∀v∈gy ps,uZ ps<=v/\v<=u4 ps:=by
 have d:∀x∈Dq,x.1<=x.1*x.2/\x.1*x.2<=100:=∅
 obtain⟨k,s,EU,e | ⟨m,hm,e⟩⟩:=lC h
 ·subst e;have:k<=k*s/\k*s<=100:=d (k,s) EU;have e1:uZ [.cU k s]=(k:Int):=by show(k:Int)+0=_;lia
  have e2:u4 [.cU k s]=((k*s:Nat):Int):=by show(k:Int)* (s:Int)+0=_;rw[<-aa7];lia
  rw[e1,e2];refine⟨⋯,⋯,⋯,λv hv=>?_⟩;obtain⟨i,hi,rfl⟩:=abt.mp hv;have:=List.mem_range.mp hi;lia
 ·subst e;have:k<=k*s/\k*s<=100:=d (k,s) EU;have e1:uZ [.cU k s,.num m]=(k:Int)+ (m:Int):=by show(k:Int)+ ((m:Int)+0)=_;lia
  have e2:u4 [.cU k s,.num m]=((k*s:Nat):Int)+ (m:Int):=by show(k:Int)* (s:Int)+ ((m:Int)+0)=_;rw[<-aa7];lia
  rw[e1,e2];refine⟨⋯,⋯,⋯,λv hv=>?_⟩;obtain⟨i,hi,rfl⟩:=abt.mp hv;have:=List.mem_range.mp hi;lia
theorem OD {α:Type} {l:List α} (h:l.length=2):∃a b,l=[a,b]:=match l,h with | [a,b],_=>⟨a,b,rfl⟩
theorem Lf (T:0|||0):(3<<<"_law_throw") ["_law_cell_here","_law_counts","_law_clock","_law_goals"] zZ:=by
 have aO:=nh T;have iw:=Ea T;refine T.ug.dE (λ_ _ _ _ _ _=>uk λ_ _ _ _=>rfl) λf fd F=>F.d4 jY (λvs H Q E h=>?_) (λbR A outer s H vs Q E hr h=>?_)
 ·obtain⟨_,_,_,_,rfl,_⟩:=tW h;rfl
 ·symm;obtain⟨c,cl,fh,gl,rfl,cs,rc,c3,uL,Lc,cw,gs,GH,g0,g3,kk⟩:=tW h;nofun;clear G_;have nd:=jY.nd;refine⟨_,(ag (aK (i:=4) (aJ aS ae (aN aO (aa (aJ aS (pv 0) ae) (aa ae af)))))
  (ag (aK (i:=5) (bH (aa (a9 (aa aZ (aa (aJ aS ae (aN aO (aa (aJ aS (pv 0) ae) (aa ae af)))) (aa (pv 4) af)))) af)))
  (ag (aK (i:=6) (av ao (av a6 (pv 5) ae) ae))
  (ag (aK (i:=7) (aJ bj (pv 6) (pv 4)))
  (ag (bc (aL bq (aN aO (aa (aJ aS (pv 0) ae) (aa ae af))) ae (aR _)) (ag (bU (fe aaR abb abc dO.r (pv 5) (aa (a9 (aa aZ (aa (aN aO (aa (aJ aS (pv 0) ae) (aa ae af))) af))) af)))
  (ag (aK (i:=6) (aJ aS (pv 6) (av ao (av a6 (pv 5) ae) ae)))
  (aq (aK (i:=7) (aJ aS (pv 7) (av ao (av a6 (pv 5) ae) ae))))))
   aX)
  (ag (aK (i:=8) (aJ aS (pv 6) (aN aO (aa (aJ aS (pv 0) ae) (aa (aJ aS (aJ ia (pv 7) (pv 6)) ae) af)))))
  (ag (aK (i:=9) (bH af))
  (ag (b6 PassesOwn.never rfl (cJ rfl T.z_range (aa ae af)) (a5 (i:=10) nd rfl (.inl rfl)) (ag (aK (i:=11) (av a6 (bH (aa (a9 (aa (aY (jh rfl) (by rfl) T.z_max rfl (aa ae (aa (aJ ia (pv 6) ae) af))) (aa (pv 8) af))) (aa (a9 (aa (aJ aS (pv 8) ae) (aa (aJ aS (pv 7) ae) af))) af))) (pv 10)))
  (ag (aK (i:=12) (aN iw (aa (aJ aS (pv 0) (aJ bj ae (pv 10))) (aa (pv 1) (aa (pv 2) (aa iA af))))))
  (aq (bU (fe aaR abb abc dO.r (pv 9) (aa (a9 (aa (av ao (pv 11) ae) (aa (av ao (pv 11) ae) (aa (pv 12) (aa (av a6 (pv 3) (aN aO (aa (aJ aS (aJ aS (pv 0) ae) (pv 10)) (aa (aY bF (by rfl) T.z_len aaA (aa (pv 3) af)) af)))) af))))) af)))))))
  (ag (aK (i:=13) (a9 (aa (aJ ia (aN aO (aa (aJ aS (pv 0) ae) (aa ae af))) ae) (aa ae af))))
  (ag (bc (aL bq (aN aO (aa (aJ aS (pv 0) ae) (aa ae af))) ae (aR _)) (aq (aK (i:=13) (a9 (aa (aJ ia (aJ bj ae (aN aO (aa (aJ aS (pv 0) ae) (aa ae af)))) ae) (aa ae af)))))
   aX)
  (aq (aQ (a9 (aa aZ (aa (pv 5) (aa (pv 13) (aa (av a6 (bH (aa (pv 9) (aa (A5 (K:=K) (pv 9) (kJ ib ae)) af))) (aN aO (aa (aJ aS (pv 0) ae) (aa ae af)))) af))))))))))))))))),?_⟩
  refine(?_:let bO:TS:=_;let bP:TS:=_;let bQ:TS:=_;let cO:TS:=_;let lH:TS:=_;let sI:TS:=_;let zS:TS:=_;let Eb:TS:=_;let Ec:TS:=_;let Ed:TS:=_;let qv:TS:=_;tSeq bO (tSeq bP (tSeq bQ (tSeq cO (tSeq lH (tSeq sI (tSeq zS (tSeq Eb (tSeq Ec (tSeq Ed qv))))))))) _ _ _);intro bO bP bQ cO lH sI zS Eb Ec Ed qv;have sl:=sizeLine_eq;obtain⟨s,es⟩:∃s:Nat,2+bX (c+1) 5=(s:Int):=⟨(2+bX (c+1) 5).toNat,by have:=cH (c:=c+1) (m:=5) ∅;lia⟩
  obtain⟨k,ek⟩:∃k:Nat,1+bX (c+2) 2=(k:Int):=⟨(1+bX (c+2) 2).toNat,by have:=cH (c:=c+2) (m:=2) ∅;lia⟩
  have s2:2<=s/\s<=6:=by have:=cH (c:=c+1) (m:=5) ∅;have:=cR (c:=c+1) (m:=5) ∅;lia
  have k2:1<=k/\k<=2:=by have:=cH (c:=c+2) (m:=2) ∅;have:=cR (c:=c+2) (m:=2) ∅;lia
  have EU:(k,s)∈Dq:=by
   obtain⟨a,b⟩:=s2;obtain⟨a',b'⟩:=k2;have:k=1\/k=2:=⋯
   have:s=2\/s=3\/s=4\/s=5\/s=6:=⋯
   rcases this with rfl | rfl | rfl | rfl | rfl <;>rcases ‹k=1\/k=2› with rfl | rfl <;>decide
  have ga:∀c,∃g,g∈gs/\mv (List.map V.str gs) (bX c (gs.length:Int))=some (.str g):=λc=>by
   have b0:=cH (c:=c) (m:=(gs.length:Int)) ⋯;have b1:=cR (c:=c) (m:=(gs.length:Int)) ⋯;generalize bX c (gs.length:Int)=b at *;obtain⟨k,rfl⟩:∃k:Nat,b=(k:Int):=⟨b.toNat,⋯⟩
   have hk:k<gs.length:=⋯
   exact⟨gs[k],aaH hk,bM (by rw[aal,aao hk];rfl)⟩
  refine aP (λN=>N [c⁻¹,~~~cl,some (.str fh),~~~gl,some (.int (s:Int)),none,none,none,none,none,none,none,none,none] H) (λN hN=>?_) ?_
  ·dsimp?[b8];rw[es];exact⟨∅,hN⟩
  refine aP (λN=>∀H1 pl t,aB H H1->H pl=none->H1 pl=some (.lst [.ref t])->H1 t=some (.tup [.str "dice",.int (k:Int),.int (s:Int)])->N [c⁻¹,~~~cl,some (.str fh),~~~gl,some (.int (s:Int)),~~~pl,none,none,none,none,none,none,none,none] H1) (λN hN=>?_) ?_
  ·dsimp?[b8];rw[ek];exact⟨∅,⋯,λt H1 s1 nt et=>⟨⋯,λpl EV=>hN _ pl t (s1.trans (aj EV)) (none_of s1 EV) ai (aj EV _ _ et)⟩⟩
  rintro H1 pl t s1 EV hpl ht;refine aP (λN=>N [c⁻¹,~~~cl,some (.str fh),~~~gl,some (.int (s:Int)),~~~pl,some (.int (k:Int)),none,none,none,none,none,none,none] H1) (λN hN=>?_) ?_
  ·dsimp?[hpl];exact⟨_,ht,_,at1,hN⟩
  refine aP (λN=>N [c⁻¹,~~~cl,some (.str fh),~~~gl,some (.int (s:Int)),~~~pl,some (.int (k:Int)),some (.int ((k:Int)* (s:Int))),none,none,none,none,none,none] H1) (λN hN=>?_) ?_
  ·dsimp?[];exact⟨bE ⋯ ⋯,hN⟩
  refine aP (λN=>∀H2 ps ys,ps∈Ga->aB H H2->H2 pl=some (.lst ys)->cS H H2 (List.map qF ps) ys->N [c⁻¹,~~~cl,some (.str fh),~~~gl,some (.int (s:Int)),~~~pl,some (.int (uZ ps)),some (.int (u4 ps)),none,none,none,none,none,none] H2) (λN hN=>?_) ?_
  ·have b0:=cH (c:=c+4) (m:=100) ∅;have b1:=cR (c:=c+4) (m:=100) ∅;have li1:dS H H1:=.of s1;dsimp?[b8,eY];refine⟨∅,eI (λe=>?_) (λe=>?_)⟩
   ·refine⟨.inl ⟨rfl,_,bw.of hpl⟩,∅,⋯,λp H2 u5 np ep=>?_⟩;obtain⟨m,em⟩:∃m:Nat,bX (c+4) 100=(m:Int):=⟨(bX (c+4) 100).toNat,⋯⟩
    rw[em] at ep b0 b1;have ppl:p≠pl:=λz=>by rw[z,hpl] at np;cases np
    have tpl:t≠pl:=λz=>by rw[z,hpl] at ht;cases ht
    have mE:upd H2 pl (.lst ([.ref t]++ [.ref p])) p=some (.tup [.str "number",.int (m:Int)]):=by rw[aD ppl];exact ep
    have RM:upd H2 pl (.lst ([.ref t]++ [.ref p])) t=some (.tup [.str "dice",.int (k:Int),.int (s:Int)]):=by rw[aD tpl];exact u5 _ _ ht
    have sH:aB H (upd H2 pl (.lst ([.ref t]++ [.ref p]))):=cF (s1.trans u5) EV;refine⟨_,u5 _ _ hpl,by show(1:Nat)<sizeLine;lia,_,ai,_,at1,p,rfl,_,mE,_,at1,_,rfl,_,ai,_,at1,p,rfl,_,mE,_,at1,_,rfl,?_⟩;have h:=hN _ [.cU k s,.num m] [.ref t,.ref p] (List.mem_flatMap.mpr ⟨(k,s),EU,aap _ (abt.mpr ⟨m,List.mem_range.mpr ⋯,rfl⟩)⟩) sH ai (bY (yB (.of sH) RM bV dX dX) (bY (wM (.of sH) mE bV dX) gj));have e1:uZ [.cU k s,.num m]=(k:Int)+ (m:Int):=by show(k:Int)+ ((m:Int)+0)=_;lia
    have e2:u4 [.cU k s,.num m]=(k:Int)* (s:Int)+ (m:Int):=by show(k:Int)* (s:Int)+ ((m:Int)+0)=_;lia
    rw[e1,e2] at h;exact h
   ·have h:=hN _ [.cU k s] [.ref t] (List.mem_flatMap.mpr ⟨(k,s),EU,aar⟩) s1 hpl (bY (yB li1 ht bV dX dX) gj);have e1:uZ [.cU k s]=(k:Int):=by show(k:Int)+0=_;lia
    have e2:u4 [.cU k s]=(k:Int)* (s:Int):=by show(k:Int)* (s:Int)+0=_;lia
    rw[e1,e2] at h;exact h
  rintro H2 ps ys UM u5 hpl2 X2;symm;obtain⟨lh1,lh2,lh3,vin⟩:=UK UM;nofun;clear G_;have BA:dM H H2 (.lst (ps.map qF)) (.ref pl):=uE EV hpl2 X2;clear X2 hpl2 ht hpl;generalize uZ ps=lo at *;generalize u4 ps=hi at *;refine aP (λN=>∀cut,lo<=cut->cut<=hi->N [c⁻¹,~~~cl,some (.str fh),~~~gl,some (.int (s:Int)),~~~pl,lo⁻¹,hi⁻¹,cut⁻¹,none,none,none,none,none] H2) (λN hN=>?_) ?_
  ·dsimp?[b8];have b0:=cH (c:=c+6) (m:=hi - lo+1) ⋯;have b1:=cR (c:=c+6) (m:=hi - lo+1) ⋯;exact⟨⋯,hN _ ⋯ ⋯⟩
  rintro cut Uj XS;refine aP (λN=>∀H3 rl,aB H2 H3->H2 rl=none->H3 rl=some (.lst [])->N [c⁻¹,~~~cl,some (.str fh),~~~gl,some (.int (s:Int)),~~~pl,lo⁻¹,hi⁻¹,cut⁻¹,~~~rl,none,none,none,none] H3) (λN hN=>?_) ?_
  ·dsimp?[];exact⟨aas _,λrl Ee=>hN _ rl (aj Ee) Ee ai⟩
  rintro H3 rl s3 Ee rJ;have Ef:H rl=none:=none_of u5 Ee;let Mq:Nat->Tw->Prop:=λj r=>r.1=(if j=0 then max 0 (lo - 1) else cut+1)/\r.2.1=(if j=0 then cut else hi+2)/\r.2.2.1.length<=3/\(∀d∈r.2.2.1,fW cs d/\BD d)/\r.2.2.2∈gs;refine aP (λN=>∀(H4:Hp) (r0 r1:Tw) (x0 x1:V),aB H2 H4->H4 rl=some (.lst [x0,x1])->Mq 0 r0->Mq 1 r1->cS (upd H rl (.lst [])) H4 (([r0,r1].map EO).map p6) [x0,x1]->∀wR wU u6,N [c⁻¹,~~~cl,some (.str fh),~~~gl,some (.int (s:Int)),~~~pl,lo⁻¹,hi⁻¹,cut⁻¹,~~~rl,wR,wU,u6,none] H4) (λN hN=>?_) ?_
  ·dsimp?[];refine⟨∅,∅,bN (src_range (Ok:=λ_=>True)) (λi σ H4=>aB H2 H4/\∃(rs:List Tw) (xs:List V),H4 rl=some (.lst xs)/\rs.length=i/\(∀(j:Nat) r,rs[j]?=some r->Mq j r)/\cS (upd H rl (.lst [])) H4 ((rs.map EO).map p6) xs/\∃wR wU u6,σ=[c⁻¹,~~~cl,some (.str fh),~~~gl,some (.int (s:Int)),~~~pl,lo⁻¹,hi⁻¹,cut⁻¹,~~~rl,wR,wU,u6,none]) ⟨s3,[],[],rJ,rfl,(λj r e=>by simp at e),gj,_,_,_,rfl⟩ (λ_ _ _ _ _=>trivial) ?_ ?_⟩
   ·intro i x σ H4 H5 IG fm fo;symm;obtain⟨s4,rs,xs,hx,lr,ok,rx,wR,wU,u6,rfl⟩:=fm;obtain⟨rfl,rfl⟩:=fo;nofun;have xl:xs.length=i:=by have:=bg.length rx;rw[aaj,aaj] at this;lia
    have i2:i<2:=IG;simp only[gName,aaQ,aaP,aa3];refine aP (λN=>∀H6 t,aB H5 H6->H6 t=some (.tup [.int (if i=0 then max 0 (lo - 1) else cut+1),.int (if i=0 then cut else hi+2)])->N [c⁻¹,~~~cl,some (.str fh),~~~gl,some (.int (s:Int)),~~~pl,lo⁻¹,hi⁻¹,cut⁻¹,~~~rl,some (.int (i:Int)),~~~t,u6,none] H6) (λN hN=>?_) ?_
    ·dsimp?[];refine⟨⋯,λp H6 s6 np ep=>⟨⋯,λp1 H7 s7 Mp Lg=>⟨⋯,λp2 OE=>?_⟩⟩⟩;have sp:=aj (o:=.lst [V.ref p,V.ref p1]) OE;have e1:(if lo - 1 >0 then lo - 1 else 0)=max 0 (lo - 1):=by split <;>lia
     rw[e1] at ep;have i01:i=0\/i=1:=⋯
     rcases i01 with z | z
     ·subst z;exact⟨_,ai,_,at0,hN _ p (s6.trans (s7.trans sp)) (by rw[if_pos rfl,if_pos rfl];exact sp _ _ (s7 _ _ ep))⟩
     ·subst z;exact⟨_,ai,_,at1,hN _ p1 (s6.trans (s7.trans sp)) (by rw[if_neg ∅,if_neg ∅];exact sp _ _ Lg)⟩
    rintro H6 t' s6 RM;refine aP (λN=>∀H7 dl ds,aB H6 H7->H6 dl=none->dM H6 H7 (.lst (List.map zH ds)) (.ref dl)->ds.length<=3->(∀d∈ds,fW cs d/\BD d)->N [c⁻¹,~~~cl,some (.str fh),~~~gl,some (.int (s:Int)),~~~pl,lo⁻¹,hi⁻¹,cut⁻¹,~~~rl,some (.int (i:Int)),~~~t',~~~dl,none] H7) (λN hN=>?_) ?_
    ·dsimp?[D4];exact⟨bE ⋯ ⋯,cs,rc.mono (u5.trans (s4.trans s6)),c3,uL,Lc,cw,λdl H7 ds s7 n7 r7 l7 g7=>hN _ dl ds s7 n7 r7 l7 g7⟩
    rintro H7 dl ds s7 ndl Gp ld gd;have X3:=u5.trans (s4.trans (s6.trans s7));have RN:=s6.trans s7;symm;obtain⟨go,UN,UO⟩:=ga (c+8+ (i:Int));nofun;dsimp?[b8,eY];refine⟨.inl ⟨rfl,_,bw.of (RN _ _ hx)⟩,_,s7 _ _ RM,_,at0,_,s7 _ _ RM,_,at1,_,X3 _ _ GH,by rw[aaj];lia,_,X3 _ _ GH,.str go,by rw[aaj];exact UO,⋯,λp H8 s8 np ep=>⟨xs,(RN.trans s8) _ _ hx,⋯,cF (s4.trans (RN.trans s8)) Ee,rs++ [(if i=0 then max 0 (lo - 1) else cut+1,if i=0 then cut else hi+2,ds,go)],_,ai,by rw[aat,lr];rfl,?_,?_,_,rfl⟩⟩
    ·intro j r ej
     by_cases z:j<rs.length
     ·rw[List.getElem?_append_left z] at ej;exact ok j r ej
     ·rw[List.getElem?_append_right ⋯] at ej;have z2:j - rs.length=0:=by
       cases h:j - rs.length with
       | zero=>rfl
       | succ n=>rw[h] at ej;simp at ej
      rw[z2] at ej;cases ej;have z3:j=i:=⋯
      subst z3;exact⟨rfl,rfl,ld,gd,UN⟩
    ·show bg (ir _ (upd _ _ _)) _ _;rw[i4 (ys:=[]) ai,aaq,aaq];have li:dS (upd H rl (.lst [])) H6:=λb ys e=>by
      by_cases z:b=rl
      ·subst z;exact⟨_,s6 _ _ hx⟩
      ·rw[aD z] at e;exact⟨_,(u5.trans (s4.trans s6)) _ _ e⟩
     exact oQ (K2 (li.trans (s7.trans s8)) ep dX dX ((Gp.low li).mono s8) bV) (rx.mono (RN.trans s8))
   ·intro σ H4 du;symm;obtain⟨s4,rs,xs,hx,lr,ok,rx,wR,wU,u6,rfl⟩:=du;have lr:rs.length=2:=lr;have xl:xs.length=2:=by have:=bg.length rx;rw[aaj,aaj] at this;lia
    obtain⟨r0,r1,rfl⟩:=OD lr;obtain⟨x0,x1,rfl⟩:=OD xl;nofun;exact hN _ r0 r1 x0 x1 s4 hx (ok 0 r0 rfl) (ok 1 r1 rfl) rx _ _ _
  rintro H4 r0 r1 x0 x1 s4 hx OF OG rx wR wU u6;have GI:=u5.trans s4;refine aP (λN=>∀H5 t k,aB H4 H5->H5 t=some (.tup [.int k,.int 1])->-4<=k->k<=4->N [c⁻¹,~~~cl,some (.str fh),~~~gl,some (.int (s:Int)),~~~pl,lo⁻¹,hi⁻¹,cut⁻¹,~~~rl,wR,wU,u6,~~~t] H5) (λN hN=>?_) ?_
  ·dsimp?[b8];have b0:=cH (c:=c+9) (m:=9) ∅;have b1:=cR (c:=c+9) (m:=9) ∅;exact⟨∅,⋯,λt H5 s5 nt et=>hN _ t _ s5 et ⋯ ⋯⟩
  rintro H5 t k' s5 ht5 k5 k6;refine aP (λN=>∀H6 t py,aB H4 H6->H6 t=some (.tup (Pr py.1 py.2))->jB 20 py->N [c⁻¹,~~~cl,some (.str fh),~~~gl,some (.int (s:Int)),~~~pl,lo⁻¹,hi⁻¹,cut⁻¹,~~~rl,wR,wU,u6,~~~t] H6) (λN hN=>?_) ?_
  ·dsimp?[b8];have b0:=cH (c:=c+9) (m:=9) ∅;have b1:=cR (c:=c+9) (m:=9) ∅;exact⟨∅,eI (λe=>⟨∅,bE ⋯ ⋯,⋯,λp H6 s6 np ep=>hN _ p (2*bX (c+9) 9 - 7,2) (s5.trans s6) ep (Gy _ ⋯ ⋯ ⋯)⟩) (λe=>hN _ t (k',1) s5 ht5 (jq _ ⋯ ⋯))⟩
  rintro H6 t2 py s6 ht6 oP;have GJ:=GI.trans s6;have v0:=cH (c:=c+12) (m:=2) ∅;have v1:=cR (c:=c+12) (m:=2) ∅;have li:dS H H6:=.of GJ;have lr:dS H (upd H rl (.lst [])):=.of (aj Ef);have fin:∀(H9:Hp) (p q:Addr) (rs:List Tw) (xs:List V),aB H6 H9->H q=none->H9 q=some (.lst xs)->cS H H9 ((rs.map EO).map p6) xs->(rs=[r0,r1]\/rs=[r1,r0])->H9 p=some (.tup [.str "throw",.ref pl,.ref t2,.ref q])->Q (.ref p) H9:=λH9 p q rs xs s9 nq hq rq er ep=>by
   refine kk (.ref p) H9 (.eC (ps.map qF) py.1 py.2 rs) (GJ.trans s9) ?_ ?_ ?_
   ·exact K2 (li.trans s9) ep bV (BA.mono (s4.trans (s6.trans s9))) (qr (li.trans s9) (s9 _ _ ht6) (bY dX (bY dX gj))) (uE nq hq rq)
   ·have g:∀r∈rs,r=r0\/r=r1:=λr hr=>by rcases er with rfl | rfl <;>simp at hr <;>rcases hr with h | h <;>simp [h]
    refine⟨?_,?_,λr hr=>?_⟩
    ·rw[aaj];obtain⟨k,s,_,e | ⟨m,_,e⟩⟩:=lC UM <;>rw[e] <;>simp
    ·rcases er with rfl | rfl <;>simp
    ·rcases g r hr with rfl | rfl
     ·exact⟨by have:=OF.2.2.1;lia,λd hd=>(OF.2.2.2.1 d hd).1⟩
     ·exact⟨by have:=OG.2.2.1;lia,λd hd=>(OG.2.2.2.1 d hd).1⟩
   ·have g:∀r∈rs,r=r0\/r=r1:=λr hr=>by rcases er with rfl | rfl <;>simp at hr <;>rcases hr with h | h <;>simp [h]
    refine⟨ps,rfl,UM,oP,λv hv=>?_,λr hr=>?_⟩
    ·obtain⟨w1,w2⟩:=vin v hv;refine⟨⋯,⋯,?_⟩;obtain⟨r,hr,er1,er2⟩:∃r∈rs,r.1<=v/\v<=r.2.1:=by
      have m0:r0∈rs:=by rcases er with rfl | rfl <;>simp
      have m1:r1∈rs:=by rcases er with rfl | rfl <;>simp
      symm;obtain⟨a1,a2,_⟩:=OF;obtain⟨b1,b2,_⟩:=OG;nofun;rw[if_pos rfl] at a1 a2;rw[if_neg ∅] at b1 b2
      by_cases z:v<=cut
      ·exact⟨r0,m0,⋯,⋯⟩
      ·exact⟨r1,m1,⋯,⋯⟩
     cases h:wA rs v with
     | some r'=>exact⟨r',rfl⟩
     | none=>
      have:=List.find?_eq_none.mp h r hr;exact absurd (by simp [er1,er2]) this
    ·rcases g r hr with rfl | rfl
     ·exact⟨OF.2.2.2.2,λd hd=>(OF.2.2.2.1 d hd).2⟩
     ·exact⟨OG.2.2.2.2,λd hd=>(OG.2.2.2.1 d hd).2⟩
  dsimp?[b8,Kg];refine⟨[x0,x1],bw.of (s6 _ _ hx),λp np=>⟨⋯,λp1 Mp=>?_⟩⟩;have sa:=aj (o:=.lst [x0,x1].reverse) np;have sb:=aj (o:=.lst [V.ref rl,V.ref p]) Mp;have X4:cS H H6 (([r0,r1].map EO).map p6) [x0,x1]:=(rx.mono s6).low lr;have o:bX (c+12) 2=0\/bX (c+12) 2=1:=⋯
  rcases o with o | o
  ·rw[o];exact⟨∅,_,ai,_,at0,⋯,λp2 H9 s9 OE ep=>fin H9 p2 rl [r0,r1] _ (sa.trans (sb.trans s9)) Ef ((sa.trans (sb.trans s9)) _ _ (s6 _ _ hx)) (X4.mono (sa.trans (sb.trans s9))) (.inl rfl) ep⟩
  ·rw[o];refine⟨∅,_,ai,_,at1,⋯,λp2 H9 s9 OE ep=>fin H9 p2 p [r1,r0] _ (sa.trans (sb.trans s9)) (none_of GJ np) ((sb.trans s9) _ _ ai) ?_ (.inr rfl) ep⟩;symm;obtain⟨y0,q0,e0,h0,h1⟩:=aU.mp (show bg _ (p6 (EO r0)::[p6 (EO r1)]) [x0,x1] from X4.mono (sa.trans (sb.trans s9)));obtain⟨y1,q1,e1,h1,h2⟩:=aU.mp h1;nofun;cases e0;cases e1;exact bY h1 (bY h0 gj)
theorem lQ:aV ["_law_cell_here","_law_counts","_law_clock","_law_goals","_law_words_here","_law_rows","_law_sure","_law_k","_law_when","_law_count","_law_deeds_here"] ["_law_cell_here","_law_counts","_law_clock","_law_goals"] (au (top 60)):=.mk
theorem Lh (T:0|||0):(3<<<"_law_pick") ["_law_cell_here","_law_counts","_law_clock","_law_goals"] zZ:=by
 have aO:=nh T;have iw:=Ea T;have ix:=D9 T;refine T.vS.dE (λ_ _ _ _ _ _=>uk λ_ _ _ _=>rfl) λf fd F=>F.d4 lQ (λvs H Q E h=>?_) (λbR A outer s H vs Q E hr h=>?_)
 ·obtain⟨_,_,_,_,rfl,_⟩:=tW h;rfl
 ·symm;obtain⟨c,cl,fh,gl,rfl,cs,rc,c3,uL,Lc,cw,gs,GH,g0,g3,kk⟩:=tW h;nofun;clear G_;have nd:=lQ.nd;refine⟨_,(ag (aK (i:=4) (aN ix (aa (aJ aS (pv 0) ae) (aa ae af))))
  (ag (aK (i:=5) (bH af))
  (ag (aK (i:=6) (aN aO (aa (aJ aS (pv 0) ae) (aa ae af))))
  (ag (b6 PassesOwn.never rfl (cJ rfl T.z_range (aa (aJ aS ae (aY (jh rfl) (by rfl) T.z_max rfl (aa (pv 6) (aa (aN aO (aa (aJ aS (pv 0) ae) (aa ae af))) af)))) af)) (a5 (i:=7) nd rfl (.inl rfl)) (ag (aK (i:=8) fi)
  (ag (bc (PW.pt (pw_and (aL pe (pv 7) (pv 6) (aR _)) (pw_and1 (aL fB (aN aO (aa (aJ aS (pv 0) (aJ bj ae (pv 7))) (aa ae af))) ae (aR _))))) (ag (aK (i:=9) (av ao (av a6 (pv 1) (aN aO (aa (aJ aS (aJ aS (pv 0) (aJ bj ae (pv 7))) ae) (aa (aY bF (by rfl) T.z_len aaA (aa (pv 1) af)) af)))) ae))
  (aq (aK (i:=8) (a9 (aa (pv 9) (aa (av a6 (bH (aa aZ (aa aZ af))) (aN aO (aa (aJ aS (aJ aS (pv 0) (aJ bj ae (pv 7))) ae) (aa ae af)))) (aa (aN aO (aa (aJ aS (aJ aS (pv 0) (aJ bj ae (pv 7))) ae) (aa ae af))) af)))))))
   aX)
  (ag (aK (i:=10) (aN iw (aa (aJ aS (pv 0) (aJ bj ae (pv 7))) (aa (pv 1) (aa (pv 2) (aa iA af))))))
  (aq (bU (fe aaR abb abc dO.r (pv 5) (aa (a9 (aa (av a6 (pv 4) (pv 7)) (aa (pv 8) (aa (pv 10) (aa (av a6 (pv 3) (aN aO (aa (aJ aS (aJ aS (pv 0) (aJ bj ae (pv 7))) ae) (aa (aY bF (by rfl) T.z_len aaA (aa (pv 3) af)) af)))) af))))) af))))))))
  (aq (aQ (a9 (aa aZ (aa (aJ aS ae (aN aO (aa (aJ aS (pv 0) ae) (aa ae af)))) (aa (pv 5) af)))))))))),?_⟩
  refine(?_:let bO:TS:=_;let bP:TS:=_;let bQ:TS:=_;let cO:TS:=_;let lH:TS:=_;tSeq bO (tSeq bP (tSeq bQ (tSeq cO lH))) _ _ _);intro bO bP bQ cO lH;have sl:=sizeLine_eq;symm;obtain⟨xh,uB,e0,eN,oM⟩:=ba.mp (show Rep H (.lst _) (.ref cl) from rc);nofun;clear G_;cases e0;have len:=oM.length;rw[aaj] at len;have c0:0<cs.length:=by
   cases cs with
   | nil=>simp at uL
   | cons a b=>exact Nat.zero_lt_succ _
  have ga:∀c,∃g,g∈gs/\mv (List.map V.str gs) (bX c (gs.length:Int))=some (.str g):=λc=>by
   have b0:=cH (c:=c) (m:=(gs.length:Int)) ⋯;have b1:=cR (c:=c) (m:=(gs.length:Int)) ⋯;generalize bX c (gs.length:Int)=b at *;obtain⟨k,rfl⟩:∃k:Nat,b=(k:Int):=⟨b.toNat,⋯⟩
   have hk:k<gs.length:=⋯
   exact⟨gs[k],aaH hk,bM (by rw[aal,aao hk];rfl)⟩
  have ca:∀c,∃q x,x∈cs/\mv uB (bX c (uB.length:Int))=some (.ref q)/\H q=some (.tup [.str x.1,.int x.2]):=λc=>by
   have b0:=cH (c:=c) (m:=(uB.length:Int)) ⋯;have b1:=cR (c:=c) (m:=(uB.length:Int)) ⋯;generalize bX c (uB.length:Int)=b at *;obtain⟨k,rfl⟩:∃k:Nat,b=(k:Int):=⟨b.toNat,⋯⟩
   have hk:k<cs.length:=⋯
   obtain⟨v,ev,rv⟩:=oM.at (i:=k) (by rw[aal,aao hk];rfl);symm;obtain⟨q,a,b,rfl,hq,r1,r2⟩:=bI.mp (show Rep H (.tup _) v from rv);nofun;rw[aT.mp r1,bD.mp r2] at hq;exact⟨q,cs[k],aaH hk,bM ev,hq⟩
  refine aP (λN=>∀H1 wl ws,aB H H1->H1 wl=some (.lst (List.map V.str ws))->ws.length=4->ws.Nodup->(∀w∈ws,BC w)->(∃z,∀w∈ws,w.length=z)->N [c⁻¹,~~~cl,some (.str fh),~~~gl,~~~wl,none,none,none,none,none,none] H1) (λN hN=>?_) ?_
  ·dsimp?[D2];exact⟨∅,∅,λl H1 ws s1 nl hl l4 IH OH wz=>hN _ l ws s1 hl l4 IH OH wz⟩
  rintro H1 wl ws s1 Fm w4 IH OH wz;refine aP (λN=>∀H2 rl,aB H1 H2->H1 rl=none->H2 rl=some (.lst [])->N [c⁻¹,~~~cl,some (.str fh),~~~gl,~~~wl,~~~rl,none,none,none,none,none] H2) (λN hN=>?_) ?_
  ·dsimp?[];exact⟨aas _,λrl Ee=>hN _ rl (aj Ee) Ee ai⟩
  rintro H2 rl s2 Ee rJ;have Ef:H rl=none:=none_of s1 Ee;refine aP (λN=>∀su:Int,0<=su->su<3->N [c⁻¹,~~~cl,some (.str fh),~~~gl,~~~wl,~~~rl,su⁻¹,none,none,none,none] H2) (λN hN=>?_) ?_
  ·dsimp?[b8];exact⟨∅,hN _ (cH ∅) (cR ∅)⟩
  rintro su su0 su3;let Mq:Rw->Prop:=λr=>GB cs r.wh/\r.to∈gs/\r.ds.length<=3/\∀d∈r.ds,fW cs d/\BD d;refine aP (λN=>∀(H3:Hp) (rs:List Rw) (xs:List V) (m:Nat),aB H1 H3->H3 rl=some (.lst xs)->m<=4->rs.map (·.word)=ws.take m->(∀r∈rs,Mq r)->(∃r∈rs,r.wh=none)->cS (upd H rl (.lst [])) H3 ((rs.map Gf).map p6) xs->∀z7 z8 z9 wR,N [c⁻¹,~~~cl,some (.str fh),~~~gl,~~~wl,~~~rl,su⁻¹,z7,z8,z9,wR] H3) (λN hN=>?_) ?_
  ·have b0:=cH (c:=c+2) (m:=4) (by decide);have b1:=cR (c:=c+2) (m:=4) (by decide);dsimp?[b8];obtain⟨m,em⟩:∃m:Nat,(1+if bX (c+2) 4 >su then bX (c+2) 4 else su)=(m:Int):=⟨(1+if bX (c+2) 4 >su then bX (c+2) 4 else su).toNat,by split <;>lia⟩
   have m4:m<=4:=by split at em <;>lia
   have msu:su< (m:Int):=by split at em <;>lia
   rw[em];refine⟨∅,⋯,⋯,?_⟩
   try rw[aaF]
   refine bN (src_range (Ok:=λ_=>True)) (λi σ H3=>aB H1 H3/\∃(rs:List Rw) (xs:List V),H3 rl=some (.lst xs)/\rs.map (·.word)=ws.take i/\(∀r∈rs,Mq r)/\(su< (i:Int)->∃r∈rs,r.wh=none)/\cS (upd H rl (.lst [])) H3 ((rs.map Gf).map p6) xs/\∃z7 z8 z9 wR,σ=[c⁻¹,~~~cl,some (.str fh),~~~gl,~~~wl,~~~rl,su⁻¹,z7,z8,z9,wR]) ⟨s2,[],[],rJ,rfl,(λr hr=>by cases hr),(λz=>absurd z ⋯),gj,_,_,_,_,rfl⟩ (λ_ _ _ _ _=>trivial) ?_ ?_
   ·intro i x σ H3 H4 hi fm fo;symm;obtain⟨s3,rs,xs,hx,ew,ok,sure,rx,z7,z8,z9,wR,rfl⟩:=fm;obtain⟨rfl,rfl⟩:=fo;nofun;have lM:=s1.trans s3;have xl:xs.length=i:=by
     have h1:=bg.length rx;have h2:=congrArg List.length ew;rw[aaj,aaj] at h1;rw[aaj,aaD] at h2;lia
    have X5:i<ws.length:=⋯
    simp only[gName,aaQ,aaP,aa3];refine aP (λN=>N [c⁻¹,~~~cl,some (.str fh),~~~gl,~~~wl,~~~rl,su⁻¹,some (.int (i:Int)),some .bZ,z9,wR] H4) (λN hN=>?_) ?_
    ·dsimp?[];exact hN
    have Le:dS (upd H rl (.lst [])) H4:=λb ys e=>by
     by_cases z:b=rl
     ·subst z;exact⟨_,hx⟩
     ·rw[aD z] at e;exact⟨_,lM _ _ e⟩
    refine aP (λN=>∀H5 v wh,aB H4 H5->dM (upd H rl (.lst [])) H5 (KA wh) v->GB cs wh->((i:Int)=su->wh=none)->∀z9,N [c⁻¹,~~~cl,some (.str fh),~~~gl,~~~wl,~~~rl,su⁻¹,some (.int (i:Int)),some v,z9,wR] H5) (λN hN=>?_) ?_
    ·have Eg:=hN H4 .bZ none (aB.refl _) K0 trivial (λ_=>rfl);symm;obtain⟨q,x,hxc,eat,hq⟩:=ca (c+50* (i:Int)+1);nofun;have f0:=cH (c:=c+50* (i:Int)+2) (m:=2) ∅;have f1:=cR (c:=c+50* (i:Int)+2) (m:=2) ∅
     by_cases z1:(i:Int)=su
     ·refine cG (λY N k=>by dsimp?[b8];rw[if_neg (λz=>z z1),if_neg ∅];exact k) ?_;dsimp?[];exact Eg _
     by_cases z2:0<bX (c+50* (i:Int)) 3
     ·refine dJ (λY N k=>by dsimp?[b8];rw[if_pos z1];exact⟨bE ⋯ ⋯,∅,by rw[if_pos z2];exact k⟩) ?_;obtain⟨fb,efb,ofb⟩:∃w,mv [V.str "from",V.str "below"] (bX (c+50* (i:Int)+2) 2)=some (.str w)/\(w=aai "from"\/w=aai "below"):=by
       have o:bX (c+50* (i:Int)+2) 2=0\/bX (c+50* (i:Int)+2) 2=1:=⋯
       rcases o with o | o
       ·rw[o];exact⟨_,rfl,.inl rfl⟩
       ·rw[o];exact⟨_,rfl,.inr rfl⟩
      dsimp?[b8];refine⟨bE ⋯ ⋯,_,lM _ _ eN,⋯,_,lM _ _ eN,_,eat,_,rfl,_,lM _ _ hq,_,at0,⋯,λp np=>⟨bE ⋯ ⋯,∅,_,ai,_,efb,bE ⋯ ⋯,∅,⋯,λp1 H5 s5 Mp Lg=>?_⟩⟩;have OC:=(aj np).trans s5;exact hN H5 (.ref p1) (some (x.1,fb,bX (c+50* (i:Int)+3) 4)) OC (yB (Le.trans OC) Lg bV bV dX) ⟨abt.mpr ⟨x,hxc,rfl⟩,ofb⟩ (λz=>absurd z z1) _
     ·refine cG (λY N k=>by dsimp?[b8];rw[if_pos z1];exact⟨bE ⋯ ⋯,∅,by rw[if_neg z2];exact k⟩) ?_;dsimp?[];exact Eg _
    rintro H5 v wh s5 UP okw okn z9;refine aP (λN=>∀H6 dl ds,aB H5 H6->dM H5 H6 (.lst (List.map zH ds)) (.ref dl)->ds.length<=3->(∀d∈ds,fW cs d/\BD d)->N [c⁻¹,~~~cl,some (.str fh),~~~gl,~~~wl,~~~rl,su⁻¹,some (.int (i:Int)),some v,z9,~~~dl] H6) (λN hN=>?_) ?_
    ·dsimp?[D4];exact⟨bE ⋯ ⋯,cs,rc.mono (lM.trans s5),c3,uL,Lc,cw,λdl H6 ds s6 n6 r6 l6 g6=>hN _ dl ds s6 r6 l6 g6⟩
    rintro H6 dl ds s6 Gp ld gd;have Li:=s5.trans s6;have GJ:=lM.trans Li;symm;obtain⟨go,UN,UO⟩:=ga (c+50* (i:Int)+4);nofun;dsimp?[b8,eY];refine⟨.inl ⟨rfl,_,bw.of (Li _ _ hx)⟩,_,(s3.trans Li) _ _ Fm,.str ws[i],bM (by rw[aal,aao X5];rfl),bE ⋯ ⋯,_,GJ _ _ GH,by rw[aaj];lia,_,GJ _ _ GH,.str go,by rw[aaj];exact UO,⋯,λp H8 s8 np ep=>⟨xs,(Li.trans s8) _ _ hx,⋯,cF (s3.trans (Li.trans s8)) Ee,rs++ [⟨ws[i],wh,ds,go⟩],_,ai,?_,λr hr=>?_,λz=>?_,?_,_,rfl⟩⟩
    ·rw[aaq,ew,take_snoc X5];rfl
    ·rcases List.mem_append.mp hr with hr | hr
     ·exact ok r hr
     ·rw[abu.mp hr];exact⟨okw,UN,ld,gd⟩
    ·by_cases y:(i:Int)=su
     ·exact⟨_,aaG _ aar,okn y⟩
     ·symm;obtain⟨r,hr,e⟩:=sure ⋯;nofun;exact⟨r,abe _ hr,e⟩
    ·show bg (ir _ (upd _ _ _)) _ _;rw[i4 (ys:=[]) ai,aaq,aaq];exact oQ (K2 (Le.trans (Li.trans s8)) ep bV (UP.mono (s6.trans s8)) ((Gp.low (Le.trans s5)).mono s8) bV) (rx.mono (Li.trans s8))
   ·intro σ H3 du;symm;obtain⟨s3,rs,xs,hx,ew,ok,sure,rx,z7,z8,z9,wR,rfl⟩:=du;nofun;exact hN _ rs xs m s3 hx m4 ew ok (sure msu) rx _ _ _ _
  rintro H3 rs xs m s3 hx m4 ew ok sure rx z7 z8 z9 wR;obtain⟨wz,hwz⟩:=wz;have OI:∀r∈rs,r.word∈ws:=λr hr=>by
   have:r.word∈rs.map (·.word):=abt.mpr ⟨r,hr,rfl⟩;rw[ew] at this;exact List.mem_of_mem_take this
  have lM:=s1.trans s3;have xl:xs.length=rs.length:=by have:=bg.length rx;rw[aaj,aaj] at this;lia
  have rl4:rs.length<=4:=by have:=congrArg List.length ew;rw[aaj,aaD] at this;lia
  dsimp?[b8];exact⟨∅,⋯,λp H4 s4 np ep=>kk (.ref p) H4 (.pick (1+bX (c+4) 2) rs) (lM.trans s4) (yB (.of (lM.trans s4)) ep bV dX (uE Ef (s4 _ _ hx) ((rx.mono s4).low (.of (aj Ef))))) ⟨⋯,λr hr=>⟨by have:=(ok r hr).2.2.1;lia,λd hd=>((ok r hr).2.2.2 d hd).1⟩⟩ ⟨⟨rl4,⟨wz,λr hr=>hwz _ (OI r hr)⟩,sure⟩,by rw[ew];exact IH.sublist (List.take_sublist _ _),λr hr=>⟨OH _ (OI r hr),(ok r hr).1,(ok r hr).2.1,λd hd=>((ok r hr).2.2.2 d hd).2⟩⟩⟩
theorem lR:aV ["_law_script","_law_at","_law_turns","_law_most","_law_cell_here","_law_names","_law_acts","_law_clock","_law_counts","_law_asks","_law_places","_law_k","_law_inner","_law_what_here","_law_final"] ["_law_script","_law_at","_law_turns","_law_most"] (au (top 61)):=.mk
abbrev dI (ns:List Str) (i:Nat):Str:=ns.getD i default
theorem Bm {ns:List Str} (h:ns.length=12) {a:Nat} (h1:1<=a) (h3:a<=3):vj (List.map V.str ns) (some 3) (some (3+ (a:Int)))=((List.range a).map λk=>dI ns (3+k)).map V.str:=by
 match ns,h with
 | [n0,n1,n2,n3,n4,n5,n6,n7,n8,n9,n10,n11],_=>
  have:a=1\/a=2\/a=3:=⋯
  rcases this with rfl | rfl | rfl <;>rfl
theorem Eh {ns:List Str} {i:Nat} (h:i<ns.length):dI ns i∈ns:=by
 unfold dI;rw[aaV,aao h];exact aaH h
theorem II {ns:List Str} (nd:ns.Nodup) {I:List Nat} (hI:I.Nodup) (hl:∀i∈I,i<ns.length):(I.map (dI ns)).Nodup:=by
 unfold List.Nodup;rw[List.pairwise_map];refine List.Pairwise.imp_of_mem ?_ hI;intro i j hi hj ne e;have h1:=hl i hi;have h2:=hl j hj;unfold dI at e;rw[aaV,aaV,aao h1,aao h2] at e;exact ne ((List.getElem_inj nd).mp e)
abbrev gK (ns:List Str) (a:Nat) (tu:Int):List (Str×Wt):=(List.range a).map λk=>(dI ns (3+k),Wt.ask (dI ns 0) tu (dI ns 11) (dI ns (6+k)))
abbrev fA (ns:List Str) (W:List Wt):List (Str×Wt):=W.mapIdx λk x=>(dI ns (6+k),x)
theorem Ei {ns:List Str} {W:List Wt} {x:Wt}:fA ns (W++ [x])=fA ns W++ [(dI ns (6+W.length),x)]:=by
 unfold fA;rw[List.mapIdx_concat]
theorem oV {n:Str} {x:Wt}:∀{ps:List (Str×Wt)},(ps.map (·.1)).Nodup->(n,x)∈ps->look ps n=some x
 | [],_,h=>by cases h
 | p::ps,nd,h=>by
  rw[aak,List.nodup_cons] at nd;unfold look;rcases aaX.mp h with e | e
  ·rw[<-e,List.find?_cons_of_pos (by simp)];rfl
  ·have:p.1≠n:=λz=>nd.1 (by rw[z];exact abt.mpr ⟨_,e,rfl⟩);rw[List.find?_cons_of_neg (by simpa using this)];exact oV nd.2 e
theorem Bn {ns:List Str}:∀W:List Wt,(fA ns W).map (·.1)=((List.range W.length).map (6+·)).map (dI ns):=λW=>by
 unfold fA;refine List.ext_getElem (by simp) λi h1 h2=>by simp
theorem Lj {ns:List Str} {a:Nat} {tu:Int} {cs:List (Str×Int)} {W:List Wt} {fw:Wt} (h:ns.length=12) (nd:ns.Nodup) (Mr:∀w∈ns,BC w) (a1:1<=a) (a3:a<=3) (lW:W.length=a) (c3:cs.length<=3) (uL:dI ns 0∈cs.map (·.1)) (Lc:(cs.map (·.1)).Nodup) (cm:∀x∈cs,0<=x.2/\x.2<=1000)
  (IJ:∀x∈W,lD cs x/\jC cs ((List.range a).map λk=>dI ns (3+k)) x) (gf:lD cs fw) (wf:jC cs ((List.range a).map λk=>dI ns (3+k)) fw):DZ ⟨cs,gK ns a tu++fA ns W++ [(dI ns 11,fw)]⟩ ((List.range a).map λk=>dI ns (3+k)):=by
 have en:(gK ns a tu++fA ns W++ [(dI ns 11,fw)]).map (·.1)=((List.range a).map (3+·)++ (List.range a).map (6+·)++ [11]).map (dI ns):=by
  rw[aaq,aaq,Bn,lW,aaq,aaq];unfold gK;rw[aaJ,aaJ,aaJ];rfl
 have Lk:((List.range a).map (3+·)++ (List.range a).map (6+·)++ [11]).Nodup/\∀i∈((List.range a).map (3+·)++ (List.range a).map (6+·)++ [11]),i<12:=by
  have:a=1\/a=2\/a=3:=⋯
  rcases this with rfl | rfl | rfl <;>decide
 have np:((gK ns a tu++fA ns W++ [(dI ns 11,fw)]).map (·.1)).Nodup:=by rw[en];exact II nd Lk.1 (by rw[h];exact Lk.2)
 have lf:look (gK ns a tu++fA ns W++ [(dI ns 11,fw)]) (dI ns 11)=some fw:=oV np (by simp);have la:∀k x,W[k]?=some x->look (gK ns a tu++fA ns W++ [(dI ns 11,fw)]) (dI ns (6+k))=some x:=λk x e=>oV np (by
  refine abe _ (aaG _ ?_);unfold fA;rw[List.mem_mapIdx];obtain⟨h1,h2⟩:=abr.mp e;exact⟨k,h1,by rw[h2]⟩)
 have na:∀{x},jC cs ((List.range a).map λk=>dI ns (3+k)) x->∀(g:Gm) n Bv f,look g.ps n=some x->dW g Bv (f+1) n=some n:=λ{x} wx g n Bv f lk=>by
  unfold dW;rw[lk];cases x with
  | ask c k a b=>exact wx.elim
  | fin t b=>rfl
  | score c=>rfl
  | pick w rs=>rfl
  | eC p t b rs=>rfl
 refine⟨⟨Lc,np,by show cs.length<=100;lia,?_,?_,λp hp=>?_⟩,cm,λp hp=>?_,?_,λnm hnm Bv=>?_⟩
 ·show(gK ns a tu++fA ns W++ [(dI ns 11,fw)]).length<=100;unfold gK fA;rw[aat,aat,aaj,aaO,List.length_mapIdx,aa8];lia
 ·show 0< (gK ns a tu++fA ns W++ [(dI ns 11,fw)]).length;rw[aat,aa8];lia
 ·rcases List.mem_append.mp hp with hp | hp
  ·rcases List.mem_append.mp hp with hp | hp
   ·obtain⟨k,_,rfl⟩:=abt.mp hp;exact uL
   ·unfold fA at hp;rw[List.mem_mapIdx] at hp;obtain⟨k,hk,rfl⟩:=hp;exact(IJ _ (aaH hk)).1
  ·rw[abu.mp hp];exact gf
 ·have:p.1∈(gK ns a tu++fA ns W++ [(dI ns 11,fw)]).map (·.1):=abt.mpr ⟨p,hp,rfl⟩;rw[en] at this;obtain⟨i,hi,e⟩:=abt.mp this;rw[<-e];exact Mr _ (Eh (by rw[h];exact Lk.2 i hi))
 ·refine⟨dI ns 3,abt.mpr ⟨0,List.mem_range.mpr ⋯,rfl⟩,?_⟩;show((gK ns a tu++fA ns W++ [(dI ns 11,fw)]).map (·.1)).head?=some (dI ns 3);rw[en];have:a=1\/a=2\/a=3:=⋯
  rcases this with rfl | rfl | rfl <;>rfl
 ·obtain⟨k,hk,rfl⟩:=abt.mp hnm;have hk:=List.mem_range.mp hk;have lk:look (gK ns a tu++fA ns W++ [(dI ns 11,fw)]) (dI ns (3+k))=some (.ask (dI ns 0) tu (dI ns 11) (dI ns (6+k))):=oV np (abe _ (abe _ (abt.mpr ⟨k,List.mem_range.mpr hk,rfl⟩)));have X6:k<W.length:=⋯
  have lw:=la k _ (aao X6);have ww:=(IJ _ (aaH X6)).2
  by_cases z:tu<=Bv.getD (bG cs (dI ns 0)) 0
  ·refine⟨dI ns 11,fw,?_,lf,wf⟩;unfold dW;rw[lk];show(if tu<=Bv.getD (bG cs (dI ns 0)) 0 then _ else _)=_;rw[if_pos z];exact na wf _ _ _ 1 lf
  ·refine⟨dI ns (6+k),_,?_,lw,ww⟩;unfold dW;rw[lk];show(if tu<=Bv.getD (bG cs (dI ns 0)) 0 then _ else _)=_;rw[if_neg z];exact na ww _ _ _ 1 lw
theorem OJ {ns:List Str} {m j:Nat} {c mo tu:Int} {cs:List (Str×Int)} (h:ns.length=12) (nd:ns.Nodup) (Mr:∀w∈ns,BC w) (hm:m<=2) (hj:j<=m) (UD:1<=mo) (X7:mo<=100) (X8:1<=tu) (X9:tu<=100)
  (e:cs=((List.range m).map λk:Nat=>((dI ns (1+k),1+bX (c+7+ (k:Int)) mo):Str×Int)).take j++ (dI ns 0,tu)::((List.range m).map λk:Nat=>((dI ns (1+k),1+bX (c+7+ (k:Int)) mo):Str×Int)).drop j):
  cs.length<=3/\dI ns 0∈cs.map (·.1)/\(cs.map (·.1)).Nodup/\(∀x∈cs,BC x.1)/\∀x∈cs,0<=x.2/\x.2<=1000:=by
 have ei:cs.map (·.1)=(((List.range m).map (1+·)).take j++0::((List.range m).map (1+·)).drop j).map (dI ns):=by
  rw[e,aaq,aak,aaq,aak,aa5,aa5,List.map_drop,List.map_drop,aaJ,aaJ];rfl
 have Lk:(((List.range m).map (1+·)).take j++0::((List.range m).map (1+·)).drop j).Nodup/\∀i∈(((List.range m).map (1+·)).take j++0::((List.range m).map (1+·)).drop j),i<12:=by
  have Rk:m=0\/m=1\/m=2:=⋯
  have Yb:j=0\/j=1\/j=2:=⋯
  rcases Rk with rfl | rfl | rfl <;>rcases Yb with rfl | rfl | rfl <;>decide
 refine⟨?_,?_,by rw[ei];exact II nd Lk.1 (by rw[h];exact Lk.2),λx hx=>?_,λx hx=>?_⟩
 ·rw[e,aat,aaw,aaD,List.length_drop,aaj,aaO];lia
 ·rw[ei];exact abt.mpr ⟨0,by simp,rfl⟩
 ·have:x.1∈cs.map (·.1):=abt.mpr ⟨x,hx,rfl⟩;rw[ei] at this;obtain⟨i,hi,ex⟩:=abt.mp this;rw[<-ex];exact Mr _ (Eh (by rw[h];exact Lk.2 i hi))
 ·rw[e] at hx;have g:∀x∈((List.range m).map λk:Nat=>((dI ns (1+k),1+bX (c+7+ (k:Int)) mo):Str×Int)),0<=x.2/\x.2<=1000:=λx hx=>by
   obtain⟨k,_,rfl⟩:=abt.mp hx;have b0:=cH (c:=c+7+ (k:Int)) (m:=mo) ⋯;have b1:=cR (c:=c+7+ (k:Int)) (m:=mo) ⋯;show 0<=1+bX _ _/\1+bX _ _<=1000;lia
  rcases List.mem_append.mp hx with hx | hx
  ·exact g x (List.mem_of_mem_take hx)
  ·rcases aaX.mp hx with rfl | hx
   ·show 0<=tu/\tu<=1000;lia
   ·exact g x (List.mem_of_mem_drop hx)
theorem Ll (T:0|||0):(4<<<"_law_game") ["_law_script","_law_at","_law_turns","_law_most"] (IA K):=by
 have aO:=nh T;have b9:=oU T;have ix:=D9 T;have uM:=Lf T;have wV:=Lh T;refine T.vT.dE (λ_ _ _ _ _ _=>uk λ_ _ _ _=>rfl) λf fd F=>F.d4 lR (λvs H Q E h=>?_) (λbR A outer s H vs Q E hr h=>?_)
 ·obtain⟨_,_,_,_,rfl,_⟩:=Dg h;rfl
 ·symm;obtain⟨sc,at_,tu,mo,rfl,Lm,hS,aad,aae,X8,X9,UD,X7,kk⟩:=Dg h;nofun;clear G_;have nd:=lR.nd;refine⟨_,(ag (aK (i:=4) (aN b9 (aa (pv 0) (aa (pv 1) af))))
  (ag (aK (i:=5) (aN ix (aa (pv 4) (aa ae af))))
  (ag (aK (i:=6) (aJ aS ae (aN aO (aa (aJ aS (pv 4) ae) (aa ae af)))))
  (ag (aK (i:=7) (av a6 (pv 5) ae))
  (ag (kX (i:=8) rfl nd rfl rfl (N:=["_law_script","_law_at","_law_turns","_law_most","_law_cell_here","_law_names","_law_acts","_law_clock","_law_counts","_law_asks","_law_places","_law_k","_law_inner","_law_what_here","_law_final"]) (so:=au (top 61)) (N':=["_law_k","_law_most","_law_cell_here","_law_names"]) (k:=1) (fr:=[3,4,5]) rfl rfl ⟨rfl,∅,∅,∅,rfl,∅,∅⟩ (cJ rfl T.z_range (aa (aN aO (aa (aJ aS (pv 4) ae) (aa ae af))) af)) (λ_ _ _ _ _=>(a5 (i:=0) (show(["_law_k","_law_most","_law_cell_here","_law_names"]:List Str).Nodup by ac_rfl) rfl (.inl rfl))) (λ_ _ _ _ _=>cV)
   (λ_ _ _ _ _=>(a9 (aa (av a6 (pv 3) (aJ aS ae (pv 0))) (aa (aJ aS ae (aN aO (aa (aJ aS (aJ aS (pv 2) ae) (pv 0)) (aa (pv 1) af)))) af)))))
  (ag (bU (fe aaR PySem.F.slot_list_insert PySem.F.type_list_insert sy.r (pv 8) (aa (aN aO (aa (aJ aS (pv 4) ae) (aa (aJ aS (aY bF (by rfl) T.z_len aaA (aa (pv 8) af)) ae) af))) (aa (a9 (aa (pv 7) (aa (pv 2) af))) af))))
  (ag (aK (i:=9) (cL (cM (K:=K)) (pv 5) (cN ae) (cN (aJ aS ae (pv 6)))))
  (ag (kX (i:=10) rfl nd rfl rfl (N:=["_law_script","_law_at","_law_turns","_law_most","_law_cell_here","_law_names","_law_acts","_law_clock","_law_counts","_law_asks","_law_places","_law_k","_law_inner","_law_what_here","_law_final"]) (so:=au (top 61)) (N':=["_law_k","_law_turns","_law_names","_law_clock","_law_asks"]) (k:=1) (fr:=[2,5,7,9]) rfl rfl ⟨rfl,∅,∅,∅,rfl,∅,∅⟩ (cJ rfl T.z_range (aa (pv 6) af)) (λ_ _ _ _ _=>(a5 (i:=0) (show(["_law_k","_law_turns","_law_names","_law_clock","_law_asks"]:List Str).Nodup by ac_rfl) rfl (.inl rfl))) (λ_ _ _ _ _=>cV)
   (λ_ _ _ _ _=>(a9 (aa (av a6 (pv 4) (pv 0)) (aa (a9 (aa aZ (aa (pv 3) (aa (pv 1) (aa (av a6 (pv 2) ae) (aa (av a6 (pv 2) (aJ aS ae (pv 0))) af)))))) af)))))
  (ag (b6 PassesOwn.never rfl (cJ rfl T.z_range (aa (pv 6) af)) (a5 (i:=11) nd rfl (.inl rfl)) (ag (aK (i:=12) (aN b9 (aa (pv 0) (aa (aJ aS (aJ aS (pv 1) ae) (pv 11)) af))))
  (ag (aK (i:=13) (aN wV (aa (pv 12) (aa (pv 8) (aa (pv 7) (aa (pv 9) af))))))
  (ag (bc (aL bq (aN aO (aa (aJ aS (pv 12) ae) (aa ae af))) ae (aR _)) (aq (aK (i:=13) (aN uM (aa (pv 12) (aa (pv 8) (aa (pv 7) (aa (pv 9) af)))))))
   aX)
  (aq (bU (fe aaR abb abc dO.r (pv 10) (aa (a9 (aa (av a6 (pv 5) (aJ aS ae (pv 11))) (aa (pv 13) af))) af))))))))
  (ag (aK (i:=14) (a9 (aa aZ (aa (av ao (av a6 (pv 8) (aN aO (aa (aJ aS (pv 4) ae) (aa (aY bF (by rfl) T.z_len aaA (aa (pv 8) af)) af)))) ae) af))))
  (ag (bc (aL bq (aN aO (aa (aJ aS (pv 4) ae) (aa ae af))) ae (aR _)) (aq (aK (i:=14) (a9 (aa aZ (aa (a9 (aa (aJ ia (aN aO (aa (aJ aS (pv 4) ae) (aa ae af))) ae) (aa ae af))) af)))))
   aX)
  (ag (bU (fe aaR abb abc dO.r (pv 10) (aa (a9 (aa (av a6 (pv 5) ae) (aa (pv 14) af))) af)))
  (aq (aQ (a9 (aa (pv 8) (aa (pv 10) af))))))))))))))))),?_⟩
  refine(?_:let bO:TS:=_;let bP:TS:=_;let bQ:TS:=_;let cO:TS:=_;let lH:TS:=_;let sI:TS:=_;let zS:TS:=_;let Eb:TS:=_;let Ec:TS:=_;let Ed:TS:=_;let qv:TS:=_;let Ej:TS:=_;let Ek:TS:=_;tSeq bO (tSeq bP (tSeq bQ (tSeq cO (tSeq lH (tSeq sI (tSeq zS (tSeq Eb (tSeq Ec (tSeq Ed (tSeq qv (tSeq Ej Ek))))))))))) _ _ _);intro bO bP bQ cO lH sI zS Eb Ec Ed qv Ej Ek;have sl:=sizeLine_eq;refine aP (λN=>∀c:Int,N [~~~sc,at_⁻¹,tu⁻¹,mo⁻¹,c⁻¹,none,none,none,none,none,none,none,none,none,none] H) (λN hN=>?_) ?_
  ·dsimp?[GC];exact⟨Lm,hS,⋯,⋯,λn=>hN n⟩
  rintro c;refine aP (λN=>∀H1 nl ns,aB H H1->H1 nl=some (.lst (List.map V.str ns))->ns.length=12->ns.Nodup->(∀w∈ns,BC w)->N [~~~sc,at_⁻¹,tu⁻¹,mo⁻¹,c⁻¹,~~~nl,none,none,none,none,none,none,none,none,none] H1) (λN hN=>?_) ?_
  ·dsimp?[D2];exact⟨∅,∅,λl H1 ws s1 nl hl l4 IH OH _=>hN _ l ws s1 hl l4 IH OH⟩
  rintro H1 nl ns s1 Ms RJ Yc Mr;have na:∀(i:Nat),i<12->mv (List.map V.str ns) (i:Int)=some (.str (dI ns i)):=λi hi=>bM (by rw[aal,aao ⋯];show some (V.str _)=some (V.str (ns.getD i default));rw[aaV,aao ⋯];rfl);have m6:=cH (c:=c+6) (m:=3) ∅;have m7:=cR (c:=c+6) (m:=3) ∅;obtain⟨a,ea⟩:∃a:Nat,1+bX (c+6) 3=(a:Int):=⟨(1+bX (c+6) 3).toNat,⋯⟩
  refine aP (λN=>N [~~~sc,at_⁻¹,tu⁻¹,mo⁻¹,c⁻¹,~~~nl,some (.int (a:Int)),none,none,none,none,none,none,none,none] H1) (λN hN=>?_) ?_
  ·dsimp?[b8];rw[ea];exact⟨∅,hN⟩
  refine aP (λN=>N [~~~sc,at_⁻¹,tu⁻¹,mo⁻¹,c⁻¹,~~~nl,some (.int (a:Int)),some (.str (dI ns 0)),none,none,none,none,none,none,none] H1) (λN hN=>?_) ?_
  ·dsimp?[Ms];exact⟨_,na 0 ∅,hN⟩
  have m9:=cH (c:=c+9) (m:=3) ∅;have m10:=cR (c:=c+9) (m:=3) ∅;obtain⟨m,em⟩:∃m:Nat,bX (c+9) 3=(m:Int):=⟨(bX (c+9) 3).toNat,⋯⟩
  refine aP (λN=>∀H2 cl ys,aB H1 H2->H1 cl=none->H2 cl=some (.lst ys)->bg (df H2 cl) (((List.range m).map λk:Nat=>((dI ns (1+k),1+bX (c+7+ (k:Int)) mo):Str×Int)).map λc=>Dat.tup [.str c.1,.int c.2]) ys->N [~~~sc,at_⁻¹,tu⁻¹,mo⁻¹,c⁻¹,~~~nl,some (.int (a:Int)),some (.str (dI ns 0)),~~~cl,none,none,none,none,none,none] H2) (λN hN=>?_) ?_
  ·dsimp?[b8];rw[em];refine⟨∅,⋯,⋯,?_⟩
   try rw[aaF]
   refine comp_map src_range (λ_ _ _ _ h=>by rw[h.1];exact aB.refl _) ⋯ (λi y H2=>∃q,y=.ref q/\H2 q=some (.tup [.str (dI ns (1+i)),.int (1+bX (c+7+ (i:Int)) mo)])) (λi y H2 H3 s3 h=>by obtain⟨q,e,hq⟩:=h;exact⟨q,e,s3 _ _ hq⟩) ?_ ?_
   ·rintro i x w0 H2 H3 Q2 hi s2 ⟨rfl,rfl⟩ kq;dsimp?[aa3,b8,s2 _ _ Ms];refine⟨_,by have:=na (1+i) ⋯;rwa [Int.natCast_add] at this,⋯,⋯,λp H4 s4 np ep=>kq _ _ s4 ⟨p,rfl,ep⟩⟩
   ·intro ys H2 s2 ly hy D n1 n2;refine hN _ D ys (s2.trans (aj n2)) n1 ai (bg.of (by rw[aaj,aaj,aaO,ly]) λi dd v e1 e2=>?_);rw[aal,aal] at e1;symm;obtain⟨x,ex,rfl⟩:=abq.mp e1;obtain⟨k,ek,rfl⟩:=abq.mp ex;nofun;obtain⟨h1,h2⟩:=abr.mp ek;rw[List.getElem_range] at h2;subst h2;symm;obtain⟨q,rfl,hq⟩:=hy i v e2;nofun;have qD:q≠D:=λz=>by rw[z,n2] at hq;cases hq
    exact bI.mpr ⟨q,_,_,rfl,by rw[cQ qD,aD qD];exact hq,aT.mpr rfl,bD.mpr rfl⟩
  rintro H2 cl ys s2 ncl eN RO;generalize Yd:((List.range m).map λk:Nat=>((dI ns (1+k),1+bX (c+7+ (k:Int)) mo):Str×Int))=os at *;have yl:ys.length=m:=by have:=RO.length;rw[aaj,<-Yd,aaj,aaO] at this;lia
  refine aP (λN=>∀(H3:Hp) (cs:List (Str×Int)) (j:Nat),j<=m->cs=os.take j++ (dI ns 0,tu)::os.drop j->aB H1 H3->Rep H3 (Ru cs) (.ref cl)->N [~~~sc,at_⁻¹,tu⁻¹,mo⁻¹,c⁻¹,~~~nl,some (.int (a:Int)),some (.str (dI ns 0)),~~~cl,none,none,none,none,none,none] H3) (λN hN=>?_) ?_
  ·dsimp?[b8,Kf,eN];have b0:=cH (c:=c+10) (m:=(ys.length:Int)+1) ⋯;have b1:=cR (c:=c+10) (m:=(ys.length:Int)+1) ⋯;generalize bX (c+10) ((ys.length:Int)+1)=b at *;obtain⟨j,rfl⟩:∃k:Nat,b=(k:Int):=⟨b.toNat,⋯⟩
   try rw[aaF]
   refine⟨.inl ⟨rfl,_,bw.of eN⟩,⋯,⋯,λp H3 s3 np ep=>⟨ys,s3 _ _ eN,⋯,⋯,⋯,hN _ _ j ⋯ rfl (cF (s2.trans s3) ncl) ?_⟩⟩;have pcl:p≠cl:=λz=>by rw[z,eN] at np;cases np
   refine ba.mpr ⟨cl,_,rfl,ai,?_⟩;rw[aaq,aak,aa5,List.map_drop];refine qu (bI.mpr ⟨p,_,_,rfl,by rw[aD pcl];exact ep,aT.mpr rfl,bD.mpr rfl⟩) j (RO.mono λq o h=>?_);have Ye:q≠cl:=λz=>by unfold df at h;rw[if_pos z] at h;cases h
   rw[cQ Ye] at h;rw[aD Ye];exact s3 _ _ h
  rintro H3 cs j jm ecs s3 RP;have lM:=s1.trans s3;refine aP (λN=>∀H4 gl,aB H3 H4->H4 gl=some (.lst (((List.range a).map λk=>dI ns (3+k)).map V.str))->N [~~~sc,at_⁻¹,tu⁻¹,mo⁻¹,c⁻¹,~~~nl,some (.int (a:Int)),some (.str (dI ns 0)),~~~cl,~~~gl,none,none,none,none,none] H4) (λN hN=>?_) ?_
  ·dsimp?[];refine⟨_,bw.of (s3 _ _ Ms),λgl ngl=>hN _ gl (aj ngl) ?_⟩;rw[ai,Bm RJ ⋯ ⋯]
  rintro H4 gl s4 GH;have RQ:=s3.trans s4;have GI:=s1.trans RQ;generalize OK:((List.range a).map λk=>dI ns (3+k))=gs at *;have gl1:gs.length=a:=by rw[<-OK,aaj,aaO]
  obtain⟨Ln,GK,Lo,OL,UQ⟩:=OJ (cs:=cs) (c:=c) (mo:=mo) RJ Yc Mr (show m<=2 by lia) jm UD X7 X8 X9 (by rw[Yd];exact ecs);refine aP (λN=>∀H5 pl ys,aB H4 H5->H4 pl=none->H5 pl=some (.lst ys)->cS (upd H4 pl (.lst [])) H5 ((gK ns a tu).map λp=>Dat.tup [.str p.1,jI p.2]) ys->N [~~~sc,at_⁻¹,tu⁻¹,mo⁻¹,c⁻¹,~~~nl,some (.int (a:Int)),some (.str (dI ns 0)),~~~cl,~~~gl,~~~pl,none,none,none,none] H5) (λN hN=>?_) ?_
  ·dsimp?[];refine⟨⋯,⋯,?_⟩
   try rw[aaF]
   refine comp_map src_range (λ_ _ _ _ h=>by rw[h.1];exact aB.refl _) ⋯ (λi y H2=>∃q t,y=.ref q/\H2 q=some (.tup [.str (dI ns (3+i)),.ref t])/\H2 t=some (.tup [.str "ask",.str (dI ns 0),.int tu,.str (dI ns 11),.str (dI ns (6+i))])) (λi y H2 H3 s3 h=>by obtain⟨q,t,e,hq,ht⟩:=h;exact⟨q,t,e,s3 _ _ hq,s3 _ _ ht⟩) ?_ ?_
   ·rintro i x w0 H5 H6 Q2 hi s5 ⟨rfl,rfl⟩ kq;dsimp?[aa3,(RQ.trans s5) _ _ Ms,s5 _ _ GH];refine⟨.str (dI ns (3+i)),bM ?_,_,na 11 ∅,_,by have:=na (6+i) ⋯;rwa [Int.natCast_add] at this,⋯,λt H7 s7 nt et=>⟨⋯,λq H8 s8 nq eq=>kq _ _ (s7.trans s8) ⟨q,t,rfl,eq,s8 _ _ et⟩⟩⟩;rw[<-OK,aal,aal,List.getElem?_range ⋯];rfl
   ·intro ys H5 s5 ly hy D n1 n2;have sD:=aj (o:=.lst ys) n2;refine hN _ D ys (s5.trans sD) n1 ai (bg.of (by unfold gK;rw[aaj,aaj,aaO,ly]) λi dd v e1 e2=>?_);unfold gK at e1;rw[aal,aal] at e1;symm;obtain⟨x,ex,rfl⟩:=abq.mp e1;obtain⟨k,ek,rfl⟩:=abq.mp ex;nofun;obtain⟨h1,h2⟩:=abr.mp ek;rw[List.getElem_range] at h2;subst h2;symm;obtain⟨q,t,rfl,hq,ht⟩:=hy i v e2;nofun;have li:dS (upd H4 D (.lst [])) (upd H5 D (.lst ys)):=λb zs e=>by
     by_cases z:b=D
     ·subst z;exact⟨_,ai⟩
     ·rw[aD z] at e;exact⟨_,sD _ _ (s5 _ _ e)⟩
    exact wM li (sD _ _ hq) bV (qr li (sD _ _ ht) (bY bV (bY bV (bY dX (bY bV (bY bV gj))))))
  rintro H5 pl ys s5 EV hpl RO;have s05:=GI.trans s5;have aaf:H pl=none:=none_of GI EV;refine aP (λN=>∀(H6:Hp) (W:List Wt) (ys:List V),aB H4 H6->H6 pl=some (.lst ys)->W.length=a->(∀x∈W,lD cs x/\jC cs gs x)->cS (upd H4 pl (.lst [])) H6 ((gK ns a tu++fA ns W).map λp=>Dat.tup [.str p.1,jI p.2]) ys->∀wU u6 GL,N [~~~sc,at_⁻¹,tu⁻¹,mo⁻¹,c⁻¹,~~~nl,some (.int (a:Int)),some (.str (dI ns 0)),~~~cl,~~~gl,~~~pl,wU,u6,GL,none] H6) (λN hN=>?_) ?_
  ·dsimp?[];refine⟨⋯,⋯,?_⟩
   try rw[aaF]
   refine bN (src_range (Ok:=λ_=>True)) (λi σ H6=>aB H4 H6/\∃(W:List Wt) (ys:List V),H6 pl=some (.lst ys)/\W.length=i/\(∀x∈W,lD cs x/\jC cs gs x)/\cS (upd H4 pl (.lst [])) H6 ((gK ns a tu++fA ns W).map λp=>Dat.tup [.str p.1,jI p.2]) ys/\∃wU u6 GL,σ=[~~~sc,at_⁻¹,tu⁻¹,mo⁻¹,c⁻¹,~~~nl,some (.int (a:Int)),some (.str (dI ns 0)),~~~cl,~~~gl,~~~pl,wU,u6,GL,none]) ⟨s5,[],ys,hpl,rfl,(λx hx=>by cases hx),by rw[show fA ns []=[] from rfl,aa0];exact RO,_,_,_,rfl⟩ (λ_ _ _ _ _=>trivial) ?_ ?_
   ·intro i x σ H6 H7 hi fm fo;symm;obtain⟨s6,W,ys,hy,lW,IJ,ry,wU,u6,GL,rfl⟩:=fm;obtain⟨rfl,rfl⟩:=fo;nofun;have GJ:=GI.trans s6;have yl2:ys.length=a+i:=by
     have:=bg.length ry;rw[aaj,aat] at this;unfold gK fA at this;rw[aaj,aaO,List.length_mapIdx] at this;lia
    simp only[gName,aaQ,aaP,aa3];refine aP (λN=>∀n:Int,N [~~~sc,at_⁻¹,tu⁻¹,mo⁻¹,c⁻¹,~~~nl,some (.int (a:Int)),some (.str (dI ns 0)),~~~cl,~~~gl,~~~pl,some (.int (i:Int)),n⁻¹,GL,none] H7) (λN hN=>?_) ?_
    ·dsimp?[GC];exact⟨Lm,GJ.seq hS,⋯,⋯,λn=>hN n⟩
    rintro n;have UR:dS (upd H4 pl (.lst [])) H7:=λb zs e=>by
     by_cases z:b=pl
     ·subst z;exact⟨_,hy⟩
     ·rw[aD z] at e;exact⟨_,s6 _ _ e⟩
    let WO:Hp->V->Prop:=λH8 v=>∃x,dM (upd H4 pl (.lst [])) H8 (jI x) v/\lD cs x/\jC cs gs x;refine aP (λN=>∀H8 v,aB H7 H8->WO H8 v->N [~~~sc,at_⁻¹,tu⁻¹,mo⁻¹,c⁻¹,~~~nl,some (.int (a:Int)),some (.str (dI ns 0)),~~~cl,~~~gl,~~~pl,some (.int (i:Int)),n⁻¹,some v,none] H8) (λN hN=>?_) ?_
    ·dsimp?[zZ];exact⟨cs,RP.mono (s4.trans s6),Ln,GK,Lo,OL,gs,s6 _ _ GH,⋯,⋯,λu H8 x s8 r8 g8 w8=>hN _ u s8 ⟨x,r8.low UR,g8,w8⟩⟩
    rintro H8 v8 s8 wo8;refine aP (λN=>∀H8 v,aB H7 H8->WO H8 v->N [~~~sc,at_⁻¹,tu⁻¹,mo⁻¹,c⁻¹,~~~nl,some (.int (a:Int)),some (.str (dI ns 0)),~~~cl,~~~gl,~~~pl,some (.int (i:Int)),n⁻¹,some v,none] H8) (λN hN=>?_) ?_
    ·dsimp?[b8,zZ];have Lp:=s6.trans s8;exact⟨∅,eI (λ_=>⟨cs,RP.mono (s4.trans Lp),Ln,GK,Lo,OL,gs,Lp _ _ GH,⋯,⋯,λu H9 x s9 r9 g9 w9=>hN _ u (s8.trans s9) ⟨x,r9.low (UR.trans s8),g9,w9⟩⟩) (λ_=>hN _ _ s8 wo8)⟩
    intro H9 v9 s9 Gn;symm;obtain⟨x,rx,gx,wx⟩:=Gn;nofun;have Yg:=s6.trans s9;dsimp?[eY];refine⟨.inl ⟨rfl,_,bw.of (s9 _ _ hy)⟩,_,(RQ.trans Yg) _ _ Ms,_,by have:=na (6+i) ⋯;rwa [Int.natCast_add] at this,⋯,λp zQ qG np ep=>⟨ys,(s9.trans qG) _ _ hy,⋯,cF (Yg.trans qG) EV,W++ [x],_,ai,by rw[aat,lW];rfl,λy OM=>?_,?_,_,rfl⟩⟩
    ·rcases List.mem_append.mp OM with OM | OM
     ·exact IJ y OM
     ·rw[abu.mp OM];exact⟨gx,wx⟩
    ·show bg (ir _ (upd _ _ _)) _ _;rw[i4 (ys:=[]) ai,Ei,<-List.append_assoc,aaq,lW];exact oQ (wM (UR.trans (s9.trans qG)) ep bV (rx.mono qG)) (ry.mono (s9.trans qG))
   ·intro σ H6 du;symm;obtain⟨s6,W,ys,hy,lW,IJ,ry,wU,u6,GL,rfl⟩:=du;nofun;exact hN _ W ys s6 hy lW IJ ry _ _ _
  rintro H6 W ys s6 hy lW IJ ry wU u6 GL;have GJ:=GI.trans s6;have yl2:ys.length=a+a:=by
   have:=bg.length ry;rw[aaj,aat] at this;unfold gK fA at this;rw[aaj,aaO,List.length_mapIdx] at this;lia
  have US:dS (upd H4 pl (.lst [])) H6:=λb zs e=>by
   by_cases z:b=pl
   ·subst z;exact⟨_,hy⟩
   ·rw[aD z] at e;exact⟨_,s6 _ _ e⟩
  let WO:Hp->V->Prop:=λH8 v=>∃x,dM (upd H4 pl (.lst [])) H8 (jI x) v/\lD cs x/\jC cs gs x;refine aP (λN=>∀H7 v,aB H6 H7->WO H7 v->N [~~~sc,at_⁻¹,tu⁻¹,mo⁻¹,c⁻¹,~~~nl,some (.int (a:Int)),some (.str (dI ns 0)),~~~cl,~~~gl,~~~pl,wU,u6,GL,some v] H7) (λN hN=>?_) ?_
  ·symm;obtain⟨xh,uB,e0,UT,oM⟩:=ba.mp (show Rep H3 (.lst _) (.ref cl) from RP);nofun;clear G_;cases e0;have rK:=oM.length;rw[aaj] at rK;have c0:0<cs.length:=by
    cases cs with
    | nil=>simp at GK
    | cons _ _=>exact Nat.zero_lt_succ _
   have b0:=cH (c:=c+12) (m:=(uB.length:Int)) ⋯;have b1:=cR (c:=c+12) (m:=(uB.length:Int)) ⋯;have h36:=s4.trans s6;dsimp?[b8,h36 _ _ UT];generalize bX (c+12) (uB.length:Int)=b at *;obtain⟨k,rfl⟩:∃k:Nat,b=(k:Int):=⟨b.toNat,⋯⟩
   have hk:k<cs.length:=⋯
   obtain⟨v,ev,rv⟩:=oM.at (i:=k) (by rw[aal,aao hk];rfl);symm;obtain⟨q,x1,x2,rfl,hq,r1,r2⟩:=bI.mp (show Rep H3 (.tup _) v from rv);obtain rfl:=aT.mp r1;nofun;have Cw:(cs[k]).1∈cs.map (·.1):=abt.mpr ⟨_,aaH hk,rfl⟩;exact⟨⋯,_,bM ev,q,rfl,_,h36 _ _ hq,_,at0,⋯,λp H7 s7 np ep=>hN _ _ s7 ⟨.score (cs[k]).1,wM (US.trans s7) ep bV bV,Cw,Cw⟩⟩
  rintro H7 v7 s7 wo7;refine aP (λN=>∀H7 v,aB H6 H7->WO H7 v->N [~~~sc,at_⁻¹,tu⁻¹,mo⁻¹,c⁻¹,~~~nl,some (.int (a:Int)),some (.str (dI ns 0)),~~~cl,~~~gl,~~~pl,wU,u6,GL,some v] H7) (λN hN=>?_) ?_
  ·have b0:=cH (c:=c+14) (m:=19) ∅;have b1:=cR (c:=c+14) (m:=19) ∅;dsimp?[b8];refine⟨∅,eI (λ_=>⟨∅,⋯,λp H8 s8 np ep=>⟨⋯,λp1 H9 s9 Mp Lg=>hN _ _ (s7.trans (s8.trans s9)) ⟨.fin (bX (c+14) 19 - 9) 1,?_,trivial,rfl,⋯,⋯⟩⟩⟩) (λ_=>hN _ _ s7 wo7)⟩;have l9:=US.trans (s7.trans (s8.trans s9));exact wM l9 Lg bV (wM l9 (s9 _ _ ep) dX dX)
  intro H8 v8 s8 Gn;symm;obtain⟨fw,rfw,gfw,wfw⟩:=Gn;nofun;have gp:=Lj (a:=a) (tu:=tu) RJ Yc Mr ⋯ ⋯ lW Ln GK Lo UQ (by rw[OK];exact IJ) gfw (by rw[OK];exact wfw);rw[OK] at gp;dsimp?[eY];have Yh:=s6.trans s8;refine⟨.inl ⟨rfl,_,bw.of (s8 _ _ hy)⟩,_,(RQ.trans Yh) _ _ Ms,_,na 11 ∅,⋯,λp H9 s9 np ep=>⟨ys,(s8.trans s9) _ _ hy,⋯,⋯,λp1 zQ qG Mp Lg=>?_⟩⟩;have Yi:aB H4 (upd H9 pl (.lst (ys++ [.ref p]))):=cF (Yh.trans s9) EV;refine kk (.ref p1) zQ _ gs (GI.trans (Yi.trans qG)) (bI.mpr ⟨p1,_,_,rfl,Lg,RP.mono (s4.trans (Yi.trans qG)),?_⟩) gp;refine Rep.mono qG (ba.mpr ⟨pl,_,rfl,ai,?_⟩);show bg _ (List.map (λp=>Dat.tup [.str p.1,jI p.2]) (gK ns a tu++fA ns W++ [(dI ns 11,fw)])) _;have rr:cS (upd H4 pl (.lst [])) (upd H9 pl (.lst (ys++ [.ref p]))) ((gK ns a tu++fA ns W++ [(dI ns 11,fw)]).map λp=>Dat.tup [.str p.1,jI p.2]) (ys++ [.ref p]):=by
   show bg (ir _ (upd _ _ _)) _ _;rw[i4 (ys:=[]) ai,aaq];exact oQ (wM (US.trans (s8.trans s9)) ep bV (rfw.mono s9)) (ry.mono (s8.trans s9))
  exact rr.rep
theorem i7:aV ["_law_pool","_law_low_here","_law_high","_law_part"] ["_law_pool"] (au (top 62)):=.mk
theorem Lq (T:0|||0):(1<<<"_law_values") ["_law_pool"] IB:=by
 refine T.qZ.dE (λ_ _ _ _ _ _=>gq λ_=>rfl) λf fd F=>F.d4 i7 (λvs H Q E h=>?_) (λbR A outer s H vs Q E hr h=>?_)
 ·obtain⟨_,rfl,_⟩:=HR h;rfl
 ·symm;obtain⟨v,rfl,ps,rv,gl,kk⟩:=HR h;nofun;have nd:=i7.nd;refine⟨_,(ag (aK (i:=1) ae)
  (ag (aK (i:=2) ae)
  (ag (b6 PassesOwn.never rfl (bh (K:=K) (pv 0)) (a5 (i:=3) nd rfl (.inl rfl)) (aq (bc (aL bq (av ao (pv 3) ae) aZ (aR _)) (ag (aK (i:=1) (aJ aS (pv 1) (av ao (pv 3) ae)))
  (aq (aK (i:=2) (aJ aS (pv 2) (av ao (pv 3) ae)))))
   (ag (aK (i:=1) (aJ aS (pv 1) (av ao (pv 3) ae)))
  (aq (aK (i:=2) (aJ aS (pv 2) (aJ bj (av ao (pv 3) ae) (av ao (pv 3) ae)))))))))
  (aq (aQ (qQ rfl rfl T.z_list rfl T.z_range (aa (pv 1) (aa (aJ aS (pv 2) ae) af)))))))),?_⟩
  refine(?_:let bO:TS:=_;let bP:TS:=_;let bQ:TS:=_;let cO:TS:=_;tSeq bO (tSeq bP (tSeq bQ cO)) _ _ _);intro bO bP bQ cO;have sl:=sizeLine_eq;symm;obtain⟨a,rfl,xs,ha,ap⟩:=zO rv;nofun;have xl:=ap.length;dsimp?[];refine⟨⟨_,bw.of ha⟩,bN (src_list (Ok:=λH'=>H=H') (λH' e=>by subst e;exact bw.of ha)) (λi σ H'=>H=H'/\∃z,σ=[~~~a,some (.int (uZ (ps.take i))),some (.int (u4 (ps.take i))),z]) ⟨rfl,_,rfl⟩ (λ_ _ _ _ h=>h.1) ?_ ?_⟩
  ·intro i x σ H' nO hi fm fo;symm;obtain⟨rfl,z,rfl⟩:=fm;obtain⟨rfl,ex⟩:=fo;obtain⟨p,ep,q,rfl,hq⟩:=ap.get ex;nofun;obtain⟨DB,xo⟩:=abr.mp ep;obtain⟨gp,_⟩:=wc gl;have gp:=gp p (aay ep);rw[take_snoc DB,xo,uF,uG];simp only[gName,aaQ,aaP];cases p with
   | num m=>
    simp only[rD] at hq;refine dJ (λY N k=>by dsimp?[hq];exact k) ?_;dsimp?[hq];exact⟨_,rfl⟩
   | cU k s=>
    simp only[rD] at hq;refine cG (λY N k=>by dsimp?[hq];rw[if_neg ∅];exact k) ?_;dsimp?[hq];have gp:1<=s/\s<=20/\k<=6:=gp;exact⟨bE ⋯ ⋯,_,rfl⟩
  ·intro σ H' du;symm;obtain⟨rfl,z,rfl⟩:=du;nofun;rw[xl,aaz (aam _)];dsimp?[Nu];have d:∀x∈Dq,x.1<=x.1*x.2/\x.1*x.2<=100:=∅
   obtain⟨k,s,EU,e | ⟨m,hm,e⟩⟩:=lC gl
   ·subst e;have:k<=k*s/\k*s<=100:=d (k,s) EU;have d6:∀x∈Dq,x.1<=2:=∅
    have:k<=2:=d6 (k,s) EU;refine⟨k*s - k+1,?_,⋯,?_,?_,λl nl=>kk l _ (aj nl) nl ?_⟩
    ·show(k:Int)* (s:Int)+0+1=(k:Int)+0+ ((k*s - k+1:Nat):Int);rw[<-aa7];lia
    ·show -1000000<=(k:Int)+0;lia
    ·show(k:Int)+0<=1000000;lia
    ·rw[ai,gy,aaJ];rfl
   ·subst e;have:k<=k*s/\k*s<=100:=d (k,s) EU;have d6:∀x∈Dq,x.1<=2:=∅
    have:k<=2:=d6 (k,s) EU;refine⟨k*s - k+1,?_,⋯,?_,?_,λl nl=>kk l _ (aj nl) nl ?_⟩
    ·show(k:Int)* (s:Int)+ ((m:Int)+0)+1=(k:Int)+ ((m:Int)+0)+ ((k*s - k+1:Nat):Int);rw[<-aa7];lia
    ·show -1000000<=(k:Int)+ ((m:Int)+0);lia
    ·show(k:Int)+ ((m:Int)+0)<=1000000;lia
    ·rw[ai,gy,aaJ];rfl
theorem lS:aV ["_law_game_here","_law_name"] ["_law_game_here","_law_name"] (au (top 63)):=.mk
theorem qw (T:0|||0):(1<<<"_law_what") ["_law_game_here","_law_name"] nW:=by
 refine T.vU.dE (λ_ _ _ _ _ _=>dQ λ_ _=>rfl) λf fd F=>F.d4 lS (λvs H Q E h=>?_) (λbR A outer s H vs Q E hr h=>?_)
 ·obtain⟨_,_,rfl,_⟩:=NA h;rfl
 ·symm;obtain⟨gv,nm,rfl,g,rg,gg,x,lk,kk⟩:=NA h;nofun;have nd:=lS.nd;refine⟨_,(aq (aQ (av a6 (b5 rfl (N:=["_law_game_here","_law_name"]) (so:=au (top 63)) (N':=["_law_told_here","_law_what_here","_law_name"]) (k:=2) (fr:=[1]) rfl rfl ⟨rfl,∅,∅,∅,rfl,∅,∅⟩ (bh (K:=K) (av ao (pv 0) ae)) (λ_ _ _ _ _=>(e8 (K:=K) (n:=2) rfl (bK (a5 (i:=0) (show(["_law_told_here","_law_what_here","_law_name"]:List Str).Nodup by ac_rfl) rfl (.inl rfl)) (bK (a5 (i:=1) (show(["_law_told_here","_law_what_here","_law_name"]:List Str).Nodup by ac_rfl) rfl (.inl rfl)) eW)))) (λ_ _ _ _ _=>(eZ (aL bq (pv 0) (pv 2) (aR _))))
   (λ_ _ _ _ _=>(pv 1))) ae))),?_⟩
  have sl:=sizeLine_eq;symm;obtain⟨gp,cv,pv,rfl,uX,rc,rp⟩:=bI.mp (show Rep H (.tup _) gv from rg);obtain⟨pl,Bz,rfl,hpl,BA⟩:=ba.mp (show Rep H (.lst _) pv from rp);nofun;have lps:=gg.lp;have len:=BA.length;rw[aaj] at len;dsimp?[uX];refine⟨⟨_,bw.of hpl⟩,?_⟩;symm;obtain⟨us,ul,ue,ux⟩:=sP (nm:=nm) BA;obtain⟨u,r,ef,ru⟩:=ux x lk;nofun;have zl:(us.zip g.ps).length=Bz.length:=by rw[aa9];lia
  have S:Src (uU K pl) (aB H) Bz.length _:=src_list (λH' s'=>bw.of (s' _ _ hpl));rw[<-zl] at S;refine qj (K:=K) (us.zip g.ps) (λy=>if y.2.1=nm then some y.1 else none) S (λ_ _ _ _ h=>h.1) ⋯ ?_ ?_
  ·rintro i ⟨u',p⟩ y eup ⟨_,ey⟩;obtain⟨e1,e2⟩:=List.getElem?_zip_eq_some.mp eup;symm;obtain⟨q,eq,hq⟩:=ue i p u' e2 e1;nofun;rw[eq] at ey;cases ey;refine⟨q,_,_,rfl,jD.of hq,λY N y1 y2=>?_⟩;dsimp?[]
   by_cases e:p.1=nm
   ·rw[if_pos e];exact y1 _ (if_pos e)
   ·rw[if_neg e];exact y2 (if_neg e)
  ·intro D n1 n2;rw[ef];exact⟨_,ai,u,at0,kk u _ (aj n2) ru⟩
theorem i8:aV ["_law_game_here","_law_counts","_law_name"] ["_law_game_here","_law_counts","_law_name"] (au (top 64)):=.mk
theorem yF (T:0|||0):(1<<<"_law_number") ["_law_game_here","_law_counts","_law_name"] Aa:=by
 refine T.q9.dE (λ_ _ _ _ _ _=>rC λ_ _ _=>rfl) λf fd F=>F.d4 i8 (λvs H Q E h=>?_) (λbR A outer s H vs Q E hr h=>?_)
 ·obtain⟨_,_,_,rfl,_⟩:=HS h;rfl
 ·symm;obtain⟨gv,l,nm,rfl,g,rg,gg,ns,hl,ln,hm,kk⟩:=HS h;nofun;have nd:=i8.nd;refine⟨_,(aq (aQ (av a6 (b5 rfl (N:=["_law_game_here","_law_counts","_law_name"]) (so:=au (top 64)) (N':=["_law_k","_law_game_here","_law_counts","_law_name"]) (k:=1) (fr:=[0,1,2]) rfl rfl ⟨rfl,∅,∅,∅,rfl,∅,∅⟩ (cJ rfl T.z_range (aa (aY bF (by rfl) T.z_len aaA (aa (pv 1) af)) af)) (λ_ _ _ _ _=>(a5 (i:=0) (show(["_law_k","_law_game_here","_law_counts","_law_name"]:List Str).Nodup by ac_rfl) rfl (.inl rfl))) (λ_ _ _ _ _=>(eZ (aL bq (av ao (av a6 (av ao (pv 1) ae) (pv 0)) ae) (pv 3) (aR _))))
   (λ_ _ _ _ _=>(av a6 (pv 2) (pv 0)))) ae))),?_⟩
  have sl:=sizeLine_eq;symm;obtain⟨gp,cv,pv,rfl,uX,rc,rp⟩:=bI.mp (show Rep H (.tup _) gv from rg);obtain⟨cl,uB,rfl,eN,oM⟩:=ba.mp (show Rep H (.lst _) cv from rc);nofun;have lcs:=gg.lc;have len:=oM.length;rw[aaj] at len;dsimp?[uX,hl];rw[aaj];refine⟨⋯,⋯,?_⟩;rw[aaF];obtain⟨r,ef⟩:=wN ln hm;have zl:(g.cs.zip ns).length=ns.length:=by rw[aa9];lia
  rw[<-zl];refine mF (g.cs.zip ns) (λy=>if y.1.1=nm then some y.2 else none) src_range (λ_ _ _ _ h=>h.1) ⋯ ?_ ?_
  ·rintro i ⟨c,n⟩ y ecn ⟨_,rfl⟩ Y N y1 y2;obtain⟨e1,e2⟩:=List.getElem?_zip_eq_some.mp ecn;obtain⟨cv,ev,UU⟩:=oM.at (i:=i) (by rw[aal,e1];rfl);symm;obtain⟨cq,b1,b2,rfl,GF,q1,q2⟩:=bI.mp (show Rep _ (.tup _) cv from UU);obtain rfl:=aT.mp q1;nofun;dsimp?[aa3,uX,eN,hl];refine⟨_,bM ev,_,rfl,_,GF,_,at0,rfl,?_⟩
   by_cases e:c.1=nm
   ·rw[if_pos (congrArg V.str e)];refine⟨_,e9 (abr.mp e2).1,?_⟩;rw[aaV,e2];exact y1 _ (if_pos e)
   ·rw[if_neg (λz=>e (by injection z))];exact y2 (if_neg e)
  ·intro D n1 n2;rw[ef];exact⟨_,ai,_,at0,kk _ (aj n2)⟩
theorem iE:aV ["_law_game_here","_law_name","_law_counts","_law_what_here"] ["_law_game_here","_law_name","_law_counts"] (au (top 65)):=.mk
set_option tactic.hygienic true in
theorem yG (T:0|||0):(2<<<"_law_arrived") ["_law_game_here","_law_name","_law_counts"] wO:=by
 have cI:=qw T;have eA:=yF T;refine T.pU.dE (λ_ _ _ _ _ _=>rC λ_ _ _=>rfl) λf fd F=>F.d4 iE (λvs H Q E h=>?_) (λbR A outer s H vs Q E hr h=>?_)
 ·obtain⟨_,_,_,rfl,_⟩:=HV h;rfl
 ·symm;obtain⟨gv,nm,l,rfl,g,rg,gg,ns,hl,ln,fu,Mt,ak,kk⟩:=HV h;nofun;have nd:=iE.nd;refine⟨_,(ag (aK (i:=3) (aN cI (aa (pv 0) (aa (pv 1) af))))
  (ag (kI PassesOwn.never (aL bq (av ao (pv 3) ae) aZ (aR _)) (ag (aK (i:=1) (av ao (pv 3) (aJ aS ae (cX xY (by rfl) T.z_int rfl (aa (eX vf (aN eA (aa (pv 0) (aa (pv 2) (aa (av ao (pv 3) ae) af)))) (av ao (pv 3) ae) (aR _)) af)))))
  (aq (aK (i:=3) (aN cI (aa (pv 0) (aa (pv 1) af)))))))
  (aq (aQ (a9 (aa (pv 1) (aa (cX (d7 (K:=K)) (by rfl) T.z_list rfl (aa (pv 2) af)) af))))))),?_⟩
  refine(?_:let bO:TS:=_;let bP:TS:=_;let bQ:TS:=_;tSeq bO (tSeq bP bQ) _ _ _);intro bO bP bQ;have sl:=sizeLine_eq;have lx:∀{f nm},dW g ns f nm=some Mt->∃x,look g.ps nm=some x:=λ{f nm} ak=>by
   cases f with
   | zero=>cases ak
   | succ f=>
    unfold dW at ak;cases h:look g.ps nm with
    | none=>rw[h] at ak;cases ak
    | some x=>exact⟨x,rfl⟩
  obtain⟨x0,Ac⟩:=lx ak;refine aP (λN=>∀H1 v,aB H H1->Rep H1 (jI x0) v->N [some gv,some (.str nm),~~~l,some v] H1) (λN hN=>?_) ?_
  ·dsimp?[nW];exact⟨g,rg,gg,x0,Ac,λu H1 s1 ru=>hN _ u s1 (ru.mono s1)⟩
  rintro H1 v0 s1 Um;refine aP (λN=>∀H3 v,aB H H3->N [some gv,some (.str Mt),~~~l,some v] H3) (λN hN=>?_) ?_
  ·refine zN (λm σ H3=>aB H1 H3/\∃nm x v,dW g ns m nm=some Mt/\look g.ps nm=some x/\Rep H3 (jI x) v/\σ=[some gv,some (.str nm),~~~l,some v]) (m:=fu) ⟨aB.refl _,nm,x0,v0,ak,Ac,Um,rfl⟩ ?_;intro m σ H3 Gn;symm;obtain⟨s3,nm2,x,v,sQ,Yj,Yk,rfl⟩:=Gn;have lM:=s1.trans s3;obtain⟨m,rfl⟩:∃m',m=m'+1:=by
    cases m with
    | zero=>cases sQ
    | succ m=>exact⟨m,rfl⟩
   nofun;have sQ:=sQ;unfold dW at sQ;rw[Yj] at sQ
   by_cases ka:sM x=aai "ask"
   ·symm;obtain⟨c,k,a,b,rfl⟩:=KR ka;have hc:c∈g.cs.map (·.1):=gg.wt _ (cZ Yj);obtain⟨q,v1,v2,v3,v4,v5,rfl,hq,r1,r2,r3,r4,r5⟩:=uu.mp (show Rep H3 (.tup _) v from Yk);nofun;rw[aT.mp r1,aT.mp r2,bD.mp r3,aT.mp r4,aT.mp r5] at hq;have sQ:(if k<=ns.getD (bG g.cs c) 0 then dW g ns m a else dW g ns m b)=some Mt:=sQ;have Yl:dW g ns m (if k<=ns.getD (bG g.cs c) 0 then a else b)=some Mt:=by split <;>(rename_i h;first | rw[if_pos h] at sQ | rw[if_neg h] at sQ) <;>exact sQ
    refine⟨true,λQ hQ=>?_,?_⟩
    ·dsimp?[hq];exact hQ
    ·rw[if_pos rfl];refine aP (λN=>∀H4,aB H3 H4->N [some gv,some (.str (if k<=ns.getD (bG g.cs c) 0 then a else b)),~~~l,~~~q] H4) (λN hN=>?_) ?_
     ·dsimp?[hq,Aa];refine⟨g,rg.mono lM,gg,ns,lM _ _ hl,ln,hc,λH' s'=>⟨_,s' _ _ hq,_,at2,_,rfl,_,s' _ _ hq,.str (if k<=ns.getD (bG g.cs c) 0 then a else b),?_,hN _ s'⟩⟩
      by_cases z:k<=ns.getD (bG g.cs c) 0
      ·rw[if_pos z,if_neg ⋯];rfl
      ·rw[if_neg z,if_pos ⋯];rfl
     rintro H4 s4;have GI:=lM.trans s4;obtain⟨x1,Ym⟩:=lx Yl;dsimp?[nW];exact⟨g,rg.mono GI,gg,x1,Ym,λu H5 s5 ru=>⟨m,⋯,s3.trans (s4.trans s5),_,Yl,x1,Ym,_,ru.mono s5,rfl,rfl⟩⟩
   ·have e1:nm2=Mt:=by
     cases x with
     | ask c k a b=>exact absurd rfl ka
     | fin t b=>exact aaC sQ
     | score c=>exact aaC sQ
     | pick w rs=>exact aaC sQ
     | eC p t b rs=>exact aaC sQ
    subst e1;symm;obtain⟨q,CB,rfl,hq⟩:=nS Yk;nofun;refine⟨false,λQ hQ=>?_,?_⟩
    ·dsimp?[hq];rw[decide_eq_false ka];exact hQ
    ·rw[if_neg ∅];exact hN _ _ lM
  rintro H3 v3 s3;dsimp?[];exact⟨_,.inl (bw.of (s3 _ _ hl)),λl' UW=>⟨⋯,λp H4 s4 np e4=>kk p l' H4 (s3.trans ((aj UW).trans s4)) (none_of (s3.trans (aj UW)) np) (none_of s3 UW) e4 (s4 _ _ ai)⟩⟩
theorem lT:aV ["_law_game_here","_law_counts","_law_deeds_here","_law_thrown","_law_held","_law_caps","_law_k","_law_deed"] ["_law_game_here","_law_counts","_law_deeds_here","_law_thrown"] (au (top 66)):=.mk
theorem Lr (T:0|||0):(1<<<"_law_done") ["_law_game_here","_law_counts","_law_deeds_here","_law_thrown"] D6:=by
 refine T.vV.dE (λ_ _ _ _ _ _=>uk λ_ _ _ _=>rfl) λf fd F=>F.d4 lT (λvs H Q E h=>?_) (λbR A outer s H vs Q E hr h=>?_)
 ·obtain⟨_,_,_,_,rfl,_⟩:=Dk h;rfl
 ·symm;obtain⟨gv,l,dv,v,rfl,g,rg,gg,ns,hl,ln,ds,rd,aag,gd,kk⟩:=Dk h;nofun;clear G_;have nd:=lT.nd;refine⟨_,(ag (aK (i:=4) gO)
  (ag (aK (i:=5) gO)
  (ag (b6 PassesOwn.never rfl (cJ rfl T.z_range (aa (aY bF (by rfl) T.z_len aaA (aa (pv 1) af)) af)) (a5 (i:=6) nd rfl (.inl rfl)) (ag (eK (ck hr) (pv 4) (av ao (av a6 (av ao (pv 0) ae) (pv 6)) ae) (av a6 (pv 1) (pv 6)) rfl)
  (aq (eK (ck hr) (pv 5) (av ao (av a6 (av ao (pv 0) ae) (pv 6)) ae) (av ao (av a6 (av ao (pv 0) ae) (pv 6)) ae) rfl))))
  (ag (b6 PassesOwn.never rfl (bh (K:=K) (pv 2)) (a5 (i:=7) nd rfl (.inl rfl)) (aq (bc (aL bq (av ao (pv 7) ae) aZ (aR _)) (aq (eK (ck hr) (pv 4) (av ao (pv 7) ae) (aY (fO rfl) (by rfl) T.z_min rfl (aa (av ao (pv 7) ae) (aa (cB (ck hr) (pv 5) (av ao (pv 7) ae) (λ_ _=>rfl)) af))) rfl))
   (aq (bc (aL bq (av ao (pv 7) ae) aZ (aR _)) (aq (eK (ck hr) (pv 4) (av ao (pv 7) ae) (aY (fO rfl) (by rfl) T.z_min rfl (aa (aJ aS (cB (ck hr) (pv 4) (av ao (pv 7) ae) (λ_ _=>rfl)) (av ao (pv 7) ae)) (aa (cB (ck hr) (pv 5) (av ao (pv 7) ae) (λ_ _=>rfl)) af))) rfl))
   (aq (bc (aL bq (av ao (pv 7) ae) aZ (aR _)) (aq (eK (ck hr) (pv 4) (av ao (pv 7) ae) (aY (fO rfl) (by rfl) T.z_min rfl (aa (aJ aS (cB (ck hr) (pv 4) (av ao (pv 7) ae) (λ_ _=>rfl)) (pv 3)) (aa (cB (ck hr) (pv 5) (av ao (pv 7) ae) (λ_ _=>rfl)) af))) rfl))
   (ag (eK (ck hr) (pv 4) (av ao (pv 7) ae) (aY (fO rfl) (by rfl) T.z_min rfl (aa (aJ aS (cB (ck hr) (pv 4) (av ao (pv 7) ae) (λ_ _=>rfl)) (cB (ck hr) (pv 4) (av ao (pv 7) ae) (λ_ _=>rfl))) (aa (cB (ck hr) (pv 5) (av ao (pv 7) ae) (λ_ _=>rfl)) af))) rfl)
  (aq (eK (ck hr) (pv 4) (av ao (pv 7) ae) ae rfl))))))))))
  (aq (aQ (b5 rfl (N:=["_law_game_here","_law_counts","_law_deeds_here","_law_thrown","_law_held","_law_caps","_law_k","_law_deed"]) (so:=au (top 66)) (N':=["_law_name","_law_most","_law_held"]) (k:=2) (fr:=[4]) rfl rfl ⟨rfl,∅,∅,∅,rfl,∅,∅⟩ (bh (K:=K) (av ao (pv 0) ae)) (λ_ _ _ _ _=>(e8 (K:=K) (n:=2) rfl (bK (a5 (i:=0) (show(["_law_name","_law_most","_law_held"]:List Str).Nodup by ac_rfl) rfl (.inl rfl)) (bK (a5 (i:=1) (show(["_law_name","_law_most","_law_held"]:List Str).Nodup by ac_rfl) rfl (.inl rfl)) eW)))) (λ_ _ _ _ _=>cV)
   (λ_ _ _ _ _=>(cB (ck hr) (pv 2) (pv 0) (λ_ _=>rfl)))))))))),?_⟩
  refine(?_:let bO:TS:=_;let bP:TS:=_;let bQ:TS:=_;let cO:TS:=_;let lH:TS:=_;tSeq bO (tSeq bP (tSeq bQ (tSeq cO lH))) _ _ _);intro bO bP bQ cO lH;have sl:=sizeLine_eq;symm;obtain⟨gp,cv,pv,rfl,uX,rc,rp⟩:=bI.mp (show Rep H (.tup _) gv from rg);obtain⟨cl,uB,rfl,eN,oM⟩:=ba.mp (show Rep H (.lst _) cv from rc);obtain⟨dl,eU,rfl,Oh,Gp⟩:=ba.mp rd;nofun;clear G_;have lcs:=gg.lc;have len:=oM.length;rw[aaj] at len;have Gq:=Gp.length;rw[aaj] at Gq;refine aP (λN=>∀H1 d1,aB H H1->H d1=none->H1 d1=some (.dK [])->N [~~~gp,~~~l,~~~dl,v⁻¹,~~~d1,none,none,none] H1) (λN hN=>?_) ?_
  ·dsimp?[];exact λd1 n1=>hN _ d1 (aj n1) n1 ai
  rintro H1 d1 s1 n1 e1;refine aP (λN=>∀H2 d2,aB H1 H2->H1 d2=none->H2 d2=some (.dK [])->N [~~~gp,~~~l,~~~dl,v⁻¹,~~~d1,~~~d2,none,none] H2) (λN hN=>?_) ?_
  ·dsimp?[];exact λd2 n2=>hN _ d2 (aj n2) n2 ai
  rintro H2 d2 s2 n2 e2;have e12:=s2 _ _ e1;have z2:H d2=none:=none_of s1 n2;have ON:d1≠d2:=λz=>by rw[<-z,e1] at n2;cases n2
  have GG:=s1.trans s2;have fresh:∀{i:Nat} (hi:i<g.cs.length),(g.cs[i]).1∉(g.cs.take i).map (·.1):=λ{i} hi m=>by
   rw[aa5] at m;symm;obtain⟨j,hj,e⟩:=List.mem_take_iff_getElem.mp m;nofun;have nd':=gg.nc;rw[aaj] at hj;have e2:(g.cs.map (·.1))[j]'(by rw[aaj];lia)=(g.cs.map (·.1))[i]'(by rw[aaj];lia):=by rw[e,List.getElem_map]
   have:=(List.getElem_inj nd').mp e2;lia
  refine aP (λN=>∀H3,(∀a o,H a=some o->H3 a=some o)->H3 d1=some (.dK (zK g.cs ns))->H3 d2=some (.dK (zK g.cs (g.cs.map (·.2))))->∀z6 z7,N [~~~gp,~~~l,~~~dl,v⁻¹,~~~d1,~~~d2,z6,z7] H3) (λN hN=>?_) ?_
  ·dsimp?[GG _ _ hl];rw[aaj];refine⟨⋯,⋯,?_⟩;rw[aaF];refine bN (src_range (Ok:=λ_=>True)) (λi σ H3=>aB H H3/\H3 d1=some (.dK (zK (g.cs.take i) (ns.take i)))/\H3 d2=some (.dK (zK (g.cs.take i) ((g.cs.map (·.2)).take i)))/\∃z6 z7,σ=[~~~gp,~~~l,~~~dl,v⁻¹,~~~d1,~~~d2,z6,z7]) ⟨GG,e12,e2,_,_,rfl⟩ (λ_ _ _ _ _=>trivial) ?_ ?_
   ·intro i x σ H3 H4 hi fm fo;symm;obtain⟨s3,a1,a2,z6,z7,rfl⟩:=fm;obtain⟨rfl,rfl⟩:=fo;nofun;clear G_;have IG:i<g.cs.length:=⋯
    have ec:=aao IG;obtain⟨cv,ev,UU⟩:=oM.at (i:=i) (by rw[aal,ec];rfl);symm;obtain⟨cq,b1,b2,rfl,GF,q1,q2⟩:=bI.mp (show Rep _ (.tup _) cv from UU);obtain rfl:=aT.mp q1;obtain rfl:=bD.mp q2;nofun;clear G_;simp only[gName,aaQ,aaP,aa3];refine aP (λN=>N [~~~gp,~~~l,~~~dl,v⁻¹,~~~d1,~~~d2,some (.int (i:Int)),z7] (upd H4 d1 (.dK (zK (g.cs.take (i+1)) (ns.take (i+1)))))) (λN hN=>?_) ?_
    ·dsimp?[sDPut,s3 _ _ uX,s3 _ _ eN,s3 _ _ hl];refine⟨_,e9 ⋯,_,bM ev,_,rfl,_,s3 _ _ GF,_,at0,_,.inl ⟨_,Sum.inr (g.cs[i]).1,a1,rfl,by rw[yD (by rw[aaD,aaD];lia),aaD];lia,rfl⟩,?_⟩;rw[jk (uJ (fresh IG)),<-uI _ _ (by rw[aaD,aaD];lia),<-take_snoc IG,uK (show i<ns.length by lia),<-take_snoc (show i<ns.length by lia)];exact hN
    have up:∀{a o},H a=some o->upd H4 d1 (.dK (zK (g.cs.take (i+1)) (ns.take (i+1)))) a=some o:=λ{a o} h=>by
     rw[aD (λz=>by rw[z,n1] at h;cases h)];exact s3 _ _ h
    have a2':upd H4 d1 (.dK (zK (g.cs.take (i+1)) (ns.take (i+1)))) d2=some (.dK (zK (g.cs.take i) ((g.cs.map (·.2)).take i))):=by rw[aD (Ne.symm ON)];exact a2
    have a1':upd H4 d1 (.dK (zK (g.cs.take (i+1)) (ns.take (i+1)))) d1=some (.dK (zK (g.cs.take (i+1)) (ns.take (i+1)))):=ai;generalize upd H4 d1 (.dK (zK (g.cs.take (i+1)) (ns.take (i+1))))=H5 at *;dsimp?[sDPut,up uX,up eN];refine⟨_,bM ev,_,rfl,_,up GF,_,at1,_,bM ev,_,rfl,_,up GF,_,at0,_,.inl ⟨_,Sum.inr (g.cs[i]).1,a2',rfl,by rw[yD (by rw[aaD,aaD,aaj]),aaD];lia,rfl⟩,λa o h=>?_,by rw[aD ON];exact a1',?_,_,rfl⟩
    ·rw[aD (λz=>by rw[z,z2] at h;cases h)];exact up h
    ·rw[ai,jk (uJ (fresh IG)),<-uI _ _ (by rw[aaD,aaD,aaj]),<-take_snoc IG];have UJ:i< (g.cs.map (·.2)).length:=by rw[aaj];exact IG
     rw[show(g.cs[i]).2=(g.cs.map (·.2))[i]'UJ by rw[List.getElem_map],<-take_snoc UJ]
   ·intro σ H3 du;symm;obtain⟨s3,a1,a2,z6,z7,rfl⟩:=du;nofun;rw[aaz ⋯,aaz ⋯] at a1;rw[aaz ⋯,aaz (by rw[aaj];lia)] at a2;exact hN _ s3 a1 a2 _ _
  rintro H3 s3 e13 e23 z6 z7;refine aP (λN=>∀H4,(∀a o,H a=some o->H4 a=some o)->H4 d1=some (.dK (zK g.cs (ds.foldl (iI g.cs v) ns)))->∀z6 z7,N [~~~gp,~~~l,~~~dl,v⁻¹,~~~d1,~~~d2,z6,z7] H4) (λN hN=>?_) ?_
  ·dsimp?[];refine⟨⟨_,bw.of (s3 _ _ Oh)⟩,bN (src_list (Ok:=λH'=>aB H H') (λH' s'=>bw.of (s' _ _ Oh))) (λi σ H4=>aB H H4/\H4 d1=some (.dK (zK g.cs ((ds.take i).foldl (iI g.cs v) ns)))/\H4 d2=some (.dK (zK g.cs (g.cs.map (·.2))))/\∃z6 z7,σ=[~~~gp,~~~l,~~~dl,v⁻¹,~~~d1,~~~d2,z6,z7]) ⟨s3,e13,e23,_,_,rfl⟩ (λ_ _ _ _ h=>h.1) ?_ ?_⟩
   ·intro i x σ H4 H5 hi fm fo;symm;obtain⟨s4,a1,a2,z6,z7,rfl⟩:=fm;obtain⟨rfl,ex⟩:=fo;obtain⟨dd,ed,Ls⟩:=Gp.get ex;rw[aal] at ed;obtain⟨d,NT,rfl⟩:=abq.mp ed;nofun;clear G_;obtain⟨df,eid⟩:=abr.mp NT;have Bo:=gd d (aay NT);have xh:((ds.take i).foldl (iI g.cs v) ns).length=g.cs.length:=(c5 _ _).trans ln;have nx:(ds.take (i+1)).foldl (iI g.cs v) ns=iI g.cs v ((ds.take i).foldl (iI g.cs v) ns) d:=by
     rw[take_snoc df,eid,List.foldl_append];rfl
    rw[nx];generalize (ds.take i).foldl (iI g.cs v) ns=cur at *;have up:∀{k:List (Key×V)} {a o},H a=some o->upd H5 d1 (.dK k) a=some o:=λ{k a o} h=>by
     rw[aD (λz=>by rw[z,n1] at h;cases h)];exact s4 _ _ h
    have GN:∀{H':Hp} {n},H' d2=some (.dK (zK g.cs (g.cs.map (·.2))))->n∈g.cs.map (·.1)->jt H' d2 (.str n) (some (.int (most g.cs (bG g.cs n)))):=λ{H' n} h hn=>.inl ⟨_,Sum.inr n,.inl h,rfl,(uH (by rw[aaj]) hn).symm⟩;have GO:∀{H':Hp} {n} {c:List Int},H' d1=some (.dK (zK g.cs c))->c.length=g.cs.length->n∈g.cs.map (·.1)->jt H' d1 (.str n) (some (.int (c.getD (bG g.cs n) 0))):=λ{H' n c} h l hn=>.inl ⟨_,Sum.inr n,.inl h,rfl,(uH l hn).symm⟩;have El:∀{H':Hp} {n} {c:List Int} {k:V},H' d1=some (.dK (zK g.cs c))->c.length=g.cs.length->xN H' d1 (.str n) k (upd H' d1 (.dK (putK (zK g.cs c) (Sum.inr n) k))):=λ{H' n c k} h hc=>.inl ⟨_,Sum.inr n,h,rfl,by rw[yD hc];lia,rfl⟩;have fin:∀(n:Str) (k':Int) (z:Option V),n∈g.cs.map (·.1)->iI g.cs v cur d=cur.set (bG g.cs n) k'->aB H (upd H5 d1 (.dK (putK (zK g.cs cur) (Sum.inr n) (.int k'))))/\upd H5 d1 (.dK (putK (zK g.cs cur) (Sum.inr n) (.int k'))) d1=some (.dK (zK g.cs (iI g.cs v cur d)))/\upd H5 d1 (.dK (putK (zK g.cs cur) (Sum.inr n) (.int k'))) d2=some (.dK (zK g.cs (g.cs.map (·.2))))/\∃x,z=x:=λn k' z hn e=>⟨λa o h=>up h,by rw[ai,yC gg.nc xh hn,e],by rw[aD (Ne.symm ON)];exact a2,_,rfl⟩
    have mn:∀a b:Int,(if b<a then b else a)=min a b:=λa b=>by split <;>lia
    simp only[gName,aaQ,aaP];cases d with
    | set n k=>
     symm;obtain⟨q,v1,v2,v3,rfl,hq,r1,r2,r3⟩:=eE.mp (show Rep H (.tup _) x from Ls);nofun;rw[aT.mp r1,aT.mp r2,bD.mp r3] at hq;have hq:=s4 _ _ hq;refine dJ (λY N k=>by dsimp?[hq];exact k) ?_;dsimp?[sDPut,hq];refine⟨_,GN a2 Bo,_,rfl,_,El a1 xh,?_⟩;rw[mn];exact fin n _ _ Bo rfl
    | plus n k=>
     symm;obtain⟨q,v1,v2,v3,rfl,hq,r1,r2,r3⟩:=eE.mp (show Rep H (.tup _) x from Ls);nofun;rw[aT.mp r1,aT.mp r2,bD.mp r3] at hq;have hq:=s4 _ _ hq;refine cG (λY N k=>by dsimp?[hq];rw[if_neg ∅];exact k) ?_;refine dJ (λY N k=>by dsimp?[hq];exact k) ?_;dsimp?[sDPut,hq];refine⟨_,GO a1 xh Bo,_,rfl,_,GN a2 Bo,_,rfl,_,El a1 xh,?_⟩;rw[mn];exact fin n _ _ Bo rfl
    | face n=>
     symm;obtain⟨q,v1,v2,rfl,hq,r1,r2⟩:=bI.mp (show Rep H (.tup _) x from Ls);nofun;rw[aT.mp r1,aT.mp r2] at hq;have hq:=s4 _ _ hq;refine cG (λY N k=>by dsimp?[hq];rw[if_neg ∅];exact k) ?_;refine cG (λY N k=>by dsimp?[hq];rw[if_neg ∅];exact k) ?_;refine dJ (λY N k=>by dsimp?[hq];exact k) ?_;dsimp?[sDPut,hq];refine⟨_,GO a1 xh Bo,_,rfl,_,GN a2 Bo,_,rfl,_,El a1 xh,?_⟩;rw[mn];exact fin n _ _ Bo rfl
    | move n m=>
     symm;obtain⟨q,v1,v2,v3,rfl,hq,r1,r2,r3⟩:=eE.mp (show Rep H (.tup _) x from Ls);nofun;rw[aT.mp r1,aT.mp r2,aT.mp r3] at hq;have Iq:=s4 _ _ hq;refine cG (λY N k=>by dsimp?[Iq];rw[if_neg ∅];exact k) ?_;refine cG (λY N k=>by dsimp?[Iq];rw[if_neg ∅];exact k) ?_;refine cG (λY N k=>by dsimp?[Iq];rw[if_neg ∅];exact k) ?_;dsimp?[sDPut,Iq];refine⟨_,GO a1 xh Bo.2,_,GO a1 xh Bo.1,_,rfl,_,rfl,_,GN a2 Bo.2,_,rfl,_,El a1 xh,?_⟩;rw[mn,yC gg.nc xh Bo.2];have uW:(cur.set (bG g.cs m) (min (cur.getD (bG g.cs m) 0+cur.getD (bG g.cs n) 0) (most g.cs (bG g.cs m)))).length=g.cs.length:=by rw[List.length_set];exact xh
     refine⟨_,up hq,_,at1,_,El ai uW,λa o h=>?_,?_,?_,_,rfl⟩
     ·rw[aD (λz=>by rw[z,n1] at h;cases h)];exact up h
     ·rw[ai,yC gg.nc uW Bo.1];rfl
     ·rw[aD (Ne.symm ON),aD (Ne.symm ON)];exact a2
   ·intro σ H4 du;symm;obtain⟨s4,a1,a2,z6,z7,rfl⟩:=du;nofun;rw[aaz ⋯] at a1;exact hN _ s4 a1 _ _
  rintro H4 s4 e14 z6 z7;dsimp?[s4 _ _ uX];refine⟨⟨_,bw.of (s4 _ _ eN)⟩,?_⟩;have S:Src (uU K cl) (aB H4) uB.length _:=src_list (λH' s'=>bw.of (s' _ _ (s4 _ _ eN)));rw[<-len] at S;have fl:(ds.foldl (iI g.cs v) ns).length=g.cs.length:=(c5 _ _).trans ln;refine pI (K:=K) g.cs (λc=>some ((ds.foldl (iI g.cs v) ns).getD (bG g.cs c.1) 0)) S (λ_ _ _ _ h=>h.1) ⋯ ?_ ?_
  ·rintro i c y ec ⟨_,ey⟩;symm;obtain⟨d,ed,rd⟩:=oM.get ey;nofun;rw[aal,ec] at ed;cases ed;symm;obtain⟨cq,b1,b2,rfl,GF,q1,q2⟩:=bI.mp (show Rep _ (.tup _) y from rd);obtain rfl:=aT.mp q1;nofun;refine⟨cq,_,_,rfl,jD.of (s4 _ _ GF),λY N y1 y2=>?_⟩;unfold mC;refine xO ?_;dsimp?[];have hc:c.1∈g.cs.map (·.1):=abt.mpr ⟨c,aay ec,rfl⟩;exact⟨_,.inl ⟨_,Sum.inr c.1,.inl e14,rfl,(uH fl hc).symm⟩,y1 _ rfl⟩
  ·intro D Uh n2';refine kk D _ (aB.trans s4 (aj Uh)) (none_of s4 Uh) ?_;rw[ai,abi];congr 3;exact D5 gg.nc fl
theorem gk:aV ["_law_game_here","_law_counts","_law_when","_law_number_here"] ["_law_game_here","_law_counts","_law_when"] (au (top 67)):=.mk
theorem Lu (T:0|||0):(2<<<"_law_holds_when") ["_law_game_here","_law_counts","_law_when"] IC:=by
 have eA:=yF T;refine T.k9.dE (λ_ _ _ _ _ _=>rC λ_ _ _=>rfl) λf fd F=>F.d4 gk (λvs H Q E h=>?_) (λbR A outer s H vs Q E hr h=>?_)
 ·obtain⟨_,_,_,rfl,_⟩:=HU h;rfl
 ·symm;obtain⟨gv,l,wv,rfl,g,rg,gg,ns,hl,ln,wh,rw,wk,kk⟩:=HU h;nofun;have nd:=gk.nd;refine⟨_,(ag (bc (aL sZ (pv 2) fi (aR _)) (aq (aQ iA))
   aX)
  (ag (aK (i:=3) (aN eA (aa (pv 0) (aa (pv 1) (aa (av ao (pv 2) ae) af)))))
  (aq (aQ (eX bq (eX yT (pv 3) (av ao (pv 2) ae) (aR _)) (eX bq (av ao (pv 2) ae) aZ (aR _)) (aR _)))))),?_⟩
  refine(?_:let bO:TS:=_;let bP:TS:=_;let bQ:TS:=_;tSeq bO (tSeq bP bQ) _ _ _);intro bO bP bQ;have sl:=sizeLine_eq;cases wh with
  | none=>
   rw[KA,Rep] at rw;subst rw;dsimp?[];exact kk _ (aB.refl _)
  | some w=>
   symm;obtain⟨n,y,k⟩:=w;obtain⟨q,v1,v2,v3,rfl,hq,r1,r2,r3⟩:=eE.mp (show Rep H (.tup _) wv from rw);obtain rfl:=aT.mp r1;obtain rfl:=aT.mp r2;obtain rfl:=bD.mp r3;nofun;dsimp?[Aa,hq];rw[if_neg (by intro z;cases z)];refine⟨g,rg,gg,ns,hl,ln,wk.1,λH' s'=>⟨_,s' _ _ hq,_,at2,_,rfl,_,s' _ _ hq,_,at1,rfl,?_⟩⟩;have e:decide (decide (k<=ns.getD (bG g.cs n) 0)=decide (V.str y=V.str "from"))=km g.cs ns (some (n,y,k)):=by
    refine Eq.trans ?_ (if_pos wk.1).symm
    by_cases e:y=aai "from"
    ·rw[if_pos e,e]
     by_cases z:k<=ns.getD (bG g.cs n) 0 <;>simp [z]
    ·rw[if_neg e]
     by_cases z:k<=ns.getD (bG g.cs n) 0
     ·simp [z,e,Int.not_lt.mpr z]
     ·simp [z,e,Int.lt_of_not_ge z]
   rw[e];exact kk _ s'
theorem lU:aV ["_law_game_here","_law_state","_law_what_here"] ["_law_game_here","_law_state"] (au (top 68)):=.mk
theorem UX {α:Type} {x y z u:α} {l:List α}:mv (x::y::z::u::l) 3=some u:=bM (j:=3) rfl
theorem sR {H:Hp}:∀rs:List Rw,bg H (rs.map λr=>Dat.str r.word) (rs.map λr=>V.str r.word)
 | []=>bA.mpr rfl
 | _::rs=>aU.mpr ⟨_,_,rfl,aT.mpr rfl,sR rs⟩
theorem yH (T:0|||0):(3<<<"_law_open") ["_law_game_here","_law_state"] wQ:=by
 have cI:=qw T;have rL:=Lq T;have lV:=Lu T;refine T.vW.dE (λ_ _ _ _ _ _=>dQ λ_ _=>rfl) λf fd F=>F.d4 lU (λvs H Q E h=>?_) (λbR A outer s H vs Q E hr h=>?_)
 ·obtain⟨_,_,rfl,_⟩:=oo h;rfl
 ·symm;obtain⟨gv,sv,rfl,g,rg,gg,gs,st,oO,ln,x,lk,wk,kk⟩:=oo h;nofun;have nd:=lU.nd;refine⟨_,(ag (aK (i:=2) (aN cI (aa (pv 0) (aa (av ao (pv 1) ae) af))))
  (ag (bc (aL bq (av ao (pv 2) ae) aZ (aR _)) (aq (aQ (aN rL (aa (av ao (pv 2) ae) af))))
   aX)
  (ag (bc (aL bq (av ao (pv 2) ae) aZ (aR _)) (aq (aQ (b5 rfl (N:=["_law_game_here","_law_state","_law_what_here"]) (so:=au (top 68)) (N':=["_law_row","_law_game_here","_law_state"]) (k:=1) (fr:=[0,1]) rfl rfl ⟨rfl,∅,∅,∅,rfl,∅,∅⟩ (bh (K:=K) (av ao (pv 2) ae)) (λ_ _ _ _ _=>(a5 (i:=0) (show(["_law_row","_law_game_here","_law_state"]:List Str).Nodup by ac_rfl) rfl (.inl rfl))) (λ_ _ _ _ _=>(eZ (iM (aN lV (aa (pv 1) (aa (av ao (pv 2) ae) (aa (av ao (pv 0) ae) af)))))))
   (λ_ _ _ _ _=>(av ao (pv 0) ae)))))
   aX)
  (aq (aQ (bH af)))))),?_⟩
  refine(?_:let bO:TS:=_;let bP:TS:=_;let bQ:TS:=_;let cO:TS:=_;tSeq bO (tSeq bP (tSeq bQ cO)) _ _ _);intro bO bP bQ cO;have sl:=sizeLine_eq;symm;obtain⟨sa,cl,rfl,gn,eN⟩:=id oO;nofun;refine aP (λN=>∀H1 v,aB H H1->Rep H1 (jI x) v->N [some gv,~~~sa,some v] H1) (λN hN=>?_) ?_
  ·dsimp?[nW,gn];exact⟨g,rg,gg,x,lk,λu H1 s1 ru=>hN _ u s1 (ru.mono s1)⟩
  rintro H1 v s1 rv;symm;obtain⟨q,CB,rfl,hq⟩:=nS rv;nofun;subst_vars
  by_cases ke:sM x=aai "throw"
  ·symm;obtain⟨di,t,b,rs,rfl⟩:=qk ke;obtain⟨ps,rfl,gl,_⟩:=wk;nofun;refine aP (λ_=>True) (λN _=>?_) trivial;refine dJ (λY N k=>by dsimp?[hq];rw[if_pos ke];exact k) ?_;symm;obtain⟨q',v1,v2,v3,v4,e0,og,r1,r2,r3,r4⟩:=dF.mp (show Rep H1 (.tup _) (.ref q) from rv);nofun;cases e0;dsimp?[IB,og];exact⟨ps,r2,gl,λl H2 s2 nl hl=>kk l H2 _ (s1.trans s2) (none_of s1 nl) (ba.mpr ⟨l,_,rfl,hl,ints_rep _⟩) ⟨ps,rfl,gl,rfl⟩⟩
  refine aP (λN=>N [some gv,~~~sa,~~~q] H1) (λN hN=>?_) ?_
  ·refine cG (λY N k=>?_) hN;dsimp?[hq];rw[if_neg ke];exact k
  subst_vars
  by_cases kp:sM x=aai "pick"
  ·symm;obtain⟨sj,rs,rfl⟩:=zV kp;obtain⟨w4,_,wr⟩:=id wk;obtain⟨q',v1,v2,v3,e0,og,r1,r2,r3⟩:=eE.mp (show Rep H1 (.tup _) (.ref q) from rv);nofun;cases e0;rw[aT.mp r1,bD.mp r2] at og;symm;obtain⟨rl,ys,rfl,rJ,ry⟩:=ba.mp r3;nofun;refine aP (λ_=>True) (λN _=>?_) trivial;refine dJ (λY N k=>by dsimp?[hq];rw[if_pos kp];exact k) ?_;dsimp?[og,s1 _ _ gn];have qp:=ry.length;rw[aaj,aaj] at qp;have L7:rs.length<=100:=by have:=w4.1;lia
   refine⟨⟨_,bw.of rJ⟩,gP (src_list (λH' s'=>bw.of (s' _ _ rJ))) (λσ=>∃w0,σ=[w0,some gv,~~~sa]) ⟨_,rfl⟩ (λi zs _=>zs=((rs.take i).filter λr=>km g.cs st.2 r.wh).map λr=>V.str r.word) rfl ⋯ ?_ ?_⟩
   ·rintro i y σ H2 zs H3 Q2 N2 hi s2 ez _ ⟨w0,rfl⟩ ⟨rfl,ey⟩ kq kn;subst ez;symm;obtain⟨r',p,_,b1,b2,b3,er,rfl,hp,UP,_⟩:=lF ry ey;nofun;obtain⟨hir,eir⟩:=abr.mp er;have GG:=s1.trans s2;have wo:=(wr r' (aay er)).2.1;have nx:rs.take (i+1)=rs.take i++ [r']:=by rw[take_snoc hir,eir]
    dsimp?[IC,s2 _ _ hp,GG _ _ gn];refine⟨g,rg.mono GG,gg,st.2,GG _ _ eN,ln,_,UP.mono s2,wo,λH4 s4=>?_⟩
    by_cases hh:km g.cs st.2 r'.wh=true
    ·rw[if_pos hh];exact⟨_,(s2.trans s4) _ _ hp,_,at0,kq _ _ _ ⟨_,rfl⟩ (s2.trans s4) (by rw[nx,List.filter_append,aaq];simp [hh])⟩
    ·rw[if_neg hh];exact kn _ _ ⟨_,rfl⟩ (s2.trans s4) (by rw[nx,List.filter_append,aaq];simp [hh])
   ·rintro zs H2 s2 ez _ D n1 n2;rw[qp.symm,aaz (aam _)] at ez;subst ez;refine kk D _ _ (s1.trans (s2.trans (aj n2))) (none_of s1 n1) (ba.mpr ⟨D,_,rfl,ai,?_⟩) rfl;exact sR _
  ·refine aP (λN=>N [some gv,~~~sa,~~~q] H1) (λN hN=>?_) ?_
   ·refine cG (λY N k=>?_) hN;dsimp?[hq];rw[if_neg kp];exact k
   dsimp?[];refine⟨aas _,λa na=>kk a _ [] (s1.trans (aj na)) (none_of s1 na) (ba.mpr ⟨a,[],rfl,ai,bA.mpr rfl⟩) ?_⟩;cases x with
   | eC di t b rs=>exact absurd rfl ke
   | pick w rs=>exact absurd rfl kp
   | ask c k a b=>rfl
   | fin t b=>rfl
   | score c=>rfl
theorem lX:aV ["_law_game_here","_law_state","_law_step","_law_what_here","_law_row"] ["_law_game_here","_law_state","_law_step"] (au (top 69)):=.mk
theorem Em (T:0|||0):(3<<<"_law_gone") ["_law_game_here","_law_state","_law_step"] D7:=by
 have cI:=qw T;have c6:=yG T;have nY:=Lr T;refine T.vX.dE (λ_ _ _ _ _ _=>rC λ_ _ _=>rfl) λf fd F=>F.d4 lX (λvs H Q E h=>?_) (λbR A outer s H vs Q E hr h=>?_)
 ·obtain⟨_,_,_,rfl,_⟩:=zz h;rfl
 ·symm;obtain⟨gv,sv,dv,rfl,g,rg,gg,st,oO,ln,d,Ls,w',py,cK,jj,kk⟩:=zz h;nofun;have nd:=lX.nd;refine⟨_,(ag (aK (i:=3) (aN cI (aa (pv 0) (aa (av ao (pv 1) ae) af))))
  (ag (bc (aL bq (av ao (pv 3) ae) aZ (aR _)) (ag (aK (i:=4) (av a6 (b5 rfl (N:=["_law_game_here","_law_state","_law_step","_law_what_here","_law_row"]) (so:=au (top 69)) (N':=["_law_row","_law_step"]) (k:=1) (fr:=[2]) rfl rfl ⟨rfl,∅,∅,∅,rfl,∅,∅⟩ (bh (K:=K) (av ao (pv 3) ae)) (λ_ _ _ _ _=>(a5 (i:=0) (show(["_law_row","_law_step"]:List Str).Nodup by ac_rfl) rfl (.inl rfl))) (λ_ _ _ _ _=>(eZ (pf nv nv (av ao (pv 0) ae) (pv 1) (av ao (pv 0) ae))))
   (λ_ _ _ _ _=>(pv 0))) ae))
  (aq (aQ (aN c6 (aa (pv 0) (aa (av ao (pv 4) ae) (aa (aN nY (aa (pv 0) (aa (av ao (pv 1) ae) (aa (av ao (pv 4) ae) (aa (pv 2) af))))) af)))))))
   aX)
  (ag (aK (i:=4) (av a6 (b5 rfl (N:=["_law_game_here","_law_state","_law_step","_law_what_here","_law_row"]) (so:=au (top 69)) (N':=["_law_row","_law_step"]) (k:=1) (fr:=[2]) rfl rfl ⟨rfl,∅,∅,∅,rfl,∅,∅⟩ (bh (K:=K) (av ao (pv 3) ae)) (λ_ _ _ _ _=>(a5 (i:=0) (show(["_law_row","_law_step"]:List Str).Nodup by ac_rfl) rfl (.inl rfl))) (λ_ _ _ _ _=>(eZ (aL bq (av ao (pv 0) ae) (pv 1) (aR _))))
   (λ_ _ _ _ _=>(pv 0))) ae))
  (aq (aQ (aN c6 (aa (pv 0) (aa (av ao (pv 4) ae) (aa (aN nY (aa (pv 0) (aa (av ao (pv 1) ae) (aa (av ao (pv 4) ae) (aa ae af))))) af))))))))),?_⟩
  refine(?_:let bO:TS:=_;let bP:TS:=_;let bQ:TS:=_;let cO:TS:=_;tSeq bO (tSeq bP (tSeq bQ cO)) _ _ _);intro bO bP bQ cO;have sl:=sizeLine_eq;symm;obtain⟨sa,cl,rfl,gn,eN⟩:=id oO;nofun;rcases jj with ⟨sj,rs,r,lk,IH,BE,rfl,rfl,e2,ak⟩ | ⟨ps,t,b,rs,r,v,lk,gl,hv,v0,v1,rfl,rfl,rfl,ro,e2,ak⟩
  ·obtain rfl:=aT.mp Ls;refine aP (λN=>∀H1 v,aB H H1->Rep H1 (jI (.pick sj rs)) v->N [some gv,~~~sa,some (.str w'),some v,none] H1) (λN hN=>?_) ?_
   ·dsimp?[nW,gn];exact⟨g,rg,gg,_,lk,λu H1 s1 ru=>hN _ u s1 (ru.mono s1)⟩
   rintro H1 v s1 rv;symm;obtain⟨q,v1,v2,v3,rfl,hq,r1,r2,r3⟩:=eE.mp (show Rep H1 (.tup _) v from rv);rw[aT.mp r1,bD.mp r2] at hq;obtain⟨rl,ys,rfl,rJ,ry⟩:=ba.mp r3;nofun;refine aP (λN=>N [some gv,~~~sa,some (.str w'),~~~q,none] H1) (λN hN=>?_) ?_
   ·refine cG (λY N k=>?_) hN;dsimp?[hq];rw[if_neg ∅];exact k
   have gx:=gg.wt _ (cZ lk);have lJ:=aa6 BE;have OO:r.word=w':=by have:=List.find?_some BE;simpa using this
   have lJ:r∈rs:=(List.mem_filter.mp lJ).1;obtain⟨rest,er⟩:=Ab IH lJ OO;obtain⟨Lv,En⟩:=gx.2 r lJ;have qp:=ry.length;rw[aaj,aaj] at qp;have L7:rs.length<=100:=gx.1;dsimp?[hq,wO,D6];have zl:(ys.zip rs).length=ys.length:=by rw[aa9];lia
   have S:Src (uU K rl) (aB H1) ys.length _:=src_list (λH' s'=>bw.of (s' _ _ rJ));rw[<-zl] at S;refine⟨⟨_,bw.of rJ⟩,dP (ys.zip rs) (λy=>if decide (y.2.word=w')=true then some y.1 else none) S (λ_ _ _ _ h=>h.1) ⋯ ?_ ?_⟩
   ·rintro i ⟨y,r'⟩ z OB ⟨_,ez⟩ Y N3 y1 y2;obtain⟨e1,e2⟩:=List.getElem?_zip_eq_some.mp OB;rw[e1] at ez;cases ez;symm;obtain⟨r'',q',_,b1,b2,b3,Il,rfl,og,_,_⟩:=lF ry e1;nofun;rw[e2] at Il;cases Il;dsimp?[og]
    by_cases e:r'.word=w'
    ·rw[if_pos e];exact y1 _ (if_pos (decide_eq_true e))
    ·rw[if_neg e];exact y2 (if_neg (by simpa using e))
   ·intro D n1 n2;have rf:=iq (p:=λr=>decide (r.word=w')) ry;rw[er] at rf;symm;obtain⟨y,zs,UY,UZ,_⟩:=aU.mp rf;nofun;rw[UY];symm;obtain⟨p,x1,x2,x3,x4,rfl,hp,q1,q2,q3,q4⟩:=dF.mp (show Rep H1 (.tup _) y from UZ);obtain rfl:=aT.mp q4;nofun;have sD:=aj (H:=H1) (o:=.lst (V.ref p::zs)) n2;have GP:=s1.trans sD;refine⟨_,ai,_,at0,p,rfl,_,sD _ _ hp,_,UX,_,GP _ _ gn,_,at1,p,rfl,_,sD _ _ hp,_,at2,cl,rfl,g,rg.mono GP,gg,st.2,GP _ _ eN,ln,r.ds,q3.mono sD,Lv,En,λl' H3 s3 nl hl=>?_⟩;have lM:=GP.trans s3;rw[<-e2] at hl;exact⟨r.to,rfl,g,rg.mono lM,gg,cK.2,hl,by rw[e2];exact(c5 _ _).trans ln,3,cK.1,ak,λa l2 H4 s4 na U0 ea el=>kk a l2 H4 (lM.trans s4) (none_of lM na) (none_of lM U0) ea el⟩
  ·obtain rfl:=bD.mp Ls;refine aP (λN=>∀H1 u,aB H H1->Rep H1 (jI (.eC (ps.map qF) t b rs)) u->N [some gv,~~~sa,v⁻¹,some u,none] H1) (λN hN=>?_) ?_
   ·dsimp?[nW,gn];exact⟨g,rg,gg,_,lk,λu H1 s1 ru=>hN _ u s1 (ru.mono s1)⟩
   rintro H1 u s1 rv;symm;obtain⟨q,v1,v2,v3,v4,rfl,hq,r1,r2,r3,r4⟩:=dF.mp (show Rep H1 (.tup _) u from rv);rw[aT.mp r1] at hq;obtain⟨rl,ys,rfl,rJ,ry⟩:=ba.mp r4;nofun;refine aP (λ_=>True) (λN _=>?_) trivial;refine dJ (λY N k=>by dsimp?[hq];exact k) ?_;symm;obtain⟨g0,g1,g2⟩:=gg.wt _ (cZ lk);have hd:(rs.filter λr=>decide (r.1<=v) && decide (v<=r.2.1)).head?=some r:=by rw[List.head?_filter];exact ro
   obtain⟨rest,er⟩:∃rest,(rs.filter λr=>decide (r.1<=v) && decide (v<=r.2.1))=r::rest:=by
    cases h:rs.filter λr=>decide (r.1<=v) && decide (v<=r.2.1) with
    | nil=>rw[h] at hd;cases hd
    | cons a l=>rw[h] at hd;cases hd;exact⟨l,rfl⟩
   have lJ:r∈rs:=aa6 ro;obtain⟨Lv,En⟩:=g2 r lJ;nofun;have qp:=ry.length;rw[aaj,aaj] at qp;dsimp?[hq,wO,D6];have zl:(ys.zip rs).length=ys.length:=by rw[aa9];lia
   have S:Src (uU K rl) (aB H1) ys.length _:=src_list (λH' s'=>bw.of (s' _ _ rJ));rw[<-zl] at S;refine⟨_,UX,rl,rfl,⟨_,bw.of rJ⟩,dP (ys.zip rs) (λx=>if (decide (x.2.1<=v) && decide (v<=x.2.2.1))=true then some x.1 else none) S (λ_ _ _ _ h=>h.1) ⋯ ?_ ?_⟩
   ·rintro i ⟨y,r'⟩ z OB ⟨_,ez⟩ Y N3 y1 y2;obtain⟨e1,e2⟩:=List.getElem?_zip_eq_some.mp OB;rw[e1] at ez;cases ez;symm;obtain⟨dd,ed,rd⟩:=ry.get e1;nofun;rw[aal,aal,e2] at ed;cases ed;symm;obtain⟨p',a',b',c',d',rfl,mE,q1,q2,q3,q4⟩:=dF.mp (show Rep H1 (.tup _) y from rd);nofun;rw[show a'=.int r'.1 from bD.mp q1,show b'=.int r'.2.1 from bD.mp q2] at mE;dsimp?[mE]
    by_cases c1:r'.1<=v
    ·rw[if_pos c1]
     by_cases c2:v<=r'.2.1
     ·rw[if_pos c2];exact y1 _ (if_pos (by simp [c1,c2]))
     ·rw[if_neg c2];exact y2 (if_neg (by simp [c2]))
    ·rw[if_neg c1,if_neg ∅];exact y2 (if_neg (by simp [c1]))
   ·intro D n1 n2;have rf:=mU (p:=λr=>decide (r.1<=v) && decide (v<=r.2.1)) ry;rw[er] at rf;symm;obtain⟨y,zs,UY,UZ,_⟩:=aU.mp rf;nofun;rw[UY];symm;obtain⟨p,x1,x2,x3,x4,rfl,hp,q1,q2,q3,q4⟩:=dF.mp (show Rep H1 (.tup _) y from UZ);obtain rfl:=aT.mp q4;nofun;have sD:=aj (H:=H1) (o:=.lst (V.ref p::zs)) n2;have GP:=s1.trans sD;refine⟨_,ai,_,at0,p,rfl,_,sD _ _ hp,_,UX,_,GP _ _ gn,_,at1,p,rfl,_,sD _ _ hp,_,at2,cl,rfl,g,rg.mono GP,gg,st.2,GP _ _ eN,ln,r.2.2.1,q3.mono sD,Lv,En,λl' H3 s3 nl hl=>?_⟩;have lM:=GP.trans s3;rw[<-e2] at hl;exact⟨r.2.2.2,rfl,g,rg.mono lM,gg,cK.2,hl,by rw[e2];exact(c5 _ _).trans ln,3,cK.1,ak,λa l2 H4 s4 na U0 ea el=>kk a l2 H4 (lM.trans s4) (none_of lM na) (none_of lM U0) ea el⟩
theorem lY:aV ["_law_game_here","_law_state","_law_what_here"] ["_law_game_here","_law_state"] (au (top 70)):=.mk
theorem Lx (T:0|||0):(2<<<"_law_paid") ["_law_game_here","_law_state"] ID:=by
 have cI:=qw T;refine T.vY.dE (λ_ _ _ _ _ _=>dQ λ_ _=>rfl) λf fd F=>F.d4 lY (λvs H Q E h=>?_) (λbR A outer s H vs Q E hr h=>?_)
 ·obtain⟨_,_,rfl,_⟩:=oo h;rfl
 ·symm;obtain⟨gv,sv,rfl,g,rg,gg,st,oO,x,lk,kk⟩:=oo h;nofun;have nd:=lY.nd;refine⟨_,(ag (aK (i:=2) (aN cI (aa (pv 0) (aa (av ao (pv 1) ae) af))))
  (ag (bc (aL bq (av ao (pv 2) ae) aZ (aR _)) (aq (aQ (av ao (pv 2) ae)))
   aX)
  (aq (aQ (a9 (aa ae (aa ae af))))))),?_⟩
  refine(?_:let bO:TS:=_;let bP:TS:=_;let bQ:TS:=_;tSeq bO (tSeq bP bQ) _ _ _);intro bO bP bQ;have sl:=sizeLine_eq;symm;obtain⟨sa,cl,rfl,gn,eN⟩:=id oO;nofun;dsimp?[nW,gn];refine⟨g,rg,gg,x,lk,λu H1 s1 ru=>?_⟩;symm;obtain⟨q,CB,rfl,hq⟩:=nS ru;nofun;refine⟨q,rfl,_,s1 _ _ hq,_,at0,rfl,?_⟩
  by_cases ek:sM x=aai "throw"
  ·symm;obtain⟨di,t,b,rs,rfl⟩:=qk ek;nofun;rw[if_pos (congrArg V.str ek)];symm;obtain⟨q',v1,v2,v3,v4,e0,og,r1,r2,r3,r4⟩:=dF.mp (show Rep H (.tup _) (.ref q) from ru);nofun;cases e0;exact⟨q,rfl,_,s1 _ _ og,_,at2,kk _ _ s1 (r3.mono s1)⟩
  ·rw[if_neg (λz=>ek (by injection z))];refine⟨⋯,λp H2 s2 n2 e2=>kk _ _ (s1.trans s2) ?_⟩;have e:K9 x=(0,1):=by
    cases x with
    | eC di t b rs=>exact absurd rfl ek
    | ask c k a b=>rfl
    | fin t b=>rfl
    | score c=>rfl
    | pick w rs=>rfl
   rw[e];exact b7.mpr ⟨p,rfl,e2⟩
theorem i9:aV ["_law_game_here","_law_state","_law_got","_law_what_here"] ["_law_game_here","_law_state","_law_got"] (au (top 71)):=.mk
theorem Ly (T:0|||0):(3<<<"_law_points") ["_law_game_here","_law_state","_law_got"] IE:=by
 have cI:=qw T;have eA:=yF T;have gE:=D8 T;refine T.rh.dE (λ_ _ _ _ _ _=>rC λ_ _ _=>rfl) λf fd F=>F.d4 i9 (λvs H Q E h=>?_) (λbR A outer s H vs Q E hr h=>?_)
 ·obtain⟨_,_,_,rfl,_⟩:=zz h;rfl
 ·symm;obtain⟨gv,sv,ET,rfl,g,rg,gg,st,oO,ln,pd,x,lk,U1,yy,hw,kk⟩:=zz h;nofun;have nd:=i9.nd;refine⟨_,(ag (aK (i:=3) (aN cI (aa (pv 0) (aa (av ao (pv 1) ae) af))))
  (ag (bc (aL bq (av ao (pv 3) ae) aZ (aR _)) (aq (aQ (aN gE (aa (pv 2) (aa (av ao (pv 3) ae) af)))))
   aX)
  (ag (bc (aL bq (av ao (pv 3) ae) aZ (aR _)) (aq (aQ (aN gE (aa (pv 2) (aa (a9 (aa (aN eA (aa (pv 0) (aa (av ao (pv 1) ae) (aa (av ao (pv 3) ae) af)))) (aa ae af))) af)))))
   aX)
  (aq (aQ (pv 2)))))),?_⟩
  refine(?_:let bO:TS:=_;let bP:TS:=_;let bQ:TS:=_;let cO:TS:=_;tSeq bO (tSeq bP (tSeq bQ cO)) _ _ _);intro bO bP bQ cO;have sl:=sizeLine_eq;symm;obtain⟨sa,cl,rfl,gn,eN⟩:=id oO;nofun;refine aP (λN=>∀H1 v,aB H H1->Rep H1 (jI x) v->N [some gv,~~~sa,some ET,some v] H1) (λN hN=>?_) ?_
  ·dsimp?[nW,gn];exact⟨g,rg,gg,x,lk,λu H1 s1 ru=>hN _ u s1 (ru.mono s1)⟩
  rintro H1 v s1 rv;symm;obtain⟨q,CB,rfl,hq⟩:=nS rv;nofun
  by_cases ke:sM x=aai "end"
  ·symm;obtain⟨t,b,rfl⟩:=KS ke;obtain⟨q',v1,v2,e0,og,r1,r2⟩:=bI.mp (show Rep H1 (.tup _) (.ref q) from rv);nofun;cases e0;rw[aT.mp r1] at og;dsimp?[og,ql];exact⟨pd,U1.mono s1,(t,b),r2,yy,hw _ rfl,λr H2 s2 n2 e2=>kk _ _ (s1.trans s2) (b7.mpr ⟨r,rfl,e2⟩)⟩
  ·subst_vars;refine aP (λN=>N [some gv,~~~sa,some ET,~~~q] H1) (λN hN=>?_) ?_
   ·refine cG (λY N k=>?_) hN;dsimp?[hq];rw[if_neg ke];exact k
   by_cases ks:sM x=aai "score"
   ·obtain⟨c,rfl⟩:=DN ks;symm;obtain⟨q',v1,v2,e0,og,r1,r2⟩:=bI.mp (show Rep H1 (.tup _) (.ref q) from rv);nofun;cases e0;rw[aT.mp r1,aT.mp r2] at og;have hc:c∈g.cs.map (·.1):=gg.wt _ (cZ lk);dsimp?[og,ql,Aa,s1 _ _ gn];exact⟨g,rg.mono s1,gg,st.2,s1 _ _ eN,ln,hc,λH2 s2=>⟨⋯,λp H3 s3 np ep=>⟨pd,U1.mono (s1.trans (s2.trans s3)),(st.2.getD (bG g.cs c) 0,1),b7.mpr ⟨p,rfl,ep⟩,yy,hw _ rfl,λr H4 s4 n4 e4=>kk _ _ (s1.trans (s2.trans (s3.trans s4))) (b7.mpr ⟨r,rfl,e4⟩)⟩⟩⟩
   ·subst_vars;refine aP (λN=>N [some gv,~~~sa,some ET,~~~q] H1) (λN hN=>?_) ?_
    ·refine cG (λY N k=>?_) hN;dsimp?[hq];rw[if_neg ks];exact k
    have e:DP g st pd x=pd:=by
     cases x with
     | fin t b=>exact absurd rfl ke
     | score c=>exact absurd rfl ks
     | eC di t b rs=>rfl
     | ask c k a b=>rfl
     | pick w rs=>rfl
    dsimp?[];exact kk _ _ s1 (by rw[e];exact U1.mono s1)
theorem wW {g:Gm} {st:dR} {x:Wt} {ds es:List Dat} (h:Gz g st x ds) (k:Gz g st x es):ds=es:=by
 cases x with
 | eC di t b rs=>
  obtain⟨ps,e1,_,e2⟩:=h;obtain⟨qs,e3,_,e4⟩:=k;rw[e1] at e3;rw[e2,e4,gz e3]
 | ask c k' a b=>exact(show ds=_ from h).trans (show es=_ from k).symm
 | fin t b=>exact(show ds=_ from h).trans (show es=_ from k).symm
 | score c=>exact(show ds=_ from h).trans (show es=_ from k).symm
 | pick w rs=>exact(show ds=_ from h).trans (show es=_ from k).symm
theorem Eo {g:Gm} {gs:List Str} {st:dR} {x:Wt} (h:jC g.cs gs x):∃ds,Gz g st x ds/\∀d∈ds,depth d=0:=by
 have other:∀{rs:List Rw},∀d∈rs.map (λr=>Dat.str r.word),depth d=0:=λ{rs} d hd=>by
  obtain⟨r,_,rfl⟩:=abt.mp hd;rfl
 cases x with
 | eC di t b rs=>
  obtain⟨ps,e,gl,_⟩:=h;refine⟨_,⟨ps,e,gl,rfl⟩,λd hd=>?_⟩;obtain⟨i,_,rfl⟩:=abt.mp hd;rfl
 | ask c k a b=>exact⟨_,rfl,other⟩
 | fin t b=>exact⟨_,rfl,other⟩
 | score c=>exact⟨_,rfl,other⟩
 | pick w rs=>exact⟨_,rfl,other⟩
theorem Lz {g:Gm} {gs:List Str} {st:dR} (sk:ng g gs st) {x:Wt} (wx:jC g.cs gs x):∀w,yn g.cs st.2 x=some w->jB 500000 w:=λw e=>by
 cases x with
 | fin t b=>
  obtain⟨rfl,h1,h2⟩:=wx;cases e;exact jq _ ⋯ ⋯
 | score c=>
  cases e;have hl:bG g.cs c<st.2.length:=by rw[sk.len];exact fM wx
  have:=sk.nn _ (aaH hl);rw[uK hl];exact jq _ ⋯ ⋯
 | ask c k a b=>cases e
 | pick w rs=>cases e
 | eC p t b rs=>cases e
theorem uN {cs:List (Str×Int)} {ns:List Int} {i:Nat} {k:Int} (m:∀c∈cs,0<=c.2/\c.2<=1000) (h:∀n∈ns,0<=n/\n<=1000) (k0:0<=k):∀n∈ur cs ns i k,0<=n/\n<=1000:=λn hn=>by
 unfold ur at hn;rcases List.mem_or_eq_of_mem_set hn with hn | rfl
 ·exact h n hn
 ·have:0<=most cs i/\most cs i<=1000:=by
   unfold most;rw[aaV,aal];cases e:cs[i]? with
   | none=>exact⟨Int.le_refl _,∅⟩
   | some c=>exact m c (aay e)
  lia
theorem oW {ns:List Int} {i:Nat} (h:∀n∈ns,0<=n/\n<=1000):0<=ns.getD i 0:=by
 rw[aaV];cases e:ns[i]? with
 | none=>exact Int.le_refl _
 | some n=>exact(h n (aay e)).1
theorem Ep {cs:List (Str×Int)} {v:Int} (m:∀c∈cs,0<=c.2/\c.2<=1000) (v0:0<=v):∀(ds:List Dd) (ns:List Int),(∀d∈ds,BD d)->(∀n∈ns,0<=n/\n<=1000)->∀n∈ds.foldl (iI cs v) ns,0<=n/\n<=1000
 | [],_,_,h=>h
 | d::ds,ns,g,h=>by
  refine Ep m v0 ds _ (λe he=>g e (aap _ he)) ?_;have gd:=g d aar;cases d with
  | set n k=>exact uN m h gd
  | plus n k=>exact uN m h (Int.add_nonneg (oW h) gd)
  | face n=>exact uN m h (Int.add_nonneg (oW h) v0)
  | move a b=>
   intro n hn;rcases List.mem_or_eq_of_mem_set hn with hn | rfl
   ·exact uN m h (Int.add_nonneg (oW h) (oW h)) n hn
   ·exact⟨Int.le_refl _,∅⟩
theorem OP {v:Int} (v0:0<=v) (v1:v<=1000):La (aai (toString v)):=by
 have h:∀n∈List.range 1001,(0< (aai (toString (n:Int))).length/\(aai (toString (n:Int))).length<=20)/\gu (.str (aai (toString (n:Int))))=true:=∅
 have e:v=((v.toNat:Nat):Int):=⋯
 have:=h v.toNat (List.mem_range.mpr ⋯);rw[<-e] at this;exact⟨this.1.1,this.1.2,this.2⟩
theorem uO {g:Gm} {gs:List Str} {st:dR} {x:Wt} {ds:List Dat} {d:Dat} (gm:DZ g gs) (sk:ng g gs st) (lk:look g.ps st.1=some x) (wx:jC g.cs gs x) (od:Gz g st x ds) (hd:d∈ds):∃w py cK,dY g st d w py cK/\ng g gs cK/\jB 20 py/\La w:=by
 have Eg:∀{rs:List Rw},rs=[]->d∈rs.map (λr=>Dat.str r.word)->False:=λe h=>by rw[e] at h;cases h
 cases x with
 | eC di t b rs=>
  obtain⟨ps,rfl,gl,rfl⟩:=od;obtain⟨Iw,e,_,oP,hv,hr⟩:=wx;have e:=gz e;subst e;obtain⟨v,Yn,rfl⟩:=abt.mp hd;obtain⟨v0,v1,r,ro⟩:=hv v Yn;have rm:r∈rs:=aa6 ro;obtain⟨to,gd⟩:=hr r rm;obtain⟨fF,x',ak,dZ,U2⟩:=gm.to _ to (r.2.2.1.foldl (iI g.cs v) st.2);exact⟨_,(t,b),(fF,r.2.2.1.foldl (iI g.cs v) st.2),.inr ⟨ps,t,b,rs,r,v,lk,gl,Yn,v0,v1,rfl,rfl,rfl,ro,rfl,ak⟩,⟨(c5 _ _).trans sk.len,Ep gm.most v0 _ _ gd sk.nn,x',dZ,U2⟩,oP,OP v0 v1⟩
 | pick sj rs=>
  obtain⟨_,nd,hr⟩:=wx;rw[show ds=_ from od] at hd;obtain⟨r,Yo,rfl⟩:=abt.mp hd;obtain⟨r',fd⟩:∃r',(d8 g.cs st.2 (.pick sj rs)).find? (λx=>decide (x.word=r.word))=some r':=by
   cases h:(d8 g.cs st.2 (.pick sj rs)).find? (λx=>decide (x.word=r.word)) with
   | some r'=>exact⟨r',rfl⟩
   | none=>exact absurd (List.find?_eq_none.mp h r Yo) (by simp)
  have rm:r'∈rs:=(List.mem_filter.mp (aa6 fd)).1;obtain⟨_,_,to,gd⟩:=hr r' rm;obtain⟨wd,_⟩:=hr r (List.mem_filter.mp Yo).1;obtain⟨fF,x',ak,dZ,U2⟩:=gm.to _ to (r'.ds.foldl (iI g.cs 0) st.2);exact⟨_,(0,1),(fF,r'.ds.foldl (iI g.cs 0) st.2),.inl ⟨sj,rs,r',lk,nd,fd,rfl,rfl,rfl,ak⟩,⟨(c5 _ _).trans sk.len,Ep gm.most (Int.le_refl _) _ _ gd sk.nn,x',dZ,U2⟩,jq 0 ∅ ∅,wd.1,aau wd.2.1 ∅,wd.2.2.1⟩
 | ask c k a b=>exact wx.elim
 | fin t b=>rw[show ds=_ from od] at hd;exact(Eg rfl hd).elim
 | score c=>rw[show ds=_ from od] at hd;exact(Eg rfl hd).elim
abbrev GQ (g:Gm) (st:dR) (x:Wt) (v:V):Prop:=(∃s,v=.str s/\∀r∈d8 g.cs st.2 x,r.word≠s)\/(∃n,v=.int n/\∀ps t b rs,x=.eC (List.map qF ps) t b rs->n∉gy ps)
theorem ky {H:Hp}:∀{rs:List Rw} {vs:List V},bg H (rs.map λr=>Dat.str r.word) vs->vs=rs.map λr=>V.str r.word
 | [],_,h=>bA.mp h
 | _::_,_,h=>by
  obtain⟨v,r,rfl,a,b⟩:=aU.mp h;rw[aT.mp a,ky b];rfl
theorem sS (rs:List Rw):(rs.map λr=>V.str r.word).all cY=true:=List.all_eq_true.mpr λx hx=>by
 obtain⟨i,_,rfl⟩:=abt.mp hx;rfl
theorem GR {H:Hp} {g:Gm} {st:dR} {x:Wt} {ds:List Dat} {eU:List V} {v:V} (od:Gz g st x ds) (r:bg H ds eU) (bad:GQ g st x v):cY v=true/\eU.all cY=true/\B3 v eU=false:=by
 have fv:cY v=true:=by rcases bad with ⟨s,rfl,_⟩ | ⟨n,rfl,_⟩ <;>rfl
 have RS:∀{rs:List Rw},d8 g.cs st.2 x=rs->ds=rs.map (λr=>Dat.str r.word)->eU.all cY=true/\B3 v eU=false:=λ{rs} eo e=>by
  subst e;obtain rfl:=ky r;refine⟨sS _,List.any_eq_false.mpr λy hy=>?_⟩;obtain⟨r',Bw,rfl⟩:=abt.mp hy;rcases bad with ⟨s,rfl,h⟩ | ⟨n,rfl,_⟩
  ·have:=h r' (by rw[eo];exact Bw);simp [tG,this]
  ·simp [tG]
 refine⟨fv,?_⟩;cases x with
 | eC di t b rs=>
  obtain⟨ps,rfl,gl,rfl⟩:=od;obtain rfl:=hU r;refine⟨jo _,?_⟩;rcases bad with ⟨s,rfl,h⟩ | ⟨n,rfl,h⟩
  ·refine List.any_eq_false.mpr λy hy=>?_;obtain⟨i,_,rfl⟩:=abt.mp hy;simp [tG]
  ·rw[oN,decide_eq_false (h ps t b rs rfl)]
 | ask c k a b=>exact RS rfl od
 | fin t b=>exact RS rfl od
 | score c=>exact RS rfl od
 | pick w rs=>exact RS rfl od
abbrev Tx (n:Nat) (z:Str):Prop:=z.cps.all (·<128)=true/\z.length<=n
abbrev yI (z:Str):Option Int:=if canon z.cps.toList/\Bx z.cps.toList<=999 then some ((Bx z.cps.toList:Nat):Int) else none
abbrev Mu:Option Int->V
 | some k=>.int k
 | none=>.bZ
abbrev qH (z:Str):Dat:=match yI z with
 | some k=>.int k
 | none=>.str z
abbrev sT (z:Str):V:=match yI z with
 | some k=>.int k
 | none=>.str z
set_option tactic.hygienic true in
theorem GS {z:Str} {v:Int} (h:yI z=some v):z=we v/\0<=v/\v<=999:=by
 unfold yI at h
 split at h
 ·rename_i c
  cases h;exact⟨(k8 ((mT c.1.1).mpr c.1.2)).symm,⋯,⋯⟩
 ·cases h
theorem Bp {g:Gm} {st:dR} {d:Dat} {w w':Str} {py Yp:Int×Int} {cK uV:dR} (h:dY g st d w py cK) (k:dY g st d w' Yp uV):py=Yp/\cK=uV/\w=w':=by
 rcases h with ⟨sj,rs,r,lk,_,fd,rfl,rfl,e2,ak⟩ | ⟨ps,t,b,rs,r,v,lk,_,_,_,_,rfl,rfl,rfl,ro,e2,ak⟩
 ·rcases k with ⟨U3,GA,r',dZ,_,BE,e,rfl,IK,IL⟩ | ⟨Iw,t',b',GA,r',v',dZ,_,_,_,_,e,_,_,_,_,_⟩
  ·rw[lk] at dZ;cases dZ
   injection e with e
   subst e;rw[fd] at BE;cases BE;rw[e2] at ak;rw[IK] at IL;rw[ak] at IL;exact⟨rfl,Prod.ext (aaC IL) (e2.trans IK.symm),rfl⟩
  ·cases e
 ·rcases k with ⟨U3,GA,r',dZ,_,BE,e,rfl,IK,IL⟩ | ⟨Iw,t',b',GA,r',v',dZ,_,_,_,_,e,rfl,rfl,Yq,IK,IL⟩
  ·cases e
  ·rw[lk] at dZ
   injection dZ with dZ
   injection dZ with _ l2 l3 l4
   subst l2 l3 l4
   injection e with e
   subst e;rw[ro] at Yq;cases Yq;rw[e2] at ak;rw[IK] at IL;rw[ak] at IL;exact⟨rfl,Prod.ext (aaC IL) (e2.trans IK.symm),rfl⟩
set_option tactic.hygienic true in
theorem Ad {g:Gm} {gs:List Str} {st:dR} {x:Wt} (gm:DZ g gs) (sk:ng g gs st) (lk:look g.ps st.1=some x) (wx:jC g.cs gs x) (z:Str):
  (∃py cK,dY g st (qH z) z py cK/\ng g gs cK/\jB 20 py/\La z)\/GQ g st x (sT z):=by
 obtain⟨ds,od,_⟩:=Eo (st:=st) wx
 by_cases hd:qH z∈ds
 ·obtain⟨w,py,cK,jj,Ae,oP,sw⟩:=uO gm sk lk wx od hd;have ew:w=z:=by
   rcases jj with ⟨_,_,_,_,_,_,e,_⟩ | ⟨_,_,_,_,_,v,_,_,_,_,_,e,e',_⟩
   ·unfold qH at e
    split at e
    ·cases e
    ·injection e with e
     exact e.symm
   ·unfold qH at e
    split at e
    ·rename_i k hk
     injection e with e
     rw[e',<-e];exact(GS hk).1.symm
    ·cases e
  subst ew;exact .inl ⟨py,cK,jj,Ae,oP,sw⟩
 ·refine .inr ?_;unfold qH at hd;unfold sT GQ
  split
  ·rename_i k hk
   rw[hk] at hd;refine .inr ⟨k,rfl,λps t b rs e hv=>hd ?_⟩;subst e;obtain⟨qs,e1,_,e2⟩:=od;rw[e2,<-gz e1];exact abt.mpr ⟨k,hv,rfl⟩
  ·rename_i hk
   rw[hk] at hd;refine .inl ⟨z,rfl,λr hr e=>hd ?_⟩;cases x with
   | eC di t b rs=>cases hr
   | ask c k a b=>exact wx.elim
   | fin t b=>cases hr
   | score c=>cases hr
   | pick sj rs=>
    rw[show ds=_ from od];exact abt.mpr ⟨r,hr,by rw[e]⟩
theorem qx {g:Gm} {st:dR} {x:Wt} {z:Str} {py:Int×Int} {cK:dR} (lk:look g.ps st.1=some x) (bad:GQ g st x (sT z)):¬dY g st (qH z) z py cK:=λh=>by
 rcases h with ⟨sj,rs,r,dZ,_,fd,e,_⟩ | ⟨ps,t,b,rs,r,v,dZ,_,hv,_,_,e,_⟩
 ·rw[lk] at dZ;cases dZ;have e:sT z=.str z:=by
   unfold qH at e;unfold sT
   split at e
   ·cases e
   ·rfl
  rw[e] at bad;rcases bad with ⟨s,e',h⟩ | ⟨n,e',_⟩
  ·injection e' with e'
   subst e';exact h r (aa6 fd) (by simpa using List.find?_some fd)
  ·cases e'
 ·rw[lk] at dZ;cases dZ;have e:sT z=.int v:=by
   unfold qH at e;unfold sT
   split at e
   ·injection e with e
    rw[e]
   ·cases e
  rw[e] at bad;rcases bad with ⟨s,e',_⟩ | ⟨n,e',h⟩
  ·cases e'
  ·injection e' with e'
   subst e';exact h _ _ _ _ rfl hv
theorem yJ {H:Hp} {z:Str}:Rep H (qH z) (sT z):=by
 unfold qH sT;cases yI z with
 | none=>exact aT.mpr rfl
 | some k=>exact bD.mpr rfl
theorem GU (z:Str):cY (sT z)=true:=by
 unfold sT;cases yI z <;>rfl
theorem Er {g:Gm} {st:dR} {x:Wt} {d:Dat} {w:Str} {py:Int×Int} {cK:dR} (lk:look g.ps st.1=some x) (h:dY g st d w py cK):K9 x=py:=by
 rcases h with ⟨sj,rs,r,dZ,_,_,_,rfl,_,_⟩ | ⟨ps,t',b,rs,r,v,dZ,_,_,_,_,_,_,rfl,_⟩
 ·rw[lk] at dZ;cases dZ;rfl
 ·rw[lk] at dZ;cases dZ;rfl
theorem GV {H:Hp} {g:Gm} {st:dR} {x:Wt} {ds:List Dat} {eU:List V} {z:Str} {py:Int×Int} {cK:dR} (lk:look g.ps st.1=some x) (od:Gz g st x ds) (r:bg H ds eU) (h:dY g st (qH z) z py cK):eU.all cY=true/\B3 (sT z) eU=true:=by
 rcases h with ⟨sj,rs,r0,dZ,_,fd,e,_⟩ | ⟨ps,t,b,rs,r0,v,dZ,_,hv,_,_,e,_⟩
 ·rw[lk] at dZ;cases dZ;rw[show ds=_ from od] at r;obtain rfl:=ky r;refine⟨sS _,List.any_eq_true.mpr ⟨_,abt.mpr ⟨r0,aa6 fd,rfl⟩,?_⟩⟩;have e0:=List.find?_some fd;rw[decide_eq_true_eq] at e0;have ev:=yJ (H:=H) (z:=z);rw[e] at ev;rw[aT.mp ev,e0];simp [tG]
 ·rw[lk] at dZ;cases dZ;obtain⟨qs,e1,_,e2⟩:=od;rw[e2] at r;obtain rfl:=hU r;have ev:=yJ (H:=H) (z:=z);rw[e] at ev;rw[bD.mp ev,oN,<-gz e1,decide_eq_true hv];exact⟨jo _,rfl⟩
theorem OQ {z:Str} (h:z≠aai ""):∃c,z.cps.toList[0]?=some c:=by
 cases e:z.cps.toList with
 | nil=>exact absurd (k8 (e.trans ∅)) h
 | cons c r=>exact⟨c,rfl⟩
open Classical in
abbrev GW (g:Gm) (st:dR) (z:Str):Option ((Int×Int)×dR):=if h:∃x:(Int×Int)×dR,dY g st (qH z) z x.1 x.2 then some h.choose else none
@[inline]abbrev Wk:=dR×(Int×Int)×List uY
abbrev RT (g:Gm) (o:Option Wk) (z:Str):Option Wk:=o.bind λs=>(GW g s.1 z).map λx=>(x.2,Wq.pl s.2.1 x.1,s.2.2++ [(z,s.1,s.2.1)])
abbrev c7 (g:Gm) (s0:dR) (ws:List Str):Option Wk:=ws.foldl (RT g) (some (s0,(0,1),[]))
theorem Es {g:Gm} {st:dR} {z:Str} {py:Int×Int} {cK:dR} (h:dY g st (qH z) z py cK):GW g st z=some (py,cK):=by
 unfold GW;have e:∃x:(Int×Int)×dR,dY g st (qH z) z x.1 x.2:=⟨(py,cK),h⟩
 rw[dif_pos e];obtain⟨e1,e2,_⟩:=Bp h e.choose_spec;rw[e1,e2]
theorem Et {g:Gm} {st:dR} {z:Str} (h:∀py cK,¬dY g st (qH z) z py cK):GW g st z=none:=by
 unfold GW;exact dif_neg fun⟨x,hx⟩=>h _ _ hx
theorem Af (g:Gm):∀ws:List Str,ws.foldl (RT g) none=none
 | []=>rfl
 | _::ws=>Af g ws
theorem sU {g:Gm} {s0:dR} {ws:List Str} {i:Nat} {w:Str} (h:ws[i]?=some w):c7 g s0 (ws.take (i+1))=RT g (c7 g s0 (ws.take i)) w:=by
 rw[aaK,h];unfold c7;rw[List.foldl_append];rfl
theorem Ag {g:Gm} {s0:dR} {ws:List Str} {i:Nat} (h:c7 g s0 (ws.take i)=none):c7 g s0 ws=none:=by
 have e:c7 g s0 ws=(ws.drop i).foldl (RT g) (c7 g s0 (ws.take i)):=by
  unfold c7;rw[<-List.foldl_append,List.take_append_drop]
 rw[e,h];exact Af g _
structure ja (g:Gm) (gs:List Str) (ws:List Str) (s:Wk):Prop where
 sk:ng g gs s.1
 hf:jB (20* (ws.length:Int)) s.2.1
 wd:s.2.2.map (·.1)=ws
 tw:∀e∈s.2.2,La e.1
theorem ja.ln {g:Gm} {gs ws:List Str} {s:Wk} (h:ja g gs ws s):s.2.2.length=ws.length:=by
 have:=congrArg List.length h.wd
 rwa [aaj] at this
theorem ja.nil {g:Gm} {gs:List Str} {s0:dR} (sk:ng g gs s0):ja g gs [] (s0,(0,1),[]):=⟨sk,jq 0 ∅ ∅,rfl,λe he=>by cases he⟩
theorem ja.snoc {g:Gm} {gs ws:List Str} {s:Wk} {z:Str} {py:Int×Int} {cK:dR} (h:ja g gs ws s) (sk:ng g gs cK) (hp:jB 20 py) (sw:La z):ja g gs (ws++ [z]) (cK,Wq.pl s.2.1 py,s.2.2++ [(z,s.1,s.2.1)]):=by
 refine⟨sk,(h.hf.pl hp).le (by rw[aat,aa8];lia),by rw[aaq,h.wd];rfl,λe he=>?_⟩;rcases List.mem_append.mp he with he | he
 ·exact h.tw e he
 ·rw[abu.mp he];exact sw
structure OR (g:Gm) (gs:List Str) (f:Str) (s0:dR):Prop where
 hd:(g.ps.map (·.1)).head?=some f
 ak:dW g (aby g.cs.length 0) 3 f=some s0.1
 ns:s0.2=aby g.cs.length 0
 sk:ng g gs s0
theorem LA {g:Gm} {gs:List Str} (gm:DZ g gs):∃f s0,OR g gs f s0:=by
 obtain⟨f,hf,hh⟩:=gm.hd;obtain⟨nm,x,ak,lk,wx⟩:=gm.to f hf (aby g.cs.length 0);exact⟨f,(nm,aby g.cs.length 0),hh,ak,rfl,abf,(λn hn=>by rw[List.eq_of_mem_replicate hn];decide),x,lk,wx⟩
abbrev Wd (n:Nat) (w:Str):Prop:=Tx n w/\32∉w.cps.toList
abbrev GX (K:abk) (H:Hp) (tv:V) (ws:Option (List Str)):Prop:=match ws with
 | none=>∃t,js K H tv t/\PySem.W.kitOne K t (.type "str")=some false
 | some ws=>∃z:Str,tv=.str z/\z.length<=10000/\ws.length<=60/\(∀w∈ws,Tx 30 w)/\((z=aai ""/\ws=[])\/(z≠aai ""/\Txt.split z (aai " ")=ws))
abbrev IM:Sp:=λvs H Q _=>eS vs λz=>qB z λz=>Tx 1000 z/\∀H',aB H H'->Q (.bl (decide (dig z.cps.toList))) H'
abbrev OS:Sp:=λvs H Q _=>∃z,vs=[.str z,.int 0,.int 999]/\Tx 1000 z/\∀H',aB H H'->Q (Mu (yI z)) H'
abbrev Ah:Sp:=λvs H Q _=>eS vs λz=>qB z λz=>Tx 1000 z/\∀H',aB H H'->Q (Mu (yI z)) H'
abbrev IP (qP qC qn:Addr):Sp:=λvs H Q E=>dj vs λp z=>dg p λp=>qB z λz=>∃(tl tb:Addr) (L:List Addr) (g:Gm) (gs:List Str) (st:dR) (pd:Int×Int) (tr:List uY),dz qP qC L H p tl tb g st pd tr/\DZ g gs/\ng g gs st/\jB 10000 pd/\tr.length<200/\Tx 1000 z/\((∀py cK,¬dY g st (qH z) z py cK)->∀ad H',K3 p tl tb H H'->E (.ref qn) (some ad) H')/\(∀py cK,dY g st (qH z) z py cK->ng g gs cK->jB 20 py->La z->∀H',K3 p tl tb H H'->dz qP qC L H' p tl tb g cK (Wq.pl pd py) (tr++ [(z,st,pd)])->Q .bZ H')
abbrev IQ (K:abk) (qP qC qn:Addr):Sp:=λvs H Q E=>dj vs λgv tv=>∃(g:Gm),Rep H (wj g) gv/\∃(gs:List Str),DZ g gs/\∃(f:Str) (s0:dR),OR g gs f s0/\∃(wo:Option (List Str)),GX K H tv wo/\(wo.bind (c7 g s0)=none->∀ad H',aB H H'->E (.ref qn) ad H')/\(∀s ws,wo=some ws->c7 g s0 ws=some s->ja g gs ws s->∀p tl tb H',aB H H'->H p=none->H tl=none->H tb=none->dz qP qC [p,tl,tb] H' p tl tb g s.1 s.2.1 s.2.2->Q (.ref p) H')
abbrev Eu:Sp:=λvs H Q _=>dj vs λgv l=>dg l λl=>∃(g:Gm),Rep H (wj g) gv/\∃(gs:List Str),DZ g gs/\∃(f:Str) (s0:dR),OR g gs f s0/\∃(ws:List Str),H l=some (.lst (List.map V.str ws))/\ws.length<=60/\(∀w∈ws,Tx 30 w)/\(c7 g s0 ws=none->∀H',aB H H'->Q .bZ H')/\(∀s,c7 g s0 ws=some s->ja g gs ws s->∀t sv pv H',aB H H'->H' t=some (.tup [sv,pv])->mj H' sv s.1.1 s.1.2->Rep H' (dA s.2.1) pv->Q (.ref t) H')
abbrev IS (K:abk):Sp:=λvs H Q _=>dj vs λsc gv=>dg sc λsc=>∃(ns:List Int),bw K H sc (List.map V.int ns)/\∃(g:Gm),Rep H (wj g) gv/\∃(gs:List Str),DZ g gs/\∃(f:Str) (s0:dR),OR g gs f s0/\∀(l:Addr) (H':Hp) (ws:List Str),aB H H'->H' l=some (.lst (List.map V.str ws))->ws.length<=20->(∀w∈ws,Wd 20 w)->Q (.ref l) H'
abbrev IT (K:abk):Sp:=λvs H Q _=>dj vs λsc l=>dg sc λsc=>dg l λl=>∃(ns:List Int),bw K H sc (List.map V.int ns)/\∃(ws:List Str),H l=some (.lst (List.map V.str ws))/\ws.length<=20/\(∀w∈ws,Wd 20 w)/\∀(l':Addr) (H':Hp) (Ew:List Str),aB H H'->H' l'=some (.lst (List.map V.str Ew))->Ew.length<=60->(∀w∈Ew,Wd 21 w)->Q (.ref l') H'
abbrev Ai (K:abk) (qP qC:Addr):Sp:=λvs H Q _=>dj vs λgv tv=>∃(g:Gm),Rep H (wj g) gv/\∃(gs:List Str),DZ g gs/\∃(f:Str) (s0:dR),OR g gs f s0/\∃(wo:Option (List Str)),GX K H tv wo/\(wo.bind (c7 g s0)=none->∀l H',aB H H'->H' l=some (.lst [.bl true])->Q (.ref l) H')/\(∀s ws,wo=some ws->c7 g s0 ws=some s->ja g gs ws s->∀p tl tb H',aB H H'->H p=none->H tl=none->H tb=none->dz qP qC [p,tl,tb] H' p tl tb g s.1 s.2.1 s.2.2->Q (.ref p) H')
theorem sV {z:Str} (d:dig z.cps.toList):PySem.intText? z=some ((Bx z.cps.toList:Nat):Int)/\(((Bx z.cps.toList:Nat):Int)).natAbs.log2<1920:=by
 have zl:z.cps.toList.length=z.length:=aaT;have d2:=d.2.1;have vl:=d.lt;refine⟨PySem.intText_digits d.all (by intro y;have:=d.1;rw[y] at this;simp at this) ⋯,?_⟩;have:(((Bx z.cps.toList:Nat):Int)).natAbs.log2<60:=by
  by_cases y:(((Bx z.cps.toList:Nat):Int)).natAbs=0
  ·rw[y];decide
  ·exact(Nat.log2_lt y).mpr ⋯
 lia
theorem Ey {z:Str} (h:z=aai ""\/3<z.length\/lead z.cps.toList):yI z=none:=if_neg fun⟨⟨d,nl⟩,v⟩=>by
 have zl:z.cps.toList.length=z.length:=aaT;rcases h with rfl | h | h
 ·exact absurd d.1 ∅
 ·have k:∀n∈List.range 1000,(we ((n:Nat):Int)).cps.toList.length<=3:=∅
  have:=k _ (List.mem_range.mpr (Nat.lt_succ_of_le v));rw[(mT d).mpr nl] at this;lia
 ·exact nl h
theorem LB {z:Str} (d:dig z.cps.toList) (l3:z.length<=3) (nl:¬lead z.cps.toList):yI z=some ((Bx z.cps.toList:Nat):Int):=by
 have zl:z.cps.toList.length=z.length:=aaT;have:=aaB (Dt _ d.all) (abh ∅ (show z.cps.toList.length<=3 by lia));exact if_pos ⟨⟨d,nl⟩,⋯⟩
theorem LC {z:Str} {c:Nat} (h:z.cps.toList[0]?=some c):lead z.cps.toList↔c=48/\1<z.length:=by
 have zl:z.cps.toList.length=z.length:=aaT;unfold lead;rw[List.head?_eq_getElem?,h,zl];exact⟨λh=>⟨aaC h.2,h.1⟩,λh=>⟨h.2,by rw[h.1]⟩⟩
theorem LD {w:Str} (h:BC w):Wd 20 w:=by
 refine⟨⟨?_,aau h.2.1 ∅⟩,λm=>by have:=(h.2.2.2 32 m).1;lia⟩;rw[<-Array.all_toList,List.all_eq_true];intro c hc;have:=h.2.2.2 c hc;simp only[decide_eq_true_eq];lia
theorem LF {v:Int} (v0:0<=v) (v1:v<=1000):Wd 20 (we v):=by
 have h:∀n∈List.range 1001,((we ((n:Nat):Int)).cps.all (·<128)=true/\(we ((n:Nat):Int)).length<=20)/\32∉(we ((n:Nat):Int)).cps.toList:=∅
 have e:v=((v.toNat:Nat):Int):=⋯
 have:=h v.toNat (List.mem_range.mpr ⋯)
 rwa [<-e] at this
theorem GY {g:Gm} {gs:List Str} {st:dR} {x:Wt} {d:Dat} {w:Str} {py:Int×Int} {cK:dR} (lk:look g.ps st.1=some x) (wx:jC g.cs gs x) (h:dY g st d w py cK):Wd 20 w:=by
 rcases h with ⟨sj,rs,r,dZ,_,fd,_⟩ | ⟨ps,t,b,rs,r,v,dZ,_,_,v0,v1,_,rfl,_⟩
 ·rw[lk] at dZ;cases dZ;have e0:=List.find?_some fd;rw[decide_eq_true_eq] at e0;rw[<-e0];exact LD (wx.2.2 r (List.mem_filter.mp (aa6 fd)).1).1
 ·exact LF v0 v1
theorem Wd.le {m n:Nat} {w:Str} (h:Wd m w) (l:m<=n):Wd n w:=⟨⟨h.1.1,aau h.1.2 l⟩,h.2⟩
theorem cut_str (ws:List Str) (lo hi:Option Int):∃us:List Str,vj (List.map V.str ws) lo hi=List.map V.str us/\us.length<=ws.length/\∀u∈us,u∈ws:=by
 unfold vj;rw[<-List.map_drop,<-aa5];exact⟨_,rfl,by rw[aaD,List.length_drop];lia,λu hu=>List.mem_of_mem_drop (List.mem_of_mem_take hu)⟩
theorem GZ {K:abk} {H:Hp} {l p q:Addr} {ws u1 u2:List Str} {lo hi:Option Int} {Q:VK} (hl:H l=some (.lst (List.map V.str ws))) (h1:H p=some (.lst (List.map V.str u1))) (h2:H q=some (.lst (List.map V.str u2))) (b0:ws.length<=20) (b1:u1.length<=20) (b2:u2.length<=20)
  (fin:∀r H' us,aB H H'->H' r=some (.lst (List.map V.str us))->us.length<=60->(∀u∈us,u∈u1\/u∈u2\/u∈ws)->Q (.ref r) H'):B7 (.ref p) (.ref q) H (λx H1=>∃v,bw K H1 l v/\∀r,H1 r=none->B7 x (.ref r) (upd H1 r (.lst (vj v lo hi))) Q):=by
 have OT:=sizeLine_eq;refine⟨p,q,_,_,rfl,rfl,h1,h2,by rw[aaj,aaj];lia,λr n=>⟨_,bw.of (aj n _ _ hl),λr2 n2=>?_⟩⟩;obtain⟨u3,e3,b3,m3⟩:=cut_str ws lo hi;rw[e3];refine⟨r,r2,_,_,rfl,rfl,aj n2 _ _ ai,ai,by rw[aat,aaj,aaj,aaj];lia,λr3 n3=>fin r3 _ (u1++u2++u3) ((aj n).trans ((aj n2).trans (aj n3))) (by rw[ai,aaq,aaq]) (by rw[aat,aat];lia) λu hu=>?_⟩;rcases List.mem_append.mp hu with hu | hu
 ·rcases List.mem_append.mp hu with hu | hu
  ·exact .inl hu
  ·exact .inr (.inl hu)
 ·exact .inr (.inr (m3 u hu))
abbrev G0:List Str:=[aai "0",aai "1",aai "7",aai "go",aai "a",aai "999",aai "-1",aai "1000"]
theorem LG:∀o∈G0,Wd 21 o:=by unfold Wd Tx;ac_rfl
theorem Wd.LH {w:Str} (h:Wd 20 w):Wd 21 (aai "0"++w):=by
 have e:(aai "0"++w).cps.toList=48::w.cps.toList:=by
  rw[Str.cps_append,Array.toList_append,show(aai "0").cps.toList=[48] by ac_rfl];rfl
 have a:=h.1.1;rw[<-Array.all_toList,List.all_eq_true] at a;refine⟨⟨?_,?_⟩,?_⟩
 ·rw[<-Array.all_toList,e,List.all_cons,List.all_eq_true.mpr a];rfl
 ·rw[Str.length_append,show(aai "0").length=1 by ac_rfl];have:=h.1.2;lia
 ·rw[e];exact λm=>(aaX.mp m).elim ∅ h.2
abbrev yK (g:Gm) (gs:List Str) (s0:dR) (us:List Str) (H:Hp) (d:V):Prop:=(c7 g s0 us=none->d=.bZ)/\∀s,c7 g s0 us=some s->∃t sv pv,d=.ref t/\H t=some (.tup [sv,pv])/\mj H sv s.1.1 s.1.2/\Rep H (dA s.2.1) pv
theorem yK.mono {g:Gm} {gs:List Str} {s0:dR} {us:List Str} {H H':Hp} {d:V} (h:yK g gs s0 us H d) (s:aB H H'):yK g gs s0 us H' d:=⟨h.1,λx hx=>by
 obtain⟨t,sv,pv,e,h1,h2,h3⟩:=h.2 x hx;exact⟨t,sv,pv,e,s _ _ h1,h2.mono s,h3.mono s⟩⟩
theorem Ez {g:Gm} {gs:List Str} {s0:dR} {us:List Str} {H:Hp} (no:c7 g s0 us=none):yK g gs s0 us H .bZ:=⟨λ_=>rfl,λs h=>by rw[no] at h;cases h⟩
theorem Aj {g:Gm} {gs:List Str} {s0:dR} {us:List Str} {H:Hp} {s:Wk} {t:Addr} {sv pv:V} (hw:c7 g s0 us=some s) (ht:H t=some (.tup [sv,pv])) (mX:mj H sv s.1.1 s.1.2) (Bq:Rep H (dA s.2.1) pv):yK g gs s0 us H (.ref t):=⟨λh=>(by rw[hw] at h;cases h),λs' h=>by rw[hw] at h;cases h;exact⟨t,sv,pv,rfl,ht,mX,Bq⟩⟩
theorem lZ {H:Hp} {l:Addr} (h:H l=some (.lst [.bl true])):Rep H (.lst [.bl true]) (.ref l):=ba.mpr ⟨l,_,rfl,h,aU.mpr ⟨_,_,rfl,by rw[Rep],bA.mpr rfl⟩⟩
theorem G1 (ws:List Str):(List.map V.str ws).all cY=true:=List.all_eq_true.mpr λx hx=>by
 obtain⟨i,_,rfl⟩:=abt.mp hx;rfl
theorem G3 (ws:List Str) (y:Str):Fo (List.map V.str ws) [V.str y]=decide (ws=[y]):=by
 match ws with
 | []=>rfl
 | [w]=>
  show((tG (V.str w) (V.str y) && true) && true)=_;rw[Bool.and_true,Bool.and_true]
  by_cases h:w=y <;>simp [tG,h]
 | a::b::r=>
  rw[zj (by simp),decide_eq_false (by simp)]
theorem wX (sep a b:Str) (r:List Str):Txt.join sep (a::b::r)=a++sep++Txt.join sep (b::r):=by
 unfold Txt.join;rw[StrLaws.glued_eq_join,StrLaws.glued_eq_join];rfl
theorem join_one (sep a:Str):Txt.join sep [a]=a:=by
 unfold Txt.join;rw[StrLaws.glued_eq_join];rfl
theorem wY {sep:Str} {B:Nat}:∀{ts:List Str},(∀t∈ts,t.length<=B)->(Txt.join sep ts).length<=ts.length* (B+sep.length)
 | [],_=>by
  have:(Txt.join sep []).length=0:=rfl;lia
 | [a],h=>by
  rw[join_one];have:=h a (by simp);simp;lia
 | a::b::r,h=>by
  rw[wX,strLen_append,strLen_append];have h1:=h a (by simp);have h2:=wY (sep:=sep) (ts:=b::r) λt ht=>h t (aap _ ht);rw[aaw,Nat.succ_mul];lia
theorem LI (K:abk) (H:Hp) (ws:List Str) (IU:ws.length<=60) (wd:∀w∈ws,Wd 21 w):∃us,GX K H (.str (Txt.join (aai " ") ws)) (some us)/\((us=ws/\ws≠[aai ""])\/(ws=[aai ""]/\us=[])):=by
 have RU:aai " "=⟨#[32]⟩:=∅
 have jl:(Txt.join (aai " ") ws).length<=10000:=by
  have:=wY (sep:=aai " ") (B:=21) (ts:=ws) λw hw=>(wd w hw).1.2;rw[show(aai " ").length=1 by ac_rfl] at this;lia
 have tw:∀w∈ws,Tx 30 w:=λw hw=>((wd w hw).le ∅).1
 by_cases e1:ws=[aai ""]
 ·subst e1;exact⟨[],⟨_,rfl,jl,∅,(λw hw=>by cases hw),.inl ⟨by rw[join_one],rfl⟩⟩,.inr ⟨rfl,rfl⟩⟩
 ·refine⟨ws,⟨_,rfl,jl,IU,tw,?_⟩,.inl ⟨rfl,e1⟩⟩;cases ws with
  | nil=>exact .inl ⟨rfl,rfl⟩
  | cons a r=>
   refine .inr ⟨λy=>?_,?_⟩
   ·cases r with
    | nil=>rw[join_one] at y;exact e1 (by rw[y])
    | cons b r=>
     have y:=congrArg Str.length y;rw[wX,Str.length_append,Str.length_append,show(aai "").length=0 by ac_rfl,show(aai " ").length=1 by ac_rfl] at y;lia
   ·rw[RU,x8 32 (by simp) λw hw=>(wd w hw).2]
theorem Ac {k:Str} {a b c d:V} (h1:(k==aai "course")=false:=by ac_rfl) (h2:(k==aai "state")=false:=by ac_rfl) (h3:(k==aai "paid")=false:=by ac_rfl) (h4:(k==aai "trail")=false:=by ac_rfl):List.lookup k (kB a b c d)=none:=by
 unfold kB;rw[bT h1,bT h2,bT h3,bT h4];rfl
abbrev G4 (s:Str×List Int):Dat:=.tup [.str s.1,.lst (s.2.map Dat.int)]
theorem uP {H:Hp} {a l:Addr} {s:Str×List Int} (h:H a=some (.tup [.str s.1,.ref l])) (h2:H l=some (.lst (s.2.map V.int))):Rep H (G4 s) (.ref a):=bI.mpr ⟨a,_,_,rfl,h,aT.mpr rfl,ba.mpr ⟨l,_,rfl,h2,ints_rep _⟩⟩
theorem EA {s:Str×List Int}:depth (G4 s)<=40:=by
 show 1+max 0 (max (1+depth.dL _) 0)<=40;have:=pL (ds:=s.2.map Dat.int) (n:=0) λd hd=>by obtain⟨i,_,rfl⟩:=abt.mp hd;exact aam _
 lia
theorem uQ {tc:TT} {a b:TS} {D:Ends} {σ:L2.St} {H:Hp} (C:Hp->Prop) (h2:∀H',C H'->b D σ H') (ht:∀N:Hp->Prop,(∀H',C H'->N H')->∀Y:Hp->Prop,tc σ H λv H'=>if v=true then Y H' else N H'):tIfS tc a b D σ H:=xX (λ_=>False) C (λ_ f=>f.elim) h2 λY N _ hN=>ht N hN Y
theorem OU {K:abk}:PySem.W.specialIn K (.builtin "object.__class__") "__get__"=some (some (.builtin "getset_descriptor.__get__")):=by rfl
theorem OV {K:abk}:PySem.W.takesIn K (.builtin "object.__class__")=some true:=by rfl
structure EB (qP qC:Addr) (H0 X Hb:Hp) (p tl tb:Addr) (g:Gm) (nm:Str):Prop where
 sm:aB H0 Hb
 np:H0 p=none/\H0 tl=none/\H0 tb=none
 ex:∃Y dp c sv pv,(∀a o,Y a=some o->a∉[p,tl,tb]/\Hb a=some o/\(H0 a=none\/X a=some o))/\Hb p=some (.ins qP dp (kB (.ref c) sv pv (.ref tl)))/\Hb tl=some (.lst [])/\Hb tb=some (.dK [])/\Bf qC Y c g tb/\mj Y sv nm (aby g.cs.length 0)/\Rep Y (dA (0,1)) pv
theorem EB.OW {qP qC:Addr} {H0 X Hb Hf:Hp} {p tl tb:Addr} {g:Gm} {nm:Str} {L:List Addr} (h:EB qP qC H0 X Hb p tl tb g nm) (s:aB Hb Hf) (hL:∀a o,(H0 a=none\/X a=some o)->a∉[p,tl,tb]->Hb a=some o->a∉L) (m:p∈L/\tl∈L/\tb∈L) (al:∀a∈L,∃o,Hf a=some o/\∀vs,o≠.tup vs) (gg:GoodG g):dz qP qC L Hf p tl tb g (nm,aby g.cs.length 0) (0,1) []:=by
 obtain⟨Y,dp,c,sv,pv,hY,h1,h2,h3,h4,h5,h6⟩:=h.ex;have sY:aB Y (cg L Hf):=λa o e=>by
  obtain⟨y1,y2,y3⟩:=hY a o e;rw[cW (hL a o y3 y1 y2)];exact s _ _ y2
 exact⟨m,al,⟨dp,c,sv,pv,[],s _ _ h1,h4.mono sY,h5.mono sY,h6.mono sY,s _ _ h2,trivial⟩,⟨[],s _ _ h3,List.nodup_nil,(λk hk=>by cases hk),λnm v e=>by cases e⟩,gg,abf,λe he=>by cases he⟩
theorem G5 {qP qC:Addr} {H0 X H':Hp} {x dx c tl tb:Addr} {sv pv:V} {g:Gm} {nm:Str} (sx:aB X H0) (nx:H0 x=none) (RV:H0 dx=none) (kH:∀a o,a≠x->upd (upd H0 dx (.own x)) x (.ins qP dx []) a=some o->H' a=some o) (xi:upd (upd H0 dx (.own x)) x (.ins qP dx []) tl=none) (kA:upd (upd H0 dx (.own x)) x (.ins qP dx []) tb=none)
  (h1:H' x=some (.ins qP dx (kB (.ref c) sv pv (.ref tl)))) (h2:H' tl=some (.lst [])) (h3:H' tb=some (.dK [])) (co:Bf qC (cg [x,tl,tb] (nw (df (upd (upd H0 dx (.own x)) x (.ins qP dx [])) x) X H')) c g tb) (st:mj (cg [x,tl,tb] (nw (df (upd (upd H0 dx (.own x)) x (.ins qP dx [])) x) X H')) sv nm (aby g.cs.length 0)) (rp:Rep (cg [x,tl,tb] (nw (df (upd (upd H0 dx (.own x)) x (.ins qP dx [])) x) X H')) (dA (0,1)) pv):EB qP qC H0 X H' x tl tb g nm:=by
 have up:∀a o,H0 a=some o->upd (upd H0 dx (.own x)) x (.ins qP dx []) a=some o:=λa o h=>by
  rw[aD (λz=>by rw[z,nx] at h;cases h),aD (λz=>by rw[z,RV] at h;cases h)];exact h
 have s0:aB H0 H':=λa o h=>kH a o (λz=>by rw[z,nx] at h;cases h) (up a o h);have dn:∀{a},upd (upd H0 dx (.own x)) x (.ins qP dx []) a=none->H0 a=none:=λ{a} h=>by
  cases e:H0 a with
  | none=>rfl
  | some o=>rw[up a o e] at h;cases h
 refine⟨s0,⟨nx,dn xi,dn kA⟩,_,dx,c,sv,pv,λa o h=>?_,h1,h2,h3,co,st,rp⟩;obtain⟨c1,h⟩:=gi h;have ax:a≠x:=λz=>c1 (by rw[z];simp);cases e:df (upd (upd H0 dx (.own x)) x (.ins qP dx [])) x a with
 | none=>
  rw[cf e] at h;rw[cQ ax] at e;exact⟨c1,h,.inl (dn e)⟩
 | some o'=>
  unfold nw at h;rw[e] at h;exact⟨c1,s0 _ _ (sx _ _ h),.inr h⟩
theorem jZ:aV ["text"] ["text"] (au (top 16)):=.mk
theorem LJ (T:0|||0):(1<<<"is_figures") ["text"] IM:=by
 refine T.tY.dE (λ_ _ _ _ _ _=>gq λ_=>rfl) λf fd F=>F.d4 jZ (λvs H Q E h=>?_) (λbR A outer s H vs Q E hr h=>?_)
 ·obtain⟨_,rfl,_⟩:=Me h;rfl
 ·symm;obtain⟨z,rfl,⟨az,lz⟩,kk⟩:=Me h;nofun;have nd:=jZ.nd;refine⟨_,(aq (aQ (o8 (BR nv nv ae (aY mH (by rfl) T.z_len aaA (aa (pv 0) af)) (gW rfl T.c_MOST_FIGURES)) (o5 (aY (vE (K:=K)) (by rfl) T.z_all rfl (aa (b5 rfl (N:=["text"]) (so:=au (top 16)) (N':=["sign"]) (k:=1) (fr:=[]) rfl rfl ⟨rfl,∅,∅,∅,rfl,∅,∅⟩ (CU (pv 0)) (λ_ _ _ _ _=>(a5 (i:=0) (show(["sign"]:List Str).Nodup by ac_rfl) rfl (.inl rfl))) (λ_ _ _ _ _=>cV)
   (λ_ _ _ _ _=>(eX AA (pv 0) (CV rfl T.c_FIGURES) rfl))) af)))))),?_⟩
  have sl:=sizeLine_eq;have zl:z.cps.toList.length=z.length:=aaT;dsimp?[];have no:¬(1<=z.length/\z.length<=12)->Q (.bl false) H:=λn=>by
   have:=kk H (aB.refl _);rw[decide_eq_false λd:dig z.cps.toList=>n ⟨by have:=d.1;lia,by have:=d.2.1;lia⟩] at this;exact this
  refine⟨⋯,eI (λc1=>eI (λc2=>?_) (λc2=>no ⋯)) (λc1=>no ⋯)⟩;refine⟨az,?_⟩;have S:Src (Rl z) (aB H) z.cps.toList.length (λi x H H3=>H3=H/\∃c,z.cps[i]?=some c/\x=.str ⟨#[c]⟩):=by rw[aaT];exact zo
  refine dP z.cps.toList (λc=>some (.bl (decide (c∈Kz.cps.toList)))) S (λ_ _ _ _ h=>h.1) ⋯ ?_ ?_
  ·intro i c x ec p4_ Y N y1 _;symm;obtain⟨_,c',Yr,rfl⟩:=p4_;nofun;rw[Array.getElem?_toList] at ec;rw[ec] at Yr;cases Yr;dsimp?[mC,StrLaws.found_one];exact y1 _ rfl
  ·intro D n1 n2;rw[abi];refine⟨z.cps.toList.map λc=>decide (c∈Kz.cps.toList),?_,?_⟩
   ·rw[aaJ];exact bw.of ai
   ·have e:(z.cps.toList.map λc=>decide (c∈Kz.cps.toList)).all id=decide (dig z.cps.toList):=by
     rw[Bool.eq_iff_iff,decide_eq_true_eq,List.all_map,List.all_eq_true];exact⟨λa=>⟨⋯,⋯,λc hc=>by simpa using a c hc⟩,λd c hc=>by simpa using d.2.2 c hc⟩
    rw[e];exact kk _ (aj n2)
theorem nZ:aV ["text","least","most","number"] ["text","least","most"] (au (top 17)):=.mk
theorem OX (T:0|||0):(2<<<"whole_in") ["text","least","most"] OS:=by
 have uR:=LJ T;refine T.ye.dE (λ_ _ _ _ _ _=>rC λ_ _ _=>rfl) λf fd F=>F.d4 nZ (λvs H Q E h=>?_) (λbR A outer s H vs Q E hr h=>?_)
 ·obtain⟨_,rfl,_⟩:=h;rfl
 ·symm;obtain⟨z,rfl,tz,kk⟩:=h;nofun;have nd:=nZ.nd;refine⟨_,(ag (bc (xp (iM (aN uR (aa (pv 0) af)))) (aq (aQ fi))
   aX)
  (ag (aK (i:=3) (cX pM (by rfl) T.z_int rfl (aa (pv 0) af)))
  (aq (aQ (gL (PW.pt (pw_and (aL bq (cX pK (by rfl) T.z_str rfl (aa (pv 3) af)) (pv 0) (aR _)) (pw_and1 (pf nv nv (pv 1) (pv 3) (pv 2))))) (pv 3) fi))))),?_⟩
  refine(?_:let bO:TS:=_;let bP:TS:=_;let bQ:TS:=_;tSeq bO (tSeq bP bQ) _ _ _);intro bO bP bQ;dsimp?[IM];refine⟨tz,λH1 s1=>?_⟩;have kk:=kk H1 s1;unfold yI at kk;have zl:z.cps.toList.length=z.length:=aaT
  by_cases d:dig z.cps.toList
  case neg=>
   rw[if_neg (λk=>d k.1.1)] at kk;rw[if_pos d];exact kk
  obtain⟨rd,lg⟩:=sV d;have d2:=d.2.1;rw[if_neg (λh=>h d)];have tl:aai (toString ((Bx z.cps.toList:Nat):Int))=z↔¬lead z.cps.toList:=by
   rw[<-mT d];exact⟨λe=>by show(aai _).cps.toList=_;rw[e],λe=>k8 e⟩
  refine⟨⋯,_,rd,lg,?_⟩
  by_cases ld:lead z.cps.toList
  ·rw[if_neg (λe=>tl.mp e ld),if_neg ∅];rw[if_neg (λk=>k.1.2 ld)] at kk;exact kk
  ·rw[if_pos (tl.mpr ld),if_pos ⋯]
   by_cases v2:Bx z.cps.toList<=999
   ·rw[if_pos ⋯];rw[if_pos ⟨⟨d,ld⟩,v2⟩] at kk;exact kk
   ·rw[if_neg ⋯];rw[if_neg (λk=>v2 k.2)] at kk;exact kk
theorem gF:aV ["word"] ["word"] (au (top 47)):=.mk
theorem LK (T:0|||0):(3<<<"value_of_plays") ["word"] Ah:=by
 have yL:=OX T;refine T.mO.dE (λ_ _ _ _ _ _=>gq λ_=>rfl) λf fd F=>F.d4 gF (λvs H Q E h=>?_) (λbR A outer s H vs Q E hr h=>?_)
 ·obtain⟨_,rfl,_⟩:=Me h;rfl
 ·symm;obtain⟨z,rfl,tz,kk⟩:=Me h;nofun;have nd:=gF.nd;refine⟨_,(aq (aQ (aN yL (aa (pv 0) (aa ae (aa (gW rfl T.c_MOST_VALUE) af)))))),?_⟩;dsimp?[OS];exact⟨tz,kk⟩
theorem l8:aV ["play","word","value","refusal"] ["play","word"] (au (top 49)):=.mk
theorem LL (T:0|||0):(10<<<"take_step") ["play","word"] (IP aF ah aE):=by
 have nk:=LK T;have kz:=DV T;have iy:=DX T;refine T.vO.dE (λ_ _ _ _ _ _=>dQ λ_ _=>rfl) λf fd F=>F.HB l8 (λvs H Q E h=>?_) (λbR A outer s H vs Q E hr h=>?_)
 ·obtain⟨_,_,rfl,_⟩:=F1 h;rfl
 ·symm;obtain⟨p,z,rfl,tl,tb,L,g,gs,st,pd,tr,pl,gm,sk,hf,Bk,tz,kE,kQ⟩:=F1 h;nofun;have nd:=l8.nd;have yp:A.handled=none:=hr.hd;refine⟨_,(ag (aK (i:=2) (aN nk (aa (pv 1) af)))
  (aq (F0 (i:=3) (aL sZ (pv 2) fi (aR _)) kz T.a7 (pv 0) (hr.mono ∅) (aa (pv 1) af) iy T.a7 (pv 0) (hr.mono ∅) (aa (pv 2) af) rfl rfl rfl FX rfl T.k_NoStep rfl T.k_TooMany nd rfl rfl rfl T.k_NoPlay T.x_NoPlay (λad=>(aa aZ af)) (he2:=se rfl) (hpl2:=na rfl) (he3:=se rfl) (hpl3:=na rfl)))),?_⟩
  have xn:PySem.W.exmAny K (Value.ref aI) [Value.ref aI,Value.ref aA]=some true:=zy T.e_NoStep_NoStep T.f_NoStep_TooMany;have xm:PySem.W.exmAny K (Value.ref aA) [Value.ref aI,Value.ref aA]=some true:=zy T.f_TooMany_NoStep T.e_TooMany_TooMany;have sl:=sizeLine_eq;symm;obtain⟨x,lk,wx⟩:=sk.at_;nofun;have so:=Ad gm sk lk wx z;dsimp?[Ah,HM,De,bS,DS,DW];refine⟨tz,λH1 s1=>?_⟩;have p1:=pl.same s1;symm;obtain⟨dp,c,BB,U4,Tf,hpl,_⟩:=p1.ex;nofun;cases hw:yI z with
  | none=>
   have e1:sT z=.str z:=by unfold sT;rw[hw]
   rw[if_pos (show Mu none=V.bZ from rfl)];refine⟨_,_,hpl,Ac,tl,tb,L,g,st,pd,tr,p1,⋯,x,lk,hf.le ∅,λno H2 s2=>⟨⟨_,rfl,T.x_NoStep⟩,xn,λad Kl=>⟨⋯,ai,kE (λpy cK=>qx lk ?_) ad _ (.of (s1.trans (s2.trans (aj Kl))))⟩⟩,λr er=>?_⟩
   ·rw[e1];exact .inl ⟨z,rfl,λr hr e=>absurd (List.find?_eq_none.mp no r hr) (by simp [e])⟩
   ·rcases so with ⟨py,cK,jj,Ae,oP,sw⟩ | bad
    ·have LM:=jj;rcases jj with ⟨sj,rs,r',dZ,_,BE,_,rfl,e2,ak⟩ | ⟨ps,t',b,rs,r,v,dZ,gl,hv,v0,v1,e,_⟩
     ·rw[lk] at dZ;cases dZ;rw[BE] at er;cases er;have sQ:=ak;rw[e2] at sQ;refine⟨3,cK.1,sQ,λh=>absurd h ⋯,λ_ H2 k2 p2=>kQ (0,1) cK LM Ae oP sw H2 ((K3.of s1).trans k2) ?_⟩;rw[<-e2] at p2;exact p2
     ·unfold qH at e;rw[hw] at e;cases e
    ·rw[e1] at bad;rcases bad with ⟨y,e,h⟩ | ⟨n,e,_⟩
     ·injection e with e
      subst e;exact absurd (by simpa using List.find?_some er) (h r (aa6 er))
     ·cases e
  | some v=>
   have e1:sT z=.int v:=by unfold sT;rw[hw]
   rw[if_neg (show ¬Mu (some v)=V.bZ from λh=>by cases h)];refine⟨_,_,hpl,Ac,v,rfl,tl,tb,L,g,st,pd,tr,p1,⋯,x,lk,λdi t b rs e=>?_,hf.le ∅,λno H2 k2 p2=>⟨⟨_,rfl,T.x_NoStep⟩,xn,λad Kl=>⟨⋯,ai,kE (λpy cK=>qx lk ?_) ad _ ((K3.of s1).trans (k2.trans (.of (aj Kl))))⟩⟩,λps t b rs e hv=>?_⟩
   ·subst e;symm;obtain⟨ps,e,gl,_⟩:=wx;nofun;exact⟨ps,e,gl⟩
   ·rw[e1];exact .inr ⟨v,rfl,no⟩
   ·subst e;rcases so with ⟨py,cK,jj,Ae,oP,sw⟩ | bad
    ·have LM:=jj;rcases jj with ⟨sj,rs,r',dZ,_,BE,e,_⟩ | ⟨Iw,t',b',GA,r,v',dZ,gl,SH,v0,v1,e,ez,rfl,ro,e2,ak⟩
     ·unfold qH at e;rw[hw] at e;cases e
     ·have ev:v=v':=by
       unfold qH at e;rw[hw] at e
       injection e
      subst ev;rw[lk] at dZ
      injection dZ with dZ
      injection dZ with l1 l2 l3 l4
      subst l2 l3 l4;have sQ:=ak;rw[e2] at sQ;refine⟨v0,v1,oP.le ∅,r,ro,3,cK.1,sQ,λh=>absurd h ⋯,λ_ H2 k2 p2=>kQ (t,b) cK LM Ae oP sw H2 ((K3.of s1).trans k2) ?_⟩;rw[<-e2,<-ez] at p2;exact p2
    ·rw[e1] at bad;rcases bad with ⟨y,e,_⟩ | ⟨n,e,h⟩
     ·cases e
     ·injection e with e
      subst e;exact absurd hv (h _ _ _ _ rfl)
theorem me:aV ["game","text","play","words","word"] ["game","text"] (au (top 50)):=.mk
theorem LN (T:0|||0):(11<<<"read_play") ["game","text"] (IQ K aF ah aE):=by
 have wZ:=LL T;have LO:=KP T;refine T.vP.dE (λ_ _ _ _ _ _=>dQ λ_ _=>rfl) λf fd F=>F.HB me (λvs H Q E h=>?_) (λbR A outer s H vs Q E hr h=>?_)
 ·obtain⟨_,_,rfl,_⟩:=oo h;rfl
 ·symm;obtain⟨gv,tv,rfl,g,rg,gs,gm,ft,s0,oA,wo,ask,kE,kQ⟩:=oo h;nofun;clear G_;have nd:=me.nd;have yp:A.handled=none:=hr.hd;refine⟨_,(ag (bc (xp (iM (aY (gR (K:=K)) (by rfl) T.z_isinstance rfl (aa (pv 1) (aa (jg (v:=V.ty "str") rfl T.z_str rfl rfl) af))))) (aq (fg rfl T.k_NoPlay T.x_NoPlay yp (aa aZ af)))
   aX)
  (ag (aK (i:=2) (HH LO (hr.mono ∅) rfl kR.pass (aa (pv 0) af)))
  (ag (aK (i:=3) (gL (aL pe (pv 1) aZ (aR _)) (fe PySem.F.plainAttrs_str PySem.F.slot_str_split PySem.F.type_str_split CS (pv 1) (aa aZ af)) (bH af)))
  (ag (b6 PassesOwn.leaving rfl (bh (K:=K) (pv 3)) (a5 (i:=4) nd rfl (.inl rfl)) (aq (bU (aN wZ (aa (pv 2) (aa (pv 4) af)) (hx:=tN)))))
  (aq (aQ (pv 2))))))),?_⟩
  refine(?_:let bO:TS:=_;let bP:TS:=_;let bQ:TS:=_;let cO:TS:=_;let lH:TS:=_;tSeq bO (tSeq bP (tSeq bQ (tSeq cO lH))) _ _ _);intro bO bP bQ cO lH;have sl:=sizeLine_eq;have RU:aai " "=⟨#[32]⟩:=∅
  refine aP (λN=>∀z ws,wo=some ws->tv=.str z->z.length<=10000->ws.length<=60->(∀w∈ws,Tx 30 w)->((z=aai ""/\ws=[])\/(z≠aai ""/\Txt.split z (aai " ")=ws))->N [some gv,some tv,none,none,none] H) (λN hN=>?_) ?_
  ·dsimp?[tRaise];cases wo with
   | none=>
    symm;obtain⟨t,ty,kt⟩:=ask;nofun;refine⟨t,ty,false,kt,?_⟩;rw[if_pos ∅];exact⟨∅,kE rfl none H (aB.refl _)⟩
   | some ws=>
    symm;obtain⟨z,rfl,a1,a2,a3,a4⟩:=ask;nofun;refine⟨_,.str _,true,by rfl,?_⟩;rw[if_neg ∅];exact hN z ws rfl rfl a1 a2 a3 a4
  rintro z ws rfl rfl lz l30 wt zw;have kE:c7 g s0 ws=none->∀ad H',aB H H'->E (.ref aE) ad H':=kE;refine aP (λN=>∀p tl tb H1,aB H H1->H p=none->H tl=none->H tb=none->dz aF ah [p,tl,tb] H1 p tl tb g s0 (0,1) []->N [some gv,some (.str z),~~~p,none,none] H1) (λN hN=>?_) ?_
  ·dsimp?[yU,Ir];intro x dx nx RV ne;have su:aB H (upd (upd H dx (HO.own x)) x (HO.ins aF dx [])):=λa o h=>by
    rw[aD (λz=>by rw[z,nx] at h;cases h),aD (λz=>by rw[z,RV] at h;cases h)];exact h
   refine⟨dx,ai,H,su,nx,g,rg,gm.good,3,ft,oA.hd,s0.1,oA.ak,λc sv ET tl tb H' kH xi kA h1 h2 h3 co st rp=>?_⟩;have md:=G5 (aB.refl H) nx RV kH xi kA h1 h2 h3 co st rp;refine hN x tl tb H' md.sm md.np.1 md.np.2.1 md.np.2.2 ?_;rw[show s0=(s0.1,aby g.cs.length 0) from Prod.ext rfl oA.ns];exact md.OW (aB.refl _) (λa o _ n _=>n) ⟨by simp,by simp,by simp⟩ (λa ha=>by
    simp only[aaX,List.not_mem_nil,or_false] at ha;rcases ha with rfl | rfl | rfl
    ·exact⟨_,h1,λ_ z=>by cases z⟩
    ·exact⟨_,h2,λ_ z=>by cases z⟩
    ·exact⟨_,h3,λ_ z=>by cases z⟩) gm.good
  rintro p tl tb H1 s1 np xi kA p1;refine aP (λN=>∀l H2,aB H1 H2->H1 l=none->H2 l=some (.lst (List.map V.str ws))->N [some gv,some (.str z),~~~p,~~~l,none] H2) (λN hN=>?_) ?_
  ·dsimp?[];rcases zw with ⟨ez,rfl⟩ | ⟨ne,es⟩
   ·rw[if_neg (λh=>h ez)];exact⟨⋯,λl nl=>hN l _ (aj nl) nl ai⟩
   ·rw[if_pos ne];refine⟨rfl,32,RU,⋯,λl nl=>hN l _ (aj nl) nl ?_⟩;rw[ai,<-es,RU]
  rintro l H2 s2 nl hl;refine aP (λN=>∀x H3 s,aB H H3->c7 g s0 ws=some s->ja g gs ws s->dz aF ah [p,tl,tb] H3 p tl tb g s.1 s.2.1 s.2.2->N [some gv,some (.str z),~~~p,~~~l,x] H3) (λN hN=>?_) ?_
  ·dsimp?[];refine⟨⟨_,bw.of hl⟩,?_⟩;have RW:∀{Ha Hb},aB H Ha->K3 p tl tb Ha Hb->aB H Hb:=λ{Ha Hb} sa k a o h=>k a o (λz=>by rw[z,np] at h;cases h) (λz=>by rw[z,xi] at h;cases h) (λz=>by rw[z,kA] at h;cases h) (sa _ _ h);symm;obtain⟨dp,c,BB,U4,Tf,hpl,_,_,_,sL,_⟩:=p1.ex;obtain⟨kvs,sJ,_⟩:=id p1.Ml;nofun;clear G_;have lp:l≠p:=λz=>by rw[z,hpl] at nl;cases nl
   have Uu:l≠tb:=λz=>by rw[z,sJ] at nl;cases nl
   have ltl:l≠tl:=λz=>by rw[z,sL] at nl;cases nl
   refine bN (src_list (Ok:=λH'=>H' l=some (.lst (List.map V.str ws))) (λH' e=>bw.of e)) (λi σ H'=>H' l=some (.lst (List.map V.str ws))/\aB H H'/\(∃s,c7 g s0 (ws.take i)=some s/\ja g gs (ws.take i) s/\dz aF ah [p,tl,tb] H' p tl tb g s.1 s.2.1 s.2.2)/\∃x,σ=[some gv,some (.str z),~~~p,~~~l,x]) ⟨hl,s1.trans s2,⟨_,rfl,ja.nil oA.sk,p1.same s2⟩,_,rfl⟩ (λ_ _ _ _ h=>h.1) ?_ ?_
   ·intro i x σ H' nO hi fm fo;symm;obtain⟨C4,sH,⟨s,hs,ok,OW⟩,y,rfl⟩:=fm;obtain⟨rfl,ex⟩:=fo;nofun;clear G_;rw[aaj] at hi;rw[aal,aao hi] at ex;cases ex;have e:=aao hi;have wi:=wt _ (aaH hi);have tk:=sU (g:=g) (s0:=s0) e;have U6:ws.take (i+1)=ws.take i++ [ws[i]]:=take_snoc hi;have lt:(ws.take i).length=i:=by rw[aaD];lia
    have ln:=ok.ln;rw[hs] at tk;generalize ws[i]=w' at *;dsimp?[IP];refine⟨tl,tb,_,g,gs,_,_,_,OW,gm,ok.sk,ok.hf.le ⋯,⋯,⟨wi.1,aau wi.2 ∅⟩,λno ad H3 k3=>kE (Ag (i:=i+1) (tk.trans ?_)) ad H3 (RW sH k3),λpy cK jj Ae oP sw H3 k3 p9=>⟨k3 _ _ lp ltl Uu C4,RW sH k3,⟨(cK,Wq.pl s.2.1 py,s.2.2++ [(w',s.1,s.2.1)]),tk.trans ?_,?_,p9⟩,_,rfl⟩⟩
    ·show(GW g s.1 w').map _=none;rw[Et no];rfl
    ·show(GW g s.1 w').map _=_;rw[Es jj];rfl
    ·rw[U6];exact ok.snoc Ae oP sw
   ·intro σ H' du;symm;obtain⟨C4,sH,⟨s,hs,ok,OW⟩,y,rfl⟩:=du;nofun;rw[aaj,aaz (aam _)] at hs ok;exact hN _ _ s sH hs ok OW
  rintro x H3 s s3 hs ok p3;dsimp?[];exact kQ s ws rfl hs ok p tl tb H3 s3 np xi kA p3
theorem j0:aV ["_law_word","_law_sign"] ["_law_word"] (au (top 72)):=.mk
theorem LP (T:0|||0):(1<<<"_law_value") ["_law_word"] Ah:=by
 refine T.uh.dE (λ_ _ _ _ _ _=>gq λ_=>rfl) λf fd F=>F.d4 j0 (λvs H Q E h=>?_) (λbR A outer s H vs Q E hr h=>?_)
 ·obtain⟨_,rfl,_⟩:=Me h;rfl
 ·symm;obtain⟨z,rfl,tz,kk⟩:=Me h;nofun;have nd:=j0.nd;refine⟨_,(ag (bc (PW.pt (pw_or (aL bq (pv 0) aZ (aR _)) (pw_or (aL fB (aY mH (by rfl) T.z_len aaA (aa (pv 0) af)) ae (aR _)) (pw_or1 (PW.pt (pw_and (aL bq (av zp (pv 0) ae) aZ (aR _)) (pw_and1 (aL fB (aY mH (by rfl) T.z_len aaA (aa (pv 0) af)) ae (aR _))))))))) (aq (aQ fi))
   aX)
  (ag (b6 PassesOwn.never rfl (CU (pv 0)) (a5 (i:=1) nd rfl (.inl rfl)) (aq (bc (aL tf (pv 1) aZ rfl) (aq (aQ fi))
   aX)))
  (aq (aQ (cX pM (by rfl) T.z_int rfl (aa (pv 0) af)))))),?_⟩
  refine(?_:let bO:TS:=_;let bP:TS:=_;let bQ:TS:=_;tSeq bO (tSeq bP bQ) _ _ _);intro bO bP bQ;have sl:=sizeLine_eq;have kk:=kk H (aB.refl _);have zl:z.cps.toList.length=z.length:=aaT;obtain⟨az,lz⟩:=tz;refine aP (λN=>1<=z.length->z.length<=3->¬lead z.cps.toList->N [some (.str z),none] H) (λN hN=>?_) ?_
  ·have no:yI z=none->Q .bZ H:=λh=>by rw[h] at kk;exact kk
   dsimp?[Fh];refine eI (λe=>no (Ey (.inl e))) (λne=>⟨⋯,eI (λc=>no (Ey (.inr (.inl ⋯)))) (λc=>?_)⟩);obtain⟨c0,ec⟩:=OQ ne;have l1:0<z.cps.toList.length:=(abr.mp ec).1;have l0:=LC ec;refine⟨⋯,_,bM ec,?_⟩
   by_cases RX:(⟨#[c0]⟩:Str)=aai "0"
   ·have e48:c0=48:=by
     have:=congrArg (λs:Str=>s.cps.toList) RX;rw[show(aai "0").cps.toList=[48] by ac_rfl] at this;exact(List.cons.inj this).1
    rw[if_pos RX];exact⟨⋯,eI (λh=>no (Ey (.inr (.inr (l0.mpr ⟨e48,⋯⟩))))) (λh=>hN ⋯ ⋯ (λy=>h (by have:=(l0.mp y).2;lia)))⟩
   ·rw[if_neg RX,if_neg ∅];refine hN ⋯ ⋯ (λy=>RX ?_);rw[(l0.mp y).1];ac_rfl
  rintro l1 l3 nl;refine aP (λN=>∀x,dig z.cps.toList->N [some (.str z),x] H) (λN hN=>?_) ?_
  ·dsimp?[];refine⟨az,bN (zo (Ok:=λ_=>True)) (λi σ H'=>H'=H/\(∀j c,j<i->z.cps.toList[j]?=some c->c∈Kz.cps.toList)/\∃x,σ=[some (.str z),x]) ⟨rfl,λj c h=>absurd h (Nat.not_lt_zero _),_,rfl⟩ (λ_ _ _ _ _=>trivial) ?_ ?_⟩
   ·intro i xv σ H' H2 hi fm fo;symm;obtain⟨rfl,hj,y,rfl⟩:=fm;obtain⟨rfl,c,ec,rfl⟩:=fo;nofun;dsimp?[StrLaws.found_one];rw[<-Array.getElem?_toList] at ec;refine eI (λnc=>?_) (λyc=>⟨λj c' Yb e=>?_,_,rfl⟩)
    ·rw[show yI z=none from if_neg λk=>nc (k.1.1.2.2 c (aay ec))] at kk;exact kk
    ·by_cases e':j=i
     ·rw[e',ec] at e;cases e;exact Classical.not_not.mp yc
     ·exact hj j c' ⋯ e
   ·intro σ H' du;symm;obtain⟨rfl,hj,y,rfl⟩:=du;nofun;refine hN y ⟨⋯,⋯,λc hc=>?_⟩;obtain⟨j,e⟩:=List.mem_iff_getElem?.mp hc;exact hj j c (by rw[<-show z.cps.toList.length=z.cps.size from aaT];exact(abr.mp e).1) e
  rintro x d;obtain⟨rd,lg⟩:=sV d;rw[LB d l3 nl] at kk;dsimp?[];exact⟨⋯,_,rd,kk⟩
theorem jb:aV ["_law_game_here","_law_words_here","_law_state","_law_got","_law_word","_law_step"] ["_law_game_here","_law_words_here"] (au (top 73)):=.mk
theorem LQ (T:0|||0):(4<<<"_law_walked") ["_law_game_here","_law_words_here"] Eu:=by
 have c6:=yG T;have mf:=LP T;have eG:=yH T;have gE:=D8 T;have w5:=Lx T;have jc:=Em T;refine T.rj.dE (λ_ _ _ _ _ _=>dQ λ_ _=>rfl) λf fd F=>F.d4 jb (λvs H Q E h=>?_) (λbR A outer s H vs Q E hr h=>?_)
 ·obtain⟨_,_,rfl,_⟩:=Nz h;rfl
 ·symm;obtain⟨gv,l,rfl,g,rg,gs,gm,ft,s0,oA,ws,hl,IU,wt,kN,kQ⟩:=Nz h;nofun;clear G_;have nd:=jb.nd;refine⟨_,(ag (aK (i:=2) (aN c6 (aa (pv 0) (aa (av ao (av a6 (av ao (pv 0) ae) ae) ae) (aa (b5 rfl (N:=["_law_game_here","_law_words_here","_law_state","_law_got","_law_word","_law_step"]) (so:=au (top 73)) (N':=["_law_one"]) (k:=1) (fr:=[]) rfl rfl ⟨rfl,∅,∅,∅,rfl,∅,∅⟩ (bh (K:=K) (av ao (pv 0) ae)) (λ_ _ _ _ _=>(a5 (i:=0) (show(["_law_one"]:List Str).Nodup by ac_rfl) rfl (.inl rfl))) (λ_ _ _ _ _=>cV)
   (λ_ _ _ _ _=>ae)) af)))))
  (ag (aK (i:=3) (a9 (aa ae (aa ae af))))
  (ag (b6 PassesOwn.never rfl (bh (K:=K) (pv 1)) (a5 (i:=4) nd rfl (.inl rfl)) (ag (aK (i:=5) (pv 4))
  (ag (bc (aL E6 (aN mf (aa (pv 4) af)) fi (aR _)) (aq (aK (i:=5) (aN mf (aa (pv 4) af))))
   aX)
  (ag (bc (aL (jG (K:=K)) (pv 5) (aN eG (aa (pv 0) (aa (pv 2) af))) rfl) (aq (aQ fi))
   aX)
  (ag (aK (i:=3) (aN gE (aa (pv 3) (aa (aN w5 (aa (pv 0) (aa (pv 2) af))) af))))
  (aq (aK (i:=2) (aN jc (aa (pv 0) (aa (pv 2) (aa (pv 5) af)))))))))))
  (aq (aQ (a9 (aa (pv 2) (aa (pv 3) af)))))))),?_⟩
  refine(?_:let bO:TS:=_;let bP:TS:=_;let bQ:TS:=_;let cO:TS:=_;tSeq bO (tSeq bP (tSeq bQ cO)) _ _ _);intro bO bP bQ cO;have OT:=sizeLine_eq;symm;obtain⟨gp,cv,pv,rfl,uX,rc,rp⟩:=bI.mp (show Rep H (.tup _) gv from rg);obtain⟨cl,uB,rfl,eN,oM⟩:=ba.mp (show Rep H (.lst _) cv from rc);obtain⟨pl,Bz,rfl,hpl,BA⟩:=ba.mp (show Rep H (.lst _) pv from rp);nofun;clear G_;refine aP (λN=>∀H3 sa sl,aB H H3->H3 sa=some (.tup [.str s0.1,.ref sl])->H3 sl=some (.lst ((aby g.cs.length (0:Int)).map V.int))->N [~~~gp,~~~l,~~~sa,none,none,none] H3) (λN hN=>?_) ?_
  ·dsimp?[wO,uX,hpl,eN];obtain⟨p0,rest,OY⟩:∃p0 rest,g.ps=p0::rest:=by
    have ED:=oA.hd;cases e:g.ps with
    | nil=>rw[e] at ED;cases ED
    | cons a b=>exact⟨a,b,rfl⟩
   have e0:p0.1=ft:=by have ED:=oA.hd;rw[OY] at ED;exact aaC ED
   obtain⟨v,ev,rv⟩:=BA.at (i:=0) (by rw[aal,OY];rfl);symm;obtain⟨q,x1,x2,rfl,hq,r1,r2⟩:=bI.mp (show Rep H (.tup _) v from rv);have r1:=aT.mp r1;rw[e0] at r1;subst r1;nofun;have rK:=oM.length;rw[aaj] at rK;have lcs:=gm.good.lc;refine⟨_,bM (j:=0) ev,q,rfl,_,hq,_,at0,⟨_,bw.of eN⟩,?_⟩;have S:Src (uU K cl) (aB H) uB.length _:=src_list (λH' s'=>bw.of (s' _ _ eN));rw[<-rK] at S;refine mF g.cs (λ_=>some 0) S (λ_ _ _ _ h=>h.1) ⋯ (λi a x _ _ Y N y1 y2=>?_) ?_
   ·unfold mC;refine xO ?_;dsimp?[];exact y1 _ rfl
   ·intro D n1 n2;have er:g.cs.filterMap (λ_=>some (0:Int))=aby g.cs.length 0:=by rw[abi,List.map_const']
    rw[er];have sD:=aj (o:=.lst (List.map V.int (aby g.cs.length (0:Int)))) n1;exact⟨ft,rfl,g,rg.mono sD,gm.good,aby g.cs.length 0,ai,abf,3,s0.1,oA.ak,λa l' H4 s4 na nl ha hl=>hN _ a l' (sD.trans s4) ha hl⟩
  rintro H3 sa sl s3 gn JS;refine aP (λN=>∀H4 r,aB H3 H4->H4 r=some (.tup (Pr 0 1))->N [~~~gp,~~~l,~~~sa,~~~r,none,none] H4) (λN hN=>?_) ?_
  ·dsimp?[];exact⟨⋯,λp H2 s2 np hp=>hN H2 p s2 hp⟩
  rintro H4 r s4 U8;refine aP (λN=>∀H5 s sv pv x y,aB H H5->c7 g s0 ws=some s->ja g gs ws s->mj H5 sv s.1.1 s.1.2->Rep H5 (dA s.2.1) pv->N [~~~gp,~~~l,some sv,some pv,x,y] H5) (λN hN=>?_) ?_
  ·dsimp?[];refine⟨⟨_,bw.of (s4 _ _ (s3 _ _ hl))⟩,?_⟩;refine bN (src_list (Ok:=λH'=>aB H H') (λH' e=>bw.of (e _ _ hl))) (λi σ H'=>aB H H'/\∃s sv pv x y,c7 g s0 (ws.take i)=some s/\ja g gs (ws.take i) s/\mj H' sv s.1.1 s.1.2/\Rep H' (dA s.2.1) pv/\σ=[~~~gp,~~~l,some sv,some pv,x,y]) ⟨s3.trans s4,_,_,_,_,_,rfl,ja.nil oA.sk,⟨sa,sl,rfl,s4 _ _ gn,?_⟩,b7.mpr ⟨r,rfl,U8⟩,rfl⟩ (λ_ _ _ _ h=>h.1) ?_ ?_
   ·rw[oA.ns];exact s4 _ _ JS
   ·intro i xv σ H5 H6 hi fm fo;symm;obtain⟨sH,s,sv,pv,x,y,hs,ok,mX,Bq,rfl⟩:=fm;obtain⟨rfl,ex⟩:=fo;nofun;clear G_;rw[aaj] at hi;rw[aal,aao hi] at ex;cases ex;have e:=aao hi;have wi:=wt _ (aaH hi);have tk:=sU (g:=g) (s0:=s0) e;have U6:ws.take (i+1)=ws.take i++ [ws[i]]:=take_snoc hi;have lt:(ws.take i).length=i:=by rw[aaD];lia
    rw[hs] at tk;generalize ws[i]=w' at *;symm;obtain⟨x0,lk,wx⟩:=ok.sk.at_;nofun;simp only[gName,aaQ,aaP];refine aP (λN=>N [~~~gp,~~~l,some sv,some pv,some (.str w'),some (.str w')] H6) (λN hN=>?_) ?_
    ·dsimp?[];exact hN
    refine aP (λN=>∀H7,aB H6 H7->N [~~~gp,~~~l,some sv,some pv,some (.str w'),some (sT w')] H7) (λN hN=>?_) ?_
    ·dsimp?[Ah];have tw:Tx 1000 w':=⟨wi.1,aau wi.2 ∅⟩
     unfold sT at hN;refine⟨tw,λH7 s7=>?_⟩;cases hw:yI w' with
     | none=>
      rw[hw] at hN;rw[if_neg (λh=>h (show Mu none=V.bZ from rfl))];exact hN H7 s7
     | some v=>
      rw[hw] at hN;rw[if_pos (show ¬Mu (some v)=V.bZ from λh=>by cases h)];exact⟨tw,λH8 s8=>hN H8 (s7.trans s8)⟩
    rintro H7 s7;refine aP (λN=>∀H8 py cK,aB H7 H8->dY g s.1 (qH w') w' py cK->ng g gs cK->jB 20 py->La w'->N [~~~gp,~~~l,some sv,some pv,some (.str w'),some (sT w')] H8) (λN hN=>?_) ?_
    ·dsimp?[wQ,Rc];refine⟨g,rg.mono (sH.trans s7),gm.good,gs,s.1,mX.mono s7,ok.sk.len,x0,lk,wx,λa H8 ds s8 na ra od=>?_⟩;symm;obtain⟨a',eU,e0,qE,EW⟩:=ba.mp ra;nofun;cases e0;rcases Ad gm ok.sk lk wx w' with ⟨py,cK,jj,Ae,oP,sw⟩ | bad
     ·obtain⟨f1,f2⟩:=GV lk od EW jj;refine⟨eU,.inl (bw.of qE),GU _,f1,?_⟩;rw[f2,if_neg ∅];exact hN H8 py cK s8 jj Ae oP sw
     ·symm;obtain⟨f0,f1,f2⟩:=GR od EW bad;nofun;refine⟨eU,.inl (bw.of qE),f0,f1,?_⟩;rw[f2,if_pos rfl];refine kN (Ag (i:=i+1) (tk.trans ?_)) _ (sH.trans (s7.trans s8));show(GW g s.1 w').map _=none;rw[Et λ_ _=>qx lk bad];rfl
    rintro H8 py cK s8 jj Ae oP sw;have Lp:=s7.trans s8;refine aP (λN=>∀H9 q,aB H8 H9->H9 q=some (.tup (Pr (Wq.pl s.2.1 py).1 (Wq.pl s.2.1 py).2))->N [~~~gp,~~~l,some sv,~~~q,some (.str w'),some (sT w')] H9) (λN hN=>?_) ?_
    ·dsimp?[ql,ID];refine⟨g,rg.mono (sH.trans Lp),gm.good,s.1,mX.mono Lp,x0,lk,λu H9 s9 ru=>?_⟩;rw[Er lk jj] at ru;exact⟨_,Bq.mono (Lp.trans s9),py,ru,ok.hf.le ⋯,oP.le ∅,λr' zQ qG n10 Rx=>hN _ r' (s9.trans qG) Rx⟩
    rintro H9 q s9 hq;have U9:=Lp.trans s9;dsimp?[D7];refine⟨g,rg.mono (sH.trans U9),gm.good,s.1,mX.mono U9,ok.sk.len,qH w',yJ,w',py,cK,jj,λa l' zQ qG na nl ha C4=>⟨sH.trans (U9.trans qG),(cK,Wq.pl s.2.1 py,s.2.2++ [(w',s.1,s.2.1)]),tk.trans ?_,?_,_,⟨a,l',rfl,ha,C4⟩,_,b7.mpr ⟨q,rfl,qG _ _ hq⟩,rfl,rfl,_,rfl⟩⟩
    ·show(GW g s.1 w').map _=_;rw[Es jj];rfl
    ·rw[U6];exact ok.snoc Ae oP sw
   ·intro σ H5 du;symm;obtain⟨sH,s,sv,pv,x,y,hs,ok,mX,Bq,rfl⟩:=du;nofun;rw[aaj,aaz (aam _)] at hs ok;exact hN _ s sv pv x y sH hs ok mX Bq
  rintro H5 s sv pv x y s5 hs ok mX Bq;dsimp?[];exact⟨⋯,λp H6 s6 np hp=>kQ s hs ok p sv pv H6 (s5.trans s6) hp (mX.mono s6) (Bq.mono s6)⟩
theorem j1:aV ["_law_script","_law_game_here","_law_state","_law_words_here","_law_k","_law_some","_law_step"] ["_law_script","_law_game_here"] (au (top 74)):=.mk
theorem LR (T:0|||0):(4<<<"_law_steps") ["_law_script","_law_game_here"] (IS K):=by
 have b9:=oU T;have aO:=nh T;have c6:=yG T;have eG:=yH T;have jc:=Em T;refine T.ui.dE (λ_ _ _ _ _ _=>dQ λ_ _=>rfl) λf fd F=>F.d4 j1 (λvs H Q E h=>?_) (λbR A outer s H vs Q E hr h=>?_)
 ·obtain⟨_,_,rfl,_⟩:=jx h;rfl
 ·symm;obtain⟨sc,gv,rfl,ns,hS,g,rg,gs,gm,ft,s0,oA,kk⟩:=jx h;nofun;clear G_;have nd:=j1.nd;refine⟨_,(ag (aK (i:=2) (aN c6 (aa (pv 1) (aa (av ao (av a6 (av ao (pv 1) ae) ae) ae) (aa (b5 rfl (N:=["_law_script","_law_game_here","_law_state","_law_words_here","_law_k","_law_some","_law_step"]) (so:=au (top 74)) (N':=["_law_one"]) (k:=1) (fr:=[]) rfl rfl ⟨rfl,∅,∅,∅,rfl,∅,∅⟩ (bh (K:=K) (av ao (pv 1) ae)) (λ_ _ _ _ _=>(a5 (i:=0) (show(["_law_one"]:List Str).Nodup by ac_rfl) rfl (.inl rfl))) (λ_ _ _ _ _=>cV)
   (λ_ _ _ _ _=>ae)) af)))))
  (ag (aK (i:=3) (bH af))
  (ag (b6 PassesOwn.never rfl (cJ rfl T.z_range (aa (aJ dm (aN b9 (aa (pv 0) (aa ae af))) ae) af)) (a5 (i:=4) nd rfl (.inl rfl)) (ag (aK (i:=5) (aN eG (aa (pv 1) (aa (pv 2) af))))
  (aq (bc (aL fB (aY bF (by rfl) T.z_len aaA (aa (pv 5) af)) ae (aR _)) (ag (aK (i:=6) (av a6 (pv 5) (aN aO (aa (aN b9 (aa (pv 0) (aa (aJ aS ae (pv 4)) af))) (aa (aY bF (by rfl) T.z_len aaA (aa (pv 5) af)) af)))))
  (ag (aK (i:=2) (aN jc (aa (pv 1) (aa (pv 2) (aa (pv 6) af)))))
  (aq (bU (fe aaR abb abc dO.r (pv 3) (aa (cX x9 (by rfl) T.z_str rfl (aa (pv 6) af)) af))))))
   aX))))
  (aq (aQ (pv 3)))))),?_⟩
  refine(?_:let bO:TS:=_;let bP:TS:=_;let bQ:TS:=_;let cO:TS:=_;tSeq bO (tSeq bP (tSeq bQ cO)) _ _ _);intro bO bP bQ cO;have OT:=sizeLine_eq;symm;obtain⟨gp,cv,pv,rfl,uX,rc,rp⟩:=bI.mp (show Rep H (.tup _) gv from rg);obtain⟨cl,uB,rfl,eN,oM⟩:=ba.mp (show Rep H (.lst _) cv from rc);obtain⟨pl,Bz,rfl,hpl,BA⟩:=ba.mp (show Rep H (.lst _) pv from rp);nofun;clear G_;refine aP (λN=>∀H3 sa sl,aB H H3->H3 sa=some (.tup [.str s0.1,.ref sl])->H3 sl=some (.lst ((aby g.cs.length (0:Int)).map V.int))->N [~~~sc,~~~gp,~~~sa,none,none,none,none] H3) (λN hN=>?_) ?_
  ·dsimp?[wO,uX,hpl,eN];obtain⟨p0,rest,OY⟩:∃p0 rest,g.ps=p0::rest:=by
    have ED:=oA.hd;cases e:g.ps with
    | nil=>rw[e] at ED;cases ED
    | cons a b=>exact⟨a,b,rfl⟩
   have e0:p0.1=ft:=by have ED:=oA.hd;rw[OY] at ED;exact aaC ED
   obtain⟨v,ev,rv⟩:=BA.at (i:=0) (by rw[aal,OY];rfl);symm;obtain⟨q,x1,x2,rfl,hq,r1,r2⟩:=bI.mp (show Rep H (.tup _) v from rv);have r1:=aT.mp r1;rw[e0] at r1;subst r1;nofun;have rK:=oM.length;rw[aaj] at rK;have lcs:=gm.good.lc;refine⟨_,bM (j:=0) ev,q,rfl,_,hq,_,at0,⟨_,bw.of eN⟩,?_⟩;have S:Src (uU K cl) (aB H) uB.length _:=src_list (λH' s'=>bw.of (s' _ _ eN));rw[<-rK] at S;refine mF g.cs (λ_=>some 0) S (λ_ _ _ _ h=>h.1) ⋯ (λi a x _ _ Y N y1 y2=>?_) ?_
   ·unfold mC;refine xO ?_;dsimp?[];exact y1 _ rfl
   ·intro D n1 n2;have er:g.cs.filterMap (λ_=>some (0:Int))=aby g.cs.length 0:=by rw[abi,List.map_const']
    rw[er];have sD:=aj (o:=.lst (List.map V.int (aby g.cs.length (0:Int)))) n1;exact⟨ft,rfl,g,rg.mono sD,gm.good,aby g.cs.length 0,ai,abf,3,s0.1,oA.ak,λa l' H4 s4 na nl ha hl=>hN _ a l' (sD.trans s4) ha hl⟩
  rintro H3 sa sl s3 gn JS;refine aP (λN=>∀H4 r,aB H3 H4->H3 r=none->H4 r=some (.lst [])->N [~~~sc,~~~gp,~~~sa,~~~r,none,none,none] H4) (λN hN=>?_) ?_
  ·dsimp?[];exact⟨aas _,λp n=>hN _ p (aj n) n ai⟩
  rintro H4 r s4 nr U8;have hrn:=none_of s3 nr;refine aP (λN=>∀H5 ws sv x y z,aB H H5->H5 r=some (.lst (List.map V.str ws))->ws.length<=20->(∀w∈ws,Wd 20 w)->N [~~~sc,~~~gp,some sv,~~~r,x,y,z] H5) (λN hN=>?_) ?_
  ·dsimp?[GC];refine⟨ns,(s3.trans s4).seq hS,∅,∅,λn=>?_⟩;have n0:=aa2 n (show(21:Int)≠0 by decide);have n1:=aba n (show(0:Int)<21 by decide);have OZ:∀{a o},a≠r->H4 a=some o->cg [r] H4 a=some o:=λn h=>by rw[cW (by simpa using n)];exact h
   have sr:∀{Ha:Hp} {o:HO},aB H Ha->aB H (upd Ha r o):=λs a o h=>by rw[aD (λz=>by rw[z,hrn] at h;cases h)];exact s _ _ h
   refine⟨∅,⋯,⋯,bN (src_range (Ok:=λ_=>True)) (λi σ H5=>aB H H5/\∃st sv ws,ng g gs st/\mj (cg [r] H5) sv st.1 st.2/\H5 r=some (.lst (List.map V.str ws))/\ws.length<=i/\(∀w∈ws,Wd 20 w)/\∃x y z,σ=[~~~sc,~~~gp,some sv,~~~r,x,y,z]) ⟨s3.trans s4,s0,.ref sa,[],oA.sk,⟨sa,sl,rfl,OZ ?_ (s4 _ _ gn),OZ ?_ ?_⟩,U8,aas _,(λw hw=>by cases hw),_,_,_,rfl⟩ (λ_ _ _ _ _=>trivial) ?_ ?_⟩
   ·exact λz=>by rw[z,nr] at gn;cases gn
   ·exact λz=>by rw[z,nr] at JS;cases JS
   ·rw[oA.ns];exact s4 _ _ JS
   ·intro i xv σ H5' H5 hi fm fo;symm;obtain⟨sH,st,sv,ws,sk,mX,O0,li,wd,x,y,z,rfl⟩:=fm;obtain⟨rfl,rfl⟩:=fo;nofun;clear G_;simp only[gName,aaQ,aaP,aa3];symm;obtain⟨x0,lk,wx⟩:=sk.at_;nofun;clear G_;have i20:i<21:=⋯
    refine aP (λN=>∀H6 so ds eU,aB H5 H6->H6 so=some (.lst eU)->bg H6 ds eU->Gz g st x0 ds->N [~~~sc,~~~gp,some sv,~~~r,some (.int (i:Int)),~~~so,z] H6) (λN hN=>?_) ?_
    ·dsimp?[wQ];refine⟨g,rg.mono sH,gm.good,gs,st,mX.mono a8,sk.len,x0,lk,wx,λa H6 ds s6 na ra od=>?_⟩;symm;obtain⟨a',eU,e0,qE,EW⟩:=ba.mp ra;nofun;cases e0;exact hN H6 a ds eU s6 qE EW od
    rintro H6 so ds eU s6 qE EW od;have RY:=s6 _ _ O0;have RZ:=sH.trans s6;have Ys:=mX.mono (mY (L:=[r]) s6)
    by_cases zl:eU.length=0
    ·refine cG (λY N k=>by dsimp?[qE];rw[if_neg ⋯];exact k) ?_;dsimp?[];exact⟨RZ,st,sk,sv,Ys,ws,RY,⋯,wd,rfl,_,rfl⟩
    refine dJ (λY N k=>by dsimp?[qE];rw[if_pos ⋯];exact k) ?_;refine aP (λN=>∀(j:Nat) dv,eU[j]?=some dv->N [~~~sc,~~~gp,some sv,~~~r,some (.int (i:Int)),~~~so,some dv] H6) (λN hN=>?_) ?_
    ·dsimp?[b8,GC,qE];refine⟨ns,RZ.seq hS,⋯,⋯,λc=>⟨⋯,?_⟩⟩;have c0:=cH (c:=c) (m:=(eU.length:Int)) ⋯;have c1:=cR (c:=c) (m:=(eU.length:Int)) ⋯;generalize hb:bX c (eU.length:Int)=b at *;obtain⟨j,rfl⟩:∃j:Nat,b=(j:Int):=⟨b.toNat,⋯⟩
     exact⟨_,bM (aao (show j<eU.length by lia)),hN j _ (aao ⋯)⟩
    rintro j dv edv;symm;obtain⟨d,ed,rd⟩:=EW.get edv;obtain⟨w',py,cK,jj,Ae,oP,sw⟩:=uO gm sk lk wx od (aay ed);nofun;have tx:Xq dv=some w':=by
     rcases jj with ⟨_,_,_,_,_,_,rfl,_⟩ | ⟨_,_,_,_,_,v,_,_,_,v0,v1,rfl,rfl,_⟩
     ·rw[aT.mp rd];rfl
     ·rw[bD.mp rd];exact if_pos (Nat.lt_of_le_of_lt (Nat.log2_le_self _) ⋯)
    have Va:=GY lk wx jj;refine aP (λN=>∀H7 a l,aB H6 H7->H6 a=none->H6 l=none->H7 a=some (.tup [.str cK.1,.ref l])->H7 l=some (.lst (List.map V.int cK.2))->N [~~~sc,~~~gp,~~~a,~~~r,some (.int (i:Int)),~~~so,some dv] H7) (λN hN=>?_) ?_
    ·dsimp?[D7];exact⟨g,rg.mono RZ,gm.good,st,Ys.mono a8,sk.len,d,rd,w',py,cK,jj,λa l H7 s7 na nl ha hl=>hN _ a l s7 na nl ha hl⟩
    rintro H7 a l s7 na nl ha hl;have Yt:=s7 _ _ RY;have ar:a≠r:=λz=>by rw[z,RY] at na;cases na
    have lr:l≠r:=λz=>by rw[z,RY] at nl;cases nl
    have O1:∀{b o} {w:HO},b≠r->H7 b=some o->cg [r] (upd H7 r w) b=some o:=λn h=>by rw[cW (by simpa using n),aD n];exact h
    dsimp?[eY];refine⟨.inl ⟨rfl,_,bw.of Yt⟩,w',tx,_,Yt,by rw[aaj];lia,sr (RZ.trans s7),cK,Ae,_,⟨a,l,rfl,O1 ar ha,O1 lr hl⟩,ws++ [w'],by rw[ai,aaq];rfl,by rw[aat];exact Nat.succ_le_succ li,λw hw=>?_,rfl,_,rfl⟩;rcases List.mem_append.mp hw with hw | hw
    ·exact wd w hw
    ·rw[abu.mp hw];exact Va
   ·intro σ H5 du;symm;obtain⟨sH,st,sv,ws,sk,mX,O0,li,wd,x,y,z,rfl⟩:=du;nofun;exact hN _ ws sv x y z sH O0 ⋯ wd
  rintro H5 ws sv x y z s5 O0 IV wd;dsimp?[];exact kk r H5 ws s5 O0 IV wd
theorem iF:aV ["_law_script","_law_words_here","_law_kind","_law_at","_law_other"] ["_law_script","_law_words_here"] (au (top 75)):=.mk
theorem LS (T:0|||0):(2<<<"_law_spoiled") ["_law_script","_law_words_here"] (IT K):=by
 have b9:=oU T;refine T.pV.dE (λ_ _ _ _ _ _=>dQ λ_ _=>rfl) λf fd F=>F.d4 iF (λvs H Q E h=>?_) (λbR A outer s H vs Q E hr h=>?_)
 ·obtain⟨_,_,rfl,_⟩:=Bb h;rfl
 ·symm;obtain⟨sc,l,rfl,ns,hS,ws,hl,IV,wd,kk⟩:=Bb h;nofun;have nd:=iF.nd;refine⟨_,(ag (aK (i:=2) (aJ dm (aN b9 (aa (pv 0) (aa ae af))) ae))
  (ag (aK (i:=3) ae)
  (ag (bc (aL fB (aY bF (by rfl) T.z_len aaA (aa (pv 1) af)) ae (aR _)) (aq (aK (i:=3) (aJ dm (aN b9 (aa (pv 0) (aa ae af))) (aY bF (by rfl) T.z_len aaA (aa (pv 1) af)))))
   aX)
  (ag (aK (i:=4) (av a6 (bH (aa aZ (aa aZ (aa aZ (aa aZ (aa aZ (aa aZ (aa aZ (aa aZ af))))))))) (aJ dm (aN b9 (aa (pv 0) (aa ae af))) ae)))
  (ag (bc (aL bq (pv 2) ae (aR _)) (aq (aQ (aJ fk (cL (cM (K:=K)) (pv 1) eB (cN (pv 3))) (cL (cM (K:=K)) (pv 1) (cN (aJ aS (pv 3) ae)) eB))))
   aX)
  (ag (bc (aL bq (pv 2) ae (aR _)) (aq (aQ (aJ fk (aJ fk (cL (cM (K:=K)) (pv 1) eB (cN (pv 3))) (cL (cM (K:=K)) (pv 1) (cN (pv 3)) (cN (aJ aS (pv 3) ae)))) (cL (cM (K:=K)) (pv 1) (cN (pv 3)) eB))))
   aX)
  (ag (bc (aL bq (pv 2) ae (aR _)) (aq (aQ (aJ fk (aJ fk (cL (cM (K:=K)) (pv 1) eB (cN (pv 3))) (bH (aa (pv 4) af))) (cL (cM (K:=K)) (pv 1) (cN (aJ aS (pv 3) ae)) eB))))
   aX)
  (ag (bc (aL bq (pv 2) ae (aR _)) (aq (aQ (aJ fk (aJ fk (cL (cM (K:=K)) (pv 1) eB (cN (pv 3))) (b5 rfl (N:=["_law_script","_law_words_here","_law_kind","_law_at","_law_other"]) (so:=au (top 75)) (N':=["_law_word"]) (k:=1) (fr:=[]) rfl rfl ⟨rfl,∅,∅,∅,rfl,∅,∅⟩ (bh (K:=K) (cL (cM (K:=K)) (pv 1) (cN (pv 3)) (cN (aJ aS (pv 3) ae)))) (λ_ _ _ _ _=>(a5 (i:=0) (show(["_law_word"]:List Str).Nodup by ac_rfl) rfl (.inl rfl))) (λ_ _ _ _ _=>cV)
   (λ_ _ _ _ _=>(aJ ph aZ (pv 0))))) (cL (cM (K:=K)) (pv 1) (cN (aJ aS (pv 3) ae)) eB))))
   aX)
  (ag (bc (aL bq (pv 2) ae (aR _)) (aq (aQ (aJ fk (aJ fk (cL (cM (K:=K)) (pv 1) eB (cN (pv 3))) (bH (aa aZ af))) (cL (cM (K:=K)) (pv 1) (cN (pv 3)) eB))))
   aX)
  (ag (bc (aL bq (pv 2) ae (aR _)) (aq (aQ (aJ fk (pv 1) (bH (aa (pv 4) af)))))
   aX)
  (aq (aQ (pv 1))))))))))))),?_⟩
  refine(?_:let bO:TS:=_;let bP:TS:=_;let bQ:TS:=_;let cO:TS:=_;let lH:TS:=_;let sI:TS:=_;let zS:TS:=_;let Eb:TS:=_;let Ec:TS:=_;let Ed:TS:=_;let qv:TS:=_;tSeq bO (tSeq bP (tSeq bQ (tSeq cO (tSeq lH (tSeq sI (tSeq zS (tSeq Eb (tSeq Ec (tSeq Ed qv))))))))) _ _ _);intro bO bP bQ cO lH sI zS Eb Ec Ed qv;have OT:=sizeLine_eq;refine aP (λN=>∀k:Int,N [~~~sc,~~~l,k⁻¹,none,none] H) (λN hN=>?_) ?_
  ·dsimp?[GC];exact⟨ns,hS,∅,∅,λn=>⟨∅,hN _⟩⟩
  rintro k;refine aP (λN=>N [~~~sc,~~~l,k⁻¹,0⁻¹,none] H) (λN hN=>?_) ?_
  ·dsimp?[];exact hN
  refine aP (λN=>∀at_:Nat,at_<=ws.length->N [~~~sc,~~~l,k⁻¹,some (.int (at_:Int)),none] H) (λN hN=>?_) ?_
  ·dsimp?[GC,hl];refine eI (λc=>⟨ns,hS,∅,∅,λn=>⟨c,?_⟩⟩) (λc=>hN 0 (aas _));rw[aaj] at c ⊢;have n0:=aa2 n (show(ws.length:Int)≠0 by lia);have n1:=aba n c;have:=hN (n % (ws.length:Int)).toNat ⋯
   rwa [Int.toNat_of_nonneg n0] at this
  rintro at_ la;refine aP (λN=>∀H2 o,aB H H2->Wd 21 o->N [~~~sc,~~~l,k⁻¹,some (.int (at_:Int)),some (.str o)] H2) (λN hN=>?_) ?_
  ·dsimp?[GC];refine⟨⋯,λp np=>⟨ns,(aj np).seq hS,∅,∅,λn=>⟨∅,_,ai,?_⟩⟩⟩;have n0:=aa2 n (show(8:Int)≠0 by decide);have n1:=aba n (show(0:Int)<8 by decide);have e:n % 8=(((n % 8).toNat:Nat):Int):=⋯
   have all:∀j∈List.range 8,∃o∈G0,G0[j]?=some o:=∅
   symm;obtain⟨o,mo,eo⟩:=all (n % 8).toNat (List.mem_range.mpr ⋯);nofun;rw[e];exact⟨.str o,bM (show(List.map V.str G0)[(n % 8).toNat]?=_ by rw[aal,eo];rfl),hN _ o (aj np) (LG o mo)⟩
  rintro H2 o s2 wo;have nE:=s2 _ _ hl;have fin:∀p H' Ew,aB H2 H'->H' p=some (.lst (List.map V.str Ew))->Ew.length<=60->(∀w∈Ew,Wd 21 w)->Q (.ref p) H':=λp H' Ew s' h l w=>kk p H' Ew (s2.trans s') h l w;have nu:∀w∈ws,Wd 21 w:=λw hw=>(wd w hw).le ∅;symm;obtain⟨ua,ea,la',ma⟩:=cut_str ws none (some (at_:Int));obtain⟨ub,eb,lb,mb⟩:=cut_str ws (some ((at_:Int)+1)) none;obtain⟨uc,ec,lc,mc⟩:=cut_str ws (some (at_:Int)) (some ((at_:Int)+1));nofun;dsimp?[];refine eI (λ_=>?_) (λ_=>eI (λ_=>?_) (λ_=>eI (λ_=>?_) (λ_=>eI (λ_=>?_) (λ_=>eI (λ_=>?_) (λ_=>eI (λ_=>?_) (λ_=>fin l H2 ws (aB.refl _) nE ⋯ nu))))))
  ·refine⟨_,bw.of nE,λp n1=>⟨_,bw.of (aj n1 _ _ nE),λp2 n2=>?_⟩⟩;rw[ea,eb] at *;refine⟨p,p2,_,_,rfl,rfl,aj n2 _ _ ai,ai,by rw[aaj,aaj];lia,λp3 n3=>fin p3 _ (ua++ub) ((aj n1).trans ((aj n2).trans (aj n3))) (by rw[ai,aaq]) (by rw[aat];lia) λw hw=>?_⟩;rcases List.mem_append.mp hw with hw | hw
   ·exact nu w (ma w hw)
   ·exact nu w (mb w hw)
  ·refine⟨_,bw.of nE,λp n1=>⟨_,bw.of (aj n1 _ _ nE),λp2 n2=>?_⟩⟩;rw[ea,ec] at *;refine GZ (aj n2 _ _ (aj n1 _ _ nE)) (aj n2 _ _ ai) ai IV ⋯ ⋯ λr H' us s' h l m=>fin r H' us ((aj n1).trans ((aj n2).trans s')) h l λu hu=>?_;rcases m u hu with m | m | m
   ·exact nu u (ma u m)
   ·exact nu u (mc u m)
   ·exact nu u m
  ·refine⟨_,bw.of nE,λp n1=>⟨⋯,λp2 n2=>?_⟩⟩;rw[ea] at *;refine GZ (u2:=[o]) (aj n2 _ _ (aj n1 _ _ nE)) (aj n2 _ _ ai) ai IV ⋯ (by show 1<=20;decide) λr H' us s' h l m=>fin r H' us ((aj n1).trans ((aj n2).trans s')) h l λu hu=>?_;rcases m u hu with m | m | m
   ·exact nu u (ma u m)
   ·rw[abu.mp m];exact wo
   ·exact nu u m
  ·refine⟨_,bw.of nE,λp n1=>⟨_,bw.of (aj n1 _ _ nE),λp2 n2=>?_⟩⟩;rw[ea,ec] at *;refine⟨⟨_,bw.of ai⟩,?_⟩;have S:Src (uU K p2) (aB (upd (upd H2 p (.lst (List.map V.str ua))) p2 (.lst (List.map V.str uc)))) (List.map V.str uc).length _:=src_list (λH' s'=>bw.of (s' _ _ ai));rw[aaj] at S;refine dP uc (λu=>some (.str (aai "0"++u))) S (λ_ _ _ _ h=>h.1) ⋯ ?_ ?_
   ·rintro i u x eu ⟨_,ex⟩ Y N y1 y2;rw[aal,eu] at ex;cases ex;have:=(wd u (mc u (aay eu))).1.2;have e1:(aai "0").length=1:=∅
    unfold mC;refine xO ?_;dsimp?[];exact⟨⋯,y1 _ rfl⟩
   ·intro D d1 d2;rw[show uc.filterMap (λu=>some (V.str (aai "0"++u)))=List.map V.str (uc.map λu=>aai "0"++u) by rw[aaJ,abi];rfl];refine GZ (aj d1 _ _ (aj n2 _ _ (aj n1 _ _ nE))) (aj d1 _ _ (aj n2 _ _ ai)) ai IV ⋯ (by rw[aaj];lia) λr H' us s' h l m=>fin r H' us ((aj n1).trans ((aj n2).trans ((aj d1).trans s'))) h l λu hu=>?_;rcases m u hu with m | m | m
    ·exact nu u (ma u m)
    ·symm;obtain⟨y,hy,rfl⟩:=abt.mp m;nofun;exact(wd y (mc y hy)).LH
    ·exact nu u m
  ·refine⟨_,bw.of nE,λp n1=>⟨⋯,λp2 n2=>?_⟩⟩;rw[ea] at *;refine GZ (u2:=[aai ""]) (aj n2 _ _ (aj n1 _ _ nE)) (aj n2 _ _ ai) ai IV ⋯ (by show 1<=20;decide) λr H' us s' h l m=>fin r H' us ((aj n1).trans ((aj n2).trans s')) h l λu hu=>?_;rcases m u hu with m | m | m
   ·exact nu u (ma u m)
   ·rw[abu.mp m];exact⟨⟨∅,∅⟩,∅⟩
   ·exact nu u m
  ·refine⟨⋯,λp n1=>⟨l,p,_,_,rfl,rfl,aj n1 _ _ nE,ai,by rw[aaj];show _+1<=_;lia,λp2 n2=>fin p2 _ (ws++ [o]) ((aj n1).trans (aj n2)) (by rw[ai,aaq];rfl) (by rw[aat];show _+1<=_;lia) λw hw=>?_⟩⟩;rcases List.mem_append.mp hw with hw | hw
   ·exact nu w hw
   ·rw[abu.mp hw];exact wo
theorem mh:aV ["_law_game_here","_law_text","_law_play","e","_law_other"] ["_law_game_here","_law_text"] (au (top 76)):=.mk
theorem LU (T:0|||0):(12<<<"_law_told") ["_law_game_here","_law_text"] (Ai K aF ah):=by
 have w6:=LN T;refine T.vZ.dE (λ_ _ _ _ _ _=>dQ λ_ _=>rfl) λf fd F=>F.d4 mh (λvs H Q E h=>?_) (λbR A outer s H vs Q E hr h=>?_)
 ·obtain⟨_,_,rfl,_⟩:=oo h;rfl
 ·symm;obtain⟨gv,tv,rfl,g,rg,gs,gm,ft,s0,oA,wo,ask,kE,kQ⟩:=oo h;nofun;have nd:=mh.nd;refine⟨_,(ag (Fx (i:=3) (j:=2) w6 (hr.mono ∅) rfl (aa (pv 0) (aa (pv 1) af)) rfl rfl rfl T.k_LuckError nd rfl rfl rfl rfl (λad=>(ag (aK (i:=4) (Ht (aY (gS (K:=K)) (by rfl) T.z_isinstance rfl (aa (pv 3) (aa (jf (v:=V.ref _) rfl T.k_NoStep rfl) af))) (Ht (aY (gS (K:=K)) (by rfl) T.z_isinstance rfl (aa (pv 3) (aa (jf (v:=V.ref _) rfl T.k_TooMany rfl) af))) (o5 (aY (gS (K:=K)) (by rfl) T.z_isinstance rfl (aa (pv 3) (aa (jf (v:=V.ref _) rfl T.k_NoGame rfl) af)))))))
  (aq (aQ (bH (aa (o8 (aY (gS (K:=K)) (by rfl) T.z_isinstance rfl (aa (pv 3) (aa (jf (v:=V.ref _) rfl T.k_NoPlay rfl) af))) (o8 (aY (gS (K:=K)) (by rfl) T.z_isinstance rfl (aa (pv 3) (aa (jg (v:=V.ty "ValueError") rfl T.z_ValueError rfl rfl) af))) (o5 (BL (pv 4))))) af)))))))
  (aq (aQ (pv 2)))),?_⟩
  have OT:=sizeLine_eq;dsimp?[HA,IQ];refine⟨g,rg,gs,gm,ft,s0,oA,wo,ask,λno ad0 H1 s1=>?_,kQ⟩;refine⟨T.e_NoPlay_LuckError,λad Kl=>?_⟩;refine aP (λN=>N [some gv,some tv,none,~~~ad,some (.bl false)] (upd H1 ad (JU ad (.ref aE)))) (λN hN=>?_) ?_
  ·dsimp?[];refine⟨_,ai,T.iT,_,rfl,false,T.n_NoPlay_NoStep,?_⟩;rw[if_neg ∅];refine⟨_,ai,T.iT,_,rfl,false,T.n_NoPlay_TooMany,?_⟩;rw[if_neg ∅];exact⟨_,ai,T.iT,_,rfl,false,T.n_NoPlay_NoGame,hN⟩
  dsimp?[];refine⟨_,ai,T.iT,_,rfl,true,T.i_NoPlay_NoPlay,?_⟩;rw[if_pos rfl];refine⟨_,ai,T.iT,_,rfl,true,T.i_NoPlay_ValueError,?_⟩;rw[if_pos rfl];exact⟨⋯,λp np=>kE no p _ (s1.trans ((aj Kl).trans (aj np))) ai⟩
theorem EE:aV ["_law_script","_law_game_here","_law_odd","_law_words_here","_law_text","_law_due","_law_found","_law_state","_law_got","_law_other","_law_some"] ["_law_script"] (au (top 77)):=.mk
theorem LV (T:0|||0) {f:Addr} {fd:FuncData} (F:xf K "law" "law" (top 77) f fd):fL P w K mg base (cu P w) 20 f fd ["_law_script"] (zP K):=by
 have b9:=oU T;have xb:=Ll T;have jd:=LU T;have uS:=LR T;have qy:=LS T;have j4:=LQ T;have rM:=Ly T;have eG:=yH T;have j5:=KO T;have rN:=KY T;have iz:=KZ T;have eV:=DU T;have kz:=DV T;have iy:=DX T;have ty:∀{H:Hp} {a dx:Addr} {fs:List (Str×V)},H a=some (.ins aF dx fs)->js K H (.ref a) (.ref aF):=λe=>.ins e T.a7 T.o_Play_cls OU OV T.o_Play_obj;refine F.d4 EE (λvs H Q E h=>?_) (λbR A outer s H vs Q E hr h=>?_)
 ·obtain⟨_,_,rfl,_⟩:=h;rfl
 ·symm;obtain⟨sc,Lm,rfl,hS,l63,kk⟩:=h;nofun;clear G_;have nd:=EE.nd;refine⟨_,(ag (aK (i:=1) (aN xb (aa (pv 0) (aa ae (aa (aJ aS ae (aJ dm (aN b9 (aa (pv 0) (aa ae af))) ae)) (aa ae af))))))
  (ag (b6 PassesOwn.never rfl (bh (K:=K) (bH (aa fi (aa ae (aa (bH af) (aa (a9 (aa aZ af)) af)))))) (a5 (i:=2) nd rfl (.inl rfl)) (aq (bc (aL (tQ hr.units) (aN jd (aa (pv 1) (aa (pv 2) af))) (bH (aa iA af)) (aR _)) (aq (aQ iA))
   aX)))
  (ag (aK (i:=3) (aN qy (aa (pv 0) (aa (aN uS (aa (pv 0) (aa (pv 1) af))) af))))
  (ag (aK (i:=4) (fe PySem.F.plainAttrs_str PySem.F.slot_str_join PySem.F.type_str_join (vG (K:=K)) aZ (aa (pv 3) af)))
  (ag (aK (i:=5) (aN j4 (aa (pv 1) (aa (pv 3) af))))
  (ag (bc (aL (Kd hr.JB) (pv 3) (bH (aa aZ af)) (aR _)) (aq (aK (i:=5) (aN j4 (aa (pv 1) (aa (bH af) af)))))
   aX)
  (ag (aK (i:=6) (aN jd (aa (pv 1) (aa (pv 4) af))))
  (ag (bc (aL sZ (pv 5) fi (aR _)) (aq (aQ (eX (CH hr.units) (pv 6) (bH (aa iA af)) (aR _))))
   aX)
  (ag (bc (iM (aY (gR (K:=K)) (by rfl) T.z_isinstance rfl (aa (pv 6) (aa (jg (v:=V.ty "list") rfl T.z_list rfl rfl) af)))) (aq (aQ iA))
   aX)
  (ag (xq (pv 5) (e8 (K:=K) (n:=2) rfl (bK (a5 (i:=7) nd rfl (.inl rfl)) (bK (a5 (i:=8) nd rfl (.inl rfl)) eW))))
  (ag (bc (PW.pt (pw_or (aL (tQ hr.units) (ik j5 T.a7 (pv 6)) (a9 (aa (av ao (pv 7) ae) (aa (av ao (pv 7) ae) af))) (aR _)) (pw_or1 (aL (tQ hr.units) (ik rN T.a7 (pv 6)) (aN rM (aa (pv 1) (aa (pv 7) (aa (pv 8) af)))) (aR _))))) (aq (aQ iA))
   aX)
  (ag (bc (PW.pt (pw_or (aL pe (ik iz T.a7 (pv 6)) (pv 4) (aR _)) (pw_or1 (aL (tQ hr.units) (ik eV T.a7 (pv 6)) (aN eG (aa (pv 1) (aa (pv 7) af))) (aR _))))) (aq (aQ iA))
   aX)
  (ag (aK (i:=9) (aN jd (aa (pv 1) (aa (ik iz T.a7 (pv 6)) af))))
  (ag (aK (i:=10) (aN eG (aa (pv 1) (aa (pv 7) af))))
  (ag (bc (PW.pt (pw_and (aL fB (aY bF (by rfl) T.z_len aaA (aa (pv 10) af)) ae (aR _)) (pw_and1 (iM (aY (gR (K:=K)) (by rfl) T.z_isinstance rfl (aa (av a6 (pv 10) ae) (aa (jg (v:=V.ty "str") rfl T.z_str rfl rfl) af))))))) (aq (bU (c4 kz T.a7 (pv 9) (aa (av a6 (pv 10) ae) af))))
   (aq (bc (aL fB (aY bF (by rfl) T.z_len aaA (aa (pv 10) af)) ae (aR _)) (aq (bU (c4 iy T.a7 (pv 9) (aa (av a6 (pv 10) ae) af))))
   aX)))
  (aq (aQ (o8 (eX bq (ik iz T.a7 (pv 6)) (pv 4) (aR _)) (o5 (eX (CH hr.units) (ik j5 T.a7 (pv 6)) (a9 (aa (av ao (pv 7) ae) (aa (av ao (pv 7) ae) af))) (aR _))))))))))))))))))))),?_⟩
  refine(?_:let bO:TS:=_;let bP:TS:=_;let bQ:TS:=_;let cO:TS:=_;let lH:TS:=_;let sI:TS:=_;let zS:TS:=_;let Eb:TS:=_;let Ec:TS:=_;let Ed:TS:=_;let qv:TS:=_;let Ej:TS:=_;let Ek:TS:=_;let O2:TS:=_;let O3:TS:=_;let O4:TS:=_;tSeq bO (tSeq bP (tSeq bQ (tSeq cO (tSeq lH (tSeq sI (tSeq zS (tSeq Eb (tSeq Ec (tSeq Ed (tSeq qv (tSeq Ej (tSeq Ek (tSeq O2 (tSeq O3 O4)))))))))))))) _ _ _);intro bO bP bQ cO lH sI zS Eb Ec Ed qv Ej Ek O2 O3 O4;have OT:=sizeLine_eq;refine aP (λN=>∀H1 gv g gs,aB H H1->Rep H1 (wj g) gv->DZ g gs->N [~~~sc,some gv,none,none,none,none,none,none,none,none,none] H1) (λN hN=>?_) ?_
  ·dsimp?[IA,GC];exact⟨Lm,hS,∅,∅,λn=>⟨∅,Lm,hS,∅,∅,⋯,⋯,∅,∅,λu H1 g gs s1 r1 g1=>hN _ u g gs s1 r1 g1⟩⟩
  rintro H1 gv g gs s1 rg gm;symm;obtain⟨ft,s0,oA⟩:=LA gm;nofun;clear G_;refine aP (λN=>∀H2 o,aB H1 H2->N [~~~sc,some gv,o,none,none,none,none,none,none,none,none] H2) (λN hN=>?_) ?_
  ·dsimp?[];refine⟨aas _,λp n1=>⟨⋯,λq Ha sa nq hq=>⟨⋯,λl nl=>⟨⟨_,bw.of ai⟩,?_⟩⟩⟩⟩;have sb:=(aj n1).trans (sa.trans (aj (o:=.lst [V.bZ,V.int 7,V.ref p,V.ref q]) nl));have hp:=aj (o:=.lst [V.bZ,V.int 7,V.ref p,V.ref q]) nl _ _ (sa _ _ ai);have hq:=aj (o:=.lst [V.bZ,V.int 7,V.ref p,V.ref q]) nl _ _ hq;have hl:=ai (H:=Ha) (a:=l) (o:=.lst [V.bZ,V.int 7,V.ref p,V.ref q]);generalize upd Ha l (.lst [V.bZ,V.int 7,V.ref p,V.ref q])=Hb at *;have odd:∀x∈[V.bZ,V.int 7,V.ref p,V.ref q],∀H',aB Hb H'->GX K H' x none:=λx hx H' s'=>by
    simp only[aaX,List.not_mem_nil,or_false] at hx;rcases hx with rfl | rfl | rfl | rfl
    ·exact⟨_,.bZ,kS⟩
    ·exact⟨_,.int _,kS⟩
    ·exact⟨_,.lst (s' _ _ hp),kS⟩
    ·exact⟨_,.tup (s' _ _ hq),kS⟩
   refine bN (src_list (Ok:=λH'=>aB Hb H') (λH' e=>bw.of (e _ _ hl))) (λi σ H'=>aB Hb H'/\∃o,σ=[~~~sc,some gv,o,none,none,none,none,none,none,none,none]) ⟨aB.refl _,_,rfl⟩ (λ_ _ _ _ h=>h.1) ?_ ?_
   ·intro i x σ H' nO hi fm fo;symm;obtain⟨sH,o,rfl⟩:=fm;obtain⟨rfl,ex⟩:=fo;nofun;refine uQ (aB Hb) (λH' s'=>?_) λN O5 Y=>?_
    ·dsimp?[];exact⟨s',_,rfl⟩
    dsimp?[Ai,AX];refine⟨g,rg.mono (sb.trans sH),gs,gm,ft,s0,oA,none,odd x (aay ex) _ sH,λ_ l' H5 s5 C4=>⟨⋯,λp' Rv=>⟨.lst [.bl true],lZ (aj Rv _ _ C4),lZ ai,⟨_,rfl⟩,∅,?_⟩⟩,λs ws e=>by cases e⟩;rw[if_neg ∅];exact O5 _ (sH.trans (s5.trans (aj Rv)))
   ·intro σ H' du;symm;obtain⟨sH,o,rfl⟩:=du;nofun;exact hN _ o (sb.trans sH)
  rintro H2 o s2;have Yu:=rg.mono s2;have Yv:=(s1.trans s2).seq hS;refine aP (λN=>∀H3 wl ws,aB H2 H3->H3 wl=some (.lst (List.map V.str ws))->ws.length<=60->(∀w∈ws,Wd 21 w)->N [~~~sc,some gv,o,~~~wl,none,none,none,none,none,none,none] H3) (λN hN=>?_) ?_
  ·dsimp?[IS,IT];exact⟨Lm,Yv,g,Yu,gs,gm,ft,s0,oA,λl H' ws s' hl IV wd=>⟨Lm,s'.seq Yv,ws,hl,IV,wd,λl' H3 Ew s3 C4 IU Va=>hN _ l' Ew (s'.trans s3) C4 IU Va⟩⟩
  rintro H3 wl ws s3 Fm IU wd;have Vb:=Yu.mono s3;have jok:JoinOk (aai " ") ws=true:=joinOk_of (B:=21) (λy hy=>(wd y hy).1.2) (by rw[show(aai " ").length=1 by ac_rfl];lia);refine aP (λN=>N [~~~sc,some gv,o,~~~wl,some (.str (Txt.join (aai " ") ws)),none,none,none,none,none,none] H3) (λN hN=>?_) ?_
  ·dsimp?[rJoin];exact⟨rfl,_,bw.of Fm,jok,hN⟩
  symm;obtain⟨us,ask,Vc⟩:=LI K H3 ws IU wd;nofun;clear G_;have tw:∀w∈ws,Tx 30 w:=λw hw=>((wd w hw).le ∅).1;have ez:Txt.join (aai " ") us=Txt.join (aai " ") ws:=by
   rcases Vc with ⟨e,_⟩ | ⟨e,e'⟩
   ·rw[e]
   ·rw[e,e',join_one];rfl
  generalize Txt.join (aai " ") ws=z at *;refine aP (λN=>∀H4 d,aB H3 H4->(us=ws->yK g gs s0 us H4 d)->N [~~~sc,some gv,o,~~~wl,some (.str z),some d,none,none,none,none,none] H4) (λN hN=>?_) ?_
  ·dsimp?[Eu];exact⟨g,Vb,gs,gm,ft,s0,oA,ws,Fm,IU,tw,λno H4 s4=>hN H4 _ s4 λe=>Ez (by rw[e];exact no),λs hw ok t sv pv H4 s4 ht mX Bq=>hN H4 _ s4 λe=>Aj (by rw[e];exact hw) ht mX Bq⟩
  rintro H4 d0 s4 Vd;refine aP (λN=>∀H5 d,aB H4 H5->yK g gs s0 us H5 d->N [~~~sc,some gv,o,~~~wl,some (.str z),some d,none,none,none,none,none] H5) (λN hN=>?_) ?_
  ·dsimp?[Nk,Eu];refine⟨⋯,λp np=>⟨_,aj np _ _ (s4 _ _ Fm),_,ai,G1 _,rfl,?_⟩⟩;rw[G3];rcases Vc with ⟨e,ne⟩ | ⟨e,eu⟩
   ·rw[decide_eq_false ne,if_neg ∅];exact hN _ d0 (aj np) ((Vd e).mono (aj np))
   ·rw[decide_eq_true e,if_pos rfl];refine⟨aas _,λp1 n1=>⟨g,Vb.mono (s4.trans ((aj np).trans (aj n1))),gs,gm,ft,s0,oA,[],ai,∅,(λw hw=>by cases hw),λno H' s'=>hN _ _ ((aj np).trans ((aj n1).trans s')) (Ez (by rw[eu];exact no)),λs hw ok t sv pv H' s' ht mX Bq=>hN _ _ ((aj np).trans ((aj n1).trans s')) (Aj (by rw[eu];exact hw) ht mX Bq)⟩⟩
  rintro H5 d s5 Yw;have R1:=Vb.mono (s4.trans s5);refine aP (λN=>(∀H6 l,c7 g s0 us=none->aB H5 H6->H6 l=some (.lst [.bl true])->N [~~~sc,some gv,o,~~~wl,some (.str z),some d,~~~l,none,none,none,none] H6)/\(∀H6 s p tl tb,c7 g s0 us=some s->ja g gs us s->aB H5 H6->H5 p=none->H5 tl=none->H5 tb=none->dz aF ah [p,tl,tb] H6 p tl tb g s.1 s.2.1 s.2.2->N [~~~sc,some gv,o,~~~wl,some (.str z),some d,~~~p,none,none,none,none] H6)) (λN hN=>?_) ?_
  ·dsimp?[Ai];exact⟨g,R1,gs,gm,ft,s0,oA,some us,ask,λno l H6 s6 hl=>hN.1 H6 l no s6 hl,λs us' eu hw ok p tl tb H6 s6 n1 n2 n3 pl=>by cases eu;exact hN.2 H6 s p tl tb hw ok s6 n1 n2 n3 pl⟩
  refine⟨λH6 l no s6 hl=>?_,λH6 s p tl tb hw ok s6 np xi kA R3=>?_⟩
  ·obtain rfl:=Yw.1 no;refine aP (λ_=>True) (λN _=>?_) trivial;dsimp?[];exact⟨⋯,λp np=>⟨.lst [.bl true],lZ (aj np _ _ hl),lZ ai,⟨_,rfl⟩,∅,kk _⟩⟩
  symm;obtain⟨dt,sv,pv,rfl,hdt,mX,Bq⟩:=Yw.2 s hw;obtain⟨sa,cl,rfl,gn,eN⟩:=id mX;obtain⟨x,lk,wx⟩:=ok.sk.at_;have RG:Iu x:=λc k a b e=>by rw[e] at wx;exact wx
  have ew:=Lz ok.sk wx;obtain⟨ds,od,d0'⟩:=Eo (st:=s.1) wx;have dep:depth (.lst ds)<=40:=by
   show 1+depth.dL ds<=40;have:=pL (ds:=ds) (n:=0) λd hd=>Nat.le_of_eq (d0' d hd);lia
  have ln:=ok.ln;have aah:us.length<=60:=by rcases Vc with ⟨e,_⟩ | ⟨_,e⟩ <;>rw[e];exact IU;exact aas _
  have LW:∀e∈s.2.2,e.1.length<=20:=λe he=>(ok.tw e he).2.1;have jz:DQ s.2.2=z:=by
   unfold DQ;rw[ok.wd];exact ez
  have yy:jB 500000 s.2.1:=ok.hf.le ⋯;have RW:∀{Ha Hb},aB H5 Ha->K3 p tl tb Ha Hb->aB H5 Hb:=λ{Ha Hb} sa k a o h=>k a o (λz=>by rw[z,np] at h;cases h) (λz=>by rw[z,xi] at h;cases h) (λz=>by rw[z,kA] at h;cases h) (sa _ _ h);obtain⟨dp,c,BB,ET,Tf,hpl,_⟩:=R3.ex;nofun;clear G_;refine aP (λN=>N [~~~sc,some gv,o,~~~wl,some (.str z),~~~dt,~~~p,none,none,none,none] H6) (λN hN=>?_) ?_
  ·refine cG (λY N k=>by dsimp?[];rw[if_neg (λh=>by cases h)];exact k) ?_;dsimp?[];exact hN
  refine aP (λN=>N [~~~sc,some gv,o,~~~wl,some (.str z),~~~dt,~~~p,none,none,none,none] H6) (λN hN=>?_) ?_
  ·refine cG (λY N k=>by
    dsimp?[];refine⟨_,ty hpl,false,T.n_Play_list,?_⟩;rw[if_neg ∅];exact k) ?_
   dsimp?[];exact hN
  refine aP (λN=>N [~~~sc,some gv,o,~~~wl,some (.str z),~~~dt,~~~p,~~~sa,some pv,none,none] H6) (λN hN=>?_) ?_
  ·dsimp?[];refine⟨dt,_,rfl,jD.of (s6 _ _ hdt),rfl,?_⟩;exact⟨_,_,rfl,_,_,rfl,rfl,hN⟩
  refine aP (λN=>∀H7,aB H6 H7->N [~~~sc,some gv,o,~~~wl,some (.str z),~~~dt,~~~p,~~~sa,some pv,none,none] H7) (λN hN=>?_) ?_
  ·refine uQ (aB H6) (λH' s'=>by dsimp?[];exact hN _ s') λN O5 Y=>?_;clear hN;dsimp?[bS,DK,Iv,IE,AX];refine⟨_,_,hpl,Ac,tl,tb,_,g,_,_,_,R3,λa l H1' Mv na nl ha hl=>⟨_,Mv _ _ (s6 _ _ gn),_,at0,_,Mv _ _ (s6 _ _ gn),_,at1,⋯,λq H2' u5 nq eq=>⟨G4 s.1,uP (u5 _ _ ha) (u5 _ _ hl),uP eq ((s6.trans (Mv.trans u5)) _ _ eN),⟨_,rfl⟩,EA,?_⟩⟩⟩;rw[if_neg ∅];have Mo:=Mv.trans u5;have v2:=s6.trans Mo;refine⟨_,_,Mo _ _ hpl,Ac,tl,tb,_,g,_,_,_,R3.same Mo,x,lk,RG,yy,ew,λu H3' IW ru=>⟨g,R1.mono (v2.trans IW),gm.good,s.1,mX.mono (v2.trans IW),ok.sk.len,s.2.1,x,lk,Bq.mono (v2.trans IW),yy,ew,λu1 H4' Yx ru1=>⟨_,ru.mono Yx,ru1,?_,?_,?_⟩⟩⟩
   ·symm;obtain⟨q',e,_⟩:=b7.mp ru;nofun;exact⟨q',e⟩
   ·rw[xZ];decide
   ·rw[if_neg ∅];exact O5 _ (Mo.trans (IW.trans Yx))
  rintro H7 s7;have Yy:=R3.same s7;have S7:=s6.trans s7;refine aP (λN=>∀H8,aB H5 H8->dz aF ah [p,tl,tb] H8 p tl tb g s.1 s.2.1 s.2.2->N [~~~sc,some gv,o,~~~wl,some (.str z),~~~dt,~~~p,~~~sa,some pv,none,none] H8) (λN hN=>?_) ?_
  ·refine uQ (λH'=>aB H5 H'/\dz aF ah [p,tl,tb] H' p tl tb g s.1 s.2.1 s.2.2) (λH' s'=>by dsimp?[];exact hN _ s'.1 s'.2) λN O5 Y=>?_;clear hN;dsimp?[bS,zX,zW,wQ,AX];refine⟨_,_,s7 _ _ hpl,Ac,tl,tb,_,g,_,_,_,Yy,⋯,LW,λHa Br=>?_⟩;rw[jz,if_neg (λh=>h rfl)];refine⟨_,_,(s7.trans Br) _ _ hpl,Ac,tl,tb,_,g,_,_,_,Yy.same Br,x,lk,ds,od,λa Hb k2 plb na ra=>?_⟩;have Sb:=RW (S7.trans Br) k2;refine⟨g,R1.mono Sb,gm.good,gs,s.1,mX.mono Sb,ok.sk.len,x,lk,wx,λb Hc es IW nb rb oe=>?_⟩;rw[<-wW od oe] at rb;refine⟨.lst ds,ra.mono IW,rb,⟨_,rfl⟩,dep,?_⟩;rw[if_neg ∅];exact O5 _ ⟨Sb.trans IW,plb.same IW⟩
  rintro H8 S8 Ve;symm;obtain⟨dp8,c8,sv8,pv8,xs8,LX,_⟩:=Ve.ex;nofun;have Yz:=R1.mono S8;refine aP (λN=>∀H9 p2 G6 G7,aB H8 H9->H8 p2=none->H8 G6=none->H8 G7=none->dz aF ah [p2,G6,G7] H9 p2 G6 G7 g s.1 s.2.1 s.2.2->N [~~~sc,some gv,o,~~~wl,some (.str z),~~~dt,~~~p,~~~sa,some pv,~~~p2,none] H9) (λN hN=>?_) ?_
  ·dsimp?[bS,zX,Ai];refine⟨_,_,LX,Ac,tl,tb,_,g,_,_,_,Ve,⋯,LW,λHa Br=>?_⟩;rw[jz];exact⟨g,Yz.mono Br,gs,gm,ft,s0,oA,some us,ask,λno=>(by rw[show(some us).bind (c7 g s0)=c7 g s0 us from rfl,hw] at no;cases no),λs' us' eu YA ok' p2 G6 G7 H9 s9 n1 n2 n3 pl=>by cases eu;rw[hw] at YA;cases YA;exact hN H9 p2 G6 G7 (Br.trans s9) (none_of Br n1) (none_of Br n2) (none_of Br n3) pl⟩
  rintro H9 p2 G6 G7 s9 OE Vf Vg pl9;refine aP (λN=>∀zQ so eU,aB H9 zQ->zQ so=some (.lst eU)->bg zQ ds eU->N [~~~sc,some gv,o,~~~wl,some (.str z),~~~dt,~~~p,~~~sa,some pv,~~~p2,~~~so] zQ) (λN hN=>?_) ?_
  ·dsimp?[wQ];refine⟨g,Yz.mono s9,gm.good,gs,s.1,mX.mono (S8.trans s9),ok.sk.len,x,lk,wx,λb zQ es qG nb rb oe=>?_⟩;rw[<-wW od oe] at rb;symm;obtain⟨so,eU,e0,qE,EW⟩:=ba.mp rb;nofun;cases e0;exact hN zQ b eU qG qE EW
  rintro zQ so eU qG qE EW;have LY:=pl9.same qG;refine aP (λN=>∀R5,K3 p2 G6 G7 zQ R5->N [~~~sc,some gv,o,~~~wl,some (.str z),~~~dt,~~~p,~~~sa,some pv,~~~p2,~~~so] R5) (λN hN=>?_) ?_
  ·cases eU with
   | nil=>
    refine cG (λY N k=>by dsimp?[qE];rw[if_neg ∅];exact k) ?_;refine cG (λY N k=>by dsimp?[qE];rw[if_neg ∅];exact k) ?_;dsimp?[];exact hN _ (.of (aB.refl _))
   | cons dv rest=>
    symm;obtain⟨d,ed,rd⟩:=EW.get (i:=0) rfl;obtain⟨w',py,cK,jj,Ae,oP,sw⟩:=uO gm ok.sk lk wx od (aay ed);obtain⟨dp9,c9,sv9,pv9,xs9,O6,_⟩:=LY.ex;nofun;have hlen:(0:Int)< ((rest.length+1:Nat):Int):=⋯
    rcases jj with ⟨sj,rs,r,dZ,IH,BE,rfl,rfl,e2,ak⟩ | ⟨ps,t',b,rs,r,v,dZ,gl,hv,v0,v1,rfl,rfl,rfl,ro,e2,ak⟩
    ·obtain rfl:=aT.mp rd;refine dJ (λY N k=>by
      dsimp?[qE];rw[if_pos hlen];refine⟨_,.str _,true,by rfl,?_⟩;rw[if_pos rfl];exact k) ?_
     dsimp?[bS,DS,qE];refine⟨_,_,O6,Ac,G6,G7,_,g,_,_,_,LY,⋯,_,dZ,yy,(λz=>by rw[BE] at z;cases z),λr' er=>?_⟩;rw[BE] at er;cases er;rw[e2] at ak;exact⟨3,cK.1,ak,λz=>absurd z ⋯,λ_ H1 k1 Bj=>hN H1 k1⟩
    ·obtain rfl:=bD.mp rd;refine cG (λY N k=>by
      dsimp?[qE];rw[if_pos hlen];refine⟨_,.int _,false,kS,?_⟩;rw[if_neg ∅];exact k) ?_
     refine dJ (λY N k=>by
      dsimp?[qE];rw[if_pos hlen];exact k) ?_
     dsimp?[bS,DW,qE];rw[e2] at ak;refine⟨_,_,O6,Ac,G6,G7,_,g,_,_,_,LY,⋯,_,dZ,λdi t b rs e=>?_,yy,λz=>absurd hv (z ps _ _ rs rfl),λIw t'' b'' GA e SH=>?_⟩
     ·injection e with e
      exact⟨ps,e.symm,gl⟩
     ·injection e with e1 IK e3 e4
      have e1:=gz e1;subst e1 IK e3 e4;exact⟨v0,v1,oP.le ∅,r,ro,3,cK.1,ak,λz=>absurd z ⋯,λ_ H1 k1 Bj=>hN H1 k1⟩
  rintro R5 k11;have R6:aB H8 R5:=λa o' h=>k11 a o' (λz=>by rw[z,OE] at h;cases h) (λz=>by rw[z,Vf] at h;cases h) (λz=>by rw[z,Vg] at h;cases h) (qG _ _ (s9 _ _ h));have O7:=Ve.same R6;dsimp?[bS,zX,DK,AX];refine⟨_,_,R6 _ _ LX,Ac,tl,tb,_,g,_,_,_,O7,⋯,LW,λHa Br=>?_⟩;rw[jz,if_pos rfl];refine⟨_,_,(R6.trans Br) _ _ LX,Ac,tl,tb,_,g,_,_,_,O7.same Br,λa l H1' Mv na nl ha hl=>?_⟩;have Sf:=S8.trans (R6.trans (Br.trans Mv));refine⟨_,Sf _ _ gn,_,at0,_,Sf _ _ gn,_,at1,⋯,λq H2' u5 nq eq=>⟨G4 s.1,uP (u5 _ _ ha) (u5 _ _ hl),uP eq ((Sf.trans u5) _ _ eN),⟨_,rfl⟩,EA,kk _⟩⟩
end
theorem all_mk {l:PySem.W.OpenLaw} {w:World} {K:abk} {h:Heap} {mg:Str->Option Value} {fa:Addr} (X:K.In h) (G:h.Ns mainGlobals mg) (hfa:mg "law"=some (.ref fa))
  {Vh:Addr} {Vi Vj:Option Addr} {Vk:Array (Option Value)} {Vl Vm Vn Vo O8 Vp:Value} {yM:Tok} {oB:Tok} {qz:Tok} {qA:Tok} {rO:Tok} {rP:Tok} {aw aG aH aA aM aI aE ah aF:Addr} {R7:Addr} {Vq Vr:Option Addr} {Vs:Array (Option Value)} {Vt Vu Vv Vw O9 Vx:Value} {R8:Addr} {Vy Vz:Option Addr} {VA:Array (Option Value)} {VB VC VD VE Pa VF:Value} {R9:Addr} {VG VH:Option Addr} {VI:Array (Option Value)} {VJ VL VM VN Pb VO:Value} {Sa:Addr} {VP VQ:Option Addr} {VR:Array (Option Value)} {VS VT VU VW Pc VX:Value} {Sd:Addr} {VY VZ:Option Addr} {V0:Array (Option Value)} {V1 V2 V3 V4 Pd V5:Value} {Se:Addr} {V6 V7:Option Addr} {V8:Array (Option Value)} {V9 Wa Wb Wc Pe We:Value} {Sg:Addr} {Wf Wg:Option Addr} {Wh:Array (Option Value)} {Wi Wj Wl Wm Pf Wn:Value} {Si:Addr} {Wo Wp:Option Addr} {Wr:Array (Option Value)} {Wu Wv Ww Wx Pg Wy:Value} {Sj:Addr} {Wz WA:Option Addr} {WB:Array (Option Value)} {WC WD WE WG Ph WH:Value} {Sk:Addr} {WI WJ:Option Addr} {WK:Array (Option Value)} {WL WM WN WQ Pj WR:Value} {G8:Addr} {Pk Pm:Option Addr} {Pn:Array (Option Value)} {Po Pp Pq Pu IX Pw:Value} {G9:Addr} {Px Py:Option Addr} {Pz:Array (Option Value)} {PB PD PF PJ IY PK:Value} {He:Addr} {PL PM:Option Addr} {PN:Array (Option Value)} {PQ PR PU PV IZ PX:Value} {Hg:Addr} {PY PZ:Option Addr} {P0:Array (Option Value)} {P1 P2 P4 P5 Ja P6:Value} {Hh:Addr} {P7 P8:Option Addr} {P9:Array (Option Value)} {Qa Qb Qc Qd Jb Qe:Value} {Hi:Addr} {Qf Qg:Option Addr} {Qh:Array (Option Value)} {Qi Qj Qk Ql Jc Qm:Value} {Hj:Addr} {Qn Qo:Option Addr} {Qp:Array (Option Value)} {Qq Qr Qs Qt Jd Qu:Value} {Hl:Addr} {Qv Qw:Option Addr} {Qx:Array (Option Value)} {Qy Qz QA QB Je QC:Value} {Hm:Addr} {QD QE:Option Addr} {QF:Array (Option Value)} {QG QH QI QJ Jf QK:Value} {Hn:Addr} {QL QM:Option Addr} {QN:Array (Option Value)} {QO QP QQ QR Jg QS:Value} {Ho:Addr} {QT QU:Option Addr} {QV:Array (Option Value)} {QW QX QY QZ Jh Q0:Value}
  (h0:eQ K "is_whole" "is_whole" (top 12))
  (h1:eQ K "common_divisor" "common_divisor" (top 13))
  (h2:eQ K "share" "share" (top 14))
  (h3:eQ K "plus" "plus" (top 15))
  (h4:eQ K "is_figures" "is_figures" (top 16))
  (h5:eQ K "whole_in" "whole_in" (top 17))
  (h6:eQ K "table_by_weights" "table_by_weights" (top 19))
  (h7:eQ K "table_of" "table_of" (top 20))
  (h8:eQ K "power" "power" (top 24))
  (h9:eQ K "most_faces" "most_faces" (top 25))
  (h10:eQ K "part_bottom" "part_bottom" (top 26))
  (h11:eQ K "part_count" "part_count" (top 27))
  (h12:eQ K "check_size" "check_size" (top 28))
  (h13:eQ K "dice_faces" "dice_faces" (top 29))
  (h14:eQ K "again_faces" "again_faces" (top 30))
  (h15:eQ K "burst_faces" "burst_faces" (top 31))
  (h16:eQ K "part_faces" "part_faces" (top 32))
  (h17:eQ K "value_of_pools" "value_of" (top 33))
  (h18:eQ K "sides_product" "sides_product" (top 35))
  (h19:eQ K "part_throws" "part_throws" (top 36))
  (h20:eQ K "throws_by_bottom" "throws_by_bottom" (top 37))
  (h21:eQ K "pool_table" "pool_table" (top 38))
  (h22:eQ K "own_rows" "own_rows" (top 40))
  (h23:eQ K "own_what" "own_what" (top 41))
  (h24:eQ K "value_of_plays" "value_of" (top 47))
  (h25:eQ K "take_step" "take_step" (top 49))
  (h26:eQ K "read_play" "read_play" (top 50))
  (h27:eQ K "_law_cell" "_law_cell" (top 52))
  (h28:eQ K "_law_mixed" "_law_mixed" (top 53))
  (h29:eQ K "_law_low" "_law_low" (top 54))
  (h30:eQ K "_law_plus" "_law_plus" (top 55))
  (h31:eQ K "_law_words" "_law_words" (top 57))
  (h32:eQ K "_law_deeds" "_law_deeds" (top 58))
  (h33:eQ K "_law_throw" "_law_throw" (top 59))
  (h34:eQ K "_law_pick" "_law_pick" (top 60))
  (h35:eQ K "_law_game" "_law_game" (top 61))
  (h36:eQ K "_law_values" "_law_values" (top 62))
  (h37:eQ K "_law_what" "_law_what" (top 63))
  (h38:eQ K "_law_number" "_law_number" (top 64))
  (h39:eQ K "_law_arrived" "_law_arrived" (top 65))
  (h40:eQ K "_law_done" "_law_done" (top 66))
  (h41:eQ K "_law_holds_when" "_law_holds_when" (top 67))
  (h42:eQ K "_law_open" "_law_open" (top 68))
  (h43:eQ K "_law_gone" "_law_gone" (top 69))
  (h44:eQ K "_law_paid" "_law_paid" (top 70))
  (h45:eQ K "_law_points" "_law_points" (top 71))
  (h46:eQ K "_law_value" "_law_value" (top 72))
  (h47:eQ K "_law_walked" "_law_walked" (top 73))
  (h48:eQ K "_law_steps" "_law_steps" (top 74))
  (h49:eQ K "_law_spoiled" "_law_spoiled" (top 75))
  (h50:eQ K "_law_told" "_law_told" (top 76))
  (a51:abo K mainGlobals "law"=some (some (.ref Vh))) (l51:K.lookup Vh=some ⟨Vl,Vi,.func (abn "law" "law" (bC (top 77)) (bu (top 77)) (au (top 77)) .none Vm Vn Vo Vj O8 Vp),Vk⟩) (e51:abm K O8 "law"=true) (k51:abl K (.ref Vh)=true)
  (z_ValueError:abo K mainGlobals "ValueError"=some none)
  (z_abs:abo K mainGlobals "abs"=some none)
  (z_all:abo K mainGlobals "all"=some none)
  (z_bool:abo K mainGlobals "bool"=some none)
  (z_enumerate:abo K mainGlobals "enumerate"=some none)
  (z_int:abo K mainGlobals "int"=some none)
  (z_isinstance:abo K mainGlobals "isinstance"=some none)
  (z_len:abo K mainGlobals "len"=some none)
  (z_list:abo K mainGlobals "list"=some none)
  (z_max:abo K mainGlobals "max"=some none)
  (z_min:abo K mainGlobals "min"=some none)
  (z_range:abo K mainGlobals "range"=some none)
  (z_sorted:abo K mainGlobals "sorted"=some none)
  (z_str:abo K mainGlobals "str"=some none)
  (z_sum:abo K mainGlobals "sum"=some none)
  (c_FIGURES:abo K mainGlobals "FIGURES"=some (some (.str "0123456789" yM)))
  (c_MOST_FIGURES:abo K mainGlobals "MOST_FIGURES"=some (some (.int 12 oB)))
  (c_MOST_THROWS:abo K mainGlobals "MOST_THROWS"=some (some (.int 1296 qz)))
  (c_MOST_BOTTOM:abo K mainGlobals "MOST_BOTTOM"=some (some (.int 1000000 qA)))
  (c_MOST_STEPS:abo K mainGlobals "MOST_STEPS"=some (some (.int 200 rO)))
  (c_MOST_VALUE:abo K mainGlobals "MOST_VALUE"=some (some (.int 999 rP)))
  (k_LuckError:abo K mainGlobals "LuckError"=some (some (.ref aw)))
  (k_NoShare:abo K mainGlobals "NoShare"=some (some (.ref aG)))
  (k_NoTable:abo K mainGlobals "NoTable"=some (some (.ref aH)))
  (k_TooMany:abo K mainGlobals "TooMany"=some (some (.ref aA)))
  (k_NoGame:abo K mainGlobals "NoGame"=some (some (.ref aM)))
  (k_NoStep:abo K mainGlobals "NoStep"=some (some (.ref aI)))
  (k_NoPlay:abo K mainGlobals "NoPlay"=some (some (.ref aE)))
  (k_Course:abo K mainGlobals "Course"=some (some (.ref ah)))
  (k_Play:abo K mainGlobals "Play"=some (some (.ref aF)))
  (x_NoShare:PySem.W.excIn K aG jv fC=true)
  (x_NoTable:PySem.W.excIn K aH jv fC=true)
  (x_TooMany:PySem.W.excIn K aA jv fC=true)
  (x_NoStep:PySem.W.excIn K aI jv fC=true)
  (x_NoPlay:PySem.W.excIn K aE jv fC=true)
  (y_NoPlaycls:(PySem.W.clsIn K aE).isSome=true)
  (y_NoPlayga:abp K (.ref aE) "__getattribute__"=some (some (.builtin "BaseException.__getattribute__")))
  (y_NoPlaygt:abp K (.ref aE) "__getattr__"=some none)
  (y_NoPlaycl:abp K (.ref aE) "__class__"=some (some (.builtin "object.__class__")))
  (y_NoPlaybe:PySem.W.mroIn K aE (.type "BaseException")=some true)
  (y_NoPlayob:PySem.W.mroIn K aE (.type "object")=some true)
  (e_NoPlay_LuckError:PySem.W.exmOne K (.ref aE) (.ref aw)=some true)
  (e_NoStep_NoStep:PySem.W.exmOne K (.ref aI) (.ref aI)=some true)
  (e_TooMany_TooMany:PySem.W.exmOne K (.ref aA) (.ref aA)=some true)
  (f_NoStep_TooMany:PySem.W.exmOne K (.ref aI) (.ref aA)=some false)
  (f_TooMany_NoStep:PySem.W.exmOne K (.ref aA) (.ref aI)=some false)
  (i_NoPlay_NoPlay:PySem.W.kitOne K (.ref aE) (.ref aE)=some true)
  (i_NoPlay_ValueError:PySem.W.kitOne K (.ref aE) (.type "ValueError")=some true)
  (n_NoPlay_NoGame:PySem.W.kitOne K (.ref aE) (.ref aM)=some false)
  (n_NoPlay_NoStep:PySem.W.kitOne K (.ref aE) (.ref aI)=some false)
  (n_NoPlay_TooMany:PySem.W.kitOne K (.ref aE) (.ref aA)=some false)
  (n_Play_list:PySem.W.kitOne K (.ref aF) (.type "list")=some false)
  (cl_Coursepg:PySem.W.plainGet K ah Str.empty=true)
  (cl_Coursehd:PySem.W.hasDictIn K ah=true)
  (cl_Coursepo:PySem.W.plainOver K ah=true)
  (cl_Coursesa:abp K (.ref ah) "__setattr__"=some (some (.builtin "object.__setattr__")))
  (cl_Playpg:PySem.W.plainGet K aF Str.empty=true)
  (cl_Playhd:PySem.W.hasDictIn K aF=true)
  (cl_Playpo:PySem.W.plainOver K aF=true)
  (cl_Playsa:abp K (.ref aF) "__setattr__"=some (some (.builtin "object.__setattr__")))
  (na_Course_first:abp K (.ref ah) "first"=some none)
  (na_Course_mosts:abp K (.ref ah) "mosts"=some none)
  (na_Course_spots:abp K (.ref ah) "spots"=some none)
  (na_Course_tables:abp K (.ref ah) "tables"=some none)
  (na_Course_whats:abp K (.ref ah) "whats"=some none)
  (na_Play_course:abp K (.ref aF) "course"=some none)
  (na_Play_paid:abp K (.ref aF) "paid"=some none)
  (na_Play_state:abp K (.ref aF) "state"=some none)
  (na_Play_trail:abp K (.ref aF) "trail"=some none)
  (o_Play_cls:abp K (.ref aF) "__class__"=some (some (.builtin "object.__class__")))
  (o_Play_obj:PySem.W.mroIn K aF (.type "object")=some true)
  (dia_Course:abp K (.ref ah) "__init__"=some (some (.ref R7)))
  (dii_Course:PySem.W.isFn K (.ref R7)=true)
  (dil_Course:K.lookup R7=some ⟨Vt,Vq,.func (abn "__init__" "Course.__init__" (bC (inClass (top 42) 0)) (bu (inClass (top 42) 0)) (au (inClass (top 42) 0)) .none Vu Vv Vw Vr O9 Vx),Vs⟩)
  (dic_Course:abm K O9 "Course.__init__"=true)
  (dik_Course:abl K (.ref R7)=true)
  (dim_Course:PySem.W.makesIn K ah=true)
  (diq_Course:abl K (.ref ah)=true)
  (dia_Play:abp K (.ref aF) "__init__"=some (some (.ref R8)))
  (dii_Play:PySem.W.isFn K (.ref R8)=true)
  (dil_Play:K.lookup R8=some ⟨VB,Vy,.func (abn "__init__" "Play.__init__" (bC (inClass (top 46) 0)) (bu (inClass (top 46) 0)) (au (inClass (top 46) 0)) .none VC VD VE Vz Pa VF),VA⟩)
  (dic_Play:abm K Pa "Play.__init__"=true)
  (dik_Play:abl K (.ref R8)=true)
  (dim_Play:PySem.W.makesIn K aF=true)
  (diq_Play:abl K (.ref aF)=true)
  (dma_Course_asked:abp K (.ref ah) "asked"=some (some (.ref R9)))
  (dmi_Course_asked:PySem.W.isFn K (.ref R9)=true)
  (dml_Course_asked:K.lookup R9=some ⟨VJ,VG,.func (abn "asked" "Course.asked" (bC (inClass (top 42) 3)) (bu (inClass (top 42) 3)) (au (inClass (top 42) 3)) .none VL VM VN VH Pb VO),VI⟩)
  (dmc_Course_asked:abm K Pb "Course.asked"=true)
  (dmk_Course_asked:abl K (.ref R9)=true)
  (dma_Course_by_row:abp K (.ref ah) "by_row"=some (some (.ref Sa)))
  (dmi_Course_by_row:PySem.W.isFn K (.ref Sa)=true)
  (dml_Course_by_row:K.lookup Sa=some ⟨VS,VP,.func (abn "by_row" "Course.by_row" (bC (inClass (top 42) 6)) (bu (inClass (top 42) 6)) (au (inClass (top 42) 6)) .none VT VU VW VQ Pc VX),VR⟩)
  (dmc_Course_by_row:abm K Pc "Course.by_row"=true)
  (dmk_Course_by_row:abl K (.ref Sa)=true)
  (dma_Course_by_value:abp K (.ref ah) "by_value"=some (some (.ref Sd)))
  (dmi_Course_by_value:PySem.W.isFn K (.ref Sd)=true)
  (dml_Course_by_value:K.lookup Sd=some ⟨V1,VY,.func (abn "by_value" "Course.by_value" (bC (inClass (top 42) 7)) (bu (inClass (top 42) 7)) (au (inClass (top 42) 7)) .none V2 V3 V4 VZ Pd V5),V0⟩)
  (dmc_Course_by_value:abm K Pd "Course.by_value"=true)
  (dmk_Course_by_value:abl K (.ref Sd)=true)
  (dma_Course_do:abp K (.ref ah) "do"=some (some (.ref Se)))
  (dmi_Course_do:PySem.W.isFn K (.ref Se)=true)
  (dml_Course_do:K.lookup Se=some ⟨V9,V6,.func (abn "do" "Course.do" (bC (inClass (top 42) 2)) (bu (inClass (top 42) 2)) (au (inClass (top 42) 2)) .none Wa Wb Wc V7 Pe We),V8⟩)
  (dmc_Course_do:abm K Pe "Course.do"=true)
  (dmk_Course_do:abl K (.ref Se)=true)
  (dma_Course_end_worth:abp K (.ref ah) "end_worth"=some (some (.ref Sg)))
  (dmi_Course_end_worth:PySem.W.isFn K (.ref Sg)=true)
  (dml_Course_end_worth:K.lookup Sg=some ⟨Wi,Wf,.func (abn "end_worth" "Course.end_worth" (bC (inClass (top 42) 12)) (bu (inClass (top 42) 12)) (au (inClass (top 42) 12)) .none Wj Wl Wm Wg Pf Wn),Wh⟩)
  (dmc_Course_end_worth:abm K Pf "Course.end_worth"=true)
  (dmk_Course_end_worth:abl K (.ref Sg)=true)
  (dma_Course_holds:abp K (.ref ah) "holds"=some (some (.ref Si)))
  (dmi_Course_holds:PySem.W.isFn K (.ref Si)=true)
  (dml_Course_holds:K.lookup Si=some ⟨Wu,Wo,.func (abn "holds" "Course.holds" (bC (inClass (top 42) 9)) (bu (inClass (top 42) 9)) (au (inClass (top 42) 9)) .none Wv Ww Wx Wp Pg Wy),Wr⟩)
  (dmc_Course_holds:abm K Pg "Course.holds"=true)
  (dmk_Course_holds:abl K (.ref Si)=true)
  (dma_Course_open_rows:abp K (.ref ah) "open_rows"=some (some (.ref Sj)))
  (dmi_Course_open_rows:PySem.W.isFn K (.ref Sj)=true)
  (dml_Course_open_rows:K.lookup Sj=some ⟨WC,Wz,.func (abn "open_rows" "Course.open_rows" (bC (inClass (top 42) 10)) (bu (inClass (top 42) 10)) (au (inClass (top 42) 10)) .none WD WE WG WA Ph WH),WB⟩)
  (dmc_Course_open_rows:abm K Ph "Course.open_rows"=true)
  (dmk_Course_open_rows:abl K (.ref Sj)=true)
  (dma_Course_put:abp K (.ref ah) "put"=some (some (.ref Sk)))
  (dmi_Course_put:PySem.W.isFn K (.ref Sk)=true)
  (dml_Course_put:K.lookup Sk=some ⟨WL,WI,.func (abn "put" "Course.put" (bC (inClass (top 42) 1)) (bu (inClass (top 42) 1)) (au (inClass (top 42) 1)) .none WM WN WQ WJ Pj WR),WK⟩)
  (dmc_Course_put:abm K Pj "Course.put"=true)
  (dmk_Course_put:abl K (.ref Sk)=true)
  (dma_Course_start:abp K (.ref ah) "start"=some (some (.ref G8)))
  (dmi_Course_start:PySem.W.isFn K (.ref G8)=true)
  (dml_Course_start:K.lookup G8=some ⟨Po,Pk,.func (abn "start" "Course.start" (bC (inClass (top 42) 4)) (bu (inClass (top 42) 4)) (au (inClass (top 42) 4)) .none Pp Pq Pu Pm IX Pw),Pn⟩)
  (dmc_Course_start:abm K IX "Course.start"=true)
  (dmk_Course_start:abl K (.ref G8)=true)
  (dma_Course_table_at:abp K (.ref ah) "table_at"=some (some (.ref G9)))
  (dmi_Course_table_at:PySem.W.isFn K (.ref G9)=true)
  (dml_Course_table_at:K.lookup G9=some ⟨PB,Px,.func (abn "table_at" "Course.table_at" (bC (inClass (top 42) 8)) (bu (inClass (top 42) 8)) (au (inClass (top 42) 8)) .none PD PF PJ Py IY PK),Pz⟩)
  (dmc_Course_table_at:abm K IY "Course.table_at"=true)
  (dmk_Course_table_at:abl K (.ref G9)=true)
  (dma_Course_what_at:abp K (.ref ah) "what_at"=some (some (.ref He)))
  (dmi_Course_what_at:PySem.W.isFn K (.ref He)=true)
  (dml_Course_what_at:K.lookup He=some ⟨PQ,PL,.func (abn "what_at" "Course.what_at" (bC (inClass (top 42) 5)) (bu (inClass (top 42) 5)) (au (inClass (top 42) 5)) .none PR PU PV PM IZ PX),PN⟩)
  (dmc_Course_what_at:abm K IZ "Course.what_at"=true)
  (dmk_Course_what_at:abl K (.ref He)=true)
  (dma_Course_words_at:abp K (.ref ah) "words_at"=some (some (.ref Hg)))
  (dmi_Course_words_at:PySem.W.isFn K (.ref Hg)=true)
  (dml_Course_words_at:K.lookup Hg=some ⟨P1,PY,.func (abn "words_at" "Course.words_at" (bC (inClass (top 42) 11)) (bu (inClass (top 42) 11)) (au (inClass (top 42) 11)) .none P2 P4 P5 PZ Ja P6),P0⟩)
  (dmc_Course_words_at:abm K Ja "Course.words_at"=true)
  (dmk_Course_words_at:abl K (.ref Hg)=true)
  (dma_Play_go:abp K (.ref aF) "go"=some (some (.ref Hh)))
  (dmi_Play_go:PySem.W.isFn K (.ref Hh)=true)
  (dml_Play_go:K.lookup Hh=some ⟨Qa,P7,.func (abn "go" "Play.go" (bC (inClass (top 46) 4)) (bu (inClass (top 46) 4)) (au (inClass (top 46) 4)) .none Qb Qc Qd P8 Jb Qe),P9⟩)
  (dmc_Play_go:abm K Jb "Play.go"=true)
  (dmk_Play_go:abl K (.ref Hh)=true)
  (dma_Play_open_ways:abp K (.ref aF) "open_ways"=some (some (.ref Hi)))
  (dmi_Play_open_ways:PySem.W.isFn K (.ref Hi)=true)
  (dml_Play_open_ways:K.lookup Hi=some ⟨Qi,Qf,.func (abn "open_ways" "Play.open_ways" (bC (inClass (top 46) 3)) (bu (inClass (top 46) 3)) (au (inClass (top 46) 3)) .none Qj Qk Ql Qg Jc Qm),Qh⟩)
  (dmc_Play_open_ways:abm K Jc "Play.open_ways"=true)
  (dmk_Play_open_ways:abl K (.ref Hi)=true)
  (dma_Play_points:abp K (.ref aF) "points"=some (some (.ref Hj)))
  (dmi_Play_points:PySem.W.isFn K (.ref Hj)=true)
  (dml_Play_points:K.lookup Hj=some ⟨Qq,Qn,.func (abn "points" "Play.points" (bC (inClass (top 46) 2)) (bu (inClass (top 46) 2)) (au (inClass (top 46) 2)) .none Qr Qs Qt Qo Jd Qu),Qp⟩)
  (dmc_Play_points:abm K Jd "Play.points"=true)
  (dmk_Play_points:abl K (.ref Hj)=true)
  (dma_Play_say:abp K (.ref aF) "say"=some (some (.ref Hl)))
  (dmi_Play_say:PySem.W.isFn K (.ref Hl)=true)
  (dml_Play_say:K.lookup Hl=some ⟨Qy,Qv,.func (abn "say" "Play.say" (bC (inClass (top 46) 5)) (bu (inClass (top 46) 5)) (au (inClass (top 46) 5)) .none Qz QA QB Qw Je QC),Qx⟩)
  (dmc_Play_say:abm K Je "Play.say"=true)
  (dmk_Play_say:abl K (.ref Hl)=true)
  (dma_Play_shown:abp K (.ref aF) "shown"=some (some (.ref Hm)))
  (dmi_Play_shown:PySem.W.isFn K (.ref Hm)=true)
  (dml_Play_shown:K.lookup Hm=some ⟨QG,QD,.func (abn "shown" "Play.shown" (bC (inClass (top 46) 8)) (bu (inClass (top 46) 8)) (au (inClass (top 46) 8)) .none QH QI QJ QE Jf QK),QF⟩)
  (dmc_Play_shown:abm K Jf "Play.shown"=true)
  (dmk_Play_shown:abl K (.ref Hm)=true)
  (dma_Play_stands:abp K (.ref aF) "stands"=some (some (.ref Hn)))
  (dmi_Play_stands:PySem.W.isFn K (.ref Hn)=true)
  (dml_Play_stands:K.lookup Hn=some ⟨QO,QL,.func (abn "stands" "Play.stands" (bC (inClass (top 46) 1)) (bu (inClass (top 46) 1)) (au (inClass (top 46) 1)) .none QP QQ QR QM Jg QS),QN⟩)
  (dmc_Play_stands:abm K Jg "Play.stands"=true)
  (dmk_Play_stands:abl K (.ref Hn)=true)
  (dma_Play_throw:abp K (.ref aF) "throw"=some (some (.ref Ho)))
  (dmi_Play_throw:PySem.W.isFn K (.ref Ho)=true)
  (dml_Play_throw:K.lookup Ho=some ⟨QW,QT,.func (abn "throw" "Play.throw" (bC (inClass (top 46) 6)) (bu (inClass (top 46) 6)) (au (inClass (top 46) 6)) .none QX QY QZ QU Jh Q0),QV⟩)
  (dmc_Play_throw:abm K Jh "Play.throw"=true)
  (dmk_Play_throw:abl K (.ref Ho)=true)
  :∃fd:FuncData,(∀(s:Shared) (v:Value),BindsTo s fd ⟨[v],[]⟩ [("_law_script",v)])/\∀base:Heap,K.In base->base.Ns mainGlobals mg->fL l.prog w K mg base (cu l.prog w) 30 fa fd ["_law_script"] (zP K):=by
 have e:=hfa.symm.trans (aaE X G a51);cases e;have T:Txt K mg aw aG aH aA aM aI aE ah aF:=⟨aaM X G z_ValueError,aaM X G z_abs,aaM X G z_all,aaM X G z_bool,aaM X G z_enumerate,aaM X G z_int,aaM X G z_isinstance,aaM X G z_len,aaM X G z_list,aaM X G z_max,aaM X G z_min,aaM X G z_range,aaM X G z_sorted,aaM X G z_str,aaM X G z_sum,h0.dn X G,h1.dn X G,h2.dn X G,h3.dn X G,h4.dn X G,h5.dn X G,h6.dn X G,h7.dn X G,h8.dn X G,h9.dn X G,h10.dn X G,h11.dn X G,h12.dn X G,h13.dn X G,h14.dn X G,h15.dn X G,h16.dn X G,h17.da X G,h18.dn X G,h19.dn X G,h20.dn X G,h21.dn X G,h22.dn X G,h23.dn X G,h24.da X G,h25.dn X G,h26.dn X G,h27.dn X G,h28.dn X G,h29.dn X G,h30.dn X G,h31.dn X G,h32.dn X G,h33.dn X G,h34.dn X G,h35.dn X G,h36.dn X G,h37.dn X G,h38.dn X G,h39.dn X G,h40.dn X G,h41.dn X G,h42.dn X G,h43.dn X G,h44.dn X G,h45.dn X G,h46.dn X G,h47.dn X G,h48.dn X G,h49.dn X G,h50.dn X G,⟨_,aaE X G c_FIGURES⟩,⟨_,aaE X G c_MOST_FIGURES⟩,⟨_,aaE X G c_MOST_THROWS⟩,⟨_,aaE X G c_MOST_BOTTOM⟩,⟨_,aaE X G c_MOST_STEPS⟩,⟨_,aaE X G c_MOST_VALUE⟩,aaE X G k_LuckError,aaE X G k_NoShare,aaE X G k_NoTable,aaE X G k_TooMany,aaE X G k_NoGame,aaE X G k_NoStep,aaE X G k_NoPlay,aaE X G k_Course,aaE X G k_Play,x_NoShare,x_NoTable,x_TooMany,x_NoStep,x_NoPlay,⟨y_NoPlaycls,y_NoPlayga,y_NoPlaygt,y_NoPlaycl,y_NoPlaybe,y_NoPlayob⟩,e_NoPlay_LuckError,e_NoStep_NoStep,e_TooMany_TooMany,f_NoStep_TooMany,f_TooMany_NoStep,i_NoPlay_NoPlay,i_NoPlay_ValueError,n_NoPlay_NoGame,n_NoPlay_NoStep,n_NoPlay_TooMany,n_Play_list,⟨cl_Coursepg,cl_Coursehd,cl_Coursepo,cl_Coursesa⟩,⟨cl_Playpg,cl_Playhd,cl_Playpo,cl_Playsa⟩,na_Course_first,na_Course_mosts,na_Course_spots,na_Course_tables,na_Course_whats,na_Play_course,na_Play_paid,na_Play_state,na_Play_trail,o_Play_cls,o_Play_obj,⟨_,_,cC dil_Course dic_Course dik_Course,⟨dim_Course,dia_Course,dii_Course,diq_Course⟩,aaE X G k_Course⟩,⟨_,_,cC dil_Play dic_Play dik_Play,⟨dim_Play,dia_Play,dii_Play,diq_Play⟩,aaE X G k_Play⟩,⟨_,_,cC dml_Course_asked dmc_Course_asked dmk_Course_asked,⟨dma_Course_asked,dmi_Course_asked,dmk_Course_asked⟩⟩,⟨_,_,cC dml_Course_by_row dmc_Course_by_row dmk_Course_by_row,⟨dma_Course_by_row,dmi_Course_by_row,dmk_Course_by_row⟩⟩,⟨_,_,cC dml_Course_by_value dmc_Course_by_value dmk_Course_by_value,⟨dma_Course_by_value,dmi_Course_by_value,dmk_Course_by_value⟩⟩,⟨_,_,cC dml_Course_do dmc_Course_do dmk_Course_do,⟨dma_Course_do,dmi_Course_do,dmk_Course_do⟩⟩,⟨_,_,cC dml_Course_end_worth dmc_Course_end_worth dmk_Course_end_worth,⟨dma_Course_end_worth,dmi_Course_end_worth,dmk_Course_end_worth⟩⟩,⟨_,_,cC dml_Course_holds dmc_Course_holds dmk_Course_holds,⟨dma_Course_holds,dmi_Course_holds,dmk_Course_holds⟩⟩,⟨_,_,cC dml_Course_open_rows dmc_Course_open_rows dmk_Course_open_rows,⟨dma_Course_open_rows,dmi_Course_open_rows,dmk_Course_open_rows⟩⟩,⟨_,_,cC dml_Course_put dmc_Course_put dmk_Course_put,⟨dma_Course_put,dmi_Course_put,dmk_Course_put⟩⟩,⟨_,_,cC dml_Course_start dmc_Course_start dmk_Course_start,⟨dma_Course_start,dmi_Course_start,dmk_Course_start⟩⟩,⟨_,_,cC dml_Course_table_at dmc_Course_table_at dmk_Course_table_at,⟨dma_Course_table_at,dmi_Course_table_at,dmk_Course_table_at⟩⟩,⟨_,_,cC dml_Course_what_at dmc_Course_what_at dmk_Course_what_at,⟨dma_Course_what_at,dmi_Course_what_at,dmk_Course_what_at⟩⟩,⟨_,_,cC dml_Course_words_at dmc_Course_words_at dmk_Course_words_at,⟨dma_Course_words_at,dmi_Course_words_at,dmk_Course_words_at⟩⟩,⟨_,_,cC dml_Play_go dmc_Play_go dmk_Play_go,⟨dma_Play_go,dmi_Play_go,dmk_Play_go⟩⟩,⟨_,_,cC dml_Play_open_ways dmc_Play_open_ways dmk_Play_open_ways,⟨dma_Play_open_ways,dmi_Play_open_ways,dmk_Play_open_ways⟩⟩,⟨_,_,cC dml_Play_points dmc_Play_points dmk_Play_points,⟨dma_Play_points,dmi_Play_points,dmk_Play_points⟩⟩,⟨_,_,cC dml_Play_say dmc_Play_say dmk_Play_say,⟨dma_Play_say,dmi_Play_say,dmk_Play_say⟩⟩,⟨_,_,cC dml_Play_shown dmc_Play_shown dmk_Play_shown,⟨dma_Play_shown,dmi_Play_shown,dmk_Play_shown⟩⟩,⟨_,_,cC dml_Play_stands dmc_Play_stands dmk_Play_stands,⟨dma_Play_stands,dmi_Play_stands,dmk_Play_stands⟩⟩,⟨_,_,cC dml_Play_throw dmc_Play_throw dmk_Play_throw,⟨dma_Play_throw,dmi_Play_throw,dmk_Play_throw⟩⟩⟩
 exact⟨_,λs v=>.of_eq rfl,λbase _ _=>(LV T (cC l51 e51 k51)).mono ∅⟩
theorem walk {l:PySem.W.OpenLaw} {q:Program} {loose:List Str} {XP:(Str->Option Value)->Heap->Prop} {YP:World->Heap->Prop} {d:DefRec} {K:Params->abk} (hn:l.most=some 63) (MX:d.params.defaults=[])
  (hY:∀(w:World) (h:Heap),YP w h->(K w.params).In h)
  (F:∀(w:World) (mg:Str->Option Value) (fa:Addr) (h:Heap),(K w.params).In h->h.Ns mainGlobals mg->mg d.name=some (.ref fa)->
   ∃fd:FuncData,(∀(s:Shared) (u:Value),BindsTo s fd ⟨[u],[]⟩ [("_law_script",u)])/\∀base:Heap,(K w.params).In base->base.Ns mainGlobals mg->fL l.prog w (K w.params) mg base (cu l.prog w) 30 fa fd ["_law_script"] (zP (K w.params))):
  PySem.W.WalkO q loose XP YP l.row.toRowW d [] (λf vs=>PySem.call f vs):=
 L2.Fn (n:=63) (k:=30) (x:="_law_script") (CX:=λw=>cu l.prog w) (sp:=λw=>zP (K w.params)) hn ∅ MX ⟨rfl,∅,∅⟩ hY F (λ_ _ a ns hl _ hS=>⟨a,ns,rfl,hS,hl,λ_=>rfl⟩) λ_ _ _ _ _ z=>(y9 _ _) _ _ _ _ _ z
end K81
open PySem PySem.W PyProof.Rows
set_option maxRecDepth 100000 in
set_option maxHeartbeats 0 in
theorem PySem.Challenge.cw_pressluck_k81_plays_written_holds : PySem.Challenge.rw_pressluck_k81_plays_written.Holds := by
  w_on; refine holds_law K81.MB fun MB => ?_
  refine holds_open (q := K81.vw) (loose := ["value_of_pools", "value_of_plays"]) (Xt := (fun s => xlAt K81.vw [] s && recOk (RowW.records (OpenRow.toRowW (PySem.W.OpenLaw.row PySem.Challenge.rw_pressluck_k81_plays_written))) s)) (XP := XL K81.vw []) (Yf := Hook.obs (kHook K81.pre.heap_1 K81.EF K81.EX)) (Ya := Hook.val (kHook K81.pre.heap_1 K81.EF K81.EX)) (YP := Hook.says (kHook K81.pre.heap_1 K81.EF K81.EX)) (N := 8706) (Hd.Am (by kernel_rfl) (by decide) (fun s => by kernel_rfl) K81.run) (Hook.of (kHook K81.pre.heap_1 K81.EF K81.EX)) (Hook.keeps (kHook K81.pre.heap_1 K81.EF K81.EX)) (fun s e => xl_of s (Bool.and_eq_true_iff.mp e).1) XL.keeps (by rfl) (by rfl) (by rfl) (fun s e => recFacts_of (Bool.and_eq_true_iff.mp e).2) (by rfl) (by first | assumption | decide +kernel) (by decide +kernel) ⟨rfl, rfl, rfl, rfl, rfl, by decide +kernel⟩ ?hw ?hc
  (case hw => w_witness2)
  k_fill
  refine K81.walk (l := PySem.Challenge.rw_pressluck_k81_plays_written) rfl rfl (fun w h Y => PySem.W.kIn_of Y) ?F
  case F =>
    intro w mg fa h KX G MY;refine' K81.all_mk KX G MY ?h0 ?h1 ?h2 ?h3 ?h4 ?h5 ?h6 ?h7 ?h8 ?h9 ?h10 ?h11 ?h12 ?h13 ?h14 ?h15 ?h16 ?h17 ?h18 ?h19 ?h20 ?h21 ?h22 ?h23 ?h24 ?h25 ?h26 ?h27 ?h28 ?h29 ?h30 ?h31 ?h32 ?h33 ?h34 ?h35 ?h36 ?h37 ?h38 ?h39 ?h40 ?h41 ?h42 ?h43 ?h44 ?h45 ?h46 ?h47 ?h48 ?h49 ?h50 ?a51 ?l51 ?e51 ?k51 ?z_ValueError ?z_abs ?z_all ?z_bool ?z_enumerate ?z_int ?z_isinstance ?z_len ?z_list ?z_max ?z_min ?z_range ?z_sorted ?z_str ?z_sum ?c_FIGURES ?c_MOST_FIGURES ?c_MOST_THROWS ?c_MOST_BOTTOM ?c_MOST_STEPS ?c_MOST_VALUE ?k_LuckError ?k_NoShare ?k_NoTable ?k_TooMany ?k_NoGame ?k_NoStep ?k_NoPlay ?k_Course ?k_Play ?x_NoShare ?x_NoTable ?x_TooMany ?x_NoStep ?x_NoPlay ?y_NoPlaycls ?y_NoPlayga ?y_NoPlaygt ?y_NoPlaycl ?y_NoPlaybe ?y_NoPlayob ?e_NoPlay_LuckError ?e_NoStep_NoStep ?e_TooMany_TooMany ?f_NoStep_TooMany ?f_TooMany_NoStep ?i_NoPlay_NoPlay ?i_NoPlay_ValueError ?n_NoPlay_NoGame ?n_NoPlay_NoStep ?n_NoPlay_TooMany ?n_Play_list ?cl_Coursepg ?cl_Coursehd ?cl_Coursepo ?cl_Coursesa ?cl_Playpg ?cl_Playhd ?cl_Playpo ?cl_Playsa ?na_Course_first ?na_Course_mosts ?na_Course_spots ?na_Course_tables ?na_Course_whats ?na_Play_course ?na_Play_paid ?na_Play_state ?na_Play_trail ?o_Play_cls ?o_Play_obj ?dia_Course ?dii_Course ?dil_Course ?dic_Course ?dik_Course ?dim_Course ?diq_Course ?dia_Play ?dii_Play ?dil_Play ?dic_Play ?dik_Play ?dim_Play ?diq_Play ?dma_Course_asked ?dmi_Course_asked ?dml_Course_asked ?dmc_Course_asked ?dmk_Course_asked ?dma_Course_by_row ?dmi_Course_by_row ?dml_Course_by_row ?dmc_Course_by_row ?dmk_Course_by_row ?dma_Course_by_value ?dmi_Course_by_value ?dml_Course_by_value ?dmc_Course_by_value ?dmk_Course_by_value ?dma_Course_do ?dmi_Course_do ?dml_Course_do ?dmc_Course_do ?dmk_Course_do ?dma_Course_end_worth ?dmi_Course_end_worth ?dml_Course_end_worth ?dmc_Course_end_worth ?dmk_Course_end_worth ?dma_Course_holds ?dmi_Course_holds ?dml_Course_holds ?dmc_Course_holds ?dmk_Course_holds ?dma_Course_open_rows ?dmi_Course_open_rows ?dml_Course_open_rows ?dmc_Course_open_rows ?dmk_Course_open_rows ?dma_Course_put ?dmi_Course_put ?dml_Course_put ?dmc_Course_put ?dmk_Course_put ?dma_Course_start ?dmi_Course_start ?dml_Course_start ?dmc_Course_start ?dmk_Course_start ?dma_Course_table_at ?dmi_Course_table_at ?dml_Course_table_at ?dmc_Course_table_at ?dmk_Course_table_at ?dma_Course_what_at ?dmi_Course_what_at ?dml_Course_what_at ?dmc_Course_what_at ?dmk_Course_what_at ?dma_Course_words_at ?dmi_Course_words_at ?dml_Course_words_at ?dmc_Course_words_at ?dmk_Course_words_at ?dma_Play_go ?dmi_Play_go ?dml_Play_go ?dmc_Play_go ?dmk_Play_go ?dma_Play_open_ways ?dmi_Play_open_ways ?dml_Play_open_ways ?dmc_Play_open_ways ?dmk_Play_open_ways ?dma_Play_points ?dmi_Play_points ?dml_Play_points ?dmc_Play_points ?dmk_Play_points ?dma_Play_say ?dmi_Play_say ?dml_Play_say ?dmc_Play_say ?dmk_Play_say ?dma_Play_shown ?dmi_Play_shown ?dml_Play_shown ?dmc_Play_shown ?dmk_Play_shown ?dma_Play_stands ?dmi_Play_stands ?dml_Play_stands ?dmc_Play_stands ?dmk_Play_stands ?dma_Play_throw ?dmi_Play_throw ?dml_Play_throw ?dmc_Play_throw ?dmk_Play_throw
    (case h0 | h1 | h2 | h3 | h4 | h5 | h6 | h7 | h8 | h9 | h10 | h11 | h12 | h13 | h14 | h15 | h16 | h17 | h18 | h19 | h20 | h21 | h22 | h23 | h24 | h25 | h26 | h27 | h28 | h29 | h30 | h31 | h32 | h33 | h34 | h35 | h36 | h37 | h38 | h39 | h40 | h41 | h42 | h43 | h44 | h45 | h46 | h47 | h48 | h49 | h50 => exact K81.ZS (by k_is) (by k_is) (by k_is) (by k_is))
    (case a51 | l51 | e51 | k51 | z_ValueError | z_abs | z_all | z_bool | z_enumerate | z_int | z_isinstance | z_len | z_list | z_max | z_min | z_range | z_sorted | z_str | z_sum | c_FIGURES | c_MOST_FIGURES | c_MOST_THROWS | c_MOST_BOTTOM | c_MOST_STEPS | c_MOST_VALUE | k_LuckError | k_NoShare | k_NoTable | k_TooMany | k_NoGame | k_NoStep | k_NoPlay | k_Course | k_Play => k_is)
    (case x_NoShare => first | k_is | kit_is | kernel_rfl)
    (case x_NoTable => first | k_is | kit_is | kernel_rfl)
    (case x_TooMany => first | k_is | kit_is | kernel_rfl)
    (case x_NoStep => first | k_is | kit_is | kernel_rfl)
    (case x_NoPlay => first | k_is | kit_is | kernel_rfl)
    (case y_NoPlaycls => first | k_is | kit_is | kernel_rfl)
    (case y_NoPlayga => first | k_is | kit_is | kernel_rfl)
    (case y_NoPlaygt => first | k_is | kit_is | kernel_rfl)
    (case y_NoPlaycl => first | k_is | kit_is | kernel_rfl)
    (case y_NoPlaybe => first | k_is | kit_is | kernel_rfl)
    (case y_NoPlayob => first | k_is | kit_is | kernel_rfl)
    (case e_NoPlay_LuckError => first | k_is | kit_is | kernel_rfl)
    (case e_NoStep_NoStep => first | k_is | kit_is | kernel_rfl)
    (case e_TooMany_TooMany => first | k_is | kit_is | kernel_rfl)
    (case f_NoStep_TooMany => first | k_is | kit_is | kernel_rfl)
    (case f_TooMany_NoStep => first | k_is | kit_is | kernel_rfl)
    (case i_NoPlay_NoPlay => first | k_is | kit_is | kernel_rfl)
    (case i_NoPlay_ValueError => first | k_is | kit_is | kernel_rfl)
    (case n_NoPlay_NoGame => first | k_is | kit_is | kernel_rfl)
    (case n_NoPlay_NoStep => first | k_is | kit_is | kernel_rfl)
    (case n_NoPlay_TooMany => first | k_is | kit_is | kernel_rfl)
    (case n_Play_list => first | k_is | kit_is | kernel_rfl)
    (case cl_Coursepg | cl_Coursehd | cl_Coursepo | cl_Coursesa | cl_Playpg | cl_Playhd | cl_Playpo | cl_Playsa | na_Course_first | na_Course_mosts | na_Course_spots | na_Course_tables | na_Course_whats | na_Play_course | na_Play_paid | na_Play_state | na_Play_trail => k_is)
    (case o_Play_cls => first | k_is | kit_is | kernel_rfl)
    (case o_Play_obj => first | k_is | kit_is | kernel_rfl)
    (case dia_Course | dii_Course | dil_Course | dic_Course | dik_Course | dim_Course | diq_Course | dia_Play | dii_Play | dil_Play | dic_Play | dik_Play | dim_Play | diq_Play | dma_Course_asked | dmi_Course_asked | dml_Course_asked | dmc_Course_asked | dmk_Course_asked | dma_Course_by_row | dmi_Course_by_row | dml_Course_by_row | dmc_Course_by_row | dmk_Course_by_row | dma_Course_by_value | dmi_Course_by_value | dml_Course_by_value | dmc_Course_by_value | dmk_Course_by_value | dma_Course_do | dmi_Course_do | dml_Course_do | dmc_Course_do | dmk_Course_do | dma_Course_end_worth | dmi_Course_end_worth | dml_Course_end_worth | dmc_Course_end_worth | dmk_Course_end_worth | dma_Course_holds | dmi_Course_holds | dml_Course_holds | dmc_Course_holds | dmk_Course_holds | dma_Course_open_rows | dmi_Course_open_rows | dml_Course_open_rows | dmc_Course_open_rows | dmk_Course_open_rows | dma_Course_put | dmi_Course_put | dml_Course_put | dmc_Course_put | dmk_Course_put | dma_Course_start | dmi_Course_start | dml_Course_start | dmc_Course_start | dmk_Course_start | dma_Course_table_at | dmi_Course_table_at | dml_Course_table_at | dmc_Course_table_at | dmk_Course_table_at | dma_Course_what_at | dmi_Course_what_at | dml_Course_what_at | dmc_Course_what_at | dmk_Course_what_at | dma_Course_words_at | dmi_Course_words_at | dml_Course_words_at | dmc_Course_words_at | dmk_Course_words_at | dma_Play_go | dmi_Play_go | dml_Play_go | dmc_Play_go | dmk_Play_go | dma_Play_open_ways | dmi_Play_open_ways | dml_Play_open_ways | dmc_Play_open_ways | dmk_Play_open_ways | dma_Play_points | dmi_Play_points | dml_Play_points | dmc_Play_points | dmk_Play_points | dma_Play_say | dmi_Play_say | dml_Play_say | dmc_Play_say | dmk_Play_say | dma_Play_shown | dmi_Play_shown | dml_Play_shown | dmc_Play_shown | dmk_Play_shown | dma_Play_stands | dmi_Play_stands | dml_Play_stands | dmc_Play_stands | dmk_Play_stands | dma_Play_throw | dmi_Play_throw | dml_Play_throw | dmc_Play_throw | dmk_Play_throw => k_is)
